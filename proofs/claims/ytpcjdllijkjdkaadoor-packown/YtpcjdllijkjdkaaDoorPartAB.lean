/- Contracts and laws: View, RefA, RefB, RefC. -/
import Derived.Test.YtpcjdllijkjdkaaDoorRows
import Derived.Test.YtpcjdllijkjdkaaDoorPartAA
import Derived.WalkKit
import Derived.WalkSpells
import Derived.WalkLawsBesides
import Derived.Deep.RegionLaw
import Derived.Deep.QuietTactic
import Derived.BigQuiet
import Derived.OpenShut
/- How a slice's value reads as a list of digits, over any program: 'Rd'. -/
set_option linter.unusedVariables false
set_option linter.unusedSimpArgs false
set_option maxRecDepth 8000
namespace Go.Proofs.YtpcjdllijkjdkaaDoor
open Go.RowKit

theorem ret_int {k : IntKind} {a b : Int} (h : a = b) : Ending.returned (.int k a) = .returned (.int k b) := by rw [h]
theorem ret_bool {a b : Bool} (h : a = b) : Ending.returned (.bool a) = .returned (.bool b) := by rw [h]

theorem hide {p : Prop} (h : p) : Hid p := h
theorem unhide {p : Prop} (h : Hid p) : p := h

def mk64 (d : Nat) : Value := .int .u64 d
/-- The slice value v reads, in the world w, as the digits l. -/
def Rd (mk : Nat → Value) (w : World) (v : Value) (l : List Nat) : Prop :=
  ∃ ao cap, v = .slice ao l.length cap ∧ l.length ≤ cap ∧ cap ≤ maxLen ∧
    (l.length = 0 ∨ ∃ b off, ao = some ⟨b, off, none⟩ ∧ b < w.heap.size ∧ ∀ i, i < l.length → w.cell? ⟨b, off + i, none⟩ = some (mk (Plain.dg l i)))

theorem Rd.below {mk : Nat → Value} {w w' : World} {v : Value} {l : List Nat} (h : Rd mk w v l) (hb : Below w.heap.size w w') : Rd mk w' v l := by
  obtain ⟨ao, cap, rfl, hc, hm, h⟩ := h
  refine ⟨ao, cap, rfl, hc, hm, ?_⟩
  rcases h with h | ⟨b, off, rfl, hlt, hcell⟩
  · exact .inl h
  · refine .inr ⟨b, off, rfl, Nat.lt_of_lt_of_le hlt hb.size, fun i hi => ?_⟩
    rw [hb.cell (p := ⟨b, off + i, none⟩) hlt]
    exact hcell i hi

theorem Rd.drew {mk : Nat → Value} {w : World} {v : Value} {l : List Nat} (h : Rd mk w v l) : Rd mk w.drew v l := h
theorem Rd.drewN {mk : Nat → Value} {w : World} {v : Value} {l : List Nat} (h : Rd mk w v l) (q : Nat) : Rd mk (w.drewN q) v l := h

theorem below_trans {a b c : World} (h : Below a.heap.size a b) (k : Below b.heap.size b c) : Below a.heap.size a c :=
  h.trans (k.mono h.size)

theorem Rd.nil (mk : Nat → Value) (w : World) : Rd mk w (.slice none 0 0) [] := ⟨none, 0, rfl, Nat.le_refl _, by simp [maxLen], .inl rfl⟩

/-- A slice cut at its end. -/
theorem Rd.take {mk : Nat → Value} {w : World} {ao : Option Addr} {cap : Nat} {l : List Nat} (h : Rd mk w (.slice ao l.length cap) l) (n : Nat) (hn : n ≤ l.length) : Rd mk w (.slice ao n cap) (l.take n) := by
  obtain ⟨ao', cap', he, hc, hm, h⟩ := h
  simp only [Value.slice.injEq, true_and] at he
  obtain ⟨rfl, rfl⟩ := he
  have hl : (l.take n).length = n := by simp; omega
  refine ⟨ao, cap, by rw [hl], by omega, hm, ?_⟩
  rw [hl]
  rcases h with h | ⟨b, off, rfl, hlt, hcell⟩
  · exact .inl (by omega)
  · refine .inr ⟨b, off, rfl, hlt, fun i hi => ?_⟩
    rw [hcell i (by omega)]
    rw [Plain.getD_take, if_pos hi]

theorem below_drewN' {B : Nat} {a w : World} (h : Below B a w) (n : Nat) : Below B a (w.drewN n) := h.trans ⟨rfl, rfl, rfl, Nat.le_refl _, fun _ _ => rfl⟩
theorem u64_nat {a : Int} (h : (Lit.int .u64 a).wf = true) : ∃ x : Nat, a = (x : Int) ∧ x < 18446744073709551616 := by
  simp only [Lit.wf, Bool.and_eq_true, decide_eq_true_eq] at h
  have hmin : IntKind.u64.min = 0 := rfl
  have hmax : IntKind.u64.max = 18446744073709551615 := rfl
  exact ⟨a.toNat, by omega, by omega⟩

/-- A slice literal. -/
theorem Rd.lit {mk : Nat → Value} (w : World) (e : TypeId) (xs : List Value) (ds : List Nat) (h : xs = ds.map mk) (c : Nat) (hc : ds.length ≤ c) (hm : c ≤ 1000) :
    Rd mk (w.alloc (.cells xs.toArray e)) (.slice (some ⟨w.heap.size, 0, none⟩) ds.length c) ds := by
  refine ⟨_, c, rfl, hc, by unfold maxLen; omega, .inr ⟨w.heap.size, 0, rfl, by simp, fun i hi => ?_⟩⟩
  rw [cell_of_row _ w.heap.size (0 + i) xs.toArray e (0, 0) (heap_alloc_new w _), h]
  simp [Plain.dg, hi]

/-- A store into the call's own row. -/
theorem owns_store {w : World} {base g n : Nat} {e : TypeId} {cap : Nat} {mk : Nat → Value} {l : List Nat} (h : w.ownsRow base e 1 (.slice (some ⟨g, 0, none⟩) n cap) n (l.map mk)) (j d : Nat) {w0 : World} (hb : Below base w0 w) (hg : base ≤ g) :
    (w.setCell ⟨g, j, none⟩ (mk d)).ownsRow base e 1 (.slice (some ⟨g, 0, none⟩) n cap) n ((l.set j d).map mk) ∧ Below base w0 (w.setCell ⟨g, j, none⟩ (mk d)) := by
  have h2 := (h.stored j (mk d)).1
  rw [← List.map_set] at h2
  exact ⟨h2, hb.setCell hg _⟩

theorem owns_cell {w : World} {base g n : Nat} {e : TypeId} {cap : Nat} {mk : Nat → Value} {l : List Nat} (h : w.ownsRow base e 1 (.slice (some ⟨g, 0, none⟩) n cap) n (l.map mk)) (hl : l.length = n) (j : Nat) (hj : j < n) :
    w.cell? ⟨g, j, none⟩ = some (mk (Plain.dg l j)) := by
  rw [h.cellAt j (by omega)]
  simp [Plain.dg, hl, hj]

/-- A slice cut at its head. -/
theorem Rd.drop {mk : Nat → Value} {w : World} {b off cap : Nat} {l : List Nat} (h : Rd mk w (.slice (some ⟨b, off, none⟩) l.length cap) l) (n : Nat) (hn : n < l.length) : Rd mk w (.slice (some ⟨b, off + n, none⟩) (l.length - n) (cap - n)) (l.drop n) := by
  obtain ⟨ao', cap', he, hc, hm, h⟩ := h
  simp only [Value.slice.injEq, true_and] at he
  obtain ⟨rfl, rfl⟩ := he
  have hl : (l.drop n).length = l.length - n := by simp
  refine ⟨_, cap - n, by rw [hl], by omega, by unfold maxLen at hm ⊢; omega, ?_⟩
  rw [hl]
  rcases h with h | ⟨b', off', he, hlt, hcell⟩
  · omega
  · simp only [Option.some.injEq, Addr.mk.injEq, and_true] at he
    obtain ⟨rfl, rfl⟩ := he
    refine .inr ⟨b, off + n, rfl, hlt, fun i hi => ?_⟩
    rw [show off + n + i = off + (n + i) by omega, hcell (n + i) (by omega)]
    congr 2
    simp [Plain.dg]

theorem grownBy_trans {a b c : World} {row : Option Nat} (h : a.grownBy b row) (k : b.grownBy c row) : a.grownBy c row :=
  ⟨k.os.trans h.os, k.tape.trans h.tape, k.output.trans h.output, Nat.le_trans h.size k.size, fun i hi hr => (k.block i (Nat.lt_of_lt_of_le hi h.size) hr).trans (h.block i hi hr)⟩
theorem grownBy_refl (a : World) (row : Option Nat) : a.grownBy a row := ⟨rfl, rfl, rfl, Nat.le_refl _, fun _ _ _ => rfl⟩
theorem grownBy_of_below {a b : World} (h : Below a.heap.size a b) (row : Option Nat) : a.grownBy b row := ⟨h.os, h.tape, h.output, h.size, fun i hi _ => h.block i hi⟩
theorem grownBy_then {a b c : World} {row : Option Nat} {B : Nat} (h : a.grownBy b row) (hB : a.heap.size ≤ B) (k : Below B b c) : a.grownBy c row :=
  ⟨k.os.trans h.os, k.tape.trans h.tape, k.output.trans h.output, Nat.le_trans h.size k.size, fun i hi hr => (k.block i (by omega)).trans (h.block i hi hr)⟩
end Go.Proofs.YtpcjdllijkjdkaaDoor

/- Contracts of radicandref01: digit, trim. -/
set_option linter.unusedVariables false
set_option linter.unusedSimpArgs false
set_option maxRecDepth 8000
namespace Go.Proofs.YtpcjdllijkjdkaaDoor
open Go.RowKit

end Go.Proofs.YtpcjdllijkjdkaaDoor

/- Contracts of radicandref01: Add. -/
set_option linter.unusedVariables false
set_option linter.unusedSimpArgs false
set_option maxRecDepth 8000
namespace Go.Proofs.YtpcjdllijkjdkaaDoor
open Go.RowKit

end Go.Proofs.YtpcjdllijkjdkaaDoor

/- Contracts of radicandref01: Mul. -/
set_option linter.unusedVariables false
set_option linter.unusedSimpArgs false
set_option maxRecDepth 8000
namespace Go.Proofs.YtpcjdllijkjdkaaDoor
open Go.RowKit Plain

end Go.Proofs.YtpcjdllijkjdkaaDoor

