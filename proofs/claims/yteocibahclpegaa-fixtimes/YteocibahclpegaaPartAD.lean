/- Contracts and laws: View, RefA, RefB, RefC. -/
import Derived.Test.YteocibahclpegaaRows
import Derived.Test.YteocibahclpegaaPartAA
import Derived.WalkKit
import Derived.WalkSpells
import Derived.WalkLawsBesides
import Derived.Deep.RegionLaw
import Derived.Deep.QuietTactic
import Derived.BigQuiet
import Derived.OpenShut
/- How a slice's value reads as a list of digits, over any program: 'Rd'. -/
set_option linter.unusedVariables false
set_option linter.unusedSimpArgs false
set_option maxRecDepth 8000
namespace Go.Proofs.Yteocibahclpegaa
open Go.RowKit

theorem ret_int {k : IntKind} {a b : Int} (h : a = b) : Ending.returned (.int k a) = .returned (.int k b) := by rw [h]
theorem ret_bool {a b : Bool} (h : a = b) : Ending.returned (.bool a) = .returned (.bool b) := by rw [h]

theorem hide {p : Prop} (h : p) : Hid p := h
theorem unhide {p : Prop} (h : Hid p) : p := h

def mk32 (d : Nat) : Value := .int .u32 d
def mk64 (d : Nat) : Value := .int .u64 d
/-- The slice value v reads, in the world w, as the digits l. -/
def Rd (mk : Nat → Value) (w : World) (v : Value) (l : List Nat) : Prop :=
  ∃ ao cap, v = .slice ao l.length cap ∧ l.length ≤ cap ∧ cap ≤ maxLen ∧
    (l.length = 0 ∨ ∃ b off, ao = some ⟨b, off, none⟩ ∧ b < w.heap.size ∧ ∀ i, i < l.length → w.cell? ⟨b, off + i, none⟩ = some (mk (Plain.dg l i)))

theorem Rd.below {mk : Nat → Value} {w w' : World} {v : Value} {l : List Nat} (h : Rd mk w v l) (hb : Below w.heap.size w w') : Rd mk w' v l := by
  obtain ⟨ao, cap, rfl, hc, hm, h⟩ := h
  refine ⟨ao, cap, rfl, hc, hm, ?_⟩
  rcases h with h | ⟨b, off, rfl, hlt, hcell⟩
  · exact .inl h
  · refine .inr ⟨b, off, rfl, Nat.lt_of_lt_of_le hlt hb.size, fun i hi => ?_⟩
    rw [hb.cell (p := ⟨b, off + i, none⟩) hlt]
    exact hcell i hi

theorem Rd.drew {mk : Nat → Value} {w : World} {v : Value} {l : List Nat} (h : Rd mk w v l) : Rd mk w.drew v l := h
theorem Rd.drewN {mk : Nat → Value} {w : World} {v : Value} {l : List Nat} (h : Rd mk w v l) (q : Nat) : Rd mk (w.drewN q) v l := h

theorem below_trans {a b c : World} (h : Below a.heap.size a b) (k : Below b.heap.size b c) : Below a.heap.size a c :=
  h.trans (k.mono h.size)

theorem Rd.nil (mk : Nat → Value) (w : World) : Rd mk w (.slice none 0 0) [] := ⟨none, 0, rfl, Nat.le_refl _, by simp [maxLen], .inl rfl⟩

/-- What the call owns reads as what it holds. -/
theorem Rd.of_owns {mk : Nat → Value} {w : World} {base : Nat} {e : TypeId} {v : Value} {l : List Nat} (h : w.ownsRow base e 1 v l.length (l.map mk)) : Rd mk w v l := by
  rcases h.2 with ⟨rfl, h0⟩ | ⟨g, cap, cur, rfl, hb, hg, hn, hm, hs, ht⟩
  · cases l with
    | nil => exact Rd.nil mk w
    | cons a l => simp at h0
  · refine ⟨_, cap, rfl, hn, hm, .inr ⟨g, 0, rfl, (Array.getElem?_eq_some_iff.1 hg).1, fun i hi => ?_⟩⟩
    have hc := h.cells (g := g) rfl i (mk (Plain.dg l i)) (by simp [hi, Plain.dg])
    have hadd : (⟨g, 0, none⟩ : Addr).add i = ⟨g, 0 + i, none⟩ := by unfold Addr.add; split <;> simp_all
    rw [hadd] at hc
    exact hc

/-- A slice cut at its end. -/
theorem Rd.take {mk : Nat → Value} {w : World} {ao : Option Addr} {cap : Nat} {l : List Nat} (h : Rd mk w (.slice ao l.length cap) l) (n : Nat) (hn : n ≤ l.length) : Rd mk w (.slice ao n cap) (l.take n) := by
  obtain ⟨ao', cap', he, hc, hm, h⟩ := h
  simp only [Value.slice.injEq, true_and] at he
  obtain ⟨rfl, rfl⟩ := he
  have hl : (l.take n).length = n := by simp; omega
  refine ⟨ao, cap, by rw [hl], by omega, hm, ?_⟩
  rw [hl]
  rcases h with h | ⟨b, off, rfl, hlt, hcell⟩
  · exact .inl (by omega)
  · refine .inr ⟨b, off, rfl, hlt, fun i hi => ?_⟩
    rw [hcell i (by omega)]
    rw [Plain.getD_take, if_pos hi]

theorem ownsRow_drew {w : World} {base : Nat} {e : TypeId} {size : Nat} {v : Value} {n : Nat} {xs : List Value} (h : w.ownsRow base e size v n xs) : w.drew.ownsRow base e size v n xs := h

/-- 'out = append(out, x)', out the call's own: one digit more. -/
theorem wpList_app1 {P : Program} {ops : Array Oper} {rest : List Oper} {o : Oper} {a : Act} {Q : Exit → Act → World → Prop} (w0 wr : World) (hgd : o.guard = none) (s x : Operand) (t : TypeId)
    (ho : o.op = .call { callee := .builtin .append, args := #[s, x], argTypes := #[t, t] })
    (base : Nat) (e : TypeId) (i : TypeInfo) (z : Value) (bytes : Nat) (ht : P.underlying t = some (.slice e)) (hi : P.info? e = some i) (hz : i.zero = some z)
    (hsize : i.size = 1) (hby : i.bytes = bytes) (hzs : z.cells.size = 1)
    (mk : Nat → Value) (v : Value) (n : Nat) (l : List Nat) (hs : a.eval s = v) (hown : wr.ownsRow base e 1 v n (l.map mk)) (hbel : Below base w0 wr)
    (y : Value) (d : Nat) (hy : y = mk d) (h1 : y.oneCell' = true) (hx : a.eval x = .slice (some ⟨wr.heap.size, 0, none⟩) 1 1)
    (h63 : n + 1 ≤ 9223372036854775807) (hbytes : (n + 1) * bytes ≤ 140737488355328) (hbase : base ≤ wr.heap.size)
    (h : ∀ v' w', w'.ownsRow base e 1 v' (n + 1) ((l ++ [d]).map mk) → Below base w0 w' → wpList P ops Q rest (a.put o.dst v') w') :
    wpList P ops Q (o :: rest) a (wr.alloc (.cells #[y] e)) := by
  refine wpList_append_own _ hgd s x t ho base e i z 1 bytes ht hi hz hsize hby hzs (by decide) v n (l.map mk) hs (hown.alloc _) ⟨wr.heap.size, 0, none⟩ 1 1 [y] hx rfl ?_ ?_ (by unfold maxLen; omega) hbytes (by simp; omega) ?_
  · intro j u hj
    match j, hj with
    | 0, hj => simp at hj; subst hj; simp [Addr.add]
  · intro u hu; simp at hu; subst hu; exact h1
  · intro v' w' ho' hg _
    refine h v' w' (by rw [List.map_append, List.map_singleton, ← hy]; exact ho') ?_
    refine (hbel.alloc hbase _).grown hg (by simp; omega) ?_
    intro k hk
    exact (hown.lt k hk).1

/-- 'out = append(out, x, y ..)', out the call's own, as one step of a region that draws its order. -/
theorem step_app {P : Program} {ops : Array Oper} {o : Oper} {a : Act} {K : Act → World → Prop} {Q : Exit → Act → World → Prop} {E : Prop} (w0 wr : World)
    (hg : o.guard = none) (s x : Operand) (t : TypeId) (hop : o.op = Op.call { callee := Callee.builtin Builtin.append, args := #[s, x], argTypes := #[t, t] })
    (base : Nat) (e : TypeId) (i : TypeInfo) (z : Value) (bytes : Nat) (ht : P.underlying t = some (.slice e)) (hi : P.info? e = some i) (hz : i.zero = some z)
    (hsize : i.size = 1) (hby : i.bytes = bytes) (hzs : z.cells.size = 1)
    (mk : Nat → Value) (v : Value) (n : Nat) (l : List Nat) (hs : a.eval s = v) (hown : wr.ownsRow base e 1 v n (l.map mk)) (hbel : Below base w0 wr)
    (ys : List Value) (ds : List Nat) (hy : ys = ds.map mk) (hmk : ∀ d, (mk d).oneCell' = true) (c : Nat) (hx : a.eval x = .slice (some ⟨wr.heap.size, 0, none⟩) ds.length c)
    (h63 : n + ds.length ≤ 9223372036854775807) (hbytes : (n + ds.length) * bytes ≤ 140737488355328) (hbase : base ≤ wr.heap.size)
    (hK : ∀ v' w', w'.ownsRow base e 1 v' (n + ds.length) ((l ++ ds).map mk) → Below base w0 w' → K (a.put o.dst v') w') :
    if Region.wanted o (yielded ops a.tmps) = true then Oper.wp P o a (wr.alloc (.cells ys.toArray e)) K Q else E := by
  have hw : Region.wanted o (yielded ops a.tmps) = true := by simp [Region.wanted, hg]
  rw [if_pos hw]
  have hlen : ys.length = ds.length := by rw [hy]; simp
  have h1 : ∀ u ∈ ys, u.oneCell' = true := by
    intro u hu
    rw [hy] at hu
    obtain ⟨d, _, rfl⟩ := List.mem_map.1 hu
    exact hmk d
  have hcell : ∀ j u, ys[j]? = some u → (wr.alloc (.cells ys.toArray e)).cell? ((⟨wr.heap.size, 0, none⟩ : Addr).add j) = some u := by
    intro j u hj
    have hadd : (⟨wr.heap.size, 0, none⟩ : Addr).add j = ⟨wr.heap.size, j, none⟩ := by unfold Addr.add; split <;> simp_all
    rw [hadd, cell_of_row _ wr.heap.size j ys.toArray e (0, 0) (heap_alloc_new wr _)]
    simpa using hj
  obtain ⟨v', w', hr, h2, h3, _⟩ := run_append_own (P := P) (wr.alloc (.cells ys.toArray e)) base t o.type e i z 1 bytes ht hi hz hsize hby hzs (by decide) v n (l.map mk) (hown.alloc _) ⟨wr.heap.size, 0, none⟩ ds.length c ys (by omega) hcell h1 (by unfold maxLen; omega) hbytes (by simp; omega)
  unfold Oper.wp
  simp [execOp, hop, resolve, invoke, builtin, hs, hx, hr, Result.andThen]
  refine hK v' w' (by rw [List.map_append, ← hy]; exact h2) ?_
  refine (hbel.alloc hbase _).grown h3 (by simp; omega) ?_
  intro k hk
  exact (hown.lt k hk).1

theorem below_drewN' {B : Nat} {a w : World} (h : Below B a w) (n : Nat) : Below B a (w.drewN n) := h.trans ⟨rfl, rfl, rfl, Nat.le_refl _, fun _ _ => rfl⟩
theorem ownsRow_drewN {w : World} {base : Nat} {e : TypeId} {size : Nat} {v : Value} {n : Nat} {xs : List Value} (h : w.ownsRow base e size v n xs) (q : Nat) : (w.drewN q).ownsRow base e size v n xs := h

theorem u64_nat {a : Int} (h : (Lit.int .u64 a).wf = true) : ∃ x : Nat, a = (x : Int) ∧ x < 18446744073709551616 := by
  simp only [Lit.wf, Bool.and_eq_true, decide_eq_true_eq] at h
  have hmin : IntKind.u64.min = 0 := rfl
  have hmax : IntKind.u64.max = 18446744073709551615 := rfl
  exact ⟨a.toNat, by omega, by omega⟩

theorem i64_bd {a : Int} (h : (Lit.int .i64 a).wf = true) : -9223372036854775808 ≤ a ∧ a ≤ 9223372036854775807 := by
  simp only [Lit.wf, Bool.and_eq_true, decide_eq_true_eq] at h
  have hmin : IntKind.i64.min = -9223372036854775808 := rfl
  have hmax : IntKind.i64.max = 9223372036854775807 := rfl
  omega

/-- A slice literal. -/
theorem Rd.lit {mk : Nat → Value} (w : World) (e : TypeId) (xs : List Value) (ds : List Nat) (h : xs = ds.map mk) (c : Nat) (hc : ds.length ≤ c) (hm : c ≤ 1000) :
    Rd mk (w.alloc (.cells xs.toArray e)) (.slice (some ⟨w.heap.size, 0, none⟩) ds.length c) ds := by
  refine ⟨_, c, rfl, hc, by unfold maxLen; omega, .inr ⟨w.heap.size, 0, rfl, by simp, fun i hi => ?_⟩⟩
  rw [cell_of_row _ w.heap.size (0 + i) xs.toArray e (0, 0) (heap_alloc_new w _), h]
  simp [Plain.dg, hi]

theorem madeCells_one (z : Value) (hz : z.cells = #[z]) (n : Nat) : (madeCells z.cells (n * 1)).toList = List.replicate n z := by
  rw [hz]
  apply List.ext_getElem
  · simp [madeCells]
  · intro i h1 h2
    simp [madeCells, Nat.mod_one]

/-- 'make([]T, n)': n noughts. -/
theorem wpList_mk0 {P : Program} (w : World) {ops : Array Oper} {rest : List Oper} {o : Oper} {a : Act} {Q : Exit → Act → World → Prop}
    (hg : o.guard = none) (l c : Operand) (t : TypeId) (hop : o.op = Op.makeSlice t l c)
    (e : TypeId) (i : TypeInfo) (z : Value) (bytes : Nat) (h1 : P.underlying t = some (.slice e)) (h2 : P.info? e = some i) (h3 : i.zero = some z) (h4 : i.size = 1) (hby : i.bytes = bytes)
    (mk : Nat → Value) (hmk : mk 0 = z) (hcz : z.cells = #[z])
    (kl kc : IntKind) (L C : Int) (n : Nat) (hl : a.eval l = .int kl L) (hc : a.eval c = .int kc C) (hL : L = (n : Int)) (hC : C = (n : Int)) (b2 : bytes * n ≤ 281474976710656) (b3 : n ≤ 9223372036854775807)
    (hK : ∀ w', w'.ownsRow w.heap.size e 1 (.slice (some ⟨w.heap.size, 0, none⟩) n n) n ((List.replicate n 0).map mk) → Below w.heap.size w w' → wpList P ops Q rest (a.put o.dst (.slice (some ⟨w.heap.size, 0, none⟩) n n)) w') :
    wpList P ops Q (o :: rest) a w := by
  refine wpList_make_full w hg l c t hop w.heap.size e i z 1 h1 h2 h3 h4 kl kc L C n hl hc hL hC (by rw [hby]; exact b2) (by unfold maxLen; omega) (Nat.le_refl _) ?_
  intro w' ho hgr
  refine hK w' ?_ ((Below.refl _ _).grown hgr (Nat.le_refl _) (fun k h => by cases h))
  rw [madeCells_one z hcz] at ho
  rw [List.map_replicate, hmk]
  exact ho

/-- A store into the call's own row. -/
theorem owns_store {w : World} {base g n : Nat} {e : TypeId} {cap : Nat} {mk : Nat → Value} {l : List Nat} (h : w.ownsRow base e 1 (.slice (some ⟨g, 0, none⟩) n cap) n (l.map mk)) (j d : Nat) {w0 : World} (hb : Below base w0 w) (hg : base ≤ g) :
    (w.setCell ⟨g, j, none⟩ (mk d)).ownsRow base e 1 (.slice (some ⟨g, 0, none⟩) n cap) n ((l.set j d).map mk) ∧ Below base w0 (w.setCell ⟨g, j, none⟩ (mk d)) := by
  have h2 := (h.stored j (mk d)).1
  rw [← List.map_set] at h2
  exact ⟨h2, hb.setCell hg _⟩

theorem owns_cell {w : World} {base g n : Nat} {e : TypeId} {cap : Nat} {mk : Nat → Value} {l : List Nat} (h : w.ownsRow base e 1 (.slice (some ⟨g, 0, none⟩) n cap) n (l.map mk)) (hl : l.length = n) (j : Nat) (hj : j < n) :
    w.cell? ⟨g, j, none⟩ = some (mk (Plain.dg l j)) := by
  rw [h.cellAt j (by omega)]
  simp [Plain.dg, hl, hj]

/-- A slice cut at its head. -/
theorem Rd.drop {mk : Nat → Value} {w : World} {b off cap : Nat} {l : List Nat} (h : Rd mk w (.slice (some ⟨b, off, none⟩) l.length cap) l) (n : Nat) (hn : n < l.length) : Rd mk w (.slice (some ⟨b, off + n, none⟩) (l.length - n) (cap - n)) (l.drop n) := by
  obtain ⟨ao', cap', he, hc, hm, h⟩ := h
  simp only [Value.slice.injEq, true_and] at he
  obtain ⟨rfl, rfl⟩ := he
  have hl : (l.drop n).length = l.length - n := by simp
  refine ⟨_, cap - n, by rw [hl], by omega, by unfold maxLen at hm ⊢; omega, ?_⟩
  rw [hl]
  rcases h with h | ⟨b', off', he, hlt, hcell⟩
  · omega
  · simp only [Option.some.injEq, Addr.mk.injEq, and_true] at he
    obtain ⟨rfl, rfl⟩ := he
    refine .inr ⟨b, off + n, rfl, hlt, fun i hi => ?_⟩
    rw [show off + n + i = off + (n + i) by omega, hcell (n + i) (by omega)]
    congr 2
    simp [Plain.dg]

theorem grownBy_trans {a b c : World} {row : Option Nat} (h : a.grownBy b row) (k : b.grownBy c row) : a.grownBy c row :=
  ⟨k.os.trans h.os, k.tape.trans h.tape, k.output.trans h.output, Nat.le_trans h.size k.size, fun i hi hr => (k.block i (Nat.lt_of_lt_of_le hi h.size) hr).trans (h.block i hi hr)⟩
theorem grownBy_refl (a : World) (row : Option Nat) : a.grownBy a row := ⟨rfl, rfl, rfl, Nat.le_refl _, fun _ _ _ => rfl⟩
theorem grownBy_of_below {a b : World} (h : Below a.heap.size a b) (row : Option Nat) : a.grownBy b row := ⟨h.os, h.tape, h.output, h.size, fun i hi _ => h.block i hi⟩
theorem grownBy_then {a b c : World} {row : Option Nat} {B : Nat} (h : a.grownBy b row) (hB : a.heap.size ≤ B) (k : Below B b c) : a.grownBy c row :=
  ⟨k.os.trans h.os, k.tape.trans h.tape, k.output.trans h.output, Nat.le_trans h.size k.size, fun i hi hr => (k.block i (by omega)).trans (h.block i hi hr)⟩
end Go.Proofs.Yteocibahclpegaa

/- Contracts of radicandref01: digit, trim. -/
set_option linter.unusedVariables false
set_option linter.unusedSimpArgs false
set_option maxRecDepth 8000
namespace Go.Proofs.Yteocibahclpegaa
open Go.RowKit

def digI (l : List Nat) (i : Int) : Int := if i < 0 then 0 else ((Plain.dg l i.toNat : Nat) : Int)

set_option maxHeartbeats 400000 in
theorem digit_any (l : List Nat) (v : Value) (w : World) (hr : Rd mk32 w v l) (hb : ∀ i, Plain.dg l i < 4294967296) (i : Int) :
    Calls Try.prog 50 #[v, .int .i64 i] w fun e w' => e = .returned (.int .u64 (digI l i)) ∧ w' = w := by
  obtain ⟨ao, cap, rfl, hc, hm, hr⟩ := hr
  unfold maxLen at hm
  by_cases h0 : i < 0
  · have HO : Hid (digI l i = 0) := by unfold Hid digI; rw [if_pos h0]
    clear hr hb
    go_enter Try.func50, Try.ntmps50
    go_wp2
    go_ret
    exact ⟨ret_int HO.out.symm, rfl⟩
  · obtain ⟨k, rfl⟩ := Int.eq_ofNat_of_zero_le (Int.not_lt.1 h0)
    by_cases h1 : k < l.length
    · rcases hr with hr | ⟨b, off, rfl, hlt, hcell⟩
      · omega
      · have hck := hcell k h1
        have hbk := hb k
        have HO : Hid (digI l k = ((Plain.dg l k : Nat) : Int)) := by unfold Hid digI; rw [if_neg h0]; simp
        unfold mk32 at hck
        generalize Plain.dg l k = d at *
        clear hcell hb hc
        go_enter Try.func50, Try.ntmps50
        go_wp2
        go_ret
        exact ⟨ret_int HO.out.symm, rfl⟩
    · have HO : Hid (digI l k = 0) := by unfold Hid digI; rw [if_neg h0, Int.toNat_natCast, Plain.getD_past l k (by omega)]; rfl
      clear hr hb
      go_enter Try.func50, Try.ntmps50
      go_wp2
      go_ret
      exact ⟨ret_int HO.out.symm, rfl⟩

set_option maxHeartbeats 400000 in
theorem trim_raw (l : List Nat) (ao : Option Addr) (cap : Nat) (w : World) (hr : Rd mk32 w (.slice ao l.length cap) l) :
    Calls Try.prog 48 #[.slice ao l.length cap] w fun e w' => ∃ k, k ≤ l.length ∧ e = .returned (.slice ao k cap) ∧ (∀ j, k ≤ j → Plain.dg l j = 0) ∧ (k = 0 ∨ Plain.dg l (k - 1) ≠ 0) ∧ w' = w := by
  obtain ⟨ao', cap', he, hc, hm, hr⟩ := hr
  simp only [Value.slice.injEq, true_and] at he
  obtain ⟨rfl, rfl⟩ := he
  unfold maxLen at hm
  have HR := hide hr
  clear hr
  go_enter Try.func48, Try.ntmps48
  go_wp2
  go_loop [3] (fun n => ∃ k : Nat, k ≤ l.length ∧ n = .int .i64 k ∧ ∀ j, k ≤ j → Plain.dg l j = 0) (fun n => (intOf n).toNat)
  case atStart => exact ⟨l.length, Nat.le_refl _, rfl, fun j hj => Plain.getD_past l j hj⟩
  case round =>
    obtain ⟨k, hk, rfl, hz⟩ := hrel
    have HZ := hide hz
    clear hz
    by_cases h0 : k = 0
    · subst h0
      go_wp2
      go_ret
      exact ⟨0, hk, rfl, unhide HZ, .inl rfl, rfl⟩
    · obtain ⟨m, rfl⟩ : ∃ m, k = m + 1 := ⟨k - 1, by omega⟩
      rcases unhide HR with hr | ⟨b, off, rfl, hlt, hcell⟩
      · omega
      · have hck := hcell m (by omega)
        unfold mk32 at hck
        clear hcell
        go_wp2
        · go_round
          case rel =>
            refine ⟨m, by omega, by go_num, fun j hj => ?_⟩
            rcases Nat.lt_or_ge m j with h1 | h1
            · exact unhide HZ j h1
            · have e : j = m := by omega
              subst e
              have hq : ((Plain.dg l j : Int) == 0) = true := by assumption
              simpa using hq
          case measure => simp [intOf]
        · go_ret
          have hq : ((Plain.dg l m : Int) == 0) = false := by assumption
          exact ⟨m + 1, hk, rfl, unhide HZ, .inr (by simpa using hq), rfl⟩

def BB : Nat := 4294967296

/-- The value v is the number n (radicandref01.Big), in at most K digits of 32 bits. -/
def BigV (w : World) (v : Value) (n K : Nat) : Prop := ∃ l, Rd mk32 w v l ∧ Plain.Dig BB l n ∧ Plain.Norm BB l n ∧ l.length ≤ K

theorem BigV.below {w w' : World} {v : Value} {n K : Nat} (h : BigV w v n K) (hb : Below w.heap.size w w') : BigV w' v n K := by
  obtain ⟨l, h1, h2⟩ := h; exact ⟨l, h1.below hb, h2⟩
theorem BigV.mono {w : World} {v : Value} {n K K' : Nat} (h : BigV w v n K) (hk : K ≤ K') : BigV w v n K' := by
  obtain ⟨l, h1, h2, h3, h4⟩ := h; exact ⟨l, h1, h2, h3, by omega⟩

theorem trim_any (l : List Nat) (n K : Nat) (v : Value) (w : World) (hr : Rd mk32 w v l) (hd : Plain.Dig BB l n) (hK : l.length ≤ K) :
    Calls Try.prog 48 #[v] w fun e w' => ∃ v', e = .returned v' ∧ BigV w v' n K ∧ w' = w := by
  have hr' := hr
  obtain ⟨ao, cap, rfl, -⟩ := hr'
  refine (trim_raw l ao cap w hr).mono ?_
  rintro e w' ⟨k, hk, rfl, hz, hn, rfl⟩
  refine ⟨_, rfl, ⟨l.take k, hr.take k hk, hd.cut (by decide) k hk hz, ?_, by simp; omega⟩, rfl⟩
  refine (hd.cut (by decide) k hk hz).norm (by decide) ?_
  rw [List.length_take, Nat.min_eq_left hk]
  rcases hn with hn | hn
  · exact .inl hn
  · by_cases h0 : k = 0
    · exact .inl h0
    · exact .inr (by rw [Plain.getD_take, if_pos (by omega)]; exact hn)

/-- The digit of BB^k. -/
def dgt (n k : Nat) : Nat := n / BB ^ k % BB
theorem dgt_lt (n k : Nat) : dgt n k < 4294967296 := Nat.mod_lt _ (by decide)

theorem digit_big (n K k : Nat) (v : Value) (w : World) (i : Int) (h : BigV w v n K) (hi : i = (k : Int)) :
    Calls Try.prog 50 #[v, .int .i64 i] w fun e w' => e = .returned (.int .u64 (dgt n k : Nat)) ∧ w' = w := by
  obtain ⟨l, hr, hd, _⟩ := h
  subst hi
  refine (digit_any l v w hr (fun i => hd.lt (by decide) i) k).mono ?_
  rintro e w' ⟨rfl, rfl⟩
  refine ⟨ret_int ?_, rfl⟩
  unfold digI dgt
  rw [if_neg (by omega), Int.toNat_natCast, hd.2]

set_option maxHeartbeats 400000 in
theorem cmp_any (n m K L : Nat) (va vb : Value) (w : World) (ha : BigV w va n K) (hb : BigV w vb m L) :
    Calls Try.prog 20 #[va, vb] w fun e w' => e = .returned (.int .i64 (Plain.cmpN n m)) ∧ w' = w := by
  have ha' := ha
  have hb' := hb
  obtain ⟨la, ⟨ao, ca, rfl, hca, hma, -⟩, hda, -⟩ := ha'
  obtain ⟨lb, ⟨bo, cb, rfl, hcb, hmb, -⟩, hdb, -⟩ := hb'
  unfold maxLen at hma hmb
  have HA : Hid (n < BB ^ la.length) := hda.1
  have HB : Hid (m < BB ^ lb.length) := hdb.1
  clear hda hdb
  generalize la.length = na at *
  generalize lb.length = nb at *
  go_enter Try.func20, Try.ntmps20
  go_wp2
  all_goals
    go_loop [5] (fun i => ∃ k : Nat, k ≤ na + nb ∧ k ≤ 9223372036854775807 ∧ i = .int .i64 ((k : Int) - 1) ∧ n / BB ^ k = m / BB ^ k) (fun i => (intOf i + 1).toNat)
    case atStart => first
      | exact ⟨na, by omega, by omega, rfl, by rw [Plain.div_zero_of (by decide) HA.out (Nat.le_refl _), Plain.div_zero_of (by decide) HB.out (by omega)]⟩
      | exact ⟨nb, by omega, by omega, rfl, by rw [Plain.div_zero_of (by decide) HA.out (by omega), Plain.div_zero_of (by decide) HB.out (Nat.le_refl _)]⟩
    case round =>
      obtain ⟨k, hk, hk2, rfl, hz⟩ := hrel
      have HZ := hide hz
      clear hz
      by_cases h0 : k = 0
      · subst h0
        go_wp2
        go_ret
        exact ⟨ret_int (Plain.cmp_eq HZ.out).symm, rfl⟩
      · obtain ⟨j, rfl⟩ : ∃ j, k = j + 1 := ⟨k - 1, by omega⟩
        go_wp2_with (go_at_call 50; refine (digit_big _ _ j _ _ _ (by assumption) (by omega)).mono ?_; rintro e w' ⟨rfl, rfl⟩)
        · go_ret
          have hq : dgt n j < dgt m j := by assumption
          exact ⟨ret_int (Plain.cmp_lt HZ.out hq).symm, rfl⟩
        · go_ret
          have hq : dgt m j < dgt n j := by assumption
          exact ⟨ret_int (Plain.cmp_gt HZ.out hq).symm, rfl⟩
        · go_round
          case rel =>
            have h1 : ¬ dgt m j < dgt n j := by assumption
            have h2 : ¬ dgt n j < dgt m j := by assumption
            exact ⟨j, by omega, by omega, by go_num, Plain.cmp_step HZ.out (by unfold dgt at h1 h2; omega)⟩
          case measure => simp [intOf]

end Go.Proofs.Yteocibahclpegaa

/- Contracts of radicandref01: Add. -/
set_option linter.unusedVariables false
set_option linter.unusedSimpArgs false
set_option maxRecDepth 8000
namespace Go.Proofs.Yteocibahclpegaa
open Go.RowKit

theorem info32 : (Try.prog.info? 72).map (fun i => (i.zero, i.size, i.bytes)) = some (some (.int .u32 0), 1, 4) := by kernel_rfl

theorem dgt_add (n m k : Nat) : ((Plain.carry BB n m k : Int) + (dgt n k : Int) + (dgt m k : Int)) % 4294967296 = (dgt (n + m) k : Int) := by
  have h := Plain.add_digit (n := n) (m := m) (k := k) (β := BB) (by decide)
  have e : (dgt (n + m) k : Int) = (((Plain.carry BB n m k + dgt n k + dgt m k) % 4294967296 : Nat) : Int) := congrArg _ h.symm
  rw [e]; omega
theorem cry_add (n m k : Nat) : ((Plain.carry BB n m k : Int) + (dgt n k : Int) + (dgt m k : Int)) / 4294967296 = (Plain.carry BB n m (k + 1) : Int) := by
  have h := Plain.add_carry (n := n) (m := m) (k := k) (β := BB) (by decide)
  have e : (Plain.carry BB n m (k + 1) : Int) = (((Plain.carry BB n m k + dgt n k + dgt m k) / 4294967296 : Nat) : Int) := congrArg _ h.symm
  rw [e]; omega

set_option maxHeartbeats 1000000 in
theorem refAdd_any (n m K L : Nat) (va vb : Value) (w : World) (ha : BigV w va n K) (hb : BigV w vb m L) (hK : K ≤ 1000000) (hL : L ≤ 1000000) :
    Calls Try.prog 37 #[va, vb] w fun e w' => ∃ v, e = .returned v ∧ BigV w' v (n + m) (max K L + 1) ∧ Below w.heap.size w w' := by
  have ha' := ha
  have hb' := hb
  obtain ⟨la, ⟨ao, ca, rfl, hca, hma, -⟩, hda, -, hka⟩ := ha'
  obtain ⟨lb, ⟨bo, cb, rfl, hcb, hmb, -⟩, hdb, -, hkb⟩ := hb'
  unfold maxLen at hma hmb
  have HA : Hid (n < BB ^ la.length) := hda.1
  have HB : Hid (m < BB ^ lb.length) := hdb.1
  clear hda hdb
  generalize la.length = na at *
  generalize lb.length = nb at *
  obtain ⟨i0, hi, hz0, hz1, hz2⟩ := info_parts info32
  rcases Nat.lt_or_ge na nb with hx | hx
  all_goals
    go_enter Try.func37, Try.ntmps37
    go_wp2
    go_loopw [5, 6, 7] (fun v c i wr => ∃ k : Nat, k ≤ max na nb + 1 ∧ i = .int .i64 k ∧ c = .int .u64 (Plain.carry BB n m k : Nat) ∧
        wr.ownsRow w.heap.size 72 1 v k ((Plain.dl BB (n + m) k).map mk32) ∧ Below w.heap.size w wr)
      (fun _ _ i _ => max na nb + 1 - (intOf i).toNat)
    case atStart => exact ⟨0, by omega, rfl, by rw [Plain.carry_zero]; rfl, World.ownsRow_nil _ _ _ _, Below.refl _ _⟩
    case round =>
      obtain ⟨k, hk, rfl, rfl, hown, hbel⟩ := hrel
      have ha1 := ha.below hbel
      have hb1 := hb.below hbel
      by_cases hlt : k ≤ max na nb
      · have b1 : Plain.carry BB n m k ≤ 1 := Plain.carry_le (by decide)
        have b2 := dgt_lt n k
        have b3 := dgt_lt m k
        have hsz := hbel.size
        go_wp2_with (first
          | (go_at_call 50; refine (digit_big _ _ k _ _ _ (by assumption) (by omega)).mono ?_; rintro e w' ⟨rfl, hw⟩; subst w')
          | (at_builtin; go_must (refine wpList_app1 w wr rfl _ _ 36 rfl w.heap.size 72 i0 (.int .u32 0) 4 Try.underlying36 hi hz0 hz1 hz2 rfl mk32 _ _ _ (by rfl) hown hbel _ (dgt (n + m) k) (congrArg (Value.int .u32) (dgt_add n m k)) rfl (by rfl) (by omega) (by omega) (by omega) ?_); intro v' w1 hown1 hbel1; clear hown hbel ha1 hb1 hsz))
        go_roundw
        case rel => exact ⟨k + 1, by omega, by go_num, congrArg (Value.int .u64) (cry_add n m k), by rw [Plain.dl_succ]; exact hown1, hbel1⟩
        case measure => simp [intOf]; omega
      · have hk : k = max na nb + 1 := by omega
        have hr := Rd.of_owns (l := Plain.dl BB (n + m) k) (by rw [Plain.dl_length]; exact hown)
        have hd := Plain.dl_dig BB (n + m) k (Plain.add_fits (by decide) HA.out HB.out (by omega) (by omega)) (by decide)
        have hl := Plain.dl_length BB (n + m) k
        have HK := hide hk
        clear hown ha1 hb1
        go_wp2_with (go_at_call 48; refine (trim_any _ _ (max K L + 1) _ _ hr hd (by omega)).mono ?_; rintro e w' ⟨v', rfl, hbig, hw⟩; subst w')
        go_ret
        exact ⟨_, rfl, hbig, hbel⟩

/-- The limbs l (of 64 bits) are the number n. -/
def LL : Nat := 18446744073709551616

theorem of_step (l : List Nat) (n k : Nat) (hd : Plain.Dig LL l n) : Plain.dl BB n (2 * (k + 1)) = Plain.dl BB n (2 * k) ++ [Plain.dg l k % 4294967296, Plain.dg l k / 4294967296] := by
  have e : 2 * (k + 1) = 2 * k + 1 + 1 := by omega
  have h := Plain.limb_digits BB n k
  rw [e, Plain.dl_succ, Plain.dl_succ, List.append_assoc, ← h.1, ← h.2, hd.2 k]
  rfl

set_option maxHeartbeats 1000000 in
theorem of_any (l : List Nat) (n : Nat) (va : Value) (w : World) (hr : Rd mk64 w va l) (hd : Plain.Dig LL l n) (hK : l.length ≤ 100000) :
    Calls Try.prog 49 #[va] w fun e w' => ∃ v, e = .returned v ∧ BigV w' v n (2 * l.length) ∧ Below w.heap.size w w' := by
  obtain ⟨ao, ca, rfl, hca, hma, hc⟩ := hr
  unfold maxLen at hma
  have HC := hide hc
  clear hc
  obtain ⟨i0, hi, hz0, hz1, hz2⟩ := info_parts info32
  go_enter Try.func49, Try.ntmps49
  go_wp2
  go_loopw [3, 4] (fun v i wr => ∃ k : Nat, k ≤ l.length ∧ i = .int .i64 k ∧
        wr.ownsRow w.heap.size 72 1 v (2 * k) ((Plain.dl BB n (2 * k)).map mk32) ∧ Below w.heap.size w wr)
      (fun _ i _ => l.length - (intOf i).toNat)
  case atStart => exact ⟨0, by omega, rfl, World.ownsRow_nil _ _ _ _, Below.refl _ _⟩
  case round =>
    obtain ⟨k, hk, rfl, hown, hbel⟩ := hrel
    by_cases hlt : k < l.length
    · rcases unhide HC with hc | ⟨b, off, rfl, hbl, hcell⟩
      · omega
      · have hck : wr.cell? ⟨b, off + k, none⟩ = some (.int .u64 (Plain.dg l k)) := (hbel.cell (p := ⟨b, off + k, none⟩) hbl).trans (hcell k hlt)
        have hb1 : Plain.dg l k < 18446744073709551616 := hd.lt (by decide) k
        have hsz := hbel.size
        have hi1 : (k : Int) < (l.length : Int) := by omega
        clear hcell
        have H2 : Hid ([Value.int .u32 (IntKind.u32.wrap (Plain.dg l k : Int)), Value.int .u32 (IntKind.u32.wrap ((Plain.dg l k : Int) / 4294967296))] = [Plain.dg l k % 4294967296, Plain.dg l k / 4294967296].map mk32) := by
          apply hide
          simp only [List.map_cons, List.map_nil, mk32, IntKind.wrap_u32]
          have e1 : (Plain.dg l k : Int) % 4294967296 = ((Plain.dg l k % 4294967296 : Nat) : Int) := by omega
          have e2 : (Plain.dg l k : Int) / 4294967296 % 4294967296 = ((Plain.dg l k / 4294967296 : Nat) : Int) := by omega
          rw [e1, e2]
        go_wp2
        go_region_law ((refine step_app w wr.drew rfl (.tmp 11) (.tmp 23) 36 rfl w.heap.size 72 i0 (.int .u32 0) 4 Try.underlying36 hi hz0 hz1 hz2 rfl mk32 _ _ _ (by rfl) (ownsRow_drew hown) hbel.drew _ _ (unhide H2) (fun _ => rfl) _ (by rfl) (by simp; omega) (by simp; omega) (by simp; omega) ?_; intro v' w1 hown1 hbel1; clear hown hbel hsz))
        all_goals
          have hown2 : w1.ownsRow w.heap.size 72 1 v' (2 * (k + 1)) ((Plain.dl BB n (2 * (k + 1))).map mk32) := by
            rw [of_step l n k hd]; exact hown1
          clear hown1
          go_wp2
          go_roundw
          case rel => exact ⟨k + 1, by omega, by go_num, hown2, hbel1⟩
          case measure => simp [intOf]; omega
    · have hk : k = l.length := by omega
      subst hk
      have hr := Rd.of_owns (l := Plain.dl BB n (2 * l.length)) (by rw [Plain.dl_length]; exact hown)
      have hd2 := Plain.dl_dig BB n (2 * l.length) (by rw [Nat.pow_mul]; exact hd.1) (by decide)
      have hl := Plain.dl_length BB n (2 * l.length)
      clear hown
      go_wp2_with (go_at_call 48; refine (trim_any _ _ (2 * l.length) _ _ hr hd2 (by omega)).mono ?_; rintro e w' ⟨v', rfl, hbig, hw⟩; subst w')
      go_ret
      exact ⟨_, rfl, hbig, hbel⟩

end Go.Proofs.Yteocibahclpegaa

/- Contracts of radicandref01: Mul. -/
set_option linter.unusedVariables false
set_option linter.unusedSimpArgs false
set_option maxRecDepth 8000
namespace Go.Proofs.Yteocibahclpegaa
open Go.RowKit Plain

def MulInv (n m na nb i k c : Nat) (o : List Nat) : Prop :=
  o.length = na + nb ∧ (∀ j, dg o j < BB) ∧ c < BB ∧ val BB o + c * BB ^ (i + k) = n % BB ^ i * m + BB ^ i * (n / BB ^ i % BB) * (m % BB ^ k) ∧ ∀ j, i + nb ≤ j → dg o j = 0
def MulOut (n m na nb i : Nat) (o : List Nat) : Prop :=
  o.length = na + nb ∧ (∀ j, dg o j < BB) ∧ val BB o = n % BB ^ i * m ∧ ∀ j, i + nb ≤ j → dg o j = 0

theorem mulOut_zero (n m na nb : Nat) : MulOut n m na nb 0 (List.replicate (na + nb) 0) :=
  ⟨by simp, fun j => by rw [dg_zeros]; decide, by rw [val_zeros]; simp [Nat.mod_one], fun j _ => dg_zeros _ j⟩
theorem mulInv_zero {n m na nb i : Nat} {o : List Nat} (h : MulOut n m na nb i o) : MulInv n m na nb i 0 0 o :=
  ⟨h.1, h.2.1, by decide, by rw [h.2.2.1]; simp [Nat.mod_one], h.2.2.2⟩
theorem mulInv_step {n m na nb i k c : Nat} {o : List Nat} (h : MulInv n m na nb i k c o) (hi : i < na) (hk : k < nb) :
    c + dg o (i + k) + dgt n i * dgt m k < 18446744073709551616 ∧
    MulInv n m na nb i (k + 1) ((c + dg o (i + k) + dgt n i * dgt m k) / 4294967296) (o.set (i + k) ((c + dg o (i + k) + dgt n i * dgt m k) % 4294967296)) := by
  obtain ⟨h1, h2, h3, h4, h5⟩ := h
  have hb := mul_bound h3 (h2 (i + k)) (dgt_lt n i) (dgt_lt m k)
  have hb' : c + dg o (i + k) + dgt n i * dgt m k < 18446744073709551616 := hb
  refine ⟨hb', by simp [h1], fun j => ?_, ?_, ?_, fun j hj => ?_⟩
  · rw [dg_set _ _ _ _ (by omega)]; split
    · exact Nat.mod_lt _ (by decide)
    · exact h2 j
  · show _ < 4294967296
    omega
  · have hs := val_set BB o (i + k) ((c + dg o (i + k) + dgt n i * dgt m k) % 4294967296) (by omega)
    have e := mul_step (β := BB) (d := dgt n i) (m := m) (k := k) (by decide) rfl hs h4
    rw [part_step, ← Nat.add_assoc i k 1, Nat.pow_succ]
    exact e
  · rw [dg_set _ _ _ _ (by omega), if_neg (by omega)]
    exact h5 j hj
theorem mulInv_end {n m na nb i c : Nat} {o : List Nat} (h : MulInv n m na nb i nb c o) (hi : i < na) (hm : m < BB ^ nb) : MulOut n m na nb (i + 1) (o.set (i + nb) c) := by
  obtain ⟨h1, h2, h3, h4, h5⟩ := h
  have hs := val_set BB o (i + nb) c (by omega)
  rw [h5 (i + nb) (Nat.le_refl _), Nat.zero_mul, Nat.add_zero, h4, Nat.mod_eq_of_lt hm, part_end] at hs
  refine ⟨by simp [h1], fun j => ?_, hs, fun j hj => ?_⟩
  · rw [dg_set _ _ _ _ (by omega)]; split
    · exact h3
    · exact h2 j
  · rw [dg_set _ _ _ _ (by omega), if_neg (by omega)]
    exact h5 j (by omega)
theorem mulOut_end {n m na nb : Nat} {o : List Nat} (h : MulOut n m na nb na o) (hn : n < BB ^ na) : Dig BB o (n * m) := by
  have := val_dig (β := BB) (by decide) o h.2.1
  rw [h.2.2.1, Nat.mod_eq_of_lt hn] at this
  exact this

theorem wrap_mul_add (c x d y : Nat) (h : c + x + d * y < 18446744073709551616) : IntKind.u64.wrap ((c : Int) + (x : Int) + IntKind.u64.wrap ((d : Int) * (y : Int))) = ((c + x + d * y : Nat) : Int) := by
  rw [← Int.natCast_mul, IntKind.wrap_u64, IntKind.wrap_u64]; omega

set_option maxHeartbeats 2000000 in
theorem refMul_any (n m K L : Nat) (va vb : Value) (w : World) (ha : BigV w va n K) (hb : BigV w vb m L) (hK : K ≤ 1000000) (hL : L ≤ 1000000) :
    Calls Try.prog 17 #[va, vb] w fun e w' => ∃ v, e = .returned v ∧ BigV w' v (n * m) (K + L) ∧ Below w.heap.size w w' := by
  obtain ⟨la, ⟨ao, ca, rfl, hca, hma, hra⟩, hda, -, hka⟩ := ha
  obtain ⟨lb, ⟨bo, cb, rfl, hcb, hmb, hrb⟩, hdb, -, hkb⟩ := hb
  unfold maxLen at hma hmb
  obtain ⟨na, hna⟩ : ∃ na, na = la.length := ⟨_, rfl⟩
  obtain ⟨nb, hnb⟩ : ∃ nb, nb = lb.length := ⟨_, rfl⟩
  have HA : Hid (n < BB ^ na) := by rw [hna]; exact hda.1
  have HB : Hid (m < BB ^ nb) := by rw [hnb]; exact hdb.1
  have HRA : Hid (na = 0 ∨ ∃ b off, ao = some ⟨b, off, none⟩ ∧ b < w.heap.size ∧ ∀ i, i < na → w.cell? ⟨b, off + i, none⟩ = some (.int .u32 (dgt n i : Nat))) := by
    rw [hna]
    rcases hra with h | ⟨b, off, h1, h2, h3⟩
    · exact .inl h
    · exact .inr ⟨b, off, h1, h2, fun i hi => by rw [h3 i hi, hda.2 i]; rfl⟩
  have HRB : Hid (nb = 0 ∨ ∃ b off, bo = some ⟨b, off, none⟩ ∧ b < w.heap.size ∧ ∀ i, i < nb → w.cell? ⟨b, off + i, none⟩ = some (.int .u32 (dgt m i : Nat))) := by
    rw [hnb]
    rcases hrb with h | ⟨b, off, h1, h2, h3⟩
    · exact .inl h
    · exact .inr ⟨b, off, h1, h2, fun i hi => by rw [h3 i hi, hdb.2 i]; rfl⟩
  clear hra hrb hda hdb
  rw [← hna] at hca hka
  rw [← hnb] at hcb hkb
  rw [← hna, ← hnb]
  clear hna hnb
  obtain ⟨i0, hi, hz0, hz1, hz2⟩ := info_parts info32
  go_enter Try.func17, Try.ntmps17
  go_wp2_with (at_make; refine wpList_mk0 w rfl (.tmp 13) (.tmp 13) 36 rfl 72 i0 (.int .u32 0) 4 Try.underlying36 hi hz0 hz1 hz2 mk32 rfl rfl .i64 .i64 _ _ (na + nb) (by rfl) (by rfl) (by omega) (by omega) (by omega) (by omega) ?_; intro w0 hown0 hbel0)
  clear hi hz0 hz1 hz2
  go_loopw [6] (fun i wr => ∃ (k : Nat) (o : List Nat), k ≤ na ∧ i = .int .i64 k ∧ Hid (MulOut n m na nb k o) ∧
        wr.ownsRow w.heap.size 72 1 (.slice (some ⟨w.heap.size, 0, none⟩) (na + nb) (na + nb)) (na + nb) (o.map mk32) ∧ Below w.heap.size w wr)
      (fun i _ => na - (intOf i).toNat)
  case atStart => exact ⟨0, _, by omega, rfl, mulOut_zero n m na nb, hown0, hbel0⟩
  case round =>
    clear hown0 hbel0
    obtain ⟨i, o, hi, rfl, hout, hown, hbel⟩ := hrel
    by_cases hlt : i < na
    · rcases unhide HRA with hc | ⟨b, off, rfl, hbl, hcell⟩
      · omega
      · have HCA := hide (hcell i hlt)
        clear hcell
        go_wp2
        go_loopw [7, 8] (fun c k wr => ∃ (kk c' : Nat) (o : List Nat), kk ≤ nb ∧ k = .int .i64 kk ∧ c = .int .u64 c' ∧ Hid (MulInv n m na nb i kk c' o) ∧
            wr.ownsRow w.heap.size 72 1 (.slice (some ⟨w.heap.size, 0, none⟩) (na + nb) (na + nb)) (na + nb) (o.map mk32) ∧ Below w.heap.size w wr)
          (fun _ k _ => nb - (intOf k).toNat)
        case atStart => exact ⟨0, 0, o, by omega, rfl, rfl, mulInv_zero hout.out, hown, hbel⟩
        case round =>
          clear hown hbel hout
          obtain ⟨k, c, o, hk, rfl, rfl, hinv, hown, hbel⟩ := hrel
          by_cases hlt2 : k < nb
          · rcases unhide HRB with hc | ⟨bb, boff, rfl, hbl2, hcell⟩
            · omega
            · have hca1 : wr.cell? ⟨b, off + i, none⟩ = some (.int .u32 (dgt n i : Nat)) := (hbel.cell (p := ⟨b, off + i, none⟩) hbl).trans HCA.out
              have hcb1 : wr.cell? ⟨bb, boff + k, none⟩ = some (.int .u32 (dgt m k : Nat)) := (hbel.cell (p := ⟨bb, boff + k, none⟩) hbl2).trans (hcell k hlt2)
              clear hcell
              have hco : wr.cell? ⟨w.heap.size, i + k, none⟩ = some (.int .u32 (dg o (i + k) : Nat)) := owns_cell hown hinv.out.1 (i + k) (by omega)
              have hfo : wr.frozen? ⟨w.heap.size, i + k, none⟩ = false := hown.frozenAt _
              obtain ⟨hb, hst⟩ := mulInv_step hinv.out hlt hlt2
              have HB1 := hide hb
              have HST := hide hst
              clear hb hst
              have x1 := dgt_lt n i
              have x2 := dgt_lt m k
              have x3 : dg o (i + k) < 4294967296 := hinv.out.2.1 _
              have x4 : c < 4294967296 := hinv.out.2.2.1
              have j1 : (i : Int) < (na : Int) := by omega
              have j2 : (k : Int) < (nb : Int) := by omega
              have j3 : (i : Int) + (k : Int) < (na : Int) + (nb : Int) := by omega
              go_wp2
              go_quiet (fail)
              go_wp2
              go_roundw
              case rel =>
                rw [wrap_mul_add _ _ _ _ HB1.out]
                generalize c + dg o (i + k) + dgt n i * dgt m k = t at *
                have e1 : (t : Int) % 4294967296 = ((t % 4294967296 : Nat) : Int) := by omega
                have e2 : (t : Int) / 4294967296 = ((t / 4294967296 : Nat) : Int) := by omega
                rw [e1, e2]
                have hs := owns_store (mk := mk32) (ownsRow_drewN hown nq) (i + k) (t % 4294967296) (below_drewN' hbel nq) (Nat.le_refl _)
                exact ⟨k + 1, _, _, by omega, by go_num, rfl, HST, hs.1, hs.2⟩
              case measure => simp [intOf]; omega
          · have hk2 : k = nb := by omega
            subst hk2
            have hco : wr.cell? ⟨w.heap.size, i + k, none⟩ = some (.int .u32 (dg o (i + k) : Nat)) := owns_cell hown hinv.out.1 (i + k) (by omega)
            have hfo : wr.frozen? ⟨w.heap.size, i + k, none⟩ = false := hown.frozenAt _
            have j3 : (i : Int) + (k : Int) < (na : Int) + (k : Int) := by omega
            have x4 : c < 4294967296 := hinv.out.2.2.1
            have HE := hide (mulInv_end hinv.out hlt HB.out)
            go_wp2
            go_roundw
            case rel =>
              have hs := owns_store (mk := mk32) hown (i + k) c hbel (Nat.le_refl _)
              exact ⟨i + 1, _, by omega, by go_num, HE, hs.1, hs.2⟩
            case measure => simp [intOf]; omega
    · have hk : i = na := by omega
      subst hk
      have hl := hout.out.1
      have hr := Rd.of_owns (l := o) (mk := mk32) (by rw [hl]; exact hown)
      have hd := mulOut_end hout.out HA.out
      clear hown
      have HD := hide hd
      have HL := hide hl
      clear hd hl
      go_wp2_with (go_at_call 48; refine (trim_any _ _ (K + L) _ _ hr HD.out (by rw [HL.out]; omega)).mono ?_; rintro e w' ⟨v', rfl, hbig, hw⟩; subst w')
      go_ret
      exact ⟨_, rfl, hbig, hbel⟩

end Go.Proofs.Yteocibahclpegaa

