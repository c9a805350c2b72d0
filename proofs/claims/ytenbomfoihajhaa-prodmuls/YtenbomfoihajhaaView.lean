/- How a slice's value reads as a list of digits, over any program: 'Rd'. -/
import Derived.Test.YtenbomfoihajhaaRows
import Derived.Test.YtenbomfoihajhaaPlain
import Derived.WalkKit
import Derived.WalkSpells
import Derived.WalkLawsBesides
import Derived.Deep.RegionLaw
import Derived.Deep.QuietTactic
import Derived.BigQuiet
import Derived.OpenShut
set_option linter.unusedVariables false
set_option linter.unusedSimpArgs false
set_option maxRecDepth 8000
namespace Go.Proofs.Ytenbomfoihajhaa
open Go.RowKit

theorem ret_int {k : IntKind} {a b : Int} (h : a = b) : Ending.returned (.int k a) = .returned (.int k b) := by rw [h]
theorem ret_bool {a b : Bool} (h : a = b) : Ending.returned (.bool a) = .returned (.bool b) := by rw [h]

theorem hide {p : Prop} (h : p) : Hid p := h
theorem unhide {p : Prop} (h : Hid p) : p := h

def mk32 (d : Nat) : Value := .int .u32 d
def mk64 (d : Nat) : Value := .int .u64 d
def mkB (d : Nat) : Value := .bool (d == 1)

/-- The slice value v reads, in the world w, as the digits l. -/
def Rd (mk : Nat → Value) (w : World) (v : Value) (l : List Nat) : Prop :=
  ∃ ao cap, v = .slice ao l.length cap ∧ l.length ≤ cap ∧ cap ≤ maxLen ∧
    (l.length = 0 ∨ ∃ b off, ao = some ⟨b, off, none⟩ ∧ b < w.heap.size ∧ ∀ i, i < l.length → w.cell? ⟨b, off + i, none⟩ = some (mk (Plain.dg l i)))

theorem Rd.below {mk : Nat → Value} {w w' : World} {v : Value} {l : List Nat} (h : Rd mk w v l) (hb : Below w.heap.size w w') : Rd mk w' v l := by
  obtain ⟨ao, cap, rfl, hc, hm, h⟩ := h
  refine ⟨ao, cap, rfl, hc, hm, ?_⟩
  rcases h with h | ⟨b, off, rfl, hlt, hcell⟩
  · exact .inl h
  · refine .inr ⟨b, off, rfl, Nat.lt_of_lt_of_le hlt hb.size, fun i hi => ?_⟩
    rw [hb.cell (p := ⟨b, off + i, none⟩) hlt]
    exact hcell i hi

theorem Rd.drew {mk : Nat → Value} {w : World} {v : Value} {l : List Nat} (h : Rd mk w v l) : Rd mk w.drew v l := h
theorem Rd.drewN {mk : Nat → Value} {w : World} {v : Value} {l : List Nat} (h : Rd mk w v l) (q : Nat) : Rd mk (w.drewN q) v l := h

theorem below_trans {a b c : World} (h : Below a.heap.size a b) (k : Below b.heap.size b c) : Below a.heap.size a c :=
  h.trans (k.mono h.size)

theorem Rd.nil (mk : Nat → Value) (w : World) : Rd mk w (.slice none 0 0) [] := ⟨none, 0, rfl, Nat.le_refl _, by simp [maxLen], .inl rfl⟩

/-- What the call owns reads as what it holds. -/
theorem Rd.of_owns {mk : Nat → Value} {w : World} {base : Nat} {e : TypeId} {v : Value} {l : List Nat} (h : w.ownsRow base e 1 v l.length (l.map mk)) : Rd mk w v l := by
  rcases h.2 with ⟨rfl, h0⟩ | ⟨g, cap, cur, rfl, hb, hg, hn, hm, hs, ht⟩
  · cases l with
    | nil => exact Rd.nil mk w
    | cons a l => simp at h0
  · refine ⟨_, cap, rfl, hn, hm, .inr ⟨g, 0, rfl, (Array.getElem?_eq_some_iff.1 hg).1, fun i hi => ?_⟩⟩
    have hc := h.cells (g := g) rfl i (mk (Plain.dg l i)) (by simp [hi, Plain.dg])
    have hadd : (⟨g, 0, none⟩ : Addr).add i = ⟨g, 0 + i, none⟩ := by unfold Addr.add; split <;> simp_all
    rw [hadd] at hc
    exact hc

/-- A slice cut at its end. -/
theorem Rd.take {mk : Nat → Value} {w : World} {ao : Option Addr} {cap : Nat} {l : List Nat} (h : Rd mk w (.slice ao l.length cap) l) (n : Nat) (hn : n ≤ l.length) : Rd mk w (.slice ao n cap) (l.take n) := by
  obtain ⟨ao', cap', he, hc, hm, h⟩ := h
  simp only [Value.slice.injEq, true_and] at he
  obtain ⟨rfl, rfl⟩ := he
  have hl : (l.take n).length = n := by simp; omega
  refine ⟨ao, cap, by rw [hl], by omega, hm, ?_⟩
  rw [hl]
  rcases h with h | ⟨b, off, rfl, hlt, hcell⟩
  · exact .inl (by omega)
  · refine .inr ⟨b, off, rfl, hlt, fun i hi => ?_⟩
    rw [hcell i (by omega)]
    rw [Plain.getD_take, if_pos hi]

theorem ownsRow_drew {w : World} {base : Nat} {e : TypeId} {size : Nat} {v : Value} {n : Nat} {xs : List Value} (h : w.ownsRow base e size v n xs) : w.drew.ownsRow base e size v n xs := h

/-- 'out = append(out, x)', out the call's own: one digit more. -/
theorem wpList_app1 {P : Program} {ops : Array Oper} {rest : List Oper} {o : Oper} {a : Act} {Q : Exit → Act → World → Prop} (w0 wr : World) (hgd : o.guard = none) (s x : Operand) (t : TypeId)
    (ho : o.op = .call { callee := .builtin .append, args := #[s, x], argTypes := #[t, t] })
    (base : Nat) (e : TypeId) (i : TypeInfo) (z : Value) (bytes : Nat) (ht : P.underlying t = some (.slice e)) (hi : P.info? e = some i) (hz : i.zero = some z)
    (hsize : i.size = 1) (hby : i.bytes = bytes) (hzs : z.cells.size = 1)
    (mk : Nat → Value) (v : Value) (n : Nat) (l : List Nat) (hs : a.eval s = v) (hown : wr.ownsRow base e 1 v n (l.map mk)) (hbel : Below base w0 wr)
    (y : Value) (d : Nat) (hy : y = mk d) (h1 : y.oneCell' = true) (hx : a.eval x = .slice (some ⟨wr.heap.size, 0, none⟩) 1 1)
    (h63 : n + 1 ≤ 9223372036854775807) (hbytes : (n + 1) * bytes ≤ 140737488355328) (hbase : base ≤ wr.heap.size)
    (h : ∀ v' w', w'.ownsRow base e 1 v' (n + 1) ((l ++ [d]).map mk) → Below base w0 w' → wpList P ops Q rest (a.put o.dst v') w') :
    wpList P ops Q (o :: rest) a (wr.alloc (.cells #[y] e)) := by
  refine wpList_append_own _ hgd s x t ho base e i z 1 bytes ht hi hz hsize hby hzs (by decide) v n (l.map mk) hs (hown.alloc _) ⟨wr.heap.size, 0, none⟩ 1 1 [y] hx rfl ?_ ?_ (by unfold maxLen; omega) hbytes (by simp; omega) ?_
  · intro j u hj
    match j, hj with
    | 0, hj => simp at hj; subst hj; simp [Addr.add]
  · intro u hu; simp at hu; subst hu; exact h1
  · intro v' w' ho' hg _
    refine h v' w' (by rw [List.map_append, List.map_singleton, ← hy]; exact ho') ?_
    refine (hbel.alloc hbase _).grown hg (by simp; omega) ?_
    intro k hk
    exact (hown.lt k hk).1

/-- The same behind a draw. -/
theorem wpList_app1d {P : Program} {ops : Array Oper} {rest : List Oper} {o : Oper} {a : Act} {Q : Exit → Act → World → Prop} (w0 wr : World) (hgd : o.guard = none) (s x : Operand) (t : TypeId)
    (ho : o.op = .call { callee := .builtin .append, args := #[s, x], argTypes := #[t, t] })
    (base : Nat) (e : TypeId) (i : TypeInfo) (z : Value) (bytes : Nat) (ht : P.underlying t = some (.slice e)) (hi : P.info? e = some i) (hz : i.zero = some z)
    (hsize : i.size = 1) (hby : i.bytes = bytes) (hzs : z.cells.size = 1)
    (mk : Nat → Value) (v : Value) (n : Nat) (l : List Nat) (hs : a.eval s = v) (hown : wr.ownsRow base e 1 v n (l.map mk)) (hbel : Below base w0 wr)
    (y : Value) (d : Nat) (hy : y = mk d) (h1 : y.oneCell' = true) (hx : a.eval x = .slice (some ⟨wr.heap.size, 0, none⟩) 1 1)
    (h63 : n + 1 ≤ 9223372036854775807) (hbytes : (n + 1) * bytes ≤ 140737488355328) (hbase : base ≤ wr.heap.size)
    (h : ∀ v' w', w'.ownsRow base e 1 v' (n + 1) ((l ++ [d]).map mk) → Below base w0 w' → wpList P ops Q rest (a.put o.dst v') w') :
    wpList P ops Q (o :: rest) a (wr.alloc (.cells #[y] e)).drew :=
  wpList_app1 w0 wr.drew hgd s x t ho base e i z bytes ht hi hz hsize hby hzs mk v n l hs (ownsRow_drew hown) hbel.drew y d hy h1 hx h63 hbytes hbase h

/-- 'out = append(out, x, y ..)', out the call's own, as one step of a region that draws its order. -/
theorem step_app {P : Program} {ops : Array Oper} {o : Oper} {a : Act} {K : Act → World → Prop} {Q : Exit → Act → World → Prop} {E : Prop} (w0 wr : World)
    (hg : o.guard = none) (s x : Operand) (t : TypeId) (hop : o.op = Op.call { callee := Callee.builtin Builtin.append, args := #[s, x], argTypes := #[t, t] })
    (base : Nat) (e : TypeId) (i : TypeInfo) (z : Value) (bytes : Nat) (ht : P.underlying t = some (.slice e)) (hi : P.info? e = some i) (hz : i.zero = some z)
    (hsize : i.size = 1) (hby : i.bytes = bytes) (hzs : z.cells.size = 1)
    (mk : Nat → Value) (v : Value) (n : Nat) (l : List Nat) (hs : a.eval s = v) (hown : wr.ownsRow base e 1 v n (l.map mk)) (hbel : Below base w0 wr)
    (ys : List Value) (ds : List Nat) (hy : ys = ds.map mk) (hmk : ∀ d, (mk d).oneCell' = true) (c : Nat) (hx : a.eval x = .slice (some ⟨wr.heap.size, 0, none⟩) ds.length c)
    (h63 : n + ds.length ≤ 9223372036854775807) (hbytes : (n + ds.length) * bytes ≤ 140737488355328) (hbase : base ≤ wr.heap.size)
    (hK : ∀ v' w', w'.ownsRow base e 1 v' (n + ds.length) ((l ++ ds).map mk) → Below base w0 w' → K (a.put o.dst v') w') :
    if Region.wanted o (yielded ops a.tmps) = true then Oper.wp P o a (wr.alloc (.cells ys.toArray e)) K Q else E := by
  have hw : Region.wanted o (yielded ops a.tmps) = true := by simp [Region.wanted, hg]
  rw [if_pos hw]
  have hlen : ys.length = ds.length := by rw [hy]; simp
  have h1 : ∀ u ∈ ys, u.oneCell' = true := by
    intro u hu
    rw [hy] at hu
    obtain ⟨d, _, rfl⟩ := List.mem_map.1 hu
    exact hmk d
  have hcell : ∀ j u, ys[j]? = some u → (wr.alloc (.cells ys.toArray e)).cell? ((⟨wr.heap.size, 0, none⟩ : Addr).add j) = some u := by
    intro j u hj
    have hadd : (⟨wr.heap.size, 0, none⟩ : Addr).add j = ⟨wr.heap.size, j, none⟩ := by unfold Addr.add; split <;> simp_all
    rw [hadd, cell_of_row _ wr.heap.size j ys.toArray e (0, 0) (heap_alloc_new wr _)]
    simpa using hj
  obtain ⟨v', w', hr, h2, h3, _⟩ := run_append_own (P := P) (wr.alloc (.cells ys.toArray e)) base t o.type e i z 1 bytes ht hi hz hsize hby hzs (by decide) v n (l.map mk) (hown.alloc _) ⟨wr.heap.size, 0, none⟩ ds.length c ys (by omega) hcell h1 (by unfold maxLen; omega) hbytes (by simp; omega)
  unfold Oper.wp
  simp [execOp, hop, resolve, invoke, builtin, hs, hx, hr, Result.andThen]
  refine hK v' w' (by rw [List.map_append, ← hy]; exact h2) ?_
  refine (hbel.alloc hbase _).grown h3 (by simp; omega) ?_
  intro k hk
  exact (hown.lt k hk).1

theorem below_drewN' {B : Nat} {a w : World} (h : Below B a w) (n : Nat) : Below B a (w.drewN n) := h.trans ⟨rfl, rfl, rfl, Nat.le_refl _, fun _ _ => rfl⟩
theorem ownsRow_drewN {w : World} {base : Nat} {e : TypeId} {size : Nat} {v : Value} {n : Nat} {xs : List Value} (h : w.ownsRow base e size v n xs) (q : Nat) : (w.drewN q).ownsRow base e size v n xs := h

theorem u64_nat {a : Int} (h : (Lit.int .u64 a).wf = true) : ∃ x : Nat, a = (x : Int) ∧ x < 18446744073709551616 := by
  simp only [Lit.wf, Bool.and_eq_true, decide_eq_true_eq] at h
  have hmin : IntKind.u64.min = 0 := rfl
  have hmax : IntKind.u64.max = 18446744073709551615 := rfl
  exact ⟨a.toNat, by omega, by omega⟩

theorem u16_nat {a : Int} (h : (Lit.int .u16 a).wf = true) : ∃ x : Nat, a = (x : Int) ∧ x < 65536 := by
  simp only [Lit.wf, Bool.and_eq_true, decide_eq_true_eq] at h
  have hmin : IntKind.u16.min = 0 := rfl
  have hmax : IntKind.u16.max = 65535 := rfl
  exact ⟨a.toNat, by omega, by omega⟩
theorem i64_bd {a : Int} (h : (Lit.int .i64 a).wf = true) : -9223372036854775808 ≤ a ∧ a ≤ 9223372036854775807 := by
  simp only [Lit.wf, Bool.and_eq_true, decide_eq_true_eq] at h
  have hmin : IntKind.i64.min = -9223372036854775808 := rfl
  have hmax : IntKind.i64.max = 9223372036854775807 := rfl
  omega

/-- What a law's frame tells of a slice of integers that came in. -/
def IsRow (k : IntKind) (w : World) (a : Option Addr) (len cap : Nat) (zs : List Int) : Prop :=
  (a = none ∧ len = 0 ∧ cap = 0 ∧ zs = []) ∨
  ∃ x, a = some x ∧ len ≤ cap ∧ cap ≤ maxLen ∧ zs.length = cap ∧ (∀ i, i < zs.length → w.cell? (x.add i) = some (.int k (zs.getD i 0))) ∧ ∀ n ∈ zs, (Lit.int k n).wf = true

theorem IsRow.rd {w : World} {a : Option Addr} {len cap : Nat} {zs : List Int} (h : IsRow .u64 w a len cap zs) :
    ∃ l n, l.length = len ∧ Rd mk64 w (.slice a len cap) l ∧ Plain.Dig 18446744073709551616 l n := by
  rcases h with ⟨rfl, rfl, rfl, rfl⟩ | ⟨x, rfl, hl, hm, hz, hcell, hwf⟩
  · exact ⟨[], 0, rfl, Rd.nil mk64 w, by decide, fun i => by simp [Plain.dg]⟩
  · have hlen : ((zs.take len).map Int.toNat).length = len := by simp; omega
    have hdg : ∀ i, i < len → ((Plain.dg ((zs.take len).map Int.toNat) i : Nat) : Int) = zs.getD i 0 ∧ Plain.dg ((zs.take len).map Int.toNat) i < 18446744073709551616 := by
      intro i hi
      have hi2 : i < zs.length := by omega
      obtain ⟨y, hy, hy2⟩ := u64_nat (hwf zs[i] (List.getElem_mem hi2))
      have e : Plain.dg ((zs.take len).map Int.toNat) i = y := by
        simp [Plain.dg, hi, hi2, hy]
      rw [e]
      simp [hi2, hy, hy2]
    refine ⟨(zs.take len).map Int.toNat, _, hlen, ?_, Plain.val_dig (by decide) _ ?_⟩
    · refine ⟨some x, cap, by rw [hlen], by rw [hlen]; exact hl, hm, ?_⟩
      rw [hlen]
      by_cases h0 : len = 0
      · exact .inl h0
      · obtain ⟨b, off, rfl, hc⟩ := ints_at hcell (by omega)
        refine .inr ⟨b, off, rfl, World.block_lt_of_cell? w ⟨b, off + 0, none⟩ (hc 0 (by omega)), fun i hi => ?_⟩
        rw [hc i (by omega)]
        unfold mk64
        rw [(hdg i hi).1]
    · intro i
      rcases Nat.lt_or_ge i len with h | h
      · exact (hdg i h).2
      · rw [Plain.getD_past _ _ (by omega)]; decide

/-- A slice literal. -/
theorem Rd.lit {mk : Nat → Value} (w : World) (e : TypeId) (xs : List Value) (ds : List Nat) (h : xs = ds.map mk) (c : Nat) (hc : ds.length ≤ c) (hm : c ≤ 1000) :
    Rd mk (w.alloc (.cells xs.toArray e)) (.slice (some ⟨w.heap.size, 0, none⟩) ds.length c) ds := by
  refine ⟨_, c, rfl, hc, by unfold maxLen; omega, .inr ⟨w.heap.size, 0, rfl, by simp, fun i hi => ?_⟩⟩
  rw [cell_of_row _ w.heap.size (0 + i) xs.toArray e (0, 0) (heap_alloc_new w _), h]
  simp [Plain.dg, hi]

theorem madeCells_one (z : Value) (hz : z.cells = #[z]) (n : Nat) : (madeCells z.cells (n * 1)).toList = List.replicate n z := by
  rw [hz]
  apply List.ext_getElem
  · simp [madeCells]
  · intro i h1 h2
    simp [madeCells, Nat.mod_one]

/-- 'make([]T, n)': n noughts. -/
theorem wpList_mk0 {P : Program} (w : World) {ops : Array Oper} {rest : List Oper} {o : Oper} {a : Act} {Q : Exit → Act → World → Prop}
    (hg : o.guard = none) (l c : Operand) (t : TypeId) (hop : o.op = Op.makeSlice t l c)
    (e : TypeId) (i : TypeInfo) (z : Value) (bytes : Nat) (h1 : P.underlying t = some (.slice e)) (h2 : P.info? e = some i) (h3 : i.zero = some z) (h4 : i.size = 1) (hby : i.bytes = bytes)
    (mk : Nat → Value) (hmk : mk 0 = z) (hcz : z.cells = #[z])
    (kl kc : IntKind) (L C : Int) (n : Nat) (hl : a.eval l = .int kl L) (hc : a.eval c = .int kc C) (hL : L = (n : Int)) (hC : C = (n : Int)) (b2 : bytes * n ≤ 281474976710656) (b3 : n ≤ 9223372036854775807)
    (hK : ∀ w', w'.ownsRow w.heap.size e 1 (.slice (some ⟨w.heap.size, 0, none⟩) n n) n ((List.replicate n 0).map mk) → Below w.heap.size w w' → wpList P ops Q rest (a.put o.dst (.slice (some ⟨w.heap.size, 0, none⟩) n n)) w') :
    wpList P ops Q (o :: rest) a w := by
  refine wpList_make_full w hg l c t hop w.heap.size e i z 1 h1 h2 h3 h4 kl kc L C n hl hc hL hC (by rw [hby]; exact b2) (by unfold maxLen; omega) (Nat.le_refl _) ?_
  intro w' ho hgr
  refine hK w' ?_ ((Below.refl _ _).grown hgr (Nat.le_refl _) (fun k h => by cases h))
  rw [madeCells_one z hcz] at ho
  rw [List.map_replicate, hmk]
  exact ho

/-- A store into the call's own row. -/
theorem owns_store {w : World} {base g n : Nat} {e : TypeId} {cap : Nat} {mk : Nat → Value} {l : List Nat} (h : w.ownsRow base e 1 (.slice (some ⟨g, 0, none⟩) n cap) n (l.map mk)) (j d : Nat) {w0 : World} (hb : Below base w0 w) (hg : base ≤ g) :
    (w.setCell ⟨g, j, none⟩ (mk d)).ownsRow base e 1 (.slice (some ⟨g, 0, none⟩) n cap) n ((l.set j d).map mk) ∧ Below base w0 (w.setCell ⟨g, j, none⟩ (mk d)) := by
  have h2 := (h.stored j (mk d)).1
  rw [← List.map_set] at h2
  exact ⟨h2, hb.setCell hg _⟩

theorem owns_cell {w : World} {base g n : Nat} {e : TypeId} {cap : Nat} {mk : Nat → Value} {l : List Nat} (h : w.ownsRow base e 1 (.slice (some ⟨g, 0, none⟩) n cap) n (l.map mk)) (hl : l.length = n) (j : Nat) (hj : j < n) :
    w.cell? ⟨g, j, none⟩ = some (mk (Plain.dg l j)) := by
  rw [h.cellAt j (by omega)]
  simp [Plain.dg, hl, hj]

theorem owns_form {w : World} {base n : Nat} {e : TypeId} {v : Value} {xs : List Value} (h : w.ownsRow base e 1 v n xs) (hn : n ≠ 0) :
    ∃ g cap, v = .slice (some ⟨g, 0, none⟩) n cap ∧ base ≤ g ∧ n ≤ cap ∧ cap ≤ 9223372036854775807 := by
  rcases h.2 with ⟨_, h0⟩ | ⟨g, cap, cur, rfl, hb, hg, hn2, hm, hs, ht⟩
  · exact absurd h0 hn
  · exact ⟨g, cap, rfl, hb, hn2, by unfold maxLen at hm; omega⟩

/-- A slice cut at its head. -/
theorem Rd.drop {mk : Nat → Value} {w : World} {b off cap : Nat} {l : List Nat} (h : Rd mk w (.slice (some ⟨b, off, none⟩) l.length cap) l) (n : Nat) (hn : n < l.length) : Rd mk w (.slice (some ⟨b, off + n, none⟩) (l.length - n) (cap - n)) (l.drop n) := by
  obtain ⟨ao', cap', he, hc, hm, h⟩ := h
  simp only [Value.slice.injEq, true_and] at he
  obtain ⟨rfl, rfl⟩ := he
  have hl : (l.drop n).length = l.length - n := by simp
  refine ⟨_, cap - n, by rw [hl], by omega, by unfold maxLen at hm ⊢; omega, ?_⟩
  rw [hl]
  rcases h with h | ⟨b', off', he, hlt, hcell⟩
  · omega
  · simp only [Option.some.injEq, Addr.mk.injEq, and_true] at he
    obtain ⟨rfl, rfl⟩ := he
    refine .inr ⟨b, off + n, rfl, hlt, fun i hi => ?_⟩
    rw [show off + n + i = off + (n + i) by omega, hcell (n + i) (by omega)]
    congr 2
    simp [Plain.dg]

/-- 'append(v, b...)', v the call's own, b whatever slice. -/
theorem wpList_appS {P : Program} {ops : Array Oper} {rest : List Oper} {o : Oper} {a : Act} {Q : Exit → Act → World → Prop} (w0 wr : World) (hgd : o.guard = none) (s x : Operand) (t : TypeId)
    (ho : o.op = .call { callee := .builtin .append, args := #[s, x], argTypes := #[t, t] })
    (base : Nat) (e : TypeId) (i : TypeInfo) (z : Value) (bytes : Nat) (ht : P.underlying t = some (.slice e)) (hi : P.info? e = some i) (hz : i.zero = some z)
    (hsize : i.size = 1) (hby : i.bytes = bytes) (hzs : z.cells.size = 1)
    (mk : Nat → Value) (hmk : ∀ d, (mk d).oneCell' = true) (v : Value) (n : Nat) (l : List Nat) (hs : a.eval s = v) (hown : wr.ownsRow base e 1 v n (l.map mk)) (hbel : Below base w0 wr)
    (vb : Value) (lb : List Nat) (hx : a.eval x = vb) (hrd : Rd mk wr vb lb)
    (h63 : n + lb.length ≤ 9223372036854775807) (hbytes : (n + lb.length) * bytes ≤ 140737488355328) (hbase : base ≤ wr.heap.size)
    (h : ∀ v' w', w'.ownsRow base e 1 v' (n + lb.length) ((l ++ lb).map mk) → Below base w0 w' → wpList P ops Q rest (a.put o.dst v') w') :
    wpList P ops Q (o :: rest) a wr := by
  obtain ⟨ao, cap, rfl, hc, hm, hr⟩ := hrd
  cases ao with
  | none =>
    have hl0 : lb.length = 0 := by
      rcases hr with hr | ⟨b, off, hh, _⟩
      · exact hr
      · cases hh
    have hnil : lb = [] := List.eq_nil_of_length_eq_zero hl0
    subst hnil
    have hrun : (Builtin.append_ #[t, t] o.type #[v, .slice none 0 cap]).run P wr = .ok v wr := by
      rcases hown.2 with ⟨rfl, rfl⟩ | ⟨g, cap2, cur, rfl, _, _, hnc, _⟩
      · simp [Builtin.append_, run_underlying ht, sizeOf, typeInfo, hi, Builtin.lenOf, Builtin.firstCells]
      · simp [Builtin.append_, run_underlying ht, sizeOf, typeInfo, hi, Builtin.lenOf, Builtin.firstCells, hnc, storeCells]
    refine wpList_plain hgd fun K hK => ?_
    have hx2 : a.eval x = .slice none 0 cap := hx
    unfold Oper.wp
    simp [execOp, ho, resolve, invoke, builtin, hs, hx2, hrun, Result.andThen]
    exact hK _ _ (h v wr (by simpa using hown) hbel)
  | some ad =>
    refine wpList_append_own _ hgd s x t ho base e i z 1 bytes ht hi hz hsize hby hzs (by decide) v n (l.map mk) hs hown ad lb.length cap (lb.map mk) hx (by simp) ?_ ?_ (by unfold maxLen; omega) hbytes hbase ?_
    · intro j u hj
      rcases hr with hr | ⟨b, off, he, hlt, hcell⟩
      · have : lb = [] := List.eq_nil_of_length_eq_zero hr
        subst this
        simp at hj
      · simp only [Option.some.injEq] at he
        subst he
        have hjl : j < lb.length := by
          have := (List.getElem?_eq_some_iff.1 hj).1
          simpa using this
        have hadd : (⟨b, off, none⟩ : Addr).add j = ⟨b, off + j, none⟩ := by unfold Addr.add; split <;> simp_all
        rw [hadd, hcell j hjl]
        rw [← hj]
        simp [Plain.dg, hjl]
    · intro u hu
      obtain ⟨d, _, rfl⟩ := List.mem_map.1 hu
      exact hmk d
    · intro v' w' ho' hg _
      refine h v' w' (by rw [List.map_append]; exact ho') ?_
      exact hbel.grown hg hbase (fun k hk => (hown.lt k hk).1)

theorem grownBy_trans {a b c : World} {row : Option Nat} (h : a.grownBy b row) (k : b.grownBy c row) : a.grownBy c row :=
  ⟨k.os.trans h.os, k.tape.trans h.tape, k.output.trans h.output, Nat.le_trans h.size k.size, fun i hi hr => (k.block i (Nat.lt_of_lt_of_le hi h.size) hr).trans (h.block i hi hr)⟩
theorem grownBy_refl (a : World) (row : Option Nat) : a.grownBy a row := ⟨rfl, rfl, rfl, Nat.le_refl _, fun _ _ _ => rfl⟩
theorem grownBy_of_below {a b : World} (h : Below a.heap.size a b) (row : Option Nat) : a.grownBy b row := ⟨h.os, h.tape, h.output, h.size, fun i hi _ => h.block i hi⟩
theorem grownBy_then {a b c : World} {row : Option Nat} {B : Nat} (h : a.grownBy b row) (hB : a.heap.size ≤ B) (k : Below B b c) : a.grownBy c row :=
  ⟨k.os.trans h.os, k.tape.trans h.tape, k.output.trans h.output, Nat.le_trans h.size k.size, fun i hi hr => (k.block i (by omega)).trans (h.block i hi hr)⟩
theorem below_of_grownBy {a b : World} {row : Option Nat} (h : a.grownBy b row) {B : Nat} (hB : B ≤ a.heap.size) (hr : ∀ k, row = some k → B ≤ k) : Below B a b :=
  ⟨h.os, h.tape, h.output, h.size, fun i hi => h.block i (by omega) (fun e => by have := hr i e.symm; omega)⟩

end Go.Proofs.Ytenbomfoihajhaa
