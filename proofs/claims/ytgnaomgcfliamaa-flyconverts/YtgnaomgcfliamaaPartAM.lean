/- Contracts and laws: ProdC, ProdD, ProdE, GrowP, FlyN, FlyA, FlyB, FlyC, FlyD, FlyE, FlyF, FlyI, FlyJ. -/
import Derived.Test.YtgnaomgcfliamaaPartAL
import Derived.Test.YtgnaomgcfliamaaPartAK
import Derived.Test.YtgnaomgcfliamaaPartAJ
import Derived.Test.YtgnaomgcfliamaaPartAG
/- Contracts: prod.halves, prod.all. -/
set_option linter.unusedVariables false
set_option linter.unusedSimpArgs false
set_option maxRecDepth 8000
namespace Go.Proofs.Ytgnaomgcfliamaa
open Go.RowKit Plain

theorem lies_ne {W : World} {b B : Nat} {f : Nat → Nat} {x0 x1 x2 x3 x4 x5 x6 x7 : Value} (h : LiesF W b f) (hne : b ≠ B) : LiesF ((((((((W.setCell ⟨B, 0, none⟩ x0).setCell ⟨B, 1, none⟩ x1).setCell ⟨B, 2, none⟩ x2).setCell ⟨B, 3, none⟩ x3).setCell ⟨B, 4, none⟩ x4).setCell ⟨B, 5, none⟩ x5).setCell ⟨B, 6, none⟩ x6).setCell ⟨B, 7, none⟩ x7) b f := by
  refine ⟨fun i hi => ?_, by simpa using h.2⟩
  have := h.1 i hi
  simp [go_sem, this, hne]
end Go.Proofs.Ytgnaomgcfliamaa

/- Contracts: prod.Mul, Square, Small. -/
set_option linter.unusedVariables false
set_option linter.unusedSimpArgs false
set_option maxRecDepth 8000
namespace Go.Proofs.Ytgnaomgcfliamaa
open Go.RowKit Plain

theorem dgl_z : (dgl 0) = fun _ => 0 := funext dgl_zero
theorem wide_eqz {a : Nat} (ha : a < QQ) (w : World) : (Op.equalIn 10000 26 (.agg #[.int .u64 (dgl (a) 0 : Nat), .int .u64 (dgl (a) 1 : Nat), .int .u64 (dgl (a) 2 : Nat), .int .u64 (dgl (a) 3 : Nat), .int .u64 (dgl (a) 4 : Nat), .int .u64 (dgl (a) 5 : Nat), .int .u64 (dgl (a) 6 : Nat), .int .u64 (dgl (a) 7 : Nat)]) (.agg #[.int .u64 0, .int .u64 0, .int .u64 0, .int .u64 0, .int .u64 0, .int .u64 0, .int .u64 0, .int .u64 0])).run Try.prog w = .ok (decide (a = 0)) w := by
  have h := wide_eqb ha (show 0 < QQ by omega) w
  simp only [dgl_zero] at h
  exact h
end Go.Proofs.Ytgnaomgcfliamaa

/- Contracts: prod.Square, Small, Sum. -/
set_option linter.unusedVariables false
set_option linter.unusedSimpArgs false
set_option maxRecDepth 8000
namespace Go.Proofs.Ytgnaomgcfliamaa
open Go.RowKit Plain

def SlotIs.rd (l : List Nat) : SlotIs := ⟨fun v w => Rd mk64 w v l, fun v w w' hb h => h.below hb⟩

end Go.Proofs.Ytgnaomgcfliamaa

/- Picks whose constant stands first; slices of wides across stores. -/
set_option linter.unusedVariables false
set_option linter.unusedSimpArgs false
set_option maxRecDepth 8000
namespace Go.Proofs.Ytgnaomgcfliamaa
open Go.RowKit Plain

section
variable {ops : Array Oper} {a : Act} {T : List (Nat × SlotIs)} {C : World → Prop} {o : Oper}
theorem gRun_pickCF {looks : List Tmp} (c y d : Tmp) (x : Operand) (ho : o.op = .pick (.tmp c) x (.tmp y)) (hd : o.dst = some d) (hcm : c ∈ looks) (hym : y ∈ looks)
    (hT : ∀ v w, tbl a c T v w → v = .bool false) (h : ∀ v w, tbl a y T v w → tbl a d T v w) : gRun a T C o looks := by
  intro ρ w hC hc hf hL
  have hr : (execOp ρ o).run Try.prog w = .ok (.value (ρ (.tmp y))) w := by
    obtain ⟨dst, op, type, pos, after, guard⟩ := o
    simp only at ho; subst ho
    have := hT _ _ (hL c hcm)
    simp [execOp, this, go_sem]
  rw [hr]
  refine ⟨Below.refl _ _, ?_⟩
  rw [hd]
  exact h _ _ (hL y hym)
end

end Go.Proofs.Ytgnaomgcfliamaa

/- Numbers of the fly laws: whole numbers modulo 2^512, digits of either sign. -/
set_option linter.unusedVariables false
set_option linter.unusedSimpArgs false
set_option maxRecDepth 8000
namespace Go.Proofs.Ytgnaomgcfliamaa
open Go.RowKit Plain

theorem qq_pos : 0 < QQ := by decide +kernel
theorem qq_big : 1000 < QQ := by decide +kernel
/-- A whole number modulo 2^512. -/
def qz (z : Int) : Nat := (z % (QQ : Int)).toNat
theorem qz_int (z : Int) : ((qz z : Nat) : Int) = z % (QQ : Int) := by
  unfold qz
  have h := Int.emod_nonneg z (b := (QQ : Int)) (by have := qq_pos; omega)
  omega
theorem qz_lt (z : Int) : qz z < QQ := by
  have h := Int.emod_lt_of_pos z (b := (QQ : Int)) (by have := qq_pos; omega)
  have h2 := qz_int z
  omega
theorem qz_of {x : Nat} {z : Int} (k : Int) (h : (x : Int) = z + (QQ : Int) * k) : qz z = x % QQ := by
  apply Int.natCast_inj.1
  rw [qz_int, Int.natCast_emod, h, Int.add_mul_emod_self_left]
theorem qz_nat {x : Nat} (h : x < QQ) : qz (x : Int) = x := by
  have := qz_of (x := x) (z := (x : Int)) 0 (by omega)
  rw [this, Nat.mod_eq_of_lt h]
theorem qz_zero : qz 0 = 0 := by
  have := qz_nat (x := 0) qq_pos
  simpa using this
theorem qz_split (z : Int) : ∃ k : Int, ((qz z : Nat) : Int) = z + (QQ : Int) * k :=
  ⟨-(z / (QQ : Int)), by rw [qz_int, Int.emod_def, Int.mul_neg]; omega⟩
theorem sub_one (q : Nat) (hq : q < QQ) : subQ q 1 = qz ((q : Int) - 1) := by
  have h := subW_eq (β := 18446744073709551616) (by decide) 8 q 1
  have h1 : (1 : Nat) % 18446744073709551616 ^ 8 = 1 := by decide +kernel
  have h2 : q % 18446744073709551616 ^ 8 = q := Nat.mod_eq_of_lt hq
  rw [h1, h2] at h
  have h4 : subQ q 1 + 1 = q + QQ * bor 18446744073709551616 q 1 8 := h
  have h3 := qz_of (x := subQ q 1) (z := (q : Int) - 1) (bor 18446744073709551616 q 1 8 : Nat) (by
    have h5 : ((subQ q 1 + 1 : Nat) : Int) = ((q + QQ * bor 18446744073709551616 q 1 8 : Nat) : Int) := congrArg _ h4
    push_cast at h5
    omega)
  rw [h3, Nat.mod_eq_of_lt (subQ_lt q 1)]
theorem beh_eq (u : Int) (y : Nat) : (qz u * 2 ^ 2 % QQ + y) % QQ = qz (4 * u + y) % QQ := by
  rw [Nat.mod_add_mod, Nat.mod_eq_of_lt (qz_lt _)]
  obtain ⟨k, hk⟩ := qz_split u
  refine (qz_of (4 * k) ?_).symm
  push_cast
  rw [hk, Int.mul_left_comm]
  omega
theorem w8_qz (u t : Int) (y : Nat) (h : 4 * u + y = t) : (#[.int .u64 (dgl (qz u * 2 ^ 2 % QQ + y) 0 : Nat), .int .u64 (dgl (qz u * 2 ^ 2 % QQ + y) 1 : Nat), .int .u64 (dgl (qz u * 2 ^ 2 % QQ + y) 2 : Nat), .int .u64 (dgl (qz u * 2 ^ 2 % QQ + y) 3 : Nat), .int .u64 (dgl (qz u * 2 ^ 2 % QQ + y) 4 : Nat), .int .u64 (dgl (qz u * 2 ^ 2 % QQ + y) 5 : Nat), .int .u64 (dgl (qz u * 2 ^ 2 % QQ + y) 6 : Nat), .int .u64 (dgl (qz u * 2 ^ 2 % QQ + y) 7 : Nat)] : Array Value) = #[.int .u64 (dgl (qz t) 0 : Nat), .int .u64 (dgl (qz t) 1 : Nat), .int .u64 (dgl (qz t) 2 : Nat), .int .u64 (dgl (qz t) 3 : Nat), .int .u64 (dgl (qz t) 4 : Nat), .int .u64 (dgl (qz t) 5 : Nat), .int .u64 (dgl (qz t) 6 : Nat), .int .u64 (dgl (qz t) 7 : Nat)] := by
  rw [← h]
  exact w8_mod (beh_eq u y)
theorem w8_mod1 (x : Nat) : (#[.int .u64 (dgl (x) 0 : Nat), .int .u64 (dgl (x) 1 : Nat), .int .u64 (dgl (x) 2 : Nat), .int .u64 (dgl (x) 3 : Nat), .int .u64 (dgl (x) 4 : Nat), .int .u64 (dgl (x) 5 : Nat), .int .u64 (dgl (x) 6 : Nat), .int .u64 (dgl (x) 7 : Nat)] : Array Value) = #[.int .u64 (dgl (x % QQ) 0 : Nat), .int .u64 (dgl (x % QQ) 1 : Nat), .int .u64 (dgl (x % QQ) 2 : Nat), .int .u64 (dgl (x % QQ) 3 : Nat), .int .u64 (dgl (x % QQ) 4 : Nat), .int .u64 (dgl (x % QQ) 5 : Nat), .int .u64 (dgl (x % QQ) 6 : Nat), .int .u64 (dgl (x % QQ) 7 : Nat)] := w8_mod (Nat.mod_mod x QQ).symm

/-- A digit of either sign, kept as a number. -/
def zof (x : Nat) : Int := (x : Int) - 9223372036854775808
def nof (z : Int) : Nat := (z + 9223372036854775808).toNat
def mkZ (x : Nat) : Value := .int .i64 (zof x)
theorem zof_nof {z : Int} (h : -9223372036854775808 ≤ z) : zof (nof z) = z := by unfold zof nof; omega
theorem mkZ_nof {z : Int} (h : -9223372036854775808 ≤ z) : mkZ (nof z) = .int .i64 z := by unfold mkZ; rw [zof_nof h]
/-- Is a number a digit? -/
def isD (z : Int) : Bool := decide (-3 ≤ z) && decide (z ≤ 3)
theorem isD_iff {z : Int} : isD z = true ↔ -3 ≤ z ∧ z ≤ 3 := by unfold isD; simp
/-- The first k digits' number: what is above 0, what is below, both. -/
def pP (l : List Nat) : Nat → Nat
  | 0 => 0
  | k + 1 => pP l k * 2 ^ 2 + (zof (dg l k)).toNat
def pM (l : List Nat) : Nat → Nat
  | 0 => 0
  | k + 1 => pM l k * 2 ^ 2 + (-(zof (dg l k))).toNat
def pZ (l : List Nat) : Nat → Int
  | 0 => 0
  | k + 1 => 4 * pZ l k + zof (dg l k)
theorem pZ_eq (l : List Nat) : ∀ k, pZ l k = (pP l k : Int) - (pM l k : Int)
  | 0 => rfl
  | k + 1 => by
    have ih := pZ_eq l k
    simp only [pZ, pP, pM]
    push_cast
    omega
end Go.Proofs.Ytgnaomgcfliamaa

/- Contracts: fly.known, behind, New, Next. -/
set_option linter.unusedVariables false
set_option linter.unusedSimpArgs false
set_option maxRecDepth 8000
namespace Go.Proofs.Ytgnaomgcfliamaa
open Go.RowKit Plain

theorem known_any (d : Int) (w : World) : Calls Try.prog 27 #[.int .i64 d] w fun e w' => e = .returned (.bool (isD d)) ∧ w' = w := by
  have HR : Hid (∀ b, decide (-3 ≤ d) = b → isD d = (b && decide (d ≤ 3))) := fun b hb => by rw [← hb]; rfl
  go_enter Try.func27, Try.ntmps27
  by_cases h : -3 ≤ d
  · have HF := hide (HR.out true (decide_eq_true h))
    go_wp2
    go_ret
    exact ⟨ret_bool HF.out.symm, rfl⟩
  · have HF := hide (HR.out false (decide_eq_false h))
    go_wp2
    go_ret
    exact ⟨ret_bool HF.out.symm, rfl⟩

theorem refIs_any (d : Int) (w : World) : Calls Try.prog 9 #[.int .i64 d] w fun e w' => e = .returned (.bool (isD d)) ∧ w' = w := by
  have HR : Hid (∀ b, decide (-3 ≤ d) = b → isD d = (b && decide (d ≤ 3))) := fun b hb => by rw [← hb]; rfl
  go_enter Try.func9, Try.ntmps9
  by_cases h : -3 ≤ d
  · have HF := hide (HR.out true (decide_eq_true h))
    go_wp2
    go_ret
    exact ⟨ret_bool HF.out.symm, rfl⟩
  · have HF := hide (HR.out false (decide_eq_false h))
    go_wp2
    go_ret
    exact ⟨ret_bool HF.out.symm, rfl⟩

theorem kclo_any (d : Int) (w : World) : Calls Try.prog 26 #[.int .i64 d] w fun e w' => e = .returned (.bool (!isD d)) ∧ w' = w := by
  have HK := hide (fun w => known_any d w)
  go_enter Try.func26, Try.ntmps26
  go_wp2_with fail
  refine (HK.out _).mono ?_
  rintro e w' ⟨rfl, hw⟩
  subst hw
  go_wp2
  go_ret
  exact ⟨rfl, rfl⟩

/-- A state lies in a block. -/
structure StB (W : World) (p q l : Nat) : Prop where
  lo : ∀ i, i < 8 → W.cell? ⟨p, i, none⟩ = some (.int .u64 (dgl q i : Nat))
  h0 : W.cell? ⟨p, 8, none⟩ = some (.int .u64 (dgl l 0 : Nat))
  h1 : W.cell? ⟨p, 9, none⟩ = some (.int .u64 (dgl l 1 : Nat))
  h2 : W.cell? ⟨p, 10, none⟩ = some (.int .u64 (dgl l 2 : Nat))
  h3 : W.cell? ⟨p, 11, none⟩ = some (.int .u64 (dgl l 3 : Nat))
  h4 : W.cell? ⟨p, 12, none⟩ = some (.int .u64 (dgl l 4 : Nat))
  h5 : W.cell? ⟨p, 13, none⟩ = some (.int .u64 (dgl l 5 : Nat))
  h6 : W.cell? ⟨p, 14, none⟩ = some (.int .u64 (dgl l 6 : Nat))
  h7 : W.cell? ⟨p, 15, none⟩ = some (.int .u64 (dgl l 7 : Nat))
  lt : p < W.heap.size
theorem StB.under {W W' : World} {p q l : Nat} (h : StB W p q l) {C : Nat} (hb : Below C W W') (hc : p < C) : StB W' p q l :=
  ⟨fun i hi => (hb.cell (p := ⟨p, i, none⟩) hc).trans (h.lo i hi), (hb.cell (p := ⟨p, 8, none⟩) hc).trans h.h0, (hb.cell (p := ⟨p, 9, none⟩) hc).trans h.h1, (hb.cell (p := ⟨p, 10, none⟩) hc).trans h.h2, (hb.cell (p := ⟨p, 11, none⟩) hc).trans h.h3, (hb.cell (p := ⟨p, 12, none⟩) hc).trans h.h4, (hb.cell (p := ⟨p, 13, none⟩) hc).trans h.h5, (hb.cell (p := ⟨p, 14, none⟩) hc).trans h.h6, (hb.cell (p := ⟨p, 15, none⟩) hc).trans h.h7, Nat.lt_of_lt_of_le h.lt hb.size⟩
theorem StB.below {W W' : World} {p q l : Nat} (h : StB W p q l) (hb : Below W.heap.size W W') : StB W' p q l := h.under hb h.lt
theorem stB_new (w : World) (q l : Nat) (e : TypeId) : StB (w.alloc (.cells #[.int .u64 (dgl (q) 0 : Nat), .int .u64 (dgl (q) 1 : Nat), .int .u64 (dgl (q) 2 : Nat), .int .u64 (dgl (q) 3 : Nat), .int .u64 (dgl (q) 4 : Nat), .int .u64 (dgl (q) 5 : Nat), .int .u64 (dgl (q) 6 : Nat), .int .u64 (dgl (q) 7 : Nat), .int .u64 (dgl (l) 0 : Nat), .int .u64 (dgl (l) 1 : Nat), .int .u64 (dgl (l) 2 : Nat), .int .u64 (dgl (l) 3 : Nat), .int .u64 (dgl (l) 4 : Nat), .int .u64 (dgl (l) 5 : Nat), .int .u64 (dgl (l) 6 : Nat), .int .u64 (dgl (l) 7 : Nat)] e)) w.heap.size q l := by
  refine ⟨fun i hi => ?_, by simp [go_sem], by simp [go_sem], by simp [go_sem], by simp [go_sem], by simp [go_sem], by simp [go_sem], by simp [go_sem], by simp [go_sem], by simp⟩
  rcases (show i = 0 ∨ i = 1 ∨ i = 2 ∨ i = 3 ∨ i = 4 ∨ i = 5 ∨ i = 6 ∨ i = 7 by omega) with rfl | rfl | rfl | rfl | rfl | rfl | rfl | rfl <;> simp [go_sem]

/-- What behind goes by: what it starts from, and its result. -/
structure BhSt (x : Nat) (w W : World) : Prop where
  lx : LiesF W (w.heap.size + 2) (dgl x)
  lr : LiesF W (w.heap.size + 1) (fun _ => 0)
  fr : ∀ i, W.frozen? ⟨w.heap.size + 1, i, none⟩ = false
  bel : Below w.heap.size w W
theorem BhSt.below {x : Nat} {w W W' : World} (h : BhSt x w W) (hb : Below W.heap.size W W') : BhSt x w W' :=
  ⟨h.lx.below hb, h.lr.below hb, fun i => (hb.frozen (p := ⟨w.heap.size + 1, i, none⟩) h.lr.2).trans (h.fr i), below_trans h.bel hb⟩

theorem bh_start (w : World) (x y z : Nat) (e1 e2 e3 : TypeId) : BhSt z w (((w.alloc (.cells #[.int .u64 (dgl (x) 0 : Nat), .int .u64 (dgl (x) 1 : Nat), .int .u64 (dgl (x) 2 : Nat), .int .u64 (dgl (x) 3 : Nat), .int .u64 (dgl (x) 4 : Nat), .int .u64 (dgl (x) 5 : Nat), .int .u64 (dgl (x) 6 : Nat), .int .u64 (dgl (x) 7 : Nat), .int .u64 (dgl (y) 0 : Nat), .int .u64 (dgl (y) 1 : Nat), .int .u64 (dgl (y) 2 : Nat), .int .u64 (dgl (y) 3 : Nat), .int .u64 (dgl (y) 4 : Nat), .int .u64 (dgl (y) 5 : Nat), .int .u64 (dgl (y) 6 : Nat), .int .u64 (dgl (y) 7 : Nat)] e1)).alloc (.cells #[.int .u64 0, .int .u64 0, .int .u64 0, .int .u64 0, .int .u64 0, .int .u64 0, .int .u64 0, .int .u64 0] e2)).alloc (.cells #[.int .u64 (dgl (z) 0 : Nat), .int .u64 (dgl (z) 1 : Nat), .int .u64 (dgl (z) 2 : Nat), .int .u64 (dgl (z) 3 : Nat), .int .u64 (dgl (z) 4 : Nat), .int .u64 (dgl (z) 5 : Nat), .int .u64 (dgl (z) 6 : Nat), .int .u64 (dgl (z) 7 : Nat)] e3)) := by
  have h1 := liesF_new ((w.alloc (.cells #[.int .u64 (dgl (x) 0 : Nat), .int .u64 (dgl (x) 1 : Nat), .int .u64 (dgl (x) 2 : Nat), .int .u64 (dgl (x) 3 : Nat), .int .u64 (dgl (x) 4 : Nat), .int .u64 (dgl (x) 5 : Nat), .int .u64 (dgl (x) 6 : Nat), .int .u64 (dgl (x) 7 : Nat), .int .u64 (dgl (y) 0 : Nat), .int .u64 (dgl (y) 1 : Nat), .int .u64 (dgl (y) 2 : Nat), .int .u64 (dgl (y) 3 : Nat), .int .u64 (dgl (y) 4 : Nat), .int .u64 (dgl (y) 5 : Nat), .int .u64 (dgl (y) 6 : Nat), .int .u64 (dgl (y) 7 : Nat)] e1)).alloc (.cells #[.int .u64 0, .int .u64 0, .int .u64 0, .int .u64 0, .int .u64 0, .int .u64 0, .int .u64 0, .int .u64 0] e2)) (dgl z) e3
  have h2 := (liesF_new (w.alloc (.cells #[.int .u64 (dgl (x) 0 : Nat), .int .u64 (dgl (x) 1 : Nat), .int .u64 (dgl (x) 2 : Nat), .int .u64 (dgl (x) 3 : Nat), .int .u64 (dgl (x) 4 : Nat), .int .u64 (dgl (x) 5 : Nat), .int .u64 (dgl (x) 6 : Nat), .int .u64 (dgl (x) 7 : Nat), .int .u64 (dgl (y) 0 : Nat), .int .u64 (dgl (y) 1 : Nat), .int .u64 (dgl (y) 2 : Nat), .int .u64 (dgl (y) 3 : Nat), .int .u64 (dgl (y) 4 : Nat), .int .u64 (dgl (y) 5 : Nat), .int .u64 (dgl (y) 6 : Nat), .int .u64 (dgl (y) 7 : Nat)] e1)) (fun _ => 0) e2).alloc (.cells #[.int .u64 (dgl (z) 0 : Nat), .int .u64 (dgl (z) 1 : Nat), .int .u64 (dgl (z) 2 : Nat), .int .u64 (dgl (z) 3 : Nat), .int .u64 (dgl (z) 4 : Nat), .int .u64 (dgl (z) 5 : Nat), .int .u64 (dgl (z) 6 : Nat), .int .u64 (dgl (z) 7 : Nat)] e3)
  rw [World.size_alloc, World.size_alloc] at h1
  rw [World.size_alloc] at h2
  exact ⟨h1, h2, fun i => by simp [go_sem], below_trans (below_trans (below_allocs _ _) (below_allocs _ _)) (below_allocs _ _)⟩

set_option maxHeartbeats 1000000 in
theorem behind_P (z m : Int) (hm : 0 ≤ m ∧ m ≤ 3) (w : World) :
    Calls Try.prog 33 #[.agg #[.int .u64 (dgl (qz z) 0 : Nat), .int .u64 (dgl (qz z) 1 : Nat), .int .u64 (dgl (qz z) 2 : Nat), .int .u64 (dgl (qz z) 3 : Nat), .int .u64 (dgl (qz z) 4 : Nat), .int .u64 (dgl (qz z) 5 : Nat), .int .u64 (dgl (qz z) 6 : Nat), .int .u64 (dgl (qz z) 7 : Nat), .int .u64 (dgl (qz (z - 1)) 0 : Nat), .int .u64 (dgl (qz (z - 1)) 1 : Nat), .int .u64 (dgl (qz (z - 1)) 2 : Nat), .int .u64 (dgl (qz (z - 1)) 3 : Nat), .int .u64 (dgl (qz (z - 1)) 4 : Nat), .int .u64 (dgl (qz (z - 1)) 5 : Nat), .int .u64 (dgl (qz (z - 1)) 6 : Nat), .int .u64 (dgl (qz (z - 1)) 7 : Nat)], .int .i64 m] w fun e w' => e = .returned (.agg #[.int .u64 (dgl (qz (4 * z + m)) 0 : Nat), .int .u64 (dgl (qz (4 * z + m)) 1 : Nat), .int .u64 (dgl (qz (4 * z + m)) 2 : Nat), .int .u64 (dgl (qz (4 * z + m)) 3 : Nat), .int .u64 (dgl (qz (4 * z + m)) 4 : Nat), .int .u64 (dgl (qz (4 * z + m)) 5 : Nat), .int .u64 (dgl (qz (4 * z + m)) 6 : Nat), .int .u64 (dgl (qz (4 * z + m)) 7 : Nat)]) ∧ Below w.heap.size w w' := by
  obtain ⟨y, hy⟩ : ∃ y : Nat, (y : Int) = m := ⟨(m).toNat, by omega⟩
  have hy4 : y < 4 := by omega
  have HF : Hid ((#[.int .u64 (dgl (qz z * 2 ^ 2 % QQ + y) 0 : Nat), .int .u64 (dgl (qz z * 2 ^ 2 % QQ + y) 1 : Nat), .int .u64 (dgl (qz z * 2 ^ 2 % QQ + y) 2 : Nat), .int .u64 (dgl (qz z * 2 ^ 2 % QQ + y) 3 : Nat), .int .u64 (dgl (qz z * 2 ^ 2 % QQ + y) 4 : Nat), .int .u64 (dgl (qz z * 2 ^ 2 % QQ + y) 5 : Nat), .int .u64 (dgl (qz z * 2 ^ 2 % QQ + y) 6 : Nat), .int .u64 (dgl (qz z * 2 ^ 2 % QQ + y) 7 : Nat)] : Array Value) = #[.int .u64 (dgl (qz (4 * z + m)) 0 : Nat), .int .u64 (dgl (qz (4 * z + m)) 1 : Nat), .int .u64 (dgl (qz (4 * z + m)) 2 : Nat), .int .u64 (dgl (qz (4 * z + m)) 3 : Nat), .int .u64 (dgl (qz (4 * z + m)) 4 : Nat), .int .u64 (dgl (qz (4 * z + m)) 5 : Nat), .int .u64 (dgl (qz (4 * z + m)) 6 : Nat), .int .u64 (dgl (qz (4 * z + m)) 7 : Nat)]) := w8_qz _ _ _ (by omega)
  have HC : Hid (IntKind.u64.wrap ((y : Int)) = (y : Int)) := by apply hide; rw [IntKind.wrap_u64]; omega
  have HSH : Hid (∀ w, Calls Try.prog 45 #[.agg #[.int .u64 (dgl (qz z) 0 : Nat), .int .u64 (dgl (qz z) 1 : Nat), .int .u64 (dgl (qz z) 2 : Nat), .int .u64 (dgl (qz z) 3 : Nat), .int .u64 (dgl (qz z) 4 : Nat), .int .u64 (dgl (qz z) 5 : Nat), .int .u64 (dgl (qz z) 6 : Nat), .int .u64 (dgl (qz z) 7 : Nat)], .int .i64 2] w fun e w' => e = .returned (.agg #[.int .u64 (dgl (qz z * 2 ^ 2 % QQ) 0 : Nat), .int .u64 (dgl (qz z * 2 ^ 2 % QQ) 1 : Nat), .int .u64 (dgl (qz z * 2 ^ 2 % QQ) 2 : Nat), .int .u64 (dgl (qz z * 2 ^ 2 % QQ) 3 : Nat), .int .u64 (dgl (qz z * 2 ^ 2 % QQ) 4 : Nat), .int .u64 (dgl (qz z * 2 ^ 2 % QQ) 5 : Nat), .int .u64 (dgl (qz z * 2 ^ 2 % QQ) 6 : Nat), .int .u64 (dgl (qz z * 2 ^ 2 % QQ) 7 : Nat)]) ∧ Below w.heap.size w w') := by
    intro w
    have h := wideShl_any (qz z) 2 (qz_lt _) w
    rw [show roomI 2 = ((2 : Nat) : Int) by decide, sh_up, w8_mod1 (qz z * 2 ^ 2)] at h
    exact h
  have HOF : Hid (∀ w, Calls Try.prog 32 #[.slice (some ⟨w.heap.size, 0, none⟩) 1 1] (w.alloc (.cells #[.int .u64 ((y : Int))] 24)) fun e w' => e = .returned (.agg #[.int .u64 (dgl (y) 0 : Nat), .int .u64 (dgl (y) 1 : Nat), .int .u64 (dgl (y) 2 : Nat), .int .u64 (dgl (y) 3 : Nat), .int .u64 (dgl (y) 4 : Nat), .int .u64 (dgl (y) 5 : Nat), .int .u64 (dgl (y) 6 : Nat), .int .u64 (dgl (y) 7 : Nat)]) ∧ Below w.heap.size w w') := by
    intro w
    try rw [← hy]
    refine (wideOf_any [y] y _ _ (Rd.lit (mk := mk64) w 24 [.int .u64 (y : Nat)] [y] rfl 1 (Nat.le_refl 1) (by decide)) (fun i hi => (dig_one (β := 18446744073709551616) (by omega)).2 i)).mono ?_
    rintro e w' ⟨rfl, hb⟩
    exact ⟨rfl, (below_allocs w _).trans (hb.mono (by simp))⟩
  have HAD : Hid (∀ w, Calls Try.prog 44 #[.agg #[.int .u64 (dgl (qz z * 2 ^ 2 % QQ) 0 : Nat), .int .u64 (dgl (qz z * 2 ^ 2 % QQ) 1 : Nat), .int .u64 (dgl (qz z * 2 ^ 2 % QQ) 2 : Nat), .int .u64 (dgl (qz z * 2 ^ 2 % QQ) 3 : Nat), .int .u64 (dgl (qz z * 2 ^ 2 % QQ) 4 : Nat), .int .u64 (dgl (qz z * 2 ^ 2 % QQ) 5 : Nat), .int .u64 (dgl (qz z * 2 ^ 2 % QQ) 6 : Nat), .int .u64 (dgl (qz z * 2 ^ 2 % QQ) 7 : Nat)], .agg #[.int .u64 (dgl (y) 0 : Nat), .int .u64 (dgl (y) 1 : Nat), .int .u64 (dgl (y) 2 : Nat), .int .u64 (dgl (y) 3 : Nat), .int .u64 (dgl (y) 4 : Nat), .int .u64 (dgl (y) 5 : Nat), .int .u64 (dgl (y) 6 : Nat), .int .u64 (dgl (y) 7 : Nat)]] w fun e w' => e = .returned (.tuple #[.agg #[.int .u64 (dgl (qz (4 * z + m)) 0 : Nat), .int .u64 (dgl (qz (4 * z + m)) 1 : Nat), .int .u64 (dgl (qz (4 * z + m)) 2 : Nat), .int .u64 (dgl (qz (4 * z + m)) 3 : Nat), .int .u64 (dgl (qz (4 * z + m)) 4 : Nat), .int .u64 (dgl (qz (4 * z + m)) 5 : Nat), .int .u64 (dgl (qz (4 * z + m)) 6 : Nat), .int .u64 (dgl (qz (4 * z + m)) 7 : Nat)], .bool (decide (QQ ≤ qz z * 2 ^ 2 % QQ + y))]) ∧ Below w.heap.size w w') := by
    intro w
    have h := wideAdd_any (qz z * 2 ^ 2 % QQ) y (Nat.mod_lt _ qq_pos) (by have := qq_big; omega) w
    rw [HF.out] at h
    exact h
  clear HF hy4
  generalize qz z * 2 ^ 2 % QQ = s at *
  generalize qz (4 * z + m) = r at *
  generalize hov : decide (QQ ≤ s + y) = ov at *
  clear hov
  obtain rfl : m = (y : Int) := by omega
  have HS := hide (bh_start w (qz z) (qz (z - 1)) (qz z) 38 26 26)
  generalize qz z = x at *
  generalize qz (z - 1) = x1 at *
  go_enter Try.func33, Try.ntmps33
  have hcu := HC.out
  go_upto_region 4 with fail
  refine wp_gen (fun W => BhSt x w W) ?_ ?_
  · exact HS.out
  clear HS
  rintro W4 h4
  have HS := hide h4
  have hl := h4.lx.1
  clear h4
  go_wp2_with fail
  refine (HSH.out _).mono ?_
  rintro e w5 ⟨rfl, hb5⟩
  replace HS := hide (HS.out.below hb5)
  clear hb5 hl
  go_wp2_with fail
  refine (HOF.out _).mono ?_
  rintro e w6 ⟨rfl, hb6⟩
  replace HS := hide (HS.out.below hb6)
  clear hb6
  go_wp2_with fail
  refine (HAD.out _).mono ?_
  rintro e w7 ⟨rfl, hb7⟩
  replace HS := hide (HS.out.below hb7)
  clear hb7
  have hr1 := HS.out.lr.1
  have hrl1 := HS.out.lr.2
  have hrf1 := HS.out.fr
  have HBE := hide HS.out.bel
  clear HS
  go_wp2
  exact bodyPost_ret (v := .agg #[.int .u64 (dgl (r) 0 : Nat), .int .u64 (dgl (r) 1 : Nat), .int .u64 (dgl (r) 2 : Nat), .int .u64 (dgl (r) 3 : Nat), .int .u64 (dgl (r) 4 : Nat), .int .u64 (dgl (r) 5 : Nat), .int .u64 (dgl (r) 6 : Nat), .int .u64 (dgl (r) 7 : Nat)]) (by simp [results, Try.results33, go_sem, hr1, hrl1]) rfl ⟨rfl, below_trans (below_set8 HBE.out _ (by omega) _ _ _ _ _ _ _ _) (below_allocs _ _)⟩

set_option maxHeartbeats 1000000 in
theorem behind_N (z m : Int) (hm : -4 ≤ m ∧ m < 0) (w : World) :
    Calls Try.prog 33 #[.agg #[.int .u64 (dgl (qz z) 0 : Nat), .int .u64 (dgl (qz z) 1 : Nat), .int .u64 (dgl (qz z) 2 : Nat), .int .u64 (dgl (qz z) 3 : Nat), .int .u64 (dgl (qz z) 4 : Nat), .int .u64 (dgl (qz z) 5 : Nat), .int .u64 (dgl (qz z) 6 : Nat), .int .u64 (dgl (qz z) 7 : Nat), .int .u64 (dgl (qz (z - 1)) 0 : Nat), .int .u64 (dgl (qz (z - 1)) 1 : Nat), .int .u64 (dgl (qz (z - 1)) 2 : Nat), .int .u64 (dgl (qz (z - 1)) 3 : Nat), .int .u64 (dgl (qz (z - 1)) 4 : Nat), .int .u64 (dgl (qz (z - 1)) 5 : Nat), .int .u64 (dgl (qz (z - 1)) 6 : Nat), .int .u64 (dgl (qz (z - 1)) 7 : Nat)], .int .i64 m] w fun e w' => e = .returned (.agg #[.int .u64 (dgl (qz (4 * z + m)) 0 : Nat), .int .u64 (dgl (qz (4 * z + m)) 1 : Nat), .int .u64 (dgl (qz (4 * z + m)) 2 : Nat), .int .u64 (dgl (qz (4 * z + m)) 3 : Nat), .int .u64 (dgl (qz (4 * z + m)) 4 : Nat), .int .u64 (dgl (qz (4 * z + m)) 5 : Nat), .int .u64 (dgl (qz (4 * z + m)) 6 : Nat), .int .u64 (dgl (qz (4 * z + m)) 7 : Nat)]) ∧ Below w.heap.size w w' := by
  obtain ⟨y, hy⟩ : ∃ y : Nat, (y : Int) = m + 4 := ⟨(m + 4).toNat, by omega⟩
  have hy4 : y < 4 := by omega
  have HF : Hid ((#[.int .u64 (dgl (qz (z - 1) * 2 ^ 2 % QQ + y) 0 : Nat), .int .u64 (dgl (qz (z - 1) * 2 ^ 2 % QQ + y) 1 : Nat), .int .u64 (dgl (qz (z - 1) * 2 ^ 2 % QQ + y) 2 : Nat), .int .u64 (dgl (qz (z - 1) * 2 ^ 2 % QQ + y) 3 : Nat), .int .u64 (dgl (qz (z - 1) * 2 ^ 2 % QQ + y) 4 : Nat), .int .u64 (dgl (qz (z - 1) * 2 ^ 2 % QQ + y) 5 : Nat), .int .u64 (dgl (qz (z - 1) * 2 ^ 2 % QQ + y) 6 : Nat), .int .u64 (dgl (qz (z - 1) * 2 ^ 2 % QQ + y) 7 : Nat)] : Array Value) = #[.int .u64 (dgl (qz (4 * z + m)) 0 : Nat), .int .u64 (dgl (qz (4 * z + m)) 1 : Nat), .int .u64 (dgl (qz (4 * z + m)) 2 : Nat), .int .u64 (dgl (qz (4 * z + m)) 3 : Nat), .int .u64 (dgl (qz (4 * z + m)) 4 : Nat), .int .u64 (dgl (qz (4 * z + m)) 5 : Nat), .int .u64 (dgl (qz (4 * z + m)) 6 : Nat), .int .u64 (dgl (qz (4 * z + m)) 7 : Nat)]) := w8_qz _ _ _ (by omega)
  have HC : Hid (IntKind.u64.wrap ((y : Int)) = (y : Int)) := by apply hide; rw [IntKind.wrap_u64]; omega
  have hw4 : IntKind.i64.wrap (m + 4) = (y : Int) := by rw [IntKind.wrap_i64]; omega
  have HSH : Hid (∀ w, Calls Try.prog 45 #[.agg #[.int .u64 (dgl (qz (z - 1)) 0 : Nat), .int .u64 (dgl (qz (z - 1)) 1 : Nat), .int .u64 (dgl (qz (z - 1)) 2 : Nat), .int .u64 (dgl (qz (z - 1)) 3 : Nat), .int .u64 (dgl (qz (z - 1)) 4 : Nat), .int .u64 (dgl (qz (z - 1)) 5 : Nat), .int .u64 (dgl (qz (z - 1)) 6 : Nat), .int .u64 (dgl (qz (z - 1)) 7 : Nat)], .int .i64 2] w fun e w' => e = .returned (.agg #[.int .u64 (dgl (qz (z - 1) * 2 ^ 2 % QQ) 0 : Nat), .int .u64 (dgl (qz (z - 1) * 2 ^ 2 % QQ) 1 : Nat), .int .u64 (dgl (qz (z - 1) * 2 ^ 2 % QQ) 2 : Nat), .int .u64 (dgl (qz (z - 1) * 2 ^ 2 % QQ) 3 : Nat), .int .u64 (dgl (qz (z - 1) * 2 ^ 2 % QQ) 4 : Nat), .int .u64 (dgl (qz (z - 1) * 2 ^ 2 % QQ) 5 : Nat), .int .u64 (dgl (qz (z - 1) * 2 ^ 2 % QQ) 6 : Nat), .int .u64 (dgl (qz (z - 1) * 2 ^ 2 % QQ) 7 : Nat)]) ∧ Below w.heap.size w w') := by
    intro w
    have h := wideShl_any (qz (z - 1)) 2 (qz_lt _) w
    rw [show roomI 2 = ((2 : Nat) : Int) by decide, sh_up, w8_mod1 (qz (z - 1) * 2 ^ 2)] at h
    exact h
  have HOF : Hid (∀ w, Calls Try.prog 32 #[.slice (some ⟨w.heap.size, 0, none⟩) 1 1] (w.alloc (.cells #[.int .u64 (m + 4)] 24)) fun e w' => e = .returned (.agg #[.int .u64 (dgl (y) 0 : Nat), .int .u64 (dgl (y) 1 : Nat), .int .u64 (dgl (y) 2 : Nat), .int .u64 (dgl (y) 3 : Nat), .int .u64 (dgl (y) 4 : Nat), .int .u64 (dgl (y) 5 : Nat), .int .u64 (dgl (y) 6 : Nat), .int .u64 (dgl (y) 7 : Nat)]) ∧ Below w.heap.size w w') := by
    intro w
    try rw [← hy]
    refine (wideOf_any [y] y _ _ (Rd.lit (mk := mk64) w 24 [.int .u64 (y : Nat)] [y] rfl 1 (Nat.le_refl 1) (by decide)) (fun i hi => (dig_one (β := 18446744073709551616) (by omega)).2 i)).mono ?_
    rintro e w' ⟨rfl, hb⟩
    exact ⟨rfl, (below_allocs w _).trans (hb.mono (by simp))⟩
  have HAD : Hid (∀ w, Calls Try.prog 44 #[.agg #[.int .u64 (dgl (qz (z - 1) * 2 ^ 2 % QQ) 0 : Nat), .int .u64 (dgl (qz (z - 1) * 2 ^ 2 % QQ) 1 : Nat), .int .u64 (dgl (qz (z - 1) * 2 ^ 2 % QQ) 2 : Nat), .int .u64 (dgl (qz (z - 1) * 2 ^ 2 % QQ) 3 : Nat), .int .u64 (dgl (qz (z - 1) * 2 ^ 2 % QQ) 4 : Nat), .int .u64 (dgl (qz (z - 1) * 2 ^ 2 % QQ) 5 : Nat), .int .u64 (dgl (qz (z - 1) * 2 ^ 2 % QQ) 6 : Nat), .int .u64 (dgl (qz (z - 1) * 2 ^ 2 % QQ) 7 : Nat)], .agg #[.int .u64 (dgl (y) 0 : Nat), .int .u64 (dgl (y) 1 : Nat), .int .u64 (dgl (y) 2 : Nat), .int .u64 (dgl (y) 3 : Nat), .int .u64 (dgl (y) 4 : Nat), .int .u64 (dgl (y) 5 : Nat), .int .u64 (dgl (y) 6 : Nat), .int .u64 (dgl (y) 7 : Nat)]] w fun e w' => e = .returned (.tuple #[.agg #[.int .u64 (dgl (qz (4 * z + m)) 0 : Nat), .int .u64 (dgl (qz (4 * z + m)) 1 : Nat), .int .u64 (dgl (qz (4 * z + m)) 2 : Nat), .int .u64 (dgl (qz (4 * z + m)) 3 : Nat), .int .u64 (dgl (qz (4 * z + m)) 4 : Nat), .int .u64 (dgl (qz (4 * z + m)) 5 : Nat), .int .u64 (dgl (qz (4 * z + m)) 6 : Nat), .int .u64 (dgl (qz (4 * z + m)) 7 : Nat)], .bool (decide (QQ ≤ qz (z - 1) * 2 ^ 2 % QQ + y))]) ∧ Below w.heap.size w w') := by
    intro w
    have h := wideAdd_any (qz (z - 1) * 2 ^ 2 % QQ) y (Nat.mod_lt _ qq_pos) (by have := qq_big; omega) w
    rw [HF.out] at h
    exact h
  clear HF hy4
  generalize qz (z - 1) * 2 ^ 2 % QQ = s at *
  generalize qz (4 * z + m) = r at *
  generalize hov : decide (QQ ≤ s + y) = ov at *
  clear hov
  have HS := hide (bh_start w (qz z) (qz (z - 1)) (qz (z - 1)) 38 26 26)
  generalize qz z = x at *
  generalize qz (z - 1) = x1 at *
  go_enter Try.func33, Try.ntmps33
  have hcu := HC.out
  go_upto_region 4 with fail
  refine wp_gen (fun W => BhSt x1 w W) ?_ ?_
  · exact HS.out
  clear HS
  rintro W4 h4
  have HS := hide h4
  have hl := h4.lx.1
  clear h4
  go_wp2_with fail
  refine (HSH.out _).mono ?_
  rintro e w5 ⟨rfl, hb5⟩
  replace HS := hide (HS.out.below hb5)
  clear hb5 hl
  go_wp2_with fail
  refine (HOF.out _).mono ?_
  rintro e w6 ⟨rfl, hb6⟩
  replace HS := hide (HS.out.below hb6)
  clear hb6
  go_wp2_with fail
  refine (HAD.out _).mono ?_
  rintro e w7 ⟨rfl, hb7⟩
  replace HS := hide (HS.out.below hb7)
  clear hb7
  have hr1 := HS.out.lr.1
  have hrl1 := HS.out.lr.2
  have hrf1 := HS.out.fr
  have HBE := hide HS.out.bel
  clear HS
  go_wp2
  exact bodyPost_ret (v := .agg #[.int .u64 (dgl (r) 0 : Nat), .int .u64 (dgl (r) 1 : Nat), .int .u64 (dgl (r) 2 : Nat), .int .u64 (dgl (r) 3 : Nat), .int .u64 (dgl (r) 4 : Nat), .int .u64 (dgl (r) 5 : Nat), .int .u64 (dgl (r) 6 : Nat), .int .u64 (dgl (r) 7 : Nat)]) (by simp [results, Try.results33, go_sem, hr1, hrl1]) rfl ⟨rfl, below_trans (below_set8 HBE.out _ (by omega) _ _ _ _ _ _ _ _) (below_allocs _ _)⟩

theorem behind_any (z m : Int) (h1 : -4 ≤ m) (h2 : m ≤ 3) (w : World) :
    Calls Try.prog 33 #[.agg #[.int .u64 (dgl (qz z) 0 : Nat), .int .u64 (dgl (qz z) 1 : Nat), .int .u64 (dgl (qz z) 2 : Nat), .int .u64 (dgl (qz z) 3 : Nat), .int .u64 (dgl (qz z) 4 : Nat), .int .u64 (dgl (qz z) 5 : Nat), .int .u64 (dgl (qz z) 6 : Nat), .int .u64 (dgl (qz z) 7 : Nat), .int .u64 (dgl (qz (z - 1)) 0 : Nat), .int .u64 (dgl (qz (z - 1)) 1 : Nat), .int .u64 (dgl (qz (z - 1)) 2 : Nat), .int .u64 (dgl (qz (z - 1)) 3 : Nat), .int .u64 (dgl (qz (z - 1)) 4 : Nat), .int .u64 (dgl (qz (z - 1)) 5 : Nat), .int .u64 (dgl (qz (z - 1)) 6 : Nat), .int .u64 (dgl (qz (z - 1)) 7 : Nat)], .int .i64 m] w fun e w' => e = .returned (.agg #[.int .u64 (dgl (qz (4 * z + m)) 0 : Nat), .int .u64 (dgl (qz (4 * z + m)) 1 : Nat), .int .u64 (dgl (qz (4 * z + m)) 2 : Nat), .int .u64 (dgl (qz (4 * z + m)) 3 : Nat), .int .u64 (dgl (qz (4 * z + m)) 4 : Nat), .int .u64 (dgl (qz (4 * z + m)) 5 : Nat), .int .u64 (dgl (qz (4 * z + m)) 6 : Nat), .int .u64 (dgl (qz (4 * z + m)) 7 : Nat)]) ∧ Below w.heap.size w w' := by
  rcases Int.lt_or_le m 0 with h | h
  · exact behind_N z m ⟨h1, h⟩ w
  · exact behind_P z m ⟨h, h2⟩ w

/-- Two numbers, one behind the other: a state. -/
theorem app88 (x0 x1 x2 x3 x4 x5 x6 x7 y0 y1 y2 y3 y4 y5 y6 y7 : Value) : (#[x0, x1, x2, x3, x4, x5, x6, x7] ++ #[y0, y1, y2, y3, y4, y5, y6, y7] : Array Value) = #[x0, x1, x2, x3, x4, x5, x6, x7, y0, y1, y2, y3, y4, y5, y6, y7] := rfl

end Go.Proofs.Ytgnaomgcfliamaa

/- Contracts: fly.New, Next. -/
set_option linter.unusedVariables false
set_option linter.unusedSimpArgs false
set_option maxRecDepth 8000
namespace Go.Proofs.Ytgnaomgcfliamaa
open Go.RowKit Plain

theorem below_set16 {B : Nat} {a W : World} (h : Below B a W) (b : Nat) (hb : B ≤ b) (x y : Nat) : Below B a ((((((((((((((((W.setCell ⟨b, 0, none⟩ (.int .u64 (dgl (x) 0 : Nat))).setCell ⟨b, 1, none⟩ (.int .u64 (dgl (x) 1 : Nat))).setCell ⟨b, 2, none⟩ (.int .u64 (dgl (x) 2 : Nat))).setCell ⟨b, 3, none⟩ (.int .u64 (dgl (x) 3 : Nat))).setCell ⟨b, 4, none⟩ (.int .u64 (dgl (x) 4 : Nat))).setCell ⟨b, 5, none⟩ (.int .u64 (dgl (x) 5 : Nat))).setCell ⟨b, 6, none⟩ (.int .u64 (dgl (x) 6 : Nat))).setCell ⟨b, 7, none⟩ (.int .u64 (dgl (x) 7 : Nat))).setCell ⟨b, 8, none⟩ (.int .u64 (dgl (y) 0 : Nat))).setCell ⟨b, 9, none⟩ (.int .u64 (dgl (y) 1 : Nat))).setCell ⟨b, 10, none⟩ (.int .u64 (dgl (y) 2 : Nat))).setCell ⟨b, 11, none⟩ (.int .u64 (dgl (y) 3 : Nat))).setCell ⟨b, 12, none⟩ (.int .u64 (dgl (y) 4 : Nat))).setCell ⟨b, 13, none⟩ (.int .u64 (dgl (y) 5 : Nat))).setCell ⟨b, 14, none⟩ (.int .u64 (dgl (y) 6 : Nat))).setCell ⟨b, 15, none⟩ (.int .u64 (dgl (y) 7 : Nat))) :=
  ((((((((((((((((h.setCell (p := ⟨b, 0, none⟩) (hb) _).setCell (p := ⟨b, 1, none⟩) (hb) _).setCell (p := ⟨b, 2, none⟩) (hb) _).setCell (p := ⟨b, 3, none⟩) (hb) _).setCell (p := ⟨b, 4, none⟩) (hb) _).setCell (p := ⟨b, 5, none⟩) (hb) _).setCell (p := ⟨b, 6, none⟩) (hb) _).setCell (p := ⟨b, 7, none⟩) (hb) _).setCell (p := ⟨b, 8, none⟩) (hb) _).setCell (p := ⟨b, 9, none⟩) (hb) _).setCell (p := ⟨b, 10, none⟩) (hb) _).setCell (p := ⟨b, 11, none⟩) (hb) _).setCell (p := ⟨b, 12, none⟩) (hb) _).setCell (p := ⟨b, 13, none⟩) (hb) _).setCell (p := ⟨b, 14, none⟩) (hb) _).setCell (p := ⟨b, 15, none⟩) (hb) _)
theorem stB_set16 {W : World} {b x0 y0 : Nat} (h : StB W b x0 y0) (x y : Nat) : StB ((((((((((((((((W.setCell ⟨b, 0, none⟩ (.int .u64 (dgl (x) 0 : Nat))).setCell ⟨b, 1, none⟩ (.int .u64 (dgl (x) 1 : Nat))).setCell ⟨b, 2, none⟩ (.int .u64 (dgl (x) 2 : Nat))).setCell ⟨b, 3, none⟩ (.int .u64 (dgl (x) 3 : Nat))).setCell ⟨b, 4, none⟩ (.int .u64 (dgl (x) 4 : Nat))).setCell ⟨b, 5, none⟩ (.int .u64 (dgl (x) 5 : Nat))).setCell ⟨b, 6, none⟩ (.int .u64 (dgl (x) 6 : Nat))).setCell ⟨b, 7, none⟩ (.int .u64 (dgl (x) 7 : Nat))).setCell ⟨b, 8, none⟩ (.int .u64 (dgl (y) 0 : Nat))).setCell ⟨b, 9, none⟩ (.int .u64 (dgl (y) 1 : Nat))).setCell ⟨b, 10, none⟩ (.int .u64 (dgl (y) 2 : Nat))).setCell ⟨b, 11, none⟩ (.int .u64 (dgl (y) 3 : Nat))).setCell ⟨b, 12, none⟩ (.int .u64 (dgl (y) 4 : Nat))).setCell ⟨b, 13, none⟩ (.int .u64 (dgl (y) 5 : Nat))).setCell ⟨b, 14, none⟩ (.int .u64 (dgl (y) 6 : Nat))).setCell ⟨b, 15, none⟩ (.int .u64 (dgl (y) 7 : Nat))) b x y := by
  have hr := h.lo
  have hr0 := h.h0
  have hr1 := h.h1
  have hr2 := h.h2
  have hr3 := h.h3
  have hr4 := h.h4
  have hr5 := h.h5
  have hr6 := h.h6
  have hr7 := h.h7
  have hrl := h.lt
  refine ⟨fun i hi => ?_, by simp [go_sem, hr, hr0, hr1, hr2, hr3, hr4, hr5, hr6, hr7, hrl], by simp [go_sem, hr, hr0, hr1, hr2, hr3, hr4, hr5, hr6, hr7, hrl], by simp [go_sem, hr, hr0, hr1, hr2, hr3, hr4, hr5, hr6, hr7, hrl], by simp [go_sem, hr, hr0, hr1, hr2, hr3, hr4, hr5, hr6, hr7, hrl], by simp [go_sem, hr, hr0, hr1, hr2, hr3, hr4, hr5, hr6, hr7, hrl], by simp [go_sem, hr, hr0, hr1, hr2, hr3, hr4, hr5, hr6, hr7, hrl], by simp [go_sem, hr, hr0, hr1, hr2, hr3, hr4, hr5, hr6, hr7, hrl], by simp [go_sem, hr, hr0, hr1, hr2, hr3, hr4, hr5, hr6, hr7, hrl], by simpa [go_sem] using h.lt⟩
  rcases (show i = 0 ∨ i = 1 ∨ i = 2 ∨ i = 3 ∨ i = 4 ∨ i = 5 ∨ i = 6 ∨ i = 7 by omega) with rfl | rfl | rfl | rfl | rfl | rfl | rfl | rfl <;> simp [go_sem, hr, hr0, hr1, hr2, hr3, hr4, hr5, hr6, hr7, hrl]
theorem stB_other {W : World} {b c q l : Nat} (h : StB W c q l) (hne : c ≠ b) (x y : Nat) : StB ((((((((((((((((W.setCell ⟨b, 0, none⟩ (.int .u64 (dgl (x) 0 : Nat))).setCell ⟨b, 1, none⟩ (.int .u64 (dgl (x) 1 : Nat))).setCell ⟨b, 2, none⟩ (.int .u64 (dgl (x) 2 : Nat))).setCell ⟨b, 3, none⟩ (.int .u64 (dgl (x) 3 : Nat))).setCell ⟨b, 4, none⟩ (.int .u64 (dgl (x) 4 : Nat))).setCell ⟨b, 5, none⟩ (.int .u64 (dgl (x) 5 : Nat))).setCell ⟨b, 6, none⟩ (.int .u64 (dgl (x) 6 : Nat))).setCell ⟨b, 7, none⟩ (.int .u64 (dgl (x) 7 : Nat))).setCell ⟨b, 8, none⟩ (.int .u64 (dgl (y) 0 : Nat))).setCell ⟨b, 9, none⟩ (.int .u64 (dgl (y) 1 : Nat))).setCell ⟨b, 10, none⟩ (.int .u64 (dgl (y) 2 : Nat))).setCell ⟨b, 11, none⟩ (.int .u64 (dgl (y) 3 : Nat))).setCell ⟨b, 12, none⟩ (.int .u64 (dgl (y) 4 : Nat))).setCell ⟨b, 13, none⟩ (.int .u64 (dgl (y) 5 : Nat))).setCell ⟨b, 14, none⟩ (.int .u64 (dgl (y) 6 : Nat))).setCell ⟨b, 15, none⟩ (.int .u64 (dgl (y) 7 : Nat))) c q l := by
  have hb : ∀ (V : World) (i : Nat) (u : Value) (j : Nat), (V.setCell ⟨b, i, none⟩ u).cell? ⟨c, j, none⟩ = V.cell? ⟨c, j, none⟩ := fun V i u j => by simp [go_sem, hne]
  refine ⟨fun i hi => by simp only [hb]; exact h.lo i hi, by simp only [hb]; exact h.h0, by simp only [hb]; exact h.h1, by simp only [hb]; exact h.h2, by simp only [hb]; exact h.h3, by simp only [hb]; exact h.h4, by simp only [hb]; exact h.h5, by simp only [hb]; exact h.h6, by simp only [hb]; exact h.h7, by simpa [go_sem] using h.lt⟩

/-- What Next goes by: a state in a box, and its result. -/
structure NxSt (q l a b : Nat) (w W : World) : Prop where
  x : StB W w.heap.size q l
  r : StB W (w.heap.size + 1) a b
  fr : ∀ i, W.frozen? ⟨w.heap.size + 1, i, none⟩ = false
  bel : Below w.heap.size w W
theorem NxSt.below {q l a b : Nat} {w W W' : World} (h : NxSt q l a b w W) (hb : Below W.heap.size W W') : NxSt q l a b w W' :=
  ⟨h.x.below hb, h.r.below hb, fun i => (hb.frozen (p := ⟨w.heap.size + 1, i, none⟩) h.r.lt).trans (h.fr i), below_trans h.bel hb⟩
theorem NxSt.set {q l a b : Nat} {w W : World} (h : NxSt q l a b w W) (x y : Nat) : NxSt q l x y w ((((((((((((((((W.setCell ⟨w.heap.size + 1, 0, none⟩ (.int .u64 (dgl (x) 0 : Nat))).setCell ⟨w.heap.size + 1, 1, none⟩ (.int .u64 (dgl (x) 1 : Nat))).setCell ⟨w.heap.size + 1, 2, none⟩ (.int .u64 (dgl (x) 2 : Nat))).setCell ⟨w.heap.size + 1, 3, none⟩ (.int .u64 (dgl (x) 3 : Nat))).setCell ⟨w.heap.size + 1, 4, none⟩ (.int .u64 (dgl (x) 4 : Nat))).setCell ⟨w.heap.size + 1, 5, none⟩ (.int .u64 (dgl (x) 5 : Nat))).setCell ⟨w.heap.size + 1, 6, none⟩ (.int .u64 (dgl (x) 6 : Nat))).setCell ⟨w.heap.size + 1, 7, none⟩ (.int .u64 (dgl (x) 7 : Nat))).setCell ⟨w.heap.size + 1, 8, none⟩ (.int .u64 (dgl (y) 0 : Nat))).setCell ⟨w.heap.size + 1, 9, none⟩ (.int .u64 (dgl (y) 1 : Nat))).setCell ⟨w.heap.size + 1, 10, none⟩ (.int .u64 (dgl (y) 2 : Nat))).setCell ⟨w.heap.size + 1, 11, none⟩ (.int .u64 (dgl (y) 3 : Nat))).setCell ⟨w.heap.size + 1, 12, none⟩ (.int .u64 (dgl (y) 4 : Nat))).setCell ⟨w.heap.size + 1, 13, none⟩ (.int .u64 (dgl (y) 5 : Nat))).setCell ⟨w.heap.size + 1, 14, none⟩ (.int .u64 (dgl (y) 6 : Nat))).setCell ⟨w.heap.size + 1, 15, none⟩ (.int .u64 (dgl (y) 7 : Nat))) :=
  ⟨stB_other h.x (by omega) x y, stB_set16 h.r x y, fun i => by simpa [go_sem] using h.fr i, below_set16 h.bel _ (by omega) x y⟩
theorem nxSt_start (w : World) (q l : Nat) (e1 e2 : TypeId) : NxSt q l 0 0 w ((w.alloc (.cells #[.int .u64 (dgl (q) 0 : Nat), .int .u64 (dgl (q) 1 : Nat), .int .u64 (dgl (q) 2 : Nat), .int .u64 (dgl (q) 3 : Nat), .int .u64 (dgl (q) 4 : Nat), .int .u64 (dgl (q) 5 : Nat), .int .u64 (dgl (q) 6 : Nat), .int .u64 (dgl (q) 7 : Nat), .int .u64 (dgl (l) 0 : Nat), .int .u64 (dgl (l) 1 : Nat), .int .u64 (dgl (l) 2 : Nat), .int .u64 (dgl (l) 3 : Nat), .int .u64 (dgl (l) 4 : Nat), .int .u64 (dgl (l) 5 : Nat), .int .u64 (dgl (l) 6 : Nat), .int .u64 (dgl (l) 7 : Nat)] e1)).alloc (.cells #[.int .u64 0, .int .u64 0, .int .u64 0, .int .u64 0, .int .u64 0, .int .u64 0, .int .u64 0, .int .u64 0, .int .u64 0, .int .u64 0, .int .u64 0, .int .u64 0, .int .u64 0, .int .u64 0, .int .u64 0, .int .u64 0] e2)) := by
  have h1 := (stB_new w q l e1).below (below_allocs _ (.cells #[.int .u64 0, .int .u64 0, .int .u64 0, .int .u64 0, .int .u64 0, .int .u64 0, .int .u64 0, .int .u64 0, .int .u64 0, .int .u64 0, .int .u64 0, .int .u64 0, .int .u64 0, .int .u64 0, .int .u64 0, .int .u64 0] e2))
  have h2 := stB_new (w.alloc (.cells #[.int .u64 (dgl (q) 0 : Nat), .int .u64 (dgl (q) 1 : Nat), .int .u64 (dgl (q) 2 : Nat), .int .u64 (dgl (q) 3 : Nat), .int .u64 (dgl (q) 4 : Nat), .int .u64 (dgl (q) 5 : Nat), .int .u64 (dgl (q) 6 : Nat), .int .u64 (dgl (q) 7 : Nat), .int .u64 (dgl (l) 0 : Nat), .int .u64 (dgl (l) 1 : Nat), .int .u64 (dgl (l) 2 : Nat), .int .u64 (dgl (l) 3 : Nat), .int .u64 (dgl (l) 4 : Nat), .int .u64 (dgl (l) 5 : Nat), .int .u64 (dgl (l) 6 : Nat), .int .u64 (dgl (l) 7 : Nat)] e1)) 0 0 e2
  rw [World.size_alloc] at h2
  simp only [dgl_zero] at h2
  refine ⟨h1, ?_, fun i => by simp [go_sem], below_trans (below_allocs _ _) (below_allocs _ _)⟩
  refine ⟨fun i hi => ?_, by rw [dgl_zero]; exact h2.h0, by rw [dgl_zero]; exact h2.h1, by rw [dgl_zero]; exact h2.h2, by rw [dgl_zero]; exact h2.h3, by rw [dgl_zero]; exact h2.h4, by rw [dgl_zero]; exact h2.h5, by rw [dgl_zero]; exact h2.h6, by rw [dgl_zero]; exact h2.h7, h2.lt⟩
  rw [dgl_zero]
  have := h2.lo i hi
  rw [dgl_zero] at this
  exact this

theorem next_no (z d : Int) (hd : isD d = false) (w : World) :
    Calls Try.prog 15 #[.agg #[.int .u64 (dgl (qz z) 0 : Nat), .int .u64 (dgl (qz z) 1 : Nat), .int .u64 (dgl (qz z) 2 : Nat), .int .u64 (dgl (qz z) 3 : Nat), .int .u64 (dgl (qz z) 4 : Nat), .int .u64 (dgl (qz z) 5 : Nat), .int .u64 (dgl (qz z) 6 : Nat), .int .u64 (dgl (qz z) 7 : Nat), .int .u64 (dgl (qz (z - 1)) 0 : Nat), .int .u64 (dgl (qz (z - 1)) 1 : Nat), .int .u64 (dgl (qz (z - 1)) 2 : Nat), .int .u64 (dgl (qz (z - 1)) 3 : Nat), .int .u64 (dgl (qz (z - 1)) 4 : Nat), .int .u64 (dgl (qz (z - 1)) 5 : Nat), .int .u64 (dgl (qz (z - 1)) 6 : Nat), .int .u64 (dgl (qz (z - 1)) 7 : Nat)], .int .i64 d] w fun e w' => e = .returned (.tuple #[.agg #[.int .u64 (dgl (qz z) 0 : Nat), .int .u64 (dgl (qz z) 1 : Nat), .int .u64 (dgl (qz z) 2 : Nat), .int .u64 (dgl (qz z) 3 : Nat), .int .u64 (dgl (qz z) 4 : Nat), .int .u64 (dgl (qz z) 5 : Nat), .int .u64 (dgl (qz z) 6 : Nat), .int .u64 (dgl (qz z) 7 : Nat), .int .u64 (dgl (qz (z - 1)) 0 : Nat), .int .u64 (dgl (qz (z - 1)) 1 : Nat), .int .u64 (dgl (qz (z - 1)) 2 : Nat), .int .u64 (dgl (qz (z - 1)) 3 : Nat), .int .u64 (dgl (qz (z - 1)) 4 : Nat), .int .u64 (dgl (qz (z - 1)) 5 : Nat), .int .u64 (dgl (qz (z - 1)) 6 : Nat), .int .u64 (dgl (qz (z - 1)) 7 : Nat)], .bool false]) ∧ Below w.heap.size w w' := by
  have HK : Hid (∀ w, Calls Try.prog 27 #[.int .i64 d] w fun e w' => e = .returned (.bool false) ∧ w' = w) := fun w => by have h := known_any d w; rw [hd] at h; exact h
  have HS := hide (nxSt_start w (qz z) (qz (z - 1)) 38 38)
  clear hd
  generalize qz z = x at *
  generalize qz (z - 1) = y at *
  go_enter Try.func15, Try.ntmps15
  go_wp2_with fail
  refine (HK.out _).mono ?_
  rintro e w1 ⟨rfl, hw⟩
  subst hw
  go_upto_region 2 with fail
  refine wp_gen (fun W => NxSt x y 0 0 w W) HS.out ?_
  clear HS
  rintro W2 h2
  have HS := hide h2
  clear h2
  have hr := HS.out.r.lo
  have hr0 := HS.out.r.h0
  have hr1 := HS.out.r.h1
  have hr2 := HS.out.r.h2
  have hr3 := HS.out.r.h3
  have hr4 := HS.out.r.h4
  have hr5 := HS.out.r.h5
  have hr6 := HS.out.r.h6
  have hr7 := HS.out.r.h7
  have hrl := HS.out.r.lt
  have hrf := HS.out.fr

  have hx := HS.out.x.lo
  have hx0 := HS.out.x.h0
  have hx1 := HS.out.x.h1
  have hx2 := HS.out.x.h2
  have hx3 := HS.out.x.h3
  have hx4 := HS.out.x.h4
  have hx5 := HS.out.x.h5
  have hx6 := HS.out.x.h6
  have hx7 := HS.out.x.h7
  have HBE := hide HS.out.bel
  clear HS
  go_wp2
  exact bodyPost_ret (v := .tuple #[.agg #[.int .u64 (dgl (x) 0 : Nat), .int .u64 (dgl (x) 1 : Nat), .int .u64 (dgl (x) 2 : Nat), .int .u64 (dgl (x) 3 : Nat), .int .u64 (dgl (x) 4 : Nat), .int .u64 (dgl (x) 5 : Nat), .int .u64 (dgl (x) 6 : Nat), .int .u64 (dgl (x) 7 : Nat), .int .u64 (dgl (y) 0 : Nat), .int .u64 (dgl (y) 1 : Nat), .int .u64 (dgl (y) 2 : Nat), .int .u64 (dgl (y) 3 : Nat), .int .u64 (dgl (y) 4 : Nat), .int .u64 (dgl (y) 5 : Nat), .int .u64 (dgl (y) 6 : Nat), .int .u64 (dgl (y) 7 : Nat)], .bool false]) (by simp [results, Try.results15, go_sem, hr, hr0, hr1, hr2, hr3, hr4, hr5, hr6, hr7, hrl]) rfl ⟨rfl, below_set16 HBE.out _ (by omega) _ _⟩
end Go.Proofs.Ytgnaomgcfliamaa

/- Contracts: fly.Next. -/
set_option linter.unusedVariables false
set_option linter.unusedSimpArgs false
set_option maxRecDepth 8000
namespace Go.Proofs.Ytgnaomgcfliamaa
open Go.RowKit Plain

set_option maxHeartbeats 2000000 in
theorem next_yes (z d : Int) (hd : isD d = true) (w : World) :
    Calls Try.prog 15 #[.agg #[.int .u64 (dgl (qz z) 0 : Nat), .int .u64 (dgl (qz z) 1 : Nat), .int .u64 (dgl (qz z) 2 : Nat), .int .u64 (dgl (qz z) 3 : Nat), .int .u64 (dgl (qz z) 4 : Nat), .int .u64 (dgl (qz z) 5 : Nat), .int .u64 (dgl (qz z) 6 : Nat), .int .u64 (dgl (qz z) 7 : Nat), .int .u64 (dgl (qz (z - 1)) 0 : Nat), .int .u64 (dgl (qz (z - 1)) 1 : Nat), .int .u64 (dgl (qz (z - 1)) 2 : Nat), .int .u64 (dgl (qz (z - 1)) 3 : Nat), .int .u64 (dgl (qz (z - 1)) 4 : Nat), .int .u64 (dgl (qz (z - 1)) 5 : Nat), .int .u64 (dgl (qz (z - 1)) 6 : Nat), .int .u64 (dgl (qz (z - 1)) 7 : Nat)], .int .i64 d] w fun e w' => e = .returned (.tuple #[.agg #[.int .u64 (dgl (qz (4 * z + d)) 0 : Nat), .int .u64 (dgl (qz (4 * z + d)) 1 : Nat), .int .u64 (dgl (qz (4 * z + d)) 2 : Nat), .int .u64 (dgl (qz (4 * z + d)) 3 : Nat), .int .u64 (dgl (qz (4 * z + d)) 4 : Nat), .int .u64 (dgl (qz (4 * z + d)) 5 : Nat), .int .u64 (dgl (qz (4 * z + d)) 6 : Nat), .int .u64 (dgl (qz (4 * z + d)) 7 : Nat), .int .u64 (dgl (qz (4 * z + d - 1)) 0 : Nat), .int .u64 (dgl (qz (4 * z + d - 1)) 1 : Nat), .int .u64 (dgl (qz (4 * z + d - 1)) 2 : Nat), .int .u64 (dgl (qz (4 * z + d - 1)) 3 : Nat), .int .u64 (dgl (qz (4 * z + d - 1)) 4 : Nat), .int .u64 (dgl (qz (4 * z + d - 1)) 5 : Nat), .int .u64 (dgl (qz (4 * z + d - 1)) 6 : Nat), .int .u64 (dgl (qz (4 * z + d - 1)) 7 : Nat)], .bool true]) ∧ Below w.heap.size w w' := by
  have hd2 := isD_iff.1 hd
  have HK : Hid (∀ w, Calls Try.prog 27 #[.int .i64 d] w fun e w' => e = .returned (.bool true) ∧ w' = w) := fun w => by have h := known_any d w; rw [hd] at h; exact h
  have HB1 := hide (fun w => behind_any z d (by omega) (by omega) w)
  have HB2 := hide (fun w => behind_any z (d - 1) (by omega) (by omega) w)
  rw [show 4 * z + (d - 1) = 4 * z + d - 1 by omega] at HB2
  have HS := hide (nxSt_start w (qz z) (qz (z - 1)) 38 38)
  obtain ⟨d1, hdd⟩ : ∃ d1, d - 1 = d1 := ⟨_, rfl⟩
  have hd1 : IntKind.i64.wrap (d - 1) = d1 := by rw [← hdd, IntKind.wrap_i64]; omega
  rw [hdd] at HB2
  clear hd hd2 hdd
  generalize qz z = x at *
  generalize qz (z - 1) = y at *
  generalize qz (4 * z + d) = a at *
  generalize qz (4 * z + d - 1) = b at *
  go_enter Try.func15, Try.ntmps15
  go_wp2_with fail
  refine (HK.out _).mono ?_
  rintro e w1 ⟨rfl, hw⟩
  subst hw
  go_upto_region 3 with fail
  refine wp_gen (fun W => NxSt x y 0 0 w W) HS.out ?_
  clear HS
  rintro W2 h2
  refine wp_region_storeK 10 [8] [10, 11, 12, 13, 14, 15, 16, 17, 5] (fun bs => [(10, .val (.agg #[.int .u64 (dgl (x) 0 : Nat), .int .u64 (dgl (x) 1 : Nat), .int .u64 (dgl (x) 2 : Nat), .int .u64 (dgl (x) 3 : Nat), .int .u64 (dgl (x) 4 : Nat), .int .u64 (dgl (x) 5 : Nat), .int .u64 (dgl (x) 6 : Nat), .int .u64 (dgl (x) 7 : Nat), .int .u64 (dgl (y) 0 : Nat), .int .u64 (dgl (y) 1 : Nat), .int .u64 (dgl (y) 2 : Nat), .int .u64 (dgl (y) 3 : Nat), .int .u64 (dgl (y) 4 : Nat), .int .u64 (dgl (y) 5 : Nat), .int .u64 (dgl (y) 6 : Nat), .int .u64 (dgl (y) 7 : Nat)])), (11, .val (.int .i64 d)), (12, .val (.agg #[.int .u64 (dgl (a) 0 : Nat), .int .u64 (dgl (a) 1 : Nat), .int .u64 (dgl (a) 2 : Nat), .int .u64 (dgl (a) 3 : Nat), .int .u64 (dgl (a) 4 : Nat), .int .u64 (dgl (a) 5 : Nat), .int .u64 (dgl (a) 6 : Nat), .int .u64 (dgl (a) 7 : Nat)])), (13, .val (.agg #[.int .u64 (dgl (x) 0 : Nat), .int .u64 (dgl (x) 1 : Nat), .int .u64 (dgl (x) 2 : Nat), .int .u64 (dgl (x) 3 : Nat), .int .u64 (dgl (x) 4 : Nat), .int .u64 (dgl (x) 5 : Nat), .int .u64 (dgl (x) 6 : Nat), .int .u64 (dgl (x) 7 : Nat), .int .u64 (dgl (y) 0 : Nat), .int .u64 (dgl (y) 1 : Nat), .int .u64 (dgl (y) 2 : Nat), .int .u64 (dgl (y) 3 : Nat), .int .u64 (dgl (y) 4 : Nat), .int .u64 (dgl (y) 5 : Nat), .int .u64 (dgl (y) 6 : Nat), .int .u64 (dgl (y) 7 : Nat)])), (14, .val (.int .i64 d)), (15, .val (.int .i64 d1)), (16, .val (.agg #[.int .u64 (dgl (b) 0 : Nat), .int .u64 (dgl (b) 1 : Nat), .int .u64 (dgl (b) 2 : Nat), .int .u64 (dgl (b) 3 : Nat), .int .u64 (dgl (b) 4 : Nat), .int .u64 (dgl (b) 5 : Nat), .int .u64 (dgl (b) 6 : Nat), .int .u64 (dgl (b) 7 : Nat)])), (17, .val (.agg #[.int .u64 (dgl (a) 0 : Nat), .int .u64 (dgl (a) 1 : Nat), .int .u64 (dgl (a) 2 : Nat), .int .u64 (dgl (a) 3 : Nat), .int .u64 (dgl (a) 4 : Nat), .int .u64 (dgl (a) 5 : Nat), .int .u64 (dgl (a) 6 : Nat), .int .u64 (dgl (a) 7 : Nat), .int .u64 (dgl (b) 0 : Nat), .int .u64 (dgl (b) 1 : Nat), .int .u64 (dgl (b) 2 : Nat), .int .u64 (dgl (b) 3 : Nat), .int .u64 (dgl (b) 4 : Nat), .int .u64 (dgl (b) 5 : Nat), .int .u64 (dgl (b) 6 : Nat), .int .u64 (dgl (b) 7 : Nat)])), (5, .val (.bool true))])
    (fun bs W => StB W w.heap.size x y ∧ ∀ c, bs.headD false = c → NxSt x y (bif c then a else 0) (bif c then b else 0) w W) (fun bs => rfl) mixedOk (by kernel_rfl) (by kernel_rfl) (by kernel_rfl) (⟨h2.x.below (Below.refl _ _).drew, fun c hc => by subst hc; exact h2.below (Below.refl _ _).drew⟩) (fun bs W W' h hb => ⟨h.1.below hb, fun c hc => (h.2 c hc).below hb⟩) ?_ ?_
  · refine kSt rfl (fun φ hφ => gStep_run rfl ?_) ?_
    · intro ρ W hC hc hf hL
      have e2 : ρ (.tmp 2) = .pointer (some ⟨w.heap.size, 0, none⟩) := hL 2 (by decide +kernel)
      have hl := hC.1.lo
      have hl0 := hC.1.h0
      have hl1 := hC.1.h1
      have hl2 := hC.1.h2
      have hl3 := hC.1.h3
      have hl4 := hC.1.h4
      have hl5 := hC.1.h5
      have hl6 := hC.1.h6
      have hl7 := hC.1.h7
      simp [go_sem, hc, hf, e2, hl, hl0, hl1, hl2, hl3, hl4, hl5, hl6, hl7]
      exact ⟨Below.refl _ _, rfl⟩
    refine kSt rfl (fun φ hφ => gStep_run rfl (gRun_move 1 11 (.inl rfl) rfl (by decide +kernel) (fun v w h => h))) ?_
    refine kSt rfl (fun φ hφ => gStep_run rfl ?_) ?_
    · intro ρ W hC hc hf hL
      have e10 : ρ (.tmp 10) = .agg #[.int .u64 (dgl (x) 0 : Nat), .int .u64 (dgl (x) 1 : Nat), .int .u64 (dgl (x) 2 : Nat), .int .u64 (dgl (x) 3 : Nat), .int .u64 (dgl (x) 4 : Nat), .int .u64 (dgl (x) 5 : Nat), .int .u64 (dgl (x) 6 : Nat), .int .u64 (dgl (x) 7 : Nat), .int .u64 (dgl (y) 0 : Nat), .int .u64 (dgl (y) 1 : Nat), .int .u64 (dgl (y) 2 : Nat), .int .u64 (dgl (y) 3 : Nat), .int .u64 (dgl (y) 4 : Nat), .int .u64 (dgl (y) 5 : Nat), .int .u64 (dgl (y) 6 : Nat), .int .u64 (dgl (y) 7 : Nat)] := hL 10 (by decide +kernel)
      have e11 : ρ (.tmp 11) = .int .i64 d := hL 11 (by decide +kernel)
      simp [go_sem, hc, hf, e10, e11]
      refine (HB1.out W).mono ?_
      rintro e w' ⟨rfl, hb⟩
      exact ⟨_, rfl, by first | exact hb | (subst hb; exact Below.refl _ _), rfl⟩
    refine kSt rfl (fun φ hφ => gStep_run rfl ?_) ?_
    · intro ρ W hC hc hf hL
      have e2 : ρ (.tmp 2) = .pointer (some ⟨w.heap.size, 0, none⟩) := hL 2 (by decide +kernel)
      have hl := hC.1.lo
      have hl0 := hC.1.h0
      have hl1 := hC.1.h1
      have hl2 := hC.1.h2
      have hl3 := hC.1.h3
      have hl4 := hC.1.h4
      have hl5 := hC.1.h5
      have hl6 := hC.1.h6
      have hl7 := hC.1.h7
      simp [go_sem, hc, hf, e2, hl, hl0, hl1, hl2, hl3, hl4, hl5, hl6, hl7]
      exact ⟨Below.refl _ _, rfl⟩
    refine kSt rfl (fun φ hφ => gStep_run rfl (gRun_move 1 14 (.inl rfl) rfl (by decide +kernel) (fun v w h => h))) ?_
    refine kSt rfl (fun φ hφ => gStep_run rfl ?_) ?_
    · intro ρ W hC hc hf hL
      have e14 : ρ (.tmp 14) = .int .i64 d := hL 14 (by decide +kernel)
      simp [go_sem, hc, hf, e14, hd1]
      exact ⟨Below.refl _ _, rfl⟩
    refine kSt rfl (fun φ hφ => gStep_run rfl ?_) ?_
    · intro ρ W hC hc hf hL
      have e13 : ρ (.tmp 13) = .agg #[.int .u64 (dgl (x) 0 : Nat), .int .u64 (dgl (x) 1 : Nat), .int .u64 (dgl (x) 2 : Nat), .int .u64 (dgl (x) 3 : Nat), .int .u64 (dgl (x) 4 : Nat), .int .u64 (dgl (x) 5 : Nat), .int .u64 (dgl (x) 6 : Nat), .int .u64 (dgl (x) 7 : Nat), .int .u64 (dgl (y) 0 : Nat), .int .u64 (dgl (y) 1 : Nat), .int .u64 (dgl (y) 2 : Nat), .int .u64 (dgl (y) 3 : Nat), .int .u64 (dgl (y) 4 : Nat), .int .u64 (dgl (y) 5 : Nat), .int .u64 (dgl (y) 6 : Nat), .int .u64 (dgl (y) 7 : Nat)] := hL 13 (by decide +kernel)
      have e15 : ρ (.tmp 15) = .int .i64 d1 := hL 15 (by decide +kernel)
      simp [go_sem, hc, hf, e13, e15]
      refine (HB2.out W).mono ?_
      rintro e w' ⟨rfl, hb⟩
      exact ⟨_, rfl, by first | exact hb | (subst hb; exact Below.refl _ _), rfl⟩
    refine kSt rfl (fun φ hφ => gStep_run rfl ?_) ?_
    · intro ρ W hC hc hf hL
      have e12 : ρ (.tmp 12) = .agg #[.int .u64 (dgl (a) 0 : Nat), .int .u64 (dgl (a) 1 : Nat), .int .u64 (dgl (a) 2 : Nat), .int .u64 (dgl (a) 3 : Nat), .int .u64 (dgl (a) 4 : Nat), .int .u64 (dgl (a) 5 : Nat), .int .u64 (dgl (a) 6 : Nat), .int .u64 (dgl (a) 7 : Nat)] := hL 12 (by decide +kernel)
      have e16 : ρ (.tmp 16) = .agg #[.int .u64 (dgl (b) 0 : Nat), .int .u64 (dgl (b) 1 : Nat), .int .u64 (dgl (b) 2 : Nat), .int .u64 (dgl (b) 3 : Nat), .int .u64 (dgl (b) 4 : Nat), .int .u64 (dgl (b) 5 : Nat), .int .u64 (dgl (b) 6 : Nat), .int .u64 (dgl (b) 7 : Nat)] := hL 16 (by decide +kernel)
      simp [go_sem, hc, hf, e12, e16, app88]
      exact ⟨Below.refl _ _, rfl⟩
    refine kStS rfl ⟨rfl, rfl, ?_⟩ ?_
    · intro φ ρ W hφ hC hc hL
      have e4 : ρ (.tmp 4) = .pointer (some ⟨w.heap.size + 1, 0, none⟩) := hL 4 (by decide +kernel)
      have e17 : ρ (.tmp 17) = .agg #[.int .u64 (dgl (a) 0 : Nat), .int .u64 (dgl (a) 1 : Nat), .int .u64 (dgl (a) 2 : Nat), .int .u64 (dgl (a) 3 : Nat), .int .u64 (dgl (a) 4 : Nat), .int .u64 (dgl (a) 5 : Nat), .int .u64 (dgl (a) 6 : Nat), .int .u64 (dgl (a) 7 : Nat), .int .u64 (dgl (b) 0 : Nat), .int .u64 (dgl (b) 1 : Nat), .int .u64 (dgl (b) 2 : Nat), .int .u64 (dgl (b) 3 : Nat), .int .u64 (dgl (b) 4 : Nat), .int .u64 (dgl (b) 5 : Nat), .int .u64 (dgl (b) 6 : Nat), .int .u64 (dgl (b) 7 : Nat)] := hL 17 (by decide +kernel)
      have g : NxSt x y 0 0 w W := hC.2 false (by simp [hφ])
      have hr := g.r.lo
      have hr0 := g.r.h0
      have hr1 := g.r.h1
      have hr2 := g.r.h2
      have hr3 := g.r.h3
      have hr4 := g.r.h4
      have hr5 := g.r.h5
      have hr6 := g.r.h6
      have hr7 := g.r.h7
      have hrl := g.r.lt
      have hrf := g.fr
      refine gUpon_of ((((((((((((((((W.setCell ⟨w.heap.size + 1, 0, none⟩ (.int .u64 (dgl (a) 0 : Nat))).setCell ⟨w.heap.size + 1, 1, none⟩ (.int .u64 (dgl (a) 1 : Nat))).setCell ⟨w.heap.size + 1, 2, none⟩ (.int .u64 (dgl (a) 2 : Nat))).setCell ⟨w.heap.size + 1, 3, none⟩ (.int .u64 (dgl (a) 3 : Nat))).setCell ⟨w.heap.size + 1, 4, none⟩ (.int .u64 (dgl (a) 4 : Nat))).setCell ⟨w.heap.size + 1, 5, none⟩ (.int .u64 (dgl (a) 5 : Nat))).setCell ⟨w.heap.size + 1, 6, none⟩ (.int .u64 (dgl (a) 6 : Nat))).setCell ⟨w.heap.size + 1, 7, none⟩ (.int .u64 (dgl (a) 7 : Nat))).setCell ⟨w.heap.size + 1, 8, none⟩ (.int .u64 (dgl (b) 0 : Nat))).setCell ⟨w.heap.size + 1, 9, none⟩ (.int .u64 (dgl (b) 1 : Nat))).setCell ⟨w.heap.size + 1, 10, none⟩ (.int .u64 (dgl (b) 2 : Nat))).setCell ⟨w.heap.size + 1, 11, none⟩ (.int .u64 (dgl (b) 3 : Nat))).setCell ⟨w.heap.size + 1, 12, none⟩ (.int .u64 (dgl (b) 4 : Nat))).setCell ⟨w.heap.size + 1, 13, none⟩ (.int .u64 (dgl (b) 5 : Nat))).setCell ⟨w.heap.size + 1, 14, none⟩ (.int .u64 (dgl (b) 6 : Nat))).setCell ⟨w.heap.size + 1, 15, none⟩ (.int .u64 (dgl (b) 7 : Nat))) ?_ (fun _ => ?_)
      · simp [go_sem, hc, e4, e17, gUpon, hrf, hrl, hr, hr0, hr1, hr2, hr3, hr4, hr5, hr6, hr7]
      refine ⟨⟨stB_other g.x (by omega) a b, fun c hc => ?_⟩, fun t => ?_⟩
      · have hc1 : c = true := by rw [← hc]; simp
        subst hc1
        exact g.set a b
      refine (tbl_imp rfl (fun _ => val_imp) (tbl_imp rfl (fun _ => val_imp) (tbl_imp rfl (fun _ => val_imp) (tbl_imp rfl (fun _ => val_imp) (tbl_imp rfl (fun _ => val_imp) (tbl_imp rfl (fun _ => val_imp) (tbl_imp rfl (fun _ => val_imp) (tbl_imp rfl (fun _ => val_imp) (tbl_imp rfl (fun _ => val_imp) tbl_nil_imp)))))))))
    refine kSt rfl (fun φ hφ => gStep_run rfl (gRun_const _ 5 (.inr rfl) rfl (fun w => rfl))) ?_
    exact kSt0
  · intro W hC
    refine gFi 10 rfl ?_
    rintro _ rfl
    refine gFi 11 rfl ?_
    rintro _ rfl
    refine gFi 12 rfl ?_
    rintro _ rfl
    refine gFi 13 rfl ?_
    rintro _ rfl
    refine gFi 14 rfl ?_
    rintro _ rfl
    refine gFi 15 rfl ?_
    rintro _ rfl
    refine gFi 16 rfl ?_
    rintro _ rfl
    refine gFi 17 rfl ?_
    rintro _ rfl
    refine gFiN rfl ?_
    refine gFi 5 rfl ?_
    rintro _ rfl
    refine gFi0 ?_
    simp only [List.drop_succ_cons, List.drop_zero, Act.put, List.setIfInBounds_toArray, List.set_cons_succ, List.set_cons_zero]
    have HS := hide (hC.2 true rfl)
    clear hC h2
    have hr := HS.out.r.lo
    have hr0 := HS.out.r.h0
    have hr1 := HS.out.r.h1
    have hr2 := HS.out.r.h2
    have hr3 := HS.out.r.h3
    have hr4 := HS.out.r.h4
    have hr5 := HS.out.r.h5
    have hr6 := HS.out.r.h6
    have hr7 := HS.out.r.h7
    have hrl := HS.out.r.lt
    have hrf := HS.out.fr
    have HBE := hide HS.out.bel
    clear HS
    go_wp2
    exact bodyPost_ret (v := .tuple #[.agg #[.int .u64 (dgl (a) 0 : Nat), .int .u64 (dgl (a) 1 : Nat), .int .u64 (dgl (a) 2 : Nat), .int .u64 (dgl (a) 3 : Nat), .int .u64 (dgl (a) 4 : Nat), .int .u64 (dgl (a) 5 : Nat), .int .u64 (dgl (a) 6 : Nat), .int .u64 (dgl (a) 7 : Nat), .int .u64 (dgl (b) 0 : Nat), .int .u64 (dgl (b) 1 : Nat), .int .u64 (dgl (b) 2 : Nat), .int .u64 (dgl (b) 3 : Nat), .int .u64 (dgl (b) 4 : Nat), .int .u64 (dgl (b) 5 : Nat), .int .u64 (dgl (b) 6 : Nat), .int .u64 (dgl (b) 7 : Nat)], .bool true]) (by simp [results, Try.results15, go_sem, hr, hr0, hr1, hr2, hr3, hr4, hr5, hr6, hr7, hrl]) rfl ⟨rfl, HBE.out⟩
    
end Go.Proofs.Ytgnaomgcfliamaa

/- Contracts: fly.New. -/
set_option linter.unusedVariables false
set_option linter.unusedSimpArgs false
set_option maxRecDepth 8000
namespace Go.Proofs.Ytgnaomgcfliamaa
open Go.RowKit Plain

/-- What New goes by: its number in a box, and its result. -/
structure NeSt (q a b : Nat) (w W : World) : Prop where
  lx : LiesF W w.heap.size (dgl q)
  r : StB W (w.heap.size + 1) a b
  fr : ∀ i, W.frozen? ⟨w.heap.size + 1, i, none⟩ = false
  bel : Below w.heap.size w W
theorem NeSt.under {q a b : Nat} {w W W' : World} (h : NeSt q a b w W) {C : Nat} (hb : Below C W W') (hc : w.heap.size + 1 < C) : NeSt q a b w W' :=
  ⟨lies_box h.lx hb (by omega), h.r.under hb hc, fun i => (hb.frozen (p := ⟨w.heap.size + 1, i, none⟩) hc).trans (h.fr i), h.bel.trans (hb.mono (by omega))⟩
theorem NeSt.below {q a b : Nat} {w W W' : World} (h : NeSt q a b w W) (hb : Below W.heap.size W W') : NeSt q a b w W' := h.under hb h.r.lt
theorem neSt_start (w : World) (q : Nat) (e1 e2 : TypeId) : NeSt q 0 0 w ((w.alloc (.cells #[.int .u64 (dgl (q) 0 : Nat), .int .u64 (dgl (q) 1 : Nat), .int .u64 (dgl (q) 2 : Nat), .int .u64 (dgl (q) 3 : Nat), .int .u64 (dgl (q) 4 : Nat), .int .u64 (dgl (q) 5 : Nat), .int .u64 (dgl (q) 6 : Nat), .int .u64 (dgl (q) 7 : Nat)] e1)).alloc (.cells #[.int .u64 0, .int .u64 0, .int .u64 0, .int .u64 0, .int .u64 0, .int .u64 0, .int .u64 0, .int .u64 0, .int .u64 0, .int .u64 0, .int .u64 0, .int .u64 0, .int .u64 0, .int .u64 0, .int .u64 0, .int .u64 0] e2)) := by
  have h1 := (liesF_new w (dgl q) e1).alloc (.cells #[.int .u64 0, .int .u64 0, .int .u64 0, .int .u64 0, .int .u64 0, .int .u64 0, .int .u64 0, .int .u64 0, .int .u64 0, .int .u64 0, .int .u64 0, .int .u64 0, .int .u64 0, .int .u64 0, .int .u64 0, .int .u64 0] e2)
  have h2 := stB_new (w.alloc (.cells #[.int .u64 (dgl (q) 0 : Nat), .int .u64 (dgl (q) 1 : Nat), .int .u64 (dgl (q) 2 : Nat), .int .u64 (dgl (q) 3 : Nat), .int .u64 (dgl (q) 4 : Nat), .int .u64 (dgl (q) 5 : Nat), .int .u64 (dgl (q) 6 : Nat), .int .u64 (dgl (q) 7 : Nat)] e1)) 0 0 e2
  rw [World.size_alloc] at h2
  simp only [dgl_zero] at h2
  refine ⟨h1, ?_, fun i => by simp [go_sem], below_trans (below_allocs _ _) (below_allocs _ _)⟩
  refine ⟨fun i hi => ?_, by rw [dgl_zero]; exact h2.h0, by rw [dgl_zero]; exact h2.h1, by rw [dgl_zero]; exact h2.h2, by rw [dgl_zero]; exact h2.h3, by rw [dgl_zero]; exact h2.h4, by rw [dgl_zero]; exact h2.h5, by rw [dgl_zero]; exact h2.h6, by rw [dgl_zero]; exact h2.h7, h2.lt⟩
  rw [dgl_zero]
  have := h2.lo i hi
  rw [dgl_zero] at this
  exact this

set_option maxHeartbeats 2000000 in
theorem new_any (q : Nat) (hq : q < QQ) (w : World) :
    Calls Try.prog 13 #[.agg #[.int .u64 (dgl (q) 0 : Nat), .int .u64 (dgl (q) 1 : Nat), .int .u64 (dgl (q) 2 : Nat), .int .u64 (dgl (q) 3 : Nat), .int .u64 (dgl (q) 4 : Nat), .int .u64 (dgl (q) 5 : Nat), .int .u64 (dgl (q) 6 : Nat), .int .u64 (dgl (q) 7 : Nat)]] w fun e w' => e = .returned (.agg #[.int .u64 (dgl (q) 0 : Nat), .int .u64 (dgl (q) 1 : Nat), .int .u64 (dgl (q) 2 : Nat), .int .u64 (dgl (q) 3 : Nat), .int .u64 (dgl (q) 4 : Nat), .int .u64 (dgl (q) 5 : Nat), .int .u64 (dgl (q) 6 : Nat), .int .u64 (dgl (q) 7 : Nat), .int .u64 (dgl (qz ((q : Int) - 1)) 0 : Nat), .int .u64 (dgl (qz ((q : Int) - 1)) 1 : Nat), .int .u64 (dgl (qz ((q : Int) - 1)) 2 : Nat), .int .u64 (dgl (qz ((q : Int) - 1)) 3 : Nat), .int .u64 (dgl (qz ((q : Int) - 1)) 4 : Nat), .int .u64 (dgl (qz ((q : Int) - 1)) 5 : Nat), .int .u64 (dgl (qz ((q : Int) - 1)) 6 : Nat), .int .u64 (dgl (qz ((q : Int) - 1)) 7 : Nat)]) ∧ Below w.heap.size w w' := by
  have HSB := hide (fun w => wideSub_any q 1 hq (by have := qq_big; omega) w)
  rw [sub_one q hq] at HSB
  have HO1 : Hid (∀ i, i < 8 → dg [1] i = dgl 1 i) := fun i hi => (dig_one (β := 18446744073709551616) (by decide)).2 i
  have HS := hide (neSt_start w q 26 38)
  clear hq
  generalize hov : decide (q < 1) = ov at *
  clear hov
  generalize qz ((q : Int) - 1) = y at *
  go_enter Try.func13, Try.ntmps13
  go_upto_region 1 with fail
  refine wp_gen (fun W => NeSt q 0 0 w W) HS.out ?_
  clear HS
  rintro W1 h1
  refine wp_region_storeK 10 [8] [6, 7, 8, 9, 5, 10, 11, 3, 4] (fun bs => [(6, .val (.agg #[.int .u64 (dgl (q) 0 : Nat), .int .u64 (dgl (q) 1 : Nat), .int .u64 (dgl (q) 2 : Nat), .int .u64 (dgl (q) 3 : Nat), .int .u64 (dgl (q) 4 : Nat), .int .u64 (dgl (q) 5 : Nat), .int .u64 (dgl (q) 6 : Nat), .int .u64 (dgl (q) 7 : Nat)])), (7, bif bs.headD false then SlotIs.any  else SlotIs.rd [1]), (8, .val (.agg #[.int .u64 (dgl (1) 0 : Nat), .int .u64 (dgl (1) 1 : Nat), .int .u64 (dgl (1) 2 : Nat), .int .u64 (dgl (1) 3 : Nat), .int .u64 (dgl (1) 4 : Nat), .int .u64 (dgl (1) 5 : Nat), .int .u64 (dgl (1) 6 : Nat), .int .u64 (dgl (1) 7 : Nat)])), (9, .val (.tuple #[.agg #[.int .u64 (dgl (y) 0 : Nat), .int .u64 (dgl (y) 1 : Nat), .int .u64 (dgl (y) 2 : Nat), .int .u64 (dgl (y) 3 : Nat), .int .u64 (dgl (y) 4 : Nat), .int .u64 (dgl (y) 5 : Nat), .int .u64 (dgl (y) 6 : Nat), .int .u64 (dgl (y) 7 : Nat)], .bool ov])), (5, .val (.tuple #[.agg #[.int .u64 (dgl (y) 0 : Nat), .int .u64 (dgl (y) 1 : Nat), .int .u64 (dgl (y) 2 : Nat), .int .u64 (dgl (y) 3 : Nat), .int .u64 (dgl (y) 4 : Nat), .int .u64 (dgl (y) 5 : Nat), .int .u64 (dgl (y) 6 : Nat), .int .u64 (dgl (y) 7 : Nat)], .bool ov])), (10, .val (.agg #[.int .u64 (dgl (y) 0 : Nat), .int .u64 (dgl (y) 1 : Nat), .int .u64 (dgl (y) 2 : Nat), .int .u64 (dgl (y) 3 : Nat), .int .u64 (dgl (y) 4 : Nat), .int .u64 (dgl (y) 5 : Nat), .int .u64 (dgl (y) 6 : Nat), .int .u64 (dgl (y) 7 : Nat)])), (11, .val (.bool ov)), (3, bif bs.headD false then SlotIs.box (w.heap.size + 2) (dgl y) else SlotIs.box (w.heap.size + 2) (fun _ => 0)), (4, .val (.bool ov))])
    (fun _ W => NeSt q 0 0 w W) (fun bs => rfl) mixedOk (by kernel_rfl) (by kernel_rfl) (by kernel_rfl) (h1.below (Below.refl _ _).drew) (fun bs W W' h hb => h.below hb) ?_ ?_
  · refine kSt rfl (fun φ hφ => gStep_run rfl ?_) ?_
    · intro ρ W hC hc hf hL
      have e1 : ρ (.tmp 1) = .pointer (some ⟨w.heap.size, 0, none⟩) := hL 1 (by decide +kernel)
      have hl := hC.lx.1
      simp [go_sem, hc, hf, e1, hl]
      exact ⟨Below.refl _ _, rfl⟩
    refine kSt rfl (fun φ hφ => gStep_run rfl ?_) ?_
    · intro ρ W hC hc hf hL
      have hφ0 : φ 8 = false := hφ 8 (by simp) (by kernel_rfl)
      simp [go_sem, hc, hf]
      refine ⟨below_allocs _ _, ?_⟩
      show (bif φ 8 then SlotIs.any else SlotIs.rd [1]).R _ _
      rw [hφ0]
      exact Rd.lit (mk := mk64) W 24 [.int .u64 1] [1] rfl 1 (Nat.le_refl 1) (by decide)
    refine kSt rfl (fun φ hφ => gStep_run rfl ?_) ?_
    · intro ρ W hC hc hf hL
      have hφ0 : φ 8 = false := hφ 8 (by simp) (by kernel_rfl)
      have b7 : (bif φ 8 then SlotIs.any  else SlotIs.rd [1]).R (ρ (.tmp 7)) W := hL 7 (by decide +kernel)
      rw [hφ0] at b7
      simp [go_sem, hc, hf]
      refine (wideOf_any [1] 1 _ _ b7 HO1.out).mono ?_
      rintro e w' ⟨rfl, hb⟩
      exact ⟨_, rfl, by first | exact hb | (subst hb; exact Below.refl _ _), rfl⟩
    refine kSt rfl (fun φ hφ => gStep_run rfl ?_) ?_
    · intro ρ W hC hc hf hL
      have e6 : ρ (.tmp 6) = .agg #[.int .u64 (dgl (q) 0 : Nat), .int .u64 (dgl (q) 1 : Nat), .int .u64 (dgl (q) 2 : Nat), .int .u64 (dgl (q) 3 : Nat), .int .u64 (dgl (q) 4 : Nat), .int .u64 (dgl (q) 5 : Nat), .int .u64 (dgl (q) 6 : Nat), .int .u64 (dgl (q) 7 : Nat)] := hL 6 (by decide +kernel)
      have e8 : ρ (.tmp 8) = .agg #[.int .u64 (dgl (1) 0 : Nat), .int .u64 (dgl (1) 1 : Nat), .int .u64 (dgl (1) 2 : Nat), .int .u64 (dgl (1) 3 : Nat), .int .u64 (dgl (1) 4 : Nat), .int .u64 (dgl (1) 5 : Nat), .int .u64 (dgl (1) 6 : Nat), .int .u64 (dgl (1) 7 : Nat)] := hL 8 (by decide +kernel)
      simp [go_sem, hc, hf, e6, e8]
      refine (HSB.out W).mono ?_
      rintro e w' ⟨rfl, hb⟩
      exact ⟨_, rfl, by first | exact hb | (subst hb; exact Below.refl _ _), rfl⟩
    refine kSt rfl (fun φ hφ => gStep_run rfl (gRun_move 9 5 (.inl rfl) rfl (by decide +kernel) (fun v w h => h))) ?_
    refine kSt rfl (fun φ hφ => gStep_run rfl ?_) ?_
    · intro ρ W hC hc hf hL
      have e5 : ρ (.tmp 5) = .tuple #[.agg #[.int .u64 (dgl (y) 0 : Nat), .int .u64 (dgl (y) 1 : Nat), .int .u64 (dgl (y) 2 : Nat), .int .u64 (dgl (y) 3 : Nat), .int .u64 (dgl (y) 4 : Nat), .int .u64 (dgl (y) 5 : Nat), .int .u64 (dgl (y) 6 : Nat), .int .u64 (dgl (y) 7 : Nat)], .bool ov] := hL 5 (by decide +kernel)
      simp [go_sem, hc, hf, e5]
      exact ⟨Below.refl _ _, rfl⟩
    refine kSt rfl (fun φ hφ => gStep_run rfl ?_) ?_
    · intro ρ W hC hc hf hL
      have e5 : ρ (.tmp 5) = .tuple #[.agg #[.int .u64 (dgl (y) 0 : Nat), .int .u64 (dgl (y) 1 : Nat), .int .u64 (dgl (y) 2 : Nat), .int .u64 (dgl (y) 3 : Nat), .int .u64 (dgl (y) 4 : Nat), .int .u64 (dgl (y) 5 : Nat), .int .u64 (dgl (y) 6 : Nat), .int .u64 (dgl (y) 7 : Nat)], .bool ov] := hL 5 (by decide +kernel)
      simp [go_sem, hc, hf, e5]
      exact ⟨Below.refl _ _, rfl⟩
    refine kSt rfl (fun φ hφ => gStep_run rfl ?_) ?_
    · intro ρ W hC hc hf hL
      have hφ0 : φ 8 = false := hφ 8 (by simp) (by kernel_rfl)
      simp [go_sem, hc, hf]
      refine ⟨below_allocs _ _, ?_⟩
      show (bif φ 8 then SlotIs.box (w.heap.size + 2) (dgl y) else SlotIs.box (w.heap.size + 2) (fun _ => 0)).R _ _
      rw [hφ0]
      exact ⟨_, rfl, hC.r.lt, liesF_new _ (fun _ => 0) _, fun i => by simp [go_sem]⟩
    refine kStS rfl ⟨rfl, rfl, ?_⟩ ?_
    · intro φ ρ W hφ hC hc hL
      have b3 := hL 3 (by decide +kernel)
      have e10 : ρ (.tmp 10) = .agg #[.int .u64 (dgl (y) 0 : Nat), .int .u64 (dgl (y) 1 : Nat), .int .u64 (dgl (y) 2 : Nat), .int .u64 (dgl (y) 3 : Nat), .int .u64 (dgl (y) 4 : Nat), .int .u64 (dgl (y) 5 : Nat), .int .u64 (dgl (y) 6 : Nat), .int .u64 (dgl (y) 7 : Nat)] := hL 10 (by decide +kernel)
      have bx : (bif φ 8 then SlotIs.box (w.heap.size + 2) (dgl y) else SlotIs.box (w.heap.size + 2) (fun _ => 0)).R (ρ (.tmp 3)) W := hL 3 (by decide +kernel)
      rw [hφ] at bx
      obtain ⟨px, ex, qx, lx, zx⟩ := bx
      have hz := lx.1
      have hzl := lx.2
      refine gUpon_of ((((((((W.setCell ⟨px, 0, none⟩ (.int .u64 (dgl y 0 : Nat))).setCell ⟨px, 1, none⟩ (.int .u64 (dgl y 1 : Nat))).setCell ⟨px, 2, none⟩ (.int .u64 (dgl y 2 : Nat))).setCell ⟨px, 3, none⟩ (.int .u64 (dgl y 3 : Nat))).setCell ⟨px, 4, none⟩ (.int .u64 (dgl y 4 : Nat))).setCell ⟨px, 5, none⟩ (.int .u64 (dgl y 5 : Nat))).setCell ⟨px, 6, none⟩ (.int .u64 (dgl y 6 : Nat))).setCell ⟨px, 7, none⟩ (.int .u64 (dgl y 7 : Nat))) ?_ (fun _ => ?_)
      · simp [go_sem, hc, e10, ex, hz, hzl, zx, gUpon]
      have hs8 := below_set8 (Below.refl (w.heap.size + 2) W) px qx (.int .u64 (dgl y 0 : Nat)) (.int .u64 (dgl y 1 : Nat)) (.int .u64 (dgl y 2 : Nat)) (.int .u64 (dgl y 3 : Nat)) (.int .u64 (dgl y 4 : Nat)) (.int .u64 (dgl y 5 : Nat)) (.int .u64 (dgl y 6 : Nat)) (.int .u64 (dgl y 7 : Nat))
      refine ⟨hC.under hs8 (by omega), fun t => ?_⟩
      refine (tbl_imp rfl (fun _ => val_imp) (tbl_imp rfl (fun _ _ => ?_) (tbl_imp rfl (fun _ => val_imp) (tbl_imp rfl (fun _ => val_imp) (tbl_imp rfl (fun _ => val_imp) (tbl_imp rfl (fun _ => val_imp) (tbl_imp rfl (fun _ => val_imp) (tbl_imp rfl (fun ht h => ?_) (tbl_imp rfl (fun _ => val_imp) tbl_nil_imp)))))))))
      · show (bif (φ 8 || true) then SlotIs.any else SlotIs.rd [1]).R _ _
        rw [Bool.or_true]
        trivial
      · subst ht
        show (bif (φ 8 || true) then SlotIs.box (w.heap.size + 2) (dgl y) else SlotIs.box (w.heap.size + 2) (fun _ => 0)).R _ _
        rw [Bool.or_true]
        exact ⟨px, ex, qx, set8_same W px (dgl y) (fun _ => 0) lx, fun i => by simpa [go_sem] using zx i⟩
    refine kSt rfl (fun φ hφ => gStep_run rfl (gRun_move 11 4 (.inr rfl) rfl (by decide +kernel) (fun v w h => h))) ?_
    exact kSt0
  · intro W hC
    refine gFi 6 rfl ?_
    rintro _ rfl
    refine gFi 7 rfl ?_
    rintro u7 b7
    refine gFi 8 rfl ?_
    rintro _ rfl
    refine gFi 9 rfl ?_
    rintro _ rfl
    refine gFi 5 rfl ?_
    rintro _ rfl
    refine gFi 10 rfl ?_
    rintro _ rfl
    refine gFi 11 rfl ?_
    rintro _ rfl
    refine gFi 3 rfl ?_
    rintro _ ⟨p3, rfl, q3, l3, z3⟩
    refine gFiN rfl ?_
    refine gFi 4 rfl ?_
    rintro _ rfl
    refine gFi0 ?_
    simp only [List.drop_succ_cons, List.drop_zero, Act.put, List.setIfInBounds_toArray, List.set_cons_succ, List.set_cons_zero]
    have hly := l3.1
    have hlx := hC.lx.1
    have HS := hide hC
    clear hC h1 l3 z3 b7 q3
    have hr := HS.out.r.lo
    have hr0 := HS.out.r.h0
    have hr1 := HS.out.r.h1
    have hr2 := HS.out.r.h2
    have hr3 := HS.out.r.h3
    have hr4 := HS.out.r.h4
    have hr5 := HS.out.r.h5
    have hr6 := HS.out.r.h6
    have hr7 := HS.out.r.h7
    have hrl := HS.out.r.lt
    have hrf := HS.out.fr
    have HBE := hide HS.out.bel
    clear HS
    go_wp2
    exact bodyPost_ret (v := .agg #[.int .u64 (dgl (q) 0 : Nat), .int .u64 (dgl (q) 1 : Nat), .int .u64 (dgl (q) 2 : Nat), .int .u64 (dgl (q) 3 : Nat), .int .u64 (dgl (q) 4 : Nat), .int .u64 (dgl (q) 5 : Nat), .int .u64 (dgl (q) 6 : Nat), .int .u64 (dgl (q) 7 : Nat), .int .u64 (dgl (y) 0 : Nat), .int .u64 (dgl (y) 1 : Nat), .int .u64 (dgl (y) 2 : Nat), .int .u64 (dgl (y) 3 : Nat), .int .u64 (dgl (y) 4 : Nat), .int .u64 (dgl (y) 5 : Nat), .int .u64 (dgl (y) 6 : Nat), .int .u64 (dgl (y) 7 : Nat)]) (by simp [results, Try.results13, go_sem, hr, hr0, hr1, hr2, hr3, hr4, hr5, hr6, hr7, hrl]) rfl ⟨rfl, below_set16 HBE.out _ (by omega) _ _⟩
    

end Go.Proofs.Ytgnaomgcfliamaa

/- Contracts: slices.ContainsFunc at fly.Convert's closure; fly.Convert. -/
set_option linter.unusedVariables false
set_option linter.unusedSimpArgs false
set_option maxRecDepth 8000
namespace Go.Proofs.Ytgnaomgcfliamaa
open Go.RowKit Plain

/-- Are the first k numbers of a list digits? -/
def allD (l : List Nat) (k : Nat) : Prop := ∀ i, i < k → isD (zof (dg l i)) = true

set_option maxHeartbeats 1000000 in
theorem indexF_any (l : List Nat) (v : Value) (w : World) (hr : Rd mkZ w v l) (hn : l.length ≤ 1000) :
    Calls Try.prog 39 #[v, .func (.func 26) #[] #[]] w fun e w' => w' = w ∧ ∃ r : Int, e = .returned (.int .i64 r) ∧ ((r < 0 ∧ allD l l.length) ∨ (0 ≤ r ∧ ∃ i, i < l.length ∧ isD (zof (dg l i)) = false)) := by
  obtain ⟨ao, ca, rfl, hca, hma, hc⟩ := hr
  unfold maxLen at hma
  have HC := hide hc
  clear hc
  go_enter Try.func39, Try.ntmps39
  go_wp2
  go_loopw [8] (fun i wr => ∃ k : Nat, k ≤ l.length ∧ i = .int .i64 k ∧ Hid (allD l k) ∧ wr = w)
    (fun i _ => l.length - (intOf i).toNat)
  case atStart => exact ⟨0, by omega, rfl, fun i hi => absurd hi (by omega), rfl⟩
  case round =>
    obtain ⟨k, hk, rfl, HA, rfl⟩ := hrel
    by_cases hlt : k < l.length
    · rcases HC.out with hc | ⟨b, off, rfl, hbl, hcell⟩
      · omega
      · have hck := hcell k hlt
        unfold mkZ at hck
        have hi1 : (k : Int) < (l.length : Int) := by omega
        obtain ⟨z, hz⟩ : ∃ z, zof (dg l k) = z := ⟨_, rfl⟩
        have HZ := hide hz
        rw [hz] at hck
        clear hcell hz
        have HK := hide (fun w => kclo_any z w)
        go_wp2_with fail
        refine (HK.out _).mono ?_
        rintro e w' ⟨rfl, hw⟩
        subst hw
        rcases hd : isD z with _ | _
        · clear HK hck
          have HN : Hid (∃ i, i < l.length ∧ isD (zof (dg l i)) = false) := ⟨k, hlt, by rw [HZ.out]; exact hd⟩
          clear hd
          go_wp2
          go_ret
          exact ⟨rfl, _, rfl, .inr ⟨by omega, HN.out⟩⟩
        · clear HK hck
          have HN : Hid (allD l (k + 1)) := fun i hi => by
            rcases Nat.lt_or_ge i k with h | h
            · exact HA.out i h
            · have : i = k := by omega
              subst this
              rw [HZ.out]; exact hd
          clear hd HZ HA
          go_wp2
          go_roundw
          case rel => exact ⟨k + 1, by omega, by go_num, HN, by first | rfl | trivial⟩
          case measure => simp [intOf]; omega
    · have hk : k = l.length := by omega
      subst hk
      go_wp2
      go_ret
      exact ⟨rfl, _, rfl, .inl ⟨by omega, HA.out⟩⟩

theorem containsF_any (l : List Nat) (v : Value) (w : World) (hr : Rd mkZ w v l) (hn : l.length ≤ 1000) :
    Calls Try.prog 25 #[v, .func (.func 26) #[] #[]] w fun e w' => w' = w ∧ ∃ b : Bool, e = .returned (.bool b) ∧ ((b = false ∧ allD l l.length) ∨ (b = true ∧ ∃ i, i < l.length ∧ isD (zof (dg l i)) = false)) := by
  have HI := hide (indexF_any l v w hr hn)
  clear hr hn
  go_enter Try.func25, Try.ntmps25
  go_wp2_with fail
  refine HI.out.mono ?_
  rintro e w' ⟨hw, r, rfl, hh⟩
  subst hw
  have HH := hide hh
  clear hh HI
  go_wp2
  go_ret
  refine ⟨rfl, _, rfl, ?_⟩
  rcases HH.out with ⟨h1, h2⟩ | ⟨h1, h2⟩
  · exact .inl ⟨decide_eq_false (by omega), h2⟩
  · exact .inr ⟨decide_eq_true h1, h2⟩

theorem convert_no (l : List Nat) (v : Value) (w : World) (hr : Rd mkZ w v l) (hn : l.length ≤ 1000) (hd : ∃ i, i < l.length ∧ isD (zof (dg l i)) = false) :
    Calls Try.prog 8 #[v] w fun e w' => e = .returned (.tuple #[.agg #[.int .u64 0, .int .u64 0, .int .u64 0, .int .u64 0, .int .u64 0, .int .u64 0, .int .u64 0, .int .u64 0], .bool false]) ∧ Below w.heap.size w w' := by
  have HC := hide (containsF_any l v (w.alloc (.cells #[.int .u64 0, .int .u64 0, .int .u64 0, .int .u64 0, .int .u64 0, .int .u64 0, .int .u64 0, .int .u64 0] 26)) (hr.below (below_allocs _ _)) hn)
  have hl := liesF_new w (fun _ => 0) 26
  have HS : Hid (LiesF (w.alloc (.cells #[.int .u64 0, .int .u64 0, .int .u64 0, .int .u64 0, .int .u64 0, .int .u64 0, .int .u64 0, .int .u64 0] 26)) w.heap.size (fun _ => 0) ∧ (∀ i, (w.alloc (.cells #[.int .u64 0, .int .u64 0, .int .u64 0, .int .u64 0, .int .u64 0, .int .u64 0, .int .u64 0, .int .u64 0] 26)).frozen? ⟨w.heap.size, i, none⟩ = false) ∧ Below w.heap.size w (w.alloc (.cells #[.int .u64 0, .int .u64 0, .int .u64 0, .int .u64 0, .int .u64 0, .int .u64 0, .int .u64 0, .int .u64 0] 26))) := ⟨hl, fun i => by simp [go_sem], below_allocs _ _⟩
  have HD := hide hd
  clear hr hd hl
  go_enter Try.func8, Try.ntmps8
  go_wp2_with fail
  refine HC.out.mono ?_
  rintro e w' ⟨hw, b, rfl, hh⟩
  obtain rfl : b = true := by
    rcases hh with ⟨_, h⟩ | ⟨h, _⟩
    · obtain ⟨i, h1, h2⟩ := HD.out
      rw [h i h1] at h2
      cases h2
    · exact h
  subst hw
  clear hh HC HD
  go_upto_region 2 with fail
  refine wp_gen (fun W => LiesF W w.heap.size (fun _ => 0) ∧ (∀ i, W.frozen? ⟨w.heap.size, i, none⟩ = false) ∧ Below w.heap.size w W) HS.out ?_
  clear HS
  rintro W2 ⟨h1, h2, h3⟩
  have hr1 := h1.1
  have hrl1 := h1.2
  have HBE := hide h3
  clear h1 h3
  go_wp2
  exact bodyPost_ret (v := .tuple #[.agg #[.int .u64 0, .int .u64 0, .int .u64 0, .int .u64 0, .int .u64 0, .int .u64 0, .int .u64 0, .int .u64 0], .bool false]) (by simp [results, Try.results8, go_sem, hr1, hrl1]) rfl ⟨rfl, below_set8 HBE.out _ (by omega) _ _ _ _ _ _ _ _⟩

/-- What Convert goes by: its result, and the state so far. -/
structure CvSt (p x y : Nat) (w W : World) : Prop where
  lr : LiesF W w.heap.size (fun _ => 0)
  fr : ∀ i, W.frozen? ⟨w.heap.size, i, none⟩ = false
  s : StB W p x y
  fs : ∀ i, W.frozen? ⟨p, i, none⟩ = false
  op : w.heap.size < p
  bel : Below w.heap.size w W
theorem CvSt.below {p x y : Nat} {w W W' : World} (h : CvSt p x y w W) (hb : Below W.heap.size W W') : CvSt p x y w W' :=
  ⟨h.lr.below hb, fun i => (hb.frozen (p := ⟨w.heap.size, i, none⟩) h.lr.2).trans (h.fr i), h.s.below hb, fun i => (hb.frozen (p := ⟨p, i, none⟩) h.s.lt).trans (h.fs i), h.op, below_trans h.bel hb⟩
theorem CvSt.set {p x y : Nat} {w W : World} (h : CvSt p x y w W) (a b : Nat) : CvSt p a b w ((((((((((((((((W.setCell ⟨p, 0, none⟩ (.int .u64 (dgl (a) 0 : Nat))).setCell ⟨p, 1, none⟩ (.int .u64 (dgl (a) 1 : Nat))).setCell ⟨p, 2, none⟩ (.int .u64 (dgl (a) 2 : Nat))).setCell ⟨p, 3, none⟩ (.int .u64 (dgl (a) 3 : Nat))).setCell ⟨p, 4, none⟩ (.int .u64 (dgl (a) 4 : Nat))).setCell ⟨p, 5, none⟩ (.int .u64 (dgl (a) 5 : Nat))).setCell ⟨p, 6, none⟩ (.int .u64 (dgl (a) 6 : Nat))).setCell ⟨p, 7, none⟩ (.int .u64 (dgl (a) 7 : Nat))).setCell ⟨p, 8, none⟩ (.int .u64 (dgl (b) 0 : Nat))).setCell ⟨p, 9, none⟩ (.int .u64 (dgl (b) 1 : Nat))).setCell ⟨p, 10, none⟩ (.int .u64 (dgl (b) 2 : Nat))).setCell ⟨p, 11, none⟩ (.int .u64 (dgl (b) 3 : Nat))).setCell ⟨p, 12, none⟩ (.int .u64 (dgl (b) 4 : Nat))).setCell ⟨p, 13, none⟩ (.int .u64 (dgl (b) 5 : Nat))).setCell ⟨p, 14, none⟩ (.int .u64 (dgl (b) 6 : Nat))).setCell ⟨p, 15, none⟩ (.int .u64 (dgl (b) 7 : Nat))) :=
  ⟨lies_box h.lr (below_set16 (Below.refl p W) p (Nat.le_refl _) a b) h.op, fun i => by simpa [go_sem] using h.fr i, stB_set16 h.s a b, fun i => by simpa [go_sem] using h.fs i, h.op, below_set16 h.bel _ (Nat.le_of_lt h.op) a b⟩

set_option maxHeartbeats 4000000 in
theorem convert_yes (l : List Nat) (v : Value) (w : World) (hr : Rd mkZ w v l) (hn : l.length ≤ 1000) (hd : allD l l.length) :
    Calls Try.prog 8 #[v] w fun e w' => e = .returned (.tuple #[.agg #[.int .u64 (dgl (qz (pZ l l.length)) 0 : Nat), .int .u64 (dgl (qz (pZ l l.length)) 1 : Nat), .int .u64 (dgl (qz (pZ l l.length)) 2 : Nat), .int .u64 (dgl (qz (pZ l l.length)) 3 : Nat), .int .u64 (dgl (qz (pZ l l.length)) 4 : Nat), .int .u64 (dgl (qz (pZ l l.length)) 5 : Nat), .int .u64 (dgl (qz (pZ l l.length)) 6 : Nat), .int .u64 (dgl (qz (pZ l l.length)) 7 : Nat)], .bool true]) ∧ Below w.heap.size w w' := by
  have HC := hide (containsF_any l v (w.alloc (.cells #[.int .u64 0, .int .u64 0, .int .u64 0, .int .u64 0, .int .u64 0, .int .u64 0, .int .u64 0, .int .u64 0] 26)) (hr.below (below_allocs _ _)) hn)
  have hl := liesF_new w (fun _ => 0) 26
  have HS : Hid (LiesF (w.alloc (.cells #[.int .u64 0, .int .u64 0, .int .u64 0, .int .u64 0, .int .u64 0, .int .u64 0, .int .u64 0, .int .u64 0] 26)) w.heap.size (fun _ => 0) ∧ (∀ i, (w.alloc (.cells #[.int .u64 0, .int .u64 0, .int .u64 0, .int .u64 0, .int .u64 0, .int .u64 0, .int .u64 0, .int .u64 0] 26)).frozen? ⟨w.heap.size, i, none⟩ = false) ∧ Below w.heap.size w (w.alloc (.cells #[.int .u64 0, .int .u64 0, .int .u64 0, .int .u64 0, .int .u64 0, .int .u64 0, .int .u64 0, .int .u64 0] 26))) := ⟨hl, fun i => by simp [go_sem], below_allocs _ _⟩
  have HNW : Hid (∀ w, Calls Try.prog 13 #[.agg #[.int .u64 0, .int .u64 0, .int .u64 0, .int .u64 0, .int .u64 0, .int .u64 0, .int .u64 0, .int .u64 0]] w fun e w' => e = .returned (.agg #[.int .u64 (dgl (qz (pZ l 0)) 0 : Nat), .int .u64 (dgl (qz (pZ l 0)) 1 : Nat), .int .u64 (dgl (qz (pZ l 0)) 2 : Nat), .int .u64 (dgl (qz (pZ l 0)) 3 : Nat), .int .u64 (dgl (qz (pZ l 0)) 4 : Nat), .int .u64 (dgl (qz (pZ l 0)) 5 : Nat), .int .u64 (dgl (qz (pZ l 0)) 6 : Nat), .int .u64 (dgl (qz (pZ l 0)) 7 : Nat), .int .u64 (dgl (qz (pZ l 0 - 1)) 0 : Nat), .int .u64 (dgl (qz (pZ l 0 - 1)) 1 : Nat), .int .u64 (dgl (qz (pZ l 0 - 1)) 2 : Nat), .int .u64 (dgl (qz (pZ l 0 - 1)) 3 : Nat), .int .u64 (dgl (qz (pZ l 0 - 1)) 4 : Nat), .int .u64 (dgl (qz (pZ l 0 - 1)) 5 : Nat), .int .u64 (dgl (qz (pZ l 0 - 1)) 6 : Nat), .int .u64 (dgl (qz (pZ l 0 - 1)) 7 : Nat)]) ∧ Below w.heap.size w w') := fun w => by
    have h := new_any 0 qq_pos w
    simp only [dgl_zero] at h
    have e : pZ l 0 = 0 := rfl
    rw [e, qz_zero]
    simp only [dgl_zero]
    exact h
  have HD := hide hd
  have HR := hide hr
  obtain ⟨ao, ca, rfl, hca, hma, hc⟩ := hr
  unfold maxLen at hma
  have HCE := hide hc
  clear hc hd hl
  go_enter Try.func8, Try.ntmps8
  go_wp2_with fail
  refine HC.out.mono ?_
  rintro e w' ⟨hw, b, rfl, hh⟩
  obtain rfl : b = false := by
    rcases hh with ⟨h, _⟩ | ⟨_, h⟩
    · exact h
    · obtain ⟨i, h1, h2⟩ := h
      rw [HD.out i h1] at h2
      cases h2
  subst hw
  clear hh HC
  go_upto_region 3 with fail
  refine wp_gen (fun W => LiesF W w.heap.size (fun _ => 0) ∧ (∀ i, W.frozen? ⟨w.heap.size, i, none⟩ = false) ∧ Below w.heap.size w W) HS.out ?_
  clear HS
  rintro W3 h3
  have HS := hide h3
  clear h3
  go_wp2_with fail
  refine (HNW.out _).mono ?_
  rintro e w4 ⟨rfl, hb4⟩
  have HS4 : Hid (LiesF w4 w.heap.size (fun _ => 0) ∧ (∀ i, w4.frozen? ⟨w.heap.size, i, none⟩ = false) ∧ Below w.heap.size w w4) := ⟨HS.out.1.below hb4, fun i => (hb4.frozen (p := ⟨w.heap.size, i, none⟩) HS.out.1.2).trans (HS.out.2.1 i), below_trans HS.out.2.2 hb4⟩
  clear HS hb4 HNW
  have HP0 : Hid (pZ l 0 = pZ l 0) := rfl
  go_upto_region 4 with fail
  have hbw := fun x y : Nat => below_allocs w4 (.cells #[.int .u64 (dgl (x) 0 : Nat), .int .u64 (dgl (x) 1 : Nat), .int .u64 (dgl (x) 2 : Nat), .int .u64 (dgl (x) 3 : Nat), .int .u64 (dgl (x) 4 : Nat), .int .u64 (dgl (x) 5 : Nat), .int .u64 (dgl (x) 6 : Nat), .int .u64 (dgl (x) 7 : Nat), .int .u64 (dgl (y) 0 : Nat), .int .u64 (dgl (y) 1 : Nat), .int .u64 (dgl (y) 2 : Nat), .int .u64 (dgl (y) 3 : Nat), .int .u64 (dgl (y) 4 : Nat), .int .u64 (dgl (y) 5 : Nat), .int .u64 (dgl (y) 6 : Nat), .int .u64 (dgl (y) 7 : Nat)] 38)
  refine wp_gen (fun W => CvSt w4.heap.size (qz (pZ l 0)) (qz (pZ l 0 - 1)) w W) ⟨HS4.out.1.below (hbw _ _), fun i => ((hbw _ _).frozen (p := ⟨w.heap.size, i, none⟩) HS4.out.1.2).trans (HS4.out.2.1 i), stB_new w4 _ _ _, fun i => by simp [go_sem], HS4.out.1.2, below_trans HS4.out.2.2 (hbw _ _)⟩ ?_
  clear HS4 hbw
  generalize w4.heap.size = p at *
  rintro W4 h4
  have HS := hide h4
  clear h4
  go_wp2
  go_loopw [14] (fun i wr => ∃ (k x y : Nat), k ≤ l.length ∧ i = .int .i64 k ∧ Hid (x = qz (pZ l k) ∧ y = qz (pZ l k - 1)) ∧ Hid (CvSt p x y w wr))
    (fun i _ => l.length - (intOf i).toNat)
  case atStart => exact ⟨0, _, _, by omega, rfl, ⟨rfl, rfl⟩, HS⟩
  case round =>
    clear HS
    obtain ⟨k, x, y, hk, rfl, HX, hst⟩ := hrel
    by_cases hlt : k < l.length
    · rcases HCE.out with hc | ⟨b, off, rfl, hbl, hcell⟩
      · omega
      · have hck : wr.cell? ⟨b, off + k, none⟩ = some (mkZ (dg l k)) := (hst.out.bel.cell (p := ⟨b, off + k, none⟩) hbl).trans (hcell k hlt)
        unfold mkZ at hck
        have hi1 : (k : Int) < (l.length : Int) := by omega
        have HNX : Hid (∀ w, Calls Try.prog 15 #[.agg #[.int .u64 (dgl (x) 0 : Nat), .int .u64 (dgl (x) 1 : Nat), .int .u64 (dgl (x) 2 : Nat), .int .u64 (dgl (x) 3 : Nat), .int .u64 (dgl (x) 4 : Nat), .int .u64 (dgl (x) 5 : Nat), .int .u64 (dgl (x) 6 : Nat), .int .u64 (dgl (x) 7 : Nat), .int .u64 (dgl (y) 0 : Nat), .int .u64 (dgl (y) 1 : Nat), .int .u64 (dgl (y) 2 : Nat), .int .u64 (dgl (y) 3 : Nat), .int .u64 (dgl (y) 4 : Nat), .int .u64 (dgl (y) 5 : Nat), .int .u64 (dgl (y) 6 : Nat), .int .u64 (dgl (y) 7 : Nat)], .int .i64 (zof (dg l k))] w fun e w' => e = .returned (.tuple #[.agg #[.int .u64 (dgl (qz (pZ l (k + 1))) 0 : Nat), .int .u64 (dgl (qz (pZ l (k + 1))) 1 : Nat), .int .u64 (dgl (qz (pZ l (k + 1))) 2 : Nat), .int .u64 (dgl (qz (pZ l (k + 1))) 3 : Nat), .int .u64 (dgl (qz (pZ l (k + 1))) 4 : Nat), .int .u64 (dgl (qz (pZ l (k + 1))) 5 : Nat), .int .u64 (dgl (qz (pZ l (k + 1))) 6 : Nat), .int .u64 (dgl (qz (pZ l (k + 1))) 7 : Nat), .int .u64 (dgl (qz (pZ l (k + 1) - 1)) 0 : Nat), .int .u64 (dgl (qz (pZ l (k + 1) - 1)) 1 : Nat), .int .u64 (dgl (qz (pZ l (k + 1) - 1)) 2 : Nat), .int .u64 (dgl (qz (pZ l (k + 1) - 1)) 3 : Nat), .int .u64 (dgl (qz (pZ l (k + 1) - 1)) 4 : Nat), .int .u64 (dgl (qz (pZ l (k + 1) - 1)) 5 : Nat), .int .u64 (dgl (qz (pZ l (k + 1) - 1)) 6 : Nat), .int .u64 (dgl (qz (pZ l (k + 1) - 1)) 7 : Nat)], .bool true]) ∧ Below w.heap.size w w') := fun w => by
          rw [HX.out.1, HX.out.2]
          exact next_yes (pZ l k) (zof (dg l k)) (HD.out k hlt) w
        obtain ⟨z, hz⟩ : ∃ z, zof (dg l k) = z := ⟨_, rfl⟩
        rw [hz] at hck HNX
        clear hcell hz HX
        obtain ⟨a, ha⟩ : ∃ a, qz (pZ l (k + 1)) = a := ⟨_, rfl⟩
        obtain ⟨c, hcc⟩ : ∃ c, qz (pZ l (k + 1) - 1) = c := ⟨_, rfl⟩
        have HX : Hid (a = qz (pZ l (k + 1)) ∧ c = qz (pZ l (k + 1) - 1)) := ⟨ha.symm, hcc.symm⟩
        rw [ha, hcc] at HNX
        clear ha hcc
        have hx := hst.out.s.lo
        have hx0 := hst.out.s.h0
        have hx1 := hst.out.s.h1
        have hx2 := hst.out.s.h2
        have hx3 := hst.out.s.h3
        have hx4 := hst.out.s.h4
        have hx5 := hst.out.s.h5
        have hx6 := hst.out.s.h6
        have hx7 := hst.out.s.h7
        go_wp2_with fail
        refine (HNX.out _).mono ?_
        rintro e w5 ⟨rfl, hb5⟩
        replace hst := hide (hst.out.below hb5)
        clear hb5 hck HNX hx hx0 hx1 hx2 hx3 hx4 hx5 hx6 hx7
        have hx := hst.out.s.lo
        have hx0 := hst.out.s.h0
        have hx1 := hst.out.s.h1
        have hx2 := hst.out.s.h2
        have hx3 := hst.out.s.h3
        have hx4 := hst.out.s.h4
        have hx5 := hst.out.s.h5
        have hx6 := hst.out.s.h6
        have hx7 := hst.out.s.h7
        have hxl := hst.out.s.lt
        have hxf := hst.out.fs
        go_wp2
        go_roundw
        case rel => exact ⟨k + 1, a, c, by omega, by go_num, HX, hst.out.set a c⟩
        case measure => simp [intOf]; omega
    · have hk : k = l.length := by omega
      subst hk
      obtain rfl : x = qz (pZ l l.length) := HX.out.1
      clear HX
      have hx := hst.out.s.lo
      have hxl := hst.out.s.lt
      have hr1 := hst.out.lr.1
      have hrl1 := hst.out.lr.2
      have hrf1 := hst.out.fr
      have HBE := hide hst.out.bel
      clear hst
      go_wp2
      exact bodyPost_ret (v := .tuple #[.agg #[.int .u64 (dgl (qz (pZ l l.length)) 0 : Nat), .int .u64 (dgl (qz (pZ l l.length)) 1 : Nat), .int .u64 (dgl (qz (pZ l l.length)) 2 : Nat), .int .u64 (dgl (qz (pZ l l.length)) 3 : Nat), .int .u64 (dgl (qz (pZ l l.length)) 4 : Nat), .int .u64 (dgl (qz (pZ l l.length)) 5 : Nat), .int .u64 (dgl (qz (pZ l l.length)) 6 : Nat), .int .u64 (dgl (qz (pZ l l.length)) 7 : Nat)], .bool true]) (by simp [results, Try.results8, go_sem, hr1, hrl1]) rfl ⟨rfl, below_set8 HBE.out _ (by omega) _ _ _ _ _ _ _ _⟩

end Go.Proofs.Ytgnaomgcfliamaa

/- Contracts: fly.Turn; rows of ints; the other sign. -/
set_option linter.unusedVariables false
set_option linter.unusedSimpArgs false
set_option maxRecDepth 8000
namespace Go.Proofs.Ytgnaomgcfliamaa
open Go.RowKit Plain

/-- The other sign, as an int has it. -/
def ngz (z : Int) : Int := if z = -9223372036854775808 then z else -z
theorem ngz_wrap {z : Int} (h1 : -9223372036854775808 ≤ z) (h2 : z ≤ 9223372036854775807) : IntKind.i64.wrap (-z) = ngz z := by
  rw [IntKind.wrap_i64]; unfold ngz; split <;> omega
theorem ngz_lo {z : Int} (h1 : -9223372036854775808 ≤ z) (h2 : z ≤ 9223372036854775807) : -9223372036854775808 ≤ ngz z := by
  unfold ngz; split <;> omega
theorem isD_ngz (z : Int) : isD (ngz z) = isD z := by
  unfold isD ngz
  split
  · rfl
  · rw [Bool.eq_iff_iff]; simp; omega
theorem ngz_digit {z : Int} (h : isD z = true) : ngz z = -z := by
  have := isD_iff.1 h
  unfold ngz; rw [if_neg (by omega)]
theorem zof_bd {x : Nat} (h : x < 18446744073709551616) : -9223372036854775808 ≤ zof x ∧ zof x ≤ 9223372036854775807 := by unfold zof; omega
def zzN : Nat := 9223372036854775808
theorem mkZ_zero : mkZ zzN = .int .i64 0 := rfl
theorem int_infoZ : (Try.prog.info? 3).map (fun i => (i.zero, i.size, i.bytes)) = some (some (.int .i64 0), 1, 8) := by kernel_rfl
theorem infoZ_rd {mk : Nat → Value} {W : World} {base : Nat} {e : TypeId} {v : Value} {n : Nat} {l : List Nat} (hl : l.length = n) (h : W.ownsRow base e 1 v n (l.map mk)) : Rd mk W v l := Rd.of_owns (by rw [hl]; exact h)
theorem ownsZ_of_block {w w' : World} {base : Nat} {e : TypeId} {size n : Nat} {v : Value} {xs : List Value} (h : w.ownsRow base e size v n xs) (hb : ∀ g, v.ownBlock = some g → w'.heap[g]? = w.heap[g]?) : w'.ownsRow base e size v n xs := by
  refine ⟨h.1, ?_⟩
  rcases h.2 with hn | ⟨g, cap, cur, rfl, hb1, hgg, rest⟩
  · exact .inl hn
  · exact .inr ⟨g, cap, cur, rfl, hb1, (hb g rfl).trans hgg, rest⟩
theorem ownsZ_below {w w' : World} {base : Nat} {e : TypeId} {size n : Nat} {v : Value} {xs : List Value} (h : w.ownsRow base e size v n xs) (hb : Below w.heap.size w w') : w'.ownsRow base e size v n xs :=
  ownsZ_of_block h fun g hg => hb.block g (h.lt g hg).2

/-- 'make([]T, n)', its zero being the value of c. -/
theorem wpList_mkC {P : Program} (w : World) {ops : Array Oper} {rest : List Oper} {o : Oper} {a : Act} {Q : Exit → Act → World → Prop}
    (hg : o.guard = none) (l c : Operand) (t : TypeId) (hop : o.op = Op.makeSlice t l c)
    (e : TypeId) (i : TypeInfo) (z : Value) (bytes : Nat) (h1 : P.underlying t = some (.slice e)) (h2 : P.info? e = some i) (h3 : i.zero = some z) (h4 : i.size = 1) (hby : i.bytes = bytes)
    (mk : Nat → Value) (c0 : Nat) (hmk : mk c0 = z) (hcz : z.cells = #[z])
    (kl kc : IntKind) (L C : Int) (n : Nat) (hl : a.eval l = .int kl L) (hc : a.eval c = .int kc C) (hL : L = (n : Int)) (hC : C = (n : Int)) (b2 : bytes * n ≤ 281474976710656) (b3 : n ≤ 9223372036854775807)
    (hK : ∀ w', w'.ownsRow w.heap.size e 1 (.slice (some ⟨w.heap.size, 0, none⟩) n n) n ((List.replicate n c0).map mk) → Below w.heap.size w w' → wpList P ops Q rest (a.put o.dst (.slice (some ⟨w.heap.size, 0, none⟩) n n)) w') :
    wpList P ops Q (o :: rest) a w := by
  refine wpList_make_full w hg l c t hop w.heap.size e i z 1 h1 h2 h3 h4 kl kc L C n hl hc hL hC (by rw [hby]; exact b2) (by unfold maxLen; omega) (Nat.le_refl _) ?_
  intro w' ho hgr
  refine hK w' ?_ ((Below.refl _ _).grown hgr (Nat.le_refl _) (fun k h => by cases h))
  rw [madeCells_one z hcz] at ho
  rw [List.map_replicate, hmk]
  exact ho

/-- What Turn goes by: the row that it fills. -/
structure TnSt (n g : Nat) (o : List Nat) (w W : World) : Prop where
  own : W.ownsRow g 3 1 (.slice (some ⟨g, 0, none⟩) n n) n (o.map mkZ)
  bel : Below w.heap.size w W
  og : w.heap.size ≤ g
theorem TnSt.store {n g : Nat} {o : List Nat} {w W : World} (h : TnSt n g o w W) (j d : Nat) : TnSt n g (o.set j d) w (W.setCell ⟨g, j, none⟩ (mkZ d)) := by
  obtain ⟨h1, h3⟩ := owns_store (mk := mkZ) h.own j d (Below.refl g W) (Nat.le_refl _)
  exact ⟨h1, h.bel.setCell (p := ⟨g, j, none⟩) h.og _, h.og⟩

set_option maxHeartbeats 2000000 in
theorem turn_any (l : List Nat) (v : Value) (w : World) (hr : Rd mkZ w v l) (hn : l.length ≤ 1000) (hl : ∀ i, i < l.length → dg l i < 18446744073709551616) :
    Calls Try.prog 21 #[v] w fun e w' => ∃ u L, e = .returned u ∧ Rd mkZ w' u L ∧ L.length = l.length ∧ (∀ i, i < l.length → dg L i = nof (ngz (zof (dg l i)))) ∧ Below w.heap.size w w' := by
  obtain ⟨i0, hi, hz0, hz1, hz2⟩ := info_parts int_infoZ
  obtain ⟨ao, ca, rfl, hca, hma, hc⟩ := hr
  unfold maxLen at hma
  have HCE := hide hc
  have HL := hide hl
  clear hc hl
  go_enter Try.func21, Try.ntmps21
  go_wp2_with (at_make; refine wpList_mkC w rfl _ _ 22 rfl 3 i0 (.int .i64 0) 8 Try.underlying22 hi hz0 hz1 hz2 mkZ zzN mkZ_zero rfl .i64 .i64 _ _ l.length (by rfl) (by rfl) (by omega) (by omega) (by omega) (by omega) ?_; intro w0 hown0 hbel0)
  have HD0 : Hid (TnSt l.length w.heap.size (List.replicate l.length zzN) w w0) := ⟨hown0, hbel0, Nat.le_refl _⟩
  clear hown0 hbel0
  obtain ⟨g, hg⟩ : ∃ g, w.heap.size = g := ⟨_, rfl⟩
  rw [hg] at HD0
  have HG := hide hg
  rw [hg]
  clear hg
  go_wp2
  go_loopw [11] (fun i wr => ∃ (j : Nat) (o : List Nat), j ≤ l.length ∧ i = .int .i64 (j : Nat) ∧ Hid (o.length = l.length ∧ ∀ k, k < j → dg o k = nof (ngz (zof (dg l k)))) ∧ Hid (TnSt l.length g o w wr))
    (fun i _ => l.length - (intOf i).toNat)
  case atStart => exact ⟨0, _, by omega, rfl, ⟨by simp, fun k hk => absurd hk (by omega)⟩, HD0⟩
  case round =>
    clear HD0
    obtain ⟨j, o, hj, rfl, HO, hst⟩ := hrel
    by_cases hlt : j < l.length
    · rcases HCE.out with hc | ⟨b, off, rfl, hbl, hcell⟩
      · omega
      · have hck : wr.cell? ⟨b, off + j, none⟩ = some (mkZ (dg l j)) := (hst.out.bel.cell (p := ⟨b, off + j, none⟩) hbl).trans (hcell j hlt)
        unfold mkZ at hck
        have hj1 : (j : Int) < (l.length : Int) := by omega
        have hbd := zof_bd (HL.out j hlt)
        have hw := ngz_wrap hbd.1 hbd.2
        have HV := hide (mkZ_nof (ngz_lo hbd.1 hbd.2))
        have HN : Hid ((o.set j (nof (ngz (zof (dg l j))))).length = l.length ∧ ∀ k, k < j + 1 → dg (o.set j (nof (ngz (zof (dg l j))))) k = nof (ngz (zof (dg l k)))) := by
          refine ⟨by rw [List.length_set]; exact HO.out.1, fun k hk => ?_⟩
          rw [dg_set _ _ _ _ (by rw [HO.out.1]; exact hlt)]
          split
          · rename_i h
            rw [h]
          · exact HO.out.2 k (by omega)
        have hco : wr.cell? ⟨g, j, none⟩ = some (mkZ (dg o j)) := owns_cell hst.out.own HO.out.1 j hlt
        have hfo : wr.frozen? ⟨g, j, none⟩ = false := hst.out.own.frozenAt _
        have hst2 := hide (hst.out.store j (nof (ngz (zof (dg l j)))))
        rw [HV.out] at hst2
        clear HO hbd hst HV
        generalize zof (dg l j) = z at hck hw hst2 HN
        clear hcell
        go_wp2
        go_roundw
        case rel => exact ⟨j + 1, _, by omega, by go_num, HN, hst2⟩
        case measure => simp [intOf]; omega
    · have hk : j = l.length := by omega
      subst hk
      have HR : Hid (Rd mkZ wr (.slice (some ⟨g, 0, none⟩) l.length l.length) o ∧ o.length = l.length ∧ (∀ i, i < l.length → dg o i = nof (ngz (zof (dg l i)))) ∧ Below w.heap.size w wr) := by
        have h := infoZ_rd HO.out.1 hst.out.own
        exact ⟨h, HO.out.1, HO.out.2, hst.out.bel⟩
      clear HO hst HCE
      go_wp2
      go_ret
      exact ⟨_, o, rfl, HR.out⟩
end Go.Proofs.Ytgnaomgcfliamaa

/- Contracts: radicandref13.Sum. -/
set_option linter.unusedVariables false
set_option linter.unusedSimpArgs false
set_option maxRecDepth 8000
namespace Go.Proofs.Ytgnaomgcfliamaa
open Go.RowKit Plain

theorem bigz_nil (w : World) (a : Option Addr) : BigV w (.slice a 0 0) 0 2 := ⟨[], ⟨a, 0, rfl, Nat.le_refl _, by simp [maxLen], .inl rfl⟩, ⟨by decide, fun i => by simp [dg]⟩, .inl rfl, by simp⟩
set_option maxHeartbeats 8000000 in
theorem sum13_any (l : List Nat) (v : Value) (w : World) (hr : Rd mkZ w v l) (hn : l.length ≤ 1000) (hl : ∀ i, i < l.length → isD (zof (dg l i)) = true) :
    Calls Try.prog 10 #[v] w fun e w' => ∃ va vb, e = .returned (.tuple #[va, vb]) ∧ BigV w' va (pP l l.length) 10000 ∧ BigV w' vb (pM l l.length) 10000 ∧ Below w.heap.size w w' := by
  obtain ⟨ao, ca, rfl, hca, hma, hc⟩ := hr
  unfold maxLen at hma
  have HCE := hide hc
  have HL := hide hl
  have HN := hide hn
  clear hc hl hn
  have HB0 := hide (below_trans (below_allocs w (.cells #[] 60)) (below_allocs _ (.cells #[] 60)))
  go_enter Try.func10, Try.ntmps10
  go_wp2
  go_loopw [4, 5, 6] (fun va vb i wr => ∃ k : Nat, k ≤ l.length ∧ i = .int .i64 k ∧ Hid (BigV wr va (pP l k) (2 * k + 2)) ∧ Hid (BigV wr vb (pM l k) (2 * k + 2)) ∧ Hid (Below w.heap.size w wr))
    (fun _ _ i _ => l.length - (intOf i).toNat)
  case atStart => exact ⟨0, by omega, rfl, bigz_nil _ _, bigz_nil _ _, HB0⟩
  case round =>
    clear HB0
    obtain ⟨k, hk, rfl, HP, HM, HB⟩ := hrel
    by_cases hlt : k < l.length
    · rcases HCE.out with hc | ⟨b, off, rfl, hbl, hcell⟩
      · omega
      · have HCK := hide (hcell k hlt)
        unfold mkZ at HCK
        have hi1 : (k : Int) < (l.length : Int) := by omega
        have HKK := hide (show k ≤ 1000 by have := HN.out; omega)
        have hzd := isD_iff.1 (HL.out k hlt)
        have HPS : Hid (pP l (k + 1) = pP l k * 2 ^ 2 + (zof (dg l k)).toNat) := rfl
        have HMS : Hid (pM l (k + 1) = pM l k * 2 ^ 2 + (-(zof (dg l k))).toNat) := rfl
        clear hcell
        generalize zof (dg l k) = z at *
        generalize pP l k = P at *
        generalize pM l k = M at *
        have hu2 : True := trivial
        go_wp2_with fail
        refine (refShl_any P (2 * k + 2) 2 _ _ HP.out (by have := HKK.out; omega) (by omega)).mono ?_
        rintro e w1 ⟨v1, rfl, hv1, hb1⟩
        clear HP
        replace HM := hide (HM.out.below hb1)
        replace HB := hide (below_trans HB.out hb1)
        have HV1 := hide hv1
        clear hb1 hv1
        go_wp2_with fail
        refine (refShl_any M (2 * k + 2) 2 _ _ HM.out (by have := HKK.out; omega) (by omega)).mono ?_
        rintro e w2 ⟨v2, rfl, hv2, hb2⟩
        clear HM
        replace HV1 := hide (HV1.out.below hb2)
        replace HB := hide (below_trans HB.out hb2)
        have HV2 := hide hv2
        clear hb2 hv2
        clear hu2
        by_cases hp : 0 < z
        · obtain ⟨y, rfl⟩ : ∃ y : Nat, z = (y : Int) := ⟨z.toNat, by omega⟩
          have hcv : IntKind.u64.wrap (y : Int) = (y : Int) := by rw [IntKind.wrap_u64]; omega
          have hn0 : ¬ (y : Int) < 0 := by omega
          have HT := hide (show y < 18446744073709551616 by omega)
          have HZ := hide (show (-(y : Int)).toNat = 0 by omega)
          have hck : w2.cell? ⟨b, off + k, none⟩ = some (.int .i64 ((y : Int))) := (HB.out.cell (p := ⟨b, off + k, none⟩) hbl).trans HCK.out
          go_wp2_with fail
          refine (small_any y HT.out _).mono ?_
          rintro e w3 ⟨v3, rfl, hv3, hb3⟩
          replace HV1 := hide (HV1.out.below hb3)
          replace HV2 := hide (HV2.out.below hb3)
          replace HB := hide (below_trans HB.out hb3)
          have HV3 := hide hv3
          clear hb3 hv3
          clear hck hcv
          go_wp2_with fail
          refine (refAdd_any (P * 2 ^ 2) y (2 / 32 + (2 * k + 2) + 1) 2 _ _ _ HV1.out HV3.out (by have := HKK.out; omega) (by omega)).mono ?_
          rintro e w4 ⟨v4, rfl, hv4, hb4⟩
          clear HV1
          clear HV3
          replace HV2 := hide (HV2.out.below hb4)
          replace HB := hide (below_trans HB.out hb4)
          have HV4 := hide hv4
          clear hb4 hv4
          have hck : w4.cell? ⟨b, off + k, none⟩ = some (.int .i64 ((y : Int))) := (HB.out.cell (p := ⟨b, off + k, none⟩) hbl).trans HCK.out
          have HP2 : Hid (pP l (k + 1) = P * 2 ^ 2 + y) := by apply hide; rw [HPS.out, Int.toNat_natCast]
          have HM2 : Hid (pM l (k + 1) = M * 2 ^ 2) := by apply hide; rw [HMS.out, HZ.out, Nat.add_zero]
          have HP3 := hide (show BigV _ _ _ (2 * (k + 1) + 2) from (HV4.out).mono (by omega))
          have HM3 := hide (show BigV _ _ _ (2 * (k + 1) + 2) from (HV2.out).mono (by omega))
          rw [← HP2.out] at HP3
          rw [← HM2.out] at HM3
          clear HPS HMS HP2 HM2
          go_wp2
          go_roundw
          case rel => exact ⟨k + 1, by omega, by go_num, HP3, HM3, HB⟩
          case measure => simp [intOf]; omega
        · by_cases hm : z < 0
          · obtain ⟨y, rfl⟩ : ∃ y : Nat, z = -(y : Int) := ⟨(-z).toNat, by omega⟩
            have hcn : IntKind.i64.wrap (y : Int) = (y : Int) := by rw [IntKind.wrap_i64]; omega
            have hcv : IntKind.u64.wrap (y : Int) = (y : Int) := by rw [IntKind.wrap_u64]; omega
            have HT := hide (show y < 18446744073709551616 by omega)
            have HZ := hide (show (-(y : Int)).toNat = 0 by omega)
            have hck : w2.cell? ⟨b, off + k, none⟩ = some (.int .i64 (-(y : Int))) := (HB.out.cell (p := ⟨b, off + k, none⟩) hbl).trans HCK.out
            go_wp2_with fail
            refine (small_any y HT.out _).mono ?_
            rintro e w3 ⟨v3, rfl, hv3, hb3⟩
            replace HV1 := hide (HV1.out.below hb3)
            replace HV2 := hide (HV2.out.below hb3)
            replace HB := hide (below_trans HB.out hb3)
            have HV3 := hide hv3
            clear hb3 hv3
            clear hck hcv
            go_wp2_with fail
            refine (refAdd_any (M * 2 ^ 2) y (2 / 32 + (2 * k + 2) + 1) 2 _ _ _ HV2.out HV3.out (by have := HKK.out; omega) (by omega)).mono ?_
            rintro e w4 ⟨v4, rfl, hv4, hb4⟩
            clear HV2
            clear HV3
            replace HV1 := hide (HV1.out.below hb4)
            replace HB := hide (below_trans HB.out hb4)
            have HV4 := hide hv4
            clear hb4 hv4
            have HP2 : Hid (pP l (k + 1) = P * 2 ^ 2) := by apply hide; rw [HPS.out, HZ.out, Nat.add_zero]
            have HM2 : Hid (pM l (k + 1) = M * 2 ^ 2 + y) := by apply hide; rw [HMS.out, Int.neg_neg, Int.toNat_natCast]
            have HP3 := hide (show BigV _ _ _ (2 * (k + 1) + 2) from (HV1.out).mono (by omega))
            have HM3 := hide (show BigV _ _ _ (2 * (k + 1) + 2) from (HV4.out).mono (by omega))
            rw [← HP2.out] at HP3
            rw [← HM2.out] at HM3
            clear HPS HMS HP2 HM2
            go_wp2
            go_roundw
            case rel => exact ⟨k + 1, by omega, by go_num, HP3, HM3, HB⟩
            case measure => simp [intOf]; omega
          · have HZ := hide (show z.toNat = 0 ∧ (-z).toNat = 0 by omega)
            have hck : w2.cell? ⟨b, off + k, none⟩ = some (.int .i64 (z)) := (HB.out.cell (p := ⟨b, off + k, none⟩) hbl).trans HCK.out
            have HP2 : Hid (pP l (k + 1) = P * 2 ^ 2) := by apply hide; rw [HPS.out, HZ.out.1, Nat.add_zero]
            have HM2 : Hid (pM l (k + 1) = M * 2 ^ 2) := by apply hide; rw [HMS.out, HZ.out.2, Nat.add_zero]
            have HP3 := hide (show BigV _ _ _ (2 * (k + 1) + 2) from (HV1.out).mono (by omega))
            have HM3 := hide (show BigV _ _ _ (2 * (k + 1) + 2) from (HV2.out).mono (by omega))
            rw [← HP2.out] at HP3
            rw [← HM2.out] at HM3
            clear HPS HMS HP2 HM2
            go_wp2
            go_roundw
            case rel => exact ⟨k + 1, by omega, by go_num, HP3, HM3, HB⟩
            case measure => simp [intOf]; omega
    · have hk : k = l.length := by omega
      subst hk
      have HP2 := hide (HP.out.mono (show 2 * l.length + 2 ≤ 10000 by have := HN.out; omega))
      have HM2 := hide (HM.out.mono (show 2 * l.length + 2 ≤ 10000 by have := HN.out; omega))
      clear HP HM
      go_wp2
      exact bodyPost_ret (v := .tuple #[_, _]) (by simp [results, Try.results10, go_sem]) rfl ⟨_, _, rfl, HP2.out, HM2.out, HB.out⟩
end Go.Proofs.Ytgnaomgcfliamaa

/- Contracts: radicandref13.Wide, Same. -/
set_option linter.unusedVariables false
set_option linter.unusedSimpArgs false
set_option maxRecDepth 8000
namespace Go.Proofs.Ytgnaomgcfliamaa
open Go.RowKit Plain

/-- What Wide goes by: two numbers, and its result. -/
structure WdSt (p5 p7 x y : Nat) (w W : World) : Prop where
  lr : LiesF W w.heap.size (fun _ => 0)
  fr : ∀ i, W.frozen? ⟨w.heap.size, i, none⟩ = false
  l5 : LiesF W p5 (dgl x)
  l7 : LiesF W p7 (dgl y)
  o5 : w.heap.size < p5
  o7 : p5 < p7
  bel : Below w.heap.size w W
theorem WdSt.under {p5 p7 x y : Nat} {w W W' : World} (h : WdSt p5 p7 x y w W) {C : Nat} (hb : Below C W W') (hc : p7 < C) : WdSt p5 p7 x y w W' := by
  have h5 := h.o5
  have h7 := h.o7
  exact ⟨lies_box h.lr hb (by omega), fun i => (hb.frozen (p := ⟨w.heap.size, i, none⟩) (show w.heap.size < C by omega)).trans (h.fr i), lies_box h.l5 hb (by omega), lies_box h.l7 hb hc, h5, h7, h.bel.trans (hb.mono (by omega))⟩
theorem WdSt.below {p5 p7 x y : Nat} {w W W' : World} (h : WdSt p5 p7 x y w W) (hb : Below W.heap.size W W') : WdSt p5 p7 x y w W' := h.under hb h.l7.2
theorem wdz_eq (X Y : Nat) : (#[.int .u64 (dgl (X % QQ + QQ - Y % QQ) 0 : Nat), .int .u64 (dgl (X % QQ + QQ - Y % QQ) 1 : Nat), .int .u64 (dgl (X % QQ + QQ - Y % QQ) 2 : Nat), .int .u64 (dgl (X % QQ + QQ - Y % QQ) 3 : Nat), .int .u64 (dgl (X % QQ + QQ - Y % QQ) 4 : Nat), .int .u64 (dgl (X % QQ + QQ - Y % QQ) 5 : Nat), .int .u64 (dgl (X % QQ + QQ - Y % QQ) 6 : Nat), .int .u64 (dgl (X % QQ + QQ - Y % QQ) 7 : Nat)] : Array Value) = #[.int .u64 (dgl (qz ((X : Int) - (Y : Int))) 0 : Nat), .int .u64 (dgl (qz ((X : Int) - (Y : Int))) 1 : Nat), .int .u64 (dgl (qz ((X : Int) - (Y : Int))) 2 : Nat), .int .u64 (dgl (qz ((X : Int) - (Y : Int))) 3 : Nat), .int .u64 (dgl (qz ((X : Int) - (Y : Int))) 4 : Nat), .int .u64 (dgl (qz ((X : Int) - (Y : Int))) 5 : Nat), .int .u64 (dgl (qz ((X : Int) - (Y : Int))) 6 : Nat), .int .u64 (dgl (qz ((X : Int) - (Y : Int))) 7 : Nat)] := by
  refine w8_mod ?_
  have hx := Nat.mod_lt X qq_pos
  have hy := Nat.mod_lt Y qq_pos
  have h1 := Nat.mod_add_div X QQ
  have h2 := Nat.mod_add_div Y QQ
  refine ((qz_of (x := X % QQ + QQ - Y % QQ) (z := (X : Int) - (Y : Int)) (1 - ((X / QQ : Nat) : Int) + ((Y / QQ : Nat) : Int)) ?_).symm.trans (Nat.mod_eq_of_lt (qz_lt _)).symm)
  have e1 : (X : Int) = ((X % QQ : Nat) : Int) + (QQ : Int) * ((X / QQ : Nat) : Int) := by exact_mod_cast h1.symm
  have e2 : (Y : Int) = ((Y % QQ : Nat) : Int) + (QQ : Int) * ((Y / QQ : Nat) : Int) := by exact_mod_cast h2.symm
  rw [Int.mul_add, Int.mul_sub, Int.mul_one]
  omega

set_option maxHeartbeats 4000000 in
theorem wide13_walk (x y r : Nat) (o1 o2 ov : Bool) (va vb : Value) (w : World)
    (HA : Hid (∀ W, Below w.heap.size w W → Calls Try.prog 28 #[va] W fun e w' => e = .returned (.tuple #[.agg #[.int .u64 (dgl (x) 0 : Nat), .int .u64 (dgl (x) 1 : Nat), .int .u64 (dgl (x) 2 : Nat), .int .u64 (dgl (x) 3 : Nat), .int .u64 (dgl (x) 4 : Nat), .int .u64 (dgl (x) 5 : Nat), .int .u64 (dgl (x) 6 : Nat), .int .u64 (dgl (x) 7 : Nat)], .bool o1]) ∧ Below W.heap.size W w'))
    (HB : Hid (∀ W, Below w.heap.size w W → Calls Try.prog 28 #[vb] W fun e w' => e = .returned (.tuple #[.agg #[.int .u64 (dgl (y) 0 : Nat), .int .u64 (dgl (y) 1 : Nat), .int .u64 (dgl (y) 2 : Nat), .int .u64 (dgl (y) 3 : Nat), .int .u64 (dgl (y) 4 : Nat), .int .u64 (dgl (y) 5 : Nat), .int .u64 (dgl (y) 6 : Nat), .int .u64 (dgl (y) 7 : Nat)], .bool o2]) ∧ Below W.heap.size W w'))
    (HB1 : Hid (∀ w, Calls Try.prog 14 #[.agg #[.int .u64 (dgl (x) 0 : Nat), .int .u64 (dgl (x) 1 : Nat), .int .u64 (dgl (x) 2 : Nat), .int .u64 (dgl (x) 3 : Nat), .int .u64 (dgl (x) 4 : Nat), .int .u64 (dgl (x) 5 : Nat), .int .u64 (dgl (x) 6 : Nat), .int .u64 (dgl (x) 7 : Nat)]] w fun e w' => ∃ v, e = .returned v ∧ BigV w' v x 40 ∧ Below w.heap.size w w'))
    (HB2 : Hid (∀ w, Calls Try.prog 14 #[.agg #[.int .u64 (dgl (y) 0 : Nat), .int .u64 (dgl (y) 1 : Nat), .int .u64 (dgl (y) 2 : Nat), .int .u64 (dgl (y) 3 : Nat), .int .u64 (dgl (y) 4 : Nat), .int .u64 (dgl (y) 5 : Nat), .int .u64 (dgl (y) 6 : Nat), .int .u64 (dgl (y) 7 : Nat)]] w fun e w' => ∃ v, e = .returned v ∧ BigV w' v y 40 ∧ Below w.heap.size w w'))
    (HWH : Hid (∀ w, Calls Try.prog 24 #[] w fun e w' => ∃ v, e = .returned v ∧ BigV w' v QQ 19 ∧ Below w.heap.size w w'))
    (HRW : Hid (∀ v w, BigV w v (x + QQ - y) 41 → Calls Try.prog 28 #[v] w fun e w' => e = .returned (.tuple #[.agg #[.int .u64 (dgl (r) 0 : Nat), .int .u64 (dgl (r) 1 : Nat), .int .u64 (dgl (r) 2 : Nat), .int .u64 (dgl (r) 3 : Nat), .int .u64 (dgl (r) 4 : Nat), .int .u64 (dgl (r) 5 : Nat), .int .u64 (dgl (r) 6 : Nat), .int .u64 (dgl (r) 7 : Nat)], .bool ov]) ∧ Below w.heap.size w w'))
    (HLE : Hid (y ≤ x + QQ)) :
    Calls Try.prog 11 #[va, vb] w fun e w' => e = .returned (.agg #[.int .u64 (dgl (r) 0 : Nat), .int .u64 (dgl (r) 1 : Nat), .int .u64 (dgl (r) 2 : Nat), .int .u64 (dgl (r) 3 : Nat), .int .u64 (dgl (r) 4 : Nat), .int .u64 (dgl (r) 5 : Nat), .int .u64 (dgl (r) 6 : Nat), .int .u64 (dgl (r) 7 : Nat)]) ∧ Below w.heap.size w w' := by
  have HS : Hid (LiesF (w.alloc (.cells #[.int .u64 0, .int .u64 0, .int .u64 0, .int .u64 0, .int .u64 0, .int .u64 0, .int .u64 0, .int .u64 0] 26)) w.heap.size (fun _ => 0) ∧ (∀ i, (w.alloc (.cells #[.int .u64 0, .int .u64 0, .int .u64 0, .int .u64 0, .int .u64 0, .int .u64 0, .int .u64 0, .int .u64 0] 26)).frozen? ⟨w.heap.size, i, none⟩ = false) ∧ Below w.heap.size w (w.alloc (.cells #[.int .u64 0, .int .u64 0, .int .u64 0, .int .u64 0, .int .u64 0, .int .u64 0, .int .u64 0, .int .u64 0] 26))) := ⟨liesF_new w (fun _ => 0) _, fun i => by simp [go_sem], below_allocs _ _⟩
  go_enter Try.func11, Try.ntmps11
  go_wp2_with fail
  refine (HA.out _ HS.out.2.2).mono ?_
  rintro e w1 ⟨rfl, hb1⟩
  have HS1 : Hid (LiesF w1 w.heap.size (fun _ => 0) ∧ (∀ i, w1.frozen? ⟨w.heap.size, i, none⟩ = false) ∧ Below w.heap.size w w1) := ⟨HS.out.1.below hb1, fun i => (hb1.frozen (p := ⟨w.heap.size, i, none⟩) HS.out.1.2).trans (HS.out.2.1 i), below_trans HS.out.2.2 hb1⟩
  clear HS hb1
  go_upto_region 2 with fail
  have hbw := below_allocs w1 (.cells #[.int .u64 (dgl (x) 0 : Nat), .int .u64 (dgl (x) 1 : Nat), .int .u64 (dgl (x) 2 : Nat), .int .u64 (dgl (x) 3 : Nat), .int .u64 (dgl (x) 4 : Nat), .int .u64 (dgl (x) 5 : Nat), .int .u64 (dgl (x) 6 : Nat), .int .u64 (dgl (x) 7 : Nat)] 26)
  refine wp_gen (fun W => LiesF W w1.heap.size (dgl x) ∧ LiesF W w.heap.size (fun _ => 0) ∧ (∀ i, W.frozen? ⟨w.heap.size, i, none⟩ = false) ∧ Below w.heap.size w W) ⟨liesF_new w1 (dgl x) _, HS1.out.1.below hbw, fun i => (hbw.frozen (p := ⟨w.heap.size, i, none⟩) HS1.out.1.2).trans (HS1.out.2.1 i), below_trans HS1.out.2.2 hbw⟩ ?_
  have HP5 := hide (show w.heap.size < w1.heap.size from HS1.out.1.2)
  clear HS1 hbw
  generalize w1.heap.size = p5 at *
  rintro W2 h2
  have HS := hide h2
  clear h2
  go_wp2_with fail
  refine (HB.out _ HS.out.2.2.2).mono ?_
  rintro e w3 ⟨rfl, hb3⟩
  have HS1 : Hid (LiesF w3 p5 (dgl x) ∧ LiesF w3 w.heap.size (fun _ => 0) ∧ (∀ i, w3.frozen? ⟨w.heap.size, i, none⟩ = false) ∧ Below w.heap.size w w3) := ⟨HS.out.1.below hb3, HS.out.2.1.below hb3, fun i => (hb3.frozen (p := ⟨w.heap.size, i, none⟩) HS.out.2.1.2).trans (HS.out.2.2.1 i), below_trans HS.out.2.2.2 hb3⟩
  clear HS hb3
  go_upto_region 3 with fail
  have hbw := below_allocs w3 (.cells #[.int .u64 (dgl (y) 0 : Nat), .int .u64 (dgl (y) 1 : Nat), .int .u64 (dgl (y) 2 : Nat), .int .u64 (dgl (y) 3 : Nat), .int .u64 (dgl (y) 4 : Nat), .int .u64 (dgl (y) 5 : Nat), .int .u64 (dgl (y) 6 : Nat), .int .u64 (dgl (y) 7 : Nat)] 26)
  refine wp_gen (fun W => WdSt p5 w3.heap.size x y w W) ⟨HS1.out.2.1.below hbw, fun i => (hbw.frozen (p := ⟨w.heap.size, i, none⟩) HS1.out.2.1.2).trans (HS1.out.2.2.1 i), HS1.out.1.below hbw, liesF_new w3 (dgl y) _, HP5.out, HS1.out.1.2, below_trans HS1.out.2.2.2 hbw⟩ ?_
  clear HS1 hbw HP5
  generalize w3.heap.size = p7 at *
  rintro W3 h3
  obtain ⟨N, hN⟩ : ∃ N, W3.heap.size = N := ⟨_, rfl⟩
  have HPN := hide (show p7 < N by rw [← hN]; exact h3.l7.2)
  have HC := hide (show WdSt p5 p7 x y w W3 ∧ N ≤ W3.heap.size from ⟨h3, by omega⟩)
  clear h3 hN
  refine wp_region_storeK 14 [12] [22, 23, 24, 25, 26, 27, 28, 29, 21, 30, 31, 9, 10] (fun bs => [(22, .val (.agg #[.int .u64 (dgl (x) 0 : Nat), .int .u64 (dgl (x) 1 : Nat), .int .u64 (dgl (x) 2 : Nat), .int .u64 (dgl (x) 3 : Nat), .int .u64 (dgl (x) 4 : Nat), .int .u64 (dgl (x) 5 : Nat), .int .u64 (dgl (x) 6 : Nat), .int .u64 (dgl (x) 7 : Nat)])), (23, bif bs.headD false then SlotIs.any  else SlotIs.big x 40), (24, bif bs.headD false then SlotIs.any  else SlotIs.big QQ 19), (25, bif bs.headD false then SlotIs.any  else SlotIs.big (x + QQ) 41), (26, .val (.agg #[.int .u64 (dgl (y) 0 : Nat), .int .u64 (dgl (y) 1 : Nat), .int .u64 (dgl (y) 2 : Nat), .int .u64 (dgl (y) 3 : Nat), .int .u64 (dgl (y) 4 : Nat), .int .u64 (dgl (y) 5 : Nat), .int .u64 (dgl (y) 6 : Nat), .int .u64 (dgl (y) 7 : Nat)])), (27, bif bs.headD false then SlotIs.any  else SlotIs.big y 40), (28, bif bs.headD false then SlotIs.any  else SlotIs.big (x + QQ - y) 41), (29, .val (.tuple #[.agg #[.int .u64 (dgl (r) 0 : Nat), .int .u64 (dgl (r) 1 : Nat), .int .u64 (dgl (r) 2 : Nat), .int .u64 (dgl (r) 3 : Nat), .int .u64 (dgl (r) 4 : Nat), .int .u64 (dgl (r) 5 : Nat), .int .u64 (dgl (r) 6 : Nat), .int .u64 (dgl (r) 7 : Nat)], .bool ov])), (21, .val (.tuple #[.agg #[.int .u64 (dgl (r) 0 : Nat), .int .u64 (dgl (r) 1 : Nat), .int .u64 (dgl (r) 2 : Nat), .int .u64 (dgl (r) 3 : Nat), .int .u64 (dgl (r) 4 : Nat), .int .u64 (dgl (r) 5 : Nat), .int .u64 (dgl (r) 6 : Nat), .int .u64 (dgl (r) 7 : Nat)], .bool ov])), (30, .val (.agg #[.int .u64 (dgl (r) 0 : Nat), .int .u64 (dgl (r) 1 : Nat), .int .u64 (dgl (r) 2 : Nat), .int .u64 (dgl (r) 3 : Nat), .int .u64 (dgl (r) 4 : Nat), .int .u64 (dgl (r) 5 : Nat), .int .u64 (dgl (r) 6 : Nat), .int .u64 (dgl (r) 7 : Nat)])), (31, .val (.bool ov)), (9, bif bs.headD false then SlotIs.box N (dgl r) else SlotIs.box N (fun _ => 0)), (10, .val (.bool ov))])
    (fun _ W => WdSt p5 p7 x y w W ∧ N ≤ W.heap.size) (fun bs => rfl) mixedOk (by kernel_rfl) (by kernel_rfl) (by kernel_rfl) (⟨HC.out.1.below (Below.refl _ _).drew, HC.out.2⟩) (fun bs W W' h hb => ⟨h.1.below hb, Nat.le_trans h.2 hb.size⟩) ?_ ?_
  · refine kSt rfl (fun φ hφ => gStep_run rfl ?_) ?_
    · intro ρ W hC hc hf hL
      have e5 : ρ (.tmp 5) = .pointer (some ⟨p5, 0, none⟩) := hL 5 (by decide +kernel)
      have hl := hC.1.l5.1
      simp [go_sem, hc, hf, e5, hl]
      exact ⟨Below.refl _ _, rfl⟩
    refine kSt rfl (fun φ hφ => gStep_run rfl ?_) ?_
    · intro ρ W hC hc hf hL
      have hφ0 : φ 12 = false := hφ 12 (by simp) (by kernel_rfl)
      have e22 : ρ (.tmp 22) = .agg #[.int .u64 (dgl (x) 0 : Nat), .int .u64 (dgl (x) 1 : Nat), .int .u64 (dgl (x) 2 : Nat), .int .u64 (dgl (x) 3 : Nat), .int .u64 (dgl (x) 4 : Nat), .int .u64 (dgl (x) 5 : Nat), .int .u64 (dgl (x) 6 : Nat), .int .u64 (dgl (x) 7 : Nat)] := hL 22 (by decide +kernel)
      simp [go_sem, hc, hf, e22]
      refine (HB1.out W).mono ?_
      rintro e w' ⟨v, rfl, hv, hb⟩
      refine ⟨_, rfl, hb, ?_⟩
      show (bif φ 12 then SlotIs.any else SlotIs.big x 40).R _ _
      rw [hφ0]
      exact hv
    refine kSt rfl (fun φ hφ => gStep_run rfl ?_) ?_
    · intro ρ W hC hc hf hL
      have hφ0 : φ 12 = false := hφ 12 (by simp) (by kernel_rfl)
      simp [go_sem, hc, hf]
      refine (HWH.out W).mono ?_
      rintro e w' ⟨v, rfl, hv, hb⟩
      refine ⟨_, rfl, hb, ?_⟩
      show (bif φ 12 then SlotIs.any else SlotIs.big QQ 19).R _ _
      rw [hφ0]
      exact hv
    refine kSt rfl (fun φ hφ => gStep_run rfl ?_) ?_
    · intro ρ W hC hc hf hL
      have hφ0 : φ 12 = false := hφ 12 (by simp) (by kernel_rfl)
      have b23 : (bif φ 12 then SlotIs.any  else SlotIs.big x 40).R (ρ (.tmp 23)) W := hL 23 (by decide +kernel)
      rw [hφ0] at b23
      have b24 : (bif φ 12 then SlotIs.any  else SlotIs.big QQ 19).R (ρ (.tmp 24)) W := hL 24 (by decide +kernel)
      rw [hφ0] at b24
      simp [go_sem, hc, hf]
      refine (refAdd_any x QQ 40 19 _ _ _ b23 b24 (by decide) (by decide)).mono ?_
      rintro e w' ⟨v, rfl, hv, hb⟩
      refine ⟨_, rfl, hb, ?_⟩
      show (bif φ 12 then SlotIs.any else SlotIs.big (x + QQ) 41).R _ _
      rw [hφ0]
      exact hv
    refine kSt rfl (fun φ hφ => gStep_run rfl ?_) ?_
    · intro ρ W hC hc hf hL
      have e7 : ρ (.tmp 7) = .pointer (some ⟨p7, 0, none⟩) := hL 7 (by decide +kernel)
      have hl := hC.1.l7.1
      simp [go_sem, hc, hf, e7, hl]
      exact ⟨Below.refl _ _, rfl⟩
    refine kSt rfl (fun φ hφ => gStep_run rfl ?_) ?_
    · intro ρ W hC hc hf hL
      have hφ0 : φ 12 = false := hφ 12 (by simp) (by kernel_rfl)
      have e26 : ρ (.tmp 26) = .agg #[.int .u64 (dgl (y) 0 : Nat), .int .u64 (dgl (y) 1 : Nat), .int .u64 (dgl (y) 2 : Nat), .int .u64 (dgl (y) 3 : Nat), .int .u64 (dgl (y) 4 : Nat), .int .u64 (dgl (y) 5 : Nat), .int .u64 (dgl (y) 6 : Nat), .int .u64 (dgl (y) 7 : Nat)] := hL 26 (by decide +kernel)
      simp [go_sem, hc, hf, e26]
      refine (HB2.out W).mono ?_
      rintro e w' ⟨v, rfl, hv, hb⟩
      refine ⟨_, rfl, hb, ?_⟩
      show (bif φ 12 then SlotIs.any else SlotIs.big y 40).R _ _
      rw [hφ0]
      exact hv
    refine kSt rfl (fun φ hφ => gStep_run rfl ?_) ?_
    · intro ρ W hC hc hf hL
      have hφ0 : φ 12 = false := hφ 12 (by simp) (by kernel_rfl)
      have b25 : (bif φ 12 then SlotIs.any  else SlotIs.big (x + QQ) 41).R (ρ (.tmp 25)) W := hL 25 (by decide +kernel)
      rw [hφ0] at b25
      have b27 : (bif φ 12 then SlotIs.any  else SlotIs.big y 40).R (ρ (.tmp 27)) W := hL 27 (by decide +kernel)
      rw [hφ0] at b27
      simp [go_sem, hc, hf]
      refine (refSub_any (x + QQ) y 41 40 _ _ _ b25 b27 (by decide) HLE.out).mono ?_
      rintro e w' ⟨v, rfl, hv, hb⟩
      refine ⟨_, rfl, hb, ?_⟩
      show (bif φ 12 then SlotIs.any else SlotIs.big (x + QQ - y) 41).R _ _
      rw [hφ0]
      exact hv
    refine kSt rfl (fun φ hφ => gStep_run rfl ?_) ?_
    · intro ρ W hC hc hf hL
      have hφ0 : φ 12 = false := hφ 12 (by simp) (by kernel_rfl)
      have b28 : (bif φ 12 then SlotIs.any  else SlotIs.big (x + QQ - y) 41).R (ρ (.tmp 28)) W := hL 28 (by decide +kernel)
      rw [hφ0] at b28
      simp [go_sem, hc, hf]
      refine (HRW.out _ _ b28).mono ?_
      rintro e w' ⟨rfl, hb⟩
      exact ⟨_, rfl, by first | exact hb | (subst hb; exact Below.refl _ _), rfl⟩
    refine kSt rfl (fun φ hφ => gStep_run rfl (gRun_move 29 21 (.inl rfl) rfl (by decide +kernel) (fun v w h => h))) ?_
    refine kSt rfl (fun φ hφ => gStep_run rfl ?_) ?_
    · intro ρ W hC hc hf hL
      have e21 : ρ (.tmp 21) = .tuple #[.agg #[.int .u64 (dgl (r) 0 : Nat), .int .u64 (dgl (r) 1 : Nat), .int .u64 (dgl (r) 2 : Nat), .int .u64 (dgl (r) 3 : Nat), .int .u64 (dgl (r) 4 : Nat), .int .u64 (dgl (r) 5 : Nat), .int .u64 (dgl (r) 6 : Nat), .int .u64 (dgl (r) 7 : Nat)], .bool ov] := hL 21 (by decide +kernel)
      simp [go_sem, hc, hf, e21]
      exact ⟨Below.refl _ _, rfl⟩
    refine kSt rfl (fun φ hφ => gStep_run rfl ?_) ?_
    · intro ρ W hC hc hf hL
      have e21 : ρ (.tmp 21) = .tuple #[.agg #[.int .u64 (dgl (r) 0 : Nat), .int .u64 (dgl (r) 1 : Nat), .int .u64 (dgl (r) 2 : Nat), .int .u64 (dgl (r) 3 : Nat), .int .u64 (dgl (r) 4 : Nat), .int .u64 (dgl (r) 5 : Nat), .int .u64 (dgl (r) 6 : Nat), .int .u64 (dgl (r) 7 : Nat)], .bool ov] := hL 21 (by decide +kernel)
      simp [go_sem, hc, hf, e21]
      exact ⟨Below.refl _ _, rfl⟩
    refine kSt rfl (fun φ hφ => gStep_run rfl ?_) ?_
    · intro ρ W hC hc hf hL
      have hφ0 : φ 12 = false := hφ 12 (by simp) (by kernel_rfl)
      simp [go_sem, hc, hf]
      refine ⟨below_allocs _ _, ?_⟩
      show (bif φ 12 then SlotIs.box N (dgl r) else SlotIs.box N (fun _ => 0)).R _ _
      rw [hφ0]
      exact ⟨_, rfl, hC.2, liesF_new _ (fun _ => 0) _, fun i => by simp [go_sem]⟩
    refine kStS rfl ⟨rfl, rfl, ?_⟩ ?_
    · intro φ ρ W hφ hC hc hL
      have b9 := hL 9 (by decide +kernel)
      have e30 : ρ (.tmp 30) = .agg #[.int .u64 (dgl (r) 0 : Nat), .int .u64 (dgl (r) 1 : Nat), .int .u64 (dgl (r) 2 : Nat), .int .u64 (dgl (r) 3 : Nat), .int .u64 (dgl (r) 4 : Nat), .int .u64 (dgl (r) 5 : Nat), .int .u64 (dgl (r) 6 : Nat), .int .u64 (dgl (r) 7 : Nat)] := hL 30 (by decide +kernel)
      have bx : (bif φ 12 then SlotIs.box N (dgl r) else SlotIs.box N (fun _ => 0)).R (ρ (.tmp 9)) W := hL 9 (by decide +kernel)
      rw [hφ] at bx
      obtain ⟨px, ex, qx, lx, zx⟩ := bx
      have hz := lx.1
      have hzl := lx.2
      refine gUpon_of ((((((((W.setCell ⟨px, 0, none⟩ (.int .u64 (dgl r 0 : Nat))).setCell ⟨px, 1, none⟩ (.int .u64 (dgl r 1 : Nat))).setCell ⟨px, 2, none⟩ (.int .u64 (dgl r 2 : Nat))).setCell ⟨px, 3, none⟩ (.int .u64 (dgl r 3 : Nat))).setCell ⟨px, 4, none⟩ (.int .u64 (dgl r 4 : Nat))).setCell ⟨px, 5, none⟩ (.int .u64 (dgl r 5 : Nat))).setCell ⟨px, 6, none⟩ (.int .u64 (dgl r 6 : Nat))).setCell ⟨px, 7, none⟩ (.int .u64 (dgl r 7 : Nat))) ?_ (fun _ => ?_)
      · simp [go_sem, hc, e30, ex, hz, hzl, zx, gUpon]
      have hs8 := below_set8 (Below.refl N W) px qx (.int .u64 (dgl r 0 : Nat)) (.int .u64 (dgl r 1 : Nat)) (.int .u64 (dgl r 2 : Nat)) (.int .u64 (dgl r 3 : Nat)) (.int .u64 (dgl r 4 : Nat)) (.int .u64 (dgl r 5 : Nat)) (.int .u64 (dgl r 6 : Nat)) (.int .u64 (dgl r 7 : Nat))
      refine ⟨⟨hC.1.under hs8 HPN.out, Nat.le_trans hC.2 hs8.size⟩, fun t => ?_⟩
      refine (tbl_imp rfl (fun _ => val_imp) (tbl_imp rfl (fun _ _ => ?_) (tbl_imp rfl (fun _ _ => ?_) (tbl_imp rfl (fun _ _ => ?_) (tbl_imp rfl (fun _ => val_imp) (tbl_imp rfl (fun _ _ => ?_) (tbl_imp rfl (fun _ _ => ?_) (tbl_imp rfl (fun _ => val_imp) (tbl_imp rfl (fun _ => val_imp) (tbl_imp rfl (fun _ => val_imp) (tbl_imp rfl (fun _ => val_imp) (tbl_imp rfl (fun ht h => ?_) (tbl_imp rfl (fun _ => val_imp) tbl_nil_imp)))))))))))))
      · show (bif (φ 12 || true) then SlotIs.any else SlotIs.big x 40).R _ _
        rw [Bool.or_true]
        trivial
      · show (bif (φ 12 || true) then SlotIs.any else SlotIs.big QQ 19).R _ _
        rw [Bool.or_true]
        trivial
      · show (bif (φ 12 || true) then SlotIs.any else SlotIs.big (x + QQ) 41).R _ _
        rw [Bool.or_true]
        trivial
      · show (bif (φ 12 || true) then SlotIs.any else SlotIs.big y 40).R _ _
        rw [Bool.or_true]
        trivial
      · show (bif (φ 12 || true) then SlotIs.any else SlotIs.big (x + QQ - y) 41).R _ _
        rw [Bool.or_true]
        trivial
      · subst ht
        show (bif (φ 12 || true) then SlotIs.box N (dgl r) else SlotIs.box N (fun _ => 0)).R _ _
        rw [Bool.or_true]
        exact ⟨px, ex, qx, set8_same W px (dgl r) (fun _ => 0) lx, fun i => by simpa [go_sem] using zx i⟩
    refine kSt rfl (fun φ hφ => gStep_run rfl (gRun_move 31 10 (.inr rfl) rfl (by decide +kernel) (fun v w h => h))) ?_
    exact kSt0
  · intro W hC
    refine gFi 22 rfl ?_
    rintro _ rfl
    refine gFi 23 rfl ?_
    rintro u23 b23
    refine gFi 24 rfl ?_
    rintro u24 b24
    refine gFi 25 rfl ?_
    rintro u25 b25
    refine gFi 26 rfl ?_
    rintro _ rfl
    refine gFi 27 rfl ?_
    rintro u27 b27
    refine gFi 28 rfl ?_
    rintro u28 b28
    refine gFi 29 rfl ?_
    rintro _ rfl
    refine gFi 21 rfl ?_
    rintro _ rfl
    refine gFi 30 rfl ?_
    rintro _ rfl
    refine gFi 31 rfl ?_
    rintro _ rfl
    refine gFi 9 rfl ?_
    rintro _ ⟨p9, rfl, q9, l9, z9⟩
    refine gFiN rfl ?_
    refine gFi 10 rfl ?_
    rintro _ rfl
    refine gFi0 ?_
    simp only [List.drop_succ_cons, List.drop_zero, Act.put, List.setIfInBounds_toArray, List.set_cons_succ, List.set_cons_zero]
    have hl9 := l9.1
    have hl9l := l9.2
    have hr1 := hC.1.lr.1
    have hrl1 := hC.1.lr.2
    have hrf1 := hC.1.fr
    have HBE := hide hC.1.bel
    clear hC l9 z9 b23 b24 b25 b27 b28
    go_wp2
    exact bodyPost_ret (v := .agg #[.int .u64 (dgl (r) 0 : Nat), .int .u64 (dgl (r) 1 : Nat), .int .u64 (dgl (r) 2 : Nat), .int .u64 (dgl (r) 3 : Nat), .int .u64 (dgl (r) 4 : Nat), .int .u64 (dgl (r) 5 : Nat), .int .u64 (dgl (r) 6 : Nat), .int .u64 (dgl (r) 7 : Nat)]) (by simp [results, Try.results11, go_sem, hr1, hrl1]) rfl ⟨rfl, below_set8 HBE.out _ (by omega) _ _ _ _ _ _ _ _⟩
    

theorem wide13_any (X Y K L : Nat) (va vb : Value) (w : World) (ha : BigV w va X K) (hb : BigV w vb Y L) :
    Calls Try.prog 11 #[va, vb] w fun e w' => e = .returned (.agg #[.int .u64 (dgl (qz ((X : Int) - (Y : Int))) 0 : Nat), .int .u64 (dgl (qz ((X : Int) - (Y : Int))) 1 : Nat), .int .u64 (dgl (qz ((X : Int) - (Y : Int))) 2 : Nat), .int .u64 (dgl (qz ((X : Int) - (Y : Int))) 3 : Nat), .int .u64 (dgl (qz ((X : Int) - (Y : Int))) 4 : Nat), .int .u64 (dgl (qz ((X : Int) - (Y : Int))) 5 : Nat), .int .u64 (dgl (qz ((X : Int) - (Y : Int))) 6 : Nat), .int .u64 (dgl (qz ((X : Int) - (Y : Int))) 7 : Nat)]) ∧ Below w.heap.size w w' := by
  have hx := Nat.mod_lt X qq_pos
  have hy := Nat.mod_lt Y qq_pos
  rw [← wdz_eq X Y]
  refine wide13_walk (X % QQ) (Y % QQ) (X % QQ + QQ - Y % QQ) (decide (QQ ≤ X)) (decide (QQ ≤ Y)) _ va vb w (fun W hW => ?_) (fun W hW => ?_) (fun w => refBig_any _ hx w) (fun w => refBig_any _ hy w) (fun w => refWhole_any w) (fun v w hv => refWide_any _ 41 v w hv) (by show _ ≤ _; omega)
  · have h := refWide_any X K va W (ha.below hW)
    rw [w8_mod1 X] at h
    exact h
  · have h := refWide_any Y L vb W (hb.below hW)
    rw [w8_mod1 Y] at h
    exact h

set_option maxHeartbeats 1000000 in
theorem same13_any (la lb : List Nat) (va vb : Value) (w : World) (ha : Rd mkZ w va la) (hb : Rd mkZ w vb lb) (hn : la.length ≤ 1000) (hl : lb.length = la.length) (he : ∀ i, i < la.length → dg la i = dg lb i) :
    Calls Try.prog 20 #[va, vb] w fun e w' => e = .returned (.bool true) ∧ Below w.heap.size w w' := by
  obtain ⟨ao, ca, rfl, hca, hma, ra⟩ := ha
  obtain ⟨bo, cb, rfl, hcb, hmb, rb⟩ := hb
  unfold maxLen at hma hmb
  rw [hl] at rb hcb ⊢
  have RA := hide ra
  have RB := hide rb
  have HE := hide he
  clear ra rb he hl
  go_enter Try.func20, Try.ntmps20
  go_wp2
  go_loopw [5] (fun i wr => ∃ (k q : Nat), k ≤ la.length ∧ i = .int .i64 k ∧ wr = w.drewN q)
    (fun i _ => la.length - (intOf i).toNat)
  case atStart => exact ⟨0, 0, by omega, rfl, rfl⟩
  case round =>
    obtain ⟨k, q, hk, rfl, rfl⟩ := hrel
    by_cases hlt : k < la.length
    · rcases RA.out with hc | ⟨b, off, rfl, hbl, hcell⟩
      · omega
      · rcases RB.out with hc2 | ⟨b2, off2, rfl, hbl2, hcell2⟩
        · omega
        · have c1 : w.cell? ⟨b, off + k, none⟩ = some (mkZ (dg la k)) := hcell k hlt
          have c2 : w.cell? ⟨b2, off2 + k, none⟩ = some (mkZ (dg lb k)) := hcell2 k hlt
          rw [← HE.out k hlt] at c2
          unfold mkZ at c1 c2
          have j1 : (k : Int) < (la.length : Int) := by omega
          clear hcell hcell2
          generalize zof (dg la k) = z at *
          have hq2 : (z != z) = false := by simp
          go_wp2
          go_quiet (fail)
          go_wp2
          go_roundw
          case rel => exact ⟨k + 1, _, by omega, by go_num, rfl⟩
          case measure => simp [intOf]; omega
    · go_wp2
      go_ret
      exact ⟨rfl, below_drewN' (Below.refl _ _) _⟩
end Go.Proofs.Ytgnaomgcfliamaa

