/- Contracts and laws: ProdF, ProdG. -/
import Derived.Test.YtjklehlkgccmnaaBaseM
import Derived.Test.YtjklehlkgccmnaaBaseK
import Derived.Deep.DeepCutAuto
/- Contracts: prod.High. -/
set_option linter.unusedVariables false
set_option linter.unusedSimpArgs false
set_option maxRecDepth 8000
namespace Go.Proofs.Ytjklehlkgccmnaa
open Go.RowKit Plain

theorem high_split (P k r q : Nat) (hq : 2 ^ q = QQ) (hr : k + r = q) : P / 2 ^ k = P % QQ / 2 ^ k + P / QQ * 2 ^ r ∧ (P % QQ / 2 ^ k * 2 ^ k = P % QQ ↔ P / 2 ^ k * 2 ^ k = P) := by
  have hS : QQ = 2 ^ k * 2 ^ r := by rw [← Nat.pow_add, hr, hq]
  have hp : 0 < 2 ^ k := Nat.two_pow_pos k
  have e1 : P / 2 ^ k = P % QQ / 2 ^ k + P / QQ * 2 ^ r := by
    have h := Nat.mod_add_div P QQ
    have h2 : P / 2 ^ k = (P % QQ + 2 ^ k * (2 ^ r * (P / QQ))) / 2 ^ k := by
      congr 1
      rw [← Nat.mul_assoc, ← hS]; exact h.symm
    rw [h2, Nat.add_mul_div_left _ _ hp, Nat.mul_comm (P / QQ)]
  refine ⟨e1, ?_⟩
  rw [e1, Nat.add_mul, show P / QQ * 2 ^ r * 2 ^ k = P / QQ * (2 ^ k * 2 ^ r) by ac_rfl, ← hS]
  have h := Nat.mod_add_div P QQ
  have h3 : QQ * (P / QQ) = P / QQ * QQ := Nat.mul_comm _ _
  omega

theorem high_past (P k q m r : Nat) (hq : 2 ^ q = QQ) (hm : k = q + m) (hr : r = min m q) (hP : P / QQ < QQ) :
    P / QQ / 2 ^ r = P / 2 ^ k ∧ (P / QQ / 2 ^ r * 2 ^ r = P / QQ ∧ P % QQ = 0 ↔ P / 2 ^ k * 2 ^ k = P) := by
  have e1 : P / QQ / 2 ^ r = P / QQ / 2 ^ m := div_past (P / QQ) m r q hr hq hP
  have e2 : P / 2 ^ k = P / QQ / 2 ^ m := by rw [hm, Nat.pow_add, hq, Nat.div_div_eq_div_mul]
  have hl := lost_past (P / QQ) m r q hr hq hP
  rw [decide_eq_decide] at hl
  rw [← hl, e1, e2]
  refine ⟨rfl, ?_⟩
  have h := Nat.mod_add_div P QQ
  have h5 : P / QQ / 2 ^ m * 2 ^ k = QQ * (P / QQ / 2 ^ m * 2 ^ m) := by rw [hm, Nat.pow_add, hq]; ac_rfl
  rw [h5]
  constructor
  · rintro ⟨h1, h2⟩
    rw [h1]; omega
  · intro h1
    have h6 : P / QQ / 2 ^ m * 2 ^ m ≤ P / QQ := Nat.div_mul_le_self _ _
    have h7 : QQ * (P / QQ / 2 ^ m * 2 ^ m) ≤ QQ * (P / QQ) := Nat.mul_le_mul_left _ h6
    have h8 : QQ * (P / QQ / 2 ^ m * 2 ^ m) = QQ * (P / QQ) := by omega
    have hq0 : 0 < QQ := pow_pos' q QQ hq
    exact ⟨Nat.eq_of_mul_eq_mul_left hq0 h8, by omega⟩

end Go.Proofs.Ytjklehlkgccmnaa

/- Contracts: radicandref03.Mul; radicandlaw03.awake. -/
set_option linter.unusedVariables false
set_option linter.unusedSimpArgs false
set_option maxRecDepth 8000
namespace Go.Proofs.Ytjklehlkgccmnaa
open Go.RowKit Plain

structure TwoSt (w : World) (fa fb : Nat → Nat) (W : World) : Prop where
  la : LiesF W w.heap.size fa
  lb : LiesF W (w.heap.size + 1) fb
  bel : Below w.heap.size w W
theorem TwoSt.below {w : World} {fa fb : Nat → Nat} {W W' : World} (h : TwoSt w fa fb W) (hb : Below W.heap.size W W') : TwoSt w fa fb W' :=
  ⟨h.la.below hb, h.lb.below hb, below_trans h.bel hb⟩
theorem TwoSt.start (w : World) (fa fb : Nat → Nat) : TwoSt w fa fb ((w.alloc (.cells #[.int .u64 (fa 0 : Nat), .int .u64 (fa 1 : Nat), .int .u64 (fa 2 : Nat), .int .u64 (fa 3 : Nat), .int .u64 (fa 4 : Nat), .int .u64 (fa 5 : Nat), .int .u64 (fa 6 : Nat), .int .u64 (fa 7 : Nat)] 24)).alloc (.cells #[.int .u64 (fb 0 : Nat), .int .u64 (fb 1 : Nat), .int .u64 (fb 2 : Nat), .int .u64 (fb 3 : Nat), .int .u64 (fb 4 : Nat), .int .u64 (fb 5 : Nat), .int .u64 (fb 6 : Nat), .int .u64 (fb 7 : Nat)] 24)) := by
  have hlb := liesF_new (w.alloc (.cells #[.int .u64 (fa 0 : Nat), .int .u64 (fa 1 : Nat), .int .u64 (fa 2 : Nat), .int .u64 (fa 3 : Nat), .int .u64 (fa 4 : Nat), .int .u64 (fa 5 : Nat), .int .u64 (fa 6 : Nat), .int .u64 (fa 7 : Nat)] 24)) fb 24
  rw [World.size_alloc] at hlb
  exact ⟨(liesF_new w fa 24).alloc _, hlb, below_trans (below_allocs w _) (below_allocs _ _)⟩

theorem power_lt (n q : Nat) (hq : 2 ^ q = QQ) (h : n < q) (x : Int) (hx : x = (n : Int)) (hq5 : q = 512) (w : World) :
    Calls Try.prog 31 #[.int .i64 x] w fun e w' => e = .returned (.agg #[.int .u64 (dgl (2 ^ n) 0 : Nat), .int .u64 (dgl (2 ^ n) 1 : Nat), .int .u64 (dgl (2 ^ n) 2 : Nat), .int .u64 (dgl (2 ^ n) 3 : Nat), .int .u64 (dgl (2 ^ n) 4 : Nat), .int .u64 (dgl (2 ^ n) 5 : Nat), .int .u64 (dgl (2 ^ n) 6 : Nat), .int .u64 (dgl (2 ^ n) 7 : Nat)]) ∧ Below w.heap.size w w' := by
  subst hx
  have h1 := widePower_any (n : Int) (by omega) w
  have e1 : roomI (n : Int) = (n : Int) := by unfold roomI; omega
  rw [e1, sh_up, Nat.one_mul] at h1
  exact h1

theorem awake3_num (x y r q : Nat) (hq : 2 ^ q = QQ) (h2 : x + x = q) (hr : r + y = q) : 2 ^ x * 2 ^ x = QQ ∧ QQ / 2 ^ r = 2 ^ y ∧ 2 ^ y * 2 ^ r = QQ := by
  refine ⟨by rw [← Nat.pow_add, h2, hq], ?_, by rw [← Nat.pow_add, Nat.add_comm, hr, hq]⟩
  rw [← hq, ← hr, Nat.pow_add, Nat.mul_div_cancel_left _ (Nat.two_pow_pos r)]

theorem pow_lt_qq (n q : Nat) (hq : 2 ^ q = QQ) (h : n < q) : 2 ^ n < QQ := by rw [← hq]; exact Nat.pow_lt_pow_right (by decide) h

end Go.Proofs.Ytjklehlkgccmnaa

