/- Contracts: radicandref02.Power, Whole, Minus. -/
import Derived.Test.YtenbomfoihajhaaWideM
import Derived.Test.YtenbomfoihajhaaRefI
set_option linter.unusedVariables false
set_option linter.unusedSimpArgs false
set_option maxRecDepth 8000
namespace Go.Proofs.Ytenbomfoihajhaa
open Go.RowKit Plain

theorem refPower_any (s P : Nat) (hs : s ≤ 100000) (hP : 2 ^ s = P) (w : World) :
    Calls Try.prog 26 #[.int .i64 s] w fun e w' => ∃ v, e = .returned v ∧ BigV w' v P (s / 32 + 3) ∧ Below w.heap.size w w' := by
  have HS := hide (fun w => small_any 1 (by decide) w)
  have HL := hide (fun v w h => refShl_any 1 2 s v w h (by decide) hs)
  rw [Nat.one_mul, hP] at HL
  clear hP
  go_enter Try.func26, Try.ntmps26
  go_wp2_with fail
  refine (HS.out _).mono ?_
  rintro e w1 ⟨v1, rfl, h1, hb1⟩
  go_wp2_with fail
  refine (HL.out _ _ h1).mono ?_
  rintro e w2 ⟨v2, rfl, h2, hb2⟩
  go_wp2
  go_ret
  exact ⟨_, rfl, h2, below_trans hb1 hb2⟩

theorem refPower_int (s P : Nat) (x : Int) (hs : s ≤ 100000) (hP : 2 ^ s = P) (hx : x = (s : Int)) (w : World) :
    Calls Try.prog 26 #[.int .i64 x] w fun e w' => ∃ v, e = .returned v ∧ BigV w' v P (s / 32 + 3) ∧ Below w.heap.size w w' := by
  subst hx; exact refPower_any s P hs hP w

theorem pow_pos' (s P : Nat) (h : 2 ^ s = P) : 0 < P := by rw [← h]; exact Nat.two_pow_pos s
theorem qq_pow (s : Nat) (hs : s = 64 * 8) : 2 ^ s = QQ := by unfold QQ; rw [LLpow, hs]
theorem qq_half (s P : Nat) (hs : s + 1 = 64 * 8) (h : 2 ^ s = P) : QQ = 2 * P := by unfold QQ; rw [LLpow, ← hs, Nat.pow_succ, h, Nat.mul_comm]

theorem refWhole_any (w : World) :
    Calls Try.prog 29 #[] w fun e w' => ∃ v, e = .returned v ∧ BigV w' v QQ 19 ∧ Below w.heap.size w w' := by
  have HP := hide (fun w => refPower_int 512 QQ 512 (by decide) (qq_pow 512 rfl) rfl w)
  go_enter Try.func29, Try.ntmps29
  go_wp2_with fail
  refine (HP.out _).mono ?_
  rintro e w1 ⟨v1, rfl, h1, hb1⟩
  go_wp2
  go_ret
  exact ⟨_, rfl, h1, hb1⟩

theorem half_iff (a P : Nat) (hP : 0 < P) (ha : a < 2 * P) : decide (0 ≤ cmpN a P) = (a / P % 2 == 1) := by
  rw [Bool.eq_iff_iff, decide_eq_true_iff, beq_iff_eq]
  rcases Nat.lt_or_ge a P with h | h
  · rw [Nat.div_eq_of_lt h]
    unfold cmpN; rw [if_pos h]; omega
  · have e : a / P = 1 := by
      have h1 : 1 ≤ a / P := (Nat.le_div_iff_mul_le hP).2 (by omega)
      have h2 : a / P < 2 := (Nat.div_lt_iff_lt_mul hP).2 ha
      omega
    rw [e]
    unfold cmpN; rw [if_neg (by omega)]
    constructor
    · intro _; rfl
    · intro _; split <;> omega

theorem refMinus_gen (a P : Nat) (hP : 2 ^ 511 = P) (ha : a < QQ) (w : World) :
    Calls Try.prog 34 #[.agg #[.int .u64 (dgl (a) 0 : Nat), .int .u64 (dgl (a) 1 : Nat), .int .u64 (dgl (a) 2 : Nat), .int .u64 (dgl (a) 3 : Nat), .int .u64 (dgl (a) 4 : Nat), .int .u64 (dgl (a) 5 : Nat), .int .u64 (dgl (a) 6 : Nat), .int .u64 (dgl (a) 7 : Nat)]] w fun e w' => e = .returned (.bool (a / P % 2 == 1)) ∧ Below w.heap.size w w' := by
  have hQ : QQ = 2 * P := qq_half 511 P rfl hP
  have hi := half_iff a P (pow_pos' 511 P hP) (by rw [← hQ]; exact ha)
  have HB := hide (fun w => refBig_any a ha w)
  have HP := hide (fun w => refPower_int 511 P 511 (by decide) hP rfl w)
  clear ha hQ hP
  rw [← hi]
  clear hi
  go_enter Try.func34, Try.ntmps34
  go_wp2_with fail
  refine (HB.out _).mono ?_
  rintro e w1 ⟨v1, rfl, h1, hb1⟩
  go_wp2_with fail
  refine (HP.out _).mono ?_
  rintro e w2 ⟨v2, rfl, h2, hb2⟩
  go_wp2_with fail
  refine (cmp_any a P _ _ _ _ _ (h1.below hb2) h2).mono ?_
  rintro e w' ⟨rfl, hw⟩
  subst w'
  have HBB := hide (below_trans (below_alloc_then hb1) hb2)
  clear h1 h2 hb1 hb2
  go_wp2
  go_ret
  exact ⟨rfl, HBB.out⟩

theorem refMinus_any (a : Nat) (ha : a < QQ) (w : World) :
    Calls Try.prog 34 #[.agg #[.int .u64 (dgl (a) 0 : Nat), .int .u64 (dgl (a) 1 : Nat), .int .u64 (dgl (a) 2 : Nat), .int .u64 (dgl (a) 3 : Nat), .int .u64 (dgl (a) 4 : Nat), .int .u64 (dgl (a) 5 : Nat), .int .u64 (dgl (a) 6 : Nat), .int .u64 (dgl (a) 7 : Nat)]] w fun e w' => e = .returned (.bool (a / 2 ^ 511 % 2 == 1)) ∧ Below w.heap.size w w' :=
  refMinus_gen a _ rfl ha w

end Go.Proofs.Ytenbomfoihajhaa
