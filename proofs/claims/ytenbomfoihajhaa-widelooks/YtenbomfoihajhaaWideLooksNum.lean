/- For all wides, ints and words the law radicandlaw02.WideLooks returns true. -/
import Derived.Test.YtenbomfoihajhaaWideLooksWalk
import Derived.Lib.SmallJoins
set_option linter.unusedVariables false
set_option linter.unusedSimpArgs false
set_option maxRecDepth 8000
namespace Go.Proofs.Ytenbomfoihajhaa
open Go.RowKit Plain

theorem power_num (n : Int) (pw q : Nat) (hq : 2 ^ q = QQ) (hq5 : q = 512) (hpw : pw = if 0 ≤ n ∧ n < 512 then 2 ^ n.toNat else 0) (w : World) :
    Calls Try.prog 36 #[.int .i64 n] w fun e w' => e = .returned (.agg #[.int .u64 (dgl (pw) 0 : Nat), .int .u64 (dgl (pw) 1 : Nat), .int .u64 (dgl (pw) 2 : Nat), .int .u64 (dgl (pw) 3 : Nat), .int .u64 (dgl (pw) 4 : Nat), .int .u64 (dgl (pw) 5 : Nat), .int .u64 (dgl (pw) 6 : Nat), .int .u64 (dgl (pw) 7 : Nat)]) ∧ Below w.heap.size w w' := by
  by_cases hn : n < 0
  · rw [hpw, if_neg (by omega)]
    exact widePower_neg n hn w
  · obtain ⟨j, rfl⟩ : ∃ j : Nat, n = (j : Int) := ⟨n.toNat, by omega⟩
    have h := widePower_any (j : Int) (by omega) w
    by_cases h5 : (j : Int) < 512
    · have e1 : roomI (j : Int) = (j : Int) := by unfold roomI; omega
      rw [hpw, if_pos (by omega), Int.toNat_natCast]
      rw [e1, sh_up, Nat.one_mul] at h
      exact h
    · have e1 : roomI (j : Int) = (q : Int) := by unfold roomI; omega
      rw [hpw, if_neg (by omega)]
      rw [e1, sh_up, Nat.one_mul, hq, w8_mod (show QQ % QQ = 0 % QQ by rw [Nat.mod_self, Nat.zero_mod])] at h
      exact h

theorem bit_num (a q : Nat) (n : Int) (hq : 2 ^ q = QQ) (hq5 : q = 512) (ha : a < QQ) (hn2 : n ≤ 9223372036854775807) (w : World) :
    Calls Try.prog 32 #[.agg #[.int .u64 (dgl (a) 0 : Nat), .int .u64 (dgl (a) 1 : Nat), .int .u64 (dgl (a) 2 : Nat), .int .u64 (dgl (a) 3 : Nat), .int .u64 (dgl (a) 4 : Nat), .int .u64 (dgl (a) 5 : Nat), .int .u64 (dgl (a) 6 : Nat), .int .u64 (dgl (a) 7 : Nat)], .int .i64 n] w fun e w' => e = .returned (.bool (decide (0 ≤ n ∧ n < 512) && (a / 2 ^ n.toNat % 2 == 1))) ∧ Below w.heap.size w w' := by
  by_cases hn : n < 0
  · rw [decide_eq_false (by omega), Bool.false_and]
    exact wideBit_neg a n hn w
  · have h := wideBit_any a n ha (by omega) hn2 w
    by_cases h5 : n < 512
    · rw [decide_eq_true (by omega), Bool.true_and]
      exact h
    · rw [decide_eq_false (by omega), Bool.false_and]
      have h0 : a / 2 ^ n.toNat = 0 := Nat.div_eq_of_lt (Nat.lt_of_lt_of_le ha (by rw [← hq]; exact Nat.pow_le_pow_right (by decide) (by omega)))
      rw [h0] at h
      exact h

theorem wideLooks_walk (a hi lo : Nat) (n : Int) (hn1 : -9223372036854775808 ≤ n) (hn2 : n ≤ 9223372036854775807) (ha : a < QQ) (hh : hi < 18446744073709551616) (hl : lo < 18446744073709551616) (w : World) :
    Calls Try.prog 4 #[.agg #[.int .u64 (dgl (a) 0 : Nat), .int .u64 (dgl (a) 1 : Nat), .int .u64 (dgl (a) 2 : Nat), .int .u64 (dgl (a) 3 : Nat), .int .u64 (dgl (a) 4 : Nat), .int .u64 (dgl (a) 5 : Nat), .int .u64 (dgl (a) 6 : Nat), .int .u64 (dgl (a) 7 : Nat)], .int .i64 n, .agg #[.int .u64 (hi : Nat), .int .u64 (lo : Nat)]] w fun e w' => e = .returned (.bool true) ∧ Below w.heap.size w w' := by
  obtain ⟨r, hr⟩ : ∃ r : Nat, roomI n = (r : Int) := ⟨(roomI n).toNat, by have := roomI_bd n; omega⟩
  obtain ⟨pw, hpw⟩ : ∃ pw, pw = if 0 ≤ n ∧ n < 512 then 2 ^ n.toNat else 0 := ⟨_, rfl⟩
  have hq := qq_pow 512 rfl
  have hz : dgl 0 = fun _ => 0 := funext dgl_zero
  refine wideLooks_first (dgl a) (dgl pw) (dgl (2 ^ r - 1)) (dgl (subQ 0 a)) (dgl (lo + 18446744073709551616 * hi)) a hi lo (Go.bitLen a) pw (2 ^ r) n (decide (0 ≤ n ∧ n < 512) && (a / 2 ^ n.toNat % 2 == 1)) (a / 2 ^ 511 % 2 == 1) _ _ (decide (QQ ≤ QQ - a)) w hn1 hn2 ha
    (fun w => refBig_any a ha w) rfl (fun h1 h2 => by rw [hpw, if_pos ⟨h1, h2⟩]) (fun v w h => refWide_any pw 20 v w h) (fun h => by rw [hpw, if_neg h, hz])
    (fun h => by congr 1; unfold roomI at hr; omega) (fun v w h => refWide_any _ 20 v w h) (fun h => by
      have h0 : r = 0 := by unfold roomI at hr; omega
      rw [h0, Nat.pow_zero, Nat.sub_self, hz]) (fun v w h => ?_) (fun w => wideLen_any a ha w) (fun v w h => refLen_any a 40 v w h (by omega)) (fun w => bit_num a 512 n hq rfl ha hn2 w) (fun w => wideMinus_any a ha w) (fun w => refMinus_any a ha w)
    (fun w => wideNeg_any a ha w) (fun w => power_num n pw 512 hq rfl hpw w) (fun w => wideMask_any n r hr w) (fun w => wideFrom_any hi lo hh hl w) (fun w => ?_)
  · have h2 := refWide_any (QQ - a) 19 v w h
    rw [w8_mod (show (QQ - a) % QQ = subQ 0 a % QQ by
      rw [neg_eq a ha]
      by_cases h0 : a = 0
      · rw [if_pos h0, h0, Nat.sub_zero, Nat.mod_self, Nat.zero_mod]
      · rw [if_neg h0])] at h2
    exact h2
  · have e := w8_congr (x := dgl (lo + 18446744073709551616 * hi)) (y := dg [lo, hi]) (fun i hi8 => ((dig_two (β := 18446744073709551616) hl hh).2 i).symm)
    rw [e]
    exact wide_sameF (dg [lo, hi]) w

open Go.ChangeShapes Go.WideShapes Go.ChangeAt in
theorem word_of_trod {H : Type} {enc : TypeId × Value → H} {W : World} {r : Reach} {b0 base : Nat} {sp : Nat → Bool} {held : Bool} {v : Value} {d : DataW H} {ps : List MemPlace}
    (hval : Value.okWide Try.prog W r b0 37 v) (hd : DataW.Trod enc Try.prog W base sp held 37 v d ps) : ∃ x y : Nat, x < 18446744073709551616 ∧ y < 18446744073709551616 ∧ v = .agg #[.int .u64 (x : Nat), .int .u64 (y : Nat)] := by
  obtain ⟨c0, c1, y0, y1, m, rfl, rfl, rfl, hy0, hy1⟩ := Go.Joins.open_agg2 Try.underlying37 (by kernel_rfl) (by kernel_rfl) hval hd
  obtain ⟨a0, e0, _, wa0⟩ := DataW.trod_int Try.underlying22 hy0
  obtain ⟨a1, e1, _, wa1⟩ := DataW.trod_int Try.underlying22 hy1
  obtain ⟨x, rfl, hx⟩ := u64_nat wa0
  obtain ⟨y, rfl, hy⟩ := u64_nat wa1
  simp at e0 e1
  subst e0 e1
  exact ⟨x, y, hx, hy, rfl⟩
end Go.Proofs.Ytenbomfoihajhaa
