/- Contracts: radicandref02.Big; wide.Cmp. -/
import Derived.Test.YtenbomfoihajhaaWideJ
import Derived.Test.YtenbomfoihajhaaRefG
set_option linter.unusedVariables false
set_option linter.unusedSimpArgs false
set_option maxRecDepth 8000
namespace Go.Proofs.Ytenbomfoihajhaa
open Go.RowKit Plain

theorem big_step (a k : Nat) : a % 18446744073709551616 ^ k + dgl a k * 2 ^ (64 * k) = a % 18446744073709551616 ^ (k + 1) := by
  unfold dgl
  rw [← LLpow, Nat.pow_succ, Nat.mod_mul (x := a), Nat.mul_comm (a / _ % _)]

theorem refShl_int (n K s : Nat) (x : Int) (va : Value) (w : World) (ha : BigV w va n K) (hK : K ≤ 1000000) (hs : s ≤ 100000) (hx : x = (s : Int)) :
    Calls Try.prog 16 #[va, .int .i64 x] w fun e w' => ∃ v, e = .returned v ∧ BigV w' v (n * 2 ^ s) (s / 32 + K + 1) ∧ Below w.heap.size w w' := by
  subst hx; exact refShl_any n K s va w ha hK hs

theorem mk0_big (w : World) (p : Addr) : BigV w (.slice (some p) 0 0) 0 0 := ⟨[], ⟨some p, 0, rfl, Nat.le_refl _, by simp [maxLen], .inl rfl⟩, dig_nil, .inl rfl, by simp⟩

set_option maxHeartbeats 2000000 in
theorem refBig_any (a : Nat) (ha : a < QQ) (w : World) :
    Calls Try.prog 17 #[.agg #[.int .u64 (dgl (a) 0 : Nat), .int .u64 (dgl (a) 1 : Nat), .int .u64 (dgl (a) 2 : Nat), .int .u64 (dgl (a) 3 : Nat), .int .u64 (dgl (a) 4 : Nat), .int .u64 (dgl (a) 5 : Nat), .int .u64 (dgl (a) 6 : Nat), .int .u64 (dgl (a) 7 : Nat)]] w fun e w' => ∃ v, e = .returned v ∧ BigV w' v a 40 ∧ Below w.heap.size w w' := by
  have HA := hide ha
  clear ha
  go_enter Try.func17, Try.ntmps17
  go_wp2
  go_loopw [3, 4] (fun v i wr => ∃ k : Nat, k ≤ 8 ∧ i = .int .i64 k ∧ BigV wr v (a % 18446744073709551616 ^ k) (2 * k + 20) ∧ Hid (Lies wr w.heap.size a) ∧ Below w.heap.size w wr ∧ w.heap.size < wr.heap.size)
      (fun _ i _ => 8 - (intOf i).toNat)
  case atStart =>
    refine ⟨0, by omega, rfl, ?_, (lies_alloc w a 24).alloc (by simp) _, Below.alloc (Below.alloc (Below.refl _ _) (Nat.le_refl _) _) (by simp) _, by simp; omega⟩
    rw [Nat.pow_zero, Nat.mod_one]
    exact (mk0_big _ _).mono (by omega)
  case round =>
    obtain ⟨k, hk, rfl, hbig, hl, hbel, hsz⟩ := hrel
    by_cases hlt : k < 8
    · have hj : (k : Int) < 8 := by omega
      have hc := hl.out k hlt
      have hm : IntKind.i64.wrap (64 * (k : Int)) = 64 * (k : Int) := by rw [IntKind.wrap_i64]; omega
      have HS := hide (big_step a k)
      have HX := hide (show 64 * (k : Int) = ((64 * k : Nat) : Int) by omega)
      have hdl := dgl_lt a k
      have HB := hide hbig
      have HBEL := hide hbel
      have HSZ := hide hsz
      clear hbig hbel
      go_wp2_with (first
        | (go_at_call 28; refine (small_any (dgl a k) hdl _).mono ?_; rintro e w1 ⟨v1, rfl, hb1, hw1⟩)
        | (go_at_call 16; refine (refShl_int _ 2 (64 * k) _ _ _ hb1 (by omega) (by omega) (by omega)).mono ?_; rintro e w2 ⟨v2, rfl, hb2, hw2⟩; clear hb1)
        | (go_at_call 52; refine (refAdd_any _ _ _ _ _ _ _ (HB.out.below (below_trans hw1 hw2)) hb2 (by omega) (by omega)).mono ?_; rintro e w3 ⟨v3, rfl, hb3, hw3⟩; clear hb2))
      go_roundw
      case rel =>
        rw [HS.out] at hb3
        have hB := below_trans hw1 (below_trans hw2 hw3)
        exact ⟨k + 1, by omega, by go_num, hb3.mono (by omega), hl.out.below hB HSZ.out, HBEL.out.trans (hB.mono HBEL.out.size), Nat.lt_of_lt_of_le HSZ.out hB.size⟩
      case measure => simp [intOf]; omega
    · have hk : k = 8 := by omega
      subst hk
      have HB := hide hbig
      have HBEL := hide hbel
      clear hbig hbel
      go_wp2
      go_ret
      have hb := HB.out
      rw [show a % 18446744073709551616 ^ 8 = a from Nat.mod_eq_of_lt HA.out] at hb
      exact ⟨_, rfl, hb.mono (by omega), HBEL.out⟩

theorem wide_inj {a b : Nat} (ha : a < QQ) (hb : b < QQ) (h : ∀ i, i < 8 → dgl a i = dgl b i) : a = b := by
  have e : dl 18446744073709551616 a 8 = dl 18446744073709551616 b 8 := by
    unfold dl
    apply List.map_congr_left
    intro i hi
    exact h i (List.mem_range.1 hi)
  rw [← dig_val (by decide) _ _ (dig_block ha), ← dig_val (by decide) _ _ (dig_block hb), e]

theorem wide_diff {a b : Nat} (ha : a < QQ) (hb : b < QQ) (h : a ≠ b) (w : World) :
    (Op.equalIn 10000 24 (.agg #[.int .u64 (dgl (a) 0 : Nat), .int .u64 (dgl (a) 1 : Nat), .int .u64 (dgl (a) 2 : Nat), .int .u64 (dgl (a) 3 : Nat), .int .u64 (dgl (a) 4 : Nat), .int .u64 (dgl (a) 5 : Nat), .int .u64 (dgl (a) 6 : Nat), .int .u64 (dgl (a) 7 : Nat)]) (.agg #[.int .u64 (dgl (b) 0 : Nat), .int .u64 (dgl (b) 1 : Nat), .int .u64 (dgl (b) 2 : Nat), .int .u64 (dgl (b) 3 : Nat), .int .u64 (dgl (b) 4 : Nat), .int .u64 (dgl (b) 5 : Nat), .int .u64 (dgl (b) 6 : Nat), .int .u64 (dgl (b) 7 : Nat)])).run Try.prog w = .ok false w := by
  have hw := wide_equal (dgl a) (dgl b) w
  rw [hw]
  congr 1
  rw [Bool.eq_false_iff]
  intro hc
  simp only [Bool.and_eq_true, beq_iff_eq] at hc
  obtain ⟨h0, h1, h2, h3, h4, h5, h6, h7⟩ := hc
  refine h (wide_inj ha hb fun i hi => ?_)
  match i, hi with
  | 0, _ => exact h0
  | 1, _ => exact h1
  | 2, _ => exact h2
  | 3, _ => exact h3
  | 4, _ => exact h4
  | 5, _ => exact h5
  | 6, _ => exact h6
  | 7, _ => exact h7

set_option maxHeartbeats 600000 in
theorem wideCmp_any (a b : Nat) (ha : a < QQ) (hb : b < QQ) (w : World) :
    Calls Try.prog 42 #[.agg #[.int .u64 (dgl (a) 0 : Nat), .int .u64 (dgl (a) 1 : Nat), .int .u64 (dgl (a) 2 : Nat), .int .u64 (dgl (a) 3 : Nat), .int .u64 (dgl (a) 4 : Nat), .int .u64 (dgl (a) 5 : Nat), .int .u64 (dgl (a) 6 : Nat), .int .u64 (dgl (a) 7 : Nat)], .agg #[.int .u64 (dgl (b) 0 : Nat), .int .u64 (dgl (b) 1 : Nat), .int .u64 (dgl (b) 2 : Nat), .int .u64 (dgl (b) 3 : Nat), .int .u64 (dgl (b) 4 : Nat), .int .u64 (dgl (b) 5 : Nat), .int .u64 (dgl (b) 6 : Nat), .int .u64 (dgl (b) 7 : Nat)]] w fun e w' => e = .returned (.int .i64 (cmpN a b)) ∧ Below w.heap.size w w' := by
  by_cases hab : a = b
  · subst hab
    have HC := hide (show cmpN a a = 0 from cmp_eq (β := 2) rfl)
    clear ha hb
    go_enter Try.func42, Try.ntmps42
    go_wp2
    go_ret
    exact ⟨ret_int HC.out.symm, Below.alloc (Below.alloc (Below.refl _ _) (Nat.le_refl _) _) (by simp) _⟩
  · have hd := fun w => wide_diff ha hb hab w
    have HRA := hide (rd_block ((lies_alloc w a 24).alloc (by simp) (.cells #[.int .u64 (dgl (b) 0 : Nat), .int .u64 (dgl (b) 1 : Nat), .int .u64 (dgl (b) 2 : Nat), .int .u64 (dgl (b) 3 : Nat), .int .u64 (dgl (b) 4 : Nat), .int .u64 (dgl (b) 5 : Nat), .int .u64 (dgl (b) 6 : Nat), .int .u64 (dgl (b) 7 : Nat)] 24)) (by simp; omega))
    have hlb := lies_alloc (w.alloc (.cells #[.int .u64 (dgl (a) 0 : Nat), .int .u64 (dgl (a) 1 : Nat), .int .u64 (dgl (a) 2 : Nat), .int .u64 (dgl (a) 3 : Nat), .int .u64 (dgl (a) 4 : Nat), .int .u64 (dgl (a) 5 : Nat), .int .u64 (dgl (a) 6 : Nat), .int .u64 (dgl (a) 7 : Nat)] 24)) b 24
    rw [World.size_alloc] at hlb
    have HRB := hide (rd_block hlb (by simp))
    clear hlb
    have HDA := hide (dig_block ha)
    have HDB := hide (dig_block hb)
    have HAB := hide hab
    clear ha hb hab
    by_cases hlt : a < b
    · have HC := hide (show cmpN a b = -1 by unfold cmpN; rw [if_pos hlt])
      have hdec := decide_eq_true hlt
      clear hlt
      go_enter Try.func42, Try.ntmps42
      go_wp2
      go_region_with (go_at_call 78; refine (less_any a b _ _ _ _ _ HRA.out.drew HDA.out HRB.out.drew HDB.out).mono ?_; rintro e w' ⟨rfl, hw⟩; subst w'; rw [hdec])
      all_goals
        go_wp2
        go_ret
        exact ⟨ret_int HC.out.symm, (Below.alloc (Below.alloc (Below.refl _ _) (Nat.le_refl _) _) (by simp) _).drew⟩
    · have HC := hide (show cmpN a b = 1 by unfold cmpN; rw [if_neg hlt, if_pos (by have := HAB.out; omega)])
      have hdec := decide_eq_false hlt
      clear hlt
      go_enter Try.func42, Try.ntmps42
      go_wp2
      go_region_with (go_at_call 78; refine (less_any a b _ _ _ _ _ HRA.out.drew HDA.out HRB.out.drew HDB.out).mono ?_; rintro e w' ⟨rfl, hw⟩; subst w'; rw [hdec])
      all_goals
        go_wp2
        go_ret
        exact ⟨ret_int HC.out.symm, (Below.alloc (Below.alloc (Below.refl _ _) (Nat.le_refl _) _) (by simp) _).drew⟩

end Go.Proofs.Ytenbomfoihajhaa
