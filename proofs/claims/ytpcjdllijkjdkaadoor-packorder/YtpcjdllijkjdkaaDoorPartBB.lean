/- Contracts and laws: PckM, PckE, PckN, PckP, PckO. -/
import Derived.Test.YtpcjdllijkjdkaaDoorPartBA
import Derived.Test.YtpcjdllijkjdkaaDoorPartAQ
/- Numbers: rounding keeps order. -/
set_option linter.unusedVariables false
set_option linter.unusedSimpArgs false
set_option maxRecDepth 8000
namespace Go.Proofs.YtpcjdllijkjdkaaDoor
open Go.RowKit Plain

theorem growN_mono {m : Int} {neg od : Bool} {r r' : Nat} (h : r ≤ r') (h3 : r' ≤ 3) (hg : growN m neg od (r : Int) = true) : growN m neg od (r' : Int) = true := by
  unfold growN at hg ⊢
  by_cases hr : (r : Int) < 1 ∨ 3 < (r : Int)
  · rw [if_pos hr] at hg; cases hg
  · rw [if_neg hr] at hg
    rw [if_neg (by omega)]
    by_cases h1 : m = 1
    · rw [if_pos h1] at hg ⊢
      rw [Bool.or_eq_true, Bool.and_eq_true, decide_eq_true_iff, decide_eq_true_iff] at hg ⊢
      rcases hg with hg | ⟨hg, ho⟩
      · left; omega
      · rcases Nat.lt_or_ge r' 3 with h4 | h4
        · right; exact ⟨by omega, ho⟩
        · left; omega
    · rw [if_neg h1] at hg ⊢
      by_cases h2 : m = 2
      · rw [if_pos h2, decide_eq_true_iff] at hg ⊢
        omega
      · rw [if_neg h2] at hg ⊢
        exact hg
theorem restN_le (A K : Nat) (more : Bool) : restN A K more ≤ 3 := by
  unfold restN
  repeat' split
  all_goals decide
theorem restN_mono {A B K : Nat} (h : A % 2 ^ K ≤ B % 2 ^ K) : restN A K false ≤ restN B K false := by
  unfold restN
  have hp := Nat.mod_lt B (Nat.two_pow_pos K)
  simp only [and_true]
  generalize A % 2 ^ K = a at *
  generalize B % 2 ^ K = b at *
  generalize 2 ^ K = p at *
  repeat' split
  all_goals omega
theorem cutN_mono {A B : Nat} (K : Nat) (m : Int) (neg : Bool) (h : A ≤ B) : cutN A K m false neg ≤ cutN B K m false neg := by
  have hd : A / 2 ^ K ≤ B / 2 ^ K := Nat.div_le_div_right h
  rcases Nat.lt_or_ge (A / 2 ^ K) (B / 2 ^ K) with h1 | h1
  · have h2 := (cutN_bd A K m false neg).2
    have h3 := (cutN_bd B K m false neg).1
    omega
  · have he : A / 2 ^ K = B / 2 ^ K := by omega
    have hA := Nat.div_add_mod A (2 ^ K)
    have hB := Nat.div_add_mod B (2 ^ K)
    have hr : A % 2 ^ K ≤ B % 2 ^ K := by rw [he] at hA; omega
    have hm := restN_mono hr
    have h3 := restN_le B K false
    unfold cutN
    rw [he]
    cases hg : growN m neg (B / 2 ^ K % 2 == 1) ((restN A K false : Nat) : Int)
    · exact Nat.le_add_right _ _
    · rw [growN_mono hm h3 hg]
      exact Nat.le_refl _
/-- Noughts behind a number change nothing of what is cut. -/
theorem cut_sc (s j K : Nat) (m : Int) (neg : Bool) : cutN s (K - j) m false neg * 2 ^ (j + (K - j)) = cutN (s * 2 ^ j) K m false neg * 2 ^ K := by
  have hj := Nat.two_pow_pos j
  rcases Nat.lt_or_ge K j with h | h
  · rw [show K - j = 0 by omega, cutN_0, Nat.add_zero]
    have e : 2 ^ j = 2 ^ (j - K) * 2 ^ K := by rw [← Nat.pow_add]; congr 1; omega
    have hm : s * 2 ^ j % 2 ^ K = 0 := by rw [e, ← Nat.mul_assoc]; exact Nat.mul_mod_left _ _
    have hr : restN (s * 2 ^ j) K false = 0 := by unfold restN; rw [if_pos ⟨hm, rfl⟩]
    rw [cutN_keep m neg hr]
    have := Nat.div_add_mod (s * 2 ^ j) (2 ^ K)
    rw [hm, Nat.add_zero, Nat.mul_comm] at this
    exact this.symm
  · obtain ⟨k, rfl⟩ : ∃ k, K = k + j := ⟨K - j, by omega⟩
    rw [show k + j - j = k by omega, Nat.add_comm j k]
    congr 1
    have e1 : s * 2 ^ j / 2 ^ (k + j) = s / 2 ^ k := by rw [Nat.pow_add]; exact Nat.mul_div_mul_right _ _ hj
    have e2 : s * 2 ^ j % 2 ^ (k + j) = s % 2 ^ k * 2 ^ j := by rw [Nat.pow_add]; exact Nat.mul_mod_mul_right _ _ _
    have e3 : restN (s * 2 ^ j) (k + j) false = restN s k false := by
      unfold restN
      rw [e2, Nat.pow_add]
      simp only [and_true]
      generalize s % 2 ^ k = r
      generalize 2 ^ k = p
      generalize 2 ^ j = q at *
      rw [← Nat.mul_assoc]
      have c1 : r * q = 0 ↔ r = 0 := by rw [Nat.mul_eq_zero]; omega
      have c2 : 2 * r * q < p * q ↔ 2 * r < p := Nat.mul_lt_mul_right hj
      have c3 : 2 * r * q = p * q ↔ 2 * r = p := Nat.mul_left_inj (by omega)
      simp only [c1, c2, c3]
    unfold cutN
    rw [e1, e3]
/-- A number with no more than p digits: what it is rounded to. -/
noncomputable def rpN (A p : Nat) (m : Int) (neg : Bool) : Nat := cutN A (Go.bitLen A - p) m false neg * 2 ^ (Go.bitLen A - p)
theorem rpN_hi {A p : Nat} {m : Int} {neg : Bool} (hp : 0 < p) : rpN A p m neg ≤ 2 ^ Go.bitLen A := by
  unfold rpN
  rcases Nat.lt_or_ge p (Go.bitLen A) with h | h
  · have e : 2 ^ Go.bitLen A = 2 ^ p * 2 ^ (Go.bitLen A - p) := by rw [← Nat.pow_add]; congr 1; omega
    rw [e]
    refine Nat.mul_le_mul_right _ ?_
    rcases cut_len (m := m) (more := false) (neg := neg) h hp with ⟨h1, _⟩ | h1
    · have := len_lt (cutN A (Go.bitLen A - p) m false neg)
      rw [h1] at this
      omega
    · omega
  · rw [show Go.bitLen A - p = 0 by omega, cutN_0, Nat.pow_zero, Nat.mul_one]
    exact Nat.le_of_lt (len_lt A)
theorem rpN_lo {A p : Nat} {m : Int} {neg : Bool} (hp : 0 < p) (h0 : A ≠ 0) : 2 ^ (Go.bitLen A - 1) ≤ rpN A p m neg := by
  unfold rpN
  have hl := len_pos h0
  rcases Nat.lt_or_ge p (Go.bitLen A) with h | h
  · have e : 2 ^ (Go.bitLen A - 1) = 2 ^ (p - 1) * 2 ^ (Go.bitLen A - p) := by rw [← Nat.pow_add]; congr 1; omega
    rw [e]
    refine Nat.mul_le_mul_right _ ?_
    rcases cut_len (m := m) (more := false) (neg := neg) h hp with ⟨_, h1⟩ | h1
    · exact h1
    · rw [h1]
      exact Nat.pow_le_pow_right (by decide) (by omega)
  · rw [show Go.bitLen A - p = 0 by omega, cutN_0, Nat.pow_zero, Nat.mul_one]
    exact len_ge h0
theorem rpN_mono {A B p : Nat} {m : Int} {neg : Bool} (hp : 0 < p) (h0 : A ≠ 0) (h : A ≤ B) : rpN A p m neg ≤ rpN B p m neg := by
  have hl : Go.bitLen A ≤ Go.bitLen B := (len_le _ _).2 (Nat.lt_of_le_of_lt h (len_lt B))
  rcases Nat.lt_or_ge (Go.bitLen A) (Go.bitLen B) with h1 | h1
  · refine Nat.le_trans (rpN_hi hp) (Nat.le_trans ?_ (rpN_lo hp (by omega)))
    exact Nat.pow_le_pow_right (by decide) (by omega)
  · unfold rpN
    rw [show Go.bitLen A = Go.bitLen B by omega]
    exact Nat.mul_le_mul_right _ (cutN_mono _ m neg h)
theorem len_scale {s : Nat} (h0 : s ≠ 0) (j : Nat) : Go.bitLen (s * 2 ^ j) = Go.bitLen s + j := by
  have h1 := len_ge h0
  have h2 := len_lt s
  have hl := len_pos h0
  have a1 := (len_le (s * 2 ^ j) (Go.bitLen s + j)).2 (by rw [Nat.pow_add]; exact Nat.mul_lt_mul_of_pos_right h2 (Nat.two_pow_pos _))
  have a2 : ¬ Go.bitLen (s * 2 ^ j) ≤ Go.bitLen s + j - 1 := fun h => by
    have h3 := (len_le _ _).1 h
    rw [show Go.bitLen s + j - 1 = Go.bitLen s - 1 + j by omega, Nat.pow_add] at h3
    have := Nat.mul_le_mul_right (2 ^ j) h1
    omega
  omega
theorem rpN_sc {s : Nat} (h0 : s ≠ 0) (j p : Nat) (m : Int) (neg : Bool) : cutN s (Go.bitLen s - p) m false neg * 2 ^ (j + (Go.bitLen s - p)) = rpN (s * 2 ^ j) p m neg := by
  unfold rpN
  have h := cut_sc s j (Go.bitLen (s * 2 ^ j) - p) m neg
  rw [len_scale h0] at h ⊢
  rw [show Go.bitLen s + j - p - j = Go.bitLen s - p by omega] at h
  exact h

end Go.Proofs.YtpcjdllijkjdkaaDoor

/- Contracts: law09.awake; words go by their numbers. -/
set_option linter.unusedVariables false
set_option linter.unusedSimpArgs false
set_option maxRecDepth 8000
namespace Go.Proofs.YtpcjdllijkjdkaaDoor
open Go.RowKit Plain

theorem abs_parts {f : Int} {a : Nat} (h : clsU f a ≠ 0) : fldU f (absU f a) = fldU f a ∧ frcU f (absU f a) = frcU f a ∧ clsU f (absU f a) = clsU f a ∧ sigU f (absU f a) = sigU f a ∧ expU f (absU f a) = expU f a := by
  obtain ⟨-, -, b3, b4, b5⟩ := sgn_U false h
  obtain ⟨c1, c2⟩ := sgn_sig false h
  rw [sgn_abs f a h] at b3 b4 b5 c1 c2
  exact ⟨b3, b4, b5, c1, c2⟩
/-- A word is told by its sign and its number. -/
theorem val_inj {f : Int} {a b : Nat} (ha : 4 ≤ clsU f a) (hb : 4 ≤ clsU f b) (hn : negU f a = negU f b) (h : sizeZ (sigU f a) (expU f a) (sigU f b) (expU f b) = 0) : a = b := by
  have hf : 1 ≤ f ∧ f ≤ 4 := cls_form (a := a) (by omega)
  obtain ⟨a1, a2, -, a4, a5⟩ := abs_parts (f := f) (a := a) (by omega)
  obtain ⟨b1, b2, -, b4, b5⟩ := abs_parts (f := f) (a := b) (by omega)
  have la := absU_lt a hf
  have lb := absU_lt b hf
  have hv := (sizeZ_spec _ _ _ _ (loU f) (loU_le f a) (loU_le f b)).2.1 h
  rw [← a4, ← a5, ← b4, ← b5, vl_word hf la, vl_word hf lb] at hv
  have he := ((valW_iff (Nat.two_pow_pos (prU f - 1))).2).1 hv
  have oa := own_u (f := f) (a := a) (by omega)
  have ob := own_u (f := f) (a := b) (by omega)
  rw [← a1, ← a2, he, b1, b2, hn] at oa
  rw [oa]
  exact ob.symm
theorem wrd_num {f : Int} {a s : Nat} {z : Int} (neg : Bool) (ha : 4 ≤ clsU f a) (hl : a < 2 ^ 128) (hn : negU f a = neg) (hz : sizeZ (sigU f a) (expU f a) s z = 0) : wrdU f neg s z = a := by
  have hf : 1 ≤ f ∧ f ≤ 4 := cls_form (a := a) (by omega)
  obtain ⟨-, h2, h3, h4⟩ := wrd_ok hf neg (s := s) (z := z) ⟨a, hl, ha, hz⟩
  refine val_inj h2 ha (by rw [h3, hn]) ?_
  have l1 := loU_le f a
  have e1 := (sizeZ_spec (sigU f (wrdU f neg s z)) s (expU f (wrdU f neg s z)) z (min (min (expU f (wrdU f neg s z)) (expU f a)) z) (by omega) (by omega)).2.1 h4
  have e2 := (sizeZ_spec (sigU f a) s (expU f a) z (min (min (expU f (wrdU f neg s z)) (expU f a)) z) (by omega) (by omega)).2.1 hz
  exact (sizeZ_spec _ _ _ _ (min (min (expU f (wrdU f neg s z)) (expU f a)) z) (by omega) (by omega)).2.2 (by rw [e1, e2])
theorem big_qq : 65520 < QQ ∧ 1 < QQ := by have h := qb_small 2; have e : qb 2 = 4194304 := rfl; omega
theorem aw9_1 (w : World) (hg : FmtG w) : Calls Tryd.prog 33 #[.int .i64 1, .int .i64 1, .agg #[.bool false, .int .i64 0, .int .u64 65520, .int .u64 0, .int .u64 0, .int .u64 0, .int .u64 0, .int .u64 0, .int .u64 0, .int .u64 0], .bool false] w fun e w' => e = .returned (.tuple #[.agg #[.int .u64 0, .int .u64 31744], .int .i64 20, .int .i64 0]) ∧ Below w.heap.size w w' := by
  have h := round_yes 1 1 (by decide) (by decide) false false 0 65520 big_qq.1 (by decide +kernel) (by decide) w hg
  rw [show rndR 1 1 false false 0 65520 = (31744, 20) from if_pos (by decide +kernel)] at h
  exact h
theorem aw9_2 (w : World) (hg : FmtG w) : Calls Tryd.prog 33 #[.int .i64 1, .int .i64 3, .agg #[.bool false, .int .i64 0, .int .u64 65520, .int .u64 0, .int .u64 0, .int .u64 0, .int .u64 0, .int .u64 0, .int .u64 0, .int .u64 0], .bool false] w fun e w' => e = .returned (.tuple #[.agg #[.int .u64 0, .int .u64 31743], .int .i64 (rndR 1 3 false false 0 65520).2, .int .i64 0]) ∧ Below w.heap.size w w' := by
  have h := round_yes 1 3 (by decide) (by decide) false false 0 65520 big_qq.1 (by decide +kernel) (by decide) w hg
  have hw : (rndR 1 3 false false 0 65520).1 = 31743 := by
    unfold rndR
    rw [if_neg (by decide +kernel), if_neg (by decide +kernel)]
    rw [wrd_num (a := 31743) false (by decide +kernel) (by decide) (by decide +kernel) (by decide +kernel)]
  rw [hw] at h
  exact h
theorem aw9_3 (w : World) (hg : FmtG w) : Calls Tryd.prog 33 #[.int .i64 1, .int .i64 1, .agg #[.bool false, .int .i64 (-25), .int .u64 1, .int .u64 0, .int .u64 0, .int .u64 0, .int .u64 0, .int .u64 0, .int .u64 0, .int .u64 0], .bool false] w fun e w' => e = .returned (.tuple #[.agg #[.int .u64 0, .int .u64 0], .int .i64 24, .int .i64 0]) ∧ Below w.heap.size w w' := by
  have h := round_yes 1 1 (by decide) (by decide) false false (-25) 1 big_qq.2 (by decide +kernel) (by decide) w hg
  have hw : (rndR 1 1 false false (-25) 1) = (0, 24) := by
    unfold rndR
    rw [if_neg (by decide +kernel), if_pos (by decide +kernel), if_neg (by decide +kernel)]
    rw [wrd_num (a := 0) false (by decide +kernel) (by decide) (by decide +kernel) (by decide +kernel)]
  rw [hw] at h
  exact h
theorem lit_eq (x : Nat) (hx : x < 18446744073709551616) (w : World) : (Op.equalIn 10000 28 (.agg #[.int .u64 0, .int .u64 (x : Nat)]) (.agg #[.int .u64 0, .int .u64 (x : Nat)])).run Tryd.prog w = .ok true w := by
  have hq := wordEq (a := x) (b := x) (by omega) (by omega) w
  have e := word_num 0 x (by decide) hx
  rw [Nat.mul_zero, Nat.add_zero] at e
  rw [decide_eq_true rfl, e.1, e.2] at hq
  exact hq
set_option maxHeartbeats 2000000 in
theorem awake9_any (w : World) (hg : FmtG w) : Calls Tryd.prog 21 #[] w fun e w' => e = .returned (.bool true) ∧ Below w.heap.size w w' := by
  have hq1 : ∀ w, (Op.equalIn 10000 28 (.agg #[.int .u64 0, .int .u64 31744]) (.agg #[.int .u64 0, .int .u64 31744])).run Tryd.prog w = .ok true w := fun w => lit_eq 31744 (by decide) w
  have hq2 : ∀ w, (Op.equalIn 10000 28 (.agg #[.int .u64 0, .int .u64 31743]) (.agg #[.int .u64 0, .int .u64 31743])).run Tryd.prog w = .ok true w := fun w => lit_eq 31743 (by decide) w
  have hq3 : ∀ w, (Op.equalIn 10000 28 (.agg #[.int .u64 0, .int .u64 0]) (.agg #[.int .u64 0, .int .u64 0])).run Tryd.prog w = .ok true w := fun w => lit_eq 0 (by decide) w
  have HA := hide (fun w hg => aw9_1 w hg)
  have HBB := hide (fun w hg => aw9_2 w hg)
  have HCC := hide (fun w hg => aw9_3 w hg)
  generalize (rndR 1 3 false false 0 65520).2 = fl at *
  have HG := hide (show FmtG w ∧ Below w.heap.size w w from ⟨hg, Below.refl _ _⟩)
  clear hg
  go_enter Tryd.func21, Tryd.ntmps21
  go_wp2_with fail
  refine (HA.out _ HG.out.1).mono ?_
  rintro e w1 ⟨rfl, hb1⟩
  go_upto_region 2 with fail
  refine wp_gen (fun W => FmtG W ∧ Below w.heap.size w W ∧ WB W w1.heap.size 0 31744) ⟨(HG.out.1.below hb1).below (below_allocs _ _), below_trans (below_trans HG.out.2 hb1) (below_allocs _ _), (show WB _ _ 0 31744 from wb_new2 w1 0 31744 28)⟩ ?_
  clear HG hb1
  generalize w1.heap.size = p1
  rintro W1 h1
  have HG := hide h1
  clear h1
  go_wp2_with fail
  refine (HBB.out _ HG.out.1).mono ?_
  rintro e w2 ⟨rfl, hb2⟩
  go_upto_region 3 with fail
  refine wp_gen (fun W => FmtG W ∧ Below w.heap.size w W ∧ WB W p1 0 31744 ∧ WB W w2.heap.size 0 31743) ⟨(HG.out.1.below hb2).below (below_allocs _ _), below_trans (below_trans HG.out.2.1 hb2) (below_allocs _ _), (HG.out.2.2.below hb2).below (below_allocs _ _), (show WB _ _ 0 31743 from wb_new2 w2 0 31743 28)⟩ ?_
  clear HG hb2
  generalize w2.heap.size = p2
  rintro W2 h2
  have HG := hide h2
  clear h2
  go_wp2_with fail
  refine (HCC.out _ HG.out.1).mono ?_
  rintro e w3 ⟨rfl, hb3⟩
  go_upto_region 4 with fail
  refine wp_gen (fun W => Below w.heap.size w W ∧ WB W p1 0 31744 ∧ WB W p2 0 31743 ∧ WB W w3.heap.size 0 0) ⟨below_trans (below_trans HG.out.2.1 hb3) (below_allocs _ _), (HG.out.2.2.1.below hb3).below (below_allocs _ _), (HG.out.2.2.2.below hb3).below (below_allocs _ _), wb_new _ _⟩ ?_
  clear HG hb3
  generalize w3.heap.size = p3
  rintro W3 ⟨g1, g2, g3, g4⟩
  have a0 := g2.h
  have a1 := g2.l
  have b0 := g3.h
  have b1 := g3.l
  have c0 := g4.h
  have c1 := g4.l
  have HB := hide g1
  clear g1 g2 g3 g4
  go_wp2
  go_ret
  exact ⟨rfl, HB.out⟩

end Go.Proofs.YtpcjdllijkjdkaaDoor

/- Rounding to a format keeps order. -/
set_option linter.unusedVariables false
set_option linter.unusedSimpArgs false
set_option maxRecDepth 8000
namespace Go.Proofs.YtpcjdllijkjdkaaDoor
open Go.RowKit Plain

theorem fnd_mono {f : Int} (hf : 1 ≤ f ∧ f ≤ 4) {s1 s2 : Nat} {z1 z2 : Int} (h : sizeZ s1 z1 s2 z2 ≤ 0) : fndU f s1 z1 ≤ fndU f s2 z2 := by
  obtain ⟨-, x2, x3, -⟩ := fndU_spec hf s1 z1
  obtain ⟨-, -, -, y4⟩ := fndU_spec hf s2 z2
  obtain ⟨t1, t2⟩ := take_fin x3
  generalize fndU f s1 z1 = X at *
  generalize fndU f s2 z2 = Y at *
  rcases Nat.lt_or_ge Y X with hl | hl
  · have h5 := y4 X (by rw [Nat.pow_zero]; omega) x2
    have h6 : takeB f s2 z2 X = true := by
      unfold takeB
      rw [Bool.and_eq_true, decide_eq_true_iff, decide_eq_true_iff]
      refine ⟨t1, ?_⟩
      rw [sizeZ_le _ _ _ _ (min (min z1 z2) (expU f X)) (by omega) (by omega)] at *
      exact Nat.le_trans t2 h
    rw [h6] at h5
    cases h5
  · exact hl
theorem sgn_back {f : Int} {X : Nat} (neg : Bool) (h : X < 2 ^ mU f) (hf : 1 ≤ f ∧ f ≤ 4) : sgnU f false (sgnU f neg X) = X := by
  have hh : ∀ B, X < 2 ^ (B - 1) → sgnN B false (sgnN B neg X) = X := fun B hB => by
    unfold sgnN
    rw [Nat.mod_eq_of_lt hB]
    show 0 * 2 ^ (B - 1) + _ = _
    rw [Nat.zero_mul, Nat.zero_add, Nat.mul_comm, Nat.mul_add_mod, Nat.mod_eq_of_lt hB]
  rcases f_cases f with rfl | rfl | rfl | rfl | h0
  · have e : ∀ n x, sgnU 1 n x = sgnN 16 n x := fun n x => tU_1 _ _ _ _ _
    rw [e, e]; exact hh 16 h
  · have e : ∀ n x, sgnU 2 n x = sgnN 32 n x := fun n x => tU_2 _ _ _ _ _
    rw [e, e]; exact hh 32 h
  · have e : ∀ n x, sgnU 3 n x = sgnN 64 n x := fun n x => tU_3 _ _ _ _ _
    rw [e, e]; exact hh 64 h
  · have e : ∀ n x, sgnU 4 n x = sgnN 128 n x := fun n x => tU_4 _ _ _ _ _
    rw [e, e]; exact hh 128 h
  · omega
def bpat (f m : Int) (neg : Bool) : Nat := bif growN m neg false 3 then infU f false else maxU f false
theorem bnd_pat (f m : Int) (hf : 1 ≤ f ∧ f ≤ 4) (neg : Bool) : bndU f m neg < 2 ^ 128 ∧ clsU f (bndU f m neg) ≠ 0 ∧ negU f (bndU f m neg) = neg ∧ sgnU f false (bndU f m neg) = bpat f m neg := by
  unfold bndU bpat
  cases growN m neg false 3 <;> cases neg <;> rcases f_cases f with rfl | rfl | rfl | rfl | h0 <;> first | omega | (refine ⟨?_, ?_, ?_, ?_⟩ <;> decide +kernel)
theorem max_inf (f : Int) : maxU f false ≤ infU f false := by
  rcases f_cases f with rfl | rfl | rfl | rfl | h0
  · decide +kernel
  · decide +kernel
  · decide +kernel
  · decide +kernel
  · unfold maxU infU tU
    repeat' split
    all_goals decide +kernel
theorem fin_max {f : Int} (hf : 1 ≤ f ∧ f ≤ 4) {X : Nat} (h : X < 2 ^ mU f) (h4 : 4 ≤ clsU f X) : X ≤ maxU f false := by
  rcases f_cases f with rfl | rfl | rfl | rfl | h0
  · have e : clsU 1 X = clsN 16 11 5 X := tU_1 _ _ _ _ _
    rw [e, inf_low (by decide) (by decide) h] at h4
    have e2 : maxU 1 false = 31743 := by decide +kernel
    rw [e2]
    have : X / 1024 + 2 ≤ 32 := h4
    omega
  · have e : clsU 2 X = clsN 32 24 8 X := tU_2 _ _ _ _ _
    rw [e, inf_low (by decide) (by decide) h] at h4
    have e2 : maxU 2 false = 2139095039 := by decide +kernel
    rw [e2]
    have : X / 8388608 + 2 ≤ 256 := h4
    omega
  · have e : clsU 3 X = clsN 64 53 11 X := tU_3 _ _ _ _ _
    rw [e, inf_low (by decide) (by decide) h] at h4
    have e2 : maxU 3 false = 9218868437227405311 := by decide +kernel
    rw [e2]
    have : X / 4503599627370496 + 2 ≤ 2048 := h4
    omega
  · have e : clsU 4 X = clsN 128 113 15 X := tU_4 _ _ _ _ _
    rw [e, inf_low (by decide) (by decide) h] at h4
    have e2 : maxU 4 false = 170135991163610696904058773219554885631 := by decide +kernel
    rw [e2]
    have : X / 5192296858534827628530496329220096 + 2 ≤ 32768 := h4
    omega
  · omega
theorem fnd_bnd {f : Int} (hf : 1 ≤ f ∧ f ≤ 4) (m : Int) (neg : Bool) (s : Nat) (z : Int) : fndU f s z ≤ bpat f m neg := by
  obtain ⟨-, x2, x3, -⟩ := fndU_spec hf s z
  have h1 := fin_max hf x2 (take_fin x3).1
  have h2 := max_inf f
  unfold bpat
  cases growN m neg false 3
  · exact h1
  · exact Nat.le_trans h1 h2
/-- The word that a number is rounded to, without its sign. -/
noncomputable def patR (f m : Int) (neg : Bool) (z : Int) (s : Nat) : Nat :=
  if emU f < z + ((Go.bitLen s - prU f : Nat) : Int) + (Go.bitLen (cutN s (Go.bitLen s - prU f) m false neg) : Int) - 1 then bpat f m neg
  else if z + ((Go.bitLen s - prU f : Nat) : Int) + (Go.bitLen (cutN s (Go.bitLen s - prU f) m false neg) : Int) - 1 < enU f then fndU f (cutN s (loU f - z).toNat m false neg) (z + ((loU f - z).toNat : Int))
  else fndU f (cutN s (Go.bitLen s - prU f) m false neg) (z + ((Go.bitLen s - prU f : Nat) : Int))
theorem rnd_pat {f m : Int} (hf : 1 ≤ f ∧ f ≤ 4) (neg : Bool) (z : Int) (s : Nat) :
    (rndR f m neg false z s).1 < 2 ^ 128 ∧ clsU f (rndR f m neg false z s).1 ≠ 0 ∧ negU f (rndR f m neg false z s).1 = neg ∧ sgnU f false (rndR f m neg false z s).1 = patR f m neg z s := by
  have hw : ∀ s z, wrdU f neg s z < 2 ^ 128 ∧ clsU f (wrdU f neg s z) ≠ 0 ∧ negU f (wrdU f neg s z) = neg ∧ sgnU f false (wrdU f neg s z) = fndU f s z := fun s z => by
    obtain ⟨-, x2, x3, -⟩ := fndU_spec hf s z
    have h4 := (take_fin x3).1
    obtain ⟨b1, b2, -, -, b5⟩ := sgn_U neg (show clsU f (fndU f s z) ≠ 0 by omega)
    unfold wrdU
    exact ⟨b1, by omega, b2, sgn_back neg x2 hf⟩
  unfold rndR patR
  split
  · exact bnd_pat f m hf neg
  · split
    · exact hw _ _
    · exact hw _ _

set_option maxHeartbeats 4000000 in
theorem pat_mono {f m : Int} (hf : 1 ≤ f ∧ f ≤ 4) (neg : Bool) {z1 z2 : Int} {s1 s2 : Nat} (h1 : s1 ≠ 0) (h2 : s2 ≠ 0) (h : sizeZ s1 z1 s2 z2 ≤ 0) : patR f m neg z1 s1 ≤ patR f m neg z2 s2 := by
  have hp := prU_bd f hf
  have he := enU_eq f hf
  have hen := emU_nn f hf
  obtain ⟨M, hM⟩ : ∃ M, M = min (min z1 z2) (loU f) := ⟨_, rfl⟩
  rw [sizeZ_le s1 s2 z1 z2 M (by omega) (by omega)] at h
  unfold vl at h
  have c1 := rpN_sc h1 (z1 - M).toNat (prU f) m neg
  have c2 := rpN_sc h2 (z2 - M).toNat (prU f) m neg
  have t1 := cut_sc s1 (z1 - M).toNat (loU f - M).toNat m neg
  have t2 := cut_sc s2 (z2 - M).toNat (loU f - M).toNat m neg
  rw [show (loU f - M).toNat - (z1 - M).toNat = (loU f - z1).toNat by omega] at t1
  rw [show (loU f - M).toNat - (z2 - M).toNat = (loU f - z2).toNat by omega] at t2
  have tm := Nat.mul_le_mul_right (2 ^ (loU f - M).toNat) (cutN_mono (loU f - M).toNat m neg h)
  rw [← t1, ← t2] at tm
  have A1 : s1 * 2 ^ (z1 - M).toNat ≠ 0 := Nat.mul_ne_zero h1 (Nat.ne_of_gt (Nat.two_pow_pos _))
  have A2 : s2 * 2 ^ (z2 - M).toNat ≠ 0 := Nat.mul_ne_zero h2 (Nat.ne_of_gt (Nat.two_pow_pos _))
  have R12 := rpN_mono (p := prU f) (m := m) (neg := neg) (by omega) A1 h
  have L1 := rpN_lo (p := prU f) (m := m) (neg := neg) (by omega) A1
  have L2 := rpN_lo (p := prU f) (m := m) (neg := neg) (by omega) A2
  have Y1 := fun hh => tiny_cut (m := m) (more := false) (neg := neg) (s := s1) (z := z1) hf h1 (fun e => by cases e) hh
  rw [← c1, ← c2] at R12
  rw [← c1] at L1
  rw [← c2] at L2
  have P1 := Nat.two_pow_pos (Go.bitLen (s1 * 2 ^ (z1 - M).toNat) - 1)
  have P2 := Nat.two_pow_pos (Go.bitLen (s2 * 2 ^ (z2 - M).toNat) - 1)
  unfold patR
  have hl1 := len_lt s1
  generalize hq1 : cutN s1 (Go.bitLen s1 - prU f) m false neg = q1 at *
  generalize hq2 : cutN s2 (Go.bitLen s2 - prU f) m false neg = q2 at *
  have q10 : q1 ≠ 0 := fun e => by rw [e, Nat.zero_mul] at L1; omega
  have q20 : q2 ≠ 0 := fun e => by rw [e, Nat.zero_mul] at L2; omega
  have n1 := len_scale q10 ((z1 - M).toNat + (Go.bitLen s1 - prU f))
  have n2 := len_scale q20 ((z2 - M).toNat + (Go.bitLen s2 - prU f))
  have n12 : Go.bitLen (q1 * 2 ^ ((z1 - M).toNat + (Go.bitLen s1 - prU f))) ≤ Go.bitLen (q2 * 2 ^ ((z2 - M).toNat + (Go.bitLen s2 - prU f))) := (len_le _ _).2 (Nat.lt_of_le_of_lt R12 (len_lt _))
  have g2 := len_ge (a := q2 * 2 ^ ((z2 - M).toNat + (Go.bitLen s2 - prU f))) (Nat.mul_ne_zero q20 (Nat.ne_of_gt (Nat.two_pow_pos _)))
  have l2 := len_pos q20
  by_cases o2 : emU f < z2 + ((Go.bitLen s2 - prU f : Nat) : Int) + (Go.bitLen q2 : Int) - 1
  · rw [if_pos o2]
    split
    · exact Nat.le_refl _
    · split
      · exact fnd_bnd hf m neg _ _
      · exact fnd_bnd hf m neg _ _
  · rw [if_neg o2, if_neg (by omega)]
    by_cases e2 : z2 + ((Go.bitLen s2 - prU f : Nat) : Int) + (Go.bitLen q2 : Int) - 1 < enU f
    · rw [if_pos e2, if_pos (by omega)]
      refine fnd_mono hf ((sizeZ_le _ _ _ _ M (by omega) (by omega)).2 ?_)
      unfold vl
      rw [show (z1 + ((loU f - z1).toNat : Int) - M).toNat = (z1 - M).toNat + (loU f - z1).toNat by omega, show (z2 + ((loU f - z2).toNat : Int) - M).toNat = (z2 - M).toNat + (loU f - z2).toNat by omega]
      exact tm
    · rw [if_neg e2]
      by_cases e1 : z1 + ((Go.bitLen s1 - prU f : Nat) : Int) + (Go.bitLen q1 : Int) - 1 < enU f
      · rw [if_pos e1]
        refine fnd_mono hf ((sizeZ_le _ _ _ _ M (by omega) (by omega)).2 ?_)
        unfold vl
        rw [show (z2 + ((Go.bitLen s2 - prU f : Nat) : Int) - M).toNat = (z2 - M).toNat + (Go.bitLen s2 - prU f) by omega]
        refine Nat.le_trans (m := 2 ^ (enU f - M).toNat) ?_ (Nat.le_trans (Nat.pow_le_pow_right (by decide) (by omega)) g2)
        obtain ⟨-, y2, y3⟩ := Y1 e1
        by_cases hz : z1 < loU f
        · have y4 := Nat.mul_le_mul_right (2 ^ (loU f - M).toNat) (y3 hz)
          rw [← Nat.pow_add, show prU f - 1 + (loU f - M).toNat = (enU f - M).toNat by omega] at y4
          rw [show (z1 + ((loU f - z1).toNat : Int) - M).toNat = (loU f - M).toNat by omega]
          exact y4
        · rw [show (loU f - z1).toNat = 0 by omega, cutN_0, show (z1 + ((0 : Nat) : Int) - M).toNat = (z1 - M).toNat by omega]
          have y4 := Nat.mul_le_mul_right (2 ^ (z1 - M).toNat) (Nat.le_of_lt hl1)
          rw [← Nat.pow_add] at y4
          exact Nat.le_trans y4 (Nat.pow_le_pow_right (by decide) (by omega))
      · rw [if_neg e1]
        refine fnd_mono hf ((sizeZ_le _ _ _ _ M (by omega) (by omega)).2 ?_)
        unfold vl
        rw [show (z1 + ((Go.bitLen s1 - prU f : Nat) : Int) - M).toNat = (z1 - M).toNat + (Go.bitLen s1 - prU f) by omega, show (z2 + ((Go.bitLen s2 - prU f : Nat) : Int) - M).toNat = (z2 - M).toNat + (Go.bitLen s2 - prU f) by omega]
        exact R12

end Go.Proofs.YtpcjdllijkjdkaaDoor

/- The order of the texts of words. -/
set_option linter.unusedVariables false
set_option linter.unusedSimpArgs false
set_option maxRecDepth 8000
namespace Go.Proofs.YtpcjdllijkjdkaaDoor
open Go.RowKit Plain

/-- The first k digits of a word's text. -/
def pT (X : Nat) (neg : Bool) : Nat → List UInt8
  | 0 => []
  | k + 1 => pT X neg k ++ [bif (X / 2 ^ (127 - k) % 2 == 1) != neg then 49 else 48]
theorem pT_len (X : Nat) (neg : Bool) (k : Nat) : (pT X neg k).length = k := by
  induction k with
  | zero => rfl
  | succ k ih => unfold pT; rw [List.length_append, ih]; rfl
def plT (X : Nat) (neg : Bool) : List UInt8 := if X = 0 then [98] else (bif neg then [97] else [99]) ++ pT X neg 128

theorem less_app {a b : List UInt8} (hl : a.length = b.length) (h : Op.bytesLess a b = true) (c d : List UInt8) : Op.bytesLess (a ++ c) (b ++ d) = true := by
  induction a generalizing b with
  | nil =>
    cases b with
    | nil => cases h
    | cons y b => cases hl
  | cons x a ih =>
    cases b with
    | nil => cases hl
    | cons y b =>
      show (decide (x < y) || (x == y && Op.bytesLess (a ++ c) (b ++ d))) = true
      have h' : (decide (x < y) || (x == y && Op.bytesLess a b)) = true := h
      rw [Bool.or_eq_true, Bool.and_eq_true] at h' ⊢
      rcases h' with h' | ⟨h1, h2⟩
      · exact .inl h'
      · exact .inr ⟨h1, ih (by simpa using hl) h2⟩
theorem less_same (a c d : List UInt8) : Op.bytesLess (a ++ c) (a ++ d) = Op.bytesLess c d := by
  induction a with
  | nil => rfl
  | cons x a ih =>
    show (decide (x < x) || (x == x && Op.bytesLess (a ++ c) (a ++ d))) = _
    rw [ih, show decide (x < x) = false from decide_eq_false (by exact UInt8.lt_irrefl x), beq_self_eq_true]
    rfl
theorem lst_list (l : List UInt8) : (⟨l.toArray⟩ : ByteArray).toList = l := by
  rw [ByteArray.toList_eq]
theorem pT_cmp {X Y : Nat} (hX : X < 2 ^ 128) (hY : Y < 2 ^ 128) (neg : Bool) (k : Nat) (hk : k ≤ 128) : (X / 2 ^ (128 - k) = Y / 2 ^ (128 - k) → pT X neg k = pT Y neg k) ∧
    ((neg = false → X / 2 ^ (128 - k) < Y / 2 ^ (128 - k)) ∧ (neg = true → Y / 2 ^ (128 - k) < X / 2 ^ (128 - k)) → Op.bytesLess (pT X neg k) (pT Y neg k) = true) := by
  induction k with
  | zero =>
    refine ⟨fun _ => rfl, fun ⟨h1, h2⟩ => ?_⟩
    rw [Nat.sub_zero, Nat.div_eq_of_lt hX, Nat.div_eq_of_lt hY] at h1 h2
    cases neg
    · exact absurd (h1 rfl) (by omega)
    · exact absurd (h2 rfl) (by omega)
  | succ k ih =>
    have ih := ih (by omega)
    rw [show 128 - k = (127 - k) + 1 by omega, Nat.pow_succ, ← Nat.div_div_eq_div_mul, ← Nat.div_div_eq_div_mul] at ih
    rw [show 128 - (k + 1) = 127 - k by omega]
    have eX : pT X neg (k + 1) = pT X neg k ++ [bif (X / 2 ^ (127 - k) % 2 == 1) != neg then 49 else 48] := rfl
    have eY : pT Y neg (k + 1) = pT Y neg k ++ [bif (Y / 2 ^ (127 - k) % 2 == 1) != neg then 49 else 48] := rfl
    have hl : (pT X neg k).length = (pT Y neg k).length := by rw [pT_len, pT_len]
    rw [eX, eY]
    clear eX eY
    generalize X / 2 ^ (127 - k) = x at *
    generalize Y / 2 ^ (127 - k) = y at *
    refine ⟨fun h => by rw [ih.1 (by rw [h]), h], fun ⟨h1, h2⟩ => ?_⟩
    cases neg
    · have h3 := h1 rfl
      by_cases h4 : x / 2 < y / 2
      · exact less_app hl (ih.2 ⟨fun _ => h4, fun h => by cases h⟩) _ _
      · rw [ih.1 (by omega), less_same, show (x % 2 == 1) = false from beq_eq_false_iff_ne.2 (by omega), show (y % 2 == 1) = true from beq_iff_eq.2 (by omega)]
        rfl
    · have h3 := h2 rfl
      by_cases h4 : y / 2 < x / 2
      · exact less_app hl (ih.2 ⟨fun h => (by cases h), fun _ => h4⟩) _ _
      · rw [ih.1 (by omega), less_same, show (x % 2 == 1) = true from beq_iff_eq.2 (by omega), show (y % 2 == 1) = false from beq_eq_false_iff_ne.2 (by omega)]
        rfl
/-- Texts stand as the words do. -/
theorem plT_le {X Y : Nat} {n1 n2 : Bool} (hX : X < 2 ^ 128) (hY : Y < 2 ^ 128) (h1 : n1 = false → n2 = false → X ≤ Y) (h2 : n1 = true → n2 = true → Y ≤ X) (h3 : n1 = false → n2 = true → X = 0 ∧ Y = 0) :
    (Op.bytesLess (plT X n1) (plT Y n2) || (plT X n1 == plT Y n2)) = true := by
  have hc := fun n => pT_cmp hX hY n 128 (Nat.le_refl _)
  rw [Nat.sub_self, Nat.pow_zero, Nat.div_one, Nat.div_one] at hc
  unfold plT
  by_cases hx : X = 0
  · rw [if_pos hx]
    by_cases hy : Y = 0
    · rw [if_pos hy, beq_self_eq_true, Bool.or_true]
    · rw [if_neg hy]
      cases n2
      · rfl
      · cases n1
        · exact absurd (h3 rfl rfl).2 hy
        · exact absurd (h2 rfl rfl) (by omega)
  · rw [if_neg hx]
    by_cases hy : Y = 0
    · rw [if_pos hy]
      cases n1
      · cases n2
        · exact absurd (h1 rfl rfl) (by omega)
        · exact absurd (h3 rfl rfl).1 hx
      · rfl
    · rw [if_neg hy]
      cases n1
      · cases n2
        · have h4 := h1 rfl rfl
          by_cases h5 : X = Y
          · rw [h5, beq_self_eq_true, Bool.or_true]
          · rw [show Op.bytesLess ((bif false then [97] else [99]) ++ pT X false 128) ((bif false then [97] else [99]) ++ pT Y false 128) = true from (less_same _ _ _).trans ((hc false).2 ⟨fun _ => by omega, fun h => by cases h⟩), Bool.true_or]
        · exact absurd (h3 rfl rfl).1 hx
      · cases n2
        · rfl
        · have h4 := h2 rfl rfl
          by_cases h5 : X = Y
          · rw [h5, beq_self_eq_true, Bool.or_true]
          · rw [show Op.bytesLess ((bif true then [97] else [99]) ++ pT X true 128) ((bif true then [97] else [99]) ++ pT Y true 128) = true from (less_same _ _ _).trans ((hc true).2 ⟨fun h => (by cases h), fun _ => by omega⟩), Bool.true_or]

end Go.Proofs.YtpcjdllijkjdkaaDoor

/- Where a word stands among all of a format: the document's text of it. -/
set_option linter.unusedVariables false
set_option linter.unusedSimpArgs false
set_option maxRecDepth 8000
namespace Go.Proofs.YtpcjdllijkjdkaaDoor
open Go.RowKit Plain

structure PlSt (X p : Nat) (w W : World) : Prop where
  x : WB W p (dgl X 1) (dgl X 0)
  bel : Below w.heap.size w W
theorem PlSt.below {X p : Nat} {w W W' : World} (h : PlSt X p w W) (hb : Below W.heap.size W W') : PlSt X p w W' :=
  ⟨h.x.below hb, below_trans h.bel hb⟩

set_option maxHeartbeats 4000000 in
theorem place_Z (f : Int) (a X : Nat) (neg : Bool)
    (HNG : Hid (∀ w, Calls Tryd.prog 46 #[.int .i64 f, .agg #[.int .u64 (dgl (a) 1 : Nat), .int .u64 (dgl (a) 0 : Nat)]] w fun e w' => e = .returned (.bool neg) ∧ Below w.heap.size w w'))
    (HSG : Hid (∀ w, Calls Tryd.prog 59 #[.int .i64 f, .agg #[.int .u64 (dgl (a) 1 : Nat), .int .u64 (dgl (a) 0 : Nat)], .bool false] w fun e w' => e = .returned (.agg #[.int .u64 (dgl (X) 1 : Nat), .int .u64 (dgl (X) 0 : Nat)]) ∧ Below w.heap.size w w'))
    (hq : ∀ w, (Op.equalIn 10000 28 (.agg #[.int .u64 (dgl (X) 1 : Nat), .int .u64 (dgl (X) 0 : Nat)]) (.agg #[.int .u64 0, .int .u64 0])).run Tryd.prog w = .ok true w) (w : World) :
    Calls Tryd.prog 36 #[.int .i64 f, .agg #[.int .u64 (dgl (a) 1 : Nat), .int .u64 (dgl (a) 0 : Nat)]] w fun e w' => e = .returned (.string (sT [98])) ∧ Below w.heap.size w w' := by
  have HS := hide (show PlSt a w.heap.size w (w.alloc (.cells #[.int .u64 (dgl (a) 1 : Nat), .int .u64 (dgl (a) 0 : Nat)] 28)) from ⟨wb_new2 _ _ _ _, below_allocs _ _⟩)
  go_enter Tryd.func36, Tryd.ntmps36
  go_upto_region 1 with fail
  refine wp_gen (fun W => PlSt a w.heap.size w W) HS.out ?_
  clear HS
  rintro W1 h1
  have HS := hide h1
  clear h1
  have lh := HS.out.x.h
  have ll := HS.out.x.l
  go_wp2_with fail
  refine (HNG.out _).mono ?_
  rintro e w1 ⟨rfl, hb1⟩
  replace HS := hide (HS.out.below hb1)
  clear hb1 lh ll
  have lh := HS.out.x.h
  have ll := HS.out.x.l
  go_wp2_with fail
  refine (HSG.out _).mono ?_
  rintro e w2 ⟨rfl, hb2⟩
  replace HS := hide (HS.out.below hb2)
  clear hb2 lh ll
  go_upto_region 3 with fail
  refine wp_gen (fun W => PlSt X w2.heap.size w W) ⟨wb_new2 _ _ _ _, below_trans HS.out.bel (below_allocs _ _)⟩ ?_
  clear HS
  generalize w2.heap.size = p6 at *
  rintro W3 h3
  have HS := hide h3
  clear h3
  have HB := hide HS.out.bel
  have lh := HS.out.x.h
  have ll := HS.out.x.l
  clear HS
  go_wp2
  go_ret
  exact ⟨rfl, HB.out⟩

set_option maxHeartbeats 4000000 in
theorem place_Y (f : Int) (a X : Nat) (neg : Bool) (L : List UInt8) (HL : Hid (L = pT X neg 128))
    (HNG : Hid (∀ w, Calls Tryd.prog 46 #[.int .i64 f, .agg #[.int .u64 (dgl (a) 1 : Nat), .int .u64 (dgl (a) 0 : Nat)]] w fun e w' => e = .returned (.bool neg) ∧ Below w.heap.size w w'))
    (HSG : Hid (∀ w, Calls Tryd.prog 59 #[.int .i64 f, .agg #[.int .u64 (dgl (a) 1 : Nat), .int .u64 (dgl (a) 0 : Nat)], .bool false] w fun e w' => e = .returned (.agg #[.int .u64 (dgl (X) 1 : Nat), .int .u64 (dgl (X) 0 : Nat)]) ∧ Below w.heap.size w w'))
    (HBT : Hid (∀ n : Nat, n < 128 → ∀ (x : Int), x = (n : Int) → ∀ w, Calls Tryd.prog 78 #[.agg #[.int .u64 (dgl (X) 1 : Nat), .int .u64 (dgl (X) 0 : Nat)], .int .i64 x] w fun e w' => e = .returned (.bool (X / 2 ^ n % 2 == 1)) ∧ Below w.heap.size w w'))
    (hq : ∀ w, (Op.equalIn 10000 28 (.agg #[.int .u64 (dgl (X) 1 : Nat), .int .u64 (dgl (X) 0 : Nat)]) (.agg #[.int .u64 0, .int .u64 0])).run Tryd.prog w = .ok false w) (w : World) :
    Calls Tryd.prog 36 #[.int .i64 f, .agg #[.int .u64 (dgl (a) 1 : Nat), .int .u64 (dgl (a) 0 : Nat)]] w fun e w' => e = .returned (.string (sT ((bif neg then [97] else [99]) ++ L))) ∧ Below w.heap.size w w' := by
  have HS := hide (show PlSt a w.heap.size w (w.alloc (.cells #[.int .u64 (dgl (a) 1 : Nat), .int .u64 (dgl (a) 0 : Nat)] 28)) from ⟨wb_new2 _ _ _ _, below_allocs _ _⟩)
  go_enter Tryd.func36, Tryd.ntmps36
  go_upto_region 1 with fail
  refine wp_gen (fun W => PlSt a w.heap.size w W) HS.out ?_
  clear HS
  rintro W1 h1
  have HS := hide h1
  clear h1
  have lh := HS.out.x.h
  have ll := HS.out.x.l
  go_wp2_with fail
  refine (HNG.out _).mono ?_
  rintro e w1 ⟨rfl, hb1⟩
  replace HS := hide (HS.out.below hb1)
  clear hb1 lh ll
  have lh := HS.out.x.h
  have ll := HS.out.x.l
  go_wp2_with fail
  refine (HSG.out _).mono ?_
  rintro e w2 ⟨rfl, hb2⟩
  replace HS := hide (HS.out.below hb2)
  clear hb2 lh ll
  go_upto_region 3 with fail
  refine wp_gen (fun W => PlSt X w2.heap.size w W) ⟨wb_new2 _ _ _ _, below_trans HS.out.bel (below_allocs _ _)⟩ ?_
  clear HS
  generalize w2.heap.size = p6 at *
  rintro W3 h3
  have HS := hide h3
  clear h3
  have lh := HS.out.x.h
  have ll := HS.out.x.l
  go_wp2_with fail
  clear lh ll
  go_loopw [7, 8] (fun o i wr => ∃ k : Nat, k ≤ 128 ∧ o = .string (sT (pT X neg k)) ∧ i = .int .i64 (127 - (k : Int)) ∧ Hid (PlSt X p6 w wr)) (fun o i _ => (intOf i + 1).toNat)
  case atStart => exact ⟨0, by decide, rfl, rfl, HS⟩
  case round =>
    clear HS
    obtain ⟨k, hk, rfl, rfl, HS⟩ := hrel
    have hsz : (sT (pT X neg k)).size ≤ 200 := by rw [sT_size, pT_len]; omega
    by_cases hlt : k < 128
    · have hj : (0 : Int) ≤ 127 - (k : Int) := by omega
      have hsz1 : (⟨#[49]⟩ : ByteArray).size = 1 := rfl
      have hsz0 : (⟨#[48]⟩ : ByteArray).size = 1 := rfl
      have HE : Hid (pT X neg (k + 1) = pT X neg k ++ [bif (X / 2 ^ (127 - k) % 2 == 1) != neg then 49 else 48]) := rfl
      have lh := HS.out.x.h
      have ll := HS.out.x.l
      go_wp2_with fail
      refine (HBT.out (127 - k) (by omega) _ (by omega) _).mono ?_
      rintro e w4 ⟨rfl, hb4⟩
      replace HS := hide (HS.out.below hb4)
      clear hb4 lh ll
      cases hbv : (X / 2 ^ (127 - k) % 2 == 1)
      · rw [hbv] at HE
        cases neg
        · have HE2 : Hid (sT (pT X false k) ++ (⟨#[48]⟩ : ByteArray) = sT (pT X false (k + 1))) := by show sT (pT X false k) ++ sT [48] = _; rw [sT_app, HE.out]; rfl
          clear HE
          generalize pT X false k = u at *
          go_wp2
          go_roundw
          case rel => exact ⟨k + 1, by omega, congrArg Value.string HE2.out, congrArg (Value.int .i64) (by omega), HS⟩
          case measure =>
            show (127 - (k : Int) - 1 + 1).toNat < (127 - (k : Int) + 1).toNat
            omega
        · have HE2 : Hid (sT (pT X true k) ++ (⟨#[49]⟩ : ByteArray) = sT (pT X true (k + 1))) := by show sT (pT X true k) ++ sT [49] = _; rw [sT_app, HE.out]; rfl
          clear HE
          generalize pT X true k = u at *
          go_wp2
          go_roundw
          case rel => exact ⟨k + 1, by omega, congrArg Value.string HE2.out, congrArg (Value.int .i64) (by omega), HS⟩
          case measure =>
            show (127 - (k : Int) - 1 + 1).toNat < (127 - (k : Int) + 1).toNat
            omega
      · rw [hbv] at HE
        cases neg
        · have HE2 : Hid (sT (pT X false k) ++ (⟨#[49]⟩ : ByteArray) = sT (pT X false (k + 1))) := by show sT (pT X false k) ++ sT [49] = _; rw [sT_app, HE.out]; rfl
          clear HE
          generalize pT X false k = u at *
          go_wp2
          go_roundw
          case rel => exact ⟨k + 1, by omega, congrArg Value.string HE2.out, congrArg (Value.int .i64) (by omega), HS⟩
          case measure =>
            show (127 - (k : Int) - 1 + 1).toNat < (127 - (k : Int) + 1).toNat
            omega
        · have HE2 : Hid (sT (pT X true k) ++ (⟨#[48]⟩ : ByteArray) = sT (pT X true (k + 1))) := by show sT (pT X true k) ++ sT [48] = _; rw [sT_app, HE.out]; rfl
          clear HE
          generalize pT X true k = u at *
          go_wp2
          go_roundw
          case rel => exact ⟨k + 1, by omega, congrArg Value.string HE2.out, congrArg (Value.int .i64) (by omega), HS⟩
          case measure =>
            show (127 - (k : Int) - 1 + 1).toNat < (127 - (k : Int) + 1).toNat
            omega
    · have hj : ¬ (0 : Int) ≤ 127 - (k : Int) := by omega
      have HK := hide (show k = 128 by omega)
      have HB := hide HS.out.bel
      clear HS
      have hs97 : (⟨#[97]⟩ : ByteArray).size = 1 := rfl
      have hs99 : (⟨#[99]⟩ : ByteArray).size = 1 := rfl
      have HQ : Hid (pT X neg k = L) := by
        have e := HL.out
        rw [← HK.out] at e
        exact e.symm
      have HA : Hid ((⟨#[97]⟩ : ByteArray) ++ sT (pT X neg k) = sT ([97] ++ L)) := by rw [← HQ.out]; exact sT_app [97] _
      have HC : Hid ((⟨#[99]⟩ : ByteArray) ++ sT (pT X neg k) = sT ([99] ++ L)) := by rw [← HQ.out]; exact sT_app [99] _
      clear HQ HK HL
      generalize pT X neg k = u at *
      cases neg
      · go_wp2
        go_ret
        exact ⟨ret_st HC.out, HB.out⟩
      · go_wp2
        go_ret
        exact ⟨ret_st HA.out, HB.out⟩

end Go.Proofs.YtpcjdllijkjdkaaDoor

