/- Contracts and laws: PckJ, PckE. -/
import Derived.Test.YtpcjdllijkjdkaaDoorPartBA
import Derived.Test.YtpcjdllijkjdkaaDoorPartBB
/- Numbers: what the document's Down, Top and At tell of a number, and of one that stands for all above it. -/
set_option linter.unusedVariables false
set_option linter.unusedSimpArgs false
set_option maxRecDepth 8000
namespace Go.Proofs.YtpcjdllijkjdkaaDoor
open Go.RowKit Plain

/-- The numerator and its exponent: with more, half a unit beyond. -/
def nmR (s : Nat) (more : Bool) : Nat := bif more then s * 2 ^ 1 + 1 else s
def exR (z : Int) (more : Bool) : Int := bif more then z - 1 else z
theorem rofA_any (neg more : Bool) (z : Int) (s : Nat) (hs : s < QQ) (hz : -4000000 ≤ z ∧ z ≤ 4000000) (w : World) :
    Calls Tryd.prog 24 #[.agg #[.bool (neg), .int .i64 (z), .int .u64 (dgl (s) 0 : Nat), .int .u64 (dgl (s) 1 : Nat), .int .u64 (dgl (s) 2 : Nat), .int .u64 (dgl (s) 3 : Nat), .int .u64 (dgl (s) 4 : Nat), .int .u64 (dgl (s) 5 : Nat), .int .u64 (dgl (s) 6 : Nat), .int .u64 (dgl (s) 7 : Nat)], .bool more] w fun e w' => ∃ u, e = .returned u ∧ RlV w' u neg 1 (nmR s more) 1 (exR z more) 80 ∧ Below w.heap.size w w' := by
  cases more
  · exact (rof_false neg z s hs hz w).mono fun e w' ⟨u, h1, ⟨v1, v2, h2, h3, h4⟩, h5⟩ => ⟨u, h1, ⟨v1, v2, h2, h3.mono (by decide), h4.mono (by decide)⟩, h5⟩
  · exact rof_true neg z s hs hz w
theorem cR_one (s : Nat) (more : Bool) (z : Int) (y : Nat) (P : Int) : cR 1 (nmR s more) 1 (exR z more) y P = sizeZ y P (nmR s more) (exR z more) := by
  unfold cR
  rw [Nat.pow_one, Nat.mul_one, show ((1 : Nat) : Int) * P = P by omega]
/-- What stays of a number at a place: cut (k digits less) or filled up (j noughts). -/
theorem cR_le (s : Nat) (more : Bool) (z P : Int) (h : more = true → z < P) (y : Nat) : cR 1 (nmR s more) 1 (exR z more) y P ≤ 0 ↔ y ≤ s * 2 ^ (z - P).toNat / 2 ^ (P - z).toNat := by
  rw [cR_one]
  cases more
  · show sizeZ y P s z ≤ 0 ↔ _
    rw [sizeZ_le y s P z (min P z) (by omega) (by omega)]
    unfold vl
    by_cases hp : P ≤ z
    · rw [show (P - min P z).toNat = 0 by omega, show (z - min P z).toNat = (z - P).toNat by omega, show (P - z).toNat = 0 by omega, Nat.pow_zero, Nat.mul_one, Nat.div_one]
    · rw [show (P - min P z).toNat = (P - z).toNat by omega, show (z - min P z).toNat = 0 by omega, show (z - P).toNat = 0 by omega, Nat.pow_zero, Nat.mul_one]
      exact (Nat.le_div_iff_mul_le (Nat.two_pow_pos _)).symm
  · have hp := h rfl
    show sizeZ y P (s * 2 ^ 1 + 1) (z - 1) ≤ 0 ↔ _
    rw [sizeZ_le y (s * 2 ^ 1 + 1) P (z - 1) (z - 1) (by omega) (Int.le_refl _)]
    unfold vl
    rw [show (z - 1 - (z - 1)).toNat = 0 by omega, show (z - P).toNat = 0 by omega, Nat.pow_zero, Nat.mul_one, Nat.mul_one, Nat.le_div_iff_mul_le (Nat.two_pow_pos _), show (P - (z - 1)).toNat = (P - z).toNat + 1 by omega, Nat.pow_succ, Nat.pow_one]
    generalize 2 ^ (P - z).toNat = b
    rw [← Nat.mul_assoc]
    generalize y * b = c
    omega
theorem cR_mono (s : Nat) (more : Bool) (z P : Int) (h : more = true → z < P) (M a b : Nat) (hab : a ≤ b) (_ : b < 2 ^ M) (hb : decide (cR 1 (nmR s more) 1 (exR z more) b P ≤ 0) = true) : decide (cR 1 (nmR s more) 1 (exR z more) a P ≤ 0) = true := by
  rw [decide_eq_true_iff, cR_le s more z P h] at hb ⊢
  omega
theorem down_inv (s : Nat) (more : Bool) (z P : Int) (h : more = true → z < P) (M : Nat) (hM : s * 2 ^ (z - P).toNat / 2 ^ (P - z).toNat < 2 ^ M) : FInv (fun y => decide (cR 1 (nmR s more) 1 (exR z more) y P ≤ 0)) M 0 (s * 2 ^ (z - P).toNat / 2 ^ (P - z).toNat) := by
  refine ⟨by rw [Nat.pow_zero, Nat.mod_one], hM, ?_, fun y h1 h2 => ?_⟩
  · rw [decide_eq_true_iff, cR_le s more z P h]
    exact Nat.le_refl _
  · rw [Nat.pow_zero] at h1
    rw [decide_eq_false_iff_not, cR_le s more z P h]
    omega
/-- The rest, as Down tells it. -/
theorem down_rest (s : Nat) (more : Bool) (z P : Int) (h : more = true → z < P) :
    (if cR 1 (nmR s more) 1 (exR z more) (s * 2 ^ (z - P).toNat / 2 ^ (P - z).toNat) P = 0 then (0 : Int) else 2 - max (-1) (min 1 (cR 1 (nmR s more) 1 (exR z more) (s * 2 ^ (z - P).toNat / 2 ^ (P - z).toNat * 2 ^ 1 + 1) (P - 1)))) = ((restN s (P - z).toNat more : Nat) : Int) := by
  rw [cR_one, cR_one]
  by_cases hp : P ≤ z
  · obtain rfl : more = false := by
      cases more
      · rfl
      · have := h rfl; omega
    rw [show (P - z).toNat = 0 by omega, Nat.pow_zero, Nat.div_one, restN_0]
    rw [if_pos]
    · rfl
    · exact sizeZ_vl hp rfl
  · rw [show (z - P).toNat = 0 by omega, Nat.pow_zero, Nat.mul_one]
    obtain ⟨k, hk⟩ : ∃ k : Nat, (P - z).toNat = k + 1 := ⟨(P - z).toNat - 1, by omega⟩
    have hP : P = z + ((k + 1 : Nat) : Int) := by omega
    subst hP
    rw [hk]
    unfold restN
    have hpw : 2 ^ (k + 1) = 2 * 2 ^ k := Nat.pow_succ'
    have hdm := Nat.div_add_mod s (2 ^ (k + 1))
    have hml : s % 2 ^ (k + 1) < 2 ^ (k + 1) := Nat.mod_lt _ (Nat.two_pow_pos _)
    have hp0 := Nat.two_pow_pos k
    have e0 : s / 2 ^ (k + 1) * 2 ^ (k + 1) + s % 2 ^ (k + 1) = s := by rw [Nat.mul_comm]; exact hdm
    generalize s / 2 ^ (k + 1) = d at *
    generalize s % 2 ^ (k + 1) = r at *
    have A0 := sizeZ_spec d (nmR s more) (z + ((k + 1 : Nat) : Int)) (exR z more) (z - 1) (by omega) (by cases more <;> (show z - 1 ≤ _; simp [exR]; try omega))
    have A1 := sizeZ_spec (d * 2 ^ 1 + 1) (nmR s more) (z + ((k + 1 : Nat) : Int) - 1) (exR z more) (z - 1) (by omega) (by cases more <;> (show z - 1 ≤ _; simp [exR]; try omega))
    have v0 : vl d (z + ((k + 1 : Nat) : Int)) (z - 1) = d * 2 ^ (k + 1) * 2 := by
      unfold vl
      rw [show (z + ((k + 1 : Nat) : Int) - (z - 1)).toNat = k + 1 + 1 by omega, Nat.pow_succ 2 (k + 1), Nat.mul_assoc]
    have v1 : vl (d * 2 ^ 1 + 1) (z + ((k + 1 : Nat) : Int) - 1) (z - 1) = d * 2 ^ (k + 1) * 2 + 2 ^ (k + 1) := by
      unfold vl
      rw [show (z + ((k + 1 : Nat) : Int) - 1 - (z - 1)).toNat = k + 1 by omega, Nat.pow_one, Nat.add_mul, Nat.one_mul, Nat.mul_right_comm]
    have v2 : vl (nmR s more) (exR z more) (z - 1) = 2 * s + more.toNat := by
      unfold vl nmR exR
      cases more
      · show s * 2 ^ (z - (z - 1)).toNat = 2 * s + 0
        rw [show (z - (z - 1)).toNat = 1 by omega]; omega
      · show (s * 2 ^ 1 + 1) * 2 ^ (z - 1 - (z - 1)).toNat = 2 * s + 1
        rw [show (z - 1 - (z - 1)).toNat = 0 by omega]; omega
    rw [v0, v2] at A0
    rw [v1, v2] at A1
    generalize sizeZ d (z + ((k + 1 : Nat) : Int)) (nmR s more) (exR z more) = c0 at *
    generalize sizeZ (d * 2 ^ 1 + 1) (z + ((k + 1 : Nat) : Int) - 1) (nmR s more) (exR z more) = c1 at *
    clear v0 v1 v2 hdm
    generalize d * 2 ^ (k + 1) = X at *
    generalize 2 ^ (k + 1) = p at *
    generalize 2 ^ k = h at *
    obtain ⟨A00, A01⟩ := A0
    obtain ⟨A10, A11⟩ := A1
    cases more
    · simp only [Bool.toNat_false, and_true] at *
      repeat' split
      all_goals omega
    · simp only [Bool.toNat_true, Bool.true_eq_false, and_false, if_false] at *
      repeat' split
      all_goals omega

end Go.Proofs.YtpcjdllijkjdkaaDoor

/- Contracts: law09.awake; words go by their numbers. -/
set_option linter.unusedVariables false
set_option linter.unusedSimpArgs false
set_option maxRecDepth 8000
namespace Go.Proofs.YtpcjdllijkjdkaaDoor
open Go.RowKit Plain

theorem abs_parts {f : Int} {a : Nat} (h : clsU f a ≠ 0) : fldU f (absU f a) = fldU f a ∧ frcU f (absU f a) = frcU f a ∧ clsU f (absU f a) = clsU f a ∧ sigU f (absU f a) = sigU f a ∧ expU f (absU f a) = expU f a := by
  obtain ⟨-, -, b3, b4, b5⟩ := sgn_U false h
  obtain ⟨c1, c2⟩ := sgn_sig false h
  rw [sgn_abs f a h] at b3 b4 b5 c1 c2
  exact ⟨b3, b4, b5, c1, c2⟩
/-- A word is told by its sign and its number. -/
theorem val_inj {f : Int} {a b : Nat} (ha : 4 ≤ clsU f a) (hb : 4 ≤ clsU f b) (hn : negU f a = negU f b) (h : sizeZ (sigU f a) (expU f a) (sigU f b) (expU f b) = 0) : a = b := by
  have hf : 1 ≤ f ∧ f ≤ 4 := cls_form (a := a) (by omega)
  obtain ⟨a1, a2, -, a4, a5⟩ := abs_parts (f := f) (a := a) (by omega)
  obtain ⟨b1, b2, -, b4, b5⟩ := abs_parts (f := f) (a := b) (by omega)
  have la := absU_lt a hf
  have lb := absU_lt b hf
  have hv := (sizeZ_spec _ _ _ _ (loU f) (loU_le f a) (loU_le f b)).2.1 h
  rw [← a4, ← a5, ← b4, ← b5, vl_word hf la, vl_word hf lb] at hv
  have he := ((valW_iff (Nat.two_pow_pos (prU f - 1))).2).1 hv
  have oa := own_u (f := f) (a := a) (by omega)
  have ob := own_u (f := f) (a := b) (by omega)
  rw [← a1, ← a2, he, b1, b2, hn] at oa
  rw [oa]
  exact ob.symm
theorem wrd_num {f : Int} {a s : Nat} {z : Int} (neg : Bool) (ha : 4 ≤ clsU f a) (hl : a < 2 ^ 128) (hn : negU f a = neg) (hz : sizeZ (sigU f a) (expU f a) s z = 0) : wrdU f neg s z = a := by
  have hf : 1 ≤ f ∧ f ≤ 4 := cls_form (a := a) (by omega)
  obtain ⟨-, h2, h3, h4⟩ := wrd_ok hf neg (s := s) (z := z) ⟨a, hl, ha, hz⟩
  refine val_inj h2 ha (by rw [h3, hn]) ?_
  have l1 := loU_le f a
  have e1 := (sizeZ_spec (sigU f (wrdU f neg s z)) s (expU f (wrdU f neg s z)) z (min (min (expU f (wrdU f neg s z)) (expU f a)) z) (by omega) (by omega)).2.1 h4
  have e2 := (sizeZ_spec (sigU f a) s (expU f a) z (min (min (expU f (wrdU f neg s z)) (expU f a)) z) (by omega) (by omega)).2.1 hz
  exact (sizeZ_spec _ _ _ _ (min (min (expU f (wrdU f neg s z)) (expU f a)) z) (by omega) (by omega)).2.2 (by rw [e1, e2])
theorem big_qq : 65520 < QQ ∧ 1 < QQ := by have h := qb_small 2; have e : qb 2 = 4194304 := rfl; omega
theorem aw9_1 (w : World) (hg : FmtG w) : Calls Tryd.prog 33 #[.int .i64 1, .int .i64 1, .agg #[.bool false, .int .i64 0, .int .u64 65520, .int .u64 0, .int .u64 0, .int .u64 0, .int .u64 0, .int .u64 0, .int .u64 0, .int .u64 0], .bool false] w fun e w' => e = .returned (.tuple #[.agg #[.int .u64 0, .int .u64 31744], .int .i64 20, .int .i64 0]) ∧ Below w.heap.size w w' := by
  have h := round_yes 1 1 (by decide) (by decide) false false 0 65520 big_qq.1 (by decide +kernel) (by decide) w hg
  rw [show rndR 1 1 false false 0 65520 = (31744, 20) from if_pos (by decide +kernel)] at h
  exact h
theorem aw9_2 (w : World) (hg : FmtG w) : Calls Tryd.prog 33 #[.int .i64 1, .int .i64 3, .agg #[.bool false, .int .i64 0, .int .u64 65520, .int .u64 0, .int .u64 0, .int .u64 0, .int .u64 0, .int .u64 0, .int .u64 0, .int .u64 0], .bool false] w fun e w' => e = .returned (.tuple #[.agg #[.int .u64 0, .int .u64 31743], .int .i64 (rndR 1 3 false false 0 65520).2, .int .i64 0]) ∧ Below w.heap.size w w' := by
  have h := round_yes 1 3 (by decide) (by decide) false false 0 65520 big_qq.1 (by decide +kernel) (by decide) w hg
  have hw : (rndR 1 3 false false 0 65520).1 = 31743 := by
    unfold rndR
    rw [if_neg (by decide +kernel), if_neg (by decide +kernel)]
    rw [wrd_num (a := 31743) false (by decide +kernel) (by decide) (by decide +kernel) (by decide +kernel)]
  rw [hw] at h
  exact h
theorem aw9_3 (w : World) (hg : FmtG w) : Calls Tryd.prog 33 #[.int .i64 1, .int .i64 1, .agg #[.bool false, .int .i64 (-25), .int .u64 1, .int .u64 0, .int .u64 0, .int .u64 0, .int .u64 0, .int .u64 0, .int .u64 0, .int .u64 0], .bool false] w fun e w' => e = .returned (.tuple #[.agg #[.int .u64 0, .int .u64 0], .int .i64 24, .int .i64 0]) ∧ Below w.heap.size w w' := by
  have h := round_yes 1 1 (by decide) (by decide) false false (-25) 1 big_qq.2 (by decide +kernel) (by decide) w hg
  have hw : (rndR 1 1 false false (-25) 1) = (0, 24) := by
    unfold rndR
    rw [if_neg (by decide +kernel), if_pos (by decide +kernel), if_neg (by decide +kernel)]
    rw [wrd_num (a := 0) false (by decide +kernel) (by decide) (by decide +kernel) (by decide +kernel)]
  rw [hw] at h
  exact h
theorem lit_eq (x : Nat) (hx : x < 18446744073709551616) (w : World) : (Op.equalIn 10000 28 (.agg #[.int .u64 0, .int .u64 (x : Nat)]) (.agg #[.int .u64 0, .int .u64 (x : Nat)])).run Tryd.prog w = .ok true w := by
  have hq := wordEq (a := x) (b := x) (by omega) (by omega) w
  have e := word_num 0 x (by decide) hx
  rw [Nat.mul_zero, Nat.add_zero] at e
  rw [decide_eq_true rfl, e.1, e.2] at hq
  exact hq
set_option maxHeartbeats 2000000 in
theorem awake9_any (w : World) (hg : FmtG w) : Calls Tryd.prog 21 #[] w fun e w' => e = .returned (.bool true) ∧ Below w.heap.size w w' := by
  have hq1 : ∀ w, (Op.equalIn 10000 28 (.agg #[.int .u64 0, .int .u64 31744]) (.agg #[.int .u64 0, .int .u64 31744])).run Tryd.prog w = .ok true w := fun w => lit_eq 31744 (by decide) w
  have hq2 : ∀ w, (Op.equalIn 10000 28 (.agg #[.int .u64 0, .int .u64 31743]) (.agg #[.int .u64 0, .int .u64 31743])).run Tryd.prog w = .ok true w := fun w => lit_eq 31743 (by decide) w
  have hq3 : ∀ w, (Op.equalIn 10000 28 (.agg #[.int .u64 0, .int .u64 0]) (.agg #[.int .u64 0, .int .u64 0])).run Tryd.prog w = .ok true w := fun w => lit_eq 0 (by decide) w
  have HA := hide (fun w hg => aw9_1 w hg)
  have HBB := hide (fun w hg => aw9_2 w hg)
  have HCC := hide (fun w hg => aw9_3 w hg)
  generalize (rndR 1 3 false false 0 65520).2 = fl at *
  have HG := hide (show FmtG w ∧ Below w.heap.size w w from ⟨hg, Below.refl _ _⟩)
  clear hg
  go_enter Tryd.func21, Tryd.ntmps21
  go_wp2_with fail
  refine (HA.out _ HG.out.1).mono ?_
  rintro e w1 ⟨rfl, hb1⟩
  go_upto_region 2 with fail
  refine wp_gen (fun W => FmtG W ∧ Below w.heap.size w W ∧ WB W w1.heap.size 0 31744) ⟨(HG.out.1.below hb1).below (below_allocs _ _), below_trans (below_trans HG.out.2 hb1) (below_allocs _ _), (show WB _ _ 0 31744 from wb_new2 w1 0 31744 28)⟩ ?_
  clear HG hb1
  generalize w1.heap.size = p1
  rintro W1 h1
  have HG := hide h1
  clear h1
  go_wp2_with fail
  refine (HBB.out _ HG.out.1).mono ?_
  rintro e w2 ⟨rfl, hb2⟩
  go_upto_region 3 with fail
  refine wp_gen (fun W => FmtG W ∧ Below w.heap.size w W ∧ WB W p1 0 31744 ∧ WB W w2.heap.size 0 31743) ⟨(HG.out.1.below hb2).below (below_allocs _ _), below_trans (below_trans HG.out.2.1 hb2) (below_allocs _ _), (HG.out.2.2.below hb2).below (below_allocs _ _), (show WB _ _ 0 31743 from wb_new2 w2 0 31743 28)⟩ ?_
  clear HG hb2
  generalize w2.heap.size = p2
  rintro W2 h2
  have HG := hide h2
  clear h2
  go_wp2_with fail
  refine (HCC.out _ HG.out.1).mono ?_
  rintro e w3 ⟨rfl, hb3⟩
  go_upto_region 4 with fail
  refine wp_gen (fun W => Below w.heap.size w W ∧ WB W p1 0 31744 ∧ WB W p2 0 31743 ∧ WB W w3.heap.size 0 0) ⟨below_trans (below_trans HG.out.2.1 hb3) (below_allocs _ _), (HG.out.2.2.1.below hb3).below (below_allocs _ _), (HG.out.2.2.2.below hb3).below (below_allocs _ _), wb_new _ _⟩ ?_
  clear HG hb3
  generalize w3.heap.size = p3
  rintro W3 ⟨g1, g2, g3, g4⟩
  have a0 := g2.h
  have a1 := g2.l
  have b0 := g3.h
  have b1 := g3.l
  have c0 := g4.h
  have c1 := g4.l
  have HB := hide g1
  clear g1 g2 g3 g4
  go_wp2
  go_ret
  exact ⟨rfl, HB.out⟩

end Go.Proofs.YtpcjdllijkjdkaaDoor

