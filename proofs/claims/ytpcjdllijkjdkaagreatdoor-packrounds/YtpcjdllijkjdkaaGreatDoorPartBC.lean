/- Contracts and laws: PckJ, PckE, PackDigitsWalk, PackDigitsNum, PckQ, PackDigitsAll, PckM. -/
import Derived.Test.YtpcjdllijkjdkaaGreatDoorPartBA
import Derived.Test.YtpcjdllijkjdkaaGreatDoorPartBB
import Derived.Test.YtpcjdllijkjdkaaGreatDoorPartAY
/- Numbers: what the document's Down, Top and At tell of a number, and of one that stands for all above it. -/
set_option linter.unusedVariables false
set_option linter.unusedSimpArgs false
set_option maxRecDepth 8000
namespace Go.Proofs.YtpcjdllijkjdkaaGreatDoor
open Go.RowKit Plain

/-- The numerator and its exponent: with more, half a unit beyond. -/
def nmR (s : Nat) (more : Bool) : Nat := bif more then s * 2 ^ 1 + 1 else s
def exR (z : Int) (more : Bool) : Int := bif more then z - 1 else z
theorem rofA_any (neg more : Bool) (z : Int) (s : Nat) (hs : s < QQ) (hz : -4000000 ≤ z ∧ z ≤ 4000000) (w : World) :
    Calls Tryz.prog 14 #[.agg #[.bool (neg), .int .i64 (z), .int .u64 (dgl (s) 0 : Nat), .int .u64 (dgl (s) 1 : Nat), .int .u64 (dgl (s) 2 : Nat), .int .u64 (dgl (s) 3 : Nat), .int .u64 (dgl (s) 4 : Nat), .int .u64 (dgl (s) 5 : Nat), .int .u64 (dgl (s) 6 : Nat), .int .u64 (dgl (s) 7 : Nat)], .bool more] w fun e w' => ∃ u, e = .returned u ∧ RlV w' u neg 1 (nmR s more) 1 (exR z more) 80 ∧ Below w.heap.size w w' := by
  cases more
  · exact (rof_false neg z s hs hz w).mono fun e w' ⟨u, h1, ⟨v1, v2, h2, h3, h4⟩, h5⟩ => ⟨u, h1, ⟨v1, v2, h2, h3.mono (by decide), h4.mono (by decide)⟩, h5⟩
  · exact rof_true neg z s hs hz w
theorem cR_one (s : Nat) (more : Bool) (z : Int) (y : Nat) (P : Int) : cR 1 (nmR s more) 1 (exR z more) y P = sizeZ y P (nmR s more) (exR z more) := by
  unfold cR
  rw [Nat.pow_one, Nat.mul_one, show ((1 : Nat) : Int) * P = P by omega]
/-- What stays of a number at a place: cut (k digits less) or filled up (j noughts). -/
theorem cR_le (s : Nat) (more : Bool) (z P : Int) (h : more = true → z < P) (y : Nat) : cR 1 (nmR s more) 1 (exR z more) y P ≤ 0 ↔ y ≤ s * 2 ^ (z - P).toNat / 2 ^ (P - z).toNat := by
  rw [cR_one]
  cases more
  · show sizeZ y P s z ≤ 0 ↔ _
    rw [sizeZ_le y s P z (min P z) (by omega) (by omega)]
    unfold vl
    by_cases hp : P ≤ z
    · rw [show (P - min P z).toNat = 0 by omega, show (z - min P z).toNat = (z - P).toNat by omega, show (P - z).toNat = 0 by omega, Nat.pow_zero, Nat.mul_one, Nat.div_one]
    · rw [show (P - min P z).toNat = (P - z).toNat by omega, show (z - min P z).toNat = 0 by omega, show (z - P).toNat = 0 by omega, Nat.pow_zero, Nat.mul_one]
      exact (Nat.le_div_iff_mul_le (Nat.two_pow_pos _)).symm
  · have hp := h rfl
    show sizeZ y P (s * 2 ^ 1 + 1) (z - 1) ≤ 0 ↔ _
    rw [sizeZ_le y (s * 2 ^ 1 + 1) P (z - 1) (z - 1) (by omega) (Int.le_refl _)]
    unfold vl
    rw [show (z - 1 - (z - 1)).toNat = 0 by omega, show (z - P).toNat = 0 by omega, Nat.pow_zero, Nat.mul_one, Nat.mul_one, Nat.le_div_iff_mul_le (Nat.two_pow_pos _), show (P - (z - 1)).toNat = (P - z).toNat + 1 by omega, Nat.pow_succ, Nat.pow_one]
    generalize 2 ^ (P - z).toNat = b
    rw [← Nat.mul_assoc]
    generalize y * b = c
    omega
theorem cR_mono (s : Nat) (more : Bool) (z P : Int) (h : more = true → z < P) (M a b : Nat) (hab : a ≤ b) (_ : b < 2 ^ M) (hb : decide (cR 1 (nmR s more) 1 (exR z more) b P ≤ 0) = true) : decide (cR 1 (nmR s more) 1 (exR z more) a P ≤ 0) = true := by
  rw [decide_eq_true_iff, cR_le s more z P h] at hb ⊢
  omega
theorem down_inv (s : Nat) (more : Bool) (z P : Int) (h : more = true → z < P) (M : Nat) (hM : s * 2 ^ (z - P).toNat / 2 ^ (P - z).toNat < 2 ^ M) : FInv (fun y => decide (cR 1 (nmR s more) 1 (exR z more) y P ≤ 0)) M 0 (s * 2 ^ (z - P).toNat / 2 ^ (P - z).toNat) := by
  refine ⟨by rw [Nat.pow_zero, Nat.mod_one], hM, ?_, fun y h1 h2 => ?_⟩
  · rw [decide_eq_true_iff, cR_le s more z P h]
    exact Nat.le_refl _
  · rw [Nat.pow_zero] at h1
    rw [decide_eq_false_iff_not, cR_le s more z P h]
    omega
/-- The rest, as Down tells it. -/
theorem down_rest (s : Nat) (more : Bool) (z P : Int) (h : more = true → z < P) :
    (if cR 1 (nmR s more) 1 (exR z more) (s * 2 ^ (z - P).toNat / 2 ^ (P - z).toNat) P = 0 then (0 : Int) else 2 - max (-1) (min 1 (cR 1 (nmR s more) 1 (exR z more) (s * 2 ^ (z - P).toNat / 2 ^ (P - z).toNat * 2 ^ 1 + 1) (P - 1)))) = ((restN s (P - z).toNat more : Nat) : Int) := by
  rw [cR_one, cR_one]
  by_cases hp : P ≤ z
  · obtain rfl : more = false := by
      cases more
      · rfl
      · have := h rfl; omega
    rw [show (P - z).toNat = 0 by omega, Nat.pow_zero, Nat.div_one, restN_0]
    rw [if_pos]
    · rfl
    · exact sizeZ_vl hp rfl
  · rw [show (z - P).toNat = 0 by omega, Nat.pow_zero, Nat.mul_one]
    obtain ⟨k, hk⟩ : ∃ k : Nat, (P - z).toNat = k + 1 := ⟨(P - z).toNat - 1, by omega⟩
    have hP : P = z + ((k + 1 : Nat) : Int) := by omega
    subst hP
    rw [hk]
    unfold restN
    have hpw : 2 ^ (k + 1) = 2 * 2 ^ k := Nat.pow_succ'
    have hdm := Nat.div_add_mod s (2 ^ (k + 1))
    have hml : s % 2 ^ (k + 1) < 2 ^ (k + 1) := Nat.mod_lt _ (Nat.two_pow_pos _)
    have hp0 := Nat.two_pow_pos k
    have e0 : s / 2 ^ (k + 1) * 2 ^ (k + 1) + s % 2 ^ (k + 1) = s := by rw [Nat.mul_comm]; exact hdm
    generalize s / 2 ^ (k + 1) = d at *
    generalize s % 2 ^ (k + 1) = r at *
    have A0 := sizeZ_spec d (nmR s more) (z + ((k + 1 : Nat) : Int)) (exR z more) (z - 1) (by omega) (by cases more <;> (show z - 1 ≤ _; simp [exR]; try omega))
    have A1 := sizeZ_spec (d * 2 ^ 1 + 1) (nmR s more) (z + ((k + 1 : Nat) : Int) - 1) (exR z more) (z - 1) (by omega) (by cases more <;> (show z - 1 ≤ _; simp [exR]; try omega))
    have v0 : vl d (z + ((k + 1 : Nat) : Int)) (z - 1) = d * 2 ^ (k + 1) * 2 := by
      unfold vl
      rw [show (z + ((k + 1 : Nat) : Int) - (z - 1)).toNat = k + 1 + 1 by omega, Nat.pow_succ 2 (k + 1), Nat.mul_assoc]
    have v1 : vl (d * 2 ^ 1 + 1) (z + ((k + 1 : Nat) : Int) - 1) (z - 1) = d * 2 ^ (k + 1) * 2 + 2 ^ (k + 1) := by
      unfold vl
      rw [show (z + ((k + 1 : Nat) : Int) - 1 - (z - 1)).toNat = k + 1 by omega, Nat.pow_one, Nat.add_mul, Nat.one_mul, Nat.mul_right_comm]
    have v2 : vl (nmR s more) (exR z more) (z - 1) = 2 * s + more.toNat := by
      unfold vl nmR exR
      cases more
      · show s * 2 ^ (z - (z - 1)).toNat = 2 * s + 0
        rw [show (z - (z - 1)).toNat = 1 by omega]; omega
      · show (s * 2 ^ 1 + 1) * 2 ^ (z - 1 - (z - 1)).toNat = 2 * s + 1
        rw [show (z - 1 - (z - 1)).toNat = 0 by omega]; omega
    rw [v0, v2] at A0
    rw [v1, v2] at A1
    generalize sizeZ d (z + ((k + 1 : Nat) : Int)) (nmR s more) (exR z more) = c0 at *
    generalize sizeZ (d * 2 ^ 1 + 1) (z + ((k + 1 : Nat) : Int) - 1) (nmR s more) (exR z more) = c1 at *
    clear v0 v1 v2 hdm
    generalize d * 2 ^ (k + 1) = X at *
    generalize 2 ^ (k + 1) = p at *
    generalize 2 ^ k = h at *
    obtain ⟨A00, A01⟩ := A0
    obtain ⟨A10, A11⟩ := A1
    cases more
    · simp only [Bool.toNat_false, and_true] at *
      repeat' split
      all_goals omega
    · simp only [Bool.toNat_true, Bool.true_eq_false, and_false, if_false] at *
      repeat' split
      all_goals omega

end Go.Proofs.YtpcjdllijkjdkaaGreatDoor

/- Contracts: law09.awake; words go by their numbers. -/
set_option linter.unusedVariables false
set_option linter.unusedSimpArgs false
set_option maxRecDepth 8000
namespace Go.Proofs.YtpcjdllijkjdkaaGreatDoor
open Go.RowKit Plain

theorem abs_parts {f : Int} {a : Nat} (h : clsU f a ≠ 0) : fldU f (absU f a) = fldU f a ∧ frcU f (absU f a) = frcU f a ∧ clsU f (absU f a) = clsU f a ∧ sigU f (absU f a) = sigU f a ∧ expU f (absU f a) = expU f a := by
  obtain ⟨-, -, b3, b4, b5⟩ := sgn_U false h
  obtain ⟨c1, c2⟩ := sgn_sig false h
  rw [sgn_abs f a h] at b3 b4 b5 c1 c2
  exact ⟨b3, b4, b5, c1, c2⟩
/-- A word is told by its sign and its number. -/
theorem val_inj {f : Int} {a b : Nat} (ha : 4 ≤ clsU f a) (hb : 4 ≤ clsU f b) (hn : negU f a = negU f b) (h : sizeZ (sigU f a) (expU f a) (sigU f b) (expU f b) = 0) : a = b := by
  have hf : 1 ≤ f ∧ f ≤ 4 := cls_form (a := a) (by omega)
  obtain ⟨a1, a2, -, a4, a5⟩ := abs_parts (f := f) (a := a) (by omega)
  obtain ⟨b1, b2, -, b4, b5⟩ := abs_parts (f := f) (a := b) (by omega)
  have la := absU_lt a hf
  have lb := absU_lt b hf
  have hv := (sizeZ_spec _ _ _ _ (loU f) (loU_le f a) (loU_le f b)).2.1 h
  rw [← a4, ← a5, ← b4, ← b5, vl_word hf la, vl_word hf lb] at hv
  have he := ((valW_iff (Nat.two_pow_pos (prU f - 1))).2).1 hv
  have oa := own_u (f := f) (a := a) (by omega)
  have ob := own_u (f := f) (a := b) (by omega)
  rw [← a1, ← a2, he, b1, b2, hn] at oa
  rw [oa]
  exact ob.symm
theorem wrd_num {f : Int} {a s : Nat} {z : Int} (neg : Bool) (ha : 4 ≤ clsU f a) (hl : a < 2 ^ 128) (hn : negU f a = neg) (hz : sizeZ (sigU f a) (expU f a) s z = 0) : wrdU f neg s z = a := by
  have hf : 1 ≤ f ∧ f ≤ 4 := cls_form (a := a) (by omega)
  obtain ⟨-, h2, h3, h4⟩ := wrd_ok hf neg (s := s) (z := z) ⟨a, hl, ha, hz⟩
  refine val_inj h2 ha (by rw [h3, hn]) ?_
  have l1 := loU_le f a
  have e1 := (sizeZ_spec (sigU f (wrdU f neg s z)) s (expU f (wrdU f neg s z)) z (min (min (expU f (wrdU f neg s z)) (expU f a)) z) (by omega) (by omega)).2.1 h4
  have e2 := (sizeZ_spec (sigU f a) s (expU f a) z (min (min (expU f (wrdU f neg s z)) (expU f a)) z) (by omega) (by omega)).2.1 hz
  exact (sizeZ_spec _ _ _ _ (min (min (expU f (wrdU f neg s z)) (expU f a)) z) (by omega) (by omega)).2.2 (by rw [e1, e2])
theorem big_qq : 65520 < QQ ∧ 1 < QQ := by have h := qb_small 2; have e : qb 2 = 4194304 := rfl; omega
theorem aw9_1 (w : World) (hg : FmtG w) : Calls Tryz.prog 4 #[.int .i64 1, .int .i64 1, .agg #[.bool false, .int .i64 0, .int .u64 65520, .int .u64 0, .int .u64 0, .int .u64 0, .int .u64 0, .int .u64 0, .int .u64 0, .int .u64 0], .bool false] w fun e w' => e = .returned (.tuple #[.agg #[.int .u64 0, .int .u64 31744], .int .i64 20, .int .i64 0]) ∧ Below w.heap.size w w' := by
  have h := round_yes 1 1 (by decide) (by decide) false false 0 65520 big_qq.1 (by decide +kernel) (by decide) w hg
  rw [show rndR 1 1 false false 0 65520 = (31744, 20) from if_pos (by decide +kernel)] at h
  exact h
theorem aw9_2 (w : World) (hg : FmtG w) : Calls Tryz.prog 4 #[.int .i64 1, .int .i64 3, .agg #[.bool false, .int .i64 0, .int .u64 65520, .int .u64 0, .int .u64 0, .int .u64 0, .int .u64 0, .int .u64 0, .int .u64 0, .int .u64 0], .bool false] w fun e w' => e = .returned (.tuple #[.agg #[.int .u64 0, .int .u64 31743], .int .i64 (rndR 1 3 false false 0 65520).2, .int .i64 0]) ∧ Below w.heap.size w w' := by
  have h := round_yes 1 3 (by decide) (by decide) false false 0 65520 big_qq.1 (by decide +kernel) (by decide) w hg
  have hw : (rndR 1 3 false false 0 65520).1 = 31743 := by
    unfold rndR
    rw [if_neg (by decide +kernel), if_neg (by decide +kernel)]
    rw [wrd_num (a := 31743) false (by decide +kernel) (by decide) (by decide +kernel) (by decide +kernel)]
  rw [hw] at h
  exact h
theorem aw9_3 (w : World) (hg : FmtG w) : Calls Tryz.prog 4 #[.int .i64 1, .int .i64 1, .agg #[.bool false, .int .i64 (-25), .int .u64 1, .int .u64 0, .int .u64 0, .int .u64 0, .int .u64 0, .int .u64 0, .int .u64 0, .int .u64 0], .bool false] w fun e w' => e = .returned (.tuple #[.agg #[.int .u64 0, .int .u64 0], .int .i64 24, .int .i64 0]) ∧ Below w.heap.size w w' := by
  have h := round_yes 1 1 (by decide) (by decide) false false (-25) 1 big_qq.2 (by decide +kernel) (by decide) w hg
  have hw : (rndR 1 1 false false (-25) 1) = (0, 24) := by
    unfold rndR
    rw [if_neg (by decide +kernel), if_pos (by decide +kernel), if_neg (by decide +kernel)]
    rw [wrd_num (a := 0) false (by decide +kernel) (by decide) (by decide +kernel) (by decide +kernel)]
  rw [hw] at h
  exact h
theorem lit_eq (x : Nat) (hx : x < 18446744073709551616) (w : World) : (Op.equalIn 10000 29 (.agg #[.int .u64 0, .int .u64 (x : Nat)]) (.agg #[.int .u64 0, .int .u64 (x : Nat)])).run Tryz.prog w = .ok true w := by
  have hq := wordEq (a := x) (b := x) (by omega) (by omega) w
  have e := word_num 0 x (by decide) hx
  rw [Nat.mul_zero, Nat.add_zero] at e
  rw [decide_eq_true rfl, e.1, e.2] at hq
  exact hq
set_option maxHeartbeats 2000000 in
theorem awake9_any (w : World) (hg : FmtG w) : Calls Tryz.prog 9 #[] w fun e w' => e = .returned (.bool true) ∧ Below w.heap.size w w' := by
  have hq1 : ∀ w, (Op.equalIn 10000 29 (.agg #[.int .u64 0, .int .u64 31744]) (.agg #[.int .u64 0, .int .u64 31744])).run Tryz.prog w = .ok true w := fun w => lit_eq 31744 (by decide) w
  have hq2 : ∀ w, (Op.equalIn 10000 29 (.agg #[.int .u64 0, .int .u64 31743]) (.agg #[.int .u64 0, .int .u64 31743])).run Tryz.prog w = .ok true w := fun w => lit_eq 31743 (by decide) w
  have hq3 : ∀ w, (Op.equalIn 10000 29 (.agg #[.int .u64 0, .int .u64 0]) (.agg #[.int .u64 0, .int .u64 0])).run Tryz.prog w = .ok true w := fun w => lit_eq 0 (by decide) w
  have HA := hide (fun w hg => aw9_1 w hg)
  have HBB := hide (fun w hg => aw9_2 w hg)
  have HCC := hide (fun w hg => aw9_3 w hg)
  generalize (rndR 1 3 false false 0 65520).2 = fl at *
  have HG := hide (show FmtG w ∧ Below w.heap.size w w from ⟨hg, Below.refl _ _⟩)
  clear hg
  go_enter Tryz.func9, Tryz.ntmps9
  go_wp2_with fail
  refine (HA.out _ HG.out.1).mono ?_
  rintro e w1 ⟨rfl, hb1⟩
  go_upto_region 2 with fail
  refine wp_gen (fun W => FmtG W ∧ Below w.heap.size w W ∧ WB W w1.heap.size 0 31744) ⟨(HG.out.1.below hb1).below (below_allocs _ _), below_trans (below_trans HG.out.2 hb1) (below_allocs _ _), (show WB _ _ 0 31744 from wb_new2 w1 0 31744 29)⟩ ?_
  clear HG hb1
  generalize w1.heap.size = p1
  rintro W1 h1
  have HG := hide h1
  clear h1
  go_wp2_with fail
  refine (HBB.out _ HG.out.1).mono ?_
  rintro e w2 ⟨rfl, hb2⟩
  go_upto_region 3 with fail
  refine wp_gen (fun W => FmtG W ∧ Below w.heap.size w W ∧ WB W p1 0 31744 ∧ WB W w2.heap.size 0 31743) ⟨(HG.out.1.below hb2).below (below_allocs _ _), below_trans (below_trans HG.out.2.1 hb2) (below_allocs _ _), (HG.out.2.2.below hb2).below (below_allocs _ _), (show WB _ _ 0 31743 from wb_new2 w2 0 31743 29)⟩ ?_
  clear HG hb2
  generalize w2.heap.size = p2
  rintro W2 h2
  have HG := hide h2
  clear h2
  go_wp2_with fail
  refine (HCC.out _ HG.out.1).mono ?_
  rintro e w3 ⟨rfl, hb3⟩
  go_upto_region 4 with fail
  refine wp_gen (fun W => Below w.heap.size w W ∧ WB W p1 0 31744 ∧ WB W p2 0 31743 ∧ WB W w3.heap.size 0 0) ⟨below_trans (below_trans HG.out.2.1 hb3) (below_allocs _ _), (HG.out.2.2.1.below hb3).below (below_allocs _ _), (HG.out.2.2.2.below hb3).below (below_allocs _ _), wb_new _ _⟩ ?_
  clear HG hb3
  generalize w3.heap.size = p3
  rintro W3 ⟨g1, g2, g3, g4⟩
  have a0 := g2.h
  have a1 := g2.l
  have b0 := g3.h
  have b1 := g3.l
  have c0 := g4.h
  have c1 := g4.l
  have HB := hide g1
  clear g1 g2 g3 g4
  go_wp2
  go_ret
  exact ⟨rfl, HB.out⟩

end Go.Proofs.YtpcjdllijkjdkaaGreatDoor

/- The walk of PackDigits. -/
set_option linter.unusedVariables false
set_option linter.unusedSimpArgs false
set_option maxRecDepth 8000
namespace Go.Proofs.YtpcjdllijkjdkaaGreatDoor
open Go.RowKit Plain

end Go.Proofs.YtpcjdllijkjdkaaGreatDoor

/- PackDigits at any number: the numbers. -/
set_option linter.unusedVariables false
set_option linter.unusedSimpArgs false
set_option maxRecDepth 8000
namespace Go.Proofs.YtpcjdllijkjdkaaGreatDoor
open Go.RowKit Plain

theorem rgt_bd {z : Int} (h : rgt z = true) : -1048576 ≤ z ∧ z ≤ 1048576 := by
  unfold rgt at h
  simpa using h
/-- The document's number reaches a place: 1 there is not above it. -/
theorem one_at (s : Nat) (more : Bool) (z P : Int) (h : z ≤ P) : cR 1 (nmR s more) 1 (exR z more) 1 P ≤ 0 ↔ 2 ^ (P - z).toNat ≤ s := by
  rw [cR_one]
  cases more
  · show sizeZ 1 P s z ≤ 0 ↔ _
    rw [sizeZ_le 1 s P z z h (Int.le_refl _)]
    unfold vl
    rw [show (z - z).toNat = 0 by omega, Nat.pow_zero, Nat.mul_one, Nat.one_mul]
  · show sizeZ 1 P (s * 2 ^ 1 + 1) (z - 1) ≤ 0 ↔ _
    rw [sizeZ_le 1 (s * 2 ^ 1 + 1) P (z - 1) (z - 1) (by omega) (Int.le_refl _)]
    unfold vl
    rw [show (z - 1 - (z - 1)).toNat = 0 by omega, Nat.pow_zero, Nat.mul_one, Nat.one_mul, show (P - (z - 1)).toNat = (P - z).toNat + 1 by omega, Nat.pow_succ, Nat.pow_one]
    omega
theorem nmR_len {z : Int} (s : Nat) (more : Bool) : (Go.bitLen s : Int) + z ≤ (Go.bitLen (nmR s more) : Int) + exR z more + 0 ∧ (Go.bitLen (nmR s more) : Int) ≤ (Go.bitLen s : Int) + 1 := by
  cases more
  · exact ⟨by show (Go.bitLen s : Int) + z ≤ (Go.bitLen s : Int) + z + 0; omega, by show (Go.bitLen s : Int) ≤ _; omega⟩
  · have h1 := len_dbl s
    have h2 : Go.bitLen s + 1 ≤ Go.bitLen (s * 2 ^ 1 + 1) := by
      rcases Nat.eq_zero_or_pos s with rfl | h0
      · decide +kernel
      · rcases Nat.lt_or_ge (Go.bitLen (s * 2 ^ 1 + 1)) (Go.bitLen s + 1) with h3 | h3
        · have h4 := (len_le (s * 2 ^ 1 + 1) (Go.bitLen s)).1 (by omega)
          have h5 := len_ge (show s ≠ 0 by omega)
          have h6 : 2 ^ Go.bitLen s = 2 * 2 ^ (Go.bitLen s - 1) := by rw [← Nat.pow_succ']; congr 1; have := len_pos (show s ≠ 0 by omega); omega
          rw [Nat.pow_one] at h4
          omega
        · exact h3
    exact ⟨by show (Go.bitLen s : Int) + z ≤ (Go.bitLen (s * 2 ^ 1 + 1) : Int) + (z - 1) + 0; omega, by show (Go.bitLen (s * 2 ^ 1 + 1) : Int) ≤ _; omega⟩
/-- Top, of such a number. -/
theorem rtopA_any (neg : Bool) (s : Nat) (more : Bool) (z : Int) (h0 : s ≠ 0) (hl : Go.bitLen s ≤ 600) (hz : -4000000 ≤ z ∧ z ≤ 4000000) (u : Value) (w : World) (hu : RlV w u neg 1 (nmR s more) 1 (exR z more) 80) :
    Calls Tryz.prog 34 #[u] w fun e' w' => e' = .returned (.int .i64 (z + (Go.bitLen s : Int) - 1)) ∧ Below w.heap.size w w' := by
  have h1 := len_pos h0
  obtain ⟨n1, n2⟩ := nmR_len (z := z) s more
  have hb : Go.bitLen 1 = 1 := by decide +kernel
  have hE : z - 1 ≤ exR z more ∧ exR z more ≤ z := by cases more <;> (unfold exR; simp only [cond_true, cond_false]; omega)
  refine rtop_any 1 (.inl rfl) neg (exR z more) (nmR s more) 1 80 (by omega) (by omega) (by omega) (by omega) (z + (Go.bitLen s : Int) - 1) _ rfl ?_ ?_ ?_ u w hu
  · rw [hb]; omega
  · rw [one_at s more z _ (by omega), show (z + (Go.bitLen s : Int) - 1 - z).toNat = Go.bitLen s - 1 by omega]
    exact len_ge h0
  · intro P hP _
    rcases Int.lt_or_le 0 (cR 1 (nmR s more) 1 (exR z more) 1 P) with h | h
    · exact h
    · rw [one_at s more z P (by omega)] at h
      have h2 := len_lt s
      have h3 : 2 ^ Go.bitLen s ≤ 2 ^ (P - z).toNat := Nat.pow_le_pow_right (by decide) (by omega)
      omega
/-- The document's number, at a place: so many units, rounded. -/
def atN (s : Nat) (more : Bool) (z P m : Int) (neg : Bool) : Nat :=
  s * 2 ^ (z - P).toNat / 2 ^ (P - z).toNat + (growN m neg (s * 2 ^ (z - P).toNat / 2 ^ (P - z).toNat % 2 == 1) ((restN s (P - z).toNat more : Nat) : Int)).toNat
theorem ratA_any (neg : Bool) (s : Nat) (more : Bool) (z P m : Int) (M : Nat) (hl : Go.bitLen s ≤ 600) (hz : -4000000 ≤ z ∧ z ≤ 4000000) (hP : -5000000 ≤ P ∧ P ≤ 5000000) (hM : M ≤ 600) (h : more = true → z < P)
    (hD : s * 2 ^ (z - P).toNat / 2 ^ (P - z).toNat < 2 ^ M) (u : Value) (w : World) (hu : RlV w u neg 1 (nmR s more) 1 (exR z more) 80) :
    Calls Tryz.prog 35 #[u, .int .i64 P, .int .i64 (M : Nat), .int .i64 m] w fun e' w' => ∃ v, e' = .returned (.tuple #[v, .bool (!decide (restN s (P - z).toNat more = 0))]) ∧ BigV w' v (atN s more z P m neg) 800 ∧ Below w.heap.size w w' := by
  obtain ⟨n1, n2⟩ := nmR_len (z := z) s more
  have hb : Go.bitLen 1 = 1 := by decide +kernel
  have hE : z - 1 ≤ exR z more ∧ exR z more ≤ z := by cases more <;> (unfold exR; simp only [cond_true, cond_false]; omega)
  have hh := rat_any 1 neg (exR z more) P ((restN s (P - z).toNat more : Nat) : Int) m (nmR s more) 1 80 M (s * 2 ^ (z - P).toNat / 2 ^ (P - z).toNat) u w hu
    (fun u W hu => rdown_any 1 (.inl rfl) neg (exR z more) P (nmR s more) 1 80 M _ (by omega) (by omega) (by omega) (by omega) (by omega) hM (cR_mono s more z P h M) (down_inv s more z P h M hD) _ (down_rest s more z P h).symm u W hu)
  have hd : decide (0 < ((restN s (P - z).toNat more : Nat) : Int)) = !decide (restN s (P - z).toNat more = 0) := by
    by_cases h0 : restN s (P - z).toNat more = 0
    · rw [h0]; rfl
    · rw [decide_eq_true (show 0 < ((restN s (P - z).toNat more : Nat) : Int) by omega), decide_eq_false h0]; rfl
  rw [hd] at hh
  exact hh
theorem atN_cut (s : Nat) (more : Bool) (z P m : Int) (neg : Bool) (h : z ≤ P) : atN s more z P m neg = cutN s (P - z).toNat m more neg := by
  unfold atN cutN
  rw [show (z - P).toNat = 0 by omega, Nat.pow_zero, Nat.mul_one]
theorem atN_up (s : Nat) (z P m : Int) (neg : Bool) (h : P ≤ z) : atN s false z P m neg = s * 2 ^ (z - P).toNat := by
  unfold atN
  rw [show (P - z).toNat = 0 by omega, restN_0, growN_nil, Nat.pow_zero, Nat.div_one]
  rfl

end Go.Proofs.YtpcjdllijkjdkaaGreatDoor

/- The document's Round: its walks. -/
set_option linter.unusedVariables false
set_option linter.unusedSimpArgs false
set_option maxRecDepth 8000
namespace Go.Proofs.YtpcjdllijkjdkaaGreatDoor
open Go.RowKit Plain

structure RrSt (neg : Bool) (E : Int) (v1 v2 : Value) (num : Nat) (w W : World) : Prop where
  r : RB W w.heap.size neg ((1 : Nat) : Int) E v1 v2
  b1 : BigV W v1 num 80
  b2 : BigV W v2 1 80
  o0 : W.cell? ⟨w.heap.size + 1, 0, none⟩ = some (.int .u64 0)
  o1 : W.cell? ⟨w.heap.size + 1, 1, none⟩ = some (.int .u64 0)
  ol : w.heap.size + 1 < W.heap.size
  of : ∀ i, W.frozen? ⟨w.heap.size + 1, i, none⟩ = false
  bel : Below w.heap.size w W
theorem RrSt.below {neg : Bool} {E : Int} {v1 v2 : Value} {num : Nat} {w W W' : World} (h : RrSt neg E v1 v2 num w W) (hb : Below W.heap.size W W') : RrSt neg E v1 v2 num w W' :=
  ⟨h.r.below hb, h.b1.below hb, h.b2.below hb, (hb.cell (p := ⟨w.heap.size + 1, 0, none⟩) h.ol).trans h.o0, (hb.cell (p := ⟨w.heap.size + 1, 1, none⟩) h.ol).trans h.o1, Nat.lt_of_lt_of_le h.ol hb.size, fun i => (hb.frozen (p := ⟨w.heap.size + 1, i, none⟩) h.ol).trans (h.of i), below_trans h.bel hb⟩
theorem rrSt_start (neg : Bool) (E : Int) (v1 v2 : Value) (num : Nat) (w : World) (k1 : BigV w v1 num 80) (k2 : BigV w v2 1 80) (h1 : ∃ ao l ca, v1 = .slice ao l ca) (h2 : ∃ ao l ca, v2 = .slice ao l ca) (t1 t2 : TypeId) :
    RrSt neg E v1 v2 num w ((w.alloc (.cells #[.bool neg, .int .i64 ((1 : Nat) : Int), v1, v2, .int .i64 E] t1)).alloc (.cells #[.int .u64 0, .int .u64 0] t2)) :=
  ⟨(rb_new w neg ((1 : Nat) : Int) E v1 v2 h1 h2 t1).below (below_allocs _ _), (k1.below (below_allocs _ _)).below (below_allocs _ _), (k2.below (below_allocs _ _)).below (below_allocs _ _), by simp [go_sem], by simp [go_sem], by simp, fun i => by simp [go_sem], below_trans (below_allocs _ _) (below_allocs _ _)⟩
theorem BigV.less {w : World} {v : Value} {n K : Nat} (h : BigV w v n K) (hn : n < QQ) : BigV w v n 16 := by
  obtain ⟨l, h1, h2, h3, h4⟩ := h
  refine ⟨l, h1, h2, h3, ?_⟩
  have h5 := above_iff h2 h3
  omega

set_option maxHeartbeats 4000000 in
theorem refRound_I1 (f m p T EM EN E : Int) (neg off off2 : Bool) (num U V X Y lU : Nat) (u : Value)
    (HPR : Hid (∀ w, Calls Tryz.prog 8 #[.int .i64 f] w fun e w' => e = .returned (.int .i64 p) ∧ w' = w))
    (HTP : Hid (∀ u w, RlV w u neg 1 num 1 E 80 → Calls Tryz.prog 34 #[u] w fun e w' => e = .returned (.int .i64 T) ∧ Below w.heap.size w w'))
    (hw1 : IntKind.i64.wrap (T - p) = T - p)
    (hw2 : IntKind.i64.wrap (T - p + 1) = T - p + 1)
    (HAT : Hid (∀ u w, RlV w u neg 1 num 1 E 80 → Calls Tryz.prog 35 #[u, .int .i64 (T - p + 1), .int .i64 p, .int .i64 1] w fun e w' => ∃ v, e = .returned (.tuple #[v, .bool off]) ∧ BigV w' v U 800 ∧ Below w.heap.size w w'))
    (HLN : Hid (∀ v w, BigV w v U 800 → Calls Tryz.prog 10 #[v] w fun e w' => e = .returned (.int .i64 (lU : Nat)) ∧ w' = w))
    (hw3 : IntKind.i64.wrap (T - p + 1 + (lU : Int)) = T - p + 1 + (lU : Int))
    (hw4 : IntKind.i64.wrap (T - p + 1 + (lU : Int) - 1) = T - p + 1 + (lU : Int) - 1)
    (HEM : Hid (∀ w, Calls Tryz.prog 36 #[.int .i64 f] w fun e w' => e = .returned (.int .i64 EM) ∧ w' = w))
    (hgt : EM < T - p + 1 + (lU : Int) - 1)
    (HIN : Hid (∀ w, Calls Tryz.prog 37 #[.int .i64 f, .bool neg] w fun e w' => e = .returned (.agg #[.int .u64 (dgl (Y) 1 : Nat), .int .u64 (dgl (Y) 0 : Nat)]) ∧ Below w.heap.size w w')) (w : World) (hu : RlV w u neg 1 num 1 E 80) :
    Calls Tryz.prog 13 #[.int .i64 f, .int .i64 1, u] w fun e w' => e = .returned (.tuple #[.agg #[.int .u64 (dgl (Y) 1 : Nat), .int .u64 (dgl (Y) 0 : Nat)], .int .i64 20]) ∧ Below w.heap.size w w' := by
  obtain ⟨v1, v2, rfl, k1, k2⟩ := hu
  obtain ⟨ao1, lx1, ca1, rfl⟩ := k1.slice
  obtain ⟨ao2, lx2, ca2, rfl⟩ := k2.slice
  have HS := hide (rrSt_start neg E _ _ num w k1 k2 ⟨_, _, _, rfl⟩ ⟨_, _, _, rfl⟩ 45 29)
  clear k1 k2
  go_enter Tryz.func13, Tryz.ntmps13
  go_upto_region 1 with fail
  refine wp_gen (fun W => RrSt neg E (.slice ao1 lx1 ca1) (.slice ao2 lx2 ca2) num w W) HS.out ?_
  clear HS
  rintro W1 h1
  have HS := hide h1
  clear h1
  go_wp2_with fail
  refine (HPR.out _).mono ?_
  rintro e wl ⟨rfl, hw⟩
  subst wl
  have c0 := HS.out.r.c0
  have c1 := HS.out.r.c1
  have c2 := HS.out.r.c2
  have c3 := HS.out.r.c3
  have c4 := HS.out.r.c4
  go_wp2_with fail
  refine (HTP.out _ _ ⟨_, _, rfl, HS.out.b1, HS.out.b2⟩).mono ?_
  rintro e w2 ⟨rfl, hb2⟩
  replace HS := hide (HS.out.below hb2)
  clear hb2
  clear c0 c1 c2 c3 c4
  have c0 := HS.out.r.c0
  have c1 := HS.out.r.c1
  have c2 := HS.out.r.c2
  have c3 := HS.out.r.c3
  have c4 := HS.out.r.c4
  go_wp2_with fail
  refine (HAT.out _ _ ⟨_, _, rfl, HS.out.b1, HS.out.b2⟩).mono ?_
  rintro e w3 ⟨va, rfl, hva, hb3⟩
  obtain ⟨ao3, lx3, ca3, rfl⟩ := hva.slice
  have HV := hide hva
  replace HS := hide (HS.out.below hb3)
  clear hb3 hva
  clear c0 c1 c2 c3 c4
  go_wp2_with fail
  refine (HLN.out _ _ HV.out).mono ?_
  rintro e wl ⟨rfl, hw⟩
  subst wl
  go_wp2_with fail
  refine (HEM.out _).mono ?_
  rintro e wl ⟨rfl, hw⟩
  subst wl
  clear HV
  have c0 := HS.out.r.c0
  have c1 := HS.out.r.c1
  have c2 := HS.out.r.c2
  have c3 := HS.out.r.c3
  have c4 := HS.out.r.c4
  go_wp2_with fail
  refine (HIN.out _).mono ?_
  rintro e w4 ⟨rfl, hb4⟩
  replace HS := hide (HS.out.below hb4)
  clear hb4
  clear c0 c1 c2 c3 c4
  have o0 := HS.out.o0
  have o1 := HS.out.o1
  have ol := HS.out.ol
  have hof := HS.out.of
  have HBE := hide HS.out.bel
  clear HS
  go_wp2
  exact bodyPost_ret (v := .tuple #[.agg #[.int .u64 (dgl (Y) 1 : Nat), .int .u64 (dgl (Y) 0 : Nat)], .int .i64 20]) (by simp [results, Tryz.results13, go_sem, o0, o1, ol]) rfl ⟨rfl, (HBE.out.setCell (p := ⟨w.heap.size + 1, 0, none⟩) (Nat.le_succ _) _).setCell (p := ⟨w.heap.size + 1, 1, none⟩) (Nat.le_succ _) _⟩

set_option maxHeartbeats 4000000 in
theorem refRound_I2 (f m p T EM EN E : Int) (neg off off2 : Bool) (num U V X Y lU : Nat) (u : Value)
    (HPR : Hid (∀ w, Calls Tryz.prog 8 #[.int .i64 f] w fun e w' => e = .returned (.int .i64 p) ∧ w' = w))
    (HTP : Hid (∀ u w, RlV w u neg 1 num 1 E 80 → Calls Tryz.prog 34 #[u] w fun e w' => e = .returned (.int .i64 T) ∧ Below w.heap.size w w'))
    (hw1 : IntKind.i64.wrap (T - p) = T - p)
    (hw2 : IntKind.i64.wrap (T - p + 1) = T - p + 1)
    (HAT : Hid (∀ u w, RlV w u neg 1 num 1 E 80 → Calls Tryz.prog 35 #[u, .int .i64 (T - p + 1), .int .i64 p, .int .i64 2] w fun e w' => ∃ v, e = .returned (.tuple #[v, .bool off]) ∧ BigV w' v U 800 ∧ Below w.heap.size w w'))
    (HLN : Hid (∀ v w, BigV w v U 800 → Calls Tryz.prog 10 #[v] w fun e w' => e = .returned (.int .i64 (lU : Nat)) ∧ w' = w))
    (hw3 : IntKind.i64.wrap (T - p + 1 + (lU : Int)) = T - p + 1 + (lU : Int))
    (hw4 : IntKind.i64.wrap (T - p + 1 + (lU : Int) - 1) = T - p + 1 + (lU : Int) - 1)
    (HEM : Hid (∀ w, Calls Tryz.prog 36 #[.int .i64 f] w fun e w' => e = .returned (.int .i64 EM) ∧ w' = w))
    (hgt : EM < T - p + 1 + (lU : Int) - 1)
    (HIN : Hid (∀ w, Calls Tryz.prog 37 #[.int .i64 f, .bool neg] w fun e w' => e = .returned (.agg #[.int .u64 (dgl (Y) 1 : Nat), .int .u64 (dgl (Y) 0 : Nat)]) ∧ Below w.heap.size w w')) (w : World) (hu : RlV w u neg 1 num 1 E 80) :
    Calls Tryz.prog 13 #[.int .i64 f, .int .i64 2, u] w fun e w' => e = .returned (.tuple #[.agg #[.int .u64 (dgl (Y) 1 : Nat), .int .u64 (dgl (Y) 0 : Nat)], .int .i64 20]) ∧ Below w.heap.size w w' := by
  obtain ⟨v1, v2, rfl, k1, k2⟩ := hu
  obtain ⟨ao1, lx1, ca1, rfl⟩ := k1.slice
  obtain ⟨ao2, lx2, ca2, rfl⟩ := k2.slice
  have HS := hide (rrSt_start neg E _ _ num w k1 k2 ⟨_, _, _, rfl⟩ ⟨_, _, _, rfl⟩ 45 29)
  clear k1 k2
  go_enter Tryz.func13, Tryz.ntmps13
  go_upto_region 1 with fail
  refine wp_gen (fun W => RrSt neg E (.slice ao1 lx1 ca1) (.slice ao2 lx2 ca2) num w W) HS.out ?_
  clear HS
  rintro W1 h1
  have HS := hide h1
  clear h1
  go_wp2_with fail
  refine (HPR.out _).mono ?_
  rintro e wl ⟨rfl, hw⟩
  subst wl
  have c0 := HS.out.r.c0
  have c1 := HS.out.r.c1
  have c2 := HS.out.r.c2
  have c3 := HS.out.r.c3
  have c4 := HS.out.r.c4
  go_wp2_with fail
  refine (HTP.out _ _ ⟨_, _, rfl, HS.out.b1, HS.out.b2⟩).mono ?_
  rintro e w2 ⟨rfl, hb2⟩
  replace HS := hide (HS.out.below hb2)
  clear hb2
  clear c0 c1 c2 c3 c4
  have c0 := HS.out.r.c0
  have c1 := HS.out.r.c1
  have c2 := HS.out.r.c2
  have c3 := HS.out.r.c3
  have c4 := HS.out.r.c4
  go_wp2_with fail
  refine (HAT.out _ _ ⟨_, _, rfl, HS.out.b1, HS.out.b2⟩).mono ?_
  rintro e w3 ⟨va, rfl, hva, hb3⟩
  obtain ⟨ao3, lx3, ca3, rfl⟩ := hva.slice
  have HV := hide hva
  replace HS := hide (HS.out.below hb3)
  clear hb3 hva
  clear c0 c1 c2 c3 c4
  go_wp2_with fail
  refine (HLN.out _ _ HV.out).mono ?_
  rintro e wl ⟨rfl, hw⟩
  subst wl
  go_wp2_with fail
  refine (HEM.out _).mono ?_
  rintro e wl ⟨rfl, hw⟩
  subst wl
  clear HV
  have c0 := HS.out.r.c0
  have c1 := HS.out.r.c1
  have c2 := HS.out.r.c2
  have c3 := HS.out.r.c3
  have c4 := HS.out.r.c4
  go_wp2_with fail
  refine (HIN.out _).mono ?_
  rintro e w4 ⟨rfl, hb4⟩
  replace HS := hide (HS.out.below hb4)
  clear hb4
  clear c0 c1 c2 c3 c4
  have o0 := HS.out.o0
  have o1 := HS.out.o1
  have ol := HS.out.ol
  have hof := HS.out.of
  have HBE := hide HS.out.bel
  clear HS
  go_wp2
  exact bodyPost_ret (v := .tuple #[.agg #[.int .u64 (dgl (Y) 1 : Nat), .int .u64 (dgl (Y) 0 : Nat)], .int .i64 20]) (by simp [results, Tryz.results13, go_sem, o0, o1, ol]) rfl ⟨rfl, (HBE.out.setCell (p := ⟨w.heap.size + 1, 0, none⟩) (Nat.le_succ _) _).setCell (p := ⟨w.heap.size + 1, 1, none⟩) (Nat.le_succ _) _⟩

set_option maxHeartbeats 4000000 in
theorem refRound_M3 (f m p T EM EN E : Int) (neg off off2 : Bool) (num U V X Y lU : Nat) (u : Value)
    (HPR : Hid (∀ w, Calls Tryz.prog 8 #[.int .i64 f] w fun e w' => e = .returned (.int .i64 p) ∧ w' = w))
    (HTP : Hid (∀ u w, RlV w u neg 1 num 1 E 80 → Calls Tryz.prog 34 #[u] w fun e w' => e = .returned (.int .i64 T) ∧ Below w.heap.size w w'))
    (hw1 : IntKind.i64.wrap (T - p) = T - p)
    (hw2 : IntKind.i64.wrap (T - p + 1) = T - p + 1)
    (HAT : Hid (∀ u w, RlV w u neg 1 num 1 E 80 → Calls Tryz.prog 35 #[u, .int .i64 (T - p + 1), .int .i64 p, .int .i64 3] w fun e w' => ∃ v, e = .returned (.tuple #[v, .bool off]) ∧ BigV w' v U 800 ∧ Below w.heap.size w w'))
    (HLN : Hid (∀ v w, BigV w v U 800 → Calls Tryz.prog 10 #[v] w fun e w' => e = .returned (.int .i64 (lU : Nat)) ∧ w' = w))
    (hw3 : IntKind.i64.wrap (T - p + 1 + (lU : Int)) = T - p + 1 + (lU : Int))
    (hw4 : IntKind.i64.wrap (T - p + 1 + (lU : Int) - 1) = T - p + 1 + (lU : Int) - 1)
    (HEM : Hid (∀ w, Calls Tryz.prog 36 #[.int .i64 f] w fun e w' => e = .returned (.int .i64 EM) ∧ w' = w))
    (hgt : EM < T - p + 1 + (lU : Int) - 1)
    (HIN : Hid (∀ w, Calls Tryz.prog 38 #[.int .i64 f, .bool neg] w fun e w' => e = .returned (.agg #[.int .u64 (dgl (Y) 1 : Nat), .int .u64 (dgl (Y) 0 : Nat)]) ∧ Below w.heap.size w w')) (w : World) (hu : RlV w u neg 1 num 1 E 80) :
    Calls Tryz.prog 13 #[.int .i64 f, .int .i64 3, u] w fun e w' => e = .returned (.tuple #[.agg #[.int .u64 (dgl (Y) 1 : Nat), .int .u64 (dgl (Y) 0 : Nat)], .int .i64 20]) ∧ Below w.heap.size w w' := by
  obtain ⟨v1, v2, rfl, k1, k2⟩ := hu
  obtain ⟨ao1, lx1, ca1, rfl⟩ := k1.slice
  obtain ⟨ao2, lx2, ca2, rfl⟩ := k2.slice
  have HS := hide (rrSt_start neg E _ _ num w k1 k2 ⟨_, _, _, rfl⟩ ⟨_, _, _, rfl⟩ 45 29)
  clear k1 k2
  go_enter Tryz.func13, Tryz.ntmps13
  go_upto_region 1 with fail
  refine wp_gen (fun W => RrSt neg E (.slice ao1 lx1 ca1) (.slice ao2 lx2 ca2) num w W) HS.out ?_
  clear HS
  rintro W1 h1
  have HS := hide h1
  clear h1
  go_wp2_with fail
  refine (HPR.out _).mono ?_
  rintro e wl ⟨rfl, hw⟩
  subst wl
  have c0 := HS.out.r.c0
  have c1 := HS.out.r.c1
  have c2 := HS.out.r.c2
  have c3 := HS.out.r.c3
  have c4 := HS.out.r.c4
  go_wp2_with fail
  refine (HTP.out _ _ ⟨_, _, rfl, HS.out.b1, HS.out.b2⟩).mono ?_
  rintro e w2 ⟨rfl, hb2⟩
  replace HS := hide (HS.out.below hb2)
  clear hb2
  clear c0 c1 c2 c3 c4
  have c0 := HS.out.r.c0
  have c1 := HS.out.r.c1
  have c2 := HS.out.r.c2
  have c3 := HS.out.r.c3
  have c4 := HS.out.r.c4
  go_wp2_with fail
  refine (HAT.out _ _ ⟨_, _, rfl, HS.out.b1, HS.out.b2⟩).mono ?_
  rintro e w3 ⟨va, rfl, hva, hb3⟩
  obtain ⟨ao3, lx3, ca3, rfl⟩ := hva.slice
  have HV := hide hva
  replace HS := hide (HS.out.below hb3)
  clear hb3 hva
  clear c0 c1 c2 c3 c4
  go_wp2_with fail
  refine (HLN.out _ _ HV.out).mono ?_
  rintro e wl ⟨rfl, hw⟩
  subst wl
  go_wp2_with fail
  refine (HEM.out _).mono ?_
  rintro e wl ⟨rfl, hw⟩
  subst wl
  clear HV
  have c0 := HS.out.r.c0
  have c1 := HS.out.r.c1
  have c2 := HS.out.r.c2
  have c3 := HS.out.r.c3
  have c4 := HS.out.r.c4
  go_wp2_with fail
  refine (HIN.out _).mono ?_
  rintro e w4 ⟨rfl, hb4⟩
  replace HS := hide (HS.out.below hb4)
  clear hb4
  clear c0 c1 c2 c3 c4
  have o0 := HS.out.o0
  have o1 := HS.out.o1
  have ol := HS.out.ol
  have hof := HS.out.of
  have HBE := hide HS.out.bel
  clear HS
  go_wp2
  exact bodyPost_ret (v := .tuple #[.agg #[.int .u64 (dgl (Y) 1 : Nat), .int .u64 (dgl (Y) 0 : Nat)], .int .i64 20]) (by simp [results, Tryz.results13, go_sem, o0, o1, ol]) rfl ⟨rfl, (HBE.out.setCell (p := ⟨w.heap.size + 1, 0, none⟩) (Nat.le_succ _) _).setCell (p := ⟨w.heap.size + 1, 1, none⟩) (Nat.le_succ _) _⟩

set_option maxHeartbeats 4000000 in
theorem refRound_I4 (f m p T EM EN E : Int) (neg off off2 : Bool) (num U V X Y lU : Nat) (u : Value)
    (HPR : Hid (∀ w, Calls Tryz.prog 8 #[.int .i64 f] w fun e w' => e = .returned (.int .i64 p) ∧ w' = w))
    (HTP : Hid (∀ u w, RlV w u false 1 num 1 E 80 → Calls Tryz.prog 34 #[u] w fun e w' => e = .returned (.int .i64 T) ∧ Below w.heap.size w w'))
    (hw1 : IntKind.i64.wrap (T - p) = T - p)
    (hw2 : IntKind.i64.wrap (T - p + 1) = T - p + 1)
    (HAT : Hid (∀ u w, RlV w u false 1 num 1 E 80 → Calls Tryz.prog 35 #[u, .int .i64 (T - p + 1), .int .i64 p, .int .i64 4] w fun e w' => ∃ v, e = .returned (.tuple #[v, .bool off]) ∧ BigV w' v U 800 ∧ Below w.heap.size w w'))
    (HLN : Hid (∀ v w, BigV w v U 800 → Calls Tryz.prog 10 #[v] w fun e w' => e = .returned (.int .i64 (lU : Nat)) ∧ w' = w))
    (hw3 : IntKind.i64.wrap (T - p + 1 + (lU : Int)) = T - p + 1 + (lU : Int))
    (hw4 : IntKind.i64.wrap (T - p + 1 + (lU : Int) - 1) = T - p + 1 + (lU : Int) - 1)
    (HEM : Hid (∀ w, Calls Tryz.prog 36 #[.int .i64 f] w fun e w' => e = .returned (.int .i64 EM) ∧ w' = w))
    (hgt : EM < T - p + 1 + (lU : Int) - 1)
    (HIN : Hid (∀ w, Calls Tryz.prog 37 #[.int .i64 f, .bool false] w fun e w' => e = .returned (.agg #[.int .u64 (dgl (Y) 1 : Nat), .int .u64 (dgl (Y) 0 : Nat)]) ∧ Below w.heap.size w w')) (w : World) (hu : RlV w u false 1 num 1 E 80) :
    Calls Tryz.prog 13 #[.int .i64 f, .int .i64 4, u] w fun e w' => e = .returned (.tuple #[.agg #[.int .u64 (dgl (Y) 1 : Nat), .int .u64 (dgl (Y) 0 : Nat)], .int .i64 20]) ∧ Below w.heap.size w w' := by
  obtain ⟨v1, v2, rfl, k1, k2⟩ := hu
  obtain ⟨ao1, lx1, ca1, rfl⟩ := k1.slice
  obtain ⟨ao2, lx2, ca2, rfl⟩ := k2.slice
  have HS := hide (rrSt_start false E _ _ num w k1 k2 ⟨_, _, _, rfl⟩ ⟨_, _, _, rfl⟩ 45 29)
  clear k1 k2
  go_enter Tryz.func13, Tryz.ntmps13
  go_upto_region 1 with fail
  refine wp_gen (fun W => RrSt false E (.slice ao1 lx1 ca1) (.slice ao2 lx2 ca2) num w W) HS.out ?_
  clear HS
  rintro W1 h1
  have HS := hide h1
  clear h1
  go_wp2_with fail
  refine (HPR.out _).mono ?_
  rintro e wl ⟨rfl, hw⟩
  subst wl
  have c0 := HS.out.r.c0
  have c1 := HS.out.r.c1
  have c2 := HS.out.r.c2
  have c3 := HS.out.r.c3
  have c4 := HS.out.r.c4
  go_wp2_with fail
  refine (HTP.out _ _ ⟨_, _, rfl, HS.out.b1, HS.out.b2⟩).mono ?_
  rintro e w2 ⟨rfl, hb2⟩
  replace HS := hide (HS.out.below hb2)
  clear hb2
  clear c0 c1 c2 c3 c4
  have c0 := HS.out.r.c0
  have c1 := HS.out.r.c1
  have c2 := HS.out.r.c2
  have c3 := HS.out.r.c3
  have c4 := HS.out.r.c4
  go_wp2_with fail
  refine (HAT.out _ _ ⟨_, _, rfl, HS.out.b1, HS.out.b2⟩).mono ?_
  rintro e w3 ⟨va, rfl, hva, hb3⟩
  obtain ⟨ao3, lx3, ca3, rfl⟩ := hva.slice
  have HV := hide hva
  replace HS := hide (HS.out.below hb3)
  clear hb3 hva
  clear c0 c1 c2 c3 c4
  go_wp2_with fail
  refine (HLN.out _ _ HV.out).mono ?_
  rintro e wl ⟨rfl, hw⟩
  subst wl
  go_wp2_with fail
  refine (HEM.out _).mono ?_
  rintro e wl ⟨rfl, hw⟩
  subst wl
  clear HV
  have c0 := HS.out.r.c0
  have c1 := HS.out.r.c1
  have c2 := HS.out.r.c2
  have c3 := HS.out.r.c3
  have c4 := HS.out.r.c4
  go_wp2_with fail
  refine (HIN.out _).mono ?_
  rintro e w4 ⟨rfl, hb4⟩
  replace HS := hide (HS.out.below hb4)
  clear hb4
  clear c0 c1 c2 c3 c4
  have o0 := HS.out.o0
  have o1 := HS.out.o1
  have ol := HS.out.ol
  have hof := HS.out.of
  have HBE := hide HS.out.bel
  clear HS
  go_wp2
  exact bodyPost_ret (v := .tuple #[.agg #[.int .u64 (dgl (Y) 1 : Nat), .int .u64 (dgl (Y) 0 : Nat)], .int .i64 20]) (by simp [results, Tryz.results13, go_sem, o0, o1, ol]) rfl ⟨rfl, (HBE.out.setCell (p := ⟨w.heap.size + 1, 0, none⟩) (Nat.le_succ _) _).setCell (p := ⟨w.heap.size + 1, 1, none⟩) (Nat.le_succ _) _⟩

set_option maxHeartbeats 4000000 in
theorem refRound_M4 (f m p T EM EN E : Int) (neg off off2 : Bool) (num U V X Y lU : Nat) (u : Value)
    (HPR : Hid (∀ w, Calls Tryz.prog 8 #[.int .i64 f] w fun e w' => e = .returned (.int .i64 p) ∧ w' = w))
    (HTP : Hid (∀ u w, RlV w u true 1 num 1 E 80 → Calls Tryz.prog 34 #[u] w fun e w' => e = .returned (.int .i64 T) ∧ Below w.heap.size w w'))
    (hw1 : IntKind.i64.wrap (T - p) = T - p)
    (hw2 : IntKind.i64.wrap (T - p + 1) = T - p + 1)
    (HAT : Hid (∀ u w, RlV w u true 1 num 1 E 80 → Calls Tryz.prog 35 #[u, .int .i64 (T - p + 1), .int .i64 p, .int .i64 4] w fun e w' => ∃ v, e = .returned (.tuple #[v, .bool off]) ∧ BigV w' v U 800 ∧ Below w.heap.size w w'))
    (HLN : Hid (∀ v w, BigV w v U 800 → Calls Tryz.prog 10 #[v] w fun e w' => e = .returned (.int .i64 (lU : Nat)) ∧ w' = w))
    (hw3 : IntKind.i64.wrap (T - p + 1 + (lU : Int)) = T - p + 1 + (lU : Int))
    (hw4 : IntKind.i64.wrap (T - p + 1 + (lU : Int) - 1) = T - p + 1 + (lU : Int) - 1)
    (HEM : Hid (∀ w, Calls Tryz.prog 36 #[.int .i64 f] w fun e w' => e = .returned (.int .i64 EM) ∧ w' = w))
    (hgt : EM < T - p + 1 + (lU : Int) - 1)
    (HIN : Hid (∀ w, Calls Tryz.prog 38 #[.int .i64 f, .bool true] w fun e w' => e = .returned (.agg #[.int .u64 (dgl (Y) 1 : Nat), .int .u64 (dgl (Y) 0 : Nat)]) ∧ Below w.heap.size w w')) (w : World) (hu : RlV w u true 1 num 1 E 80) :
    Calls Tryz.prog 13 #[.int .i64 f, .int .i64 4, u] w fun e w' => e = .returned (.tuple #[.agg #[.int .u64 (dgl (Y) 1 : Nat), .int .u64 (dgl (Y) 0 : Nat)], .int .i64 20]) ∧ Below w.heap.size w w' := by
  obtain ⟨v1, v2, rfl, k1, k2⟩ := hu
  obtain ⟨ao1, lx1, ca1, rfl⟩ := k1.slice
  obtain ⟨ao2, lx2, ca2, rfl⟩ := k2.slice
  have HS := hide (rrSt_start true E _ _ num w k1 k2 ⟨_, _, _, rfl⟩ ⟨_, _, _, rfl⟩ 45 29)
  clear k1 k2
  go_enter Tryz.func13, Tryz.ntmps13
  go_upto_region 1 with fail
  refine wp_gen (fun W => RrSt true E (.slice ao1 lx1 ca1) (.slice ao2 lx2 ca2) num w W) HS.out ?_
  clear HS
  rintro W1 h1
  have HS := hide h1
  clear h1
  go_wp2_with fail
  refine (HPR.out _).mono ?_
  rintro e wl ⟨rfl, hw⟩
  subst wl
  have c0 := HS.out.r.c0
  have c1 := HS.out.r.c1
  have c2 := HS.out.r.c2
  have c3 := HS.out.r.c3
  have c4 := HS.out.r.c4
  go_wp2_with fail
  refine (HTP.out _ _ ⟨_, _, rfl, HS.out.b1, HS.out.b2⟩).mono ?_
  rintro e w2 ⟨rfl, hb2⟩
  replace HS := hide (HS.out.below hb2)
  clear hb2
  clear c0 c1 c2 c3 c4
  have c0 := HS.out.r.c0
  have c1 := HS.out.r.c1
  have c2 := HS.out.r.c2
  have c3 := HS.out.r.c3
  have c4 := HS.out.r.c4
  go_wp2_with fail
  refine (HAT.out _ _ ⟨_, _, rfl, HS.out.b1, HS.out.b2⟩).mono ?_
  rintro e w3 ⟨va, rfl, hva, hb3⟩
  obtain ⟨ao3, lx3, ca3, rfl⟩ := hva.slice
  have HV := hide hva
  replace HS := hide (HS.out.below hb3)
  clear hb3 hva
  clear c0 c1 c2 c3 c4
  go_wp2_with fail
  refine (HLN.out _ _ HV.out).mono ?_
  rintro e wl ⟨rfl, hw⟩
  subst wl
  go_wp2_with fail
  refine (HEM.out _).mono ?_
  rintro e wl ⟨rfl, hw⟩
  subst wl
  clear HV
  have c0 := HS.out.r.c0
  have c1 := HS.out.r.c1
  have c2 := HS.out.r.c2
  have c3 := HS.out.r.c3
  have c4 := HS.out.r.c4
  go_wp2_with fail
  refine (HIN.out _).mono ?_
  rintro e w4 ⟨rfl, hb4⟩
  replace HS := hide (HS.out.below hb4)
  clear hb4
  clear c0 c1 c2 c3 c4
  have o0 := HS.out.o0
  have o1 := HS.out.o1
  have ol := HS.out.ol
  have hof := HS.out.of
  have HBE := hide HS.out.bel
  clear HS
  go_wp2
  exact bodyPost_ret (v := .tuple #[.agg #[.int .u64 (dgl (Y) 1 : Nat), .int .u64 (dgl (Y) 0 : Nat)], .int .i64 20]) (by simp [results, Tryz.results13, go_sem, o0, o1, ol]) rfl ⟨rfl, (HBE.out.setCell (p := ⟨w.heap.size + 1, 0, none⟩) (Nat.le_succ _) _).setCell (p := ⟨w.heap.size + 1, 1, none⟩) (Nat.le_succ _) _⟩

set_option maxHeartbeats 4000000 in
theorem refRound_I5 (f m p T EM EN E : Int) (neg off off2 : Bool) (num U V X Y lU : Nat) (u : Value)
    (HPR : Hid (∀ w, Calls Tryz.prog 8 #[.int .i64 f] w fun e w' => e = .returned (.int .i64 p) ∧ w' = w))
    (HTP : Hid (∀ u w, RlV w u true 1 num 1 E 80 → Calls Tryz.prog 34 #[u] w fun e w' => e = .returned (.int .i64 T) ∧ Below w.heap.size w w'))
    (hw1 : IntKind.i64.wrap (T - p) = T - p)
    (hw2 : IntKind.i64.wrap (T - p + 1) = T - p + 1)
    (HAT : Hid (∀ u w, RlV w u true 1 num 1 E 80 → Calls Tryz.prog 35 #[u, .int .i64 (T - p + 1), .int .i64 p, .int .i64 5] w fun e w' => ∃ v, e = .returned (.tuple #[v, .bool off]) ∧ BigV w' v U 800 ∧ Below w.heap.size w w'))
    (HLN : Hid (∀ v w, BigV w v U 800 → Calls Tryz.prog 10 #[v] w fun e w' => e = .returned (.int .i64 (lU : Nat)) ∧ w' = w))
    (hw3 : IntKind.i64.wrap (T - p + 1 + (lU : Int)) = T - p + 1 + (lU : Int))
    (hw4 : IntKind.i64.wrap (T - p + 1 + (lU : Int) - 1) = T - p + 1 + (lU : Int) - 1)
    (HEM : Hid (∀ w, Calls Tryz.prog 36 #[.int .i64 f] w fun e w' => e = .returned (.int .i64 EM) ∧ w' = w))
    (hgt : EM < T - p + 1 + (lU : Int) - 1)
    (HIN : Hid (∀ w, Calls Tryz.prog 37 #[.int .i64 f, .bool true] w fun e w' => e = .returned (.agg #[.int .u64 (dgl (Y) 1 : Nat), .int .u64 (dgl (Y) 0 : Nat)]) ∧ Below w.heap.size w w')) (w : World) (hu : RlV w u true 1 num 1 E 80) :
    Calls Tryz.prog 13 #[.int .i64 f, .int .i64 5, u] w fun e w' => e = .returned (.tuple #[.agg #[.int .u64 (dgl (Y) 1 : Nat), .int .u64 (dgl (Y) 0 : Nat)], .int .i64 20]) ∧ Below w.heap.size w w' := by
  obtain ⟨v1, v2, rfl, k1, k2⟩ := hu
  obtain ⟨ao1, lx1, ca1, rfl⟩ := k1.slice
  obtain ⟨ao2, lx2, ca2, rfl⟩ := k2.slice
  have HS := hide (rrSt_start true E _ _ num w k1 k2 ⟨_, _, _, rfl⟩ ⟨_, _, _, rfl⟩ 45 29)
  clear k1 k2
  go_enter Tryz.func13, Tryz.ntmps13
  go_upto_region 1 with fail
  refine wp_gen (fun W => RrSt true E (.slice ao1 lx1 ca1) (.slice ao2 lx2 ca2) num w W) HS.out ?_
  clear HS
  rintro W1 h1
  have HS := hide h1
  clear h1
  go_wp2_with fail
  refine (HPR.out _).mono ?_
  rintro e wl ⟨rfl, hw⟩
  subst wl
  have c0 := HS.out.r.c0
  have c1 := HS.out.r.c1
  have c2 := HS.out.r.c2
  have c3 := HS.out.r.c3
  have c4 := HS.out.r.c4
  go_wp2_with fail
  refine (HTP.out _ _ ⟨_, _, rfl, HS.out.b1, HS.out.b2⟩).mono ?_
  rintro e w2 ⟨rfl, hb2⟩
  replace HS := hide (HS.out.below hb2)
  clear hb2
  clear c0 c1 c2 c3 c4
  have c0 := HS.out.r.c0
  have c1 := HS.out.r.c1
  have c2 := HS.out.r.c2
  have c3 := HS.out.r.c3
  have c4 := HS.out.r.c4
  go_wp2_with fail
  refine (HAT.out _ _ ⟨_, _, rfl, HS.out.b1, HS.out.b2⟩).mono ?_
  rintro e w3 ⟨va, rfl, hva, hb3⟩
  obtain ⟨ao3, lx3, ca3, rfl⟩ := hva.slice
  have HV := hide hva
  replace HS := hide (HS.out.below hb3)
  clear hb3 hva
  clear c0 c1 c2 c3 c4
  go_wp2_with fail
  refine (HLN.out _ _ HV.out).mono ?_
  rintro e wl ⟨rfl, hw⟩
  subst wl
  go_wp2_with fail
  refine (HEM.out _).mono ?_
  rintro e wl ⟨rfl, hw⟩
  subst wl
  clear HV
  have c0 := HS.out.r.c0
  have c1 := HS.out.r.c1
  have c2 := HS.out.r.c2
  have c3 := HS.out.r.c3
  have c4 := HS.out.r.c4
  go_wp2_with fail
  refine (HIN.out _).mono ?_
  rintro e w4 ⟨rfl, hb4⟩
  replace HS := hide (HS.out.below hb4)
  clear hb4
  clear c0 c1 c2 c3 c4
  have o0 := HS.out.o0
  have o1 := HS.out.o1
  have ol := HS.out.ol
  have hof := HS.out.of
  have HBE := hide HS.out.bel
  clear HS
  go_wp2
  exact bodyPost_ret (v := .tuple #[.agg #[.int .u64 (dgl (Y) 1 : Nat), .int .u64 (dgl (Y) 0 : Nat)], .int .i64 20]) (by simp [results, Tryz.results13, go_sem, o0, o1, ol]) rfl ⟨rfl, (HBE.out.setCell (p := ⟨w.heap.size + 1, 0, none⟩) (Nat.le_succ _) _).setCell (p := ⟨w.heap.size + 1, 1, none⟩) (Nat.le_succ _) _⟩

set_option maxHeartbeats 4000000 in
theorem refRound_M5 (f m p T EM EN E : Int) (neg off off2 : Bool) (num U V X Y lU : Nat) (u : Value)
    (HPR : Hid (∀ w, Calls Tryz.prog 8 #[.int .i64 f] w fun e w' => e = .returned (.int .i64 p) ∧ w' = w))
    (HTP : Hid (∀ u w, RlV w u false 1 num 1 E 80 → Calls Tryz.prog 34 #[u] w fun e w' => e = .returned (.int .i64 T) ∧ Below w.heap.size w w'))
    (hw1 : IntKind.i64.wrap (T - p) = T - p)
    (hw2 : IntKind.i64.wrap (T - p + 1) = T - p + 1)
    (HAT : Hid (∀ u w, RlV w u false 1 num 1 E 80 → Calls Tryz.prog 35 #[u, .int .i64 (T - p + 1), .int .i64 p, .int .i64 5] w fun e w' => ∃ v, e = .returned (.tuple #[v, .bool off]) ∧ BigV w' v U 800 ∧ Below w.heap.size w w'))
    (HLN : Hid (∀ v w, BigV w v U 800 → Calls Tryz.prog 10 #[v] w fun e w' => e = .returned (.int .i64 (lU : Nat)) ∧ w' = w))
    (hw3 : IntKind.i64.wrap (T - p + 1 + (lU : Int)) = T - p + 1 + (lU : Int))
    (hw4 : IntKind.i64.wrap (T - p + 1 + (lU : Int) - 1) = T - p + 1 + (lU : Int) - 1)
    (HEM : Hid (∀ w, Calls Tryz.prog 36 #[.int .i64 f] w fun e w' => e = .returned (.int .i64 EM) ∧ w' = w))
    (hgt : EM < T - p + 1 + (lU : Int) - 1)
    (HIN : Hid (∀ w, Calls Tryz.prog 38 #[.int .i64 f, .bool false] w fun e w' => e = .returned (.agg #[.int .u64 (dgl (Y) 1 : Nat), .int .u64 (dgl (Y) 0 : Nat)]) ∧ Below w.heap.size w w')) (w : World) (hu : RlV w u false 1 num 1 E 80) :
    Calls Tryz.prog 13 #[.int .i64 f, .int .i64 5, u] w fun e w' => e = .returned (.tuple #[.agg #[.int .u64 (dgl (Y) 1 : Nat), .int .u64 (dgl (Y) 0 : Nat)], .int .i64 20]) ∧ Below w.heap.size w w' := by
  obtain ⟨v1, v2, rfl, k1, k2⟩ := hu
  obtain ⟨ao1, lx1, ca1, rfl⟩ := k1.slice
  obtain ⟨ao2, lx2, ca2, rfl⟩ := k2.slice
  have HS := hide (rrSt_start false E _ _ num w k1 k2 ⟨_, _, _, rfl⟩ ⟨_, _, _, rfl⟩ 45 29)
  clear k1 k2
  go_enter Tryz.func13, Tryz.ntmps13
  go_upto_region 1 with fail
  refine wp_gen (fun W => RrSt false E (.slice ao1 lx1 ca1) (.slice ao2 lx2 ca2) num w W) HS.out ?_
  clear HS
  rintro W1 h1
  have HS := hide h1
  clear h1
  go_wp2_with fail
  refine (HPR.out _).mono ?_
  rintro e wl ⟨rfl, hw⟩
  subst wl
  have c0 := HS.out.r.c0
  have c1 := HS.out.r.c1
  have c2 := HS.out.r.c2
  have c3 := HS.out.r.c3
  have c4 := HS.out.r.c4
  go_wp2_with fail
  refine (HTP.out _ _ ⟨_, _, rfl, HS.out.b1, HS.out.b2⟩).mono ?_
  rintro e w2 ⟨rfl, hb2⟩
  replace HS := hide (HS.out.below hb2)
  clear hb2
  clear c0 c1 c2 c3 c4
  have c0 := HS.out.r.c0
  have c1 := HS.out.r.c1
  have c2 := HS.out.r.c2
  have c3 := HS.out.r.c3
  have c4 := HS.out.r.c4
  go_wp2_with fail
  refine (HAT.out _ _ ⟨_, _, rfl, HS.out.b1, HS.out.b2⟩).mono ?_
  rintro e w3 ⟨va, rfl, hva, hb3⟩
  obtain ⟨ao3, lx3, ca3, rfl⟩ := hva.slice
  have HV := hide hva
  replace HS := hide (HS.out.below hb3)
  clear hb3 hva
  clear c0 c1 c2 c3 c4
  go_wp2_with fail
  refine (HLN.out _ _ HV.out).mono ?_
  rintro e wl ⟨rfl, hw⟩
  subst wl
  go_wp2_with fail
  refine (HEM.out _).mono ?_
  rintro e wl ⟨rfl, hw⟩
  subst wl
  clear HV
  have c0 := HS.out.r.c0
  have c1 := HS.out.r.c1
  have c2 := HS.out.r.c2
  have c3 := HS.out.r.c3
  have c4 := HS.out.r.c4
  go_wp2_with fail
  refine (HIN.out _).mono ?_
  rintro e w4 ⟨rfl, hb4⟩
  replace HS := hide (HS.out.below hb4)
  clear hb4
  clear c0 c1 c2 c3 c4
  have o0 := HS.out.o0
  have o1 := HS.out.o1
  have ol := HS.out.ol
  have hof := HS.out.of
  have HBE := hide HS.out.bel
  clear HS
  go_wp2
  exact bodyPost_ret (v := .tuple #[.agg #[.int .u64 (dgl (Y) 1 : Nat), .int .u64 (dgl (Y) 0 : Nat)], .int .i64 20]) (by simp [results, Tryz.results13, go_sem, o0, o1, ol]) rfl ⟨rfl, (HBE.out.setCell (p := ⟨w.heap.size + 1, 0, none⟩) (Nat.le_succ _) _).setCell (p := ⟨w.heap.size + 1, 1, none⟩) (Nat.le_succ _) _⟩

set_option maxHeartbeats 4000000 in
theorem refRound_N0 (f m p T EM EN E : Int) (neg off off2 : Bool) (num U V X Y lU : Nat) (u : Value)
    (HPR : Hid (∀ w, Calls Tryz.prog 8 #[.int .i64 f] w fun e w' => e = .returned (.int .i64 p) ∧ w' = w))
    (HTP : Hid (∀ u w, RlV w u neg 1 num 1 E 80 → Calls Tryz.prog 34 #[u] w fun e w' => e = .returned (.int .i64 T) ∧ Below w.heap.size w w'))
    (hw1 : IntKind.i64.wrap (T - p) = T - p)
    (hw2 : IntKind.i64.wrap (T - p + 1) = T - p + 1)
    (HAT : Hid (∀ u w, RlV w u neg 1 num 1 E 80 → Calls Tryz.prog 35 #[u, .int .i64 (T - p + 1), .int .i64 p, .int .i64 m] w fun e w' => ∃ v, e = .returned (.tuple #[v, .bool false]) ∧ BigV w' v U 800 ∧ Below w.heap.size w w'))
    (HLN : Hid (∀ v w, BigV w v U 800 → Calls Tryz.prog 10 #[v] w fun e w' => e = .returned (.int .i64 (lU : Nat)) ∧ w' = w))
    (hw3 : IntKind.i64.wrap (T - p + 1 + (lU : Int)) = T - p + 1 + (lU : Int))
    (hw4 : IntKind.i64.wrap (T - p + 1 + (lU : Int) - 1) = T - p + 1 + (lU : Int) - 1)
    (HEM : Hid (∀ w, Calls Tryz.prog 36 #[.int .i64 f] w fun e w' => e = .returned (.int .i64 EM) ∧ w' = w))
    (hgt : ¬ EM < T - p + 1 + (lU : Int) - 1)
    (HEN : Hid (∀ w, Calls Tryz.prog 39 #[.int .i64 f] w fun e w' => e = .returned (.int .i64 EN) ∧ w' = w))
    (hlt : ¬ T - p + 1 + (lU : Int) - 1 < EN)
    (HFI : Hid (∀ u w, NumV w u false (T - p + 1) U 800 → Calls Tryz.prog 40 #[.int .i64 f, u] w fun e w' => e = .returned (.agg #[.int .u64 (dgl (X) 1 : Nat), .int .u64 (dgl (X) 0 : Nat)]) ∧ Below w.heap.size w w'))
    (HSG : Hid (∀ w, Calls Tryz.prog 41 #[.int .i64 f, .agg #[.int .u64 (dgl (X) 1 : Nat), .int .u64 (dgl (X) 0 : Nat)], .bool neg] w fun e w' => e = .returned (.agg #[.int .u64 (dgl (Y) 1 : Nat), .int .u64 (dgl (Y) 0 : Nat)]) ∧ Below w.heap.size w w')) (w : World) (hu : RlV w u neg 1 num 1 E 80) :
    Calls Tryz.prog 13 #[.int .i64 f, .int .i64 m, u] w fun e w' => e = .returned (.tuple #[.agg #[.int .u64 (dgl (Y) 1 : Nat), .int .u64 (dgl (Y) 0 : Nat)], .int .i64 0]) ∧ Below w.heap.size w w' := by
  obtain ⟨v1, v2, rfl, k1, k2⟩ := hu
  obtain ⟨ao1, lx1, ca1, rfl⟩ := k1.slice
  obtain ⟨ao2, lx2, ca2, rfl⟩ := k2.slice
  have HS := hide (rrSt_start neg E _ _ num w k1 k2 ⟨_, _, _, rfl⟩ ⟨_, _, _, rfl⟩ 45 29)
  clear k1 k2
  go_enter Tryz.func13, Tryz.ntmps13
  go_upto_region 1 with fail
  refine wp_gen (fun W => RrSt neg E (.slice ao1 lx1 ca1) (.slice ao2 lx2 ca2) num w W) HS.out ?_
  clear HS
  rintro W1 h1
  have HS := hide h1
  clear h1
  go_wp2_with fail
  refine (HPR.out _).mono ?_
  rintro e wl ⟨rfl, hw⟩
  subst wl
  have c0 := HS.out.r.c0
  have c1 := HS.out.r.c1
  have c2 := HS.out.r.c2
  have c3 := HS.out.r.c3
  have c4 := HS.out.r.c4
  go_wp2_with fail
  refine (HTP.out _ _ ⟨_, _, rfl, HS.out.b1, HS.out.b2⟩).mono ?_
  rintro e w2 ⟨rfl, hb2⟩
  replace HS := hide (HS.out.below hb2)
  clear hb2
  clear c0 c1 c2 c3 c4
  have c0 := HS.out.r.c0
  have c1 := HS.out.r.c1
  have c2 := HS.out.r.c2
  have c3 := HS.out.r.c3
  have c4 := HS.out.r.c4
  go_wp2_with fail
  refine (HAT.out _ _ ⟨_, _, rfl, HS.out.b1, HS.out.b2⟩).mono ?_
  rintro e w3 ⟨va, rfl, hva, hb3⟩
  obtain ⟨ao3, lx3, ca3, rfl⟩ := hva.slice
  have HV := hide hva
  replace HS := hide (HS.out.below hb3)
  clear hb3 hva
  clear c0 c1 c2 c3 c4
  go_wp2_with fail
  refine (HLN.out _ _ HV.out).mono ?_
  rintro e wl ⟨rfl, hw⟩
  subst wl
  go_wp2_with fail
  refine (HEM.out _).mono ?_
  rintro e wl ⟨rfl, hw⟩
  subst wl
  go_wp2_with fail
  refine (HEN.out _).mono ?_
  rintro e wl ⟨rfl, hw⟩
  subst wl
  go_wp2_with fail
  refine (HFI.out _ _ ⟨_, rfl, HV.out⟩).mono ?_
  rintro e w6 ⟨rfl, hb6⟩
  replace HS := hide (HS.out.below hb6)
  clear hb6 HV
  go_upto_region 18 with fail
  refine wp_gen (fun W => RrSt neg E (.slice ao1 lx1 ca1) (.slice ao2 lx2 ca2) num w W ∧ WB W w6.heap.size (dgl X 1) (dgl X 0)) ⟨HS.out.below (below_allocs _ _), wb_new2 _ _ _ _⟩ ?_
  clear HS
  generalize w6.heap.size = p14 at *
  rintro W7 ⟨g1, g2⟩
  have HS := hide g1
  have lh := g2.h
  have ll := g2.l
  clear g1 g2
  have c0 := HS.out.r.c0
  have c1 := HS.out.r.c1
  have c2 := HS.out.r.c2
  have c3 := HS.out.r.c3
  have c4 := HS.out.r.c4
  go_wp2_with fail
  refine (HSG.out _).mono ?_
  rintro e w8 ⟨rfl, hb8⟩
  replace HS := hide (HS.out.below hb8)
  clear hb8 lh ll
  clear c0 c1 c2 c3 c4
  have o0 := HS.out.o0
  have o1 := HS.out.o1
  have ol := HS.out.ol
  have hof := HS.out.of
  have HBE := hide HS.out.bel
  clear HS
  go_wp2
  exact bodyPost_ret (v := .tuple #[.agg #[.int .u64 (dgl (Y) 1 : Nat), .int .u64 (dgl (Y) 0 : Nat)], .int .i64 0]) (by simp [results, Tryz.results13, go_sem, o0, o1, ol]) rfl ⟨rfl, (HBE.out.setCell (p := ⟨w.heap.size + 1, 0, none⟩) (Nat.le_succ _) _).setCell (p := ⟨w.heap.size + 1, 1, none⟩) (Nat.le_succ _) _⟩

set_option maxHeartbeats 4000000 in
theorem refRound_N1 (f m p T EM EN E : Int) (neg off off2 : Bool) (num U V X Y lU : Nat) (u : Value)
    (HPR : Hid (∀ w, Calls Tryz.prog 8 #[.int .i64 f] w fun e w' => e = .returned (.int .i64 p) ∧ w' = w))
    (HTP : Hid (∀ u w, RlV w u neg 1 num 1 E 80 → Calls Tryz.prog 34 #[u] w fun e w' => e = .returned (.int .i64 T) ∧ Below w.heap.size w w'))
    (hw1 : IntKind.i64.wrap (T - p) = T - p)
    (hw2 : IntKind.i64.wrap (T - p + 1) = T - p + 1)
    (HAT : Hid (∀ u w, RlV w u neg 1 num 1 E 80 → Calls Tryz.prog 35 #[u, .int .i64 (T - p + 1), .int .i64 p, .int .i64 m] w fun e w' => ∃ v, e = .returned (.tuple #[v, .bool true]) ∧ BigV w' v U 800 ∧ Below w.heap.size w w'))
    (HLN : Hid (∀ v w, BigV w v U 800 → Calls Tryz.prog 10 #[v] w fun e w' => e = .returned (.int .i64 (lU : Nat)) ∧ w' = w))
    (hw3 : IntKind.i64.wrap (T - p + 1 + (lU : Int)) = T - p + 1 + (lU : Int))
    (hw4 : IntKind.i64.wrap (T - p + 1 + (lU : Int) - 1) = T - p + 1 + (lU : Int) - 1)
    (HEM : Hid (∀ w, Calls Tryz.prog 36 #[.int .i64 f] w fun e w' => e = .returned (.int .i64 EM) ∧ w' = w))
    (hgt : ¬ EM < T - p + 1 + (lU : Int) - 1)
    (HEN : Hid (∀ w, Calls Tryz.prog 39 #[.int .i64 f] w fun e w' => e = .returned (.int .i64 EN) ∧ w' = w))
    (hlt : ¬ T - p + 1 + (lU : Int) - 1 < EN)
    (HFI : Hid (∀ u w, NumV w u false (T - p + 1) U 800 → Calls Tryz.prog 40 #[.int .i64 f, u] w fun e w' => e = .returned (.agg #[.int .u64 (dgl (X) 1 : Nat), .int .u64 (dgl (X) 0 : Nat)]) ∧ Below w.heap.size w w'))
    (HSG : Hid (∀ w, Calls Tryz.prog 41 #[.int .i64 f, .agg #[.int .u64 (dgl (X) 1 : Nat), .int .u64 (dgl (X) 0 : Nat)], .bool neg] w fun e w' => e = .returned (.agg #[.int .u64 (dgl (Y) 1 : Nat), .int .u64 (dgl (Y) 0 : Nat)]) ∧ Below w.heap.size w w')) (w : World) (hu : RlV w u neg 1 num 1 E 80) :
    Calls Tryz.prog 13 #[.int .i64 f, .int .i64 m, u] w fun e w' => e = .returned (.tuple #[.agg #[.int .u64 (dgl (Y) 1 : Nat), .int .u64 (dgl (Y) 0 : Nat)], .int .i64 16]) ∧ Below w.heap.size w w' := by
  obtain ⟨v1, v2, rfl, k1, k2⟩ := hu
  obtain ⟨ao1, lx1, ca1, rfl⟩ := k1.slice
  obtain ⟨ao2, lx2, ca2, rfl⟩ := k2.slice
  have HS := hide (rrSt_start neg E _ _ num w k1 k2 ⟨_, _, _, rfl⟩ ⟨_, _, _, rfl⟩ 45 29)
  clear k1 k2
  go_enter Tryz.func13, Tryz.ntmps13
  go_upto_region 1 with fail
  refine wp_gen (fun W => RrSt neg E (.slice ao1 lx1 ca1) (.slice ao2 lx2 ca2) num w W) HS.out ?_
  clear HS
  rintro W1 h1
  have HS := hide h1
  clear h1
  go_wp2_with fail
  refine (HPR.out _).mono ?_
  rintro e wl ⟨rfl, hw⟩
  subst wl
  have c0 := HS.out.r.c0
  have c1 := HS.out.r.c1
  have c2 := HS.out.r.c2
  have c3 := HS.out.r.c3
  have c4 := HS.out.r.c4
  go_wp2_with fail
  refine (HTP.out _ _ ⟨_, _, rfl, HS.out.b1, HS.out.b2⟩).mono ?_
  rintro e w2 ⟨rfl, hb2⟩
  replace HS := hide (HS.out.below hb2)
  clear hb2
  clear c0 c1 c2 c3 c4
  have c0 := HS.out.r.c0
  have c1 := HS.out.r.c1
  have c2 := HS.out.r.c2
  have c3 := HS.out.r.c3
  have c4 := HS.out.r.c4
  go_wp2_with fail
  refine (HAT.out _ _ ⟨_, _, rfl, HS.out.b1, HS.out.b2⟩).mono ?_
  rintro e w3 ⟨va, rfl, hva, hb3⟩
  obtain ⟨ao3, lx3, ca3, rfl⟩ := hva.slice
  have HV := hide hva
  replace HS := hide (HS.out.below hb3)
  clear hb3 hva
  clear c0 c1 c2 c3 c4
  go_wp2_with fail
  refine (HLN.out _ _ HV.out).mono ?_
  rintro e wl ⟨rfl, hw⟩
  subst wl
  go_wp2_with fail
  refine (HEM.out _).mono ?_
  rintro e wl ⟨rfl, hw⟩
  subst wl
  go_wp2_with fail
  refine (HEN.out _).mono ?_
  rintro e wl ⟨rfl, hw⟩
  subst wl
  go_wp2_with fail
  refine (HFI.out _ _ ⟨_, rfl, HV.out⟩).mono ?_
  rintro e w6 ⟨rfl, hb6⟩
  replace HS := hide (HS.out.below hb6)
  clear hb6 HV
  go_upto_region 18 with fail
  refine wp_gen (fun W => RrSt neg E (.slice ao1 lx1 ca1) (.slice ao2 lx2 ca2) num w W ∧ WB W w6.heap.size (dgl X 1) (dgl X 0)) ⟨HS.out.below (below_allocs _ _), wb_new2 _ _ _ _⟩ ?_
  clear HS
  generalize w6.heap.size = p14 at *
  rintro W7 ⟨g1, g2⟩
  have HS := hide g1
  have lh := g2.h
  have ll := g2.l
  clear g1 g2
  have c0 := HS.out.r.c0
  have c1 := HS.out.r.c1
  have c2 := HS.out.r.c2
  have c3 := HS.out.r.c3
  have c4 := HS.out.r.c4
  go_wp2_with fail
  refine (HSG.out _).mono ?_
  rintro e w8 ⟨rfl, hb8⟩
  replace HS := hide (HS.out.below hb8)
  clear hb8 lh ll
  clear c0 c1 c2 c3 c4
  have o0 := HS.out.o0
  have o1 := HS.out.o1
  have ol := HS.out.ol
  have hof := HS.out.of
  have HBE := hide HS.out.bel
  clear HS
  go_wp2
  exact bodyPost_ret (v := .tuple #[.agg #[.int .u64 (dgl (Y) 1 : Nat), .int .u64 (dgl (Y) 0 : Nat)], .int .i64 16]) (by simp [results, Tryz.results13, go_sem, o0, o1, ol]) rfl ⟨rfl, (HBE.out.setCell (p := ⟨w.heap.size + 1, 0, none⟩) (Nat.le_succ _) _).setCell (p := ⟨w.heap.size + 1, 1, none⟩) (Nat.le_succ _) _⟩

set_option maxHeartbeats 4000000 in
theorem refRound_L0 (f m p T EM EN E : Int) (neg off off2 : Bool) (num U V X Y lU : Nat) (u : Value)
    (HPR : Hid (∀ w, Calls Tryz.prog 8 #[.int .i64 f] w fun e w' => e = .returned (.int .i64 p) ∧ w' = w))
    (HTP : Hid (∀ u w, RlV w u neg 1 num 1 E 80 → Calls Tryz.prog 34 #[u] w fun e w' => e = .returned (.int .i64 T) ∧ Below w.heap.size w w'))
    (hw1 : IntKind.i64.wrap (T - p) = T - p)
    (hw2 : IntKind.i64.wrap (T - p + 1) = T - p + 1)
    (HAT : Hid (∀ u w, RlV w u neg 1 num 1 E 80 → Calls Tryz.prog 35 #[u, .int .i64 (T - p + 1), .int .i64 p, .int .i64 m] w fun e w' => ∃ v, e = .returned (.tuple #[v, .bool off]) ∧ BigV w' v U 800 ∧ Below w.heap.size w w'))
    (HLN : Hid (∀ v w, BigV w v U 800 → Calls Tryz.prog 10 #[v] w fun e w' => e = .returned (.int .i64 (lU : Nat)) ∧ w' = w))
    (hw3 : IntKind.i64.wrap (T - p + 1 + (lU : Int)) = T - p + 1 + (lU : Int))
    (hw4 : IntKind.i64.wrap (T - p + 1 + (lU : Int) - 1) = T - p + 1 + (lU : Int) - 1)
    (HEM : Hid (∀ w, Calls Tryz.prog 36 #[.int .i64 f] w fun e w' => e = .returned (.int .i64 EM) ∧ w' = w))
    (hgt : ¬ EM < T - p + 1 + (lU : Int) - 1)
    (HEN : Hid (∀ w, Calls Tryz.prog 39 #[.int .i64 f] w fun e w' => e = .returned (.int .i64 EN) ∧ w' = w))
    (hlt : T - p + 1 + (lU : Int) - 1 < EN)
    (hw5 : IntKind.i64.wrap (EN - p) = EN - p)
    (hw6 : IntKind.i64.wrap (EN - p + 1) = EN - p + 1)
    (HA2 : Hid (∀ u w, RlV w u neg 1 num 1 E 80 → Calls Tryz.prog 35 #[u, .int .i64 (EN - p + 1), .int .i64 p, .int .i64 m] w fun e w' => ∃ v, e = .returned (.tuple #[v, .bool false]) ∧ BigV w' v V 800 ∧ Below w.heap.size w w'))
    (HFI : Hid (∀ u w, NumV w u false (EN - p + 1) V 800 → Calls Tryz.prog 40 #[.int .i64 f, u] w fun e w' => e = .returned (.agg #[.int .u64 (dgl (X) 1 : Nat), .int .u64 (dgl (X) 0 : Nat)]) ∧ Below w.heap.size w w'))
    (HSG : Hid (∀ w, Calls Tryz.prog 41 #[.int .i64 f, .agg #[.int .u64 (dgl (X) 1 : Nat), .int .u64 (dgl (X) 0 : Nat)], .bool neg] w fun e w' => e = .returned (.agg #[.int .u64 (dgl (Y) 1 : Nat), .int .u64 (dgl (Y) 0 : Nat)]) ∧ Below w.heap.size w w')) (w : World) (hu : RlV w u neg 1 num 1 E 80) :
    Calls Tryz.prog 13 #[.int .i64 f, .int .i64 m, u] w fun e w' => e = .returned (.tuple #[.agg #[.int .u64 (dgl (Y) 1 : Nat), .int .u64 (dgl (Y) 0 : Nat)], .int .i64 0]) ∧ Below w.heap.size w w' := by
  obtain ⟨v1, v2, rfl, k1, k2⟩ := hu
  obtain ⟨ao1, lx1, ca1, rfl⟩ := k1.slice
  obtain ⟨ao2, lx2, ca2, rfl⟩ := k2.slice
  have HS := hide (rrSt_start neg E _ _ num w k1 k2 ⟨_, _, _, rfl⟩ ⟨_, _, _, rfl⟩ 45 29)
  clear k1 k2
  go_enter Tryz.func13, Tryz.ntmps13
  go_upto_region 1 with fail
  refine wp_gen (fun W => RrSt neg E (.slice ao1 lx1 ca1) (.slice ao2 lx2 ca2) num w W) HS.out ?_
  clear HS
  rintro W1 h1
  have HS := hide h1
  clear h1
  go_wp2_with fail
  refine (HPR.out _).mono ?_
  rintro e wl ⟨rfl, hw⟩
  subst wl
  have c0 := HS.out.r.c0
  have c1 := HS.out.r.c1
  have c2 := HS.out.r.c2
  have c3 := HS.out.r.c3
  have c4 := HS.out.r.c4
  go_wp2_with fail
  refine (HTP.out _ _ ⟨_, _, rfl, HS.out.b1, HS.out.b2⟩).mono ?_
  rintro e w2 ⟨rfl, hb2⟩
  replace HS := hide (HS.out.below hb2)
  clear hb2
  clear c0 c1 c2 c3 c4
  have c0 := HS.out.r.c0
  have c1 := HS.out.r.c1
  have c2 := HS.out.r.c2
  have c3 := HS.out.r.c3
  have c4 := HS.out.r.c4
  go_wp2_with fail
  refine (HAT.out _ _ ⟨_, _, rfl, HS.out.b1, HS.out.b2⟩).mono ?_
  rintro e w3 ⟨va, rfl, hva, hb3⟩
  obtain ⟨ao3, lx3, ca3, rfl⟩ := hva.slice
  have HV := hide hva
  replace HS := hide (HS.out.below hb3)
  clear hb3 hva
  clear c0 c1 c2 c3 c4
  go_wp2_with fail
  refine (HLN.out _ _ HV.out).mono ?_
  rintro e wl ⟨rfl, hw⟩
  subst wl
  go_wp2_with fail
  refine (HEM.out _).mono ?_
  rintro e wl ⟨rfl, hw⟩
  subst wl
  go_wp2_with fail
  refine (HEN.out _).mono ?_
  rintro e wl ⟨rfl, hw⟩
  subst wl
  clear HV
  go_wp2_with fail
  refine (HEN.out _).mono ?_
  rintro e wl ⟨rfl, hw⟩
  subst wl
  have c0 := HS.out.r.c0
  have c1 := HS.out.r.c1
  have c2 := HS.out.r.c2
  have c3 := HS.out.r.c3
  have c4 := HS.out.r.c4
  go_wp2_with fail
  refine (HA2.out _ _ ⟨_, _, rfl, HS.out.b1, HS.out.b2⟩).mono ?_
  rintro e w5 ⟨vb, rfl, hvb, hb5⟩
  obtain ⟨ao4, lx4, ca4, rfl⟩ := hvb.slice
  have HV := hide hvb
  replace HS := hide (HS.out.below hb5)
  clear hb5 hvb
  clear c0 c1 c2 c3 c4
  go_wp2_with fail
  refine (HFI.out _ _ ⟨_, rfl, HV.out⟩).mono ?_
  rintro e w6 ⟨rfl, hb6⟩
  replace HS := hide (HS.out.below hb6)
  clear hb6 HV
  go_upto_region 18 with fail
  refine wp_gen (fun W => RrSt neg E (.slice ao1 lx1 ca1) (.slice ao2 lx2 ca2) num w W ∧ WB W w6.heap.size (dgl X 1) (dgl X 0)) ⟨HS.out.below (below_allocs _ _), wb_new2 _ _ _ _⟩ ?_
  clear HS
  generalize w6.heap.size = p14 at *
  rintro W7 ⟨g1, g2⟩
  have HS := hide g1
  have lh := g2.h
  have ll := g2.l
  clear g1 g2
  have c0 := HS.out.r.c0
  have c1 := HS.out.r.c1
  have c2 := HS.out.r.c2
  have c3 := HS.out.r.c3
  have c4 := HS.out.r.c4
  go_wp2_with fail
  refine (HSG.out _).mono ?_
  rintro e w8 ⟨rfl, hb8⟩
  replace HS := hide (HS.out.below hb8)
  clear hb8 lh ll
  clear c0 c1 c2 c3 c4
  have o0 := HS.out.o0
  have o1 := HS.out.o1
  have ol := HS.out.ol
  have hof := HS.out.of
  have HBE := hide HS.out.bel
  clear HS
  go_wp2
  exact bodyPost_ret (v := .tuple #[.agg #[.int .u64 (dgl (Y) 1 : Nat), .int .u64 (dgl (Y) 0 : Nat)], .int .i64 0]) (by simp [results, Tryz.results13, go_sem, o0, o1, ol]) rfl ⟨rfl, (HBE.out.setCell (p := ⟨w.heap.size + 1, 0, none⟩) (Nat.le_succ _) _).setCell (p := ⟨w.heap.size + 1, 1, none⟩) (Nat.le_succ _) _⟩

set_option maxHeartbeats 4000000 in
theorem refRound_L1 (f m p T EM EN E : Int) (neg off off2 : Bool) (num U V X Y lU : Nat) (u : Value)
    (HPR : Hid (∀ w, Calls Tryz.prog 8 #[.int .i64 f] w fun e w' => e = .returned (.int .i64 p) ∧ w' = w))
    (HTP : Hid (∀ u w, RlV w u neg 1 num 1 E 80 → Calls Tryz.prog 34 #[u] w fun e w' => e = .returned (.int .i64 T) ∧ Below w.heap.size w w'))
    (hw1 : IntKind.i64.wrap (T - p) = T - p)
    (hw2 : IntKind.i64.wrap (T - p + 1) = T - p + 1)
    (HAT : Hid (∀ u w, RlV w u neg 1 num 1 E 80 → Calls Tryz.prog 35 #[u, .int .i64 (T - p + 1), .int .i64 p, .int .i64 m] w fun e w' => ∃ v, e = .returned (.tuple #[v, .bool off]) ∧ BigV w' v U 800 ∧ Below w.heap.size w w'))
    (HLN : Hid (∀ v w, BigV w v U 800 → Calls Tryz.prog 10 #[v] w fun e w' => e = .returned (.int .i64 (lU : Nat)) ∧ w' = w))
    (hw3 : IntKind.i64.wrap (T - p + 1 + (lU : Int)) = T - p + 1 + (lU : Int))
    (hw4 : IntKind.i64.wrap (T - p + 1 + (lU : Int) - 1) = T - p + 1 + (lU : Int) - 1)
    (HEM : Hid (∀ w, Calls Tryz.prog 36 #[.int .i64 f] w fun e w' => e = .returned (.int .i64 EM) ∧ w' = w))
    (hgt : ¬ EM < T - p + 1 + (lU : Int) - 1)
    (HEN : Hid (∀ w, Calls Tryz.prog 39 #[.int .i64 f] w fun e w' => e = .returned (.int .i64 EN) ∧ w' = w))
    (hlt : T - p + 1 + (lU : Int) - 1 < EN)
    (hw5 : IntKind.i64.wrap (EN - p) = EN - p)
    (hw6 : IntKind.i64.wrap (EN - p + 1) = EN - p + 1)
    (HA2 : Hid (∀ u w, RlV w u neg 1 num 1 E 80 → Calls Tryz.prog 35 #[u, .int .i64 (EN - p + 1), .int .i64 p, .int .i64 m] w fun e w' => ∃ v, e = .returned (.tuple #[v, .bool true]) ∧ BigV w' v V 800 ∧ Below w.heap.size w w'))
    (HFI : Hid (∀ u w, NumV w u false (EN - p + 1) V 800 → Calls Tryz.prog 40 #[.int .i64 f, u] w fun e w' => e = .returned (.agg #[.int .u64 (dgl (X) 1 : Nat), .int .u64 (dgl (X) 0 : Nat)]) ∧ Below w.heap.size w w'))
    (HSG : Hid (∀ w, Calls Tryz.prog 41 #[.int .i64 f, .agg #[.int .u64 (dgl (X) 1 : Nat), .int .u64 (dgl (X) 0 : Nat)], .bool neg] w fun e w' => e = .returned (.agg #[.int .u64 (dgl (Y) 1 : Nat), .int .u64 (dgl (Y) 0 : Nat)]) ∧ Below w.heap.size w w')) (w : World) (hu : RlV w u neg 1 num 1 E 80) :
    Calls Tryz.prog 13 #[.int .i64 f, .int .i64 m, u] w fun e w' => e = .returned (.tuple #[.agg #[.int .u64 (dgl (Y) 1 : Nat), .int .u64 (dgl (Y) 0 : Nat)], .int .i64 24]) ∧ Below w.heap.size w w' := by
  obtain ⟨v1, v2, rfl, k1, k2⟩ := hu
  obtain ⟨ao1, lx1, ca1, rfl⟩ := k1.slice
  obtain ⟨ao2, lx2, ca2, rfl⟩ := k2.slice
  have HS := hide (rrSt_start neg E _ _ num w k1 k2 ⟨_, _, _, rfl⟩ ⟨_, _, _, rfl⟩ 45 29)
  clear k1 k2
  go_enter Tryz.func13, Tryz.ntmps13
  go_upto_region 1 with fail
  refine wp_gen (fun W => RrSt neg E (.slice ao1 lx1 ca1) (.slice ao2 lx2 ca2) num w W) HS.out ?_
  clear HS
  rintro W1 h1
  have HS := hide h1
  clear h1
  go_wp2_with fail
  refine (HPR.out _).mono ?_
  rintro e wl ⟨rfl, hw⟩
  subst wl
  have c0 := HS.out.r.c0
  have c1 := HS.out.r.c1
  have c2 := HS.out.r.c2
  have c3 := HS.out.r.c3
  have c4 := HS.out.r.c4
  go_wp2_with fail
  refine (HTP.out _ _ ⟨_, _, rfl, HS.out.b1, HS.out.b2⟩).mono ?_
  rintro e w2 ⟨rfl, hb2⟩
  replace HS := hide (HS.out.below hb2)
  clear hb2
  clear c0 c1 c2 c3 c4
  have c0 := HS.out.r.c0
  have c1 := HS.out.r.c1
  have c2 := HS.out.r.c2
  have c3 := HS.out.r.c3
  have c4 := HS.out.r.c4
  go_wp2_with fail
  refine (HAT.out _ _ ⟨_, _, rfl, HS.out.b1, HS.out.b2⟩).mono ?_
  rintro e w3 ⟨va, rfl, hva, hb3⟩
  obtain ⟨ao3, lx3, ca3, rfl⟩ := hva.slice
  have HV := hide hva
  replace HS := hide (HS.out.below hb3)
  clear hb3 hva
  clear c0 c1 c2 c3 c4
  go_wp2_with fail
  refine (HLN.out _ _ HV.out).mono ?_
  rintro e wl ⟨rfl, hw⟩
  subst wl
  go_wp2_with fail
  refine (HEM.out _).mono ?_
  rintro e wl ⟨rfl, hw⟩
  subst wl
  go_wp2_with fail
  refine (HEN.out _).mono ?_
  rintro e wl ⟨rfl, hw⟩
  subst wl
  clear HV
  go_wp2_with fail
  refine (HEN.out _).mono ?_
  rintro e wl ⟨rfl, hw⟩
  subst wl
  have c0 := HS.out.r.c0
  have c1 := HS.out.r.c1
  have c2 := HS.out.r.c2
  have c3 := HS.out.r.c3
  have c4 := HS.out.r.c4
  go_wp2_with fail
  refine (HA2.out _ _ ⟨_, _, rfl, HS.out.b1, HS.out.b2⟩).mono ?_
  rintro e w5 ⟨vb, rfl, hvb, hb5⟩
  obtain ⟨ao4, lx4, ca4, rfl⟩ := hvb.slice
  have HV := hide hvb
  replace HS := hide (HS.out.below hb5)
  clear hb5 hvb
  clear c0 c1 c2 c3 c4
  go_wp2_with fail
  refine (HFI.out _ _ ⟨_, rfl, HV.out⟩).mono ?_
  rintro e w6 ⟨rfl, hb6⟩
  replace HS := hide (HS.out.below hb6)
  clear hb6 HV
  go_upto_region 18 with fail
  refine wp_gen (fun W => RrSt neg E (.slice ao1 lx1 ca1) (.slice ao2 lx2 ca2) num w W ∧ WB W w6.heap.size (dgl X 1) (dgl X 0)) ⟨HS.out.below (below_allocs _ _), wb_new2 _ _ _ _⟩ ?_
  clear HS
  generalize w6.heap.size = p14 at *
  rintro W7 ⟨g1, g2⟩
  have HS := hide g1
  have lh := g2.h
  have ll := g2.l
  clear g1 g2
  have c0 := HS.out.r.c0
  have c1 := HS.out.r.c1
  have c2 := HS.out.r.c2
  have c3 := HS.out.r.c3
  have c4 := HS.out.r.c4
  go_wp2_with fail
  refine (HSG.out _).mono ?_
  rintro e w8 ⟨rfl, hb8⟩
  replace HS := hide (HS.out.below hb8)
  clear hb8 lh ll
  clear c0 c1 c2 c3 c4
  have o0 := HS.out.o0
  have o1 := HS.out.o1
  have ol := HS.out.ol
  have hof := HS.out.of
  have HBE := hide HS.out.bel
  clear HS
  go_wp2
  exact bodyPost_ret (v := .tuple #[.agg #[.int .u64 (dgl (Y) 1 : Nat), .int .u64 (dgl (Y) 0 : Nat)], .int .i64 24]) (by simp [results, Tryz.results13, go_sem, o0, o1, ol]) rfl ⟨rfl, (HBE.out.setCell (p := ⟨w.heap.size + 1, 0, none⟩) (Nat.le_succ _) _).setCell (p := ⟨w.heap.size + 1, 1, none⟩) (Nat.le_succ _) _⟩

end Go.Proofs.YtpcjdllijkjdkaaGreatDoor

/- PackDigits at any number. -/
set_option linter.unusedVariables false
set_option linter.unusedSimpArgs false
set_option maxRecDepth 8000
namespace Go.Proofs.YtpcjdllijkjdkaaGreatDoor
open Go.RowKit Plain

/-- The document's number at the last place is the one that was cut. -/
theorem at_cut {s : Nat} {p z m : Int} {more neg : Bool} (h0 : s ≠ 0) (hp : 1 ≤ p) (hm : more = true → p < (Go.bitLen s : Int)) :
    ∃ j : Nat, atN s more z (z + (Go.bitLen s : Int) - 1 - p + 1) m neg = cutN s (Go.bitLen s - p.toNat) m more neg * 2 ^ j ∧ z + ((Go.bitLen s - p.toNat : Nat) : Int) - (z + (Go.bitLen s : Int) - 1 - p + 1) = (j : Int) ∧ ((z + (Go.bitLen s : Int) - 1 - p + 1) - z).toNat = Go.bitLen s - p.toNat ∧
      s * 2 ^ (z - (z + (Go.bitLen s : Int) - 1 - p + 1)).toNat / 2 ^ ((z + (Go.bitLen s : Int) - 1 - p + 1) - z).toNat < 2 ^ p.toNat ∧ (more = true → z < z + (Go.bitLen s : Int) - 1 - p + 1) := by
  have h1 := len_pos h0
  have h2 := len_lt s
  rcases Nat.lt_or_ge p.toNat (Go.bitLen s) with hk | hk
  · have e1 : ((z + (Go.bitLen s : Int) - 1 - p + 1) - z).toNat = Go.bitLen s - p.toNat := by omega
    refine ⟨0, ?_, by omega, e1, ?_, fun h => by have := hm h; omega⟩
    · rw [atN_cut _ _ _ _ _ _ (by omega), e1, Nat.pow_zero, Nat.mul_one]
    · rw [e1, show (z - (z + (Go.bitLen s : Int) - 1 - p + 1)).toNat = 0 by omega, Nat.pow_zero, Nat.mul_one, Nat.div_lt_iff_lt_mul (Nat.two_pow_pos _), ← Nat.pow_add, show p.toNat + (Go.bitLen s - p.toNat) = Go.bitLen s by omega]
      exact h2
  · have hmf : more = false := by
      cases more
      · rfl
      · have := hm rfl; omega
    subst hmf
    have e1 : ((z + (Go.bitLen s : Int) - 1 - p + 1) - z).toNat = Go.bitLen s - p.toNat := by omega
    refine ⟨p.toNat - Go.bitLen s, ?_, by omega, e1, ?_, fun h => by cases h⟩
    · rw [atN_up _ _ _ _ _ (by omega), show Go.bitLen s - p.toNat = 0 by omega, cutN_0]
      congr 2
      omega
    · rw [show ((z + (Go.bitLen s : Int) - 1 - p + 1) - z).toNat = 0 by omega, Nat.pow_zero, Nat.div_one, show (z - (z + (Go.bitLen s : Int) - 1 - p + 1)).toNat = p.toNat - Go.bitLen s by omega]
      have e3 : 2 ^ p.toNat = 2 ^ Go.bitLen s * 2 ^ (p.toNat - Go.bitLen s) := by rw [← Nat.pow_add]; congr 1; omega
      rw [e3]
      exact Nat.mul_lt_mul_of_pos_right h2 (Nat.two_pow_pos _)

theorem atN_len {s : Nat} {z P m : Int} {more neg : Bool} {M : Nat} (hM : M ≤ 600) (hD : s * 2 ^ (z - P).toNat / 2 ^ (P - z).toNat < 2 ^ M) : Go.bitLen (atN s more z P m neg) ≤ M + 1 := by
  refine (len_le _ _).2 ?_
  unfold atN
  have h1 := Nat.two_pow_pos M
  rw [Nat.pow_succ]
  generalize s * 2 ^ (z - P).toNat / 2 ^ (P - z).toNat = d at *
  have h2 := Bool.toNat_le (growN m neg (d % 2 == 1) ((restN s (P - z).toNat more : Nat) : Int))
  omega

end Go.Proofs.YtpcjdllijkjdkaaGreatDoor

/- Numbers: rounding keeps order. -/
set_option linter.unusedVariables false
set_option linter.unusedSimpArgs false
set_option maxRecDepth 8000
namespace Go.Proofs.YtpcjdllijkjdkaaGreatDoor
open Go.RowKit Plain

end Go.Proofs.YtpcjdllijkjdkaaGreatDoor

