/- Contracts and laws: PckE. -/
import Derived.Test.YtpcjdllijkjdkaaDoorPartBA
/- Contracts: law09.awake; words go by their numbers. -/
set_option linter.unusedVariables false
set_option linter.unusedSimpArgs false
set_option maxRecDepth 8000
namespace Go.Proofs.YtpcjdllijkjdkaaDoor
open Go.RowKit Plain

theorem abs_parts {f : Int} {a : Nat} (h : clsU f a ≠ 0) : fldU f (absU f a) = fldU f a ∧ frcU f (absU f a) = frcU f a ∧ clsU f (absU f a) = clsU f a ∧ sigU f (absU f a) = sigU f a ∧ expU f (absU f a) = expU f a := by
  obtain ⟨-, -, b3, b4, b5⟩ := sgn_U false h
  obtain ⟨c1, c2⟩ := sgn_sig false h
  rw [sgn_abs f a h] at b3 b4 b5 c1 c2
  exact ⟨b3, b4, b5, c1, c2⟩
/-- A word is told by its sign and its number. -/
theorem val_inj {f : Int} {a b : Nat} (ha : 4 ≤ clsU f a) (hb : 4 ≤ clsU f b) (hn : negU f a = negU f b) (h : sizeZ (sigU f a) (expU f a) (sigU f b) (expU f b) = 0) : a = b := by
  have hf : 1 ≤ f ∧ f ≤ 4 := cls_form (a := a) (by omega)
  obtain ⟨a1, a2, -, a4, a5⟩ := abs_parts (f := f) (a := a) (by omega)
  obtain ⟨b1, b2, -, b4, b5⟩ := abs_parts (f := f) (a := b) (by omega)
  have la := absU_lt a hf
  have lb := absU_lt b hf
  have hv := (sizeZ_spec _ _ _ _ (loU f) (loU_le f a) (loU_le f b)).2.1 h
  rw [← a4, ← a5, ← b4, ← b5, vl_word hf la, vl_word hf lb] at hv
  have he := ((valW_iff (Nat.two_pow_pos (prU f - 1))).2).1 hv
  have oa := own_u (f := f) (a := a) (by omega)
  have ob := own_u (f := f) (a := b) (by omega)
  rw [← a1, ← a2, he, b1, b2, hn] at oa
  rw [oa]
  exact ob.symm
theorem rep_own {f : Int} {a : Nat} (h : 4 ≤ clsU f a) (ha : a < 2 ^ 128) : rep f (sigU f a) (expU f a) := ⟨a, ha, h, sizeZ_self _ _⟩
theorem wrd_own {f : Int} {a : Nat} (h : 4 ≤ clsU f a) (ha : a < 2 ^ 128) : wrdU f (negU f a) (sigU f a) (expU f a) = a := by
  obtain ⟨-, h2, h3, h4⟩ := wrd_ok (cls_form (a := a) (by omega)) (negU f a) (rep_own h ha)
  exact val_inj h2 h h3 h4
theorem wrd_num {f : Int} {a s : Nat} {z : Int} (neg : Bool) (ha : 4 ≤ clsU f a) (hl : a < 2 ^ 128) (hn : negU f a = neg) (hz : sizeZ (sigU f a) (expU f a) s z = 0) : wrdU f neg s z = a := by
  have hf : 1 ≤ f ∧ f ≤ 4 := cls_form (a := a) (by omega)
  obtain ⟨-, h2, h3, h4⟩ := wrd_ok hf neg (s := s) (z := z) ⟨a, hl, ha, hz⟩
  refine val_inj h2 ha (by rw [h3, hn]) ?_
  have l1 := loU_le f a
  have e1 := (sizeZ_spec (sigU f (wrdU f neg s z)) s (expU f (wrdU f neg s z)) z (min (min (expU f (wrdU f neg s z)) (expU f a)) z) (by omega) (by omega)).2.1 h4
  have e2 := (sizeZ_spec (sigU f a) s (expU f a) z (min (min (expU f (wrdU f neg s z)) (expU f a)) z) (by omega) (by omega)).2.1 hz
  exact (sizeZ_spec _ _ _ _ (min (min (expU f (wrdU f neg s z)) (expU f a)) z) (by omega) (by omega)).2.2 (by rw [e1, e2])
theorem big_qq : 65520 < QQ ∧ 1 < QQ := by have h := qb_small 2; have e : qb 2 = 4194304 := rfl; omega
theorem aw9_1 (w : World) (hg : FmtG w) : Calls Tryd.prog 33 #[.int .i64 1, .int .i64 1, .agg #[.bool false, .int .i64 0, .int .u64 65520, .int .u64 0, .int .u64 0, .int .u64 0, .int .u64 0, .int .u64 0, .int .u64 0, .int .u64 0], .bool false] w fun e w' => e = .returned (.tuple #[.agg #[.int .u64 0, .int .u64 31744], .int .i64 20, .int .i64 0]) ∧ Below w.heap.size w w' := by
  have h := round_yes 1 1 (by decide) (by decide) false false 0 65520 big_qq.1 (by decide +kernel) (by decide) w hg
  rw [show rndR 1 1 false false 0 65520 = (31744, 20) from if_pos (by decide +kernel)] at h
  exact h
theorem aw9_2 (w : World) (hg : FmtG w) : Calls Tryd.prog 33 #[.int .i64 1, .int .i64 3, .agg #[.bool false, .int .i64 0, .int .u64 65520, .int .u64 0, .int .u64 0, .int .u64 0, .int .u64 0, .int .u64 0, .int .u64 0, .int .u64 0], .bool false] w fun e w' => e = .returned (.tuple #[.agg #[.int .u64 0, .int .u64 31743], .int .i64 (rndR 1 3 false false 0 65520).2, .int .i64 0]) ∧ Below w.heap.size w w' := by
  have h := round_yes 1 3 (by decide) (by decide) false false 0 65520 big_qq.1 (by decide +kernel) (by decide) w hg
  have hw : (rndR 1 3 false false 0 65520).1 = 31743 := by
    unfold rndR
    rw [if_neg (by decide +kernel), if_neg (by decide +kernel)]
    rw [wrd_num (a := 31743) false (by decide +kernel) (by decide) (by decide +kernel) (by decide +kernel)]
  rw [hw] at h
  exact h
theorem aw9_3 (w : World) (hg : FmtG w) : Calls Tryd.prog 33 #[.int .i64 1, .int .i64 1, .agg #[.bool false, .int .i64 (-25), .int .u64 1, .int .u64 0, .int .u64 0, .int .u64 0, .int .u64 0, .int .u64 0, .int .u64 0, .int .u64 0], .bool false] w fun e w' => e = .returned (.tuple #[.agg #[.int .u64 0, .int .u64 0], .int .i64 24, .int .i64 0]) ∧ Below w.heap.size w w' := by
  have h := round_yes 1 1 (by decide) (by decide) false false (-25) 1 big_qq.2 (by decide +kernel) (by decide) w hg
  have hw : (rndR 1 1 false false (-25) 1) = (0, 24) := by
    unfold rndR
    rw [if_neg (by decide +kernel), if_pos (by decide +kernel), if_neg (by decide +kernel)]
    rw [wrd_num (a := 0) false (by decide +kernel) (by decide) (by decide +kernel) (by decide +kernel)]
  rw [hw] at h
  exact h
theorem lit_eq (x : Nat) (hx : x < 18446744073709551616) (w : World) : (Op.equalIn 10000 28 (.agg #[.int .u64 0, .int .u64 (x : Nat)]) (.agg #[.int .u64 0, .int .u64 (x : Nat)])).run Tryd.prog w = .ok true w := by
  have hq := wordEq (a := x) (b := x) (by omega) (by omega) w
  have e := word_num 0 x (by decide) hx
  rw [Nat.mul_zero, Nat.add_zero] at e
  rw [decide_eq_true rfl, e.1, e.2] at hq
  exact hq
set_option maxHeartbeats 2000000 in
theorem awake9_any (w : World) (hg : FmtG w) : Calls Tryd.prog 21 #[] w fun e w' => e = .returned (.bool true) ∧ Below w.heap.size w w' := by
  have hq1 : ∀ w, (Op.equalIn 10000 28 (.agg #[.int .u64 0, .int .u64 31744]) (.agg #[.int .u64 0, .int .u64 31744])).run Tryd.prog w = .ok true w := fun w => lit_eq 31744 (by decide) w
  have hq2 : ∀ w, (Op.equalIn 10000 28 (.agg #[.int .u64 0, .int .u64 31743]) (.agg #[.int .u64 0, .int .u64 31743])).run Tryd.prog w = .ok true w := fun w => lit_eq 31743 (by decide) w
  have hq3 : ∀ w, (Op.equalIn 10000 28 (.agg #[.int .u64 0, .int .u64 0]) (.agg #[.int .u64 0, .int .u64 0])).run Tryd.prog w = .ok true w := fun w => lit_eq 0 (by decide) w
  have HA := hide (fun w hg => aw9_1 w hg)
  have HBB := hide (fun w hg => aw9_2 w hg)
  have HCC := hide (fun w hg => aw9_3 w hg)
  generalize (rndR 1 3 false false 0 65520).2 = fl at *
  have HG := hide (show FmtG w ∧ Below w.heap.size w w from ⟨hg, Below.refl _ _⟩)
  clear hg
  go_enter Tryd.func21, Tryd.ntmps21
  go_wp2_with fail
  refine (HA.out _ HG.out.1).mono ?_
  rintro e w1 ⟨rfl, hb1⟩
  go_upto_region 2 with fail
  refine wp_gen (fun W => FmtG W ∧ Below w.heap.size w W ∧ WB W w1.heap.size 0 31744) ⟨(HG.out.1.below hb1).below (below_allocs _ _), below_trans (below_trans HG.out.2 hb1) (below_allocs _ _), (show WB _ _ 0 31744 from wb_new2 w1 0 31744 28)⟩ ?_
  clear HG hb1
  generalize w1.heap.size = p1
  rintro W1 h1
  have HG := hide h1
  clear h1
  go_wp2_with fail
  refine (HBB.out _ HG.out.1).mono ?_
  rintro e w2 ⟨rfl, hb2⟩
  go_upto_region 3 with fail
  refine wp_gen (fun W => FmtG W ∧ Below w.heap.size w W ∧ WB W p1 0 31744 ∧ WB W w2.heap.size 0 31743) ⟨(HG.out.1.below hb2).below (below_allocs _ _), below_trans (below_trans HG.out.2.1 hb2) (below_allocs _ _), (HG.out.2.2.below hb2).below (below_allocs _ _), (show WB _ _ 0 31743 from wb_new2 w2 0 31743 28)⟩ ?_
  clear HG hb2
  generalize w2.heap.size = p2
  rintro W2 h2
  have HG := hide h2
  clear h2
  go_wp2_with fail
  refine (HCC.out _ HG.out.1).mono ?_
  rintro e w3 ⟨rfl, hb3⟩
  go_upto_region 4 with fail
  refine wp_gen (fun W => Below w.heap.size w W ∧ WB W p1 0 31744 ∧ WB W p2 0 31743 ∧ WB W w3.heap.size 0 0) ⟨below_trans (below_trans HG.out.2.1 hb3) (below_allocs _ _), (HG.out.2.2.1.below hb3).below (below_allocs _ _), (HG.out.2.2.2.below hb3).below (below_allocs _ _), wb_new _ _⟩ ?_
  clear HG hb3
  generalize w3.heap.size = p3
  rintro W3 ⟨g1, g2, g3, g4⟩
  have a0 := g2.h
  have a1 := g2.l
  have b0 := g3.h
  have b1 := g3.l
  have c0 := g4.h
  have c1 := g4.l
  have HB := hide g1
  clear g1 g2 g3 g4
  go_wp2
  go_ret
  exact ⟨rfl, HB.out⟩

end Go.Proofs.YtpcjdllijkjdkaaDoor

