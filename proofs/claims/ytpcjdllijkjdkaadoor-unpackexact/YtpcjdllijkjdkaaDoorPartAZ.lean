/- Contracts and laws: UnpS, NanB. -/
import Derived.Test.YtpcjdllijkjdkaaDoorPartAY
import Derived.Test.YtpcjdllijkjdkaaDoorPartAX
import Derived.Test.YtpcjdllijkjdkaaDoorPartAV
/- Contracts: the document's Exact. -/
set_option linter.unusedVariables false
set_option linter.unusedSimpArgs false
set_option maxRecDepth 8000
namespace Go.Proofs.YtpcjdllijkjdkaaDoor
open Go.RowKit Plain

theorem sgn_N {B P F a : Nat} (neg : Bool) (hB : B = P + F) (hP : 0 < P) (h : clsN B P F a ≠ 0) :
    sgnN B neg a < 2 ^ B ∧ negN B (sgnN B neg a) = neg ∧ fldN B P F (sgnN B neg a) = fldN B P F a ∧ frcN B P (sgnN B neg a) = frcN B P a ∧ clsN B P F (sgnN B neg a) = clsN B P F a := by
  have ha := cls_fit h
  subst hB
  have h1 : 2 ^ (P + F) = 2 * 2 ^ (P + F - 1) := pow_half (P + F) (by omega)
  have hm : sgnN (P + F) neg a % 2 ^ (P + F - 1) = a % 2 ^ (P + F - 1) := by
    unfold sgnN
    rw [Nat.mul_comm, Nat.mul_add_mod, Nat.mod_mod]
  have hr : a % 2 ^ (P + F - 1) < 2 ^ (P + F - 1) := Nat.mod_lt _ (Nat.two_pow_pos _)
  have hs : sgnN (P + F) neg a < 2 ^ (P + F) := by
    unfold sgnN
    cases neg
    · show 0 * _ + _ < _; omega
    · show 1 * _ + _ < _; omega
  have hd : sgnN (P + F) neg a / 2 ^ (P + F - 1) = neg.toNat := by
    unfold sgnN
    rw [Nat.mul_comm, Nat.mul_add_div (Nat.two_pow_pos _), Nat.div_eq_of_lt hr, Nat.add_zero]
  have e : P + F - 1 = P - 1 + F := by omega
  refine ⟨hs, ?_, ?_, ?_, cls_mod hP hs ha hm⟩
  · unfold negN
    rw [decide_eq_true hs, Bool.true_and, hd]
    cases neg <;> rfl
  · rw [show fldN (P + F) P F (sgnN (P + F) neg a) = sgnN (P + F) neg a / 2 ^ (P - 1) % 2 ^ F from if_pos hs, show fldN (P + F) P F a = a / 2 ^ (P - 1) % 2 ^ F from if_pos ha, fld_mod, fld_mod a, ← e, hm]
  · rw [show frcN (P + F) P (sgnN (P + F) neg a) = sgnN (P + F) neg a % 2 ^ (P - 1) from if_pos hs, show frcN (P + F) P a = a % 2 ^ (P - 1) from if_pos ha, frc_mod _ (P - 1) F, frc_mod a (P - 1) F, ← e, hm]
theorem sgn_U {f : Int} {a : Nat} (neg : Bool) (h : clsU f a ≠ 0) : sgnU f neg a < 2 ^ 128 ∧ negU f (sgnU f neg a) = neg ∧ fldU f (sgnU f neg a) = fldU f a ∧ frcU f (sgnU f neg a) = frcU f a ∧ clsU f (sgnU f neg a) = clsU f a := by
  rcases f_cases f with rfl | rfl | rfl | rfl | h0
  · have e0 : sgnU 1 neg a = sgnN 16 neg a := tU_1 _ _ _ _ _
    have e1 : ∀ x, negU 1 x = negN 16 x := fun x => tU_1 _ _ _ _ _
    have e2 : ∀ x, fldU 1 x = fldN 16 11 5 x := fun x => tU_1 _ _ _ _ _
    have e3 : ∀ x, frcU 1 x = frcN 16 11 x := fun x => tU_1 _ _ _ _ _
    have e4 : ∀ x, clsU 1 x = clsN 16 11 5 x := fun x => tU_1 _ _ _ _ _
    rw [e4] at h
    obtain ⟨h1, h2⟩ := sgn_N (B := 16) (P := 11) (F := 5) neg rfl (by decide) h
    rw [e0, e1, e2, e2, e3, e3, e4, e4]
    exact ⟨Nat.lt_of_lt_of_le h1 (Nat.pow_le_pow_right (by decide) (by decide)), h2⟩
  · have e0 : sgnU 2 neg a = sgnN 32 neg a := tU_2 _ _ _ _ _
    have e1 : ∀ x, negU 2 x = negN 32 x := fun x => tU_2 _ _ _ _ _
    have e2 : ∀ x, fldU 2 x = fldN 32 24 8 x := fun x => tU_2 _ _ _ _ _
    have e3 : ∀ x, frcU 2 x = frcN 32 24 x := fun x => tU_2 _ _ _ _ _
    have e4 : ∀ x, clsU 2 x = clsN 32 24 8 x := fun x => tU_2 _ _ _ _ _
    rw [e4] at h
    obtain ⟨h1, h2⟩ := sgn_N (B := 32) (P := 24) (F := 8) neg rfl (by decide) h
    rw [e0, e1, e2, e2, e3, e3, e4, e4]
    exact ⟨Nat.lt_of_lt_of_le h1 (Nat.pow_le_pow_right (by decide) (by decide)), h2⟩
  · have e0 : sgnU 3 neg a = sgnN 64 neg a := tU_3 _ _ _ _ _
    have e1 : ∀ x, negU 3 x = negN 64 x := fun x => tU_3 _ _ _ _ _
    have e2 : ∀ x, fldU 3 x = fldN 64 53 11 x := fun x => tU_3 _ _ _ _ _
    have e3 : ∀ x, frcU 3 x = frcN 64 53 x := fun x => tU_3 _ _ _ _ _
    have e4 : ∀ x, clsU 3 x = clsN 64 53 11 x := fun x => tU_3 _ _ _ _ _
    rw [e4] at h
    obtain ⟨h1, h2⟩ := sgn_N (B := 64) (P := 53) (F := 11) neg rfl (by decide) h
    rw [e0, e1, e2, e2, e3, e3, e4, e4]
    exact ⟨Nat.lt_of_lt_of_le h1 (Nat.pow_le_pow_right (by decide) (by decide)), h2⟩
  · have e0 : sgnU 4 neg a = sgnN 128 neg a := tU_4 _ _ _ _ _
    have e1 : ∀ x, negU 4 x = negN 128 x := fun x => tU_4 _ _ _ _ _
    have e2 : ∀ x, fldU 4 x = fldN 128 113 15 x := fun x => tU_4 _ _ _ _ _
    have e3 : ∀ x, frcU 4 x = frcN 128 113 x := fun x => tU_4 _ _ _ _ _
    have e4 : ∀ x, clsU 4 x = clsN 128 113 15 x := fun x => tU_4 _ _ _ _ _
    rw [e4] at h
    obtain ⟨h1, h2⟩ := sgn_N (B := 128) (P := 113) (F := 15) neg rfl (by decide) h
    rw [e0, e1, e2, e2, e3, e3, e4, e4]
    exact ⟨Nat.lt_of_lt_of_le h1 (Nat.pow_le_pow_right (by decide) (by decide)), h2⟩
  · exact absurd (tU_none f h0 _ _ _ _ _) h
theorem sgn_sig {f : Int} {a : Nat} (neg : Bool) (h : clsU f a ≠ 0) : sigU f (sgnU f neg a) = sigU f a ∧ expU f (sgnU f neg a) = expU f a := by
  obtain ⟨-, -, h1, h2, -⟩ := sgn_U neg h
  unfold sigU expU
  rw [h1, h2]
  exact ⟨rfl, rfl⟩
theorem take_zero (f : Int) (hf : 1 ≤ f ∧ f ≤ 4) (s : Nat) (z : Int) : takeB f s z 0 = true := by
  have h4 : 4 ≤ clsU f 0 ∧ sigU f 0 = 0 := by
    rcases f_cases f with rfl | rfl | rfl | rfl | h0
    · exact ⟨by decide +kernel, by decide +kernel⟩
    · exact ⟨by decide +kernel, by decide +kernel⟩
    · exact ⟨by decide +kernel, by decide +kernel⟩
    · exact ⟨by decide +kernel, by decide +kernel⟩
    · omega
  unfold takeB
  rw [decide_eq_true h4.1, Bool.true_and, decide_eq_true_iff, h4.2]
  refine (sizeZ_le _ _ _ _ (min (expU f 0) z) (by omega) (by omega)).2 ?_
  rw [vl_zero]
  exact Nat.zero_le _
/-- The greatest finite word that isn't above a number. -/
theorem find_ex (f : Int) (hf : 1 ≤ f ∧ f ≤ 4) (s : Nat) (z : Int) : ∃ X, FInv (takeB f s z) (mU f) 0 X := by
  obtain ⟨X, h⟩ := finv_ex (takeB_mono hf s z) (take_zero f hf s z) (mU f) (Nat.le_refl _)
  rw [Nat.sub_self] at h
  exact ⟨X, h⟩
theorem mU_128 (f : Int) {a : Nat} (h : a < 2 ^ mU f) : a < 2 ^ 128 := Nat.lt_of_lt_of_le h (Nat.pow_le_pow_right (by decide) (by have := mU_le f; omega))
theorem take_fin {f : Int} {s X : Nat} {z : Int} (h : takeB f s z X = true) : 4 ≤ clsU f X ∧ sizeZ (sigU f X) (expU f X) s z ≤ 0 := by
  unfold takeB at h
  rw [Bool.and_eq_true, decide_eq_true_iff, decide_eq_true_iff] at h
  exact h
/-- If a finite word stands for a number without its sign, the greatest one that isn't above it does. -/
theorem find_hit {f : Int} (hf : 1 ≤ f ∧ f ≤ 4) {s X a : Nat} {z : Int} (h : FInv (takeB f s z) (mU f) 0 X) (h4 : 4 ≤ clsU f a) (hz : sizeZ (sigU f a) (expU f a) s z = 0) : sizeZ (sigU f X) (expU f X) s z = 0 := by
  obtain ⟨-, x2, x3, x4⟩ := h
  have hc : clsU f a ≠ 0 := by omega
  obtain ⟨b1, b2, b3, b4, b5⟩ := sgn_U false hc
  obtain ⟨c1, c2⟩ := sgn_sig false hc
  rw [sgn_abs f a hc] at b1 b2 b3 b4 b5 c1 c2
  have hb := absU_lt a hf
  generalize absU f a = b at *
  have hx := take_fin x3
  have hle : b ≤ X := by
    rcases Nat.lt_or_ge X b with h1 | h1
    · have h2 := x4 b (by rw [Nat.pow_zero]; omega) hb
      unfold takeB at h2
      rw [c1, c2, b5, decide_eq_true h4, hz] at h2
      cases h2
    · exact h1
  rw [← c1, ← c2] at hz
  have lb := loU_le f b
  have lx := loU_le f X
  have e1 := (sizeZ_spec (sigU f b) s (expU f b) z (min (loU f) z) (by omega) (by omega)).2.1 hz
  have e2 := (sizeZ_le (sigU f X) s (expU f X) z (min (loU f) z) (by omega) (by omega)).1 hx.2
  refine (sizeZ_spec (sigU f X) s (expU f X) z (min (loU f) z) (by omega) (by omega)).2.2 (Nat.le_antisymm e2 ?_)
  rw [← e1, vl_up (m := loU f) (k := min (loU f) z) (by omega) lb, vl_up (m := loU f) (k := min (loU f) z) (by omega) lx, vl_word hf hb, vl_word hf x2]
  refine Nat.mul_le_mul_right _ ?_
  rcases Nat.lt_or_eq_of_le hle with h2 | h2
  · exact Nat.le_of_lt (valW_lt (Nat.two_pow_pos _) h2)
  · rw [h2]; exact Nat.le_refl _
structure ReSt (neg : Bool) (z : Int) (s : Nat) (w W : World) : Prop where
  n : NB W (w.heap.size) (neg) (z) (s)
  r : WB W (w.heap.size + 1) (0) (0)
  fr : ∀ i, W.frozen? ⟨w.heap.size + 1, i, none⟩ = false
  lt : w.heap.size + 1 < W.heap.size
  bel : Below w.heap.size w W
theorem ReSt.under {neg : Bool} {z : Int} {s : Nat} {w W W' : World} (h : ReSt neg z s w W) {C : Nat} (hb : Below C W W') (hc : w.heap.size + 1 < C) : ReSt neg z s w W' :=
  ⟨h.n.under hb (show w.heap.size < C by omega), h.r.under hb (show w.heap.size + 1 < C by omega), fun i => (hb.frozen (p := ⟨w.heap.size + 1, i, none⟩) (show w.heap.size + 1 < C by omega)).trans (h.fr i), Nat.lt_of_lt_of_le h.lt hb.size, h.bel.trans (hb.mono (by omega))⟩
theorem ReSt.below {neg : Bool} {z : Int} {s : Nat} {w W W' : World} (h : ReSt neg z s w W) (hb : Below W.heap.size W W') : ReSt neg z s w W' := h.under hb h.lt
theorem reSt_start (neg : Bool) (z : Int) (s : Nat) (w : World) : ReSt neg z s w ((w.alloc (.cells #[.bool (neg), .int .i64 (z), .int .u64 (dgl (s) 0 : Nat), .int .u64 (dgl (s) 1 : Nat), .int .u64 (dgl (s) 2 : Nat), .int .u64 (dgl (s) 3 : Nat), .int .u64 (dgl (s) 4 : Nat), .int .u64 (dgl (s) 5 : Nat), .int .u64 (dgl (s) 6 : Nat), .int .u64 (dgl (s) 7 : Nat)] 26)).alloc (.cells #[.int .u64 0, .int .u64 0] 28)) :=
  ⟨(nb_new w neg z s 26).below (below_allocs _ _), ⟨by simp [go_sem], by simp [go_sem], by simp⟩, fun i => by simp [go_sem], by simp, below_trans (below_allocs _ _) (below_allocs _ _)⟩

set_option maxHeartbeats 4000000 in
theorem rexact_Y (f z ex sz : Int) (neg ng : Bool) (s X Y sg : Nat)
    (HO2 : Hid (∀ w, Calls Tryd.prog 28 #[.agg #[.bool (neg), .int .i64 (z), .int .u64 (dgl (s) 0 : Nat), .int .u64 (dgl (s) 1 : Nat), .int .u64 (dgl (s) 2 : Nat), .int .u64 (dgl (s) 3 : Nat), .int .u64 (dgl (s) 4 : Nat), .int .u64 (dgl (s) 5 : Nat), .int .u64 (dgl (s) 6 : Nat), .int .u64 (dgl (s) 7 : Nat)]] w fun e w' => ∃ v, e = .returned v ∧ NumV w' v neg z s 40 ∧ Below w.heap.size w w'))
    (HFI : Hid (∀ u w, NumV w u neg z s 40 → Calls Tryd.prog 57 #[.int .i64 f, u] w fun e w' => e = .returned (.agg #[.int .u64 (dgl (X) 1 : Nat), .int .u64 (dgl (X) 0 : Nat)]) ∧ Below w.heap.size w w'))
    (HVA : Hid (∀ w, Calls Tryd.prog 58 #[.int .i64 f, .agg #[.int .u64 (dgl (X) 1 : Nat), .int .u64 (dgl (X) 0 : Nat)]] w fun e w' => e = .returned (.agg #[.bool (ng), .int .i64 (ex), .int .u64 (dgl (sg) 0 : Nat), .int .u64 (dgl (sg) 1 : Nat), .int .u64 (dgl (sg) 2 : Nat), .int .u64 (dgl (sg) 3 : Nat), .int .u64 (dgl (sg) 4 : Nat), .int .u64 (dgl (sg) 5 : Nat), .int .u64 (dgl (sg) 6 : Nat), .int .u64 (dgl (sg) 7 : Nat)]) ∧ Below w.heap.size w w'))
    (HO1 : Hid (∀ w, Calls Tryd.prog 28 #[.agg #[.bool (ng), .int .i64 (ex), .int .u64 (dgl (sg) 0 : Nat), .int .u64 (dgl (sg) 1 : Nat), .int .u64 (dgl (sg) 2 : Nat), .int .u64 (dgl (sg) 3 : Nat), .int .u64 (dgl (sg) 4 : Nat), .int .u64 (dgl (sg) 5 : Nat), .int .u64 (dgl (sg) 6 : Nat), .int .u64 (dgl (sg) 7 : Nat)]] w fun e w' => ∃ v, e = .returned v ∧ NumV w' v ng ex sg 40 ∧ Below w.heap.size w w'))
    (HSZ : Hid (∀ u v w, NumV w u ng ex sg 40 → NumV w v neg z s 40 → Calls Tryd.prog 27 #[u, v] w fun e w' => e = .returned (.int .i64 sz) ∧ Below w.heap.size w w'))
    (hsz : (sz != 0) = false)
    (HSG : Hid (∀ w, Calls Tryd.prog 59 #[.int .i64 f, .agg #[.int .u64 (dgl (X) 1 : Nat), .int .u64 (dgl (X) 0 : Nat)], .bool neg] w fun e w' => e = .returned (.agg #[.int .u64 (dgl (Y) 1 : Nat), .int .u64 (dgl (Y) 0 : Nat)]) ∧ Below w.heap.size w w')) (w : World) :
    Calls Tryd.prog 16 #[.int .i64 f, .agg #[.bool (neg), .int .i64 (z), .int .u64 (dgl (s) 0 : Nat), .int .u64 (dgl (s) 1 : Nat), .int .u64 (dgl (s) 2 : Nat), .int .u64 (dgl (s) 3 : Nat), .int .u64 (dgl (s) 4 : Nat), .int .u64 (dgl (s) 5 : Nat), .int .u64 (dgl (s) 6 : Nat), .int .u64 (dgl (s) 7 : Nat)]] w fun e w' => e = .returned (.tuple #[.agg #[.int .u64 (dgl (Y) 1 : Nat), .int .u64 (dgl (Y) 0 : Nat)], .bool true]) ∧ Below w.heap.size w w' := by
  have HS := hide (reSt_start neg z s w)
  go_enter Tryd.func16, Tryd.ntmps16
  go_upto_region 1 with fail
  refine wp_gen (fun W => ReSt neg z s w W) HS.out ?_
  clear HS
  rintro W1 h1
  have HS := hide h1
  clear h1
  have ln := HS.out.n.n
  have le := HS.out.n.e
  have l0 := HS.out.n.x0
  have l1 := HS.out.n.x1
  have l2 := HS.out.n.x2
  have l3 := HS.out.n.x3
  have l4 := HS.out.n.x4
  have l5 := HS.out.n.x5
  have l6 := HS.out.n.x6
  have l7 := HS.out.n.x7
  go_wp2_with fail
  refine (HO2.out _).mono ?_
  rintro e w1 ⟨v1, rfl, hv1, hb1⟩
  replace HS := hide (HS.out.below hb1)
  clear hb1 ln le l0 l1 l2 l3 l4 l5 l6 l7
  go_wp2_with fail
  refine (HFI.out _ _ hv1).mono ?_
  rintro e w2 ⟨rfl, hb2⟩
  replace HS := hide (HS.out.below hb2)
  clear hb2 hv1
  go_upto_region 2 with fail
  refine wp_gen (fun W => ReSt neg z s w W ∧ WB W w2.heap.size (dgl X 1) (dgl X 0)) ⟨HS.out.below (below_allocs _ _), wb_new2 _ _ _ _⟩ ?_
  clear HS
  generalize w2.heap.size = p6 at *
  rintro W2 h2
  refine wp_region_grow 8 [(11, .val (.int .i64 f)), (12, .val (.agg #[.int .u64 (dgl (X) 1 : Nat), .int .u64 (dgl (X) 0 : Nat)])), (13, .val (.agg #[.bool (ng), .int .i64 (ex), .int .u64 (dgl (sg) 0 : Nat), .int .u64 (dgl (sg) 1 : Nat), .int .u64 (dgl (sg) 2 : Nat), .int .u64 (dgl (sg) 3 : Nat), .int .u64 (dgl (sg) 4 : Nat), .int .u64 (dgl (sg) 5 : Nat), .int .u64 (dgl (sg) 6 : Nat), .int .u64 (dgl (sg) 7 : Nat)])), (14, .num ng ex sg 40), (15, .val (.agg #[.bool (neg), .int .i64 (z), .int .u64 (dgl (s) 0 : Nat), .int .u64 (dgl (s) 1 : Nat), .int .u64 (dgl (s) 2 : Nat), .int .u64 (dgl (s) 3 : Nat), .int .u64 (dgl (s) 4 : Nat), .int .u64 (dgl (s) 5 : Nat), .int .u64 (dgl (s) 6 : Nat), .int .u64 (dgl (s) 7 : Nat)])), (16, .num neg z s 40), (17, .val (.int .i64 sz)), (18, .val (.bool false))]
    (fun W => ReSt neg z s w W ∧ WB W p6 (dgl X 1) (dgl X 0)) mixedOk (by kernel_rfl) (by kernel_rfl) (⟨h2.1.below (Below.refl _ _).drew, h2.2.below (Below.refl _ _).drew⟩) (fun W W' h hb => ⟨h.1.below hb, h.2.below hb⟩) ?_ ?_
  · refine gSt (gStep_run rfl (gRun_move 0 11 (.inl rfl) rfl (by decide +kernel) (fun v w h => h))) ?_
    refine gSt (gStep_run rfl ?_) ?_
    · intro ρ W hC hc hf hL
      have e6 : ρ (.tmp 6) = .pointer (some ⟨p6, 0, none⟩) := hL 6 (by decide +kernel)
      have l0 := hC.2.h
      have l1 := hC.2.l
      simp [go_sem, hc, hf, e6, l0, l1]
      exact ⟨Below.refl _ _, rfl⟩
    refine gSt (gStep_run rfl ?_) ?_
    · intro ρ W hC hc hf hL
      have e11 : ρ (.tmp 11) = .int .i64 f := hL 11 (by decide +kernel)
      have e12 : ρ (.tmp 12) = .agg #[.int .u64 (dgl (X) 1 : Nat), .int .u64 (dgl (X) 0 : Nat)] := hL 12 (by decide +kernel)
      simp [go_sem, hc, hf, e11, e12]
      refine (HVA.out W).mono ?_
      rintro e w' ⟨rfl, hb⟩
      exact ⟨_, rfl, by first | exact hb | (subst hb; exact Below.refl _ _), rfl⟩
    refine gSt (gStep_run rfl ?_) ?_
    · intro ρ W hC hc hf hL
      have e13 : ρ (.tmp 13) = .agg #[.bool (ng), .int .i64 (ex), .int .u64 (dgl (sg) 0 : Nat), .int .u64 (dgl (sg) 1 : Nat), .int .u64 (dgl (sg) 2 : Nat), .int .u64 (dgl (sg) 3 : Nat), .int .u64 (dgl (sg) 4 : Nat), .int .u64 (dgl (sg) 5 : Nat), .int .u64 (dgl (sg) 6 : Nat), .int .u64 (dgl (sg) 7 : Nat)] := hL 13 (by decide +kernel)
      simp [go_sem, hc, hf, e13]
      refine (HO1.out W).mono ?_
      rintro e w' ⟨v, rfl, hv, hb⟩
      exact ⟨_, rfl, hb, hv⟩
    refine gSt (gStep_run rfl ?_) ?_
    · intro ρ W hC hc hf hL
      have e3 : ρ (.tmp 3) = .pointer (some ⟨w.heap.size, 0, none⟩) := hL 3 (by decide +kernel)
      have ln := hC.1.n.n
      have le := hC.1.n.e
      have l0 := hC.1.n.x0
      have l1 := hC.1.n.x1
      have l2 := hC.1.n.x2
      have l3 := hC.1.n.x3
      have l4 := hC.1.n.x4
      have l5 := hC.1.n.x5
      have l6 := hC.1.n.x6
      have l7 := hC.1.n.x7
      simp [go_sem, hc, hf, e3, ln, le, l0, l1, l2, l3, l4, l5, l6, l7]
      exact ⟨Below.refl _ _, rfl⟩
    refine gSt (gStep_run rfl ?_) ?_
    · intro ρ W hC hc hf hL
      have e15 : ρ (.tmp 15) = .agg #[.bool (neg), .int .i64 (z), .int .u64 (dgl (s) 0 : Nat), .int .u64 (dgl (s) 1 : Nat), .int .u64 (dgl (s) 2 : Nat), .int .u64 (dgl (s) 3 : Nat), .int .u64 (dgl (s) 4 : Nat), .int .u64 (dgl (s) 5 : Nat), .int .u64 (dgl (s) 6 : Nat), .int .u64 (dgl (s) 7 : Nat)] := hL 15 (by decide +kernel)
      simp [go_sem, hc, hf, e15]
      refine (HO2.out W).mono ?_
      rintro e w' ⟨v, rfl, hv, hb⟩
      exact ⟨_, rfl, hb, hv⟩
    refine gSt (gStep_run rfl ?_) ?_
    · intro ρ W hC hc hf hL
      have b14 := hL 14 (by decide +kernel)
      have b16 := hL 16 (by decide +kernel)
      simp [go_sem, hc, hf]
      refine (HSZ.out _ _ W b14 b16).mono ?_
      rintro e w' ⟨rfl, hb⟩
      exact ⟨_, rfl, by first | exact hb | (subst hb; exact Below.refl _ _), rfl⟩
    refine gSt (gStep_run rfl ?_) ?_
    · intro ρ W hC hc hf hL
      have e17 : ρ (.tmp 17) = .int .i64 sz := hL 17 (by decide +kernel)
      simp [go_sem, hc, hf, e17, hsz]
      exact ⟨Below.refl _ _, rfl⟩
    exact gSt0
  · intro W hC
    refine gFi 11 rfl ?_
    rintro _ rfl
    refine gFi 12 rfl ?_
    rintro _ rfl
    refine gFi 13 rfl ?_
    rintro _ rfl
    refine gFi 14 rfl ?_
    rintro u14 b14
    refine gFi 15 rfl ?_
    rintro _ rfl
    refine gFi 16 rfl ?_
    rintro u16 b16
    refine gFi 17 rfl ?_
    rintro _ rfl
    refine gFi 18 rfl ?_
    rintro _ rfl
    refine gFi0 ?_
    simp only [List.drop_succ_cons, List.drop_zero, Act.put, List.setIfInBounds_toArray, List.set_cons_succ, List.set_cons_zero]
    have HS := hide hC.1
    have HW := hide hC.2
    clear hC h2 b14 b16
    have lh := HW.out.h
    have ll := HW.out.l
    have ln := HS.out.n.n
    go_wp2_with fail
    refine (HSG.out _).mono ?_
    rintro e w3 ⟨rfl, hb3⟩
    replace HS := hide (HS.out.below hb3)
    clear hb3 lh ll ln HW
    have rh := HS.out.r.h
    have rl := HS.out.r.l
    have hrf := HS.out.fr
    have hlt := HS.out.lt
    have HB := hide HS.out.bel
    clear HS
    go_wp2
    exact bodyPost_ret (v := .tuple #[.agg #[.int .u64 (dgl (Y) 1 : Nat), .int .u64 (dgl (Y) 0 : Nat)], .bool true]) (by simp [results, Tryd.results16, go_sem, hlt, rh, rl]) rfl ⟨rfl, (HB.out.setCell (p := ⟨w.heap.size + 1, 0, none⟩) (Nat.le_succ _) _).setCell (p := ⟨w.heap.size + 1, 1, none⟩) (Nat.le_succ _) _⟩
    

set_option maxHeartbeats 4000000 in
theorem rexact_N (f z ex sz : Int) (neg ng : Bool) (s X Y sg : Nat)
    (HO2 : Hid (∀ w, Calls Tryd.prog 28 #[.agg #[.bool (neg), .int .i64 (z), .int .u64 (dgl (s) 0 : Nat), .int .u64 (dgl (s) 1 : Nat), .int .u64 (dgl (s) 2 : Nat), .int .u64 (dgl (s) 3 : Nat), .int .u64 (dgl (s) 4 : Nat), .int .u64 (dgl (s) 5 : Nat), .int .u64 (dgl (s) 6 : Nat), .int .u64 (dgl (s) 7 : Nat)]] w fun e w' => ∃ v, e = .returned v ∧ NumV w' v neg z s 40 ∧ Below w.heap.size w w'))
    (HFI : Hid (∀ u w, NumV w u neg z s 40 → Calls Tryd.prog 57 #[.int .i64 f, u] w fun e w' => e = .returned (.agg #[.int .u64 (dgl (X) 1 : Nat), .int .u64 (dgl (X) 0 : Nat)]) ∧ Below w.heap.size w w'))
    (HVA : Hid (∀ w, Calls Tryd.prog 58 #[.int .i64 f, .agg #[.int .u64 (dgl (X) 1 : Nat), .int .u64 (dgl (X) 0 : Nat)]] w fun e w' => e = .returned (.agg #[.bool (ng), .int .i64 (ex), .int .u64 (dgl (sg) 0 : Nat), .int .u64 (dgl (sg) 1 : Nat), .int .u64 (dgl (sg) 2 : Nat), .int .u64 (dgl (sg) 3 : Nat), .int .u64 (dgl (sg) 4 : Nat), .int .u64 (dgl (sg) 5 : Nat), .int .u64 (dgl (sg) 6 : Nat), .int .u64 (dgl (sg) 7 : Nat)]) ∧ Below w.heap.size w w'))
    (HO1 : Hid (∀ w, Calls Tryd.prog 28 #[.agg #[.bool (ng), .int .i64 (ex), .int .u64 (dgl (sg) 0 : Nat), .int .u64 (dgl (sg) 1 : Nat), .int .u64 (dgl (sg) 2 : Nat), .int .u64 (dgl (sg) 3 : Nat), .int .u64 (dgl (sg) 4 : Nat), .int .u64 (dgl (sg) 5 : Nat), .int .u64 (dgl (sg) 6 : Nat), .int .u64 (dgl (sg) 7 : Nat)]] w fun e w' => ∃ v, e = .returned v ∧ NumV w' v ng ex sg 40 ∧ Below w.heap.size w w'))
    (HSZ : Hid (∀ u v w, NumV w u ng ex sg 40 → NumV w v neg z s 40 → Calls Tryd.prog 27 #[u, v] w fun e w' => e = .returned (.int .i64 sz) ∧ Below w.heap.size w w'))
    (hsz : (sz != 0) = true) (w : World) :
    Calls Tryd.prog 16 #[.int .i64 f, .agg #[.bool (neg), .int .i64 (z), .int .u64 (dgl (s) 0 : Nat), .int .u64 (dgl (s) 1 : Nat), .int .u64 (dgl (s) 2 : Nat), .int .u64 (dgl (s) 3 : Nat), .int .u64 (dgl (s) 4 : Nat), .int .u64 (dgl (s) 5 : Nat), .int .u64 (dgl (s) 6 : Nat), .int .u64 (dgl (s) 7 : Nat)]] w fun e w' => e = .returned (.tuple #[.agg #[.int .u64 0, .int .u64 0], .bool false]) ∧ Below w.heap.size w w' := by
  have HS := hide (reSt_start neg z s w)
  go_enter Tryd.func16, Tryd.ntmps16
  go_upto_region 1 with fail
  refine wp_gen (fun W => ReSt neg z s w W) HS.out ?_
  clear HS
  rintro W1 h1
  have HS := hide h1
  clear h1
  have ln := HS.out.n.n
  have le := HS.out.n.e
  have l0 := HS.out.n.x0
  have l1 := HS.out.n.x1
  have l2 := HS.out.n.x2
  have l3 := HS.out.n.x3
  have l4 := HS.out.n.x4
  have l5 := HS.out.n.x5
  have l6 := HS.out.n.x6
  have l7 := HS.out.n.x7
  go_wp2_with fail
  refine (HO2.out _).mono ?_
  rintro e w1 ⟨v1, rfl, hv1, hb1⟩
  replace HS := hide (HS.out.below hb1)
  clear hb1 ln le l0 l1 l2 l3 l4 l5 l6 l7
  go_wp2_with fail
  refine (HFI.out _ _ hv1).mono ?_
  rintro e w2 ⟨rfl, hb2⟩
  replace HS := hide (HS.out.below hb2)
  clear hb2 hv1
  go_upto_region 2 with fail
  refine wp_gen (fun W => ReSt neg z s w W ∧ WB W w2.heap.size (dgl X 1) (dgl X 0)) ⟨HS.out.below (below_allocs _ _), wb_new2 _ _ _ _⟩ ?_
  clear HS
  generalize w2.heap.size = p6 at *
  rintro W2 h2
  refine wp_region_grow 8 [(11, .val (.int .i64 f)), (12, .val (.agg #[.int .u64 (dgl (X) 1 : Nat), .int .u64 (dgl (X) 0 : Nat)])), (13, .val (.agg #[.bool (ng), .int .i64 (ex), .int .u64 (dgl (sg) 0 : Nat), .int .u64 (dgl (sg) 1 : Nat), .int .u64 (dgl (sg) 2 : Nat), .int .u64 (dgl (sg) 3 : Nat), .int .u64 (dgl (sg) 4 : Nat), .int .u64 (dgl (sg) 5 : Nat), .int .u64 (dgl (sg) 6 : Nat), .int .u64 (dgl (sg) 7 : Nat)])), (14, .num ng ex sg 40), (15, .val (.agg #[.bool (neg), .int .i64 (z), .int .u64 (dgl (s) 0 : Nat), .int .u64 (dgl (s) 1 : Nat), .int .u64 (dgl (s) 2 : Nat), .int .u64 (dgl (s) 3 : Nat), .int .u64 (dgl (s) 4 : Nat), .int .u64 (dgl (s) 5 : Nat), .int .u64 (dgl (s) 6 : Nat), .int .u64 (dgl (s) 7 : Nat)])), (16, .num neg z s 40), (17, .val (.int .i64 sz)), (18, .val (.bool true))]
    (fun W => ReSt neg z s w W ∧ WB W p6 (dgl X 1) (dgl X 0)) mixedOk (by kernel_rfl) (by kernel_rfl) (⟨h2.1.below (Below.refl _ _).drew, h2.2.below (Below.refl _ _).drew⟩) (fun W W' h hb => ⟨h.1.below hb, h.2.below hb⟩) ?_ ?_
  · refine gSt (gStep_run rfl (gRun_move 0 11 (.inl rfl) rfl (by decide +kernel) (fun v w h => h))) ?_
    refine gSt (gStep_run rfl ?_) ?_
    · intro ρ W hC hc hf hL
      have e6 : ρ (.tmp 6) = .pointer (some ⟨p6, 0, none⟩) := hL 6 (by decide +kernel)
      have l0 := hC.2.h
      have l1 := hC.2.l
      simp [go_sem, hc, hf, e6, l0, l1]
      exact ⟨Below.refl _ _, rfl⟩
    refine gSt (gStep_run rfl ?_) ?_
    · intro ρ W hC hc hf hL
      have e11 : ρ (.tmp 11) = .int .i64 f := hL 11 (by decide +kernel)
      have e12 : ρ (.tmp 12) = .agg #[.int .u64 (dgl (X) 1 : Nat), .int .u64 (dgl (X) 0 : Nat)] := hL 12 (by decide +kernel)
      simp [go_sem, hc, hf, e11, e12]
      refine (HVA.out W).mono ?_
      rintro e w' ⟨rfl, hb⟩
      exact ⟨_, rfl, by first | exact hb | (subst hb; exact Below.refl _ _), rfl⟩
    refine gSt (gStep_run rfl ?_) ?_
    · intro ρ W hC hc hf hL
      have e13 : ρ (.tmp 13) = .agg #[.bool (ng), .int .i64 (ex), .int .u64 (dgl (sg) 0 : Nat), .int .u64 (dgl (sg) 1 : Nat), .int .u64 (dgl (sg) 2 : Nat), .int .u64 (dgl (sg) 3 : Nat), .int .u64 (dgl (sg) 4 : Nat), .int .u64 (dgl (sg) 5 : Nat), .int .u64 (dgl (sg) 6 : Nat), .int .u64 (dgl (sg) 7 : Nat)] := hL 13 (by decide +kernel)
      simp [go_sem, hc, hf, e13]
      refine (HO1.out W).mono ?_
      rintro e w' ⟨v, rfl, hv, hb⟩
      exact ⟨_, rfl, hb, hv⟩
    refine gSt (gStep_run rfl ?_) ?_
    · intro ρ W hC hc hf hL
      have e3 : ρ (.tmp 3) = .pointer (some ⟨w.heap.size, 0, none⟩) := hL 3 (by decide +kernel)
      have ln := hC.1.n.n
      have le := hC.1.n.e
      have l0 := hC.1.n.x0
      have l1 := hC.1.n.x1
      have l2 := hC.1.n.x2
      have l3 := hC.1.n.x3
      have l4 := hC.1.n.x4
      have l5 := hC.1.n.x5
      have l6 := hC.1.n.x6
      have l7 := hC.1.n.x7
      simp [go_sem, hc, hf, e3, ln, le, l0, l1, l2, l3, l4, l5, l6, l7]
      exact ⟨Below.refl _ _, rfl⟩
    refine gSt (gStep_run rfl ?_) ?_
    · intro ρ W hC hc hf hL
      have e15 : ρ (.tmp 15) = .agg #[.bool (neg), .int .i64 (z), .int .u64 (dgl (s) 0 : Nat), .int .u64 (dgl (s) 1 : Nat), .int .u64 (dgl (s) 2 : Nat), .int .u64 (dgl (s) 3 : Nat), .int .u64 (dgl (s) 4 : Nat), .int .u64 (dgl (s) 5 : Nat), .int .u64 (dgl (s) 6 : Nat), .int .u64 (dgl (s) 7 : Nat)] := hL 15 (by decide +kernel)
      simp [go_sem, hc, hf, e15]
      refine (HO2.out W).mono ?_
      rintro e w' ⟨v, rfl, hv, hb⟩
      exact ⟨_, rfl, hb, hv⟩
    refine gSt (gStep_run rfl ?_) ?_
    · intro ρ W hC hc hf hL
      have b14 := hL 14 (by decide +kernel)
      have b16 := hL 16 (by decide +kernel)
      simp [go_sem, hc, hf]
      refine (HSZ.out _ _ W b14 b16).mono ?_
      rintro e w' ⟨rfl, hb⟩
      exact ⟨_, rfl, by first | exact hb | (subst hb; exact Below.refl _ _), rfl⟩
    refine gSt (gStep_run rfl ?_) ?_
    · intro ρ W hC hc hf hL
      have e17 : ρ (.tmp 17) = .int .i64 sz := hL 17 (by decide +kernel)
      simp [go_sem, hc, hf, e17, hsz]
      exact ⟨Below.refl _ _, rfl⟩
    exact gSt0
  · intro W hC
    refine gFi 11 rfl ?_
    rintro _ rfl
    refine gFi 12 rfl ?_
    rintro _ rfl
    refine gFi 13 rfl ?_
    rintro _ rfl
    refine gFi 14 rfl ?_
    rintro u14 b14
    refine gFi 15 rfl ?_
    rintro _ rfl
    refine gFi 16 rfl ?_
    rintro u16 b16
    refine gFi 17 rfl ?_
    rintro _ rfl
    refine gFi 18 rfl ?_
    rintro _ rfl
    refine gFi0 ?_
    simp only [List.drop_succ_cons, List.drop_zero, Act.put, List.setIfInBounds_toArray, List.set_cons_succ, List.set_cons_zero]
    have HS := hide hC.1
    clear hC h2 b14 b16
    have rh := HS.out.r.h
    have rl := HS.out.r.l
    have hrf := HS.out.fr
    have hlt := HS.out.lt
    have HB := hide HS.out.bel
    clear HS
    go_wp2
    exact bodyPost_ret (v := .tuple #[.agg #[.int .u64 0, .int .u64 0], .bool false]) (by simp [results, Tryd.results16, go_sem, hlt, rh, rl]) rfl ⟨rfl, (HB.out.setCell (p := ⟨w.heap.size + 1, 0, none⟩) (Nat.le_succ _) _).setCell (p := ⟨w.heap.size + 1, 1, none⟩) (Nat.le_succ _) _⟩
    

/-- What Exact tells, by the document. -/
theorem rexact_any (f : Int) (hf : 1 ≤ f ∧ f ≤ 4) (neg : Bool) (z : Int) (s X : Nat) (hs : s < QQ) (hz : -100000000 ≤ z ∧ z ≤ 100000000) (hX : FInv (takeB f s z) (mU f) 0 X) :
    (sizeZ (sigU f X) (expU f X) s z = 0 → ∀ w, Calls Tryd.prog 16 #[.int .i64 f, .agg #[.bool (neg), .int .i64 (z), .int .u64 (dgl (s) 0 : Nat), .int .u64 (dgl (s) 1 : Nat), .int .u64 (dgl (s) 2 : Nat), .int .u64 (dgl (s) 3 : Nat), .int .u64 (dgl (s) 4 : Nat), .int .u64 (dgl (s) 5 : Nat), .int .u64 (dgl (s) 6 : Nat), .int .u64 (dgl (s) 7 : Nat)]] w fun e w' => e = .returned (.tuple #[.agg #[.int .u64 (dgl (sgnU f neg X) 1 : Nat), .int .u64 (dgl (sgnU f neg X) 0 : Nat)], .bool true]) ∧ Below w.heap.size w w') ∧
    (sizeZ (sigU f X) (expU f X) s z ≠ 0 → ∀ w, Calls Tryd.prog 16 #[.int .i64 f, .agg #[.bool (neg), .int .i64 (z), .int .u64 (dgl (s) 0 : Nat), .int .u64 (dgl (s) 1 : Nat), .int .u64 (dgl (s) 2 : Nat), .int .u64 (dgl (s) 3 : Nat), .int .u64 (dgl (s) 4 : Nat), .int .u64 (dgl (s) 5 : Nat), .int .u64 (dgl (s) 6 : Nat), .int .u64 (dgl (s) 7 : Nat)]] w fun e w' => e = .returned (.tuple #[.agg #[.int .u64 0, .int .u64 0], .bool false]) ∧ Below w.heap.size w w') := by
  have h4 := (take_fin hX.2.2.1).1
  have hx := mU_128 f hX.2.1
  have hq := sigU_qq f X hf
  have HO2 := fun w => refOf7_any neg z s hs w
  have HFI := fun u w hu => find_any f hf neg z s X u hs hz hX w hu
  have HVA := fun w => rval_any f X hx (by omega) w
  have HO1 := fun w => refOf7_any (negU f X) (expU f X) (sigU f X) hq w
  have HSZ := fun u v w hu hv => refSize_any (negU f X) neg (sigU f X) s (expU f X) z u v w hu hv hq hs (sz_bd f X) hz
  refine ⟨fun h0 w => ?_, fun h0 w => ?_⟩
  · exact rexact_Y f z (expU f X) _ neg (negU f X) s X (sgnU f neg X) (sigU f X) HO2 HFI HVA HO1 HSZ (by rw [h0]; rfl) (fun w => refSgn_u f X hx neg (by omega) w) w
  · exact rexact_N f z (expU f X) _ neg (negU f X) s X 0 (sigU f X) HO2 HFI HVA HO1 HSZ (by rw [bne_iff_ne]; exact h0) w

end Go.Proofs.YtpcjdllijkjdkaaDoor

/- Contracts: nan.Payload, With, Quieted at any format, with their numbers. -/
set_option linter.unusedVariables false
set_option linter.unusedSimpArgs false
set_option maxRecDepth 8000
namespace Go.Proofs.YtpcjdllijkjdkaaDoor
open Go.RowKit Plain

theorem own_N {B P F a : Nat} (hB : B = P + F) (hP : 0 < P) (h : clsN B P F a ≠ 0) : a = fldN B P F a * 2 ^ (P - 1) + frcN B P a + (bif negN B a then 2 ^ (B - 1) else 0) := by
  have hb := cls_fit h
  have e1 : fldN B P F a = a / 2 ^ (P - 1) % 2 ^ F := if_pos hb
  have e2 : frcN B P a = a % 2 ^ (P - 1) := if_pos hb
  have e3 : negN B a = (a / 2 ^ (P + F - 1) % 2 == 1) := by
    unfold negN
    rw [decide_eq_true hb, Bool.true_and, hB]
  subst hB
  rw [e1, e2, e3]
  exact (ownN hP hb).symm
theorem frc_high {m r : Nat} (h : r < 2 * m) : r / m % 2 = 1 ↔ m ≤ r := by
  rcases Nat.lt_or_ge r m with h1 | h1
  · rw [Nat.div_eq_of_lt h1]; omega
  · have : r / m = 1 := Nat.div_eq_of_lt_le (by omega) (by omega)
    omega
theorem nan_N {B P F a : Nat} (hP : 2 ≤ P) (h : clsN B P F a = 1 ∨ clsN B P F a = 2) : fldN B P F a = 2 ^ F - 1 ∧ frcN B P a < 2 * 2 ^ (P - 2) ∧ (clsN B P F a = 2 ↔ 2 ^ (P - 2) ≤ frcN B P a) := by
  have hb : a < 2 ^ B := cls_fit (P := P) (F := F) (by omega)
  have e1 : fldN B P F a = a / 2 ^ (P - 1) % 2 ^ F := if_pos hb
  have e2 : frcN B P a = a % 2 ^ (P - 1) := if_pos hb
  have e3 : clsN B P F a = clsP P F (a / 2 ^ (P - 1) % 2 ^ F) (a % 2 ^ (P - 1)) := if_pos hb
  have e4 : 2 ^ (P - 1) = 2 * 2 ^ (P - 2) := by rw [← Nat.pow_succ']; congr 1; omega
  have e5 : a % 2 ^ (P - 1) < 2 * 2 ^ (P - 2) := by rw [← e4]; exact Nat.mod_lt _ (Nat.two_pow_pos _)
  have e6 := frc_high e5
  rw [e3] at h
  rw [e1, e2, e3]
  unfold clsP at h ⊢
  by_cases hf : a / 2 ^ (P - 1) % 2 ^ F = 2 ^ F - 1
  · rw [if_pos hf] at h ⊢
    refine ⟨hf, e5, ?_⟩
    by_cases h0 : a % 2 ^ (P - 1) = 0
    · rw [if_pos h0] at h; omega
    · rw [if_neg h0]
      by_cases h1 : a % 2 ^ (P - 1) / 2 ^ (P - 2) % 2 = 1
      · rw [if_pos h1]; exact ⟨fun _ => e6.1 h1, fun _ => rfl⟩
      · rw [if_neg h1]; exact ⟨fun h2 => by omega, fun h2 => absurd (e6.2 h2) h1⟩
  · rw [if_neg hf] at h
    split at h <;> (try split at h) <;> omega
theorem cls2_N {B P F a : Nat} (hP : 2 ≤ P) (hb : a < 2 ^ B) (hf : fldN B P F a = 2 ^ F - 1) (h1 : 2 ^ (P - 2) ≤ frcN B P a) : clsN B P F a = 2 := by
  have e1 : fldN B P F a = a / 2 ^ (P - 1) % 2 ^ F := if_pos hb
  have e2 : frcN B P a = a % 2 ^ (P - 1) := if_pos hb
  have e3 : clsN B P F a = clsP P F (a / 2 ^ (P - 1) % 2 ^ F) (a % 2 ^ (P - 1)) := if_pos hb
  have e4 : 2 ^ (P - 1) = 2 * 2 ^ (P - 2) := by rw [← Nat.pow_succ']; congr 1; omega
  have e5 : a % 2 ^ (P - 1) < 2 * 2 ^ (P - 2) := by rw [← e4]; exact Nat.mod_lt _ (Nat.two_pow_pos _)
  have e6 := frc_high e5
  have e7 := Nat.two_pow_pos (P - 2)
  rw [e1] at hf
  rw [e2] at h1
  rw [e3]
  unfold clsP
  rw [if_pos hf, if_neg (by omega), if_pos (e6.2 h1)]
theorem own_u {f : Int} {a : Nat} (h : clsU f a ≠ 0) : a = fldU f a * (2 * qb f) + frcU f a + (bif negU f a then 2 ^ (bU f - 1) else 0) := by
  rcases f_cases f with rfl | rfl | rfl | rfl | h0
  · exact own_N (B := 16) (P := 11) (F := 5) rfl (by decide) h
  · exact own_N (B := 32) (P := 24) (F := 8) rfl (by decide) h
  · exact own_N (B := 64) (P := 53) (F := 11) rfl (by decide) h
  · exact own_N (B := 128) (P := 113) (F := 15) rfl (by decide) h
  · exact absurd (tU_none f h0 _ _ _ _ _) h
theorem nan_U {f : Int} {a : Nat} (h : clsU f a = 1 ∨ clsU f a = 2) : (1 ≤ f ∧ f ≤ 4) ∧ fldU f a = fxU f ∧ frcU f a < 2 * qb f ∧ (clsU f a = 2 ↔ qb f ≤ frcU f a) := by
  have hf : 1 ≤ f ∧ f ≤ 4 := cls_form (a := a) (by omega)
  refine ⟨hf, ?_⟩
  rcases f_cases f with rfl | rfl | rfl | rfl | h0
  · exact nan_N (B := 16) (P := 11) (F := 5) (by decide) h
  · exact nan_N (B := 32) (P := 24) (F := 8) (by decide) h
  · exact nan_N (B := 64) (P := 53) (F := 11) (by decide) h
  · exact nan_N (B := 128) (P := 113) (F := 15) (by decide) h
  · omega
theorem cls2_U {f : Int} {a : Nat} (hc : clsU f a ≠ 0) (hf : fldU f a = fxU f) (h1 : qb f ≤ frcU f a) : clsU f a = 2 := by
  rcases f_cases f with rfl | rfl | rfl | rfl | h0
  · exact cls2_N (B := 16) (P := 11) (F := 5) (by decide) (cls_fit (P := 11) (F := 5) hc) hf h1
  · exact cls2_N (B := 32) (P := 24) (F := 8) (by decide) (cls_fit (P := 24) (F := 8) hc) hf h1
  · exact cls2_N (B := 64) (P := 53) (F := 11) (by decide) (cls_fit (P := 53) (F := 11) hc) hf h1
  · exact cls2_N (B := 128) (P := 113) (F := 15) (by decide) (cls_fit (P := 113) (F := 15) hc) hf h1
  · exact absurd (tU_none f h0 _ _ _ _ _) hc
theorem qb_pow (f : Int) (hf : 1 ≤ f ∧ f ≤ 4) : qb f = 2 ^ (prU f - 2) := by
  rcases f_cases f with rfl | rfl | rfl | rfl | h0
  · rfl
  · rfl
  · rfl
  · rfl
  · omega
theorem qb_small (f : Int) : 2 * qb f < QQ := by
  unfold qb tU
  repeat' split
  all_goals decide +kernel
/-- The word of the greatest field and a fraction whose highest bit is set. -/
theorem mk_nan (f : Int) (hf : 1 ≤ f ∧ f ≤ 4) (neg : Bool) (b : Nat) (h1 : qb f ≤ b) (h2 : b < 2 * qb f) :
    ∃ a, a < 2 ^ 128 ∧ negU f a = neg ∧ fldU f a = fxU f ∧ frcU f a = b ∧ clsU f a = 2 ∧ ∀ w, FmtG w → Calls Tryd.prog 53 #[.int .i64 f, .bool neg, .int .i64 (fxU f : Nat), .agg #[.int .u64 (dgl (b) 0 : Nat), .int .u64 (dgl (b) 1 : Nat), .int .u64 (dgl (b) 2 : Nat), .int .u64 (dgl (b) 3 : Nat), .int .u64 (dgl (b) 4 : Nat), .int .u64 (dgl (b) 5 : Nat), .int .u64 (dgl (b) 6 : Nat), .int .u64 (dgl (b) 7 : Nat)]] w fun e w' => e = .returned (.tuple #[.agg #[.int .u64 (dgl (a) 1 : Nat), .int .u64 (dgl (a) 0 : Nat)], .bool true]) ∧ Below w.heap.size w w' := by
  have hc : tU f (0 ≤ ((fxU f : Nat) : Int) ∧ ((fxU f : Nat) : Int) < 2 ^ 5 ∧ b < 2 ^ 10) (0 ≤ ((fxU f : Nat) : Int) ∧ ((fxU f : Nat) : Int) < 2 ^ 8 ∧ b < 2 ^ 23) (0 ≤ ((fxU f : Nat) : Int) ∧ ((fxU f : Nat) : Int) < 2 ^ 11 ∧ b < 2 ^ 52) (0 ≤ ((fxU f : Nat) : Int) ∧ ((fxU f : Nat) : Int) < 2 ^ 15 ∧ b < 2 ^ 112) False := by
    rcases f_cases f with rfl | rfl | rfl | rfl | h0
    · rw [tU_1]; exact ⟨by decide, by decide, h2⟩
    · rw [tU_2]; exact ⟨by decide, by decide, h2⟩
    · rw [tU_3]; exact ⟨by decide, by decide, h2⟩
    · rw [tU_4]; exact ⟨by decide, by decide, h2⟩
    · omega
  obtain ⟨a, ha, e1, e2, e3, -, e4, e5⟩ := makeYes_u f neg _ b hc
  have e6 : fldU f a = fxU f := by omega
  exact ⟨a, ha, e1, e6, e3, cls2_U e4 e6 (by omega), e5⟩

/-- Is a word none of a format's numbers? -/
def nanB (f : Int) (a : Nat) : Bool := decide (clsU f a = 1) || decide (clsU f a = 2)
theorem nanB_iff {f : Int} {a : Nat} : nanB f a = true ↔ clsU f a = 1 ∨ clsU f a = 2 := by
  unfold nanB
  rw [Bool.or_eq_true, decide_eq_true_iff, decide_eq_true_iff]
def payU (f : Int) (a : Nat) : Nat := if clsU f a = 2 then frcU f a - qb f else if clsU f a = 1 then frcU f a else 0
def quU (f : Int) (a : Nat) : Nat := if clsU f a = 1 then a + qb f else a
theorem payU_lt {f : Int} {a : Nat} (h : clsU f a = 1 ∨ clsU f a = 2) : payU f a < qb f := by
  obtain ⟨-, -, h2, h3⟩ := nan_U h
  unfold payU
  by_cases h1 : clsU f a = 2
  · rw [if_pos h1]; omega
  · rw [if_neg h1, if_pos (by omega)]; omega
theorem payU_qq (f : Int) (a : Nat) : payU f a < QQ := by
  have h0 := qb_small f
  by_cases h : clsU f a = 1 ∨ clsU f a = 2
  · have := payU_lt h; omega
  · unfold payU
    rw [if_neg (by omega), if_neg (by omega)]
    omega
theorem payload_u (f : Int) (a : Nat) (ha : a < 2 ^ 128) (w : World) (hg : FmtG w) : Calls Tryd.prog 44 #[.int .i64 f, .agg #[.int .u64 (dgl (a) 1 : Nat), .int .u64 (dgl (a) 0 : Nat)]] w fun e w' => e = .returned (.tuple #[.agg #[.int .u64 (dgl (payU f a) 0 : Nat), .int .u64 (dgl (payU f a) 1 : Nat), .int .u64 (dgl (payU f a) 2 : Nat), .int .u64 (dgl (payU f a) 3 : Nat), .int .u64 (dgl (payU f a) 4 : Nat), .int .u64 (dgl (payU f a) 5 : Nat), .int .u64 (dgl (payU f a) 6 : Nat), .int .u64 (dgl (payU f a) 7 : Nat)], .bool (nanB f a)]) ∧ Below w.heap.size w w' := by
  have HN : ∀ w, FmtG w → Calls Tryd.prog 89 #[.int .i64 f, .agg #[.int .u64 (dgl (a) 1 : Nat), .int .u64 (dgl (a) 0 : Nat)]] w fun e w' => e = .returned (.bool (nanB f a)) ∧ Below w.heap.size w w' := fun w hg => cnan_u f a ha w hg
  have HO := fun w hg => cof_u f a ha w hg
  have HF := fun w hg => cfrac_u f a ha w hg
  by_cases h2 : clsU f a = 2
  · obtain ⟨hf, -, h3, h4⟩ := nan_U (.inr h2)
    have h5 := h4.1 h2
    have h6 := qb_small f
    rw [nanB_iff.2 (.inr h2)] at HN ⊢
    have HS := fun w => wideSub_any (frcU f a) (qb f) (by omega) (qb_qq f) w
    rw [subQ_le (by omega) h5, show frcU f a - qb f = payU f a from (if_pos h2).symm] at HS
    exact payl_C f a (frcU f a) (qb f) (payU f a) (clsU f a) _ HN HF HO h2 (fun w hg => qbit_u f w hg) HS w hg
  · by_cases h1 : clsU f a = 1
    · rw [nanB_iff.2 (.inl h1)] at HN ⊢
      rw [show payU f a = frcU f a from (if_neg h2).trans (if_pos h1)]
      have h3 : ¬ ((clsU f a : Nat) : Int) = 2 := by omega
      exact payl_B f a (frcU f a) 0 0 (clsU f a) false HN HF HO (by simpa using h3) h3 w hg
    · have h3 : nanB f a = false := by
        have := nanB_iff (f := f) (a := a)
        cases hb : nanB f a
        · rfl
        · rw [hb] at this; exact absurd (this.1 rfl) (by omega)
      rw [h3] at HN ⊢
      rw [show payU f a = 0 from (if_neg h2).trans (if_neg h1)]
      exact payl_A f a 0 0 0 0 false HN w hg
theorem with_yes (f : Int) (hf : 1 ≤ f ∧ f ≤ 4) (neg : Bool) (s : Nat) (hs : s < qb f) :
    ∃ b, b < 2 ^ 128 ∧ negU f b = neg ∧ fldU f b = fxU f ∧ frcU f b = s + qb f ∧ clsU f b = 2 ∧ ∀ w, FmtG w → Calls Tryd.prog 45 #[.int .i64 f, .bool neg, .agg #[.int .u64 (dgl (s) 0 : Nat), .int .u64 (dgl (s) 1 : Nat), .int .u64 (dgl (s) 2 : Nat), .int .u64 (dgl (s) 3 : Nat), .int .u64 (dgl (s) 4 : Nat), .int .u64 (dgl (s) 5 : Nat), .int .u64 (dgl (s) 6 : Nat), .int .u64 (dgl (s) 7 : Nat)]] w fun e w' => e = .returned (.tuple #[.agg #[.int .u64 (dgl (b) 1 : Nat), .int .u64 (dgl (b) 0 : Nat)], .bool true]) ∧ Below w.heap.size w w' := by
  obtain ⟨b, hb, e1, e2, e3, e4, e5⟩ := mk_nan f hf neg (s + qb f) (by omega) (by omega)
  refine ⟨b, hb, e1, e2, e3, e4, fun w hg => ?_⟩
  have h6 := qb_small f
  have hp := prU_bd f hf
  have hk := kU_1 f hf
  have hl := (len_le s (prU f - 2)).2 (by rw [← qb_pow f hf]; exact hs)
  have HA := fun w => wideAdd_any s (qb f) (by omega) (qb_qq f) w
  have HD := fun w hg => cfld_u f (nanW f) (nanW_lt f) w hg
  rw [nanW_fld] at HD
  exact with_Y f (fxU f : Nat) neg _ (kU f) s (qb f) (s + qb f) (nanW f) b (Go.bitLen s) (fun w hg => of_u f hf w hg) (fun w => wideLen_any s (by omega) w) (by omega) (by omega) (fun w hg => qbit_u f w hg) HA (fun w hg => nan_u f w hg) HD e5 w hg
theorem with_no (f : Int) (neg : Bool) (s : Nat) (hs : s < QQ) (h : ¬ ((1 ≤ f ∧ f ≤ 4) ∧ s < qb f)) (w : World) (hg : FmtG w) :
    Calls Tryd.prog 45 #[.int .i64 f, .bool neg, .agg #[.int .u64 (dgl (s) 0 : Nat), .int .u64 (dgl (s) 1 : Nat), .int .u64 (dgl (s) 2 : Nat), .int .u64 (dgl (s) 3 : Nat), .int .u64 (dgl (s) 4 : Nat), .int .u64 (dgl (s) 5 : Nat), .int .u64 (dgl (s) 6 : Nat), .int .u64 (dgl (s) 7 : Nat)]] w fun e w' => e = .returned (.tuple #[.agg #[.int .u64 0, .int .u64 0], .bool false]) ∧ Below w.heap.size w w' := by
  by_cases hf : 1 ≤ f ∧ f ≤ 4
  · have hp := prU_bd f hf
    have hk := kU_1 f hf
    have hl : ¬ Go.bitLen s ≤ prU f - 2 := fun h1 => h ⟨hf, by rw [qb_pow f hf]; exact (len_le s (prU f - 2)).1 h1⟩
    exact with_L f 0 neg false (kU f) s 0 0 0 0 (Go.bitLen s) (fun w hg => of_u f hf w hg) (fun w => wideLen_any s hs w) (by omega) (by omega) w hg
  · exact with_N f 0 neg false (fun _ => 0) s 0 0 0 0 0 (fun w hg => of_none f (by omega) w) w hg
theorem quieted_u (f : Int) (a : Nat) (ha : a < 2 ^ 128) (w : World) (hg : FmtG w) : Calls Tryd.prog 42 #[.int .i64 f, .agg #[.int .u64 (dgl (a) 1 : Nat), .int .u64 (dgl (a) 0 : Nat)]] w fun e w' => e = .returned (.agg #[.int .u64 (dgl (quU f a) 1 : Nat), .int .u64 (dgl (quU f a) 0 : Nat)]) ∧ Below w.heap.size w w' := by
  have HP := fun w hg => payload_u f a ha w hg
  by_cases h : clsU f a = 1 ∨ clsU f a = 2
  · obtain ⟨hf, n1, n2, n3⟩ := nan_U h
    obtain ⟨b, hb, e1, e2, e3, e4, e5⟩ := with_yes f hf (negU f a) (payU f a) (payU_lt h)
    rw [nanB_iff.2 h] at HP
    have h0 : clsU f a ≠ 0 := by omega
    have oa := own_u h0
    have ob := own_u (f := f) (a := b) (by omega)
    rw [e1, e2, e3] at ob
    rw [n1] at oa
    have hq : quU f a = b := by
      unfold quU
      unfold payU at ob
      by_cases h2 : clsU f a = 2
      · have h3 := n3.1 h2
        rw [if_pos h2] at ob
        rw [if_neg (by omega)]
        omega
      · have h1 : clsU f a = 1 := by omega
        rw [if_neg h2, if_pos h1] at ob
        rw [if_pos h1]
        omega
    rw [hq]
    exact quiet_Y f (negU f a) true a b (payU f a) HP (fun w hg => cneg_u f a ha w hg) e5 w hg
  · have h3 : nanB f a = false := by
      cases hb : nanB f a
      · rfl
      · exact absurd (nanB_iff.1 hb) h
    rw [h3] at HP
    rw [show quU f a = a from if_neg (by omega)]
    exact quiet_N f false false a 0 (payU f a) HP w hg
theorem quU_cls {f : Int} {a : Nat} (h : clsU f a = 1 ∨ clsU f a = 2) : quU f a < 2 ^ 128 ∧ clsU f (quU f a) = 2 ∧ payU f (quU f a) = payU f a := by
  obtain ⟨hf, n1, n2, n3⟩ := nan_U h
  obtain ⟨b, hb, e1, e2, e3, e4, -⟩ := with_yes f hf (negU f a) (payU f a) (payU_lt h)
  have h0 : clsU f a ≠ 0 := by omega
  have oa := own_u h0
  have ob := own_u (f := f) (a := b) (by omega)
  rw [e1, e2, e3] at ob
  rw [n1] at oa
  have hq : quU f a = b := by
    unfold quU
    unfold payU at ob
    by_cases h2 : clsU f a = 2
    · have h3 := n3.1 h2
      rw [if_pos h2] at ob
      rw [if_neg (by omega)]
      omega
    · have h1 : clsU f a = 1 := by omega
      rw [if_neg h2, if_pos h1] at ob
      rw [if_pos h1]
      omega
  rw [hq]
  refine ⟨hb, e4, ?_⟩
  rw [show payU f b = frcU f b - qb f from if_pos e4, e3]
  omega
theorem quU_lt {f : Int} {a : Nat} (ha : a < 2 ^ 128) : quU f a < 2 ^ 128 := by
  by_cases h : clsU f a = 1
  · exact (quU_cls (.inl h)).1
  · rw [show quU f a = a from if_neg h]; exact ha
theorem quU_not {f : Int} {a : Nat} (h : ¬ (clsU f a = 1 ∨ clsU f a = 2)) : quU f a = a := if_neg (by omega)

end Go.Proofs.YtpcjdllijkjdkaaDoor

