/- For all wides and all ints the law radicandlaw02.WideShifts returns true, and its arguments read afterwards as they read before. No condition. -/
import Derived.Test.YtenbomfoihajhaaBaseK
import Derived.Test.YtenbomfoihajhaaRows
import Derived.WalkKit
import Derived.ProofKit
import Derived.OpenShut
import Derived.ShutString
import Derived.ChangeOld
import Derived.Below
/- For all wides and all ints the law radicandlaw02.WideShifts returns true. -/
set_option linter.unusedVariables false
set_option linter.unusedSimpArgs false
set_option maxRecDepth 8000
namespace Go.Proofs.Ytenbomfoihajhaa
open Go.RowKit Plain

structure ShiftSt (w : World) (fa fu fd : Nat → Nat) (p6 p9 p11 low : Nat) (u8 : Value) (W : World) : Prop where
  la : LiesF W w.heap.size fa
  l6 : LiesF W p6 fu
  l9 : LiesF W p9 fd
  l11 : LiesF W p11 fd
  b8 : BigV W u8 low 40
  bel : Below w.heap.size w W
theorem ShiftSt.below {w : World} {fa fu fd : Nat → Nat} {p6 p9 p11 low : Nat} {u8 : Value} {W W' : World} (h : ShiftSt w fa fu fd p6 p9 p11 low u8 W) (hb : Below W.heap.size W W') : ShiftSt w fa fu fd p6 p9 p11 low u8 W' :=
  ⟨h.la.below hb, h.l6.below hb, h.l9.below hb, h.l11.below hb, h.b8.below hb, below_trans h.bel hb⟩

set_option maxHeartbeats 4000000 in
theorem wideShifts_first (fa fu fd fs : Nat → Nat) (a k low back : Nat) (n c : Int) (o1 o2 lost : Bool) (w : World)
    (HK : Hid ((k : Int) = min (max n 0) 600))
    (HB : Hid (∀ w, Calls Try.prog 17 #[.agg #[.int .u64 (fa 0 : Nat), .int .u64 (fa 1 : Nat), .int .u64 (fa 2 : Nat), .int .u64 (fa 3 : Nat), .int .u64 (fa 4 : Nat), .int .u64 (fa 5 : Nat), .int .u64 (fa 6 : Nat), .int .u64 (fa 7 : Nat)]] w fun e w' => ∃ v, e = .returned v ∧ BigV w' v a 40 ∧ Below w.heap.size w w'))
    (HUP : Hid (∀ v w, BigV w v a 40 → Calls Try.prog 16 #[v, .int .i64 (k : Nat)] w fun e w' => ∃ v, e = .returned v ∧ BigV w' v (a * 2 ^ k) (k / 32 + 41) ∧ Below w.heap.size w w'))
    (HWU : Hid (∀ v w, BigV w v (a * 2 ^ k) (k / 32 + 41) → Calls Try.prog 15 #[v] w fun e w' => e = .returned (.tuple #[.agg #[.int .u64 (fu 0 : Nat), .int .u64 (fu 1 : Nat), .int .u64 (fu 2 : Nat), .int .u64 (fu 3 : Nat), .int .u64 (fu 4 : Nat), .int .u64 (fu 5 : Nat), .int .u64 (fu 6 : Nat), .int .u64 (fu 7 : Nat)], .bool o1]) ∧ Below w.heap.size w w'))
    (HDN : Hid (∀ v w, BigV w v a 40 → Calls Try.prog 18 #[v, .int .i64 (k : Nat)] w fun e w' => ∃ v, e = .returned v ∧ BigV w' v low 40 ∧ Below w.heap.size w w'))
    (HWD : Hid (∀ v w, BigV w v low 40 → Calls Try.prog 15 #[v] w fun e w' => e = .returned (.tuple #[.agg #[.int .u64 (fd 0 : Nat), .int .u64 (fd 1 : Nat), .int .u64 (fd 2 : Nat), .int .u64 (fd 3 : Nat), .int .u64 (fd 4 : Nat), .int .u64 (fd 5 : Nat), .int .u64 (fd 6 : Nat), .int .u64 (fd 7 : Nat)], .bool o2]) ∧ Below w.heap.size w w'))
    (HSHR : Hid (∀ w, Calls Try.prog 19 #[.agg #[.int .u64 (fa 0 : Nat), .int .u64 (fa 1 : Nat), .int .u64 (fa 2 : Nat), .int .u64 (fa 3 : Nat), .int .u64 (fa 4 : Nat), .int .u64 (fa 5 : Nat), .int .u64 (fa 6 : Nat), .int .u64 (fa 7 : Nat)], .int .i64 n] w fun e w' => e = .returned (.tuple #[.agg #[.int .u64 (fd 0 : Nat), .int .u64 (fd 1 : Nat), .int .u64 (fd 2 : Nat), .int .u64 (fd 3 : Nat), .int .u64 (fd 4 : Nat), .int .u64 (fd 5 : Nat), .int .u64 (fd 6 : Nat), .int .u64 (fd 7 : Nat)], .bool lost]) ∧ Below w.heap.size w w'))
    (HSHL : Hid (∀ w, Calls Try.prog 20 #[.agg #[.int .u64 (fa 0 : Nat), .int .u64 (fa 1 : Nat), .int .u64 (fa 2 : Nat), .int .u64 (fa 3 : Nat), .int .u64 (fa 4 : Nat), .int .u64 (fa 5 : Nat), .int .u64 (fa 6 : Nat), .int .u64 (fa 7 : Nat)], .int .i64 n] w fun e w' => e = .returned (.agg #[.int .u64 (fu 0 : Nat), .int .u64 (fu 1 : Nat), .int .u64 (fu 2 : Nat), .int .u64 (fu 3 : Nat), .int .u64 (fu 4 : Nat), .int .u64 (fu 5 : Nat), .int .u64 (fu 6 : Nat), .int .u64 (fu 7 : Nat)]) ∧ Below w.heap.size w w'))
    (HBK : Hid (∀ v w, BigV w v low 40 → Calls Try.prog 16 #[v, .int .i64 (k : Nat)] w fun e w' => ∃ v, e = .returned v ∧ BigV w' v back (k / 32 + 41) ∧ Below w.heap.size w w'))
    (HC : Hid (∀ x y w, BigV w x back (k / 32 + 41) → BigV w y a 40 → Calls Try.prog 21 #[x, y] w fun e w' => e = .returned (.int .i64 c) ∧ w' = w))
    (hct : (c == 0) = !lost)
    (HSAR : Hid (∀ w, Calls Try.prog 22 #[.agg #[.int .u64 (fa 0 : Nat), .int .u64 (fa 1 : Nat), .int .u64 (fa 2 : Nat), .int .u64 (fa 3 : Nat), .int .u64 (fa 4 : Nat), .int .u64 (fa 5 : Nat), .int .u64 (fa 6 : Nat), .int .u64 (fa 7 : Nat)], .int .i64 n] w fun e w' => e = .returned (.agg #[.int .u64 (fs 0 : Nat), .int .u64 (fs 1 : Nat), .int .u64 (fs 2 : Nat), .int .u64 (fs 3 : Nat), .int .u64 (fs 4 : Nat), .int .u64 (fs 5 : Nat), .int .u64 (fs 6 : Nat), .int .u64 (fs 7 : Nat)]) ∧ Below w.heap.size w w'))
    (HRS : Hid (∀ w, Calls Try.prog 23 #[.agg #[.int .u64 (fa 0 : Nat), .int .u64 (fa 1 : Nat), .int .u64 (fa 2 : Nat), .int .u64 (fa 3 : Nat), .int .u64 (fa 4 : Nat), .int .u64 (fa 5 : Nat), .int .u64 (fa 6 : Nat), .int .u64 (fa 7 : Nat)], .int .i64 n] w fun e w' => e = .returned (.agg #[.int .u64 (fs 0 : Nat), .int .u64 (fs 1 : Nat), .int .u64 (fs 2 : Nat), .int .u64 (fs 3 : Nat), .int .u64 (fs 4 : Nat), .int .u64 (fs 5 : Nat), .int .u64 (fs 6 : Nat), .int .u64 (fs 7 : Nat)]) ∧ Below w.heap.size w w')) :
    Calls Try.prog 3 #[.agg #[.int .u64 (fa 0 : Nat), .int .u64 (fa 1 : Nat), .int .u64 (fa 2 : Nat), .int .u64 (fa 3 : Nat), .int .u64 (fa 4 : Nat), .int .u64 (fa 5 : Nat), .int .u64 (fa 6 : Nat), .int .u64 (fa 7 : Nat)], .int .i64 n] w fun e w' => e = .returned (.bool true) ∧ Below w.heap.size w w' := by
  have hct2 : decide (c = 0) = !lost := by rw [← hct]; rfl
  have hct3 : (c != 0) = lost := by unfold bne; rw [hct, Bool.not_not]
  have HLA := hide (liesF_new w fa 24)
  have HW0 := hide (below_allocs w (.cells #[.int .u64 (fa 0 : Nat), .int .u64 (fa 1 : Nat), .int .u64 (fa 2 : Nat), .int .u64 (fa 3 : Nat), .int .u64 (fa 4 : Nat), .int .u64 (fa 5 : Nat), .int .u64 (fa 6 : Nat), .int .u64 (fa 7 : Nat)] 24))
  go_enter Try.func3, Try.ntmps3
  go_upto_region 1 with fail
  refine wp_gen (fun W => LiesF W w.heap.size fa ∧ Below w.heap.size w W) ⟨HLA.out, HW0.out⟩ ?_
  rintro W1 ⟨h1, h1b⟩
  clear HLA HW0
  go_cut [5] (fun x wx => x = .int .i64 (k : Nat) ∧ wx = W1)
  case first =>
    go_wp2
    all_goals
      go_meet
      exact ⟨by rw [HK.out]; first | done | (congr 1; omega), rfl⟩
  case rest =>
    obtain ⟨rfl, rfl⟩ := hcut
    have HLA := hide h1
    have HBL := hide h1b
    have hca := h1.1
    clear h1 h1b
    go_wp2_with fail
    refine (HB.out _).mono ?_
    rintro e w2 ⟨v2, rfl, hv2, hb2⟩
    replace HLA := hide (HLA.out.below hb2)
    replace HBL := hide (below_trans HBL.out hb2)
    clear hb2 hca
    go_wp2_with fail
    refine (HUP.out _ _ hv2).mono ?_
    rintro e w3 ⟨v3, rfl, hv3, hb3⟩
    replace HLA := hide (HLA.out.below hb3)
    replace HBL := hide (below_trans HBL.out hb3)
    clear hb3 hv2
    go_wp2_with fail
    refine (HWU.out _ _ hv3).mono ?_
    rintro e w4 ⟨rfl, hb4⟩
    replace HLA := hide (HLA.out.below hb4)
    replace HBL := hide (below_trans HBL.out hb4)
    clear hb4 hv3
    go_upto_region 3 with fail
    refine wp_gen (fun W => LiesF W w.heap.size fa ∧ LiesF W w4.heap.size fu ∧ Below w.heap.size w W) ⟨HLA.out.alloc _, liesF_new _ _ _, below_trans HBL.out (below_allocs _ _)⟩ ?_
    rintro W4 ⟨h1, h2, h3⟩
    generalize w4.heap.size = p6 at *
    replace HLA := hide h1
    have HL6 := hide h2
    replace HBL := hide h3
    have hca := h1.1
    clear h1 h2 h3
    go_wp2_with fail
    refine (HB.out _).mono ?_
    rintro e w5 ⟨v5, rfl, hv5, hb5⟩
    replace HLA := hide (HLA.out.below hb5)
    replace HL6 := hide (HL6.out.below hb5)
    replace HBL := hide (below_trans HBL.out hb5)
    clear hb5 hca
    go_wp2_with fail
    refine (HDN.out _ _ hv5).mono ?_
    rintro e w6 ⟨u8, rfl, hv6, hb6⟩
    replace HLA := hide (HLA.out.below hb6)
    replace HL6 := hide (HL6.out.below hb6)
    replace HBL := hide (below_trans HBL.out hb6)
    clear hb6 hv5
    go_wp2_with fail
    refine (HWD.out _ _ hv6).mono ?_
    rintro e w7 ⟨rfl, hb7⟩
    replace HLA := hide (HLA.out.below hb7)
    replace HL6 := hide (HL6.out.below hb7)
    replace HBL := hide (below_trans HBL.out hb7)
    replace hv6 := hv6.below hb7
    clear hb7
    go_upto_region 5 with fail
    refine wp_gen (fun W => LiesF W w.heap.size fa ∧ LiesF W p6 fu ∧ LiesF W w7.heap.size fd ∧ BigV W u8 low 40 ∧ Below w.heap.size w W) ⟨HLA.out.alloc _, HL6.out.alloc _, liesF_new _ _ _, hv6.below (below_allocs _ _), below_trans HBL.out (below_allocs _ _)⟩ ?_
    rintro W7 ⟨h1, h2, h3, h4, h5⟩
    generalize w7.heap.size = p9 at *
    replace HLA := hide h1
    replace HL6 := hide h2
    have HL9 := hide h3
    have HB8 := hide h4
    replace HBL := hide h5
    have hca := h1.1
    clear h1 h2 h3 h4 h5 hv6
    go_wp2_with fail
    refine (HSHR.out _).mono ?_
    rintro e w8 ⟨rfl, hb8⟩
    replace HLA := hide (HLA.out.below hb8)
    replace HL6 := hide (HL6.out.below hb8)
    replace HL9 := hide (HL9.out.below hb8)
    replace HB8 := hide (HB8.out.below hb8)
    replace HBL := hide (below_trans HBL.out hb8)
    clear hb8 hca
    go_upto_region 6 with fail
    refine wp_gen (fun W => ShiftSt w fa fu fd p6 p9 w8.heap.size low u8 W) ⟨HLA.out.alloc _, HL6.out.alloc _, HL9.out.alloc _, liesF_new _ _ _, HB8.out.below (below_allocs _ _), below_trans HBL.out (below_allocs _ _)⟩ ?_
    rintro W8 h8
    generalize w8.heap.size = p11 at *
    have HST := hide h8
    clear h8 HLA HL6 HL9 HB8 HBL
    refine wp_region_grow 34 [(39, .val (.agg #[.int .u64 (fa 0 : Nat), .int .u64 (fa 1 : Nat), .int .u64 (fa 2 : Nat), .int .u64 (fa 3 : Nat), .int .u64 (fa 4 : Nat), .int .u64 (fa 5 : Nat), .int .u64 (fa 6 : Nat), .int .u64 (fa 7 : Nat)])), (40, .val (.int .i64 n)), (41, .val (.agg #[.int .u64 (fu 0 : Nat), .int .u64 (fu 1 : Nat), .int .u64 (fu 2 : Nat), .int .u64 (fu 3 : Nat), .int .u64 (fu 4 : Nat), .int .u64 (fu 5 : Nat), .int .u64 (fu 6 : Nat), .int .u64 (fu 7 : Nat)])), (42, .val (.agg #[.int .u64 (fu 0 : Nat), .int .u64 (fu 1 : Nat), .int .u64 (fu 2 : Nat), .int .u64 (fu 3 : Nat), .int .u64 (fu 4 : Nat), .int .u64 (fu 5 : Nat), .int .u64 (fu 6 : Nat), .int .u64 (fu 7 : Nat)])), (43, .val (.bool true)), (44, .val (.bool true)), (45, .val (.agg #[.int .u64 (fd 0 : Nat), .int .u64 (fd 1 : Nat), .int .u64 (fd 2 : Nat), .int .u64 (fd 3 : Nat), .int .u64 (fd 4 : Nat), .int .u64 (fd 5 : Nat), .int .u64 (fd 6 : Nat), .int .u64 (fd 7 : Nat)])), (46, .val (.agg #[.int .u64 (fd 0 : Nat), .int .u64 (fd 1 : Nat), .int .u64 (fd 2 : Nat), .int .u64 (fd 3 : Nat), .int .u64 (fd 4 : Nat), .int .u64 (fd 5 : Nat), .int .u64 (fd 6 : Nat), .int .u64 (fd 7 : Nat)])), (47, .val (.bool true)), (48, .val (.bool true)), (49, .val (.bool true)), (50, .val (.bool lost)), (51, .big low 40), (52, .val (.int .i64 (k : Nat))), (53, .big back (k / 32 + 41)), (54, .val (.agg #[.int .u64 (fa 0 : Nat), .int .u64 (fa 1 : Nat), .int .u64 (fa 2 : Nat), .int .u64 (fa 3 : Nat), .int .u64 (fa 4 : Nat), .int .u64 (fa 5 : Nat), .int .u64 (fa 6 : Nat), .int .u64 (fa 7 : Nat)])), (55, .big a 40), (56, .val (.int .i64 c)), (57, .val (.bool lost)), (58, .val (.bool true)), (59, .val (.bool true)), (60, .val (.bool true)), (61, .val (.agg #[.int .u64 (fa 0 : Nat), .int .u64 (fa 1 : Nat), .int .u64 (fa 2 : Nat), .int .u64 (fa 3 : Nat), .int .u64 (fa 4 : Nat), .int .u64 (fa 5 : Nat), .int .u64 (fa 6 : Nat), .int .u64 (fa 7 : Nat)])), (62, .val (.int .i64 n)), (63, .val (.agg #[.int .u64 (fs 0 : Nat), .int .u64 (fs 1 : Nat), .int .u64 (fs 2 : Nat), .int .u64 (fs 3 : Nat), .int .u64 (fs 4 : Nat), .int .u64 (fs 5 : Nat), .int .u64 (fs 6 : Nat), .int .u64 (fs 7 : Nat)])), (64, .val (.agg #[.int .u64 (fa 0 : Nat), .int .u64 (fa 1 : Nat), .int .u64 (fa 2 : Nat), .int .u64 (fa 3 : Nat), .int .u64 (fa 4 : Nat), .int .u64 (fa 5 : Nat), .int .u64 (fa 6 : Nat), .int .u64 (fa 7 : Nat)])), (65, .val (.int .i64 n)), (66, .val (.agg #[.int .u64 (fs 0 : Nat), .int .u64 (fs 1 : Nat), .int .u64 (fs 2 : Nat), .int .u64 (fs 3 : Nat), .int .u64 (fs 4 : Nat), .int .u64 (fs 5 : Nat), .int .u64 (fs 6 : Nat), .int .u64 (fs 7 : Nat)])), (67, .val (.bool true)), (68, .val (.bool true)), (69, .val (.bool true)), (70, .val (.bool true)), (71, .val (.bool true)), (4, .val (.bool true))]
      (fun W => ShiftSt w fa fu fd p6 p9 p11 low u8 W) mixedOk (by kernel_rfl) (by kernel_rfl) (HST.out.below (Below.refl _ _).drew) (fun W W' h hb => h.below hb) ?_ ?_
    · refine gSt (gStep_run rfl ?_) ?_
      · intro ρ W hC hc hf hL
        have e2 : ρ (.tmp 2) = .pointer (some ⟨w.heap.size, 0, none⟩) := hL 2 (by decide +kernel)
        have hl := hC.la.1
        simp [go_sem, hc, hf, e2, hl]
        exact ⟨Below.refl _ _, rfl⟩
      refine gSt (gStep_run rfl (gRun_move 1 40 (.inl rfl) rfl (by decide +kernel) (fun v w h => h))) ?_
      refine gSt (gStep_run rfl ?_) ?_
      · intro ρ W hC hc hf hL
        have e39 : ρ (.tmp 39) = .agg #[.int .u64 (fa 0 : Nat), .int .u64 (fa 1 : Nat), .int .u64 (fa 2 : Nat), .int .u64 (fa 3 : Nat), .int .u64 (fa 4 : Nat), .int .u64 (fa 5 : Nat), .int .u64 (fa 6 : Nat), .int .u64 (fa 7 : Nat)] := hL 39 (by decide +kernel)
        have e40 : ρ (.tmp 40) = .int .i64 n := hL 40 (by decide +kernel)
        simp [go_sem, hc, hf, e39, e40]
        refine (HSHL.out _).mono ?_
        rintro e w' ⟨rfl, hb⟩
        exact ⟨_, rfl, by first | exact hb | (subst hb; exact Below.refl _ _), rfl⟩
      refine gSt (gStep_run rfl ?_) ?_
      · intro ρ W hC hc hf hL
        have e6 : ρ (.tmp 6) = .pointer (some ⟨p6, 0, none⟩) := hL 6 (by decide +kernel)
        have hl := hC.l6.1
        simp [go_sem, hc, hf, e6, hl]
        exact ⟨Below.refl _ _, rfl⟩
      refine gSt (gStep_run rfl ?_) ?_
      · intro ρ W hC hc hf hL
        have e41 : ρ (.tmp 41) = .agg #[.int .u64 (fu 0 : Nat), .int .u64 (fu 1 : Nat), .int .u64 (fu 2 : Nat), .int .u64 (fu 3 : Nat), .int .u64 (fu 4 : Nat), .int .u64 (fu 5 : Nat), .int .u64 (fu 6 : Nat), .int .u64 (fu 7 : Nat)] := hL 41 (by decide +kernel)
        have e42 : ρ (.tmp 42) = .agg #[.int .u64 (fu 0 : Nat), .int .u64 (fu 1 : Nat), .int .u64 (fu 2 : Nat), .int .u64 (fu 3 : Nat), .int .u64 (fu 4 : Nat), .int .u64 (fu 5 : Nat), .int .u64 (fu 6 : Nat), .int .u64 (fu 7 : Nat)] := hL 42 (by decide +kernel)
        simp [go_sem, hc, hf, e41, e42, wide_sameF]
        exact ⟨Below.refl _ _, rfl⟩
      refine gSt (gStep_run rfl (gRun_move 43 44 (.inl rfl) rfl (by decide +kernel) (fun v w h => h))) ?_
      refine gSt (gStep_on 5 44 true rfl rfl (by decide +kernel) (fun v w h => h) ?_) ?_
      · intro ρ W hC hc hf hL
        have e11 : ρ (.tmp 11) = .pointer (some ⟨p11, 0, none⟩) := hL 11 (by decide +kernel)
        have hl := hC.l11.1
        simp [go_sem, hc, hf, e11, hl]
        exact ⟨Below.refl _ _, rfl⟩
      refine gSt (gStep_on 5 44 true rfl rfl (by decide +kernel) (fun v w h => h) ?_) ?_
      · intro ρ W hC hc hf hL
        have e9 : ρ (.tmp 9) = .pointer (some ⟨p9, 0, none⟩) := hL 9 (by decide +kernel)
        have hl := hC.l9.1
        simp [go_sem, hc, hf, e9, hl]
        exact ⟨Below.refl _ _, rfl⟩
      refine gSt (gStep_on 5 44 true rfl rfl (by decide +kernel) (fun v w h => h) ?_) ?_
      · intro ρ W hC hc hf hL
        have e45 : ρ (.tmp 45) = .agg #[.int .u64 (fd 0 : Nat), .int .u64 (fd 1 : Nat), .int .u64 (fd 2 : Nat), .int .u64 (fd 3 : Nat), .int .u64 (fd 4 : Nat), .int .u64 (fd 5 : Nat), .int .u64 (fd 6 : Nat), .int .u64 (fd 7 : Nat)] := hL 45 (by decide +kernel)
        have e46 : ρ (.tmp 46) = .agg #[.int .u64 (fd 0 : Nat), .int .u64 (fd 1 : Nat), .int .u64 (fd 2 : Nat), .int .u64 (fd 3 : Nat), .int .u64 (fd 4 : Nat), .int .u64 (fd 5 : Nat), .int .u64 (fd 6 : Nat), .int .u64 (fd 7 : Nat)] := hL 46 (by decide +kernel)
        simp [go_sem, hc, hf, e45, e46, wide_sameF]
        exact ⟨Below.refl _ _, rfl⟩
      refine gSt (gStep_run rfl (gRun_pickT 44 47 48 _ rfl rfl (by decide +kernel) (by decide +kernel) (fun v w h => h) (fun v w h => h))) ?_
      refine gSt (gStep_run rfl (gRun_move 48 49 (.inl rfl) rfl (by decide +kernel) (fun v w h => h))) ?_
      refine gSt (gStep_on 10 49 true rfl rfl (by decide +kernel) (fun v w h => h) (gRun_move 12 50 (.inl rfl) rfl (by decide +kernel) (fun v w h => h))) ?_
      refine gSt (gStep_on 10 49 true rfl rfl (by decide +kernel) (fun v w h => h) ?_) ?_
      · intro ρ W hC hc hf hL
        have e8 : ρ (.tmp 8) = u8 := hL 8 (by decide +kernel)
        simp [go_sem, hc, hf, e8]
        exact ⟨Below.refl _ _, hC.b8⟩
      refine gSt (gStep_on 10 49 true rfl rfl (by decide +kernel) (fun v w h => h) (gRun_move 5 52 (.inl rfl) rfl (by decide +kernel) (fun v w h => h))) ?_
      refine gSt (gStep_on 10 49 true rfl rfl (by decide +kernel) (fun v w h => h) ?_) ?_
      · intro ρ W hC hc hf hL
        have b51 : BigV W (ρ (.tmp 51)) (low) (40) := hL 51 (by decide +kernel)
        have e52 : ρ (.tmp 52) = .int .i64 (k : Nat) := hL 52 (by decide +kernel)
        simp [go_sem, hc, hf, e52]
        refine (HBK.out _ _ b51).mono ?_
        rintro e w' ⟨v, rfl, hv, hb⟩
        exact ⟨_, rfl, hb, hv⟩
      refine gSt (gStep_on 10 49 true rfl rfl (by decide +kernel) (fun v w h => h) ?_) ?_
      · intro ρ W hC hc hf hL
        have e2 : ρ (.tmp 2) = .pointer (some ⟨w.heap.size, 0, none⟩) := hL 2 (by decide +kernel)
        have hl := hC.la.1
        simp [go_sem, hc, hf, e2, hl]
        exact ⟨Below.refl _ _, rfl⟩
      refine gSt (gStep_on 10 49 true rfl rfl (by decide +kernel) (fun v w h => h) ?_) ?_
      · intro ρ W hC hc hf hL
        have e54 : ρ (.tmp 54) = .agg #[.int .u64 (fa 0 : Nat), .int .u64 (fa 1 : Nat), .int .u64 (fa 2 : Nat), .int .u64 (fa 3 : Nat), .int .u64 (fa 4 : Nat), .int .u64 (fa 5 : Nat), .int .u64 (fa 6 : Nat), .int .u64 (fa 7 : Nat)] := hL 54 (by decide +kernel)
        simp [go_sem, hc, hf, e54]
        refine (HB.out _).mono ?_
        rintro e w' ⟨v, rfl, hv, hb⟩
        exact ⟨_, rfl, hb, hv⟩
      refine gSt (gStep_on 10 49 true rfl rfl (by decide +kernel) (fun v w h => h) ?_) ?_
      · intro ρ W hC hc hf hL
        have b53 : BigV W (ρ (.tmp 53)) (back) ((k / 32 + 41)) := hL 53 (by decide +kernel)
        have b55 : BigV W (ρ (.tmp 55)) (a) (40) := hL 55 (by decide +kernel)
        simp [go_sem, hc, hf]
        refine (HC.out _ _ _ b53 b55).mono ?_
        rintro e w' ⟨rfl, hb⟩
        exact ⟨_, rfl, by first | exact hb | (subst hb; exact Below.refl _ _), rfl⟩
      refine gSt (gStep_on 10 49 true rfl rfl (by decide +kernel) (fun v w h => h) ?_) ?_
      · intro ρ W hC hc hf hL
        have e56 : ρ (.tmp 56) = .int .i64 c := hL 56 (by decide +kernel)
        simp [go_sem, hc, hf, e56, hct, hct2, hct3]
        exact ⟨Below.refl _ _, rfl⟩
      refine gSt (gStep_on 10 49 true rfl rfl (by decide +kernel) (fun v w h => h) ?_) ?_
      · intro ρ W hC hc hf hL
        have e50 : ρ (.tmp 50) = .bool lost := hL 50 (by decide +kernel)
        have e57 : ρ (.tmp 57) = .bool lost := hL 57 (by decide +kernel)
        simp [go_sem, hc, hf, e50, e57]
        exact ⟨Below.refl _ _, rfl⟩
      refine gSt (gStep_run rfl (gRun_pickT 49 58 59 _ rfl rfl (by decide +kernel) (by decide +kernel) (fun v w h => h) (fun v w h => h))) ?_
      refine gSt (gStep_run rfl (gRun_move 59 60 (.inl rfl) rfl (by decide +kernel) (fun v w h => h))) ?_
      refine gSt (gStep_on 21 60 true rfl rfl (by decide +kernel) (fun v w h => h) ?_) ?_
      · intro ρ W hC hc hf hL
        have e2 : ρ (.tmp 2) = .pointer (some ⟨w.heap.size, 0, none⟩) := hL 2 (by decide +kernel)
        have hl := hC.la.1
        simp [go_sem, hc, hf, e2, hl]
        exact ⟨Below.refl _ _, rfl⟩
      refine gSt (gStep_on 21 60 true rfl rfl (by decide +kernel) (fun v w h => h) (gRun_move 1 62 (.inl rfl) rfl (by decide +kernel) (fun v w h => h))) ?_
      refine gSt (gStep_on 21 60 true rfl rfl (by decide +kernel) (fun v w h => h) ?_) ?_
      · intro ρ W hC hc hf hL
        have e61 : ρ (.tmp 61) = .agg #[.int .u64 (fa 0 : Nat), .int .u64 (fa 1 : Nat), .int .u64 (fa 2 : Nat), .int .u64 (fa 3 : Nat), .int .u64 (fa 4 : Nat), .int .u64 (fa 5 : Nat), .int .u64 (fa 6 : Nat), .int .u64 (fa 7 : Nat)] := hL 61 (by decide +kernel)
        have e62 : ρ (.tmp 62) = .int .i64 n := hL 62 (by decide +kernel)
        simp [go_sem, hc, hf, e61, e62]
        refine (HSAR.out _).mono ?_
        rintro e w' ⟨rfl, hb⟩
        exact ⟨_, rfl, by first | exact hb | (subst hb; exact Below.refl _ _), rfl⟩
      refine gSt (gStep_on 21 60 true rfl rfl (by decide +kernel) (fun v w h => h) ?_) ?_
      · intro ρ W hC hc hf hL
        have e2 : ρ (.tmp 2) = .pointer (some ⟨w.heap.size, 0, none⟩) := hL 2 (by decide +kernel)
        have hl := hC.la.1
        simp [go_sem, hc, hf, e2, hl]
        exact ⟨Below.refl _ _, rfl⟩
      refine gSt (gStep_on 21 60 true rfl rfl (by decide +kernel) (fun v w h => h) (gRun_move 1 65 (.inl rfl) rfl (by decide +kernel) (fun v w h => h))) ?_
      refine gSt (gStep_on 21 60 true rfl rfl (by decide +kernel) (fun v w h => h) ?_) ?_
      · intro ρ W hC hc hf hL
        have e64 : ρ (.tmp 64) = .agg #[.int .u64 (fa 0 : Nat), .int .u64 (fa 1 : Nat), .int .u64 (fa 2 : Nat), .int .u64 (fa 3 : Nat), .int .u64 (fa 4 : Nat), .int .u64 (fa 5 : Nat), .int .u64 (fa 6 : Nat), .int .u64 (fa 7 : Nat)] := hL 64 (by decide +kernel)
        have e65 : ρ (.tmp 65) = .int .i64 n := hL 65 (by decide +kernel)
        simp [go_sem, hc, hf, e64, e65]
        refine (HRS.out _).mono ?_
        rintro e w' ⟨rfl, hb⟩
        exact ⟨_, rfl, by first | exact hb | (subst hb; exact Below.refl _ _), rfl⟩
      refine gSt (gStep_on 21 60 true rfl rfl (by decide +kernel) (fun v w h => h) ?_) ?_
      · intro ρ W hC hc hf hL
        have e63 : ρ (.tmp 63) = .agg #[.int .u64 (fs 0 : Nat), .int .u64 (fs 1 : Nat), .int .u64 (fs 2 : Nat), .int .u64 (fs 3 : Nat), .int .u64 (fs 4 : Nat), .int .u64 (fs 5 : Nat), .int .u64 (fs 6 : Nat), .int .u64 (fs 7 : Nat)] := hL 63 (by decide +kernel)
        have e66 : ρ (.tmp 66) = .agg #[.int .u64 (fs 0 : Nat), .int .u64 (fs 1 : Nat), .int .u64 (fs 2 : Nat), .int .u64 (fs 3 : Nat), .int .u64 (fs 4 : Nat), .int .u64 (fs 5 : Nat), .int .u64 (fs 6 : Nat), .int .u64 (fs 7 : Nat)] := hL 66 (by decide +kernel)
        simp [go_sem, hc, hf, e63, e66, wide_sameF]
        exact ⟨Below.refl _ _, rfl⟩
      refine gSt (gStep_run rfl (gRun_pickT 60 67 68 _ rfl rfl (by decide +kernel) (by decide +kernel) (fun v w h => h) (fun v w h => h))) ?_
      refine gSt (gStep_run rfl (gRun_move 68 69 (.inl rfl) rfl (by decide +kernel) (fun v w h => h))) ?_
      refine gSt (gStep_on 30 69 true rfl rfl (by decide +kernel) (fun v w h => h) ?_) ?_
      · intro ρ W hC hc hf hL
        simp [go_sem, hc, hf]
        refine (awake2_any _).mono ?_
        rintro e w' ⟨rfl, hb⟩
        exact ⟨_, rfl, by first | exact hb | (subst hb; exact Below.refl _ _), rfl⟩
      refine gSt (gStep_run rfl (gRun_pickT 69 70 71 _ rfl rfl (by decide +kernel) (by decide +kernel) (fun v w h => h) (fun v w h => h))) ?_
      refine gSt (gStep_run rfl (gRun_move 71 4 (.inr rfl) rfl (by decide +kernel) (fun v w h => h))) ?_
      exact gSt0
    · intro W hC
      refine gFi 39 rfl ?_
      rintro _ rfl
      refine gFi 40 rfl ?_
      rintro _ rfl
      refine gFi 41 rfl ?_
      rintro _ rfl
      refine gFi 42 rfl ?_
      rintro _ rfl
      refine gFi 43 rfl ?_
      rintro _ rfl
      refine gFi 44 rfl ?_
      rintro _ rfl
      refine gFi 45 rfl ?_
      rintro _ rfl
      refine gFi 46 rfl ?_
      rintro _ rfl
      refine gFi 47 rfl ?_
      rintro _ rfl
      refine gFi 48 rfl ?_
      rintro _ rfl
      refine gFi 49 rfl ?_
      rintro _ rfl
      refine gFi 50 rfl ?_
      rintro _ rfl
      refine gFi 51 rfl ?_
      rintro u51 b51
      refine gFi 52 rfl ?_
      rintro _ rfl
      refine gFi 53 rfl ?_
      rintro u53 b53
      refine gFi 54 rfl ?_
      rintro _ rfl
      refine gFi 55 rfl ?_
      rintro u55 b55
      refine gFi 56 rfl ?_
      rintro _ rfl
      refine gFi 57 rfl ?_
      rintro _ rfl
      refine gFi 58 rfl ?_
      rintro _ rfl
      refine gFi 59 rfl ?_
      rintro _ rfl
      refine gFi 60 rfl ?_
      rintro _ rfl
      refine gFi 61 rfl ?_
      rintro _ rfl
      refine gFi 62 rfl ?_
      rintro _ rfl
      refine gFi 63 rfl ?_
      rintro _ rfl
      refine gFi 64 rfl ?_
      rintro _ rfl
      refine gFi 65 rfl ?_
      rintro _ rfl
      refine gFi 66 rfl ?_
      rintro _ rfl
      refine gFi 67 rfl ?_
      rintro _ rfl
      refine gFi 68 rfl ?_
      rintro _ rfl
      refine gFi 69 rfl ?_
      rintro _ rfl
      refine gFi 70 rfl ?_
      rintro _ rfl
      refine gFi 71 rfl ?_
      rintro _ rfl
      refine gFi 4 rfl ?_
      rintro _ rfl
      refine gFi0 ?_
      simp only [List.drop_succ_cons, List.drop_zero, Act.put, List.setIfInBounds_toArray, List.set_cons_succ, List.set_cons_zero]
      have HB0 := hide hC.bel
      clear hC HST
      go_wp2
      go_ret
      exact ⟨rfl, HB0.out⟩

theorem wideShifts_walk (a : Nat) (n : Int) (ha : a < QQ) (w : World) :
    Calls Try.prog 3 #[.agg #[.int .u64 (dgl (a) 0 : Nat), .int .u64 (dgl (a) 1 : Nat), .int .u64 (dgl (a) 2 : Nat), .int .u64 (dgl (a) 3 : Nat), .int .u64 (dgl (a) 4 : Nat), .int .u64 (dgl (a) 5 : Nat), .int .u64 (dgl (a) 6 : Nat), .int .u64 (dgl (a) 7 : Nat)], .int .i64 n] w fun e w' => e = .returned (.bool true) ∧ Below w.heap.size w w' := by
  obtain ⟨k, hk⟩ : ∃ k : Nat, (k : Int) = min (max n 0) 600 := ⟨(min (max n 0) 600).toNat, by omega⟩
  obtain ⟨r, hr⟩ : ∃ r : Nat, roomI n = (r : Int) := ⟨(roomI n).toNat, by have := roomI_bd n; omega⟩
  have hrk := room_min n k r hk hr
  have hq := qq_pow 512 rfl
  have hd := div_past a k r 512 hrk hq ha
  have hS := fun w => wideShr_any a r n hr ha w
  have hL := fun w => wideShl_any a n ha w
  rw [hr, sh_up] at hL
  rw [w8_mod (mul_past a k r 512 hrk hq)] at hL
  have hlost := lost_past a k r 512 hrk hq ha
  rw [hd, ← hd, ← hlost, hd] at hS
  refine wideShifts_first (dgl a) (dgl (a * 2 ^ k)) (dgl (a / 2 ^ k)) (dgl (sh (extN a) (-(roomI n)))) a k (a / 2 ^ k) (a / 2 ^ k * 2 ^ k) n (cmpN (a / 2 ^ k * 2 ^ k) a) _ _ (!decide (a / 2 ^ k * 2 ^ k = a)) w hk
    (fun w => refBig_any a ha w) (fun v w h => (refShl_any a 40 k v w h (by omega) (by omega)).mono fun e w' ⟨v, h1, h2, h3⟩ => ⟨v, h1, h2.mono (by omega), h3⟩) (fun v w h => refWide_any _ _ v w h) (fun v w h => refShr_any a 40 k v w h (by omega) (by omega)) (fun v w h => refWide_any _ _ v w h)
    hS hL (fun v w h => (refShl_any _ 40 k v w h (by omega) (by omega)).mono fun e w' ⟨v, h1, h2, h3⟩ => ⟨v, h1, h2.mono (by omega), h3⟩) (fun x y w hx hy => cmp_any _ _ _ _ x y w hx hy) ?_ (fun w => wideSar_any a n ha w) (fun w => refSar_any a n ha w)
  rw [Bool.not_not, Bool.eq_iff_iff, beq_iff_eq, decide_eq_true_iff]
  unfold cmpN
  constructor
  · intro h
    split at h
    · cases h
    · split at h
      · cases h
      · omega
  · intro h
    rw [h, if_neg (Nat.lt_irrefl _), if_neg (Nat.lt_irrefl _)]

end Go.Proofs.Ytenbomfoihajhaa

/- For all wides and all ints the law radicandlaw02.WideShifts returns true, and its arguments read afterwards as they read before. No condition. -/
namespace Go.Proofs.Ytenbomfoihajhaa.wideShifts
open Go.ChangeShapes Go.WideShapes Go.ChangeAt Go.RowKit Go.Proofs.Ytenbomfoihajhaa

theorem own : ownKnob Try.prog.godebug = none := by kernel_rfl
theorem laidOut : laidOutB Try.prog = true := by kernel_rfl

set_option maxRecDepth 100000 in
theorem lifted (os : Os) (started : os.Started) (H : Type) (enc : TypeId × Value → H) :
    ReturnsInHanded {} Try.checked os 3 .any (Rows.wideShiftsSpec.pre6 enc Try.prog Try.f3 Rows.wideShiftsRow.domain false) (Rows.wideShiftsSpec.post enc Try.prog Try.f3 false true false false) := by
  refine returnsInHanded_of_change (C := Try.checked) own started (by kernel_rfl) Try.func3
    (ChangeSpec.witness6 (enc := enc) (C := Try.checked) false ⟨#[], #[.agg #[.int .u64 0, .int .u64 0, .int .u64 0, .int .u64 0, .int .u64 0, .int .u64 0, .int .u64 0, .int .u64 0], .int .i64 0], []⟩ 40 (by kernel_rfl) (by kernel_rfl) (by kernel_rfl) (by kernel_rfl)) ?_
  intro W base args ds gs before hval0 hW hcnd _
  have hval : ∀ (j : Nat) t v, Try.f3.params[j]? = some t → args[j]? = some v → Value.okWide Try.prog W .any base t v := hval0
  have hW' := hW
  obtain ⟨p, q, hA0, hV, rfl, hfz, hnd⟩ := hW
  have hA : DataW.TrodAll enc Try.prog W 0 (fun _ => true) true Try.f3.params.toList args.toList ds p := hA0
  rw [Try.params3] at hA hval
  obtain ⟨v0, vs0, d0, ds0, p0, q0, hargs, rfl, rfl, h0, r0⟩ := trodAll_cons hA
  obtain ⟨v1, vs1, d1, ds1, p1, q1, rfl, rfl, rfl, h1, r1⟩ := trodAll_cons r0
  obtain ⟨rfl, rfl, rfl⟩ := trodAll_nil r1
  obtain rfl : args = #[v0, v1] := by cases args; simp_all
  obtain ⟨rfl, rfl⟩ := trodVars_none hV
  have k0 := h0
  have lt0 : ∀ x ∈ p0, x.block < W.heap.size := by obtain ⟨m, hm⟩ := k0; exact DataW.trod_lt m _ _ _ hm
  have k1 := h1
  have lt1 : ∀ x ∈ p1, x.block < W.heap.size := by obtain ⟨m, hm⟩ := k1; exact DataW.trod_lt m _ _ _ hm
  obtain ⟨x0, hx0, rfl⟩ := wide_of_trod (hval 0 24 v0 rfl rfl) h0
  obtain ⟨a1, rfl, rfl, rfl, wf1⟩ := open_int Try.underlying3 (hval 1 3 v1 rfl rfl) h1
  clear hA0 hval0
  refine (wideShifts_walk x0 a1 hx0 W).mono fun e W' ⟨he, bel⟩ => ?_
  subst he
  exact ⟨_, rfl, _, _, _, [], _, [], hW', trodAll_mk1 (shut_bool Try.underlying4 _), (trodAll_cons_mk (Below.trod laidOut (by kernel_rfl) (of_decide_eq_true (by kernel_rfl)) k0 bel lt0) (trodAll_cons_mk (Below.trod laidOut (by kernel_rfl) (of_decide_eq_true (by kernel_rfl)) k1 bel lt1) trodAll_mk0)), rfl, bel.frame _, fun h => by cases h⟩

theorem over : Rows.wideShiftsRow.holds Try.pinned (OpenSpec.ofChange Rows.wideShiftsSpec) :=
  OpenClaim.holds_of_wide 3 Try.f3 rfl rfl rfl rfl rfl rfl rfl ⟨rfl, rfl, rfl, rfl, rfl⟩ rfl rfl rfl rfl rfl (by kernel_rfl) Try.func3 (by kernel_rfl)
    (of_decide_eq_true (by kernel_rfl)) (by unfold Func.isWrapper; first | (rw [if_pos (by decide +kernel)]; kernel_rfl) | (rw [if_neg (by decide +kernel)]; exact ⟨rfl, rfl⟩))
    (fun os started H enc _ => lifted os started H enc)

theorem proved : Rows.WideShiftsSaid := over
#print axioms proved
end Go.Proofs.Ytenbomfoihajhaa.wideShifts

