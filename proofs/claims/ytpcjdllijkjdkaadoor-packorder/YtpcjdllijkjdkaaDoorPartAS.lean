/- Contracts and laws: ClsF, ClsG, ClsH, ClsI. -/
import Derived.Test.YtpcjdllijkjdkaaDoorPartAR
import Derived.Deep.DeepCutAuto
/- Contracts: radicandref06.Fraction. -/
set_option linter.unusedVariables false
set_option linter.unusedSimpArgs false
set_option maxRecDepth 8000
namespace Go.Proofs.YtpcjdllijkjdkaaDoor
open Go.RowKit Plain

end Go.Proofs.YtpcjdllijkjdkaaDoor

/- Contracts: radicandref06.Class, Neg. -/
set_option linter.unusedVariables false
set_option linter.unusedSimpArgs false
set_option maxRecDepth 8000
namespace Go.Proofs.YtpcjdllijkjdkaaDoor
open Go.RowKit Plain

end Go.Proofs.YtpcjdllijkjdkaaDoor

/- Contracts: radicandref06.Neg; what is none of a format's, for all of ref06 and class. -/
set_option linter.unusedVariables false
set_option linter.unusedSimpArgs false
set_option maxRecDepth 8000
namespace Go.Proofs.YtpcjdllijkjdkaaDoor
open Go.RowKit Plain

set_option maxHeartbeats 1000000 in
theorem refNeg_no (f : Int) (hi lo : Nat)
    (HFI : Hid (∀ w, Calls Tryd.prog 74 #[.int .i64 f, .agg #[.int .u64 (hi : Nat), .int .u64 (lo : Nat)]] w fun e w' => e = .returned (.bool false) ∧ Below w.heap.size w w')) (w : World) : Calls Tryd.prog 46 #[.int .i64 f, .agg #[.int .u64 (hi : Nat), .int .u64 (lo : Nat)]] w fun e w' => e = .returned (.bool false) ∧ Below w.heap.size w w' := by
  have HST := hide (fitSt_start hi lo w)
  go_enter Tryd.func46, Tryd.ntmps46
  go_upto_region 1 with fail
  refine wp_gen (fun W => FitSt hi lo w W) HST.out ?_
  clear HST
  rintro W1 h1
  refine wp_region_grow 10 [(5, .val (.int .i64 f)), (6, .val (.agg #[.int .u64 (hi : Nat), .int .u64 (lo : Nat)])), (7, .val (.bool false)), (8, .val (.bool false)), (9, .val (undef)), (10, .val (undef)), (11, .val (undef)), (12, .val (undef)), (13, .val (undef)), (14, .val (.bool false))]
    (fun W => FitSt hi lo w W) mixedOk (by kernel_rfl) (by kernel_rfl) (h1.below (Below.refl _ _).drew) (fun W W' h hb => h.below hb) ?_ ?_
  · refine gSt (gStep_run rfl (gRun_move 0 5 (.inl rfl) rfl (by decide +kernel) (fun v w h => h))) ?_
    refine gSt (gStep_run rfl ?_) ?_
    · intro ρ W hC hc hf hL
      have e3 : ρ (.tmp 3) = .pointer (some ⟨w.heap.size, 0, none⟩) := hL 3 (by decide +kernel)
      have l0 := hC.h
      have l1 := hC.l
      simp [go_sem, hc, hf, e3, l0, l1]
      exact ⟨Below.refl _ _, rfl⟩
    refine gSt (gStep_run rfl ?_) ?_
    · intro ρ W hC hc hf hL
      have e5 : ρ (.tmp 5) = .int .i64 f := hL 5 (by decide +kernel)
      have e6 : ρ (.tmp 6) = .agg #[.int .u64 (hi : Nat), .int .u64 (lo : Nat)] := hL 6 (by decide +kernel)
      simp [go_sem, hc, hf, e5, e6]
      refine (HFI.out W).mono ?_
      rintro e w' ⟨rfl, hb⟩
      exact ⟨_, rfl, by first | exact hb | (subst hb; exact Below.refl _ _), rfl⟩
    refine gSt (gStep_run rfl (gRun_move 7 8 (.inl rfl) rfl (by decide +kernel) (fun v w h => h))) ?_
    refine gSt (gStep_off 3 8 true rfl rfl (by decide +kernel) (fun v w h => h) (fun w => rfl)) ?_
    refine gSt (gStep_off 3 8 true rfl rfl (by decide +kernel) (fun v w h => h) (fun w => rfl)) ?_
    refine gSt (gStep_off 3 8 true rfl rfl (by decide +kernel) (fun v w h => h) (fun w => rfl)) ?_
    refine gSt (gStep_off 3 8 true rfl rfl (by decide +kernel) (fun v w h => h) (fun w => rfl)) ?_
    refine gSt (gStep_off 3 8 true rfl rfl (by decide +kernel) (fun v w h => h) (fun w => rfl)) ?_
    refine gSt (gStep_run rfl (gRun_pickF 8 14 _ _ rfl rfl (by decide +kernel) (fun v w h => h) (fun w => rfl))) ?_
    exact gSt0
  · intro W hC
    refine gFi 5 rfl ?_
    rintro _ rfl
    refine gFi 6 rfl ?_
    rintro _ rfl
    refine gFi 7 rfl ?_
    rintro _ rfl
    refine gFi 8 rfl ?_
    rintro _ rfl
    refine gFi 9 rfl ?_
    rintro _ rfl
    refine gFi 10 rfl ?_
    rintro _ rfl
    refine gFi 11 rfl ?_
    rintro _ rfl
    refine gFi 12 rfl ?_
    rintro _ rfl
    refine gFi 13 rfl ?_
    rintro _ rfl
    refine gFi 14 rfl ?_
    rintro _ rfl
    refine gFi0 ?_
    simp only [List.drop_succ_cons, List.drop_zero, Act.put, List.setIfInBounds_toArray, List.set_cons_succ, List.set_cons_zero]
    have HB := hide hC.bel
    clear hC h1
    go_wp2
    go_ret
    exact ⟨rfl, HB.out⟩

set_option maxHeartbeats 1000000 in
theorem refNeg_yes (f : Int) (hi lo B : Nat) (b : Bool) (hB : 1 ≤ B ∧ B ≤ 128)
    (HFI : Hid (∀ w, Calls Tryd.prog 74 #[.int .i64 f, .agg #[.int .u64 (hi : Nat), .int .u64 (lo : Nat)]] w fun e w' => e = .returned (.bool true) ∧ Below w.heap.size w w'))
    (HBI : Hid (∀ w, Calls Tryd.prog 102 #[.int .i64 f] w fun e w' => e = .returned (.int .i64 (B : Nat)) ∧ w' = w))
    (HBT : Hid (∀ w, Calls Tryd.prog 78 #[.agg #[.int .u64 (hi : Nat), .int .u64 (lo : Nat)], .int .i64 ((B : Int) - 1)] w fun e w' => e = .returned (.bool b) ∧ Below w.heap.size w w')) (w : World) : Calls Tryd.prog 46 #[.int .i64 f, .agg #[.int .u64 (hi : Nat), .int .u64 (lo : Nat)]] w fun e w' => e = .returned (.bool b) ∧ Below w.heap.size w w' := by
  have HW : Hid (IntKind.i64.wrap ((B : Int) - 1) = (B : Int) - 1) := by unfold Hid; rw [IntKind.wrap_i64]; omega
  clear hB
  have HST := hide (fitSt_start hi lo w)
  go_enter Tryd.func46, Tryd.ntmps46
  go_upto_region 1 with fail
  refine wp_gen (fun W => FitSt hi lo w W) HST.out ?_
  clear HST
  rintro W1 h1
  refine wp_region_grow 10 [(5, .val (.int .i64 f)), (6, .val (.agg #[.int .u64 (hi : Nat), .int .u64 (lo : Nat)])), (7, .val (.bool true)), (8, .val (.bool true)), (9, .val (.agg #[.int .u64 (hi : Nat), .int .u64 (lo : Nat)])), (10, .val (.int .i64 f)), (11, .val (.int .i64 (B : Nat))), (12, .val (.int .i64 ((B : Int) - 1))), (13, .val (.bool b)), (14, .val (.bool b))]
    (fun W => FitSt hi lo w W) mixedOk (by kernel_rfl) (by kernel_rfl) (h1.below (Below.refl _ _).drew) (fun W W' h hb => h.below hb) ?_ ?_
  · refine gSt (gStep_run rfl (gRun_move 0 5 (.inl rfl) rfl (by decide +kernel) (fun v w h => h))) ?_
    refine gSt (gStep_run rfl ?_) ?_
    · intro ρ W hC hc hf hL
      have e3 : ρ (.tmp 3) = .pointer (some ⟨w.heap.size, 0, none⟩) := hL 3 (by decide +kernel)
      have l0 := hC.h
      have l1 := hC.l
      simp [go_sem, hc, hf, e3, l0, l1]
      exact ⟨Below.refl _ _, rfl⟩
    refine gSt (gStep_run rfl ?_) ?_
    · intro ρ W hC hc hf hL
      have e5 : ρ (.tmp 5) = .int .i64 f := hL 5 (by decide +kernel)
      have e6 : ρ (.tmp 6) = .agg #[.int .u64 (hi : Nat), .int .u64 (lo : Nat)] := hL 6 (by decide +kernel)
      simp [go_sem, hc, hf, e5, e6]
      refine (HFI.out W).mono ?_
      rintro e w' ⟨rfl, hb⟩
      exact ⟨_, rfl, by first | exact hb | (subst hb; exact Below.refl _ _), rfl⟩
    refine gSt (gStep_run rfl (gRun_move 7 8 (.inl rfl) rfl (by decide +kernel) (fun v w h => h))) ?_
    refine gSt (gStep_on 3 8 true rfl rfl (by decide +kernel) (fun v w h => h) ?_) ?_
    · intro ρ W hC hc hf hL
      have e3 : ρ (.tmp 3) = .pointer (some ⟨w.heap.size, 0, none⟩) := hL 3 (by decide +kernel)
      have l0 := hC.h
      have l1 := hC.l
      simp [go_sem, hc, hf, e3, l0, l1]
      exact ⟨Below.refl _ _, rfl⟩
    refine gSt (gStep_on 3 8 true rfl rfl (by decide +kernel) (fun v w h => h) (gRun_move 0 10 (.inl rfl) rfl (by decide +kernel) (fun v w h => h))) ?_
    refine gSt (gStep_on 3 8 true rfl rfl (by decide +kernel) (fun v w h => h) ?_) ?_
    · intro ρ W hC hc hf hL
      have e10 : ρ (.tmp 10) = .int .i64 f := hL 10 (by decide +kernel)
      simp [go_sem, hc, hf, e10]
      refine (HBI.out W).mono ?_
      rintro e w' ⟨rfl, hb⟩
      exact ⟨_, rfl, by first | exact hb | (subst hb; exact Below.refl _ _), rfl⟩
    refine gSt (gStep_on 3 8 true rfl rfl (by decide +kernel) (fun v w h => h) ?_) ?_
    · intro ρ W hC hc hf hL
      have e11 : ρ (.tmp 11) = .int .i64 (B : Nat) := hL 11 (by decide +kernel)
      have hl := HW.out
      simp [go_sem, hc, hf, e11, hl]
      exact ⟨Below.refl _ _, rfl⟩
    refine gSt (gStep_on 3 8 true rfl rfl (by decide +kernel) (fun v w h => h) ?_) ?_
    · intro ρ W hC hc hf hL
      have e9 : ρ (.tmp 9) = .agg #[.int .u64 (hi : Nat), .int .u64 (lo : Nat)] := hL 9 (by decide +kernel)
      have e12 : ρ (.tmp 12) = .int .i64 ((B : Int) - 1) := hL 12 (by decide +kernel)
      simp [go_sem, hc, hf, e9, e12]
      refine (HBT.out W).mono ?_
      rintro e w' ⟨rfl, hb⟩
      exact ⟨_, rfl, by first | exact hb | (subst hb; exact Below.refl _ _), rfl⟩
    refine gSt (gStep_run rfl (gRun_pickT 8 13 14 _ rfl rfl (by decide +kernel) (by decide +kernel) (fun v w h => h) (fun v w h => h))) ?_
    exact gSt0
  · intro W hC
    refine gFi 5 rfl ?_
    rintro _ rfl
    refine gFi 6 rfl ?_
    rintro _ rfl
    refine gFi 7 rfl ?_
    rintro _ rfl
    refine gFi 8 rfl ?_
    rintro _ rfl
    refine gFi 9 rfl ?_
    rintro _ rfl
    refine gFi 10 rfl ?_
    rintro _ rfl
    refine gFi 11 rfl ?_
    rintro _ rfl
    refine gFi 12 rfl ?_
    rintro _ rfl
    refine gFi 13 rfl ?_
    rintro _ rfl
    refine gFi 14 rfl ?_
    rintro _ rfl
    refine gFi0 ?_
    simp only [List.drop_succ_cons, List.drop_zero, Act.put, List.setIfInBounds_toArray, List.set_cons_succ, List.set_cons_zero]
    have HB := hide hC.bel
    clear hC h1
    go_wp2
    go_ret
    exact ⟨rfl, HB.out⟩

theorem refNeg_none (f : Int) (h : f < 1 ∨ 4 < f) (hi lo : Nat) (w : World) : Calls Tryd.prog 46 #[.int .i64 f, .agg #[.int .u64 (hi : Nat), .int .u64 (lo : Nat)]] w fun e w' => e = .returned (.bool false) ∧ Below w.heap.size w w' :=
  refNeg_no f hi lo (fun w => refFits_none f h hi lo w) w
theorem refNeg_1 (hi lo : Nat) (hh : hi < 18446744073709551616) (hl : lo < 18446744073709551616) (w : World) : Calls Tryd.prog 46 #[.int .i64 1, .agg #[.int .u64 (hi : Nat), .int .u64 (lo : Nat)]] w fun e w' => e = .returned (.bool (negN 16 (lo + 18446744073709551616 * hi))) ∧ Below w.heap.size w w' := by
  have hFI := fun w => refFits_1 hi lo hh hl w
  by_cases h : (lo + 18446744073709551616 * hi) < 2 ^ 16
  · rw [decide_eq_true h] at hFI
    rw [show negN 16 (lo + 18446744073709551616 * hi) = ((lo + 18446744073709551616 * hi) / 2 ^ 15 % 2 == 1) from by unfold negN; rw [decide_eq_true h, Bool.true_and]]
    exact refNeg_yes 1 hi lo 16 _ (by decide) hFI (fun w => bits_1 w) (fun w => refBit5_any hi lo 15 hh hl (by decide) _ (by decide) w) w
  · rw [decide_eq_false h] at hFI
    rw [show negN 16 (lo + 18446744073709551616 * hi) = false from by unfold negN; rw [decide_eq_false h, Bool.false_and]]
    exact refNeg_no 1 hi lo hFI w
theorem refNeg_2 (hi lo : Nat) (hh : hi < 18446744073709551616) (hl : lo < 18446744073709551616) (w : World) : Calls Tryd.prog 46 #[.int .i64 2, .agg #[.int .u64 (hi : Nat), .int .u64 (lo : Nat)]] w fun e w' => e = .returned (.bool (negN 32 (lo + 18446744073709551616 * hi))) ∧ Below w.heap.size w w' := by
  have hFI := fun w => refFits_2 hi lo hh hl w
  by_cases h : (lo + 18446744073709551616 * hi) < 2 ^ 32
  · rw [decide_eq_true h] at hFI
    rw [show negN 32 (lo + 18446744073709551616 * hi) = ((lo + 18446744073709551616 * hi) / 2 ^ 31 % 2 == 1) from by unfold negN; rw [decide_eq_true h, Bool.true_and]]
    exact refNeg_yes 2 hi lo 32 _ (by decide) hFI (fun w => bits_2 w) (fun w => refBit5_any hi lo 31 hh hl (by decide) _ (by decide) w) w
  · rw [decide_eq_false h] at hFI
    rw [show negN 32 (lo + 18446744073709551616 * hi) = false from by unfold negN; rw [decide_eq_false h, Bool.false_and]]
    exact refNeg_no 2 hi lo hFI w
theorem refNeg_3 (hi lo : Nat) (hh : hi < 18446744073709551616) (hl : lo < 18446744073709551616) (w : World) : Calls Tryd.prog 46 #[.int .i64 3, .agg #[.int .u64 (hi : Nat), .int .u64 (lo : Nat)]] w fun e w' => e = .returned (.bool (negN 64 (lo + 18446744073709551616 * hi))) ∧ Below w.heap.size w w' := by
  have hFI := fun w => refFits_3 hi lo hh hl w
  by_cases h : (lo + 18446744073709551616 * hi) < 2 ^ 64
  · rw [decide_eq_true h] at hFI
    rw [show negN 64 (lo + 18446744073709551616 * hi) = ((lo + 18446744073709551616 * hi) / 2 ^ 63 % 2 == 1) from by unfold negN; rw [decide_eq_true h, Bool.true_and]]
    exact refNeg_yes 3 hi lo 64 _ (by decide) hFI (fun w => bits_3 w) (fun w => refBit5_any hi lo 63 hh hl (by decide) _ (by decide) w) w
  · rw [decide_eq_false h] at hFI
    rw [show negN 64 (lo + 18446744073709551616 * hi) = false from by unfold negN; rw [decide_eq_false h, Bool.false_and]]
    exact refNeg_no 3 hi lo hFI w
theorem refNeg_4 (hi lo : Nat) (hh : hi < 18446744073709551616) (hl : lo < 18446744073709551616) (w : World) : Calls Tryd.prog 46 #[.int .i64 4, .agg #[.int .u64 (hi : Nat), .int .u64 (lo : Nat)]] w fun e w' => e = .returned (.bool (negN 128 (lo + 18446744073709551616 * hi))) ∧ Below w.heap.size w w' := by
  have hFI := fun w => refFits_4 hi lo hh hl w
  by_cases h : (lo + 18446744073709551616 * hi) < 2 ^ 128
  · rw [decide_eq_true h] at hFI
    rw [show negN 128 (lo + 18446744073709551616 * hi) = ((lo + 18446744073709551616 * hi) / 2 ^ 127 % 2 == 1) from by unfold negN; rw [decide_eq_true h, Bool.true_and]]
    exact refNeg_yes 4 hi lo 128 _ (by decide) hFI (fun w => bits_4 w) (fun w => refBit5_any hi lo 127 hh hl (by decide) _ (by decide) w) w
  · rw [decide_eq_false h] at hFI
    rw [show negN 128 (lo + 18446744073709551616 * hi) = false from by unfold negN; rw [decide_eq_false h, Bool.false_and]]
    exact refNeg_no 4 hi lo hFI w

end Go.Proofs.YtpcjdllijkjdkaaDoor

/- Contracts: class.Make, as a walk. -/
set_option linter.unusedVariables false
set_option linter.unusedSimpArgs false
set_option maxRecDepth 8000
namespace Go.Proofs.YtpcjdllijkjdkaaDoor
open Go.RowKit Plain

/-- What Make goes by: the fraction, the result, the format's record. -/
structure MkSt (w : World) (p : Nat) (k : Nat → Int) (b : Nat) (W : World) : Prop where
  g : FmtG W
  gl : 1 < w.heap.size
  lb : LiesF W (w.heap.size) (dgl b)
  r0 : W.cell? ⟨w.heap.size + 1, 0, none⟩ = some (.int .u64 0)
  r1 : W.cell? ⟨w.heap.size + 1, 1, none⟩ = some (.int .u64 0)
  fz : ∀ i, W.frozen? ⟨w.heap.size + 1, i, none⟩ = false
  lt : w.heap.size + 1 < W.heap.size
  rk : ∀ i, i < 5 → W.cell? ⟨p, i, none⟩ = some (.int .i64 (k i))
  lk : p < W.heap.size
  ne : w.heap.size + 1 < p
  bel : Below w.heap.size w W
theorem MkSt.under {w : World} {p : Nat} {k : Nat → Int} {b : Nat} {W W' : World} (h : MkSt w p k b W) {C : Nat} (hb : Below C W W') (hc : p < C) : MkSt w p k b W' :=
  have hn := h.ne
  have hg := h.gl
  ⟨⟨fun i hi => (hb.cell (p := ⟨1, i, none⟩) (show 1 < _ by omega)).trans (h.g.c i hi), Nat.lt_of_lt_of_le h.g.lt hb.size⟩, h.gl, lies_box h.lb hb (by omega), (hb.cell (p := ⟨w.heap.size + 1, 0, none⟩) (show w.heap.size + 1 < C by omega)).trans h.r0, (hb.cell (p := ⟨w.heap.size + 1, 1, none⟩) (show w.heap.size + 1 < C by omega)).trans h.r1,
    fun i => (hb.frozen (p := ⟨w.heap.size + 1, i, none⟩) (show w.heap.size + 1 < C by omega)).trans (h.fz i), Nat.lt_of_lt_of_le h.lt hb.size, fun i hi => (hb.cell (p := ⟨p, i, none⟩) hc).trans (h.rk i hi), Nat.lt_of_lt_of_le h.lk hb.size, h.ne, h.bel.trans (hb.mono (by omega))⟩
theorem MkSt.below {w : World} {p : Nat} {k : Nat → Int} {b : Nat} {W W' : World} (h : MkSt w p k b W) (hb : Below W.heap.size W W') : MkSt w p k b W' := h.under hb h.lk
theorem mkSt_start (w w1 : World) (k : Nat → Int) (b : Nat) (hg : FmtG w) (hb : Below ((w.alloc (.cells #[.int .u64 (dgl (b) 0 : Nat), .int .u64 (dgl (b) 1 : Nat), .int .u64 (dgl (b) 2 : Nat), .int .u64 (dgl (b) 3 : Nat), .int .u64 (dgl (b) 4 : Nat), .int .u64 (dgl (b) 5 : Nat), .int .u64 (dgl (b) 6 : Nat), .int .u64 (dgl (b) 7 : Nat)] 24)).alloc (.cells #[.int .u64 0, .int .u64 0] 28)).heap.size ((w.alloc (.cells #[.int .u64 (dgl (b) 0 : Nat), .int .u64 (dgl (b) 1 : Nat), .int .u64 (dgl (b) 2 : Nat), .int .u64 (dgl (b) 3 : Nat), .int .u64 (dgl (b) 4 : Nat), .int .u64 (dgl (b) 5 : Nat), .int .u64 (dgl (b) 6 : Nat), .int .u64 (dgl (b) 7 : Nat)] 24)).alloc (.cells #[.int .u64 0, .int .u64 0] 28)) w1) :
    MkSt w w1.heap.size k b (w1.alloc (.cells #[.int .i64 (k 0), .int .i64 (k 1), .int .i64 (k 2), .int .i64 (k 3), .int .i64 (k 4)] 85)) := by
  have hs := hb.size
  have h0 := below_trans hb (below_allocs w1 (.cells #[.int .i64 (k 0), .int .i64 (k 1), .int .i64 (k 2), .int .i64 (k 3), .int .i64 (k 4)] 85))
  have ha := below_trans (below_allocs w (.cells #[.int .u64 (dgl (b) 0 : Nat), .int .u64 (dgl (b) 1 : Nat), .int .u64 (dgl (b) 2 : Nat), .int .u64 (dgl (b) 3 : Nat), .int .u64 (dgl (b) 4 : Nat), .int .u64 (dgl (b) 5 : Nat), .int .u64 (dgl (b) 6 : Nat), .int .u64 (dgl (b) 7 : Nat)] 24)) (below_allocs (w.alloc (.cells #[.int .u64 (dgl (b) 0 : Nat), .int .u64 (dgl (b) 1 : Nat), .int .u64 (dgl (b) 2 : Nat), .int .u64 (dgl (b) 3 : Nat), .int .u64 (dgl (b) 4 : Nat), .int .u64 (dgl (b) 5 : Nat), .int .u64 (dgl (b) 6 : Nat), .int .u64 (dgl (b) 7 : Nat)] 24)) (.cells #[.int .u64 0, .int .u64 0] 28))
  have hl := ((liesF_new w (dgl b) 24).alloc (.cells #[.int .u64 0, .int .u64 0] 28)).below h0
  rw [World.size_alloc, World.size_alloc] at hs h0
  have hbel := below_trans ha (show Below ((w.alloc (.cells #[.int .u64 (dgl (b) 0 : Nat), .int .u64 (dgl (b) 1 : Nat), .int .u64 (dgl (b) 2 : Nat), .int .u64 (dgl (b) 3 : Nat), .int .u64 (dgl (b) 4 : Nat), .int .u64 (dgl (b) 5 : Nat), .int .u64 (dgl (b) 6 : Nat), .int .u64 (dgl (b) 7 : Nat)] 24)).alloc (.cells #[.int .u64 0, .int .u64 0] 28)).heap.size _ _ by rw [World.size_alloc, World.size_alloc]; exact h0)
  refine ⟨hg.below hbel, hg.lt, hl, (h0.cell (p := ⟨w.heap.size + 1, 0, none⟩) (show w.heap.size + 1 < w.heap.size + 1 + 1 by omega)).trans (by simp [go_sem]), (h0.cell (p := ⟨w.heap.size + 1, 1, none⟩) (show w.heap.size + 1 < w.heap.size + 1 + 1 by omega)).trans (by simp [go_sem]),
    fun i => (h0.frozen (p := ⟨w.heap.size + 1, i, none⟩) (show w.heap.size + 1 < w.heap.size + 1 + 1 by omega)).trans (by simp [go_sem]), by simp; omega, fun i hi => rec5_new w1 k _ i hi, by simp, by omega, hbel⟩

end Go.Proofs.YtpcjdllijkjdkaaDoor

