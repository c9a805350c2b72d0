/- Contracts and laws: ClsG. -/
import Derived.Test.YtidfegilddlglaaDoorXClsF
/- Contracts: radicandref06.Class, Neg. -/
set_option linter.unusedVariables false
set_option linter.unusedSimpArgs false
set_option maxRecDepth 8000
namespace Go.Proofs.YtidfegilddlglaaDoor
open Go.RowKit Plain

theorem bit_mod (a m : Nat) : a % 2 ^ (m + 1) / 2 ^ m % 2 = a / 2 ^ m % 2 := by
  rw [Nat.pow_succ, Nat.mod_mul, Nat.add_mul_div_left _ _ (Nat.two_pow_pos m), Nat.div_eq_of_lt (Nat.mod_lt _ (Nat.two_pow_pos m)), Nat.zero_add, Nat.mod_mod]

set_option maxHeartbeats 1000000 in
theorem refClass_no (f : Int) (hi lo : Nat)
    (HFI : Hid (∀ w, Calls Tryd.prog 32 #[.int .i64 f, .agg #[.int .u64 (hi : Nat), .int .u64 (lo : Nat)]] w fun e w' => e = .returned (.bool false) ∧ Below w.heap.size w w')) (w : World) : Calls Tryd.prog 12 #[.int .i64 f, .agg #[.int .u64 (hi : Nat), .int .u64 (lo : Nat)]] w fun e w' => e = .returned (.int .i64 0) ∧ Below w.heap.size w w' := by
  have HST := hide (fitSt_start hi lo w)
  go_enter Tryd.func12, Tryd.ntmps12
  go_wp2_with fail
  refine (HFI.out _).mono ?_
  rintro e w1 ⟨rfl, hb1⟩
  have HB := hide (HST.out.below hb1).bel
  clear HST hb1
  go_wp2
  go_ret
  exact ⟨rfl, HB.out⟩

set_option maxHeartbeats 2000000 in
theorem refCls_inf (f : Int) (hi lo fd r X P : Nat) (hr : r < QQ) (hX : X ≤ 20000) (hP : 2 ≤ P ∧ P ≤ 200) (h0 : r = 0) (HEQ : Hid (((fd : Int) == (2 * (X : Int) + 1)) = true))
    (HFI : Hid (∀ w, Calls Tryd.prog 32 #[.int .i64 f, .agg #[.int .u64 (hi : Nat), .int .u64 (lo : Nat)]] w fun e w' => e = .returned (.bool true) ∧ Below w.heap.size w w'))
    (HFD : Hid (∀ w, Calls Tryd.prog 23 #[.int .i64 f, .agg #[.int .u64 (hi : Nat), .int .u64 (lo : Nat)]] w fun e w' => e = .returned (.int .i64 ((fd : Nat) : Int)) ∧ Below w.heap.size w w'))
    (HFC : Hid (∀ w, Calls Tryd.prog 24 #[.int .i64 f, .agg #[.int .u64 (hi : Nat), .int .u64 (lo : Nat)]] w fun e w' => e = .returned (.agg #[.int .u64 (dgl (r) 0 : Nat), .int .u64 (dgl (r) 1 : Nat), .int .u64 (dgl (r) 2 : Nat), .int .u64 (dgl (r) 3 : Nat), .int .u64 (dgl (r) 4 : Nat), .int .u64 (dgl (r) 5 : Nat), .int .u64 (dgl (r) 6 : Nat), .int .u64 (dgl (r) 7 : Nat)]) ∧ Below w.heap.size w w'))
    (HEM : Hid (∀ w, Calls Tryd.prog 28 #[.int .i64 f] w fun e w' => e = .returned (.int .i64 (X : Nat)) ∧ w' = w)) (w : World) :
    Calls Tryd.prog 12 #[.int .i64 f, .agg #[.int .u64 (hi : Nat), .int .u64 (lo : Nat)]] w fun e w' => e = .returned (.int .i64 3) ∧ Below w.heap.size w w' := by
  have HST := hide (fitSt_start hi lo w)
  have hz := fun w => wide_eqz hr w
  rw [decide_eq_true h0] at hz
  have HX2 : Hid (IntKind.i64.wrap (2 * (X : Int)) = 2 * (X : Int)) := by unfold Hid; rw [IntKind.wrap_i64]; omega
  have HX3 : Hid (IntKind.i64.wrap (2 * (X : Int) + 1) = 2 * (X : Int) + 1) := by unfold Hid; rw [IntKind.wrap_i64]; omega
  have HP2 : Hid (IntKind.i64.wrap ((P : Int) - 2) = (P : Int) - 2) := by unfold Hid; rw [IntKind.wrap_i64]; omega
  have HX0 := hide (show (X : Int) ≤ 20000 by omega)
  have hx0 := HX0.out
  clear hr h0 hX hP
  go_enter Tryd.func12, Tryd.ntmps12
  go_wp2_with fail
  refine (HFI.out _).mono ?_
  rintro e w1 ⟨rfl, hb1⟩
  replace HST := hide (HST.out.below hb1)
  clear hb1
  have c0 := HST.out.h
  have c1 := HST.out.l
  have c2 := HST.out.lt
  go_wp2_with fail
  refine (HFD.out _).mono ?_
  rintro e w2 ⟨rfl, hb2⟩
  replace HST := hide (HST.out.below hb2)
  clear hb2 c0 c1 c2
  have c0 := HST.out.h
  have c1 := HST.out.l
  have c2 := HST.out.lt
  go_wp2_with fail
  refine (HFC.out _).mono ?_
  rintro e w3 ⟨rfl, hb3⟩
  replace HST := hide (HST.out.below hb3)
  clear hb3 c0 c1 c2
  have heq := HEQ.out
  go_wp2_with fail
  refine (HEM.out _).mono ?_
  rintro e w4 ⟨rfl, hw⟩
  subst w4
  have HB := hide HST.out.bel
  clear HST
  go_wp2
  go_ret
  exact ⟨rfl, HB.out⟩

set_option maxHeartbeats 2000000 in
theorem refCls_quiet (f : Int) (hi lo fd r X P : Nat) (hr : r < QQ) (hX : X ≤ 20000) (hP : 2 ≤ P ∧ P ≤ 200) (h0 : ¬ r = 0) (HEQ : Hid (((fd : Int) == (2 * (X : Int) + 1)) = true)) (HPR : Hid (∀ w, Calls Tryd.prog 31 #[.int .i64 f] w fun e w' => e = .returned (.int .i64 (P : Nat)) ∧ w' = w)) (HBT : Hid (∀ w, Calls Tryd.prog 49 #[.agg #[.int .u64 (hi : Nat), .int .u64 (lo : Nat)], .int .i64 ((P : Int) - 2)] w fun e w' => e = .returned (.bool true) ∧ Below w.heap.size w w'))
    (HFI : Hid (∀ w, Calls Tryd.prog 32 #[.int .i64 f, .agg #[.int .u64 (hi : Nat), .int .u64 (lo : Nat)]] w fun e w' => e = .returned (.bool true) ∧ Below w.heap.size w w'))
    (HFD : Hid (∀ w, Calls Tryd.prog 23 #[.int .i64 f, .agg #[.int .u64 (hi : Nat), .int .u64 (lo : Nat)]] w fun e w' => e = .returned (.int .i64 ((fd : Nat) : Int)) ∧ Below w.heap.size w w'))
    (HFC : Hid (∀ w, Calls Tryd.prog 24 #[.int .i64 f, .agg #[.int .u64 (hi : Nat), .int .u64 (lo : Nat)]] w fun e w' => e = .returned (.agg #[.int .u64 (dgl (r) 0 : Nat), .int .u64 (dgl (r) 1 : Nat), .int .u64 (dgl (r) 2 : Nat), .int .u64 (dgl (r) 3 : Nat), .int .u64 (dgl (r) 4 : Nat), .int .u64 (dgl (r) 5 : Nat), .int .u64 (dgl (r) 6 : Nat), .int .u64 (dgl (r) 7 : Nat)]) ∧ Below w.heap.size w w'))
    (HEM : Hid (∀ w, Calls Tryd.prog 28 #[.int .i64 f] w fun e w' => e = .returned (.int .i64 (X : Nat)) ∧ w' = w)) (w : World) :
    Calls Tryd.prog 12 #[.int .i64 f, .agg #[.int .u64 (hi : Nat), .int .u64 (lo : Nat)]] w fun e w' => e = .returned (.int .i64 2) ∧ Below w.heap.size w w' := by
  have HST := hide (fitSt_start hi lo w)
  have hz := fun w => wide_eqz hr w
  rw [decide_eq_false h0] at hz
  have HX2 : Hid (IntKind.i64.wrap (2 * (X : Int)) = 2 * (X : Int)) := by unfold Hid; rw [IntKind.wrap_i64]; omega
  have HX3 : Hid (IntKind.i64.wrap (2 * (X : Int) + 1) = 2 * (X : Int) + 1) := by unfold Hid; rw [IntKind.wrap_i64]; omega
  have HP2 : Hid (IntKind.i64.wrap ((P : Int) - 2) = (P : Int) - 2) := by unfold Hid; rw [IntKind.wrap_i64]; omega
  have HX0 := hide (show (X : Int) ≤ 20000 by omega)
  have hx0 := HX0.out
  clear hr h0 hX hP
  go_enter Tryd.func12, Tryd.ntmps12
  go_wp2_with fail
  refine (HFI.out _).mono ?_
  rintro e w1 ⟨rfl, hb1⟩
  replace HST := hide (HST.out.below hb1)
  clear hb1
  have c0 := HST.out.h
  have c1 := HST.out.l
  have c2 := HST.out.lt
  go_wp2_with fail
  refine (HFD.out _).mono ?_
  rintro e w2 ⟨rfl, hb2⟩
  replace HST := hide (HST.out.below hb2)
  clear hb2 c0 c1 c2
  have c0 := HST.out.h
  have c1 := HST.out.l
  have c2 := HST.out.lt
  go_wp2_with fail
  refine (HFC.out _).mono ?_
  rintro e w3 ⟨rfl, hb3⟩
  replace HST := hide (HST.out.below hb3)
  clear hb3 c0 c1 c2
  have heq := HEQ.out
  go_wp2_with fail
  refine (HEM.out _).mono ?_
  rintro e w4 ⟨rfl, hw⟩
  subst w4
  go_upto_region 7 with fail
  refine wp_gen (fun W => FitSt hi lo w W) HST.out ?_
  clear HST hz hx0 heq
  rintro W1 h1
  refine wp_region_grow 13 [(30, .val (.int .i64 (fd : Nat))), (31, .val (.int .i64 f)), (32, .val (.int .i64 (X : Nat))), (33, .val (.int .i64 (2 * (X : Int)))), (34, .val (.int .i64 (2 * (X : Int) + 1))), (35, .val (.bool true)), (36, .val (.bool true)), (37, .val (.agg #[.int .u64 (hi : Nat), .int .u64 (lo : Nat)])), (38, .val (.int .i64 f)), (39, .val (.int .i64 (P : Nat))), (40, .val (.int .i64 ((P : Int) - 2))), (41, .val (.bool true)), (42, .val (.bool true))]
    (fun W => FitSt hi lo w W) mixedOk (by kernel_rfl) (by kernel_rfl) (h1.below (Below.refl _ _).drew) (fun W W' h hb => h.below hb) ?_ ?_
  · refine gSt (gStep_run rfl (gRun_move 5 30 (.inl rfl) rfl (by decide +kernel) (fun v w h => h))) ?_
    refine gSt (gStep_run rfl (gRun_move 0 31 (.inl rfl) rfl (by decide +kernel) (fun v w h => h))) ?_
    refine gSt (gStep_run rfl ?_) ?_
    · intro ρ W hC hc hf hL
      have e31 : ρ (.tmp 31) = .int .i64 f := hL 31 (by decide +kernel)
      simp [go_sem, hc, hf, e31]
      refine (HEM.out W).mono ?_
      rintro e w' ⟨rfl, hb⟩
      exact ⟨_, rfl, by first | exact hb | (subst hb; exact Below.refl _ _), rfl⟩
    refine gSt (gStep_run rfl ?_) ?_
    · intro ρ W hC hc hf hL
      have e32 : ρ (.tmp 32) = .int .i64 (X : Nat) := hL 32 (by decide +kernel)
      have hl := HX2.out
      simp [go_sem, hc, hf, e32, hl]
      exact ⟨Below.refl _ _, rfl⟩
    refine gSt (gStep_run rfl ?_) ?_
    · intro ρ W hC hc hf hL
      have e33 : ρ (.tmp 33) = .int .i64 (2 * (X : Int)) := hL 33 (by decide +kernel)
      have hl := HX3.out
      simp [go_sem, hc, hf, e33, hl]
      exact ⟨Below.refl _ _, rfl⟩
    refine gSt (gStep_run rfl ?_) ?_
    · intro ρ W hC hc hf hL
      have e30 : ρ (.tmp 30) = .int .i64 (fd : Nat) := hL 30 (by decide +kernel)
      have e34 : ρ (.tmp 34) = .int .i64 (2 * (X : Int) + 1) := hL 34 (by decide +kernel)
      have hl := HEQ.out
      simp [go_sem, hc, hf, e30, e34, hl]
      exact ⟨Below.refl _ _, rfl⟩
    refine gSt (gStep_run rfl (gRun_move 35 36 (.inl rfl) rfl (by decide +kernel) (fun v w h => h))) ?_
    refine gSt (gStep_on 6 36 true rfl rfl (by decide +kernel) (fun v w h => h) ?_) ?_
    · intro ρ W hC hc hf hL
      have e3 : ρ (.tmp 3) = .pointer (some ⟨w.heap.size, 0, none⟩) := hL 3 (by decide +kernel)
      have l0 := hC.h
      have l1 := hC.l
      simp [go_sem, hc, hf, e3, l0, l1]
      exact ⟨Below.refl _ _, rfl⟩
    refine gSt (gStep_on 6 36 true rfl rfl (by decide +kernel) (fun v w h => h) (gRun_move 0 38 (.inl rfl) rfl (by decide +kernel) (fun v w h => h))) ?_
    refine gSt (gStep_on 6 36 true rfl rfl (by decide +kernel) (fun v w h => h) ?_) ?_
    · intro ρ W hC hc hf hL
      have e38 : ρ (.tmp 38) = .int .i64 f := hL 38 (by decide +kernel)
      simp [go_sem, hc, hf, e38]
      refine (HPR.out W).mono ?_
      rintro e w' ⟨rfl, hb⟩
      exact ⟨_, rfl, by first | exact hb | (subst hb; exact Below.refl _ _), rfl⟩
    refine gSt (gStep_on 6 36 true rfl rfl (by decide +kernel) (fun v w h => h) ?_) ?_
    · intro ρ W hC hc hf hL
      have e39 : ρ (.tmp 39) = .int .i64 (P : Nat) := hL 39 (by decide +kernel)
      have hl := HP2.out
      simp [go_sem, hc, hf, e39, hl]
      exact ⟨Below.refl _ _, rfl⟩
    refine gSt (gStep_on 6 36 true rfl rfl (by decide +kernel) (fun v w h => h) ?_) ?_
    · intro ρ W hC hc hf hL
      have e37 : ρ (.tmp 37) = .agg #[.int .u64 (hi : Nat), .int .u64 (lo : Nat)] := hL 37 (by decide +kernel)
      have e40 : ρ (.tmp 40) = .int .i64 ((P : Int) - 2) := hL 40 (by decide +kernel)
      simp [go_sem, hc, hf, e37, e40]
      refine (HBT.out W).mono ?_
      rintro e w' ⟨rfl, hb⟩
      exact ⟨_, rfl, by first | exact hb | (subst hb; exact Below.refl _ _), rfl⟩
    refine gSt (gStep_run rfl (gRun_pickT 36 41 42 _ rfl rfl (by decide +kernel) (by decide +kernel) (fun v w h => h) (fun v w h => h))) ?_
    exact gSt0
  · intro W hC
    refine gFi 30 rfl ?_
    rintro _ rfl
    refine gFi 31 rfl ?_
    rintro _ rfl
    refine gFi 32 rfl ?_
    rintro _ rfl
    refine gFi 33 rfl ?_
    rintro _ rfl
    refine gFi 34 rfl ?_
    rintro _ rfl
    refine gFi 35 rfl ?_
    rintro _ rfl
    refine gFi 36 rfl ?_
    rintro _ rfl
    refine gFi 37 rfl ?_
    rintro _ rfl
    refine gFi 38 rfl ?_
    rintro _ rfl
    refine gFi 39 rfl ?_
    rintro _ rfl
    refine gFi 40 rfl ?_
    rintro _ rfl
    refine gFi 41 rfl ?_
    rintro _ rfl
    refine gFi 42 rfl ?_
    rintro _ rfl
    refine gFi0 ?_
    simp only [List.drop_succ_cons, List.drop_zero, Act.put, List.setIfInBounds_toArray, List.set_cons_succ, List.set_cons_zero]
    have HB := hide hC.bel
    clear hC h1
    go_wp2
    go_ret
    exact ⟨rfl, HB.out⟩

set_option maxHeartbeats 2000000 in
theorem refCls_sig (f : Int) (hi lo fd r X P : Nat) (hr : r < QQ) (hX : X ≤ 20000) (hP : 2 ≤ P ∧ P ≤ 200) (h0 : ¬ r = 0) (HEQ : Hid (((fd : Int) == (2 * (X : Int) + 1)) = true)) (HPR : Hid (∀ w, Calls Tryd.prog 31 #[.int .i64 f] w fun e w' => e = .returned (.int .i64 (P : Nat)) ∧ w' = w)) (HBT : Hid (∀ w, Calls Tryd.prog 49 #[.agg #[.int .u64 (hi : Nat), .int .u64 (lo : Nat)], .int .i64 ((P : Int) - 2)] w fun e w' => e = .returned (.bool false) ∧ Below w.heap.size w w'))
    (HFI : Hid (∀ w, Calls Tryd.prog 32 #[.int .i64 f, .agg #[.int .u64 (hi : Nat), .int .u64 (lo : Nat)]] w fun e w' => e = .returned (.bool true) ∧ Below w.heap.size w w'))
    (HFD : Hid (∀ w, Calls Tryd.prog 23 #[.int .i64 f, .agg #[.int .u64 (hi : Nat), .int .u64 (lo : Nat)]] w fun e w' => e = .returned (.int .i64 ((fd : Nat) : Int)) ∧ Below w.heap.size w w'))
    (HFC : Hid (∀ w, Calls Tryd.prog 24 #[.int .i64 f, .agg #[.int .u64 (hi : Nat), .int .u64 (lo : Nat)]] w fun e w' => e = .returned (.agg #[.int .u64 (dgl (r) 0 : Nat), .int .u64 (dgl (r) 1 : Nat), .int .u64 (dgl (r) 2 : Nat), .int .u64 (dgl (r) 3 : Nat), .int .u64 (dgl (r) 4 : Nat), .int .u64 (dgl (r) 5 : Nat), .int .u64 (dgl (r) 6 : Nat), .int .u64 (dgl (r) 7 : Nat)]) ∧ Below w.heap.size w w'))
    (HEM : Hid (∀ w, Calls Tryd.prog 28 #[.int .i64 f] w fun e w' => e = .returned (.int .i64 (X : Nat)) ∧ w' = w)) (w : World) :
    Calls Tryd.prog 12 #[.int .i64 f, .agg #[.int .u64 (hi : Nat), .int .u64 (lo : Nat)]] w fun e w' => e = .returned (.int .i64 1) ∧ Below w.heap.size w w' := by
  have HST := hide (fitSt_start hi lo w)
  have hz := fun w => wide_eqz hr w
  rw [decide_eq_false h0] at hz
  have HX2 : Hid (IntKind.i64.wrap (2 * (X : Int)) = 2 * (X : Int)) := by unfold Hid; rw [IntKind.wrap_i64]; omega
  have HX3 : Hid (IntKind.i64.wrap (2 * (X : Int) + 1) = 2 * (X : Int) + 1) := by unfold Hid; rw [IntKind.wrap_i64]; omega
  have HP2 : Hid (IntKind.i64.wrap ((P : Int) - 2) = (P : Int) - 2) := by unfold Hid; rw [IntKind.wrap_i64]; omega
  have HX0 := hide (show (X : Int) ≤ 20000 by omega)
  have hx0 := HX0.out
  clear hr h0 hX hP
  go_enter Tryd.func12, Tryd.ntmps12
  go_wp2_with fail
  refine (HFI.out _).mono ?_
  rintro e w1 ⟨rfl, hb1⟩
  replace HST := hide (HST.out.below hb1)
  clear hb1
  have c0 := HST.out.h
  have c1 := HST.out.l
  have c2 := HST.out.lt
  go_wp2_with fail
  refine (HFD.out _).mono ?_
  rintro e w2 ⟨rfl, hb2⟩
  replace HST := hide (HST.out.below hb2)
  clear hb2 c0 c1 c2
  have c0 := HST.out.h
  have c1 := HST.out.l
  have c2 := HST.out.lt
  go_wp2_with fail
  refine (HFC.out _).mono ?_
  rintro e w3 ⟨rfl, hb3⟩
  replace HST := hide (HST.out.below hb3)
  clear hb3 c0 c1 c2
  have heq := HEQ.out
  go_wp2_with fail
  refine (HEM.out _).mono ?_
  rintro e w4 ⟨rfl, hw⟩
  subst w4
  go_upto_region 7 with fail
  refine wp_gen (fun W => FitSt hi lo w W) HST.out ?_
  clear HST hz hx0 heq
  rintro W1 h1
  refine wp_region_grow 13 [(30, .val (.int .i64 (fd : Nat))), (31, .val (.int .i64 f)), (32, .val (.int .i64 (X : Nat))), (33, .val (.int .i64 (2 * (X : Int)))), (34, .val (.int .i64 (2 * (X : Int) + 1))), (35, .val (.bool true)), (36, .val (.bool true)), (37, .val (.agg #[.int .u64 (hi : Nat), .int .u64 (lo : Nat)])), (38, .val (.int .i64 f)), (39, .val (.int .i64 (P : Nat))), (40, .val (.int .i64 ((P : Int) - 2))), (41, .val (.bool false)), (42, .val (.bool false))]
    (fun W => FitSt hi lo w W) mixedOk (by kernel_rfl) (by kernel_rfl) (h1.below (Below.refl _ _).drew) (fun W W' h hb => h.below hb) ?_ ?_
  · refine gSt (gStep_run rfl (gRun_move 5 30 (.inl rfl) rfl (by decide +kernel) (fun v w h => h))) ?_
    refine gSt (gStep_run rfl (gRun_move 0 31 (.inl rfl) rfl (by decide +kernel) (fun v w h => h))) ?_
    refine gSt (gStep_run rfl ?_) ?_
    · intro ρ W hC hc hf hL
      have e31 : ρ (.tmp 31) = .int .i64 f := hL 31 (by decide +kernel)
      simp [go_sem, hc, hf, e31]
      refine (HEM.out W).mono ?_
      rintro e w' ⟨rfl, hb⟩
      exact ⟨_, rfl, by first | exact hb | (subst hb; exact Below.refl _ _), rfl⟩
    refine gSt (gStep_run rfl ?_) ?_
    · intro ρ W hC hc hf hL
      have e32 : ρ (.tmp 32) = .int .i64 (X : Nat) := hL 32 (by decide +kernel)
      have hl := HX2.out
      simp [go_sem, hc, hf, e32, hl]
      exact ⟨Below.refl _ _, rfl⟩
    refine gSt (gStep_run rfl ?_) ?_
    · intro ρ W hC hc hf hL
      have e33 : ρ (.tmp 33) = .int .i64 (2 * (X : Int)) := hL 33 (by decide +kernel)
      have hl := HX3.out
      simp [go_sem, hc, hf, e33, hl]
      exact ⟨Below.refl _ _, rfl⟩
    refine gSt (gStep_run rfl ?_) ?_
    · intro ρ W hC hc hf hL
      have e30 : ρ (.tmp 30) = .int .i64 (fd : Nat) := hL 30 (by decide +kernel)
      have e34 : ρ (.tmp 34) = .int .i64 (2 * (X : Int) + 1) := hL 34 (by decide +kernel)
      have hl := HEQ.out
      simp [go_sem, hc, hf, e30, e34, hl]
      exact ⟨Below.refl _ _, rfl⟩
    refine gSt (gStep_run rfl (gRun_move 35 36 (.inl rfl) rfl (by decide +kernel) (fun v w h => h))) ?_
    refine gSt (gStep_on 6 36 true rfl rfl (by decide +kernel) (fun v w h => h) ?_) ?_
    · intro ρ W hC hc hf hL
      have e3 : ρ (.tmp 3) = .pointer (some ⟨w.heap.size, 0, none⟩) := hL 3 (by decide +kernel)
      have l0 := hC.h
      have l1 := hC.l
      simp [go_sem, hc, hf, e3, l0, l1]
      exact ⟨Below.refl _ _, rfl⟩
    refine gSt (gStep_on 6 36 true rfl rfl (by decide +kernel) (fun v w h => h) (gRun_move 0 38 (.inl rfl) rfl (by decide +kernel) (fun v w h => h))) ?_
    refine gSt (gStep_on 6 36 true rfl rfl (by decide +kernel) (fun v w h => h) ?_) ?_
    · intro ρ W hC hc hf hL
      have e38 : ρ (.tmp 38) = .int .i64 f := hL 38 (by decide +kernel)
      simp [go_sem, hc, hf, e38]
      refine (HPR.out W).mono ?_
      rintro e w' ⟨rfl, hb⟩
      exact ⟨_, rfl, by first | exact hb | (subst hb; exact Below.refl _ _), rfl⟩
    refine gSt (gStep_on 6 36 true rfl rfl (by decide +kernel) (fun v w h => h) ?_) ?_
    · intro ρ W hC hc hf hL
      have e39 : ρ (.tmp 39) = .int .i64 (P : Nat) := hL 39 (by decide +kernel)
      have hl := HP2.out
      simp [go_sem, hc, hf, e39, hl]
      exact ⟨Below.refl _ _, rfl⟩
    refine gSt (gStep_on 6 36 true rfl rfl (by decide +kernel) (fun v w h => h) ?_) ?_
    · intro ρ W hC hc hf hL
      have e37 : ρ (.tmp 37) = .agg #[.int .u64 (hi : Nat), .int .u64 (lo : Nat)] := hL 37 (by decide +kernel)
      have e40 : ρ (.tmp 40) = .int .i64 ((P : Int) - 2) := hL 40 (by decide +kernel)
      simp [go_sem, hc, hf, e37, e40]
      refine (HBT.out W).mono ?_
      rintro e w' ⟨rfl, hb⟩
      exact ⟨_, rfl, by first | exact hb | (subst hb; exact Below.refl _ _), rfl⟩
    refine gSt (gStep_run rfl (gRun_pickT 36 41 42 _ rfl rfl (by decide +kernel) (by decide +kernel) (fun v w h => h) (fun v w h => h))) ?_
    exact gSt0
  · intro W hC
    refine gFi 30 rfl ?_
    rintro _ rfl
    refine gFi 31 rfl ?_
    rintro _ rfl
    refine gFi 32 rfl ?_
    rintro _ rfl
    refine gFi 33 rfl ?_
    rintro _ rfl
    refine gFi 34 rfl ?_
    rintro _ rfl
    refine gFi 35 rfl ?_
    rintro _ rfl
    refine gFi 36 rfl ?_
    rintro _ rfl
    refine gFi 37 rfl ?_
    rintro _ rfl
    refine gFi 38 rfl ?_
    rintro _ rfl
    refine gFi 39 rfl ?_
    rintro _ rfl
    refine gFi 40 rfl ?_
    rintro _ rfl
    refine gFi 41 rfl ?_
    rintro _ rfl
    refine gFi 42 rfl ?_
    rintro _ rfl
    refine gFi0 ?_
    simp only [List.drop_succ_cons, List.drop_zero, Act.put, List.setIfInBounds_toArray, List.set_cons_succ, List.set_cons_zero]
    have HB := hide hC.bel
    clear hC h1
    have heq := HEQ.out
    have hx0 := HX0.out
    go_wp2_with fail
    refine (HEM.out _).mono ?_
    rintro e w9 ⟨rfl, hw⟩
    subst w9
    go_wp2
    go_ret
    exact ⟨rfl, HB.out⟩

set_option maxHeartbeats 2000000 in
theorem refCls_norm (f : Int) (hi lo fd r X P : Nat) (hr : r < QQ) (hX : X ≤ 20000) (hP : 2 ≤ P ∧ P ≤ 200) (h0 : ¬ r = 0) (HF : Hid (decide ((0 : Int) < (fd : Int)) = true)) (HEQ : Hid (((fd : Int) == (2 * (X : Int) + 1)) = false))
    (HFI : Hid (∀ w, Calls Tryd.prog 32 #[.int .i64 f, .agg #[.int .u64 (hi : Nat), .int .u64 (lo : Nat)]] w fun e w' => e = .returned (.bool true) ∧ Below w.heap.size w w'))
    (HFD : Hid (∀ w, Calls Tryd.prog 23 #[.int .i64 f, .agg #[.int .u64 (hi : Nat), .int .u64 (lo : Nat)]] w fun e w' => e = .returned (.int .i64 ((fd : Nat) : Int)) ∧ Below w.heap.size w w'))
    (HFC : Hid (∀ w, Calls Tryd.prog 24 #[.int .i64 f, .agg #[.int .u64 (hi : Nat), .int .u64 (lo : Nat)]] w fun e w' => e = .returned (.agg #[.int .u64 (dgl (r) 0 : Nat), .int .u64 (dgl (r) 1 : Nat), .int .u64 (dgl (r) 2 : Nat), .int .u64 (dgl (r) 3 : Nat), .int .u64 (dgl (r) 4 : Nat), .int .u64 (dgl (r) 5 : Nat), .int .u64 (dgl (r) 6 : Nat), .int .u64 (dgl (r) 7 : Nat)]) ∧ Below w.heap.size w w'))
    (HEM : Hid (∀ w, Calls Tryd.prog 28 #[.int .i64 f] w fun e w' => e = .returned (.int .i64 (X : Nat)) ∧ w' = w)) (w : World) :
    Calls Tryd.prog 12 #[.int .i64 f, .agg #[.int .u64 (hi : Nat), .int .u64 (lo : Nat)]] w fun e w' => e = .returned (.int .i64 4) ∧ Below w.heap.size w w' := by
  have HST := hide (fitSt_start hi lo w)
  have hz := fun w => wide_eqz hr w
  rw [decide_eq_false h0] at hz
  have HX2 : Hid (IntKind.i64.wrap (2 * (X : Int)) = 2 * (X : Int)) := by unfold Hid; rw [IntKind.wrap_i64]; omega
  have HX3 : Hid (IntKind.i64.wrap (2 * (X : Int) + 1) = 2 * (X : Int) + 1) := by unfold Hid; rw [IntKind.wrap_i64]; omega
  have HP2 : Hid (IntKind.i64.wrap ((P : Int) - 2) = (P : Int) - 2) := by unfold Hid; rw [IntKind.wrap_i64]; omega
  have HX0 := hide (show (X : Int) ≤ 20000 by omega)
  have hx0 := HX0.out
  clear hr h0 hX hP
  go_enter Tryd.func12, Tryd.ntmps12
  go_wp2_with fail
  refine (HFI.out _).mono ?_
  rintro e w1 ⟨rfl, hb1⟩
  replace HST := hide (HST.out.below hb1)
  clear hb1
  have c0 := HST.out.h
  have c1 := HST.out.l
  have c2 := HST.out.lt
  go_wp2_with fail
  refine (HFD.out _).mono ?_
  rintro e w2 ⟨rfl, hb2⟩
  replace HST := hide (HST.out.below hb2)
  clear hb2 c0 c1 c2
  have c0 := HST.out.h
  have c1 := HST.out.l
  have c2 := HST.out.lt
  go_wp2_with fail
  refine (HFC.out _).mono ?_
  rintro e w3 ⟨rfl, hb3⟩
  replace HST := hide (HST.out.below hb3)
  clear hb3 c0 c1 c2
  have heq := HEQ.out
  go_wp2_with fail
  refine (HEM.out _).mono ?_
  rintro e w4 ⟨rfl, hw⟩
  subst w4
  go_upto_region 7 with fail
  refine wp_gen (fun W => FitSt hi lo w W) HST.out ?_
  clear HST hz hx0 heq
  rintro W1 h1
  refine wp_region_grow 13 [(30, .val (.int .i64 (fd : Nat))), (31, .val (.int .i64 f)), (32, .val (.int .i64 (X : Nat))), (33, .val (.int .i64 (2 * (X : Int)))), (34, .val (.int .i64 (2 * (X : Int) + 1))), (35, .val (.bool false)), (36, .val (.bool false)), (37, .val (undef)), (38, .val (undef)), (39, .val (undef)), (40, .val (undef)), (41, .val (undef)), (42, .val (.bool false))]
    (fun W => FitSt hi lo w W) mixedOk (by kernel_rfl) (by kernel_rfl) (h1.below (Below.refl _ _).drew) (fun W W' h hb => h.below hb) ?_ ?_
  · refine gSt (gStep_run rfl (gRun_move 5 30 (.inl rfl) rfl (by decide +kernel) (fun v w h => h))) ?_
    refine gSt (gStep_run rfl (gRun_move 0 31 (.inl rfl) rfl (by decide +kernel) (fun v w h => h))) ?_
    refine gSt (gStep_run rfl ?_) ?_
    · intro ρ W hC hc hf hL
      have e31 : ρ (.tmp 31) = .int .i64 f := hL 31 (by decide +kernel)
      simp [go_sem, hc, hf, e31]
      refine (HEM.out W).mono ?_
      rintro e w' ⟨rfl, hb⟩
      exact ⟨_, rfl, by first | exact hb | (subst hb; exact Below.refl _ _), rfl⟩
    refine gSt (gStep_run rfl ?_) ?_
    · intro ρ W hC hc hf hL
      have e32 : ρ (.tmp 32) = .int .i64 (X : Nat) := hL 32 (by decide +kernel)
      have hl := HX2.out
      simp [go_sem, hc, hf, e32, hl]
      exact ⟨Below.refl _ _, rfl⟩
    refine gSt (gStep_run rfl ?_) ?_
    · intro ρ W hC hc hf hL
      have e33 : ρ (.tmp 33) = .int .i64 (2 * (X : Int)) := hL 33 (by decide +kernel)
      have hl := HX3.out
      simp [go_sem, hc, hf, e33, hl]
      exact ⟨Below.refl _ _, rfl⟩
    refine gSt (gStep_run rfl ?_) ?_
    · intro ρ W hC hc hf hL
      have e30 : ρ (.tmp 30) = .int .i64 (fd : Nat) := hL 30 (by decide +kernel)
      have e34 : ρ (.tmp 34) = .int .i64 (2 * (X : Int) + 1) := hL 34 (by decide +kernel)
      have hl := HEQ.out
      simp [go_sem, hc, hf, e30, e34, hl]
      exact ⟨Below.refl _ _, rfl⟩
    refine gSt (gStep_run rfl (gRun_move 35 36 (.inl rfl) rfl (by decide +kernel) (fun v w h => h))) ?_
    refine gSt (gStep_off 6 36 true rfl rfl (by decide +kernel) (fun v w h => h) (fun w => rfl)) ?_
    refine gSt (gStep_off 6 36 true rfl rfl (by decide +kernel) (fun v w h => h) (fun w => rfl)) ?_
    refine gSt (gStep_off 6 36 true rfl rfl (by decide +kernel) (fun v w h => h) (fun w => rfl)) ?_
    refine gSt (gStep_off 6 36 true rfl rfl (by decide +kernel) (fun v w h => h) (fun w => rfl)) ?_
    refine gSt (gStep_off 6 36 true rfl rfl (by decide +kernel) (fun v w h => h) (fun w => rfl)) ?_
    refine gSt (gStep_run rfl (gRun_pickF 36 42 _ _ rfl rfl (by decide +kernel) (fun v w h => h) (fun w => rfl))) ?_
    exact gSt0
  · intro W hC
    refine gFi 30 rfl ?_
    rintro _ rfl
    refine gFi 31 rfl ?_
    rintro _ rfl
    refine gFi 32 rfl ?_
    rintro _ rfl
    refine gFi 33 rfl ?_
    rintro _ rfl
    refine gFi 34 rfl ?_
    rintro _ rfl
    refine gFi 35 rfl ?_
    rintro _ rfl
    refine gFi 36 rfl ?_
    rintro _ rfl
    refine gFi 37 rfl ?_
    rintro _ rfl
    refine gFi 38 rfl ?_
    rintro _ rfl
    refine gFi 39 rfl ?_
    rintro _ rfl
    refine gFi 40 rfl ?_
    rintro _ rfl
    refine gFi 41 rfl ?_
    rintro _ rfl
    refine gFi 42 rfl ?_
    rintro _ rfl
    refine gFi0 ?_
    simp only [List.drop_succ_cons, List.drop_zero, Act.put, List.setIfInBounds_toArray, List.set_cons_succ, List.set_cons_zero]
    have HB := hide hC.bel
    clear hC h1
    have heq := HEQ.out
    have hx0 := HX0.out
    have hf : (0 : Int) < (fd : Int) := of_decide_eq_true HF.out
    go_wp2_with fail
    refine (HEM.out _).mono ?_
    rintro e w9 ⟨rfl, hw⟩
    subst w9
    go_wp2
    go_ret
    exact ⟨rfl, HB.out⟩

set_option maxHeartbeats 2000000 in
theorem refCls_norm0 (f : Int) (hi lo fd r X P : Nat) (hr : r < QQ) (hX : X ≤ 20000) (hP : 2 ≤ P ∧ P ≤ 200) (h0 : r = 0) (HF : Hid (decide ((0 : Int) < (fd : Int)) = true)) (HEQ : Hid (((fd : Int) == (2 * (X : Int) + 1)) = false))
    (HFI : Hid (∀ w, Calls Tryd.prog 32 #[.int .i64 f, .agg #[.int .u64 (hi : Nat), .int .u64 (lo : Nat)]] w fun e w' => e = .returned (.bool true) ∧ Below w.heap.size w w'))
    (HFD : Hid (∀ w, Calls Tryd.prog 23 #[.int .i64 f, .agg #[.int .u64 (hi : Nat), .int .u64 (lo : Nat)]] w fun e w' => e = .returned (.int .i64 ((fd : Nat) : Int)) ∧ Below w.heap.size w w'))
    (HFC : Hid (∀ w, Calls Tryd.prog 24 #[.int .i64 f, .agg #[.int .u64 (hi : Nat), .int .u64 (lo : Nat)]] w fun e w' => e = .returned (.agg #[.int .u64 (dgl (r) 0 : Nat), .int .u64 (dgl (r) 1 : Nat), .int .u64 (dgl (r) 2 : Nat), .int .u64 (dgl (r) 3 : Nat), .int .u64 (dgl (r) 4 : Nat), .int .u64 (dgl (r) 5 : Nat), .int .u64 (dgl (r) 6 : Nat), .int .u64 (dgl (r) 7 : Nat)]) ∧ Below w.heap.size w w'))
    (HEM : Hid (∀ w, Calls Tryd.prog 28 #[.int .i64 f] w fun e w' => e = .returned (.int .i64 (X : Nat)) ∧ w' = w)) (w : World) :
    Calls Tryd.prog 12 #[.int .i64 f, .agg #[.int .u64 (hi : Nat), .int .u64 (lo : Nat)]] w fun e w' => e = .returned (.int .i64 4) ∧ Below w.heap.size w w' := by
  have HST := hide (fitSt_start hi lo w)
  have hz := fun w => wide_eqz hr w
  rw [decide_eq_true h0] at hz
  have HX2 : Hid (IntKind.i64.wrap (2 * (X : Int)) = 2 * (X : Int)) := by unfold Hid; rw [IntKind.wrap_i64]; omega
  have HX3 : Hid (IntKind.i64.wrap (2 * (X : Int) + 1) = 2 * (X : Int) + 1) := by unfold Hid; rw [IntKind.wrap_i64]; omega
  have HP2 : Hid (IntKind.i64.wrap ((P : Int) - 2) = (P : Int) - 2) := by unfold Hid; rw [IntKind.wrap_i64]; omega
  have HX0 := hide (show (X : Int) ≤ 20000 by omega)
  have hx0 := HX0.out
  clear hr h0 hX hP
  go_enter Tryd.func12, Tryd.ntmps12
  go_wp2_with fail
  refine (HFI.out _).mono ?_
  rintro e w1 ⟨rfl, hb1⟩
  replace HST := hide (HST.out.below hb1)
  clear hb1
  have c0 := HST.out.h
  have c1 := HST.out.l
  have c2 := HST.out.lt
  go_wp2_with fail
  refine (HFD.out _).mono ?_
  rintro e w2 ⟨rfl, hb2⟩
  replace HST := hide (HST.out.below hb2)
  clear hb2 c0 c1 c2
  have c0 := HST.out.h
  have c1 := HST.out.l
  have c2 := HST.out.lt
  go_wp2_with fail
  refine (HFC.out _).mono ?_
  rintro e w3 ⟨rfl, hb3⟩
  replace HST := hide (HST.out.below hb3)
  clear hb3 c0 c1 c2
  have heq := HEQ.out
  go_wp2_with fail
  refine (HEM.out _).mono ?_
  rintro e w4 ⟨rfl, hw⟩
  subst w4
  go_upto_region 7 with fail
  refine wp_gen (fun W => FitSt hi lo w W) HST.out ?_
  clear HST hz hx0 heq
  rintro W1 h1
  refine wp_region_grow 13 [(30, .val (.int .i64 (fd : Nat))), (31, .val (.int .i64 f)), (32, .val (.int .i64 (X : Nat))), (33, .val (.int .i64 (2 * (X : Int)))), (34, .val (.int .i64 (2 * (X : Int) + 1))), (35, .val (.bool false)), (36, .val (.bool false)), (37, .val (undef)), (38, .val (undef)), (39, .val (undef)), (40, .val (undef)), (41, .val (undef)), (42, .val (.bool false))]
    (fun W => FitSt hi lo w W) mixedOk (by kernel_rfl) (by kernel_rfl) (h1.below (Below.refl _ _).drew) (fun W W' h hb => h.below hb) ?_ ?_
  · refine gSt (gStep_run rfl (gRun_move 5 30 (.inl rfl) rfl (by decide +kernel) (fun v w h => h))) ?_
    refine gSt (gStep_run rfl (gRun_move 0 31 (.inl rfl) rfl (by decide +kernel) (fun v w h => h))) ?_
    refine gSt (gStep_run rfl ?_) ?_
    · intro ρ W hC hc hf hL
      have e31 : ρ (.tmp 31) = .int .i64 f := hL 31 (by decide +kernel)
      simp [go_sem, hc, hf, e31]
      refine (HEM.out W).mono ?_
      rintro e w' ⟨rfl, hb⟩
      exact ⟨_, rfl, by first | exact hb | (subst hb; exact Below.refl _ _), rfl⟩
    refine gSt (gStep_run rfl ?_) ?_
    · intro ρ W hC hc hf hL
      have e32 : ρ (.tmp 32) = .int .i64 (X : Nat) := hL 32 (by decide +kernel)
      have hl := HX2.out
      simp [go_sem, hc, hf, e32, hl]
      exact ⟨Below.refl _ _, rfl⟩
    refine gSt (gStep_run rfl ?_) ?_
    · intro ρ W hC hc hf hL
      have e33 : ρ (.tmp 33) = .int .i64 (2 * (X : Int)) := hL 33 (by decide +kernel)
      have hl := HX3.out
      simp [go_sem, hc, hf, e33, hl]
      exact ⟨Below.refl _ _, rfl⟩
    refine gSt (gStep_run rfl ?_) ?_
    · intro ρ W hC hc hf hL
      have e30 : ρ (.tmp 30) = .int .i64 (fd : Nat) := hL 30 (by decide +kernel)
      have e34 : ρ (.tmp 34) = .int .i64 (2 * (X : Int) + 1) := hL 34 (by decide +kernel)
      have hl := HEQ.out
      simp [go_sem, hc, hf, e30, e34, hl]
      exact ⟨Below.refl _ _, rfl⟩
    refine gSt (gStep_run rfl (gRun_move 35 36 (.inl rfl) rfl (by decide +kernel) (fun v w h => h))) ?_
    refine gSt (gStep_off 6 36 true rfl rfl (by decide +kernel) (fun v w h => h) (fun w => rfl)) ?_
    refine gSt (gStep_off 6 36 true rfl rfl (by decide +kernel) (fun v w h => h) (fun w => rfl)) ?_
    refine gSt (gStep_off 6 36 true rfl rfl (by decide +kernel) (fun v w h => h) (fun w => rfl)) ?_
    refine gSt (gStep_off 6 36 true rfl rfl (by decide +kernel) (fun v w h => h) (fun w => rfl)) ?_
    refine gSt (gStep_off 6 36 true rfl rfl (by decide +kernel) (fun v w h => h) (fun w => rfl)) ?_
    refine gSt (gStep_run rfl (gRun_pickF 36 42 _ _ rfl rfl (by decide +kernel) (fun v w h => h) (fun w => rfl))) ?_
    exact gSt0
  · intro W hC
    refine gFi 30 rfl ?_
    rintro _ rfl
    refine gFi 31 rfl ?_
    rintro _ rfl
    refine gFi 32 rfl ?_
    rintro _ rfl
    refine gFi 33 rfl ?_
    rintro _ rfl
    refine gFi 34 rfl ?_
    rintro _ rfl
    refine gFi 35 rfl ?_
    rintro _ rfl
    refine gFi 36 rfl ?_
    rintro _ rfl
    refine gFi 37 rfl ?_
    rintro _ rfl
    refine gFi 38 rfl ?_
    rintro _ rfl
    refine gFi 39 rfl ?_
    rintro _ rfl
    refine gFi 40 rfl ?_
    rintro _ rfl
    refine gFi 41 rfl ?_
    rintro _ rfl
    refine gFi 42 rfl ?_
    rintro _ rfl
    refine gFi0 ?_
    simp only [List.drop_succ_cons, List.drop_zero, Act.put, List.setIfInBounds_toArray, List.set_cons_succ, List.set_cons_zero]
    have HB := hide hC.bel
    clear hC h1
    have heq := HEQ.out
    have hx0 := HX0.out
    have hf : (0 : Int) < (fd : Int) := of_decide_eq_true HF.out
    go_wp2_with fail
    refine (HEM.out _).mono ?_
    rintro e w9 ⟨rfl, hw⟩
    subst w9
    go_wp2
    go_ret
    exact ⟨rfl, HB.out⟩

set_option maxHeartbeats 2000000 in
theorem refCls_sub (f : Int) (hi lo fd r X P : Nat) (hr : r < QQ) (hX : X ≤ 20000) (hP : 2 ≤ P ∧ P ≤ 200) (h0 : ¬ r = 0) (HF : Hid (decide ((0 : Int) < (fd : Int)) = false)) (HEQ : Hid (((fd : Int) == (2 * (X : Int) + 1)) = false))
    (HFI : Hid (∀ w, Calls Tryd.prog 32 #[.int .i64 f, .agg #[.int .u64 (hi : Nat), .int .u64 (lo : Nat)]] w fun e w' => e = .returned (.bool true) ∧ Below w.heap.size w w'))
    (HFD : Hid (∀ w, Calls Tryd.prog 23 #[.int .i64 f, .agg #[.int .u64 (hi : Nat), .int .u64 (lo : Nat)]] w fun e w' => e = .returned (.int .i64 ((fd : Nat) : Int)) ∧ Below w.heap.size w w'))
    (HFC : Hid (∀ w, Calls Tryd.prog 24 #[.int .i64 f, .agg #[.int .u64 (hi : Nat), .int .u64 (lo : Nat)]] w fun e w' => e = .returned (.agg #[.int .u64 (dgl (r) 0 : Nat), .int .u64 (dgl (r) 1 : Nat), .int .u64 (dgl (r) 2 : Nat), .int .u64 (dgl (r) 3 : Nat), .int .u64 (dgl (r) 4 : Nat), .int .u64 (dgl (r) 5 : Nat), .int .u64 (dgl (r) 6 : Nat), .int .u64 (dgl (r) 7 : Nat)]) ∧ Below w.heap.size w w'))
    (HEM : Hid (∀ w, Calls Tryd.prog 28 #[.int .i64 f] w fun e w' => e = .returned (.int .i64 (X : Nat)) ∧ w' = w)) (w : World) :
    Calls Tryd.prog 12 #[.int .i64 f, .agg #[.int .u64 (hi : Nat), .int .u64 (lo : Nat)]] w fun e w' => e = .returned (.int .i64 5) ∧ Below w.heap.size w w' := by
  have HST := hide (fitSt_start hi lo w)
  have hz := fun w => wide_eqz hr w
  rw [decide_eq_false h0] at hz
  have HX2 : Hid (IntKind.i64.wrap (2 * (X : Int)) = 2 * (X : Int)) := by unfold Hid; rw [IntKind.wrap_i64]; omega
  have HX3 : Hid (IntKind.i64.wrap (2 * (X : Int) + 1) = 2 * (X : Int) + 1) := by unfold Hid; rw [IntKind.wrap_i64]; omega
  have HP2 : Hid (IntKind.i64.wrap ((P : Int) - 2) = (P : Int) - 2) := by unfold Hid; rw [IntKind.wrap_i64]; omega
  have HX0 := hide (show (X : Int) ≤ 20000 by omega)
  have hx0 := HX0.out
  clear hr h0 hX hP
  go_enter Tryd.func12, Tryd.ntmps12
  go_wp2_with fail
  refine (HFI.out _).mono ?_
  rintro e w1 ⟨rfl, hb1⟩
  replace HST := hide (HST.out.below hb1)
  clear hb1
  have c0 := HST.out.h
  have c1 := HST.out.l
  have c2 := HST.out.lt
  go_wp2_with fail
  refine (HFD.out _).mono ?_
  rintro e w2 ⟨rfl, hb2⟩
  replace HST := hide (HST.out.below hb2)
  clear hb2 c0 c1 c2
  have c0 := HST.out.h
  have c1 := HST.out.l
  have c2 := HST.out.lt
  go_wp2_with fail
  refine (HFC.out _).mono ?_
  rintro e w3 ⟨rfl, hb3⟩
  replace HST := hide (HST.out.below hb3)
  clear hb3 c0 c1 c2
  have heq := HEQ.out
  go_wp2_with fail
  refine (HEM.out _).mono ?_
  rintro e w4 ⟨rfl, hw⟩
  subst w4
  go_upto_region 7 with fail
  refine wp_gen (fun W => FitSt hi lo w W) HST.out ?_
  clear HST hz hx0 heq
  rintro W1 h1
  refine wp_region_grow 13 [(30, .val (.int .i64 (fd : Nat))), (31, .val (.int .i64 f)), (32, .val (.int .i64 (X : Nat))), (33, .val (.int .i64 (2 * (X : Int)))), (34, .val (.int .i64 (2 * (X : Int) + 1))), (35, .val (.bool false)), (36, .val (.bool false)), (37, .val (undef)), (38, .val (undef)), (39, .val (undef)), (40, .val (undef)), (41, .val (undef)), (42, .val (.bool false))]
    (fun W => FitSt hi lo w W) mixedOk (by kernel_rfl) (by kernel_rfl) (h1.below (Below.refl _ _).drew) (fun W W' h hb => h.below hb) ?_ ?_
  · refine gSt (gStep_run rfl (gRun_move 5 30 (.inl rfl) rfl (by decide +kernel) (fun v w h => h))) ?_
    refine gSt (gStep_run rfl (gRun_move 0 31 (.inl rfl) rfl (by decide +kernel) (fun v w h => h))) ?_
    refine gSt (gStep_run rfl ?_) ?_
    · intro ρ W hC hc hf hL
      have e31 : ρ (.tmp 31) = .int .i64 f := hL 31 (by decide +kernel)
      simp [go_sem, hc, hf, e31]
      refine (HEM.out W).mono ?_
      rintro e w' ⟨rfl, hb⟩
      exact ⟨_, rfl, by first | exact hb | (subst hb; exact Below.refl _ _), rfl⟩
    refine gSt (gStep_run rfl ?_) ?_
    · intro ρ W hC hc hf hL
      have e32 : ρ (.tmp 32) = .int .i64 (X : Nat) := hL 32 (by decide +kernel)
      have hl := HX2.out
      simp [go_sem, hc, hf, e32, hl]
      exact ⟨Below.refl _ _, rfl⟩
    refine gSt (gStep_run rfl ?_) ?_
    · intro ρ W hC hc hf hL
      have e33 : ρ (.tmp 33) = .int .i64 (2 * (X : Int)) := hL 33 (by decide +kernel)
      have hl := HX3.out
      simp [go_sem, hc, hf, e33, hl]
      exact ⟨Below.refl _ _, rfl⟩
    refine gSt (gStep_run rfl ?_) ?_
    · intro ρ W hC hc hf hL
      have e30 : ρ (.tmp 30) = .int .i64 (fd : Nat) := hL 30 (by decide +kernel)
      have e34 : ρ (.tmp 34) = .int .i64 (2 * (X : Int) + 1) := hL 34 (by decide +kernel)
      have hl := HEQ.out
      simp [go_sem, hc, hf, e30, e34, hl]
      exact ⟨Below.refl _ _, rfl⟩
    refine gSt (gStep_run rfl (gRun_move 35 36 (.inl rfl) rfl (by decide +kernel) (fun v w h => h))) ?_
    refine gSt (gStep_off 6 36 true rfl rfl (by decide +kernel) (fun v w h => h) (fun w => rfl)) ?_
    refine gSt (gStep_off 6 36 true rfl rfl (by decide +kernel) (fun v w h => h) (fun w => rfl)) ?_
    refine gSt (gStep_off 6 36 true rfl rfl (by decide +kernel) (fun v w h => h) (fun w => rfl)) ?_
    refine gSt (gStep_off 6 36 true rfl rfl (by decide +kernel) (fun v w h => h) (fun w => rfl)) ?_
    refine gSt (gStep_off 6 36 true rfl rfl (by decide +kernel) (fun v w h => h) (fun w => rfl)) ?_
    refine gSt (gStep_run rfl (gRun_pickF 36 42 _ _ rfl rfl (by decide +kernel) (fun v w h => h) (fun w => rfl))) ?_
    exact gSt0
  · intro W hC
    refine gFi 30 rfl ?_
    rintro _ rfl
    refine gFi 31 rfl ?_
    rintro _ rfl
    refine gFi 32 rfl ?_
    rintro _ rfl
    refine gFi 33 rfl ?_
    rintro _ rfl
    refine gFi 34 rfl ?_
    rintro _ rfl
    refine gFi 35 rfl ?_
    rintro _ rfl
    refine gFi 36 rfl ?_
    rintro _ rfl
    refine gFi 37 rfl ?_
    rintro _ rfl
    refine gFi 38 rfl ?_
    rintro _ rfl
    refine gFi 39 rfl ?_
    rintro _ rfl
    refine gFi 40 rfl ?_
    rintro _ rfl
    refine gFi 41 rfl ?_
    rintro _ rfl
    refine gFi 42 rfl ?_
    rintro _ rfl
    refine gFi0 ?_
    simp only [List.drop_succ_cons, List.drop_zero, Act.put, List.setIfInBounds_toArray, List.set_cons_succ, List.set_cons_zero]
    have HB := hide hC.bel
    clear hC h1
    have heq := HEQ.out
    have hx0 := HX0.out
    have hf : ¬ (0 : Int) < (fd : Int) := of_decide_eq_false HF.out
    go_wp2_with fail
    refine (HEM.out _).mono ?_
    rintro e w9 ⟨rfl, hw⟩
    subst w9
    go_wp2
    go_ret
    exact ⟨rfl, HB.out⟩

set_option maxHeartbeats 2000000 in
theorem refCls_zero (f : Int) (hi lo fd r X P : Nat) (hr : r < QQ) (hX : X ≤ 20000) (hP : 2 ≤ P ∧ P ≤ 200) (h0 : r = 0) (HF : Hid (decide ((0 : Int) < (fd : Int)) = false)) (HEQ : Hid (((fd : Int) == (2 * (X : Int) + 1)) = false))
    (HFI : Hid (∀ w, Calls Tryd.prog 32 #[.int .i64 f, .agg #[.int .u64 (hi : Nat), .int .u64 (lo : Nat)]] w fun e w' => e = .returned (.bool true) ∧ Below w.heap.size w w'))
    (HFD : Hid (∀ w, Calls Tryd.prog 23 #[.int .i64 f, .agg #[.int .u64 (hi : Nat), .int .u64 (lo : Nat)]] w fun e w' => e = .returned (.int .i64 ((fd : Nat) : Int)) ∧ Below w.heap.size w w'))
    (HFC : Hid (∀ w, Calls Tryd.prog 24 #[.int .i64 f, .agg #[.int .u64 (hi : Nat), .int .u64 (lo : Nat)]] w fun e w' => e = .returned (.agg #[.int .u64 (dgl (r) 0 : Nat), .int .u64 (dgl (r) 1 : Nat), .int .u64 (dgl (r) 2 : Nat), .int .u64 (dgl (r) 3 : Nat), .int .u64 (dgl (r) 4 : Nat), .int .u64 (dgl (r) 5 : Nat), .int .u64 (dgl (r) 6 : Nat), .int .u64 (dgl (r) 7 : Nat)]) ∧ Below w.heap.size w w'))
    (HEM : Hid (∀ w, Calls Tryd.prog 28 #[.int .i64 f] w fun e w' => e = .returned (.int .i64 (X : Nat)) ∧ w' = w)) (w : World) :
    Calls Tryd.prog 12 #[.int .i64 f, .agg #[.int .u64 (hi : Nat), .int .u64 (lo : Nat)]] w fun e w' => e = .returned (.int .i64 6) ∧ Below w.heap.size w w' := by
  have HST := hide (fitSt_start hi lo w)
  have hz := fun w => wide_eqz hr w
  rw [decide_eq_true h0] at hz
  have HX2 : Hid (IntKind.i64.wrap (2 * (X : Int)) = 2 * (X : Int)) := by unfold Hid; rw [IntKind.wrap_i64]; omega
  have HX3 : Hid (IntKind.i64.wrap (2 * (X : Int) + 1) = 2 * (X : Int) + 1) := by unfold Hid; rw [IntKind.wrap_i64]; omega
  have HP2 : Hid (IntKind.i64.wrap ((P : Int) - 2) = (P : Int) - 2) := by unfold Hid; rw [IntKind.wrap_i64]; omega
  have HX0 := hide (show (X : Int) ≤ 20000 by omega)
  have hx0 := HX0.out
  clear hr h0 hX hP
  go_enter Tryd.func12, Tryd.ntmps12
  go_wp2_with fail
  refine (HFI.out _).mono ?_
  rintro e w1 ⟨rfl, hb1⟩
  replace HST := hide (HST.out.below hb1)
  clear hb1
  have c0 := HST.out.h
  have c1 := HST.out.l
  have c2 := HST.out.lt
  go_wp2_with fail
  refine (HFD.out _).mono ?_
  rintro e w2 ⟨rfl, hb2⟩
  replace HST := hide (HST.out.below hb2)
  clear hb2 c0 c1 c2
  have c0 := HST.out.h
  have c1 := HST.out.l
  have c2 := HST.out.lt
  go_wp2_with fail
  refine (HFC.out _).mono ?_
  rintro e w3 ⟨rfl, hb3⟩
  replace HST := hide (HST.out.below hb3)
  clear hb3 c0 c1 c2
  have heq := HEQ.out
  go_wp2_with fail
  refine (HEM.out _).mono ?_
  rintro e w4 ⟨rfl, hw⟩
  subst w4
  go_upto_region 7 with fail
  refine wp_gen (fun W => FitSt hi lo w W) HST.out ?_
  clear HST hz hx0 heq
  rintro W1 h1
  refine wp_region_grow 13 [(30, .val (.int .i64 (fd : Nat))), (31, .val (.int .i64 f)), (32, .val (.int .i64 (X : Nat))), (33, .val (.int .i64 (2 * (X : Int)))), (34, .val (.int .i64 (2 * (X : Int) + 1))), (35, .val (.bool false)), (36, .val (.bool false)), (37, .val (undef)), (38, .val (undef)), (39, .val (undef)), (40, .val (undef)), (41, .val (undef)), (42, .val (.bool false))]
    (fun W => FitSt hi lo w W) mixedOk (by kernel_rfl) (by kernel_rfl) (h1.below (Below.refl _ _).drew) (fun W W' h hb => h.below hb) ?_ ?_
  · refine gSt (gStep_run rfl (gRun_move 5 30 (.inl rfl) rfl (by decide +kernel) (fun v w h => h))) ?_
    refine gSt (gStep_run rfl (gRun_move 0 31 (.inl rfl) rfl (by decide +kernel) (fun v w h => h))) ?_
    refine gSt (gStep_run rfl ?_) ?_
    · intro ρ W hC hc hf hL
      have e31 : ρ (.tmp 31) = .int .i64 f := hL 31 (by decide +kernel)
      simp [go_sem, hc, hf, e31]
      refine (HEM.out W).mono ?_
      rintro e w' ⟨rfl, hb⟩
      exact ⟨_, rfl, by first | exact hb | (subst hb; exact Below.refl _ _), rfl⟩
    refine gSt (gStep_run rfl ?_) ?_
    · intro ρ W hC hc hf hL
      have e32 : ρ (.tmp 32) = .int .i64 (X : Nat) := hL 32 (by decide +kernel)
      have hl := HX2.out
      simp [go_sem, hc, hf, e32, hl]
      exact ⟨Below.refl _ _, rfl⟩
    refine gSt (gStep_run rfl ?_) ?_
    · intro ρ W hC hc hf hL
      have e33 : ρ (.tmp 33) = .int .i64 (2 * (X : Int)) := hL 33 (by decide +kernel)
      have hl := HX3.out
      simp [go_sem, hc, hf, e33, hl]
      exact ⟨Below.refl _ _, rfl⟩
    refine gSt (gStep_run rfl ?_) ?_
    · intro ρ W hC hc hf hL
      have e30 : ρ (.tmp 30) = .int .i64 (fd : Nat) := hL 30 (by decide +kernel)
      have e34 : ρ (.tmp 34) = .int .i64 (2 * (X : Int) + 1) := hL 34 (by decide +kernel)
      have hl := HEQ.out
      simp [go_sem, hc, hf, e30, e34, hl]
      exact ⟨Below.refl _ _, rfl⟩
    refine gSt (gStep_run rfl (gRun_move 35 36 (.inl rfl) rfl (by decide +kernel) (fun v w h => h))) ?_
    refine gSt (gStep_off 6 36 true rfl rfl (by decide +kernel) (fun v w h => h) (fun w => rfl)) ?_
    refine gSt (gStep_off 6 36 true rfl rfl (by decide +kernel) (fun v w h => h) (fun w => rfl)) ?_
    refine gSt (gStep_off 6 36 true rfl rfl (by decide +kernel) (fun v w h => h) (fun w => rfl)) ?_
    refine gSt (gStep_off 6 36 true rfl rfl (by decide +kernel) (fun v w h => h) (fun w => rfl)) ?_
    refine gSt (gStep_off 6 36 true rfl rfl (by decide +kernel) (fun v w h => h) (fun w => rfl)) ?_
    refine gSt (gStep_run rfl (gRun_pickF 36 42 _ _ rfl rfl (by decide +kernel) (fun v w h => h) (fun w => rfl))) ?_
    exact gSt0
  · intro W hC
    refine gFi 30 rfl ?_
    rintro _ rfl
    refine gFi 31 rfl ?_
    rintro _ rfl
    refine gFi 32 rfl ?_
    rintro _ rfl
    refine gFi 33 rfl ?_
    rintro _ rfl
    refine gFi 34 rfl ?_
    rintro _ rfl
    refine gFi 35 rfl ?_
    rintro _ rfl
    refine gFi 36 rfl ?_
    rintro _ rfl
    refine gFi 37 rfl ?_
    rintro _ rfl
    refine gFi 38 rfl ?_
    rintro _ rfl
    refine gFi 39 rfl ?_
    rintro _ rfl
    refine gFi 40 rfl ?_
    rintro _ rfl
    refine gFi 41 rfl ?_
    rintro _ rfl
    refine gFi 42 rfl ?_
    rintro _ rfl
    refine gFi0 ?_
    simp only [List.drop_succ_cons, List.drop_zero, Act.put, List.setIfInBounds_toArray, List.set_cons_succ, List.set_cons_zero]
    have HB := hide hC.bel
    clear hC h1
    have heq := HEQ.out
    have hx0 := HX0.out
    have hf : ¬ (0 : Int) < (fd : Int) := of_decide_eq_false HF.out
    go_wp2_with fail
    refine (HEM.out _).mono ?_
    rintro e w9 ⟨rfl, hw⟩
    subst w9
    go_wp2
    go_ret
    exact ⟨rfl, HB.out⟩

theorem refCls_1 (hi lo : Nat) (hh : hi < 18446744073709551616) (hl : lo < 18446744073709551616) (w : World) : Calls Tryd.prog 12 #[.int .i64 1, .agg #[.int .u64 (hi : Nat), .int .u64 (lo : Nat)]] w fun e w' => e = .returned (.int .i64 ((clsN 16 11 5 (lo + 18446744073709551616 * hi) : Nat) : Int)) ∧ Below w.heap.size w w' := by
  have hQ := q200
  have hq : (lo + 18446744073709551616 * hi) < QQ := by omega
  have hFI := fun w => refFits_1 hi lo hh hl w
  by_cases h : (lo + 18446744073709551616 * hi) < 2 ^ 16
  · rw [decide_eq_true h] at hFI
    have hFD := fun w => refFld_1 hi lo hh hl w
    have hFC := fun w => refFrac_1 hi lo hh hl w
    have hBT := fun w => refBit5_any hi lo 9 hh hl (by decide) ((11 : Nat) - 2) (by decide) w
    rw [← bit_mod (lo + 18446744073709551616 * hi) 9] at hBT
    rw [show clsN 16 11 5 (lo + 18446744073709551616 * hi) = clsP 11 5 ((lo + 18446744073709551616 * hi) / 2 ^ 10 % 2 ^ 5) ((lo + 18446744073709551616 * hi) % 2 ^ 10) from by unfold clsN; rw [if_pos h]]
    have hr : (lo + 18446744073709551616 * hi) % 2 ^ 10 < QQ := Nat.lt_of_le_of_lt (Nat.mod_le _ _) hq
    generalize (lo + 18446744073709551616 * hi) % 2 ^ 10 = r at *
    generalize (lo + 18446744073709551616 * hi) / 2 ^ 10 % 2 ^ 5 = fd at *
    by_cases h1 : fd = 2 ^ 5 - 1
    · have HEQ : Hid (((fd : Int) == (2 * ((15 : Nat) : Int) + 1)) = true) := by unfold Hid; rw [beq_iff_eq, h1]; decide
      by_cases h0 : r = 0
      · rw [show clsP 11 5 fd r = 3 by unfold clsP; rw [if_pos h1, if_pos h0]]
        exact refCls_inf 1 hi lo fd r 15 11 hr (by decide) (by decide) h0 HEQ hFI hFD hFC (fun w => emax_1 w) w
      · by_cases h2 : r / 2 ^ 9 % 2 = 1
        · rw [show clsP 11 5 fd r = 2 by unfold clsP; rw [if_pos h1, if_neg h0, if_pos h2]]
          rw [show (r / 2 ^ 9 % 2 == 1) = true by rw [beq_iff_eq]; exact h2] at hBT
          exact refCls_quiet 1 hi lo fd r 15 11 hr (by decide) (by decide) h0 HEQ (fun w => prec_1 w) hBT hFI hFD hFC (fun w => emax_1 w) w
        · rw [show clsP 11 5 fd r = 1 by unfold clsP; rw [if_pos h1, if_neg h0, if_neg h2]]
          rw [show (r / 2 ^ 9 % 2 == 1) = false by rw [beq_eq_false_iff_ne]; exact h2] at hBT
          exact refCls_sig 1 hi lo fd r 15 11 hr (by decide) (by decide) h0 HEQ (fun w => prec_1 w) hBT hFI hFD hFC (fun w => emax_1 w) w
    · have HEQ : Hid (((fd : Int) == (2 * ((15 : Nat) : Int) + 1)) = false) := by unfold Hid; rw [beq_eq_false_iff_ne]; omega
      by_cases hf : fd = 0
      · have HF : Hid (decide ((0 : Int) < (fd : Int)) = false) := by unfold Hid; rw [decide_eq_false_iff_not]; omega
        by_cases h0 : r = 0
        · rw [show clsP 11 5 fd r = 6 by unfold clsP; rw [if_neg h1, if_pos hf, if_pos h0]]
          exact refCls_zero 1 hi lo fd r 15 11 hr (by decide) (by decide) h0 HF HEQ hFI hFD hFC (fun w => emax_1 w) w
        · rw [show clsP 11 5 fd r = 5 by unfold clsP; rw [if_neg h1, if_pos hf, if_neg h0]]
          exact refCls_sub 1 hi lo fd r 15 11 hr (by decide) (by decide) h0 HF HEQ hFI hFD hFC (fun w => emax_1 w) w
      · have HF : Hid (decide ((0 : Int) < (fd : Int)) = true) := by unfold Hid; rw [decide_eq_true_eq]; omega
        rw [show clsP 11 5 fd r = 4 by unfold clsP; rw [if_neg h1, if_neg hf]]
        by_cases h0 : r = 0
        · exact refCls_norm0 1 hi lo fd r 15 11 hr (by decide) (by decide) h0 HF HEQ hFI hFD hFC (fun w => emax_1 w) w
        · exact refCls_norm 1 hi lo fd r 15 11 hr (by decide) (by decide) h0 HF HEQ hFI hFD hFC (fun w => emax_1 w) w
  · rw [decide_eq_false h] at hFI
    rw [show clsN 16 11 5 (lo + 18446744073709551616 * hi) = 0 from by unfold clsN; rw [if_neg h]]
    exact refClass_no 1 hi lo hFI w

theorem refCls_2 (hi lo : Nat) (hh : hi < 18446744073709551616) (hl : lo < 18446744073709551616) (w : World) : Calls Tryd.prog 12 #[.int .i64 2, .agg #[.int .u64 (hi : Nat), .int .u64 (lo : Nat)]] w fun e w' => e = .returned (.int .i64 ((clsN 32 24 8 (lo + 18446744073709551616 * hi) : Nat) : Int)) ∧ Below w.heap.size w w' := by
  have hQ := q200
  have hq : (lo + 18446744073709551616 * hi) < QQ := by omega
  have hFI := fun w => refFits_2 hi lo hh hl w
  by_cases h : (lo + 18446744073709551616 * hi) < 2 ^ 32
  · rw [decide_eq_true h] at hFI
    have hFD := fun w => refFld_2 hi lo hh hl w
    have hFC := fun w => refFrac_2 hi lo hh hl w
    have hBT := fun w => refBit5_any hi lo 22 hh hl (by decide) ((24 : Nat) - 2) (by decide) w
    rw [← bit_mod (lo + 18446744073709551616 * hi) 22] at hBT
    rw [show clsN 32 24 8 (lo + 18446744073709551616 * hi) = clsP 24 8 ((lo + 18446744073709551616 * hi) / 2 ^ 23 % 2 ^ 8) ((lo + 18446744073709551616 * hi) % 2 ^ 23) from by unfold clsN; rw [if_pos h]]
    have hr : (lo + 18446744073709551616 * hi) % 2 ^ 23 < QQ := Nat.lt_of_le_of_lt (Nat.mod_le _ _) hq
    generalize (lo + 18446744073709551616 * hi) % 2 ^ 23 = r at *
    generalize (lo + 18446744073709551616 * hi) / 2 ^ 23 % 2 ^ 8 = fd at *
    by_cases h1 : fd = 2 ^ 8 - 1
    · have HEQ : Hid (((fd : Int) == (2 * ((127 : Nat) : Int) + 1)) = true) := by unfold Hid; rw [beq_iff_eq, h1]; decide
      by_cases h0 : r = 0
      · rw [show clsP 24 8 fd r = 3 by unfold clsP; rw [if_pos h1, if_pos h0]]
        exact refCls_inf 2 hi lo fd r 127 24 hr (by decide) (by decide) h0 HEQ hFI hFD hFC (fun w => emax_2 w) w
      · by_cases h2 : r / 2 ^ 22 % 2 = 1
        · rw [show clsP 24 8 fd r = 2 by unfold clsP; rw [if_pos h1, if_neg h0, if_pos h2]]
          rw [show (r / 2 ^ 22 % 2 == 1) = true by rw [beq_iff_eq]; exact h2] at hBT
          exact refCls_quiet 2 hi lo fd r 127 24 hr (by decide) (by decide) h0 HEQ (fun w => prec_2 w) hBT hFI hFD hFC (fun w => emax_2 w) w
        · rw [show clsP 24 8 fd r = 1 by unfold clsP; rw [if_pos h1, if_neg h0, if_neg h2]]
          rw [show (r / 2 ^ 22 % 2 == 1) = false by rw [beq_eq_false_iff_ne]; exact h2] at hBT
          exact refCls_sig 2 hi lo fd r 127 24 hr (by decide) (by decide) h0 HEQ (fun w => prec_2 w) hBT hFI hFD hFC (fun w => emax_2 w) w
    · have HEQ : Hid (((fd : Int) == (2 * ((127 : Nat) : Int) + 1)) = false) := by unfold Hid; rw [beq_eq_false_iff_ne]; omega
      by_cases hf : fd = 0
      · have HF : Hid (decide ((0 : Int) < (fd : Int)) = false) := by unfold Hid; rw [decide_eq_false_iff_not]; omega
        by_cases h0 : r = 0
        · rw [show clsP 24 8 fd r = 6 by unfold clsP; rw [if_neg h1, if_pos hf, if_pos h0]]
          exact refCls_zero 2 hi lo fd r 127 24 hr (by decide) (by decide) h0 HF HEQ hFI hFD hFC (fun w => emax_2 w) w
        · rw [show clsP 24 8 fd r = 5 by unfold clsP; rw [if_neg h1, if_pos hf, if_neg h0]]
          exact refCls_sub 2 hi lo fd r 127 24 hr (by decide) (by decide) h0 HF HEQ hFI hFD hFC (fun w => emax_2 w) w
      · have HF : Hid (decide ((0 : Int) < (fd : Int)) = true) := by unfold Hid; rw [decide_eq_true_eq]; omega
        rw [show clsP 24 8 fd r = 4 by unfold clsP; rw [if_neg h1, if_neg hf]]
        by_cases h0 : r = 0
        · exact refCls_norm0 2 hi lo fd r 127 24 hr (by decide) (by decide) h0 HF HEQ hFI hFD hFC (fun w => emax_2 w) w
        · exact refCls_norm 2 hi lo fd r 127 24 hr (by decide) (by decide) h0 HF HEQ hFI hFD hFC (fun w => emax_2 w) w
  · rw [decide_eq_false h] at hFI
    rw [show clsN 32 24 8 (lo + 18446744073709551616 * hi) = 0 from by unfold clsN; rw [if_neg h]]
    exact refClass_no 2 hi lo hFI w

theorem refCls_3 (hi lo : Nat) (hh : hi < 18446744073709551616) (hl : lo < 18446744073709551616) (w : World) : Calls Tryd.prog 12 #[.int .i64 3, .agg #[.int .u64 (hi : Nat), .int .u64 (lo : Nat)]] w fun e w' => e = .returned (.int .i64 ((clsN 64 53 11 (lo + 18446744073709551616 * hi) : Nat) : Int)) ∧ Below w.heap.size w w' := by
  have hQ := q200
  have hq : (lo + 18446744073709551616 * hi) < QQ := by omega
  have hFI := fun w => refFits_3 hi lo hh hl w
  by_cases h : (lo + 18446744073709551616 * hi) < 2 ^ 64
  · rw [decide_eq_true h] at hFI
    have hFD := fun w => refFld_3 hi lo hh hl w
    have hFC := fun w => refFrac_3 hi lo hh hl w
    have hBT := fun w => refBit5_any hi lo 51 hh hl (by decide) ((53 : Nat) - 2) (by decide) w
    rw [← bit_mod (lo + 18446744073709551616 * hi) 51] at hBT
    rw [show clsN 64 53 11 (lo + 18446744073709551616 * hi) = clsP 53 11 ((lo + 18446744073709551616 * hi) / 2 ^ 52 % 2 ^ 11) ((lo + 18446744073709551616 * hi) % 2 ^ 52) from by unfold clsN; rw [if_pos h]]
    have hr : (lo + 18446744073709551616 * hi) % 2 ^ 52 < QQ := Nat.lt_of_le_of_lt (Nat.mod_le _ _) hq
    generalize (lo + 18446744073709551616 * hi) % 2 ^ 52 = r at *
    generalize (lo + 18446744073709551616 * hi) / 2 ^ 52 % 2 ^ 11 = fd at *
    by_cases h1 : fd = 2 ^ 11 - 1
    · have HEQ : Hid (((fd : Int) == (2 * ((1023 : Nat) : Int) + 1)) = true) := by unfold Hid; rw [beq_iff_eq, h1]; decide
      by_cases h0 : r = 0
      · rw [show clsP 53 11 fd r = 3 by unfold clsP; rw [if_pos h1, if_pos h0]]
        exact refCls_inf 3 hi lo fd r 1023 53 hr (by decide) (by decide) h0 HEQ hFI hFD hFC (fun w => emax_3 w) w
      · by_cases h2 : r / 2 ^ 51 % 2 = 1
        · rw [show clsP 53 11 fd r = 2 by unfold clsP; rw [if_pos h1, if_neg h0, if_pos h2]]
          rw [show (r / 2 ^ 51 % 2 == 1) = true by rw [beq_iff_eq]; exact h2] at hBT
          exact refCls_quiet 3 hi lo fd r 1023 53 hr (by decide) (by decide) h0 HEQ (fun w => prec_3 w) hBT hFI hFD hFC (fun w => emax_3 w) w
        · rw [show clsP 53 11 fd r = 1 by unfold clsP; rw [if_pos h1, if_neg h0, if_neg h2]]
          rw [show (r / 2 ^ 51 % 2 == 1) = false by rw [beq_eq_false_iff_ne]; exact h2] at hBT
          exact refCls_sig 3 hi lo fd r 1023 53 hr (by decide) (by decide) h0 HEQ (fun w => prec_3 w) hBT hFI hFD hFC (fun w => emax_3 w) w
    · have HEQ : Hid (((fd : Int) == (2 * ((1023 : Nat) : Int) + 1)) = false) := by unfold Hid; rw [beq_eq_false_iff_ne]; omega
      by_cases hf : fd = 0
      · have HF : Hid (decide ((0 : Int) < (fd : Int)) = false) := by unfold Hid; rw [decide_eq_false_iff_not]; omega
        by_cases h0 : r = 0
        · rw [show clsP 53 11 fd r = 6 by unfold clsP; rw [if_neg h1, if_pos hf, if_pos h0]]
          exact refCls_zero 3 hi lo fd r 1023 53 hr (by decide) (by decide) h0 HF HEQ hFI hFD hFC (fun w => emax_3 w) w
        · rw [show clsP 53 11 fd r = 5 by unfold clsP; rw [if_neg h1, if_pos hf, if_neg h0]]
          exact refCls_sub 3 hi lo fd r 1023 53 hr (by decide) (by decide) h0 HF HEQ hFI hFD hFC (fun w => emax_3 w) w
      · have HF : Hid (decide ((0 : Int) < (fd : Int)) = true) := by unfold Hid; rw [decide_eq_true_eq]; omega
        rw [show clsP 53 11 fd r = 4 by unfold clsP; rw [if_neg h1, if_neg hf]]
        by_cases h0 : r = 0
        · exact refCls_norm0 3 hi lo fd r 1023 53 hr (by decide) (by decide) h0 HF HEQ hFI hFD hFC (fun w => emax_3 w) w
        · exact refCls_norm 3 hi lo fd r 1023 53 hr (by decide) (by decide) h0 HF HEQ hFI hFD hFC (fun w => emax_3 w) w
  · rw [decide_eq_false h] at hFI
    rw [show clsN 64 53 11 (lo + 18446744073709551616 * hi) = 0 from by unfold clsN; rw [if_neg h]]
    exact refClass_no 3 hi lo hFI w

theorem refCls_4 (hi lo : Nat) (hh : hi < 18446744073709551616) (hl : lo < 18446744073709551616) (w : World) : Calls Tryd.prog 12 #[.int .i64 4, .agg #[.int .u64 (hi : Nat), .int .u64 (lo : Nat)]] w fun e w' => e = .returned (.int .i64 ((clsN 128 113 15 (lo + 18446744073709551616 * hi) : Nat) : Int)) ∧ Below w.heap.size w w' := by
  have hQ := q200
  have hq : (lo + 18446744073709551616 * hi) < QQ := by omega
  have hFI := fun w => refFits_4 hi lo hh hl w
  by_cases h : (lo + 18446744073709551616 * hi) < 2 ^ 128
  · rw [decide_eq_true h] at hFI
    have hFD := fun w => refFld_4 hi lo hh hl w
    have hFC := fun w => refFrac_4 hi lo hh hl w
    have hBT := fun w => refBit5_any hi lo 111 hh hl (by decide) ((113 : Nat) - 2) (by decide) w
    rw [← bit_mod (lo + 18446744073709551616 * hi) 111] at hBT
    rw [show clsN 128 113 15 (lo + 18446744073709551616 * hi) = clsP 113 15 ((lo + 18446744073709551616 * hi) / 2 ^ 112 % 2 ^ 15) ((lo + 18446744073709551616 * hi) % 2 ^ 112) from by unfold clsN; rw [if_pos h]]
    have hr : (lo + 18446744073709551616 * hi) % 2 ^ 112 < QQ := Nat.lt_of_le_of_lt (Nat.mod_le _ _) hq
    generalize (lo + 18446744073709551616 * hi) % 2 ^ 112 = r at *
    generalize (lo + 18446744073709551616 * hi) / 2 ^ 112 % 2 ^ 15 = fd at *
    by_cases h1 : fd = 2 ^ 15 - 1
    · have HEQ : Hid (((fd : Int) == (2 * ((16383 : Nat) : Int) + 1)) = true) := by unfold Hid; rw [beq_iff_eq, h1]; decide
      by_cases h0 : r = 0
      · rw [show clsP 113 15 fd r = 3 by unfold clsP; rw [if_pos h1, if_pos h0]]
        exact refCls_inf 4 hi lo fd r 16383 113 hr (by decide) (by decide) h0 HEQ hFI hFD hFC (fun w => emax_4 w) w
      · by_cases h2 : r / 2 ^ 111 % 2 = 1
        · rw [show clsP 113 15 fd r = 2 by unfold clsP; rw [if_pos h1, if_neg h0, if_pos h2]]
          rw [show (r / 2 ^ 111 % 2 == 1) = true by rw [beq_iff_eq]; exact h2] at hBT
          exact refCls_quiet 4 hi lo fd r 16383 113 hr (by decide) (by decide) h0 HEQ (fun w => prec_4 w) hBT hFI hFD hFC (fun w => emax_4 w) w
        · rw [show clsP 113 15 fd r = 1 by unfold clsP; rw [if_pos h1, if_neg h0, if_neg h2]]
          rw [show (r / 2 ^ 111 % 2 == 1) = false by rw [beq_eq_false_iff_ne]; exact h2] at hBT
          exact refCls_sig 4 hi lo fd r 16383 113 hr (by decide) (by decide) h0 HEQ (fun w => prec_4 w) hBT hFI hFD hFC (fun w => emax_4 w) w
    · have HEQ : Hid (((fd : Int) == (2 * ((16383 : Nat) : Int) + 1)) = false) := by unfold Hid; rw [beq_eq_false_iff_ne]; omega
      by_cases hf : fd = 0
      · have HF : Hid (decide ((0 : Int) < (fd : Int)) = false) := by unfold Hid; rw [decide_eq_false_iff_not]; omega
        by_cases h0 : r = 0
        · rw [show clsP 113 15 fd r = 6 by unfold clsP; rw [if_neg h1, if_pos hf, if_pos h0]]
          exact refCls_zero 4 hi lo fd r 16383 113 hr (by decide) (by decide) h0 HF HEQ hFI hFD hFC (fun w => emax_4 w) w
        · rw [show clsP 113 15 fd r = 5 by unfold clsP; rw [if_neg h1, if_pos hf, if_neg h0]]
          exact refCls_sub 4 hi lo fd r 16383 113 hr (by decide) (by decide) h0 HF HEQ hFI hFD hFC (fun w => emax_4 w) w
      · have HF : Hid (decide ((0 : Int) < (fd : Int)) = true) := by unfold Hid; rw [decide_eq_true_eq]; omega
        rw [show clsP 113 15 fd r = 4 by unfold clsP; rw [if_neg h1, if_neg hf]]
        by_cases h0 : r = 0
        · exact refCls_norm0 4 hi lo fd r 16383 113 hr (by decide) (by decide) h0 HF HEQ hFI hFD hFC (fun w => emax_4 w) w
        · exact refCls_norm 4 hi lo fd r 16383 113 hr (by decide) (by decide) h0 HF HEQ hFI hFD hFC (fun w => emax_4 w) w
  · rw [decide_eq_false h] at hFI
    rw [show clsN 128 113 15 (lo + 18446744073709551616 * hi) = 0 from by unfold clsN; rw [if_neg h]]
    exact refClass_no 4 hi lo hFI w

end Go.Proofs.YtidfegilddlglaaDoor

