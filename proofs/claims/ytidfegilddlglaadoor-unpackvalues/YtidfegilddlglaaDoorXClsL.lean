/- Contracts and laws: ClsL. -/
import Derived.Test.YtidfegilddlglaaDoorXClsK
/- Contracts: class.asked for wides and words. -/
set_option linter.unusedVariables false
set_option linter.unusedSimpArgs false
set_option maxRecDepth 8000
namespace Go.Proofs.YtidfegilddlglaaDoor
open Go.RowKit Plain

structure Aw0 (hi lo : Nat) (w W : World) : Prop where
  s : FitSt hi lo w W
  z : ∀ i, i < 8 → W.cell? ⟨w.heap.size + 1, i, none⟩ = some (.int .u64 0)
  f : ∀ i, W.frozen? ⟨w.heap.size + 1, i, none⟩ = false
  lt : w.heap.size + 1 < W.heap.size
theorem Aw0.below {hi lo : Nat} {w W W' : World} (h : Aw0 hi lo w W) (hb : Below W.heap.size W W') : Aw0 hi lo w W' :=
  ⟨h.s.below hb, fun i hi => (hb.cell (p := ⟨w.heap.size + 1, i, none⟩) h.lt).trans (h.z i hi), fun i => (hb.frozen (p := ⟨w.heap.size + 1, i, none⟩) h.lt).trans (h.f i), Nat.lt_of_lt_of_le h.lt hb.size⟩
theorem Aw0.start (hi lo : Nat) (w : World) : Aw0 hi lo w ((w.alloc (.cells #[.int .u64 (hi : Nat), .int .u64 (lo : Nat)] 24)).alloc (.cells #[.int .u64 0, .int .u64 0, .int .u64 0, .int .u64 0, .int .u64 0, .int .u64 0, .int .u64 0, .int .u64 0] 28)) := by
  refine ⟨(fitSt_start hi lo w).below (below_allocs _ _), fun i hi => ?_, fun i => by simp [go_sem], by simp⟩
  match i, hi with
  | 0, _ | 1, _ | 2, _ | 3, _ | 4, _ | 5, _ | 6, _ | 7, _ => simp [go_sem]
structure AwSt (p hi lo : Nat) (w : World) (k : Nat → Int) (W : World) : Prop where
  s : Fit2St p hi lo w k W
  z : ∀ i, i < 8 → W.cell? ⟨w.heap.size + 1, i, none⟩ = some (.int .u64 0)
  f : ∀ i, W.frozen? ⟨w.heap.size + 1, i, none⟩ = false
  lt : w.heap.size + 1 < W.heap.size
theorem AwSt.below {p hi lo : Nat} {w : World} {k : Nat → Int} {W W' : World} (h : AwSt p hi lo w k W) (hb : Below W.heap.size W W') : AwSt p hi lo w k W' :=
  ⟨h.s.below hb, fun i hi => (hb.cell (p := ⟨w.heap.size + 1, i, none⟩) h.lt).trans (h.z i hi), fun i => (hb.frozen (p := ⟨w.heap.size + 1, i, none⟩) h.lt).trans (h.f i), Nat.lt_of_lt_of_le h.lt hb.size⟩

set_option maxHeartbeats 1000000 in
theorem asked_wide_no (f : Int) (hi lo : Nat) (fv : Value)
    (HFI : Hid (∀ w, FmtG w → Calls Tryd.prog 94 #[.int .i64 f, .agg #[.int .u64 (hi : Nat), .int .u64 (lo : Nat)]] w fun e w' => e = .returned (.bool false) ∧ Below w.heap.size w w')) (w : World) (hg : FmtG w) :
    Calls Tryd.prog 58 #[.int .i64 f, .agg #[.int .u64 (hi : Nat), .int .u64 (lo : Nat)], fv] w fun e w' => e = .returned (.agg #[.int .u64 0, .int .u64 0, .int .u64 0, .int .u64 0, .int .u64 0, .int .u64 0, .int .u64 0, .int .u64 0]) ∧ Below w.heap.size w w' := by
  have HST := hide (Aw0.start hi lo w)
  have HG := hide (hg.below HST.out.s.bel)
  clear hg
  go_enter Tryd.func58, Tryd.ntmps58
  go_wp2_with fail
  refine (HFI.out _ HG.out).mono ?_
  rintro e w1 ⟨rfl, hb1⟩
  replace HST := hide ((HST.out.below hb1).below (below_allocs _ (.cells #[.int .u64 0, .int .u64 0, .int .u64 0, .int .u64 0, .int .u64 0, .int .u64 0, .int .u64 0, .int .u64 0] 28)))
  clear HG hb1
  have z0 := HST.out.z 0 (by decide)
  have z1 := HST.out.z 1 (by decide)
  have z2 := HST.out.z 2 (by decide)
  have z3 := HST.out.z 3 (by decide)
  have z4 := HST.out.z 4 (by decide)
  have z5 := HST.out.z 5 (by decide)
  have z6 := HST.out.z 6 (by decide)
  have z7 := HST.out.z 7 (by decide)
  have hrf := HST.out.f
  have hlt := HST.out.lt
  have HB := hide HST.out.s.bel
  clear HST
  go_wp2
  exact bodyPost_ret (v := .agg #[.int .u64 0, .int .u64 0, .int .u64 0, .int .u64 0, .int .u64 0, .int .u64 0, .int .u64 0, .int .u64 0]) (by simp [results, Tryd.results58, go_sem, hlt, z0, z1, z2, z3, z4, z5, z6, z7]) rfl ⟨rfl, ((((((((HB.out.setCell (p := ⟨w.heap.size + 1, 0, none⟩) (Nat.le_succ _) _).setCell (p := ⟨w.heap.size + 1, 1, none⟩) (Nat.le_succ _) _).setCell (p := ⟨w.heap.size + 1, 2, none⟩) (Nat.le_succ _) _).setCell (p := ⟨w.heap.size + 1, 3, none⟩) (Nat.le_succ _) _).setCell (p := ⟨w.heap.size + 1, 4, none⟩) (Nat.le_succ _) _).setCell (p := ⟨w.heap.size + 1, 5, none⟩) (Nat.le_succ _) _).setCell (p := ⟨w.heap.size + 1, 6, none⟩) (Nat.le_succ _) _).setCell (p := ⟨w.heap.size + 1, 7, none⟩) (Nat.le_succ _) _)⟩

set_option maxHeartbeats 1000000 in
theorem asked_wide (f : Int) (hi lo a fd r : Nat) (ng : Bool) (k : Nat → Int) (fid : Nat) (caps : Array Value) (C0 : World → Prop) (hC0s : ∀ W W', C0 W → Below W.heap.size W W' → C0 W') (x : Nat) (hent : ∀ args w, (callFunc fid args).run Tryd.prog w = .ok (.enter fid args) w)
    (HFI : Hid (∀ w, FmtG w → Calls Tryd.prog 94 #[.int .i64 f, .agg #[.int .u64 (hi : Nat), .int .u64 (lo : Nat)]] w fun e w' => e = .returned (.bool true) ∧ Below w.heap.size w w'))
    (HO : Hid (∀ w, FmtG w → Calls Tryd.prog 66 #[.int .i64 f] w fun e w' => e = .returned (.tuple #[.agg #[.int .i64 (k 0), .int .i64 (k 1), .int .i64 (k 2), .int .i64 (k 3), .int .i64 (k 4)], .bool true]) ∧ Below w.heap.size w w'))
    (HFR : Hid (∀ w, Calls Tryd.prog 71 #[.agg #[.int .u64 (hi : Nat), .int .u64 (lo : Nat)]] w fun e w' => e = .returned (.agg #[.int .u64 (dgl (a) 0 : Nat), .int .u64 (dgl (a) 1 : Nat), .int .u64 (dgl (a) 2 : Nat), .int .u64 (dgl (a) 3 : Nat), .int .u64 (dgl (a) 4 : Nat), .int .u64 (dgl (a) 5 : Nat), .int .u64 (dgl (a) 6 : Nat), .int .u64 (dgl (a) 7 : Nat)]) ∧ Below w.heap.size w w'))
    (HTK : Hid (∀ w, Calls Tryd.prog 95 #[.agg #[.int .i64 (k 0), .int .i64 (k 1), .int .i64 (k 2), .int .i64 (k 3), .int .i64 (k 4)], .agg #[.int .u64 (dgl (a) 0 : Nat), .int .u64 (dgl (a) 1 : Nat), .int .u64 (dgl (a) 2 : Nat), .int .u64 (dgl (a) 3 : Nat), .int .u64 (dgl (a) 4 : Nat), .int .u64 (dgl (a) 5 : Nat), .int .u64 (dgl (a) 6 : Nat), .int .u64 (dgl (a) 7 : Nat)]] w fun e w' => e = .returned (.agg #[.bool ng, .int .i64 ((fd : Nat)), .int .u64 (dgl r 0 : Nat), .int .u64 (dgl r 1 : Nat), .int .u64 (dgl r 2 : Nat), .int .u64 (dgl r 3 : Nat), .int .u64 (dgl r 4 : Nat), .int .u64 (dgl r 5 : Nat), .int .u64 (dgl r 6 : Nat), .int .u64 (dgl r 7 : Nat)]) ∧ Below w.heap.size w w'))
    (HT : Hid (∀ w, C0 w → Calls Tryd.prog fid (#[.agg #[.int .i64 (k 0), .int .i64 (k 1), .int .i64 (k 2), .int .i64 (k 3), .int .i64 (k 4)], .agg #[.bool ng, .int .i64 ((fd : Nat)), .int .u64 (dgl r 0 : Nat), .int .u64 (dgl r 1 : Nat), .int .u64 (dgl r 2 : Nat), .int .u64 (dgl r 3 : Nat), .int .u64 (dgl r 4 : Nat), .int .u64 (dgl r 5 : Nat), .int .u64 (dgl r 6 : Nat), .int .u64 (dgl r 7 : Nat)]] ++ caps) w fun e w' => e = .returned (.agg #[.int .u64 (dgl (x) 0 : Nat), .int .u64 (dgl (x) 1 : Nat), .int .u64 (dgl (x) 2 : Nat), .int .u64 (dgl (x) 3 : Nat), .int .u64 (dgl (x) 4 : Nat), .int .u64 (dgl (x) 5 : Nat), .int .u64 (dgl (x) 6 : Nat), .int .u64 (dgl (x) 7 : Nat)]) ∧ Below w.heap.size w w')) (w : World) (hg : FmtG w) (hc0 : C0 w) :
    Calls Tryd.prog 58 #[.int .i64 f, .agg #[.int .u64 (hi : Nat), .int .u64 (lo : Nat)], .func (.func fid) #[] caps] w fun e w' => e = .returned (.agg #[.int .u64 (dgl (x) 0 : Nat), .int .u64 (dgl (x) 1 : Nat), .int .u64 (dgl (x) 2 : Nat), .int .u64 (dgl (x) 3 : Nat), .int .u64 (dgl (x) 4 : Nat), .int .u64 (dgl (x) 5 : Nat), .int .u64 (dgl (x) 6 : Nat), .int .u64 (dgl (x) 7 : Nat)]) ∧ Below w.heap.size w w' := by
  have HST := hide (Aw0.start hi lo w)
  have HG := hide (hg.below HST.out.s.bel)
  have HC0 := hide (hC0s _ _ hc0 HST.out.s.bel)
  clear hg hc0
  go_enter Tryd.func58, Tryd.ntmps58
  go_wp2_with fail
  refine (HFI.out _ HG.out).mono ?_
  rintro e w1 ⟨rfl, hb1⟩
  replace HST := hide (HST.out.below hb1)
  replace HG := hide (HG.out.below hb1)
  replace HC0 := hide (hC0s _ _ HC0.out hb1)
  clear hb1
  go_wp2_with fail
  refine (HO.out _ HG.out).mono ?_
  rintro e w2 ⟨rfl, hb2⟩
  replace HST := hide (HST.out.below hb2)
  replace HC0 := hide (hC0s _ _ (hC0s _ _ HC0.out hb2) (below_allocs w2 (.cells #[.int .i64 (k 0), .int .i64 (k 1), .int .i64 (k 2), .int .i64 (k 3), .int .i64 (k 4)] 69)))
  have HS2 := hide (fit2St_start hi lo k w w2 HST.out.s)
  replace HST := hide (HST.out.below (below_allocs w2 (.cells #[.int .i64 (k 0), .int .i64 (k 1), .int .i64 (k 2), .int .i64 (k 3), .int .i64 (k 4)] 69)))
  clear hb2 HG
  go_upto_region 5 with fail
  refine wp_gen (fun W => AwSt w2.heap.size hi lo w k W ∧ C0 W) ⟨⟨HS2.out, HST.out.z, HST.out.f, HST.out.lt⟩, HC0.out⟩ ?_
  clear HS2 HST HC0
  rintro W1 h1
  generalize w2.heap.size = p at *
  refine wp_region_grow 7 [(20, .val (.func (.func fid) #[] caps)), (21, .val (.agg #[.int .i64 (k 0), .int .i64 (k 1), .int .i64 (k 2), .int .i64 (k 3), .int .i64 (k 4)])), (22, .val (.agg #[.int .i64 (k 0), .int .i64 (k 1), .int .i64 (k 2), .int .i64 (k 3), .int .i64 (k 4)])), (23, .val (.agg #[.int .u64 (hi : Nat), .int .u64 (lo : Nat)])), (24, .val (.agg #[.int .u64 (dgl (a) 0 : Nat), .int .u64 (dgl (a) 1 : Nat), .int .u64 (dgl (a) 2 : Nat), .int .u64 (dgl (a) 3 : Nat), .int .u64 (dgl (a) 4 : Nat), .int .u64 (dgl (a) 5 : Nat), .int .u64 (dgl (a) 6 : Nat), .int .u64 (dgl (a) 7 : Nat)])), (25, .val (.agg #[.bool ng, .int .i64 ((fd : Nat)), .int .u64 (dgl r 0 : Nat), .int .u64 (dgl r 1 : Nat), .int .u64 (dgl r 2 : Nat), .int .u64 (dgl r 3 : Nat), .int .u64 (dgl r 4 : Nat), .int .u64 (dgl r 5 : Nat), .int .u64 (dgl r 6 : Nat), .int .u64 (dgl r 7 : Nat)])), (26, .val (.agg #[.int .u64 (dgl (x) 0 : Nat), .int .u64 (dgl (x) 1 : Nat), .int .u64 (dgl (x) 2 : Nat), .int .u64 (dgl (x) 3 : Nat), .int .u64 (dgl (x) 4 : Nat), .int .u64 (dgl (x) 5 : Nat), .int .u64 (dgl (x) 6 : Nat), .int .u64 (dgl (x) 7 : Nat)]))]
    (fun W => AwSt p hi lo w k W ∧ C0 W) mixedOk (by kernel_rfl) (by kernel_rfl) (⟨h1.1.below (Below.refl _ _).drew, hC0s _ _ h1.2 (Below.refl _ _).drew⟩) (fun W W' h hb => ⟨h.1.below hb, hC0s _ _ h.2 hb⟩) ?_ ?_
  · refine gSt (gStep_run rfl (gRun_move 2 20 (.inl rfl) rfl (by decide +kernel) (fun v w h => h))) ?_
    refine gSt (gStep_run rfl ?_) ?_
    · intro ρ W hC hc hf hL
      have e8 : ρ (.tmp 8) = .pointer (some ⟨p, 0, none⟩) := hL 8 (by decide +kernel)
      have g0 := hC.1.s.rk 0 (by decide)
      have g1 := hC.1.s.rk 1 (by decide)
      have g2 := hC.1.s.rk 2 (by decide)
      have g3 := hC.1.s.rk 3 (by decide)
      have g4 := hC.1.s.rk 4 (by decide)
      simp [go_sem, hc, hf, e8, g0, g1, g2, g3, g4]
      exact ⟨Below.refl _ _, rfl⟩
    refine gSt (gStep_run rfl ?_) ?_
    · intro ρ W hC hc hf hL
      have e8 : ρ (.tmp 8) = .pointer (some ⟨p, 0, none⟩) := hL 8 (by decide +kernel)
      have g0 := hC.1.s.rk 0 (by decide)
      have g1 := hC.1.s.rk 1 (by decide)
      have g2 := hC.1.s.rk 2 (by decide)
      have g3 := hC.1.s.rk 3 (by decide)
      have g4 := hC.1.s.rk 4 (by decide)
      simp [go_sem, hc, hf, e8, g0, g1, g2, g3, g4]
      exact ⟨Below.refl _ _, rfl⟩
    refine gSt (gStep_run rfl ?_) ?_
    · intro ρ W hC hc hf hL
      have e4 : ρ (.tmp 4) = .pointer (some ⟨w.heap.size, 0, none⟩) := hL 4 (by decide +kernel)
      have l0 := hC.1.s.s.h
      have l1 := hC.1.s.s.l
      simp [go_sem, hc, hf, e4, l0, l1]
      exact ⟨Below.refl _ _, rfl⟩
    refine gSt (gStep_run rfl ?_) ?_
    · intro ρ W hC hc hf hL
      have e23 : ρ (.tmp 23) = .agg #[.int .u64 (hi : Nat), .int .u64 (lo : Nat)] := hL 23 (by decide +kernel)
      simp [go_sem, hc, hf, e23]
      refine (HFR.out W).mono ?_
      rintro e w' ⟨rfl, hb⟩
      exact ⟨_, rfl, by first | exact hb | (subst hb; exact Below.refl _ _), rfl⟩
    refine gSt (gStep_run rfl ?_) ?_
    · intro ρ W hC hc hf hL
      have e22 : ρ (.tmp 22) = .agg #[.int .i64 (k 0), .int .i64 (k 1), .int .i64 (k 2), .int .i64 (k 3), .int .i64 (k 4)] := hL 22 (by decide +kernel)
      have e24 : ρ (.tmp 24) = .agg #[.int .u64 (dgl (a) 0 : Nat), .int .u64 (dgl (a) 1 : Nat), .int .u64 (dgl (a) 2 : Nat), .int .u64 (dgl (a) 3 : Nat), .int .u64 (dgl (a) 4 : Nat), .int .u64 (dgl (a) 5 : Nat), .int .u64 (dgl (a) 6 : Nat), .int .u64 (dgl (a) 7 : Nat)] := hL 24 (by decide +kernel)
      simp [go_sem, hc, hf, e22, e24]
      refine (HTK.out W).mono ?_
      rintro e w' ⟨rfl, hb⟩
      exact ⟨_, rfl, by first | exact hb | (subst hb; exact Below.refl _ _), rfl⟩
    refine gSt (gStep_run rfl ?_) ?_
    · intro ρ W hC hc hf hL
      have e20 : ρ (.tmp 20) = .func (.func fid) #[] caps := hL 20 (by decide +kernel)
      have e21 : ρ (.tmp 21) = .agg #[.int .i64 (k 0), .int .i64 (k 1), .int .i64 (k 2), .int .i64 (k 3), .int .i64 (k 4)] := hL 21 (by decide +kernel)
      have e25 : ρ (.tmp 25) = .agg #[.bool ng, .int .i64 ((fd : Nat)), .int .u64 (dgl r 0 : Nat), .int .u64 (dgl r 1 : Nat), .int .u64 (dgl r 2 : Nat), .int .u64 (dgl r 3 : Nat), .int .u64 (dgl r 4 : Nat), .int .u64 (dgl r 5 : Nat), .int .u64 (dgl r 6 : Nat), .int .u64 (dgl r 7 : Nat)] := hL 25 (by decide +kernel)
      simp [go_sem, hc, hf, e20, e21, e25, hent]
      refine (HT.out W hC.2).mono ?_
      rintro e w' ⟨rfl, hb⟩
      exact ⟨_, rfl, by first | exact hb | (subst hb; exact Below.refl _ _), rfl⟩
    exact gSt0
  · intro W hC
    refine gFi 20 rfl ?_
    rintro _ rfl
    refine gFi 21 rfl ?_
    rintro _ rfl
    refine gFi 22 rfl ?_
    rintro _ rfl
    refine gFi 23 rfl ?_
    rintro _ rfl
    refine gFi 24 rfl ?_
    rintro _ rfl
    refine gFi 25 rfl ?_
    rintro _ rfl
    refine gFi 26 rfl ?_
    rintro _ rfl
    refine gFi0 ?_
    simp only [List.drop_succ_cons, List.drop_zero, Act.put, List.setIfInBounds_toArray, List.set_cons_succ, List.set_cons_zero]
    have z0 := hC.1.z 0 (by decide)
    have z1 := hC.1.z 1 (by decide)
    have z2 := hC.1.z 2 (by decide)
    have z3 := hC.1.z 3 (by decide)
    have z4 := hC.1.z 4 (by decide)
    have z5 := hC.1.z 5 (by decide)
    have z6 := hC.1.z 6 (by decide)
    have z7 := hC.1.z 7 (by decide)
    have hrf := hC.1.f
    have hlt := hC.1.lt
    have HB := hide hC.1.s.s.bel
    clear hC h1
    go_wp2
    exact bodyPost_ret (v := .agg #[.int .u64 (dgl (x) 0 : Nat), .int .u64 (dgl (x) 1 : Nat), .int .u64 (dgl (x) 2 : Nat), .int .u64 (dgl (x) 3 : Nat), .int .u64 (dgl (x) 4 : Nat), .int .u64 (dgl (x) 5 : Nat), .int .u64 (dgl (x) 6 : Nat), .int .u64 (dgl (x) 7 : Nat)]) (by simp [results, Tryd.results58, go_sem, hlt, z0, z1, z2, z3, z4, z5, z6, z7]) rfl ⟨rfl, ((((((((HB.out.setCell (p := ⟨w.heap.size + 1, 0, none⟩) (Nat.le_succ _) _).setCell (p := ⟨w.heap.size + 1, 1, none⟩) (Nat.le_succ _) _).setCell (p := ⟨w.heap.size + 1, 2, none⟩) (Nat.le_succ _) _).setCell (p := ⟨w.heap.size + 1, 3, none⟩) (Nat.le_succ _) _).setCell (p := ⟨w.heap.size + 1, 4, none⟩) (Nat.le_succ _) _).setCell (p := ⟨w.heap.size + 1, 5, none⟩) (Nat.le_succ _) _).setCell (p := ⟨w.heap.size + 1, 6, none⟩) (Nat.le_succ _) _).setCell (p := ⟨w.heap.size + 1, 7, none⟩) (Nat.le_succ _) _)⟩

structure Ax0 (hi lo : Nat) (w W : World) : Prop where
  s : FitSt hi lo w W
  z : ∀ i, i < 2 → W.cell? ⟨w.heap.size + 1, i, none⟩ = some (.int .u64 0)
  f : ∀ i, W.frozen? ⟨w.heap.size + 1, i, none⟩ = false
  lt : w.heap.size + 1 < W.heap.size
theorem Ax0.below {hi lo : Nat} {w W W' : World} (h : Ax0 hi lo w W) (hb : Below W.heap.size W W') : Ax0 hi lo w W' :=
  ⟨h.s.below hb, fun i hi => (hb.cell (p := ⟨w.heap.size + 1, i, none⟩) h.lt).trans (h.z i hi), fun i => (hb.frozen (p := ⟨w.heap.size + 1, i, none⟩) h.lt).trans (h.f i), Nat.lt_of_lt_of_le h.lt hb.size⟩
theorem Ax0.start (hi lo : Nat) (w : World) : Ax0 hi lo w ((w.alloc (.cells #[.int .u64 (hi : Nat), .int .u64 (lo : Nat)] 24)).alloc (.cells #[.int .u64 0, .int .u64 0] 24)) := by
  refine ⟨(fitSt_start hi lo w).below (below_allocs _ _), fun i hi => ?_, fun i => by simp [go_sem], by simp⟩
  match i, hi with
  | 0, _ | 1, _ => simp [go_sem]
structure AxSt (p hi lo : Nat) (w : World) (k : Nat → Int) (W : World) : Prop where
  s : Fit2St p hi lo w k W
  z : ∀ i, i < 2 → W.cell? ⟨w.heap.size + 1, i, none⟩ = some (.int .u64 0)
  f : ∀ i, W.frozen? ⟨w.heap.size + 1, i, none⟩ = false
  lt : w.heap.size + 1 < W.heap.size
theorem AxSt.below {p hi lo : Nat} {w : World} {k : Nat → Int} {W W' : World} (h : AxSt p hi lo w k W) (hb : Below W.heap.size W W') : AxSt p hi lo w k W' :=
  ⟨h.s.below hb, fun i hi => (hb.cell (p := ⟨w.heap.size + 1, i, none⟩) h.lt).trans (h.z i hi), fun i => (hb.frozen (p := ⟨w.heap.size + 1, i, none⟩) h.lt).trans (h.f i), Nat.lt_of_lt_of_le h.lt hb.size⟩

set_option maxHeartbeats 1000000 in
theorem asked_word_no (f : Int) (hi lo : Nat) (fv : Value)
    (HFI : Hid (∀ w, FmtG w → Calls Tryd.prog 94 #[.int .i64 f, .agg #[.int .u64 (hi : Nat), .int .u64 (lo : Nat)]] w fun e w' => e = .returned (.bool false) ∧ Below w.heap.size w w')) (w : World) (hg : FmtG w) :
    Calls Tryd.prog 60 #[.int .i64 f, .agg #[.int .u64 (hi : Nat), .int .u64 (lo : Nat)], fv] w fun e w' => e = .returned (.agg #[.int .u64 0, .int .u64 0]) ∧ Below w.heap.size w w' := by
  have HST := hide (Ax0.start hi lo w)
  have HG := hide (hg.below HST.out.s.bel)
  clear hg
  go_enter Tryd.func60, Tryd.ntmps60
  go_wp2_with fail
  refine (HFI.out _ HG.out).mono ?_
  rintro e w1 ⟨rfl, hb1⟩
  replace HST := hide ((HST.out.below hb1).below (below_allocs _ (.cells #[.int .u64 0, .int .u64 0] 24)))
  clear HG hb1
  have z0 := HST.out.z 0 (by decide)
  have z1 := HST.out.z 1 (by decide)
  have hrf := HST.out.f
  have hlt := HST.out.lt
  have HB := hide HST.out.s.bel
  clear HST
  go_wp2
  exact bodyPost_ret (v := .agg #[.int .u64 0, .int .u64 0]) (by simp [results, Tryd.results60, go_sem, hlt, z0, z1]) rfl ⟨rfl, ((HB.out.setCell (p := ⟨w.heap.size + 1, 0, none⟩) (Nat.le_succ _) _).setCell (p := ⟨w.heap.size + 1, 1, none⟩) (Nat.le_succ _) _)⟩

set_option maxHeartbeats 1000000 in
theorem asked_word (f : Int) (hi lo a fd r : Nat) (ng : Bool) (k : Nat → Int) (fid : Nat) (caps : Array Value) (C0 : World → Prop) (hC0s : ∀ W W', C0 W → Below W.heap.size W W' → C0 W') (x y : Nat) (hent : ∀ args w, (callFunc fid args).run Tryd.prog w = .ok (.enter fid args) w)
    (HFI : Hid (∀ w, FmtG w → Calls Tryd.prog 94 #[.int .i64 f, .agg #[.int .u64 (hi : Nat), .int .u64 (lo : Nat)]] w fun e w' => e = .returned (.bool true) ∧ Below w.heap.size w w'))
    (HO : Hid (∀ w, FmtG w → Calls Tryd.prog 66 #[.int .i64 f] w fun e w' => e = .returned (.tuple #[.agg #[.int .i64 (k 0), .int .i64 (k 1), .int .i64 (k 2), .int .i64 (k 3), .int .i64 (k 4)], .bool true]) ∧ Below w.heap.size w w'))
    (HFR : Hid (∀ w, Calls Tryd.prog 71 #[.agg #[.int .u64 (hi : Nat), .int .u64 (lo : Nat)]] w fun e w' => e = .returned (.agg #[.int .u64 (dgl (a) 0 : Nat), .int .u64 (dgl (a) 1 : Nat), .int .u64 (dgl (a) 2 : Nat), .int .u64 (dgl (a) 3 : Nat), .int .u64 (dgl (a) 4 : Nat), .int .u64 (dgl (a) 5 : Nat), .int .u64 (dgl (a) 6 : Nat), .int .u64 (dgl (a) 7 : Nat)]) ∧ Below w.heap.size w w'))
    (HTK : Hid (∀ w, Calls Tryd.prog 95 #[.agg #[.int .i64 (k 0), .int .i64 (k 1), .int .i64 (k 2), .int .i64 (k 3), .int .i64 (k 4)], .agg #[.int .u64 (dgl (a) 0 : Nat), .int .u64 (dgl (a) 1 : Nat), .int .u64 (dgl (a) 2 : Nat), .int .u64 (dgl (a) 3 : Nat), .int .u64 (dgl (a) 4 : Nat), .int .u64 (dgl (a) 5 : Nat), .int .u64 (dgl (a) 6 : Nat), .int .u64 (dgl (a) 7 : Nat)]] w fun e w' => e = .returned (.agg #[.bool ng, .int .i64 ((fd : Nat)), .int .u64 (dgl r 0 : Nat), .int .u64 (dgl r 1 : Nat), .int .u64 (dgl r 2 : Nat), .int .u64 (dgl r 3 : Nat), .int .u64 (dgl r 4 : Nat), .int .u64 (dgl r 5 : Nat), .int .u64 (dgl r 6 : Nat), .int .u64 (dgl r 7 : Nat)]) ∧ Below w.heap.size w w'))
    (HT : Hid (∀ w, C0 w → Calls Tryd.prog fid (#[.agg #[.int .i64 (k 0), .int .i64 (k 1), .int .i64 (k 2), .int .i64 (k 3), .int .i64 (k 4)], .agg #[.bool ng, .int .i64 ((fd : Nat)), .int .u64 (dgl r 0 : Nat), .int .u64 (dgl r 1 : Nat), .int .u64 (dgl r 2 : Nat), .int .u64 (dgl r 3 : Nat), .int .u64 (dgl r 4 : Nat), .int .u64 (dgl r 5 : Nat), .int .u64 (dgl r 6 : Nat), .int .u64 (dgl r 7 : Nat)]] ++ caps) w fun e w' => e = .returned (.agg #[.int .u64 (x : Nat), .int .u64 (y : Nat)]) ∧ Below w.heap.size w w')) (w : World) (hg : FmtG w) (hc0 : C0 w) :
    Calls Tryd.prog 60 #[.int .i64 f, .agg #[.int .u64 (hi : Nat), .int .u64 (lo : Nat)], .func (.func fid) #[] caps] w fun e w' => e = .returned (.agg #[.int .u64 (x : Nat), .int .u64 (y : Nat)]) ∧ Below w.heap.size w w' := by
  have HST := hide (Ax0.start hi lo w)
  have HG := hide (hg.below HST.out.s.bel)
  have HC0 := hide (hC0s _ _ hc0 HST.out.s.bel)
  clear hg hc0
  go_enter Tryd.func60, Tryd.ntmps60
  go_wp2_with fail
  refine (HFI.out _ HG.out).mono ?_
  rintro e w1 ⟨rfl, hb1⟩
  replace HST := hide (HST.out.below hb1)
  replace HG := hide (HG.out.below hb1)
  replace HC0 := hide (hC0s _ _ HC0.out hb1)
  clear hb1
  go_wp2_with fail
  refine (HO.out _ HG.out).mono ?_
  rintro e w2 ⟨rfl, hb2⟩
  replace HST := hide (HST.out.below hb2)
  replace HC0 := hide (hC0s _ _ (hC0s _ _ HC0.out hb2) (below_allocs w2 (.cells #[.int .i64 (k 0), .int .i64 (k 1), .int .i64 (k 2), .int .i64 (k 3), .int .i64 (k 4)] 69)))
  have HS2 := hide (fit2St_start hi lo k w w2 HST.out.s)
  replace HST := hide (HST.out.below (below_allocs w2 (.cells #[.int .i64 (k 0), .int .i64 (k 1), .int .i64 (k 2), .int .i64 (k 3), .int .i64 (k 4)] 69)))
  clear hb2 HG
  go_upto_region 5 with fail
  refine wp_gen (fun W => AxSt w2.heap.size hi lo w k W ∧ C0 W) ⟨⟨HS2.out, HST.out.z, HST.out.f, HST.out.lt⟩, HC0.out⟩ ?_
  clear HS2 HST HC0
  rintro W1 h1
  generalize w2.heap.size = p at *
  refine wp_region_grow 7 [(20, .val (.func (.func fid) #[] caps)), (21, .val (.agg #[.int .i64 (k 0), .int .i64 (k 1), .int .i64 (k 2), .int .i64 (k 3), .int .i64 (k 4)])), (22, .val (.agg #[.int .i64 (k 0), .int .i64 (k 1), .int .i64 (k 2), .int .i64 (k 3), .int .i64 (k 4)])), (23, .val (.agg #[.int .u64 (hi : Nat), .int .u64 (lo : Nat)])), (24, .val (.agg #[.int .u64 (dgl (a) 0 : Nat), .int .u64 (dgl (a) 1 : Nat), .int .u64 (dgl (a) 2 : Nat), .int .u64 (dgl (a) 3 : Nat), .int .u64 (dgl (a) 4 : Nat), .int .u64 (dgl (a) 5 : Nat), .int .u64 (dgl (a) 6 : Nat), .int .u64 (dgl (a) 7 : Nat)])), (25, .val (.agg #[.bool ng, .int .i64 ((fd : Nat)), .int .u64 (dgl r 0 : Nat), .int .u64 (dgl r 1 : Nat), .int .u64 (dgl r 2 : Nat), .int .u64 (dgl r 3 : Nat), .int .u64 (dgl r 4 : Nat), .int .u64 (dgl r 5 : Nat), .int .u64 (dgl r 6 : Nat), .int .u64 (dgl r 7 : Nat)])), (26, .val (.agg #[.int .u64 (x : Nat), .int .u64 (y : Nat)]))]
    (fun W => AxSt p hi lo w k W ∧ C0 W) mixedOk (by kernel_rfl) (by kernel_rfl) (⟨h1.1.below (Below.refl _ _).drew, hC0s _ _ h1.2 (Below.refl _ _).drew⟩) (fun W W' h hb => ⟨h.1.below hb, hC0s _ _ h.2 hb⟩) ?_ ?_
  · refine gSt (gStep_run rfl (gRun_move 2 20 (.inl rfl) rfl (by decide +kernel) (fun v w h => h))) ?_
    refine gSt (gStep_run rfl ?_) ?_
    · intro ρ W hC hc hf hL
      have e8 : ρ (.tmp 8) = .pointer (some ⟨p, 0, none⟩) := hL 8 (by decide +kernel)
      have g0 := hC.1.s.rk 0 (by decide)
      have g1 := hC.1.s.rk 1 (by decide)
      have g2 := hC.1.s.rk 2 (by decide)
      have g3 := hC.1.s.rk 3 (by decide)
      have g4 := hC.1.s.rk 4 (by decide)
      simp [go_sem, hc, hf, e8, g0, g1, g2, g3, g4]
      exact ⟨Below.refl _ _, rfl⟩
    refine gSt (gStep_run rfl ?_) ?_
    · intro ρ W hC hc hf hL
      have e8 : ρ (.tmp 8) = .pointer (some ⟨p, 0, none⟩) := hL 8 (by decide +kernel)
      have g0 := hC.1.s.rk 0 (by decide)
      have g1 := hC.1.s.rk 1 (by decide)
      have g2 := hC.1.s.rk 2 (by decide)
      have g3 := hC.1.s.rk 3 (by decide)
      have g4 := hC.1.s.rk 4 (by decide)
      simp [go_sem, hc, hf, e8, g0, g1, g2, g3, g4]
      exact ⟨Below.refl _ _, rfl⟩
    refine gSt (gStep_run rfl ?_) ?_
    · intro ρ W hC hc hf hL
      have e4 : ρ (.tmp 4) = .pointer (some ⟨w.heap.size, 0, none⟩) := hL 4 (by decide +kernel)
      have l0 := hC.1.s.s.h
      have l1 := hC.1.s.s.l
      simp [go_sem, hc, hf, e4, l0, l1]
      exact ⟨Below.refl _ _, rfl⟩
    refine gSt (gStep_run rfl ?_) ?_
    · intro ρ W hC hc hf hL
      have e23 : ρ (.tmp 23) = .agg #[.int .u64 (hi : Nat), .int .u64 (lo : Nat)] := hL 23 (by decide +kernel)
      simp [go_sem, hc, hf, e23]
      refine (HFR.out W).mono ?_
      rintro e w' ⟨rfl, hb⟩
      exact ⟨_, rfl, by first | exact hb | (subst hb; exact Below.refl _ _), rfl⟩
    refine gSt (gStep_run rfl ?_) ?_
    · intro ρ W hC hc hf hL
      have e22 : ρ (.tmp 22) = .agg #[.int .i64 (k 0), .int .i64 (k 1), .int .i64 (k 2), .int .i64 (k 3), .int .i64 (k 4)] := hL 22 (by decide +kernel)
      have e24 : ρ (.tmp 24) = .agg #[.int .u64 (dgl (a) 0 : Nat), .int .u64 (dgl (a) 1 : Nat), .int .u64 (dgl (a) 2 : Nat), .int .u64 (dgl (a) 3 : Nat), .int .u64 (dgl (a) 4 : Nat), .int .u64 (dgl (a) 5 : Nat), .int .u64 (dgl (a) 6 : Nat), .int .u64 (dgl (a) 7 : Nat)] := hL 24 (by decide +kernel)
      simp [go_sem, hc, hf, e22, e24]
      refine (HTK.out W).mono ?_
      rintro e w' ⟨rfl, hb⟩
      exact ⟨_, rfl, by first | exact hb | (subst hb; exact Below.refl _ _), rfl⟩
    refine gSt (gStep_run rfl ?_) ?_
    · intro ρ W hC hc hf hL
      have e20 : ρ (.tmp 20) = .func (.func fid) #[] caps := hL 20 (by decide +kernel)
      have e21 : ρ (.tmp 21) = .agg #[.int .i64 (k 0), .int .i64 (k 1), .int .i64 (k 2), .int .i64 (k 3), .int .i64 (k 4)] := hL 21 (by decide +kernel)
      have e25 : ρ (.tmp 25) = .agg #[.bool ng, .int .i64 ((fd : Nat)), .int .u64 (dgl r 0 : Nat), .int .u64 (dgl r 1 : Nat), .int .u64 (dgl r 2 : Nat), .int .u64 (dgl r 3 : Nat), .int .u64 (dgl r 4 : Nat), .int .u64 (dgl r 5 : Nat), .int .u64 (dgl r 6 : Nat), .int .u64 (dgl r 7 : Nat)] := hL 25 (by decide +kernel)
      simp [go_sem, hc, hf, e20, e21, e25, hent]
      refine (HT.out W hC.2).mono ?_
      rintro e w' ⟨rfl, hb⟩
      exact ⟨_, rfl, by first | exact hb | (subst hb; exact Below.refl _ _), rfl⟩
    exact gSt0
  · intro W hC
    refine gFi 20 rfl ?_
    rintro _ rfl
    refine gFi 21 rfl ?_
    rintro _ rfl
    refine gFi 22 rfl ?_
    rintro _ rfl
    refine gFi 23 rfl ?_
    rintro _ rfl
    refine gFi 24 rfl ?_
    rintro _ rfl
    refine gFi 25 rfl ?_
    rintro _ rfl
    refine gFi 26 rfl ?_
    rintro _ rfl
    refine gFi0 ?_
    simp only [List.drop_succ_cons, List.drop_zero, Act.put, List.setIfInBounds_toArray, List.set_cons_succ, List.set_cons_zero]
    have z0 := hC.1.z 0 (by decide)
    have z1 := hC.1.z 1 (by decide)
    have hrf := hC.1.f
    have hlt := hC.1.lt
    have HB := hide hC.1.s.s.bel
    clear hC h1
    go_wp2
    exact bodyPost_ret (v := .agg #[.int .u64 (x : Nat), .int .u64 (y : Nat)]) (by simp [results, Tryd.results60, go_sem, hlt, z0, z1]) rfl ⟨rfl, ((HB.out.setCell (p := ⟨w.heap.size + 1, 0, none⟩) (Nat.le_succ _) _).setCell (p := ⟨w.heap.size + 1, 1, none⟩) (Nat.le_succ _) _)⟩

end Go.Proofs.YtidfegilddlglaaDoor

