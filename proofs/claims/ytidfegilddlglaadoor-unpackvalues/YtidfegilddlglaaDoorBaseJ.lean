/- Contracts and laws: WideQ. -/
import Derived.Test.YtidfegilddlglaaDoorBaseI
/- Contracts: wide.Shr. -/
set_option linter.unusedVariables false
set_option linter.unusedSimpArgs false
set_option maxRecDepth 8000
namespace Go.Proofs.YtidfegilddlglaaDoor
open Go.RowKit Plain

structure ShrSt (B : Nat) (w : World) (fa fr : Nat → Nat) (W : World) : Prop where
  la : LiesF W B fa
  lr : LiesF W (B + 1) fr
  fr : ∀ i, W.frozen? ⟨B + 1, i, none⟩ = false
  bel : Below B w W
theorem ShrSt.below {B : Nat} {w : World} {fa fr : Nat → Nat} {W W' : World} (h : ShrSt B w fa fr W) (hb : Below W.heap.size W W') : ShrSt B w fa fr W' :=
  ⟨h.la.below hb, h.lr.below hb, fun i => (hb.frozen (p := ⟨B + 1, i, none⟩) h.lr.2).trans (h.fr i), h.bel.trans (hb.mono (Nat.le_of_lt h.la.2))⟩

theorem lies_other {W : World} {b B : Nat} {f : Nat → Nat} {x0 x1 x2 x3 x4 x5 x6 x7 : Value} (h : LiesF W b f) (hne : B < b) : LiesF ((((((((W.setCell ⟨B, 0, none⟩ x0).setCell ⟨B, 1, none⟩ x1).setCell ⟨B, 2, none⟩ x2).setCell ⟨B, 3, none⟩ x3).setCell ⟨B, 4, none⟩ x4).setCell ⟨B, 5, none⟩ x5).setCell ⟨B, 6, none⟩ x6).setCell ⟨B, 7, none⟩ x7) b f := by
  refine ⟨fun i hi => ?_, by simpa using h.2⟩
  have := h.1 i hi
  have hb : b ≠ B := by omega
  simp [go_sem, this, hb]
theorem ShrSt.set8 {B : Nat} {w : World} {fa fr fq : Nat → Nat} {W : World} (h : ShrSt B w fa fr W) : ShrSt B w fa fq ((((((((W.setCell ⟨B + 1, 0, none⟩ (.int .u64 (fq 0 : Nat))).setCell ⟨B + 1, 1, none⟩ (.int .u64 (fq 1 : Nat))).setCell ⟨B + 1, 2, none⟩ (.int .u64 (fq 2 : Nat))).setCell ⟨B + 1, 3, none⟩ (.int .u64 (fq 3 : Nat))).setCell ⟨B + 1, 4, none⟩ (.int .u64 (fq 4 : Nat))).setCell ⟨B + 1, 5, none⟩ (.int .u64 (fq 5 : Nat))).setCell ⟨B + 1, 6, none⟩ (.int .u64 (fq 6 : Nat))).setCell ⟨B + 1, 7, none⟩ (.int .u64 (fq 7 : Nat))) := by
  have hs8 := below_set8 (Below.refl (B + 1) W) (B + 1) (Nat.le_refl _) (.int .u64 (fq 0 : Nat)) (.int .u64 (fq 1 : Nat)) (.int .u64 (fq 2 : Nat)) (.int .u64 (fq 3 : Nat)) (.int .u64 (fq 4 : Nat)) (.int .u64 (fq 5 : Nat)) (.int .u64 (fq 6 : Nat)) (.int .u64 (fq 7 : Nat))
  exact ⟨lies_box h.la hs8 (by omega), set8_same W (B + 1) fq fr h.lr, fun i => by simpa [go_sem] using h.fr i, h.bel.trans (hs8.mono (by omega))⟩

set_option maxHeartbeats 4000000 in
theorem wideShr_walk (fa fq fu : Nat → Nat) (n r : Int) (t : Bool) (w : World)
    (HR : Hid (∀ w, Calls Tryd.prog 102 #[.int .i64 n] w fun e w' => e = .returned (.int .i64 r) ∧ w' = w))
    (hneg : IntKind.i64.wrap (-r) = -r)
    (HM : Hid (∀ w, Calls Tryd.prog 101 #[.agg #[.int .u64 (fa 0 : Nat), .int .u64 (fa 1 : Nat), .int .u64 (fa 2 : Nat), .int .u64 (fa 3 : Nat), .int .u64 (fa 4 : Nat), .int .u64 (fa 5 : Nat), .int .u64 (fa 6 : Nat), .int .u64 (fa 7 : Nat)], .int .i64 (-r), .int .u64 0] w fun e w' => e = .returned (.agg #[.int .u64 (fq 0 : Nat), .int .u64 (fq 1 : Nat), .int .u64 (fq 2 : Nat), .int .u64 (fq 3 : Nat), .int .u64 (fq 4 : Nat), .int .u64 (fq 5 : Nat), .int .u64 (fq 6 : Nat), .int .u64 (fq 7 : Nat)]) ∧ Below w.heap.size w w'))
    (HS : Hid (∀ w, Calls Tryd.prog 69 #[.agg #[.int .u64 (fq 0 : Nat), .int .u64 (fq 1 : Nat), .int .u64 (fq 2 : Nat), .int .u64 (fq 3 : Nat), .int .u64 (fq 4 : Nat), .int .u64 (fq 5 : Nat), .int .u64 (fq 6 : Nat), .int .u64 (fq 7 : Nat)], .int .i64 n] w fun e w' => e = .returned (.agg #[.int .u64 (fu 0 : Nat), .int .u64 (fu 1 : Nat), .int .u64 (fu 2 : Nat), .int .u64 (fu 3 : Nat), .int .u64 (fu 4 : Nat), .int .u64 (fu 5 : Nat), .int .u64 (fu 6 : Nat), .int .u64 (fu 7 : Nat)]) ∧ Below w.heap.size w w'))
    (heq : ∀ w, (Op.equalIn 10000 28 (.agg #[.int .u64 (fu 0 : Nat), .int .u64 (fu 1 : Nat), .int .u64 (fu 2 : Nat), .int .u64 (fu 3 : Nat), .int .u64 (fu 4 : Nat), .int .u64 (fu 5 : Nat), .int .u64 (fu 6 : Nat), .int .u64 (fu 7 : Nat)]) (.agg #[.int .u64 (fa 0 : Nat), .int .u64 (fa 1 : Nat), .int .u64 (fa 2 : Nat), .int .u64 (fa 3 : Nat), .int .u64 (fa 4 : Nat), .int .u64 (fa 5 : Nat), .int .u64 (fa 6 : Nat), .int .u64 (fa 7 : Nat)])).run Tryd.prog w = .ok t w) :
    Calls Tryd.prog 93 #[.agg #[.int .u64 (fa 0 : Nat), .int .u64 (fa 1 : Nat), .int .u64 (fa 2 : Nat), .int .u64 (fa 3 : Nat), .int .u64 (fa 4 : Nat), .int .u64 (fa 5 : Nat), .int .u64 (fa 6 : Nat), .int .u64 (fa 7 : Nat)], .int .i64 n] w fun e w' => e = .returned (.tuple #[.agg #[.int .u64 (fq 0 : Nat), .int .u64 (fq 1 : Nat), .int .u64 (fq 2 : Nat), .int .u64 (fq 3 : Nat), .int .u64 (fq 4 : Nat), .int .u64 (fq 5 : Nat), .int .u64 (fq 6 : Nat), .int .u64 (fq 7 : Nat)], .bool (!t)]) ∧ Below w.heap.size w w' := by
  have HST : Hid (ShrSt w.heap.size w fa (fun _ => 0) ((w.alloc (.cells #[.int .u64 (fa 0 : Nat), .int .u64 (fa 1 : Nat), .int .u64 (fa 2 : Nat), .int .u64 (fa 3 : Nat), .int .u64 (fa 4 : Nat), .int .u64 (fa 5 : Nat), .int .u64 (fa 6 : Nat), .int .u64 (fa 7 : Nat)] 28)).alloc (.cells #[.int .u64 0, .int .u64 0, .int .u64 0, .int .u64 0, .int .u64 0, .int .u64 0, .int .u64 0, .int .u64 0] 28))) := by
    have hlz := liesF_new (w.alloc (.cells #[.int .u64 (fa 0 : Nat), .int .u64 (fa 1 : Nat), .int .u64 (fa 2 : Nat), .int .u64 (fa 3 : Nat), .int .u64 (fa 4 : Nat), .int .u64 (fa 5 : Nat), .int .u64 (fa 6 : Nat), .int .u64 (fa 7 : Nat)] 28)) (fun _ => 0) 28
    rw [World.size_alloc] at hlz
    exact ⟨(liesF_new w fa 28).alloc _, hlz, fun i => by simp [go_sem], below_trans (below_allocs w _) (below_allocs _ _)⟩
  go_enter Tryd.func93, Tryd.ntmps93
  go_upto_region 1 with fail
  refine wp_gen (fun W => ShrSt w.heap.size w fa (fun _ => 0) W ∧ w.heap.size + 2 ≤ W.heap.size) ⟨HST.out, by simp⟩ ?_
  rintro W1 h1
  refine wp_region_grow 6 [(7, .val (.agg #[.int .u64 (fa 0 : Nat), .int .u64 (fa 1 : Nat), .int .u64 (fa 2 : Nat), .int .u64 (fa 3 : Nat), .int .u64 (fa 4 : Nat), .int .u64 (fa 5 : Nat), .int .u64 (fa 6 : Nat), .int .u64 (fa 7 : Nat)])), (8, .val (.int .i64 n)), (9, .val (.int .i64 r)), (10, .val (.int .i64 (-r))), (11, .val (.agg #[.int .u64 (fq 0 : Nat), .int .u64 (fq 1 : Nat), .int .u64 (fq 2 : Nat), .int .u64 (fq 3 : Nat), .int .u64 (fq 4 : Nat), .int .u64 (fq 5 : Nat), .int .u64 (fq 6 : Nat), .int .u64 (fq 7 : Nat)])), (6, .box (w.heap.size + 2) (fun _ => 0))]
    (fun W => ShrSt w.heap.size w fa (fun _ => 0) W ∧ w.heap.size + 2 ≤ W.heap.size) mixedOk (by kernel_rfl) (by kernel_rfl) (⟨h1.1.below (Below.refl _ _).drew, h1.2⟩) (fun W W' h hb => ⟨h.1.below hb, Nat.le_trans h.2 hb.size⟩) ?_ ?_
  · refine gSt (gStep_run rfl ?_) ?_
    · intro ρ W hC hc hf hL
      have e2 : ρ (.tmp 2) = .pointer (some ⟨w.heap.size, 0, none⟩) := hL 2 (by decide +kernel)
      have hl := hC.1.la.1
      simp [go_sem, hc, hf, e2, hl]
      exact ⟨Below.refl _ _, rfl⟩
    refine gSt (gStep_run rfl (gRun_move 1 8 (.inl rfl) rfl (by decide +kernel) (fun v w h => h))) ?_
    refine gSt (gStep_run rfl ?_) ?_
    · intro ρ W hC hc hf hL
      have e8 : ρ (.tmp 8) = .int .i64 n := hL 8 (by decide +kernel)
      simp [go_sem, hc, hf, e8]
      refine (HR.out _).mono ?_
      rintro e w' ⟨rfl, hb⟩
      exact ⟨_, rfl, by first | exact hb | (subst hb; exact Below.refl _ _), rfl⟩
    refine gSt (gStep_run rfl ?_) ?_
    · intro ρ W hC hc hf hL
      have e9 : ρ (.tmp 9) = .int .i64 r := hL 9 (by decide +kernel)
      simp [go_sem, hc, hf, e9, hneg]
      exact ⟨Below.refl _ _, rfl⟩
    refine gSt (gStep_run rfl ?_) ?_
    · intro ρ W hC hc hf hL
      have e7 : ρ (.tmp 7) = .agg #[.int .u64 (fa 0 : Nat), .int .u64 (fa 1 : Nat), .int .u64 (fa 2 : Nat), .int .u64 (fa 3 : Nat), .int .u64 (fa 4 : Nat), .int .u64 (fa 5 : Nat), .int .u64 (fa 6 : Nat), .int .u64 (fa 7 : Nat)] := hL 7 (by decide +kernel)
      have e10 : ρ (.tmp 10) = .int .i64 (-r) := hL 10 (by decide +kernel)
      simp [go_sem, hc, hf, e7, e10]
      refine (HM.out _).mono ?_
      rintro e w' ⟨rfl, hb⟩
      exact ⟨_, rfl, by first | exact hb | (subst hb; exact Below.refl _ _), rfl⟩
    refine gSt (gStep_run rfl ?_) ?_
    · intro ρ W hC hc hf hL
      simp [go_sem, hc, hf]
      exact ⟨below_allocs _ _, _, rfl, hC.2, liesF_new _ (fun _ => 0) _, fun i => by simp [go_sem]⟩
    exact gSt0
  · intro W hC
    refine gFi 7 rfl ?_
    rintro _ rfl
    refine gFi 8 rfl ?_
    rintro _ rfl
    refine gFi 9 rfl ?_
    rintro _ rfl
    refine gFi 10 rfl ?_
    rintro _ rfl
    refine gFi 11 rfl ?_
    rintro _ rfl
    refine gFi 6 rfl ?_
    rintro _ ⟨p6, rfl, q6, l6, z6⟩
    refine gFi0 ?_
    simp only [List.drop_succ_cons, List.drop_zero]
    have hz := l6.1
    have hzl := l6.2
    have HC := hide hC
    have HL := hide l6
    clear hC h1 HST l6
    go_upto_region 2 with fail
    refine wp_gen (fun W => ShrSt w.heap.size w fa (fun _ => 0) W ∧ LiesF W p6 fq) ⟨?_, set8_same _ _ fq (fun _ => 0) HL.out⟩ ?_
    · have hs8 := below_set8 (Below.refl (w.heap.size + 2) W) p6 q6 (.int .u64 (fq 0 : Nat)) (.int .u64 (fq 1 : Nat)) (.int .u64 (fq 2 : Nat)) (.int .u64 (fq 3 : Nat)) (.int .u64 (fq 4 : Nat)) (.int .u64 (fq 5 : Nat)) (.int .u64 (fq 6 : Nat)) (.int .u64 (fq 7 : Nat))
      exact ⟨lies_box HC.out.1.la hs8 (by omega), lies_box HC.out.1.lr hs8 (by omega), fun i => (hs8.frozen (p := ⟨w.heap.size + 1, i, none⟩) (show w.heap.size + 1 < w.heap.size + 2 by omega)).trans (HC.out.1.fr i), HC.out.1.bel.trans (hs8.mono (by omega))⟩
    rintro W2 h2
    clear HC HL hz hzl z6
    have hp6 : w.heap.size + 1 < p6 := by omega
    refine wp_region_store 7 [6] [(12, .agg #[.int .u64 (fq 0 : Nat), .int .u64 (fq 1 : Nat), .int .u64 (fq 2 : Nat), .int .u64 (fq 3 : Nat), .int .u64 (fq 4 : Nat), .int .u64 (fq 5 : Nat), .int .u64 (fq 6 : Nat), .int .u64 (fq 7 : Nat)]), (13, .agg #[.int .u64 (fq 0 : Nat), .int .u64 (fq 1 : Nat), .int .u64 (fq 2 : Nat), .int .u64 (fq 3 : Nat), .int .u64 (fq 4 : Nat), .int .u64 (fq 5 : Nat), .int .u64 (fq 6 : Nat), .int .u64 (fq 7 : Nat)]), (14, .int .i64 n), (15, .agg #[.int .u64 (fu 0 : Nat), .int .u64 (fu 1 : Nat), .int .u64 (fu 2 : Nat), .int .u64 (fu 3 : Nat), .int .u64 (fu 4 : Nat), .int .u64 (fu 5 : Nat), .int .u64 (fu 6 : Nat), .int .u64 (fu 7 : Nat)]), (16, .agg #[.int .u64 (fa 0 : Nat), .int .u64 (fa 1 : Nat), .int .u64 (fa 2 : Nat), .int .u64 (fa 3 : Nat), .int .u64 (fa 4 : Nat), .int .u64 (fa 5 : Nat), .int .u64 (fa 6 : Nat), .int .u64 (fa 7 : Nat)]), (17, .bool (!t))]
      (fun bs W => ShrSt w.heap.size w fa (bif bs.headD false then fq else fun _ => 0) W ∧ LiesF W p6 fq) mixedOk (by kernel_rfl) (by kernel_rfl) (by kernel_rfl) (⟨h2.1.below (Below.refl _ _).drew, h2.2⟩) (fun bs W W' h hb => ⟨h.1.below hb, h.2.below hb⟩) ?_ ?_
    · refine sSt rfl (fun bs => gStep_run rfl ?_) ?_
      · intro ρ W hC hc hf hL
        have e6 : ρ (.tmp 6) = .pointer (some ⟨p6, 0, none⟩) := hL 6 (by decide +kernel)
        have hl := hC.2.1
        simp [go_sem, hc, hf, e6, hl]
        exact ⟨Below.refl _ _, rfl⟩
      refine sSt rfl (fun bs => gStep_run rfl ?_) ?_
      · intro ρ W hC hc hf hL
        have e6 : ρ (.tmp 6) = .pointer (some ⟨p6, 0, none⟩) := hL 6 (by decide +kernel)
        have hl := hC.2.1
        simp [go_sem, hc, hf, e6, hl]
        exact ⟨Below.refl _ _, rfl⟩
      refine sSt rfl (fun bs => gStep_run rfl (gRun_move 1 14 (.inl rfl) rfl (by decide +kernel) (fun v w h => h))) ?_
      refine sSt rfl (fun bs => gStep_run rfl ?_) ?_
      · intro ρ W hC hc hf hL
        have e13 : ρ (.tmp 13) = .agg #[.int .u64 (fq 0 : Nat), .int .u64 (fq 1 : Nat), .int .u64 (fq 2 : Nat), .int .u64 (fq 3 : Nat), .int .u64 (fq 4 : Nat), .int .u64 (fq 5 : Nat), .int .u64 (fq 6 : Nat), .int .u64 (fq 7 : Nat)] := hL 13 (by decide +kernel)
        have e14 : ρ (.tmp 14) = .int .i64 n := hL 14 (by decide +kernel)
        simp [go_sem, hc, hf, e13, e14]
        refine (HS.out _).mono ?_
        rintro e w' ⟨rfl, hb⟩
        exact ⟨_, rfl, by first | exact hb | (subst hb; exact Below.refl _ _), rfl⟩
      refine sSt rfl (fun bs => gStep_run rfl ?_) ?_
      · intro ρ W hC hc hf hL
        have e2 : ρ (.tmp 2) = .pointer (some ⟨w.heap.size, 0, none⟩) := hL 2 (by decide +kernel)
        have hl := hC.1.la.1
        simp [go_sem, hc, hf, e2, hl]
        exact ⟨Below.refl _ _, rfl⟩
      refine sSt rfl (fun bs => gStep_run rfl ?_) ?_
      · intro ρ W hC hc hf hL
        have e15 : ρ (.tmp 15) = .agg #[.int .u64 (fu 0 : Nat), .int .u64 (fu 1 : Nat), .int .u64 (fu 2 : Nat), .int .u64 (fu 3 : Nat), .int .u64 (fu 4 : Nat), .int .u64 (fu 5 : Nat), .int .u64 (fu 6 : Nat), .int .u64 (fu 7 : Nat)] := hL 15 (by decide +kernel)
        have e16 : ρ (.tmp 16) = .agg #[.int .u64 (fa 0 : Nat), .int .u64 (fa 1 : Nat), .int .u64 (fa 2 : Nat), .int .u64 (fa 3 : Nat), .int .u64 (fa 4 : Nat), .int .u64 (fa 5 : Nat), .int .u64 (fa 6 : Nat), .int .u64 (fa 7 : Nat)] := hL 16 (by decide +kernel)
        simp [go_sem, hc, hf, e15, e16, heq]
        exact ⟨Below.refl _ _, rfl⟩
      refine sStS rfl ⟨rfl, rfl, ?_⟩ ?_
      · intro φ ρ W hφ hC hc hL
        have e4 : ρ (.tmp 4) = .pointer (some ⟨w.heap.size + 1, 0, none⟩) := hL 4 (by decide +kernel)
        have e12 : ρ (.tmp 12) = .agg #[.int .u64 (fq 0 : Nat), .int .u64 (fq 1 : Nat), .int .u64 (fq 2 : Nat), .int .u64 (fq 3 : Nat), .int .u64 (fq 4 : Nat), .int .u64 (fq 5 : Nat), .int .u64 (fq 6 : Nat), .int .u64 (fq 7 : Nat)] := hL 12 (by decide +kernel)
        simp only [List.map_cons, List.map_nil, List.headD_cons, hφ, cond_false] at hC
        have hz := hC.1.lr.1
        have hzl := hC.1.lr.2
        have hzf := hC.1.fr
        simp [go_sem, hc, e4, e12, hz, hzf, hzl]
        exact ⟨hC.1.set8, lies_other hC.2 (by omega)⟩
      exact sSt0
    · intro W hC
      refine gFi 12 rfl ?_
      rintro _ rfl
      refine gFi 13 rfl ?_
      rintro _ rfl
      refine gFi 14 rfl ?_
      rintro _ rfl
      refine gFi 15 rfl ?_
      rintro _ rfl
      refine gFi 16 rfl ?_
      rintro _ rfl
      refine gFi 17 rfl ?_
      rintro _ rfl
      refine gFiN rfl ?_
      refine gFi0 ?_
      simp only [List.drop_succ_cons, List.drop_zero]
      have hr := hC.1.lr.1
      have HB := hide hC.1.bel
      clear hC
      go_wp2
      exact bodyPost_ret (v := .tuple #[.agg #[.int .u64 (fq 0 : Nat), .int .u64 (fq 1 : Nat), .int .u64 (fq 2 : Nat), .int .u64 (fq 3 : Nat), .int .u64 (fq 4 : Nat), .int .u64 (fq 5 : Nat), .int .u64 (fq 6 : Nat), .int .u64 (fq 7 : Nat)], .bool (!t)]) (by simp [results, Tryd.results93, go_sem, hr]) rfl ⟨rfl, HB.out⟩
    

end Go.Proofs.YtidfegilddlglaaDoor

