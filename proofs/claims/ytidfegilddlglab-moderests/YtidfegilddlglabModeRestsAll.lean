/- ModeRests: for every wide, n and four ints the law returns true. -/
import Derived.Test.YtidfegilddlglabXModD
import Derived.Test.YtidfegilddlglabRows
import Derived.WalkKit
import Derived.ProofKit
import Derived.OpenShut
import Derived.ShutString
import Derived.ChangeOld
import Derived.Below
/- The walk of ModeRests. -/
set_option linter.unusedVariables false
set_option linter.unusedSimpArgs false
set_option maxRecDepth 8000
namespace Go.Proofs.Ytidfegilddlglab
open Go.RowKit Plain

structure RtSt (a : Nat) (q0 q1 q2 q3 : Int) (w W : World) : Prop where
  la : LiesF W w.heap.size (dgl a)
  c0 : W.cell? ⟨w.heap.size + 1, 0, none⟩ = some (.int .i64 q0)
  c1 : W.cell? ⟨w.heap.size + 1, 1, none⟩ = some (.int .i64 q1)
  c2 : W.cell? ⟨w.heap.size + 1, 2, none⟩ = some (.int .i64 q2)
  c3 : W.cell? ⟨w.heap.size + 1, 3, none⟩ = some (.int .i64 q3)
  lt : w.heap.size + 1 < W.heap.size
  bel : Below w.heap.size w W
theorem RtSt.below {a : Nat} {q0 q1 q2 q3 : Int} {w W W' : World} (h : RtSt a q0 q1 q2 q3 w W) (hb : Below W.heap.size W W') : RtSt a q0 q1 q2 q3 w W' :=
  ⟨h.la.below hb, (hb.cell (p := ⟨w.heap.size + 1, 0, none⟩) h.lt).trans h.c0, (hb.cell (p := ⟨w.heap.size + 1, 1, none⟩) h.lt).trans h.c1, (hb.cell (p := ⟨w.heap.size + 1, 2, none⟩) h.lt).trans h.c2, (hb.cell (p := ⟨w.heap.size + 1, 3, none⟩) h.lt).trans h.c3, Nat.lt_of_lt_of_le h.lt hb.size, below_trans h.bel hb⟩
theorem rtSt_start (a : Nat) (q0 q1 q2 q3 : Int) (w : World) : RtSt a q0 q1 q2 q3 w ((w.alloc (.cells #[.int .u64 (dgl (a) 0 : Nat), .int .u64 (dgl (a) 1 : Nat), .int .u64 (dgl (a) 2 : Nat), .int .u64 (dgl (a) 3 : Nat), .int .u64 (dgl (a) 4 : Nat), .int .u64 (dgl (a) 5 : Nat), .int .u64 (dgl (a) 6 : Nat), .int .u64 (dgl (a) 7 : Nat)] 24)).alloc (.cells #[.int .i64 q0, .int .i64 q1, .int .i64 q2, .int .i64 q3] 25)) :=
  ⟨(liesF_new w (dgl a) 24).alloc _, by simp [go_sem], by simp [go_sem], by simp [go_sem], by simp [go_sem], by simp, below_trans (below_allocs _ _) (below_allocs _ _)⟩

set_option maxHeartbeats 2000000 in
theorem modeRests_walk (a : Nat) (n q0 q1 q2 q3 r : Int)
    (HR : Hid (∀ w, Calls Try.prog 6 #[.agg #[.int .u64 (dgl (a) 0 : Nat), .int .u64 (dgl (a) 1 : Nat), .int .u64 (dgl (a) 2 : Nat), .int .u64 (dgl (a) 3 : Nat), .int .u64 (dgl (a) 4 : Nat), .int .u64 (dgl (a) 5 : Nat), .int .u64 (dgl (a) 6 : Nat), .int .u64 (dgl (a) 7 : Nat)], .int .i64 n, .bool (q0.tmod 2 == 0)] w fun e w' => e = .returned (.int .i64 r) ∧ Below w.heap.size w w'))
    (HMR : Hid (∀ w, Calls Try.prog 10 #[.agg #[.int .u64 (dgl (a) 0 : Nat), .int .u64 (dgl (a) 1 : Nat), .int .u64 (dgl (a) 2 : Nat), .int .u64 (dgl (a) 3 : Nat), .int .u64 (dgl (a) 4 : Nat), .int .u64 (dgl (a) 5 : Nat), .int .u64 (dgl (a) 6 : Nat), .int .u64 (dgl (a) 7 : Nat)], .int .i64 n, .bool (q0.tmod 2 == 0)] w fun e w' => e = .returned (.int .i64 r) ∧ Below w.heap.size w w'))
    (HG : Hid (∀ z x w, Calls Try.prog 7 #[.int .i64 z, .bool (q1.tmod 2 == 0), .bool (q2.tmod 2 == 0), .int .i64 x] w fun e w' => e = .returned (.bool (growN z (q1.tmod 2 == 0) (q2.tmod 2 == 0) x)) ∧ Below w.heap.size w w'))
    (HRG : Hid (∀ z x w, Calls Try.prog 9 #[.int .i64 z, .bool (q1.tmod 2 == 0), .bool (q2.tmod 2 == 0), .int .i64 x] w fun e w' => e = .returned (.bool (growN z (q1.tmod 2 == 0) (q2.tmod 2 == 0) x)) ∧ w' = w))
    (HI : Hid (∀ z w, Calls Try.prog 8 #[.int .i64 z] w fun e w' => e = .returned (.bool (isM z)) ∧ w' = w)) (w : World) :
    Calls Try.prog 3 #[.agg #[.int .u64 (dgl (a) 0 : Nat), .int .u64 (dgl (a) 1 : Nat), .int .u64 (dgl (a) 2 : Nat), .int .u64 (dgl (a) 3 : Nat), .int .u64 (dgl (a) 4 : Nat), .int .u64 (dgl (a) 5 : Nat), .int .u64 (dgl (a) 6 : Nat), .int .u64 (dgl (a) 7 : Nat)], .int .i64 n, .agg #[.int .i64 q0, .int .i64 q1, .int .i64 q2, .int .i64 q3]] w fun e w' => e = .returned (.bool true) ∧ Below w.heap.size w w' := by
  have HST := hide (rtSt_start a q0 q1 q2 q3 w)
  go_enter Try.func3, Try.ntmps3
  go_upto_region 1 with fail
  refine wp_gen (fun W => RtSt a q0 q1 q2 q3 w W) HST.out ?_
  clear HST
  rintro W1 h1
  refine wp_region_grow 15 [(12, .val (.pointer (some ⟨w.heap.size + 1, 0, none⟩))), (13, .val (.int .i64 q0)), (14, .val (.int .i64 (q0.tmod 2))), (15, .val (.bool (q0.tmod 2 == 0))), (16, .val (.pointer (some ⟨w.heap.size + 1, 1, none⟩))), (17, .val (.int .i64 q1)), (18, .val (.int .i64 (q1.tmod 2))), (19, .val (.bool (q1.tmod 2 == 0))), (20, .val (.pointer (some ⟨w.heap.size + 1, 2, none⟩))), (21, .val (.int .i64 q2)), (22, .val (.int .i64 (q2.tmod 2))), (23, .val (.bool (q2.tmod 2 == 0))), (7, .val (.bool (q0.tmod 2 == 0))), (8, .val (.bool (q1.tmod 2 == 0))), (9, .val (.bool (q2.tmod 2 == 0)))]
    (fun W => RtSt a q0 q1 q2 q3 w W) mixedOk (by kernel_rfl) (by kernel_rfl) (h1.below (Below.refl _ _).drew) (fun W W' h hb => h.below hb) ?_ ?_
  · refine gSt (gStep_run rfl ?_) ?_
    · intro ρ W hC hc hf hL
      have e5 : ρ (.tmp 5) = .pointer (some ⟨w.heap.size + 1, 0, none⟩) := hL 5 (by decide +kernel)
      have hl := hC.lt
      simp [go_sem, hc, hf, e5, hl]
      exact ⟨Below.refl _ _, rfl⟩
    refine gSt (gStep_run rfl ?_) ?_
    · intro ρ W hC hc hf hL
      have e12 : ρ (.tmp 12) = .pointer (some ⟨w.heap.size + 1, 0, none⟩) := hL 12 (by decide +kernel)
      have hl := hC.c0
      simp [go_sem, hc, hf, e12, hl]
      exact ⟨Below.refl _ _, rfl⟩
    refine gSt (gStep_run rfl ?_) ?_
    · intro ρ W hC hc hf hL
      have e13 : ρ (.tmp 13) = .int .i64 q0 := hL 13 (by decide +kernel)
      simp [go_sem, hc, hf, e13]
      exact ⟨Below.refl _ _, rfl⟩
    refine gSt (gStep_run rfl ?_) ?_
    · intro ρ W hC hc hf hL
      have e14 : ρ (.tmp 14) = .int .i64 (q0.tmod 2) := hL 14 (by decide +kernel)
      simp [go_sem, hc, hf, e14]
      exact ⟨Below.refl _ _, rfl⟩
    refine gSt (gStep_run rfl ?_) ?_
    · intro ρ W hC hc hf hL
      have e5 : ρ (.tmp 5) = .pointer (some ⟨w.heap.size + 1, 0, none⟩) := hL 5 (by decide +kernel)
      have hl := hC.lt
      simp [go_sem, hc, hf, e5, hl]
      exact ⟨Below.refl _ _, rfl⟩
    refine gSt (gStep_run rfl ?_) ?_
    · intro ρ W hC hc hf hL
      have e16 : ρ (.tmp 16) = .pointer (some ⟨w.heap.size + 1, 1, none⟩) := hL 16 (by decide +kernel)
      have hl := hC.c1
      simp [go_sem, hc, hf, e16, hl]
      exact ⟨Below.refl _ _, rfl⟩
    refine gSt (gStep_run rfl ?_) ?_
    · intro ρ W hC hc hf hL
      have e17 : ρ (.tmp 17) = .int .i64 q1 := hL 17 (by decide +kernel)
      simp [go_sem, hc, hf, e17]
      exact ⟨Below.refl _ _, rfl⟩
    refine gSt (gStep_run rfl ?_) ?_
    · intro ρ W hC hc hf hL
      have e18 : ρ (.tmp 18) = .int .i64 (q1.tmod 2) := hL 18 (by decide +kernel)
      simp [go_sem, hc, hf, e18]
      exact ⟨Below.refl _ _, rfl⟩
    refine gSt (gStep_run rfl ?_) ?_
    · intro ρ W hC hc hf hL
      have e5 : ρ (.tmp 5) = .pointer (some ⟨w.heap.size + 1, 0, none⟩) := hL 5 (by decide +kernel)
      have hl := hC.lt
      simp [go_sem, hc, hf, e5, hl]
      exact ⟨Below.refl _ _, rfl⟩
    refine gSt (gStep_run rfl ?_) ?_
    · intro ρ W hC hc hf hL
      have e20 : ρ (.tmp 20) = .pointer (some ⟨w.heap.size + 1, 2, none⟩) := hL 20 (by decide +kernel)
      have hl := hC.c2
      simp [go_sem, hc, hf, e20, hl]
      exact ⟨Below.refl _ _, rfl⟩
    refine gSt (gStep_run rfl ?_) ?_
    · intro ρ W hC hc hf hL
      have e21 : ρ (.tmp 21) = .int .i64 q2 := hL 21 (by decide +kernel)
      simp [go_sem, hc, hf, e21]
      exact ⟨Below.refl _ _, rfl⟩
    refine gSt (gStep_run rfl ?_) ?_
    · intro ρ W hC hc hf hL
      have e22 : ρ (.tmp 22) = .int .i64 (q2.tmod 2) := hL 22 (by decide +kernel)
      simp [go_sem, hc, hf, e22]
      exact ⟨Below.refl _ _, rfl⟩
    refine gSt (gStep_run rfl (gRun_move 15 7 (.inr rfl) rfl (by decide +kernel) (fun v w h => h))) ?_
    refine gSt (gStep_run rfl (gRun_move 19 8 (.inr rfl) rfl (by decide +kernel) (fun v w h => h))) ?_
    refine gSt (gStep_run rfl (gRun_move 23 9 (.inr rfl) rfl (by decide +kernel) (fun v w h => h))) ?_
    exact gSt0
  · intro W hC
    refine gFi 12 rfl ?_
    rintro _ rfl
    refine gFi 13 rfl ?_
    rintro _ rfl
    refine gFi 14 rfl ?_
    rintro _ rfl
    refine gFi 15 rfl ?_
    rintro _ rfl
    refine gFi 16 rfl ?_
    rintro _ rfl
    refine gFi 17 rfl ?_
    rintro _ rfl
    refine gFi 18 rfl ?_
    rintro _ rfl
    refine gFi 19 rfl ?_
    rintro _ rfl
    refine gFi 20 rfl ?_
    rintro _ rfl
    refine gFi 21 rfl ?_
    rintro _ rfl
    refine gFi 22 rfl ?_
    rintro _ rfl
    refine gFi 23 rfl ?_
    rintro _ rfl
    refine gFi 7 rfl ?_
    rintro _ rfl
    refine gFi 8 rfl ?_
    rintro _ rfl
    refine gFi 9 rfl ?_
    rintro _ rfl
    refine gFi0 ?_
    simp only [List.drop_succ_cons, List.drop_zero, Act.put, List.setIfInBounds_toArray, List.set_cons_succ, List.set_cons_zero]
    have HST := hide hC
    clear hC h1
    have hl := HST.out.la.1
    go_wp2_with fail
    refine (HR.out _).mono ?_
    rintro e w2 ⟨rfl, hb2⟩
    replace HST := hide (HST.out.below hb2)
    clear hb2 hl HR
    generalize (q1.tmod 2 == 0) = neg at *
    generalize (q2.tmod 2 == 0) = odd at *
    go_wp2_with fail
    go_loopw [11] (fun v wr => ∃ z : Int, v = .int .i64 z ∧ -1 ≤ z ∧ z ≤ 8 ∧ Hid (RtSt a q0 q1 q2 q3 w wr)) (fun v _ => (8 - intOf v).toNat)
    case atStart => exact ⟨-1, rfl, by decide, by decide, HST⟩
    case round =>
      clear HST
      obtain ⟨z, rfl, hz0, hz1, hst⟩ := hrel
      by_cases hlt : z < 8
      · by_cases hm : isM z = true
        · have hg1 := fun w => HG.out z r w
          have hr1 := fun w => HRG.out z r w
          have hg2 := fun w => HG.out z q3 w
          have hr2 := fun w => HRG.out z q3 w
          have hi := fun w => HI.out z w
          rw [hm] at hi
          generalize growN z neg odd r = g1 at hg1 hr1
          generalize growN z neg odd q3 = g2 at hg2 hr2
          have HG1 := hide hg1
          have HR1 := hide hr1
          have HG2 := hide hg2
          have HR2 := hide hr2
          have HI1 := hide hi
          clear hg1 hr1 hg2 hr2 hi hm
          go_wp2_with fail
          refine (HG1.out _).mono ?_
          rintro e w3 ⟨rfl, hb3⟩
          replace hst := hide (hst.out.below hb3)
          clear hb3
          go_wp2_with fail
          refine (HI1.out _).mono ?_
          rintro e wl ⟨rfl, hw⟩
          subst wl
          go_wp2_with fail
          refine (HR1.out _).mono ?_
          rintro e wl ⟨rfl, hw⟩
          subst wl
          have c3 := hst.out.c3
          have hlt2 := hst.out.lt
          go_wp2_with fail
          refine (HG2.out _).mono ?_
          rintro e w4 ⟨rfl, hb4⟩
          replace hst := hide (hst.out.below hb4)
          clear hb4 c3 hlt2
          go_wp2_with fail
          refine (HI1.out _).mono ?_
          rintro e wl ⟨rfl, hw⟩
          subst wl
          have c3 := hst.out.c3
          have hlt2 := hst.out.lt
          go_wp2_with fail
          refine (HR2.out _).mono ?_
          rintro e wl ⟨rfl, hw⟩
          subst wl
          clear c3 hlt2
          go_wp2
          go_roundw
          case rel => exact ⟨z + 1, rfl, by omega, by omega, hst⟩
          case measure =>
            show (8 - (z + 1)).toNat < (8 - z).toNat
            omega
        · have hm2 : isM z = false := by simpa using hm
          have hg1 := fun w => HG.out z r w
          have hg2 := fun w => HG.out z q3 w
          have hi := fun w => HI.out z w
          rw [hm2] at hi
          rw [growN_out z neg odd r hm2] at hg1
          rw [growN_out z neg odd q3 hm2] at hg2
          have HG1 := hide hg1
          have HG2 := hide hg2
          have HI1 := hide hi
          clear hg1 hg2 hi hm hm2
          go_wp2_with fail
          refine (HG1.out _).mono ?_
          rintro e w3 ⟨rfl, hb3⟩
          replace hst := hide (hst.out.below hb3)
          clear hb3
          go_wp2_with fail
          refine (HI1.out _).mono ?_
          rintro e wl ⟨rfl, hw⟩
          subst wl
          have c3 := hst.out.c3
          have hlt2 := hst.out.lt
          go_wp2_with fail
          refine (HG2.out _).mono ?_
          rintro e w4 ⟨rfl, hb4⟩
          replace hst := hide (hst.out.below hb4)
          clear hb4 c3 hlt2
          go_wp2_with fail
          refine (HI1.out _).mono ?_
          rintro e wl ⟨rfl, hw⟩
          subst wl
          go_wp2
          go_roundw
          case rel => exact ⟨z + 1, rfl, by omega, by omega, hst⟩
          case measure =>
            show (8 - (z + 1)).toNat < (8 - z).toNat
            omega
      · have hl := hst.out.la.1
        go_wp2_with fail
        refine (HMR.out _).mono ?_
        rintro e w5 ⟨rfl, hb5⟩
        have HB := hide (below_trans hst.out.bel hb5)
        clear hb5 hl hst
        go_wp2_with fail
        refine (awake8_any _).mono ?_
        rintro e w6 ⟨rfl, hb6⟩
        replace HB := hide (below_trans HB.out hb6)
        clear hb6
        go_wp2
        go_ret
        exact ⟨rfl, HB.out⟩

theorem modeRests_all (a : Nat) (ha : a < QQ) (n q0 q1 q2 q3 : Int) (hn : n ≤ 9223372036854775807) (w : World) : Calls Try.prog 3 #[.agg #[.int .u64 (dgl (a) 0 : Nat), .int .u64 (dgl (a) 1 : Nat), .int .u64 (dgl (a) 2 : Nat), .int .u64 (dgl (a) 3 : Nat), .int .u64 (dgl (a) 4 : Nat), .int .u64 (dgl (a) 5 : Nat), .int .u64 (dgl (a) 6 : Nat), .int .u64 (dgl (a) 7 : Nat)], .int .i64 n, .agg #[.int .i64 q0, .int .i64 q1, .int .i64 q2, .int .i64 q3]] w fun e w' => e = .returned (.bool true) ∧ Below w.heap.size w w' :=
  modeRests_walk a n q0 q1 q2 q3 _ (fun w => ref8Rest_any a ha n _ w) (fun w => modeRest_any a ha n hn _ w) (fun z x w => modeGrows_any z _ _ x w) (fun z x w => refGrows8_any z _ _ x w) (fun z w => refIs8_any z w) w

end Go.Proofs.Ytidfegilddlglab

/- ModeRests: for every wide, n and four ints the law returns true. -/
namespace Go.Proofs.Ytidfegilddlglab.modeRests
open Go.ChangeShapes Go.WideShapes Go.ChangeAt Go.RowKit Go.Proofs.Ytidfegilddlglab

theorem own : ownKnob Try.prog.godebug = none := by kernel_rfl
theorem laidOut : laidOutB Try.prog = true := by kernel_rfl

set_option maxRecDepth 100000 in
theorem lifted (os : Os) (started : os.Started) (H : Type) (enc : TypeId × Value → H) :
    ReturnsInHanded {} Try.checked os 3 .any (Rows.modeRestsSpec.pre6 enc Try.prog Try.f3 Rows.modeRestsRow.domain false) (Rows.modeRestsSpec.post enc Try.prog Try.f3 false true false false) := by
  refine returnsInHanded_of_change (C := Try.checked) own started (by kernel_rfl) Try.func3
    (ChangeSpec.witness6 (enc := enc) (C := Try.checked) false ⟨#[], #[.agg #[.int .u64 0, .int .u64 0, .int .u64 0, .int .u64 0, .int .u64 0, .int .u64 0, .int .u64 0, .int .u64 0], .int .i64 0, .agg #[.int .i64 0, .int .i64 0, .int .i64 0, .int .i64 0]], []⟩ 40 (by kernel_rfl) (by kernel_rfl) (by kernel_rfl) (by kernel_rfl)) ?_
  intro W base args ds gs before hval0 hW hcnd _
  have hval : ∀ (j : Nat) t v, Try.f3.params[j]? = some t → args[j]? = some v → Value.okWide Try.prog W .any base t v := hval0
  have hW' := hW
  obtain ⟨p, q, hA0, hV, rfl, hfz, hnd⟩ := hW
  have hA : DataW.TrodAll enc Try.prog W 0 (fun _ => true) true Try.f3.params.toList args.toList ds p := hA0
  rw [Try.params3] at hA hval
  obtain ⟨v0, vs0, d0, ds0, p0, q0, hargs, rfl, rfl, h0, r0⟩ := trodAll_cons hA
  obtain ⟨v1, vs1, d1, ds1, p1, q1, rfl, rfl, rfl, h1, r1⟩ := trodAll_cons r0
  obtain ⟨v2, vs2, d2, ds2, p2, q2, rfl, rfl, rfl, h2, r2⟩ := trodAll_cons r1
  obtain ⟨rfl, rfl, rfl⟩ := trodAll_nil r2
  obtain rfl : args = #[v0, v1, v2] := by cases args; simp_all
  obtain ⟨rfl, rfl⟩ := trodVars_none hV
  have k0 := h0
  have lt0 : ∀ x ∈ p0, x.block < W.heap.size := by obtain ⟨m, hm⟩ := k0; exact DataW.trod_lt m _ _ _ hm
  have k1 := h1
  have lt1 : ∀ x ∈ p1, x.block < W.heap.size := by obtain ⟨m, hm⟩ := k1; exact DataW.trod_lt m _ _ _ hm
  have k2 := h2
  have lt2 : ∀ x ∈ p2, x.block < W.heap.size := by obtain ⟨m, hm⟩ := k2; exact DataW.trod_lt m _ _ _ hm
  obtain ⟨x0, hx0, rfl⟩ := wide_of_trod (hval 0 24 v0 rfl rfl) h0
  obtain ⟨a1, rfl, rfl, rfl, wf1⟩ := open_int Try.underlying3 (hval 1 3 v1 rfl rfl) h1
  obtain ⟨q20, q21, q22, q23, ⟨bq20, bq21, bq22, bq23⟩, rfl⟩ := ints4_open (hval 2 25 v2 rfl rfl) h2
  clear hA0 hval0
  refine (modeRests_all x0 hx0 a1 q20 q21 q22 q23 (i64_bd wf1).2 W).mono fun e W' ⟨he, bel⟩ => ?_
  subst he
  exact ⟨_, rfl, _, _, _, [], _, [], hW', trodAll_mk1 (shut_bool Try.underlying4 _), (trodAll_cons_mk (Below.trod laidOut (by kernel_rfl) (of_decide_eq_true (by kernel_rfl)) k0 bel lt0) (trodAll_cons_mk (Below.trod laidOut (by kernel_rfl) (of_decide_eq_true (by kernel_rfl)) k1 bel lt1) (trodAll_cons_mk (Below.trod laidOut (by kernel_rfl) (of_decide_eq_true (by kernel_rfl)) k2 bel lt2) trodAll_mk0))), rfl, bel.frame _, fun h => by cases h⟩

theorem over : Rows.modeRestsRow.holds Try.pinned (OpenSpec.ofChange Rows.modeRestsSpec) :=
  OpenClaim.holds_of_wide 3 Try.f3 rfl rfl rfl rfl rfl rfl rfl ⟨rfl, rfl, rfl, rfl, rfl⟩ rfl rfl rfl rfl rfl (by kernel_rfl) Try.func3 (by kernel_rfl)
    (of_decide_eq_true (by kernel_rfl)) (by unfold Func.isWrapper; first | (rw [if_pos (by decide +kernel)]; kernel_rfl) | (rw [if_neg (by decide +kernel)]; exact ⟨rfl, rfl⟩))
    (fun os started H enc _ => lifted os started H enc)

theorem proved : Rows.ModeRestsSaid := over
#print axioms proved
end Go.Proofs.Ytidfegilddlglab.modeRests

