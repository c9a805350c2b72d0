/- Contracts and laws: ClsJ, ClsK, ClsL, ClsM, ClsN, ClsO, ClsP, ClsR, ClsQ, WordB. -/
import Derived.Test.YtpcjdllijkjdkaaGreatDoorPartAS
import Derived.Test.YtpcjdllijkjdkaaGreatDoorPartAP
import Derived.Test.YtpcjdllijkjdkaaGreatDoorPartAO
/- Contracts: class.Make, where it tells a word. -/
set_option linter.unusedVariables false
set_option linter.unusedSimpArgs false
set_option maxRecDepth 8000
namespace Go.Proofs.YtpcjdllijkjdkaaGreatDoor
open Go.RowKit Plain

set_option maxHeartbeats 2000000 in
theorem make_walk (f : Int) (neg : Bool) (z : Int) (b : Nat) (k : Nat → Int) (m x u s nh nl o t : Nat) (ov ov2 : Bool) (hw1 : IntKind.i64.wrap (k 1 - 1) = k 1 - 1) (HZ : Hid (decide (z < 0) = false)) (HM : Hid (decide ((m : Int) < z) = false)) (HL : Hid (decide (k 1 - 1 < (Go.bitLen b : Int)) = false)) (HXZ : Hid (IntKind.u64.wrap z = (x : Int))) (HXD : Hid (∀ i, i < 8 → dg [x] i = dgl x i)) (HO : Hid (∀ w, FmtG w → Calls Tryz.prog 15 #[.int .i64 f] w fun e w' => e = .returned (.tuple #[.agg #[.int .i64 (k 0), .int .i64 (k 1), .int .i64 (k 2), .int .i64 (k 3), .int .i64 (k 4)], .bool true]) ∧ Below w.heap.size w w')) (HON : Hid (∀ w, Calls Tryz.prog 85 #[.agg #[.int .i64 (k 0), .int .i64 (k 1), .int .i64 (k 2), .int .i64 (k 3), .int .i64 (k 4)]] w fun e w' => e = .returned (.int .i64 ((m : Nat) : Int)) ∧ Below w.heap.size w w')) (HLN : Hid (∀ w, Calls Tryz.prog 44 #[.agg #[.int .u64 (dgl (b) 0 : Nat), .int .u64 (dgl (b) 1 : Nat), .int .u64 (dgl (b) 2 : Nat), .int .u64 (dgl (b) 3 : Nat), .int .u64 (dgl (b) 4 : Nat), .int .u64 (dgl (b) 5 : Nat), .int .u64 (dgl (b) 6 : Nat), .int .u64 (dgl (b) 7 : Nat)]] w fun e w' => e = .returned (.int .i64 (Go.bitLen b : Nat)) ∧ Below w.heap.size w w'))
    (HSL : Hid (∀ w, Calls Tryz.prog 74 #[.agg #[.int .u64 (dgl (x) 0 : Nat), .int .u64 (dgl (x) 1 : Nat), .int .u64 (dgl (x) 2 : Nat), .int .u64 (dgl (x) 3 : Nat), .int .u64 (dgl (x) 4 : Nat), .int .u64 (dgl (x) 5 : Nat), .int .u64 (dgl (x) 6 : Nat), .int .u64 (dgl (x) 7 : Nat)], .int .i64 (k 1 - 1)] w fun e w' => e = .returned (.agg #[.int .u64 (dgl (u) 0 : Nat), .int .u64 (dgl (u) 1 : Nat), .int .u64 (dgl (u) 2 : Nat), .int .u64 (dgl (u) 3 : Nat), .int .u64 (dgl (u) 4 : Nat), .int .u64 (dgl (u) 5 : Nat), .int .u64 (dgl (u) 6 : Nat), .int .u64 (dgl (u) 7 : Nat)]) ∧ Below w.heap.size w w'))
    (HA1 : Hid (∀ w, Calls Tryz.prog 73 #[.agg #[.int .u64 (dgl (u) 0 : Nat), .int .u64 (dgl (u) 1 : Nat), .int .u64 (dgl (u) 2 : Nat), .int .u64 (dgl (u) 3 : Nat), .int .u64 (dgl (u) 4 : Nat), .int .u64 (dgl (u) 5 : Nat), .int .u64 (dgl (u) 6 : Nat), .int .u64 (dgl (u) 7 : Nat)], .agg #[.int .u64 (dgl (b) 0 : Nat), .int .u64 (dgl (b) 1 : Nat), .int .u64 (dgl (b) 2 : Nat), .int .u64 (dgl (b) 3 : Nat), .int .u64 (dgl (b) 4 : Nat), .int .u64 (dgl (b) 5 : Nat), .int .u64 (dgl (b) 6 : Nat), .int .u64 (dgl (b) 7 : Nat)]] w fun e w' => e = .returned (.tuple #[.agg #[.int .u64 (dgl (s) 0 : Nat), .int .u64 (dgl (s) 1 : Nat), .int .u64 (dgl (s) 2 : Nat), .int .u64 (dgl (s) 3 : Nat), .int .u64 (dgl (s) 4 : Nat), .int .u64 (dgl (s) 5 : Nat), .int .u64 (dgl (s) 6 : Nat), .int .u64 (dgl (s) 7 : Nat)], .bool ov]) ∧ Below w.heap.size w w'))
    (HNO : Hid (∀ w, FmtG w → Calls Tryz.prog 18 #[.int .i64 f, .bool neg] w fun e w' => e = .returned (.agg #[.int .u64 (nh : Nat), .int .u64 (nl : Nat)]) ∧ Below w.heap.size w w'))
    (HFR : Hid (∀ w, Calls Tryz.prog 86 #[.agg #[.int .u64 (nh : Nat), .int .u64 (nl : Nat)]] w fun e w' => e = .returned (.agg #[.int .u64 (dgl (o) 0 : Nat), .int .u64 (dgl (o) 1 : Nat), .int .u64 (dgl (o) 2 : Nat), .int .u64 (dgl (o) 3 : Nat), .int .u64 (dgl (o) 4 : Nat), .int .u64 (dgl (o) 5 : Nat), .int .u64 (dgl (o) 6 : Nat), .int .u64 (dgl (o) 7 : Nat)]) ∧ Below w.heap.size w w'))
    (HA2 : Hid (∀ w, Calls Tryz.prog 73 #[.agg #[.int .u64 (dgl (s) 0 : Nat), .int .u64 (dgl (s) 1 : Nat), .int .u64 (dgl (s) 2 : Nat), .int .u64 (dgl (s) 3 : Nat), .int .u64 (dgl (s) 4 : Nat), .int .u64 (dgl (s) 5 : Nat), .int .u64 (dgl (s) 6 : Nat), .int .u64 (dgl (s) 7 : Nat)], .agg #[.int .u64 (dgl (o) 0 : Nat), .int .u64 (dgl (o) 1 : Nat), .int .u64 (dgl (o) 2 : Nat), .int .u64 (dgl (o) 3 : Nat), .int .u64 (dgl (o) 4 : Nat), .int .u64 (dgl (o) 5 : Nat), .int .u64 (dgl (o) 6 : Nat), .int .u64 (dgl (o) 7 : Nat)]] w fun e w' => e = .returned (.tuple #[.agg #[.int .u64 (dgl (t) 0 : Nat), .int .u64 (dgl (t) 1 : Nat), .int .u64 (dgl (t) 2 : Nat), .int .u64 (dgl (t) 3 : Nat), .int .u64 (dgl (t) 4 : Nat), .int .u64 (dgl (t) 5 : Nat), .int .u64 (dgl (t) 6 : Nat), .int .u64 (dgl (t) 7 : Nat)], .bool ov2]) ∧ Below w.heap.size w w')) (w : World) (hg : FmtG w) :
    Calls Tryz.prog 56 #[.int .i64 f, .bool neg, .int .i64 z, .agg #[.int .u64 (dgl (b) 0 : Nat), .int .u64 (dgl (b) 1 : Nat), .int .u64 (dgl (b) 2 : Nat), .int .u64 (dgl (b) 3 : Nat), .int .u64 (dgl (b) 4 : Nat), .int .u64 (dgl (b) 5 : Nat), .int .u64 (dgl (b) 6 : Nat), .int .u64 (dgl (b) 7 : Nat)]] w fun e w' => e = .returned (.tuple #[.agg #[.int .u64 (dgl t 1 : Nat), .int .u64 (dgl t 0 : Nat)], .bool true]) ∧ Below w.heap.size w w' := by
  have HG0 := hide hg
  have HG := hide ((hg.below (below_allocs w (.cells #[.int .u64 (dgl (b) 0 : Nat), .int .u64 (dgl (b) 1 : Nat), .int .u64 (dgl (b) 2 : Nat), .int .u64 (dgl (b) 3 : Nat), .int .u64 (dgl (b) 4 : Nat), .int .u64 (dgl (b) 5 : Nat), .int .u64 (dgl (b) 6 : Nat), .int .u64 (dgl (b) 7 : Nat)] 25))).below (below_allocs _ (.cells #[.int .u64 0, .int .u64 0] 29)))
  clear hg
  go_enter Tryz.func56, Tryz.ntmps56
  go_wp2_with fail
  refine (HO.out _ HG.out).mono ?_
  rintro e w1 ⟨rfl, hb1⟩
  have HST := hide (mkSt_start w w1 k b HG0.out hb1)
  clear hb1 HG HG0
  go_upto_region 2 with fail
  refine wp_gen (fun W => MkSt w w1.heap.size k b W) HST.out ?_
  clear HST
  rintro W1 h1
  generalize w1.heap.size = p at *
  refine wp_region_grow 20 [(19, .val (.bool true)), (20, .val (.bool false)), (21, .val (.bool false)), (22, .val (.int .i64 z)), (23, .val (.bool false)), (24, .val (.bool false)), (25, .val (.bool false)), (26, .val (.int .i64 z)), (27, .val (.agg #[.int .i64 (k 0), .int .i64 (k 1), .int .i64 (k 2), .int .i64 (k 3), .int .i64 (k 4)])), (28, .val (.int .i64 ((m : Nat) : Int))), (29, .val (.bool false)), (30, .val (.bool false)), (31, .val (.bool false)), (32, .val (.agg #[.int .u64 (dgl (b) 0 : Nat), .int .u64 (dgl (b) 1 : Nat), .int .u64 (dgl (b) 2 : Nat), .int .u64 (dgl (b) 3 : Nat), .int .u64 (dgl (b) 4 : Nat), .int .u64 (dgl (b) 5 : Nat), .int .u64 (dgl (b) 6 : Nat), .int .u64 (dgl (b) 7 : Nat)])), (33, .val (.int .i64 (Go.bitLen b : Nat))), (34, .val (.pointer (some ⟨p, 1, none⟩))), (35, .val (.int .i64 (k 1))), (36, .val (.int .i64 (k 1 - 1))), (37, .val (.bool false)), (38, .val (.bool false))]
    (fun W => MkSt w p k b W) mixedOk (by kernel_rfl) (by kernel_rfl) (h1.below (Below.refl _ _).drew) (fun W W' h hb => h.below hb) ?_ ?_
  · refine gSt (gStep_run rfl (gRun_move 11 19 (.inl rfl) rfl (by decide +kernel) (fun v w h => h))) ?_
    refine gSt (gStep_run rfl ?_) ?_
    · intro ρ W hC hc hf hL
      have e19 : ρ (.tmp 19) = .bool true := hL 19 (by decide +kernel)
      simp [go_sem, hc, hf, e19]
      exact ⟨Below.refl _ _, rfl⟩
    refine gSt (gStep_run rfl (gRun_move 20 21 (.inl rfl) rfl (by decide +kernel) (fun v w h => h))) ?_
    refine gSt (gStep_on 2 21 false rfl rfl (by decide +kernel) (fun v w h => h) (gRun_move 2 22 (.inl rfl) rfl (by decide +kernel) (fun v w h => h))) ?_
    refine gSt (gStep_on 2 21 false rfl rfl (by decide +kernel) (fun v w h => h) ?_) ?_
    · intro ρ W hC hc hf hL
      have e22 : ρ (.tmp 22) = .int .i64 z := hL 22 (by decide +kernel)
      have hl := HZ.out
      simp [go_sem, hc, hf, e22, hl]
      exact ⟨Below.refl _ _, rfl⟩
    refine gSt (gStep_run rfl (gRun_pickCF 21 23 24 _ rfl rfl (by decide +kernel) (by decide +kernel) (fun v w h => h) (fun v w h => h))) ?_
    refine gSt (gStep_run rfl (gRun_move 24 25 (.inl rfl) rfl (by decide +kernel) (fun v w h => h))) ?_
    refine gSt (gStep_on 6 25 false rfl rfl (by decide +kernel) (fun v w h => h) (gRun_move 2 26 (.inl rfl) rfl (by decide +kernel) (fun v w h => h))) ?_
    refine gSt (gStep_on 6 25 false rfl rfl (by decide +kernel) (fun v w h => h) ?_) ?_
    · intro ρ W hC hc hf hL
      have e10 : ρ (.tmp 10) = .pointer (some ⟨p, 0, none⟩) := hL 10 (by decide +kernel)
      have g0 := hC.rk 0 (by decide)
      have g1 := hC.rk 1 (by decide)
      have g2 := hC.rk 2 (by decide)
      have g3 := hC.rk 3 (by decide)
      have g4 := hC.rk 4 (by decide)
      simp [go_sem, hc, hf, e10, g0, g1, g2, g3, g4]
      exact ⟨Below.refl _ _, rfl⟩
    refine gSt (gStep_on 6 25 false rfl rfl (by decide +kernel) (fun v w h => h) ?_) ?_
    · intro ρ W hC hc hf hL
      have e27 : ρ (.tmp 27) = .agg #[.int .i64 (k 0), .int .i64 (k 1), .int .i64 (k 2), .int .i64 (k 3), .int .i64 (k 4)] := hL 27 (by decide +kernel)
      simp [go_sem, hc, hf, e27]
      refine (HON.out W).mono ?_
      rintro e w' ⟨rfl, hb⟩
      exact ⟨_, rfl, by first | exact hb | (subst hb; exact Below.refl _ _), rfl⟩
    refine gSt (gStep_on 6 25 false rfl rfl (by decide +kernel) (fun v w h => h) ?_) ?_
    · intro ρ W hC hc hf hL
      have e26 : ρ (.tmp 26) = .int .i64 z := hL 26 (by decide +kernel)
      have e28 : ρ (.tmp 28) = .int .i64 ((m : Nat) : Int) := hL 28 (by decide +kernel)
      have hl := HM.out
      simp [go_sem, hc, hf, e26, e28, hl]
      exact ⟨Below.refl _ _, rfl⟩
    refine gSt (gStep_run rfl (gRun_pickCF 25 29 30 _ rfl rfl (by decide +kernel) (by decide +kernel) (fun v w h => h) (fun v w h => h))) ?_
    refine gSt (gStep_run rfl (gRun_move 30 31 (.inl rfl) rfl (by decide +kernel) (fun v w h => h))) ?_
    refine gSt (gStep_on 12 31 false rfl rfl (by decide +kernel) (fun v w h => h) ?_) ?_
    · intro ρ W hC hc hf hL
      have e7 : ρ (.tmp 7) = .pointer (some ⟨w.heap.size, 0, none⟩) := hL 7 (by decide +kernel)
      have hl := hC.lb.1
      simp [go_sem, hc, hf, e7, hl]
      exact ⟨Below.refl _ _, rfl⟩
    refine gSt (gStep_on 12 31 false rfl rfl (by decide +kernel) (fun v w h => h) ?_) ?_
    · intro ρ W hC hc hf hL
      have e32 : ρ (.tmp 32) = .agg #[.int .u64 (dgl (b) 0 : Nat), .int .u64 (dgl (b) 1 : Nat), .int .u64 (dgl (b) 2 : Nat), .int .u64 (dgl (b) 3 : Nat), .int .u64 (dgl (b) 4 : Nat), .int .u64 (dgl (b) 5 : Nat), .int .u64 (dgl (b) 6 : Nat), .int .u64 (dgl (b) 7 : Nat)] := hL 32 (by decide +kernel)
      simp [go_sem, hc, hf, e32]
      refine (HLN.out W).mono ?_
      rintro e w' ⟨rfl, hb⟩
      exact ⟨_, rfl, by first | exact hb | (subst hb; exact Below.refl _ _), rfl⟩
    refine gSt (gStep_on 12 31 false rfl rfl (by decide +kernel) (fun v w h => h) ?_) ?_
    · intro ρ W hC hc hf hL
      have e10 : ρ (.tmp 10) = .pointer (some ⟨p, 0, none⟩) := hL 10 (by decide +kernel)
      simp [go_sem, hc, hf, e10]
      exact ⟨Below.refl _ _, rfl⟩
    refine gSt (gStep_on 12 31 false rfl rfl (by decide +kernel) (fun v w h => h) ?_) ?_
    · intro ρ W hC hc hf hL
      have e34 : ρ (.tmp 34) = .pointer (some ⟨p, 1, none⟩) := hL 34 (by decide +kernel)
      have hl := hC.rk 1 (by decide)
      simp [go_sem, hc, hf, e34, hl]
      exact ⟨Below.refl _ _, rfl⟩
    refine gSt (gStep_on 12 31 false rfl rfl (by decide +kernel) (fun v w h => h) ?_) ?_
    · intro ρ W hC hc hf hL
      have e35 : ρ (.tmp 35) = .int .i64 (k 1) := hL 35 (by decide +kernel)
      simp [go_sem, hc, hf, e35, hw1]
      exact ⟨Below.refl _ _, rfl⟩
    refine gSt (gStep_on 12 31 false rfl rfl (by decide +kernel) (fun v w h => h) ?_) ?_
    · intro ρ W hC hc hf hL
      have e33 : ρ (.tmp 33) = .int .i64 (Go.bitLen b : Nat) := hL 33 (by decide +kernel)
      have e36 : ρ (.tmp 36) = .int .i64 (k 1 - 1) := hL 36 (by decide +kernel)
      have hl := HL.out
      simp [go_sem, hc, hf, e33, e36, hl]
      exact ⟨Below.refl _ _, rfl⟩
    refine gSt (gStep_run rfl (gRun_pickCF 31 37 38 _ rfl rfl (by decide +kernel) (by decide +kernel) (fun v w h => h) (fun v w h => h))) ?_
    exact gSt0
  · intro W hC
    refine gFi 19 rfl ?_
    rintro _ rfl
    refine gFi 20 rfl ?_
    rintro _ rfl
    refine gFi 21 rfl ?_
    rintro _ rfl
    refine gFi 22 rfl ?_
    rintro _ rfl
    refine gFi 23 rfl ?_
    rintro _ rfl
    refine gFi 24 rfl ?_
    rintro _ rfl
    refine gFi 25 rfl ?_
    rintro _ rfl
    refine gFi 26 rfl ?_
    rintro _ rfl
    refine gFi 27 rfl ?_
    rintro _ rfl
    refine gFi 28 rfl ?_
    rintro _ rfl
    refine gFi 29 rfl ?_
    rintro _ rfl
    refine gFi 30 rfl ?_
    rintro _ rfl
    refine gFi 31 rfl ?_
    rintro _ rfl
    refine gFi 32 rfl ?_
    rintro _ rfl
    refine gFi 33 rfl ?_
    rintro _ rfl
    refine gFi 34 rfl ?_
    rintro _ rfl
    refine gFi 35 rfl ?_
    rintro _ rfl
    refine gFi 36 rfl ?_
    rintro _ rfl
    refine gFi 37 rfl ?_
    rintro _ rfl
    refine gFi 38 rfl ?_
    rintro _ rfl
    refine gFi0 ?_
    simp only [List.drop_succ_cons, List.drop_zero, Act.put, List.setIfInBounds_toArray, List.set_cons_succ, List.set_cons_zero]
    have HC := hide hC
    clear hC h1
    go_upto_region 4 with fail
    refine wp_gen (fun W => MkSt w p k b W) HC.out ?_
    clear HC
    rintro W1 h1
    refine wp_region_storeK 15 [14] [41, 42, 43, 44, 45, 46, 47, 48, 49, 50, 40, 51, 52, 12] (fun bs => [(41, .val (.int .i64 z)), (42, .val (.int .u64 (x : Nat))), (43, bif bs.headD false then SlotIs.any  else SlotIs.rd [x]), (44, .val (.agg #[.int .u64 (dgl (x) 0 : Nat), .int .u64 (dgl (x) 1 : Nat), .int .u64 (dgl (x) 2 : Nat), .int .u64 (dgl (x) 3 : Nat), .int .u64 (dgl (x) 4 : Nat), .int .u64 (dgl (x) 5 : Nat), .int .u64 (dgl (x) 6 : Nat), .int .u64 (dgl (x) 7 : Nat)])), (45, .val (.pointer (some ⟨p, 1, none⟩))), (46, .val (.int .i64 (k 1))), (47, .val (.int .i64 (k 1 - 1))), (48, .val (.agg #[.int .u64 (dgl (u) 0 : Nat), .int .u64 (dgl (u) 1 : Nat), .int .u64 (dgl (u) 2 : Nat), .int .u64 (dgl (u) 3 : Nat), .int .u64 (dgl (u) 4 : Nat), .int .u64 (dgl (u) 5 : Nat), .int .u64 (dgl (u) 6 : Nat), .int .u64 (dgl (u) 7 : Nat)])), (49, .val (.agg #[.int .u64 (dgl (b) 0 : Nat), .int .u64 (dgl (b) 1 : Nat), .int .u64 (dgl (b) 2 : Nat), .int .u64 (dgl (b) 3 : Nat), .int .u64 (dgl (b) 4 : Nat), .int .u64 (dgl (b) 5 : Nat), .int .u64 (dgl (b) 6 : Nat), .int .u64 (dgl (b) 7 : Nat)])), (50, .val (.tuple #[.agg #[.int .u64 (dgl (s) 0 : Nat), .int .u64 (dgl (s) 1 : Nat), .int .u64 (dgl (s) 2 : Nat), .int .u64 (dgl (s) 3 : Nat), .int .u64 (dgl (s) 4 : Nat), .int .u64 (dgl (s) 5 : Nat), .int .u64 (dgl (s) 6 : Nat), .int .u64 (dgl (s) 7 : Nat)], .bool ov])), (40, .val (.tuple #[.agg #[.int .u64 (dgl (s) 0 : Nat), .int .u64 (dgl (s) 1 : Nat), .int .u64 (dgl (s) 2 : Nat), .int .u64 (dgl (s) 3 : Nat), .int .u64 (dgl (s) 4 : Nat), .int .u64 (dgl (s) 5 : Nat), .int .u64 (dgl (s) 6 : Nat), .int .u64 (dgl (s) 7 : Nat)], .bool ov])), (51, .val (.agg #[.int .u64 (dgl (s) 0 : Nat), .int .u64 (dgl (s) 1 : Nat), .int .u64 (dgl (s) 2 : Nat), .int .u64 (dgl (s) 3 : Nat), .int .u64 (dgl (s) 4 : Nat), .int .u64 (dgl (s) 5 : Nat), .int .u64 (dgl (s) 6 : Nat), .int .u64 (dgl (s) 7 : Nat)])), (52, .val (.bool ov)), (12, bif bs.headD false then SlotIs.box (p + 1) (dgl s) else SlotIs.box (p + 1) (fun _ => 0))])
      (fun _ W => MkSt w p k b W) (fun bs => rfl) mixedOk (by kernel_rfl) (by kernel_rfl) (by kernel_rfl) (h1.below (Below.refl _ _).drew) (fun bs W W' h hb => h.below hb) ?_ ?_
    · refine kSt rfl (fun φ hφ => gStep_run rfl (gRun_move 2 41 (.inl rfl) rfl (by decide +kernel) (fun v w h => h))) ?_
      refine kSt rfl (fun φ hφ => gStep_run rfl ?_) ?_
      · intro ρ W hC hc hf hL
        have e41 : ρ (.tmp 41) = .int .i64 z := hL 41 (by decide +kernel)
        have hl := HXZ.out
        simp [go_sem, hc, hf, e41, hl]
        exact ⟨Below.refl _ _, rfl⟩
      refine kSt rfl (fun φ hφ => gStep_run rfl ?_) ?_
      · intro ρ W hC hc hf hL
        have hφ0 : φ 14 = false := hφ 14 (by simp) (by kernel_rfl)
        have e42 : ρ (.tmp 42) = .int .u64 (x : Nat) := hL 42 (by decide +kernel)
        simp [go_sem, hc, hf, e42]
        refine ⟨below_allocs _ _, ?_⟩
        show (bif φ 14 then SlotIs.any else SlotIs.rd [x]).R _ _
        rw [hφ0]
        exact Rd.lit (mk := mk64) W 23 [.int .u64 (x : Nat)] [x] rfl 1 (Nat.le_refl 1) (by decide)
      refine kSt rfl (fun φ hφ => gStep_run rfl ?_) ?_
      · intro ρ W hC hc hf hL
        have hφ0 : φ 14 = false := hφ 14 (by simp) (by kernel_rfl)
        have b43 : (bif φ 14 then SlotIs.any  else SlotIs.rd [x]).R (ρ (.tmp 43)) W := hL 43 (by decide +kernel)
        rw [hφ0] at b43
        simp [go_sem, hc, hf]
        refine (wideOf_any [x] x _ _ b43 HXD.out).mono ?_
        rintro e w' ⟨rfl, hb⟩
        exact ⟨_, rfl, by first | exact hb | (subst hb; exact Below.refl _ _), rfl⟩
      refine kSt rfl (fun φ hφ => gStep_run rfl ?_) ?_
      · intro ρ W hC hc hf hL
        have e10 : ρ (.tmp 10) = .pointer (some ⟨p, 0, none⟩) := hL 10 (by decide +kernel)
        simp [go_sem, hc, hf, e10]
        exact ⟨Below.refl _ _, rfl⟩
      refine kSt rfl (fun φ hφ => gStep_run rfl ?_) ?_
      · intro ρ W hC hc hf hL
        have e45 : ρ (.tmp 45) = .pointer (some ⟨p, 1, none⟩) := hL 45 (by decide +kernel)
        have hl := hC.rk 1 (by decide)
        simp [go_sem, hc, hf, e45, hl]
        exact ⟨Below.refl _ _, rfl⟩
      refine kSt rfl (fun φ hφ => gStep_run rfl ?_) ?_
      · intro ρ W hC hc hf hL
        have e46 : ρ (.tmp 46) = .int .i64 (k 1) := hL 46 (by decide +kernel)
        simp [go_sem, hc, hf, e46, hw1]
        exact ⟨Below.refl _ _, rfl⟩
      refine kSt rfl (fun φ hφ => gStep_run rfl ?_) ?_
      · intro ρ W hC hc hf hL
        have e44 : ρ (.tmp 44) = .agg #[.int .u64 (dgl (x) 0 : Nat), .int .u64 (dgl (x) 1 : Nat), .int .u64 (dgl (x) 2 : Nat), .int .u64 (dgl (x) 3 : Nat), .int .u64 (dgl (x) 4 : Nat), .int .u64 (dgl (x) 5 : Nat), .int .u64 (dgl (x) 6 : Nat), .int .u64 (dgl (x) 7 : Nat)] := hL 44 (by decide +kernel)
        have e47 : ρ (.tmp 47) = .int .i64 (k 1 - 1) := hL 47 (by decide +kernel)
        simp [go_sem, hc, hf, e44, e47]
        refine (HSL.out W).mono ?_
        rintro e w' ⟨rfl, hb⟩
        exact ⟨_, rfl, by first | exact hb | (subst hb; exact Below.refl _ _), rfl⟩
      refine kSt rfl (fun φ hφ => gStep_run rfl ?_) ?_
      · intro ρ W hC hc hf hL
        have e7 : ρ (.tmp 7) = .pointer (some ⟨w.heap.size, 0, none⟩) := hL 7 (by decide +kernel)
        have hl := hC.lb.1
        simp [go_sem, hc, hf, e7, hl]
        exact ⟨Below.refl _ _, rfl⟩
      refine kSt rfl (fun φ hφ => gStep_run rfl ?_) ?_
      · intro ρ W hC hc hf hL
        have e48 : ρ (.tmp 48) = .agg #[.int .u64 (dgl (u) 0 : Nat), .int .u64 (dgl (u) 1 : Nat), .int .u64 (dgl (u) 2 : Nat), .int .u64 (dgl (u) 3 : Nat), .int .u64 (dgl (u) 4 : Nat), .int .u64 (dgl (u) 5 : Nat), .int .u64 (dgl (u) 6 : Nat), .int .u64 (dgl (u) 7 : Nat)] := hL 48 (by decide +kernel)
        have e49 : ρ (.tmp 49) = .agg #[.int .u64 (dgl (b) 0 : Nat), .int .u64 (dgl (b) 1 : Nat), .int .u64 (dgl (b) 2 : Nat), .int .u64 (dgl (b) 3 : Nat), .int .u64 (dgl (b) 4 : Nat), .int .u64 (dgl (b) 5 : Nat), .int .u64 (dgl (b) 6 : Nat), .int .u64 (dgl (b) 7 : Nat)] := hL 49 (by decide +kernel)
        simp [go_sem, hc, hf, e48, e49]
        refine (HA1.out W).mono ?_
        rintro e w' ⟨rfl, hb⟩
        exact ⟨_, rfl, by first | exact hb | (subst hb; exact Below.refl _ _), rfl⟩
      refine kSt rfl (fun φ hφ => gStep_run rfl (gRun_move 50 40 (.inl rfl) rfl (by decide +kernel) (fun v w h => h))) ?_
      refine kSt rfl (fun φ hφ => gStep_run rfl ?_) ?_
      · intro ρ W hC hc hf hL
        have e40 : ρ (.tmp 40) = .tuple #[.agg #[.int .u64 (dgl (s) 0 : Nat), .int .u64 (dgl (s) 1 : Nat), .int .u64 (dgl (s) 2 : Nat), .int .u64 (dgl (s) 3 : Nat), .int .u64 (dgl (s) 4 : Nat), .int .u64 (dgl (s) 5 : Nat), .int .u64 (dgl (s) 6 : Nat), .int .u64 (dgl (s) 7 : Nat)], .bool ov] := hL 40 (by decide +kernel)
        simp [go_sem, hc, hf, e40]
        exact ⟨Below.refl _ _, rfl⟩
      refine kSt rfl (fun φ hφ => gStep_run rfl ?_) ?_
      · intro ρ W hC hc hf hL
        have e40 : ρ (.tmp 40) = .tuple #[.agg #[.int .u64 (dgl (s) 0 : Nat), .int .u64 (dgl (s) 1 : Nat), .int .u64 (dgl (s) 2 : Nat), .int .u64 (dgl (s) 3 : Nat), .int .u64 (dgl (s) 4 : Nat), .int .u64 (dgl (s) 5 : Nat), .int .u64 (dgl (s) 6 : Nat), .int .u64 (dgl (s) 7 : Nat)], .bool ov] := hL 40 (by decide +kernel)
        simp [go_sem, hc, hf, e40]
        exact ⟨Below.refl _ _, rfl⟩
      refine kSt rfl (fun φ hφ => gStep_run rfl ?_) ?_
      · intro ρ W hC hc hf hL
        have hφ0 : φ 14 = false := hφ 14 (by simp) (by kernel_rfl)
        simp [go_sem, hc, hf]
        refine ⟨below_allocs _ _, ?_⟩
        show (bif φ 14 then SlotIs.box (p + 1) (dgl s) else SlotIs.box (p + 1) (fun _ => 0)).R _ _
        rw [hφ0]
        exact ⟨_, rfl, hC.lk, liesF_new _ (fun _ => 0) _, fun i => by simp [go_sem]⟩
      refine kStS rfl ⟨rfl, rfl, ?_⟩ ?_
      · intro φ ρ W hφ hC hc hL
        have b12 := hL 12 (by decide +kernel)
        have e51 : ρ (.tmp 51) = .agg #[.int .u64 (dgl (s) 0 : Nat), .int .u64 (dgl (s) 1 : Nat), .int .u64 (dgl (s) 2 : Nat), .int .u64 (dgl (s) 3 : Nat), .int .u64 (dgl (s) 4 : Nat), .int .u64 (dgl (s) 5 : Nat), .int .u64 (dgl (s) 6 : Nat), .int .u64 (dgl (s) 7 : Nat)] := hL 51 (by decide +kernel)
        have b12 : (bif φ 14 then SlotIs.box (p + 1) (dgl s) else SlotIs.box (p + 1) (fun _ => 0)).R (ρ (.tmp 12)) W := hL 12 (by decide +kernel)
        rw [hφ] at b12
        obtain ⟨p12, e12, q12, l12, z12⟩ := b12
        have hz := l12.1
        have hzl := l12.2
        refine gUpon_of ((((((((W.setCell ⟨p12, 0, none⟩ (.int .u64 (dgl s 0 : Nat))).setCell ⟨p12, 1, none⟩ (.int .u64 (dgl s 1 : Nat))).setCell ⟨p12, 2, none⟩ (.int .u64 (dgl s 2 : Nat))).setCell ⟨p12, 3, none⟩ (.int .u64 (dgl s 3 : Nat))).setCell ⟨p12, 4, none⟩ (.int .u64 (dgl s 4 : Nat))).setCell ⟨p12, 5, none⟩ (.int .u64 (dgl s 5 : Nat))).setCell ⟨p12, 6, none⟩ (.int .u64 (dgl s 6 : Nat))).setCell ⟨p12, 7, none⟩ (.int .u64 (dgl s 7 : Nat))) ?_ (fun _ => ?_)
        · simp [go_sem, hc, e51, e12, hz, hzl, z12, gUpon]
        have hs8 := below_set8 (Below.refl (p + 1) W) p12 q12 (.int .u64 (dgl s 0 : Nat)) (.int .u64 (dgl s 1 : Nat)) (.int .u64 (dgl s 2 : Nat)) (.int .u64 (dgl s 3 : Nat)) (.int .u64 (dgl s 4 : Nat)) (.int .u64 (dgl s 5 : Nat)) (.int .u64 (dgl s 6 : Nat)) (.int .u64 (dgl s 7 : Nat))
        refine ⟨hC.under hs8 (by omega), fun t => ?_⟩
        refine (tbl_imp rfl (fun _ => val_imp) (tbl_imp rfl (fun _ => val_imp) (tbl_imp rfl (fun _ h => ?_) (tbl_imp rfl (fun _ => val_imp) (tbl_imp rfl (fun _ => val_imp) (tbl_imp rfl (fun _ => val_imp) (tbl_imp rfl (fun _ => val_imp) (tbl_imp rfl (fun _ => val_imp) (tbl_imp rfl (fun _ => val_imp) (tbl_imp rfl (fun _ => val_imp) (tbl_imp rfl (fun _ => val_imp) (tbl_imp rfl (fun _ => val_imp) (tbl_imp rfl (fun _ => val_imp) (tbl_imp rfl (fun ht h => ?_) tbl_nil_imp))))))))))))))
        · show (bif (φ 14 || true) then SlotIs.any else SlotIs.rd [x]).R _ _
          rw [Bool.or_true]
          trivial
        · subst ht
          show (bif (φ 14 || true) then SlotIs.box (p + 1) (dgl s) else SlotIs.box (p + 1) (fun _ => 0)).R _ _
          rw [Bool.or_true]
          exact ⟨p12, e12, q12, set8_same W p12 (dgl s) (fun _ => 0) l12, fun i => by simpa [go_sem] using z12 i⟩
      exact kSt0
    · intro W hC
      refine gFi 41 rfl ?_
      rintro _ rfl
      refine gFi 42 rfl ?_
      rintro _ rfl
      refine gFi 43 rfl ?_
      rintro u43 b43
      refine gFi 44 rfl ?_
      rintro _ rfl
      refine gFi 45 rfl ?_
      rintro _ rfl
      refine gFi 46 rfl ?_
      rintro _ rfl
      refine gFi 47 rfl ?_
      rintro _ rfl
      refine gFi 48 rfl ?_
      rintro _ rfl
      refine gFi 49 rfl ?_
      rintro _ rfl
      refine gFi 50 rfl ?_
      rintro _ rfl
      refine gFi 40 rfl ?_
      rintro _ rfl
      refine gFi 51 rfl ?_
      rintro _ rfl
      refine gFi 52 rfl ?_
      rintro _ rfl
      refine gFi 12 rfl ?_
      rintro _ ⟨p12, rfl, q12, l12, z12⟩
      refine gFiN rfl ?_
      refine gFi0 ?_
      simp only [List.drop_succ_cons, List.drop_zero, Act.put, List.setIfInBounds_toArray, List.set_cons_succ, List.set_cons_zero]
      have HC := hide hC
      have HL := hide l12
      have HN2 := hide q12
      clear hC h1 l12 b43
      go_upto_region 5 with fail
      refine wp_gen (fun W => MkSt w p k b W ∧ LiesF W p12 (dgl s) ∧ ∀ i, W.frozen? ⟨p12, i, none⟩ = false) ⟨HC.out, HL.out, z12⟩ ?_
      clear HC HL z12
      rintro W2 ⟨h2, h3, z12⟩
      refine wp_region_storeK 10 [9] [54, 55, 56, 57, 58, 59, 53, 60, 61] (fun bs => [(54, .val (.agg #[.int .u64 (dgl (s) 0 : Nat), .int .u64 (dgl (s) 1 : Nat), .int .u64 (dgl (s) 2 : Nat), .int .u64 (dgl (s) 3 : Nat), .int .u64 (dgl (s) 4 : Nat), .int .u64 (dgl (s) 5 : Nat), .int .u64 (dgl (s) 6 : Nat), .int .u64 (dgl (s) 7 : Nat)])), (55, .val (.int .i64 f)), (56, .val (.bool neg)), (57, .val (.agg #[.int .u64 (nh : Nat), .int .u64 (nl : Nat)])), (58, .val (.agg #[.int .u64 (dgl (o) 0 : Nat), .int .u64 (dgl (o) 1 : Nat), .int .u64 (dgl (o) 2 : Nat), .int .u64 (dgl (o) 3 : Nat), .int .u64 (dgl (o) 4 : Nat), .int .u64 (dgl (o) 5 : Nat), .int .u64 (dgl (o) 6 : Nat), .int .u64 (dgl (o) 7 : Nat)])), (59, .val (.tuple #[.agg #[.int .u64 (dgl (t) 0 : Nat), .int .u64 (dgl (t) 1 : Nat), .int .u64 (dgl (t) 2 : Nat), .int .u64 (dgl (t) 3 : Nat), .int .u64 (dgl (t) 4 : Nat), .int .u64 (dgl (t) 5 : Nat), .int .u64 (dgl (t) 6 : Nat), .int .u64 (dgl (t) 7 : Nat)], .bool ov2])), (53, .val (.tuple #[.agg #[.int .u64 (dgl (t) 0 : Nat), .int .u64 (dgl (t) 1 : Nat), .int .u64 (dgl (t) 2 : Nat), .int .u64 (dgl (t) 3 : Nat), .int .u64 (dgl (t) 4 : Nat), .int .u64 (dgl (t) 5 : Nat), .int .u64 (dgl (t) 6 : Nat), .int .u64 (dgl (t) 7 : Nat)], .bool ov2])), (60, .val (.agg #[.int .u64 (dgl (t) 0 : Nat), .int .u64 (dgl (t) 1 : Nat), .int .u64 (dgl (t) 2 : Nat), .int .u64 (dgl (t) 3 : Nat), .int .u64 (dgl (t) 4 : Nat), .int .u64 (dgl (t) 5 : Nat), .int .u64 (dgl (t) 6 : Nat), .int .u64 (dgl (t) 7 : Nat)])), (61, .val (.bool ov2))])
        (fun bs W => MkSt w p k b W ∧ (∀ c, bs.headD false = c → LiesF W p12 (dgl (bif c then t else s))) ∧ ∀ i, W.frozen? ⟨p12, i, none⟩ = false) (fun bs => rfl) mixedOk (by kernel_rfl) (by kernel_rfl) (by kernel_rfl) (⟨h2.below (Below.refl _ _).drew, fun c hc => by subst hc; exact h3.below (Below.refl _ _).drew, fun i => (Below.refl _ _).drew.frozen (p := ⟨p12, i, none⟩) h3.2 |>.trans (z12 i)⟩) (fun bs W W' h hb => ⟨h.1.below hb, fun c hq => (h.2.1 c hq).below hb, fun i => (hb.frozen (p := ⟨p12, i, none⟩) (h.2.1 _ rfl).2).trans (h.2.2 i)⟩) ?_ ?_
      · refine kSt rfl (fun φ hφ => gStep_run rfl ?_) ?_
        · intro ρ W hC hc hf hL
          have e12 : ρ (.tmp 12) = .pointer (some ⟨p12, 0, none⟩) := hL 12 (by decide +kernel)
          have hφ0 : φ 9 = false := hφ 9 (by simp) (by kernel_rfl)
          have hD : LiesF W p12 (dgl s) := hC.2.1 false hφ0
          have hl := hD.1
          simp [go_sem, hc, hf, e12, hl]
          exact ⟨Below.refl _ _, rfl⟩
        refine kSt rfl (fun φ hφ => gStep_run rfl (gRun_move 0 55 (.inl rfl) rfl (by decide +kernel) (fun v w h => h))) ?_
        refine kSt rfl (fun φ hφ => gStep_run rfl (gRun_move 1 56 (.inl rfl) rfl (by decide +kernel) (fun v w h => h))) ?_
        refine kSt rfl (fun φ hφ => gStep_run rfl ?_) ?_
        · intro ρ W hC hc hf hL
          have e55 : ρ (.tmp 55) = .int .i64 f := hL 55 (by decide +kernel)
          have e56 : ρ (.tmp 56) = .bool neg := hL 56 (by decide +kernel)
          simp [go_sem, hc, hf, e55, e56]
          refine (HNO.out W hC.1.g).mono ?_
          rintro e w' ⟨rfl, hb⟩
          exact ⟨_, rfl, by first | exact hb | (subst hb; exact Below.refl _ _), rfl⟩
        refine kSt rfl (fun φ hφ => gStep_run rfl ?_) ?_
        · intro ρ W hC hc hf hL
          have e57 : ρ (.tmp 57) = .agg #[.int .u64 (nh : Nat), .int .u64 (nl : Nat)] := hL 57 (by decide +kernel)
          simp [go_sem, hc, hf, e57]
          refine (HFR.out W).mono ?_
          rintro e w' ⟨rfl, hb⟩
          exact ⟨_, rfl, by first | exact hb | (subst hb; exact Below.refl _ _), rfl⟩
        refine kSt rfl (fun φ hφ => gStep_run rfl ?_) ?_
        · intro ρ W hC hc hf hL
          have e54 : ρ (.tmp 54) = .agg #[.int .u64 (dgl (s) 0 : Nat), .int .u64 (dgl (s) 1 : Nat), .int .u64 (dgl (s) 2 : Nat), .int .u64 (dgl (s) 3 : Nat), .int .u64 (dgl (s) 4 : Nat), .int .u64 (dgl (s) 5 : Nat), .int .u64 (dgl (s) 6 : Nat), .int .u64 (dgl (s) 7 : Nat)] := hL 54 (by decide +kernel)
          have e58 : ρ (.tmp 58) = .agg #[.int .u64 (dgl (o) 0 : Nat), .int .u64 (dgl (o) 1 : Nat), .int .u64 (dgl (o) 2 : Nat), .int .u64 (dgl (o) 3 : Nat), .int .u64 (dgl (o) 4 : Nat), .int .u64 (dgl (o) 5 : Nat), .int .u64 (dgl (o) 6 : Nat), .int .u64 (dgl (o) 7 : Nat)] := hL 58 (by decide +kernel)
          simp [go_sem, hc, hf, e54, e58]
          refine (HA2.out W).mono ?_
          rintro e w' ⟨rfl, hb⟩
          exact ⟨_, rfl, by first | exact hb | (subst hb; exact Below.refl _ _), rfl⟩
        refine kSt rfl (fun φ hφ => gStep_run rfl (gRun_move 59 53 (.inl rfl) rfl (by decide +kernel) (fun v w h => h))) ?_
        refine kSt rfl (fun φ hφ => gStep_run rfl ?_) ?_
        · intro ρ W hC hc hf hL
          have e53 : ρ (.tmp 53) = .tuple #[.agg #[.int .u64 (dgl (t) 0 : Nat), .int .u64 (dgl (t) 1 : Nat), .int .u64 (dgl (t) 2 : Nat), .int .u64 (dgl (t) 3 : Nat), .int .u64 (dgl (t) 4 : Nat), .int .u64 (dgl (t) 5 : Nat), .int .u64 (dgl (t) 6 : Nat), .int .u64 (dgl (t) 7 : Nat)], .bool ov2] := hL 53 (by decide +kernel)
          simp [go_sem, hc, hf, e53]
          exact ⟨Below.refl _ _, rfl⟩
        refine kSt rfl (fun φ hφ => gStep_run rfl ?_) ?_
        · intro ρ W hC hc hf hL
          have e53 : ρ (.tmp 53) = .tuple #[.agg #[.int .u64 (dgl (t) 0 : Nat), .int .u64 (dgl (t) 1 : Nat), .int .u64 (dgl (t) 2 : Nat), .int .u64 (dgl (t) 3 : Nat), .int .u64 (dgl (t) 4 : Nat), .int .u64 (dgl (t) 5 : Nat), .int .u64 (dgl (t) 6 : Nat), .int .u64 (dgl (t) 7 : Nat)], .bool ov2] := hL 53 (by decide +kernel)
          simp [go_sem, hc, hf, e53]
          exact ⟨Below.refl _ _, rfl⟩
        refine kStS rfl ⟨rfl, rfl, ?_⟩ ?_
        · intro φ ρ W hφ hC hc hL
          have e12 : ρ (.tmp 12) = .pointer (some ⟨p12, 0, none⟩) := hL 12 (by decide +kernel)
          have e60 : ρ (.tmp 60) = .agg #[.int .u64 (dgl (t) 0 : Nat), .int .u64 (dgl (t) 1 : Nat), .int .u64 (dgl (t) 2 : Nat), .int .u64 (dgl (t) 3 : Nat), .int .u64 (dgl (t) 4 : Nat), .int .u64 (dgl (t) 5 : Nat), .int .u64 (dgl (t) 6 : Nat), .int .u64 (dgl (t) 7 : Nat)] := hL 60 (by decide +kernel)
          have hD : LiesF W p12 (dgl s) := hC.2.1 false hφ
          have hr := hD.1
          have hrl := hD.2
          have hrf := hC.2.2
          refine gUpon_of ((((((((W.setCell ⟨p12, 0, none⟩ (.int .u64 (dgl t 0 : Nat))).setCell ⟨p12, 1, none⟩ (.int .u64 (dgl t 1 : Nat))).setCell ⟨p12, 2, none⟩ (.int .u64 (dgl t 2 : Nat))).setCell ⟨p12, 3, none⟩ (.int .u64 (dgl t 3 : Nat))).setCell ⟨p12, 4, none⟩ (.int .u64 (dgl t 4 : Nat))).setCell ⟨p12, 5, none⟩ (.int .u64 (dgl t 5 : Nat))).setCell ⟨p12, 6, none⟩ (.int .u64 (dgl t 6 : Nat))).setCell ⟨p12, 7, none⟩ (.int .u64 (dgl t 7 : Nat))) ?_ (fun _ => ?_)
          · simp [go_sem, hc, e12, e60, hr, hrl, hrf, gUpon]
          have hs8 := below_set8 (Below.refl (p + 1) W) p12 HN2.out (.int .u64 (dgl t 0 : Nat)) (.int .u64 (dgl t 1 : Nat)) (.int .u64 (dgl t 2 : Nat)) (.int .u64 (dgl t 3 : Nat)) (.int .u64 (dgl t 4 : Nat)) (.int .u64 (dgl t 5 : Nat)) (.int .u64 (dgl t 6 : Nat)) (.int .u64 (dgl t 7 : Nat))
          refine ⟨⟨hC.1.under hs8 (by omega), fun b hb => ?_, fun i => by simpa [go_sem] using hrf i⟩, fun t => (tbl_imp rfl (fun _ => val_imp) (tbl_imp rfl (fun _ => val_imp) (tbl_imp rfl (fun _ => val_imp) (tbl_imp rfl (fun _ => val_imp) (tbl_imp rfl (fun _ => val_imp) (tbl_imp rfl (fun _ => val_imp) (tbl_imp rfl (fun _ => val_imp) (tbl_imp rfl (fun _ => val_imp) (tbl_imp rfl (fun _ => val_imp) tbl_nil_imp)))))))))⟩
          have hb2 : (φ 9 || true) = b := hb
          rw [Bool.or_true] at hb2
          subst hb2
          exact set8_same W p12 (dgl t) (dgl s) hD
        exact kSt0
      · intro W hC
        refine gFi 54 rfl ?_
        rintro _ rfl
        refine gFi 55 rfl ?_
        rintro _ rfl
        refine gFi 56 rfl ?_
        rintro _ rfl
        refine gFi 57 rfl ?_
        rintro _ rfl
        refine gFi 58 rfl ?_
        rintro _ rfl
        refine gFi 59 rfl ?_
        rintro _ rfl
        refine gFi 53 rfl ?_
        rintro _ rfl
        refine gFi 60 rfl ?_
        rintro _ rfl
        refine gFi 61 rfl ?_
        rintro _ rfl
        refine gFiN rfl ?_
        refine gFi0 ?_
        simp only [List.drop_succ_cons, List.drop_zero, Act.put, List.setIfInBounds_toArray, List.set_cons_succ, List.set_cons_zero]
        have HL : Hid (LiesF W p12 (dgl t)) := hC.2.1 true rfl
        have HC := hide hC.1
        clear hC h2 h3 z12
        have hcs := HL.out.1
        go_wp2_with fail
        refine (wideLow_any (dgl t) _).mono ?_
        rintro e w3 ⟨rfl, hb3⟩
        replace HC := hide (HC.out.below hb3)
        clear hb3 hcs HL
        have r0 := HC.out.r0
        have r1 := HC.out.r1
        have hrf := HC.out.fz
        have hlt := HC.out.lt
        have HB := hide HC.out.bel
        clear HC
        go_wp2
        exact bodyPost_ret (v := .tuple #[.agg #[.int .u64 (dgl t 1 : Nat), .int .u64 (dgl t 0 : Nat)], .bool true]) (by simp [results, Tryz.results56, go_sem, r0, r1, hlt]) rfl ⟨rfl, (HB.out.setCell (p := ⟨w.heap.size + 1, 0, none⟩) (Nat.le_succ _) _).setCell (p := ⟨w.heap.size + 1, 1, none⟩) (Nat.le_succ _) _⟩

end Go.Proofs.YtpcjdllijkjdkaaGreatDoor

/- Contracts: class.Make with its numbers. -/
set_option linter.unusedVariables false
set_option linter.unusedSimpArgs false
set_option maxRecDepth 8000
namespace Go.Proofs.YtpcjdllijkjdkaaGreatDoor
open Go.RowKit Plain

theorem word_back (N : Nat) (h : N < 2 ^ 128) : dgl N 0 + 18446744073709551616 * dgl N 1 = N := by
  rw [dgl0, dgl1]
  omega
theorem makeYes_1 (neg : Bool) (x b : Nat) (hx : x < 2 ^ 5) (hb : b < 2 ^ 10) (z : Int) (hz : z = (x : Int)) (w : World) (hg : FmtG w) :
    Calls Tryz.prog 56 #[.int .i64 1, .bool neg, .int .i64 z, .agg #[.int .u64 (dgl (b) 0 : Nat), .int .u64 (dgl (b) 1 : Nat), .int .u64 (dgl (b) 2 : Nat), .int .u64 (dgl (b) 3 : Nat), .int .u64 (dgl (b) 4 : Nat), .int .u64 (dgl (b) 5 : Nat), .int .u64 (dgl (b) 6 : Nat), .int .u64 (dgl (b) 7 : Nat)]] w fun e w' => e = .returned (.tuple #[.agg #[.int .u64 (dgl (x * 2 ^ 10 + b + (bif neg then 32768 else 0)) 1 : Nat), .int .u64 (dgl (x * 2 ^ 10 + b + (bif neg then 32768 else 0)) 0 : Nat)], .bool true]) ∧ Below w.heap.size w w' := by
  subst hz
  have hQ := q200
  have h1 := fun w => wideShl_any x 10 (by omega) w
  rw [show roomI 10 = ((10 : Nat) : Int) by decide, sh_up] at h1
  have h2 := fun w => wideAdd_any (x * 2 ^ 10) b (by omega) (by omega) w
  have h3 := fun w hg => nought_1 neg w hg
  obtain ⟨o, ho⟩ : ∃ o, (bif neg then 32768 else 0) = o := ⟨_, rfl⟩
  have ho2 : o < 2 ^ 128 := by rw [← ho]; cases neg <;> decide
  rw [ho] at h3 ⊢
  have h4 := fun w => wideFrom_any (dgl o 1) (dgl o 0) (dgl_lt _ _) (dgl_lt _ _) w
  rw [word_back o ho2] at h4
  have h5 := fun w => wideAdd_any (x * 2 ^ 10 + b) o (by omega) (by omega) w
  exact make_walk 1 neg x b (fun i => [16, 11, 15, -14, 5].getD i 0) 31 x (x * 2 ^ 10) (x * 2 ^ 10 + b) (dgl o 1) (dgl o 0) o (x * 2 ^ 10 + b + o) _ _ (by decide +kernel) (decide_eq_false (by omega)) (decide_eq_false (by omega))
    (decide_eq_false (by have := (len_le b 10).2 hb; show ¬ ((11 : Int) - 1 < _); omega)) (by unfold Hid; rw [IntKind.wrap_u64]; omega) (fun i hi => (dig_one (β := 18446744073709551616) (by omega)).2 i) (fun w hg => of_1 w hg) (fun w => ones_1 w) (fun w => wideLen_any b (by omega) w) h1 h2 h3 h4 h5 w hg
theorem makeYes_2 (neg : Bool) (x b : Nat) (hx : x < 2 ^ 8) (hb : b < 2 ^ 23) (z : Int) (hz : z = (x : Int)) (w : World) (hg : FmtG w) :
    Calls Tryz.prog 56 #[.int .i64 2, .bool neg, .int .i64 z, .agg #[.int .u64 (dgl (b) 0 : Nat), .int .u64 (dgl (b) 1 : Nat), .int .u64 (dgl (b) 2 : Nat), .int .u64 (dgl (b) 3 : Nat), .int .u64 (dgl (b) 4 : Nat), .int .u64 (dgl (b) 5 : Nat), .int .u64 (dgl (b) 6 : Nat), .int .u64 (dgl (b) 7 : Nat)]] w fun e w' => e = .returned (.tuple #[.agg #[.int .u64 (dgl (x * 2 ^ 23 + b + (bif neg then 2147483648 else 0)) 1 : Nat), .int .u64 (dgl (x * 2 ^ 23 + b + (bif neg then 2147483648 else 0)) 0 : Nat)], .bool true]) ∧ Below w.heap.size w w' := by
  subst hz
  have hQ := q200
  have h1 := fun w => wideShl_any x 23 (by omega) w
  rw [show roomI 23 = ((23 : Nat) : Int) by decide, sh_up] at h1
  have h2 := fun w => wideAdd_any (x * 2 ^ 23) b (by omega) (by omega) w
  have h3 := fun w hg => nought_2 neg w hg
  obtain ⟨o, ho⟩ : ∃ o, (bif neg then 2147483648 else 0) = o := ⟨_, rfl⟩
  have ho2 : o < 2 ^ 128 := by rw [← ho]; cases neg <;> decide
  rw [ho] at h3 ⊢
  have h4 := fun w => wideFrom_any (dgl o 1) (dgl o 0) (dgl_lt _ _) (dgl_lt _ _) w
  rw [word_back o ho2] at h4
  have h5 := fun w => wideAdd_any (x * 2 ^ 23 + b) o (by omega) (by omega) w
  exact make_walk 2 neg x b (fun i => [32, 24, 127, -126, 8].getD i 0) 255 x (x * 2 ^ 23) (x * 2 ^ 23 + b) (dgl o 1) (dgl o 0) o (x * 2 ^ 23 + b + o) _ _ (by decide +kernel) (decide_eq_false (by omega)) (decide_eq_false (by omega))
    (decide_eq_false (by have := (len_le b 23).2 hb; show ¬ ((24 : Int) - 1 < _); omega)) (by unfold Hid; rw [IntKind.wrap_u64]; omega) (fun i hi => (dig_one (β := 18446744073709551616) (by omega)).2 i) (fun w hg => of_2 w hg) (fun w => ones_2 w) (fun w => wideLen_any b (by omega) w) h1 h2 h3 h4 h5 w hg
theorem makeYes_3 (neg : Bool) (x b : Nat) (hx : x < 2 ^ 11) (hb : b < 2 ^ 52) (z : Int) (hz : z = (x : Int)) (w : World) (hg : FmtG w) :
    Calls Tryz.prog 56 #[.int .i64 3, .bool neg, .int .i64 z, .agg #[.int .u64 (dgl (b) 0 : Nat), .int .u64 (dgl (b) 1 : Nat), .int .u64 (dgl (b) 2 : Nat), .int .u64 (dgl (b) 3 : Nat), .int .u64 (dgl (b) 4 : Nat), .int .u64 (dgl (b) 5 : Nat), .int .u64 (dgl (b) 6 : Nat), .int .u64 (dgl (b) 7 : Nat)]] w fun e w' => e = .returned (.tuple #[.agg #[.int .u64 (dgl (x * 2 ^ 52 + b + (bif neg then 9223372036854775808 else 0)) 1 : Nat), .int .u64 (dgl (x * 2 ^ 52 + b + (bif neg then 9223372036854775808 else 0)) 0 : Nat)], .bool true]) ∧ Below w.heap.size w w' := by
  subst hz
  have hQ := q200
  have h1 := fun w => wideShl_any x 52 (by omega) w
  rw [show roomI 52 = ((52 : Nat) : Int) by decide, sh_up] at h1
  have h2 := fun w => wideAdd_any (x * 2 ^ 52) b (by omega) (by omega) w
  have h3 := fun w hg => nought_3 neg w hg
  obtain ⟨o, ho⟩ : ∃ o, (bif neg then 9223372036854775808 else 0) = o := ⟨_, rfl⟩
  have ho2 : o < 2 ^ 128 := by rw [← ho]; cases neg <;> decide
  rw [ho] at h3 ⊢
  have h4 := fun w => wideFrom_any (dgl o 1) (dgl o 0) (dgl_lt _ _) (dgl_lt _ _) w
  rw [word_back o ho2] at h4
  have h5 := fun w => wideAdd_any (x * 2 ^ 52 + b) o (by omega) (by omega) w
  exact make_walk 3 neg x b (fun i => [64, 53, 1023, -1022, 11].getD i 0) 2047 x (x * 2 ^ 52) (x * 2 ^ 52 + b) (dgl o 1) (dgl o 0) o (x * 2 ^ 52 + b + o) _ _ (by decide +kernel) (decide_eq_false (by omega)) (decide_eq_false (by omega))
    (decide_eq_false (by have := (len_le b 52).2 hb; show ¬ ((53 : Int) - 1 < _); omega)) (by unfold Hid; rw [IntKind.wrap_u64]; omega) (fun i hi => (dig_one (β := 18446744073709551616) (by omega)).2 i) (fun w hg => of_3 w hg) (fun w => ones_3 w) (fun w => wideLen_any b (by omega) w) h1 h2 h3 h4 h5 w hg
theorem makeYes_4 (neg : Bool) (x b : Nat) (hx : x < 2 ^ 15) (hb : b < 2 ^ 112) (z : Int) (hz : z = (x : Int)) (w : World) (hg : FmtG w) :
    Calls Tryz.prog 56 #[.int .i64 4, .bool neg, .int .i64 z, .agg #[.int .u64 (dgl (b) 0 : Nat), .int .u64 (dgl (b) 1 : Nat), .int .u64 (dgl (b) 2 : Nat), .int .u64 (dgl (b) 3 : Nat), .int .u64 (dgl (b) 4 : Nat), .int .u64 (dgl (b) 5 : Nat), .int .u64 (dgl (b) 6 : Nat), .int .u64 (dgl (b) 7 : Nat)]] w fun e w' => e = .returned (.tuple #[.agg #[.int .u64 (dgl (x * 2 ^ 112 + b + (bif neg then 170141183460469231731687303715884105728 else 0)) 1 : Nat), .int .u64 (dgl (x * 2 ^ 112 + b + (bif neg then 170141183460469231731687303715884105728 else 0)) 0 : Nat)], .bool true]) ∧ Below w.heap.size w w' := by
  subst hz
  have hQ := q200
  have h1 := fun w => wideShl_any x 112 (by omega) w
  rw [show roomI 112 = ((112 : Nat) : Int) by decide, sh_up] at h1
  have h2 := fun w => wideAdd_any (x * 2 ^ 112) b (by omega) (by omega) w
  have h3 := fun w hg => nought_4 neg w hg
  obtain ⟨o, ho⟩ : ∃ o, (bif neg then 170141183460469231731687303715884105728 else 0) = o := ⟨_, rfl⟩
  have ho2 : o < 2 ^ 128 := by rw [← ho]; cases neg <;> decide
  rw [ho] at h3 ⊢
  have h4 := fun w => wideFrom_any (dgl o 1) (dgl o 0) (dgl_lt _ _) (dgl_lt _ _) w
  rw [word_back o ho2] at h4
  have h5 := fun w => wideAdd_any (x * 2 ^ 112 + b) o (by omega) (by omega) w
  exact make_walk 4 neg x b (fun i => [128, 113, 16383, -16382, 15].getD i 0) 32767 x (x * 2 ^ 112) (x * 2 ^ 112 + b) (dgl o 1) (dgl o 0) o (x * 2 ^ 112 + b + o) _ _ (by decide +kernel) (decide_eq_false (by omega)) (decide_eq_false (by omega))
    (decide_eq_false (by have := (len_le b 112).2 hb; show ¬ ((113 : Int) - 1 < _); omega)) (by unfold Hid; rw [IntKind.wrap_u64]; omega) (fun i hi => (dig_one (β := 18446744073709551616) (by omega)).2 i) (fun w hg => of_4 w hg) (fun w => ones_4 w) (fun w => wideLen_any b (by omega) w) h1 h2 h3 h4 h5 w hg
end Go.Proofs.YtpcjdllijkjdkaaGreatDoor

/- Contracts: class.asked for wides and words. -/
set_option linter.unusedVariables false
set_option linter.unusedSimpArgs false
set_option maxRecDepth 8000
namespace Go.Proofs.YtpcjdllijkjdkaaGreatDoor
open Go.RowKit Plain

structure Ax0 (hi lo : Nat) (w W : World) : Prop where
  s : FitSt hi lo w W
  z : ∀ i, i < 2 → W.cell? ⟨w.heap.size + 1, i, none⟩ = some (.int .u64 0)
  f : ∀ i, W.frozen? ⟨w.heap.size + 1, i, none⟩ = false
  lt : w.heap.size + 1 < W.heap.size
theorem Ax0.below {hi lo : Nat} {w W W' : World} (h : Ax0 hi lo w W) (hb : Below W.heap.size W W') : Ax0 hi lo w W' :=
  ⟨h.s.below hb, fun i hi => (hb.cell (p := ⟨w.heap.size + 1, i, none⟩) h.lt).trans (h.z i hi), fun i => (hb.frozen (p := ⟨w.heap.size + 1, i, none⟩) h.lt).trans (h.f i), Nat.lt_of_lt_of_le h.lt hb.size⟩
theorem Ax0.start (hi lo : Nat) (w : World) : Ax0 hi lo w ((w.alloc (.cells #[.int .u64 (hi : Nat), .int .u64 (lo : Nat)] 29)).alloc (.cells #[.int .u64 0, .int .u64 0] 29)) := by
  refine ⟨(fitSt_start hi lo w).below (below_allocs _ _), fun i hi => ?_, fun i => by simp [go_sem], by simp⟩
  match i, hi with
  | 0, _ | 1, _ => simp [go_sem]
end Go.Proofs.YtpcjdllijkjdkaaGreatDoor

/- Contracts: class.signed. -/
set_option linter.unusedVariables false
set_option linter.unusedSimpArgs false
set_option maxRecDepth 8000
namespace Go.Proofs.YtpcjdllijkjdkaaGreatDoor
open Go.RowKit Plain

end Go.Proofs.YtpcjdllijkjdkaaGreatDoor

/- Contracts: the closures of class.Fraction, Abs, Flip. -/
set_option linter.unusedVariables false
set_option linter.unusedSimpArgs false
set_option maxRecDepth 8000
namespace Go.Proofs.YtpcjdllijkjdkaaGreatDoor
open Go.RowKit Plain

end Go.Proofs.YtpcjdllijkjdkaaGreatDoor

/- Contracts: class.Fraction, Abs, Flip, as passes. -/
set_option linter.unusedVariables false
set_option linter.unusedSimpArgs false
set_option maxRecDepth 8000
namespace Go.Proofs.YtpcjdllijkjdkaaGreatDoor
open Go.RowKit Plain

end Go.Proofs.YtpcjdllijkjdkaaGreatDoor

/- Contracts of class, one for all formats: Of, Neg, Field, Fraction, Abs, Flip, Make. -/
set_option linter.unusedVariables false
set_option linter.unusedSimpArgs false
set_option maxRecDepth 8000
namespace Go.Proofs.YtpcjdllijkjdkaaGreatDoor
open Go.RowKit Plain

/-- What a table of the formats tells of one. -/
def tU {α : Type} (f : Int) (x1 x2 x3 x4 d : α) : α := if f = 1 then x1 else if f = 2 then x2 else if f = 3 then x3 else if f = 4 then x4 else d
theorem tU_none {α : Type} (f : Int) (h : f < 1 ∨ 4 < f) (x1 x2 x3 x4 d : α) : tU f x1 x2 x3 x4 d = d := by
  unfold tU
  rw [if_neg (by omega), if_neg (by omega), if_neg (by omega), if_neg (by omega)]
theorem f_cases (f : Int) : f = 1 ∨ f = 2 ∨ f = 3 ∨ f = 4 ∨ (f < 1 ∨ 4 < f) := by omega
def bU (f : Int) : Nat := tU f 16 32 64 128 0
def frcN (B P a : Nat) : Nat := if a < 2 ^ B then a % 2 ^ (P - 1) else 0
def absN (B a : Nat) : Nat := if a < 2 ^ B then a % 2 ^ (B - 1) else 0
def clsU (f : Int) (a : Nat) : Nat := tU f (clsN 16 11 5 a) (clsN 32 24 8 a) (clsN 64 53 11 a) (clsN 128 113 15 a) 0
def fldU (f : Int) (a : Nat) : Nat := tU f (fldN 16 11 5 a) (fldN 32 24 8 a) (fldN 64 53 11 a) (fldN 128 113 15 a) 0
def negU (f : Int) (a : Nat) : Bool := tU f (negN 16 a) (negN 32 a) (negN 64 a) (negN 128 a) false
def frcU (f : Int) (a : Nat) : Nat := tU f (frcN 16 11 a) (frcN 32 24 a) (frcN 64 53 a) (frcN 128 113 a) 0
def absU (f : Int) (a : Nat) : Nat := tU f (absN 16 a) (absN 32 a) (absN 64 a) (absN 128 a) 0
def fitU (f : Int) (a : Nat) : Bool := tU f (decide (a < 2 ^ 16)) (decide (a < 2 ^ 32)) (decide (a < 2 ^ 64)) (decide (a < 2 ^ 128)) false

theorem refCls_u (f : Int) (a : Nat) (ha : a < 2 ^ 128) (w : World) : Calls Tryz.prog 67 #[.int .i64 f, .agg #[.int .u64 (dgl (a) 1 : Nat), .int .u64 (dgl (a) 0 : Nat)]] w fun e w' => e = .returned (.int .i64 ((clsU f a : Nat) : Int)) ∧ Below w.heap.size w w' := by
  rcases f_cases f with rfl | rfl | rfl | rfl | h
  · have h0 := refCls_1 (dgl a 1) (dgl a 0) (dgl_lt _ _) (dgl_lt _ _) w
    rw [word_back a ha] at h0
    exact h0
  · have h0 := refCls_2 (dgl a 1) (dgl a 0) (dgl_lt _ _) (dgl_lt _ _) w
    rw [word_back a ha] at h0
    exact h0
  · have h0 := refCls_3 (dgl a 1) (dgl a 0) (dgl_lt _ _) (dgl_lt _ _) w
    rw [word_back a ha] at h0
    exact h0
  · have h0 := refCls_4 (dgl a 1) (dgl a 0) (dgl_lt _ _) (dgl_lt _ _) w
    rw [word_back a ha] at h0
    exact h0
  · rw [show clsU f a = _ from tU_none f h _ _ _ _ _]
    exact refCls_none f h _ _ w

theorem refNeg_u (f : Int) (a : Nat) (ha : a < 2 ^ 128) (w : World) : Calls Tryz.prog 95 #[.int .i64 f, .agg #[.int .u64 (dgl (a) 1 : Nat), .int .u64 (dgl (a) 0 : Nat)]] w fun e w' => e = .returned (.bool (negU f a)) ∧ Below w.heap.size w w' := by
  rcases f_cases f with rfl | rfl | rfl | rfl | h
  · have h0 := refNeg_1 (dgl a 1) (dgl a 0) (dgl_lt _ _) (dgl_lt _ _) w
    rw [word_back a ha] at h0
    exact h0
  · have h0 := refNeg_2 (dgl a 1) (dgl a 0) (dgl_lt _ _) (dgl_lt _ _) w
    rw [word_back a ha] at h0
    exact h0
  · have h0 := refNeg_3 (dgl a 1) (dgl a 0) (dgl_lt _ _) (dgl_lt _ _) w
    rw [word_back a ha] at h0
    exact h0
  · have h0 := refNeg_4 (dgl a 1) (dgl a 0) (dgl_lt _ _) (dgl_lt _ _) w
    rw [word_back a ha] at h0
    exact h0
  · rw [show negU f a = _ from tU_none f h _ _ _ _ _]
    exact refNeg_none f h _ _ w

end Go.Proofs.YtpcjdllijkjdkaaGreatDoor

/- Numbers of words: signs and classes. -/
set_option linter.unusedVariables false
set_option linter.unusedSimpArgs false
set_option maxRecDepth 8000
namespace Go.Proofs.YtpcjdllijkjdkaaGreatDoor
open Go.RowKit Plain

theorem pow_half (B : Nat) (h : 0 < B) : 2 ^ B = 2 * 2 ^ (B - 1) := by
  obtain ⟨c, rfl⟩ : ∃ c, B = c + 1 := ⟨B - 1, by omega⟩
  rw [Nat.add_sub_cancel, Nat.pow_succ, Nat.mul_comm]
theorem cls_fit {B P F a : Nat} (h : clsN B P F a ≠ 0) : a < 2 ^ B := by
  refine Classical.byContradiction fun h1 => h ?_
  exact if_neg h1
theorem fld_mod (a p F : Nat) : a / 2 ^ p % 2 ^ F = a % 2 ^ (p + F) / 2 ^ p := by
  rw [Nat.pow_add, Nat.mod_mul_right_div_self]
theorem frc_mod (a p F : Nat) : a % 2 ^ p = a % 2 ^ (p + F) % 2 ^ p := by
  rw [Nat.pow_add, Nat.mod_mul_right_mod]
theorem cls_mod {P F a b : Nat} (hP : 0 < P) (ha : a < 2 ^ (P + F)) (hb : b < 2 ^ (P + F)) (h : a % 2 ^ (P + F - 1) = b % 2 ^ (P + F - 1)) : clsN (P + F) P F a = clsN (P + F) P F b := by
  unfold clsN
  rw [if_pos ha, if_pos hb, fld_mod a, fld_mod b, frc_mod a (P - 1) F, frc_mod b (P - 1) F, show P - 1 + F = P + F - 1 by omega, h]
end Go.Proofs.YtpcjdllijkjdkaaGreatDoor

/- Contracts: class.Finite, IsNaN; the document's Signed, Field, Fraction, one for all formats. -/
set_option linter.unusedVariables false
set_option linter.unusedSimpArgs false
set_option maxRecDepth 8000
namespace Go.Proofs.YtpcjdllijkjdkaaGreatDoor
open Go.RowKit Plain

/-- A word's number with a sign. -/
def sgnN (B : Nat) (neg : Bool) (a : Nat) : Nat := neg.toNat * 2 ^ (B - 1) + a % 2 ^ (B - 1)
set_option maxHeartbeats 1000000 in
theorem refSgn_walk (f : Int) (B hi lo : Nat) (neg : Bool) (hB : B ≤ 128) (hB1 : 1 ≤ B) (hh : hi < 18446744073709551616) (hl : lo < 18446744073709551616)
    (HN : Hid (∀ w, Calls Tryz.prog 33 #[.int .i64 f] w fun e w' => e = .returned (.int .i64 (B : Nat)) ∧ w' = w)) (w : World) :
    Calls Tryz.prog 41 #[.int .i64 f, .agg #[.int .u64 (hi : Nat), .int .u64 (lo : Nat)], .bool neg] w fun e w' => e = .returned (.agg #[.int .u64 (dgl (sgnN B neg (lo + 18446744073709551616 * hi)) 1 : Nat), .int .u64 (dgl (sgnN B neg (lo + 18446744073709551616 * hi)) 0 : Nat)]) ∧ Below w.heap.size w w' := by
  have HBT := hide (fun n hn w => refBit5_any hi lo n hh hl hn (n : Int) rfl w)
  have HST := hide (Ax0.start hi lo w)
  have hB' : (B : Int) ≤ 128 := by omega
  have hB2 : (1 : Int) ≤ (B : Int) := by omega
  clear hh hl
  generalize (lo + 18446744073709551616 * hi) = a at *
  obtain ⟨N, hN⟩ : ∃ N, sgnN B neg a = N := ⟨_, rfl⟩
  rw [hN]
  have HSN := hide hN
  clear hN
  go_enter Tryz.func41, Tryz.ntmps41
  go_wp2_with fail
  refine (sign5_any neg _).mono ?_
  rintro e w1 ⟨rfl, hw⟩
  subst w1
  go_wp2_with fail
  refine (HN.out _).mono ?_
  rintro e w1 ⟨rfl, hw⟩
  subst w1
  go_wp2_with fail
  go_loopw [7, 8] (fun v i wr => ∃ (l : List Bool) (c : Nat) (z : Int), c ≤ B - 1 ∧ l.length = c + 1 ∧ v = .string (bt l) ∧ i = .int .i64 z ∧ Hid (valN l = neg.toNat * 2 ^ c + a / 2 ^ (B - 1 - c) % 2 ^ c ∧ z = (B : Int) - 2 - c) ∧ Hid (Ax0 hi lo w wr)) (fun v i _ => (intOf i + 1).toNat)
  case atStart => exact ⟨[neg], 0, _, Nat.zero_le _, rfl, rfl, rfl, ⟨by rw [Nat.pow_zero, Nat.mod_one]; cases neg <;> rfl, by simp⟩, HST⟩
  case round =>
    clear HST HN
    obtain ⟨l, c, z, hc, hlen, rfl, rfl, hz, hst⟩ := hrel
    have hz2 := hz.out.2
    by_cases hlt : c < B - 1
    · have hj : 0 ≤ z := by omega
      have c0 := hst.out.s.h
      have c1 := hst.out.s.l
      have c2 := hst.out.s.lt
      obtain ⟨n, hn⟩ : ∃ n : Nat, z = (n : Int) := ⟨z.toNat, by omega⟩
      subst hn
      have hnb : n < 128 := by omega
      have HE := hide (show n = B - 1 - (c + 1) by omega)
      have HV : Hid (valN (l ++ [(a / 2 ^ n % 2 == 1)]) = neg.toNat * 2 ^ (c + 1) + a / 2 ^ (B - 1 - (c + 1)) % 2 ^ (c + 1)) := by
        unfold Hid
        have hlow : a / 2 ^ n % 2 < 2 := Nat.mod_lt _ (by decide)
        rw [valN_snoc, hz.out.1, ← HE.out, fld_step a n c, show n + 1 = B - 1 - c by omega, Nat.pow_succ, show (a / 2 ^ n % 2 == 1).toNat = a / 2 ^ n % 2 by
          generalize a / 2 ^ n % 2 = y at hlow ⊢
          have hy : y = 0 ∨ y = 1 := by omega
          rcases hy with rfl | rfl <;> rfl]
        generalize a / 2 ^ n % 2 = y
        generalize a / 2 ^ (B - 1 - c) % 2 ^ c = u
        rw [← Nat.mul_assoc]
        omega
      have HZ2 := hide (show (n : Int) - 1 = (B : Int) - 2 - ((c + 1 : Nat) : Int) by omega)
      have HLN : Hid ((l ++ [(a / 2 ^ n % 2 == 1)]).length = c + 1 + 1) := by unfold Hid; rw [List.length_append, hlen]; rfl
      have hs1 : (bt l).size ≤ 200 := by rw [bt_size]; omega
      have hs2 : ∀ b, (bt [b]).size = 1 := fun b => bt_size _
      have hn1 : (n : Int) < 128 := by omega
      clear hz hz2
      go_wp2_with fail
      refine (HBT.out n hnb _).mono ?_
      rintro e w1 ⟨rfl, hb1⟩
      have HS1 := hide (hst.out.below hb1)
      clear hb1 c0 c1 c2 hst
      generalize (a / 2 ^ n % 2 == 1) = b at *
      go_wp2_with fail
      refine (sign5_any b _).mono ?_
      rintro e w2 ⟨rfl, hw⟩
      subst w2
      have HA := hide (bt_app l [b])
      have hs3 := hs2 b
      clear hs2
      go_wp2
      go_roundw
      case rel => exact ⟨l ++ [b], c + 1, _, by omega, HLN.out, congrArg Value.string HA.out, rfl, ⟨HV.out, HZ2.out⟩, HS1⟩
      case measure =>
        show ((n : Int) - 1 + 1).toNat < ((n : Int) + 1).toNat
        omega
    · have hj : ¬ 0 ≤ z := by omega
      have HR : Hid (valN l = N) := by
        unfold Hid
        rw [← HSN.out]
        unfold sgnN
        rw [hz.out.1, show c = B - 1 by omega, Nat.sub_self, Nat.pow_zero, Nat.div_one]
      have HLE := hide (show l.length ≤ 1000 by omega)
      clear hz hz2 HBT
      go_wp2_with fail
      refine (refWord_any l HLE.out _).mono ?_
      rintro e w1 ⟨rfl, hb1⟩
      rw [HR.out]
      replace hst := hide (hst.out.below hb1)
      clear hb1 HR HLE hlen
      have z0 := hst.out.z 0 (by decide)
      have z1 := hst.out.z 1 (by decide)
      have hrf := hst.out.f
      have hlt2 := hst.out.lt
      have HB := hide hst.out.s.bel
      clear hst
      go_wp2
      exact bodyPost_ret (v := .agg #[.int .u64 (dgl (N) 1 : Nat), .int .u64 (dgl (N) 0 : Nat)]) (by simp [results, Tryz.results41, go_sem, hlt2, z0, z1]) rfl ⟨rfl, ((HB.out.setCell (p := ⟨w.heap.size + 1, 0, none⟩) (Nat.le_succ _) _).setCell (p := ⟨w.heap.size + 1, 1, none⟩) (Nat.le_succ _) _)⟩

def sgnU (f : Int) (neg : Bool) (a : Nat) : Nat := tU f (sgnN 16 neg a) (sgnN 32 neg a) (sgnN 64 neg a) (sgnN 128 neg a) 0

theorem refSgn_u (f : Int) (a : Nat) (ha : a < 2 ^ 128) (neg : Bool) (hf : clsU f a ≠ 0) (w : World) : Calls Tryz.prog 41 #[.int .i64 f, .agg #[.int .u64 (dgl (a) 1 : Nat), .int .u64 (dgl (a) 0 : Nat)], .bool neg] w fun e w' => e = .returned (.agg #[.int .u64 (dgl (sgnU f neg a) 1 : Nat), .int .u64 (dgl (sgnU f neg a) 0 : Nat)]) ∧ Below w.heap.size w w' := by
  rcases f_cases f with rfl | rfl | rfl | rfl | h
  · have h0 := refSgn_walk 1 16 (dgl a 1) (dgl a 0) neg (by decide) (by decide) (dgl_lt _ _) (dgl_lt _ _) (fun w => bits_1 w) w
    rw [word_back a ha] at h0
    skip
    exact h0
  · have h0 := refSgn_walk 2 32 (dgl a 1) (dgl a 0) neg (by decide) (by decide) (dgl_lt _ _) (dgl_lt _ _) (fun w => bits_2 w) w
    rw [word_back a ha] at h0
    skip
    exact h0
  · have h0 := refSgn_walk 3 64 (dgl a 1) (dgl a 0) neg (by decide) (by decide) (dgl_lt _ _) (dgl_lt _ _) (fun w => bits_3 w) w
    rw [word_back a ha] at h0
    skip
    exact h0
  · have h0 := refSgn_walk 4 128 (dgl a 1) (dgl a 0) neg (by decide) (by decide) (dgl_lt _ _) (dgl_lt _ _) (fun w => bits_4 w) w
    rw [word_back a ha] at h0
    skip
    exact h0
  · exact absurd (tU_none f h _ _ _ _ _) hf

theorem refFld_u (f : Int) (a : Nat) (ha : a < 2 ^ 128) (hf : clsU f a ≠ 0) (w : World) : Calls Tryz.prog 92 #[.int .i64 f, .agg #[.int .u64 (dgl (a) 1 : Nat), .int .u64 (dgl (a) 0 : Nat)]] w fun e w' => e = .returned (.int .i64 ((fldU f a : Nat) : Int)) ∧ Below w.heap.size w w' := by
  rcases f_cases f with rfl | rfl | rfl | rfl | h
  · have h0 := refFld_1 (dgl a 1) (dgl a 0) (dgl_lt _ _) (dgl_lt _ _) w
    rw [word_back a ha] at h0
    rw [show fldU 1 a = a / 2 ^ 10 % 2 ^ 5 from if_pos (cls_fit (B := 16) (P := 11) (F := 5) hf)]
    exact h0
  · have h0 := refFld_2 (dgl a 1) (dgl a 0) (dgl_lt _ _) (dgl_lt _ _) w
    rw [word_back a ha] at h0
    rw [show fldU 2 a = a / 2 ^ 23 % 2 ^ 8 from if_pos (cls_fit (B := 32) (P := 24) (F := 8) hf)]
    exact h0
  · have h0 := refFld_3 (dgl a 1) (dgl a 0) (dgl_lt _ _) (dgl_lt _ _) w
    rw [word_back a ha] at h0
    rw [show fldU 3 a = a / 2 ^ 52 % 2 ^ 11 from if_pos (cls_fit (B := 64) (P := 53) (F := 11) hf)]
    exact h0
  · have h0 := refFld_4 (dgl a 1) (dgl a 0) (dgl_lt _ _) (dgl_lt _ _) w
    rw [word_back a ha] at h0
    rw [show fldU 4 a = a / 2 ^ 112 % 2 ^ 15 from if_pos (cls_fit (B := 128) (P := 113) (F := 15) hf)]
    exact h0
  · exact absurd (tU_none f h _ _ _ _ _) hf

theorem refFrac_u (f : Int) (a : Nat) (ha : a < 2 ^ 128) (hf : clsU f a ≠ 0) (w : World) : Calls Tryz.prog 93 #[.int .i64 f, .agg #[.int .u64 (dgl (a) 1 : Nat), .int .u64 (dgl (a) 0 : Nat)]] w fun e w' => e = .returned (.agg #[.int .u64 (dgl (frcU f a) 0 : Nat), .int .u64 (dgl (frcU f a) 1 : Nat), .int .u64 (dgl (frcU f a) 2 : Nat), .int .u64 (dgl (frcU f a) 3 : Nat), .int .u64 (dgl (frcU f a) 4 : Nat), .int .u64 (dgl (frcU f a) 5 : Nat), .int .u64 (dgl (frcU f a) 6 : Nat), .int .u64 (dgl (frcU f a) 7 : Nat)]) ∧ Below w.heap.size w w' := by
  rcases f_cases f with rfl | rfl | rfl | rfl | h
  · have h0 := refFrac_1 (dgl a 1) (dgl a 0) (dgl_lt _ _) (dgl_lt _ _) w
    rw [word_back a ha] at h0
    rw [show frcU 1 a = a % 2 ^ 10 from if_pos (cls_fit (B := 16) (P := 11) (F := 5) hf)]
    exact h0
  · have h0 := refFrac_2 (dgl a 1) (dgl a 0) (dgl_lt _ _) (dgl_lt _ _) w
    rw [word_back a ha] at h0
    rw [show frcU 2 a = a % 2 ^ 23 from if_pos (cls_fit (B := 32) (P := 24) (F := 8) hf)]
    exact h0
  · have h0 := refFrac_3 (dgl a 1) (dgl a 0) (dgl_lt _ _) (dgl_lt _ _) w
    rw [word_back a ha] at h0
    rw [show frcU 3 a = a % 2 ^ 52 from if_pos (cls_fit (B := 64) (P := 53) (F := 11) hf)]
    exact h0
  · have h0 := refFrac_4 (dgl a 1) (dgl a 0) (dgl_lt _ _) (dgl_lt _ _) w
    rw [word_back a ha] at h0
    rw [show frcU 4 a = a % 2 ^ 112 from if_pos (cls_fit (B := 128) (P := 113) (F := 15) hf)]
    exact h0
  · exact absurd (tU_none f h _ _ _ _ _) hf

theorem sgn_abs (f : Int) (a : Nat) (h : clsU f a ≠ 0) : sgnU f false a = absU f a := by
  rcases f_cases f with rfl | rfl | rfl | rfl | h0
  · rw [show absU 1 a = a % 2 ^ (16 - 1) from if_pos (cls_fit (B := 16) (P := 11) (F := 5) h)]
    show 0 * _ + _ = _
    rw [Nat.zero_mul, Nat.zero_add]
  · rw [show absU 2 a = a % 2 ^ (32 - 1) from if_pos (cls_fit (B := 32) (P := 24) (F := 8) h)]
    show 0 * _ + _ = _
    rw [Nat.zero_mul, Nat.zero_add]
  · rw [show absU 3 a = a % 2 ^ (64 - 1) from if_pos (cls_fit (B := 64) (P := 53) (F := 11) h)]
    show 0 * _ + _ = _
    rw [Nat.zero_mul, Nat.zero_add]
  · rw [show absU 4 a = a % 2 ^ (128 - 1) from if_pos (cls_fit (B := 128) (P := 113) (F := 15) h)]
    show 0 * _ + _ = _
    rw [Nat.zero_mul, Nat.zero_add]
  · exact absurd (tU_none f h0 _ _ _ _ _) h
end Go.Proofs.YtpcjdllijkjdkaaGreatDoor

/- Words that lie in a block. -/
set_option linter.unusedVariables false
set_option linter.unusedSimpArgs false
set_option maxRecDepth 8000
namespace Go.Proofs.YtpcjdllijkjdkaaGreatDoor
open Go.RowKit Plain

theorem clsN_ne {B P F a : Nat} (h : a < 2 ^ B) : clsN B P F a ≠ 0 := by
  unfold clsN clsP
  rw [if_pos h]
  split
  · split
    · decide
    · split <;> decide
  · split
    · split <;> decide
    · decide
theorem word_num (hi lo : Nat) (hh : hi < 18446744073709551616) (hl : lo < 18446744073709551616) : dgl (lo + 18446744073709551616 * hi) 1 = hi ∧ dgl (lo + 18446744073709551616 * hi) 0 = lo := by
  rw [dgl0, dgl1]
  omega

/-- A word that lies in a block. -/
structure WB (W : World) (p x y : Nat) : Prop where
  h : W.cell? ⟨p, 0, none⟩ = some (.int .u64 (x : Nat))
  l : W.cell? ⟨p, 1, none⟩ = some (.int .u64 (y : Nat))
  lt : p < W.heap.size
theorem WB.below {W W' : World} {p x y : Nat} (h : WB W p x y) (hb : Below W.heap.size W W') : WB W' p x y :=
  ⟨(hb.cell (p := ⟨p, 0, none⟩) h.lt).trans h.h, (hb.cell (p := ⟨p, 1, none⟩) h.lt).trans h.l, Nat.lt_of_lt_of_le h.lt hb.size⟩
theorem wb_set {W : World} {p x y x2 y2 : Nat} (h : WB W p x y) : WB ((W.setCell ⟨p, 0, none⟩ (.int .u64 (x2 : Nat))).setCell ⟨p, 1, none⟩ (.int .u64 (y2 : Nat))) p x2 y2 := by
  have h1 := h.h
  have h2 := h.l
  have h3 := h.lt
  exact ⟨by simp [go_sem, h1, h2, h3], by simp [go_sem, h1, h2, h3], by simpa [go_sem] using h3⟩
theorem wb_new (w : World) (e : TypeId) : WB (w.alloc (.cells #[.int .u64 0, .int .u64 0] e)) w.heap.size 0 0 :=
  ⟨by simp [go_sem], by simp [go_sem], by simp⟩
end Go.Proofs.YtpcjdllijkjdkaaGreatDoor

