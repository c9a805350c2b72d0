/- Contracts and laws: ClsJ, ClsK, ClsL, ClsM, ClsN, ClsO, ClsP, ClsR, ClsQ, WordB. -/
import Derived.Test.YtpcjdllijkjdkaaDoorPartAS
import Derived.Test.YtpcjdllijkjdkaaDoorPartAP
import Derived.Test.YtpcjdllijkjdkaaDoorPartAO
/- Contracts: class.Make, where it tells a word. -/
set_option linter.unusedVariables false
set_option linter.unusedSimpArgs false
set_option maxRecDepth 8000
namespace Go.Proofs.YtpcjdllijkjdkaaDoor
open Go.RowKit Plain

set_option maxHeartbeats 2000000 in
theorem make_walk (f : Int) (neg : Bool) (z : Int) (b : Nat) (k : Nat → Int) (m x u s nh nl o t : Nat) (ov ov2 : Bool) (hw1 : IntKind.i64.wrap (k 1 - 1) = k 1 - 1) (HZ : Hid (decide (z < 0) = false)) (HM : Hid (decide ((m : Int) < z) = false)) (HL : Hid (decide (k 1 - 1 < (Go.bitLen b : Int)) = false)) (HXZ : Hid (IntKind.u64.wrap z = (x : Int))) (HXD : Hid (∀ i, i < 8 → dg [x] i = dgl x i)) (HO : Hid (∀ w, FmtG w → Calls Tryd.prog 47 #[.int .i64 f] w fun e w' => e = .returned (.tuple #[.agg #[.int .i64 (k 0), .int .i64 (k 1), .int .i64 (k 2), .int .i64 (k 3), .int .i64 (k 4)], .bool true]) ∧ Below w.heap.size w w')) (HON : Hid (∀ w, Calls Tryd.prog 110 #[.agg #[.int .i64 (k 0), .int .i64 (k 1), .int .i64 (k 2), .int .i64 (k 3), .int .i64 (k 4)]] w fun e w' => e = .returned (.int .i64 ((m : Nat) : Int)) ∧ Below w.heap.size w w')) (HLN : Hid (∀ w, Calls Tryd.prog 52 #[.agg #[.int .u64 (dgl (b) 0 : Nat), .int .u64 (dgl (b) 1 : Nat), .int .u64 (dgl (b) 2 : Nat), .int .u64 (dgl (b) 3 : Nat), .int .u64 (dgl (b) 4 : Nat), .int .u64 (dgl (b) 5 : Nat), .int .u64 (dgl (b) 6 : Nat), .int .u64 (dgl (b) 7 : Nat)]] w fun e w' => e = .returned (.int .i64 (Go.bitLen b : Nat)) ∧ Below w.heap.size w w'))
    (HSL : Hid (∀ w, Calls Tryd.prog 107 #[.agg #[.int .u64 (dgl (x) 0 : Nat), .int .u64 (dgl (x) 1 : Nat), .int .u64 (dgl (x) 2 : Nat), .int .u64 (dgl (x) 3 : Nat), .int .u64 (dgl (x) 4 : Nat), .int .u64 (dgl (x) 5 : Nat), .int .u64 (dgl (x) 6 : Nat), .int .u64 (dgl (x) 7 : Nat)], .int .i64 (k 1 - 1)] w fun e w' => e = .returned (.agg #[.int .u64 (dgl (u) 0 : Nat), .int .u64 (dgl (u) 1 : Nat), .int .u64 (dgl (u) 2 : Nat), .int .u64 (dgl (u) 3 : Nat), .int .u64 (dgl (u) 4 : Nat), .int .u64 (dgl (u) 5 : Nat), .int .u64 (dgl (u) 6 : Nat), .int .u64 (dgl (u) 7 : Nat)]) ∧ Below w.heap.size w w'))
    (HA1 : Hid (∀ w, Calls Tryd.prog 100 #[.agg #[.int .u64 (dgl (u) 0 : Nat), .int .u64 (dgl (u) 1 : Nat), .int .u64 (dgl (u) 2 : Nat), .int .u64 (dgl (u) 3 : Nat), .int .u64 (dgl (u) 4 : Nat), .int .u64 (dgl (u) 5 : Nat), .int .u64 (dgl (u) 6 : Nat), .int .u64 (dgl (u) 7 : Nat)], .agg #[.int .u64 (dgl (b) 0 : Nat), .int .u64 (dgl (b) 1 : Nat), .int .u64 (dgl (b) 2 : Nat), .int .u64 (dgl (b) 3 : Nat), .int .u64 (dgl (b) 4 : Nat), .int .u64 (dgl (b) 5 : Nat), .int .u64 (dgl (b) 6 : Nat), .int .u64 (dgl (b) 7 : Nat)]] w fun e w' => e = .returned (.tuple #[.agg #[.int .u64 (dgl (s) 0 : Nat), .int .u64 (dgl (s) 1 : Nat), .int .u64 (dgl (s) 2 : Nat), .int .u64 (dgl (s) 3 : Nat), .int .u64 (dgl (s) 4 : Nat), .int .u64 (dgl (s) 5 : Nat), .int .u64 (dgl (s) 6 : Nat), .int .u64 (dgl (s) 7 : Nat)], .bool ov]) ∧ Below w.heap.size w w'))
    (HNO : Hid (∀ w, FmtG w → Calls Tryd.prog 49 #[.int .i64 f, .bool neg] w fun e w' => e = .returned (.agg #[.int .u64 (nh : Nat), .int .u64 (nl : Nat)]) ∧ Below w.heap.size w w'))
    (HFR : Hid (∀ w, Calls Tryd.prog 111 #[.agg #[.int .u64 (nh : Nat), .int .u64 (nl : Nat)]] w fun e w' => e = .returned (.agg #[.int .u64 (dgl (o) 0 : Nat), .int .u64 (dgl (o) 1 : Nat), .int .u64 (dgl (o) 2 : Nat), .int .u64 (dgl (o) 3 : Nat), .int .u64 (dgl (o) 4 : Nat), .int .u64 (dgl (o) 5 : Nat), .int .u64 (dgl (o) 6 : Nat), .int .u64 (dgl (o) 7 : Nat)]) ∧ Below w.heap.size w w'))
    (HA2 : Hid (∀ w, Calls Tryd.prog 100 #[.agg #[.int .u64 (dgl (s) 0 : Nat), .int .u64 (dgl (s) 1 : Nat), .int .u64 (dgl (s) 2 : Nat), .int .u64 (dgl (s) 3 : Nat), .int .u64 (dgl (s) 4 : Nat), .int .u64 (dgl (s) 5 : Nat), .int .u64 (dgl (s) 6 : Nat), .int .u64 (dgl (s) 7 : Nat)], .agg #[.int .u64 (dgl (o) 0 : Nat), .int .u64 (dgl (o) 1 : Nat), .int .u64 (dgl (o) 2 : Nat), .int .u64 (dgl (o) 3 : Nat), .int .u64 (dgl (o) 4 : Nat), .int .u64 (dgl (o) 5 : Nat), .int .u64 (dgl (o) 6 : Nat), .int .u64 (dgl (o) 7 : Nat)]] w fun e w' => e = .returned (.tuple #[.agg #[.int .u64 (dgl (t) 0 : Nat), .int .u64 (dgl (t) 1 : Nat), .int .u64 (dgl (t) 2 : Nat), .int .u64 (dgl (t) 3 : Nat), .int .u64 (dgl (t) 4 : Nat), .int .u64 (dgl (t) 5 : Nat), .int .u64 (dgl (t) 6 : Nat), .int .u64 (dgl (t) 7 : Nat)], .bool ov2]) ∧ Below w.heap.size w w')) (w : World) (hg : FmtG w) :
    Calls Tryd.prog 53 #[.int .i64 f, .bool neg, .int .i64 z, .agg #[.int .u64 (dgl (b) 0 : Nat), .int .u64 (dgl (b) 1 : Nat), .int .u64 (dgl (b) 2 : Nat), .int .u64 (dgl (b) 3 : Nat), .int .u64 (dgl (b) 4 : Nat), .int .u64 (dgl (b) 5 : Nat), .int .u64 (dgl (b) 6 : Nat), .int .u64 (dgl (b) 7 : Nat)]] w fun e w' => e = .returned (.tuple #[.agg #[.int .u64 (dgl t 1 : Nat), .int .u64 (dgl t 0 : Nat)], .bool true]) ∧ Below w.heap.size w w' := by
  have HG0 := hide hg
  have HG := hide ((hg.below (below_allocs w (.cells #[.int .u64 (dgl (b) 0 : Nat), .int .u64 (dgl (b) 1 : Nat), .int .u64 (dgl (b) 2 : Nat), .int .u64 (dgl (b) 3 : Nat), .int .u64 (dgl (b) 4 : Nat), .int .u64 (dgl (b) 5 : Nat), .int .u64 (dgl (b) 6 : Nat), .int .u64 (dgl (b) 7 : Nat)] 24))).below (below_allocs _ (.cells #[.int .u64 0, .int .u64 0] 28)))
  clear hg
  go_enter Tryd.func53, Tryd.ntmps53
  go_wp2_with fail
  refine (HO.out _ HG.out).mono ?_
  rintro e w1 ⟨rfl, hb1⟩
  have HST := hide (mkSt_start w w1 k b HG0.out hb1)
  clear hb1 HG HG0
  go_upto_region 2 with fail
  refine wp_gen (fun W => MkSt w w1.heap.size k b W) HST.out ?_
  clear HST
  rintro W1 h1
  generalize w1.heap.size = p at *
  refine wp_region_grow 20 [(19, .val (.bool true)), (20, .val (.bool false)), (21, .val (.bool false)), (22, .val (.int .i64 z)), (23, .val (.bool false)), (24, .val (.bool false)), (25, .val (.bool false)), (26, .val (.int .i64 z)), (27, .val (.agg #[.int .i64 (k 0), .int .i64 (k 1), .int .i64 (k 2), .int .i64 (k 3), .int .i64 (k 4)])), (28, .val (.int .i64 ((m : Nat) : Int))), (29, .val (.bool false)), (30, .val (.bool false)), (31, .val (.bool false)), (32, .val (.agg #[.int .u64 (dgl (b) 0 : Nat), .int .u64 (dgl (b) 1 : Nat), .int .u64 (dgl (b) 2 : Nat), .int .u64 (dgl (b) 3 : Nat), .int .u64 (dgl (b) 4 : Nat), .int .u64 (dgl (b) 5 : Nat), .int .u64 (dgl (b) 6 : Nat), .int .u64 (dgl (b) 7 : Nat)])), (33, .val (.int .i64 (Go.bitLen b : Nat))), (34, .val (.pointer (some ⟨p, 1, none⟩))), (35, .val (.int .i64 (k 1))), (36, .val (.int .i64 (k 1 - 1))), (37, .val (.bool false)), (38, .val (.bool false))]
    (fun W => MkSt w p k b W) mixedOk (by kernel_rfl) (by kernel_rfl) (h1.below (Below.refl _ _).drew) (fun W W' h hb => h.below hb) ?_ ?_
  · refine gSt (gStep_run rfl (gRun_move 11 19 (.inl rfl) rfl (by decide +kernel) (fun v w h => h))) ?_
    refine gSt (gStep_run rfl ?_) ?_
    · intro ρ W hC hc hf hL
      have e19 : ρ (.tmp 19) = .bool true := hL 19 (by decide +kernel)
      simp [go_sem, hc, hf, e19]
      exact ⟨Below.refl _ _, rfl⟩
    refine gSt (gStep_run rfl (gRun_move 20 21 (.inl rfl) rfl (by decide +kernel) (fun v w h => h))) ?_
    refine gSt (gStep_on 2 21 false rfl rfl (by decide +kernel) (fun v w h => h) (gRun_move 2 22 (.inl rfl) rfl (by decide +kernel) (fun v w h => h))) ?_
    refine gSt (gStep_on 2 21 false rfl rfl (by decide +kernel) (fun v w h => h) ?_) ?_
    · intro ρ W hC hc hf hL
      have e22 : ρ (.tmp 22) = .int .i64 z := hL 22 (by decide +kernel)
      have hl := HZ.out
      simp [go_sem, hc, hf, e22, hl]
      exact ⟨Below.refl _ _, rfl⟩
    refine gSt (gStep_run rfl (gRun_pickCF 21 23 24 _ rfl rfl (by decide +kernel) (by decide +kernel) (fun v w h => h) (fun v w h => h))) ?_
    refine gSt (gStep_run rfl (gRun_move 24 25 (.inl rfl) rfl (by decide +kernel) (fun v w h => h))) ?_
    refine gSt (gStep_on 6 25 false rfl rfl (by decide +kernel) (fun v w h => h) (gRun_move 2 26 (.inl rfl) rfl (by decide +kernel) (fun v w h => h))) ?_
    refine gSt (gStep_on 6 25 false rfl rfl (by decide +kernel) (fun v w h => h) ?_) ?_
    · intro ρ W hC hc hf hL
      have e10 : ρ (.tmp 10) = .pointer (some ⟨p, 0, none⟩) := hL 10 (by decide +kernel)
      have g0 := hC.rk 0 (by decide)
      have g1 := hC.rk 1 (by decide)
      have g2 := hC.rk 2 (by decide)
      have g3 := hC.rk 3 (by decide)
      have g4 := hC.rk 4 (by decide)
      simp [go_sem, hc, hf, e10, g0, g1, g2, g3, g4]
      exact ⟨Below.refl _ _, rfl⟩
    refine gSt (gStep_on 6 25 false rfl rfl (by decide +kernel) (fun v w h => h) ?_) ?_
    · intro ρ W hC hc hf hL
      have e27 : ρ (.tmp 27) = .agg #[.int .i64 (k 0), .int .i64 (k 1), .int .i64 (k 2), .int .i64 (k 3), .int .i64 (k 4)] := hL 27 (by decide +kernel)
      simp [go_sem, hc, hf, e27]
      refine (HON.out W).mono ?_
      rintro e w' ⟨rfl, hb⟩
      exact ⟨_, rfl, by first | exact hb | (subst hb; exact Below.refl _ _), rfl⟩
    refine gSt (gStep_on 6 25 false rfl rfl (by decide +kernel) (fun v w h => h) ?_) ?_
    · intro ρ W hC hc hf hL
      have e26 : ρ (.tmp 26) = .int .i64 z := hL 26 (by decide +kernel)
      have e28 : ρ (.tmp 28) = .int .i64 ((m : Nat) : Int) := hL 28 (by decide +kernel)
      have hl := HM.out
      simp [go_sem, hc, hf, e26, e28, hl]
      exact ⟨Below.refl _ _, rfl⟩
    refine gSt (gStep_run rfl (gRun_pickCF 25 29 30 _ rfl rfl (by decide +kernel) (by decide +kernel) (fun v w h => h) (fun v w h => h))) ?_
    refine gSt (gStep_run rfl (gRun_move 30 31 (.inl rfl) rfl (by decide +kernel) (fun v w h => h))) ?_
    refine gSt (gStep_on 12 31 false rfl rfl (by decide +kernel) (fun v w h => h) ?_) ?_
    · intro ρ W hC hc hf hL
      have e7 : ρ (.tmp 7) = .pointer (some ⟨w.heap.size, 0, none⟩) := hL 7 (by decide +kernel)
      have hl := hC.lb.1
      simp [go_sem, hc, hf, e7, hl]
      exact ⟨Below.refl _ _, rfl⟩
    refine gSt (gStep_on 12 31 false rfl rfl (by decide +kernel) (fun v w h => h) ?_) ?_
    · intro ρ W hC hc hf hL
      have e32 : ρ (.tmp 32) = .agg #[.int .u64 (dgl (b) 0 : Nat), .int .u64 (dgl (b) 1 : Nat), .int .u64 (dgl (b) 2 : Nat), .int .u64 (dgl (b) 3 : Nat), .int .u64 (dgl (b) 4 : Nat), .int .u64 (dgl (b) 5 : Nat), .int .u64 (dgl (b) 6 : Nat), .int .u64 (dgl (b) 7 : Nat)] := hL 32 (by decide +kernel)
      simp [go_sem, hc, hf, e32]
      refine (HLN.out W).mono ?_
      rintro e w' ⟨rfl, hb⟩
      exact ⟨_, rfl, by first | exact hb | (subst hb; exact Below.refl _ _), rfl⟩
    refine gSt (gStep_on 12 31 false rfl rfl (by decide +kernel) (fun v w h => h) ?_) ?_
    · intro ρ W hC hc hf hL
      have e10 : ρ (.tmp 10) = .pointer (some ⟨p, 0, none⟩) := hL 10 (by decide +kernel)
      simp [go_sem, hc, hf, e10]
      exact ⟨Below.refl _ _, rfl⟩
    refine gSt (gStep_on 12 31 false rfl rfl (by decide +kernel) (fun v w h => h) ?_) ?_
    · intro ρ W hC hc hf hL
      have e34 : ρ (.tmp 34) = .pointer (some ⟨p, 1, none⟩) := hL 34 (by decide +kernel)
      have hl := hC.rk 1 (by decide)
      simp [go_sem, hc, hf, e34, hl]
      exact ⟨Below.refl _ _, rfl⟩
    refine gSt (gStep_on 12 31 false rfl rfl (by decide +kernel) (fun v w h => h) ?_) ?_
    · intro ρ W hC hc hf hL
      have e35 : ρ (.tmp 35) = .int .i64 (k 1) := hL 35 (by decide +kernel)
      simp [go_sem, hc, hf, e35, hw1]
      exact ⟨Below.refl _ _, rfl⟩
    refine gSt (gStep_on 12 31 false rfl rfl (by decide +kernel) (fun v w h => h) ?_) ?_
    · intro ρ W hC hc hf hL
      have e33 : ρ (.tmp 33) = .int .i64 (Go.bitLen b : Nat) := hL 33 (by decide +kernel)
      have e36 : ρ (.tmp 36) = .int .i64 (k 1 - 1) := hL 36 (by decide +kernel)
      have hl := HL.out
      simp [go_sem, hc, hf, e33, e36, hl]
      exact ⟨Below.refl _ _, rfl⟩
    refine gSt (gStep_run rfl (gRun_pickCF 31 37 38 _ rfl rfl (by decide +kernel) (by decide +kernel) (fun v w h => h) (fun v w h => h))) ?_
    exact gSt0
  · intro W hC
    refine gFi 19 rfl ?_
    rintro _ rfl
    refine gFi 20 rfl ?_
    rintro _ rfl
    refine gFi 21 rfl ?_
    rintro _ rfl
    refine gFi 22 rfl ?_
    rintro _ rfl
    refine gFi 23 rfl ?_
    rintro _ rfl
    refine gFi 24 rfl ?_
    rintro _ rfl
    refine gFi 25 rfl ?_
    rintro _ rfl
    refine gFi 26 rfl ?_
    rintro _ rfl
    refine gFi 27 rfl ?_
    rintro _ rfl
    refine gFi 28 rfl ?_
    rintro _ rfl
    refine gFi 29 rfl ?_
    rintro _ rfl
    refine gFi 30 rfl ?_
    rintro _ rfl
    refine gFi 31 rfl ?_
    rintro _ rfl
    refine gFi 32 rfl ?_
    rintro _ rfl
    refine gFi 33 rfl ?_
    rintro _ rfl
    refine gFi 34 rfl ?_
    rintro _ rfl
    refine gFi 35 rfl ?_
    rintro _ rfl
    refine gFi 36 rfl ?_
    rintro _ rfl
    refine gFi 37 rfl ?_
    rintro _ rfl
    refine gFi 38 rfl ?_
    rintro _ rfl
    refine gFi0 ?_
    simp only [List.drop_succ_cons, List.drop_zero, Act.put, List.setIfInBounds_toArray, List.set_cons_succ, List.set_cons_zero]
    have HC := hide hC
    clear hC h1
    go_upto_region 4 with fail
    refine wp_gen (fun W => MkSt w p k b W) HC.out ?_
    clear HC
    rintro W1 h1
    refine wp_region_storeK 15 [14] [41, 42, 43, 44, 45, 46, 47, 48, 49, 50, 40, 51, 52, 12] (fun bs => [(41, .val (.int .i64 z)), (42, .val (.int .u64 (x : Nat))), (43, bif bs.headD false then SlotIs.any  else SlotIs.rd [x]), (44, .val (.agg #[.int .u64 (dgl (x) 0 : Nat), .int .u64 (dgl (x) 1 : Nat), .int .u64 (dgl (x) 2 : Nat), .int .u64 (dgl (x) 3 : Nat), .int .u64 (dgl (x) 4 : Nat), .int .u64 (dgl (x) 5 : Nat), .int .u64 (dgl (x) 6 : Nat), .int .u64 (dgl (x) 7 : Nat)])), (45, .val (.pointer (some ⟨p, 1, none⟩))), (46, .val (.int .i64 (k 1))), (47, .val (.int .i64 (k 1 - 1))), (48, .val (.agg #[.int .u64 (dgl (u) 0 : Nat), .int .u64 (dgl (u) 1 : Nat), .int .u64 (dgl (u) 2 : Nat), .int .u64 (dgl (u) 3 : Nat), .int .u64 (dgl (u) 4 : Nat), .int .u64 (dgl (u) 5 : Nat), .int .u64 (dgl (u) 6 : Nat), .int .u64 (dgl (u) 7 : Nat)])), (49, .val (.agg #[.int .u64 (dgl (b) 0 : Nat), .int .u64 (dgl (b) 1 : Nat), .int .u64 (dgl (b) 2 : Nat), .int .u64 (dgl (b) 3 : Nat), .int .u64 (dgl (b) 4 : Nat), .int .u64 (dgl (b) 5 : Nat), .int .u64 (dgl (b) 6 : Nat), .int .u64 (dgl (b) 7 : Nat)])), (50, .val (.tuple #[.agg #[.int .u64 (dgl (s) 0 : Nat), .int .u64 (dgl (s) 1 : Nat), .int .u64 (dgl (s) 2 : Nat), .int .u64 (dgl (s) 3 : Nat), .int .u64 (dgl (s) 4 : Nat), .int .u64 (dgl (s) 5 : Nat), .int .u64 (dgl (s) 6 : Nat), .int .u64 (dgl (s) 7 : Nat)], .bool ov])), (40, .val (.tuple #[.agg #[.int .u64 (dgl (s) 0 : Nat), .int .u64 (dgl (s) 1 : Nat), .int .u64 (dgl (s) 2 : Nat), .int .u64 (dgl (s) 3 : Nat), .int .u64 (dgl (s) 4 : Nat), .int .u64 (dgl (s) 5 : Nat), .int .u64 (dgl (s) 6 : Nat), .int .u64 (dgl (s) 7 : Nat)], .bool ov])), (51, .val (.agg #[.int .u64 (dgl (s) 0 : Nat), .int .u64 (dgl (s) 1 : Nat), .int .u64 (dgl (s) 2 : Nat), .int .u64 (dgl (s) 3 : Nat), .int .u64 (dgl (s) 4 : Nat), .int .u64 (dgl (s) 5 : Nat), .int .u64 (dgl (s) 6 : Nat), .int .u64 (dgl (s) 7 : Nat)])), (52, .val (.bool ov)), (12, bif bs.headD false then SlotIs.box (p + 1) (dgl s) else SlotIs.box (p + 1) (fun _ => 0))])
      (fun _ W => MkSt w p k b W) (fun bs => rfl) mixedOk (by kernel_rfl) (by kernel_rfl) (by kernel_rfl) (h1.below (Below.refl _ _).drew) (fun bs W W' h hb => h.below hb) ?_ ?_
    · refine kSt rfl (fun φ hφ => gStep_run rfl (gRun_move 2 41 (.inl rfl) rfl (by decide +kernel) (fun v w h => h))) ?_
      refine kSt rfl (fun φ hφ => gStep_run rfl ?_) ?_
      · intro ρ W hC hc hf hL
        have e41 : ρ (.tmp 41) = .int .i64 z := hL 41 (by decide +kernel)
        have hl := HXZ.out
        simp [go_sem, hc, hf, e41, hl]
        exact ⟨Below.refl _ _, rfl⟩
      refine kSt rfl (fun φ hφ => gStep_run rfl ?_) ?_
      · intro ρ W hC hc hf hL
        have hφ0 : φ 14 = false := hφ 14 (by simp) (by kernel_rfl)
        have e42 : ρ (.tmp 42) = .int .u64 (x : Nat) := hL 42 (by decide +kernel)
        simp [go_sem, hc, hf, e42]
        refine ⟨below_allocs _ _, ?_⟩
        show (bif φ 14 then SlotIs.any else SlotIs.rd [x]).R _ _
        rw [hφ0]
        exact Rd.lit (mk := mk64) W 22 [.int .u64 (x : Nat)] [x] rfl 1 (Nat.le_refl 1) (by decide)
      refine kSt rfl (fun φ hφ => gStep_run rfl ?_) ?_
      · intro ρ W hC hc hf hL
        have hφ0 : φ 14 = false := hφ 14 (by simp) (by kernel_rfl)
        have b43 : (bif φ 14 then SlotIs.any  else SlotIs.rd [x]).R (ρ (.tmp 43)) W := hL 43 (by decide +kernel)
        rw [hφ0] at b43
        simp [go_sem, hc, hf]
        refine (wideOf_any [x] x _ _ b43 HXD.out).mono ?_
        rintro e w' ⟨rfl, hb⟩
        exact ⟨_, rfl, by first | exact hb | (subst hb; exact Below.refl _ _), rfl⟩
      refine kSt rfl (fun φ hφ => gStep_run rfl ?_) ?_
      · intro ρ W hC hc hf hL
        have e10 : ρ (.tmp 10) = .pointer (some ⟨p, 0, none⟩) := hL 10 (by decide +kernel)
        simp [go_sem, hc, hf, e10]
        exact ⟨Below.refl _ _, rfl⟩
      refine kSt rfl (fun φ hφ => gStep_run rfl ?_) ?_
      · intro ρ W hC hc hf hL
        have e45 : ρ (.tmp 45) = .pointer (some ⟨p, 1, none⟩) := hL 45 (by decide +kernel)
        have hl := hC.rk 1 (by decide)
        simp [go_sem, hc, hf, e45, hl]
        exact ⟨Below.refl _ _, rfl⟩
      refine kSt rfl (fun φ hφ => gStep_run rfl ?_) ?_
      · intro ρ W hC hc hf hL
        have e46 : ρ (.tmp 46) = .int .i64 (k 1) := hL 46 (by decide +kernel)
        simp [go_sem, hc, hf, e46, hw1]
        exact ⟨Below.refl _ _, rfl⟩
      refine kSt rfl (fun φ hφ => gStep_run rfl ?_) ?_
      · intro ρ W hC hc hf hL
        have e44 : ρ (.tmp 44) = .agg #[.int .u64 (dgl (x) 0 : Nat), .int .u64 (dgl (x) 1 : Nat), .int .u64 (dgl (x) 2 : Nat), .int .u64 (dgl (x) 3 : Nat), .int .u64 (dgl (x) 4 : Nat), .int .u64 (dgl (x) 5 : Nat), .int .u64 (dgl (x) 6 : Nat), .int .u64 (dgl (x) 7 : Nat)] := hL 44 (by decide +kernel)
        have e47 : ρ (.tmp 47) = .int .i64 (k 1 - 1) := hL 47 (by decide +kernel)
        simp [go_sem, hc, hf, e44, e47]
        refine (HSL.out W).mono ?_
        rintro e w' ⟨rfl, hb⟩
        exact ⟨_, rfl, by first | exact hb | (subst hb; exact Below.refl _ _), rfl⟩
      refine kSt rfl (fun φ hφ => gStep_run rfl ?_) ?_
      · intro ρ W hC hc hf hL
        have e7 : ρ (.tmp 7) = .pointer (some ⟨w.heap.size, 0, none⟩) := hL 7 (by decide +kernel)
        have hl := hC.lb.1
        simp [go_sem, hc, hf, e7, hl]
        exact ⟨Below.refl _ _, rfl⟩
      refine kSt rfl (fun φ hφ => gStep_run rfl ?_) ?_
      · intro ρ W hC hc hf hL
        have e48 : ρ (.tmp 48) = .agg #[.int .u64 (dgl (u) 0 : Nat), .int .u64 (dgl (u) 1 : Nat), .int .u64 (dgl (u) 2 : Nat), .int .u64 (dgl (u) 3 : Nat), .int .u64 (dgl (u) 4 : Nat), .int .u64 (dgl (u) 5 : Nat), .int .u64 (dgl (u) 6 : Nat), .int .u64 (dgl (u) 7 : Nat)] := hL 48 (by decide +kernel)
        have e49 : ρ (.tmp 49) = .agg #[.int .u64 (dgl (b) 0 : Nat), .int .u64 (dgl (b) 1 : Nat), .int .u64 (dgl (b) 2 : Nat), .int .u64 (dgl (b) 3 : Nat), .int .u64 (dgl (b) 4 : Nat), .int .u64 (dgl (b) 5 : Nat), .int .u64 (dgl (b) 6 : Nat), .int .u64 (dgl (b) 7 : Nat)] := hL 49 (by decide +kernel)
        simp [go_sem, hc, hf, e48, e49]
        refine (HA1.out W).mono ?_
        rintro e w' ⟨rfl, hb⟩
        exact ⟨_, rfl, by first | exact hb | (subst hb; exact Below.refl _ _), rfl⟩
      refine kSt rfl (fun φ hφ => gStep_run rfl (gRun_move 50 40 (.inl rfl) rfl (by decide +kernel) (fun v w h => h))) ?_
      refine kSt rfl (fun φ hφ => gStep_run rfl ?_) ?_
      · intro ρ W hC hc hf hL
        have e40 : ρ (.tmp 40) = .tuple #[.agg #[.int .u64 (dgl (s) 0 : Nat), .int .u64 (dgl (s) 1 : Nat), .int .u64 (dgl (s) 2 : Nat), .int .u64 (dgl (s) 3 : Nat), .int .u64 (dgl (s) 4 : Nat), .int .u64 (dgl (s) 5 : Nat), .int .u64 (dgl (s) 6 : Nat), .int .u64 (dgl (s) 7 : Nat)], .bool ov] := hL 40 (by decide +kernel)
        simp [go_sem, hc, hf, e40]
        exact ⟨Below.refl _ _, rfl⟩
      refine kSt rfl (fun φ hφ => gStep_run rfl ?_) ?_
      · intro ρ W hC hc hf hL
        have e40 : ρ (.tmp 40) = .tuple #[.agg #[.int .u64 (dgl (s) 0 : Nat), .int .u64 (dgl (s) 1 : Nat), .int .u64 (dgl (s) 2 : Nat), .int .u64 (dgl (s) 3 : Nat), .int .u64 (dgl (s) 4 : Nat), .int .u64 (dgl (s) 5 : Nat), .int .u64 (dgl (s) 6 : Nat), .int .u64 (dgl (s) 7 : Nat)], .bool ov] := hL 40 (by decide +kernel)
        simp [go_sem, hc, hf, e40]
        exact ⟨Below.refl _ _, rfl⟩
      refine kSt rfl (fun φ hφ => gStep_run rfl ?_) ?_
      · intro ρ W hC hc hf hL
        have hφ0 : φ 14 = false := hφ 14 (by simp) (by kernel_rfl)
        simp [go_sem, hc, hf]
        refine ⟨below_allocs _ _, ?_⟩
        show (bif φ 14 then SlotIs.box (p + 1) (dgl s) else SlotIs.box (p + 1) (fun _ => 0)).R _ _
        rw [hφ0]
        exact ⟨_, rfl, hC.lk, liesF_new _ (fun _ => 0) _, fun i => by simp [go_sem]⟩
      refine kStS rfl ⟨rfl, rfl, ?_⟩ ?_
      · intro φ ρ W hφ hC hc hL
        have b12 := hL 12 (by decide +kernel)
        have e51 : ρ (.tmp 51) = .agg #[.int .u64 (dgl (s) 0 : Nat), .int .u64 (dgl (s) 1 : Nat), .int .u64 (dgl (s) 2 : Nat), .int .u64 (dgl (s) 3 : Nat), .int .u64 (dgl (s) 4 : Nat), .int .u64 (dgl (s) 5 : Nat), .int .u64 (dgl (s) 6 : Nat), .int .u64 (dgl (s) 7 : Nat)] := hL 51 (by decide +kernel)
        have b12 : (bif φ 14 then SlotIs.box (p + 1) (dgl s) else SlotIs.box (p + 1) (fun _ => 0)).R (ρ (.tmp 12)) W := hL 12 (by decide +kernel)
        rw [hφ] at b12
        obtain ⟨p12, e12, q12, l12, z12⟩ := b12
        have hz := l12.1
        have hzl := l12.2
        refine gUpon_of ((((((((W.setCell ⟨p12, 0, none⟩ (.int .u64 (dgl s 0 : Nat))).setCell ⟨p12, 1, none⟩ (.int .u64 (dgl s 1 : Nat))).setCell ⟨p12, 2, none⟩ (.int .u64 (dgl s 2 : Nat))).setCell ⟨p12, 3, none⟩ (.int .u64 (dgl s 3 : Nat))).setCell ⟨p12, 4, none⟩ (.int .u64 (dgl s 4 : Nat))).setCell ⟨p12, 5, none⟩ (.int .u64 (dgl s 5 : Nat))).setCell ⟨p12, 6, none⟩ (.int .u64 (dgl s 6 : Nat))).setCell ⟨p12, 7, none⟩ (.int .u64 (dgl s 7 : Nat))) ?_ (fun _ => ?_)
        · simp [go_sem, hc, e51, e12, hz, hzl, z12, gUpon]
        have hs8 := below_set8 (Below.refl (p + 1) W) p12 q12 (.int .u64 (dgl s 0 : Nat)) (.int .u64 (dgl s 1 : Nat)) (.int .u64 (dgl s 2 : Nat)) (.int .u64 (dgl s 3 : Nat)) (.int .u64 (dgl s 4 : Nat)) (.int .u64 (dgl s 5 : Nat)) (.int .u64 (dgl s 6 : Nat)) (.int .u64 (dgl s 7 : Nat))
        refine ⟨hC.under hs8 (by omega), fun t => ?_⟩
        refine (tbl_imp rfl (fun _ => val_imp) (tbl_imp rfl (fun _ => val_imp) (tbl_imp rfl (fun _ h => ?_) (tbl_imp rfl (fun _ => val_imp) (tbl_imp rfl (fun _ => val_imp) (tbl_imp rfl (fun _ => val_imp) (tbl_imp rfl (fun _ => val_imp) (tbl_imp rfl (fun _ => val_imp) (tbl_imp rfl (fun _ => val_imp) (tbl_imp rfl (fun _ => val_imp) (tbl_imp rfl (fun _ => val_imp) (tbl_imp rfl (fun _ => val_imp) (tbl_imp rfl (fun _ => val_imp) (tbl_imp rfl (fun ht h => ?_) tbl_nil_imp))))))))))))))
        · show (bif (φ 14 || true) then SlotIs.any else SlotIs.rd [x]).R _ _
          rw [Bool.or_true]
          trivial
        · subst ht
          show (bif (φ 14 || true) then SlotIs.box (p + 1) (dgl s) else SlotIs.box (p + 1) (fun _ => 0)).R _ _
          rw [Bool.or_true]
          exact ⟨p12, e12, q12, set8_same W p12 (dgl s) (fun _ => 0) l12, fun i => by simpa [go_sem] using z12 i⟩
      exact kSt0
    · intro W hC
      refine gFi 41 rfl ?_
      rintro _ rfl
      refine gFi 42 rfl ?_
      rintro _ rfl
      refine gFi 43 rfl ?_
      rintro u43 b43
      refine gFi 44 rfl ?_
      rintro _ rfl
      refine gFi 45 rfl ?_
      rintro _ rfl
      refine gFi 46 rfl ?_
      rintro _ rfl
      refine gFi 47 rfl ?_
      rintro _ rfl
      refine gFi 48 rfl ?_
      rintro _ rfl
      refine gFi 49 rfl ?_
      rintro _ rfl
      refine gFi 50 rfl ?_
      rintro _ rfl
      refine gFi 40 rfl ?_
      rintro _ rfl
      refine gFi 51 rfl ?_
      rintro _ rfl
      refine gFi 52 rfl ?_
      rintro _ rfl
      refine gFi 12 rfl ?_
      rintro _ ⟨p12, rfl, q12, l12, z12⟩
      refine gFiN rfl ?_
      refine gFi0 ?_
      simp only [List.drop_succ_cons, List.drop_zero, Act.put, List.setIfInBounds_toArray, List.set_cons_succ, List.set_cons_zero]
      have HC := hide hC
      have HL := hide l12
      have HN2 := hide q12
      clear hC h1 l12 b43
      go_upto_region 5 with fail
      refine wp_gen (fun W => MkSt w p k b W ∧ LiesF W p12 (dgl s) ∧ ∀ i, W.frozen? ⟨p12, i, none⟩ = false) ⟨HC.out, HL.out, z12⟩ ?_
      clear HC HL z12
      rintro W2 ⟨h2, h3, z12⟩
      refine wp_region_storeK 10 [9] [54, 55, 56, 57, 58, 59, 53, 60, 61] (fun bs => [(54, .val (.agg #[.int .u64 (dgl (s) 0 : Nat), .int .u64 (dgl (s) 1 : Nat), .int .u64 (dgl (s) 2 : Nat), .int .u64 (dgl (s) 3 : Nat), .int .u64 (dgl (s) 4 : Nat), .int .u64 (dgl (s) 5 : Nat), .int .u64 (dgl (s) 6 : Nat), .int .u64 (dgl (s) 7 : Nat)])), (55, .val (.int .i64 f)), (56, .val (.bool neg)), (57, .val (.agg #[.int .u64 (nh : Nat), .int .u64 (nl : Nat)])), (58, .val (.agg #[.int .u64 (dgl (o) 0 : Nat), .int .u64 (dgl (o) 1 : Nat), .int .u64 (dgl (o) 2 : Nat), .int .u64 (dgl (o) 3 : Nat), .int .u64 (dgl (o) 4 : Nat), .int .u64 (dgl (o) 5 : Nat), .int .u64 (dgl (o) 6 : Nat), .int .u64 (dgl (o) 7 : Nat)])), (59, .val (.tuple #[.agg #[.int .u64 (dgl (t) 0 : Nat), .int .u64 (dgl (t) 1 : Nat), .int .u64 (dgl (t) 2 : Nat), .int .u64 (dgl (t) 3 : Nat), .int .u64 (dgl (t) 4 : Nat), .int .u64 (dgl (t) 5 : Nat), .int .u64 (dgl (t) 6 : Nat), .int .u64 (dgl (t) 7 : Nat)], .bool ov2])), (53, .val (.tuple #[.agg #[.int .u64 (dgl (t) 0 : Nat), .int .u64 (dgl (t) 1 : Nat), .int .u64 (dgl (t) 2 : Nat), .int .u64 (dgl (t) 3 : Nat), .int .u64 (dgl (t) 4 : Nat), .int .u64 (dgl (t) 5 : Nat), .int .u64 (dgl (t) 6 : Nat), .int .u64 (dgl (t) 7 : Nat)], .bool ov2])), (60, .val (.agg #[.int .u64 (dgl (t) 0 : Nat), .int .u64 (dgl (t) 1 : Nat), .int .u64 (dgl (t) 2 : Nat), .int .u64 (dgl (t) 3 : Nat), .int .u64 (dgl (t) 4 : Nat), .int .u64 (dgl (t) 5 : Nat), .int .u64 (dgl (t) 6 : Nat), .int .u64 (dgl (t) 7 : Nat)])), (61, .val (.bool ov2))])
        (fun bs W => MkSt w p k b W ∧ (∀ c, bs.headD false = c → LiesF W p12 (dgl (bif c then t else s))) ∧ ∀ i, W.frozen? ⟨p12, i, none⟩ = false) (fun bs => rfl) mixedOk (by kernel_rfl) (by kernel_rfl) (by kernel_rfl) (⟨h2.below (Below.refl _ _).drew, fun c hc => by subst hc; exact h3.below (Below.refl _ _).drew, fun i => (Below.refl _ _).drew.frozen (p := ⟨p12, i, none⟩) h3.2 |>.trans (z12 i)⟩) (fun bs W W' h hb => ⟨h.1.below hb, fun c hq => (h.2.1 c hq).below hb, fun i => (hb.frozen (p := ⟨p12, i, none⟩) (h.2.1 _ rfl).2).trans (h.2.2 i)⟩) ?_ ?_
      · refine kSt rfl (fun φ hφ => gStep_run rfl ?_) ?_
        · intro ρ W hC hc hf hL
          have e12 : ρ (.tmp 12) = .pointer (some ⟨p12, 0, none⟩) := hL 12 (by decide +kernel)
          have hφ0 : φ 9 = false := hφ 9 (by simp) (by kernel_rfl)
          have hD : LiesF W p12 (dgl s) := hC.2.1 false hφ0
          have hl := hD.1
          simp [go_sem, hc, hf, e12, hl]
          exact ⟨Below.refl _ _, rfl⟩
        refine kSt rfl (fun φ hφ => gStep_run rfl (gRun_move 0 55 (.inl rfl) rfl (by decide +kernel) (fun v w h => h))) ?_
        refine kSt rfl (fun φ hφ => gStep_run rfl (gRun_move 1 56 (.inl rfl) rfl (by decide +kernel) (fun v w h => h))) ?_
        refine kSt rfl (fun φ hφ => gStep_run rfl ?_) ?_
        · intro ρ W hC hc hf hL
          have e55 : ρ (.tmp 55) = .int .i64 f := hL 55 (by decide +kernel)
          have e56 : ρ (.tmp 56) = .bool neg := hL 56 (by decide +kernel)
          simp [go_sem, hc, hf, e55, e56]
          refine (HNO.out W hC.1.g).mono ?_
          rintro e w' ⟨rfl, hb⟩
          exact ⟨_, rfl, by first | exact hb | (subst hb; exact Below.refl _ _), rfl⟩
        refine kSt rfl (fun φ hφ => gStep_run rfl ?_) ?_
        · intro ρ W hC hc hf hL
          have e57 : ρ (.tmp 57) = .agg #[.int .u64 (nh : Nat), .int .u64 (nl : Nat)] := hL 57 (by decide +kernel)
          simp [go_sem, hc, hf, e57]
          refine (HFR.out W).mono ?_
          rintro e w' ⟨rfl, hb⟩
          exact ⟨_, rfl, by first | exact hb | (subst hb; exact Below.refl _ _), rfl⟩
        refine kSt rfl (fun φ hφ => gStep_run rfl ?_) ?_
        · intro ρ W hC hc hf hL
          have e54 : ρ (.tmp 54) = .agg #[.int .u64 (dgl (s) 0 : Nat), .int .u64 (dgl (s) 1 : Nat), .int .u64 (dgl (s) 2 : Nat), .int .u64 (dgl (s) 3 : Nat), .int .u64 (dgl (s) 4 : Nat), .int .u64 (dgl (s) 5 : Nat), .int .u64 (dgl (s) 6 : Nat), .int .u64 (dgl (s) 7 : Nat)] := hL 54 (by decide +kernel)
          have e58 : ρ (.tmp 58) = .agg #[.int .u64 (dgl (o) 0 : Nat), .int .u64 (dgl (o) 1 : Nat), .int .u64 (dgl (o) 2 : Nat), .int .u64 (dgl (o) 3 : Nat), .int .u64 (dgl (o) 4 : Nat), .int .u64 (dgl (o) 5 : Nat), .int .u64 (dgl (o) 6 : Nat), .int .u64 (dgl (o) 7 : Nat)] := hL 58 (by decide +kernel)
          simp [go_sem, hc, hf, e54, e58]
          refine (HA2.out W).mono ?_
          rintro e w' ⟨rfl, hb⟩
          exact ⟨_, rfl, by first | exact hb | (subst hb; exact Below.refl _ _), rfl⟩
        refine kSt rfl (fun φ hφ => gStep_run rfl (gRun_move 59 53 (.inl rfl) rfl (by decide +kernel) (fun v w h => h))) ?_
        refine kSt rfl (fun φ hφ => gStep_run rfl ?_) ?_
        · intro ρ W hC hc hf hL
          have e53 : ρ (.tmp 53) = .tuple #[.agg #[.int .u64 (dgl (t) 0 : Nat), .int .u64 (dgl (t) 1 : Nat), .int .u64 (dgl (t) 2 : Nat), .int .u64 (dgl (t) 3 : Nat), .int .u64 (dgl (t) 4 : Nat), .int .u64 (dgl (t) 5 : Nat), .int .u64 (dgl (t) 6 : Nat), .int .u64 (dgl (t) 7 : Nat)], .bool ov2] := hL 53 (by decide +kernel)
          simp [go_sem, hc, hf, e53]
          exact ⟨Below.refl _ _, rfl⟩
        refine kSt rfl (fun φ hφ => gStep_run rfl ?_) ?_
        · intro ρ W hC hc hf hL
          have e53 : ρ (.tmp 53) = .tuple #[.agg #[.int .u64 (dgl (t) 0 : Nat), .int .u64 (dgl (t) 1 : Nat), .int .u64 (dgl (t) 2 : Nat), .int .u64 (dgl (t) 3 : Nat), .int .u64 (dgl (t) 4 : Nat), .int .u64 (dgl (t) 5 : Nat), .int .u64 (dgl (t) 6 : Nat), .int .u64 (dgl (t) 7 : Nat)], .bool ov2] := hL 53 (by decide +kernel)
          simp [go_sem, hc, hf, e53]
          exact ⟨Below.refl _ _, rfl⟩
        refine kStS rfl ⟨rfl, rfl, ?_⟩ ?_
        · intro φ ρ W hφ hC hc hL
          have e12 : ρ (.tmp 12) = .pointer (some ⟨p12, 0, none⟩) := hL 12 (by decide +kernel)
          have e60 : ρ (.tmp 60) = .agg #[.int .u64 (dgl (t) 0 : Nat), .int .u64 (dgl (t) 1 : Nat), .int .u64 (dgl (t) 2 : Nat), .int .u64 (dgl (t) 3 : Nat), .int .u64 (dgl (t) 4 : Nat), .int .u64 (dgl (t) 5 : Nat), .int .u64 (dgl (t) 6 : Nat), .int .u64 (dgl (t) 7 : Nat)] := hL 60 (by decide +kernel)
          have hD : LiesF W p12 (dgl s) := hC.2.1 false hφ
          have hr := hD.1
          have hrl := hD.2
          have hrf := hC.2.2
          refine gUpon_of ((((((((W.setCell ⟨p12, 0, none⟩ (.int .u64 (dgl t 0 : Nat))).setCell ⟨p12, 1, none⟩ (.int .u64 (dgl t 1 : Nat))).setCell ⟨p12, 2, none⟩ (.int .u64 (dgl t 2 : Nat))).setCell ⟨p12, 3, none⟩ (.int .u64 (dgl t 3 : Nat))).setCell ⟨p12, 4, none⟩ (.int .u64 (dgl t 4 : Nat))).setCell ⟨p12, 5, none⟩ (.int .u64 (dgl t 5 : Nat))).setCell ⟨p12, 6, none⟩ (.int .u64 (dgl t 6 : Nat))).setCell ⟨p12, 7, none⟩ (.int .u64 (dgl t 7 : Nat))) ?_ (fun _ => ?_)
          · simp [go_sem, hc, e12, e60, hr, hrl, hrf, gUpon]
          have hs8 := below_set8 (Below.refl (p + 1) W) p12 HN2.out (.int .u64 (dgl t 0 : Nat)) (.int .u64 (dgl t 1 : Nat)) (.int .u64 (dgl t 2 : Nat)) (.int .u64 (dgl t 3 : Nat)) (.int .u64 (dgl t 4 : Nat)) (.int .u64 (dgl t 5 : Nat)) (.int .u64 (dgl t 6 : Nat)) (.int .u64 (dgl t 7 : Nat))
          refine ⟨⟨hC.1.under hs8 (by omega), fun b hb => ?_, fun i => by simpa [go_sem] using hrf i⟩, fun t => (tbl_imp rfl (fun _ => val_imp) (tbl_imp rfl (fun _ => val_imp) (tbl_imp rfl (fun _ => val_imp) (tbl_imp rfl (fun _ => val_imp) (tbl_imp rfl (fun _ => val_imp) (tbl_imp rfl (fun _ => val_imp) (tbl_imp rfl (fun _ => val_imp) (tbl_imp rfl (fun _ => val_imp) (tbl_imp rfl (fun _ => val_imp) tbl_nil_imp)))))))))⟩
          have hb2 : (φ 9 || true) = b := hb
          rw [Bool.or_true] at hb2
          subst hb2
          exact set8_same W p12 (dgl t) (dgl s) hD
        exact kSt0
      · intro W hC
        refine gFi 54 rfl ?_
        rintro _ rfl
        refine gFi 55 rfl ?_
        rintro _ rfl
        refine gFi 56 rfl ?_
        rintro _ rfl
        refine gFi 57 rfl ?_
        rintro _ rfl
        refine gFi 58 rfl ?_
        rintro _ rfl
        refine gFi 59 rfl ?_
        rintro _ rfl
        refine gFi 53 rfl ?_
        rintro _ rfl
        refine gFi 60 rfl ?_
        rintro _ rfl
        refine gFi 61 rfl ?_
        rintro _ rfl
        refine gFiN rfl ?_
        refine gFi0 ?_
        simp only [List.drop_succ_cons, List.drop_zero, Act.put, List.setIfInBounds_toArray, List.set_cons_succ, List.set_cons_zero]
        have HL : Hid (LiesF W p12 (dgl t)) := hC.2.1 true rfl
        have HC := hide hC.1
        clear hC h2 h3 z12
        have hcs := HL.out.1
        go_wp2_with fail
        refine (wideLow_any (dgl t) _).mono ?_
        rintro e w3 ⟨rfl, hb3⟩
        replace HC := hide (HC.out.below hb3)
        clear hb3 hcs HL
        have r0 := HC.out.r0
        have r1 := HC.out.r1
        have hrf := HC.out.fz
        have hlt := HC.out.lt
        have HB := hide HC.out.bel
        clear HC
        go_wp2
        exact bodyPost_ret (v := .tuple #[.agg #[.int .u64 (dgl t 1 : Nat), .int .u64 (dgl t 0 : Nat)], .bool true]) (by simp [results, Tryd.results53, go_sem, r0, r1, hlt]) rfl ⟨rfl, (HB.out.setCell (p := ⟨w.heap.size + 1, 0, none⟩) (Nat.le_succ _) _).setCell (p := ⟨w.heap.size + 1, 1, none⟩) (Nat.le_succ _) _⟩

end Go.Proofs.YtpcjdllijkjdkaaDoor

/- Contracts: class.Make with its numbers. -/
set_option linter.unusedVariables false
set_option linter.unusedSimpArgs false
set_option maxRecDepth 8000
namespace Go.Proofs.YtpcjdllijkjdkaaDoor
open Go.RowKit Plain

theorem word_back (N : Nat) (h : N < 2 ^ 128) : dgl N 0 + 18446744073709551616 * dgl N 1 = N := by
  rw [dgl0, dgl1]
  omega
theorem makeYes_1 (neg : Bool) (x b : Nat) (hx : x < 2 ^ 5) (hb : b < 2 ^ 10) (z : Int) (hz : z = (x : Int)) (w : World) (hg : FmtG w) :
    Calls Tryd.prog 53 #[.int .i64 1, .bool neg, .int .i64 z, .agg #[.int .u64 (dgl (b) 0 : Nat), .int .u64 (dgl (b) 1 : Nat), .int .u64 (dgl (b) 2 : Nat), .int .u64 (dgl (b) 3 : Nat), .int .u64 (dgl (b) 4 : Nat), .int .u64 (dgl (b) 5 : Nat), .int .u64 (dgl (b) 6 : Nat), .int .u64 (dgl (b) 7 : Nat)]] w fun e w' => e = .returned (.tuple #[.agg #[.int .u64 (dgl (x * 2 ^ 10 + b + (bif neg then 32768 else 0)) 1 : Nat), .int .u64 (dgl (x * 2 ^ 10 + b + (bif neg then 32768 else 0)) 0 : Nat)], .bool true]) ∧ Below w.heap.size w w' := by
  subst hz
  have hQ := q200
  have h1 := fun w => wideShl_any x 10 (by omega) w
  rw [show roomI 10 = ((10 : Nat) : Int) by decide, sh_up] at h1
  have h2 := fun w => wideAdd_any (x * 2 ^ 10) b (by omega) (by omega) w
  have h3 := fun w hg => nought_1 neg w hg
  obtain ⟨o, ho⟩ : ∃ o, (bif neg then 32768 else 0) = o := ⟨_, rfl⟩
  have ho2 : o < 2 ^ 128 := by rw [← ho]; cases neg <;> decide
  rw [ho] at h3 ⊢
  have h4 := fun w => wideFrom_any (dgl o 1) (dgl o 0) (dgl_lt _ _) (dgl_lt _ _) w
  rw [word_back o ho2] at h4
  have h5 := fun w => wideAdd_any (x * 2 ^ 10 + b) o (by omega) (by omega) w
  exact make_walk 1 neg x b (fun i => [16, 11, 15, -14, 5].getD i 0) 31 x (x * 2 ^ 10) (x * 2 ^ 10 + b) (dgl o 1) (dgl o 0) o (x * 2 ^ 10 + b + o) _ _ (by decide +kernel) (decide_eq_false (by omega)) (decide_eq_false (by omega))
    (decide_eq_false (by have := (len_le b 10).2 hb; show ¬ ((11 : Int) - 1 < _); omega)) (by unfold Hid; rw [IntKind.wrap_u64]; omega) (fun i hi => (dig_one (β := 18446744073709551616) (by omega)).2 i) (fun w hg => of_1 w hg) (fun w => ones_1 w) (fun w => wideLen_any b (by omega) w) h1 h2 h3 h4 h5 w hg
theorem makeYes_2 (neg : Bool) (x b : Nat) (hx : x < 2 ^ 8) (hb : b < 2 ^ 23) (z : Int) (hz : z = (x : Int)) (w : World) (hg : FmtG w) :
    Calls Tryd.prog 53 #[.int .i64 2, .bool neg, .int .i64 z, .agg #[.int .u64 (dgl (b) 0 : Nat), .int .u64 (dgl (b) 1 : Nat), .int .u64 (dgl (b) 2 : Nat), .int .u64 (dgl (b) 3 : Nat), .int .u64 (dgl (b) 4 : Nat), .int .u64 (dgl (b) 5 : Nat), .int .u64 (dgl (b) 6 : Nat), .int .u64 (dgl (b) 7 : Nat)]] w fun e w' => e = .returned (.tuple #[.agg #[.int .u64 (dgl (x * 2 ^ 23 + b + (bif neg then 2147483648 else 0)) 1 : Nat), .int .u64 (dgl (x * 2 ^ 23 + b + (bif neg then 2147483648 else 0)) 0 : Nat)], .bool true]) ∧ Below w.heap.size w w' := by
  subst hz
  have hQ := q200
  have h1 := fun w => wideShl_any x 23 (by omega) w
  rw [show roomI 23 = ((23 : Nat) : Int) by decide, sh_up] at h1
  have h2 := fun w => wideAdd_any (x * 2 ^ 23) b (by omega) (by omega) w
  have h3 := fun w hg => nought_2 neg w hg
  obtain ⟨o, ho⟩ : ∃ o, (bif neg then 2147483648 else 0) = o := ⟨_, rfl⟩
  have ho2 : o < 2 ^ 128 := by rw [← ho]; cases neg <;> decide
  rw [ho] at h3 ⊢
  have h4 := fun w => wideFrom_any (dgl o 1) (dgl o 0) (dgl_lt _ _) (dgl_lt _ _) w
  rw [word_back o ho2] at h4
  have h5 := fun w => wideAdd_any (x * 2 ^ 23 + b) o (by omega) (by omega) w
  exact make_walk 2 neg x b (fun i => [32, 24, 127, -126, 8].getD i 0) 255 x (x * 2 ^ 23) (x * 2 ^ 23 + b) (dgl o 1) (dgl o 0) o (x * 2 ^ 23 + b + o) _ _ (by decide +kernel) (decide_eq_false (by omega)) (decide_eq_false (by omega))
    (decide_eq_false (by have := (len_le b 23).2 hb; show ¬ ((24 : Int) - 1 < _); omega)) (by unfold Hid; rw [IntKind.wrap_u64]; omega) (fun i hi => (dig_one (β := 18446744073709551616) (by omega)).2 i) (fun w hg => of_2 w hg) (fun w => ones_2 w) (fun w => wideLen_any b (by omega) w) h1 h2 h3 h4 h5 w hg
theorem makeYes_3 (neg : Bool) (x b : Nat) (hx : x < 2 ^ 11) (hb : b < 2 ^ 52) (z : Int) (hz : z = (x : Int)) (w : World) (hg : FmtG w) :
    Calls Tryd.prog 53 #[.int .i64 3, .bool neg, .int .i64 z, .agg #[.int .u64 (dgl (b) 0 : Nat), .int .u64 (dgl (b) 1 : Nat), .int .u64 (dgl (b) 2 : Nat), .int .u64 (dgl (b) 3 : Nat), .int .u64 (dgl (b) 4 : Nat), .int .u64 (dgl (b) 5 : Nat), .int .u64 (dgl (b) 6 : Nat), .int .u64 (dgl (b) 7 : Nat)]] w fun e w' => e = .returned (.tuple #[.agg #[.int .u64 (dgl (x * 2 ^ 52 + b + (bif neg then 9223372036854775808 else 0)) 1 : Nat), .int .u64 (dgl (x * 2 ^ 52 + b + (bif neg then 9223372036854775808 else 0)) 0 : Nat)], .bool true]) ∧ Below w.heap.size w w' := by
  subst hz
  have hQ := q200
  have h1 := fun w => wideShl_any x 52 (by omega) w
  rw [show roomI 52 = ((52 : Nat) : Int) by decide, sh_up] at h1
  have h2 := fun w => wideAdd_any (x * 2 ^ 52) b (by omega) (by omega) w
  have h3 := fun w hg => nought_3 neg w hg
  obtain ⟨o, ho⟩ : ∃ o, (bif neg then 9223372036854775808 else 0) = o := ⟨_, rfl⟩
  have ho2 : o < 2 ^ 128 := by rw [← ho]; cases neg <;> decide
  rw [ho] at h3 ⊢
  have h4 := fun w => wideFrom_any (dgl o 1) (dgl o 0) (dgl_lt _ _) (dgl_lt _ _) w
  rw [word_back o ho2] at h4
  have h5 := fun w => wideAdd_any (x * 2 ^ 52 + b) o (by omega) (by omega) w
  exact make_walk 3 neg x b (fun i => [64, 53, 1023, -1022, 11].getD i 0) 2047 x (x * 2 ^ 52) (x * 2 ^ 52 + b) (dgl o 1) (dgl o 0) o (x * 2 ^ 52 + b + o) _ _ (by decide +kernel) (decide_eq_false (by omega)) (decide_eq_false (by omega))
    (decide_eq_false (by have := (len_le b 52).2 hb; show ¬ ((53 : Int) - 1 < _); omega)) (by unfold Hid; rw [IntKind.wrap_u64]; omega) (fun i hi => (dig_one (β := 18446744073709551616) (by omega)).2 i) (fun w hg => of_3 w hg) (fun w => ones_3 w) (fun w => wideLen_any b (by omega) w) h1 h2 h3 h4 h5 w hg
theorem makeYes_4 (neg : Bool) (x b : Nat) (hx : x < 2 ^ 15) (hb : b < 2 ^ 112) (z : Int) (hz : z = (x : Int)) (w : World) (hg : FmtG w) :
    Calls Tryd.prog 53 #[.int .i64 4, .bool neg, .int .i64 z, .agg #[.int .u64 (dgl (b) 0 : Nat), .int .u64 (dgl (b) 1 : Nat), .int .u64 (dgl (b) 2 : Nat), .int .u64 (dgl (b) 3 : Nat), .int .u64 (dgl (b) 4 : Nat), .int .u64 (dgl (b) 5 : Nat), .int .u64 (dgl (b) 6 : Nat), .int .u64 (dgl (b) 7 : Nat)]] w fun e w' => e = .returned (.tuple #[.agg #[.int .u64 (dgl (x * 2 ^ 112 + b + (bif neg then 170141183460469231731687303715884105728 else 0)) 1 : Nat), .int .u64 (dgl (x * 2 ^ 112 + b + (bif neg then 170141183460469231731687303715884105728 else 0)) 0 : Nat)], .bool true]) ∧ Below w.heap.size w w' := by
  subst hz
  have hQ := q200
  have h1 := fun w => wideShl_any x 112 (by omega) w
  rw [show roomI 112 = ((112 : Nat) : Int) by decide, sh_up] at h1
  have h2 := fun w => wideAdd_any (x * 2 ^ 112) b (by omega) (by omega) w
  have h3 := fun w hg => nought_4 neg w hg
  obtain ⟨o, ho⟩ : ∃ o, (bif neg then 170141183460469231731687303715884105728 else 0) = o := ⟨_, rfl⟩
  have ho2 : o < 2 ^ 128 := by rw [← ho]; cases neg <;> decide
  rw [ho] at h3 ⊢
  have h4 := fun w => wideFrom_any (dgl o 1) (dgl o 0) (dgl_lt _ _) (dgl_lt _ _) w
  rw [word_back o ho2] at h4
  have h5 := fun w => wideAdd_any (x * 2 ^ 112 + b) o (by omega) (by omega) w
  exact make_walk 4 neg x b (fun i => [128, 113, 16383, -16382, 15].getD i 0) 32767 x (x * 2 ^ 112) (x * 2 ^ 112 + b) (dgl o 1) (dgl o 0) o (x * 2 ^ 112 + b + o) _ _ (by decide +kernel) (decide_eq_false (by omega)) (decide_eq_false (by omega))
    (decide_eq_false (by have := (len_le b 112).2 hb; show ¬ ((113 : Int) - 1 < _); omega)) (by unfold Hid; rw [IntKind.wrap_u64]; omega) (fun i hi => (dig_one (β := 18446744073709551616) (by omega)).2 i) (fun w hg => of_4 w hg) (fun w => ones_4 w) (fun w => wideLen_any b (by omega) w) h1 h2 h3 h4 h5 w hg
end Go.Proofs.YtpcjdllijkjdkaaDoor

/- Contracts: class.asked for wides and words. -/
set_option linter.unusedVariables false
set_option linter.unusedSimpArgs false
set_option maxRecDepth 8000
namespace Go.Proofs.YtpcjdllijkjdkaaDoor
open Go.RowKit Plain

structure Aw0 (hi lo : Nat) (w W : World) : Prop where
  s : FitSt hi lo w W
  z : ∀ i, i < 8 → W.cell? ⟨w.heap.size + 1, i, none⟩ = some (.int .u64 0)
  f : ∀ i, W.frozen? ⟨w.heap.size + 1, i, none⟩ = false
  lt : w.heap.size + 1 < W.heap.size
theorem Aw0.below {hi lo : Nat} {w W W' : World} (h : Aw0 hi lo w W) (hb : Below W.heap.size W W') : Aw0 hi lo w W' :=
  ⟨h.s.below hb, fun i hi => (hb.cell (p := ⟨w.heap.size + 1, i, none⟩) h.lt).trans (h.z i hi), fun i => (hb.frozen (p := ⟨w.heap.size + 1, i, none⟩) h.lt).trans (h.f i), Nat.lt_of_lt_of_le h.lt hb.size⟩
theorem Aw0.start (hi lo : Nat) (w : World) : Aw0 hi lo w ((w.alloc (.cells #[.int .u64 (hi : Nat), .int .u64 (lo : Nat)] 28)).alloc (.cells #[.int .u64 0, .int .u64 0, .int .u64 0, .int .u64 0, .int .u64 0, .int .u64 0, .int .u64 0, .int .u64 0] 24)) := by
  refine ⟨(fitSt_start hi lo w).below (below_allocs _ _), fun i hi => ?_, fun i => by simp [go_sem], by simp⟩
  match i, hi with
  | 0, _ | 1, _ | 2, _ | 3, _ | 4, _ | 5, _ | 6, _ | 7, _ => simp [go_sem]
structure AwSt (p hi lo : Nat) (w : World) (k : Nat → Int) (W : World) : Prop where
  s : Fit2St p hi lo w k W
  z : ∀ i, i < 8 → W.cell? ⟨w.heap.size + 1, i, none⟩ = some (.int .u64 0)
  f : ∀ i, W.frozen? ⟨w.heap.size + 1, i, none⟩ = false
  lt : w.heap.size + 1 < W.heap.size
theorem AwSt.below {p hi lo : Nat} {w : World} {k : Nat → Int} {W W' : World} (h : AwSt p hi lo w k W) (hb : Below W.heap.size W W') : AwSt p hi lo w k W' :=
  ⟨h.s.below hb, fun i hi => (hb.cell (p := ⟨w.heap.size + 1, i, none⟩) h.lt).trans (h.z i hi), fun i => (hb.frozen (p := ⟨w.heap.size + 1, i, none⟩) h.lt).trans (h.f i), Nat.lt_of_lt_of_le h.lt hb.size⟩

set_option maxHeartbeats 1000000 in
theorem asked_wide_no (f : Int) (hi lo : Nat) (fv : Value)
    (HFI : Hid (∀ w, FmtG w → Calls Tryd.prog 155 #[.int .i64 f, .agg #[.int .u64 (hi : Nat), .int .u64 (lo : Nat)]] w fun e w' => e = .returned (.bool false) ∧ Below w.heap.size w w')) (w : World) (hg : FmtG w) :
    Calls Tryd.prog 138 #[.int .i64 f, .agg #[.int .u64 (hi : Nat), .int .u64 (lo : Nat)], fv] w fun e w' => e = .returned (.agg #[.int .u64 0, .int .u64 0, .int .u64 0, .int .u64 0, .int .u64 0, .int .u64 0, .int .u64 0, .int .u64 0]) ∧ Below w.heap.size w w' := by
  have HST := hide (Aw0.start hi lo w)
  have HG := hide (hg.below HST.out.s.bel)
  clear hg
  go_enter Tryd.func138, Tryd.ntmps138
  go_wp2_with fail
  refine (HFI.out _ HG.out).mono ?_
  rintro e w1 ⟨rfl, hb1⟩
  replace HST := hide ((HST.out.below hb1).below (below_allocs _ (.cells #[.int .u64 0, .int .u64 0, .int .u64 0, .int .u64 0, .int .u64 0, .int .u64 0, .int .u64 0, .int .u64 0] 24)))
  clear HG hb1
  have z0 := HST.out.z 0 (by decide)
  have z1 := HST.out.z 1 (by decide)
  have z2 := HST.out.z 2 (by decide)
  have z3 := HST.out.z 3 (by decide)
  have z4 := HST.out.z 4 (by decide)
  have z5 := HST.out.z 5 (by decide)
  have z6 := HST.out.z 6 (by decide)
  have z7 := HST.out.z 7 (by decide)
  have hrf := HST.out.f
  have hlt := HST.out.lt
  have HB := hide HST.out.s.bel
  clear HST
  go_wp2
  exact bodyPost_ret (v := .agg #[.int .u64 0, .int .u64 0, .int .u64 0, .int .u64 0, .int .u64 0, .int .u64 0, .int .u64 0, .int .u64 0]) (by simp [results, Tryd.results138, go_sem, hlt, z0, z1, z2, z3, z4, z5, z6, z7]) rfl ⟨rfl, ((((((((HB.out.setCell (p := ⟨w.heap.size + 1, 0, none⟩) (Nat.le_succ _) _).setCell (p := ⟨w.heap.size + 1, 1, none⟩) (Nat.le_succ _) _).setCell (p := ⟨w.heap.size + 1, 2, none⟩) (Nat.le_succ _) _).setCell (p := ⟨w.heap.size + 1, 3, none⟩) (Nat.le_succ _) _).setCell (p := ⟨w.heap.size + 1, 4, none⟩) (Nat.le_succ _) _).setCell (p := ⟨w.heap.size + 1, 5, none⟩) (Nat.le_succ _) _).setCell (p := ⟨w.heap.size + 1, 6, none⟩) (Nat.le_succ _) _).setCell (p := ⟨w.heap.size + 1, 7, none⟩) (Nat.le_succ _) _)⟩

set_option maxHeartbeats 1000000 in
theorem asked_wide (f : Int) (hi lo a fd r : Nat) (ng : Bool) (k : Nat → Int) (fid : Nat) (caps : Array Value) (C0 : World → Prop) (hC0s : ∀ W W', C0 W → Below W.heap.size W W' → C0 W') (x : Nat) (hent : ∀ args w, (callFunc fid args).run Tryd.prog w = .ok (.enter fid args) w)
    (HFI : Hid (∀ w, FmtG w → Calls Tryd.prog 155 #[.int .i64 f, .agg #[.int .u64 (hi : Nat), .int .u64 (lo : Nat)]] w fun e w' => e = .returned (.bool true) ∧ Below w.heap.size w w'))
    (HO : Hid (∀ w, FmtG w → Calls Tryd.prog 47 #[.int .i64 f] w fun e w' => e = .returned (.tuple #[.agg #[.int .i64 (k 0), .int .i64 (k 1), .int .i64 (k 2), .int .i64 (k 3), .int .i64 (k 4)], .bool true]) ∧ Below w.heap.size w w'))
    (HFR : Hid (∀ w, Calls Tryd.prog 111 #[.agg #[.int .u64 (hi : Nat), .int .u64 (lo : Nat)]] w fun e w' => e = .returned (.agg #[.int .u64 (dgl (a) 0 : Nat), .int .u64 (dgl (a) 1 : Nat), .int .u64 (dgl (a) 2 : Nat), .int .u64 (dgl (a) 3 : Nat), .int .u64 (dgl (a) 4 : Nat), .int .u64 (dgl (a) 5 : Nat), .int .u64 (dgl (a) 6 : Nat), .int .u64 (dgl (a) 7 : Nat)]) ∧ Below w.heap.size w w'))
    (HTK : Hid (∀ w, Calls Tryd.prog 156 #[.agg #[.int .i64 (k 0), .int .i64 (k 1), .int .i64 (k 2), .int .i64 (k 3), .int .i64 (k 4)], .agg #[.int .u64 (dgl (a) 0 : Nat), .int .u64 (dgl (a) 1 : Nat), .int .u64 (dgl (a) 2 : Nat), .int .u64 (dgl (a) 3 : Nat), .int .u64 (dgl (a) 4 : Nat), .int .u64 (dgl (a) 5 : Nat), .int .u64 (dgl (a) 6 : Nat), .int .u64 (dgl (a) 7 : Nat)]] w fun e w' => e = .returned (.agg #[.bool ng, .int .i64 ((fd : Nat)), .int .u64 (dgl r 0 : Nat), .int .u64 (dgl r 1 : Nat), .int .u64 (dgl r 2 : Nat), .int .u64 (dgl r 3 : Nat), .int .u64 (dgl r 4 : Nat), .int .u64 (dgl r 5 : Nat), .int .u64 (dgl r 6 : Nat), .int .u64 (dgl r 7 : Nat)]) ∧ Below w.heap.size w w'))
    (HT : Hid (∀ w, C0 w → Calls Tryd.prog fid (#[.agg #[.int .i64 (k 0), .int .i64 (k 1), .int .i64 (k 2), .int .i64 (k 3), .int .i64 (k 4)], .agg #[.bool ng, .int .i64 ((fd : Nat)), .int .u64 (dgl r 0 : Nat), .int .u64 (dgl r 1 : Nat), .int .u64 (dgl r 2 : Nat), .int .u64 (dgl r 3 : Nat), .int .u64 (dgl r 4 : Nat), .int .u64 (dgl r 5 : Nat), .int .u64 (dgl r 6 : Nat), .int .u64 (dgl r 7 : Nat)]] ++ caps) w fun e w' => e = .returned (.agg #[.int .u64 (dgl (x) 0 : Nat), .int .u64 (dgl (x) 1 : Nat), .int .u64 (dgl (x) 2 : Nat), .int .u64 (dgl (x) 3 : Nat), .int .u64 (dgl (x) 4 : Nat), .int .u64 (dgl (x) 5 : Nat), .int .u64 (dgl (x) 6 : Nat), .int .u64 (dgl (x) 7 : Nat)]) ∧ Below w.heap.size w w')) (w : World) (hg : FmtG w) (hc0 : C0 w) :
    Calls Tryd.prog 138 #[.int .i64 f, .agg #[.int .u64 (hi : Nat), .int .u64 (lo : Nat)], .func (.func fid) #[] caps] w fun e w' => e = .returned (.agg #[.int .u64 (dgl (x) 0 : Nat), .int .u64 (dgl (x) 1 : Nat), .int .u64 (dgl (x) 2 : Nat), .int .u64 (dgl (x) 3 : Nat), .int .u64 (dgl (x) 4 : Nat), .int .u64 (dgl (x) 5 : Nat), .int .u64 (dgl (x) 6 : Nat), .int .u64 (dgl (x) 7 : Nat)]) ∧ Below w.heap.size w w' := by
  have HST := hide (Aw0.start hi lo w)
  have HG := hide (hg.below HST.out.s.bel)
  have HC0 := hide (hC0s _ _ hc0 HST.out.s.bel)
  clear hg hc0
  go_enter Tryd.func138, Tryd.ntmps138
  go_wp2_with fail
  refine (HFI.out _ HG.out).mono ?_
  rintro e w1 ⟨rfl, hb1⟩
  replace HST := hide (HST.out.below hb1)
  replace HG := hide (HG.out.below hb1)
  replace HC0 := hide (hC0s _ _ HC0.out hb1)
  clear hb1
  go_wp2_with fail
  refine (HO.out _ HG.out).mono ?_
  rintro e w2 ⟨rfl, hb2⟩
  replace HST := hide (HST.out.below hb2)
  replace HC0 := hide (hC0s _ _ (hC0s _ _ HC0.out hb2) (below_allocs w2 (.cells #[.int .i64 (k 0), .int .i64 (k 1), .int .i64 (k 2), .int .i64 (k 3), .int .i64 (k 4)] 85)))
  have HS2 := hide (fit2St_start hi lo k w w2 HST.out.s)
  replace HST := hide (HST.out.below (below_allocs w2 (.cells #[.int .i64 (k 0), .int .i64 (k 1), .int .i64 (k 2), .int .i64 (k 3), .int .i64 (k 4)] 85)))
  clear hb2 HG
  go_upto_region 5 with fail
  refine wp_gen (fun W => AwSt w2.heap.size hi lo w k W ∧ C0 W) ⟨⟨HS2.out, HST.out.z, HST.out.f, HST.out.lt⟩, HC0.out⟩ ?_
  clear HS2 HST HC0
  rintro W1 h1
  generalize w2.heap.size = p at *
  refine wp_region_grow 7 [(20, .val (.func (.func fid) #[] caps)), (21, .val (.agg #[.int .i64 (k 0), .int .i64 (k 1), .int .i64 (k 2), .int .i64 (k 3), .int .i64 (k 4)])), (22, .val (.agg #[.int .i64 (k 0), .int .i64 (k 1), .int .i64 (k 2), .int .i64 (k 3), .int .i64 (k 4)])), (23, .val (.agg #[.int .u64 (hi : Nat), .int .u64 (lo : Nat)])), (24, .val (.agg #[.int .u64 (dgl (a) 0 : Nat), .int .u64 (dgl (a) 1 : Nat), .int .u64 (dgl (a) 2 : Nat), .int .u64 (dgl (a) 3 : Nat), .int .u64 (dgl (a) 4 : Nat), .int .u64 (dgl (a) 5 : Nat), .int .u64 (dgl (a) 6 : Nat), .int .u64 (dgl (a) 7 : Nat)])), (25, .val (.agg #[.bool ng, .int .i64 ((fd : Nat)), .int .u64 (dgl r 0 : Nat), .int .u64 (dgl r 1 : Nat), .int .u64 (dgl r 2 : Nat), .int .u64 (dgl r 3 : Nat), .int .u64 (dgl r 4 : Nat), .int .u64 (dgl r 5 : Nat), .int .u64 (dgl r 6 : Nat), .int .u64 (dgl r 7 : Nat)])), (26, .val (.agg #[.int .u64 (dgl (x) 0 : Nat), .int .u64 (dgl (x) 1 : Nat), .int .u64 (dgl (x) 2 : Nat), .int .u64 (dgl (x) 3 : Nat), .int .u64 (dgl (x) 4 : Nat), .int .u64 (dgl (x) 5 : Nat), .int .u64 (dgl (x) 6 : Nat), .int .u64 (dgl (x) 7 : Nat)]))]
    (fun W => AwSt p hi lo w k W ∧ C0 W) mixedOk (by kernel_rfl) (by kernel_rfl) (⟨h1.1.below (Below.refl _ _).drew, hC0s _ _ h1.2 (Below.refl _ _).drew⟩) (fun W W' h hb => ⟨h.1.below hb, hC0s _ _ h.2 hb⟩) ?_ ?_
  · refine gSt (gStep_run rfl (gRun_move 2 20 (.inl rfl) rfl (by decide +kernel) (fun v w h => h))) ?_
    refine gSt (gStep_run rfl ?_) ?_
    · intro ρ W hC hc hf hL
      have e8 : ρ (.tmp 8) = .pointer (some ⟨p, 0, none⟩) := hL 8 (by decide +kernel)
      have g0 := hC.1.s.rk 0 (by decide)
      have g1 := hC.1.s.rk 1 (by decide)
      have g2 := hC.1.s.rk 2 (by decide)
      have g3 := hC.1.s.rk 3 (by decide)
      have g4 := hC.1.s.rk 4 (by decide)
      simp [go_sem, hc, hf, e8, g0, g1, g2, g3, g4]
      exact ⟨Below.refl _ _, rfl⟩
    refine gSt (gStep_run rfl ?_) ?_
    · intro ρ W hC hc hf hL
      have e8 : ρ (.tmp 8) = .pointer (some ⟨p, 0, none⟩) := hL 8 (by decide +kernel)
      have g0 := hC.1.s.rk 0 (by decide)
      have g1 := hC.1.s.rk 1 (by decide)
      have g2 := hC.1.s.rk 2 (by decide)
      have g3 := hC.1.s.rk 3 (by decide)
      have g4 := hC.1.s.rk 4 (by decide)
      simp [go_sem, hc, hf, e8, g0, g1, g2, g3, g4]
      exact ⟨Below.refl _ _, rfl⟩
    refine gSt (gStep_run rfl ?_) ?_
    · intro ρ W hC hc hf hL
      have e4 : ρ (.tmp 4) = .pointer (some ⟨w.heap.size, 0, none⟩) := hL 4 (by decide +kernel)
      have l0 := hC.1.s.s.h
      have l1 := hC.1.s.s.l
      simp [go_sem, hc, hf, e4, l0, l1]
      exact ⟨Below.refl _ _, rfl⟩
    refine gSt (gStep_run rfl ?_) ?_
    · intro ρ W hC hc hf hL
      have e23 : ρ (.tmp 23) = .agg #[.int .u64 (hi : Nat), .int .u64 (lo : Nat)] := hL 23 (by decide +kernel)
      simp [go_sem, hc, hf, e23]
      refine (HFR.out W).mono ?_
      rintro e w' ⟨rfl, hb⟩
      exact ⟨_, rfl, by first | exact hb | (subst hb; exact Below.refl _ _), rfl⟩
    refine gSt (gStep_run rfl ?_) ?_
    · intro ρ W hC hc hf hL
      have e22 : ρ (.tmp 22) = .agg #[.int .i64 (k 0), .int .i64 (k 1), .int .i64 (k 2), .int .i64 (k 3), .int .i64 (k 4)] := hL 22 (by decide +kernel)
      have e24 : ρ (.tmp 24) = .agg #[.int .u64 (dgl (a) 0 : Nat), .int .u64 (dgl (a) 1 : Nat), .int .u64 (dgl (a) 2 : Nat), .int .u64 (dgl (a) 3 : Nat), .int .u64 (dgl (a) 4 : Nat), .int .u64 (dgl (a) 5 : Nat), .int .u64 (dgl (a) 6 : Nat), .int .u64 (dgl (a) 7 : Nat)] := hL 24 (by decide +kernel)
      simp [go_sem, hc, hf, e22, e24]
      refine (HTK.out W).mono ?_
      rintro e w' ⟨rfl, hb⟩
      exact ⟨_, rfl, by first | exact hb | (subst hb; exact Below.refl _ _), rfl⟩
    refine gSt (gStep_run rfl ?_) ?_
    · intro ρ W hC hc hf hL
      have e20 : ρ (.tmp 20) = .func (.func fid) #[] caps := hL 20 (by decide +kernel)
      have e21 : ρ (.tmp 21) = .agg #[.int .i64 (k 0), .int .i64 (k 1), .int .i64 (k 2), .int .i64 (k 3), .int .i64 (k 4)] := hL 21 (by decide +kernel)
      have e25 : ρ (.tmp 25) = .agg #[.bool ng, .int .i64 ((fd : Nat)), .int .u64 (dgl r 0 : Nat), .int .u64 (dgl r 1 : Nat), .int .u64 (dgl r 2 : Nat), .int .u64 (dgl r 3 : Nat), .int .u64 (dgl r 4 : Nat), .int .u64 (dgl r 5 : Nat), .int .u64 (dgl r 6 : Nat), .int .u64 (dgl r 7 : Nat)] := hL 25 (by decide +kernel)
      simp [go_sem, hc, hf, e20, e21, e25, hent]
      refine (HT.out W hC.2).mono ?_
      rintro e w' ⟨rfl, hb⟩
      exact ⟨_, rfl, by first | exact hb | (subst hb; exact Below.refl _ _), rfl⟩
    exact gSt0
  · intro W hC
    refine gFi 20 rfl ?_
    rintro _ rfl
    refine gFi 21 rfl ?_
    rintro _ rfl
    refine gFi 22 rfl ?_
    rintro _ rfl
    refine gFi 23 rfl ?_
    rintro _ rfl
    refine gFi 24 rfl ?_
    rintro _ rfl
    refine gFi 25 rfl ?_
    rintro _ rfl
    refine gFi 26 rfl ?_
    rintro _ rfl
    refine gFi0 ?_
    simp only [List.drop_succ_cons, List.drop_zero, Act.put, List.setIfInBounds_toArray, List.set_cons_succ, List.set_cons_zero]
    have z0 := hC.1.z 0 (by decide)
    have z1 := hC.1.z 1 (by decide)
    have z2 := hC.1.z 2 (by decide)
    have z3 := hC.1.z 3 (by decide)
    have z4 := hC.1.z 4 (by decide)
    have z5 := hC.1.z 5 (by decide)
    have z6 := hC.1.z 6 (by decide)
    have z7 := hC.1.z 7 (by decide)
    have hrf := hC.1.f
    have hlt := hC.1.lt
    have HB := hide hC.1.s.s.bel
    clear hC h1
    go_wp2
    exact bodyPost_ret (v := .agg #[.int .u64 (dgl (x) 0 : Nat), .int .u64 (dgl (x) 1 : Nat), .int .u64 (dgl (x) 2 : Nat), .int .u64 (dgl (x) 3 : Nat), .int .u64 (dgl (x) 4 : Nat), .int .u64 (dgl (x) 5 : Nat), .int .u64 (dgl (x) 6 : Nat), .int .u64 (dgl (x) 7 : Nat)]) (by simp [results, Tryd.results138, go_sem, hlt, z0, z1, z2, z3, z4, z5, z6, z7]) rfl ⟨rfl, ((((((((HB.out.setCell (p := ⟨w.heap.size + 1, 0, none⟩) (Nat.le_succ _) _).setCell (p := ⟨w.heap.size + 1, 1, none⟩) (Nat.le_succ _) _).setCell (p := ⟨w.heap.size + 1, 2, none⟩) (Nat.le_succ _) _).setCell (p := ⟨w.heap.size + 1, 3, none⟩) (Nat.le_succ _) _).setCell (p := ⟨w.heap.size + 1, 4, none⟩) (Nat.le_succ _) _).setCell (p := ⟨w.heap.size + 1, 5, none⟩) (Nat.le_succ _) _).setCell (p := ⟨w.heap.size + 1, 6, none⟩) (Nat.le_succ _) _).setCell (p := ⟨w.heap.size + 1, 7, none⟩) (Nat.le_succ _) _)⟩

end Go.Proofs.YtpcjdllijkjdkaaDoor

/- Contracts: class.signed. -/
set_option linter.unusedVariables false
set_option linter.unusedSimpArgs false
set_option maxRecDepth 8000
namespace Go.Proofs.YtpcjdllijkjdkaaDoor
open Go.RowKit Plain

end Go.Proofs.YtpcjdllijkjdkaaDoor

/- Contracts: the closures of class.Fraction, Abs, Flip. -/
set_option linter.unusedVariables false
set_option linter.unusedSimpArgs false
set_option maxRecDepth 8000
namespace Go.Proofs.YtpcjdllijkjdkaaDoor
open Go.RowKit Plain

set_option maxHeartbeats 1000000 in
theorem fracC1_any (k : Nat → Int) (ng : Bool) (fd r : Nat) (w : World) : Calls Tryd.prog 139 #[.agg #[.int .i64 (k 0), .int .i64 (k 1), .int .i64 (k 2), .int .i64 (k 3), .int .i64 (k 4)], .agg #[.bool ng, .int .i64 ((fd : Nat)), .int .u64 (dgl r 0 : Nat), .int .u64 (dgl r 1 : Nat), .int .u64 (dgl r 2 : Nat), .int .u64 (dgl r 3 : Nat), .int .u64 (dgl r 4 : Nat), .int .u64 (dgl r 5 : Nat), .int .u64 (dgl r 6 : Nat), .int .u64 (dgl r 7 : Nat)]] w fun e w' => e = .returned (.agg #[.int .u64 (dgl (r) 0 : Nat), .int .u64 (dgl (r) 1 : Nat), .int .u64 (dgl (r) 2 : Nat), .int .u64 (dgl (r) 3 : Nat), .int .u64 (dgl (r) 4 : Nat), .int .u64 (dgl (r) 5 : Nat), .int .u64 (dgl (r) 6 : Nat), .int .u64 (dgl (r) 7 : Nat)]) ∧ Below w.heap.size w w' := by
  go_enter Tryd.func139, Tryd.ntmps139
  go_wp2
  exact bodyPost_ret (v := .agg #[.int .u64 (dgl (r) 0 : Nat), .int .u64 (dgl (r) 1 : Nat), .int .u64 (dgl (r) 2 : Nat), .int .u64 (dgl (r) 3 : Nat), .int .u64 (dgl (r) 4 : Nat), .int .u64 (dgl (r) 5 : Nat), .int .u64 (dgl (r) 6 : Nat), .int .u64 (dgl (r) 7 : Nat)]) (by simp [results, Tryd.results139, go_sem]) rfl ⟨rfl, by first | exact below_trans (below_allocs _ _) (below_trans (below_allocs _ _) (below_allocs _ _)) | exact below_set8 (below_trans (below_allocs _ _) (below_trans (below_allocs _ _) (below_allocs _ _))) _ (by omega) _ _ _ _ _ _ _ _⟩

end Go.Proofs.YtpcjdllijkjdkaaDoor

/- Contracts: class.Fraction, Abs, Flip, as passes. -/
set_option linter.unusedVariables false
set_option linter.unusedSimpArgs false
set_option maxRecDepth 8000
namespace Go.Proofs.YtpcjdllijkjdkaaDoor
open Go.RowKit Plain

set_option maxHeartbeats 1000000 in
theorem cfrac_pass (f : Int) (hi lo x : Nat) (HM : Hid (∀ w, FmtG w → Calls Tryd.prog 138 #[.int .i64 f, .agg #[.int .u64 (hi : Nat), .int .u64 (lo : Nat)], .func (.func 139) #[] #[]] w fun e w' => e = .returned (.agg #[.int .u64 (dgl (x) 0 : Nat), .int .u64 (dgl (x) 1 : Nat), .int .u64 (dgl (x) 2 : Nat), .int .u64 (dgl (x) 3 : Nat), .int .u64 (dgl (x) 4 : Nat), .int .u64 (dgl (x) 5 : Nat), .int .u64 (dgl (x) 6 : Nat), .int .u64 (dgl (x) 7 : Nat)]) ∧ Below w.heap.size w w')) (w : World) (hg : FmtG w) :
    Calls Tryd.prog 98 #[.int .i64 f, .agg #[.int .u64 (hi : Nat), .int .u64 (lo : Nat)]] w fun e w' => e = .returned (.agg #[.int .u64 (dgl (x) 0 : Nat), .int .u64 (dgl (x) 1 : Nat), .int .u64 (dgl (x) 2 : Nat), .int .u64 (dgl (x) 3 : Nat), .int .u64 (dgl (x) 4 : Nat), .int .u64 (dgl (x) 5 : Nat), .int .u64 (dgl (x) 6 : Nat), .int .u64 (dgl (x) 7 : Nat)]) ∧ Below w.heap.size w w' := by
  have HST := hide (Aw0.start hi lo w)
  have HG := hide (hg.below HST.out.s.bel)
  clear hg
  go_enter Tryd.func98, Tryd.ntmps98
  go_wp2_with fail
  refine (HM.out _ HG.out).mono ?_
  rintro e w1 ⟨rfl, hb1⟩
  replace HST := hide (HST.out.below hb1)
  clear hb1 HG
  have z0 := HST.out.z 0 (by decide)
  have z1 := HST.out.z 1 (by decide)
  have z2 := HST.out.z 2 (by decide)
  have z3 := HST.out.z 3 (by decide)
  have z4 := HST.out.z 4 (by decide)
  have z5 := HST.out.z 5 (by decide)
  have z6 := HST.out.z 6 (by decide)
  have z7 := HST.out.z 7 (by decide)
  have hrf := HST.out.f
  have hlt := HST.out.lt
  have HB := hide HST.out.s.bel
  clear HST
  go_wp2
  exact bodyPost_ret (v := .agg #[.int .u64 (dgl (x) 0 : Nat), .int .u64 (dgl (x) 1 : Nat), .int .u64 (dgl (x) 2 : Nat), .int .u64 (dgl (x) 3 : Nat), .int .u64 (dgl (x) 4 : Nat), .int .u64 (dgl (x) 5 : Nat), .int .u64 (dgl (x) 6 : Nat), .int .u64 (dgl (x) 7 : Nat)]) (by simp [results, Tryd.results98, go_sem, hlt, z0, z1, z2, z3, z4, z5, z6, z7]) rfl ⟨rfl, below_set8 HB.out _ (by omega) _ _ _ _ _ _ _ _⟩

end Go.Proofs.YtpcjdllijkjdkaaDoor

/- Contracts of class, one for all formats: Of, Neg, Field, Fraction, Abs, Flip, Make. -/
set_option linter.unusedVariables false
set_option linter.unusedSimpArgs false
set_option maxRecDepth 8000
namespace Go.Proofs.YtpcjdllijkjdkaaDoor
open Go.RowKit Plain

/-- What a table of the formats tells of one. -/
def tU {α : Type} (f : Int) (x1 x2 x3 x4 d : α) : α := if f = 1 then x1 else if f = 2 then x2 else if f = 3 then x3 else if f = 4 then x4 else d
theorem tU_none {α : Type} (f : Int) (h : f < 1 ∨ 4 < f) (x1 x2 x3 x4 d : α) : tU f x1 x2 x3 x4 d = d := by
  unfold tU
  rw [if_neg (by omega), if_neg (by omega), if_neg (by omega), if_neg (by omega)]
theorem f_cases (f : Int) : f = 1 ∨ f = 2 ∨ f = 3 ∨ f = 4 ∨ (f < 1 ∨ 4 < f) := by omega
def bU (f : Int) : Nat := tU f 16 32 64 128 0
def frcN (B P a : Nat) : Nat := if a < 2 ^ B then a % 2 ^ (P - 1) else 0
def absN (B a : Nat) : Nat := if a < 2 ^ B then a % 2 ^ (B - 1) else 0
def clsU (f : Int) (a : Nat) : Nat := tU f (clsN 16 11 5 a) (clsN 32 24 8 a) (clsN 64 53 11 a) (clsN 128 113 15 a) 0
def fldU (f : Int) (a : Nat) : Nat := tU f (fldN 16 11 5 a) (fldN 32 24 8 a) (fldN 64 53 11 a) (fldN 128 113 15 a) 0
def negU (f : Int) (a : Nat) : Bool := tU f (negN 16 a) (negN 32 a) (negN 64 a) (negN 128 a) false
def frcU (f : Int) (a : Nat) : Nat := tU f (frcN 16 11 a) (frcN 32 24 a) (frcN 64 53 a) (frcN 128 113 a) 0
def absU (f : Int) (a : Nat) : Nat := tU f (absN 16 a) (absN 32 a) (absN 64 a) (absN 128 a) 0
def fitU (f : Int) (a : Nat) : Bool := tU f (decide (a < 2 ^ 16)) (decide (a < 2 ^ 32)) (decide (a < 2 ^ 64)) (decide (a < 2 ^ 128)) false

theorem cfrac_none (f : Int) (h : f < 1 ∨ 4 < f) (hi lo : Nat) (w : World) (hg : FmtG w) : Calls Tryd.prog 98 #[.int .i64 f, .agg #[.int .u64 (hi : Nat), .int .u64 (lo : Nat)]] w fun e w' => e = .returned (.agg #[.int .u64 (dgl (0) 0 : Nat), .int .u64 (dgl (0) 1 : Nat), .int .u64 (dgl (0) 2 : Nat), .int .u64 (dgl (0) 3 : Nat), .int .u64 (dgl (0) 4 : Nat), .int .u64 (dgl (0) 5 : Nat), .int .u64 (dgl (0) 6 : Nat), .int .u64 (dgl (0) 7 : Nat)]) ∧ Below w.heap.size w w' :=
  cfrac_pass f hi lo 0 (fun w hg => asked_wide_no f hi lo _ (fun w hg => fits_none f h hi lo w) w hg) w hg
set_option maxHeartbeats 1000000 in
theorem cfrac_1 (hi lo : Nat) (hh : hi < 18446744073709551616) (hl : lo < 18446744073709551616) (w : World) (hg : FmtG w) : Calls Tryd.prog 98 #[.int .i64 1, .agg #[.int .u64 (hi : Nat), .int .u64 (lo : Nat)]] w fun e w' => e = .returned (.agg #[.int .u64 (dgl (frcN 16 11 (lo + 18446744073709551616 * hi)) 0 : Nat), .int .u64 (dgl (frcN 16 11 (lo + 18446744073709551616 * hi)) 1 : Nat), .int .u64 (dgl (frcN 16 11 (lo + 18446744073709551616 * hi)) 2 : Nat), .int .u64 (dgl (frcN 16 11 (lo + 18446744073709551616 * hi)) 3 : Nat), .int .u64 (dgl (frcN 16 11 (lo + 18446744073709551616 * hi)) 4 : Nat), .int .u64 (dgl (frcN 16 11 (lo + 18446744073709551616 * hi)) 5 : Nat), .int .u64 (dgl (frcN 16 11 (lo + 18446744073709551616 * hi)) 6 : Nat), .int .u64 (dgl (frcN 16 11 (lo + 18446744073709551616 * hi)) 7 : Nat)]) ∧ Below w.heap.size w w' := by
  refine cfrac_pass 1 hi lo _ (fun w hg => ?_) w hg
  by_cases h : (lo + 18446744073709551616 * hi) < 2 ^ 16
  · rw [show frcN 16 11 (lo + 18446744073709551616 * hi) = (lo + 18446744073709551616 * hi) % 2 ^ 10 from if_pos h]
    exact asked_wide 1 hi lo (lo + 18446744073709551616 * hi) ((lo + 18446744073709551616 * hi) / 2 ^ 10 % 2 ^ 5) ((lo + 18446744073709551616 * hi) % 2 ^ 10) ((lo + 18446744073709551616 * hi) / 2 ^ 15 % 2 == 1) (fun i => [16, 11, 15, -14, 5].getD i 0) 139 #[] (fun _ => True) (fun _ _ _ _ => trivial) _ (enters_of Tryd.func139 (by kernel_rfl) rfl) (fun w hg => by have h1 := fits_1 hi lo hh hl w hg; rw [decide_eq_true h] at h1; exact h1) (fun w hg => of_1 w hg) (fun w => wideFrom_any hi lo hh hl w) (fun w => taken_1 _ h w) (fun w _ => fracC1_any (fun i => [16, 11, 15, -14, 5].getD i 0) _ _ _ w) w hg trivial
  · rw [show frcN 16 11 (lo + 18446744073709551616 * hi) = 0 from if_neg h]
    exact asked_wide_no 1 hi lo _ (fun w hg => by have h1 := fits_1 hi lo hh hl w hg; rw [decide_eq_false h] at h1; exact h1) w hg

set_option maxHeartbeats 1000000 in
theorem cfrac_2 (hi lo : Nat) (hh : hi < 18446744073709551616) (hl : lo < 18446744073709551616) (w : World) (hg : FmtG w) : Calls Tryd.prog 98 #[.int .i64 2, .agg #[.int .u64 (hi : Nat), .int .u64 (lo : Nat)]] w fun e w' => e = .returned (.agg #[.int .u64 (dgl (frcN 32 24 (lo + 18446744073709551616 * hi)) 0 : Nat), .int .u64 (dgl (frcN 32 24 (lo + 18446744073709551616 * hi)) 1 : Nat), .int .u64 (dgl (frcN 32 24 (lo + 18446744073709551616 * hi)) 2 : Nat), .int .u64 (dgl (frcN 32 24 (lo + 18446744073709551616 * hi)) 3 : Nat), .int .u64 (dgl (frcN 32 24 (lo + 18446744073709551616 * hi)) 4 : Nat), .int .u64 (dgl (frcN 32 24 (lo + 18446744073709551616 * hi)) 5 : Nat), .int .u64 (dgl (frcN 32 24 (lo + 18446744073709551616 * hi)) 6 : Nat), .int .u64 (dgl (frcN 32 24 (lo + 18446744073709551616 * hi)) 7 : Nat)]) ∧ Below w.heap.size w w' := by
  refine cfrac_pass 2 hi lo _ (fun w hg => ?_) w hg
  by_cases h : (lo + 18446744073709551616 * hi) < 2 ^ 32
  · rw [show frcN 32 24 (lo + 18446744073709551616 * hi) = (lo + 18446744073709551616 * hi) % 2 ^ 23 from if_pos h]
    exact asked_wide 2 hi lo (lo + 18446744073709551616 * hi) ((lo + 18446744073709551616 * hi) / 2 ^ 23 % 2 ^ 8) ((lo + 18446744073709551616 * hi) % 2 ^ 23) ((lo + 18446744073709551616 * hi) / 2 ^ 31 % 2 == 1) (fun i => [32, 24, 127, -126, 8].getD i 0) 139 #[] (fun _ => True) (fun _ _ _ _ => trivial) _ (enters_of Tryd.func139 (by kernel_rfl) rfl) (fun w hg => by have h1 := fits_2 hi lo hh hl w hg; rw [decide_eq_true h] at h1; exact h1) (fun w hg => of_2 w hg) (fun w => wideFrom_any hi lo hh hl w) (fun w => taken_2 _ h w) (fun w _ => fracC1_any (fun i => [32, 24, 127, -126, 8].getD i 0) _ _ _ w) w hg trivial
  · rw [show frcN 32 24 (lo + 18446744073709551616 * hi) = 0 from if_neg h]
    exact asked_wide_no 2 hi lo _ (fun w hg => by have h1 := fits_2 hi lo hh hl w hg; rw [decide_eq_false h] at h1; exact h1) w hg

set_option maxHeartbeats 1000000 in
theorem cfrac_3 (hi lo : Nat) (hh : hi < 18446744073709551616) (hl : lo < 18446744073709551616) (w : World) (hg : FmtG w) : Calls Tryd.prog 98 #[.int .i64 3, .agg #[.int .u64 (hi : Nat), .int .u64 (lo : Nat)]] w fun e w' => e = .returned (.agg #[.int .u64 (dgl (frcN 64 53 (lo + 18446744073709551616 * hi)) 0 : Nat), .int .u64 (dgl (frcN 64 53 (lo + 18446744073709551616 * hi)) 1 : Nat), .int .u64 (dgl (frcN 64 53 (lo + 18446744073709551616 * hi)) 2 : Nat), .int .u64 (dgl (frcN 64 53 (lo + 18446744073709551616 * hi)) 3 : Nat), .int .u64 (dgl (frcN 64 53 (lo + 18446744073709551616 * hi)) 4 : Nat), .int .u64 (dgl (frcN 64 53 (lo + 18446744073709551616 * hi)) 5 : Nat), .int .u64 (dgl (frcN 64 53 (lo + 18446744073709551616 * hi)) 6 : Nat), .int .u64 (dgl (frcN 64 53 (lo + 18446744073709551616 * hi)) 7 : Nat)]) ∧ Below w.heap.size w w' := by
  refine cfrac_pass 3 hi lo _ (fun w hg => ?_) w hg
  by_cases h : (lo + 18446744073709551616 * hi) < 2 ^ 64
  · rw [show frcN 64 53 (lo + 18446744073709551616 * hi) = (lo + 18446744073709551616 * hi) % 2 ^ 52 from if_pos h]
    exact asked_wide 3 hi lo (lo + 18446744073709551616 * hi) ((lo + 18446744073709551616 * hi) / 2 ^ 52 % 2 ^ 11) ((lo + 18446744073709551616 * hi) % 2 ^ 52) ((lo + 18446744073709551616 * hi) / 2 ^ 63 % 2 == 1) (fun i => [64, 53, 1023, -1022, 11].getD i 0) 139 #[] (fun _ => True) (fun _ _ _ _ => trivial) _ (enters_of Tryd.func139 (by kernel_rfl) rfl) (fun w hg => by have h1 := fits_3 hi lo hh hl w hg; rw [decide_eq_true h] at h1; exact h1) (fun w hg => of_3 w hg) (fun w => wideFrom_any hi lo hh hl w) (fun w => taken_3 _ h w) (fun w _ => fracC1_any (fun i => [64, 53, 1023, -1022, 11].getD i 0) _ _ _ w) w hg trivial
  · rw [show frcN 64 53 (lo + 18446744073709551616 * hi) = 0 from if_neg h]
    exact asked_wide_no 3 hi lo _ (fun w hg => by have h1 := fits_3 hi lo hh hl w hg; rw [decide_eq_false h] at h1; exact h1) w hg

set_option maxHeartbeats 1000000 in
theorem cfrac_4 (hi lo : Nat) (hh : hi < 18446744073709551616) (hl : lo < 18446744073709551616) (w : World) (hg : FmtG w) : Calls Tryd.prog 98 #[.int .i64 4, .agg #[.int .u64 (hi : Nat), .int .u64 (lo : Nat)]] w fun e w' => e = .returned (.agg #[.int .u64 (dgl (frcN 128 113 (lo + 18446744073709551616 * hi)) 0 : Nat), .int .u64 (dgl (frcN 128 113 (lo + 18446744073709551616 * hi)) 1 : Nat), .int .u64 (dgl (frcN 128 113 (lo + 18446744073709551616 * hi)) 2 : Nat), .int .u64 (dgl (frcN 128 113 (lo + 18446744073709551616 * hi)) 3 : Nat), .int .u64 (dgl (frcN 128 113 (lo + 18446744073709551616 * hi)) 4 : Nat), .int .u64 (dgl (frcN 128 113 (lo + 18446744073709551616 * hi)) 5 : Nat), .int .u64 (dgl (frcN 128 113 (lo + 18446744073709551616 * hi)) 6 : Nat), .int .u64 (dgl (frcN 128 113 (lo + 18446744073709551616 * hi)) 7 : Nat)]) ∧ Below w.heap.size w w' := by
  refine cfrac_pass 4 hi lo _ (fun w hg => ?_) w hg
  by_cases h : (lo + 18446744073709551616 * hi) < 2 ^ 128
  · rw [show frcN 128 113 (lo + 18446744073709551616 * hi) = (lo + 18446744073709551616 * hi) % 2 ^ 112 from if_pos h]
    exact asked_wide 4 hi lo (lo + 18446744073709551616 * hi) ((lo + 18446744073709551616 * hi) / 2 ^ 112 % 2 ^ 15) ((lo + 18446744073709551616 * hi) % 2 ^ 112) ((lo + 18446744073709551616 * hi) / 2 ^ 127 % 2 == 1) (fun i => [128, 113, 16383, -16382, 15].getD i 0) 139 #[] (fun _ => True) (fun _ _ _ _ => trivial) _ (enters_of Tryd.func139 (by kernel_rfl) rfl) (fun w hg => by have h1 := fits_4 hi lo hh hl w hg; rw [decide_eq_true h] at h1; exact h1) (fun w hg => of_4 w hg) (fun w => wideFrom_any hi lo hh hl w) (fun w => taken_4 _ h w) (fun w _ => fracC1_any (fun i => [128, 113, 16383, -16382, 15].getD i 0) _ _ _ w) w hg trivial
  · rw [show frcN 128 113 (lo + 18446744073709551616 * hi) = 0 from if_neg h]
    exact asked_wide_no 4 hi lo _ (fun w hg => by have h1 := fits_4 hi lo hh hl w hg; rw [decide_eq_false h] at h1; exact h1) w hg

theorem cof_u (f : Int) (a : Nat) (ha : a < 2 ^ 128) (w : World) (hg : FmtG w) : Calls Tryd.prog 92 #[.int .i64 f, .agg #[.int .u64 (dgl (a) 1 : Nat), .int .u64 (dgl (a) 0 : Nat)]] w fun e w' => e = .returned (.int .i64 ((clsU f a : Nat) : Int)) ∧ Below w.heap.size w w' := by
  rcases f_cases f with rfl | rfl | rfl | rfl | h
  · have h0 := cof_1 (dgl a 1) (dgl a 0) (dgl_lt _ _) (dgl_lt _ _) w hg
    rw [word_back a ha] at h0
    exact h0
  · have h0 := cof_2 (dgl a 1) (dgl a 0) (dgl_lt _ _) (dgl_lt _ _) w hg
    rw [word_back a ha] at h0
    exact h0
  · have h0 := cof_3 (dgl a 1) (dgl a 0) (dgl_lt _ _) (dgl_lt _ _) w hg
    rw [word_back a ha] at h0
    exact h0
  · have h0 := cof_4 (dgl a 1) (dgl a 0) (dgl_lt _ _) (dgl_lt _ _) w hg
    rw [word_back a ha] at h0
    exact h0
  · rw [show clsU f a = _ from tU_none f h _ _ _ _ _]
    exact cof_none f h _ _ w hg

theorem cneg_u (f : Int) (a : Nat) (ha : a < 2 ^ 128) (w : World) (hg : FmtG w) : Calls Tryd.prog 97 #[.int .i64 f, .agg #[.int .u64 (dgl (a) 1 : Nat), .int .u64 (dgl (a) 0 : Nat)]] w fun e w' => e = .returned (.bool (negU f a)) ∧ Below w.heap.size w w' := by
  rcases f_cases f with rfl | rfl | rfl | rfl | h
  · have h0 := cneg_1 (dgl a 1) (dgl a 0) (dgl_lt _ _) (dgl_lt _ _) w hg
    rw [word_back a ha] at h0
    exact h0
  · have h0 := cneg_2 (dgl a 1) (dgl a 0) (dgl_lt _ _) (dgl_lt _ _) w hg
    rw [word_back a ha] at h0
    exact h0
  · have h0 := cneg_3 (dgl a 1) (dgl a 0) (dgl_lt _ _) (dgl_lt _ _) w hg
    rw [word_back a ha] at h0
    exact h0
  · have h0 := cneg_4 (dgl a 1) (dgl a 0) (dgl_lt _ _) (dgl_lt _ _) w hg
    rw [word_back a ha] at h0
    exact h0
  · rw [show negU f a = _ from tU_none f h _ _ _ _ _]
    exact cneg_none f h _ _ w hg

theorem cfld_u (f : Int) (a : Nat) (ha : a < 2 ^ 128) (w : World) (hg : FmtG w) : Calls Tryd.prog 101 #[.int .i64 f, .agg #[.int .u64 (dgl (a) 1 : Nat), .int .u64 (dgl (a) 0 : Nat)]] w fun e w' => e = .returned (.int .i64 ((fldU f a : Nat) : Int)) ∧ Below w.heap.size w w' := by
  rcases f_cases f with rfl | rfl | rfl | rfl | h
  · have h0 := cfld_1 (dgl a 1) (dgl a 0) (dgl_lt _ _) (dgl_lt _ _) w hg
    rw [word_back a ha] at h0
    exact h0
  · have h0 := cfld_2 (dgl a 1) (dgl a 0) (dgl_lt _ _) (dgl_lt _ _) w hg
    rw [word_back a ha] at h0
    exact h0
  · have h0 := cfld_3 (dgl a 1) (dgl a 0) (dgl_lt _ _) (dgl_lt _ _) w hg
    rw [word_back a ha] at h0
    exact h0
  · have h0 := cfld_4 (dgl a 1) (dgl a 0) (dgl_lt _ _) (dgl_lt _ _) w hg
    rw [word_back a ha] at h0
    exact h0
  · rw [show fldU f a = _ from tU_none f h _ _ _ _ _]
    exact cfld_none f h _ _ w hg

theorem cfrac_u (f : Int) (a : Nat) (ha : a < 2 ^ 128) (w : World) (hg : FmtG w) : Calls Tryd.prog 98 #[.int .i64 f, .agg #[.int .u64 (dgl (a) 1 : Nat), .int .u64 (dgl (a) 0 : Nat)]] w fun e w' => e = .returned (.agg #[.int .u64 (dgl (frcU f a) 0 : Nat), .int .u64 (dgl (frcU f a) 1 : Nat), .int .u64 (dgl (frcU f a) 2 : Nat), .int .u64 (dgl (frcU f a) 3 : Nat), .int .u64 (dgl (frcU f a) 4 : Nat), .int .u64 (dgl (frcU f a) 5 : Nat), .int .u64 (dgl (frcU f a) 6 : Nat), .int .u64 (dgl (frcU f a) 7 : Nat)]) ∧ Below w.heap.size w w' := by
  rcases f_cases f with rfl | rfl | rfl | rfl | h
  · have h0 := cfrac_1 (dgl a 1) (dgl a 0) (dgl_lt _ _) (dgl_lt _ _) w hg
    rw [word_back a ha] at h0
    exact h0
  · have h0 := cfrac_2 (dgl a 1) (dgl a 0) (dgl_lt _ _) (dgl_lt _ _) w hg
    rw [word_back a ha] at h0
    exact h0
  · have h0 := cfrac_3 (dgl a 1) (dgl a 0) (dgl_lt _ _) (dgl_lt _ _) w hg
    rw [word_back a ha] at h0
    exact h0
  · have h0 := cfrac_4 (dgl a 1) (dgl a 0) (dgl_lt _ _) (dgl_lt _ _) w hg
    rw [word_back a ha] at h0
    exact h0
  · rw [show frcU f a = _ from tU_none f h _ _ _ _ _]
    exact cfrac_none f h _ _ w hg

theorem refCls_u (f : Int) (a : Nat) (ha : a < 2 ^ 128) (w : World) : Calls Tryd.prog 31 #[.int .i64 f, .agg #[.int .u64 (dgl (a) 1 : Nat), .int .u64 (dgl (a) 0 : Nat)]] w fun e w' => e = .returned (.int .i64 ((clsU f a : Nat) : Int)) ∧ Below w.heap.size w w' := by
  rcases f_cases f with rfl | rfl | rfl | rfl | h
  · have h0 := refCls_1 (dgl a 1) (dgl a 0) (dgl_lt _ _) (dgl_lt _ _) w
    rw [word_back a ha] at h0
    exact h0
  · have h0 := refCls_2 (dgl a 1) (dgl a 0) (dgl_lt _ _) (dgl_lt _ _) w
    rw [word_back a ha] at h0
    exact h0
  · have h0 := refCls_3 (dgl a 1) (dgl a 0) (dgl_lt _ _) (dgl_lt _ _) w
    rw [word_back a ha] at h0
    exact h0
  · have h0 := refCls_4 (dgl a 1) (dgl a 0) (dgl_lt _ _) (dgl_lt _ _) w
    rw [word_back a ha] at h0
    exact h0
  · rw [show clsU f a = _ from tU_none f h _ _ _ _ _]
    exact refCls_none f h _ _ w

end Go.Proofs.YtpcjdllijkjdkaaDoor

/- Numbers of words: signs and classes. -/
set_option linter.unusedVariables false
set_option linter.unusedSimpArgs false
set_option maxRecDepth 8000
namespace Go.Proofs.YtpcjdllijkjdkaaDoor
open Go.RowKit Plain

theorem pow_half (B : Nat) (h : 0 < B) : 2 ^ B = 2 * 2 ^ (B - 1) := by
  obtain ⟨c, rfl⟩ : ∃ c, B = c + 1 := ⟨B - 1, by omega⟩
  rw [Nat.add_sub_cancel, Nat.pow_succ, Nat.mul_comm]
theorem cls_fit {B P F a : Nat} (h : clsN B P F a ≠ 0) : a < 2 ^ B := by
  refine Classical.byContradiction fun h1 => h ?_
  exact if_neg h1
theorem fld_mod (a p F : Nat) : a / 2 ^ p % 2 ^ F = a % 2 ^ (p + F) / 2 ^ p := by
  rw [Nat.pow_add, Nat.mod_mul_right_div_self]
theorem frc_mod (a p F : Nat) : a % 2 ^ p = a % 2 ^ (p + F) % 2 ^ p := by
  rw [Nat.pow_add, Nat.mod_mul_right_mod]
theorem cls_mod {P F a b : Nat} (hP : 0 < P) (ha : a < 2 ^ (P + F)) (hb : b < 2 ^ (P + F)) (h : a % 2 ^ (P + F - 1) = b % 2 ^ (P + F - 1)) : clsN (P + F) P F a = clsN (P + F) P F b := by
  unfold clsN
  rw [if_pos ha, if_pos hb, fld_mod a, fld_mod b, frc_mod a (P - 1) F, frc_mod b (P - 1) F, show P - 1 + F = P + F - 1 by omega, h]
end Go.Proofs.YtpcjdllijkjdkaaDoor

/- Contracts: class.Finite, IsNaN; the document's Signed, Field, Fraction, one for all formats. -/
set_option linter.unusedVariables false
set_option linter.unusedSimpArgs false
set_option maxRecDepth 8000
namespace Go.Proofs.YtpcjdllijkjdkaaDoor
open Go.RowKit Plain

theorem cfin_u (f : Int) (a : Nat) (ha : a < 2 ^ 128) (w : World) (hg : FmtG w) : Calls Tryd.prog 125 #[.int .i64 f, .agg #[.int .u64 (dgl (a) 1 : Nat), .int .u64 (dgl (a) 0 : Nat)]] w fun e w' => e = .returned (.bool (decide (4 ≤ clsU f a))) ∧ Below w.heap.size w w' := by
  have HB0 := hide (below_allocs w (.cells #[.int .u64 (dgl (a) 1 : Nat), .int .u64 (dgl (a) 0 : Nat)] 28))
  have HG := hide (hg.below HB0.out)
  have hc := fun w hg => cof_u f a ha w hg
  generalize clsU f a = k at *
  have HC := hide hc
  clear hg ha hc
  go_enter Tryd.func125, Tryd.ntmps125
  go_wp2_with fail
  refine (HC.out _ HG.out).mono ?_
  rintro e w1 ⟨rfl, hb1⟩
  have HB := hide (below_trans HB0.out hb1)
  have HD : Hid (decide ((4 : Int) ≤ (k : Int)) = decide (4 ≤ k)) := by unfold Hid; rw [decide_eq_decide]; omega
  clear hb1 HG HB0 HC
  go_wp2
  go_ret
  exact ⟨ret_bl HD.out, HB.out⟩
/-- A word's number with a sign. -/
def sgnN (B : Nat) (neg : Bool) (a : Nat) : Nat := neg.toNat * 2 ^ (B - 1) + a % 2 ^ (B - 1)
def sgnU (f : Int) (neg : Bool) (a : Nat) : Nat := tU f (sgnN 16 neg a) (sgnN 32 neg a) (sgnN 64 neg a) (sgnN 128 neg a) 0

theorem sgn_abs (f : Int) (a : Nat) (h : clsU f a ≠ 0) : sgnU f false a = absU f a := by
  rcases f_cases f with rfl | rfl | rfl | rfl | h0
  · rw [show absU 1 a = a % 2 ^ (16 - 1) from if_pos (cls_fit (B := 16) (P := 11) (F := 5) h)]
    show 0 * _ + _ = _
    rw [Nat.zero_mul, Nat.zero_add]
  · rw [show absU 2 a = a % 2 ^ (32 - 1) from if_pos (cls_fit (B := 32) (P := 24) (F := 8) h)]
    show 0 * _ + _ = _
    rw [Nat.zero_mul, Nat.zero_add]
  · rw [show absU 3 a = a % 2 ^ (64 - 1) from if_pos (cls_fit (B := 64) (P := 53) (F := 11) h)]
    show 0 * _ + _ = _
    rw [Nat.zero_mul, Nat.zero_add]
  · rw [show absU 4 a = a % 2 ^ (128 - 1) from if_pos (cls_fit (B := 128) (P := 113) (F := 15) h)]
    show 0 * _ + _ = _
    rw [Nat.zero_mul, Nat.zero_add]
  · exact absurd (tU_none f h0 _ _ _ _ _) h
end Go.Proofs.YtpcjdllijkjdkaaDoor

/- Words that lie in a block. -/
set_option linter.unusedVariables false
set_option linter.unusedSimpArgs false
set_option maxRecDepth 8000
namespace Go.Proofs.YtpcjdllijkjdkaaDoor
open Go.RowKit Plain

/-- A word that lies where the call has laid it, and the table of formats. -/
structure OwSt (a : Nat) (w W : World) : Prop where
  g : FmtG W
  gl : 1 < w.heap.size
  h : W.cell? ⟨w.heap.size, 0, none⟩ = some (.int .u64 (dgl a 1 : Nat))
  l : W.cell? ⟨w.heap.size, 1, none⟩ = some (.int .u64 (dgl a 0 : Nat))
  lt : w.heap.size < W.heap.size
  bel : Below w.heap.size w W
theorem OwSt.below {a : Nat} {w W W' : World} (h : OwSt a w W) (hb : Below W.heap.size W W') : OwSt a w W' :=
  ⟨h.g.below hb, h.gl, (hb.cell (p := ⟨w.heap.size, 0, none⟩) h.lt).trans h.h, (hb.cell (p := ⟨w.heap.size, 1, none⟩) h.lt).trans h.l, Nat.lt_of_lt_of_le h.lt hb.size, below_trans h.bel hb⟩
theorem owSt_start (a : Nat) (w : World) (hg : FmtG w) : OwSt a w (w.alloc (.cells #[.int .u64 (dgl (a) 1 : Nat), .int .u64 (dgl (a) 0 : Nat)] 28)) :=
  ⟨hg.below (below_allocs _ _), hg.lt, by simp [go_sem], by simp [go_sem], by simp, below_allocs _ _⟩

theorem clsN_ne {B P F a : Nat} (h : a < 2 ^ B) : clsN B P F a ≠ 0 := by
  unfold clsN clsP
  rw [if_pos h]
  split
  · split
    · decide
    · split <;> decide
  · split
    · split <;> decide
    · decide
theorem word_num (hi lo : Nat) (hh : hi < 18446744073709551616) (hl : lo < 18446744073709551616) : dgl (lo + 18446744073709551616 * hi) 1 = hi ∧ dgl (lo + 18446744073709551616 * hi) 0 = lo := by
  rw [dgl0, dgl1]
  omega

/-- A word that lies in a block. -/
structure WB (W : World) (p x y : Nat) : Prop where
  h : W.cell? ⟨p, 0, none⟩ = some (.int .u64 (x : Nat))
  l : W.cell? ⟨p, 1, none⟩ = some (.int .u64 (y : Nat))
  lt : p < W.heap.size
theorem WB.below {W W' : World} {p x y : Nat} (h : WB W p x y) (hb : Below W.heap.size W W') : WB W' p x y :=
  ⟨(hb.cell (p := ⟨p, 0, none⟩) h.lt).trans h.h, (hb.cell (p := ⟨p, 1, none⟩) h.lt).trans h.l, Nat.lt_of_lt_of_le h.lt hb.size⟩
theorem wb_set {W : World} {p x y x2 y2 : Nat} (h : WB W p x y) : WB ((W.setCell ⟨p, 0, none⟩ (.int .u64 (x2 : Nat))).setCell ⟨p, 1, none⟩ (.int .u64 (y2 : Nat))) p x2 y2 := by
  have h1 := h.h
  have h2 := h.l
  have h3 := h.lt
  exact ⟨by simp [go_sem, h1, h2, h3], by simp [go_sem, h1, h2, h3], by simpa [go_sem] using h3⟩
theorem wb_new (w : World) (e : TypeId) : WB (w.alloc (.cells #[.int .u64 0, .int .u64 0] e)) w.heap.size 0 0 :=
  ⟨by simp [go_sem], by simp [go_sem], by simp⟩
theorem OwSt.under {a : Nat} {w W W' : World} (h : OwSt a w W) (hb : Below (w.heap.size + 1) W W') : OwSt a w W' :=
  ⟨⟨fun i hi => (hb.cell (p := ⟨1, i, none⟩) (show 1 < _ by have := h.gl; omega)).trans (h.g.c i hi), Nat.lt_of_lt_of_le h.g.lt hb.size⟩, h.gl, (hb.cell (p := ⟨w.heap.size, 0, none⟩) (Nat.lt_succ_self _)).trans h.h, (hb.cell (p := ⟨w.heap.size, 1, none⟩) (Nat.lt_succ_self _)).trans h.l, Nat.lt_of_lt_of_le h.lt hb.size, h.bel.trans (hb.mono (Nat.le_succ _))⟩

end Go.Proofs.YtpcjdllijkjdkaaDoor

