/- NanQuiets: for every format and word the law returns true. Conditions: those of the tied card (the table of formats is laid as the program lays it). -/
import Derived.Test.YtpcjdllijkjdkaaDoorPartBA
import Derived.Test.YtpcjdllijkjdkaaDoorRows
import Derived.Test.YtpcjdllijkjdkaaDoorTie
import Derived.Test.YtpcjdllijkjdkaaDoorCards
import Derived.LaidMore
import Derived.Stop.Joined
import Derived.SevenTiedAt
import Derived.Test.YtpcjdllijkjdkaaDoorPartAC
import Derived.Test.YtpcjdllijkjdkaaDoorPartAU
import Derived.WalkKit
import Derived.ProofKit
import Derived.OpenShut
import Derived.ShutString
import Derived.ChangeOld
import Derived.Below
/- The walk of NanQuiets. -/
set_option linter.unusedVariables false
set_option linter.unusedSimpArgs false
set_option maxRecDepth 8000
namespace Go.Proofs.YtpcjdllijkjdkaaDoor
open Go.RowKit Plain

set_option maxHeartbeats 4000000 in
theorem nanQuiets_1 (f : Int) (a y s cl : Nat)
    (HQ : Hid (∀ w, FmtG w → Calls Tryd.prog 42 #[.int .i64 f, .agg #[.int .u64 (dgl (a) 1 : Nat), .int .u64 (dgl (a) 0 : Nat)]] w fun e w' => e = .returned (.agg #[.int .u64 (dgl (y) 1 : Nat), .int .u64 (dgl (y) 0 : Nat)]) ∧ Below w.heap.size w w'))
    (HRQ : Hid (∀ w, Calls Tryd.prog 43 #[.int .i64 f, .agg #[.int .u64 (dgl (a) 1 : Nat), .int .u64 (dgl (a) 0 : Nat)]] w fun e w' => e = .returned (.agg #[.int .u64 (dgl (y) 1 : Nat), .int .u64 (dgl (y) 0 : Nat)]) ∧ Below w.heap.size w w'))
    (HP1 : Hid (∀ w, FmtG w → Calls Tryd.prog 44 #[.int .i64 f, .agg #[.int .u64 (dgl (a) 1 : Nat), .int .u64 (dgl (a) 0 : Nat)]] w fun e w' => e = .returned (.tuple #[.agg #[.int .u64 (dgl (s) 0 : Nat), .int .u64 (dgl (s) 1 : Nat), .int .u64 (dgl (s) 2 : Nat), .int .u64 (dgl (s) 3 : Nat), .int .u64 (dgl (s) 4 : Nat), .int .u64 (dgl (s) 5 : Nat), .int .u64 (dgl (s) 6 : Nat), .int .u64 (dgl (s) 7 : Nat)], .bool true]) ∧ Below w.heap.size w w'))
    (HP2 : Hid (∀ w, FmtG w → Calls Tryd.prog 44 #[.int .i64 f, .agg #[.int .u64 (dgl (y) 1 : Nat), .int .u64 (dgl (y) 0 : Nat)]] w fun e w' => e = .returned (.tuple #[.agg #[.int .u64 (dgl (s) 0 : Nat), .int .u64 (dgl (s) 1 : Nat), .int .u64 (dgl (s) 2 : Nat), .int .u64 (dgl (s) 3 : Nat), .int .u64 (dgl (s) 4 : Nat), .int .u64 (dgl (s) 5 : Nat), .int .u64 (dgl (s) 6 : Nat), .int .u64 (dgl (s) 7 : Nat)], .bool true]) ∧ Below w.heap.size w w'))
    (HC1 : Hid (∀ w, Calls Tryd.prog 31 #[.int .i64 f, .agg #[.int .u64 (dgl (a) 1 : Nat), .int .u64 (dgl (a) 0 : Nat)]] w fun e w' => e = .returned (.int .i64 (cl : Nat)) ∧ Below w.heap.size w w'))
    (HC2 : Hid (∀ w, Calls Tryd.prog 31 #[.int .i64 f, .agg #[.int .u64 (dgl (y) 1 : Nat), .int .u64 (dgl (y) 0 : Nat)]] w fun e w' => e = .returned (.int .i64 2) ∧ Below w.heap.size w w'))
    (hq : ∀ w, (Op.equalIn 10000 28 (.agg #[.int .u64 (dgl (y) 1 : Nat), .int .u64 (dgl (y) 0 : Nat)]) (.agg #[.int .u64 (dgl (y) 1 : Nat), .int .u64 (dgl (y) 0 : Nat)])).run Tryd.prog w = .ok true w) (hs : ∀ w, (Op.equalIn 10000 24 (.agg #[.int .u64 (dgl (s) 0 : Nat), .int .u64 (dgl (s) 1 : Nat), .int .u64 (dgl (s) 2 : Nat), .int .u64 (dgl (s) 3 : Nat), .int .u64 (dgl (s) 4 : Nat), .int .u64 (dgl (s) 5 : Nat), .int .u64 (dgl (s) 6 : Nat), .int .u64 (dgl (s) 7 : Nat)]) (.agg #[.int .u64 (dgl (s) 0 : Nat), .int .u64 (dgl (s) 1 : Nat), .int .u64 (dgl (s) 2 : Nat), .int .u64 (dgl (s) 3 : Nat), .int .u64 (dgl (s) 4 : Nat), .int .u64 (dgl (s) 5 : Nat), .int .u64 (dgl (s) 6 : Nat), .int .u64 (dgl (s) 7 : Nat)])).run Tryd.prog w = .ok true w)
    (h1 : ((cl : Int) == 1) = true) (h2 : ((cl : Int) == 2) = false) (w : World) (hg : FmtG w) :
    Calls Tryd.prog 9 #[.int .i64 f, .agg #[.int .u64 (dgl (a) 1 : Nat), .int .u64 (dgl (a) 0 : Nat)]] w fun e w' => e = .returned (.bool true) ∧ Below w.heap.size w w' := by
  have HS := hide (owSt_start a w hg)
  clear hg
  go_enter Tryd.func9, Tryd.ntmps9
  go_upto_region 1 with fail
  refine wp_gen (fun W => OwSt a w W) HS.out ?_
  clear HS
  rintro W1 h1_
  have HS := hide h1_
  clear h1_
  have lh := HS.out.h
  have ll := HS.out.l
  go_wp2_with fail
  refine (HQ.out _ HS.out.g).mono ?_
  rintro e w1 ⟨rfl, hb1⟩
  replace HS := hide (HS.out.below hb1)
  clear hb1
  clear lh ll
  go_upto_region 2 with fail
  refine wp_gen (fun W => OwSt a w W ∧ WB W w1.heap.size (dgl y 1) (dgl y 0)) ⟨HS.out.below (below_allocs _ _), wb_new2 _ _ _ _⟩ ?_
  clear HS
  generalize w1.heap.size = p5 at *
  rintro W2 h2_
  refine wp_region_grow 5 [(14, .val (.agg #[.int .u64 (dgl (y) 1 : Nat), .int .u64 (dgl (y) 0 : Nat)])), (15, .val (.int .i64 f)), (16, .val (.agg #[.int .u64 (dgl (a) 1 : Nat), .int .u64 (dgl (a) 0 : Nat)])), (17, .val (.agg #[.int .u64 (dgl (y) 1 : Nat), .int .u64 (dgl (y) 0 : Nat)])), (18, .val (.bool false))]
    (fun W => OwSt a w W ∧ WB W p5 (dgl y 1) (dgl y 0)) mixedOk (by kernel_rfl) (by kernel_rfl) (⟨h2_.1.below (Below.refl _ _).drew, h2_.2.below (Below.refl _ _).drew⟩) (fun W W' h hb => ⟨h.1.below hb, h.2.below hb⟩) ?_ ?_
  · refine gSt (gStep_run rfl ?_) ?_
    · intro ρ W hC hc hf hL
      have e5 : ρ (.tmp 5) = .pointer (some ⟨p5, 0, none⟩) := hL 5 (by decide +kernel)
      have yh := hC.2.h
      have yl := hC.2.l
      simp [go_sem, hc, hf, e5, yh, yl]
      exact ⟨Below.refl _ _, rfl⟩
    refine gSt (gStep_run rfl (gRun_move 0 15 (.inl rfl) rfl (by decide +kernel) (fun v w h => h))) ?_
    refine gSt (gStep_run rfl ?_) ?_
    · intro ρ W hC hc hf hL
      have e3 : ρ (.tmp 3) = .pointer (some ⟨w.heap.size, 0, none⟩) := hL 3 (by decide +kernel)
      have lh := hC.1.h
      have ll := hC.1.l
      simp [go_sem, hc, hf, e3, lh, ll]
      exact ⟨Below.refl _ _, rfl⟩
    refine gSt (gStep_run rfl ?_) ?_
    · intro ρ W hC hc hf hL
      have e15 : ρ (.tmp 15) = .int .i64 f := hL 15 (by decide +kernel)
      have e16 : ρ (.tmp 16) = .agg #[.int .u64 (dgl (a) 1 : Nat), .int .u64 (dgl (a) 0 : Nat)] := hL 16 (by decide +kernel)
      simp [go_sem, hc, hf, e15, e16]
      refine (HRQ.out W).mono ?_
      rintro e w' ⟨rfl, hb⟩
      exact ⟨_, rfl, by first | exact hb | (subst hb; exact Below.refl _ _), rfl⟩
    refine gSt (gStep_run rfl ?_) ?_
    · intro ρ W hC hc hf hL
      have e14 : ρ (.tmp 14) = .agg #[.int .u64 (dgl (y) 1 : Nat), .int .u64 (dgl (y) 0 : Nat)] := hL 14 (by decide +kernel)
      have e17 : ρ (.tmp 17) = .agg #[.int .u64 (dgl (y) 1 : Nat), .int .u64 (dgl (y) 0 : Nat)] := hL 17 (by decide +kernel)
      simp [go_sem, hc, hf, e14, e17, hq]
      exact ⟨Below.refl _ _, rfl⟩
    exact gSt0
  · intro W hC
    refine gFi 14 rfl ?_
    rintro _ rfl
    refine gFi 15 rfl ?_
    rintro _ rfl
    refine gFi 16 rfl ?_
    rintro _ rfl
    refine gFi 17 rfl ?_
    rintro _ rfl
    refine gFi 18 rfl ?_
    rintro _ rfl
    refine gFi0 ?_
    simp only [List.drop_succ_cons, List.drop_zero, Act.put, List.setIfInBounds_toArray, List.set_cons_succ, List.set_cons_zero]
    have HS := hide hC.1
    have HY := hide hC.2
    clear hC h2_
    have lh := HS.out.h
    have ll := HS.out.l
    go_wp2_with fail
    refine (HP1.out _ HS.out.g).mono ?_
    rintro e w3 ⟨rfl, hb3⟩
    replace HS := hide (HS.out.below hb3)
    replace HY := hide (HY.out.below hb3)
    clear hb3
    clear lh ll
    go_upto_region 5 with fail
    refine wp_gen (fun W => OwSt a w W ∧ WB W p5 (dgl y 1) (dgl y 0) ∧ LiesF W w3.heap.size (dgl s)) ⟨HS.out.below (below_allocs _ _), HY.out.below (below_allocs _ _), liesF_new _ _ _⟩ ?_
    clear HS HY
    generalize w3.heap.size = p6 at *
    rintro W4 ⟨g1, g2, g3⟩
    have HS := hide g1
    have HY := hide g2
    have H6 := hide g3
    clear g1 g2 g3
    have yh := HY.out.h
    have yl := HY.out.l
    go_wp2_with fail
    refine (HP2.out _ HS.out.g).mono ?_
    rintro e w5 ⟨rfl, hb5⟩
    replace HS := hide (HS.out.below hb5)
    replace HY := hide (HY.out.below hb5)
    replace H6 := hide (H6.out.below hb5)
    clear hb5
    clear yh yl
    go_upto_region 6 with fail
    refine wp_gen (fun W => OwSt a w W ∧ WB W p5 (dgl y 1) (dgl y 0) ∧ LiesF W p6 (dgl s) ∧ LiesF W w5.heap.size (dgl s)) ⟨HS.out.below (below_allocs _ _), HY.out.below (below_allocs _ _), H6.out.below (below_allocs _ _), liesF_new _ _ _⟩ ?_
    clear HS HY H6
    generalize w5.heap.size = p8 at *
    rintro W5 ⟨g1, g2, g3, g4⟩
    have HS := hide g1
    have HY := hide g2
    have H6 := hide g3
    have H8 := hide g4
    clear g1 g2 g3 g4
    have lh := HS.out.h
    have ll := HS.out.l
    go_wp2_with fail
    refine (HC1.out _).mono ?_
    rintro e w6 ⟨rfl, hb6⟩
    replace HS := hide (HS.out.below hb6)
    replace HY := hide (HY.out.below hb6)
    replace H6 := hide (H6.out.below hb6)
    replace H8 := hide (H8.out.below hb6)
    clear hb6
    clear lh ll
    have z6 := H6.out.1
    have z8 := H8.out.1
    have yh := HY.out.h
    have yl := HY.out.l
    go_wp2_with fail
    refine (HC2.out _).mono ?_
    rintro e w7 ⟨rfl, hb7⟩
    replace HS := hide (HS.out.below hb7)
    clear hb7
    clear yh yl
    go_wp2_with fail
    refine (awake10_any _ HS.out.g).mono ?_
    rintro e w8 ⟨rfl, hb8⟩
    have HB := hide (below_trans HS.out.bel hb8)
    clear hb8 HS
    go_wp2
    go_ret
    exact ⟨rfl, HB.out⟩

set_option maxHeartbeats 4000000 in
theorem nanQuiets_2 (f : Int) (a y s cl : Nat)
    (HQ : Hid (∀ w, FmtG w → Calls Tryd.prog 42 #[.int .i64 f, .agg #[.int .u64 (dgl (a) 1 : Nat), .int .u64 (dgl (a) 0 : Nat)]] w fun e w' => e = .returned (.agg #[.int .u64 (dgl (y) 1 : Nat), .int .u64 (dgl (y) 0 : Nat)]) ∧ Below w.heap.size w w'))
    (HRQ : Hid (∀ w, Calls Tryd.prog 43 #[.int .i64 f, .agg #[.int .u64 (dgl (a) 1 : Nat), .int .u64 (dgl (a) 0 : Nat)]] w fun e w' => e = .returned (.agg #[.int .u64 (dgl (y) 1 : Nat), .int .u64 (dgl (y) 0 : Nat)]) ∧ Below w.heap.size w w'))
    (HP1 : Hid (∀ w, FmtG w → Calls Tryd.prog 44 #[.int .i64 f, .agg #[.int .u64 (dgl (a) 1 : Nat), .int .u64 (dgl (a) 0 : Nat)]] w fun e w' => e = .returned (.tuple #[.agg #[.int .u64 (dgl (s) 0 : Nat), .int .u64 (dgl (s) 1 : Nat), .int .u64 (dgl (s) 2 : Nat), .int .u64 (dgl (s) 3 : Nat), .int .u64 (dgl (s) 4 : Nat), .int .u64 (dgl (s) 5 : Nat), .int .u64 (dgl (s) 6 : Nat), .int .u64 (dgl (s) 7 : Nat)], .bool true]) ∧ Below w.heap.size w w'))
    (HP2 : Hid (∀ w, FmtG w → Calls Tryd.prog 44 #[.int .i64 f, .agg #[.int .u64 (dgl (y) 1 : Nat), .int .u64 (dgl (y) 0 : Nat)]] w fun e w' => e = .returned (.tuple #[.agg #[.int .u64 (dgl (s) 0 : Nat), .int .u64 (dgl (s) 1 : Nat), .int .u64 (dgl (s) 2 : Nat), .int .u64 (dgl (s) 3 : Nat), .int .u64 (dgl (s) 4 : Nat), .int .u64 (dgl (s) 5 : Nat), .int .u64 (dgl (s) 6 : Nat), .int .u64 (dgl (s) 7 : Nat)], .bool true]) ∧ Below w.heap.size w w'))
    (HC1 : Hid (∀ w, Calls Tryd.prog 31 #[.int .i64 f, .agg #[.int .u64 (dgl (a) 1 : Nat), .int .u64 (dgl (a) 0 : Nat)]] w fun e w' => e = .returned (.int .i64 (cl : Nat)) ∧ Below w.heap.size w w'))
    (HC2 : Hid (∀ w, Calls Tryd.prog 31 #[.int .i64 f, .agg #[.int .u64 (dgl (y) 1 : Nat), .int .u64 (dgl (y) 0 : Nat)]] w fun e w' => e = .returned (.int .i64 2) ∧ Below w.heap.size w w'))
    (hq : ∀ w, (Op.equalIn 10000 28 (.agg #[.int .u64 (dgl (y) 1 : Nat), .int .u64 (dgl (y) 0 : Nat)]) (.agg #[.int .u64 (dgl (y) 1 : Nat), .int .u64 (dgl (y) 0 : Nat)])).run Tryd.prog w = .ok true w) (hs : ∀ w, (Op.equalIn 10000 24 (.agg #[.int .u64 (dgl (s) 0 : Nat), .int .u64 (dgl (s) 1 : Nat), .int .u64 (dgl (s) 2 : Nat), .int .u64 (dgl (s) 3 : Nat), .int .u64 (dgl (s) 4 : Nat), .int .u64 (dgl (s) 5 : Nat), .int .u64 (dgl (s) 6 : Nat), .int .u64 (dgl (s) 7 : Nat)]) (.agg #[.int .u64 (dgl (s) 0 : Nat), .int .u64 (dgl (s) 1 : Nat), .int .u64 (dgl (s) 2 : Nat), .int .u64 (dgl (s) 3 : Nat), .int .u64 (dgl (s) 4 : Nat), .int .u64 (dgl (s) 5 : Nat), .int .u64 (dgl (s) 6 : Nat), .int .u64 (dgl (s) 7 : Nat)])).run Tryd.prog w = .ok true w)
    (h1 : ((cl : Int) == 1) = false) (h2 : ((cl : Int) == 2) = true) (w : World) (hg : FmtG w) :
    Calls Tryd.prog 9 #[.int .i64 f, .agg #[.int .u64 (dgl (a) 1 : Nat), .int .u64 (dgl (a) 0 : Nat)]] w fun e w' => e = .returned (.bool true) ∧ Below w.heap.size w w' := by
  have HS := hide (owSt_start a w hg)
  clear hg
  go_enter Tryd.func9, Tryd.ntmps9
  go_upto_region 1 with fail
  refine wp_gen (fun W => OwSt a w W) HS.out ?_
  clear HS
  rintro W1 h1_
  have HS := hide h1_
  clear h1_
  have lh := HS.out.h
  have ll := HS.out.l
  go_wp2_with fail
  refine (HQ.out _ HS.out.g).mono ?_
  rintro e w1 ⟨rfl, hb1⟩
  replace HS := hide (HS.out.below hb1)
  clear hb1
  clear lh ll
  go_upto_region 2 with fail
  refine wp_gen (fun W => OwSt a w W ∧ WB W w1.heap.size (dgl y 1) (dgl y 0)) ⟨HS.out.below (below_allocs _ _), wb_new2 _ _ _ _⟩ ?_
  clear HS
  generalize w1.heap.size = p5 at *
  rintro W2 h2_
  refine wp_region_grow 5 [(14, .val (.agg #[.int .u64 (dgl (y) 1 : Nat), .int .u64 (dgl (y) 0 : Nat)])), (15, .val (.int .i64 f)), (16, .val (.agg #[.int .u64 (dgl (a) 1 : Nat), .int .u64 (dgl (a) 0 : Nat)])), (17, .val (.agg #[.int .u64 (dgl (y) 1 : Nat), .int .u64 (dgl (y) 0 : Nat)])), (18, .val (.bool false))]
    (fun W => OwSt a w W ∧ WB W p5 (dgl y 1) (dgl y 0)) mixedOk (by kernel_rfl) (by kernel_rfl) (⟨h2_.1.below (Below.refl _ _).drew, h2_.2.below (Below.refl _ _).drew⟩) (fun W W' h hb => ⟨h.1.below hb, h.2.below hb⟩) ?_ ?_
  · refine gSt (gStep_run rfl ?_) ?_
    · intro ρ W hC hc hf hL
      have e5 : ρ (.tmp 5) = .pointer (some ⟨p5, 0, none⟩) := hL 5 (by decide +kernel)
      have yh := hC.2.h
      have yl := hC.2.l
      simp [go_sem, hc, hf, e5, yh, yl]
      exact ⟨Below.refl _ _, rfl⟩
    refine gSt (gStep_run rfl (gRun_move 0 15 (.inl rfl) rfl (by decide +kernel) (fun v w h => h))) ?_
    refine gSt (gStep_run rfl ?_) ?_
    · intro ρ W hC hc hf hL
      have e3 : ρ (.tmp 3) = .pointer (some ⟨w.heap.size, 0, none⟩) := hL 3 (by decide +kernel)
      have lh := hC.1.h
      have ll := hC.1.l
      simp [go_sem, hc, hf, e3, lh, ll]
      exact ⟨Below.refl _ _, rfl⟩
    refine gSt (gStep_run rfl ?_) ?_
    · intro ρ W hC hc hf hL
      have e15 : ρ (.tmp 15) = .int .i64 f := hL 15 (by decide +kernel)
      have e16 : ρ (.tmp 16) = .agg #[.int .u64 (dgl (a) 1 : Nat), .int .u64 (dgl (a) 0 : Nat)] := hL 16 (by decide +kernel)
      simp [go_sem, hc, hf, e15, e16]
      refine (HRQ.out W).mono ?_
      rintro e w' ⟨rfl, hb⟩
      exact ⟨_, rfl, by first | exact hb | (subst hb; exact Below.refl _ _), rfl⟩
    refine gSt (gStep_run rfl ?_) ?_
    · intro ρ W hC hc hf hL
      have e14 : ρ (.tmp 14) = .agg #[.int .u64 (dgl (y) 1 : Nat), .int .u64 (dgl (y) 0 : Nat)] := hL 14 (by decide +kernel)
      have e17 : ρ (.tmp 17) = .agg #[.int .u64 (dgl (y) 1 : Nat), .int .u64 (dgl (y) 0 : Nat)] := hL 17 (by decide +kernel)
      simp [go_sem, hc, hf, e14, e17, hq]
      exact ⟨Below.refl _ _, rfl⟩
    exact gSt0
  · intro W hC
    refine gFi 14 rfl ?_
    rintro _ rfl
    refine gFi 15 rfl ?_
    rintro _ rfl
    refine gFi 16 rfl ?_
    rintro _ rfl
    refine gFi 17 rfl ?_
    rintro _ rfl
    refine gFi 18 rfl ?_
    rintro _ rfl
    refine gFi0 ?_
    simp only [List.drop_succ_cons, List.drop_zero, Act.put, List.setIfInBounds_toArray, List.set_cons_succ, List.set_cons_zero]
    have HS := hide hC.1
    have HY := hide hC.2
    clear hC h2_
    have lh := HS.out.h
    have ll := HS.out.l
    go_wp2_with fail
    refine (HP1.out _ HS.out.g).mono ?_
    rintro e w3 ⟨rfl, hb3⟩
    replace HS := hide (HS.out.below hb3)
    replace HY := hide (HY.out.below hb3)
    clear hb3
    clear lh ll
    go_upto_region 5 with fail
    refine wp_gen (fun W => OwSt a w W ∧ WB W p5 (dgl y 1) (dgl y 0) ∧ LiesF W w3.heap.size (dgl s)) ⟨HS.out.below (below_allocs _ _), HY.out.below (below_allocs _ _), liesF_new _ _ _⟩ ?_
    clear HS HY
    generalize w3.heap.size = p6 at *
    rintro W4 ⟨g1, g2, g3⟩
    have HS := hide g1
    have HY := hide g2
    have H6 := hide g3
    clear g1 g2 g3
    have yh := HY.out.h
    have yl := HY.out.l
    go_wp2_with fail
    refine (HP2.out _ HS.out.g).mono ?_
    rintro e w5 ⟨rfl, hb5⟩
    replace HS := hide (HS.out.below hb5)
    replace HY := hide (HY.out.below hb5)
    replace H6 := hide (H6.out.below hb5)
    clear hb5
    clear yh yl
    go_upto_region 6 with fail
    refine wp_gen (fun W => OwSt a w W ∧ WB W p5 (dgl y 1) (dgl y 0) ∧ LiesF W p6 (dgl s) ∧ LiesF W w5.heap.size (dgl s)) ⟨HS.out.below (below_allocs _ _), HY.out.below (below_allocs _ _), H6.out.below (below_allocs _ _), liesF_new _ _ _⟩ ?_
    clear HS HY H6
    generalize w5.heap.size = p8 at *
    rintro W5 ⟨g1, g2, g3, g4⟩
    have HS := hide g1
    have HY := hide g2
    have H6 := hide g3
    have H8 := hide g4
    clear g1 g2 g3 g4
    have lh := HS.out.h
    have ll := HS.out.l
    go_wp2_with fail
    refine (HC1.out _).mono ?_
    rintro e w6 ⟨rfl, hb6⟩
    replace HS := hide (HS.out.below hb6)
    replace HY := hide (HY.out.below hb6)
    replace H6 := hide (H6.out.below hb6)
    replace H8 := hide (H8.out.below hb6)
    clear hb6
    clear lh ll
    have z6 := H6.out.1
    have z8 := H8.out.1
    have yh := HY.out.h
    have yl := HY.out.l
    go_wp2_with fail
    refine (HC2.out _).mono ?_
    rintro e w7 ⟨rfl, hb7⟩
    replace HS := hide (HS.out.below hb7)
    clear hb7
    clear yh yl
    go_wp2_with fail
    refine (awake10_any _ HS.out.g).mono ?_
    rintro e w8 ⟨rfl, hb8⟩
    have HB := hide (below_trans HS.out.bel hb8)
    clear hb8 HS
    go_wp2
    go_ret
    exact ⟨rfl, HB.out⟩

set_option maxHeartbeats 4000000 in
theorem nanQuiets_N (f : Int) (a y s cl : Nat)
    (HQ : Hid (∀ w, FmtG w → Calls Tryd.prog 42 #[.int .i64 f, .agg #[.int .u64 (dgl (a) 1 : Nat), .int .u64 (dgl (a) 0 : Nat)]] w fun e w' => e = .returned (.agg #[.int .u64 (dgl (y) 1 : Nat), .int .u64 (dgl (y) 0 : Nat)]) ∧ Below w.heap.size w w'))
    (HRQ : Hid (∀ w, Calls Tryd.prog 43 #[.int .i64 f, .agg #[.int .u64 (dgl (a) 1 : Nat), .int .u64 (dgl (a) 0 : Nat)]] w fun e w' => e = .returned (.agg #[.int .u64 (dgl (y) 1 : Nat), .int .u64 (dgl (y) 0 : Nat)]) ∧ Below w.heap.size w w'))
    (HP1 : Hid (∀ w, FmtG w → Calls Tryd.prog 44 #[.int .i64 f, .agg #[.int .u64 (dgl (a) 1 : Nat), .int .u64 (dgl (a) 0 : Nat)]] w fun e w' => e = .returned (.tuple #[.agg #[.int .u64 (dgl (s) 0 : Nat), .int .u64 (dgl (s) 1 : Nat), .int .u64 (dgl (s) 2 : Nat), .int .u64 (dgl (s) 3 : Nat), .int .u64 (dgl (s) 4 : Nat), .int .u64 (dgl (s) 5 : Nat), .int .u64 (dgl (s) 6 : Nat), .int .u64 (dgl (s) 7 : Nat)], .bool false]) ∧ Below w.heap.size w w'))
    (HP2 : Hid (∀ w, FmtG w → Calls Tryd.prog 44 #[.int .i64 f, .agg #[.int .u64 (dgl (y) 1 : Nat), .int .u64 (dgl (y) 0 : Nat)]] w fun e w' => e = .returned (.tuple #[.agg #[.int .u64 (dgl (s) 0 : Nat), .int .u64 (dgl (s) 1 : Nat), .int .u64 (dgl (s) 2 : Nat), .int .u64 (dgl (s) 3 : Nat), .int .u64 (dgl (s) 4 : Nat), .int .u64 (dgl (s) 5 : Nat), .int .u64 (dgl (s) 6 : Nat), .int .u64 (dgl (s) 7 : Nat)], .bool false]) ∧ Below w.heap.size w w'))
    (HC1 : Hid (∀ w, Calls Tryd.prog 31 #[.int .i64 f, .agg #[.int .u64 (dgl (a) 1 : Nat), .int .u64 (dgl (a) 0 : Nat)]] w fun e w' => e = .returned (.int .i64 (cl : Nat)) ∧ Below w.heap.size w w'))
    (hq : ∀ w, (Op.equalIn 10000 28 (.agg #[.int .u64 (dgl (y) 1 : Nat), .int .u64 (dgl (y) 0 : Nat)]) (.agg #[.int .u64 (dgl (y) 1 : Nat), .int .u64 (dgl (y) 0 : Nat)])).run Tryd.prog w = .ok true w) (hs : ∀ w, (Op.equalIn 10000 24 (.agg #[.int .u64 (dgl (s) 0 : Nat), .int .u64 (dgl (s) 1 : Nat), .int .u64 (dgl (s) 2 : Nat), .int .u64 (dgl (s) 3 : Nat), .int .u64 (dgl (s) 4 : Nat), .int .u64 (dgl (s) 5 : Nat), .int .u64 (dgl (s) 6 : Nat), .int .u64 (dgl (s) 7 : Nat)]) (.agg #[.int .u64 (dgl (s) 0 : Nat), .int .u64 (dgl (s) 1 : Nat), .int .u64 (dgl (s) 2 : Nat), .int .u64 (dgl (s) 3 : Nat), .int .u64 (dgl (s) 4 : Nat), .int .u64 (dgl (s) 5 : Nat), .int .u64 (dgl (s) 6 : Nat), .int .u64 (dgl (s) 7 : Nat)])).run Tryd.prog w = .ok true w)
    (h1 : ((cl : Int) == 1) = false) (h2 : ((cl : Int) == 2) = false) (w : World) (hg : FmtG w) :
    Calls Tryd.prog 9 #[.int .i64 f, .agg #[.int .u64 (dgl (a) 1 : Nat), .int .u64 (dgl (a) 0 : Nat)]] w fun e w' => e = .returned (.bool true) ∧ Below w.heap.size w w' := by
  have HS := hide (owSt_start a w hg)
  clear hg
  go_enter Tryd.func9, Tryd.ntmps9
  go_upto_region 1 with fail
  refine wp_gen (fun W => OwSt a w W) HS.out ?_
  clear HS
  rintro W1 h1_
  have HS := hide h1_
  clear h1_
  have lh := HS.out.h
  have ll := HS.out.l
  go_wp2_with fail
  refine (HQ.out _ HS.out.g).mono ?_
  rintro e w1 ⟨rfl, hb1⟩
  replace HS := hide (HS.out.below hb1)
  clear hb1
  clear lh ll
  go_upto_region 2 with fail
  refine wp_gen (fun W => OwSt a w W ∧ WB W w1.heap.size (dgl y 1) (dgl y 0)) ⟨HS.out.below (below_allocs _ _), wb_new2 _ _ _ _⟩ ?_
  clear HS
  generalize w1.heap.size = p5 at *
  rintro W2 h2_
  refine wp_region_grow 5 [(14, .val (.agg #[.int .u64 (dgl (y) 1 : Nat), .int .u64 (dgl (y) 0 : Nat)])), (15, .val (.int .i64 f)), (16, .val (.agg #[.int .u64 (dgl (a) 1 : Nat), .int .u64 (dgl (a) 0 : Nat)])), (17, .val (.agg #[.int .u64 (dgl (y) 1 : Nat), .int .u64 (dgl (y) 0 : Nat)])), (18, .val (.bool false))]
    (fun W => OwSt a w W ∧ WB W p5 (dgl y 1) (dgl y 0)) mixedOk (by kernel_rfl) (by kernel_rfl) (⟨h2_.1.below (Below.refl _ _).drew, h2_.2.below (Below.refl _ _).drew⟩) (fun W W' h hb => ⟨h.1.below hb, h.2.below hb⟩) ?_ ?_
  · refine gSt (gStep_run rfl ?_) ?_
    · intro ρ W hC hc hf hL
      have e5 : ρ (.tmp 5) = .pointer (some ⟨p5, 0, none⟩) := hL 5 (by decide +kernel)
      have yh := hC.2.h
      have yl := hC.2.l
      simp [go_sem, hc, hf, e5, yh, yl]
      exact ⟨Below.refl _ _, rfl⟩
    refine gSt (gStep_run rfl (gRun_move 0 15 (.inl rfl) rfl (by decide +kernel) (fun v w h => h))) ?_
    refine gSt (gStep_run rfl ?_) ?_
    · intro ρ W hC hc hf hL
      have e3 : ρ (.tmp 3) = .pointer (some ⟨w.heap.size, 0, none⟩) := hL 3 (by decide +kernel)
      have lh := hC.1.h
      have ll := hC.1.l
      simp [go_sem, hc, hf, e3, lh, ll]
      exact ⟨Below.refl _ _, rfl⟩
    refine gSt (gStep_run rfl ?_) ?_
    · intro ρ W hC hc hf hL
      have e15 : ρ (.tmp 15) = .int .i64 f := hL 15 (by decide +kernel)
      have e16 : ρ (.tmp 16) = .agg #[.int .u64 (dgl (a) 1 : Nat), .int .u64 (dgl (a) 0 : Nat)] := hL 16 (by decide +kernel)
      simp [go_sem, hc, hf, e15, e16]
      refine (HRQ.out W).mono ?_
      rintro e w' ⟨rfl, hb⟩
      exact ⟨_, rfl, by first | exact hb | (subst hb; exact Below.refl _ _), rfl⟩
    refine gSt (gStep_run rfl ?_) ?_
    · intro ρ W hC hc hf hL
      have e14 : ρ (.tmp 14) = .agg #[.int .u64 (dgl (y) 1 : Nat), .int .u64 (dgl (y) 0 : Nat)] := hL 14 (by decide +kernel)
      have e17 : ρ (.tmp 17) = .agg #[.int .u64 (dgl (y) 1 : Nat), .int .u64 (dgl (y) 0 : Nat)] := hL 17 (by decide +kernel)
      simp [go_sem, hc, hf, e14, e17, hq]
      exact ⟨Below.refl _ _, rfl⟩
    exact gSt0
  · intro W hC
    refine gFi 14 rfl ?_
    rintro _ rfl
    refine gFi 15 rfl ?_
    rintro _ rfl
    refine gFi 16 rfl ?_
    rintro _ rfl
    refine gFi 17 rfl ?_
    rintro _ rfl
    refine gFi 18 rfl ?_
    rintro _ rfl
    refine gFi0 ?_
    simp only [List.drop_succ_cons, List.drop_zero, Act.put, List.setIfInBounds_toArray, List.set_cons_succ, List.set_cons_zero]
    have HS := hide hC.1
    have HY := hide hC.2
    clear hC h2_
    have lh := HS.out.h
    have ll := HS.out.l
    go_wp2_with fail
    refine (HP1.out _ HS.out.g).mono ?_
    rintro e w3 ⟨rfl, hb3⟩
    replace HS := hide (HS.out.below hb3)
    replace HY := hide (HY.out.below hb3)
    clear hb3
    clear lh ll
    go_upto_region 5 with fail
    refine wp_gen (fun W => OwSt a w W ∧ WB W p5 (dgl y 1) (dgl y 0) ∧ LiesF W w3.heap.size (dgl s)) ⟨HS.out.below (below_allocs _ _), HY.out.below (below_allocs _ _), liesF_new _ _ _⟩ ?_
    clear HS HY
    generalize w3.heap.size = p6 at *
    rintro W4 ⟨g1, g2, g3⟩
    have HS := hide g1
    have HY := hide g2
    have H6 := hide g3
    clear g1 g2 g3
    have yh := HY.out.h
    have yl := HY.out.l
    go_wp2_with fail
    refine (HP2.out _ HS.out.g).mono ?_
    rintro e w5 ⟨rfl, hb5⟩
    replace HS := hide (HS.out.below hb5)
    replace HY := hide (HY.out.below hb5)
    replace H6 := hide (H6.out.below hb5)
    clear hb5
    clear yh yl
    go_upto_region 6 with fail
    refine wp_gen (fun W => OwSt a w W ∧ WB W p5 (dgl y 1) (dgl y 0) ∧ LiesF W p6 (dgl s) ∧ LiesF W w5.heap.size (dgl s)) ⟨HS.out.below (below_allocs _ _), HY.out.below (below_allocs _ _), H6.out.below (below_allocs _ _), liesF_new _ _ _⟩ ?_
    clear HS HY H6
    generalize w5.heap.size = p8 at *
    rintro W5 ⟨g1, g2, g3, g4⟩
    have HS := hide g1
    have HY := hide g2
    have H6 := hide g3
    have H8 := hide g4
    clear g1 g2 g3 g4
    have lh := HS.out.h
    have ll := HS.out.l
    go_wp2_with fail
    refine (HC1.out _).mono ?_
    rintro e w6 ⟨rfl, hb6⟩
    replace HS := hide (HS.out.below hb6)
    replace HY := hide (HY.out.below hb6)
    replace H6 := hide (H6.out.below hb6)
    replace H8 := hide (H8.out.below hb6)
    clear hb6
    clear lh ll
    have z6 := H6.out.1
    have z8 := H8.out.1
    go_wp2_with fail
    refine (awake10_any _ HS.out.g).mono ?_
    rintro e w8 ⟨rfl, hb8⟩
    have HB := hide (below_trans HS.out.bel hb8)
    clear hb8 HS
    go_wp2
    go_ret
    exact ⟨rfl, HB.out⟩

theorem nanQuiets_num (f : Int) (a : Nat) (ha : a < 2 ^ 128) (w : World) (hg : FmtG w) :
    Calls Tryd.prog 9 #[.int .i64 f, .agg #[.int .u64 (dgl (a) 1 : Nat), .int .u64 (dgl (a) 0 : Nat)]] w fun e w' => e = .returned (.bool true) ∧ Below w.heap.size w w' := by
  have hy : quU f a < 2 ^ 128 := quU_lt ha
  have HQ := fun w hg => quieted_u f a ha w hg
  have HRQ := fun w => rquieted_u f a ha w
  have HP1 := fun w hg => payload_u f a ha w hg
  have HP2 := fun w hg => payload_u f (quU f a) hy w hg
  have HC1 := fun w => refCls_u f a ha w
  have HC2 := fun w => refCls_u f (quU f a) hy w
  have hq := fun w => wordEq hy hy w
  rw [decide_eq_true rfl] at hq
  have hs := fun w => wide_eqb (payU_qq f a) (payU_qq f a) w
  rw [decide_eq_true rfl] at hs
  by_cases h : clsU f a = 1 ∨ clsU f a = 2
  · obtain ⟨-, q2, q3⟩ := quU_cls h
    rw [nanB_iff.2 h] at HP1
    rw [nanB_iff.2 (.inr q2), q3] at HP2
    rw [q2] at HC2
    by_cases h1 : clsU f a = 1
    · exact nanQuiets_1 f a (quU f a) (payU f a) (clsU f a) HQ HRQ HP1 HP2 HC1 HC2 hq hs (by rw [h1]; rfl) (by rw [h1]; rfl) w hg
    · have h2 : clsU f a = 2 := by omega
      exact nanQuiets_2 f a (quU f a) (payU f a) (clsU f a) HQ HRQ HP1 HP2 HC1 HC2 hq hs (by rw [h2]; rfl) (by rw [h2]; rfl) w hg
  · have h3 : nanB f a = false := by
      cases hb : nanB f a
      · rfl
      · exact absurd (nanB_iff.1 hb) h
    have hqa := quU_not h
    rw [hqa] at HP2 HQ HRQ hq
    rw [h3] at HP1 HP2
    exact nanQuiets_N f a a (payU f a) (clsU f a) HQ HRQ HP1 HP2 HC1 hq hs (by rw [beq_eq_false_iff_ne]; omega) (by rw [beq_eq_false_iff_ne]; omega) w hg
theorem nanQuiets_all (f : Int) (x y : Nat) (hx : x < 18446744073709551616) (hy : y < 18446744073709551616) (w : World) (hg : FmtG w) :
    Calls Tryd.prog 9 #[.int .i64 f, .agg #[.int .u64 (x : Nat), .int .u64 (y : Nat)]] w fun e w' => e = .returned (.bool true) ∧ Below w.heap.size w w' := by
  have h := nanQuiets_num f (y + 18446744073709551616 * x) (by omega) w hg
  obtain ⟨e1, e2⟩ := word_num x y hx hy
  rw [e1, e2] at h
  exact h

end Go.Proofs.YtpcjdllijkjdkaaDoor

/- NanQuiets: for every format and word the law returns true. Conditions: those of the tied card (the table of formats is laid as the program lays it). -/
namespace Go.Proofs.YtpcjdllijkjdkaaDoor.nanQuiets
open Go.ChangeShapes Go.WideShapes Go.ChangeAt Go.RowKit Go.Proofs.YtpcjdllijkjdkaaDoor

theorem own : ownKnob Tryd.prog.godebug = none := by kernel_rfl
theorem laidOut : laidOutB Tryd.prog = true := by kernel_rfl

theorem door_met (os : Os) (args : Array Value) : laidMetH Tryd.prog [("radicand/format.formats", Rows.laid_radicand_format_formats)] ((World.doorLaid Tryd.prog 400 os).forCall (fun _ _ => 0) ⟨#[], args, []⟩).memory :=
  laidMetH_of_parts3 (fuel := 8) (laidMet_of_run' 8 (by kernel_rfl) (by kernel_rfl)) (by kernel_rfl) (by kernel_rfl)

set_option maxRecDepth 100000 in
theorem lifted (os : Os) (started : os.Started) (H : Type) (enc : TypeId × Value → H) :
    ReturnsInHanded {} Tryd.checked os 9 .any (fun w args => (Rows.nanQuietsSpec.pre enc Tryd.prog Tryd.f9 [] false w args ∧ laidMetH Tryd.prog [("radicand/format.formats", Rows.laid_radicand_format_formats)] w) ∧ sizedMet enc Tryd.prog Tryd.f9 (OpenSpec.ofChange Rows.nanQuietsSpec) false w args) (Rows.nanQuietsSpec.post enc Tryd.prog Tryd.f9 false true false false) := by
  refine returnsInHanded_of_change_and (C := Tryd.checked) (X := fun w _ => laidMetH Tryd.prog [("radicand/format.formats", Rows.laid_radicand_format_formats)] w) (fun _ _ _ hh h => h.of_heap hh) own started (by kernel_rfl) Tryd.func9
    (ChangeSpec.witness_shaped (enc := enc) (C := Tryd.checked) (os := os) (X := fun w _ => laidMetH Tryd.prog [("radicand/format.formats", Rows.laid_radicand_format_formats)] w) false (World.doorLaid Tryd.prog 400 os) #[.int .i64 0, .agg #[.int .u64 0, .int .u64 0]] 8 rfl (World.shaped_of_RefB (by kernel_rfl) (by kernel_rfl)) (by kernel_rfl) (by kernel_rfl) (by kernel_rfl) (door_met os _)) ?_
  intro W base args ds gs before hval0 hW _ _ hL _
  have hval : ∀ (j : Nat) t v, Tryd.f9.params[j]? = some t → args[j]? = some v → Value.okWide Tryd.prog W .any base t v := hval0
  have hW' := hW
  obtain ⟨p, q, hA0, hV, rfl, hfz, hnd⟩ := hW
  have hA : DataW.TrodAll enc Tryd.prog W 0 (fun _ => true) true Tryd.f9.params.toList args.toList ds p := hA0
  rw [Tryd.params9] at hA hval
  obtain ⟨v0, vs0, d0, ds0, p0, q0, hargs, rfl, rfl, h0, r0⟩ := trodAll_cons hA
  obtain ⟨v1, vs1, d1, ds1, p1, q1, rfl, rfl, rfl, h1, r1⟩ := trodAll_cons r0
  obtain ⟨rfl, rfl, rfl⟩ := trodAll_nil r1
  obtain rfl : args = #[v0, v1] := by cases args; simp_all
  obtain ⟨rfl, rfl⟩ := trodVars_none hV
  have k0 := h0
  have lt0 : ∀ x ∈ p0, x.block < W.heap.size := by obtain ⟨m, hm⟩ := k0; exact DataW.trod_lt m _ _ _ hm
  have k1 := h1
  have lt1 : ∀ x ∈ p1, x.block < W.heap.size := by obtain ⟨m, hm⟩ := k1; exact DataW.trod_lt m _ _ _ hm
  obtain ⟨a0, rfl, rfl, rfl, wf0⟩ := open_int Tryd.underlying3 (hval 0 3 v0 rfl rfl) h0
  obtain ⟨x1, y1, hx1, hy1, rfl⟩ := word_open (hval 1 28 v1 rfl rfl) h1
  clear hA0 hval0
  have hg := of_laid1 hL
  refine (nanQuiets_all a0 x1 y1 hx1 hy1 W hg).mono fun e W' ⟨he, bel⟩ => ?_
  subst he
  exact ⟨_, rfl, _, _, _, [], _, [], hW', trodAll_mk1 (shut_bool Tryd.underlying4 _), (trodAll_cons_mk (Below.trod laidOut (by kernel_rfl) (of_decide_eq_true (by kernel_rfl)) k0 bel lt0) (trodAll_cons_mk (Below.trod laidOut (by kernel_rfl) (of_decide_eq_true (by kernel_rfl)) k1 bel lt1) trodAll_mk0)), rfl, bel.frame _, fun h => by cases h⟩

theorem over : Rows.nanQuietsRow.holds Tryd.pinned (OpenSpec.ofChange Rows.nanQuietsSpec) :=
  OpenClaim.holds_of_wide 9 Tryd.f9 rfl rfl rfl rfl rfl rfl rfl ⟨rfl, rfl, rfl, rfl, rfl⟩ rfl rfl rfl rfl rfl (by kernel_rfl) Tryd.func9 (by kernel_rfl)
    (of_decide_eq_true (by kernel_rfl)) (by unfold Func.isWrapper; first | (rw [if_pos (by decide +kernel)]; kernel_rfl) | (rw [if_neg (by decide +kernel)]; exact ⟨rfl, rfl⟩))
    (fun os started H enc _ => lifted os started H enc)

theorem proved : Rows.NanQuietsCardSaid :=
  Claim7.holds_tied_plain_at .later [] [.data] true (true, "bda7307485677e703060dea11d85374f6d1941a46d5c51f47956e134a69fc123") false
    over (fun _ h => by cases h) (by kernel_rfl) (fun _ h => by cases h) nanQuiets_row_tie rfl ⟨rfl, rfl⟩ (by kernel_rfl) rfl
    (fun f fn hf hfn => by
      obtain rfl : f = 9 := Option.some.inj ((show Tryd.prog.funcNamed "radicand/radicandlaw10.NanQuiets" = some 9 by kernel_rfl).symm.trans hf) |>.symm
      obtain rfl : fn = Tryd.f9 := (Option.some.inj (Tryd.func9.symm.trans hfn)).symm
      exact ⟨by kernel_rfl, fun j t ht => by
        rw [Tryd.params9] at ht
        rcases j with _ | j
        · obtain rfl : t = 3 := by simpa using ht.symm
          exact (show Tryd.prog.wantsStandIn 3 = false by kernel_rfl)
        rcases j with _ | j
        · obtain rfl : t = 28 := by simpa using ht.symm
          exact (show Tryd.prog.wantsStandIn 28 = false by kernel_rfl)
        simp at ht⟩)
    (by kernel_rfl)
#print axioms proved
end Go.Proofs.YtpcjdllijkjdkaaDoor.nanQuiets

