/- UnpackValues: for every format and word the law returns true. Conditions: those of the tied card (the table of formats is laid as the program lays it). -/
import Derived.Test.YtidfegilddlglaaDoorXUnO
import Derived.Test.YtidfegilddlglaaDoorRows
import Derived.Test.YtidfegilddlglaaDoorTie
import Derived.Test.YtidfegilddlglaaDoorCards
import Derived.LaidMore
import Derived.Stop.Joined
import Derived.SevenTiedAt
import Derived.Test.YtidfegilddlglaaDoorXFmtJ
import Derived.Test.YtidfegilddlglaaDoorBaseZ
import Derived.WalkKit
import Derived.ProofKit
import Derived.OpenShut
import Derived.ShutString
import Derived.ChangeOld
import Derived.Below
/- The walk of UnpackValues. -/
set_option linter.unusedVariables false
set_option linter.unusedSimpArgs false
set_option maxRecDepth 8000
namespace Go.Proofs.YtidfegilddlglaaDoor
open Go.RowKit Plain

set_option maxHeartbeats 4000000 in
theorem unpackValues_N (f k ea eb : Int) (a s t P : Nat) (ng : Bool)
    (HCL : Hid (∀ w, Calls Tryd.prog 12 #[.int .i64 f, .agg #[.int .u64 (dgl (a) 1 : Nat), .int .u64 (dgl (a) 0 : Nat)]] w fun e w' => e = .returned (.int .i64 k) ∧ Below w.heap.size w w'))
    (hk : k < 4)
    (HV : Hid (∀ w, FmtG w → Calls Tryd.prog 34 #[.int .i64 f, .agg #[.int .u64 (dgl (a) 1 : Nat), .int .u64 (dgl (a) 0 : Nat)]] w fun e w' => e = .returned (.tuple #[.agg #[.bool (false), .int .i64 (0), .int .u64 (dgl (0) 0 : Nat), .int .u64 (dgl (0) 1 : Nat), .int .u64 (dgl (0) 2 : Nat), .int .u64 (dgl (0) 3 : Nat), .int .u64 (dgl (0) 4 : Nat), .int .u64 (dgl (0) 5 : Nat), .int .u64 (dgl (0) 6 : Nat), .int .u64 (dgl (0) 7 : Nat)], .bool false]) ∧ Below w.heap.size w w'))
    (HU : Hid (∀ w, FmtG w → Calls Tryd.prog 35 #[.int .i64 f, .agg #[.int .u64 (dgl (a) 1 : Nat), .int .u64 (dgl (a) 0 : Nat)]] w fun e w' => e = .returned (.tuple #[.agg #[.bool (false), .int .i64 (0), .int .u64 (dgl (0) 0 : Nat), .int .u64 (dgl (0) 1 : Nat), .int .u64 (dgl (0) 2 : Nat), .int .u64 (dgl (0) 3 : Nat), .int .u64 (dgl (0) 4 : Nat), .int .u64 (dgl (0) 5 : Nat), .int .u64 (dgl (0) 6 : Nat), .int .u64 (dgl (0) 7 : Nat)], .bool false]) ∧ Below w.heap.size w w'))
    (HQ0 : Hid (∀ w, (Op.equalIn 10000 49 (.agg #[.bool (false), .int .i64 (0), .int .u64 (dgl (0) 0 : Nat), .int .u64 (dgl (0) 1 : Nat), .int .u64 (dgl (0) 2 : Nat), .int .u64 (dgl (0) 3 : Nat), .int .u64 (dgl (0) 4 : Nat), .int .u64 (dgl (0) 5 : Nat), .int .u64 (dgl (0) 6 : Nat), .int .u64 (dgl (0) 7 : Nat)]) (.agg #[.bool false, .int .i64 0, .int .u64 0, .int .u64 0, .int .u64 0, .int .u64 0, .int .u64 0, .int .u64 0, .int .u64 0, .int .u64 0])).run Tryd.prog w = .ok true w)) (w : World) (hg : FmtG w) :
    Calls Tryd.prog 7 #[.int .i64 f, .agg #[.int .u64 (dgl (a) 1 : Nat), .int .u64 (dgl (a) 0 : Nat)]] w fun e w' => e = .returned (.bool true) ∧ Below w.heap.size w w' := by
  have HS := hide (owSt_start a w hg)
  clear hg
  go_enter Tryd.func7, Tryd.ntmps7
  go_upto_region 1 with fail
  refine wp_gen (fun W => OwSt a w W) HS.out ?_
  clear HS
  rintro W1 g1
  have HS := hide g1
  clear g1
  have l0 := HS.out.h
  have l1 := HS.out.l
  go_wp2_with fail
  refine (HCL.out _).mono ?_
  rintro e w1 ⟨rfl, hb1⟩
  replace HS := hide (HS.out.below hb1)
  clear hb1 l0 l1
  have l0 := HS.out.h
  have l1 := HS.out.l
  go_wp2_with fail
  refine (HV.out _ HS.out.g).mono ?_
  rintro e w2 ⟨rfl, hb2⟩
  replace HS := hide (HS.out.below hb2)
  clear hb2 l0 l1
  go_upto_region 3 with fail
  refine wp_gen (fun W => OwSt a w W ∧ NB W w2.heap.size false 0 0) ⟨HS.out.below (below_allocs _ _), nb_new _ _ _ _ _⟩ ?_
  clear HS
  generalize w2.heap.size = p6
  rintro W3 ⟨g1, g2⟩
  have HS := hide g1
  have HA := hide g2
  clear g1 g2
  have l0 := HS.out.h
  have l1 := HS.out.l
  go_wp2_with fail
  refine (HU.out _ HS.out.g).mono ?_
  rintro e w3 ⟨rfl, hb3⟩
  replace HS := hide (HS.out.below hb3)
  replace HA := hide (HA.out.below hb3)
  clear hb3 l0 l1
  go_upto_region 4 with fail
  refine wp_gen (fun W => OwSt a w W ∧ NB W p6 false 0 0 ∧ NB W w3.heap.size false 0 0) ⟨HS.out.below (below_allocs _ _), HA.out.below (below_allocs _ _), nb_new _ _ _ _ _⟩ ?_
  clear HS HA
  generalize w3.heap.size = p8
  rintro W4 ⟨g1, g2, g3⟩
  have HS := hide g1
  have HA := hide g2
  have HB := hide g3
  clear g1 g2 g3
  have ln := HA.out.n
  have le := HA.out.e
  have l0 := HA.out.x0
  have l1 := HA.out.x1
  have l2 := HA.out.x2
  have l3 := HA.out.x3
  have l4 := HA.out.x4
  have l5 := HA.out.x5
  have l6 := HA.out.x6
  have l7 := HA.out.x7
  have mn := HB.out.n
  have me := HB.out.e
  have m0 := HB.out.x0
  have m1 := HB.out.x1
  have m2 := HB.out.x2
  have m3 := HB.out.x3
  have m4 := HB.out.x4
  have m5 := HB.out.x5
  have m6 := HB.out.x6
  have m7 := HB.out.x7
  have hq := HQ0.out
  clear HB
  go_wp2_with fail
  refine (awake7_any _ HS.out.g).mono ?_
  rintro e w9 ⟨rfl, hb9⟩
  have HB := hide (below_trans HS.out.bel hb9)
  clear hb9 HS
  go_wp2
  go_ret
  exact ⟨rfl, HB.out⟩

set_option maxHeartbeats 4000000 in
theorem unpackValues_Z (f k ea eb : Int) (a s t P : Nat) (ng : Bool)
    (HCL : Hid (∀ w, Calls Tryd.prog 12 #[.int .i64 f, .agg #[.int .u64 (dgl (a) 1 : Nat), .int .u64 (dgl (a) 0 : Nat)]] w fun e w' => e = .returned (.int .i64 k) ∧ Below w.heap.size w w'))
    (hk : ¬ k < 4)
    (HV : Hid (∀ w, FmtG w → Calls Tryd.prog 34 #[.int .i64 f, .agg #[.int .u64 (dgl (a) 1 : Nat), .int .u64 (dgl (a) 0 : Nat)]] w fun e w' => e = .returned (.tuple #[.agg #[.bool (ng), .int .i64 (ea), .int .u64 (dgl (s) 0 : Nat), .int .u64 (dgl (s) 1 : Nat), .int .u64 (dgl (s) 2 : Nat), .int .u64 (dgl (s) 3 : Nat), .int .u64 (dgl (s) 4 : Nat), .int .u64 (dgl (s) 5 : Nat), .int .u64 (dgl (s) 6 : Nat), .int .u64 (dgl (s) 7 : Nat)], .bool true]) ∧ Below w.heap.size w w'))
    (HU : Hid (∀ w, FmtG w → Calls Tryd.prog 35 #[.int .i64 f, .agg #[.int .u64 (dgl (a) 1 : Nat), .int .u64 (dgl (a) 0 : Nat)]] w fun e w' => e = .returned (.tuple #[.agg #[.bool (false), .int .i64 (0), .int .u64 (dgl (0) 0 : Nat), .int .u64 (dgl (0) 1 : Nat), .int .u64 (dgl (0) 2 : Nat), .int .u64 (dgl (0) 3 : Nat), .int .u64 (dgl (0) 4 : Nat), .int .u64 (dgl (0) 5 : Nat), .int .u64 (dgl (0) 6 : Nat), .int .u64 (dgl (0) 7 : Nat)], .bool false]) ∧ Below w.heap.size w w'))
    (HQ0 : Hid (∀ w, (Op.equalIn 10000 49 (.agg #[.bool (false), .int .i64 (0), .int .u64 (dgl (0) 0 : Nat), .int .u64 (dgl (0) 1 : Nat), .int .u64 (dgl (0) 2 : Nat), .int .u64 (dgl (0) 3 : Nat), .int .u64 (dgl (0) 4 : Nat), .int .u64 (dgl (0) 5 : Nat), .int .u64 (dgl (0) 6 : Nat), .int .u64 (dgl (0) 7 : Nat)]) (.agg #[.bool false, .int .i64 0, .int .u64 0, .int .u64 0, .int .u64 0, .int .u64 0, .int .u64 0, .int .u64 0, .int .u64 0, .int .u64 0])).run Tryd.prog w = .ok true w))
    (HK6 : Hid ((k == 6) = true))
    (HRV : Hid (∀ w, Calls Tryd.prog 37 #[.int .i64 f, .agg #[.int .u64 (dgl (a) 1 : Nat), .int .u64 (dgl (a) 0 : Nat)]] w fun e w' => e = .returned (.agg #[.bool (ng), .int .i64 (ea), .int .u64 (dgl (s) 0 : Nat), .int .u64 (dgl (s) 1 : Nat), .int .u64 (dgl (s) 2 : Nat), .int .u64 (dgl (s) 3 : Nat), .int .u64 (dgl (s) 4 : Nat), .int .u64 (dgl (s) 5 : Nat), .int .u64 (dgl (s) 6 : Nat), .int .u64 (dgl (s) 7 : Nat)]) ∧ Below w.heap.size w w'))
    (HQ1 : Hid (∀ w, (Op.equalIn 10000 49 (.agg #[.bool (ng), .int .i64 (ea), .int .u64 (dgl (s) 0 : Nat), .int .u64 (dgl (s) 1 : Nat), .int .u64 (dgl (s) 2 : Nat), .int .u64 (dgl (s) 3 : Nat), .int .u64 (dgl (s) 4 : Nat), .int .u64 (dgl (s) 5 : Nat), .int .u64 (dgl (s) 6 : Nat), .int .u64 (dgl (s) 7 : Nat)]) (.agg #[.bool (ng), .int .i64 (ea), .int .u64 (dgl (s) 0 : Nat), .int .u64 (dgl (s) 1 : Nat), .int .u64 (dgl (s) 2 : Nat), .int .u64 (dgl (s) 3 : Nat), .int .u64 (dgl (s) 4 : Nat), .int .u64 (dgl (s) 5 : Nat), .int .u64 (dgl (s) 6 : Nat), .int .u64 (dgl (s) 7 : Nat)])).run Tryd.prog w = .ok true w))
    (HX1 : Hid (∀ w, FmtG w → Calls Tryd.prog 38 #[.int .i64 f, .agg #[.bool (ng), .int .i64 (ea), .int .u64 (dgl (s) 0 : Nat), .int .u64 (dgl (s) 1 : Nat), .int .u64 (dgl (s) 2 : Nat), .int .u64 (dgl (s) 3 : Nat), .int .u64 (dgl (s) 4 : Nat), .int .u64 (dgl (s) 5 : Nat), .int .u64 (dgl (s) 6 : Nat), .int .u64 (dgl (s) 7 : Nat)]] w fun e w' => e = .returned (.tuple #[.agg #[.int .u64 (dgl (a) 1 : Nat), .int .u64 (dgl (a) 0 : Nat)], .bool true]) ∧ Below w.heap.size w w')) (w : World) (hg : FmtG w) :
    Calls Tryd.prog 7 #[.int .i64 f, .agg #[.int .u64 (dgl (a) 1 : Nat), .int .u64 (dgl (a) 0 : Nat)]] w fun e w' => e = .returned (.bool true) ∧ Below w.heap.size w w' := by
  have HS := hide (owSt_start a w hg)
  clear hg
  go_enter Tryd.func7, Tryd.ntmps7
  go_upto_region 1 with fail
  refine wp_gen (fun W => OwSt a w W) HS.out ?_
  clear HS
  rintro W1 g1
  have HS := hide g1
  clear g1
  have l0 := HS.out.h
  have l1 := HS.out.l
  go_wp2_with fail
  refine (HCL.out _).mono ?_
  rintro e w1 ⟨rfl, hb1⟩
  replace HS := hide (HS.out.below hb1)
  clear hb1 l0 l1
  have l0 := HS.out.h
  have l1 := HS.out.l
  go_wp2_with fail
  refine (HV.out _ HS.out.g).mono ?_
  rintro e w2 ⟨rfl, hb2⟩
  replace HS := hide (HS.out.below hb2)
  clear hb2 l0 l1
  go_upto_region 3 with fail
  refine wp_gen (fun W => OwSt a w W ∧ NB W w2.heap.size ng ea s) ⟨HS.out.below (below_allocs _ _), nb_new _ _ _ _ _⟩ ?_
  clear HS
  generalize w2.heap.size = p6
  rintro W3 ⟨g1, g2⟩
  have HS := hide g1
  have HA := hide g2
  clear g1 g2
  have l0 := HS.out.h
  have l1 := HS.out.l
  go_wp2_with fail
  refine (HU.out _ HS.out.g).mono ?_
  rintro e w3 ⟨rfl, hb3⟩
  replace HS := hide (HS.out.below hb3)
  replace HA := hide (HA.out.below hb3)
  clear hb3 l0 l1
  go_upto_region 4 with fail
  refine wp_gen (fun W => OwSt a w W ∧ NB W p6 ng ea s ∧ NB W w3.heap.size false 0 0) ⟨HS.out.below (below_allocs _ _), HA.out.below (below_allocs _ _), nb_new _ _ _ _ _⟩ ?_
  clear HS HA
  generalize w3.heap.size = p8
  rintro W4 ⟨g1, g2, g3⟩
  have HS := hide g1
  have HA := hide g2
  have HB := hide g3
  clear g1 g2 g3
  go_upto_region 6 with fail
  refine wp_gen (fun W => OwSt a w W ∧ NB W p6 ng ea s ∧ NB W p8 false 0 0) ⟨HS.out, HA.out, HB.out⟩ ?_
  clear HS HA HB
  rintro W6 h6
  refine wp_region_grow 9 [(50, .val (.bool true)), (51, .val (.bool false)), (52, .val (.bool false)), (53, .val (.agg #[.bool (ng), .int .i64 (ea), .int .u64 (dgl (s) 0 : Nat), .int .u64 (dgl (s) 1 : Nat), .int .u64 (dgl (s) 2 : Nat), .int .u64 (dgl (s) 3 : Nat), .int .u64 (dgl (s) 4 : Nat), .int .u64 (dgl (s) 5 : Nat), .int .u64 (dgl (s) 6 : Nat), .int .u64 (dgl (s) 7 : Nat)])), (54, .val (.int .i64 f)), (55, .val (.agg #[.int .u64 (dgl (a) 1 : Nat), .int .u64 (dgl (a) 0 : Nat)])), (56, .val (.agg #[.bool (ng), .int .i64 (ea), .int .u64 (dgl (s) 0 : Nat), .int .u64 (dgl (s) 1 : Nat), .int .u64 (dgl (s) 2 : Nat), .int .u64 (dgl (s) 3 : Nat), .int .u64 (dgl (s) 4 : Nat), .int .u64 (dgl (s) 5 : Nat), .int .u64 (dgl (s) 6 : Nat), .int .u64 (dgl (s) 7 : Nat)])), (57, .val (.bool false)), (58, .val (.bool false))]
    (fun W => OwSt a w W ∧ NB W p6 ng ea s ∧ NB W p8 false 0 0) mixedOk (by kernel_rfl) (by kernel_rfl) (⟨h6.1.below (Below.refl _ _).drew, h6.2.1.below (Below.refl _ _).drew, h6.2.2.below (Below.refl _ _).drew⟩) (fun W W' h hb => ⟨h.1.below hb, h.2.1.below hb, h.2.2.below hb⟩) ?_ ?_
  · refine gSt (gStep_run rfl (gRun_move 7 50 (.inl rfl) rfl (by decide +kernel) (fun v w h => h))) ?_
    refine gSt (gStep_run rfl ?_) ?_
    · intro ρ W hC hc hf hL
      have e50 : ρ (.tmp 50) = .bool true := hL 50 (by decide +kernel)
      simp [go_sem, hc, hf, e50]
      exact ⟨Below.refl _ _, rfl⟩
    refine gSt (gStep_run rfl (gRun_move 51 52 (.inl rfl) rfl (by decide +kernel) (fun v w h => h))) ?_
    refine gSt (gStep_on 2 52 false rfl rfl (by decide +kernel) (fun v w h => h) ?_) ?_
    · intro ρ W hC hc hf hL
      have e6 : ρ (.tmp 6) = .pointer (some ⟨p6, 0, none⟩) := hL 6 (by decide +kernel)
      have mn := hC.2.1.n
      have me := hC.2.1.e
      have m0 := hC.2.1.x0
      have m1 := hC.2.1.x1
      have m2 := hC.2.1.x2
      have m3 := hC.2.1.x3
      have m4 := hC.2.1.x4
      have m5 := hC.2.1.x5
      have m6 := hC.2.1.x6
      have m7 := hC.2.1.x7
      simp [go_sem, hc, hf, e6, mn, me, m0, m1, m2, m3, m4, m5, m6, m7]
      exact ⟨Below.refl _ _, rfl⟩
    refine gSt (gStep_on 2 52 false rfl rfl (by decide +kernel) (fun v w h => h) (gRun_move 0 54 (.inl rfl) rfl (by decide +kernel) (fun v w h => h))) ?_
    refine gSt (gStep_on 2 52 false rfl rfl (by decide +kernel) (fun v w h => h) ?_) ?_
    · intro ρ W hC hc hf hL
      have e3 : ρ (.tmp 3) = .pointer (some ⟨w.heap.size, 0, none⟩) := hL 3 (by decide +kernel)
      have l0 := hC.1.h
      have l1 := hC.1.l
      simp [go_sem, hc, hf, e3, l0, l1]
      exact ⟨Below.refl _ _, rfl⟩
    refine gSt (gStep_on 2 52 false rfl rfl (by decide +kernel) (fun v w h => h) ?_) ?_
    · intro ρ W hC hc hf hL
      have e54 : ρ (.tmp 54) = .int .i64 f := hL 54 (by decide +kernel)
      have e55 : ρ (.tmp 55) = .agg #[.int .u64 (dgl (a) 1 : Nat), .int .u64 (dgl (a) 0 : Nat)] := hL 55 (by decide +kernel)
      simp [go_sem, hc, hf, e54, e55]
      refine (HRV.out W).mono ?_
      rintro e w' ⟨rfl, hb⟩
      exact ⟨_, rfl, by first | exact hb | (subst hb; exact Below.refl _ _), rfl⟩
    refine gSt (gStep_on 2 52 false rfl rfl (by decide +kernel) (fun v w h => h) ?_) ?_
    · intro ρ W hC hc hf hL
      have e53 : ρ (.tmp 53) = .agg #[.bool (ng), .int .i64 (ea), .int .u64 (dgl (s) 0 : Nat), .int .u64 (dgl (s) 1 : Nat), .int .u64 (dgl (s) 2 : Nat), .int .u64 (dgl (s) 3 : Nat), .int .u64 (dgl (s) 4 : Nat), .int .u64 (dgl (s) 5 : Nat), .int .u64 (dgl (s) 6 : Nat), .int .u64 (dgl (s) 7 : Nat)] := hL 53 (by decide +kernel)
      have e56 : ρ (.tmp 56) = .agg #[.bool (ng), .int .i64 (ea), .int .u64 (dgl (s) 0 : Nat), .int .u64 (dgl (s) 1 : Nat), .int .u64 (dgl (s) 2 : Nat), .int .u64 (dgl (s) 3 : Nat), .int .u64 (dgl (s) 4 : Nat), .int .u64 (dgl (s) 5 : Nat), .int .u64 (dgl (s) 6 : Nat), .int .u64 (dgl (s) 7 : Nat)] := hL 56 (by decide +kernel)
      have l0 := HQ1.out
      simp [go_sem, hc, hf, e53, e56, l0]
      exact ⟨Below.refl _ _, rfl⟩
    refine gSt (gStep_run rfl (gRun_pickCF 52 57 58 _ rfl rfl (by decide +kernel) (by decide +kernel) (fun v w h => h) (fun v w h => h))) ?_
    exact gSt0
  · intro W hC
    refine gFi 50 rfl ?_
    rintro _ rfl
    refine gFi 51 rfl ?_
    rintro _ rfl
    refine gFi 52 rfl ?_
    rintro _ rfl
    refine gFi 53 rfl ?_
    rintro _ rfl
    refine gFi 54 rfl ?_
    rintro _ rfl
    refine gFi 55 rfl ?_
    rintro _ rfl
    refine gFi 56 rfl ?_
    rintro _ rfl
    refine gFi 57 rfl ?_
    rintro _ rfl
    refine gFi 58 rfl ?_
    rintro _ rfl
    refine gFi0 ?_
    simp only [List.drop_succ_cons, List.drop_zero, Act.put, List.setIfInBounds_toArray, List.set_cons_succ, List.set_cons_zero]
    have HS := hide hC.1
    have HA := hide hC.2.1
    have HB := hide hC.2.2
    clear hC h6
    have ln := HA.out.n
    have le := HA.out.e
    have l0 := HA.out.x0
    have l1 := HA.out.x1
    have l2 := HA.out.x2
    have l3 := HA.out.x3
    have l4 := HA.out.x4
    have l5 := HA.out.x5
    have l6 := HA.out.x6
    have l7 := HA.out.x7
    go_wp2_with fail
    refine (HX1.out _ HS.out.g).mono ?_
    rintro e w5 ⟨rfl, hb5⟩
    replace HS := hide (HS.out.below hb5)
    replace HA := hide (HA.out.below hb5)
    replace HB := hide (HB.out.below hb5)
    clear hb5 ln le l0 l1 l2 l3 l4 l5 l6 l7
    go_upto_region 9 with fail
    refine wp_gen (fun W => OwSt a w W ∧ NB W p6 ng ea s ∧ NB W p8 false 0 0 ∧ WB W w5.heap.size (dgl a 1) (dgl a 0)) ⟨HS.out.below (below_allocs _ _), HA.out.below (below_allocs _ _), HB.out.below (below_allocs _ _), by simp [go_sem], by simp [go_sem], by simp⟩ ?_
    clear HS HA HB
    generalize w5.heap.size = p10
    rintro W9 ⟨g1, g2, g3, g4⟩
    have HS := hide g1
    have HA := hide g2
    have HB := hide g3
    have d0 := g4.h
    have d1 := g4.l
    clear g1 g2 g3 g4
    have l0 := HS.out.h
    have l1 := HS.out.l
    have hws := fun w => word_same (dgl a 1) (dgl a 0) w
    have hk6 := HK6.out
    have hq := HQ0.out
    have mn := HB.out.n
    have me := HB.out.e
    have m0 := HB.out.x0
    have m1 := HB.out.x1
    have m2 := HB.out.x2
    have m3 := HB.out.x3
    have m4 := HB.out.x4
    have m5 := HB.out.x5
    have m6 := HB.out.x6
    have m7 := HB.out.x7
    clear HB HA
    go_wp2_with fail
    refine (awake7_any _ HS.out.g).mono ?_
    rintro e w9 ⟨rfl, hb9⟩
    have HB := hide (below_trans HS.out.bel hb9)
    clear hb9 HS
    go_wp2
    go_ret
    exact ⟨rfl, HB.out⟩

set_option maxHeartbeats 4000000 in
theorem unpackValues_Y (f k ea eb : Int) (a s t P : Nat) (ng : Bool)
    (HCL : Hid (∀ w, Calls Tryd.prog 12 #[.int .i64 f, .agg #[.int .u64 (dgl (a) 1 : Nat), .int .u64 (dgl (a) 0 : Nat)]] w fun e w' => e = .returned (.int .i64 k) ∧ Below w.heap.size w w'))
    (hk : ¬ k < 4)
    (HV : Hid (∀ w, FmtG w → Calls Tryd.prog 34 #[.int .i64 f, .agg #[.int .u64 (dgl (a) 1 : Nat), .int .u64 (dgl (a) 0 : Nat)]] w fun e w' => e = .returned (.tuple #[.agg #[.bool (ng), .int .i64 (ea), .int .u64 (dgl (s) 0 : Nat), .int .u64 (dgl (s) 1 : Nat), .int .u64 (dgl (s) 2 : Nat), .int .u64 (dgl (s) 3 : Nat), .int .u64 (dgl (s) 4 : Nat), .int .u64 (dgl (s) 5 : Nat), .int .u64 (dgl (s) 6 : Nat), .int .u64 (dgl (s) 7 : Nat)], .bool true]) ∧ Below w.heap.size w w'))
    (HU : Hid (∀ w, FmtG w → Calls Tryd.prog 35 #[.int .i64 f, .agg #[.int .u64 (dgl (a) 1 : Nat), .int .u64 (dgl (a) 0 : Nat)]] w fun e w' => e = .returned (.tuple #[.agg #[.bool (ng), .int .i64 (eb), .int .u64 (dgl (t) 0 : Nat), .int .u64 (dgl (t) 1 : Nat), .int .u64 (dgl (t) 2 : Nat), .int .u64 (dgl (t) 3 : Nat), .int .u64 (dgl (t) 4 : Nat), .int .u64 (dgl (t) 5 : Nat), .int .u64 (dgl (t) 6 : Nat), .int .u64 (dgl (t) 7 : Nat)], .bool true]) ∧ Below w.heap.size w w'))
    (HK6 : Hid ((k == 6) = false))
    (HRV : Hid (∀ w, Calls Tryd.prog 37 #[.int .i64 f, .agg #[.int .u64 (dgl (a) 1 : Nat), .int .u64 (dgl (a) 0 : Nat)]] w fun e w' => e = .returned (.agg #[.bool (ng), .int .i64 (ea), .int .u64 (dgl (s) 0 : Nat), .int .u64 (dgl (s) 1 : Nat), .int .u64 (dgl (s) 2 : Nat), .int .u64 (dgl (s) 3 : Nat), .int .u64 (dgl (s) 4 : Nat), .int .u64 (dgl (s) 5 : Nat), .int .u64 (dgl (s) 6 : Nat), .int .u64 (dgl (s) 7 : Nat)]) ∧ Below w.heap.size w w'))
    (HQ1 : Hid (∀ w, (Op.equalIn 10000 49 (.agg #[.bool (ng), .int .i64 (ea), .int .u64 (dgl (s) 0 : Nat), .int .u64 (dgl (s) 1 : Nat), .int .u64 (dgl (s) 2 : Nat), .int .u64 (dgl (s) 3 : Nat), .int .u64 (dgl (s) 4 : Nat), .int .u64 (dgl (s) 5 : Nat), .int .u64 (dgl (s) 6 : Nat), .int .u64 (dgl (s) 7 : Nat)]) (.agg #[.bool (ng), .int .i64 (ea), .int .u64 (dgl (s) 0 : Nat), .int .u64 (dgl (s) 1 : Nat), .int .u64 (dgl (s) 2 : Nat), .int .u64 (dgl (s) 3 : Nat), .int .u64 (dgl (s) 4 : Nat), .int .u64 (dgl (s) 5 : Nat), .int .u64 (dgl (s) 6 : Nat), .int .u64 (dgl (s) 7 : Nat)])).run Tryd.prog w = .ok true w))
    (HX1 : Hid (∀ w, FmtG w → Calls Tryd.prog 38 #[.int .i64 f, .agg #[.bool (ng), .int .i64 (ea), .int .u64 (dgl (s) 0 : Nat), .int .u64 (dgl (s) 1 : Nat), .int .u64 (dgl (s) 2 : Nat), .int .u64 (dgl (s) 3 : Nat), .int .u64 (dgl (s) 4 : Nat), .int .u64 (dgl (s) 5 : Nat), .int .u64 (dgl (s) 6 : Nat), .int .u64 (dgl (s) 7 : Nat)]] w fun e w' => e = .returned (.tuple #[.agg #[.int .u64 (dgl (a) 1 : Nat), .int .u64 (dgl (a) 0 : Nat)], .bool true]) ∧ Below w.heap.size w w'))
    (HX2 : Hid (∀ w, FmtG w → Calls Tryd.prog 38 #[.int .i64 f, .agg #[.bool (ng), .int .i64 (eb), .int .u64 (dgl (t) 0 : Nat), .int .u64 (dgl (t) 1 : Nat), .int .u64 (dgl (t) 2 : Nat), .int .u64 (dgl (t) 3 : Nat), .int .u64 (dgl (t) 4 : Nat), .int .u64 (dgl (t) 5 : Nat), .int .u64 (dgl (t) 6 : Nat), .int .u64 (dgl (t) 7 : Nat)]] w fun e w' => e = .returned (.tuple #[.agg #[.int .u64 (dgl (a) 1 : Nat), .int .u64 (dgl (a) 0 : Nat)], .bool true]) ∧ Below w.heap.size w w'))
    (HBG : Hid (∀ w, Calls Tryd.prog 30 #[.agg #[.int .u64 (dgl (t) 0 : Nat), .int .u64 (dgl (t) 1 : Nat), .int .u64 (dgl (t) 2 : Nat), .int .u64 (dgl (t) 3 : Nat), .int .u64 (dgl (t) 4 : Nat), .int .u64 (dgl (t) 5 : Nat), .int .u64 (dgl (t) 6 : Nat), .int .u64 (dgl (t) 7 : Nat)]] w fun e w' => ∃ v, e = .returned v ∧ BigV w' v t 40 ∧ Below w.heap.size w w'))
    (HLN : Hid (∀ v w, BigV w v t 40 → Calls Tryd.prog 29 #[v] w fun e w' => e = .returned (.int .i64 (P : Nat)) ∧ w' = w))
    (HPR : Hid (∀ w, Calls Tryd.prog 31 #[.int .i64 f] w fun e w' => e = .returned (.int .i64 (P : Nat)) ∧ w' = w))
    (HO1 : Hid (∀ w, Calls Tryd.prog 40 #[.agg #[.bool (ng), .int .i64 (ea), .int .u64 (dgl (s) 0 : Nat), .int .u64 (dgl (s) 1 : Nat), .int .u64 (dgl (s) 2 : Nat), .int .u64 (dgl (s) 3 : Nat), .int .u64 (dgl (s) 4 : Nat), .int .u64 (dgl (s) 5 : Nat), .int .u64 (dgl (s) 6 : Nat), .int .u64 (dgl (s) 7 : Nat)]] w fun e w' => ∃ v, e = .returned v ∧ NumV w' v ng ea s 40 ∧ Below w.heap.size w w'))
    (HO2 : Hid (∀ w, Calls Tryd.prog 40 #[.agg #[.bool (ng), .int .i64 (eb), .int .u64 (dgl (t) 0 : Nat), .int .u64 (dgl (t) 1 : Nat), .int .u64 (dgl (t) 2 : Nat), .int .u64 (dgl (t) 3 : Nat), .int .u64 (dgl (t) 4 : Nat), .int .u64 (dgl (t) 5 : Nat), .int .u64 (dgl (t) 6 : Nat), .int .u64 (dgl (t) 7 : Nat)]] w fun e w' => ∃ v, e = .returned v ∧ NumV w' v ng eb t 40 ∧ Below w.heap.size w w'))
    (HSZ : Hid (∀ u v w, NumV w u ng ea s 40 → NumV w v ng eb t 40 → Calls Tryd.prog 39 #[u, v] w fun e w' => e = .returned (.int .i64 0) ∧ Below w.heap.size w w')) (w : World) (hg : FmtG w) :
    Calls Tryd.prog 7 #[.int .i64 f, .agg #[.int .u64 (dgl (a) 1 : Nat), .int .u64 (dgl (a) 0 : Nat)]] w fun e w' => e = .returned (.bool true) ∧ Below w.heap.size w w' := by
  have HS := hide (owSt_start a w hg)
  clear hg
  go_enter Tryd.func7, Tryd.ntmps7
  go_upto_region 1 with fail
  refine wp_gen (fun W => OwSt a w W) HS.out ?_
  clear HS
  rintro W1 g1
  have HS := hide g1
  clear g1
  have l0 := HS.out.h
  have l1 := HS.out.l
  go_wp2_with fail
  refine (HCL.out _).mono ?_
  rintro e w1 ⟨rfl, hb1⟩
  replace HS := hide (HS.out.below hb1)
  clear hb1 l0 l1
  have l0 := HS.out.h
  have l1 := HS.out.l
  go_wp2_with fail
  refine (HV.out _ HS.out.g).mono ?_
  rintro e w2 ⟨rfl, hb2⟩
  replace HS := hide (HS.out.below hb2)
  clear hb2 l0 l1
  go_upto_region 3 with fail
  refine wp_gen (fun W => OwSt a w W ∧ NB W w2.heap.size ng ea s) ⟨HS.out.below (below_allocs _ _), nb_new _ _ _ _ _⟩ ?_
  clear HS
  generalize w2.heap.size = p6
  rintro W3 ⟨g1, g2⟩
  have HS := hide g1
  have HA := hide g2
  clear g1 g2
  have l0 := HS.out.h
  have l1 := HS.out.l
  go_wp2_with fail
  refine (HU.out _ HS.out.g).mono ?_
  rintro e w3 ⟨rfl, hb3⟩
  replace HS := hide (HS.out.below hb3)
  replace HA := hide (HA.out.below hb3)
  clear hb3 l0 l1
  go_upto_region 4 with fail
  refine wp_gen (fun W => OwSt a w W ∧ NB W p6 ng ea s ∧ NB W w3.heap.size ng eb t) ⟨HS.out.below (below_allocs _ _), HA.out.below (below_allocs _ _), nb_new _ _ _ _ _⟩ ?_
  clear HS HA
  generalize w3.heap.size = p8
  rintro W4 ⟨g1, g2, g3⟩
  have HS := hide g1
  have HA := hide g2
  have HB := hide g3
  clear g1 g2 g3
  go_upto_region 6 with fail
  refine wp_gen (fun W => OwSt a w W ∧ NB W p6 ng ea s ∧ NB W p8 ng eb t) ⟨HS.out, HA.out, HB.out⟩ ?_
  clear HS HA HB
  rintro W6 h6
  refine wp_region_grow 9 [(50, .val (.bool true)), (51, .val (.bool false)), (52, .val (.bool false)), (53, .val (.agg #[.bool (ng), .int .i64 (ea), .int .u64 (dgl (s) 0 : Nat), .int .u64 (dgl (s) 1 : Nat), .int .u64 (dgl (s) 2 : Nat), .int .u64 (dgl (s) 3 : Nat), .int .u64 (dgl (s) 4 : Nat), .int .u64 (dgl (s) 5 : Nat), .int .u64 (dgl (s) 6 : Nat), .int .u64 (dgl (s) 7 : Nat)])), (54, .val (.int .i64 f)), (55, .val (.agg #[.int .u64 (dgl (a) 1 : Nat), .int .u64 (dgl (a) 0 : Nat)])), (56, .val (.agg #[.bool (ng), .int .i64 (ea), .int .u64 (dgl (s) 0 : Nat), .int .u64 (dgl (s) 1 : Nat), .int .u64 (dgl (s) 2 : Nat), .int .u64 (dgl (s) 3 : Nat), .int .u64 (dgl (s) 4 : Nat), .int .u64 (dgl (s) 5 : Nat), .int .u64 (dgl (s) 6 : Nat), .int .u64 (dgl (s) 7 : Nat)])), (57, .val (.bool false)), (58, .val (.bool false))]
    (fun W => OwSt a w W ∧ NB W p6 ng ea s ∧ NB W p8 ng eb t) mixedOk (by kernel_rfl) (by kernel_rfl) (⟨h6.1.below (Below.refl _ _).drew, h6.2.1.below (Below.refl _ _).drew, h6.2.2.below (Below.refl _ _).drew⟩) (fun W W' h hb => ⟨h.1.below hb, h.2.1.below hb, h.2.2.below hb⟩) ?_ ?_
  · refine gSt (gStep_run rfl (gRun_move 7 50 (.inl rfl) rfl (by decide +kernel) (fun v w h => h))) ?_
    refine gSt (gStep_run rfl ?_) ?_
    · intro ρ W hC hc hf hL
      have e50 : ρ (.tmp 50) = .bool true := hL 50 (by decide +kernel)
      simp [go_sem, hc, hf, e50]
      exact ⟨Below.refl _ _, rfl⟩
    refine gSt (gStep_run rfl (gRun_move 51 52 (.inl rfl) rfl (by decide +kernel) (fun v w h => h))) ?_
    refine gSt (gStep_on 2 52 false rfl rfl (by decide +kernel) (fun v w h => h) ?_) ?_
    · intro ρ W hC hc hf hL
      have e6 : ρ (.tmp 6) = .pointer (some ⟨p6, 0, none⟩) := hL 6 (by decide +kernel)
      have mn := hC.2.1.n
      have me := hC.2.1.e
      have m0 := hC.2.1.x0
      have m1 := hC.2.1.x1
      have m2 := hC.2.1.x2
      have m3 := hC.2.1.x3
      have m4 := hC.2.1.x4
      have m5 := hC.2.1.x5
      have m6 := hC.2.1.x6
      have m7 := hC.2.1.x7
      simp [go_sem, hc, hf, e6, mn, me, m0, m1, m2, m3, m4, m5, m6, m7]
      exact ⟨Below.refl _ _, rfl⟩
    refine gSt (gStep_on 2 52 false rfl rfl (by decide +kernel) (fun v w h => h) (gRun_move 0 54 (.inl rfl) rfl (by decide +kernel) (fun v w h => h))) ?_
    refine gSt (gStep_on 2 52 false rfl rfl (by decide +kernel) (fun v w h => h) ?_) ?_
    · intro ρ W hC hc hf hL
      have e3 : ρ (.tmp 3) = .pointer (some ⟨w.heap.size, 0, none⟩) := hL 3 (by decide +kernel)
      have l0 := hC.1.h
      have l1 := hC.1.l
      simp [go_sem, hc, hf, e3, l0, l1]
      exact ⟨Below.refl _ _, rfl⟩
    refine gSt (gStep_on 2 52 false rfl rfl (by decide +kernel) (fun v w h => h) ?_) ?_
    · intro ρ W hC hc hf hL
      have e54 : ρ (.tmp 54) = .int .i64 f := hL 54 (by decide +kernel)
      have e55 : ρ (.tmp 55) = .agg #[.int .u64 (dgl (a) 1 : Nat), .int .u64 (dgl (a) 0 : Nat)] := hL 55 (by decide +kernel)
      simp [go_sem, hc, hf, e54, e55]
      refine (HRV.out W).mono ?_
      rintro e w' ⟨rfl, hb⟩
      exact ⟨_, rfl, by first | exact hb | (subst hb; exact Below.refl _ _), rfl⟩
    refine gSt (gStep_on 2 52 false rfl rfl (by decide +kernel) (fun v w h => h) ?_) ?_
    · intro ρ W hC hc hf hL
      have e53 : ρ (.tmp 53) = .agg #[.bool (ng), .int .i64 (ea), .int .u64 (dgl (s) 0 : Nat), .int .u64 (dgl (s) 1 : Nat), .int .u64 (dgl (s) 2 : Nat), .int .u64 (dgl (s) 3 : Nat), .int .u64 (dgl (s) 4 : Nat), .int .u64 (dgl (s) 5 : Nat), .int .u64 (dgl (s) 6 : Nat), .int .u64 (dgl (s) 7 : Nat)] := hL 53 (by decide +kernel)
      have e56 : ρ (.tmp 56) = .agg #[.bool (ng), .int .i64 (ea), .int .u64 (dgl (s) 0 : Nat), .int .u64 (dgl (s) 1 : Nat), .int .u64 (dgl (s) 2 : Nat), .int .u64 (dgl (s) 3 : Nat), .int .u64 (dgl (s) 4 : Nat), .int .u64 (dgl (s) 5 : Nat), .int .u64 (dgl (s) 6 : Nat), .int .u64 (dgl (s) 7 : Nat)] := hL 56 (by decide +kernel)
      have l0 := HQ1.out
      simp [go_sem, hc, hf, e53, e56, l0]
      exact ⟨Below.refl _ _, rfl⟩
    refine gSt (gStep_run rfl (gRun_pickCF 52 57 58 _ rfl rfl (by decide +kernel) (by decide +kernel) (fun v w h => h) (fun v w h => h))) ?_
    exact gSt0
  · intro W hC
    refine gFi 50 rfl ?_
    rintro _ rfl
    refine gFi 51 rfl ?_
    rintro _ rfl
    refine gFi 52 rfl ?_
    rintro _ rfl
    refine gFi 53 rfl ?_
    rintro _ rfl
    refine gFi 54 rfl ?_
    rintro _ rfl
    refine gFi 55 rfl ?_
    rintro _ rfl
    refine gFi 56 rfl ?_
    rintro _ rfl
    refine gFi 57 rfl ?_
    rintro _ rfl
    refine gFi 58 rfl ?_
    rintro _ rfl
    refine gFi0 ?_
    simp only [List.drop_succ_cons, List.drop_zero, Act.put, List.setIfInBounds_toArray, List.set_cons_succ, List.set_cons_zero]
    have HS := hide hC.1
    have HA := hide hC.2.1
    have HB := hide hC.2.2
    clear hC h6
    have ln := HA.out.n
    have le := HA.out.e
    have l0 := HA.out.x0
    have l1 := HA.out.x1
    have l2 := HA.out.x2
    have l3 := HA.out.x3
    have l4 := HA.out.x4
    have l5 := HA.out.x5
    have l6 := HA.out.x6
    have l7 := HA.out.x7
    go_wp2_with fail
    refine (HX1.out _ HS.out.g).mono ?_
    rintro e w5 ⟨rfl, hb5⟩
    replace HS := hide (HS.out.below hb5)
    replace HA := hide (HA.out.below hb5)
    replace HB := hide (HB.out.below hb5)
    clear hb5 ln le l0 l1 l2 l3 l4 l5 l6 l7
    go_upto_region 9 with fail
    refine wp_gen (fun W => OwSt a w W ∧ NB W p6 ng ea s ∧ NB W p8 ng eb t ∧ WB W w5.heap.size (dgl a 1) (dgl a 0)) ⟨HS.out.below (below_allocs _ _), HA.out.below (below_allocs _ _), HB.out.below (below_allocs _ _), by simp [go_sem], by simp [go_sem], by simp⟩ ?_
    clear HS HA HB
    generalize w5.heap.size = p10
    rintro W9 ⟨g1, g2, g3, g4⟩
    have HS := hide g1
    have HA := hide g2
    have HB := hide g3
    have d0 := g4.h
    have d1 := g4.l
    clear g1 g2 g3 g4
    have l0 := HS.out.h
    have l1 := HS.out.l
    have hws := fun w => word_same (dgl a 1) (dgl a 0) w
    have hk6 := HK6.out
    have mn := HB.out.n
    have me := HB.out.e
    have m0 := HB.out.x0
    have m1 := HB.out.x1
    have m2 := HB.out.x2
    have m3 := HB.out.x3
    have m4 := HB.out.x4
    have m5 := HB.out.x5
    have m6 := HB.out.x6
    have m7 := HB.out.x7
    go_wp2_with fail
    refine (HX2.out _ HS.out.g).mono ?_
    rintro e w6 ⟨rfl, hb6⟩
    replace HS := hide (HS.out.below hb6)
    replace HA := hide (HA.out.below hb6)
    replace HB := hide (HB.out.below hb6)
    clear hb6 l0 l1 d0 d1 hws hk6 mn me m0 m1 m2 m3 m4 m5 m6 m7
    go_upto_region 14 with fail
    refine wp_gen (fun W => OwSt a w W ∧ NB W p6 ng ea s ∧ NB W p8 ng eb t ∧ WB W w6.heap.size (dgl a 1) (dgl a 0)) ⟨HS.out.below (below_allocs _ _), HA.out.below (below_allocs _ _), HB.out.below (below_allocs _ _), by simp [go_sem], by simp [go_sem], by simp⟩ ?_
    clear HS HA HB
    generalize w6.heap.size = p12
    rintro W14 h14
    refine wp_region_grow 37 [(90, .val (.bool true)), (91, .val (.bool true)), (92, .val (.pointer (some ⟨p8, 2, none⟩))), (93, .val (.agg #[.int .u64 (dgl (t) 0 : Nat), .int .u64 (dgl (t) 1 : Nat), .int .u64 (dgl (t) 2 : Nat), .int .u64 (dgl (t) 3 : Nat), .int .u64 (dgl (t) 4 : Nat), .int .u64 (dgl (t) 5 : Nat), .int .u64 (dgl (t) 6 : Nat), .int .u64 (dgl (t) 7 : Nat)])), (94, .big t 40), (95, .val (.int .i64 (P : Nat))), (96, .val (.int .i64 f)), (97, .val (.int .i64 (P : Nat))), (98, .val (.bool true)), (99, .val (.bool true)), (100, .val (.bool true)), (101, .val (.pointer (some ⟨p8, 0, none⟩))), (102, .val (.bool ng)), (103, .val (.pointer (some ⟨p6, 0, none⟩))), (104, .val (.bool ng)), (105, .val (.bool true)), (106, .val (.bool true)), (107, .val (.bool true)), (108, .val (.agg #[.bool (ng), .int .i64 (ea), .int .u64 (dgl (s) 0 : Nat), .int .u64 (dgl (s) 1 : Nat), .int .u64 (dgl (s) 2 : Nat), .int .u64 (dgl (s) 3 : Nat), .int .u64 (dgl (s) 4 : Nat), .int .u64 (dgl (s) 5 : Nat), .int .u64 (dgl (s) 6 : Nat), .int .u64 (dgl (s) 7 : Nat)])), (109, .num ng ea s 40), (110, .val (.agg #[.bool (ng), .int .i64 (eb), .int .u64 (dgl (t) 0 : Nat), .int .u64 (dgl (t) 1 : Nat), .int .u64 (dgl (t) 2 : Nat), .int .u64 (dgl (t) 3 : Nat), .int .u64 (dgl (t) 4 : Nat), .int .u64 (dgl (t) 5 : Nat), .int .u64 (dgl (t) 6 : Nat), .int .u64 (dgl (t) 7 : Nat)])), (111, .num ng eb t 40), (112, .val (.int .i64 0)), (113, .val (.bool true)), (114, .val (.bool true)), (115, .val (.bool true)), (116, .val (.bool true)), (117, .val (.bool true)), (118, .val (.bool true)), (119, .val (.agg #[.int .u64 (dgl (a) 1 : Nat), .int .u64 (dgl (a) 0 : Nat)])), (120, .val (.agg #[.int .u64 (dgl (a) 1 : Nat), .int .u64 (dgl (a) 0 : Nat)])), (121, .val (.bool true)), (122, .val (.bool true)), (123, .val (.bool true)), (124, .val (.bool true)), (125, .val (.bool true)), (4, .val (.bool true))]
      (fun W => OwSt a w W ∧ NB W p6 ng ea s ∧ NB W p8 ng eb t ∧ WB W p12 (dgl a 1) (dgl a 0)) mixedOk (by kernel_rfl) (by kernel_rfl) (⟨h14.1.below (Below.refl _ _).drew, h14.2.1.below (Below.refl _ _).drew, h14.2.2.1.below (Below.refl _ _).drew, h14.2.2.2.below (Below.refl _ _).drew⟩) (fun W W' h hb => ⟨h.1.below hb, h.2.1.below hb, h.2.2.1.below hb, h.2.2.2.below hb⟩) ?_ ?_
    · refine gSt (gStep_run rfl (gRun_move 9 90 (.inl rfl) rfl (by decide +kernel) (fun v w h => h))) ?_
      refine gSt (gStep_run rfl (gRun_move 90 91 (.inl rfl) rfl (by decide +kernel) (fun v w h => h))) ?_
      refine gSt (gStep_on 1 91 true rfl rfl (by decide +kernel) (fun v w h => h) ?_) ?_
      · intro ρ W hC hc hf hL
        have e8 : ρ (.tmp 8) = .pointer (some ⟨p8, 0, none⟩) := hL 8 (by decide +kernel)
        simp [go_sem, hc, hf, e8]
        exact ⟨Below.refl _ _, rfl⟩
      refine gSt (gStep_on 1 91 true rfl rfl (by decide +kernel) (fun v w h => h) ?_) ?_
      · intro ρ W hC hc hf hL
        have e92 : ρ (.tmp 92) = .pointer (some ⟨p8, 2, none⟩) := hL 92 (by decide +kernel)
        have k0_ := hC.2.2.1.x0
        have k1_ := hC.2.2.1.x1
        have k2_ := hC.2.2.1.x2
        have k3_ := hC.2.2.1.x3
        have k4_ := hC.2.2.1.x4
        have k5_ := hC.2.2.1.x5
        have k6_ := hC.2.2.1.x6
        have k7_ := hC.2.2.1.x7
        simp [go_sem, hc, hf, e92, k0_, k1_, k2_, k3_, k4_, k5_, k6_, k7_]
        exact ⟨Below.refl _ _, rfl⟩
      refine gSt (gStep_on 1 91 true rfl rfl (by decide +kernel) (fun v w h => h) ?_) ?_
      · intro ρ W hC hc hf hL
        have e93 : ρ (.tmp 93) = .agg #[.int .u64 (dgl (t) 0 : Nat), .int .u64 (dgl (t) 1 : Nat), .int .u64 (dgl (t) 2 : Nat), .int .u64 (dgl (t) 3 : Nat), .int .u64 (dgl (t) 4 : Nat), .int .u64 (dgl (t) 5 : Nat), .int .u64 (dgl (t) 6 : Nat), .int .u64 (dgl (t) 7 : Nat)] := hL 93 (by decide +kernel)
        simp [go_sem, hc, hf, e93]
        refine (HBG.out W).mono ?_
        rintro e w' ⟨v, rfl, hv, hb⟩
        exact ⟨_, rfl, hb, hv⟩
      refine gSt (gStep_on 1 91 true rfl rfl (by decide +kernel) (fun v w h => h) ?_) ?_
      · intro ρ W hC hc hf hL
        have b94 : BigV W (ρ (.tmp 94)) (t) (40) := hL 94 (by decide +kernel)
        simp [go_sem, hc, hf]
        refine (HLN.out _ W b94).mono ?_
        rintro e w' ⟨rfl, hb⟩
        exact ⟨_, rfl, by first | exact hb | (subst hb; exact Below.refl _ _), rfl⟩
      refine gSt (gStep_on 1 91 true rfl rfl (by decide +kernel) (fun v w h => h) (gRun_move 0 96 (.inl rfl) rfl (by decide +kernel) (fun v w h => h))) ?_
      refine gSt (gStep_on 1 91 true rfl rfl (by decide +kernel) (fun v w h => h) ?_) ?_
      · intro ρ W hC hc hf hL
        have e96 : ρ (.tmp 96) = .int .i64 f := hL 96 (by decide +kernel)
        simp [go_sem, hc, hf, e96]
        refine (HPR.out W).mono ?_
        rintro e w' ⟨rfl, hb⟩
        exact ⟨_, rfl, by first | exact hb | (subst hb; exact Below.refl _ _), rfl⟩
      refine gSt (gStep_on 1 91 true rfl rfl (by decide +kernel) (fun v w h => h) ?_) ?_
      · intro ρ W hC hc hf hL
        have e95 : ρ (.tmp 95) = .int .i64 (P : Nat) := hL 95 (by decide +kernel)
        have e97 : ρ (.tmp 97) = .int .i64 (P : Nat) := hL 97 (by decide +kernel)
        simp [go_sem, hc, hf, e95, e97]
        exact ⟨Below.refl _ _, rfl⟩
      refine gSt (gStep_run rfl (gRun_pickT 91 98 99 _ rfl rfl (by decide +kernel) (by decide +kernel) (fun v w h => h) (fun v w h => h))) ?_
      refine gSt (gStep_run rfl (gRun_move 99 100 (.inl rfl) rfl (by decide +kernel) (fun v w h => h))) ?_
      refine gSt (gStep_on 10 100 true rfl rfl (by decide +kernel) (fun v w h => h) ?_) ?_
      · intro ρ W hC hc hf hL
        have e8 : ρ (.tmp 8) = .pointer (some ⟨p8, 0, none⟩) := hL 8 (by decide +kernel)
        simp [go_sem, hc, hf, e8]
        exact ⟨Below.refl _ _, rfl⟩
      refine gSt (gStep_on 10 100 true rfl rfl (by decide +kernel) (fun v w h => h) ?_) ?_
      · intro ρ W hC hc hf hL
        have e101 : ρ (.tmp 101) = .pointer (some ⟨p8, 0, none⟩) := hL 101 (by decide +kernel)
        have l0 := hC.2.2.1.n
        simp [go_sem, hc, hf, e101, l0]
        exact ⟨Below.refl _ _, rfl⟩
      refine gSt (gStep_on 10 100 true rfl rfl (by decide +kernel) (fun v w h => h) ?_) ?_
      · intro ρ W hC hc hf hL
        have e6 : ρ (.tmp 6) = .pointer (some ⟨p6, 0, none⟩) := hL 6 (by decide +kernel)
        simp [go_sem, hc, hf, e6]
        exact ⟨Below.refl _ _, rfl⟩
      refine gSt (gStep_on 10 100 true rfl rfl (by decide +kernel) (fun v w h => h) ?_) ?_
      · intro ρ W hC hc hf hL
        have e103 : ρ (.tmp 103) = .pointer (some ⟨p6, 0, none⟩) := hL 103 (by decide +kernel)
        have l0 := hC.2.1.n
        simp [go_sem, hc, hf, e103, l0]
        exact ⟨Below.refl _ _, rfl⟩
      refine gSt (gStep_on 10 100 true rfl rfl (by decide +kernel) (fun v w h => h) ?_) ?_
      · intro ρ W hC hc hf hL
        have e102 : ρ (.tmp 102) = .bool ng := hL 102 (by decide +kernel)
        have e104 : ρ (.tmp 104) = .bool ng := hL 104 (by decide +kernel)
        simp [go_sem, hc, hf, e102, e104]
        exact ⟨Below.refl _ _, rfl⟩
      refine gSt (gStep_run rfl (gRun_pickT 100 105 106 _ rfl rfl (by decide +kernel) (by decide +kernel) (fun v w h => h) (fun v w h => h))) ?_
      refine gSt (gStep_run rfl (gRun_move 106 107 (.inl rfl) rfl (by decide +kernel) (fun v w h => h))) ?_
      refine gSt (gStep_on 17 107 true rfl rfl (by decide +kernel) (fun v w h => h) ?_) ?_
      · intro ρ W hC hc hf hL
        have e6 : ρ (.tmp 6) = .pointer (some ⟨p6, 0, none⟩) := hL 6 (by decide +kernel)
        have mn := hC.2.1.n
        have me := hC.2.1.e
        have m0 := hC.2.1.x0
        have m1 := hC.2.1.x1
        have m2 := hC.2.1.x2
        have m3 := hC.2.1.x3
        have m4 := hC.2.1.x4
        have m5 := hC.2.1.x5
        have m6 := hC.2.1.x6
        have m7 := hC.2.1.x7
        simp [go_sem, hc, hf, e6, mn, me, m0, m1, m2, m3, m4, m5, m6, m7]
        exact ⟨Below.refl _ _, rfl⟩
      refine gSt (gStep_on 17 107 true rfl rfl (by decide +kernel) (fun v w h => h) ?_) ?_
      · intro ρ W hC hc hf hL
        have e108 : ρ (.tmp 108) = .agg #[.bool (ng), .int .i64 (ea), .int .u64 (dgl (s) 0 : Nat), .int .u64 (dgl (s) 1 : Nat), .int .u64 (dgl (s) 2 : Nat), .int .u64 (dgl (s) 3 : Nat), .int .u64 (dgl (s) 4 : Nat), .int .u64 (dgl (s) 5 : Nat), .int .u64 (dgl (s) 6 : Nat), .int .u64 (dgl (s) 7 : Nat)] := hL 108 (by decide +kernel)
        simp [go_sem, hc, hf, e108]
        refine (HO1.out W).mono ?_
        rintro e w' ⟨v, rfl, hv, hb⟩
        exact ⟨_, rfl, hb, hv⟩
      refine gSt (gStep_on 17 107 true rfl rfl (by decide +kernel) (fun v w h => h) ?_) ?_
      · intro ρ W hC hc hf hL
        have e8 : ρ (.tmp 8) = .pointer (some ⟨p8, 0, none⟩) := hL 8 (by decide +kernel)
        have kn := hC.2.2.1.n
        have ke := hC.2.2.1.e
        have k0_ := hC.2.2.1.x0
        have k1_ := hC.2.2.1.x1
        have k2_ := hC.2.2.1.x2
        have k3_ := hC.2.2.1.x3
        have k4_ := hC.2.2.1.x4
        have k5_ := hC.2.2.1.x5
        have k6_ := hC.2.2.1.x6
        have k7_ := hC.2.2.1.x7
        simp [go_sem, hc, hf, e8, kn, ke, k0_, k1_, k2_, k3_, k4_, k5_, k6_, k7_]
        exact ⟨Below.refl _ _, rfl⟩
      refine gSt (gStep_on 17 107 true rfl rfl (by decide +kernel) (fun v w h => h) ?_) ?_
      · intro ρ W hC hc hf hL
        have e110 : ρ (.tmp 110) = .agg #[.bool (ng), .int .i64 (eb), .int .u64 (dgl (t) 0 : Nat), .int .u64 (dgl (t) 1 : Nat), .int .u64 (dgl (t) 2 : Nat), .int .u64 (dgl (t) 3 : Nat), .int .u64 (dgl (t) 4 : Nat), .int .u64 (dgl (t) 5 : Nat), .int .u64 (dgl (t) 6 : Nat), .int .u64 (dgl (t) 7 : Nat)] := hL 110 (by decide +kernel)
        simp [go_sem, hc, hf, e110]
        refine (HO2.out W).mono ?_
        rintro e w' ⟨v, rfl, hv, hb⟩
        exact ⟨_, rfl, hb, hv⟩
      refine gSt (gStep_on 17 107 true rfl rfl (by decide +kernel) (fun v w h => h) ?_) ?_
      · intro ρ W hC hc hf hL
        have b109 := hL 109 (by decide +kernel)
        have b111 := hL 111 (by decide +kernel)
        simp [go_sem, hc, hf]
        refine (HSZ.out _ _ W b109 b111).mono ?_
        rintro e w' ⟨rfl, hb⟩
        exact ⟨_, rfl, by first | exact hb | (subst hb; exact Below.refl _ _), rfl⟩
      refine gSt (gStep_on 17 107 true rfl rfl (by decide +kernel) (fun v w h => h) ?_) ?_
      · intro ρ W hC hc hf hL
        have e112 : ρ (.tmp 112) = .int .i64 0 := hL 112 (by decide +kernel)
        simp [go_sem, hc, hf, e112]
        exact ⟨Below.refl _ _, rfl⟩
      refine gSt (gStep_run rfl (gRun_pickT 107 113 114 _ rfl rfl (by decide +kernel) (by decide +kernel) (fun v w h => h) (fun v w h => h))) ?_
      refine gSt (gStep_run rfl (gRun_move 114 115 (.inl rfl) rfl (by decide +kernel) (fun v w h => h))) ?_
      refine gSt (gStep_on 25 115 true rfl rfl (by decide +kernel) (fun v w h => h) (gRun_move 13 116 (.inl rfl) rfl (by decide +kernel) (fun v w h => h))) ?_
      refine gSt (gStep_run rfl (gRun_pickT 115 116 117 _ rfl rfl (by decide +kernel) (by decide +kernel) (fun v w h => h) (fun v w h => h))) ?_
      refine gSt (gStep_run rfl (gRun_move 117 118 (.inl rfl) rfl (by decide +kernel) (fun v w h => h))) ?_
      refine gSt (gStep_on 28 118 true rfl rfl (by decide +kernel) (fun v w h => h) ?_) ?_
      · intro ρ W hC hc hf hL
        have e12 : ρ (.tmp 12) = .pointer (some ⟨p12, 0, none⟩) := hL 12 (by decide +kernel)
        have l0 := hC.2.2.2.h
        have l1 := hC.2.2.2.l
        simp [go_sem, hc, hf, e12, l0, l1]
        exact ⟨Below.refl _ _, rfl⟩
      refine gSt (gStep_on 28 118 true rfl rfl (by decide +kernel) (fun v w h => h) ?_) ?_
      · intro ρ W hC hc hf hL
        have e3 : ρ (.tmp 3) = .pointer (some ⟨w.heap.size, 0, none⟩) := hL 3 (by decide +kernel)
        have l0 := hC.1.h
        have l1 := hC.1.l
        simp [go_sem, hc, hf, e3, l0, l1]
        exact ⟨Below.refl _ _, rfl⟩
      refine gSt (gStep_on 28 118 true rfl rfl (by decide +kernel) (fun v w h => h) ?_) ?_
      · intro ρ W hC hc hf hL
        have e119 : ρ (.tmp 119) = .agg #[.int .u64 (dgl (a) 1 : Nat), .int .u64 (dgl (a) 0 : Nat)] := hL 119 (by decide +kernel)
        have e120 : ρ (.tmp 120) = .agg #[.int .u64 (dgl (a) 1 : Nat), .int .u64 (dgl (a) 0 : Nat)] := hL 120 (by decide +kernel)
        have l0 := fun w => word_same (dgl a 1) (dgl a 0) w
        simp [go_sem, hc, hf, e119, e120, l0]
        exact ⟨Below.refl _ _, rfl⟩
      refine gSt (gStep_run rfl (gRun_pickT 118 121 122 _ rfl rfl (by decide +kernel) (by decide +kernel) (fun v w h => h) (fun v w h => h))) ?_
      refine gSt (gStep_run rfl (gRun_move 122 123 (.inl rfl) rfl (by decide +kernel) (fun v w h => h))) ?_
      refine gSt (gStep_on 33 123 true rfl rfl (by decide +kernel) (fun v w h => h) ?_) ?_
      · intro ρ W hC hc hf hL
        simp [go_sem, hc, hf]
        refine (awake7_any _ hC.1.g).mono ?_
        rintro e w' ⟨rfl, hb⟩
        exact ⟨_, rfl, by first | exact hb | (subst hb; exact Below.refl _ _), rfl⟩
      refine gSt (gStep_run rfl (gRun_pickT 123 124 125 _ rfl rfl (by decide +kernel) (by decide +kernel) (fun v w h => h) (fun v w h => h))) ?_
      refine gSt (gStep_run rfl (gRun_move 125 4 (.inr rfl) rfl (by decide +kernel) (fun v w h => h))) ?_
      exact gSt0
    · intro W hC
      refine gFi 90 rfl ?_
      rintro _ rfl
      refine gFi 91 rfl ?_
      rintro _ rfl
      refine gFi 92 rfl ?_
      rintro _ rfl
      refine gFi 93 rfl ?_
      rintro _ rfl
      refine gFi 94 rfl ?_
      rintro u94 b94
      refine gFi 95 rfl ?_
      rintro _ rfl
      refine gFi 96 rfl ?_
      rintro _ rfl
      refine gFi 97 rfl ?_
      rintro _ rfl
      refine gFi 98 rfl ?_
      rintro _ rfl
      refine gFi 99 rfl ?_
      rintro _ rfl
      refine gFi 100 rfl ?_
      rintro _ rfl
      refine gFi 101 rfl ?_
      rintro _ rfl
      refine gFi 102 rfl ?_
      rintro _ rfl
      refine gFi 103 rfl ?_
      rintro _ rfl
      refine gFi 104 rfl ?_
      rintro _ rfl
      refine gFi 105 rfl ?_
      rintro _ rfl
      refine gFi 106 rfl ?_
      rintro _ rfl
      refine gFi 107 rfl ?_
      rintro _ rfl
      refine gFi 108 rfl ?_
      rintro _ rfl
      refine gFi 109 rfl ?_
      rintro u109 b109
      refine gFi 110 rfl ?_
      rintro _ rfl
      refine gFi 111 rfl ?_
      rintro u111 b111
      refine gFi 112 rfl ?_
      rintro _ rfl
      refine gFi 113 rfl ?_
      rintro _ rfl
      refine gFi 114 rfl ?_
      rintro _ rfl
      refine gFi 115 rfl ?_
      rintro _ rfl
      refine gFi 116 rfl ?_
      rintro _ rfl
      refine gFi 117 rfl ?_
      rintro _ rfl
      refine gFi 118 rfl ?_
      rintro _ rfl
      refine gFi 119 rfl ?_
      rintro _ rfl
      refine gFi 120 rfl ?_
      rintro _ rfl
      refine gFi 121 rfl ?_
      rintro _ rfl
      refine gFi 122 rfl ?_
      rintro _ rfl
      refine gFi 123 rfl ?_
      rintro _ rfl
      refine gFi 124 rfl ?_
      rintro _ rfl
      refine gFi 125 rfl ?_
      rintro _ rfl
      refine gFi 4 rfl ?_
      rintro _ rfl
      refine gFi0 ?_
      simp only [List.drop_succ_cons, List.drop_zero, Act.put, List.setIfInBounds_toArray, List.set_cons_succ, List.set_cons_zero]
      have HB := hide hC.1.bel
      clear hC h14 b94 b109 b111
      go_wp2
      go_ret
      exact ⟨rfl, HB.out⟩

theorem unpackValues_num (f : Int) (a : Nat) (ha : a < 2 ^ 128) (w : World) (hg : FmtG w) :
    Calls Tryd.prog 7 #[.int .i64 f, .agg #[.int .u64 (dgl (a) 1 : Nat), .int .u64 (dgl (a) 0 : Nat)]] w fun e w' => e = .returned (.bool true) ∧ Below w.heap.size w w' := by
  have hq0 : 0 < QQ := Nat.lt_trans (by decide) one_lt_qq
  have CL := fun w => refCls_u f a ha w
  have Q0 : ∀ w, (Op.equalIn 10000 49 (.agg #[.bool (false), .int .i64 (0), .int .u64 (dgl (0) 0 : Nat), .int .u64 (dgl (0) 1 : Nat), .int .u64 (dgl (0) 2 : Nat), .int .u64 (dgl (0) 3 : Nat), .int .u64 (dgl (0) 4 : Nat), .int .u64 (dgl (0) 5 : Nat), .int .u64 (dgl (0) 6 : Nat), .int .u64 (dgl (0) 7 : Nat)]) (.agg #[.bool false, .int .i64 0, .int .u64 0, .int .u64 0, .int .u64 0, .int .u64 0, .int .u64 0, .int .u64 0, .int .u64 0, .int .u64 0])).run Tryd.prog w = .ok true w := fun w => by
    rw [zero10]
    have := num_eq false false 0 0 hq0 hq0 w
    simpa using this
  by_cases h4 : clsU f a < 4
  · exact unpackValues_N f _ 0 0 a 0 0 0 false CL (by omega) (fun w hg => uval_no f a ha h4 w hg) (fun w hg => uunp_no f a ha h4 w hg) Q0 w hg
  have h5 : 4 ≤ clsU f a := by omega
  have hf : 1 ≤ f ∧ f ≤ 4 := cls_form (a := a) (by omega)
  have hk : ¬ ((clsU f a : Nat) : Int) < 4 := by omega
  have hs := sigU_qq f a hf
  have V := fun w hg => uval_yes f a ha h5 w hg
  have RV := fun w => rval_any f a ha (by omega) w
  have e0 : expU f a - ((0 : Nat) : Int) = expU f a := by omega
  have r0 := expU_rgt f a 0 (by omega)
  rw [e0] at r0
  have X1 := fun w hg => exact_word f a h5 (expU f a) (expU f a) (sigU f a) hs r0 (by omega) (by omega) rfl w hg
  have Q1 : ∀ w, (Op.equalIn 10000 49 (.agg #[.bool (negU f a), .int .i64 (expU f a), .int .u64 (dgl (sigU f a) 0 : Nat), .int .u64 (dgl (sigU f a) 1 : Nat), .int .u64 (dgl (sigU f a) 2 : Nat), .int .u64 (dgl (sigU f a) 3 : Nat), .int .u64 (dgl (sigU f a) 4 : Nat), .int .u64 (dgl (sigU f a) 5 : Nat), .int .u64 (dgl (sigU f a) 6 : Nat), .int .u64 (dgl (sigU f a) 7 : Nat)]) (.agg #[.bool (negU f a), .int .i64 (expU f a), .int .u64 (dgl (sigU f a) 0 : Nat), .int .u64 (dgl (sigU f a) 1 : Nat), .int .u64 (dgl (sigU f a) 2 : Nat), .int .u64 (dgl (sigU f a) 3 : Nat), .int .u64 (dgl (sigU f a) 4 : Nat), .int .u64 (dgl (sigU f a) 5 : Nat), .int .u64 (dgl (sigU f a) 6 : Nat), .int .u64 (dgl (sigU f a) 7 : Nat)])).run Tryd.prog w = .ok true w := fun w => by
    have := num_eq (negU f a) (negU f a) (expU f a) (expU f a) hs hs w
    simpa using this
  by_cases h6 : sigU f a = 0
  · exact unpackValues_Z f _ _ 0 a _ 0 0 _ CL hk V (fun w hg => uunp_zero f a ha h5 h6 w hg) Q0 (by unfold Hid; rw [beq_iff_eq]; have := (cls6 h5).2 h6; omega) RV Q1 X1 w hg
  · have h7 : clsU f a ≠ 6 := fun e => h6 ((cls6 h5).1 e)
    have hp := prU_bd f hf
    have hl := (len_le (sigU f a) (prU f)).2 (sigU_lt f a hf)
    have l1 := len_pos h6
    have hu : upU f a ≤ 113 := by unfold upU; omega
    have e1 := len_shift (upU f a) h6
    have e2 : Go.bitLen (sigU f a * 2 ^ upU f a) = prU f := by rw [e1]; unfold upU; omega
    have ht : sigU f a * 2 ^ upU f a < QQ := by
      have h8 := (len_le (sigU f a * 2 ^ upU f a) (prU f)).1 (by omega)
      have h9 := pow_qq (prU f) (by omega)
      omega
    have hv : vl (sigU f a * 2 ^ upU f a) (expU f a - (upU f a : Nat)) (expU f a - (upU f a : Nat)) = vl (sigU f a) (expU f a) (expU f a - (upU f a : Nat)) := by
      unfold vl
      rw [show (expU f a - ((upU f a : Nat) : Int) - (expU f a - ((upU f a : Nat) : Int))).toNat = 0 by omega, show (expU f a - (expU f a - ((upU f a : Nat) : Int))).toNat = upU f a by omega, Nat.pow_zero, Nat.mul_one]
    have X2 := fun w hg => exact_word f a h5 (expU f a - (upU f a : Nat)) (expU f a - (upU f a : Nat)) (sigU f a * 2 ^ upU f a) ht (expU_rgt f a _ (by omega)) (by omega) (by omega) hv w hg
    have LN : ∀ v w, BigV w v (sigU f a * 2 ^ upU f a) 40 → _ := fun v w h => refLen_any (sigU f a * 2 ^ upU f a) 40 v w h (by decide)
    rw [e2] at LN
    have b0 := rgtB r0
    exact unpackValues_Y f _ (expU f a) (expU f a - (upU f a : Nat)) a (sigU f a) (sigU f a * 2 ^ upU f a) (prU f) (negU f a) CL hk V (fun w hg => uunp_yes f a ha h5 h6 w hg) (by unfold Hid; rw [beq_eq_false_iff_ne]; omega) RV Q1 X1 X2
      (fun w => refBig_any _ ht w) LN (fun w => prec_u f hf w) (fun w => refOf7_any _ _ _ hs w) (fun w => refOf7_any _ _ _ ht w) (fun u v w hu hv2 => by
        have h := refSize_any (negU f a) (negU f a) (sigU f a) (sigU f a * 2 ^ upU f a) (expU f a) (expU f a - (upU f a : Nat)) u v w hu hv2 hs ht (by omega) (by omega)
        rw [((sizeZ_spec (sigU f a) (sigU f a * 2 ^ upU f a) (expU f a) (expU f a - (upU f a : Nat)) (expU f a - (upU f a : Nat)) (by omega) (by omega)).2).2 hv.symm] at h
        exact h) w hg
theorem unpackValues_all (f : Int) (h1 l1 : Nat) (b1 : h1 < 18446744073709551616) (b2 : l1 < 18446744073709551616) (w : World) (hg : FmtG w) :
    Calls Tryd.prog 7 #[.int .i64 f, .agg #[.int .u64 (h1 : Nat), .int .u64 (l1 : Nat)]] w fun e w' => e = .returned (.bool true) ∧ Below w.heap.size w w' := by
  have e1 := word_num h1 l1 b1 b2
  have := unpackValues_num f (l1 + 18446744073709551616 * h1) (by omega) w hg
  rw [e1.1, e1.2] at this
  exact this

end Go.Proofs.YtidfegilddlglaaDoor

/- UnpackValues: for every format and word the law returns true. Conditions: those of the tied card (the table of formats is laid as the program lays it). -/
namespace Go.Proofs.YtidfegilddlglaaDoor.unpackValues
open Go.ChangeShapes Go.WideShapes Go.ChangeAt Go.RowKit Go.Proofs.YtidfegilddlglaaDoor

theorem own : ownKnob Tryd.prog.godebug = none := by kernel_rfl
theorem laidOut : laidOutB Tryd.prog = true := by kernel_rfl

theorem door_met (os : Os) (args : Array Value) : laidMetH Tryd.prog [("radicand/format.formats", Rows.laid_radicand_format_formats)] ((World.doorLaid Tryd.prog 400 os).forCall (fun _ _ => 0) ⟨#[], args, []⟩).memory :=
  laidMetH_of_parts3 (fuel := 8) (laidMet_of_run' 8 (by kernel_rfl) (by kernel_rfl)) (by kernel_rfl) (by kernel_rfl)

set_option maxRecDepth 100000 in
theorem lifted (os : Os) (started : os.Started) (H : Type) (enc : TypeId × Value → H) :
    ReturnsInHanded {} Tryd.checked os 7 .any (fun w args => (Rows.unpackValuesSpec.pre enc Tryd.prog Tryd.f7 [] false w args ∧ laidMetH Tryd.prog [("radicand/format.formats", Rows.laid_radicand_format_formats)] w) ∧ sizedMet enc Tryd.prog Tryd.f7 (OpenSpec.ofChange Rows.unpackValuesSpec) false w args) (Rows.unpackValuesSpec.post enc Tryd.prog Tryd.f7 false true false false) := by
  refine returnsInHanded_of_change_and (C := Tryd.checked) (X := fun w _ => laidMetH Tryd.prog [("radicand/format.formats", Rows.laid_radicand_format_formats)] w) (fun _ _ _ hh h => h.of_heap hh) own started (by kernel_rfl) Tryd.func7
    (ChangeSpec.witness_shaped (enc := enc) (C := Tryd.checked) (os := os) (X := fun w _ => laidMetH Tryd.prog [("radicand/format.formats", Rows.laid_radicand_format_formats)] w) false (World.doorLaid Tryd.prog 400 os) #[.int .i64 0, .agg #[.int .u64 0, .int .u64 0]] 8 rfl (World.shaped_of_RefB (by kernel_rfl) (by kernel_rfl)) (by kernel_rfl) (by kernel_rfl) (by kernel_rfl) (door_met os _)) ?_
  intro W base args ds gs before hval0 hW _ _ hL _
  have hval : ∀ (j : Nat) t v, Tryd.f7.params[j]? = some t → args[j]? = some v → Value.okWide Tryd.prog W .any base t v := hval0
  have hW' := hW
  obtain ⟨p, q, hA0, hV, rfl, hfz, hnd⟩ := hW
  have hA : DataW.TrodAll enc Tryd.prog W 0 (fun _ => true) true Tryd.f7.params.toList args.toList ds p := hA0
  rw [Tryd.params7] at hA hval
  obtain ⟨v0, vs0, d0, ds0, p0, q0, hargs, rfl, rfl, h0, r0⟩ := trodAll_cons hA
  obtain ⟨v1, vs1, d1, ds1, p1, q1, rfl, rfl, rfl, h1, r1⟩ := trodAll_cons r0
  obtain ⟨rfl, rfl, rfl⟩ := trodAll_nil r1
  obtain rfl : args = #[v0, v1] := by cases args; simp_all
  obtain ⟨rfl, rfl⟩ := trodVars_none hV
  have k0 := h0
  have lt0 : ∀ x ∈ p0, x.block < W.heap.size := by obtain ⟨m, hm⟩ := k0; exact DataW.trod_lt m _ _ _ hm
  have k1 := h1
  have lt1 : ∀ x ∈ p1, x.block < W.heap.size := by obtain ⟨m, hm⟩ := k1; exact DataW.trod_lt m _ _ _ hm
  obtain ⟨a0, rfl, rfl, rfl, wf0⟩ := open_int Tryd.underlying3 (hval 0 3 v0 rfl rfl) h0
  obtain ⟨x1, y1, hx1, hy1, rfl⟩ := word_open (hval 1 24 v1 rfl rfl) h1
  clear hA0 hval0
  have hg := of_laid1 hL
  refine (unpackValues_all a0 x1 y1 hx1 hy1 W hg).mono fun e W' ⟨he, bel⟩ => ?_
  subst he
  exact ⟨_, rfl, _, _, _, [], _, [], hW', trodAll_mk1 (shut_bool Tryd.underlying4 _), (trodAll_cons_mk (Below.trod laidOut (by kernel_rfl) (of_decide_eq_true (by kernel_rfl)) k0 bel lt0) (trodAll_cons_mk (Below.trod laidOut (by kernel_rfl) (of_decide_eq_true (by kernel_rfl)) k1 bel lt1) trodAll_mk0)), rfl, bel.frame _, fun h => by cases h⟩

theorem over : Rows.unpackValuesRow.holds Tryd.pinned (OpenSpec.ofChange Rows.unpackValuesSpec) :=
  OpenClaim.holds_of_wide 7 Tryd.f7 rfl rfl rfl rfl rfl rfl rfl ⟨rfl, rfl, rfl, rfl, rfl⟩ rfl rfl rfl rfl rfl (by kernel_rfl) Tryd.func7 (by kernel_rfl)
    (of_decide_eq_true (by kernel_rfl)) (by unfold Func.isWrapper; first | (rw [if_pos (by decide +kernel)]; kernel_rfl) | (rw [if_neg (by decide +kernel)]; exact ⟨rfl, rfl⟩))
    (fun os started H enc _ => lifted os started H enc)

theorem proved : Rows.UnpackValuesCardSaid :=
  Claim7.holds_tied_plain_at .later [] [.data] true (true, "9d98287acc8507a5882954404ba6dd5c8d1129bdd2c779bce0d65498184581fc") false
    over (fun _ h => by cases h) (by kernel_rfl) (fun _ h => by cases h) unpackValues_row_tie rfl ⟨rfl, rfl⟩ (by kernel_rfl) rfl
    (fun f fn hf hfn => by
      obtain rfl : f = 7 := Option.some.inj ((show Tryd.prog.funcNamed "radicand/radicandlaw07.UnpackValues" = some 7 by kernel_rfl).symm.trans hf) |>.symm
      obtain rfl : fn = Tryd.f7 := (Option.some.inj (Tryd.func7.symm.trans hfn)).symm
      exact ⟨by kernel_rfl, fun j t ht => by
        rw [Tryd.params7] at ht
        rcases j with _ | j
        · obtain rfl : t = 3 := by simpa using ht.symm
          exact (show Tryd.prog.wantsStandIn 3 = false by kernel_rfl)
        rcases j with _ | j
        · obtain rfl : t = 24 := by simpa using ht.symm
          exact (show Tryd.prog.wantsStandIn 24 = false by kernel_rfl)
        simp at ht⟩)
    (by kernel_rfl)
#print axioms proved
end Go.Proofs.YtidfegilddlglaaDoor.unpackValues

