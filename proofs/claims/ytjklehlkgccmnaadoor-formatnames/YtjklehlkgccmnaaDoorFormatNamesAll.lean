/- FormatNames: for every text, f and word the law returns true. Conditions: those of the tied card (the tables of formats and of names are laid as the program lays them). -/
import Derived.Test.YtjklehlkgccmnaaDoorXFmtK
import Derived.Test.YtjklehlkgccmnaaDoorRows
import Derived.Test.YtjklehlkgccmnaaDoorTie
import Derived.Test.YtjklehlkgccmnaaDoorCards
import Derived.LaidMore
import Derived.Stop.Joined
import Derived.SevenTiedAt
import Derived.Test.YtjklehlkgccmnaaDoorXFmtG
import Derived.Test.YtjklehlkgccmnaaDoorBaseZ
import Derived.WalkKit
import Derived.ProofKit
import Derived.OpenShut
import Derived.ShutString
import Derived.ChangeOld
import Derived.Below
import Derived.ChangeMaps5
/- The walk of FormatNames. -/
set_option linter.unusedVariables false
set_option linter.unusedSimpArgs false
set_option maxRecDepth 8000
namespace Go.Proofs.YtjklehlkgccmnaaDoor
open Go.RowKit Plain

set_option maxHeartbeats 2000000 in
theorem formatNames_1 (s : ByteArray) (e1 : ([98, 105, 110, 97, 114, 121, 49, 54] == s.toList) = true) (e2 : ([98, 105, 110, 97, 114, 121, 51, 50] == s.toList) = false) (e3 : ([98, 105, 110, 97, 114, 121, 54, 52] == s.toList) = false) (e4 : ([98, 105, 110, 97, 114, 121, 49, 50, 56] == s.toList) = false) (f : Int) (hi lo : Nat) (b : Bool)
    (HF1 : Hid (∀ w, FmtG w → Calls Tryd.prog 20 #[.int .i64 f, .agg #[.int .u64 (hi : Nat), .int .u64 (lo : Nat)]] w fun e w' => e = .returned (.bool b) ∧ Below w.heap.size w w'))
    (HF2 : Hid (∀ w, Calls Tryd.prog 21 #[.int .i64 f, .agg #[.int .u64 (hi : Nat), .int .u64 (lo : Nat)]] w fun e w' => e = .returned (.bool b) ∧ Below w.heap.size w w')) (w : World) (hg : FmtG w) (hn : NamG w) :
    Calls Tryd.prog 4 #[.string s, .int .i64 f, .agg #[.int .u64 (hi : Nat), .int .u64 (lo : Nat)]] w fun e w' => e = .returned (.bool true) ∧ Below w.heap.size w w' := by
  have HB0 := hide (below_allocs w (.cells #[.int .u64 (hi : Nat), .int .u64 (lo : Nat)] 35))
  have HN := hide (hn.below HB0.out)
  have HS := hide ((fitSt_start hi lo w).below (below_allocs _ (.cells #[.string ⟨#[98, 105, 110, 97, 114, 121, 49, 54]⟩, .string ⟨#[98, 105, 110, 97, 114, 121, 51, 50]⟩, .string ⟨#[98, 105, 110, 97, 114, 121, 54, 52]⟩, .string ⟨#[98, 105, 110, 97, 114, 121, 49, 50, 56]⟩] 9)))
  have HG := hide ((hg.below HB0.out).below (below_allocs _ (.cells #[.string ⟨#[98, 105, 110, 97, 114, 121, 49, 54]⟩, .string ⟨#[98, 105, 110, 97, 114, 121, 51, 50]⟩, .string ⟨#[98, 105, 110, 97, 114, 121, 54, 52]⟩, .string ⟨#[98, 105, 110, 97, 114, 121, 49, 50, 56]⟩] 9)))
  have HBN := hide (fun w hn => byName_1 s e1 w hn)
  clear hg hn HB0
  go_enter Tryd.func4, Tryd.ntmps4
  go_wp2_with fail
  refine (HBN.out _ HN.out).mono ?_
  rintro e w1 ⟨rfl, hw⟩
  subst w1
  clear HBN HN
  go_wp2
  go_loop [9, 11] (fun v i => ∃ k : Nat, k ≤ 4 ∧ v = .int .i64 (if 1 ≤ k then 1 else 0) ∧ i = .int .i64 k) (fun v i => 4 - (intOf i).toNat)
  case atStart => exact ⟨0, by decide, rfl, rfl⟩
  case round =>
    obtain ⟨k, hk, rfl, rfl⟩ := hrel
    have hk5 : k = 0 ∨ k = 1 ∨ k = 2 ∨ k = 3 ∨ k = 4 := by omega
    rcases hk5 with rfl | rfl | rfl | rfl | rfl
    · go_wp2
      go_round
      case rel => exact ⟨1, by decide, rfl, rfl⟩
      case measure => decide
    · go_wp2
      go_round
      case rel => exact ⟨2, by decide, rfl, rfl⟩
      case measure => decide
    · go_wp2
      go_round
      case rel => exact ⟨3, by decide, rfl, rfl⟩
      case measure => decide
    · go_wp2
      go_round
      case rel => exact ⟨4, by decide, rfl, rfl⟩
      case measure => decide
    · go_upto_region 9 with fail
      refine wp_gen (fun W => FmtG W ∧ FitSt hi lo w W) ⟨HG.out, HS.out⟩ ?_
      clear HG HS
      rintro W1 h1
      refine wp_region_grow 21 [(32, .val (.int .i64 1)), (33, .val (.int .i64 1)), (34, .val (.bool true)), (35, .val (.bool true)), (36, .val (.bool true)), (37, .val (.int .i64 1)), (38, .val (.bool true)), (39, .val (.bool true)), (40, .val (.bool true)), (41, .val (.bool true)), (42, .val (.int .i64 f)), (43, .val (.agg #[.int .u64 (hi : Nat), .int .u64 (lo : Nat)])), (44, .val (.bool b)), (45, .val (.int .i64 f)), (46, .val (.agg #[.int .u64 (hi : Nat), .int .u64 (lo : Nat)])), (47, .val (.bool b)), (48, .val (.bool true)), (49, .val (.bool true)), (50, .val (.bool true)), (51, .val (.bool true)), (52, .val (.bool true))]
        (fun W => FmtG W ∧ FitSt hi lo w W) mixedOk (by kernel_rfl) (by kernel_rfl) (⟨h1.1.below (Below.refl _ _).drew, h1.2.below (Below.refl _ _).drew⟩) (fun W W' h hb => ⟨h.1.below hb, h.2.below hb⟩) ?_ ?_
      · refine gSt (gStep_run rfl (gRun_move 7 32 (.inl rfl) rfl (by decide +kernel) (fun v w h => h))) ?_
        refine gSt (gStep_run rfl (gRun_move 9 33 (.inl rfl) rfl (by decide +kernel) (fun v w h => h))) ?_
        refine gSt (gStep_run rfl ?_) ?_
        · intro ρ W hC hc hf hL
          have e32 : ρ (.tmp 32) = .int .i64 1 := hL 32 (by decide +kernel)
          have e33 : ρ (.tmp 33) = .int .i64 1 := hL 33 (by decide +kernel)
          simp [go_sem, hc, hf, e32, e33]
          exact ⟨Below.refl _ _, rfl⟩
        refine gSt (gStep_run rfl (gRun_move 34 35 (.inl rfl) rfl (by decide +kernel) (fun v w h => h))) ?_
        refine gSt (gStep_on 3 35 true rfl rfl (by decide +kernel) (fun v w h => h) (gRun_move 8 36 (.inl rfl) rfl (by decide +kernel) (fun v w h => h))) ?_
        refine gSt (gStep_on 3 35 true rfl rfl (by decide +kernel) (fun v w h => h) (gRun_move 9 37 (.inl rfl) rfl (by decide +kernel) (fun v w h => h))) ?_
        refine gSt (gStep_on 3 35 true rfl rfl (by decide +kernel) (fun v w h => h) ?_) ?_
        · intro ρ W hC hc hf hL
          have e37 : ρ (.tmp 37) = .int .i64 1 := hL 37 (by decide +kernel)
          simp [go_sem, hc, hf, e37]
          exact ⟨Below.refl _ _, rfl⟩
        refine gSt (gStep_on 3 35 true rfl rfl (by decide +kernel) (fun v w h => h) ?_) ?_
        · intro ρ W hC hc hf hL
          have e36 : ρ (.tmp 36) = .bool true := hL 36 (by decide +kernel)
          have e38 : ρ (.tmp 38) = .bool true := hL 38 (by decide +kernel)
          simp [go_sem, hc, hf, e36, e38]
          exact ⟨Below.refl _ _, rfl⟩
        refine gSt (gStep_run rfl (gRun_pickT 35 39 40 _ rfl rfl (by decide +kernel) (by decide +kernel) (fun v w h => h) (fun v w h => h))) ?_
        refine gSt (gStep_run rfl (gRun_move 40 41 (.inl rfl) rfl (by decide +kernel) (fun v w h => h))) ?_
        refine gSt (gStep_on 9 41 true rfl rfl (by decide +kernel) (fun v w h => h) (gRun_move 1 42 (.inl rfl) rfl (by decide +kernel) (fun v w h => h))) ?_
        refine gSt (gStep_on 9 41 true rfl rfl (by decide +kernel) (fun v w h => h) ?_) ?_
        · intro ρ W hC hc hf hL
          have e5 : ρ (.tmp 5) = .pointer (some ⟨w.heap.size, 0, none⟩) := hL 5 (by decide +kernel)
          have l0 := hC.2.h
          have l1 := hC.2.l
          simp [go_sem, hc, hf, e5, l0, l1]
          exact ⟨Below.refl _ _, rfl⟩
        refine gSt (gStep_on 9 41 true rfl rfl (by decide +kernel) (fun v w h => h) ?_) ?_
        · intro ρ W hC hc hf hL
          have e42 : ρ (.tmp 42) = .int .i64 f := hL 42 (by decide +kernel)
          have e43 : ρ (.tmp 43) = .agg #[.int .u64 (hi : Nat), .int .u64 (lo : Nat)] := hL 43 (by decide +kernel)
          simp [go_sem, hc, hf, e42, e43]
          refine (HF1.out W hC.1).mono ?_
          rintro e w' ⟨rfl, hb⟩
          exact ⟨_, rfl, by first | exact hb | (subst hb; exact Below.refl _ _), rfl⟩
        refine gSt (gStep_on 9 41 true rfl rfl (by decide +kernel) (fun v w h => h) (gRun_move 1 45 (.inl rfl) rfl (by decide +kernel) (fun v w h => h))) ?_
        refine gSt (gStep_on 9 41 true rfl rfl (by decide +kernel) (fun v w h => h) ?_) ?_
        · intro ρ W hC hc hf hL
          have e5 : ρ (.tmp 5) = .pointer (some ⟨w.heap.size, 0, none⟩) := hL 5 (by decide +kernel)
          have l0 := hC.2.h
          have l1 := hC.2.l
          simp [go_sem, hc, hf, e5, l0, l1]
          exact ⟨Below.refl _ _, rfl⟩
        refine gSt (gStep_on 9 41 true rfl rfl (by decide +kernel) (fun v w h => h) ?_) ?_
        · intro ρ W hC hc hf hL
          have e45 : ρ (.tmp 45) = .int .i64 f := hL 45 (by decide +kernel)
          have e46 : ρ (.tmp 46) = .agg #[.int .u64 (hi : Nat), .int .u64 (lo : Nat)] := hL 46 (by decide +kernel)
          simp [go_sem, hc, hf, e45, e46]
          refine (HF2.out W).mono ?_
          rintro e w' ⟨rfl, hb⟩
          exact ⟨_, rfl, by first | exact hb | (subst hb; exact Below.refl _ _), rfl⟩
        refine gSt (gStep_on 9 41 true rfl rfl (by decide +kernel) (fun v w h => h) ?_) ?_
        · intro ρ W hC hc hf hL
          have e44 : ρ (.tmp 44) = .bool b := hL 44 (by decide +kernel)
          have e47 : ρ (.tmp 47) = .bool b := hL 47 (by decide +kernel)
          simp [go_sem, hc, hf, e44, e47]
          exact ⟨Below.refl _ _, rfl⟩
        refine gSt (gStep_run rfl (gRun_pickT 41 48 49 _ rfl rfl (by decide +kernel) (by decide +kernel) (fun v w h => h) (fun v w h => h))) ?_
        refine gSt (gStep_run rfl (gRun_move 49 50 (.inl rfl) rfl (by decide +kernel) (fun v w h => h))) ?_
        refine gSt (gStep_on 18 50 true rfl rfl (by decide +kernel) (fun v w h => h) ?_) ?_
        · intro ρ W hC hc hf hL
          simp [go_sem, hc, hf]
          refine (awake5_any W hC.1).mono ?_
          rintro e w' ⟨rfl, hb⟩
          exact ⟨_, rfl, by first | exact hb | (subst hb; exact Below.refl _ _), rfl⟩
        refine gSt (gStep_run rfl (gRun_pickT 50 51 52 _ rfl rfl (by decide +kernel) (by decide +kernel) (fun v w h => h) (fun v w h => h))) ?_
        exact gSt0
      · intro W hC
        refine gFi 32 rfl ?_
        rintro _ rfl
        refine gFi 33 rfl ?_
        rintro _ rfl
        refine gFi 34 rfl ?_
        rintro _ rfl
        refine gFi 35 rfl ?_
        rintro _ rfl
        refine gFi 36 rfl ?_
        rintro _ rfl
        refine gFi 37 rfl ?_
        rintro _ rfl
        refine gFi 38 rfl ?_
        rintro _ rfl
        refine gFi 39 rfl ?_
        rintro _ rfl
        refine gFi 40 rfl ?_
        rintro _ rfl
        refine gFi 41 rfl ?_
        rintro _ rfl
        refine gFi 42 rfl ?_
        rintro _ rfl
        refine gFi 43 rfl ?_
        rintro _ rfl
        refine gFi 44 rfl ?_
        rintro _ rfl
        refine gFi 45 rfl ?_
        rintro _ rfl
        refine gFi 46 rfl ?_
        rintro _ rfl
        refine gFi 47 rfl ?_
        rintro _ rfl
        refine gFi 48 rfl ?_
        rintro _ rfl
        refine gFi 49 rfl ?_
        rintro _ rfl
        refine gFi 50 rfl ?_
        rintro _ rfl
        refine gFi 51 rfl ?_
        rintro _ rfl
        refine gFi 52 rfl ?_
        rintro _ rfl
        refine gFi0 ?_
        simp only [List.drop_succ_cons, List.drop_zero, Act.put, List.setIfInBounds_toArray, List.set_cons_succ, List.set_cons_zero]
        have HB := hide hC.2.bel
        clear hC h1
        go_wp2
        go_ret
        exact ⟨rfl, HB.out⟩

set_option maxHeartbeats 2000000 in
theorem formatNames_2 (s : ByteArray) (e1 : ([98, 105, 110, 97, 114, 121, 49, 54] == s.toList) = false) (e2 : ([98, 105, 110, 97, 114, 121, 51, 50] == s.toList) = true) (e3 : ([98, 105, 110, 97, 114, 121, 54, 52] == s.toList) = false) (e4 : ([98, 105, 110, 97, 114, 121, 49, 50, 56] == s.toList) = false) (f : Int) (hi lo : Nat) (b : Bool)
    (HF1 : Hid (∀ w, FmtG w → Calls Tryd.prog 20 #[.int .i64 f, .agg #[.int .u64 (hi : Nat), .int .u64 (lo : Nat)]] w fun e w' => e = .returned (.bool b) ∧ Below w.heap.size w w'))
    (HF2 : Hid (∀ w, Calls Tryd.prog 21 #[.int .i64 f, .agg #[.int .u64 (hi : Nat), .int .u64 (lo : Nat)]] w fun e w' => e = .returned (.bool b) ∧ Below w.heap.size w w')) (w : World) (hg : FmtG w) (hn : NamG w) :
    Calls Tryd.prog 4 #[.string s, .int .i64 f, .agg #[.int .u64 (hi : Nat), .int .u64 (lo : Nat)]] w fun e w' => e = .returned (.bool true) ∧ Below w.heap.size w w' := by
  have HB0 := hide (below_allocs w (.cells #[.int .u64 (hi : Nat), .int .u64 (lo : Nat)] 35))
  have HN := hide (hn.below HB0.out)
  have HS := hide ((fitSt_start hi lo w).below (below_allocs _ (.cells #[.string ⟨#[98, 105, 110, 97, 114, 121, 49, 54]⟩, .string ⟨#[98, 105, 110, 97, 114, 121, 51, 50]⟩, .string ⟨#[98, 105, 110, 97, 114, 121, 54, 52]⟩, .string ⟨#[98, 105, 110, 97, 114, 121, 49, 50, 56]⟩] 9)))
  have HG := hide ((hg.below HB0.out).below (below_allocs _ (.cells #[.string ⟨#[98, 105, 110, 97, 114, 121, 49, 54]⟩, .string ⟨#[98, 105, 110, 97, 114, 121, 51, 50]⟩, .string ⟨#[98, 105, 110, 97, 114, 121, 54, 52]⟩, .string ⟨#[98, 105, 110, 97, 114, 121, 49, 50, 56]⟩] 9)))
  have HBN := hide (fun w hn => byName_2 s e1 e2 w hn)
  clear hg hn HB0
  go_enter Tryd.func4, Tryd.ntmps4
  go_wp2_with fail
  refine (HBN.out _ HN.out).mono ?_
  rintro e w1 ⟨rfl, hw⟩
  subst w1
  clear HBN HN
  go_wp2
  go_loop [9, 11] (fun v i => ∃ k : Nat, k ≤ 4 ∧ v = .int .i64 (if 2 ≤ k then 2 else 0) ∧ i = .int .i64 k) (fun v i => 4 - (intOf i).toNat)
  case atStart => exact ⟨0, by decide, rfl, rfl⟩
  case round =>
    obtain ⟨k, hk, rfl, rfl⟩ := hrel
    have hk5 : k = 0 ∨ k = 1 ∨ k = 2 ∨ k = 3 ∨ k = 4 := by omega
    rcases hk5 with rfl | rfl | rfl | rfl | rfl
    · go_wp2
      go_round
      case rel => exact ⟨1, by decide, rfl, rfl⟩
      case measure => decide
    · go_wp2
      go_round
      case rel => exact ⟨2, by decide, rfl, rfl⟩
      case measure => decide
    · go_wp2
      go_round
      case rel => exact ⟨3, by decide, rfl, rfl⟩
      case measure => decide
    · go_wp2
      go_round
      case rel => exact ⟨4, by decide, rfl, rfl⟩
      case measure => decide
    · go_upto_region 9 with fail
      refine wp_gen (fun W => FmtG W ∧ FitSt hi lo w W) ⟨HG.out, HS.out⟩ ?_
      clear HG HS
      rintro W1 h1
      refine wp_region_grow 21 [(32, .val (.int .i64 2)), (33, .val (.int .i64 2)), (34, .val (.bool true)), (35, .val (.bool true)), (36, .val (.bool true)), (37, .val (.int .i64 2)), (38, .val (.bool true)), (39, .val (.bool true)), (40, .val (.bool true)), (41, .val (.bool true)), (42, .val (.int .i64 f)), (43, .val (.agg #[.int .u64 (hi : Nat), .int .u64 (lo : Nat)])), (44, .val (.bool b)), (45, .val (.int .i64 f)), (46, .val (.agg #[.int .u64 (hi : Nat), .int .u64 (lo : Nat)])), (47, .val (.bool b)), (48, .val (.bool true)), (49, .val (.bool true)), (50, .val (.bool true)), (51, .val (.bool true)), (52, .val (.bool true))]
        (fun W => FmtG W ∧ FitSt hi lo w W) mixedOk (by kernel_rfl) (by kernel_rfl) (⟨h1.1.below (Below.refl _ _).drew, h1.2.below (Below.refl _ _).drew⟩) (fun W W' h hb => ⟨h.1.below hb, h.2.below hb⟩) ?_ ?_
      · refine gSt (gStep_run rfl (gRun_move 7 32 (.inl rfl) rfl (by decide +kernel) (fun v w h => h))) ?_
        refine gSt (gStep_run rfl (gRun_move 9 33 (.inl rfl) rfl (by decide +kernel) (fun v w h => h))) ?_
        refine gSt (gStep_run rfl ?_) ?_
        · intro ρ W hC hc hf hL
          have e32 : ρ (.tmp 32) = .int .i64 2 := hL 32 (by decide +kernel)
          have e33 : ρ (.tmp 33) = .int .i64 2 := hL 33 (by decide +kernel)
          simp [go_sem, hc, hf, e32, e33]
          exact ⟨Below.refl _ _, rfl⟩
        refine gSt (gStep_run rfl (gRun_move 34 35 (.inl rfl) rfl (by decide +kernel) (fun v w h => h))) ?_
        refine gSt (gStep_on 3 35 true rfl rfl (by decide +kernel) (fun v w h => h) (gRun_move 8 36 (.inl rfl) rfl (by decide +kernel) (fun v w h => h))) ?_
        refine gSt (gStep_on 3 35 true rfl rfl (by decide +kernel) (fun v w h => h) (gRun_move 9 37 (.inl rfl) rfl (by decide +kernel) (fun v w h => h))) ?_
        refine gSt (gStep_on 3 35 true rfl rfl (by decide +kernel) (fun v w h => h) ?_) ?_
        · intro ρ W hC hc hf hL
          have e37 : ρ (.tmp 37) = .int .i64 2 := hL 37 (by decide +kernel)
          simp [go_sem, hc, hf, e37]
          exact ⟨Below.refl _ _, rfl⟩
        refine gSt (gStep_on 3 35 true rfl rfl (by decide +kernel) (fun v w h => h) ?_) ?_
        · intro ρ W hC hc hf hL
          have e36 : ρ (.tmp 36) = .bool true := hL 36 (by decide +kernel)
          have e38 : ρ (.tmp 38) = .bool true := hL 38 (by decide +kernel)
          simp [go_sem, hc, hf, e36, e38]
          exact ⟨Below.refl _ _, rfl⟩
        refine gSt (gStep_run rfl (gRun_pickT 35 39 40 _ rfl rfl (by decide +kernel) (by decide +kernel) (fun v w h => h) (fun v w h => h))) ?_
        refine gSt (gStep_run rfl (gRun_move 40 41 (.inl rfl) rfl (by decide +kernel) (fun v w h => h))) ?_
        refine gSt (gStep_on 9 41 true rfl rfl (by decide +kernel) (fun v w h => h) (gRun_move 1 42 (.inl rfl) rfl (by decide +kernel) (fun v w h => h))) ?_
        refine gSt (gStep_on 9 41 true rfl rfl (by decide +kernel) (fun v w h => h) ?_) ?_
        · intro ρ W hC hc hf hL
          have e5 : ρ (.tmp 5) = .pointer (some ⟨w.heap.size, 0, none⟩) := hL 5 (by decide +kernel)
          have l0 := hC.2.h
          have l1 := hC.2.l
          simp [go_sem, hc, hf, e5, l0, l1]
          exact ⟨Below.refl _ _, rfl⟩
        refine gSt (gStep_on 9 41 true rfl rfl (by decide +kernel) (fun v w h => h) ?_) ?_
        · intro ρ W hC hc hf hL
          have e42 : ρ (.tmp 42) = .int .i64 f := hL 42 (by decide +kernel)
          have e43 : ρ (.tmp 43) = .agg #[.int .u64 (hi : Nat), .int .u64 (lo : Nat)] := hL 43 (by decide +kernel)
          simp [go_sem, hc, hf, e42, e43]
          refine (HF1.out W hC.1).mono ?_
          rintro e w' ⟨rfl, hb⟩
          exact ⟨_, rfl, by first | exact hb | (subst hb; exact Below.refl _ _), rfl⟩
        refine gSt (gStep_on 9 41 true rfl rfl (by decide +kernel) (fun v w h => h) (gRun_move 1 45 (.inl rfl) rfl (by decide +kernel) (fun v w h => h))) ?_
        refine gSt (gStep_on 9 41 true rfl rfl (by decide +kernel) (fun v w h => h) ?_) ?_
        · intro ρ W hC hc hf hL
          have e5 : ρ (.tmp 5) = .pointer (some ⟨w.heap.size, 0, none⟩) := hL 5 (by decide +kernel)
          have l0 := hC.2.h
          have l1 := hC.2.l
          simp [go_sem, hc, hf, e5, l0, l1]
          exact ⟨Below.refl _ _, rfl⟩
        refine gSt (gStep_on 9 41 true rfl rfl (by decide +kernel) (fun v w h => h) ?_) ?_
        · intro ρ W hC hc hf hL
          have e45 : ρ (.tmp 45) = .int .i64 f := hL 45 (by decide +kernel)
          have e46 : ρ (.tmp 46) = .agg #[.int .u64 (hi : Nat), .int .u64 (lo : Nat)] := hL 46 (by decide +kernel)
          simp [go_sem, hc, hf, e45, e46]
          refine (HF2.out W).mono ?_
          rintro e w' ⟨rfl, hb⟩
          exact ⟨_, rfl, by first | exact hb | (subst hb; exact Below.refl _ _), rfl⟩
        refine gSt (gStep_on 9 41 true rfl rfl (by decide +kernel) (fun v w h => h) ?_) ?_
        · intro ρ W hC hc hf hL
          have e44 : ρ (.tmp 44) = .bool b := hL 44 (by decide +kernel)
          have e47 : ρ (.tmp 47) = .bool b := hL 47 (by decide +kernel)
          simp [go_sem, hc, hf, e44, e47]
          exact ⟨Below.refl _ _, rfl⟩
        refine gSt (gStep_run rfl (gRun_pickT 41 48 49 _ rfl rfl (by decide +kernel) (by decide +kernel) (fun v w h => h) (fun v w h => h))) ?_
        refine gSt (gStep_run rfl (gRun_move 49 50 (.inl rfl) rfl (by decide +kernel) (fun v w h => h))) ?_
        refine gSt (gStep_on 18 50 true rfl rfl (by decide +kernel) (fun v w h => h) ?_) ?_
        · intro ρ W hC hc hf hL
          simp [go_sem, hc, hf]
          refine (awake5_any W hC.1).mono ?_
          rintro e w' ⟨rfl, hb⟩
          exact ⟨_, rfl, by first | exact hb | (subst hb; exact Below.refl _ _), rfl⟩
        refine gSt (gStep_run rfl (gRun_pickT 50 51 52 _ rfl rfl (by decide +kernel) (by decide +kernel) (fun v w h => h) (fun v w h => h))) ?_
        exact gSt0
      · intro W hC
        refine gFi 32 rfl ?_
        rintro _ rfl
        refine gFi 33 rfl ?_
        rintro _ rfl
        refine gFi 34 rfl ?_
        rintro _ rfl
        refine gFi 35 rfl ?_
        rintro _ rfl
        refine gFi 36 rfl ?_
        rintro _ rfl
        refine gFi 37 rfl ?_
        rintro _ rfl
        refine gFi 38 rfl ?_
        rintro _ rfl
        refine gFi 39 rfl ?_
        rintro _ rfl
        refine gFi 40 rfl ?_
        rintro _ rfl
        refine gFi 41 rfl ?_
        rintro _ rfl
        refine gFi 42 rfl ?_
        rintro _ rfl
        refine gFi 43 rfl ?_
        rintro _ rfl
        refine gFi 44 rfl ?_
        rintro _ rfl
        refine gFi 45 rfl ?_
        rintro _ rfl
        refine gFi 46 rfl ?_
        rintro _ rfl
        refine gFi 47 rfl ?_
        rintro _ rfl
        refine gFi 48 rfl ?_
        rintro _ rfl
        refine gFi 49 rfl ?_
        rintro _ rfl
        refine gFi 50 rfl ?_
        rintro _ rfl
        refine gFi 51 rfl ?_
        rintro _ rfl
        refine gFi 52 rfl ?_
        rintro _ rfl
        refine gFi0 ?_
        simp only [List.drop_succ_cons, List.drop_zero, Act.put, List.setIfInBounds_toArray, List.set_cons_succ, List.set_cons_zero]
        have HB := hide hC.2.bel
        clear hC h1
        go_wp2
        go_ret
        exact ⟨rfl, HB.out⟩

set_option maxHeartbeats 2000000 in
theorem formatNames_3 (s : ByteArray) (e1 : ([98, 105, 110, 97, 114, 121, 49, 54] == s.toList) = false) (e2 : ([98, 105, 110, 97, 114, 121, 51, 50] == s.toList) = false) (e3 : ([98, 105, 110, 97, 114, 121, 54, 52] == s.toList) = true) (e4 : ([98, 105, 110, 97, 114, 121, 49, 50, 56] == s.toList) = false) (f : Int) (hi lo : Nat) (b : Bool)
    (HF1 : Hid (∀ w, FmtG w → Calls Tryd.prog 20 #[.int .i64 f, .agg #[.int .u64 (hi : Nat), .int .u64 (lo : Nat)]] w fun e w' => e = .returned (.bool b) ∧ Below w.heap.size w w'))
    (HF2 : Hid (∀ w, Calls Tryd.prog 21 #[.int .i64 f, .agg #[.int .u64 (hi : Nat), .int .u64 (lo : Nat)]] w fun e w' => e = .returned (.bool b) ∧ Below w.heap.size w w')) (w : World) (hg : FmtG w) (hn : NamG w) :
    Calls Tryd.prog 4 #[.string s, .int .i64 f, .agg #[.int .u64 (hi : Nat), .int .u64 (lo : Nat)]] w fun e w' => e = .returned (.bool true) ∧ Below w.heap.size w w' := by
  have HB0 := hide (below_allocs w (.cells #[.int .u64 (hi : Nat), .int .u64 (lo : Nat)] 35))
  have HN := hide (hn.below HB0.out)
  have HS := hide ((fitSt_start hi lo w).below (below_allocs _ (.cells #[.string ⟨#[98, 105, 110, 97, 114, 121, 49, 54]⟩, .string ⟨#[98, 105, 110, 97, 114, 121, 51, 50]⟩, .string ⟨#[98, 105, 110, 97, 114, 121, 54, 52]⟩, .string ⟨#[98, 105, 110, 97, 114, 121, 49, 50, 56]⟩] 9)))
  have HG := hide ((hg.below HB0.out).below (below_allocs _ (.cells #[.string ⟨#[98, 105, 110, 97, 114, 121, 49, 54]⟩, .string ⟨#[98, 105, 110, 97, 114, 121, 51, 50]⟩, .string ⟨#[98, 105, 110, 97, 114, 121, 54, 52]⟩, .string ⟨#[98, 105, 110, 97, 114, 121, 49, 50, 56]⟩] 9)))
  have HBN := hide (fun w hn => byName_3 s e1 e2 e3 w hn)
  clear hg hn HB0
  go_enter Tryd.func4, Tryd.ntmps4
  go_wp2_with fail
  refine (HBN.out _ HN.out).mono ?_
  rintro e w1 ⟨rfl, hw⟩
  subst w1
  clear HBN HN
  go_wp2
  go_loop [9, 11] (fun v i => ∃ k : Nat, k ≤ 4 ∧ v = .int .i64 (if 3 ≤ k then 3 else 0) ∧ i = .int .i64 k) (fun v i => 4 - (intOf i).toNat)
  case atStart => exact ⟨0, by decide, rfl, rfl⟩
  case round =>
    obtain ⟨k, hk, rfl, rfl⟩ := hrel
    have hk5 : k = 0 ∨ k = 1 ∨ k = 2 ∨ k = 3 ∨ k = 4 := by omega
    rcases hk5 with rfl | rfl | rfl | rfl | rfl
    · go_wp2
      go_round
      case rel => exact ⟨1, by decide, rfl, rfl⟩
      case measure => decide
    · go_wp2
      go_round
      case rel => exact ⟨2, by decide, rfl, rfl⟩
      case measure => decide
    · go_wp2
      go_round
      case rel => exact ⟨3, by decide, rfl, rfl⟩
      case measure => decide
    · go_wp2
      go_round
      case rel => exact ⟨4, by decide, rfl, rfl⟩
      case measure => decide
    · go_upto_region 9 with fail
      refine wp_gen (fun W => FmtG W ∧ FitSt hi lo w W) ⟨HG.out, HS.out⟩ ?_
      clear HG HS
      rintro W1 h1
      refine wp_region_grow 21 [(32, .val (.int .i64 3)), (33, .val (.int .i64 3)), (34, .val (.bool true)), (35, .val (.bool true)), (36, .val (.bool true)), (37, .val (.int .i64 3)), (38, .val (.bool true)), (39, .val (.bool true)), (40, .val (.bool true)), (41, .val (.bool true)), (42, .val (.int .i64 f)), (43, .val (.agg #[.int .u64 (hi : Nat), .int .u64 (lo : Nat)])), (44, .val (.bool b)), (45, .val (.int .i64 f)), (46, .val (.agg #[.int .u64 (hi : Nat), .int .u64 (lo : Nat)])), (47, .val (.bool b)), (48, .val (.bool true)), (49, .val (.bool true)), (50, .val (.bool true)), (51, .val (.bool true)), (52, .val (.bool true))]
        (fun W => FmtG W ∧ FitSt hi lo w W) mixedOk (by kernel_rfl) (by kernel_rfl) (⟨h1.1.below (Below.refl _ _).drew, h1.2.below (Below.refl _ _).drew⟩) (fun W W' h hb => ⟨h.1.below hb, h.2.below hb⟩) ?_ ?_
      · refine gSt (gStep_run rfl (gRun_move 7 32 (.inl rfl) rfl (by decide +kernel) (fun v w h => h))) ?_
        refine gSt (gStep_run rfl (gRun_move 9 33 (.inl rfl) rfl (by decide +kernel) (fun v w h => h))) ?_
        refine gSt (gStep_run rfl ?_) ?_
        · intro ρ W hC hc hf hL
          have e32 : ρ (.tmp 32) = .int .i64 3 := hL 32 (by decide +kernel)
          have e33 : ρ (.tmp 33) = .int .i64 3 := hL 33 (by decide +kernel)
          simp [go_sem, hc, hf, e32, e33]
          exact ⟨Below.refl _ _, rfl⟩
        refine gSt (gStep_run rfl (gRun_move 34 35 (.inl rfl) rfl (by decide +kernel) (fun v w h => h))) ?_
        refine gSt (gStep_on 3 35 true rfl rfl (by decide +kernel) (fun v w h => h) (gRun_move 8 36 (.inl rfl) rfl (by decide +kernel) (fun v w h => h))) ?_
        refine gSt (gStep_on 3 35 true rfl rfl (by decide +kernel) (fun v w h => h) (gRun_move 9 37 (.inl rfl) rfl (by decide +kernel) (fun v w h => h))) ?_
        refine gSt (gStep_on 3 35 true rfl rfl (by decide +kernel) (fun v w h => h) ?_) ?_
        · intro ρ W hC hc hf hL
          have e37 : ρ (.tmp 37) = .int .i64 3 := hL 37 (by decide +kernel)
          simp [go_sem, hc, hf, e37]
          exact ⟨Below.refl _ _, rfl⟩
        refine gSt (gStep_on 3 35 true rfl rfl (by decide +kernel) (fun v w h => h) ?_) ?_
        · intro ρ W hC hc hf hL
          have e36 : ρ (.tmp 36) = .bool true := hL 36 (by decide +kernel)
          have e38 : ρ (.tmp 38) = .bool true := hL 38 (by decide +kernel)
          simp [go_sem, hc, hf, e36, e38]
          exact ⟨Below.refl _ _, rfl⟩
        refine gSt (gStep_run rfl (gRun_pickT 35 39 40 _ rfl rfl (by decide +kernel) (by decide +kernel) (fun v w h => h) (fun v w h => h))) ?_
        refine gSt (gStep_run rfl (gRun_move 40 41 (.inl rfl) rfl (by decide +kernel) (fun v w h => h))) ?_
        refine gSt (gStep_on 9 41 true rfl rfl (by decide +kernel) (fun v w h => h) (gRun_move 1 42 (.inl rfl) rfl (by decide +kernel) (fun v w h => h))) ?_
        refine gSt (gStep_on 9 41 true rfl rfl (by decide +kernel) (fun v w h => h) ?_) ?_
        · intro ρ W hC hc hf hL
          have e5 : ρ (.tmp 5) = .pointer (some ⟨w.heap.size, 0, none⟩) := hL 5 (by decide +kernel)
          have l0 := hC.2.h
          have l1 := hC.2.l
          simp [go_sem, hc, hf, e5, l0, l1]
          exact ⟨Below.refl _ _, rfl⟩
        refine gSt (gStep_on 9 41 true rfl rfl (by decide +kernel) (fun v w h => h) ?_) ?_
        · intro ρ W hC hc hf hL
          have e42 : ρ (.tmp 42) = .int .i64 f := hL 42 (by decide +kernel)
          have e43 : ρ (.tmp 43) = .agg #[.int .u64 (hi : Nat), .int .u64 (lo : Nat)] := hL 43 (by decide +kernel)
          simp [go_sem, hc, hf, e42, e43]
          refine (HF1.out W hC.1).mono ?_
          rintro e w' ⟨rfl, hb⟩
          exact ⟨_, rfl, by first | exact hb | (subst hb; exact Below.refl _ _), rfl⟩
        refine gSt (gStep_on 9 41 true rfl rfl (by decide +kernel) (fun v w h => h) (gRun_move 1 45 (.inl rfl) rfl (by decide +kernel) (fun v w h => h))) ?_
        refine gSt (gStep_on 9 41 true rfl rfl (by decide +kernel) (fun v w h => h) ?_) ?_
        · intro ρ W hC hc hf hL
          have e5 : ρ (.tmp 5) = .pointer (some ⟨w.heap.size, 0, none⟩) := hL 5 (by decide +kernel)
          have l0 := hC.2.h
          have l1 := hC.2.l
          simp [go_sem, hc, hf, e5, l0, l1]
          exact ⟨Below.refl _ _, rfl⟩
        refine gSt (gStep_on 9 41 true rfl rfl (by decide +kernel) (fun v w h => h) ?_) ?_
        · intro ρ W hC hc hf hL
          have e45 : ρ (.tmp 45) = .int .i64 f := hL 45 (by decide +kernel)
          have e46 : ρ (.tmp 46) = .agg #[.int .u64 (hi : Nat), .int .u64 (lo : Nat)] := hL 46 (by decide +kernel)
          simp [go_sem, hc, hf, e45, e46]
          refine (HF2.out W).mono ?_
          rintro e w' ⟨rfl, hb⟩
          exact ⟨_, rfl, by first | exact hb | (subst hb; exact Below.refl _ _), rfl⟩
        refine gSt (gStep_on 9 41 true rfl rfl (by decide +kernel) (fun v w h => h) ?_) ?_
        · intro ρ W hC hc hf hL
          have e44 : ρ (.tmp 44) = .bool b := hL 44 (by decide +kernel)
          have e47 : ρ (.tmp 47) = .bool b := hL 47 (by decide +kernel)
          simp [go_sem, hc, hf, e44, e47]
          exact ⟨Below.refl _ _, rfl⟩
        refine gSt (gStep_run rfl (gRun_pickT 41 48 49 _ rfl rfl (by decide +kernel) (by decide +kernel) (fun v w h => h) (fun v w h => h))) ?_
        refine gSt (gStep_run rfl (gRun_move 49 50 (.inl rfl) rfl (by decide +kernel) (fun v w h => h))) ?_
        refine gSt (gStep_on 18 50 true rfl rfl (by decide +kernel) (fun v w h => h) ?_) ?_
        · intro ρ W hC hc hf hL
          simp [go_sem, hc, hf]
          refine (awake5_any W hC.1).mono ?_
          rintro e w' ⟨rfl, hb⟩
          exact ⟨_, rfl, by first | exact hb | (subst hb; exact Below.refl _ _), rfl⟩
        refine gSt (gStep_run rfl (gRun_pickT 50 51 52 _ rfl rfl (by decide +kernel) (by decide +kernel) (fun v w h => h) (fun v w h => h))) ?_
        exact gSt0
      · intro W hC
        refine gFi 32 rfl ?_
        rintro _ rfl
        refine gFi 33 rfl ?_
        rintro _ rfl
        refine gFi 34 rfl ?_
        rintro _ rfl
        refine gFi 35 rfl ?_
        rintro _ rfl
        refine gFi 36 rfl ?_
        rintro _ rfl
        refine gFi 37 rfl ?_
        rintro _ rfl
        refine gFi 38 rfl ?_
        rintro _ rfl
        refine gFi 39 rfl ?_
        rintro _ rfl
        refine gFi 40 rfl ?_
        rintro _ rfl
        refine gFi 41 rfl ?_
        rintro _ rfl
        refine gFi 42 rfl ?_
        rintro _ rfl
        refine gFi 43 rfl ?_
        rintro _ rfl
        refine gFi 44 rfl ?_
        rintro _ rfl
        refine gFi 45 rfl ?_
        rintro _ rfl
        refine gFi 46 rfl ?_
        rintro _ rfl
        refine gFi 47 rfl ?_
        rintro _ rfl
        refine gFi 48 rfl ?_
        rintro _ rfl
        refine gFi 49 rfl ?_
        rintro _ rfl
        refine gFi 50 rfl ?_
        rintro _ rfl
        refine gFi 51 rfl ?_
        rintro _ rfl
        refine gFi 52 rfl ?_
        rintro _ rfl
        refine gFi0 ?_
        simp only [List.drop_succ_cons, List.drop_zero, Act.put, List.setIfInBounds_toArray, List.set_cons_succ, List.set_cons_zero]
        have HB := hide hC.2.bel
        clear hC h1
        go_wp2
        go_ret
        exact ⟨rfl, HB.out⟩

set_option maxHeartbeats 2000000 in
theorem formatNames_4 (s : ByteArray) (e1 : ([98, 105, 110, 97, 114, 121, 49, 54] == s.toList) = false) (e2 : ([98, 105, 110, 97, 114, 121, 51, 50] == s.toList) = false) (e3 : ([98, 105, 110, 97, 114, 121, 54, 52] == s.toList) = false) (e4 : ([98, 105, 110, 97, 114, 121, 49, 50, 56] == s.toList) = true) (f : Int) (hi lo : Nat) (b : Bool)
    (HF1 : Hid (∀ w, FmtG w → Calls Tryd.prog 20 #[.int .i64 f, .agg #[.int .u64 (hi : Nat), .int .u64 (lo : Nat)]] w fun e w' => e = .returned (.bool b) ∧ Below w.heap.size w w'))
    (HF2 : Hid (∀ w, Calls Tryd.prog 21 #[.int .i64 f, .agg #[.int .u64 (hi : Nat), .int .u64 (lo : Nat)]] w fun e w' => e = .returned (.bool b) ∧ Below w.heap.size w w')) (w : World) (hg : FmtG w) (hn : NamG w) :
    Calls Tryd.prog 4 #[.string s, .int .i64 f, .agg #[.int .u64 (hi : Nat), .int .u64 (lo : Nat)]] w fun e w' => e = .returned (.bool true) ∧ Below w.heap.size w w' := by
  have HB0 := hide (below_allocs w (.cells #[.int .u64 (hi : Nat), .int .u64 (lo : Nat)] 35))
  have HN := hide (hn.below HB0.out)
  have HS := hide ((fitSt_start hi lo w).below (below_allocs _ (.cells #[.string ⟨#[98, 105, 110, 97, 114, 121, 49, 54]⟩, .string ⟨#[98, 105, 110, 97, 114, 121, 51, 50]⟩, .string ⟨#[98, 105, 110, 97, 114, 121, 54, 52]⟩, .string ⟨#[98, 105, 110, 97, 114, 121, 49, 50, 56]⟩] 9)))
  have HG := hide ((hg.below HB0.out).below (below_allocs _ (.cells #[.string ⟨#[98, 105, 110, 97, 114, 121, 49, 54]⟩, .string ⟨#[98, 105, 110, 97, 114, 121, 51, 50]⟩, .string ⟨#[98, 105, 110, 97, 114, 121, 54, 52]⟩, .string ⟨#[98, 105, 110, 97, 114, 121, 49, 50, 56]⟩] 9)))
  have HBN := hide (fun w hn => byName_4 s e1 e2 e3 e4 w hn)
  clear hg hn HB0
  go_enter Tryd.func4, Tryd.ntmps4
  go_wp2_with fail
  refine (HBN.out _ HN.out).mono ?_
  rintro e w1 ⟨rfl, hw⟩
  subst w1
  clear HBN HN
  go_wp2
  go_loop [9, 11] (fun v i => ∃ k : Nat, k ≤ 4 ∧ v = .int .i64 (if 4 ≤ k then 4 else 0) ∧ i = .int .i64 k) (fun v i => 4 - (intOf i).toNat)
  case atStart => exact ⟨0, by decide, rfl, rfl⟩
  case round =>
    obtain ⟨k, hk, rfl, rfl⟩ := hrel
    have hk5 : k = 0 ∨ k = 1 ∨ k = 2 ∨ k = 3 ∨ k = 4 := by omega
    rcases hk5 with rfl | rfl | rfl | rfl | rfl
    · go_wp2
      go_round
      case rel => exact ⟨1, by decide, rfl, rfl⟩
      case measure => decide
    · go_wp2
      go_round
      case rel => exact ⟨2, by decide, rfl, rfl⟩
      case measure => decide
    · go_wp2
      go_round
      case rel => exact ⟨3, by decide, rfl, rfl⟩
      case measure => decide
    · go_wp2
      go_round
      case rel => exact ⟨4, by decide, rfl, rfl⟩
      case measure => decide
    · go_upto_region 9 with fail
      refine wp_gen (fun W => FmtG W ∧ FitSt hi lo w W) ⟨HG.out, HS.out⟩ ?_
      clear HG HS
      rintro W1 h1
      refine wp_region_grow 21 [(32, .val (.int .i64 4)), (33, .val (.int .i64 4)), (34, .val (.bool true)), (35, .val (.bool true)), (36, .val (.bool true)), (37, .val (.int .i64 4)), (38, .val (.bool true)), (39, .val (.bool true)), (40, .val (.bool true)), (41, .val (.bool true)), (42, .val (.int .i64 f)), (43, .val (.agg #[.int .u64 (hi : Nat), .int .u64 (lo : Nat)])), (44, .val (.bool b)), (45, .val (.int .i64 f)), (46, .val (.agg #[.int .u64 (hi : Nat), .int .u64 (lo : Nat)])), (47, .val (.bool b)), (48, .val (.bool true)), (49, .val (.bool true)), (50, .val (.bool true)), (51, .val (.bool true)), (52, .val (.bool true))]
        (fun W => FmtG W ∧ FitSt hi lo w W) mixedOk (by kernel_rfl) (by kernel_rfl) (⟨h1.1.below (Below.refl _ _).drew, h1.2.below (Below.refl _ _).drew⟩) (fun W W' h hb => ⟨h.1.below hb, h.2.below hb⟩) ?_ ?_
      · refine gSt (gStep_run rfl (gRun_move 7 32 (.inl rfl) rfl (by decide +kernel) (fun v w h => h))) ?_
        refine gSt (gStep_run rfl (gRun_move 9 33 (.inl rfl) rfl (by decide +kernel) (fun v w h => h))) ?_
        refine gSt (gStep_run rfl ?_) ?_
        · intro ρ W hC hc hf hL
          have e32 : ρ (.tmp 32) = .int .i64 4 := hL 32 (by decide +kernel)
          have e33 : ρ (.tmp 33) = .int .i64 4 := hL 33 (by decide +kernel)
          simp [go_sem, hc, hf, e32, e33]
          exact ⟨Below.refl _ _, rfl⟩
        refine gSt (gStep_run rfl (gRun_move 34 35 (.inl rfl) rfl (by decide +kernel) (fun v w h => h))) ?_
        refine gSt (gStep_on 3 35 true rfl rfl (by decide +kernel) (fun v w h => h) (gRun_move 8 36 (.inl rfl) rfl (by decide +kernel) (fun v w h => h))) ?_
        refine gSt (gStep_on 3 35 true rfl rfl (by decide +kernel) (fun v w h => h) (gRun_move 9 37 (.inl rfl) rfl (by decide +kernel) (fun v w h => h))) ?_
        refine gSt (gStep_on 3 35 true rfl rfl (by decide +kernel) (fun v w h => h) ?_) ?_
        · intro ρ W hC hc hf hL
          have e37 : ρ (.tmp 37) = .int .i64 4 := hL 37 (by decide +kernel)
          simp [go_sem, hc, hf, e37]
          exact ⟨Below.refl _ _, rfl⟩
        refine gSt (gStep_on 3 35 true rfl rfl (by decide +kernel) (fun v w h => h) ?_) ?_
        · intro ρ W hC hc hf hL
          have e36 : ρ (.tmp 36) = .bool true := hL 36 (by decide +kernel)
          have e38 : ρ (.tmp 38) = .bool true := hL 38 (by decide +kernel)
          simp [go_sem, hc, hf, e36, e38]
          exact ⟨Below.refl _ _, rfl⟩
        refine gSt (gStep_run rfl (gRun_pickT 35 39 40 _ rfl rfl (by decide +kernel) (by decide +kernel) (fun v w h => h) (fun v w h => h))) ?_
        refine gSt (gStep_run rfl (gRun_move 40 41 (.inl rfl) rfl (by decide +kernel) (fun v w h => h))) ?_
        refine gSt (gStep_on 9 41 true rfl rfl (by decide +kernel) (fun v w h => h) (gRun_move 1 42 (.inl rfl) rfl (by decide +kernel) (fun v w h => h))) ?_
        refine gSt (gStep_on 9 41 true rfl rfl (by decide +kernel) (fun v w h => h) ?_) ?_
        · intro ρ W hC hc hf hL
          have e5 : ρ (.tmp 5) = .pointer (some ⟨w.heap.size, 0, none⟩) := hL 5 (by decide +kernel)
          have l0 := hC.2.h
          have l1 := hC.2.l
          simp [go_sem, hc, hf, e5, l0, l1]
          exact ⟨Below.refl _ _, rfl⟩
        refine gSt (gStep_on 9 41 true rfl rfl (by decide +kernel) (fun v w h => h) ?_) ?_
        · intro ρ W hC hc hf hL
          have e42 : ρ (.tmp 42) = .int .i64 f := hL 42 (by decide +kernel)
          have e43 : ρ (.tmp 43) = .agg #[.int .u64 (hi : Nat), .int .u64 (lo : Nat)] := hL 43 (by decide +kernel)
          simp [go_sem, hc, hf, e42, e43]
          refine (HF1.out W hC.1).mono ?_
          rintro e w' ⟨rfl, hb⟩
          exact ⟨_, rfl, by first | exact hb | (subst hb; exact Below.refl _ _), rfl⟩
        refine gSt (gStep_on 9 41 true rfl rfl (by decide +kernel) (fun v w h => h) (gRun_move 1 45 (.inl rfl) rfl (by decide +kernel) (fun v w h => h))) ?_
        refine gSt (gStep_on 9 41 true rfl rfl (by decide +kernel) (fun v w h => h) ?_) ?_
        · intro ρ W hC hc hf hL
          have e5 : ρ (.tmp 5) = .pointer (some ⟨w.heap.size, 0, none⟩) := hL 5 (by decide +kernel)
          have l0 := hC.2.h
          have l1 := hC.2.l
          simp [go_sem, hc, hf, e5, l0, l1]
          exact ⟨Below.refl _ _, rfl⟩
        refine gSt (gStep_on 9 41 true rfl rfl (by decide +kernel) (fun v w h => h) ?_) ?_
        · intro ρ W hC hc hf hL
          have e45 : ρ (.tmp 45) = .int .i64 f := hL 45 (by decide +kernel)
          have e46 : ρ (.tmp 46) = .agg #[.int .u64 (hi : Nat), .int .u64 (lo : Nat)] := hL 46 (by decide +kernel)
          simp [go_sem, hc, hf, e45, e46]
          refine (HF2.out W).mono ?_
          rintro e w' ⟨rfl, hb⟩
          exact ⟨_, rfl, by first | exact hb | (subst hb; exact Below.refl _ _), rfl⟩
        refine gSt (gStep_on 9 41 true rfl rfl (by decide +kernel) (fun v w h => h) ?_) ?_
        · intro ρ W hC hc hf hL
          have e44 : ρ (.tmp 44) = .bool b := hL 44 (by decide +kernel)
          have e47 : ρ (.tmp 47) = .bool b := hL 47 (by decide +kernel)
          simp [go_sem, hc, hf, e44, e47]
          exact ⟨Below.refl _ _, rfl⟩
        refine gSt (gStep_run rfl (gRun_pickT 41 48 49 _ rfl rfl (by decide +kernel) (by decide +kernel) (fun v w h => h) (fun v w h => h))) ?_
        refine gSt (gStep_run rfl (gRun_move 49 50 (.inl rfl) rfl (by decide +kernel) (fun v w h => h))) ?_
        refine gSt (gStep_on 18 50 true rfl rfl (by decide +kernel) (fun v w h => h) ?_) ?_
        · intro ρ W hC hc hf hL
          simp [go_sem, hc, hf]
          refine (awake5_any W hC.1).mono ?_
          rintro e w' ⟨rfl, hb⟩
          exact ⟨_, rfl, by first | exact hb | (subst hb; exact Below.refl _ _), rfl⟩
        refine gSt (gStep_run rfl (gRun_pickT 50 51 52 _ rfl rfl (by decide +kernel) (by decide +kernel) (fun v w h => h) (fun v w h => h))) ?_
        exact gSt0
      · intro W hC
        refine gFi 32 rfl ?_
        rintro _ rfl
        refine gFi 33 rfl ?_
        rintro _ rfl
        refine gFi 34 rfl ?_
        rintro _ rfl
        refine gFi 35 rfl ?_
        rintro _ rfl
        refine gFi 36 rfl ?_
        rintro _ rfl
        refine gFi 37 rfl ?_
        rintro _ rfl
        refine gFi 38 rfl ?_
        rintro _ rfl
        refine gFi 39 rfl ?_
        rintro _ rfl
        refine gFi 40 rfl ?_
        rintro _ rfl
        refine gFi 41 rfl ?_
        rintro _ rfl
        refine gFi 42 rfl ?_
        rintro _ rfl
        refine gFi 43 rfl ?_
        rintro _ rfl
        refine gFi 44 rfl ?_
        rintro _ rfl
        refine gFi 45 rfl ?_
        rintro _ rfl
        refine gFi 46 rfl ?_
        rintro _ rfl
        refine gFi 47 rfl ?_
        rintro _ rfl
        refine gFi 48 rfl ?_
        rintro _ rfl
        refine gFi 49 rfl ?_
        rintro _ rfl
        refine gFi 50 rfl ?_
        rintro _ rfl
        refine gFi 51 rfl ?_
        rintro _ rfl
        refine gFi 52 rfl ?_
        rintro _ rfl
        refine gFi0 ?_
        simp only [List.drop_succ_cons, List.drop_zero, Act.put, List.setIfInBounds_toArray, List.set_cons_succ, List.set_cons_zero]
        have HB := hide hC.2.bel
        clear hC h1
        go_wp2
        go_ret
        exact ⟨rfl, HB.out⟩

set_option maxHeartbeats 2000000 in
theorem formatNames_5 (s : ByteArray) (e1 : ([98, 105, 110, 97, 114, 121, 49, 54] == s.toList) = false) (e2 : ([98, 105, 110, 97, 114, 121, 51, 50] == s.toList) = false) (e3 : ([98, 105, 110, 97, 114, 121, 54, 52] == s.toList) = false) (e4 : ([98, 105, 110, 97, 114, 121, 49, 50, 56] == s.toList) = false) (f : Int) (hi lo : Nat) (b : Bool)
    (HF1 : Hid (∀ w, FmtG w → Calls Tryd.prog 20 #[.int .i64 f, .agg #[.int .u64 (hi : Nat), .int .u64 (lo : Nat)]] w fun e w' => e = .returned (.bool b) ∧ Below w.heap.size w w'))
    (HF2 : Hid (∀ w, Calls Tryd.prog 21 #[.int .i64 f, .agg #[.int .u64 (hi : Nat), .int .u64 (lo : Nat)]] w fun e w' => e = .returned (.bool b) ∧ Below w.heap.size w w')) (w : World) (hg : FmtG w) (hn : NamG w) :
    Calls Tryd.prog 4 #[.string s, .int .i64 f, .agg #[.int .u64 (hi : Nat), .int .u64 (lo : Nat)]] w fun e w' => e = .returned (.bool true) ∧ Below w.heap.size w w' := by
  have HB0 := hide (below_allocs w (.cells #[.int .u64 (hi : Nat), .int .u64 (lo : Nat)] 35))
  have HN := hide (hn.below HB0.out)
  have HS := hide ((fitSt_start hi lo w).below (below_allocs _ (.cells #[.string ⟨#[98, 105, 110, 97, 114, 121, 49, 54]⟩, .string ⟨#[98, 105, 110, 97, 114, 121, 51, 50]⟩, .string ⟨#[98, 105, 110, 97, 114, 121, 54, 52]⟩, .string ⟨#[98, 105, 110, 97, 114, 121, 49, 50, 56]⟩] 9)))
  have HG := hide ((hg.below HB0.out).below (below_allocs _ (.cells #[.string ⟨#[98, 105, 110, 97, 114, 121, 49, 54]⟩, .string ⟨#[98, 105, 110, 97, 114, 121, 51, 50]⟩, .string ⟨#[98, 105, 110, 97, 114, 121, 54, 52]⟩, .string ⟨#[98, 105, 110, 97, 114, 121, 49, 50, 56]⟩] 9)))
  have HBN := hide (fun w hn => byName_5 s e1 e2 e3 e4 w hn)
  clear hg hn HB0
  go_enter Tryd.func4, Tryd.ntmps4
  go_wp2_with fail
  refine (HBN.out _ HN.out).mono ?_
  rintro e w1 ⟨rfl, hw⟩
  subst w1
  clear HBN HN
  go_wp2
  go_loop [9, 11] (fun v i => ∃ k : Nat, k ≤ 4 ∧ v = .int .i64 (0) ∧ i = .int .i64 k) (fun v i => 4 - (intOf i).toNat)
  case atStart => exact ⟨0, by decide, rfl, rfl⟩
  case round =>
    obtain ⟨k, hk, rfl, rfl⟩ := hrel
    have hk5 : k = 0 ∨ k = 1 ∨ k = 2 ∨ k = 3 ∨ k = 4 := by omega
    rcases hk5 with rfl | rfl | rfl | rfl | rfl
    · go_wp2
      go_round
      case rel => exact ⟨1, by decide, rfl, rfl⟩
      case measure => decide
    · go_wp2
      go_round
      case rel => exact ⟨2, by decide, rfl, rfl⟩
      case measure => decide
    · go_wp2
      go_round
      case rel => exact ⟨3, by decide, rfl, rfl⟩
      case measure => decide
    · go_wp2
      go_round
      case rel => exact ⟨4, by decide, rfl, rfl⟩
      case measure => decide
    · go_upto_region 9 with fail
      refine wp_gen (fun W => FmtG W ∧ FitSt hi lo w W) ⟨HG.out, HS.out⟩ ?_
      clear HG HS
      rintro W1 h1
      refine wp_region_grow 21 [(32, .val (.int .i64 0)), (33, .val (.int .i64 0)), (34, .val (.bool true)), (35, .val (.bool true)), (36, .val (.bool false)), (37, .val (.int .i64 0)), (38, .val (.bool false)), (39, .val (.bool true)), (40, .val (.bool true)), (41, .val (.bool true)), (42, .val (.int .i64 f)), (43, .val (.agg #[.int .u64 (hi : Nat), .int .u64 (lo : Nat)])), (44, .val (.bool b)), (45, .val (.int .i64 f)), (46, .val (.agg #[.int .u64 (hi : Nat), .int .u64 (lo : Nat)])), (47, .val (.bool b)), (48, .val (.bool true)), (49, .val (.bool true)), (50, .val (.bool true)), (51, .val (.bool true)), (52, .val (.bool true))]
        (fun W => FmtG W ∧ FitSt hi lo w W) mixedOk (by kernel_rfl) (by kernel_rfl) (⟨h1.1.below (Below.refl _ _).drew, h1.2.below (Below.refl _ _).drew⟩) (fun W W' h hb => ⟨h.1.below hb, h.2.below hb⟩) ?_ ?_
      · refine gSt (gStep_run rfl (gRun_move 7 32 (.inl rfl) rfl (by decide +kernel) (fun v w h => h))) ?_
        refine gSt (gStep_run rfl (gRun_move 9 33 (.inl rfl) rfl (by decide +kernel) (fun v w h => h))) ?_
        refine gSt (gStep_run rfl ?_) ?_
        · intro ρ W hC hc hf hL
          have e32 : ρ (.tmp 32) = .int .i64 0 := hL 32 (by decide +kernel)
          have e33 : ρ (.tmp 33) = .int .i64 0 := hL 33 (by decide +kernel)
          simp [go_sem, hc, hf, e32, e33]
          exact ⟨Below.refl _ _, rfl⟩
        refine gSt (gStep_run rfl (gRun_move 34 35 (.inl rfl) rfl (by decide +kernel) (fun v w h => h))) ?_
        refine gSt (gStep_on 3 35 true rfl rfl (by decide +kernel) (fun v w h => h) (gRun_move 8 36 (.inl rfl) rfl (by decide +kernel) (fun v w h => h))) ?_
        refine gSt (gStep_on 3 35 true rfl rfl (by decide +kernel) (fun v w h => h) (gRun_move 9 37 (.inl rfl) rfl (by decide +kernel) (fun v w h => h))) ?_
        refine gSt (gStep_on 3 35 true rfl rfl (by decide +kernel) (fun v w h => h) ?_) ?_
        · intro ρ W hC hc hf hL
          have e37 : ρ (.tmp 37) = .int .i64 0 := hL 37 (by decide +kernel)
          simp [go_sem, hc, hf, e37]
          exact ⟨Below.refl _ _, rfl⟩
        refine gSt (gStep_on 3 35 true rfl rfl (by decide +kernel) (fun v w h => h) ?_) ?_
        · intro ρ W hC hc hf hL
          have e36 : ρ (.tmp 36) = .bool false := hL 36 (by decide +kernel)
          have e38 : ρ (.tmp 38) = .bool false := hL 38 (by decide +kernel)
          simp [go_sem, hc, hf, e36, e38]
          exact ⟨Below.refl _ _, rfl⟩
        refine gSt (gStep_run rfl (gRun_pickT 35 39 40 _ rfl rfl (by decide +kernel) (by decide +kernel) (fun v w h => h) (fun v w h => h))) ?_
        refine gSt (gStep_run rfl (gRun_move 40 41 (.inl rfl) rfl (by decide +kernel) (fun v w h => h))) ?_
        refine gSt (gStep_on 9 41 true rfl rfl (by decide +kernel) (fun v w h => h) (gRun_move 1 42 (.inl rfl) rfl (by decide +kernel) (fun v w h => h))) ?_
        refine gSt (gStep_on 9 41 true rfl rfl (by decide +kernel) (fun v w h => h) ?_) ?_
        · intro ρ W hC hc hf hL
          have e5 : ρ (.tmp 5) = .pointer (some ⟨w.heap.size, 0, none⟩) := hL 5 (by decide +kernel)
          have l0 := hC.2.h
          have l1 := hC.2.l
          simp [go_sem, hc, hf, e5, l0, l1]
          exact ⟨Below.refl _ _, rfl⟩
        refine gSt (gStep_on 9 41 true rfl rfl (by decide +kernel) (fun v w h => h) ?_) ?_
        · intro ρ W hC hc hf hL
          have e42 : ρ (.tmp 42) = .int .i64 f := hL 42 (by decide +kernel)
          have e43 : ρ (.tmp 43) = .agg #[.int .u64 (hi : Nat), .int .u64 (lo : Nat)] := hL 43 (by decide +kernel)
          simp [go_sem, hc, hf, e42, e43]
          refine (HF1.out W hC.1).mono ?_
          rintro e w' ⟨rfl, hb⟩
          exact ⟨_, rfl, by first | exact hb | (subst hb; exact Below.refl _ _), rfl⟩
        refine gSt (gStep_on 9 41 true rfl rfl (by decide +kernel) (fun v w h => h) (gRun_move 1 45 (.inl rfl) rfl (by decide +kernel) (fun v w h => h))) ?_
        refine gSt (gStep_on 9 41 true rfl rfl (by decide +kernel) (fun v w h => h) ?_) ?_
        · intro ρ W hC hc hf hL
          have e5 : ρ (.tmp 5) = .pointer (some ⟨w.heap.size, 0, none⟩) := hL 5 (by decide +kernel)
          have l0 := hC.2.h
          have l1 := hC.2.l
          simp [go_sem, hc, hf, e5, l0, l1]
          exact ⟨Below.refl _ _, rfl⟩
        refine gSt (gStep_on 9 41 true rfl rfl (by decide +kernel) (fun v w h => h) ?_) ?_
        · intro ρ W hC hc hf hL
          have e45 : ρ (.tmp 45) = .int .i64 f := hL 45 (by decide +kernel)
          have e46 : ρ (.tmp 46) = .agg #[.int .u64 (hi : Nat), .int .u64 (lo : Nat)] := hL 46 (by decide +kernel)
          simp [go_sem, hc, hf, e45, e46]
          refine (HF2.out W).mono ?_
          rintro e w' ⟨rfl, hb⟩
          exact ⟨_, rfl, by first | exact hb | (subst hb; exact Below.refl _ _), rfl⟩
        refine gSt (gStep_on 9 41 true rfl rfl (by decide +kernel) (fun v w h => h) ?_) ?_
        · intro ρ W hC hc hf hL
          have e44 : ρ (.tmp 44) = .bool b := hL 44 (by decide +kernel)
          have e47 : ρ (.tmp 47) = .bool b := hL 47 (by decide +kernel)
          simp [go_sem, hc, hf, e44, e47]
          exact ⟨Below.refl _ _, rfl⟩
        refine gSt (gStep_run rfl (gRun_pickT 41 48 49 _ rfl rfl (by decide +kernel) (by decide +kernel) (fun v w h => h) (fun v w h => h))) ?_
        refine gSt (gStep_run rfl (gRun_move 49 50 (.inl rfl) rfl (by decide +kernel) (fun v w h => h))) ?_
        refine gSt (gStep_on 18 50 true rfl rfl (by decide +kernel) (fun v w h => h) ?_) ?_
        · intro ρ W hC hc hf hL
          simp [go_sem, hc, hf]
          refine (awake5_any W hC.1).mono ?_
          rintro e w' ⟨rfl, hb⟩
          exact ⟨_, rfl, by first | exact hb | (subst hb; exact Below.refl _ _), rfl⟩
        refine gSt (gStep_run rfl (gRun_pickT 50 51 52 _ rfl rfl (by decide +kernel) (by decide +kernel) (fun v w h => h) (fun v w h => h))) ?_
        exact gSt0
      · intro W hC
        refine gFi 32 rfl ?_
        rintro _ rfl
        refine gFi 33 rfl ?_
        rintro _ rfl
        refine gFi 34 rfl ?_
        rintro _ rfl
        refine gFi 35 rfl ?_
        rintro _ rfl
        refine gFi 36 rfl ?_
        rintro _ rfl
        refine gFi 37 rfl ?_
        rintro _ rfl
        refine gFi 38 rfl ?_
        rintro _ rfl
        refine gFi 39 rfl ?_
        rintro _ rfl
        refine gFi 40 rfl ?_
        rintro _ rfl
        refine gFi 41 rfl ?_
        rintro _ rfl
        refine gFi 42 rfl ?_
        rintro _ rfl
        refine gFi 43 rfl ?_
        rintro _ rfl
        refine gFi 44 rfl ?_
        rintro _ rfl
        refine gFi 45 rfl ?_
        rintro _ rfl
        refine gFi 46 rfl ?_
        rintro _ rfl
        refine gFi 47 rfl ?_
        rintro _ rfl
        refine gFi 48 rfl ?_
        rintro _ rfl
        refine gFi 49 rfl ?_
        rintro _ rfl
        refine gFi 50 rfl ?_
        rintro _ rfl
        refine gFi 51 rfl ?_
        rintro _ rfl
        refine gFi 52 rfl ?_
        rintro _ rfl
        refine gFi0 ?_
        simp only [List.drop_succ_cons, List.drop_zero, Act.put, List.setIfInBounds_toArray, List.set_cons_succ, List.set_cons_zero]
        have HB := hide hC.2.bel
        clear hC h1
        go_wp2
        go_ret
        exact ⟨rfl, HB.out⟩

theorem formatNames_all (s : ByteArray) (f : Int) (hi lo : Nat) (hh : hi < 18446744073709551616) (hl : lo < 18446744073709551616) (w : World) (hg : FmtG w) (hn : NamG w) :
    Calls Tryd.prog 4 #[.string s, .int .i64 f, .agg #[.int .u64 (hi : Nat), .int .u64 (lo : Nat)]] w fun e w' => e = .returned (.bool true) ∧ Below w.heap.size w w' := by
  obtain ⟨b, HF1, HF2⟩ : ∃ b, (∀ w, FmtG w → Calls Tryd.prog 20 #[.int .i64 f, .agg #[.int .u64 (hi : Nat), .int .u64 (lo : Nat)]] w fun e w' => e = .returned (.bool b) ∧ Below w.heap.size w w') ∧ (∀ w, Calls Tryd.prog 21 #[.int .i64 f, .agg #[.int .u64 (hi : Nat), .int .u64 (lo : Nat)]] w fun e w' => e = .returned (.bool b) ∧ Below w.heap.size w w') := by
    by_cases h : f < 1 ∨ 4 < f
    · exact ⟨false, fun w _ => fits_none f h hi lo w, fun w => refFits_none f h hi lo w⟩
    · have h4 : f = 1 ∨ f = 2 ∨ f = 3 ∨ f = 4 := by omega
      rcases h4 with rfl | rfl | rfl | rfl
      · exact ⟨_, fun w hg => fits_1 hi lo hh hl w hg, fun w => refFits_1 hi lo hh hl w⟩
      · exact ⟨_, fun w hg => fits_2 hi lo hh hl w hg, fun w => refFits_2 hi lo hh hl w⟩
      · exact ⟨_, fun w hg => fits_3 hi lo hh hl w hg, fun w => refFits_3 hi lo hh hl w⟩
      · exact ⟨_, fun w hg => fits_4 hi lo hh hl w hg, fun w => refFits_4 hi lo hh hl w⟩
  by_cases h1 : s.toList = [98, 105, 110, 97, 114, 121, 49, 54]
  · have e : ∀ l : List UInt8, (l == s.toList) = (l == [98, 105, 110, 97, 114, 121, 49, 54]) := fun l => by rw [h1]
    exact formatNames_1 s (by rw [e]; decide) (by rw [e]; decide) (by rw [e]; decide) (by rw [e]; decide) f hi lo b HF1 HF2 w hg hn
  by_cases h2 : s.toList = [98, 105, 110, 97, 114, 121, 51, 50]
  · have e : ∀ l : List UInt8, (l == s.toList) = (l == [98, 105, 110, 97, 114, 121, 51, 50]) := fun l => by rw [h2]
    exact formatNames_2 s (by rw [e]; decide) (by rw [e]; decide) (by rw [e]; decide) (by rw [e]; decide) f hi lo b HF1 HF2 w hg hn
  by_cases h3 : s.toList = [98, 105, 110, 97, 114, 121, 54, 52]
  · have e : ∀ l : List UInt8, (l == s.toList) = (l == [98, 105, 110, 97, 114, 121, 54, 52]) := fun l => by rw [h3]
    exact formatNames_3 s (by rw [e]; decide) (by rw [e]; decide) (by rw [e]; decide) (by rw [e]; decide) f hi lo b HF1 HF2 w hg hn
  by_cases h4 : s.toList = [98, 105, 110, 97, 114, 121, 49, 50, 56]
  · have e : ∀ l : List UInt8, (l == s.toList) = (l == [98, 105, 110, 97, 114, 121, 49, 50, 56]) := fun l => by rw [h4]
    exact formatNames_4 s (by rw [e]; decide) (by rw [e]; decide) (by rw [e]; decide) (by rw [e]; decide) f hi lo b HF1 HF2 w hg hn
  have e : ∀ l : List UInt8, s.toList ≠ l → (l == s.toList) = false := fun l h => by rw [beq_eq_false_iff_ne]; exact fun h2 => h h2.symm
  exact formatNames_5 s (e _ h1) (e _ h2) (e _ h3) (e _ h4) f hi lo b HF1 HF2 w hg hn

end Go.Proofs.YtjklehlkgccmnaaDoor

/- FormatNames: for every text, f and word the law returns true. Conditions: those of the tied card (the tables of formats and of names are laid as the program lays them). -/
namespace Go.Proofs.YtjklehlkgccmnaaDoor.formatNames
open Go.ChangeShapes Go.WideShapes Go.ChangeAt Go.RowKit Go.Proofs.YtjklehlkgccmnaaDoor

theorem own : ownKnob Tryd.prog.godebug = none := by kernel_rfl
theorem laidOut : laidOutB Tryd.prog = true := by kernel_rfl

theorem door_met (os : Os) (args : Array Value) : laidMetH Tryd.prog [("radicand/format.formats", Rows.laid_radicand_format_formats), ("radicand/format.names", Rows.laid_radicand_format_names)] ((World.doorLaid Tryd.prog 400 os).forCall (fun _ _ => 0) ⟨#[], args, []⟩).memory :=
  laidMetH_of_parts3 (fuel := 8) (laidMet_of_run' 8 (by kernel_rfl) (by kernel_rfl)) (by kernel_rfl) (by kernel_rfl)

set_option maxRecDepth 100000 in
theorem lifted (os : Os) (started : os.Started) (H : Type) (enc : TypeId × Value → H) :
    ReturnsInHanded {} Tryd.checked os 4 .any (fun w args => (Rows.formatNamesSpec.pre enc Tryd.prog Tryd.f4 [] false w args ∧ laidMetH Tryd.prog [("radicand/format.formats", Rows.laid_radicand_format_formats), ("radicand/format.names", Rows.laid_radicand_format_names)] w) ∧ sizedMet enc Tryd.prog Tryd.f4 (OpenSpec.ofChange Rows.formatNamesSpec) false w args) (Rows.formatNamesSpec.post enc Tryd.prog Tryd.f4 false true false false) := by
  refine returnsInHanded_of_change_and (C := Tryd.checked) (X := fun w _ => laidMetH Tryd.prog [("radicand/format.formats", Rows.laid_radicand_format_formats), ("radicand/format.names", Rows.laid_radicand_format_names)] w) (fun _ _ _ hh h => h.of_heap hh) own started (by kernel_rfl) Tryd.func4
    (ChangeSpec.witness_shaped (enc := enc) (C := Tryd.checked) (os := os) (X := fun w _ => laidMetH Tryd.prog [("radicand/format.formats", Rows.laid_radicand_format_formats), ("radicand/format.names", Rows.laid_radicand_format_names)] w) false (World.doorLaid Tryd.prog 400 os) #[.string ⟨#[]⟩, .int .i64 0, .agg #[.int .u64 0, .int .u64 0]] 8 rfl (World.shaped_of_RefB (by kernel_rfl) (by kernel_rfl)) (by kernel_rfl) (by kernel_rfl) (by kernel_rfl) (door_met os _)) ?_
  intro W base args ds gs before hval0 hW _ _ hL _
  have hval : ∀ (j : Nat) t v, Tryd.f4.params[j]? = some t → args[j]? = some v → Value.okWide Tryd.prog W .any base t v := hval0
  have hW' := hW
  obtain ⟨p, q, hA0, hV, rfl, hfz, hnd⟩ := hW
  have hA : DataW.TrodAll enc Tryd.prog W 0 (fun _ => true) true Tryd.f4.params.toList args.toList ds p := hA0
  rw [Tryd.params4] at hA hval
  obtain ⟨v0, vs0, d0, ds0, p0, q0, hargs, rfl, rfl, h0, r0⟩ := trodAll_cons hA
  obtain ⟨v1, vs1, d1, ds1, p1, q1, rfl, rfl, rfl, h1, r1⟩ := trodAll_cons r0
  obtain ⟨v2, vs2, d2, ds2, p2, q2, rfl, rfl, rfl, h2, r2⟩ := trodAll_cons r1
  obtain ⟨rfl, rfl, rfl⟩ := trodAll_nil r2
  obtain rfl : args = #[v0, v1, v2] := by cases args; simp_all
  obtain ⟨rfl, rfl⟩ := trodVars_none hV
  have k0 := h0
  have lt0 : ∀ x ∈ p0, x.block < W.heap.size := by obtain ⟨m, hm⟩ := k0; exact DataW.trod_lt m _ _ _ hm
  have k1 := h1
  have lt1 : ∀ x ∈ p1, x.block < W.heap.size := by obtain ⟨m, hm⟩ := k1; exact DataW.trod_lt m _ _ _ hm
  have k2 := h2
  have lt2 : ∀ x ∈ p2, x.block < W.heap.size := by obtain ⟨m, hm⟩ := k2; exact DataW.trod_lt m _ _ _ hm
  obtain ⟨s0, rfl, rfl, rfl, hm0⟩ := Go.ChangeMaps.open_string Tryd.underlying9 (hval 0 9 v0 rfl rfl) h0
  obtain ⟨a1, rfl, rfl, rfl, wf1⟩ := open_int Tryd.underlying3 (hval 1 3 v1 rfl rfl) h1
  obtain ⟨x2, y2, hx2, hy2, rfl⟩ := word_open (hval 2 35 v2 rfl rfl) h2
  clear hA0 hval0
  obtain ⟨hg, hn⟩ := of_laid2 hL
  refine (formatNames_all s0 a1 x2 y2 hx2 hy2 W hg hn).mono fun e W' ⟨he, bel⟩ => ?_
  subst he
  exact ⟨_, rfl, _, _, _, [], _, [], hW', trodAll_mk1 (shut_bool Tryd.underlying4 _), (trodAll_cons_mk (Below.trod laidOut (by kernel_rfl) (of_decide_eq_true (by kernel_rfl)) k0 bel lt0) (trodAll_cons_mk (Below.trod laidOut (by kernel_rfl) (of_decide_eq_true (by kernel_rfl)) k1 bel lt1) (trodAll_cons_mk (Below.trod laidOut (by kernel_rfl) (of_decide_eq_true (by kernel_rfl)) k2 bel lt2) trodAll_mk0))), rfl, bel.frame _, fun h => by cases h⟩

theorem over : Rows.formatNamesRow.holds Tryd.pinned (OpenSpec.ofChange Rows.formatNamesSpec) :=
  OpenClaim.holds_of_wide 4 Tryd.f4 rfl rfl rfl rfl rfl rfl rfl ⟨rfl, rfl, rfl, rfl, rfl⟩ rfl rfl rfl rfl rfl (by kernel_rfl) Tryd.func4 (by kernel_rfl)
    (of_decide_eq_true (by kernel_rfl)) (by unfold Func.isWrapper; first | (rw [if_pos (by decide +kernel)]; kernel_rfl) | (rw [if_neg (by decide +kernel)]; exact ⟨rfl, rfl⟩))
    (fun os started H enc _ => lifted os started H enc)

theorem proved : Rows.FormatNamesCardSaid :=
  Claim7.holds_tied_plain_at .later [] [.data, .data] true (true, "1146b90db6c087cfe87975d1aa443cf10d61f11fc9f3ba5ee7d552a48f8af7b7") false
    over (fun _ h => by cases h) (by kernel_rfl) (fun _ h => by cases h) formatNames_row_tie rfl ⟨rfl, rfl⟩ (by kernel_rfl) rfl
    (fun f fn hf hfn => by
      obtain rfl : f = 4 := Option.some.inj ((show Tryd.prog.funcNamed "radicand/radicandlaw05.FormatNames" = some 4 by kernel_rfl).symm.trans hf) |>.symm
      obtain rfl : fn = Tryd.f4 := (Option.some.inj (Tryd.func4.symm.trans hfn)).symm
      exact ⟨by kernel_rfl, fun j t ht => by
        rw [Tryd.params4] at ht
        rcases j with _ | j
        · obtain rfl : t = 9 := by simpa using ht.symm
          exact (show Tryd.prog.wantsStandIn 9 = false by kernel_rfl)
        rcases j with _ | j
        · obtain rfl : t = 3 := by simpa using ht.symm
          exact (show Tryd.prog.wantsStandIn 3 = false by kernel_rfl)
        rcases j with _ | j
        · obtain rfl : t = 35 := by simpa using ht.symm
          exact (show Tryd.prog.wantsStandIn 35 = false by kernel_rfl)
        simp at ht⟩)
    (by kernel_rfl)
#print axioms proved
end Go.Proofs.YtjklehlkgccmnaaDoor.formatNames

