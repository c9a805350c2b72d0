/- FormatWords: for every f and neg the law returns true. Conditions: those of the tied card (the table of formats is laid as the program lays it). -/
import Derived.Test.YtjklehlkgccmnaaDoorXFmtI
import Derived.Test.YtjklehlkgccmnaaDoorRows
import Derived.Test.YtjklehlkgccmnaaDoorTie
import Derived.Test.YtjklehlkgccmnaaDoorCards
import Derived.LaidMore
import Derived.Stop.Joined
import Derived.SevenTiedAt
import Derived.Test.YtjklehlkgccmnaaDoorXFmtG
import Derived.Test.YtjklehlkgccmnaaDoorXFmtJ
import Derived.WalkKit
import Derived.ProofKit
import Derived.OpenShut
import Derived.ShutString
import Derived.ChangeOld
import Derived.Below
/- The walk of FormatWords. -/
set_option linter.unusedVariables false
set_option linter.unusedSimpArgs false
set_option maxRecDepth 8000
namespace Go.Proofs.YtjklehlkgccmnaaDoor
open Go.RowKit Plain

structure ZwSt (p : Nat) (w W : World) : Prop where
  g : FmtG W
  z : ∀ i, i < 2 → W.cell? ⟨p, i, none⟩ = some (.int .u64 0)
  lt : p < W.heap.size
  bel : Below w.heap.size w W
theorem ZwSt.below {p : Nat} {w W W' : World} (h : ZwSt p w W) (hb : Below W.heap.size W W') : ZwSt p w W' :=
  ⟨h.g.below hb, fun i hi => (hb.cell (p := ⟨p, i, none⟩) h.lt).trans (h.z i hi), Nat.lt_of_lt_of_le h.lt hb.size, below_trans h.bel hb⟩
theorem zwSt_start (w : World) (hg : FmtG w) : ZwSt w.heap.size w (w.alloc (.cells #[.int .u64 0, .int .u64 0] 35)) :=
  ⟨hg.below (below_allocs _ _), fun i hi => by match i, hi with | 0, _ | 1, _ => simp [go_sem], by simp, below_allocs _ _⟩

set_option maxHeartbeats 2000000 in
theorem formatWords_none (f : Int) (h : f < 1 ∨ 4 < f) (neg : Bool) (w : World) (hg : FmtG w) : Calls Tryd.prog 5 #[.int .i64 f, .bool neg] w fun e w' => e = .returned (.bool true) ∧ Below w.heap.size w w' := by
  have HF := hide h
  have HST := hide (zwSt_start w hg)
  clear h hg
  go_enter Tryd.func5, Tryd.ntmps5
  go_wp2_with fail
  refine (is_none f HF.out _).mono ?_
  rintro e w1 ⟨rfl, hw⟩
  subst w1
  go_upto_region 3 with fail
  refine wp_gen (fun W => ZwSt w.heap.size w W) HST.out ?_
  clear HST
  rintro W1 h1
  obtain ⟨p, hp⟩ : ∃ p, w.heap.size = p := ⟨_, rfl⟩
  rw [hp] at h1 ⊢
  refine wp_region_grow 40 [(10, .val (.int .i64 f)), (11, .val (.bool neg)), (12, .val (.agg #[.int .u64 (0 : Nat), .int .u64 (0 : Nat)])), (13, .val (.agg #[.int .u64 (0 : Nat), .int .u64 (0 : Nat)])), (14, .val (.bool true)), (15, .val (.bool true)), (16, .val (.int .i64 f)), (17, .val (.agg #[.int .u64 (0 : Nat), .int .u64 (0 : Nat)])), (18, .val (.agg #[.int .u64 (0 : Nat), .int .u64 (0 : Nat)])), (19, .val (.bool true)), (20, .val (.bool true)), (21, .val (.bool true)), (22, .val (.int .i64 f)), (23, .val (.bool neg)), (24, .val (.agg #[.int .u64 (0 : Nat), .int .u64 (0 : Nat)])), (25, .val (.agg #[.int .u64 (0 : Nat), .int .u64 (0 : Nat)])), (26, .val (.bool true)), (27, .val (.bool true)), (28, .val (.bool true)), (29, .val (.int .i64 f)), (30, .val (.agg #[.int .u64 (0 : Nat), .int .u64 (0 : Nat)])), (31, .val (.agg #[.int .u64 (0 : Nat), .int .u64 (0 : Nat)])), (32, .val (.bool true)), (33, .val (.bool true)), (34, .val (.bool true)), (35, .val (.int .i64 f)), (36, .val (.agg #[.int .u64 (0 : Nat), .int .u64 (0 : Nat)])), (37, .val (.agg #[.int .u64 (0 : Nat), .int .u64 (0 : Nat)])), (38, .val (.bool true)), (39, .val (.bool true)), (40, .val (.bool true)), (41, .val (.int .i64 f)), (42, .val (.bool neg)), (43, .val (.agg #[.int .u64 (0 : Nat), .int .u64 (0 : Nat)])), (44, .val (.agg #[.int .u64 (0 : Nat), .int .u64 (0 : Nat)])), (45, .val (.bool true)), (46, .val (.bool true)), (47, .val (.bool true)), (48, .val (.bool true)), (49, .val (.bool true))]
    (fun W => ZwSt p w W) mixedOk (by kernel_rfl) (by kernel_rfl) (h1.below (Below.refl _ _).drew) (fun W W' h hb => h.below hb) ?_ ?_
  · refine gSt (gStep_run rfl (gRun_move 0 10 (.inl rfl) rfl (by decide +kernel) (fun v w h => h))) ?_
    refine gSt (gStep_run rfl (gRun_move 1 11 (.inl rfl) rfl (by decide +kernel) (fun v w h => h))) ?_
    refine gSt (gStep_run rfl ?_) ?_
    · intro ρ W hC hc hf hL
      have e10 : ρ (.tmp 10) = .int .i64 f := hL 10 (by decide +kernel)
      have e11 : ρ (.tmp 11) = .bool neg := hL 11 (by decide +kernel)
      simp [go_sem, hc, hf, e10, e11]
      refine (inf_none f HF.out neg W hC.g).mono ?_
      rintro e w' ⟨rfl, hb⟩
      exact ⟨_, rfl, by first | exact hb | (subst hb; exact Below.refl _ _), rfl⟩
    refine gSt (gStep_run rfl ?_) ?_
    · intro ρ W hC hc hf hL
      have e5 : ρ (.tmp 5) = .pointer (some ⟨p, 0, none⟩) := hL 5 (by decide +kernel)
      have h0 := hC.z 0 (by decide)
      have h1 := hC.z 1 (by decide)
      simp [go_sem, hc, hf, e5, h0, h1]
      exact ⟨Below.refl _ _, rfl⟩
    refine gSt (gStep_run rfl ?_) ?_
    · intro ρ W hC hc hf hL
      have e12 : ρ (.tmp 12) = .agg #[.int .u64 (0 : Nat), .int .u64 (0 : Nat)] := hL 12 (by decide +kernel)
      have e13 : ρ (.tmp 13) = .agg #[.int .u64 (0 : Nat), .int .u64 (0 : Nat)] := hL 13 (by decide +kernel)
      have hl := fun w => word_same 0 0 w
      simp [go_sem, hc, hf, e12, e13, hl]
      exact ⟨Below.refl _ _, rfl⟩
    refine gSt (gStep_run rfl (gRun_move 14 15 (.inl rfl) rfl (by decide +kernel) (fun v w h => h))) ?_
    refine gSt (gStep_on 5 15 true rfl rfl (by decide +kernel) (fun v w h => h) (gRun_move 0 16 (.inl rfl) rfl (by decide +kernel) (fun v w h => h))) ?_
    refine gSt (gStep_on 5 15 true rfl rfl (by decide +kernel) (fun v w h => h) ?_) ?_
    · intro ρ W hC hc hf hL
      have e16 : ρ (.tmp 16) = .int .i64 f := hL 16 (by decide +kernel)
      simp [go_sem, hc, hf, e16]
      refine (nan_none f HF.out W hC.g).mono ?_
      rintro e w' ⟨rfl, hb⟩
      exact ⟨_, rfl, by first | exact hb | (subst hb; exact Below.refl _ _), rfl⟩
    refine gSt (gStep_on 5 15 true rfl rfl (by decide +kernel) (fun v w h => h) ?_) ?_
    · intro ρ W hC hc hf hL
      have e5 : ρ (.tmp 5) = .pointer (some ⟨p, 0, none⟩) := hL 5 (by decide +kernel)
      have h0 := hC.z 0 (by decide)
      have h1 := hC.z 1 (by decide)
      simp [go_sem, hc, hf, e5, h0, h1]
      exact ⟨Below.refl _ _, rfl⟩
    refine gSt (gStep_on 5 15 true rfl rfl (by decide +kernel) (fun v w h => h) ?_) ?_
    · intro ρ W hC hc hf hL
      have e17 : ρ (.tmp 17) = .agg #[.int .u64 (0 : Nat), .int .u64 (0 : Nat)] := hL 17 (by decide +kernel)
      have e18 : ρ (.tmp 18) = .agg #[.int .u64 (0 : Nat), .int .u64 (0 : Nat)] := hL 18 (by decide +kernel)
      have hl := fun w => word_same 0 0 w
      simp [go_sem, hc, hf, e17, e18, hl]
      exact ⟨Below.refl _ _, rfl⟩
    refine gSt (gStep_run rfl (gRun_pickT 15 19 20 _ rfl rfl (by decide +kernel) (by decide +kernel) (fun v w h => h) (fun v w h => h))) ?_
    refine gSt (gStep_run rfl (gRun_move 20 21 (.inl rfl) rfl (by decide +kernel) (fun v w h => h))) ?_
    refine gSt (gStep_on 11 21 true rfl rfl (by decide +kernel) (fun v w h => h) (gRun_move 0 22 (.inl rfl) rfl (by decide +kernel) (fun v w h => h))) ?_
    refine gSt (gStep_on 11 21 true rfl rfl (by decide +kernel) (fun v w h => h) (gRun_move 1 23 (.inl rfl) rfl (by decide +kernel) (fun v w h => h))) ?_
    refine gSt (gStep_on 11 21 true rfl rfl (by decide +kernel) (fun v w h => h) ?_) ?_
    · intro ρ W hC hc hf hL
      have e22 : ρ (.tmp 22) = .int .i64 f := hL 22 (by decide +kernel)
      have e23 : ρ (.tmp 23) = .bool neg := hL 23 (by decide +kernel)
      simp [go_sem, hc, hf, e22, e23]
      refine (max_none f HF.out neg W hC.g).mono ?_
      rintro e w' ⟨rfl, hb⟩
      exact ⟨_, rfl, by first | exact hb | (subst hb; exact Below.refl _ _), rfl⟩
    refine gSt (gStep_on 11 21 true rfl rfl (by decide +kernel) (fun v w h => h) ?_) ?_
    · intro ρ W hC hc hf hL
      have e5 : ρ (.tmp 5) = .pointer (some ⟨p, 0, none⟩) := hL 5 (by decide +kernel)
      have h0 := hC.z 0 (by decide)
      have h1 := hC.z 1 (by decide)
      simp [go_sem, hc, hf, e5, h0, h1]
      exact ⟨Below.refl _ _, rfl⟩
    refine gSt (gStep_on 11 21 true rfl rfl (by decide +kernel) (fun v w h => h) ?_) ?_
    · intro ρ W hC hc hf hL
      have e24 : ρ (.tmp 24) = .agg #[.int .u64 (0 : Nat), .int .u64 (0 : Nat)] := hL 24 (by decide +kernel)
      have e25 : ρ (.tmp 25) = .agg #[.int .u64 (0 : Nat), .int .u64 (0 : Nat)] := hL 25 (by decide +kernel)
      have hl := fun w => word_same 0 0 w
      simp [go_sem, hc, hf, e24, e25, hl]
      exact ⟨Below.refl _ _, rfl⟩
    refine gSt (gStep_run rfl (gRun_pickT 21 26 27 _ rfl rfl (by decide +kernel) (by decide +kernel) (fun v w h => h) (fun v w h => h))) ?_
    refine gSt (gStep_run rfl (gRun_move 27 28 (.inl rfl) rfl (by decide +kernel) (fun v w h => h))) ?_
    refine gSt (gStep_on 18 28 true rfl rfl (by decide +kernel) (fun v w h => h) (gRun_move 0 29 (.inl rfl) rfl (by decide +kernel) (fun v w h => h))) ?_
    refine gSt (gStep_on 18 28 true rfl rfl (by decide +kernel) (fun v w h => h) ?_) ?_
    · intro ρ W hC hc hf hL
      have e29 : ρ (.tmp 29) = .int .i64 f := hL 29 (by decide +kernel)
      simp [go_sem, hc, hf, e29]
      refine (least_none f HF.out W hC.g).mono ?_
      rintro e w' ⟨rfl, hb⟩
      exact ⟨_, rfl, by first | exact hb | (subst hb; exact Below.refl _ _), rfl⟩
    refine gSt (gStep_on 18 28 true rfl rfl (by decide +kernel) (fun v w h => h) ?_) ?_
    · intro ρ W hC hc hf hL
      have e5 : ρ (.tmp 5) = .pointer (some ⟨p, 0, none⟩) := hL 5 (by decide +kernel)
      have h0 := hC.z 0 (by decide)
      have h1 := hC.z 1 (by decide)
      simp [go_sem, hc, hf, e5, h0, h1]
      exact ⟨Below.refl _ _, rfl⟩
    refine gSt (gStep_on 18 28 true rfl rfl (by decide +kernel) (fun v w h => h) ?_) ?_
    · intro ρ W hC hc hf hL
      have e30 : ρ (.tmp 30) = .agg #[.int .u64 (0 : Nat), .int .u64 (0 : Nat)] := hL 30 (by decide +kernel)
      have e31 : ρ (.tmp 31) = .agg #[.int .u64 (0 : Nat), .int .u64 (0 : Nat)] := hL 31 (by decide +kernel)
      have hl := fun w => word_same 0 0 w
      simp [go_sem, hc, hf, e30, e31, hl]
      exact ⟨Below.refl _ _, rfl⟩
    refine gSt (gStep_run rfl (gRun_pickT 28 32 33 _ rfl rfl (by decide +kernel) (by decide +kernel) (fun v w h => h) (fun v w h => h))) ?_
    refine gSt (gStep_run rfl (gRun_move 33 34 (.inl rfl) rfl (by decide +kernel) (fun v w h => h))) ?_
    refine gSt (gStep_on 24 34 true rfl rfl (by decide +kernel) (fun v w h => h) (gRun_move 0 35 (.inl rfl) rfl (by decide +kernel) (fun v w h => h))) ?_
    refine gSt (gStep_on 24 34 true rfl rfl (by decide +kernel) (fun v w h => h) ?_) ?_
    · intro ρ W hC hc hf hL
      have e35 : ρ (.tmp 35) = .int .i64 f := hL 35 (by decide +kernel)
      simp [go_sem, hc, hf, e35]
      refine (one_none f HF.out W hC.g).mono ?_
      rintro e w' ⟨rfl, hb⟩
      exact ⟨_, rfl, by first | exact hb | (subst hb; exact Below.refl _ _), rfl⟩
    refine gSt (gStep_on 24 34 true rfl rfl (by decide +kernel) (fun v w h => h) ?_) ?_
    · intro ρ W hC hc hf hL
      have e5 : ρ (.tmp 5) = .pointer (some ⟨p, 0, none⟩) := hL 5 (by decide +kernel)
      have h0 := hC.z 0 (by decide)
      have h1 := hC.z 1 (by decide)
      simp [go_sem, hc, hf, e5, h0, h1]
      exact ⟨Below.refl _ _, rfl⟩
    refine gSt (gStep_on 24 34 true rfl rfl (by decide +kernel) (fun v w h => h) ?_) ?_
    · intro ρ W hC hc hf hL
      have e36 : ρ (.tmp 36) = .agg #[.int .u64 (0 : Nat), .int .u64 (0 : Nat)] := hL 36 (by decide +kernel)
      have e37 : ρ (.tmp 37) = .agg #[.int .u64 (0 : Nat), .int .u64 (0 : Nat)] := hL 37 (by decide +kernel)
      have hl := fun w => word_same 0 0 w
      simp [go_sem, hc, hf, e36, e37, hl]
      exact ⟨Below.refl _ _, rfl⟩
    refine gSt (gStep_run rfl (gRun_pickT 34 38 39 _ rfl rfl (by decide +kernel) (by decide +kernel) (fun v w h => h) (fun v w h => h))) ?_
    refine gSt (gStep_run rfl (gRun_move 39 40 (.inl rfl) rfl (by decide +kernel) (fun v w h => h))) ?_
    refine gSt (gStep_on 30 40 true rfl rfl (by decide +kernel) (fun v w h => h) (gRun_move 0 41 (.inl rfl) rfl (by decide +kernel) (fun v w h => h))) ?_
    refine gSt (gStep_on 30 40 true rfl rfl (by decide +kernel) (fun v w h => h) (gRun_move 1 42 (.inl rfl) rfl (by decide +kernel) (fun v w h => h))) ?_
    refine gSt (gStep_on 30 40 true rfl rfl (by decide +kernel) (fun v w h => h) ?_) ?_
    · intro ρ W hC hc hf hL
      have e41 : ρ (.tmp 41) = .int .i64 f := hL 41 (by decide +kernel)
      have e42 : ρ (.tmp 42) = .bool neg := hL 42 (by decide +kernel)
      simp [go_sem, hc, hf, e41, e42]
      refine (nought_none f HF.out neg W hC.g).mono ?_
      rintro e w' ⟨rfl, hb⟩
      exact ⟨_, rfl, by first | exact hb | (subst hb; exact Below.refl _ _), rfl⟩
    refine gSt (gStep_on 30 40 true rfl rfl (by decide +kernel) (fun v w h => h) ?_) ?_
    · intro ρ W hC hc hf hL
      have e5 : ρ (.tmp 5) = .pointer (some ⟨p, 0, none⟩) := hL 5 (by decide +kernel)
      have h0 := hC.z 0 (by decide)
      have h1 := hC.z 1 (by decide)
      simp [go_sem, hc, hf, e5, h0, h1]
      exact ⟨Below.refl _ _, rfl⟩
    refine gSt (gStep_on 30 40 true rfl rfl (by decide +kernel) (fun v w h => h) ?_) ?_
    · intro ρ W hC hc hf hL
      have e43 : ρ (.tmp 43) = .agg #[.int .u64 (0 : Nat), .int .u64 (0 : Nat)] := hL 43 (by decide +kernel)
      have e44 : ρ (.tmp 44) = .agg #[.int .u64 (0 : Nat), .int .u64 (0 : Nat)] := hL 44 (by decide +kernel)
      have hl := fun w => word_same 0 0 w
      simp [go_sem, hc, hf, e43, e44, hl]
      exact ⟨Below.refl _ _, rfl⟩
    refine gSt (gStep_run rfl (gRun_pickT 40 45 46 _ rfl rfl (by decide +kernel) (by decide +kernel) (fun v w h => h) (fun v w h => h))) ?_
    refine gSt (gStep_run rfl (gRun_move 46 47 (.inl rfl) rfl (by decide +kernel) (fun v w h => h))) ?_
    refine gSt (gStep_on 37 47 true rfl rfl (by decide +kernel) (fun v w h => h) ?_) ?_
    · intro ρ W hC hc hf hL
      simp [go_sem, hc, hf]
      refine (awake5_any W hC.g).mono ?_
      rintro e w' ⟨rfl, hb⟩
      exact ⟨_, rfl, by first | exact hb | (subst hb; exact Below.refl _ _), rfl⟩
    refine gSt (gStep_run rfl (gRun_pickT 47 48 49 _ rfl rfl (by decide +kernel) (by decide +kernel) (fun v w h => h) (fun v w h => h))) ?_
    exact gSt0
  · intro W hC
    refine gFi 10 rfl ?_
    rintro _ rfl
    refine gFi 11 rfl ?_
    rintro _ rfl
    refine gFi 12 rfl ?_
    rintro _ rfl
    refine gFi 13 rfl ?_
    rintro _ rfl
    refine gFi 14 rfl ?_
    rintro _ rfl
    refine gFi 15 rfl ?_
    rintro _ rfl
    refine gFi 16 rfl ?_
    rintro _ rfl
    refine gFi 17 rfl ?_
    rintro _ rfl
    refine gFi 18 rfl ?_
    rintro _ rfl
    refine gFi 19 rfl ?_
    rintro _ rfl
    refine gFi 20 rfl ?_
    rintro _ rfl
    refine gFi 21 rfl ?_
    rintro _ rfl
    refine gFi 22 rfl ?_
    rintro _ rfl
    refine gFi 23 rfl ?_
    rintro _ rfl
    refine gFi 24 rfl ?_
    rintro _ rfl
    refine gFi 25 rfl ?_
    rintro _ rfl
    refine gFi 26 rfl ?_
    rintro _ rfl
    refine gFi 27 rfl ?_
    rintro _ rfl
    refine gFi 28 rfl ?_
    rintro _ rfl
    refine gFi 29 rfl ?_
    rintro _ rfl
    refine gFi 30 rfl ?_
    rintro _ rfl
    refine gFi 31 rfl ?_
    rintro _ rfl
    refine gFi 32 rfl ?_
    rintro _ rfl
    refine gFi 33 rfl ?_
    rintro _ rfl
    refine gFi 34 rfl ?_
    rintro _ rfl
    refine gFi 35 rfl ?_
    rintro _ rfl
    refine gFi 36 rfl ?_
    rintro _ rfl
    refine gFi 37 rfl ?_
    rintro _ rfl
    refine gFi 38 rfl ?_
    rintro _ rfl
    refine gFi 39 rfl ?_
    rintro _ rfl
    refine gFi 40 rfl ?_
    rintro _ rfl
    refine gFi 41 rfl ?_
    rintro _ rfl
    refine gFi 42 rfl ?_
    rintro _ rfl
    refine gFi 43 rfl ?_
    rintro _ rfl
    refine gFi 44 rfl ?_
    rintro _ rfl
    refine gFi 45 rfl ?_
    rintro _ rfl
    refine gFi 46 rfl ?_
    rintro _ rfl
    refine gFi 47 rfl ?_
    rintro _ rfl
    refine gFi 48 rfl ?_
    rintro _ rfl
    refine gFi 49 rfl ?_
    rintro _ rfl
    refine gFi0 ?_
    simp only [List.drop_succ_cons, List.drop_zero, Act.put, List.setIfInBounds_toArray, List.set_cons_succ, List.set_cons_zero]
    have HB := hide hC.bel
    clear hC h1
    go_wp2
    go_ret
    exact ⟨rfl, HB.out⟩

set_option maxHeartbeats 2000000 in
theorem formatWords_1 (neg : Bool) (w : World) (hg : FmtG w) : Calls Tryd.prog 5 #[.int .i64 1, .bool neg] w fun e w' => e = .returned (.bool true) ∧ Below w.heap.size w w' := by
  have hs := fun x y w => word_same x y w
  have hs1 := fun w => word_same 0 1 w
  have hl := fun w hg => least_1 w hg
  rw [show dgl 1 1 = 0 by decide +kernel, show dgl 1 0 = 1 by decide +kernel] at hl
  have HL := hide hl
  have HG := hide hg
  have HB := hide (Below.refl w.heap.size w)
  clear hg hl
  go_enter Tryd.func5, Tryd.ntmps5
  go_wp2_with fail
  refine (is_1 _).mono ?_
  rintro e w0 ⟨rfl, hw⟩
  subst w0
  go_wp2_with fail
  refine (inf_1 neg _ HG.out).mono ?_
  rintro e w1 ⟨rfl, hb⟩
  replace HG := hide (HG.out.below hb)
  replace HB := hide (below_trans HB.out hb)
  clear hb
  go_wp2_with fail
  refine (rinf_1 neg _).mono ?_
  rintro e w2 ⟨rfl, hb⟩
  replace HG := hide (HG.out.below hb)
  replace HB := hide (below_trans HB.out hb)
  clear hb
  go_wp2_with fail
  refine (nan_1 _ HG.out).mono ?_
  rintro e w3 ⟨rfl, hb⟩
  replace HG := hide (HG.out.below hb)
  replace HB := hide (below_trans HB.out hb)
  clear hb
  go_wp2_with fail
  refine (rnan_1 _).mono ?_
  rintro e w4 ⟨rfl, hb⟩
  replace HG := hide (HG.out.below hb)
  replace HB := hide (below_trans HB.out hb)
  clear hb
  go_wp2_with fail
  refine (max_1 neg _ HG.out).mono ?_
  rintro e w5 ⟨rfl, hb⟩
  replace HG := hide (HG.out.below hb)
  replace HB := hide (below_trans HB.out hb)
  clear hb
  go_wp2_with fail
  refine (rmax_1 neg _).mono ?_
  rintro e w6 ⟨rfl, hb⟩
  replace HG := hide (HG.out.below hb)
  replace HB := hide (below_trans HB.out hb)
  clear hb
  go_wp2_with fail
  refine (HL.out _ HG.out).mono ?_
  rintro e w7 ⟨rfl, hb⟩
  replace HG := hide (HG.out.below hb)
  replace HB := hide (below_trans HB.out hb)
  clear hb
  go_wp2_with fail
  refine (one_1 _ HG.out).mono ?_
  rintro e w8 ⟨rfl, hb⟩
  replace HG := hide (HG.out.below hb)
  replace HB := hide (below_trans HB.out hb)
  clear hb
  go_wp2_with fail
  refine (rone_1 _).mono ?_
  rintro e w9 ⟨rfl, hb⟩
  replace HG := hide (HG.out.below hb)
  replace HB := hide (below_trans HB.out hb)
  clear hb
  go_wp2_with fail
  refine (nought_1 neg _ HG.out).mono ?_
  rintro e w10 ⟨rfl, hb⟩
  replace HG := hide (HG.out.below hb)
  replace HB := hide (below_trans HB.out hb)
  clear hb
  go_wp2_with fail
  refine (rnought_1 neg _).mono ?_
  rintro e w11 ⟨rfl, hb⟩
  replace HG := hide (HG.out.below hb)
  replace HB := hide (below_trans HB.out hb)
  clear hb
  go_wp2_with fail
  refine (awake5_any _ HG.out).mono ?_
  rintro e w12 ⟨rfl, hb⟩
  replace HG := hide (HG.out.below hb)
  replace HB := hide (below_trans HB.out hb)
  clear hb
  clear HG
  go_wp2
  go_ret
  exact ⟨rfl, HB.out⟩

set_option maxHeartbeats 2000000 in
theorem formatWords_2 (neg : Bool) (w : World) (hg : FmtG w) : Calls Tryd.prog 5 #[.int .i64 2, .bool neg] w fun e w' => e = .returned (.bool true) ∧ Below w.heap.size w w' := by
  have hs := fun x y w => word_same x y w
  have hs1 := fun w => word_same 0 1 w
  have hl := fun w hg => least_2 w hg
  rw [show dgl 1 1 = 0 by decide +kernel, show dgl 1 0 = 1 by decide +kernel] at hl
  have HL := hide hl
  have HG := hide hg
  have HB := hide (Below.refl w.heap.size w)
  clear hg hl
  go_enter Tryd.func5, Tryd.ntmps5
  go_wp2_with fail
  refine (is_2 _).mono ?_
  rintro e w0 ⟨rfl, hw⟩
  subst w0
  go_wp2_with fail
  refine (inf_2 neg _ HG.out).mono ?_
  rintro e w1 ⟨rfl, hb⟩
  replace HG := hide (HG.out.below hb)
  replace HB := hide (below_trans HB.out hb)
  clear hb
  go_wp2_with fail
  refine (rinf_2 neg _).mono ?_
  rintro e w2 ⟨rfl, hb⟩
  replace HG := hide (HG.out.below hb)
  replace HB := hide (below_trans HB.out hb)
  clear hb
  go_wp2_with fail
  refine (nan_2 _ HG.out).mono ?_
  rintro e w3 ⟨rfl, hb⟩
  replace HG := hide (HG.out.below hb)
  replace HB := hide (below_trans HB.out hb)
  clear hb
  go_wp2_with fail
  refine (rnan_2 _).mono ?_
  rintro e w4 ⟨rfl, hb⟩
  replace HG := hide (HG.out.below hb)
  replace HB := hide (below_trans HB.out hb)
  clear hb
  go_wp2_with fail
  refine (max_2 neg _ HG.out).mono ?_
  rintro e w5 ⟨rfl, hb⟩
  replace HG := hide (HG.out.below hb)
  replace HB := hide (below_trans HB.out hb)
  clear hb
  go_wp2_with fail
  refine (rmax_2 neg _).mono ?_
  rintro e w6 ⟨rfl, hb⟩
  replace HG := hide (HG.out.below hb)
  replace HB := hide (below_trans HB.out hb)
  clear hb
  go_wp2_with fail
  refine (HL.out _ HG.out).mono ?_
  rintro e w7 ⟨rfl, hb⟩
  replace HG := hide (HG.out.below hb)
  replace HB := hide (below_trans HB.out hb)
  clear hb
  go_wp2_with fail
  refine (one_2 _ HG.out).mono ?_
  rintro e w8 ⟨rfl, hb⟩
  replace HG := hide (HG.out.below hb)
  replace HB := hide (below_trans HB.out hb)
  clear hb
  go_wp2_with fail
  refine (rone_2 _).mono ?_
  rintro e w9 ⟨rfl, hb⟩
  replace HG := hide (HG.out.below hb)
  replace HB := hide (below_trans HB.out hb)
  clear hb
  go_wp2_with fail
  refine (nought_2 neg _ HG.out).mono ?_
  rintro e w10 ⟨rfl, hb⟩
  replace HG := hide (HG.out.below hb)
  replace HB := hide (below_trans HB.out hb)
  clear hb
  go_wp2_with fail
  refine (rnought_2 neg _).mono ?_
  rintro e w11 ⟨rfl, hb⟩
  replace HG := hide (HG.out.below hb)
  replace HB := hide (below_trans HB.out hb)
  clear hb
  go_wp2_with fail
  refine (awake5_any _ HG.out).mono ?_
  rintro e w12 ⟨rfl, hb⟩
  replace HG := hide (HG.out.below hb)
  replace HB := hide (below_trans HB.out hb)
  clear hb
  clear HG
  go_wp2
  go_ret
  exact ⟨rfl, HB.out⟩

set_option maxHeartbeats 2000000 in
theorem formatWords_3 (neg : Bool) (w : World) (hg : FmtG w) : Calls Tryd.prog 5 #[.int .i64 3, .bool neg] w fun e w' => e = .returned (.bool true) ∧ Below w.heap.size w w' := by
  have hs := fun x y w => word_same x y w
  have hs1 := fun w => word_same 0 1 w
  have hl := fun w hg => least_3 w hg
  rw [show dgl 1 1 = 0 by decide +kernel, show dgl 1 0 = 1 by decide +kernel] at hl
  have HL := hide hl
  have HG := hide hg
  have HB := hide (Below.refl w.heap.size w)
  clear hg hl
  go_enter Tryd.func5, Tryd.ntmps5
  go_wp2_with fail
  refine (is_3 _).mono ?_
  rintro e w0 ⟨rfl, hw⟩
  subst w0
  go_wp2_with fail
  refine (inf_3 neg _ HG.out).mono ?_
  rintro e w1 ⟨rfl, hb⟩
  replace HG := hide (HG.out.below hb)
  replace HB := hide (below_trans HB.out hb)
  clear hb
  go_wp2_with fail
  refine (rinf_3 neg _).mono ?_
  rintro e w2 ⟨rfl, hb⟩
  replace HG := hide (HG.out.below hb)
  replace HB := hide (below_trans HB.out hb)
  clear hb
  go_wp2_with fail
  refine (nan_3 _ HG.out).mono ?_
  rintro e w3 ⟨rfl, hb⟩
  replace HG := hide (HG.out.below hb)
  replace HB := hide (below_trans HB.out hb)
  clear hb
  go_wp2_with fail
  refine (rnan_3 _).mono ?_
  rintro e w4 ⟨rfl, hb⟩
  replace HG := hide (HG.out.below hb)
  replace HB := hide (below_trans HB.out hb)
  clear hb
  go_wp2_with fail
  refine (max_3 neg _ HG.out).mono ?_
  rintro e w5 ⟨rfl, hb⟩
  replace HG := hide (HG.out.below hb)
  replace HB := hide (below_trans HB.out hb)
  clear hb
  go_wp2_with fail
  refine (rmax_3 neg _).mono ?_
  rintro e w6 ⟨rfl, hb⟩
  replace HG := hide (HG.out.below hb)
  replace HB := hide (below_trans HB.out hb)
  clear hb
  go_wp2_with fail
  refine (HL.out _ HG.out).mono ?_
  rintro e w7 ⟨rfl, hb⟩
  replace HG := hide (HG.out.below hb)
  replace HB := hide (below_trans HB.out hb)
  clear hb
  go_wp2_with fail
  refine (one_3 _ HG.out).mono ?_
  rintro e w8 ⟨rfl, hb⟩
  replace HG := hide (HG.out.below hb)
  replace HB := hide (below_trans HB.out hb)
  clear hb
  go_wp2_with fail
  refine (rone_3 _).mono ?_
  rintro e w9 ⟨rfl, hb⟩
  replace HG := hide (HG.out.below hb)
  replace HB := hide (below_trans HB.out hb)
  clear hb
  go_wp2_with fail
  refine (nought_3 neg _ HG.out).mono ?_
  rintro e w10 ⟨rfl, hb⟩
  replace HG := hide (HG.out.below hb)
  replace HB := hide (below_trans HB.out hb)
  clear hb
  go_wp2_with fail
  refine (rnought_3 neg _).mono ?_
  rintro e w11 ⟨rfl, hb⟩
  replace HG := hide (HG.out.below hb)
  replace HB := hide (below_trans HB.out hb)
  clear hb
  go_wp2_with fail
  refine (awake5_any _ HG.out).mono ?_
  rintro e w12 ⟨rfl, hb⟩
  replace HG := hide (HG.out.below hb)
  replace HB := hide (below_trans HB.out hb)
  clear hb
  clear HG
  go_wp2
  go_ret
  exact ⟨rfl, HB.out⟩

set_option maxHeartbeats 2000000 in
theorem formatWords_4 (neg : Bool) (w : World) (hg : FmtG w) : Calls Tryd.prog 5 #[.int .i64 4, .bool neg] w fun e w' => e = .returned (.bool true) ∧ Below w.heap.size w w' := by
  have hs := fun x y w => word_same x y w
  have hs1 := fun w => word_same 0 1 w
  have hl := fun w hg => least_4 w hg
  rw [show dgl 1 1 = 0 by decide +kernel, show dgl 1 0 = 1 by decide +kernel] at hl
  have HL := hide hl
  have HG := hide hg
  have HB := hide (Below.refl w.heap.size w)
  clear hg hl
  go_enter Tryd.func5, Tryd.ntmps5
  go_wp2_with fail
  refine (is_4 _).mono ?_
  rintro e w0 ⟨rfl, hw⟩
  subst w0
  go_wp2_with fail
  refine (inf_4 neg _ HG.out).mono ?_
  rintro e w1 ⟨rfl, hb⟩
  replace HG := hide (HG.out.below hb)
  replace HB := hide (below_trans HB.out hb)
  clear hb
  go_wp2_with fail
  refine (rinf_4 neg _).mono ?_
  rintro e w2 ⟨rfl, hb⟩
  replace HG := hide (HG.out.below hb)
  replace HB := hide (below_trans HB.out hb)
  clear hb
  go_wp2_with fail
  refine (nan_4 _ HG.out).mono ?_
  rintro e w3 ⟨rfl, hb⟩
  replace HG := hide (HG.out.below hb)
  replace HB := hide (below_trans HB.out hb)
  clear hb
  go_wp2_with fail
  refine (rnan_4 _).mono ?_
  rintro e w4 ⟨rfl, hb⟩
  replace HG := hide (HG.out.below hb)
  replace HB := hide (below_trans HB.out hb)
  clear hb
  go_wp2_with fail
  refine (max_4 neg _ HG.out).mono ?_
  rintro e w5 ⟨rfl, hb⟩
  replace HG := hide (HG.out.below hb)
  replace HB := hide (below_trans HB.out hb)
  clear hb
  go_wp2_with fail
  refine (rmax_4 neg _).mono ?_
  rintro e w6 ⟨rfl, hb⟩
  replace HG := hide (HG.out.below hb)
  replace HB := hide (below_trans HB.out hb)
  clear hb
  go_wp2_with fail
  refine (HL.out _ HG.out).mono ?_
  rintro e w7 ⟨rfl, hb⟩
  replace HG := hide (HG.out.below hb)
  replace HB := hide (below_trans HB.out hb)
  clear hb
  go_wp2_with fail
  refine (one_4 _ HG.out).mono ?_
  rintro e w8 ⟨rfl, hb⟩
  replace HG := hide (HG.out.below hb)
  replace HB := hide (below_trans HB.out hb)
  clear hb
  go_wp2_with fail
  refine (rone_4 _).mono ?_
  rintro e w9 ⟨rfl, hb⟩
  replace HG := hide (HG.out.below hb)
  replace HB := hide (below_trans HB.out hb)
  clear hb
  go_wp2_with fail
  refine (nought_4 neg _ HG.out).mono ?_
  rintro e w10 ⟨rfl, hb⟩
  replace HG := hide (HG.out.below hb)
  replace HB := hide (below_trans HB.out hb)
  clear hb
  go_wp2_with fail
  refine (rnought_4 neg _).mono ?_
  rintro e w11 ⟨rfl, hb⟩
  replace HG := hide (HG.out.below hb)
  replace HB := hide (below_trans HB.out hb)
  clear hb
  go_wp2_with fail
  refine (awake5_any _ HG.out).mono ?_
  rintro e w12 ⟨rfl, hb⟩
  replace HG := hide (HG.out.below hb)
  replace HB := hide (below_trans HB.out hb)
  clear hb
  clear HG
  go_wp2
  go_ret
  exact ⟨rfl, HB.out⟩

end Go.Proofs.YtjklehlkgccmnaaDoor

/- FormatWords: for every f and neg the law returns true. Conditions: those of the tied card (the table of formats is laid as the program lays it). -/
namespace Go.Proofs.YtjklehlkgccmnaaDoor.formatWords
open Go.ChangeShapes Go.WideShapes Go.ChangeAt Go.RowKit Go.Proofs.YtjklehlkgccmnaaDoor

theorem formatWords_all (f : Int) (neg : Bool) (w : World) (hg : FmtG w) : Calls Tryd.prog 5 #[.int .i64 f, .bool neg] w fun e w' => e = .returned (.bool true) ∧ Below w.heap.size w w' := by
  by_cases h : f < 1 ∨ 4 < f
  · exact formatWords_none f h neg w hg
  · have h4 : f = 1 ∨ f = 2 ∨ f = 3 ∨ f = 4 := by omega
    rcases h4 with rfl | rfl | rfl | rfl
    · exact formatWords_1 neg w hg
    · exact formatWords_2 neg w hg
    · exact formatWords_3 neg w hg
    · exact formatWords_4 neg w hg
theorem own : ownKnob Tryd.prog.godebug = none := by kernel_rfl
theorem laidOut : laidOutB Tryd.prog = true := by kernel_rfl

theorem door_met (os : Os) (args : Array Value) : laidMetH Tryd.prog [("radicand/format.formats", Rows.laid_radicand_format_formats)] ((World.doorLaid Tryd.prog 400 os).forCall (fun _ _ => 0) ⟨#[], args, []⟩).memory :=
  laidMetH_of_parts3 (fuel := 8) (laidMet_of_run' 8 (by kernel_rfl) (by kernel_rfl)) (by kernel_rfl) (by kernel_rfl)

set_option maxRecDepth 100000 in
theorem lifted (os : Os) (started : os.Started) (H : Type) (enc : TypeId × Value → H) :
    ReturnsInHanded {} Tryd.checked os 5 .any (fun w args => (Rows.formatWordsSpec.pre enc Tryd.prog Tryd.f5 [] false w args ∧ laidMetH Tryd.prog [("radicand/format.formats", Rows.laid_radicand_format_formats)] w) ∧ sizedMet enc Tryd.prog Tryd.f5 (OpenSpec.ofChange Rows.formatWordsSpec) false w args) (Rows.formatWordsSpec.post enc Tryd.prog Tryd.f5 false true false false) := by
  refine returnsInHanded_of_change_and (C := Tryd.checked) (X := fun w _ => laidMetH Tryd.prog [("radicand/format.formats", Rows.laid_radicand_format_formats)] w) (fun _ _ _ hh h => h.of_heap hh) own started (by kernel_rfl) Tryd.func5
    (ChangeSpec.witness_shaped (enc := enc) (C := Tryd.checked) (os := os) (X := fun w _ => laidMetH Tryd.prog [("radicand/format.formats", Rows.laid_radicand_format_formats)] w) false (World.doorLaid Tryd.prog 400 os) #[.int .i64 0, .bool false] 8 rfl (World.shaped_of_RefB (by kernel_rfl) (by kernel_rfl)) (by kernel_rfl) (by kernel_rfl) (by kernel_rfl) (door_met os _)) ?_
  intro W base args ds gs before hval0 hW _ _ hL _
  have hval : ∀ (j : Nat) t v, Tryd.f5.params[j]? = some t → args[j]? = some v → Value.okWide Tryd.prog W .any base t v := hval0
  have hW' := hW
  obtain ⟨p, q, hA0, hV, rfl, hfz, hnd⟩ := hW
  have hA : DataW.TrodAll enc Tryd.prog W 0 (fun _ => true) true Tryd.f5.params.toList args.toList ds p := hA0
  rw [Tryd.params5] at hA hval
  obtain ⟨v0, vs0, d0, ds0, p0, q0, hargs, rfl, rfl, h0, r0⟩ := trodAll_cons hA
  obtain ⟨v1, vs1, d1, ds1, p1, q1, rfl, rfl, rfl, h1, r1⟩ := trodAll_cons r0
  obtain ⟨rfl, rfl, rfl⟩ := trodAll_nil r1
  obtain rfl : args = #[v0, v1] := by cases args; simp_all
  obtain ⟨rfl, rfl⟩ := trodVars_none hV
  have k0 := h0
  have lt0 : ∀ x ∈ p0, x.block < W.heap.size := by obtain ⟨m, hm⟩ := k0; exact DataW.trod_lt m _ _ _ hm
  have k1 := h1
  have lt1 : ∀ x ∈ p1, x.block < W.heap.size := by obtain ⟨m, hm⟩ := k1; exact DataW.trod_lt m _ _ _ hm
  obtain ⟨a0, rfl, rfl, rfl, wf0⟩ := open_int Tryd.underlying3 (hval 0 3 v0 rfl rfl) h0
  obtain ⟨b1, rfl, rfl, rfl⟩ := open_bool Tryd.underlying4 (hval 1 4 v1 rfl rfl) h1
  clear hA0 hval0
  have hg := of_laid1 hL
  refine (formatWords_all a0 b1 W hg).mono fun e W' ⟨he, bel⟩ => ?_
  subst he
  exact ⟨_, rfl, _, _, _, [], _, [], hW', trodAll_mk1 (shut_bool Tryd.underlying4 _), (trodAll_cons_mk (Below.trod laidOut (by kernel_rfl) (of_decide_eq_true (by kernel_rfl)) k0 bel lt0) (trodAll_cons_mk (Below.trod laidOut (by kernel_rfl) (of_decide_eq_true (by kernel_rfl)) k1 bel lt1) trodAll_mk0)), rfl, bel.frame _, fun h => by cases h⟩

theorem over : Rows.formatWordsRow.holds Tryd.pinned (OpenSpec.ofChange Rows.formatWordsSpec) :=
  OpenClaim.holds_of_wide 5 Tryd.f5 rfl rfl rfl rfl rfl rfl rfl ⟨rfl, rfl, rfl, rfl, rfl⟩ rfl rfl rfl rfl rfl (by kernel_rfl) Tryd.func5 (by kernel_rfl)
    (of_decide_eq_true (by kernel_rfl)) (by unfold Func.isWrapper; first | (rw [if_pos (by decide +kernel)]; kernel_rfl) | (rw [if_neg (by decide +kernel)]; exact ⟨rfl, rfl⟩))
    (fun os started H enc _ => lifted os started H enc)

theorem proved : Rows.FormatWordsCardSaid :=
  Claim7.holds_tied_plain_at .later [] [.data] true (true, "1146b90db6c087cfe87975d1aa443cf10d61f11fc9f3ba5ee7d552a48f8af7b7") false
    over (fun _ h => by cases h) (by kernel_rfl) (fun _ h => by cases h) formatWords_row_tie rfl ⟨rfl, rfl⟩ (by kernel_rfl) rfl
    (fun f fn hf hfn => by
      obtain rfl : f = 5 := Option.some.inj ((show Tryd.prog.funcNamed "radicand/radicandlaw05.FormatWords" = some 5 by kernel_rfl).symm.trans hf) |>.symm
      obtain rfl : fn = Tryd.f5 := (Option.some.inj (Tryd.func5.symm.trans hfn)).symm
      exact ⟨by kernel_rfl, fun j t ht => by
        rw [Tryd.params5] at ht
        rcases j with _ | j
        · obtain rfl : t = 3 := by simpa using ht.symm
          exact (show Tryd.prog.wantsStandIn 3 = false by kernel_rfl)
        rcases j with _ | j
        · obtain rfl : t = 4 := by simpa using ht.symm
          exact (show Tryd.prog.wantsStandIn 4 = false by kernel_rfl)
        simp at ht⟩)
    (by kernel_rfl)
#print axioms proved
end Go.Proofs.YtjklehlkgccmnaaDoor.formatWords

