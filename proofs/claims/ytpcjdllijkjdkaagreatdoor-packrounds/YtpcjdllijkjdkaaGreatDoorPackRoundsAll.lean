/- PackRounds: for every format, mode and number the law returns true. Conditions: those of the tied card (the table of formats is laid as the program lays it). -/
import Derived.Test.YtpcjdllijkjdkaaGreatDoorPartBC
import Derived.Test.YtpcjdllijkjdkaaGreatDoorPartBD
import Derived.Test.YtpcjdllijkjdkaaGreatDoorRows
import Derived.Test.YtpcjdllijkjdkaaGreatDoorTie
import Derived.Test.YtpcjdllijkjdkaaGreatDoorCards
import Derived.LaidMore
import Derived.Stop.Joined
import Derived.SevenTiedAt
import Derived.Test.YtpcjdllijkjdkaaGreatDoorPartAC
import Derived.Test.YtpcjdllijkjdkaaGreatDoorPartAO
import Derived.WalkKit
import Derived.ProofKit
import Derived.OpenShut
import Derived.ShutString
import Derived.ChangeOld
import Derived.Below
/- The walk of PackRounds. -/
set_option linter.unusedVariables false
set_option linter.unusedSimpArgs false
set_option maxRecDepth 8000
namespace Go.Proofs.YtpcjdllijkjdkaaGreatDoor
open Go.RowKit Plain

structure PrSt (f m : Int) (neg : Bool) (z : Int) (s : Nat) (w W : World) : Prop where
  g : FmtG W
  gl : 0 < w.heap.size
  q0 : W.cell? ⟨w.heap.size, 0, none⟩ = some (.int .i64 f)
  q1 : W.cell? ⟨w.heap.size, 1, none⟩ = some (.int .i64 m)
  n : NB W (w.heap.size + 1) (neg) (z) (s)
  lt : w.heap.size + 1 < W.heap.size
  bel : Below w.heap.size w W
theorem PrSt.under {f m : Int} {neg : Bool} {z : Int} {s : Nat} {w W W' : World} (h : PrSt f m neg z s w W) {C : Nat} (hb : Below C W W') (hc : w.heap.size + 1 < C) : PrSt f m neg z s w W' :=
  ⟨⟨fun i hi => (hb.cell (p := ⟨0, i, none⟩) (show 0 < C by have := h.gl; omega)).trans (h.g.c i hi), Nat.lt_of_lt_of_le h.g.lt hb.size⟩, h.gl, (hb.cell (p := ⟨w.heap.size, 0, none⟩) (show w.heap.size < C by omega)).trans h.q0, (hb.cell (p := ⟨w.heap.size, 1, none⟩) (show w.heap.size < C by omega)).trans h.q1, h.n.under hb (show w.heap.size + 1 < C by omega), Nat.lt_of_lt_of_le h.lt hb.size, h.bel.trans (hb.mono (by omega))⟩
theorem PrSt.below {f m : Int} {neg : Bool} {z : Int} {s : Nat} {w W W' : World} (h : PrSt f m neg z s w W) (hb : Below W.heap.size W W') : PrSt f m neg z s w W' := h.under hb h.lt
theorem prSt_start (f m : Int) (neg : Bool) (z : Int) (s : Nat) (w : World) (hg : FmtG w) (t : TypeId) : PrSt f m neg z s w ((w.alloc (.cells #[.int .i64 f, .int .i64 m] t)).alloc (.cells #[.bool (neg), .int .i64 (z), .int .u64 (dgl (s) 0 : Nat), .int .u64 (dgl (s) 1 : Nat), .int .u64 (dgl (s) 2 : Nat), .int .u64 (dgl (s) 3 : Nat), .int .u64 (dgl (s) 4 : Nat), .int .u64 (dgl (s) 5 : Nat), .int .u64 (dgl (s) 6 : Nat), .int .u64 (dgl (s) 7 : Nat)] 27)) := by
  have h1 := nb_new (w.alloc (.cells #[.int .i64 f, .int .i64 m] t)) neg z s 27
  rw [World.size_alloc] at h1
  exact ⟨(hg.below (below_allocs _ _)).below (below_allocs _ _), hg.lt, by simp [go_sem], by simp [go_sem], h1, by simp, below_trans (below_allocs _ _) (below_allocs _ _)⟩

set_option maxHeartbeats 4000000 in
theorem packRounds_A (f m z P E fl : Int) (neg more : Bool) (s num a : Nat)
    (HRO : Hid (∀ w, FmtG w → Calls Tryz.prog 4 #[.int .i64 f, .int .i64 m, .agg #[.bool (neg), .int .i64 (z), .int .u64 (dgl (s) 0 : Nat), .int .u64 (dgl (s) 1 : Nat), .int .u64 (dgl (s) 2 : Nat), .int .u64 (dgl (s) 3 : Nat), .int .u64 (dgl (s) 4 : Nat), .int .u64 (dgl (s) 5 : Nat), .int .u64 (dgl (s) 6 : Nat), .int .u64 (dgl (s) 7 : Nat)], .bool more] w fun e w' => e = .returned (.tuple #[.agg #[.int .u64 (dgl (a) 1 : Nat), .int .u64 (dgl (a) 0 : Nat)], .int .i64 0, .int .i64 1]) ∧ Below w.heap.size w w'))
    (HI5 : Hid (∀ w, Calls Tryz.prog 5 #[.int .i64 f] w fun e w' => e = .returned (.bool false) ∧ Below w.heap.size w w'))
    (hq : ∀ w, (Op.equalIn 10000 29 (.agg #[.int .u64 (dgl (a) 1 : Nat), .int .u64 (dgl (a) 0 : Nat)]) (.agg #[.int .u64 0, .int .u64 0])).run Tryz.prog w = .ok true w) (w : World) (hg : FmtG w) :
    Calls Tryz.prog 3 #[.agg #[.int .i64 f, .int .i64 m], .agg #[.bool (neg), .int .i64 (z), .int .u64 (dgl (s) 0 : Nat), .int .u64 (dgl (s) 1 : Nat), .int .u64 (dgl (s) 2 : Nat), .int .u64 (dgl (s) 3 : Nat), .int .u64 (dgl (s) 4 : Nat), .int .u64 (dgl (s) 5 : Nat), .int .u64 (dgl (s) 6 : Nat), .int .u64 (dgl (s) 7 : Nat)], .bool more] w fun e w' => e = .returned (.bool true) ∧ Below w.heap.size w w' := by
  have HS := hide (prSt_start f m neg z s w hg 22)
  clear hg
  go_enter Tryz.func3, Tryz.ntmps3
  go_upto_region 1 with fail
  refine wp_gen (fun W => PrSt f m neg z s w W) HS.out ?_
  clear HS
  rintro W1 h1
  refine wp_region_grow 6 [(14, .val (.pointer (some ⟨w.heap.size, 0, none⟩))), (15, .val (.int .i64 f)), (16, .val (.pointer (some ⟨w.heap.size, 1, none⟩))), (17, .val (.int .i64 m)), (7, .val (.int .i64 f)), (8, .val (.int .i64 m))]
    (fun W => PrSt f m neg z s w W) mixedOk (by kernel_rfl) (by kernel_rfl) (h1.below (Below.refl _ _).drew) (fun W W' h hb => h.below hb) ?_ ?_
  · refine gSt (gStep_run rfl ?_) ?_
    · intro ρ W hC hc hf hL
      have e3 : ρ (.tmp 3) = .pointer (some ⟨w.heap.size, 0, none⟩) := hL 3 (by decide +kernel)
      have hl : w.heap.size < W.heap.size := by have := hC.lt; omega
      simp [go_sem, hc, hf, e3, hl]
      exact ⟨Below.refl _ _, rfl⟩
    refine gSt (gStep_run rfl ?_) ?_
    · intro ρ W hC hc hf hL
      have e14 : ρ (.tmp 14) = .pointer (some ⟨w.heap.size, 0, none⟩) := hL 14 (by decide +kernel)
      have q := hC.q0
      simp [go_sem, hc, hf, e14, q]
      exact ⟨Below.refl _ _, rfl⟩
    refine gSt (gStep_run rfl ?_) ?_
    · intro ρ W hC hc hf hL
      have e3 : ρ (.tmp 3) = .pointer (some ⟨w.heap.size, 0, none⟩) := hL 3 (by decide +kernel)
      have hl : w.heap.size < W.heap.size := by have := hC.lt; omega
      simp [go_sem, hc, hf, e3, hl]
      exact ⟨Below.refl _ _, rfl⟩
    refine gSt (gStep_run rfl ?_) ?_
    · intro ρ W hC hc hf hL
      have e16 : ρ (.tmp 16) = .pointer (some ⟨w.heap.size, 1, none⟩) := hL 16 (by decide +kernel)
      have q := hC.q1
      simp [go_sem, hc, hf, e16, q]
      exact ⟨Below.refl _ _, rfl⟩
    refine gSt (gStep_run rfl (gRun_move 15 7 (.inr rfl) rfl (by decide +kernel) (fun v w h => h))) ?_
    refine gSt (gStep_run rfl (gRun_move 17 8 (.inr rfl) rfl (by decide +kernel) (fun v w h => h))) ?_
    exact gSt0
  · intro W hC
    refine gFi 14 rfl ?_
    rintro _ rfl
    refine gFi 15 rfl ?_
    rintro _ rfl
    refine gFi 16 rfl ?_
    rintro _ rfl
    refine gFi 17 rfl ?_
    rintro _ rfl
    refine gFi 7 rfl ?_
    rintro _ rfl
    refine gFi 8 rfl ?_
    rintro _ rfl
    refine gFi0 ?_
    simp only [List.drop_succ_cons, List.drop_zero, Act.put, List.setIfInBounds_toArray, List.set_cons_succ, List.set_cons_zero]
    have HS := hide hC
    clear hC h1
    have ln := HS.out.n.n
    have le := HS.out.n.e
    have l0 := HS.out.n.x0
    have l1 := HS.out.n.x1
    have l2 := HS.out.n.x2
    have l3 := HS.out.n.x3
    have l4 := HS.out.n.x4
    have l5 := HS.out.n.x5
    have l6 := HS.out.n.x6
    have l7 := HS.out.n.x7
    go_wp2_with fail
    refine (HRO.out _ HS.out.g).mono ?_
    rintro e w3 ⟨rfl, hb3⟩
    replace HS := hide (HS.out.below hb3)
    clear hb3
    clear ln le l0 l1 l2 l3 l4 l5 l6 l7
    go_upto_region 3 with fail
    refine wp_gen (fun W => PrSt f m neg z s w W ∧ WB W w3.heap.size (dgl a 1) (dgl a 0)) ⟨HS.out.below (below_allocs _ _), wb_new2 _ _ _ _⟩ ?_
    clear HS
    generalize w3.heap.size = p9 at *
    rintro W3 h3
    refine wp_region_grow 16 [(27, .val (.int .i64 f)), (28, .val (.bool false)), (29, .val (.bool true)), (30, .val (.bool true)), (31, .val (undef)), (32, .val (undef)), (33, .val (undef)), (34, .val (.bool true)), (35, .val (.bool true)), (36, .val (undef)), (37, .val (undef)), (38, .val (undef)), (39, .val (undef)), (40, .val (undef)), (41, .val (undef)), (42, .val (.bool true))]
      (fun W => PrSt f m neg z s w W ∧ WB W p9 (dgl a 1) (dgl a 0)) mixedOk (by kernel_rfl) (by kernel_rfl) (⟨h3.1.below (Below.refl _ _).drew, h3.2.below (Below.refl _ _).drew⟩) (fun W W' h hb => ⟨h.1.below hb, h.2.below hb⟩) ?_ ?_
    · refine gSt (gStep_run rfl (gRun_move 7 27 (.inl rfl) rfl (by decide +kernel) (fun v w h => h))) ?_
      refine gSt (gStep_run rfl ?_) ?_
      · intro ρ W hC hc hf hL
        have e27 : ρ (.tmp 27) = .int .i64 f := hL 27 (by decide +kernel)
        simp [go_sem, hc, hf, e27]
        refine (HI5.out W).mono ?_
        rintro e w' ⟨rfl, hb⟩
        exact ⟨_, rfl, by first | exact hb | (subst hb; exact Below.refl _ _), rfl⟩
      refine gSt (gStep_run rfl ?_) ?_
      · intro ρ W hC hc hf hL
        have e28 : ρ (.tmp 28) = .bool false := hL 28 (by decide +kernel)
        simp [go_sem, hc, hf, e28]
        exact ⟨Below.refl _ _, rfl⟩
      refine gSt (gStep_run rfl (gRun_move 29 30 (.inl rfl) rfl (by decide +kernel) (fun v w h => h))) ?_
      refine gSt (gStep_off 3 30 false rfl rfl (by decide +kernel) (fun v w h => h) (fun w => rfl)) ?_
      refine gSt (gStep_off 3 30 false rfl rfl (by decide +kernel) (fun v w h => h) (fun w => rfl)) ?_
      refine gSt (gStep_off 3 30 false rfl rfl (by decide +kernel) (fun v w h => h) (fun w => rfl)) ?_
      refine gSt (gStep_run rfl (gRun_pickCT 30 34 _ _ rfl rfl (by decide +kernel) (fun v w h => h) (fun w => rfl))) ?_
      refine gSt (gStep_run rfl (gRun_move 34 35 (.inl rfl) rfl (by decide +kernel) (fun v w h => h))) ?_
      refine gSt (gStep_off 8 35 false rfl rfl (by decide +kernel) (fun v w h => h) (fun w => rfl)) ?_
      refine gSt (gStep_off 8 35 false rfl rfl (by decide +kernel) (fun v w h => h) (fun w => rfl)) ?_
      refine gSt (gStep_off 8 35 false rfl rfl (by decide +kernel) (fun v w h => h) (fun w => rfl)) ?_
      refine gSt (gStep_off 8 35 false rfl rfl (by decide +kernel) (fun v w h => h) (fun w => rfl)) ?_
      refine gSt (gStep_off 8 35 false rfl rfl (by decide +kernel) (fun v w h => h) (fun w => rfl)) ?_
      refine gSt (gStep_off 8 35 false rfl rfl (by decide +kernel) (fun v w h => h) (fun w => rfl)) ?_
      refine gSt (gStep_run rfl (gRun_pickCT 35 42 _ _ rfl rfl (by decide +kernel) (fun v w h => h) (fun w => rfl))) ?_
      exact gSt0
    · intro W hC
      refine gFi 27 rfl ?_
      rintro _ rfl
      refine gFi 28 rfl ?_
      rintro _ rfl
      refine gFi 29 rfl ?_
      rintro _ rfl
      refine gFi 30 rfl ?_
      rintro _ rfl
      refine gFi 31 rfl ?_
      rintro _ rfl
      refine gFi 32 rfl ?_
      rintro _ rfl
      refine gFi 33 rfl ?_
      rintro _ rfl
      refine gFi 34 rfl ?_
      rintro _ rfl
      refine gFi 35 rfl ?_
      rintro _ rfl
      refine gFi 36 rfl ?_
      rintro _ rfl
      refine gFi 37 rfl ?_
      rintro _ rfl
      refine gFi 38 rfl ?_
      rintro _ rfl
      refine gFi 39 rfl ?_
      rintro _ rfl
      refine gFi 40 rfl ?_
      rintro _ rfl
      refine gFi 41 rfl ?_
      rintro _ rfl
      refine gFi 42 rfl ?_
      rintro _ rfl
      refine gFi0 ?_
      simp only [List.drop_succ_cons, List.drop_zero, Act.put, List.setIfInBounds_toArray, List.set_cons_succ, List.set_cons_zero]
      obtain ⟨g1, g2⟩ := hC
      have HS := hide g1
      have HX := hide g2
      clear g1 g2 h3
      have xh := HX.out.h
      have xl := HX.out.l
      clear HX
      go_wp2_with fail
      refine (awake9_any _ HS.out.g).mono ?_
      rintro e w9 ⟨rfl, hb9⟩
      have HB := hide (below_trans HS.out.bel hb9)
      clear hb9 HS
      go_wp2
      go_ret
      exact ⟨rfl, HB.out⟩
      
    

set_option maxHeartbeats 4000000 in
theorem packRounds_B (f m z P E fl : Int) (neg more : Bool) (s num a : Nat)
    (HRO : Hid (∀ w, FmtG w → Calls Tryz.prog 4 #[.int .i64 f, .int .i64 m, .agg #[.bool (neg), .int .i64 (z), .int .u64 (dgl (s) 0 : Nat), .int .u64 (dgl (s) 1 : Nat), .int .u64 (dgl (s) 2 : Nat), .int .u64 (dgl (s) 3 : Nat), .int .u64 (dgl (s) 4 : Nat), .int .u64 (dgl (s) 5 : Nat), .int .u64 (dgl (s) 6 : Nat), .int .u64 (dgl (s) 7 : Nat)], .bool more] w fun e w' => e = .returned (.tuple #[.agg #[.int .u64 (dgl (a) 1 : Nat), .int .u64 (dgl (a) 0 : Nat)], .int .i64 0, .int .i64 1]) ∧ Below w.heap.size w w'))
    (HI5 : Hid (∀ w, Calls Tryz.prog 5 #[.int .i64 f] w fun e w' => e = .returned (.bool true) ∧ Below w.heap.size w w'))
    (HI8 : Hid (∀ w, Calls Tryz.prog 6 #[.int .i64 m] w fun e w' => e = .returned (.bool false) ∧ Below w.heap.size w w'))
    (hq : ∀ w, (Op.equalIn 10000 29 (.agg #[.int .u64 (dgl (a) 1 : Nat), .int .u64 (dgl (a) 0 : Nat)]) (.agg #[.int .u64 0, .int .u64 0])).run Tryz.prog w = .ok true w) (w : World) (hg : FmtG w) :
    Calls Tryz.prog 3 #[.agg #[.int .i64 f, .int .i64 m], .agg #[.bool (neg), .int .i64 (z), .int .u64 (dgl (s) 0 : Nat), .int .u64 (dgl (s) 1 : Nat), .int .u64 (dgl (s) 2 : Nat), .int .u64 (dgl (s) 3 : Nat), .int .u64 (dgl (s) 4 : Nat), .int .u64 (dgl (s) 5 : Nat), .int .u64 (dgl (s) 6 : Nat), .int .u64 (dgl (s) 7 : Nat)], .bool more] w fun e w' => e = .returned (.bool true) ∧ Below w.heap.size w w' := by
  have HS := hide (prSt_start f m neg z s w hg 22)
  clear hg
  go_enter Tryz.func3, Tryz.ntmps3
  go_upto_region 1 with fail
  refine wp_gen (fun W => PrSt f m neg z s w W) HS.out ?_
  clear HS
  rintro W1 h1
  refine wp_region_grow 6 [(14, .val (.pointer (some ⟨w.heap.size, 0, none⟩))), (15, .val (.int .i64 f)), (16, .val (.pointer (some ⟨w.heap.size, 1, none⟩))), (17, .val (.int .i64 m)), (7, .val (.int .i64 f)), (8, .val (.int .i64 m))]
    (fun W => PrSt f m neg z s w W) mixedOk (by kernel_rfl) (by kernel_rfl) (h1.below (Below.refl _ _).drew) (fun W W' h hb => h.below hb) ?_ ?_
  · refine gSt (gStep_run rfl ?_) ?_
    · intro ρ W hC hc hf hL
      have e3 : ρ (.tmp 3) = .pointer (some ⟨w.heap.size, 0, none⟩) := hL 3 (by decide +kernel)
      have hl : w.heap.size < W.heap.size := by have := hC.lt; omega
      simp [go_sem, hc, hf, e3, hl]
      exact ⟨Below.refl _ _, rfl⟩
    refine gSt (gStep_run rfl ?_) ?_
    · intro ρ W hC hc hf hL
      have e14 : ρ (.tmp 14) = .pointer (some ⟨w.heap.size, 0, none⟩) := hL 14 (by decide +kernel)
      have q := hC.q0
      simp [go_sem, hc, hf, e14, q]
      exact ⟨Below.refl _ _, rfl⟩
    refine gSt (gStep_run rfl ?_) ?_
    · intro ρ W hC hc hf hL
      have e3 : ρ (.tmp 3) = .pointer (some ⟨w.heap.size, 0, none⟩) := hL 3 (by decide +kernel)
      have hl : w.heap.size < W.heap.size := by have := hC.lt; omega
      simp [go_sem, hc, hf, e3, hl]
      exact ⟨Below.refl _ _, rfl⟩
    refine gSt (gStep_run rfl ?_) ?_
    · intro ρ W hC hc hf hL
      have e16 : ρ (.tmp 16) = .pointer (some ⟨w.heap.size, 1, none⟩) := hL 16 (by decide +kernel)
      have q := hC.q1
      simp [go_sem, hc, hf, e16, q]
      exact ⟨Below.refl _ _, rfl⟩
    refine gSt (gStep_run rfl (gRun_move 15 7 (.inr rfl) rfl (by decide +kernel) (fun v w h => h))) ?_
    refine gSt (gStep_run rfl (gRun_move 17 8 (.inr rfl) rfl (by decide +kernel) (fun v w h => h))) ?_
    exact gSt0
  · intro W hC
    refine gFi 14 rfl ?_
    rintro _ rfl
    refine gFi 15 rfl ?_
    rintro _ rfl
    refine gFi 16 rfl ?_
    rintro _ rfl
    refine gFi 17 rfl ?_
    rintro _ rfl
    refine gFi 7 rfl ?_
    rintro _ rfl
    refine gFi 8 rfl ?_
    rintro _ rfl
    refine gFi0 ?_
    simp only [List.drop_succ_cons, List.drop_zero, Act.put, List.setIfInBounds_toArray, List.set_cons_succ, List.set_cons_zero]
    have HS := hide hC
    clear hC h1
    have ln := HS.out.n.n
    have le := HS.out.n.e
    have l0 := HS.out.n.x0
    have l1 := HS.out.n.x1
    have l2 := HS.out.n.x2
    have l3 := HS.out.n.x3
    have l4 := HS.out.n.x4
    have l5 := HS.out.n.x5
    have l6 := HS.out.n.x6
    have l7 := HS.out.n.x7
    go_wp2_with fail
    refine (HRO.out _ HS.out.g).mono ?_
    rintro e w3 ⟨rfl, hb3⟩
    replace HS := hide (HS.out.below hb3)
    clear hb3
    clear ln le l0 l1 l2 l3 l4 l5 l6 l7
    go_upto_region 3 with fail
    refine wp_gen (fun W => PrSt f m neg z s w W ∧ WB W w3.heap.size (dgl a 1) (dgl a 0)) ⟨HS.out.below (below_allocs _ _), wb_new2 _ _ _ _⟩ ?_
    clear HS
    generalize w3.heap.size = p9 at *
    rintro W3 h3
    refine wp_region_grow 16 [(27, .val (.int .i64 f)), (28, .val (.bool true)), (29, .val (.bool false)), (30, .val (.bool false)), (31, .val (.int .i64 m)), (32, .val (.bool false)), (33, .val (.bool true)), (34, .val (.bool true)), (35, .val (.bool true)), (36, .val (undef)), (37, .val (undef)), (38, .val (undef)), (39, .val (undef)), (40, .val (undef)), (41, .val (undef)), (42, .val (.bool true))]
      (fun W => PrSt f m neg z s w W ∧ WB W p9 (dgl a 1) (dgl a 0)) mixedOk (by kernel_rfl) (by kernel_rfl) (⟨h3.1.below (Below.refl _ _).drew, h3.2.below (Below.refl _ _).drew⟩) (fun W W' h hb => ⟨h.1.below hb, h.2.below hb⟩) ?_ ?_
    · refine gSt (gStep_run rfl (gRun_move 7 27 (.inl rfl) rfl (by decide +kernel) (fun v w h => h))) ?_
      refine gSt (gStep_run rfl ?_) ?_
      · intro ρ W hC hc hf hL
        have e27 : ρ (.tmp 27) = .int .i64 f := hL 27 (by decide +kernel)
        simp [go_sem, hc, hf, e27]
        refine (HI5.out W).mono ?_
        rintro e w' ⟨rfl, hb⟩
        exact ⟨_, rfl, by first | exact hb | (subst hb; exact Below.refl _ _), rfl⟩
      refine gSt (gStep_run rfl ?_) ?_
      · intro ρ W hC hc hf hL
        have e28 : ρ (.tmp 28) = .bool true := hL 28 (by decide +kernel)
        simp [go_sem, hc, hf, e28]
        exact ⟨Below.refl _ _, rfl⟩
      refine gSt (gStep_run rfl (gRun_move 29 30 (.inl rfl) rfl (by decide +kernel) (fun v w h => h))) ?_
      refine gSt (gStep_on 3 30 false rfl rfl (by decide +kernel) (fun v w h => h) (gRun_move 8 31 (.inl rfl) rfl (by decide +kernel) (fun v w h => h))) ?_
      refine gSt (gStep_on 3 30 false rfl rfl (by decide +kernel) (fun v w h => h) ?_) ?_
      · intro ρ W hC hc hf hL
        have e31 : ρ (.tmp 31) = .int .i64 m := hL 31 (by decide +kernel)
        simp [go_sem, hc, hf, e31]
        refine (HI8.out W).mono ?_
        rintro e w' ⟨rfl, hb⟩
        exact ⟨_, rfl, by first | exact hb | (subst hb; exact Below.refl _ _), rfl⟩
      refine gSt (gStep_on 3 30 false rfl rfl (by decide +kernel) (fun v w h => h) ?_) ?_
      · intro ρ W hC hc hf hL
        have e32 : ρ (.tmp 32) = .bool false := hL 32 (by decide +kernel)
        simp [go_sem, hc, hf, e32]
        exact ⟨Below.refl _ _, rfl⟩
      refine gSt (gStep_run rfl (gRun_pickCF 30 33 34 _ rfl rfl (by decide +kernel) (by decide +kernel) (fun v w h => h) (fun v w h => h))) ?_
      refine gSt (gStep_run rfl (gRun_move 34 35 (.inl rfl) rfl (by decide +kernel) (fun v w h => h))) ?_
      refine gSt (gStep_off 8 35 false rfl rfl (by decide +kernel) (fun v w h => h) (fun w => rfl)) ?_
      refine gSt (gStep_off 8 35 false rfl rfl (by decide +kernel) (fun v w h => h) (fun w => rfl)) ?_
      refine gSt (gStep_off 8 35 false rfl rfl (by decide +kernel) (fun v w h => h) (fun w => rfl)) ?_
      refine gSt (gStep_off 8 35 false rfl rfl (by decide +kernel) (fun v w h => h) (fun w => rfl)) ?_
      refine gSt (gStep_off 8 35 false rfl rfl (by decide +kernel) (fun v w h => h) (fun w => rfl)) ?_
      refine gSt (gStep_off 8 35 false rfl rfl (by decide +kernel) (fun v w h => h) (fun w => rfl)) ?_
      refine gSt (gStep_run rfl (gRun_pickCT 35 42 _ _ rfl rfl (by decide +kernel) (fun v w h => h) (fun w => rfl))) ?_
      exact gSt0
    · intro W hC
      refine gFi 27 rfl ?_
      rintro _ rfl
      refine gFi 28 rfl ?_
      rintro _ rfl
      refine gFi 29 rfl ?_
      rintro _ rfl
      refine gFi 30 rfl ?_
      rintro _ rfl
      refine gFi 31 rfl ?_
      rintro _ rfl
      refine gFi 32 rfl ?_
      rintro _ rfl
      refine gFi 33 rfl ?_
      rintro _ rfl
      refine gFi 34 rfl ?_
      rintro _ rfl
      refine gFi 35 rfl ?_
      rintro _ rfl
      refine gFi 36 rfl ?_
      rintro _ rfl
      refine gFi 37 rfl ?_
      rintro _ rfl
      refine gFi 38 rfl ?_
      rintro _ rfl
      refine gFi 39 rfl ?_
      rintro _ rfl
      refine gFi 40 rfl ?_
      rintro _ rfl
      refine gFi 41 rfl ?_
      rintro _ rfl
      refine gFi 42 rfl ?_
      rintro _ rfl
      refine gFi0 ?_
      simp only [List.drop_succ_cons, List.drop_zero, Act.put, List.setIfInBounds_toArray, List.set_cons_succ, List.set_cons_zero]
      obtain ⟨g1, g2⟩ := hC
      have HS := hide g1
      have HX := hide g2
      clear g1 g2 h3
      have xh := HX.out.h
      have xl := HX.out.l
      clear HX
      go_wp2_with fail
      refine (awake9_any _ HS.out.g).mono ?_
      rintro e w9 ⟨rfl, hb9⟩
      have HB := hide (below_trans HS.out.bel hb9)
      clear hb9 HS
      go_wp2
      go_ret
      exact ⟨rfl, HB.out⟩
      
    

set_option maxHeartbeats 4000000 in
theorem packRounds_C (f m z P E fl : Int) (neg more : Bool) (s num a : Nat)
    (HRO : Hid (∀ w, FmtG w → Calls Tryz.prog 4 #[.int .i64 f, .int .i64 m, .agg #[.bool (neg), .int .i64 (z), .int .u64 (dgl (s) 0 : Nat), .int .u64 (dgl (s) 1 : Nat), .int .u64 (dgl (s) 2 : Nat), .int .u64 (dgl (s) 3 : Nat), .int .u64 (dgl (s) 4 : Nat), .int .u64 (dgl (s) 5 : Nat), .int .u64 (dgl (s) 6 : Nat), .int .u64 (dgl (s) 7 : Nat)], .bool more] w fun e w' => e = .returned (.tuple #[.agg #[.int .u64 (dgl (a) 1 : Nat), .int .u64 (dgl (a) 0 : Nat)], .int .i64 0, .int .i64 1]) ∧ Below w.heap.size w w'))
    (HI5 : Hid (∀ w, Calls Tryz.prog 5 #[.int .i64 f] w fun e w' => e = .returned (.bool true) ∧ Below w.heap.size w w'))
    (HI8 : Hid (∀ w, Calls Tryz.prog 6 #[.int .i64 m] w fun e w' => e = .returned (.bool true) ∧ Below w.heap.size w w'))
    (HPR : Hid (∀ w, Calls Tryz.prog 8 #[.int .i64 f] w fun e w' => e = .returned (.int .i64 P) ∧ Below w.heap.size w w'))
    (HRA : Hid (∀ w, Calls Tryz.prog 7 #[.int .i64 P, .agg #[.bool (neg), .int .i64 (z), .int .u64 (dgl (s) 0 : Nat), .int .u64 (dgl (s) 1 : Nat), .int .u64 (dgl (s) 2 : Nat), .int .u64 (dgl (s) 3 : Nat), .int .u64 (dgl (s) 4 : Nat), .int .u64 (dgl (s) 5 : Nat), .int .u64 (dgl (s) 6 : Nat), .int .u64 (dgl (s) 7 : Nat)], .bool more] w fun e w' => e = .returned (.bool false) ∧ Below w.heap.size w w'))
    (hq : ∀ w, (Op.equalIn 10000 29 (.agg #[.int .u64 (dgl (a) 1 : Nat), .int .u64 (dgl (a) 0 : Nat)]) (.agg #[.int .u64 0, .int .u64 0])).run Tryz.prog w = .ok true w) (w : World) (hg : FmtG w) :
    Calls Tryz.prog 3 #[.agg #[.int .i64 f, .int .i64 m], .agg #[.bool (neg), .int .i64 (z), .int .u64 (dgl (s) 0 : Nat), .int .u64 (dgl (s) 1 : Nat), .int .u64 (dgl (s) 2 : Nat), .int .u64 (dgl (s) 3 : Nat), .int .u64 (dgl (s) 4 : Nat), .int .u64 (dgl (s) 5 : Nat), .int .u64 (dgl (s) 6 : Nat), .int .u64 (dgl (s) 7 : Nat)], .bool more] w fun e w' => e = .returned (.bool true) ∧ Below w.heap.size w w' := by
  have HS := hide (prSt_start f m neg z s w hg 22)
  clear hg
  go_enter Tryz.func3, Tryz.ntmps3
  go_upto_region 1 with fail
  refine wp_gen (fun W => PrSt f m neg z s w W) HS.out ?_
  clear HS
  rintro W1 h1
  refine wp_region_grow 6 [(14, .val (.pointer (some ⟨w.heap.size, 0, none⟩))), (15, .val (.int .i64 f)), (16, .val (.pointer (some ⟨w.heap.size, 1, none⟩))), (17, .val (.int .i64 m)), (7, .val (.int .i64 f)), (8, .val (.int .i64 m))]
    (fun W => PrSt f m neg z s w W) mixedOk (by kernel_rfl) (by kernel_rfl) (h1.below (Below.refl _ _).drew) (fun W W' h hb => h.below hb) ?_ ?_
  · refine gSt (gStep_run rfl ?_) ?_
    · intro ρ W hC hc hf hL
      have e3 : ρ (.tmp 3) = .pointer (some ⟨w.heap.size, 0, none⟩) := hL 3 (by decide +kernel)
      have hl : w.heap.size < W.heap.size := by have := hC.lt; omega
      simp [go_sem, hc, hf, e3, hl]
      exact ⟨Below.refl _ _, rfl⟩
    refine gSt (gStep_run rfl ?_) ?_
    · intro ρ W hC hc hf hL
      have e14 : ρ (.tmp 14) = .pointer (some ⟨w.heap.size, 0, none⟩) := hL 14 (by decide +kernel)
      have q := hC.q0
      simp [go_sem, hc, hf, e14, q]
      exact ⟨Below.refl _ _, rfl⟩
    refine gSt (gStep_run rfl ?_) ?_
    · intro ρ W hC hc hf hL
      have e3 : ρ (.tmp 3) = .pointer (some ⟨w.heap.size, 0, none⟩) := hL 3 (by decide +kernel)
      have hl : w.heap.size < W.heap.size := by have := hC.lt; omega
      simp [go_sem, hc, hf, e3, hl]
      exact ⟨Below.refl _ _, rfl⟩
    refine gSt (gStep_run rfl ?_) ?_
    · intro ρ W hC hc hf hL
      have e16 : ρ (.tmp 16) = .pointer (some ⟨w.heap.size, 1, none⟩) := hL 16 (by decide +kernel)
      have q := hC.q1
      simp [go_sem, hc, hf, e16, q]
      exact ⟨Below.refl _ _, rfl⟩
    refine gSt (gStep_run rfl (gRun_move 15 7 (.inr rfl) rfl (by decide +kernel) (fun v w h => h))) ?_
    refine gSt (gStep_run rfl (gRun_move 17 8 (.inr rfl) rfl (by decide +kernel) (fun v w h => h))) ?_
    exact gSt0
  · intro W hC
    refine gFi 14 rfl ?_
    rintro _ rfl
    refine gFi 15 rfl ?_
    rintro _ rfl
    refine gFi 16 rfl ?_
    rintro _ rfl
    refine gFi 17 rfl ?_
    rintro _ rfl
    refine gFi 7 rfl ?_
    rintro _ rfl
    refine gFi 8 rfl ?_
    rintro _ rfl
    refine gFi0 ?_
    simp only [List.drop_succ_cons, List.drop_zero, Act.put, List.setIfInBounds_toArray, List.set_cons_succ, List.set_cons_zero]
    have HS := hide hC
    clear hC h1
    have ln := HS.out.n.n
    have le := HS.out.n.e
    have l0 := HS.out.n.x0
    have l1 := HS.out.n.x1
    have l2 := HS.out.n.x2
    have l3 := HS.out.n.x3
    have l4 := HS.out.n.x4
    have l5 := HS.out.n.x5
    have l6 := HS.out.n.x6
    have l7 := HS.out.n.x7
    go_wp2_with fail
    refine (HRO.out _ HS.out.g).mono ?_
    rintro e w3 ⟨rfl, hb3⟩
    replace HS := hide (HS.out.below hb3)
    clear hb3
    clear ln le l0 l1 l2 l3 l4 l5 l6 l7
    go_upto_region 3 with fail
    refine wp_gen (fun W => PrSt f m neg z s w W ∧ WB W w3.heap.size (dgl a 1) (dgl a 0)) ⟨HS.out.below (below_allocs _ _), wb_new2 _ _ _ _⟩ ?_
    clear HS
    generalize w3.heap.size = p9 at *
    rintro W3 h3
    refine wp_region_grow 16 [(27, .val (.int .i64 f)), (28, .val (.bool true)), (29, .val (.bool false)), (30, .val (.bool false)), (31, .val (.int .i64 m)), (32, .val (.bool true)), (33, .val (.bool false)), (34, .val (.bool false)), (35, .val (.bool false)), (36, .val (.int .i64 f)), (37, .val (.int .i64 P)), (38, .val (.agg #[.bool (neg), .int .i64 (z), .int .u64 (dgl (s) 0 : Nat), .int .u64 (dgl (s) 1 : Nat), .int .u64 (dgl (s) 2 : Nat), .int .u64 (dgl (s) 3 : Nat), .int .u64 (dgl (s) 4 : Nat), .int .u64 (dgl (s) 5 : Nat), .int .u64 (dgl (s) 6 : Nat), .int .u64 (dgl (s) 7 : Nat)])), (39, .val (.bool more)), (40, .val (.bool false)), (41, .val (.bool true)), (42, .val (.bool true))]
      (fun W => PrSt f m neg z s w W ∧ WB W p9 (dgl a 1) (dgl a 0)) mixedOk (by kernel_rfl) (by kernel_rfl) (⟨h3.1.below (Below.refl _ _).drew, h3.2.below (Below.refl _ _).drew⟩) (fun W W' h hb => ⟨h.1.below hb, h.2.below hb⟩) ?_ ?_
    · refine gSt (gStep_run rfl (gRun_move 7 27 (.inl rfl) rfl (by decide +kernel) (fun v w h => h))) ?_
      refine gSt (gStep_run rfl ?_) ?_
      · intro ρ W hC hc hf hL
        have e27 : ρ (.tmp 27) = .int .i64 f := hL 27 (by decide +kernel)
        simp [go_sem, hc, hf, e27]
        refine (HI5.out W).mono ?_
        rintro e w' ⟨rfl, hb⟩
        exact ⟨_, rfl, by first | exact hb | (subst hb; exact Below.refl _ _), rfl⟩
      refine gSt (gStep_run rfl ?_) ?_
      · intro ρ W hC hc hf hL
        have e28 : ρ (.tmp 28) = .bool true := hL 28 (by decide +kernel)
        simp [go_sem, hc, hf, e28]
        exact ⟨Below.refl _ _, rfl⟩
      refine gSt (gStep_run rfl (gRun_move 29 30 (.inl rfl) rfl (by decide +kernel) (fun v w h => h))) ?_
      refine gSt (gStep_on 3 30 false rfl rfl (by decide +kernel) (fun v w h => h) (gRun_move 8 31 (.inl rfl) rfl (by decide +kernel) (fun v w h => h))) ?_
      refine gSt (gStep_on 3 30 false rfl rfl (by decide +kernel) (fun v w h => h) ?_) ?_
      · intro ρ W hC hc hf hL
        have e31 : ρ (.tmp 31) = .int .i64 m := hL 31 (by decide +kernel)
        simp [go_sem, hc, hf, e31]
        refine (HI8.out W).mono ?_
        rintro e w' ⟨rfl, hb⟩
        exact ⟨_, rfl, by first | exact hb | (subst hb; exact Below.refl _ _), rfl⟩
      refine gSt (gStep_on 3 30 false rfl rfl (by decide +kernel) (fun v w h => h) ?_) ?_
      · intro ρ W hC hc hf hL
        have e32 : ρ (.tmp 32) = .bool true := hL 32 (by decide +kernel)
        simp [go_sem, hc, hf, e32]
        exact ⟨Below.refl _ _, rfl⟩
      refine gSt (gStep_run rfl (gRun_pickCF 30 33 34 _ rfl rfl (by decide +kernel) (by decide +kernel) (fun v w h => h) (fun v w h => h))) ?_
      refine gSt (gStep_run rfl (gRun_move 34 35 (.inl rfl) rfl (by decide +kernel) (fun v w h => h))) ?_
      refine gSt (gStep_on 8 35 false rfl rfl (by decide +kernel) (fun v w h => h) (gRun_move 7 36 (.inl rfl) rfl (by decide +kernel) (fun v w h => h))) ?_
      refine gSt (gStep_on 8 35 false rfl rfl (by decide +kernel) (fun v w h => h) ?_) ?_
      · intro ρ W hC hc hf hL
        have e36 : ρ (.tmp 36) = .int .i64 f := hL 36 (by decide +kernel)
        simp [go_sem, hc, hf, e36]
        refine (HPR.out W).mono ?_
        rintro e w' ⟨rfl, hb⟩
        exact ⟨_, rfl, by first | exact hb | (subst hb; exact Below.refl _ _), rfl⟩
      refine gSt (gStep_on 8 35 false rfl rfl (by decide +kernel) (fun v w h => h) ?_) ?_
      · intro ρ W hC hc hf hL
        have e4 : ρ (.tmp 4) = .pointer (some ⟨w.heap.size + 1, 0, none⟩) := hL 4 (by decide +kernel)
        have ln := hC.1.n.n
        have le := hC.1.n.e
        have l0 := hC.1.n.x0
        have l1 := hC.1.n.x1
        have l2 := hC.1.n.x2
        have l3 := hC.1.n.x3
        have l4 := hC.1.n.x4
        have l5 := hC.1.n.x5
        have l6 := hC.1.n.x6
        have l7 := hC.1.n.x7
        simp [go_sem, hc, hf, e4, ln, le, l0, l1, l2, l3, l4, l5, l6, l7]
        exact ⟨Below.refl _ _, rfl⟩
      refine gSt (gStep_on 8 35 false rfl rfl (by decide +kernel) (fun v w h => h) (gRun_move 2 39 (.inl rfl) rfl (by decide +kernel) (fun v w h => h))) ?_
      refine gSt (gStep_on 8 35 false rfl rfl (by decide +kernel) (fun v w h => h) ?_) ?_
      · intro ρ W hC hc hf hL
        have e37 : ρ (.tmp 37) = .int .i64 P := hL 37 (by decide +kernel)
        have e38 : ρ (.tmp 38) = .agg #[.bool (neg), .int .i64 (z), .int .u64 (dgl (s) 0 : Nat), .int .u64 (dgl (s) 1 : Nat), .int .u64 (dgl (s) 2 : Nat), .int .u64 (dgl (s) 3 : Nat), .int .u64 (dgl (s) 4 : Nat), .int .u64 (dgl (s) 5 : Nat), .int .u64 (dgl (s) 6 : Nat), .int .u64 (dgl (s) 7 : Nat)] := hL 38 (by decide +kernel)
        have e39 : ρ (.tmp 39) = .bool more := hL 39 (by decide +kernel)
        simp [go_sem, hc, hf, e37, e38, e39]
        refine (HRA.out W).mono ?_
        rintro e w' ⟨rfl, hb⟩
        exact ⟨_, rfl, by first | exact hb | (subst hb; exact Below.refl _ _), rfl⟩
      refine gSt (gStep_on 8 35 false rfl rfl (by decide +kernel) (fun v w h => h) ?_) ?_
      · intro ρ W hC hc hf hL
        have e40 : ρ (.tmp 40) = .bool false := hL 40 (by decide +kernel)
        simp [go_sem, hc, hf, e40]
        exact ⟨Below.refl _ _, rfl⟩
      refine gSt (gStep_run rfl (gRun_pickCF 35 41 42 _ rfl rfl (by decide +kernel) (by decide +kernel) (fun v w h => h) (fun v w h => h))) ?_
      exact gSt0
    · intro W hC
      refine gFi 27 rfl ?_
      rintro _ rfl
      refine gFi 28 rfl ?_
      rintro _ rfl
      refine gFi 29 rfl ?_
      rintro _ rfl
      refine gFi 30 rfl ?_
      rintro _ rfl
      refine gFi 31 rfl ?_
      rintro _ rfl
      refine gFi 32 rfl ?_
      rintro _ rfl
      refine gFi 33 rfl ?_
      rintro _ rfl
      refine gFi 34 rfl ?_
      rintro _ rfl
      refine gFi 35 rfl ?_
      rintro _ rfl
      refine gFi 36 rfl ?_
      rintro _ rfl
      refine gFi 37 rfl ?_
      rintro _ rfl
      refine gFi 38 rfl ?_
      rintro _ rfl
      refine gFi 39 rfl ?_
      rintro _ rfl
      refine gFi 40 rfl ?_
      rintro _ rfl
      refine gFi 41 rfl ?_
      rintro _ rfl
      refine gFi 42 rfl ?_
      rintro _ rfl
      refine gFi0 ?_
      simp only [List.drop_succ_cons, List.drop_zero, Act.put, List.setIfInBounds_toArray, List.set_cons_succ, List.set_cons_zero]
      obtain ⟨g1, g2⟩ := hC
      have HS := hide g1
      have HX := hide g2
      clear g1 g2 h3
      have xh := HX.out.h
      have xl := HX.out.l
      clear HX
      go_wp2_with fail
      refine (awake9_any _ HS.out.g).mono ?_
      rintro e w9 ⟨rfl, hb9⟩
      have HB := hide (below_trans HS.out.bel hb9)
      clear hb9 HS
      go_wp2
      go_ret
      exact ⟨rfl, HB.out⟩
      
    

set_option maxHeartbeats 4000000 in
theorem packRounds_Z (f m z P E fl : Int) (neg more : Bool) (s num a : Nat)
    (HRO : Hid (∀ w, FmtG w → Calls Tryz.prog 4 #[.int .i64 f, .int .i64 m, .agg #[.bool (neg), .int .i64 (z), .int .u64 (dgl (s) 0 : Nat), .int .u64 (dgl (s) 1 : Nat), .int .u64 (dgl (s) 2 : Nat), .int .u64 (dgl (s) 3 : Nat), .int .u64 (dgl (s) 4 : Nat), .int .u64 (dgl (s) 5 : Nat), .int .u64 (dgl (s) 6 : Nat), .int .u64 (dgl (s) 7 : Nat)], .bool more] w fun e w' => e = .returned (.tuple #[.agg #[.int .u64 (dgl (a) 1 : Nat), .int .u64 (dgl (a) 0 : Nat)], .int .i64 0, .int .i64 0]) ∧ Below w.heap.size w w'))
    (HI5 : Hid (∀ w, Calls Tryz.prog 5 #[.int .i64 f] w fun e w' => e = .returned (.bool true) ∧ Below w.heap.size w w'))
    (HI8 : Hid (∀ w, Calls Tryz.prog 6 #[.int .i64 m] w fun e w' => e = .returned (.bool true) ∧ Below w.heap.size w w'))
    (HPR : Hid (∀ w, Calls Tryz.prog 8 #[.int .i64 f] w fun e w' => e = .returned (.int .i64 P) ∧ Below w.heap.size w w'))
    (HRA : Hid (∀ w, Calls Tryz.prog 7 #[.int .i64 P, .agg #[.bool (neg), .int .i64 (z), .int .u64 (dgl (s) 0 : Nat), .int .u64 (dgl (s) 1 : Nat), .int .u64 (dgl (s) 2 : Nat), .int .u64 (dgl (s) 3 : Nat), .int .u64 (dgl (s) 4 : Nat), .int .u64 (dgl (s) 5 : Nat), .int .u64 (dgl (s) 6 : Nat), .int .u64 (dgl (s) 7 : Nat)], .bool more] w fun e w' => e = .returned (.bool true) ∧ Below w.heap.size w w'))
    (hq : ∀ w, (Op.equalIn 10000 29 (.agg #[.int .u64 (dgl (a) 1 : Nat), .int .u64 (dgl (a) 0 : Nat)]) (.agg #[.int .u64 (dgl (a) 1 : Nat), .int .u64 (dgl (a) 0 : Nat)])).run Tryz.prog w = .ok true w)
    (hs : s < QQ)
    (hl0 : (Go.bitLen s : Nat) = 0)
    (HNO : Hid (∀ w, Calls Tryz.prog 12 #[.int .i64 f, .bool neg] w fun e w' => e = .returned (.agg #[.int .u64 (dgl (a) 1 : Nat), .int .u64 (dgl (a) 0 : Nat)]) ∧ Below w.heap.size w w')) (w : World) (hg : FmtG w) :
    Calls Tryz.prog 3 #[.agg #[.int .i64 f, .int .i64 m], .agg #[.bool (neg), .int .i64 (z), .int .u64 (dgl (s) 0 : Nat), .int .u64 (dgl (s) 1 : Nat), .int .u64 (dgl (s) 2 : Nat), .int .u64 (dgl (s) 3 : Nat), .int .u64 (dgl (s) 4 : Nat), .int .u64 (dgl (s) 5 : Nat), .int .u64 (dgl (s) 6 : Nat), .int .u64 (dgl (s) 7 : Nat)], .bool more] w fun e w' => e = .returned (.bool true) ∧ Below w.heap.size w w' := by
  have HS := hide (prSt_start f m neg z s w hg 22)
  clear hg
  have HBG := hide (fun w => refBig_any s hs w)
  have HLN := hide (fun v w h => refLen_any s 40 v w h (by decide))
  clear hs
  rw [hl0] at HLN
  go_enter Tryz.func3, Tryz.ntmps3
  go_upto_region 1 with fail
  refine wp_gen (fun W => PrSt f m neg z s w W) HS.out ?_
  clear HS
  rintro W1 h1
  refine wp_region_grow 6 [(14, .val (.pointer (some ⟨w.heap.size, 0, none⟩))), (15, .val (.int .i64 f)), (16, .val (.pointer (some ⟨w.heap.size, 1, none⟩))), (17, .val (.int .i64 m)), (7, .val (.int .i64 f)), (8, .val (.int .i64 m))]
    (fun W => PrSt f m neg z s w W) mixedOk (by kernel_rfl) (by kernel_rfl) (h1.below (Below.refl _ _).drew) (fun W W' h hb => h.below hb) ?_ ?_
  · refine gSt (gStep_run rfl ?_) ?_
    · intro ρ W hC hc hf hL
      have e3 : ρ (.tmp 3) = .pointer (some ⟨w.heap.size, 0, none⟩) := hL 3 (by decide +kernel)
      have hl : w.heap.size < W.heap.size := by have := hC.lt; omega
      simp [go_sem, hc, hf, e3, hl]
      exact ⟨Below.refl _ _, rfl⟩
    refine gSt (gStep_run rfl ?_) ?_
    · intro ρ W hC hc hf hL
      have e14 : ρ (.tmp 14) = .pointer (some ⟨w.heap.size, 0, none⟩) := hL 14 (by decide +kernel)
      have q := hC.q0
      simp [go_sem, hc, hf, e14, q]
      exact ⟨Below.refl _ _, rfl⟩
    refine gSt (gStep_run rfl ?_) ?_
    · intro ρ W hC hc hf hL
      have e3 : ρ (.tmp 3) = .pointer (some ⟨w.heap.size, 0, none⟩) := hL 3 (by decide +kernel)
      have hl : w.heap.size < W.heap.size := by have := hC.lt; omega
      simp [go_sem, hc, hf, e3, hl]
      exact ⟨Below.refl _ _, rfl⟩
    refine gSt (gStep_run rfl ?_) ?_
    · intro ρ W hC hc hf hL
      have e16 : ρ (.tmp 16) = .pointer (some ⟨w.heap.size, 1, none⟩) := hL 16 (by decide +kernel)
      have q := hC.q1
      simp [go_sem, hc, hf, e16, q]
      exact ⟨Below.refl _ _, rfl⟩
    refine gSt (gStep_run rfl (gRun_move 15 7 (.inr rfl) rfl (by decide +kernel) (fun v w h => h))) ?_
    refine gSt (gStep_run rfl (gRun_move 17 8 (.inr rfl) rfl (by decide +kernel) (fun v w h => h))) ?_
    exact gSt0
  · intro W hC
    refine gFi 14 rfl ?_
    rintro _ rfl
    refine gFi 15 rfl ?_
    rintro _ rfl
    refine gFi 16 rfl ?_
    rintro _ rfl
    refine gFi 17 rfl ?_
    rintro _ rfl
    refine gFi 7 rfl ?_
    rintro _ rfl
    refine gFi 8 rfl ?_
    rintro _ rfl
    refine gFi0 ?_
    simp only [List.drop_succ_cons, List.drop_zero, Act.put, List.setIfInBounds_toArray, List.set_cons_succ, List.set_cons_zero]
    have HS := hide hC
    clear hC h1
    have ln := HS.out.n.n
    have le := HS.out.n.e
    have l0 := HS.out.n.x0
    have l1 := HS.out.n.x1
    have l2 := HS.out.n.x2
    have l3 := HS.out.n.x3
    have l4 := HS.out.n.x4
    have l5 := HS.out.n.x5
    have l6 := HS.out.n.x6
    have l7 := HS.out.n.x7
    go_wp2_with fail
    refine (HRO.out _ HS.out.g).mono ?_
    rintro e w3 ⟨rfl, hb3⟩
    replace HS := hide (HS.out.below hb3)
    clear hb3
    clear ln le l0 l1 l2 l3 l4 l5 l6 l7
    go_upto_region 3 with fail
    refine wp_gen (fun W => PrSt f m neg z s w W ∧ WB W w3.heap.size (dgl a 1) (dgl a 0)) ⟨HS.out.below (below_allocs _ _), wb_new2 _ _ _ _⟩ ?_
    clear HS
    generalize w3.heap.size = p9 at *
    rintro W3 h3
    refine wp_region_grow 16 [(27, .val (.int .i64 f)), (28, .val (.bool true)), (29, .val (.bool false)), (30, .val (.bool false)), (31, .val (.int .i64 m)), (32, .val (.bool true)), (33, .val (.bool false)), (34, .val (.bool false)), (35, .val (.bool false)), (36, .val (.int .i64 f)), (37, .val (.int .i64 P)), (38, .val (.agg #[.bool (neg), .int .i64 (z), .int .u64 (dgl (s) 0 : Nat), .int .u64 (dgl (s) 1 : Nat), .int .u64 (dgl (s) 2 : Nat), .int .u64 (dgl (s) 3 : Nat), .int .u64 (dgl (s) 4 : Nat), .int .u64 (dgl (s) 5 : Nat), .int .u64 (dgl (s) 6 : Nat), .int .u64 (dgl (s) 7 : Nat)])), (39, .val (.bool more)), (40, .val (.bool true)), (41, .val (.bool false)), (42, .val (.bool false))]
      (fun W => PrSt f m neg z s w W ∧ WB W p9 (dgl a 1) (dgl a 0)) mixedOk (by kernel_rfl) (by kernel_rfl) (⟨h3.1.below (Below.refl _ _).drew, h3.2.below (Below.refl _ _).drew⟩) (fun W W' h hb => ⟨h.1.below hb, h.2.below hb⟩) ?_ ?_
    · refine gSt (gStep_run rfl (gRun_move 7 27 (.inl rfl) rfl (by decide +kernel) (fun v w h => h))) ?_
      refine gSt (gStep_run rfl ?_) ?_
      · intro ρ W hC hc hf hL
        have e27 : ρ (.tmp 27) = .int .i64 f := hL 27 (by decide +kernel)
        simp [go_sem, hc, hf, e27]
        refine (HI5.out W).mono ?_
        rintro e w' ⟨rfl, hb⟩
        exact ⟨_, rfl, by first | exact hb | (subst hb; exact Below.refl _ _), rfl⟩
      refine gSt (gStep_run rfl ?_) ?_
      · intro ρ W hC hc hf hL
        have e28 : ρ (.tmp 28) = .bool true := hL 28 (by decide +kernel)
        simp [go_sem, hc, hf, e28]
        exact ⟨Below.refl _ _, rfl⟩
      refine gSt (gStep_run rfl (gRun_move 29 30 (.inl rfl) rfl (by decide +kernel) (fun v w h => h))) ?_
      refine gSt (gStep_on 3 30 false rfl rfl (by decide +kernel) (fun v w h => h) (gRun_move 8 31 (.inl rfl) rfl (by decide +kernel) (fun v w h => h))) ?_
      refine gSt (gStep_on 3 30 false rfl rfl (by decide +kernel) (fun v w h => h) ?_) ?_
      · intro ρ W hC hc hf hL
        have e31 : ρ (.tmp 31) = .int .i64 m := hL 31 (by decide +kernel)
        simp [go_sem, hc, hf, e31]
        refine (HI8.out W).mono ?_
        rintro e w' ⟨rfl, hb⟩
        exact ⟨_, rfl, by first | exact hb | (subst hb; exact Below.refl _ _), rfl⟩
      refine gSt (gStep_on 3 30 false rfl rfl (by decide +kernel) (fun v w h => h) ?_) ?_
      · intro ρ W hC hc hf hL
        have e32 : ρ (.tmp 32) = .bool true := hL 32 (by decide +kernel)
        simp [go_sem, hc, hf, e32]
        exact ⟨Below.refl _ _, rfl⟩
      refine gSt (gStep_run rfl (gRun_pickCF 30 33 34 _ rfl rfl (by decide +kernel) (by decide +kernel) (fun v w h => h) (fun v w h => h))) ?_
      refine gSt (gStep_run rfl (gRun_move 34 35 (.inl rfl) rfl (by decide +kernel) (fun v w h => h))) ?_
      refine gSt (gStep_on 8 35 false rfl rfl (by decide +kernel) (fun v w h => h) (gRun_move 7 36 (.inl rfl) rfl (by decide +kernel) (fun v w h => h))) ?_
      refine gSt (gStep_on 8 35 false rfl rfl (by decide +kernel) (fun v w h => h) ?_) ?_
      · intro ρ W hC hc hf hL
        have e36 : ρ (.tmp 36) = .int .i64 f := hL 36 (by decide +kernel)
        simp [go_sem, hc, hf, e36]
        refine (HPR.out W).mono ?_
        rintro e w' ⟨rfl, hb⟩
        exact ⟨_, rfl, by first | exact hb | (subst hb; exact Below.refl _ _), rfl⟩
      refine gSt (gStep_on 8 35 false rfl rfl (by decide +kernel) (fun v w h => h) ?_) ?_
      · intro ρ W hC hc hf hL
        have e4 : ρ (.tmp 4) = .pointer (some ⟨w.heap.size + 1, 0, none⟩) := hL 4 (by decide +kernel)
        have ln := hC.1.n.n
        have le := hC.1.n.e
        have l0 := hC.1.n.x0
        have l1 := hC.1.n.x1
        have l2 := hC.1.n.x2
        have l3 := hC.1.n.x3
        have l4 := hC.1.n.x4
        have l5 := hC.1.n.x5
        have l6 := hC.1.n.x6
        have l7 := hC.1.n.x7
        simp [go_sem, hc, hf, e4, ln, le, l0, l1, l2, l3, l4, l5, l6, l7]
        exact ⟨Below.refl _ _, rfl⟩
      refine gSt (gStep_on 8 35 false rfl rfl (by decide +kernel) (fun v w h => h) (gRun_move 2 39 (.inl rfl) rfl (by decide +kernel) (fun v w h => h))) ?_
      refine gSt (gStep_on 8 35 false rfl rfl (by decide +kernel) (fun v w h => h) ?_) ?_
      · intro ρ W hC hc hf hL
        have e37 : ρ (.tmp 37) = .int .i64 P := hL 37 (by decide +kernel)
        have e38 : ρ (.tmp 38) = .agg #[.bool (neg), .int .i64 (z), .int .u64 (dgl (s) 0 : Nat), .int .u64 (dgl (s) 1 : Nat), .int .u64 (dgl (s) 2 : Nat), .int .u64 (dgl (s) 3 : Nat), .int .u64 (dgl (s) 4 : Nat), .int .u64 (dgl (s) 5 : Nat), .int .u64 (dgl (s) 6 : Nat), .int .u64 (dgl (s) 7 : Nat)] := hL 38 (by decide +kernel)
        have e39 : ρ (.tmp 39) = .bool more := hL 39 (by decide +kernel)
        simp [go_sem, hc, hf, e37, e38, e39]
        refine (HRA.out W).mono ?_
        rintro e w' ⟨rfl, hb⟩
        exact ⟨_, rfl, by first | exact hb | (subst hb; exact Below.refl _ _), rfl⟩
      refine gSt (gStep_on 8 35 false rfl rfl (by decide +kernel) (fun v w h => h) ?_) ?_
      · intro ρ W hC hc hf hL
        have e40 : ρ (.tmp 40) = .bool true := hL 40 (by decide +kernel)
        simp [go_sem, hc, hf, e40]
        exact ⟨Below.refl _ _, rfl⟩
      refine gSt (gStep_run rfl (gRun_pickCF 35 41 42 _ rfl rfl (by decide +kernel) (by decide +kernel) (fun v w h => h) (fun v w h => h))) ?_
      exact gSt0
    · intro W hC
      refine gFi 27 rfl ?_
      rintro _ rfl
      refine gFi 28 rfl ?_
      rintro _ rfl
      refine gFi 29 rfl ?_
      rintro _ rfl
      refine gFi 30 rfl ?_
      rintro _ rfl
      refine gFi 31 rfl ?_
      rintro _ rfl
      refine gFi 32 rfl ?_
      rintro _ rfl
      refine gFi 33 rfl ?_
      rintro _ rfl
      refine gFi 34 rfl ?_
      rintro _ rfl
      refine gFi 35 rfl ?_
      rintro _ rfl
      refine gFi 36 rfl ?_
      rintro _ rfl
      refine gFi 37 rfl ?_
      rintro _ rfl
      refine gFi 38 rfl ?_
      rintro _ rfl
      refine gFi 39 rfl ?_
      rintro _ rfl
      refine gFi 40 rfl ?_
      rintro _ rfl
      refine gFi 41 rfl ?_
      rintro _ rfl
      refine gFi 42 rfl ?_
      rintro _ rfl
      refine gFi0 ?_
      simp only [List.drop_succ_cons, List.drop_zero, Act.put, List.setIfInBounds_toArray, List.set_cons_succ, List.set_cons_zero]
      obtain ⟨g1, g2⟩ := hC
      have HS := hide g1
      have HX := hide g2
      clear g1 g2 h3
      have ln := HS.out.n.n
      have le := HS.out.n.e
      have l0 := HS.out.n.x0
      have l1 := HS.out.n.x1
      have l2 := HS.out.n.x2
      have l3 := HS.out.n.x3
      have l4 := HS.out.n.x4
      have l5 := HS.out.n.x5
      have l6 := HS.out.n.x6
      have l7 := HS.out.n.x7
      go_wp2_with fail
      refine (HBG.out _).mono ?_
      rintro e w5 ⟨v5, rfl, hv5, hb5⟩
      replace HS := hide (HS.out.below hb5)
      replace HX := hide (HX.out.below hb5)
      clear hb5
      clear ln le l0 l1 l2 l3 l4 l5 l6 l7
      go_wp2_with fail
      refine (HLN.out _ _ hv5).mono ?_
      rintro e w6 ⟨rfl, hw⟩
      subst w6
      clear hv5
      go_upto_region 6 with fail
      refine wp_gen (fun W => PrSt f m neg z s w W ∧ WB W p9 (dgl a 1) (dgl a 0)) ⟨HS.out, HX.out⟩ ?_
      clear HS HX
      rintro W6 h6
      refine wp_region_grow 18 [(62, .val (.int .i64 0)), (63, .val (.bool true)), (64, .val (.bool true)), (65, .val (.int .i64 0)), (66, .val (.bool true)), (67, .val (.bool true)), (68, .val (.bool true)), (69, .val (.agg #[.int .u64 (dgl (a) 1 : Nat), .int .u64 (dgl (a) 0 : Nat)])), (70, .val (.int .i64 f)), (71, .val (.pointer (some ⟨w.heap.size + 1, 0, none⟩))), (72, .val (.bool neg)), (73, .val (.agg #[.int .u64 (dgl (a) 1 : Nat), .int .u64 (dgl (a) 0 : Nat)])), (74, .val (.bool true)), (75, .val (.bool true)), (76, .val (.bool true)), (77, .val (.bool true)), (78, .val (.bool true)), (6, .val (.bool true))]
        (fun W => PrSt f m neg z s w W ∧ WB W p9 (dgl a 1) (dgl a 0)) mixedOk (by kernel_rfl) (by kernel_rfl) (⟨h6.1.below (Below.refl _ _).drew, h6.2.below (Below.refl _ _).drew⟩) (fun W W' h hb => ⟨h.1.below hb, h.2.below hb⟩) ?_ ?_
      · refine gSt (gStep_run rfl (gRun_move 11 62 (.inl rfl) rfl (by decide +kernel) (fun v w h => h))) ?_
        refine gSt (gStep_run rfl ?_) ?_
        · intro ρ W hC hc hf hL
          have e62 : ρ (.tmp 62) = .int .i64 0 := hL 62 (by decide +kernel)
          simp [go_sem, hc, hf, e62]
          exact ⟨Below.refl _ _, rfl⟩
        refine gSt (gStep_run rfl (gRun_move 63 64 (.inl rfl) rfl (by decide +kernel) (fun v w h => h))) ?_
        refine gSt (gStep_on 2 64 true rfl rfl (by decide +kernel) (fun v w h => h) (gRun_move 10 65 (.inl rfl) rfl (by decide +kernel) (fun v w h => h))) ?_
        refine gSt (gStep_on 2 64 true rfl rfl (by decide +kernel) (fun v w h => h) ?_) ?_
        · intro ρ W hC hc hf hL
          have e65 : ρ (.tmp 65) = .int .i64 0 := hL 65 (by decide +kernel)
          simp [go_sem, hc, hf, e65]
          exact ⟨Below.refl _ _, rfl⟩
        refine gSt (gStep_run rfl (gRun_pickT 64 66 67 _ rfl rfl (by decide +kernel) (by decide +kernel) (fun v w h => h) (fun v w h => h))) ?_
        refine gSt (gStep_run rfl (gRun_move 67 68 (.inl rfl) rfl (by decide +kernel) (fun v w h => h))) ?_
        refine gSt (gStep_on 6 68 true rfl rfl (by decide +kernel) (fun v w h => h) ?_) ?_
        · intro ρ W hC hc hf hL
          have e9 : ρ (.tmp 9) = .pointer (some ⟨p9, 0, none⟩) := hL 9 (by decide +kernel)
          have lh := hC.2.h
          have ll := hC.2.l
          simp [go_sem, hc, hf, e9, lh, ll]
          exact ⟨Below.refl _ _, rfl⟩
        refine gSt (gStep_on 6 68 true rfl rfl (by decide +kernel) (fun v w h => h) (gRun_move 7 70 (.inl rfl) rfl (by decide +kernel) (fun v w h => h))) ?_
        refine gSt (gStep_on 6 68 true rfl rfl (by decide +kernel) (fun v w h => h) ?_) ?_
        · intro ρ W hC hc hf hL
          have e4 : ρ (.tmp 4) = .pointer (some ⟨w.heap.size + 1, 0, none⟩) := hL 4 (by decide +kernel)
          simp [go_sem, hc, hf, e4]
          exact ⟨Below.refl _ _, rfl⟩
        refine gSt (gStep_on 6 68 true rfl rfl (by decide +kernel) (fun v w h => h) ?_) ?_
        · intro ρ W hC hc hf hL
          have e71 : ρ (.tmp 71) = .pointer (some ⟨w.heap.size + 1, 0, none⟩) := hL 71 (by decide +kernel)
          have q := hC.1.n.n
          simp [go_sem, hc, hf, e71, q]
          exact ⟨Below.refl _ _, rfl⟩
        refine gSt (gStep_on 6 68 true rfl rfl (by decide +kernel) (fun v w h => h) ?_) ?_
        · intro ρ W hC hc hf hL
          have e70 : ρ (.tmp 70) = .int .i64 f := hL 70 (by decide +kernel)
          have e72 : ρ (.tmp 72) = .bool neg := hL 72 (by decide +kernel)
          simp [go_sem, hc, hf, e70, e72]
          refine (HNO.out W).mono ?_
          rintro e w' ⟨rfl, hb⟩
          exact ⟨_, rfl, by first | exact hb | (subst hb; exact Below.refl _ _), rfl⟩
        refine gSt (gStep_on 6 68 true rfl rfl (by decide +kernel) (fun v w h => h) ?_) ?_
        · intro ρ W hC hc hf hL
          have e69 : ρ (.tmp 69) = .agg #[.int .u64 (dgl (a) 1 : Nat), .int .u64 (dgl (a) 0 : Nat)] := hL 69 (by decide +kernel)
          have e73 : ρ (.tmp 73) = .agg #[.int .u64 (dgl (a) 1 : Nat), .int .u64 (dgl (a) 0 : Nat)] := hL 73 (by decide +kernel)
          simp [go_sem, hc, hf, e69, e73, hq]
          exact ⟨Below.refl _ _, rfl⟩
        refine gSt (gStep_run rfl (gRun_pickT 68 74 75 _ rfl rfl (by decide +kernel) (by decide +kernel) (fun v w h => h) (fun v w h => h))) ?_
        refine gSt (gStep_run rfl (gRun_move 75 76 (.inl rfl) rfl (by decide +kernel) (fun v w h => h))) ?_
        refine gSt (gStep_on 14 76 true rfl rfl (by decide +kernel) (fun v w h => h) ?_) ?_
        · intro ρ W hC hc hf hL
          simp [go_sem, hc, hf]
          refine (awake9_any W hC.1.g).mono ?_
          rintro e w' ⟨rfl, hb⟩
          exact ⟨_, rfl, by first | exact hb | (subst hb; exact Below.refl _ _), rfl⟩
        refine gSt (gStep_run rfl (gRun_pickT 76 77 78 _ rfl rfl (by decide +kernel) (by decide +kernel) (fun v w h => h) (fun v w h => h))) ?_
        refine gSt (gStep_run rfl (gRun_move 78 6 (.inr rfl) rfl (by decide +kernel) (fun v w h => h))) ?_
        exact gSt0
      · intro W hC
        refine gFi 62 rfl ?_
        rintro _ rfl
        refine gFi 63 rfl ?_
        rintro _ rfl
        refine gFi 64 rfl ?_
        rintro _ rfl
        refine gFi 65 rfl ?_
        rintro _ rfl
        refine gFi 66 rfl ?_
        rintro _ rfl
        refine gFi 67 rfl ?_
        rintro _ rfl
        refine gFi 68 rfl ?_
        rintro _ rfl
        refine gFi 69 rfl ?_
        rintro _ rfl
        refine gFi 70 rfl ?_
        rintro _ rfl
        refine gFi 71 rfl ?_
        rintro _ rfl
        refine gFi 72 rfl ?_
        rintro _ rfl
        refine gFi 73 rfl ?_
        rintro _ rfl
        refine gFi 74 rfl ?_
        rintro _ rfl
        refine gFi 75 rfl ?_
        rintro _ rfl
        refine gFi 76 rfl ?_
        rintro _ rfl
        refine gFi 77 rfl ?_
        rintro _ rfl
        refine gFi 78 rfl ?_
        rintro _ rfl
        refine gFi 6 rfl ?_
        rintro _ rfl
        refine gFi0 ?_
        simp only [List.drop_succ_cons, List.drop_zero, Act.put, List.setIfInBounds_toArray, List.set_cons_succ, List.set_cons_zero]
        have HB := hide hC.1.bel
        clear hC h6
        go_wp2
        go_ret
        exact ⟨rfl, HB.out⟩
        
      
    

set_option maxHeartbeats 4000000 in
theorem packRounds_Y (f m z P E fl : Int) (neg more : Bool) (s num a : Nat)
    (HRO : Hid (∀ w, FmtG w → Calls Tryz.prog 4 #[.int .i64 f, .int .i64 m, .agg #[.bool (neg), .int .i64 (z), .int .u64 (dgl (s) 0 : Nat), .int .u64 (dgl (s) 1 : Nat), .int .u64 (dgl (s) 2 : Nat), .int .u64 (dgl (s) 3 : Nat), .int .u64 (dgl (s) 4 : Nat), .int .u64 (dgl (s) 5 : Nat), .int .u64 (dgl (s) 6 : Nat), .int .u64 (dgl (s) 7 : Nat)], .bool more] w fun e w' => e = .returned (.tuple #[.agg #[.int .u64 (dgl (a) 1 : Nat), .int .u64 (dgl (a) 0 : Nat)], .int .i64 fl, .int .i64 0]) ∧ Below w.heap.size w w'))
    (HI5 : Hid (∀ w, Calls Tryz.prog 5 #[.int .i64 f] w fun e w' => e = .returned (.bool true) ∧ Below w.heap.size w w'))
    (HI8 : Hid (∀ w, Calls Tryz.prog 6 #[.int .i64 m] w fun e w' => e = .returned (.bool true) ∧ Below w.heap.size w w'))
    (HPR : Hid (∀ w, Calls Tryz.prog 8 #[.int .i64 f] w fun e w' => e = .returned (.int .i64 P) ∧ Below w.heap.size w w'))
    (HRA : Hid (∀ w, Calls Tryz.prog 7 #[.int .i64 P, .agg #[.bool (neg), .int .i64 (z), .int .u64 (dgl (s) 0 : Nat), .int .u64 (dgl (s) 1 : Nat), .int .u64 (dgl (s) 2 : Nat), .int .u64 (dgl (s) 3 : Nat), .int .u64 (dgl (s) 4 : Nat), .int .u64 (dgl (s) 5 : Nat), .int .u64 (dgl (s) 6 : Nat), .int .u64 (dgl (s) 7 : Nat)], .bool more] w fun e w' => e = .returned (.bool true) ∧ Below w.heap.size w w'))
    (hq : ∀ w, (Op.equalIn 10000 29 (.agg #[.int .u64 (dgl (a) 1 : Nat), .int .u64 (dgl (a) 0 : Nat)]) (.agg #[.int .u64 (dgl (a) 1 : Nat), .int .u64 (dgl (a) 0 : Nat)])).run Tryz.prog w = .ok true w)
    (hs : s < QQ)
    (hl0 : (Go.bitLen s : Nat) ≠ 0)
    (HOF : Hid (∀ w, Calls Tryz.prog 14 #[.agg #[.bool (neg), .int .i64 (z), .int .u64 (dgl (s) 0 : Nat), .int .u64 (dgl (s) 1 : Nat), .int .u64 (dgl (s) 2 : Nat), .int .u64 (dgl (s) 3 : Nat), .int .u64 (dgl (s) 4 : Nat), .int .u64 (dgl (s) 5 : Nat), .int .u64 (dgl (s) 6 : Nat), .int .u64 (dgl (s) 7 : Nat)], .bool more] w fun e w' => ∃ u, e = .returned u ∧ RlV w' u neg 1 num 1 E 80 ∧ Below w.heap.size w w'))
    (HRR : Hid (∀ u w, RlV w u neg 1 num 1 E 80 → Calls Tryz.prog 13 #[.int .i64 f, .int .i64 m, u] w fun e w' => e = .returned (.tuple #[.agg #[.int .u64 (dgl (a) 1 : Nat), .int .u64 (dgl (a) 0 : Nat)], .int .i64 fl]) ∧ Below w.heap.size w w')) (w : World) (hg : FmtG w) :
    Calls Tryz.prog 3 #[.agg #[.int .i64 f, .int .i64 m], .agg #[.bool (neg), .int .i64 (z), .int .u64 (dgl (s) 0 : Nat), .int .u64 (dgl (s) 1 : Nat), .int .u64 (dgl (s) 2 : Nat), .int .u64 (dgl (s) 3 : Nat), .int .u64 (dgl (s) 4 : Nat), .int .u64 (dgl (s) 5 : Nat), .int .u64 (dgl (s) 6 : Nat), .int .u64 (dgl (s) 7 : Nat)], .bool more] w fun e w' => e = .returned (.bool true) ∧ Below w.heap.size w w' := by
  have HS := hide (prSt_start f m neg z s w hg 22)
  clear hg
  have HBG := hide (fun w => refBig_any s hs w)
  have HLN := hide (fun v w h => refLen_any s 40 v w h (by decide))
  clear hs
  have hl1 : ¬ ((Go.bitLen s : Nat) : Int) = 0 := by omega
  clear hl0
  generalize Go.bitLen s = ls at *
  go_enter Tryz.func3, Tryz.ntmps3
  go_upto_region 1 with fail
  refine wp_gen (fun W => PrSt f m neg z s w W) HS.out ?_
  clear HS
  rintro W1 h1
  refine wp_region_grow 6 [(14, .val (.pointer (some ⟨w.heap.size, 0, none⟩))), (15, .val (.int .i64 f)), (16, .val (.pointer (some ⟨w.heap.size, 1, none⟩))), (17, .val (.int .i64 m)), (7, .val (.int .i64 f)), (8, .val (.int .i64 m))]
    (fun W => PrSt f m neg z s w W) mixedOk (by kernel_rfl) (by kernel_rfl) (h1.below (Below.refl _ _).drew) (fun W W' h hb => h.below hb) ?_ ?_
  · refine gSt (gStep_run rfl ?_) ?_
    · intro ρ W hC hc hf hL
      have e3 : ρ (.tmp 3) = .pointer (some ⟨w.heap.size, 0, none⟩) := hL 3 (by decide +kernel)
      have hl : w.heap.size < W.heap.size := by have := hC.lt; omega
      simp [go_sem, hc, hf, e3, hl]
      exact ⟨Below.refl _ _, rfl⟩
    refine gSt (gStep_run rfl ?_) ?_
    · intro ρ W hC hc hf hL
      have e14 : ρ (.tmp 14) = .pointer (some ⟨w.heap.size, 0, none⟩) := hL 14 (by decide +kernel)
      have q := hC.q0
      simp [go_sem, hc, hf, e14, q]
      exact ⟨Below.refl _ _, rfl⟩
    refine gSt (gStep_run rfl ?_) ?_
    · intro ρ W hC hc hf hL
      have e3 : ρ (.tmp 3) = .pointer (some ⟨w.heap.size, 0, none⟩) := hL 3 (by decide +kernel)
      have hl : w.heap.size < W.heap.size := by have := hC.lt; omega
      simp [go_sem, hc, hf, e3, hl]
      exact ⟨Below.refl _ _, rfl⟩
    refine gSt (gStep_run rfl ?_) ?_
    · intro ρ W hC hc hf hL
      have e16 : ρ (.tmp 16) = .pointer (some ⟨w.heap.size, 1, none⟩) := hL 16 (by decide +kernel)
      have q := hC.q1
      simp [go_sem, hc, hf, e16, q]
      exact ⟨Below.refl _ _, rfl⟩
    refine gSt (gStep_run rfl (gRun_move 15 7 (.inr rfl) rfl (by decide +kernel) (fun v w h => h))) ?_
    refine gSt (gStep_run rfl (gRun_move 17 8 (.inr rfl) rfl (by decide +kernel) (fun v w h => h))) ?_
    exact gSt0
  · intro W hC
    refine gFi 14 rfl ?_
    rintro _ rfl
    refine gFi 15 rfl ?_
    rintro _ rfl
    refine gFi 16 rfl ?_
    rintro _ rfl
    refine gFi 17 rfl ?_
    rintro _ rfl
    refine gFi 7 rfl ?_
    rintro _ rfl
    refine gFi 8 rfl ?_
    rintro _ rfl
    refine gFi0 ?_
    simp only [List.drop_succ_cons, List.drop_zero, Act.put, List.setIfInBounds_toArray, List.set_cons_succ, List.set_cons_zero]
    have HS := hide hC
    clear hC h1
    have ln := HS.out.n.n
    have le := HS.out.n.e
    have l0 := HS.out.n.x0
    have l1 := HS.out.n.x1
    have l2 := HS.out.n.x2
    have l3 := HS.out.n.x3
    have l4 := HS.out.n.x4
    have l5 := HS.out.n.x5
    have l6 := HS.out.n.x6
    have l7 := HS.out.n.x7
    go_wp2_with fail
    refine (HRO.out _ HS.out.g).mono ?_
    rintro e w3 ⟨rfl, hb3⟩
    replace HS := hide (HS.out.below hb3)
    clear hb3
    clear ln le l0 l1 l2 l3 l4 l5 l6 l7
    go_upto_region 3 with fail
    refine wp_gen (fun W => PrSt f m neg z s w W ∧ WB W w3.heap.size (dgl a 1) (dgl a 0)) ⟨HS.out.below (below_allocs _ _), wb_new2 _ _ _ _⟩ ?_
    clear HS
    generalize w3.heap.size = p9 at *
    rintro W3 h3
    refine wp_region_grow 16 [(27, .val (.int .i64 f)), (28, .val (.bool true)), (29, .val (.bool false)), (30, .val (.bool false)), (31, .val (.int .i64 m)), (32, .val (.bool true)), (33, .val (.bool false)), (34, .val (.bool false)), (35, .val (.bool false)), (36, .val (.int .i64 f)), (37, .val (.int .i64 P)), (38, .val (.agg #[.bool (neg), .int .i64 (z), .int .u64 (dgl (s) 0 : Nat), .int .u64 (dgl (s) 1 : Nat), .int .u64 (dgl (s) 2 : Nat), .int .u64 (dgl (s) 3 : Nat), .int .u64 (dgl (s) 4 : Nat), .int .u64 (dgl (s) 5 : Nat), .int .u64 (dgl (s) 6 : Nat), .int .u64 (dgl (s) 7 : Nat)])), (39, .val (.bool more)), (40, .val (.bool true)), (41, .val (.bool false)), (42, .val (.bool false))]
      (fun W => PrSt f m neg z s w W ∧ WB W p9 (dgl a 1) (dgl a 0)) mixedOk (by kernel_rfl) (by kernel_rfl) (⟨h3.1.below (Below.refl _ _).drew, h3.2.below (Below.refl _ _).drew⟩) (fun W W' h hb => ⟨h.1.below hb, h.2.below hb⟩) ?_ ?_
    · refine gSt (gStep_run rfl (gRun_move 7 27 (.inl rfl) rfl (by decide +kernel) (fun v w h => h))) ?_
      refine gSt (gStep_run rfl ?_) ?_
      · intro ρ W hC hc hf hL
        have e27 : ρ (.tmp 27) = .int .i64 f := hL 27 (by decide +kernel)
        simp [go_sem, hc, hf, e27]
        refine (HI5.out W).mono ?_
        rintro e w' ⟨rfl, hb⟩
        exact ⟨_, rfl, by first | exact hb | (subst hb; exact Below.refl _ _), rfl⟩
      refine gSt (gStep_run rfl ?_) ?_
      · intro ρ W hC hc hf hL
        have e28 : ρ (.tmp 28) = .bool true := hL 28 (by decide +kernel)
        simp [go_sem, hc, hf, e28]
        exact ⟨Below.refl _ _, rfl⟩
      refine gSt (gStep_run rfl (gRun_move 29 30 (.inl rfl) rfl (by decide +kernel) (fun v w h => h))) ?_
      refine gSt (gStep_on 3 30 false rfl rfl (by decide +kernel) (fun v w h => h) (gRun_move 8 31 (.inl rfl) rfl (by decide +kernel) (fun v w h => h))) ?_
      refine gSt (gStep_on 3 30 false rfl rfl (by decide +kernel) (fun v w h => h) ?_) ?_
      · intro ρ W hC hc hf hL
        have e31 : ρ (.tmp 31) = .int .i64 m := hL 31 (by decide +kernel)
        simp [go_sem, hc, hf, e31]
        refine (HI8.out W).mono ?_
        rintro e w' ⟨rfl, hb⟩
        exact ⟨_, rfl, by first | exact hb | (subst hb; exact Below.refl _ _), rfl⟩
      refine gSt (gStep_on 3 30 false rfl rfl (by decide +kernel) (fun v w h => h) ?_) ?_
      · intro ρ W hC hc hf hL
        have e32 : ρ (.tmp 32) = .bool true := hL 32 (by decide +kernel)
        simp [go_sem, hc, hf, e32]
        exact ⟨Below.refl _ _, rfl⟩
      refine gSt (gStep_run rfl (gRun_pickCF 30 33 34 _ rfl rfl (by decide +kernel) (by decide +kernel) (fun v w h => h) (fun v w h => h))) ?_
      refine gSt (gStep_run rfl (gRun_move 34 35 (.inl rfl) rfl (by decide +kernel) (fun v w h => h))) ?_
      refine gSt (gStep_on 8 35 false rfl rfl (by decide +kernel) (fun v w h => h) (gRun_move 7 36 (.inl rfl) rfl (by decide +kernel) (fun v w h => h))) ?_
      refine gSt (gStep_on 8 35 false rfl rfl (by decide +kernel) (fun v w h => h) ?_) ?_
      · intro ρ W hC hc hf hL
        have e36 : ρ (.tmp 36) = .int .i64 f := hL 36 (by decide +kernel)
        simp [go_sem, hc, hf, e36]
        refine (HPR.out W).mono ?_
        rintro e w' ⟨rfl, hb⟩
        exact ⟨_, rfl, by first | exact hb | (subst hb; exact Below.refl _ _), rfl⟩
      refine gSt (gStep_on 8 35 false rfl rfl (by decide +kernel) (fun v w h => h) ?_) ?_
      · intro ρ W hC hc hf hL
        have e4 : ρ (.tmp 4) = .pointer (some ⟨w.heap.size + 1, 0, none⟩) := hL 4 (by decide +kernel)
        have ln := hC.1.n.n
        have le := hC.1.n.e
        have l0 := hC.1.n.x0
        have l1 := hC.1.n.x1
        have l2 := hC.1.n.x2
        have l3 := hC.1.n.x3
        have l4 := hC.1.n.x4
        have l5 := hC.1.n.x5
        have l6 := hC.1.n.x6
        have l7 := hC.1.n.x7
        simp [go_sem, hc, hf, e4, ln, le, l0, l1, l2, l3, l4, l5, l6, l7]
        exact ⟨Below.refl _ _, rfl⟩
      refine gSt (gStep_on 8 35 false rfl rfl (by decide +kernel) (fun v w h => h) (gRun_move 2 39 (.inl rfl) rfl (by decide +kernel) (fun v w h => h))) ?_
      refine gSt (gStep_on 8 35 false rfl rfl (by decide +kernel) (fun v w h => h) ?_) ?_
      · intro ρ W hC hc hf hL
        have e37 : ρ (.tmp 37) = .int .i64 P := hL 37 (by decide +kernel)
        have e38 : ρ (.tmp 38) = .agg #[.bool (neg), .int .i64 (z), .int .u64 (dgl (s) 0 : Nat), .int .u64 (dgl (s) 1 : Nat), .int .u64 (dgl (s) 2 : Nat), .int .u64 (dgl (s) 3 : Nat), .int .u64 (dgl (s) 4 : Nat), .int .u64 (dgl (s) 5 : Nat), .int .u64 (dgl (s) 6 : Nat), .int .u64 (dgl (s) 7 : Nat)] := hL 38 (by decide +kernel)
        have e39 : ρ (.tmp 39) = .bool more := hL 39 (by decide +kernel)
        simp [go_sem, hc, hf, e37, e38, e39]
        refine (HRA.out W).mono ?_
        rintro e w' ⟨rfl, hb⟩
        exact ⟨_, rfl, by first | exact hb | (subst hb; exact Below.refl _ _), rfl⟩
      refine gSt (gStep_on 8 35 false rfl rfl (by decide +kernel) (fun v w h => h) ?_) ?_
      · intro ρ W hC hc hf hL
        have e40 : ρ (.tmp 40) = .bool true := hL 40 (by decide +kernel)
        simp [go_sem, hc, hf, e40]
        exact ⟨Below.refl _ _, rfl⟩
      refine gSt (gStep_run rfl (gRun_pickCF 35 41 42 _ rfl rfl (by decide +kernel) (by decide +kernel) (fun v w h => h) (fun v w h => h))) ?_
      exact gSt0
    · intro W hC
      refine gFi 27 rfl ?_
      rintro _ rfl
      refine gFi 28 rfl ?_
      rintro _ rfl
      refine gFi 29 rfl ?_
      rintro _ rfl
      refine gFi 30 rfl ?_
      rintro _ rfl
      refine gFi 31 rfl ?_
      rintro _ rfl
      refine gFi 32 rfl ?_
      rintro _ rfl
      refine gFi 33 rfl ?_
      rintro _ rfl
      refine gFi 34 rfl ?_
      rintro _ rfl
      refine gFi 35 rfl ?_
      rintro _ rfl
      refine gFi 36 rfl ?_
      rintro _ rfl
      refine gFi 37 rfl ?_
      rintro _ rfl
      refine gFi 38 rfl ?_
      rintro _ rfl
      refine gFi 39 rfl ?_
      rintro _ rfl
      refine gFi 40 rfl ?_
      rintro _ rfl
      refine gFi 41 rfl ?_
      rintro _ rfl
      refine gFi 42 rfl ?_
      rintro _ rfl
      refine gFi0 ?_
      simp only [List.drop_succ_cons, List.drop_zero, Act.put, List.setIfInBounds_toArray, List.set_cons_succ, List.set_cons_zero]
      obtain ⟨g1, g2⟩ := hC
      have HS := hide g1
      have HX := hide g2
      clear g1 g2 h3
      have ln := HS.out.n.n
      have le := HS.out.n.e
      have l0 := HS.out.n.x0
      have l1 := HS.out.n.x1
      have l2 := HS.out.n.x2
      have l3 := HS.out.n.x3
      have l4 := HS.out.n.x4
      have l5 := HS.out.n.x5
      have l6 := HS.out.n.x6
      have l7 := HS.out.n.x7
      go_wp2_with fail
      refine (HBG.out _).mono ?_
      rintro e w5 ⟨v5, rfl, hv5, hb5⟩
      replace HS := hide (HS.out.below hb5)
      replace HX := hide (HX.out.below hb5)
      clear hb5
      clear ln le l0 l1 l2 l3 l4 l5 l6 l7
      go_wp2_with fail
      refine (HLN.out _ _ hv5).mono ?_
      rintro e w6 ⟨rfl, hw⟩
      subst w6
      clear hv5
      have ln := HS.out.n.n
      have le := HS.out.n.e
      have l0 := HS.out.n.x0
      have l1 := HS.out.n.x1
      have l2 := HS.out.n.x2
      have l3 := HS.out.n.x3
      have l4 := HS.out.n.x4
      have l5 := HS.out.n.x5
      have l6 := HS.out.n.x6
      have l7 := HS.out.n.x7
      go_wp2_with fail
      refine (HOF.out _).mono ?_
      rintro e w7 ⟨u7, rfl, hu7, hb7⟩
      replace HS := hide (HS.out.below hb7)
      replace HX := hide (HX.out.below hb7)
      clear hb7
      clear ln le l0 l1 l2 l3 l4 l5 l6 l7
      go_wp2_with fail
      refine (HRR.out _ _ hu7).mono ?_
      rintro e w8 ⟨rfl, hb8⟩
      replace HS := hide (HS.out.below hb8)
      replace HX := hide (HX.out.below hb8)
      clear hb8 hu7
      go_upto_region 8 with fail
      refine wp_gen (fun W => PrSt f m neg z s w W ∧ WB W p9 (dgl a 1) (dgl a 0) ∧ WB W w8.heap.size (dgl a 1) (dgl a 0)) ⟨HS.out.below (below_allocs _ _), HX.out.below (below_allocs _ _), wb_new2 _ _ _ _⟩ ?_
      clear HS HX
      generalize w8.heap.size = p12 at *
      rintro W8 ⟨g1, g2, g3⟩
      have HS := hide g1
      have xh := g2.h
      have xl := g2.l
      have yh := g3.h
      have yl := g3.l
      clear g1 g2 g3
      go_wp2_with fail
      refine (awake9_any _ HS.out.g).mono ?_
      rintro e w9 ⟨rfl, hb9⟩
      have HB := hide (below_trans HS.out.bel hb9)
      clear hb9 HS
      go_wp2
      go_ret
      exact ⟨rfl, HB.out⟩
      
    

end Go.Proofs.YtpcjdllijkjdkaaGreatDoor

/- PackRounds at any number. -/
set_option linter.unusedVariables false
set_option linter.unusedSimpArgs false
set_option maxRecDepth 8000
namespace Go.Proofs.YtpcjdllijkjdkaaGreatDoor
open Go.RowKit Plain

theorem to_below {i : Nat} {args : Array Value} {v : Value} {w : World} (h : Calls Tryz.prog i args w fun e w' => e = .returned v ∧ w' = w) : Calls Tryz.prog i args w fun e w' => e = .returned v ∧ Below w.heap.size w w' :=
  h.mono fun e w' h => ⟨h.1, by rw [h.2]; exact Below.refl _ _⟩
theorem is_in (f : Int) (h : 1 ≤ f ∧ f ≤ 4) (w : World) : Calls Tryz.prog 5 #[.int .i64 f] w fun e w' => e = .returned (.bool true) ∧ w' = w := by
  rcases f_cases f with rfl | rfl | rfl | rfl | h0
  · exact is_1 w
  · exact is_2 w
  · exact is_3 w
  · exact is_4 w
  · omega
theorem emax_u (f : Int) (h : 1 ≤ f ∧ f ≤ 4) (w : World) : Calls Tryz.prog 36 #[.int .i64 f] w fun e w' => e = .returned (.int .i64 (emU f)) ∧ w' = w := by
  rcases f_cases f with rfl | rfl | rfl | rfl | h0
  · exact emax_1 w
  · exact emax_2 w
  · exact emax_3 w
  · exact emax_4 w
  · omega
theorem rinf_u (f : Int) (h : 1 ≤ f ∧ f ≤ 4) (neg : Bool) (w : World) : Calls Tryz.prog 37 #[.int .i64 f, .bool neg] w fun e w' => e = .returned (.agg #[.int .u64 (dgl (infU f neg) 1 : Nat), .int .u64 (dgl (infU f neg) 0 : Nat)]) ∧ Below w.heap.size w w' := by
  rcases f_cases f with rfl | rfl | rfl | rfl | h0
  · exact rinf_1 neg w
  · exact rinf_2 neg w
  · exact rinf_3 neg w
  · exact rinf_4 neg w
  · omega
theorem rmax_u (f : Int) (h : 1 ≤ f ∧ f ≤ 4) (neg : Bool) (w : World) : Calls Tryz.prog 38 #[.int .i64 f, .bool neg] w fun e w' => e = .returned (.agg #[.int .u64 (dgl (maxU f neg) 1 : Nat), .int .u64 (dgl (maxU f neg) 0 : Nat)]) ∧ Below w.heap.size w w' := by
  rcases f_cases f with rfl | rfl | rfl | rfl | h0
  · exact rmax_1 neg w
  · exact rmax_2 neg w
  · exact rmax_3 neg w
  · exact rmax_4 neg w
  · omega
theorem rnought_u (f : Int) (h : 1 ≤ f ∧ f ≤ 4) (neg : Bool) (w : World) : Calls Tryz.prog 12 #[.int .i64 f, .bool neg] w fun e w' => e = .returned (.agg #[.int .u64 (dgl (ngtU f neg) 1 : Nat), .int .u64 (dgl (ngtU f neg) 0 : Nat)]) ∧ Below w.heap.size w w' := by
  rcases f_cases f with rfl | rfl | rfl | rfl | h0
  · exact rnought_1 neg w
  · exact rnought_2 neg w
  · exact rnought_3 neg w
  · exact rnought_4 neg w
  · omega

theorem fnd_eq {f : Int} (hf : 1 ≤ f ∧ f ≤ 4) {s1 s2 : Nat} {z1 z2 : Int} (M : Int) (h1 : M ≤ z1) (h2 : M ≤ z2) (h : vl s1 z1 M = vl s2 z2 M) : fndU f s1 z1 = fndU f s2 z2 :=
  Nat.le_antisymm (fnd_mono hf ((sizeZ_le _ _ _ _ M h1 h2).2 (Nat.le_of_eq h))) (fnd_mono hf ((sizeZ_le _ _ _ _ M h2 h1).2 (Nat.le_of_eq h.symm)))
theorem lt_qq {x k : Nat} (h : Go.bitLen x ≤ k) (hk : k ≤ 512) : x < QQ := by
  obtain ⟨q, hq⟩ : ∃ q, q = 512 := ⟨_, rfl⟩
  rw [← qq_pow q hq]
  exact (len_le x q).1 (by omega)
theorem cut_low {s n : Nat} {m : Int} {more neg : Bool} (hn : 0 < n) (h0 : s ≠ 0) : cutN s (Go.bitLen s - n) m more neg ≠ 0 ∧ Go.bitLen s ≤ Go.bitLen (cutN s (Go.bitLen s - n) m more neg) + (Go.bitLen s - n) := by
  rcases Nat.lt_or_ge n (Go.bitLen s) with hk | hk
  · rcases cut_len (m := m) (more := more) (neg := neg) hk hn with ⟨h4, h5⟩ | h4
    · have := Nat.two_pow_pos (n - 1)
      omega
    · have h6 := Nat.two_pow_pos n
      have h7 : n < Go.bitLen (2 ^ n) := by
        rcases Nat.lt_or_ge n (Go.bitLen (2 ^ n)) with h8 | h8
        · exact h8
        · exact absurd ((len_le _ _).1 h8) (Nat.lt_irrefl _)
      rw [h4]
      omega
  · have hb := (cutN_bd s (Go.bitLen s - n) m more neg).1
    rw [show Go.bitLen s - n = 0 by omega, Nat.pow_zero, Nat.div_one] at hb
    rw [show Go.bitLen s - n = 0 by omega]
    refine ⟨by omega, ?_⟩
    have h1 : Go.bitLen s ≤ Go.bitLen (cutN s 0 m more neg) := (len_le _ _).2 (Nat.lt_of_le_of_lt hb (len_lt _))
    omega
theorem lo_fit {s p : Nat} {z lo : Int} (h : z + (Go.bitLen s : Int) - lo ≤ p) : s * 2 ^ (z - lo).toNat / 2 ^ (lo - z).toNat < 2 ^ p := by
  have h1 := len_lt s
  rw [Nat.div_lt_iff_lt_mul (Nat.two_pow_pos _), ← Nat.pow_add]
  refine Nat.lt_of_lt_of_le (Nat.mul_lt_mul_of_pos_right h1 (Nat.two_pow_pos _)) ?_
  rw [← Nat.pow_add]
  exact Nat.pow_le_pow_right (by decide) (by omega)

theorem find_K (f : Int) (hf : 1 ≤ f ∧ f ≤ 4) (P : Int) (V : Nat) (hV : V < QQ) (hP : -100000000 ≤ P ∧ P ≤ 100000000) (u : Value) (w : World) (hu : NumV w u false P V 800) :
    Calls Tryz.prog 40 #[.int .i64 f, u] w fun e w' => e = .returned (.agg #[.int .u64 (dgl (fndU f V P) 1 : Nat), .int .u64 (dgl (fndU f V P) 0 : Nat)]) ∧ Below w.heap.size w w' := by
  obtain ⟨v, rfl, hb⟩ := hu
  exact find_any f hf false P V (fndU f V P) _ hV hP (fndU_spec hf V P) w ⟨v, rfl, (hb.less hV).mono (by decide)⟩
theorem sgn_fnd (f : Int) (hf : 1 ≤ f ∧ f ≤ 4) (neg : Bool) (P : Int) (V : Nat) (w : World) :
    Calls Tryz.prog 41 #[.int .i64 f, .agg #[.int .u64 (dgl (fndU f V P) 1 : Nat), .int .u64 (dgl (fndU f V P) 0 : Nat)], .bool neg] w fun e w' => e = .returned (.agg #[.int .u64 (dgl (wrdU f neg V P) 1 : Nat), .int .u64 (dgl (wrdU f neg V P) 0 : Nat)]) ∧ Below w.heap.size w w' := by
  obtain ⟨-, x2, x3, -⟩ := fndU_spec hf V P
  have h4 := (take_fin x3).1
  have h1 : 2 ^ mU f ≤ 2 ^ 128 := Nat.pow_le_pow_right (by decide) (by have := mU_le f; omega)
  exact refSgn_u f _ (Nat.lt_of_lt_of_le x2 h1) neg (by omega) w

theorem rnd_lt {f m : Int} (hf : 1 ≤ f ∧ f ≤ 4) (neg more : Bool) (z : Int) (s : Nat) : (rndR f m neg more z s).1 < 2 ^ 128 := by
  have hw : ∀ s z, wrdU f neg s z < 2 ^ 128 := fun s z => by
    obtain ⟨-, x2, x3, -⟩ := fndU_spec hf s z
    have h4 := (take_fin x3).1
    exact (sgn_U neg (show clsU f (fndU f s z) ≠ 0 by omega)).1
  unfold rndR
  split
  · exact (bnd_pat f m hf neg).1
  · split
    · exact hw _ _
    · exact hw _ _

/-- The document's Round. -/
theorem rround_num (f m : Int) (hf : 1 ≤ f ∧ f ≤ 4) (hm : isM m = true) (neg more : Bool) (z : Int) (s : Nat) (hs : s < QQ) (hr : rightB (prU f : Nat) z s more = true) (h0 : s ≠ 0) (u : Value) (w : World) (hu : RlV w u neg 1 (nmR s more) 1 (exR z more) 80) :
    Calls Tryz.prog 13 #[.int .i64 f, .int .i64 m, u] w fun e w' => e = .returned (.tuple #[.agg #[.int .u64 (dgl ((rndR f m neg more z s).1) 1 : Nat), .int .u64 (dgl ((rndR f m neg more z s).1) 0 : Nat)], .int .i64 ((rndR f m neg more z s).2 : Nat)]) ∧ Below w.heap.size w w' := by
  obtain ⟨hp1, hp2, hrg, hl, hmo⟩ := right_parts hr
  have hz := rgt_bd hrg
  have hln := len_pos h0
  have hp := prU_bd f hf
  obtain ⟨he, hen1, hen2⟩ := enU_eq f hf
  have hem := emU_nn f hf
  have hle := loU_eq f hf
  have hlo := loU_bd f
  have hPR := fun w => prec_u f hf w
  have hEM := fun w => emax_u f hf w
  have hEN := fun w => emin_u f hf w
  have hT := fun u w hu => rtopA_any neg s more z h0 (by omega) (by omega) u w hu
  obtain ⟨j, j1, j2, j3, j4, j5⟩ := at_cut (z := z) (m := m) (neg := neg) h0 hp1 hmo
  have ep : ((prU f : Nat) : Int).toNat = prU f := by omega
  rw [ep] at j1 j2 j3 j4
  have hA := fun u w hu => ratA_any neg s more z (z + (Go.bitLen s : Int) - 1 - (prU f : Nat) + 1) m (prU f) (by omega) (by omega) (by omega) (by omega) j5 j4 u w hu
  rw [j3] at hA
  obtain ⟨c0, c1⟩ := cut_low (s := s) (n := prU f) (m := m) (more := more) (neg := neg) (by omega) h0
  have hcq : Go.bitLen (cutN s (Go.bitLen s - prU f) m more neg) ≤ 512 := len_qq (cutN_qq hl)
  have hUl : Go.bitLen (atN s more z (z + (Go.bitLen s : Int) - 1 - (prU f : Nat) + 1) m neg) = Go.bitLen (cutN s (Go.bitLen s - prU f) m more neg) + j := by rw [j1, len_shift j c0]
  have hUq : atN s more z (z + (Go.bitLen s : Int) - 1 - (prU f : Nat) + 1) m neg < QQ := lt_qq (atN_len (more := more) (m := m) (neg := neg) (show prU f ≤ 600 by omega) j4) (by omega)
  have hLN := fun v w h => refLen_any (atN s more z (z + (Go.bitLen s : Int) - 1 - (prU f : Nat) + 1) m neg) 800 v w h (by decide)
  obtain ⟨U, hU⟩ : ∃ U, U = atN s more z (z + (Go.bitLen s : Int) - 1 - (prU f : Nat) + 1) m neg := ⟨_, rfl⟩
  rw [← hU] at hA hUl hUq hLN j1
  rw [hUl] at hLN
  have hw1 : IntKind.i64.wrap ((z + (Go.bitLen s : Int) - 1) - (prU f : Nat)) = (z + (Go.bitLen s : Int) - 1) - (prU f : Nat) := by rw [IntKind.wrap_i64]; omega
  have hw2 : IntKind.i64.wrap ((z + (Go.bitLen s : Int) - 1) - (prU f : Nat) + 1) = (z + (Go.bitLen s : Int) - 1) - (prU f : Nat) + 1 := by rw [IntKind.wrap_i64]; omega
  have hw3 : IntKind.i64.wrap ((z + (Go.bitLen s : Int) - 1) - (prU f : Nat) + 1 + ((Go.bitLen (cutN s (Go.bitLen s - prU f) m more neg) + j : Nat) : Int)) = (z + (Go.bitLen s : Int) - 1) - (prU f : Nat) + 1 + ((Go.bitLen (cutN s (Go.bitLen s - prU f) m more neg) + j : Nat) : Int) := by rw [IntKind.wrap_i64]; omega
  have hw4 : IntKind.i64.wrap ((z + (Go.bitLen s : Int) - 1) - (prU f : Nat) + 1 + ((Go.bitLen (cutN s (Go.bitLen s - prU f) m more neg) + j : Nat) : Int) - 1) = (z + (Go.bitLen s : Int) - 1) - (prU f : Nat) + 1 + ((Go.bitLen (cutN s (Go.bitLen s - prU f) m more neg) + j : Nat) : Int) - 1 := by rw [IntKind.wrap_i64]; omega
  unfold rndR
  by_cases h1 : emU f < z + ((Go.bitLen s - prU f : Nat) : Int) + (Go.bitLen (cutN s (Go.bitLen s - prU f) m more neg) : Int) - 1
  · rw [if_pos h1]
    have hgt : emU f < (z + (Go.bitLen s : Int) - 1) - (prU f : Nat) + 1 + ((Go.bitLen (cutN s (Go.bitLen s - prU f) m more neg) + j : Nat) : Int) - 1 := by omega
    have hI := fun neg w => rinf_u f hf neg w
    have hM := fun neg w => rmax_u f hf neg w
    have hm5 : 1 ≤ m ∧ m ≤ 5 := by
      unfold isM at hm
      rw [Bool.and_eq_true, decide_eq_true_iff, decide_eq_true_iff] at hm
      exact hm
    obtain rfl | rfl | rfl | rfl | rfl : m = 1 ∨ m = 2 ∨ m = 3 ∨ m = 4 ∨ m = 5 := by omega
    · have hb : bndU f 1 neg = infU f neg := by unfold bndU; rw [show growN 1 neg false 3 = true by cases neg <;> decide, cond_true]
      rw [hb]
      exact refRound_I1 f 1 _ _ _ 0 _ neg _ false _ U 0 0 (infU f neg) _ u hPR hT hw1 hw2 hA hLN hw3 hw4 hEM hgt (hI neg) w hu
    · have hb : bndU f 2 neg = infU f neg := by unfold bndU; rw [show growN 2 neg false 3 = true by cases neg <;> decide, cond_true]
      rw [hb]
      exact refRound_I2 f 2 _ _ _ 0 _ neg _ false _ U 0 0 (infU f neg) _ u hPR hT hw1 hw2 hA hLN hw3 hw4 hEM hgt (hI neg) w hu
    · have hb : bndU f 3 neg = maxU f neg := by unfold bndU; rw [show growN 3 neg false 3 = false by cases neg <;> decide, cond_false]
      rw [hb]
      exact refRound_M3 f 3 _ _ _ 0 _ neg _ false _ U 0 0 (maxU f neg) _ u hPR hT hw1 hw2 hA hLN hw3 hw4 hEM hgt (hM neg) w hu
    · cases neg
      · have hb : bndU f 4 false = infU f false := by unfold bndU; rw [show growN 4 false false 3 = true by decide, cond_true]
        rw [hb]
        exact refRound_I4 f 4 _ _ _ 0 _ false _ false _ U 0 0 (infU f false) _ u hPR hT hw1 hw2 hA hLN hw3 hw4 hEM hgt (hI false) w hu
      · have hb : bndU f 4 true = maxU f true := by unfold bndU; rw [show growN 4 true false 3 = false by decide, cond_false]
        rw [hb]
        exact refRound_M4 f 4 _ _ _ 0 _ true _ false _ U 0 0 (maxU f true) _ u hPR hT hw1 hw2 hA hLN hw3 hw4 hEM hgt (hM true) w hu
    · cases neg
      · have hb : bndU f 5 false = maxU f false := by unfold bndU; rw [show growN 5 false false 3 = false by decide, cond_false]
        rw [hb]
        exact refRound_M5 f 5 _ _ _ 0 _ false _ false _ U 0 0 (maxU f false) _ u hPR hT hw1 hw2 hA hLN hw3 hw4 hEM hgt (hM false) w hu
      · have hb : bndU f 5 true = infU f true := by unfold bndU; rw [show growN 5 true false 3 = true by decide, cond_true]
        rw [hb]
        exact refRound_I5 f 5 _ _ _ 0 _ true _ false _ U 0 0 (infU f true) _ u hPR hT hw1 hw2 hA hLN hw3 hw4 hEM hgt (hI true) w hu
  · rw [if_neg h1]
    have hgt : ¬ emU f < (z + (Go.bitLen s : Int) - 1) - (prU f : Nat) + 1 + ((Go.bitLen (cutN s (Go.bitLen s - prU f) m more neg) + j : Nat) : Int) - 1 := by omega
    by_cases h2 : z + ((Go.bitLen s - prU f : Nat) : Int) + (Go.bitLen (cutN s (Go.bitLen s - prU f) m more neg) : Int) - 1 < enU f
    · rw [if_pos h2]
      have hlt : (z + (Go.bitLen s : Int) - 1) - (prU f : Nat) + 1 + ((Go.bitLen (cutN s (Go.bitLen s - prU f) m more neg) + j : Nat) : Int) - 1 < enU f := by omega
      have hfit : z + (Go.bitLen s : Int) - loU f ≤ (prU f : Nat) := by omega
      have hmz : more = true → z < loU f := fun h => by have := hmo h; omega
      have hA2 := fun u w hu => ratA_any neg s more z (loU f) m (prU f) (by omega) (by omega) (by omega) (by omega) hmz (lo_fit hfit) u w hu
      have hVq : atN s more z (loU f) m neg < QQ := lt_qq (atN_len (more := more) (m := m) (neg := neg) (show prU f ≤ 600 by omega) (lo_fit hfit)) (by omega)
      have hw5 : IntKind.i64.wrap (enU f - (prU f : Nat)) = enU f - (prU f : Nat) := by rw [IntKind.wrap_i64]; omega
      have hw6 : IntKind.i64.wrap (enU f - (prU f : Nat) + 1) = enU f - (prU f : Nat) + 1 := by rw [IntKind.wrap_i64]; omega
      have hX : fndU f (cutN s (loU f - z).toNat m more neg) (z + ((loU f - z).toNat : Int)) = fndU f (atN s more z (loU f) m neg) (loU f) := by
        rcases Int.lt_or_le (loU f) z with h3 | h3
        · have hmf : more = false := by
            cases more
            · rfl
            · have := hmz rfl; omega
          subst hmf
          rw [show (loU f - z).toNat = 0 by omega, cutN_0, atN_up _ _ _ _ _ (by omega)]
          refine fnd_eq hf (loU f) (by omega) (Int.le_refl _) ?_
          unfold vl
          rw [Int.sub_self, show (0 : Int).toNat = 0 from rfl, Nat.pow_zero, Nat.mul_one, show z + ((0 : Nat) : Int) - loU f = z - loU f by omega]
        · rw [atN_cut _ _ _ _ _ _ h3, show z + ((loU f - z).toNat : Int) = loU f by omega]
      have hF := fun u w hu => find_K f hf (loU f) (atN s more z (loU f) m neg) hVq (by omega) u w hu
      have hS := fun w => sgn_fnd f hf neg (loU f) (atN s more z (loU f) m neg) w
      have hW : wrdU f neg (cutN s (loU f - z).toNat m more neg) (z + ((loU f - z).toNat : Int)) = wrdU f neg (atN s more z (loU f) m neg) (loU f) := by
        unfold wrdU
        rw [hX]
      rw [hW]
      clear hX hW
      obtain ⟨V, hV⟩ : ∃ V, V = atN s more z (loU f) m neg := ⟨_, rfl⟩
      rw [← hV] at hA2 hF hS ⊢
      clear hV hVq
      generalize wrdU f neg V (loU f) = Y at *
      generalize fndU f V (loU f) = X at *
      generalize restN s (loU f - z).toNat more = r2 at *
      rw [← he] at hA2 hF
      by_cases hr2 : r2 = 0
      · rw [decide_eq_true hr2] at hA2
        rw [if_pos hr2]
        exact refRound_L0 f m _ _ _ _ _ neg _ false _ U V X Y _ u hPR hT hw1 hw2 hA hLN hw3 hw4 hEM hgt hEN hlt hw5 hw6 hA2 hF hS w hu
      · rw [decide_eq_false hr2] at hA2
        rw [if_neg hr2]
        exact refRound_L1 f m _ _ _ _ _ neg _ true _ U V X Y _ u hPR hT hw1 hw2 hA hLN hw3 hw4 hEM hgt hEN hlt hw5 hw6 hA2 hF hS w hu
    · rw [if_neg h2]
      have hlt : ¬ (z + (Go.bitLen s : Int) - 1) - (prU f : Nat) + 1 + ((Go.bitLen (cutN s (Go.bitLen s - prU f) m more neg) + j : Nat) : Int) - 1 < enU f := by omega
      have hF := fun u w hu => find_K f hf (z + (Go.bitLen s : Int) - 1 - (prU f : Nat) + 1) U hUq (by omega) u w hu
      have hS := fun w => sgn_fnd f hf neg (z + (Go.bitLen s : Int) - 1 - (prU f : Nat) + 1) U w
      have hX : fndU f (cutN s (Go.bitLen s - prU f) m more neg) (z + ((Go.bitLen s - prU f : Nat) : Int)) = fndU f U (z + (Go.bitLen s : Int) - 1 - (prU f : Nat) + 1) := by
        refine fnd_eq hf (z + (Go.bitLen s : Int) - 1 - (prU f : Nat) + 1) (by omega) (Int.le_refl _) ?_
        unfold vl
        rw [j2, Int.sub_self, show (0 : Int).toNat = 0 from rfl, Nat.pow_zero, Nat.mul_one, j1, Int.toNat_natCast]
      have hW : wrdU f neg (cutN s (Go.bitLen s - prU f) m more neg) (z + ((Go.bitLen s - prU f : Nat) : Int)) = wrdU f neg U (z + (Go.bitLen s : Int) - 1 - (prU f : Nat) + 1) := by
        unfold wrdU
        rw [hX]
      rw [hW]
      clear hX hW
      generalize wrdU f neg U (z + (Go.bitLen s : Int) - 1 - (prU f : Nat) + 1) = Y at *
      generalize fndU f U (z + (Go.bitLen s : Int) - 1 - (prU f : Nat) + 1) = X at *
      generalize restN s (Go.bitLen s - prU f) more = r1 at *
      by_cases hr1 : r1 = 0
      · rw [decide_eq_true hr1] at hA
        rw [if_pos hr1]
        exact refRound_N0 f m _ _ _ _ _ neg false false _ U 0 X Y _ u hPR hT hw1 hw2 hA hLN hw3 hw4 hEM hgt hEN hlt hF hS w hu
      · rw [decide_eq_false hr1] at hA
        rw [if_neg hr1]
        exact refRound_N1 f m _ _ _ _ _ neg true false _ U 0 X Y _ u hPR hT hw1 hw2 hA hLN hw3 hw4 hEM hgt hEN hlt hF hS w hu

theorem packRounds_num (f m : Int) (neg : Bool) (z : Int) (s : Nat) (more : Bool) (hs : s < QQ) (w : World) (hg : FmtG w) :
    Calls Tryz.prog 3 #[.agg #[.int .i64 f, .int .i64 m], .agg #[.bool (neg), .int .i64 (z), .int .u64 (dgl (s) 0 : Nat), .int .u64 (dgl (s) 1 : Nat), .int .u64 (dgl (s) 2 : Nat), .int .u64 (dgl (s) 3 : Nat), .int .u64 (dgl (s) 4 : Nat), .int .u64 (dgl (s) 5 : Nat), .int .u64 (dgl (s) 6 : Nat), .int .u64 (dgl (s) 7 : Nat)], .bool more] w fun e w' => e = .returned (.bool true) ∧ Below w.heap.size w w' := by
  have hz0 : ∀ w, (Op.equalIn 10000 29 (.agg #[.int .u64 (dgl (0) 1 : Nat), .int .u64 (dgl (0) 0 : Nat)]) (.agg #[.int .u64 0, .int .u64 0])).run Tryz.prog w = .ok true w := fun w => by
    have h := wordEq (show 0 < 2 ^ 128 by decide +kernel) (show 0 < 2 ^ 128 by decide +kernel) w
    rw [decide_eq_true rfl] at h
    rw [show dgl 0 1 = 0 from by decide +kernel, show dgl 0 0 = 0 from by decide +kernel] at h ⊢
    exact h
  have hno := fun h w hg => round_no f m neg more z s hs h w hg
  have hz2 : (.agg #[.int .u64 0, .int .u64 0] : Value) = .agg #[.int .u64 (dgl (0) 1 : Nat), .int .u64 (dgl (0) 0 : Nat)] := by
    rw [show dgl 0 1 = 0 from by decide +kernel, show dgl 0 0 = 0 from by decide +kernel]
    rfl
  rw [hz2] at hno
  by_cases hf : 1 ≤ f ∧ f ≤ 4
  · have HI5 := fun w => to_below (is_in f hf w)
    have HPR := fun w => to_below (prec_u f hf w)
    have HI8 := fun w => to_below (refIs8_any m w)
    by_cases hm : isM m = true
    · rw [hm] at HI8
      have HRA := fun w => lright_any (prU f : Nat) z neg more s hs w
      by_cases hr : rightB (prU f : Nat) z s more = true
      · rw [hr] at HRA
        by_cases h0 : s = 0
        · subst h0
          have hn := wordEq (a := ngtU f neg) (b := ngtU f neg)
          have hb : Go.bitLen 0 = 0 := by decide +kernel
          have hq : ngtU f neg < 2 ^ 128 := by
            rcases f_cases f with rfl | rfl | rfl | rfl | h0
            · cases neg <;> decide +kernel
            · cases neg <;> decide +kernel
            · cases neg <;> decide +kernel
            · cases neg <;> decide +kernel
            · omega
          have hw := fun w => wordEq hq hq w
          rw [decide_eq_true rfl] at hw
          exact packRounds_Z f m z _ 0 0 neg more 0 0 (ngtU f neg) (fun w hg => round_zero f m hf hm neg more z hr w hg) HI5 HI8 HPR HRA hw hs hb (fun w => rnought_u f hf neg w) w hg
        · obtain ⟨-, -, hrg, hl, hmo⟩ := right_parts hr
          have hz := rgt_bd hrg
          have hq := (rnd_lt hf (m := m) neg more z s)
          have hw := fun w => wordEq hq hq w
          rw [decide_eq_true rfl] at hw
          have hlp := len_pos h0
          exact packRounds_Y f m z _ _ _ neg more s _ _ (fun w hg => round_yes f m hf hm neg more z s hs hr h0 w hg) HI5 HI8 HPR HRA hw hs (by omega) (fun w => rofA_any neg more z s hs (by omega) w) (fun u w hu => rround_num f m hf hm neg more z s hs hr h0 u w hu) w hg
      · rw [show rightB (prU f : Nat) z s more = false by simpa using hr] at HRA
        exact packRounds_C f m z _ 0 0 neg more s 0 0 (hno (fun h => hr h.2.2)) HI5 HI8 HPR HRA hz0 w hg
    · rw [show isM m = false by simpa using hm] at HI8
      exact packRounds_B f m z 0 0 0 neg more s 0 0 (hno (fun h => hm h.2.1)) HI5 HI8 hz0 w hg
  · exact packRounds_A f m z 0 0 0 neg more s 0 0 (hno (fun h => hf h.1)) (fun w => to_below (is_none f (by omega) w)) hz0 w hg

end Go.Proofs.YtpcjdllijkjdkaaGreatDoor

/- PackRounds: for every format, mode and number the law returns true. Conditions: those of the tied card (the table of formats is laid as the program lays it). -/
namespace Go.Proofs.YtpcjdllijkjdkaaGreatDoor.packRounds
open Go.ChangeShapes Go.WideShapes Go.ChangeAt Go.RowKit Go.Proofs.YtpcjdllijkjdkaaGreatDoor

theorem own : ownKnob Tryz.prog.godebug = none := by kernel_rfl
theorem laidOut : laidOutB Tryz.prog = true := by kernel_rfl

theorem door_met (os : Os) (args : Array Value) : laidMetH Tryz.prog [("radicand/format.formats", Rows.laid_radicand_format_formats)] ((World.doorLaid Tryz.prog 400 os).forCall (fun _ _ => 0) ⟨#[], args, []⟩).memory :=
  laidMetH_of_parts3 (fuel := 8) (laidMet_of_run' 8 (by kernel_rfl) (by kernel_rfl)) (by kernel_rfl) (by kernel_rfl)

set_option maxRecDepth 100000 in
theorem lifted (os : Os) (started : os.Started) (H : Type) (enc : TypeId × Value → H) :
    ReturnsInHanded {} Tryz.checked os 3 .any (fun w args => (Rows.packRoundsSpec.pre enc Tryz.prog Tryz.f3 [] false w args ∧ laidMetH Tryz.prog [("radicand/format.formats", Rows.laid_radicand_format_formats)] w) ∧ sizedMet enc Tryz.prog Tryz.f3 (OpenSpec.ofChange Rows.packRoundsSpec) false w args) (Rows.packRoundsSpec.post enc Tryz.prog Tryz.f3 false true false false) := by
  refine returnsInHanded_of_change_and (C := Tryz.checked) (X := fun w _ => laidMetH Tryz.prog [("radicand/format.formats", Rows.laid_radicand_format_formats)] w) (fun _ _ _ hh h => h.of_heap hh) own started (by kernel_rfl) Tryz.func3
    (ChangeSpec.witness_shaped (enc := enc) (C := Tryz.checked) (os := os) (X := fun w _ => laidMetH Tryz.prog [("radicand/format.formats", Rows.laid_radicand_format_formats)] w) false (World.doorLaid Tryz.prog 400 os) #[.agg #[.int .i64 0, .int .i64 0], .agg #[.bool false, .int .i64 0, .int .u64 0, .int .u64 0, .int .u64 0, .int .u64 0, .int .u64 0, .int .u64 0, .int .u64 0, .int .u64 0], .bool false] 40 rfl (World.shaped_of_RefB (by kernel_rfl) (by kernel_rfl)) (by kernel_rfl) (by kernel_rfl) (by kernel_rfl) (door_met os _)) ?_
  intro W base args ds gs before hval0 hW _ _ hL _
  have hval : ∀ (j : Nat) t v, Tryz.f3.params[j]? = some t → args[j]? = some v → Value.okWide Tryz.prog W .any base t v := hval0
  have hW' := hW
  obtain ⟨p, q, hA0, hV, rfl, hfz, hnd⟩ := hW
  have hA : DataW.TrodAll enc Tryz.prog W 0 (fun _ => true) true Tryz.f3.params.toList args.toList ds p := hA0
  rw [Tryz.params3] at hA hval
  obtain ⟨v0, vs0, d0, ds0, p0, q0, hargs, rfl, rfl, h0, r0⟩ := trodAll_cons hA
  obtain ⟨v1, vs1, d1, ds1, p1, q1, rfl, rfl, rfl, h1, r1⟩ := trodAll_cons r0
  obtain ⟨v2, vs2, d2, ds2, p2, q2, rfl, rfl, rfl, h2, r2⟩ := trodAll_cons r1
  obtain ⟨rfl, rfl, rfl⟩ := trodAll_nil r2
  obtain rfl : args = #[v0, v1, v2] := by cases args; simp_all
  obtain ⟨rfl, rfl⟩ := trodVars_none hV
  have k0 := h0
  have lt0 : ∀ x ∈ p0, x.block < W.heap.size := by obtain ⟨m, hm⟩ := k0; exact DataW.trod_lt m _ _ _ hm
  have k1 := h1
  have lt1 : ∀ x ∈ p1, x.block < W.heap.size := by obtain ⟨m, hm⟩ := k1; exact DataW.trod_lt m _ _ _ hm
  have k2 := h2
  have lt2 : ∀ x ∈ p2, x.block < W.heap.size := by obtain ⟨m, hm⟩ := k2; exact DataW.trod_lt m _ _ _ hm
  obtain ⟨q00, q01, ⟨bq00, bq01⟩, rfl⟩ := ints2_open (hval 0 22 v0 rfl rfl) h0
  obtain ⟨n1, z1, b1, hb1, rfl⟩ := number_open (hval 1 27 v1 rfl rfl) h1
  obtain ⟨b2, rfl, rfl, rfl⟩ := open_bool Tryz.underlying4 (hval 2 4 v2 rfl rfl) h2
  clear hA0 hval0
  have hg := of_laid1 hL
  refine (packRounds_num q00 q01 n1 z1 b1 b2 hb1.2 W hg).mono fun e W' ⟨he, bel⟩ => ?_
  subst he
  exact ⟨_, rfl, _, _, _, [], _, [], hW', trodAll_mk1 (shut_bool Tryz.underlying4 _), (trodAll_cons_mk (Below.trod laidOut (by kernel_rfl) (of_decide_eq_true (by kernel_rfl)) k0 bel lt0) (trodAll_cons_mk (Below.trod laidOut (by kernel_rfl) (of_decide_eq_true (by kernel_rfl)) k1 bel lt1) (trodAll_cons_mk (Below.trod laidOut (by kernel_rfl) (of_decide_eq_true (by kernel_rfl)) k2 bel lt2) trodAll_mk0))), rfl, bel.frame _, fun h => by cases h⟩

theorem over : Rows.packRoundsRow.holds Tryz.pinned (OpenSpec.ofChange Rows.packRoundsSpec) :=
  OpenClaim.holds_of_wide 3 Tryz.f3 rfl rfl rfl rfl rfl rfl rfl ⟨rfl, rfl, rfl, rfl, rfl⟩ rfl rfl rfl rfl rfl (by kernel_rfl) Tryz.func3 (by kernel_rfl)
    (of_decide_eq_true (by kernel_rfl)) (by unfold Func.isWrapper; first | (rw [if_pos (by decide +kernel)]; kernel_rfl) | (rw [if_neg (by decide +kernel)]; exact ⟨rfl, rfl⟩))
    (fun os started H enc _ => lifted os started H enc)

theorem proved : Rows.PackRoundsCardSaid :=
  Claim7.holds_tied_plain_at .later [] [.data] true (true, "dbc92d2e91b081d3d9305d3365fb793e88f1ca656370625188d166faeec54f97") false
    over (fun _ h => by cases h) (by kernel_rfl) (fun _ h => by cases h) packRounds_row_tie rfl ⟨rfl, rfl⟩ (by kernel_rfl) rfl
    (fun f fn hf hfn => by
      obtain rfl : f = 3 := Option.some.inj ((show Tryz.prog.funcNamed "radicand/radicandlaw09.PackRounds" = some 3 by kernel_rfl).symm.trans hf) |>.symm
      obtain rfl : fn = Tryz.f3 := (Option.some.inj (Tryz.func3.symm.trans hfn)).symm
      exact ⟨by kernel_rfl, fun j t ht => by
        rw [Tryz.params3] at ht
        rcases j with _ | j
        · obtain rfl : t = 22 := by simpa using ht.symm
          exact (show Tryz.prog.wantsStandIn 22 = false by kernel_rfl)
        rcases j with _ | j
        · obtain rfl : t = 27 := by simpa using ht.symm
          exact (show Tryz.prog.wantsStandIn 27 = false by kernel_rfl)
        rcases j with _ | j
        · obtain rfl : t = 4 := by simpa using ht.symm
          exact (show Tryz.prog.wantsStandIn 4 = false by kernel_rfl)
        simp at ht⟩)
    (by kernel_rfl)
#print axioms proved
end Go.Proofs.YtpcjdllijkjdkaaGreatDoor.packRounds

