/- UnpackExact: for any int and any number the law returns true. Conditions: those of the tied card (the table of formats is laid as the program lays it). -/
import Derived.Test.YtpcjdllijkjdkaaDoorPartAZ
import Derived.Test.YtpcjdllijkjdkaaDoorPartAX
import Derived.Test.YtpcjdllijkjdkaaDoorRows
import Derived.Test.YtpcjdllijkjdkaaDoorTie
import Derived.Test.YtpcjdllijkjdkaaDoorCards
import Derived.LaidMore
import Derived.Stop.Joined
import Derived.SevenTiedAt
import Derived.Test.YtpcjdllijkjdkaaDoorPartAC
import Derived.WalkKit
import Derived.ProofKit
import Derived.OpenShut
import Derived.ShutString
import Derived.ChangeOld
import Derived.Below
/- The walk of UnpackExact. -/
set_option linter.unusedVariables false
set_option linter.unusedSimpArgs false
set_option maxRecDepth 8000
namespace Go.Proofs.YtpcjdllijkjdkaaDoor
open Go.RowKit Plain

theorem is_u (f : Int) (h : 1 ≤ f ∧ f ≤ 4) (w : World) : Calls Tryd.prog 12 #[.int .i64 f] w fun e w' => e = .returned (.bool true) ∧ w' = w := by
  rcases f_cases f with rfl | rfl | rfl | rfl | h0
  · exact is_1 w
  · exact is_2 w
  · exact is_3 w
  · exact is_4 w
  · omega
theorem word_zz (w : World) : (Op.equalIn 10000 28 (.agg #[.int .u64 0, .int .u64 0]) (.agg #[.int .u64 0, .int .u64 0])).run Tryd.prog w = .ok true w := by
  have h := wordEq (a := 0) (b := 0) (by decide) (by decide) w
  rw [dgl_zero, dgl_zero] at h
  exact h
structure UeSt (neg : Bool) (z : Int) (s : Nat) (w W : World) : Prop where
  g : FmtG W
  gl : 1 < w.heap.size
  n : NB W (w.heap.size) (neg) (z) (s)
  lt : w.heap.size < W.heap.size
  bel : Below w.heap.size w W
theorem UeSt.under {neg : Bool} {z : Int} {s : Nat} {w W W' : World} (h : UeSt neg z s w W) {C : Nat} (hb : Below C W W') (hc : w.heap.size < C) : UeSt neg z s w W' :=
  ⟨⟨fun i hi => (hb.cell (p := ⟨1, i, none⟩) (show 1 < C by have := h.gl; omega)).trans (h.g.c i hi), Nat.lt_of_lt_of_le h.g.lt hb.size⟩, h.gl, h.n.under hb (show w.heap.size < C by omega), Nat.lt_of_lt_of_le h.lt hb.size, h.bel.trans (hb.mono (by omega))⟩
theorem UeSt.below {neg : Bool} {z : Int} {s : Nat} {w W W' : World} (h : UeSt neg z s w W) (hb : Below W.heap.size W W') : UeSt neg z s w W' := h.under hb h.lt
theorem ueSt_start (neg : Bool) (z : Int) (s : Nat) (w : World) (hg : FmtG w) : UeSt neg z s w (w.alloc (.cells #[.bool (neg), .int .i64 (z), .int .u64 (dgl (s) 0 : Nat), .int .u64 (dgl (s) 1 : Nat), .int .u64 (dgl (s) 2 : Nat), .int .u64 (dgl (s) 3 : Nat), .int .u64 (dgl (s) 4 : Nat), .int .u64 (dgl (s) 5 : Nat), .int .u64 (dgl (s) 6 : Nat), .int .u64 (dgl (s) 7 : Nat)] 26)) :=
  ⟨hg.below (below_allocs _ _), hg.lt, nb_new w neg z s 26, by simp, below_allocs _ _⟩

set_option maxHeartbeats 4000000 in
theorem unpackExact_N1 (f z : Int) (neg r : Bool) (s Y : Nat)
    (HEX : Hid (∀ w, FmtG w → Calls Tryd.prog 11 #[.int .i64 f, .agg #[.bool (neg), .int .i64 (z), .int .u64 (dgl (s) 0 : Nat), .int .u64 (dgl (s) 1 : Nat), .int .u64 (dgl (s) 2 : Nat), .int .u64 (dgl (s) 3 : Nat), .int .u64 (dgl (s) 4 : Nat), .int .u64 (dgl (s) 5 : Nat), .int .u64 (dgl (s) 6 : Nat), .int .u64 (dgl (s) 7 : Nat)]] w fun e w' => e = .returned (.tuple #[.agg #[.int .u64 0, .int .u64 0], .bool false]) ∧ Below w.heap.size w w'))
    (HIS : Hid (∀ w, Calls Tryd.prog 12 #[.int .i64 f] w fun e w' => e = .returned (.bool false) ∧ w' = w))
    (HUR : Hid (∀ w, Calls Tryd.prog 14 #[.agg #[.bool (neg), .int .i64 (z), .int .u64 (dgl (s) 0 : Nat), .int .u64 (dgl (s) 1 : Nat), .int .u64 (dgl (s) 2 : Nat), .int .u64 (dgl (s) 3 : Nat), .int .u64 (dgl (s) 4 : Nat), .int .u64 (dgl (s) 5 : Nat), .int .u64 (dgl (s) 6 : Nat), .int .u64 (dgl (s) 7 : Nat)]] w fun e w' => e = .returned (.bool r) ∧ Below w.heap.size w w'))
    (HRR : Hid (∀ w, Calls Tryd.prog 13 #[.agg #[.bool (neg), .int .i64 (z), .int .u64 (dgl (s) 0 : Nat), .int .u64 (dgl (s) 1 : Nat), .int .u64 (dgl (s) 2 : Nat), .int .u64 (dgl (s) 3 : Nat), .int .u64 (dgl (s) 4 : Nat), .int .u64 (dgl (s) 5 : Nat), .int .u64 (dgl (s) 6 : Nat), .int .u64 (dgl (s) 7 : Nat)]] w fun e w' => e = .returned (.bool r) ∧ Below w.heap.size w w')) (w : World) (hg : FmtG w) :
    Calls Tryd.prog 3 #[.int .i64 f, .agg #[.bool (neg), .int .i64 (z), .int .u64 (dgl (s) 0 : Nat), .int .u64 (dgl (s) 1 : Nat), .int .u64 (dgl (s) 2 : Nat), .int .u64 (dgl (s) 3 : Nat), .int .u64 (dgl (s) 4 : Nat), .int .u64 (dgl (s) 5 : Nat), .int .u64 (dgl (s) 6 : Nat), .int .u64 (dgl (s) 7 : Nat)]] w fun e w' => e = .returned (.bool true) ∧ Below w.heap.size w w' := by
  have HS := hide (ueSt_start neg z s w hg)
  clear hg
  go_enter Tryd.func3, Tryd.ntmps3
  go_upto_region 1 with fail
  refine wp_gen (fun W => UeSt neg z s w W) HS.out ?_
  clear HS
  rintro W1 h1
  have HS := hide h1
  clear h1
  have ln := HS.out.n.n
  have le := HS.out.n.e
  have l0 := HS.out.n.x0
  have l1 := HS.out.n.x1
  have l2 := HS.out.n.x2
  have l3 := HS.out.n.x3
  have l4 := HS.out.n.x4
  have l5 := HS.out.n.x5
  have l6 := HS.out.n.x6
  have l7 := HS.out.n.x7
  go_wp2_with fail
  refine (HEX.out _ HS.out.g).mono ?_
  rintro e w1 ⟨rfl, hb1⟩
  replace HS := hide (HS.out.below hb1)
  clear hb1
  clear ln le l0 l1 l2 l3 l4 l5 l6 l7
  go_upto_region 2 with fail
  refine wp_gen (fun W => UeSt neg z s w W ∧ WB W w1.heap.size 0 0) ⟨HS.out.below (below_allocs _ _), wb_new _ _⟩ ?_
  clear HS
  generalize w1.heap.size = p5 at *
  rintro W2 ⟨g1, g2⟩
  have HS := hide g1
  have HW := hide g2
  clear g1 g2
  go_wp2_with fail
  refine (HIS.out _).mono ?_
  rintro e w2 ⟨rfl, hw⟩
  subst w2
  go_upto_region 3 with fail
  refine wp_gen (fun W => UeSt neg z s w W ∧ WB W p5 0 0) ⟨HS.out, HW.out⟩ ?_
  clear HS HW
  rintro W3 h3
  refine wp_region_grow 18 [(23, .val (.bool false)), (24, .val (.bool true)), (25, .val (.bool true)), (26, .val (.agg #[.int .u64 0, .int .u64 0])), (27, .val (.agg #[.int .u64 0, .int .u64 0])), (28, .val (.bool true)), (29, .val (.bool true)), (30, .val (.bool true)), (31, .val (.agg #[.bool (neg), .int .i64 (z), .int .u64 (dgl (s) 0 : Nat), .int .u64 (dgl (s) 1 : Nat), .int .u64 (dgl (s) 2 : Nat), .int .u64 (dgl (s) 3 : Nat), .int .u64 (dgl (s) 4 : Nat), .int .u64 (dgl (s) 5 : Nat), .int .u64 (dgl (s) 6 : Nat), .int .u64 (dgl (s) 7 : Nat)])), (32, .val (.bool r)), (33, .val (.agg #[.bool (neg), .int .i64 (z), .int .u64 (dgl (s) 0 : Nat), .int .u64 (dgl (s) 1 : Nat), .int .u64 (dgl (s) 2 : Nat), .int .u64 (dgl (s) 3 : Nat), .int .u64 (dgl (s) 4 : Nat), .int .u64 (dgl (s) 5 : Nat), .int .u64 (dgl (s) 6 : Nat), .int .u64 (dgl (s) 7 : Nat)])), (34, .val (.bool r)), (35, .val (.bool true)), (36, .val (.bool true)), (37, .val (.bool true)), (38, .val (.bool true)), (39, .val (.bool true)), (4, .val (.bool true))]
    (fun W => UeSt neg z s w W ∧ WB W p5 0 0) mixedOk (by kernel_rfl) (by kernel_rfl) (⟨h3.1.below (Below.refl _ _).drew, h3.2.below (Below.refl _ _).drew⟩) (fun W W' h hb => ⟨h.1.below hb, h.2.below hb⟩) ?_ ?_
  · refine gSt (gStep_run rfl (gRun_move 6 23 (.inl rfl) rfl (by decide +kernel) (fun v w h => h))) ?_
    refine gSt (gStep_run rfl ?_) ?_
    · intro ρ W hC hc hf hL
      have e23 : ρ (.tmp 23) = .bool false := hL 23 (by decide +kernel)
      simp [go_sem, hc, hf, e23]
      exact ⟨Below.refl _ _, rfl⟩
    refine gSt (gStep_run rfl (gRun_move 24 25 (.inl rfl) rfl (by decide +kernel) (fun v w h => h))) ?_
    refine gSt (gStep_on 2 25 true rfl rfl (by decide +kernel) (fun v w h => h) ?_) ?_
    · intro ρ W hC hc hf hL
      have e5 : ρ (.tmp 5) = .pointer (some ⟨p5, 0, none⟩) := hL 5 (by decide +kernel)
      have q0 := hC.2.h
      have q1 := hC.2.l
      simp [go_sem, hc, hf, e5, q0, q1]
      exact ⟨Below.refl _ _, rfl⟩
    refine gSt (gStep_on 2 25 true rfl rfl (by decide +kernel) (fun v w h => h) ?_) ?_
    · intro ρ W hC hc hf hL
      simp [go_sem, hc, hf]
      exact ⟨Below.refl _ _, rfl⟩
    refine gSt (gStep_on 2 25 true rfl rfl (by decide +kernel) (fun v w h => h) ?_) ?_
    · intro ρ W hC hc hf hL
      have e26 : ρ (.tmp 26) = .agg #[.int .u64 0, .int .u64 0] := hL 26 (by decide +kernel)
      have e27 : ρ (.tmp 27) = .agg #[.int .u64 0, .int .u64 0] := hL 27 (by decide +kernel)
      have hz0 := fun w => word_zz w
      simp [go_sem, hc, hf, e26, e27, hz0]
      exact ⟨Below.refl _ _, rfl⟩
    refine gSt (gStep_run rfl (gRun_pickT 25 28 29 _ rfl rfl (by decide +kernel) (by decide +kernel) (fun v w h => h) (fun v w h => h))) ?_
    refine gSt (gStep_run rfl (gRun_move 29 30 (.inl rfl) rfl (by decide +kernel) (fun v w h => h))) ?_
    refine gSt (gStep_on 7 30 true rfl rfl (by decide +kernel) (fun v w h => h) ?_) ?_
    · intro ρ W hC hc hf hL
      have e3 : ρ (.tmp 3) = .pointer (some ⟨w.heap.size, 0, none⟩) := hL 3 (by decide +kernel)
      have ln := hC.1.n.n
      have le := hC.1.n.e
      have l0 := hC.1.n.x0
      have l1 := hC.1.n.x1
      have l2 := hC.1.n.x2
      have l3 := hC.1.n.x3
      have l4 := hC.1.n.x4
      have l5 := hC.1.n.x5
      have l6 := hC.1.n.x6
      have l7 := hC.1.n.x7
      simp [go_sem, hc, hf, e3, ln, le, l0, l1, l2, l3, l4, l5, l6, l7]
      exact ⟨Below.refl _ _, rfl⟩
    refine gSt (gStep_on 7 30 true rfl rfl (by decide +kernel) (fun v w h => h) ?_) ?_
    · intro ρ W hC hc hf hL
      have e31 : ρ (.tmp 31) = .agg #[.bool (neg), .int .i64 (z), .int .u64 (dgl (s) 0 : Nat), .int .u64 (dgl (s) 1 : Nat), .int .u64 (dgl (s) 2 : Nat), .int .u64 (dgl (s) 3 : Nat), .int .u64 (dgl (s) 4 : Nat), .int .u64 (dgl (s) 5 : Nat), .int .u64 (dgl (s) 6 : Nat), .int .u64 (dgl (s) 7 : Nat)] := hL 31 (by decide +kernel)
      simp [go_sem, hc, hf, e31]
      refine (HUR.out W).mono ?_
      rintro e w' ⟨rfl, hb⟩
      exact ⟨_, rfl, by first | exact hb | (subst hb; exact Below.refl _ _), rfl⟩
    refine gSt (gStep_on 7 30 true rfl rfl (by decide +kernel) (fun v w h => h) ?_) ?_
    · intro ρ W hC hc hf hL
      have e3 : ρ (.tmp 3) = .pointer (some ⟨w.heap.size, 0, none⟩) := hL 3 (by decide +kernel)
      have ln := hC.1.n.n
      have le := hC.1.n.e
      have l0 := hC.1.n.x0
      have l1 := hC.1.n.x1
      have l2 := hC.1.n.x2
      have l3 := hC.1.n.x3
      have l4 := hC.1.n.x4
      have l5 := hC.1.n.x5
      have l6 := hC.1.n.x6
      have l7 := hC.1.n.x7
      simp [go_sem, hc, hf, e3, ln, le, l0, l1, l2, l3, l4, l5, l6, l7]
      exact ⟨Below.refl _ _, rfl⟩
    refine gSt (gStep_on 7 30 true rfl rfl (by decide +kernel) (fun v w h => h) ?_) ?_
    · intro ρ W hC hc hf hL
      have e33 : ρ (.tmp 33) = .agg #[.bool (neg), .int .i64 (z), .int .u64 (dgl (s) 0 : Nat), .int .u64 (dgl (s) 1 : Nat), .int .u64 (dgl (s) 2 : Nat), .int .u64 (dgl (s) 3 : Nat), .int .u64 (dgl (s) 4 : Nat), .int .u64 (dgl (s) 5 : Nat), .int .u64 (dgl (s) 6 : Nat), .int .u64 (dgl (s) 7 : Nat)] := hL 33 (by decide +kernel)
      simp [go_sem, hc, hf, e33]
      refine (HRR.out W).mono ?_
      rintro e w' ⟨rfl, hb⟩
      exact ⟨_, rfl, by first | exact hb | (subst hb; exact Below.refl _ _), rfl⟩
    refine gSt (gStep_on 7 30 true rfl rfl (by decide +kernel) (fun v w h => h) ?_) ?_
    · intro ρ W hC hc hf hL
      have e32 : ρ (.tmp 32) = .bool r := hL 32 (by decide +kernel)
      have e34 : ρ (.tmp 34) = .bool r := hL 34 (by decide +kernel)
      simp [go_sem, hc, hf, e32, e34]
      exact ⟨Below.refl _ _, rfl⟩
    refine gSt (gStep_run rfl (gRun_pickT 30 35 36 _ rfl rfl (by decide +kernel) (by decide +kernel) (fun v w h => h) (fun v w h => h))) ?_
    refine gSt (gStep_run rfl (gRun_move 36 37 (.inl rfl) rfl (by decide +kernel) (fun v w h => h))) ?_
    refine gSt (gStep_on 14 37 true rfl rfl (by decide +kernel) (fun v w h => h) ?_) ?_
    · intro ρ W hC hc hf hL
      simp [go_sem, hc, hf]
      refine (awake7_any W hC.1.g).mono ?_
      rintro e w' ⟨rfl, hb⟩
      exact ⟨_, rfl, by first | exact hb | (subst hb; exact Below.refl _ _), rfl⟩
    refine gSt (gStep_run rfl (gRun_pickT 37 38 39 _ rfl rfl (by decide +kernel) (by decide +kernel) (fun v w h => h) (fun v w h => h))) ?_
    refine gSt (gStep_run rfl (gRun_move 39 4 (.inr rfl) rfl (by decide +kernel) (fun v w h => h))) ?_
    exact gSt0
  · intro W hC
    refine gFi 23 rfl ?_
    rintro _ rfl
    refine gFi 24 rfl ?_
    rintro _ rfl
    refine gFi 25 rfl ?_
    rintro _ rfl
    refine gFi 26 rfl ?_
    rintro _ rfl
    refine gFi 27 rfl ?_
    rintro _ rfl
    refine gFi 28 rfl ?_
    rintro _ rfl
    refine gFi 29 rfl ?_
    rintro _ rfl
    refine gFi 30 rfl ?_
    rintro _ rfl
    refine gFi 31 rfl ?_
    rintro _ rfl
    refine gFi 32 rfl ?_
    rintro _ rfl
    refine gFi 33 rfl ?_
    rintro _ rfl
    refine gFi 34 rfl ?_
    rintro _ rfl
    refine gFi 35 rfl ?_
    rintro _ rfl
    refine gFi 36 rfl ?_
    rintro _ rfl
    refine gFi 37 rfl ?_
    rintro _ rfl
    refine gFi 38 rfl ?_
    rintro _ rfl
    refine gFi 39 rfl ?_
    rintro _ rfl
    refine gFi 4 rfl ?_
    rintro _ rfl
    refine gFi0 ?_
    simp only [List.drop_succ_cons, List.drop_zero, Act.put, List.setIfInBounds_toArray, List.set_cons_succ, List.set_cons_zero]
    have HB := hide hC.1.bel
    clear hC h3
    go_wp2
    go_ret
    exact ⟨rfl, HB.out⟩

set_option maxHeartbeats 4000000 in
theorem unpackExact_N2 (f z : Int) (neg r : Bool) (s Y : Nat)
    (HEX : Hid (∀ w, FmtG w → Calls Tryd.prog 11 #[.int .i64 f, .agg #[.bool (neg), .int .i64 (z), .int .u64 (dgl (s) 0 : Nat), .int .u64 (dgl (s) 1 : Nat), .int .u64 (dgl (s) 2 : Nat), .int .u64 (dgl (s) 3 : Nat), .int .u64 (dgl (s) 4 : Nat), .int .u64 (dgl (s) 5 : Nat), .int .u64 (dgl (s) 6 : Nat), .int .u64 (dgl (s) 7 : Nat)]] w fun e w' => e = .returned (.tuple #[.agg #[.int .u64 0, .int .u64 0], .bool false]) ∧ Below w.heap.size w w'))
    (HIS : Hid (∀ w, Calls Tryd.prog 12 #[.int .i64 f] w fun e w' => e = .returned (.bool true) ∧ w' = w))
    (HUR : Hid (∀ w, Calls Tryd.prog 14 #[.agg #[.bool (neg), .int .i64 (z), .int .u64 (dgl (s) 0 : Nat), .int .u64 (dgl (s) 1 : Nat), .int .u64 (dgl (s) 2 : Nat), .int .u64 (dgl (s) 3 : Nat), .int .u64 (dgl (s) 4 : Nat), .int .u64 (dgl (s) 5 : Nat), .int .u64 (dgl (s) 6 : Nat), .int .u64 (dgl (s) 7 : Nat)]] w fun e w' => e = .returned (.bool r) ∧ Below w.heap.size w w'))
    (HRR : Hid (∀ w, Calls Tryd.prog 13 #[.agg #[.bool (neg), .int .i64 (z), .int .u64 (dgl (s) 0 : Nat), .int .u64 (dgl (s) 1 : Nat), .int .u64 (dgl (s) 2 : Nat), .int .u64 (dgl (s) 3 : Nat), .int .u64 (dgl (s) 4 : Nat), .int .u64 (dgl (s) 5 : Nat), .int .u64 (dgl (s) 6 : Nat), .int .u64 (dgl (s) 7 : Nat)]] w fun e w' => e = .returned (.bool r) ∧ Below w.heap.size w w'))
    (hr : r = false) (w : World) (hg : FmtG w) :
    Calls Tryd.prog 3 #[.int .i64 f, .agg #[.bool (neg), .int .i64 (z), .int .u64 (dgl (s) 0 : Nat), .int .u64 (dgl (s) 1 : Nat), .int .u64 (dgl (s) 2 : Nat), .int .u64 (dgl (s) 3 : Nat), .int .u64 (dgl (s) 4 : Nat), .int .u64 (dgl (s) 5 : Nat), .int .u64 (dgl (s) 6 : Nat), .int .u64 (dgl (s) 7 : Nat)]] w fun e w' => e = .returned (.bool true) ∧ Below w.heap.size w w' := by
  have HS := hide (ueSt_start neg z s w hg)
  clear hg
  subst hr
  go_enter Tryd.func3, Tryd.ntmps3
  go_upto_region 1 with fail
  refine wp_gen (fun W => UeSt neg z s w W) HS.out ?_
  clear HS
  rintro W1 h1
  have HS := hide h1
  clear h1
  have ln := HS.out.n.n
  have le := HS.out.n.e
  have l0 := HS.out.n.x0
  have l1 := HS.out.n.x1
  have l2 := HS.out.n.x2
  have l3 := HS.out.n.x3
  have l4 := HS.out.n.x4
  have l5 := HS.out.n.x5
  have l6 := HS.out.n.x6
  have l7 := HS.out.n.x7
  go_wp2_with fail
  refine (HEX.out _ HS.out.g).mono ?_
  rintro e w1 ⟨rfl, hb1⟩
  replace HS := hide (HS.out.below hb1)
  clear hb1
  clear ln le l0 l1 l2 l3 l4 l5 l6 l7
  go_upto_region 2 with fail
  refine wp_gen (fun W => UeSt neg z s w W ∧ WB W w1.heap.size 0 0) ⟨HS.out.below (below_allocs _ _), wb_new _ _⟩ ?_
  clear HS
  generalize w1.heap.size = p5 at *
  rintro W2 ⟨g1, g2⟩
  have HS := hide g1
  have HW := hide g2
  clear g1 g2
  go_wp2_with fail
  refine (HIS.out _).mono ?_
  rintro e w2 ⟨rfl, hw⟩
  subst w2
  have ln := HS.out.n.n
  have le := HS.out.n.e
  have l0 := HS.out.n.x0
  have l1 := HS.out.n.x1
  have l2 := HS.out.n.x2
  have l3 := HS.out.n.x3
  have l4 := HS.out.n.x4
  have l5 := HS.out.n.x5
  have l6 := HS.out.n.x6
  have l7 := HS.out.n.x7
  go_wp2_with fail
  refine (HRR.out _).mono ?_
  rintro e w3 ⟨rfl, hb3⟩
  replace HS := hide (HS.out.below hb3)
  replace HW := hide (HW.out.below hb3)
  clear hb3
  clear ln le l0 l1 l2 l3 l4 l5 l6 l7
  go_upto_region 3 with fail
  refine wp_gen (fun W => UeSt neg z s w W ∧ WB W p5 0 0) ⟨HS.out, HW.out⟩ ?_
  clear HS HW
  rintro W3 h3
  refine wp_region_grow 18 [(23, .val (.bool false)), (24, .val (.bool true)), (25, .val (.bool true)), (26, .val (.agg #[.int .u64 0, .int .u64 0])), (27, .val (.agg #[.int .u64 0, .int .u64 0])), (28, .val (.bool true)), (29, .val (.bool true)), (30, .val (.bool true)), (31, .val (.agg #[.bool (neg), .int .i64 (z), .int .u64 (dgl (s) 0 : Nat), .int .u64 (dgl (s) 1 : Nat), .int .u64 (dgl (s) 2 : Nat), .int .u64 (dgl (s) 3 : Nat), .int .u64 (dgl (s) 4 : Nat), .int .u64 (dgl (s) 5 : Nat), .int .u64 (dgl (s) 6 : Nat), .int .u64 (dgl (s) 7 : Nat)])), (32, .val (.bool false)), (33, .val (.agg #[.bool (neg), .int .i64 (z), .int .u64 (dgl (s) 0 : Nat), .int .u64 (dgl (s) 1 : Nat), .int .u64 (dgl (s) 2 : Nat), .int .u64 (dgl (s) 3 : Nat), .int .u64 (dgl (s) 4 : Nat), .int .u64 (dgl (s) 5 : Nat), .int .u64 (dgl (s) 6 : Nat), .int .u64 (dgl (s) 7 : Nat)])), (34, .val (.bool false)), (35, .val (.bool true)), (36, .val (.bool true)), (37, .val (.bool true)), (38, .val (.bool true)), (39, .val (.bool true)), (4, .val (.bool true))]
    (fun W => UeSt neg z s w W ∧ WB W p5 0 0) mixedOk (by kernel_rfl) (by kernel_rfl) (⟨h3.1.below (Below.refl _ _).drew, h3.2.below (Below.refl _ _).drew⟩) (fun W W' h hb => ⟨h.1.below hb, h.2.below hb⟩) ?_ ?_
  · refine gSt (gStep_run rfl (gRun_move 6 23 (.inl rfl) rfl (by decide +kernel) (fun v w h => h))) ?_
    refine gSt (gStep_run rfl ?_) ?_
    · intro ρ W hC hc hf hL
      have e23 : ρ (.tmp 23) = .bool false := hL 23 (by decide +kernel)
      simp [go_sem, hc, hf, e23]
      exact ⟨Below.refl _ _, rfl⟩
    refine gSt (gStep_run rfl (gRun_move 24 25 (.inl rfl) rfl (by decide +kernel) (fun v w h => h))) ?_
    refine gSt (gStep_on 2 25 true rfl rfl (by decide +kernel) (fun v w h => h) ?_) ?_
    · intro ρ W hC hc hf hL
      have e5 : ρ (.tmp 5) = .pointer (some ⟨p5, 0, none⟩) := hL 5 (by decide +kernel)
      have q0 := hC.2.h
      have q1 := hC.2.l
      simp [go_sem, hc, hf, e5, q0, q1]
      exact ⟨Below.refl _ _, rfl⟩
    refine gSt (gStep_on 2 25 true rfl rfl (by decide +kernel) (fun v w h => h) ?_) ?_
    · intro ρ W hC hc hf hL
      simp [go_sem, hc, hf]
      exact ⟨Below.refl _ _, rfl⟩
    refine gSt (gStep_on 2 25 true rfl rfl (by decide +kernel) (fun v w h => h) ?_) ?_
    · intro ρ W hC hc hf hL
      have e26 : ρ (.tmp 26) = .agg #[.int .u64 0, .int .u64 0] := hL 26 (by decide +kernel)
      have e27 : ρ (.tmp 27) = .agg #[.int .u64 0, .int .u64 0] := hL 27 (by decide +kernel)
      have hz0 := fun w => word_zz w
      simp [go_sem, hc, hf, e26, e27, hz0]
      exact ⟨Below.refl _ _, rfl⟩
    refine gSt (gStep_run rfl (gRun_pickT 25 28 29 _ rfl rfl (by decide +kernel) (by decide +kernel) (fun v w h => h) (fun v w h => h))) ?_
    refine gSt (gStep_run rfl (gRun_move 29 30 (.inl rfl) rfl (by decide +kernel) (fun v w h => h))) ?_
    refine gSt (gStep_on 7 30 true rfl rfl (by decide +kernel) (fun v w h => h) ?_) ?_
    · intro ρ W hC hc hf hL
      have e3 : ρ (.tmp 3) = .pointer (some ⟨w.heap.size, 0, none⟩) := hL 3 (by decide +kernel)
      have ln := hC.1.n.n
      have le := hC.1.n.e
      have l0 := hC.1.n.x0
      have l1 := hC.1.n.x1
      have l2 := hC.1.n.x2
      have l3 := hC.1.n.x3
      have l4 := hC.1.n.x4
      have l5 := hC.1.n.x5
      have l6 := hC.1.n.x6
      have l7 := hC.1.n.x7
      simp [go_sem, hc, hf, e3, ln, le, l0, l1, l2, l3, l4, l5, l6, l7]
      exact ⟨Below.refl _ _, rfl⟩
    refine gSt (gStep_on 7 30 true rfl rfl (by decide +kernel) (fun v w h => h) ?_) ?_
    · intro ρ W hC hc hf hL
      have e31 : ρ (.tmp 31) = .agg #[.bool (neg), .int .i64 (z), .int .u64 (dgl (s) 0 : Nat), .int .u64 (dgl (s) 1 : Nat), .int .u64 (dgl (s) 2 : Nat), .int .u64 (dgl (s) 3 : Nat), .int .u64 (dgl (s) 4 : Nat), .int .u64 (dgl (s) 5 : Nat), .int .u64 (dgl (s) 6 : Nat), .int .u64 (dgl (s) 7 : Nat)] := hL 31 (by decide +kernel)
      simp [go_sem, hc, hf, e31]
      refine (HUR.out W).mono ?_
      rintro e w' ⟨rfl, hb⟩
      exact ⟨_, rfl, by first | exact hb | (subst hb; exact Below.refl _ _), rfl⟩
    refine gSt (gStep_on 7 30 true rfl rfl (by decide +kernel) (fun v w h => h) ?_) ?_
    · intro ρ W hC hc hf hL
      have e3 : ρ (.tmp 3) = .pointer (some ⟨w.heap.size, 0, none⟩) := hL 3 (by decide +kernel)
      have ln := hC.1.n.n
      have le := hC.1.n.e
      have l0 := hC.1.n.x0
      have l1 := hC.1.n.x1
      have l2 := hC.1.n.x2
      have l3 := hC.1.n.x3
      have l4 := hC.1.n.x4
      have l5 := hC.1.n.x5
      have l6 := hC.1.n.x6
      have l7 := hC.1.n.x7
      simp [go_sem, hc, hf, e3, ln, le, l0, l1, l2, l3, l4, l5, l6, l7]
      exact ⟨Below.refl _ _, rfl⟩
    refine gSt (gStep_on 7 30 true rfl rfl (by decide +kernel) (fun v w h => h) ?_) ?_
    · intro ρ W hC hc hf hL
      have e33 : ρ (.tmp 33) = .agg #[.bool (neg), .int .i64 (z), .int .u64 (dgl (s) 0 : Nat), .int .u64 (dgl (s) 1 : Nat), .int .u64 (dgl (s) 2 : Nat), .int .u64 (dgl (s) 3 : Nat), .int .u64 (dgl (s) 4 : Nat), .int .u64 (dgl (s) 5 : Nat), .int .u64 (dgl (s) 6 : Nat), .int .u64 (dgl (s) 7 : Nat)] := hL 33 (by decide +kernel)
      simp [go_sem, hc, hf, e33]
      refine (HRR.out W).mono ?_
      rintro e w' ⟨rfl, hb⟩
      exact ⟨_, rfl, by first | exact hb | (subst hb; exact Below.refl _ _), rfl⟩
    refine gSt (gStep_on 7 30 true rfl rfl (by decide +kernel) (fun v w h => h) ?_) ?_
    · intro ρ W hC hc hf hL
      have e32 : ρ (.tmp 32) = .bool false := hL 32 (by decide +kernel)
      have e34 : ρ (.tmp 34) = .bool false := hL 34 (by decide +kernel)
      simp [go_sem, hc, hf, e32, e34]
      exact ⟨Below.refl _ _, rfl⟩
    refine gSt (gStep_run rfl (gRun_pickT 30 35 36 _ rfl rfl (by decide +kernel) (by decide +kernel) (fun v w h => h) (fun v w h => h))) ?_
    refine gSt (gStep_run rfl (gRun_move 36 37 (.inl rfl) rfl (by decide +kernel) (fun v w h => h))) ?_
    refine gSt (gStep_on 14 37 true rfl rfl (by decide +kernel) (fun v w h => h) ?_) ?_
    · intro ρ W hC hc hf hL
      simp [go_sem, hc, hf]
      refine (awake7_any W hC.1.g).mono ?_
      rintro e w' ⟨rfl, hb⟩
      exact ⟨_, rfl, by first | exact hb | (subst hb; exact Below.refl _ _), rfl⟩
    refine gSt (gStep_run rfl (gRun_pickT 37 38 39 _ rfl rfl (by decide +kernel) (by decide +kernel) (fun v w h => h) (fun v w h => h))) ?_
    refine gSt (gStep_run rfl (gRun_move 39 4 (.inr rfl) rfl (by decide +kernel) (fun v w h => h))) ?_
    exact gSt0
  · intro W hC
    refine gFi 23 rfl ?_
    rintro _ rfl
    refine gFi 24 rfl ?_
    rintro _ rfl
    refine gFi 25 rfl ?_
    rintro _ rfl
    refine gFi 26 rfl ?_
    rintro _ rfl
    refine gFi 27 rfl ?_
    rintro _ rfl
    refine gFi 28 rfl ?_
    rintro _ rfl
    refine gFi 29 rfl ?_
    rintro _ rfl
    refine gFi 30 rfl ?_
    rintro _ rfl
    refine gFi 31 rfl ?_
    rintro _ rfl
    refine gFi 32 rfl ?_
    rintro _ rfl
    refine gFi 33 rfl ?_
    rintro _ rfl
    refine gFi 34 rfl ?_
    rintro _ rfl
    refine gFi 35 rfl ?_
    rintro _ rfl
    refine gFi 36 rfl ?_
    rintro _ rfl
    refine gFi 37 rfl ?_
    rintro _ rfl
    refine gFi 38 rfl ?_
    rintro _ rfl
    refine gFi 39 rfl ?_
    rintro _ rfl
    refine gFi 4 rfl ?_
    rintro _ rfl
    refine gFi0 ?_
    simp only [List.drop_succ_cons, List.drop_zero, Act.put, List.setIfInBounds_toArray, List.set_cons_succ, List.set_cons_zero]
    have HB := hide hC.1.bel
    clear hC h3
    go_wp2
    go_ret
    exact ⟨rfl, HB.out⟩

set_option maxHeartbeats 4000000 in
theorem unpackExact_Y (f z : Int) (neg r : Bool) (s Y : Nat)
    (HEX : Hid (∀ w, FmtG w → Calls Tryd.prog 11 #[.int .i64 f, .agg #[.bool (neg), .int .i64 (z), .int .u64 (dgl (s) 0 : Nat), .int .u64 (dgl (s) 1 : Nat), .int .u64 (dgl (s) 2 : Nat), .int .u64 (dgl (s) 3 : Nat), .int .u64 (dgl (s) 4 : Nat), .int .u64 (dgl (s) 5 : Nat), .int .u64 (dgl (s) 6 : Nat), .int .u64 (dgl (s) 7 : Nat)]] w fun e w' => e = .returned (.tuple #[.agg #[.int .u64 (dgl (Y) 1 : Nat), .int .u64 (dgl (Y) 0 : Nat)], .bool true]) ∧ Below w.heap.size w w'))
    (HIS : Hid (∀ w, Calls Tryd.prog 12 #[.int .i64 f] w fun e w' => e = .returned (.bool true) ∧ w' = w))
    (HUR : Hid (∀ w, Calls Tryd.prog 14 #[.agg #[.bool (neg), .int .i64 (z), .int .u64 (dgl (s) 0 : Nat), .int .u64 (dgl (s) 1 : Nat), .int .u64 (dgl (s) 2 : Nat), .int .u64 (dgl (s) 3 : Nat), .int .u64 (dgl (s) 4 : Nat), .int .u64 (dgl (s) 5 : Nat), .int .u64 (dgl (s) 6 : Nat), .int .u64 (dgl (s) 7 : Nat)]] w fun e w' => e = .returned (.bool r) ∧ Below w.heap.size w w'))
    (HRR : Hid (∀ w, Calls Tryd.prog 13 #[.agg #[.bool (neg), .int .i64 (z), .int .u64 (dgl (s) 0 : Nat), .int .u64 (dgl (s) 1 : Nat), .int .u64 (dgl (s) 2 : Nat), .int .u64 (dgl (s) 3 : Nat), .int .u64 (dgl (s) 4 : Nat), .int .u64 (dgl (s) 5 : Nat), .int .u64 (dgl (s) 6 : Nat), .int .u64 (dgl (s) 7 : Nat)]] w fun e w' => e = .returned (.bool r) ∧ Below w.heap.size w w'))
    (hr : r = true)
    (HRX : Hid (∀ w, Calls Tryd.prog 16 #[.int .i64 f, .agg #[.bool (neg), .int .i64 (z), .int .u64 (dgl (s) 0 : Nat), .int .u64 (dgl (s) 1 : Nat), .int .u64 (dgl (s) 2 : Nat), .int .u64 (dgl (s) 3 : Nat), .int .u64 (dgl (s) 4 : Nat), .int .u64 (dgl (s) 5 : Nat), .int .u64 (dgl (s) 6 : Nat), .int .u64 (dgl (s) 7 : Nat)]] w fun e w' => e = .returned (.tuple #[.agg #[.int .u64 (dgl (Y) 1 : Nat), .int .u64 (dgl (Y) 0 : Nat)], .bool true]) ∧ Below w.heap.size w w'))
    (hq : ∀ w, (Op.equalIn 10000 28 (.agg #[.int .u64 (dgl (Y) 1 : Nat), .int .u64 (dgl (Y) 0 : Nat)]) (.agg #[.int .u64 (dgl (Y) 1 : Nat), .int .u64 (dgl (Y) 0 : Nat)])).run Tryd.prog w = .ok true w) (w : World) (hg : FmtG w) :
    Calls Tryd.prog 3 #[.int .i64 f, .agg #[.bool (neg), .int .i64 (z), .int .u64 (dgl (s) 0 : Nat), .int .u64 (dgl (s) 1 : Nat), .int .u64 (dgl (s) 2 : Nat), .int .u64 (dgl (s) 3 : Nat), .int .u64 (dgl (s) 4 : Nat), .int .u64 (dgl (s) 5 : Nat), .int .u64 (dgl (s) 6 : Nat), .int .u64 (dgl (s) 7 : Nat)]] w fun e w' => e = .returned (.bool true) ∧ Below w.heap.size w w' := by
  have HS := hide (ueSt_start neg z s w hg)
  clear hg
  subst hr
  go_enter Tryd.func3, Tryd.ntmps3
  go_upto_region 1 with fail
  refine wp_gen (fun W => UeSt neg z s w W) HS.out ?_
  clear HS
  rintro W1 h1
  have HS := hide h1
  clear h1
  have ln := HS.out.n.n
  have le := HS.out.n.e
  have l0 := HS.out.n.x0
  have l1 := HS.out.n.x1
  have l2 := HS.out.n.x2
  have l3 := HS.out.n.x3
  have l4 := HS.out.n.x4
  have l5 := HS.out.n.x5
  have l6 := HS.out.n.x6
  have l7 := HS.out.n.x7
  go_wp2_with fail
  refine (HEX.out _ HS.out.g).mono ?_
  rintro e w1 ⟨rfl, hb1⟩
  replace HS := hide (HS.out.below hb1)
  clear hb1
  clear ln le l0 l1 l2 l3 l4 l5 l6 l7
  go_upto_region 2 with fail
  refine wp_gen (fun W => UeSt neg z s w W ∧ WB W w1.heap.size (dgl Y 1) (dgl Y 0)) ⟨HS.out.below (below_allocs _ _), wb_new2 _ _ _ _⟩ ?_
  clear HS
  generalize w1.heap.size = p5 at *
  rintro W2 ⟨g1, g2⟩
  have HS := hide g1
  have HW := hide g2
  clear g1 g2
  go_wp2_with fail
  refine (HIS.out _).mono ?_
  rintro e w2 ⟨rfl, hw⟩
  subst w2
  have ln := HS.out.n.n
  have le := HS.out.n.e
  have l0 := HS.out.n.x0
  have l1 := HS.out.n.x1
  have l2 := HS.out.n.x2
  have l3 := HS.out.n.x3
  have l4 := HS.out.n.x4
  have l5 := HS.out.n.x5
  have l6 := HS.out.n.x6
  have l7 := HS.out.n.x7
  go_wp2_with fail
  refine (HRR.out _).mono ?_
  rintro e w3 ⟨rfl, hb3⟩
  replace HS := hide (HS.out.below hb3)
  replace HW := hide (HW.out.below hb3)
  clear hb3
  clear ln le l0 l1 l2 l3 l4 l5 l6 l7
  have ln := HS.out.n.n
  have le := HS.out.n.e
  have l0 := HS.out.n.x0
  have l1 := HS.out.n.x1
  have l2 := HS.out.n.x2
  have l3 := HS.out.n.x3
  have l4 := HS.out.n.x4
  have l5 := HS.out.n.x5
  have l6 := HS.out.n.x6
  have l7 := HS.out.n.x7
  go_wp2_with fail
  refine (HRX.out _).mono ?_
  rintro e w4 ⟨rfl, hb4⟩
  replace HS := hide (HS.out.below hb4)
  replace HW := hide (HW.out.below hb4)
  clear hb4
  clear ln le l0 l1 l2 l3 l4 l5 l6 l7
  go_upto_region 5 with fail
  refine wp_gen (fun W => UeSt neg z s w W ∧ WB W p5 (dgl Y 1) (dgl Y 0) ∧ WB W w4.heap.size (dgl Y 1) (dgl Y 0)) ⟨HS.out.below (below_allocs _ _), HW.out.below (below_allocs _ _), wb_new2 _ _ _ _⟩ ?_
  clear HS HW
  generalize w4.heap.size = p7 at *
  rintro W4 ⟨g1, g2, g3⟩
  have HS := hide g1
  have q0 := g2.h
  have q1 := g2.l
  have q2 := g3.h
  have q3 := g3.l
  clear g1 g2 g3
  have ln := HS.out.n.n
  have le := HS.out.n.e
  have l0 := HS.out.n.x0
  have l1 := HS.out.n.x1
  have l2 := HS.out.n.x2
  have l3 := HS.out.n.x3
  have l4 := HS.out.n.x4
  have l5 := HS.out.n.x5
  have l6 := HS.out.n.x6
  have l7 := HS.out.n.x7
  go_wp2_with fail
  refine (HUR.out _).mono ?_
  rintro e w5 ⟨rfl, hb5⟩
  replace HS := hide (HS.out.below hb5)
  clear hb5
  clear ln le l0 l1 l2 l3 l4 l5 l6 l7
  clear q0 q1 q2 q3
  go_wp2_with fail
  refine (awake7_any _ HS.out.g).mono ?_
  rintro e w6 ⟨rfl, hb6⟩
  replace HS := hide (HS.out.below hb6)
  clear hb6
  have HB := hide HS.out.bel
  clear HS
  go_wp2
  go_ret
  exact ⟨rfl, HB.out⟩

set_option maxHeartbeats 4000000 in
theorem unpackExact_X (f z : Int) (neg r : Bool) (s Y : Nat)
    (HEX : Hid (∀ w, FmtG w → Calls Tryd.prog 11 #[.int .i64 f, .agg #[.bool (neg), .int .i64 (z), .int .u64 (dgl (s) 0 : Nat), .int .u64 (dgl (s) 1 : Nat), .int .u64 (dgl (s) 2 : Nat), .int .u64 (dgl (s) 3 : Nat), .int .u64 (dgl (s) 4 : Nat), .int .u64 (dgl (s) 5 : Nat), .int .u64 (dgl (s) 6 : Nat), .int .u64 (dgl (s) 7 : Nat)]] w fun e w' => e = .returned (.tuple #[.agg #[.int .u64 0, .int .u64 0], .bool false]) ∧ Below w.heap.size w w'))
    (HIS : Hid (∀ w, Calls Tryd.prog 12 #[.int .i64 f] w fun e w' => e = .returned (.bool true) ∧ w' = w))
    (HUR : Hid (∀ w, Calls Tryd.prog 14 #[.agg #[.bool (neg), .int .i64 (z), .int .u64 (dgl (s) 0 : Nat), .int .u64 (dgl (s) 1 : Nat), .int .u64 (dgl (s) 2 : Nat), .int .u64 (dgl (s) 3 : Nat), .int .u64 (dgl (s) 4 : Nat), .int .u64 (dgl (s) 5 : Nat), .int .u64 (dgl (s) 6 : Nat), .int .u64 (dgl (s) 7 : Nat)]] w fun e w' => e = .returned (.bool r) ∧ Below w.heap.size w w'))
    (HRR : Hid (∀ w, Calls Tryd.prog 13 #[.agg #[.bool (neg), .int .i64 (z), .int .u64 (dgl (s) 0 : Nat), .int .u64 (dgl (s) 1 : Nat), .int .u64 (dgl (s) 2 : Nat), .int .u64 (dgl (s) 3 : Nat), .int .u64 (dgl (s) 4 : Nat), .int .u64 (dgl (s) 5 : Nat), .int .u64 (dgl (s) 6 : Nat), .int .u64 (dgl (s) 7 : Nat)]] w fun e w' => e = .returned (.bool r) ∧ Below w.heap.size w w'))
    (hr : r = true)
    (HRX : Hid (∀ w, Calls Tryd.prog 16 #[.int .i64 f, .agg #[.bool (neg), .int .i64 (z), .int .u64 (dgl (s) 0 : Nat), .int .u64 (dgl (s) 1 : Nat), .int .u64 (dgl (s) 2 : Nat), .int .u64 (dgl (s) 3 : Nat), .int .u64 (dgl (s) 4 : Nat), .int .u64 (dgl (s) 5 : Nat), .int .u64 (dgl (s) 6 : Nat), .int .u64 (dgl (s) 7 : Nat)]] w fun e w' => e = .returned (.tuple #[.agg #[.int .u64 0, .int .u64 0], .bool false]) ∧ Below w.heap.size w w')) (w : World) (hg : FmtG w) :
    Calls Tryd.prog 3 #[.int .i64 f, .agg #[.bool (neg), .int .i64 (z), .int .u64 (dgl (s) 0 : Nat), .int .u64 (dgl (s) 1 : Nat), .int .u64 (dgl (s) 2 : Nat), .int .u64 (dgl (s) 3 : Nat), .int .u64 (dgl (s) 4 : Nat), .int .u64 (dgl (s) 5 : Nat), .int .u64 (dgl (s) 6 : Nat), .int .u64 (dgl (s) 7 : Nat)]] w fun e w' => e = .returned (.bool true) ∧ Below w.heap.size w w' := by
  have HS := hide (ueSt_start neg z s w hg)
  clear hg
  subst hr
  go_enter Tryd.func3, Tryd.ntmps3
  go_upto_region 1 with fail
  refine wp_gen (fun W => UeSt neg z s w W) HS.out ?_
  clear HS
  rintro W1 h1
  have HS := hide h1
  clear h1
  have ln := HS.out.n.n
  have le := HS.out.n.e
  have l0 := HS.out.n.x0
  have l1 := HS.out.n.x1
  have l2 := HS.out.n.x2
  have l3 := HS.out.n.x3
  have l4 := HS.out.n.x4
  have l5 := HS.out.n.x5
  have l6 := HS.out.n.x6
  have l7 := HS.out.n.x7
  go_wp2_with fail
  refine (HEX.out _ HS.out.g).mono ?_
  rintro e w1 ⟨rfl, hb1⟩
  replace HS := hide (HS.out.below hb1)
  clear hb1
  clear ln le l0 l1 l2 l3 l4 l5 l6 l7
  go_upto_region 2 with fail
  refine wp_gen (fun W => UeSt neg z s w W ∧ WB W w1.heap.size 0 0) ⟨HS.out.below (below_allocs _ _), wb_new _ _⟩ ?_
  clear HS
  generalize w1.heap.size = p5 at *
  rintro W2 ⟨g1, g2⟩
  have HS := hide g1
  have HW := hide g2
  clear g1 g2
  go_wp2_with fail
  refine (HIS.out _).mono ?_
  rintro e w2 ⟨rfl, hw⟩
  subst w2
  have ln := HS.out.n.n
  have le := HS.out.n.e
  have l0 := HS.out.n.x0
  have l1 := HS.out.n.x1
  have l2 := HS.out.n.x2
  have l3 := HS.out.n.x3
  have l4 := HS.out.n.x4
  have l5 := HS.out.n.x5
  have l6 := HS.out.n.x6
  have l7 := HS.out.n.x7
  go_wp2_with fail
  refine (HRR.out _).mono ?_
  rintro e w3 ⟨rfl, hb3⟩
  replace HS := hide (HS.out.below hb3)
  replace HW := hide (HW.out.below hb3)
  clear hb3
  clear ln le l0 l1 l2 l3 l4 l5 l6 l7
  have ln := HS.out.n.n
  have le := HS.out.n.e
  have l0 := HS.out.n.x0
  have l1 := HS.out.n.x1
  have l2 := HS.out.n.x2
  have l3 := HS.out.n.x3
  have l4 := HS.out.n.x4
  have l5 := HS.out.n.x5
  have l6 := HS.out.n.x6
  have l7 := HS.out.n.x7
  go_wp2_with fail
  refine (HRX.out _).mono ?_
  rintro e w4 ⟨rfl, hb4⟩
  replace HS := hide (HS.out.below hb4)
  replace HW := hide (HW.out.below hb4)
  clear hb4
  clear ln le l0 l1 l2 l3 l4 l5 l6 l7
  go_upto_region 5 with fail
  refine wp_gen (fun W => UeSt neg z s w W ∧ WB W p5 0 0 ∧ WB W w4.heap.size 0 0) ⟨HS.out.below (below_allocs _ _), HW.out.below (below_allocs _ _), wb_new _ _⟩ ?_
  clear HS HW
  generalize w4.heap.size = p7 at *
  rintro W4 ⟨g1, g2, g3⟩
  have HS := hide g1
  have q0 := g2.h
  have q1 := g2.l
  have q2 := g3.h
  have q3 := g3.l
  clear g1 g2 g3
  have hq := fun w => word_zz w
  have ln := HS.out.n.n
  have le := HS.out.n.e
  have l0 := HS.out.n.x0
  have l1 := HS.out.n.x1
  have l2 := HS.out.n.x2
  have l3 := HS.out.n.x3
  have l4 := HS.out.n.x4
  have l5 := HS.out.n.x5
  have l6 := HS.out.n.x6
  have l7 := HS.out.n.x7
  go_wp2_with fail
  refine (HUR.out _).mono ?_
  rintro e w5 ⟨rfl, hb5⟩
  replace HS := hide (HS.out.below hb5)
  clear hb5
  clear ln le l0 l1 l2 l3 l4 l5 l6 l7
  clear q0 q1 q2 q3
  go_wp2_with fail
  refine (awake7_any _ HS.out.g).mono ?_
  rintro e w6 ⟨rfl, hb6⟩
  replace HS := hide (HS.out.below hb6)
  clear hb6
  have HB := hide HS.out.bel
  clear HS
  go_wp2
  go_ret
  exact ⟨rfl, HB.out⟩

theorem unpackExact_all (f : Int) (neg : Bool) (z : Int) (s : Nat) (hs : s < QQ) (w : World) (hg : FmtG w) :
    Calls Tryd.prog 3 #[.int .i64 f, .agg (#[.bool neg, .int .i64 z] ++ #[.int .u64 (dgl (s) 0 : Nat), .int .u64 (dgl (s) 1 : Nat), .int .u64 (dgl (s) 2 : Nat), .int .u64 (dgl (s) 3 : Nat), .int .u64 (dgl (s) 4 : Nat), .int .u64 (dgl (s) 5 : Nat), .int .u64 (dgl (s) 6 : Nat), .int .u64 (dgl (s) 7 : Nat)])] w fun e w' => e = .returned (.bool true) ∧ Below w.heap.size w w' := by
  show Calls Tryd.prog 3 #[.int .i64 f, .agg #[.bool (neg), .int .i64 (z), .int .u64 (dgl (s) 0 : Nat), .int .u64 (dgl (s) 1 : Nat), .int .u64 (dgl (s) 2 : Nat), .int .u64 (dgl (s) 3 : Nat), .int .u64 (dgl (s) 4 : Nat), .int .u64 (dgl (s) 5 : Nat), .int .u64 (dgl (s) 6 : Nat), .int .u64 (dgl (s) 7 : Nat)]] w fun e w' => e = .returned (.bool true) ∧ Below w.heap.size w w'
  have HU := fun w => uRight_any neg z s w
  have HR := fun w => refRight_any neg z s w
  by_cases hf : 1 ≤ f ∧ f ≤ 4
  · have HI := fun w => is_u f hf w
    have HO := fun w hg => of_u f hf w hg
    by_cases hr : rgt z = true
    · rw [hr] at HU HR
      have hz := rgtB hr
      obtain ⟨X, hX⟩ := find_ex f hf s z
      have h4 := (take_fin hX.2.2.1).1
      have hne : clsU f X ≠ 0 := by omega
      obtain ⟨r1, r2⟩ := rexact_any f hf neg z s X hs (by omega) hX
      by_cases h0 : sizeZ (sigU f X) (expU f X) s z = 0
      · obtain ⟨b1, b2, -, -, b5⟩ := sgn_U neg hne
        obtain ⟨c1, c2⟩ := sgn_sig neg hne
        have hv := (sizeZ_spec (sigU f X) s (expU f X) z (min (expU f X) z) (by omega) (by omega)).2.1 h0
        have hE := fun w hg => exact_word f (sgnU f neg X) (by omega) z (min (expU f X) z) s hs hr (by omega) (by rw [c2]; omega) (by rw [c1, c2]; exact hv.symm) w hg
        rw [b2] at hE
        have hq := fun w => wordEq b1 b1 w
        rw [decide_eq_true rfl] at hq
        exact unpackExact_Y f z neg true s (sgnU f neg X) hE HI HU HR rfl (r1 h0) hq w hg
      · have hE := fun w hg => exact_none f hf neg z s hs hr (fun a ha h4 hn h1 => h0 (find_hit hf hX h4 h1)) w hg
        exact unpackExact_X f z neg true s 0 hE HI HU HR rfl (r2 h0) w hg
    · have hr2 : rgt z = false := by simpa using hr
      rw [hr2] at HU HR
      exact unpackExact_N2 f z neg false s 0 (fun w hg => exact_B f z 0 0 0 neg false false false (kU f) s 0 0 0 0 0 HO HU w hg) HI HU HR rfl w hg
  · have HO := fun (w : World) (hg : FmtG w) => of_none f (by omega) w
    exact unpackExact_N1 f z neg (rgt z) s 0 (fun w hg => exact_A f z 0 0 0 neg false false false (fun _ => 0) s 0 0 0 0 0 HO w hg) (fun w => is_none f (by omega) w) HU HR w hg

end Go.Proofs.YtpcjdllijkjdkaaDoor

/- UnpackExact: for any int and any number the law returns true. Conditions: those of the tied card (the table of formats is laid as the program lays it). -/
namespace Go.Proofs.YtpcjdllijkjdkaaDoor.unpackExact
open Go.ChangeShapes Go.WideShapes Go.ChangeAt Go.RowKit Go.Proofs.YtpcjdllijkjdkaaDoor

theorem own : ownKnob Tryd.prog.godebug = none := by kernel_rfl
theorem laidOut : laidOutB Tryd.prog = true := by kernel_rfl

theorem door_met (os : Os) (args : Array Value) : laidMetH Tryd.prog [("radicand/format.formats", Rows.laid_radicand_format_formats)] ((World.doorLaid Tryd.prog 400 os).forCall (fun _ _ => 0) ⟨#[], args, []⟩).memory :=
  laidMetH_of_parts3 (fuel := 8) (laidMet_of_run' 8 (by kernel_rfl) (by kernel_rfl)) (by kernel_rfl) (by kernel_rfl)

set_option maxRecDepth 100000 in
theorem lifted (os : Os) (started : os.Started) (H : Type) (enc : TypeId × Value → H) :
    ReturnsInHanded {} Tryd.checked os 3 .any (fun w args => (Rows.unpackExactSpec.pre enc Tryd.prog Tryd.f3 [] false w args ∧ laidMetH Tryd.prog [("radicand/format.formats", Rows.laid_radicand_format_formats)] w) ∧ sizedMet enc Tryd.prog Tryd.f3 (OpenSpec.ofChange Rows.unpackExactSpec) false w args) (Rows.unpackExactSpec.post enc Tryd.prog Tryd.f3 false true false false) := by
  refine returnsInHanded_of_change_and (C := Tryd.checked) (X := fun w _ => laidMetH Tryd.prog [("radicand/format.formats", Rows.laid_radicand_format_formats)] w) (fun _ _ _ hh h => h.of_heap hh) own started (by kernel_rfl) Tryd.func3
    (ChangeSpec.witness_shaped (enc := enc) (C := Tryd.checked) (os := os) (X := fun w _ => laidMetH Tryd.prog [("radicand/format.formats", Rows.laid_radicand_format_formats)] w) false (World.doorLaid Tryd.prog 400 os) #[.int .i64 0, .agg #[.bool false, .int .i64 0, .int .u64 0, .int .u64 0, .int .u64 0, .int .u64 0, .int .u64 0, .int .u64 0, .int .u64 0, .int .u64 0]] 40 rfl (World.shaped_of_RefB (by kernel_rfl) (by kernel_rfl)) (by kernel_rfl) (by kernel_rfl) (by kernel_rfl) (door_met os _)) ?_
  intro W base args ds gs before hval0 hW _ _ hL _
  have hval : ∀ (j : Nat) t v, Tryd.f3.params[j]? = some t → args[j]? = some v → Value.okWide Tryd.prog W .any base t v := hval0
  have hW' := hW
  obtain ⟨p, q, hA0, hV, rfl, hfz, hnd⟩ := hW
  have hA : DataW.TrodAll enc Tryd.prog W 0 (fun _ => true) true Tryd.f3.params.toList args.toList ds p := hA0
  rw [Tryd.params3] at hA hval
  obtain ⟨v0, vs0, d0, ds0, p0, q0, hargs, rfl, rfl, h0, r0⟩ := trodAll_cons hA
  obtain ⟨v1, vs1, d1, ds1, p1, q1, rfl, rfl, rfl, h1, r1⟩ := trodAll_cons r0
  obtain ⟨rfl, rfl, rfl⟩ := trodAll_nil r1
  obtain rfl : args = #[v0, v1] := by cases args; simp_all
  obtain ⟨rfl, rfl⟩ := trodVars_none hV
  have k0 := h0
  have lt0 : ∀ x ∈ p0, x.block < W.heap.size := by obtain ⟨m, hm⟩ := k0; exact DataW.trod_lt m _ _ _ hm
  have k1 := h1
  have lt1 : ∀ x ∈ p1, x.block < W.heap.size := by obtain ⟨m, hm⟩ := k1; exact DataW.trod_lt m _ _ _ hm
  obtain ⟨a0, rfl, rfl, rfl, wf0⟩ := open_int Tryd.underlying3 (hval 0 3 v0 rfl rfl) h0
  obtain ⟨n1, z1, b1, hb1, rfl⟩ := number_open (hval 1 26 v1 rfl rfl) h1
  clear hA0 hval0
  have hg := of_laid1 hL
  refine (unpackExact_all a0 n1 z1 b1 hb1.2 W hg).mono fun e W' ⟨he, bel⟩ => ?_
  subst he
  exact ⟨_, rfl, _, _, _, [], _, [], hW', trodAll_mk1 (shut_bool Tryd.underlying4 _), (trodAll_cons_mk (Below.trod laidOut (by kernel_rfl) (of_decide_eq_true (by kernel_rfl)) k0 bel lt0) (trodAll_cons_mk (Below.trod laidOut (by kernel_rfl) (of_decide_eq_true (by kernel_rfl)) k1 bel lt1) trodAll_mk0)), rfl, bel.frame _, fun h => by cases h⟩

theorem over : Rows.unpackExactRow.holds Tryd.pinned (OpenSpec.ofChange Rows.unpackExactSpec) :=
  OpenClaim.holds_of_wide 3 Tryd.f3 rfl rfl rfl rfl rfl rfl rfl ⟨rfl, rfl, rfl, rfl, rfl⟩ rfl rfl rfl rfl rfl (by kernel_rfl) Tryd.func3 (by kernel_rfl)
    (of_decide_eq_true (by kernel_rfl)) (by unfold Func.isWrapper; first | (rw [if_pos (by decide +kernel)]; kernel_rfl) | (rw [if_neg (by decide +kernel)]; exact ⟨rfl, rfl⟩))
    (fun os started H enc _ => lifted os started H enc)

theorem proved : Rows.UnpackExactCardSaid :=
  Claim7.holds_tied_plain_at .later [] [.data] true (true, "bda7307485677e703060dea11d85374f6d1941a46d5c51f47956e134a69fc123") false
    over (fun _ h => by cases h) (by kernel_rfl) (fun _ h => by cases h) unpackExact_row_tie rfl ⟨rfl, rfl⟩ (by kernel_rfl) rfl
    (fun f fn hf hfn => by
      obtain rfl : f = 3 := Option.some.inj ((show Tryd.prog.funcNamed "radicand/radicandlaw07.UnpackExact" = some 3 by kernel_rfl).symm.trans hf) |>.symm
      obtain rfl : fn = Tryd.f3 := (Option.some.inj (Tryd.func3.symm.trans hfn)).symm
      exact ⟨by kernel_rfl, fun j t ht => by
        rw [Tryd.params3] at ht
        rcases j with _ | j
        · obtain rfl : t = 3 := by simpa using ht.symm
          exact (show Tryd.prog.wantsStandIn 3 = false by kernel_rfl)
        rcases j with _ | j
        · obtain rfl : t = 26 := by simpa using ht.symm
          exact (show Tryd.prog.wantsStandIn 26 = false by kernel_rfl)
        simp at ht⟩)
    (by kernel_rfl)
#print axioms proved
end Go.Proofs.YtpcjdllijkjdkaaDoor.unpackExact

