/- PackDigits: for every number of digits, mode and number the law returns true. Conditions: those of the tied card (the table of formats is laid as the program lays it). -/
import Derived.Test.YtpcjdllijkjdkaaDoorPartBC
import Derived.Test.YtpcjdllijkjdkaaDoorRows
import Derived.Test.YtpcjdllijkjdkaaDoorTie
import Derived.Test.YtpcjdllijkjdkaaDoorCards
import Derived.LaidMore
import Derived.Stop.Joined
import Derived.SevenTiedAt
import Derived.Test.YtpcjdllijkjdkaaDoorPartAC
import Derived.Test.YtpcjdllijkjdkaaDoorPartAO
import Derived.WalkKit
import Derived.ProofKit
import Derived.OpenShut
import Derived.ShutString
import Derived.ChangeOld
import Derived.Below
/- The walk of PackDigits. -/
set_option linter.unusedVariables false
set_option linter.unusedSimpArgs false
set_option maxRecDepth 8000
namespace Go.Proofs.YtpcjdllijkjdkaaDoor
open Go.RowKit Plain

structure DgSt (p m : Int) (neg : Bool) (z : Int) (s : Nat) (w W : World) : Prop where
  g : FmtG W
  gl : 1 < w.heap.size
  q0 : W.cell? ⟨w.heap.size, 0, none⟩ = some (.int .i64 p)
  q1 : W.cell? ⟨w.heap.size, 1, none⟩ = some (.int .i64 m)
  n : NB W (w.heap.size + 1) (neg) (z) (s)
  lt : w.heap.size + 1 < W.heap.size
  bel : Below w.heap.size w W
theorem DgSt.under {p m : Int} {neg : Bool} {z : Int} {s : Nat} {w W W' : World} (h : DgSt p m neg z s w W) {C : Nat} (hb : Below C W W') (hc : w.heap.size + 1 < C) : DgSt p m neg z s w W' :=
  ⟨⟨fun i hi => (hb.cell (p := ⟨1, i, none⟩) (show 1 < C by have := h.gl; omega)).trans (h.g.c i hi), Nat.lt_of_lt_of_le h.g.lt hb.size⟩, h.gl, (hb.cell (p := ⟨w.heap.size, 0, none⟩) (show w.heap.size < C by omega)).trans h.q0, (hb.cell (p := ⟨w.heap.size, 1, none⟩) (show w.heap.size < C by omega)).trans h.q1, h.n.under hb (show w.heap.size + 1 < C by omega), Nat.lt_of_lt_of_le h.lt hb.size, h.bel.trans (hb.mono (by omega))⟩
theorem DgSt.below {p m : Int} {neg : Bool} {z : Int} {s : Nat} {w W W' : World} (h : DgSt p m neg z s w W) (hb : Below W.heap.size W W') : DgSt p m neg z s w W' := h.under hb h.lt
theorem dgSt_start (p m : Int) (neg : Bool) (z : Int) (s : Nat) (w : World) (hg : FmtG w) (hgl : 1 < w.heap.size) (t : TypeId) : DgSt p m neg z s w ((w.alloc (.cells #[.int .i64 p, .int .i64 m] t)).alloc (.cells #[.bool (neg), .int .i64 (z), .int .u64 (dgl (s) 0 : Nat), .int .u64 (dgl (s) 1 : Nat), .int .u64 (dgl (s) 2 : Nat), .int .u64 (dgl (s) 3 : Nat), .int .u64 (dgl (s) 4 : Nat), .int .u64 (dgl (s) 5 : Nat), .int .u64 (dgl (s) 6 : Nat), .int .u64 (dgl (s) 7 : Nat)] 26)) := by
  have h1 := nb_new (w.alloc (.cells #[.int .i64 p, .int .i64 m] t)) neg z s 26
  rw [World.size_alloc] at h1
  exact ⟨(hg.below (below_allocs _ _)).below (below_allocs _ _), hgl, by simp [go_sem], by simp [go_sem], h1, by simp, below_trans (below_allocs _ _) (below_allocs _ _)⟩

set_option maxHeartbeats 4000000 in
theorem packDigits_B (p m z gz T E : Int) (neg more gn off R : Bool) (s gs num U : Nat)
    (HDI : Hid (∀ w, Calls Tryd.prog 17 #[.int .i64 p, .int .i64 m, .agg #[.bool (neg), .int .i64 (z), .int .u64 (dgl (s) 0 : Nat), .int .u64 (dgl (s) 1 : Nat), .int .u64 (dgl (s) 2 : Nat), .int .u64 (dgl (s) 3 : Nat), .int .u64 (dgl (s) 4 : Nat), .int .u64 (dgl (s) 5 : Nat), .int .u64 (dgl (s) 6 : Nat), .int .u64 (dgl (s) 7 : Nat)], .bool more] w fun e w' => e = .returned (.tuple #[.agg #[.bool (gn), .int .i64 (gz), .int .u64 (dgl (gs) 0 : Nat), .int .u64 (dgl (gs) 1 : Nat), .int .u64 (dgl (gs) 2 : Nat), .int .u64 (dgl (gs) 3 : Nat), .int .u64 (dgl (gs) 4 : Nat), .int .u64 (dgl (gs) 5 : Nat), .int .u64 (dgl (gs) 6 : Nat), .int .u64 (dgl (gs) 7 : Nat)], .bool false, .int .i64 1]) ∧ Below w.heap.size w w'))
    (HRI : Hid (∀ w, Calls Tryd.prog 18 #[.int .i64 p, .agg #[.bool (neg), .int .i64 (z), .int .u64 (dgl (s) 0 : Nat), .int .u64 (dgl (s) 1 : Nat), .int .u64 (dgl (s) 2 : Nat), .int .u64 (dgl (s) 3 : Nat), .int .u64 (dgl (s) 4 : Nat), .int .u64 (dgl (s) 5 : Nat), .int .u64 (dgl (s) 6 : Nat), .int .u64 (dgl (s) 7 : Nat)], .bool more] w fun e w' => e = .returned (.bool R) ∧ Below w.heap.size w w'))
    (HLR : Hid (∀ w, Calls Tryd.prog 19 #[.int .i64 p, .agg #[.bool (neg), .int .i64 (z), .int .u64 (dgl (s) 0 : Nat), .int .u64 (dgl (s) 1 : Nat), .int .u64 (dgl (s) 2 : Nat), .int .u64 (dgl (s) 3 : Nat), .int .u64 (dgl (s) 4 : Nat), .int .u64 (dgl (s) 5 : Nat), .int .u64 (dgl (s) 6 : Nat), .int .u64 (dgl (s) 7 : Nat)], .bool more] w fun e w' => e = .returned (.bool R) ∧ Below w.heap.size w w'))
    (HIS : Hid (∀ w, Calls Tryd.prog 20 #[.int .i64 m] w fun e w' => e = .returned (.bool false) ∧ w' = w))
    (hq : ∀ w, (Op.equalIn 10000 26 (.agg #[.bool (gn), .int .i64 (gz), .int .u64 (dgl (gs) 0 : Nat), .int .u64 (dgl (gs) 1 : Nat), .int .u64 (dgl (gs) 2 : Nat), .int .u64 (dgl (gs) 3 : Nat), .int .u64 (dgl (gs) 4 : Nat), .int .u64 (dgl (gs) 5 : Nat), .int .u64 (dgl (gs) 6 : Nat), .int .u64 (dgl (gs) 7 : Nat)]) (.agg #[.bool false, .int .i64 0, .int .u64 0, .int .u64 0, .int .u64 0, .int .u64 0, .int .u64 0, .int .u64 0, .int .u64 0, .int .u64 0])).run Tryd.prog w = .ok true w) (w : World) (hg : FmtG w) (hgl : 1 < w.heap.size) :
    Calls Tryd.prog 4 #[.agg #[.int .i64 p, .int .i64 m], .agg #[.bool (neg), .int .i64 (z), .int .u64 (dgl (s) 0 : Nat), .int .u64 (dgl (s) 1 : Nat), .int .u64 (dgl (s) 2 : Nat), .int .u64 (dgl (s) 3 : Nat), .int .u64 (dgl (s) 4 : Nat), .int .u64 (dgl (s) 5 : Nat), .int .u64 (dgl (s) 6 : Nat), .int .u64 (dgl (s) 7 : Nat)], .bool more] w fun e w' => e = .returned (.bool true) ∧ Below w.heap.size w w' := by
  have HS := hide (dgSt_start p m neg z s w hg hgl 35)
  clear hg hgl
  go_enter Tryd.func4, Tryd.ntmps4
  go_upto_region 1 with fail
  refine wp_gen (fun W => DgSt p m neg z s w W) HS.out ?_
  clear HS
  rintro W1 h1
  refine wp_region_grow 6 [(16, .val (.pointer (some ⟨w.heap.size, 0, none⟩))), (17, .val (.int .i64 p)), (18, .val (.pointer (some ⟨w.heap.size, 1, none⟩))), (19, .val (.int .i64 m)), (7, .val (.int .i64 p)), (8, .val (.int .i64 m))]
    (fun W => DgSt p m neg z s w W) mixedOk (by kernel_rfl) (by kernel_rfl) (h1.below (Below.refl _ _).drew) (fun W W' h hb => h.below hb) ?_ ?_
  · refine gSt (gStep_run rfl ?_) ?_
    · intro ρ W hC hc hf hL
      have e3 : ρ (.tmp 3) = .pointer (some ⟨w.heap.size, 0, none⟩) := hL 3 (by decide +kernel)
      have hl : w.heap.size < W.heap.size := by have := hC.lt; omega
      simp [go_sem, hc, hf, e3, hl]
      exact ⟨Below.refl _ _, rfl⟩
    refine gSt (gStep_run rfl ?_) ?_
    · intro ρ W hC hc hf hL
      have e16 : ρ (.tmp 16) = .pointer (some ⟨w.heap.size, 0, none⟩) := hL 16 (by decide +kernel)
      have q := hC.q0
      simp [go_sem, hc, hf, e16, q]
      exact ⟨Below.refl _ _, rfl⟩
    refine gSt (gStep_run rfl ?_) ?_
    · intro ρ W hC hc hf hL
      have e3 : ρ (.tmp 3) = .pointer (some ⟨w.heap.size, 0, none⟩) := hL 3 (by decide +kernel)
      have hl : w.heap.size < W.heap.size := by have := hC.lt; omega
      simp [go_sem, hc, hf, e3, hl]
      exact ⟨Below.refl _ _, rfl⟩
    refine gSt (gStep_run rfl ?_) ?_
    · intro ρ W hC hc hf hL
      have e18 : ρ (.tmp 18) = .pointer (some ⟨w.heap.size, 1, none⟩) := hL 18 (by decide +kernel)
      have q := hC.q1
      simp [go_sem, hc, hf, e18, q]
      exact ⟨Below.refl _ _, rfl⟩
    refine gSt (gStep_run rfl (gRun_move 17 7 (.inr rfl) rfl (by decide +kernel) (fun v w h => h))) ?_
    refine gSt (gStep_run rfl (gRun_move 19 8 (.inr rfl) rfl (by decide +kernel) (fun v w h => h))) ?_
    exact gSt0
  · intro W hC
    refine gFi 16 rfl ?_
    rintro _ rfl
    refine gFi 17 rfl ?_
    rintro _ rfl
    refine gFi 18 rfl ?_
    rintro _ rfl
    refine gFi 19 rfl ?_
    rintro _ rfl
    refine gFi 7 rfl ?_
    rintro _ rfl
    refine gFi 8 rfl ?_
    rintro _ rfl
    refine gFi0 ?_
    simp only [List.drop_succ_cons, List.drop_zero, Act.put, List.setIfInBounds_toArray, List.set_cons_succ, List.set_cons_zero]
    have HS := hide hC
    clear hC h1
    have ln := HS.out.n.n
    have le := HS.out.n.e
    have l0 := HS.out.n.x0
    have l1 := HS.out.n.x1
    have l2 := HS.out.n.x2
    have l3 := HS.out.n.x3
    have l4 := HS.out.n.x4
    have l5 := HS.out.n.x5
    have l6 := HS.out.n.x6
    have l7 := HS.out.n.x7
    go_wp2_with fail
    refine (HDI.out _).mono ?_
    rintro e w3 ⟨rfl, hb3⟩
    replace HS := hide (HS.out.below hb3)
    clear hb3
    clear ln le l0 l1 l2 l3 l4 l5 l6 l7
    go_upto_region 3 with fail
    refine wp_gen (fun W => DgSt p m neg z s w W ∧ NB W w3.heap.size gn gz gs) ⟨HS.out.below (below_allocs _ _), nb_new _ _ _ _ _⟩ ?_
    clear HS
    generalize w3.heap.size = p9 at *
    rintro W3 h3
    refine wp_region_grow 9 [(29, .val (.int .i64 p)), (30, .val (.agg #[.bool (neg), .int .i64 (z), .int .u64 (dgl (s) 0 : Nat), .int .u64 (dgl (s) 1 : Nat), .int .u64 (dgl (s) 2 : Nat), .int .u64 (dgl (s) 3 : Nat), .int .u64 (dgl (s) 4 : Nat), .int .u64 (dgl (s) 5 : Nat), .int .u64 (dgl (s) 6 : Nat), .int .u64 (dgl (s) 7 : Nat)])), (31, .val (.bool more)), (32, .val (.bool R)), (33, .val (.int .i64 p)), (34, .val (.agg #[.bool (neg), .int .i64 (z), .int .u64 (dgl (s) 0 : Nat), .int .u64 (dgl (s) 1 : Nat), .int .u64 (dgl (s) 2 : Nat), .int .u64 (dgl (s) 3 : Nat), .int .u64 (dgl (s) 4 : Nat), .int .u64 (dgl (s) 5 : Nat), .int .u64 (dgl (s) 6 : Nat), .int .u64 (dgl (s) 7 : Nat)])), (35, .val (.bool more)), (36, .val (.bool R)), (37, .val (.bool false))]
      (fun W => DgSt p m neg z s w W ∧ NB W p9 gn gz gs) mixedOk (by kernel_rfl) (by kernel_rfl) (⟨h3.1.below (Below.refl _ _).drew, h3.2.below (Below.refl _ _).drew⟩) (fun W W' h hb => ⟨h.1.below hb, h.2.below hb⟩) ?_ ?_
    · refine gSt (gStep_run rfl (gRun_move 7 29 (.inl rfl) rfl (by decide +kernel) (fun v w h => h))) ?_
      refine gSt (gStep_run rfl ?_) ?_
      · intro ρ W hC hc hf hL
        have e4 : ρ (.tmp 4) = .pointer (some ⟨w.heap.size + 1, 0, none⟩) := hL 4 (by decide +kernel)
        have ln := hC.1.n.n
        have le := hC.1.n.e
        have l0 := hC.1.n.x0
        have l1 := hC.1.n.x1
        have l2 := hC.1.n.x2
        have l3 := hC.1.n.x3
        have l4 := hC.1.n.x4
        have l5 := hC.1.n.x5
        have l6 := hC.1.n.x6
        have l7 := hC.1.n.x7
        simp [go_sem, hc, hf, e4, ln, le, l0, l1, l2, l3, l4, l5, l6, l7]
        exact ⟨Below.refl _ _, rfl⟩
      refine gSt (gStep_run rfl (gRun_move 2 31 (.inl rfl) rfl (by decide +kernel) (fun v w h => h))) ?_
      refine gSt (gStep_run rfl ?_) ?_
      · intro ρ W hC hc hf hL
        have e29 : ρ (.tmp 29) = .int .i64 p := hL 29 (by decide +kernel)
        have e30 : ρ (.tmp 30) = .agg #[.bool (neg), .int .i64 (z), .int .u64 (dgl (s) 0 : Nat), .int .u64 (dgl (s) 1 : Nat), .int .u64 (dgl (s) 2 : Nat), .int .u64 (dgl (s) 3 : Nat), .int .u64 (dgl (s) 4 : Nat), .int .u64 (dgl (s) 5 : Nat), .int .u64 (dgl (s) 6 : Nat), .int .u64 (dgl (s) 7 : Nat)] := hL 30 (by decide +kernel)
        have e31 : ρ (.tmp 31) = .bool more := hL 31 (by decide +kernel)
        simp [go_sem, hc, hf, e29, e30, e31]
        refine (HRI.out W).mono ?_
        rintro e w' ⟨rfl, hb⟩
        exact ⟨_, rfl, by first | exact hb | (subst hb; exact Below.refl _ _), rfl⟩
      refine gSt (gStep_run rfl (gRun_move 7 33 (.inl rfl) rfl (by decide +kernel) (fun v w h => h))) ?_
      refine gSt (gStep_run rfl ?_) ?_
      · intro ρ W hC hc hf hL
        have e4 : ρ (.tmp 4) = .pointer (some ⟨w.heap.size + 1, 0, none⟩) := hL 4 (by decide +kernel)
        have ln := hC.1.n.n
        have le := hC.1.n.e
        have l0 := hC.1.n.x0
        have l1 := hC.1.n.x1
        have l2 := hC.1.n.x2
        have l3 := hC.1.n.x3
        have l4 := hC.1.n.x4
        have l5 := hC.1.n.x5
        have l6 := hC.1.n.x6
        have l7 := hC.1.n.x7
        simp [go_sem, hc, hf, e4, ln, le, l0, l1, l2, l3, l4, l5, l6, l7]
        exact ⟨Below.refl _ _, rfl⟩
      refine gSt (gStep_run rfl (gRun_move 2 35 (.inl rfl) rfl (by decide +kernel) (fun v w h => h))) ?_
      refine gSt (gStep_run rfl ?_) ?_
      · intro ρ W hC hc hf hL
        have e33 : ρ (.tmp 33) = .int .i64 p := hL 33 (by decide +kernel)
        have e34 : ρ (.tmp 34) = .agg #[.bool (neg), .int .i64 (z), .int .u64 (dgl (s) 0 : Nat), .int .u64 (dgl (s) 1 : Nat), .int .u64 (dgl (s) 2 : Nat), .int .u64 (dgl (s) 3 : Nat), .int .u64 (dgl (s) 4 : Nat), .int .u64 (dgl (s) 5 : Nat), .int .u64 (dgl (s) 6 : Nat), .int .u64 (dgl (s) 7 : Nat)] := hL 34 (by decide +kernel)
        have e35 : ρ (.tmp 35) = .bool more := hL 35 (by decide +kernel)
        simp [go_sem, hc, hf, e33, e34, e35]
        refine (HLR.out W).mono ?_
        rintro e w' ⟨rfl, hb⟩
        exact ⟨_, rfl, by first | exact hb | (subst hb; exact Below.refl _ _), rfl⟩
      refine gSt (gStep_run rfl ?_) ?_
      · intro ρ W hC hc hf hL
        have e32 : ρ (.tmp 32) = .bool R := hL 32 (by decide +kernel)
        have e36 : ρ (.tmp 36) = .bool R := hL 36 (by decide +kernel)
        simp [go_sem, hc, hf, e32, e36]
        exact ⟨Below.refl _ _, rfl⟩
      exact gSt0
    · intro W hC
      refine gFi 29 rfl ?_
      rintro _ rfl
      refine gFi 30 rfl ?_
      rintro _ rfl
      refine gFi 31 rfl ?_
      rintro _ rfl
      refine gFi 32 rfl ?_
      rintro _ rfl
      refine gFi 33 rfl ?_
      rintro _ rfl
      refine gFi 34 rfl ?_
      rintro _ rfl
      refine gFi 35 rfl ?_
      rintro _ rfl
      refine gFi 36 rfl ?_
      rintro _ rfl
      refine gFi 37 rfl ?_
      rintro _ rfl
      refine gFi0 ?_
      simp only [List.drop_succ_cons, List.drop_zero, Act.put, List.setIfInBounds_toArray, List.set_cons_succ, List.set_cons_zero]
      obtain ⟨g1, g2⟩ := hC
      have HS := hide g1
      have HN := hide g2
      clear g1 g2 h3
      go_wp2_with fail
      refine (HIS.out _).mono ?_
      rintro e wl ⟨rfl, hw⟩
      subst wl
      have yn := HN.out.n
      have ye := HN.out.e
      have y0 := HN.out.x0
      have y1 := HN.out.x1
      have y2 := HN.out.x2
      have y3 := HN.out.x3
      have y4 := HN.out.x4
      have y5 := HN.out.x5
      have y6 := HN.out.x6
      have y7 := HN.out.x7
      go_wp2_with fail
      refine (awake9_any _ HS.out.g).mono ?_
      rintro e w9 ⟨rfl, hb9⟩
      have HB := hide (below_trans HS.out.bel hb9)
      clear hb9 HS HN
      go_wp2
      go_ret
      exact ⟨rfl, HB.out⟩
      
    

set_option maxHeartbeats 4000000 in
theorem packDigits_C (p m z gz T E : Int) (neg more gn off R : Bool) (s gs num U : Nat)
    (HDI : Hid (∀ w, Calls Tryd.prog 17 #[.int .i64 p, .int .i64 m, .agg #[.bool (neg), .int .i64 (z), .int .u64 (dgl (s) 0 : Nat), .int .u64 (dgl (s) 1 : Nat), .int .u64 (dgl (s) 2 : Nat), .int .u64 (dgl (s) 3 : Nat), .int .u64 (dgl (s) 4 : Nat), .int .u64 (dgl (s) 5 : Nat), .int .u64 (dgl (s) 6 : Nat), .int .u64 (dgl (s) 7 : Nat)], .bool more] w fun e w' => e = .returned (.tuple #[.agg #[.bool (gn), .int .i64 (gz), .int .u64 (dgl (gs) 0 : Nat), .int .u64 (dgl (gs) 1 : Nat), .int .u64 (dgl (gs) 2 : Nat), .int .u64 (dgl (gs) 3 : Nat), .int .u64 (dgl (gs) 4 : Nat), .int .u64 (dgl (gs) 5 : Nat), .int .u64 (dgl (gs) 6 : Nat), .int .u64 (dgl (gs) 7 : Nat)], .bool false, .int .i64 1]) ∧ Below w.heap.size w w'))
    (HRI : Hid (∀ w, Calls Tryd.prog 18 #[.int .i64 p, .agg #[.bool (neg), .int .i64 (z), .int .u64 (dgl (s) 0 : Nat), .int .u64 (dgl (s) 1 : Nat), .int .u64 (dgl (s) 2 : Nat), .int .u64 (dgl (s) 3 : Nat), .int .u64 (dgl (s) 4 : Nat), .int .u64 (dgl (s) 5 : Nat), .int .u64 (dgl (s) 6 : Nat), .int .u64 (dgl (s) 7 : Nat)], .bool more] w fun e w' => e = .returned (.bool false) ∧ Below w.heap.size w w'))
    (HLR : Hid (∀ w, Calls Tryd.prog 19 #[.int .i64 p, .agg #[.bool (neg), .int .i64 (z), .int .u64 (dgl (s) 0 : Nat), .int .u64 (dgl (s) 1 : Nat), .int .u64 (dgl (s) 2 : Nat), .int .u64 (dgl (s) 3 : Nat), .int .u64 (dgl (s) 4 : Nat), .int .u64 (dgl (s) 5 : Nat), .int .u64 (dgl (s) 6 : Nat), .int .u64 (dgl (s) 7 : Nat)], .bool more] w fun e w' => e = .returned (.bool false) ∧ Below w.heap.size w w'))
    (HIS : Hid (∀ w, Calls Tryd.prog 20 #[.int .i64 m] w fun e w' => e = .returned (.bool true) ∧ w' = w))
    (hq : ∀ w, (Op.equalIn 10000 26 (.agg #[.bool (gn), .int .i64 (gz), .int .u64 (dgl (gs) 0 : Nat), .int .u64 (dgl (gs) 1 : Nat), .int .u64 (dgl (gs) 2 : Nat), .int .u64 (dgl (gs) 3 : Nat), .int .u64 (dgl (gs) 4 : Nat), .int .u64 (dgl (gs) 5 : Nat), .int .u64 (dgl (gs) 6 : Nat), .int .u64 (dgl (gs) 7 : Nat)]) (.agg #[.bool false, .int .i64 0, .int .u64 0, .int .u64 0, .int .u64 0, .int .u64 0, .int .u64 0, .int .u64 0, .int .u64 0, .int .u64 0])).run Tryd.prog w = .ok true w) (w : World) (hg : FmtG w) (hgl : 1 < w.heap.size) :
    Calls Tryd.prog 4 #[.agg #[.int .i64 p, .int .i64 m], .agg #[.bool (neg), .int .i64 (z), .int .u64 (dgl (s) 0 : Nat), .int .u64 (dgl (s) 1 : Nat), .int .u64 (dgl (s) 2 : Nat), .int .u64 (dgl (s) 3 : Nat), .int .u64 (dgl (s) 4 : Nat), .int .u64 (dgl (s) 5 : Nat), .int .u64 (dgl (s) 6 : Nat), .int .u64 (dgl (s) 7 : Nat)], .bool more] w fun e w' => e = .returned (.bool true) ∧ Below w.heap.size w w' := by
  have HS := hide (dgSt_start p m neg z s w hg hgl 35)
  clear hg hgl
  go_enter Tryd.func4, Tryd.ntmps4
  go_upto_region 1 with fail
  refine wp_gen (fun W => DgSt p m neg z s w W) HS.out ?_
  clear HS
  rintro W1 h1
  refine wp_region_grow 6 [(16, .val (.pointer (some ⟨w.heap.size, 0, none⟩))), (17, .val (.int .i64 p)), (18, .val (.pointer (some ⟨w.heap.size, 1, none⟩))), (19, .val (.int .i64 m)), (7, .val (.int .i64 p)), (8, .val (.int .i64 m))]
    (fun W => DgSt p m neg z s w W) mixedOk (by kernel_rfl) (by kernel_rfl) (h1.below (Below.refl _ _).drew) (fun W W' h hb => h.below hb) ?_ ?_
  · refine gSt (gStep_run rfl ?_) ?_
    · intro ρ W hC hc hf hL
      have e3 : ρ (.tmp 3) = .pointer (some ⟨w.heap.size, 0, none⟩) := hL 3 (by decide +kernel)
      have hl : w.heap.size < W.heap.size := by have := hC.lt; omega
      simp [go_sem, hc, hf, e3, hl]
      exact ⟨Below.refl _ _, rfl⟩
    refine gSt (gStep_run rfl ?_) ?_
    · intro ρ W hC hc hf hL
      have e16 : ρ (.tmp 16) = .pointer (some ⟨w.heap.size, 0, none⟩) := hL 16 (by decide +kernel)
      have q := hC.q0
      simp [go_sem, hc, hf, e16, q]
      exact ⟨Below.refl _ _, rfl⟩
    refine gSt (gStep_run rfl ?_) ?_
    · intro ρ W hC hc hf hL
      have e3 : ρ (.tmp 3) = .pointer (some ⟨w.heap.size, 0, none⟩) := hL 3 (by decide +kernel)
      have hl : w.heap.size < W.heap.size := by have := hC.lt; omega
      simp [go_sem, hc, hf, e3, hl]
      exact ⟨Below.refl _ _, rfl⟩
    refine gSt (gStep_run rfl ?_) ?_
    · intro ρ W hC hc hf hL
      have e18 : ρ (.tmp 18) = .pointer (some ⟨w.heap.size, 1, none⟩) := hL 18 (by decide +kernel)
      have q := hC.q1
      simp [go_sem, hc, hf, e18, q]
      exact ⟨Below.refl _ _, rfl⟩
    refine gSt (gStep_run rfl (gRun_move 17 7 (.inr rfl) rfl (by decide +kernel) (fun v w h => h))) ?_
    refine gSt (gStep_run rfl (gRun_move 19 8 (.inr rfl) rfl (by decide +kernel) (fun v w h => h))) ?_
    exact gSt0
  · intro W hC
    refine gFi 16 rfl ?_
    rintro _ rfl
    refine gFi 17 rfl ?_
    rintro _ rfl
    refine gFi 18 rfl ?_
    rintro _ rfl
    refine gFi 19 rfl ?_
    rintro _ rfl
    refine gFi 7 rfl ?_
    rintro _ rfl
    refine gFi 8 rfl ?_
    rintro _ rfl
    refine gFi0 ?_
    simp only [List.drop_succ_cons, List.drop_zero, Act.put, List.setIfInBounds_toArray, List.set_cons_succ, List.set_cons_zero]
    have HS := hide hC
    clear hC h1
    have ln := HS.out.n.n
    have le := HS.out.n.e
    have l0 := HS.out.n.x0
    have l1 := HS.out.n.x1
    have l2 := HS.out.n.x2
    have l3 := HS.out.n.x3
    have l4 := HS.out.n.x4
    have l5 := HS.out.n.x5
    have l6 := HS.out.n.x6
    have l7 := HS.out.n.x7
    go_wp2_with fail
    refine (HDI.out _).mono ?_
    rintro e w3 ⟨rfl, hb3⟩
    replace HS := hide (HS.out.below hb3)
    clear hb3
    clear ln le l0 l1 l2 l3 l4 l5 l6 l7
    go_upto_region 3 with fail
    refine wp_gen (fun W => DgSt p m neg z s w W ∧ NB W w3.heap.size gn gz gs) ⟨HS.out.below (below_allocs _ _), nb_new _ _ _ _ _⟩ ?_
    clear HS
    generalize w3.heap.size = p9 at *
    rintro W3 h3
    refine wp_region_grow 9 [(29, .val (.int .i64 p)), (30, .val (.agg #[.bool (neg), .int .i64 (z), .int .u64 (dgl (s) 0 : Nat), .int .u64 (dgl (s) 1 : Nat), .int .u64 (dgl (s) 2 : Nat), .int .u64 (dgl (s) 3 : Nat), .int .u64 (dgl (s) 4 : Nat), .int .u64 (dgl (s) 5 : Nat), .int .u64 (dgl (s) 6 : Nat), .int .u64 (dgl (s) 7 : Nat)])), (31, .val (.bool more)), (32, .val (.bool false)), (33, .val (.int .i64 p)), (34, .val (.agg #[.bool (neg), .int .i64 (z), .int .u64 (dgl (s) 0 : Nat), .int .u64 (dgl (s) 1 : Nat), .int .u64 (dgl (s) 2 : Nat), .int .u64 (dgl (s) 3 : Nat), .int .u64 (dgl (s) 4 : Nat), .int .u64 (dgl (s) 5 : Nat), .int .u64 (dgl (s) 6 : Nat), .int .u64 (dgl (s) 7 : Nat)])), (35, .val (.bool more)), (36, .val (.bool false)), (37, .val (.bool false))]
      (fun W => DgSt p m neg z s w W ∧ NB W p9 gn gz gs) mixedOk (by kernel_rfl) (by kernel_rfl) (⟨h3.1.below (Below.refl _ _).drew, h3.2.below (Below.refl _ _).drew⟩) (fun W W' h hb => ⟨h.1.below hb, h.2.below hb⟩) ?_ ?_
    · refine gSt (gStep_run rfl (gRun_move 7 29 (.inl rfl) rfl (by decide +kernel) (fun v w h => h))) ?_
      refine gSt (gStep_run rfl ?_) ?_
      · intro ρ W hC hc hf hL
        have e4 : ρ (.tmp 4) = .pointer (some ⟨w.heap.size + 1, 0, none⟩) := hL 4 (by decide +kernel)
        have ln := hC.1.n.n
        have le := hC.1.n.e
        have l0 := hC.1.n.x0
        have l1 := hC.1.n.x1
        have l2 := hC.1.n.x2
        have l3 := hC.1.n.x3
        have l4 := hC.1.n.x4
        have l5 := hC.1.n.x5
        have l6 := hC.1.n.x6
        have l7 := hC.1.n.x7
        simp [go_sem, hc, hf, e4, ln, le, l0, l1, l2, l3, l4, l5, l6, l7]
        exact ⟨Below.refl _ _, rfl⟩
      refine gSt (gStep_run rfl (gRun_move 2 31 (.inl rfl) rfl (by decide +kernel) (fun v w h => h))) ?_
      refine gSt (gStep_run rfl ?_) ?_
      · intro ρ W hC hc hf hL
        have e29 : ρ (.tmp 29) = .int .i64 p := hL 29 (by decide +kernel)
        have e30 : ρ (.tmp 30) = .agg #[.bool (neg), .int .i64 (z), .int .u64 (dgl (s) 0 : Nat), .int .u64 (dgl (s) 1 : Nat), .int .u64 (dgl (s) 2 : Nat), .int .u64 (dgl (s) 3 : Nat), .int .u64 (dgl (s) 4 : Nat), .int .u64 (dgl (s) 5 : Nat), .int .u64 (dgl (s) 6 : Nat), .int .u64 (dgl (s) 7 : Nat)] := hL 30 (by decide +kernel)
        have e31 : ρ (.tmp 31) = .bool more := hL 31 (by decide +kernel)
        simp [go_sem, hc, hf, e29, e30, e31]
        refine (HRI.out W).mono ?_
        rintro e w' ⟨rfl, hb⟩
        exact ⟨_, rfl, by first | exact hb | (subst hb; exact Below.refl _ _), rfl⟩
      refine gSt (gStep_run rfl (gRun_move 7 33 (.inl rfl) rfl (by decide +kernel) (fun v w h => h))) ?_
      refine gSt (gStep_run rfl ?_) ?_
      · intro ρ W hC hc hf hL
        have e4 : ρ (.tmp 4) = .pointer (some ⟨w.heap.size + 1, 0, none⟩) := hL 4 (by decide +kernel)
        have ln := hC.1.n.n
        have le := hC.1.n.e
        have l0 := hC.1.n.x0
        have l1 := hC.1.n.x1
        have l2 := hC.1.n.x2
        have l3 := hC.1.n.x3
        have l4 := hC.1.n.x4
        have l5 := hC.1.n.x5
        have l6 := hC.1.n.x6
        have l7 := hC.1.n.x7
        simp [go_sem, hc, hf, e4, ln, le, l0, l1, l2, l3, l4, l5, l6, l7]
        exact ⟨Below.refl _ _, rfl⟩
      refine gSt (gStep_run rfl (gRun_move 2 35 (.inl rfl) rfl (by decide +kernel) (fun v w h => h))) ?_
      refine gSt (gStep_run rfl ?_) ?_
      · intro ρ W hC hc hf hL
        have e33 : ρ (.tmp 33) = .int .i64 p := hL 33 (by decide +kernel)
        have e34 : ρ (.tmp 34) = .agg #[.bool (neg), .int .i64 (z), .int .u64 (dgl (s) 0 : Nat), .int .u64 (dgl (s) 1 : Nat), .int .u64 (dgl (s) 2 : Nat), .int .u64 (dgl (s) 3 : Nat), .int .u64 (dgl (s) 4 : Nat), .int .u64 (dgl (s) 5 : Nat), .int .u64 (dgl (s) 6 : Nat), .int .u64 (dgl (s) 7 : Nat)] := hL 34 (by decide +kernel)
        have e35 : ρ (.tmp 35) = .bool more := hL 35 (by decide +kernel)
        simp [go_sem, hc, hf, e33, e34, e35]
        refine (HLR.out W).mono ?_
        rintro e w' ⟨rfl, hb⟩
        exact ⟨_, rfl, by first | exact hb | (subst hb; exact Below.refl _ _), rfl⟩
      refine gSt (gStep_run rfl ?_) ?_
      · intro ρ W hC hc hf hL
        have e32 : ρ (.tmp 32) = .bool false := hL 32 (by decide +kernel)
        have e36 : ρ (.tmp 36) = .bool false := hL 36 (by decide +kernel)
        simp [go_sem, hc, hf, e32, e36]
        exact ⟨Below.refl _ _, rfl⟩
      exact gSt0
    · intro W hC
      refine gFi 29 rfl ?_
      rintro _ rfl
      refine gFi 30 rfl ?_
      rintro _ rfl
      refine gFi 31 rfl ?_
      rintro _ rfl
      refine gFi 32 rfl ?_
      rintro _ rfl
      refine gFi 33 rfl ?_
      rintro _ rfl
      refine gFi 34 rfl ?_
      rintro _ rfl
      refine gFi 35 rfl ?_
      rintro _ rfl
      refine gFi 36 rfl ?_
      rintro _ rfl
      refine gFi 37 rfl ?_
      rintro _ rfl
      refine gFi0 ?_
      simp only [List.drop_succ_cons, List.drop_zero, Act.put, List.setIfInBounds_toArray, List.set_cons_succ, List.set_cons_zero]
      obtain ⟨g1, g2⟩ := hC
      have HS := hide g1
      have HN := hide g2
      clear g1 g2 h3
      go_wp2_with fail
      refine (HIS.out _).mono ?_
      rintro e wl ⟨rfl, hw⟩
      subst wl
      have ln := HS.out.n.n
      have le := HS.out.n.e
      have l0 := HS.out.n.x0
      have l1 := HS.out.n.x1
      have l2 := HS.out.n.x2
      have l3 := HS.out.n.x3
      have l4 := HS.out.n.x4
      have l5 := HS.out.n.x5
      have l6 := HS.out.n.x6
      have l7 := HS.out.n.x7
      go_wp2_with fail
      refine (HLR.out _).mono ?_
      rintro e w4 ⟨rfl, hb4⟩
      replace HS := hide (HS.out.below hb4)
      replace HN := hide (HN.out.below hb4)
      clear hb4
      clear ln le l0 l1 l2 l3 l4 l5 l6 l7
      have yn := HN.out.n
      have ye := HN.out.e
      have y0 := HN.out.x0
      have y1 := HN.out.x1
      have y2 := HN.out.x2
      have y3 := HN.out.x3
      have y4 := HN.out.x4
      have y5 := HN.out.x5
      have y6 := HN.out.x6
      have y7 := HN.out.x7
      go_wp2_with fail
      refine (awake9_any _ HS.out.g).mono ?_
      rintro e w9 ⟨rfl, hb9⟩
      have HB := hide (below_trans HS.out.bel hb9)
      clear hb9 HS HN
      go_wp2
      go_ret
      exact ⟨rfl, HB.out⟩
      
    

set_option maxHeartbeats 4000000 in
theorem packDigits_Z (p m z gz T E : Int) (neg more gn off R : Bool) (s gs num U : Nat)
    (HDI : Hid (∀ w, Calls Tryd.prog 17 #[.int .i64 p, .int .i64 m, .agg #[.bool (neg), .int .i64 (z), .int .u64 (dgl (s) 0 : Nat), .int .u64 (dgl (s) 1 : Nat), .int .u64 (dgl (s) 2 : Nat), .int .u64 (dgl (s) 3 : Nat), .int .u64 (dgl (s) 4 : Nat), .int .u64 (dgl (s) 5 : Nat), .int .u64 (dgl (s) 6 : Nat), .int .u64 (dgl (s) 7 : Nat)], .bool more] w fun e w' => e = .returned (.tuple #[.agg #[.bool (gn), .int .i64 (gz), .int .u64 (dgl (gs) 0 : Nat), .int .u64 (dgl (gs) 1 : Nat), .int .u64 (dgl (gs) 2 : Nat), .int .u64 (dgl (gs) 3 : Nat), .int .u64 (dgl (gs) 4 : Nat), .int .u64 (dgl (gs) 5 : Nat), .int .u64 (dgl (gs) 6 : Nat), .int .u64 (dgl (gs) 7 : Nat)], .bool false, .int .i64 0]) ∧ Below w.heap.size w w'))
    (HRI : Hid (∀ w, Calls Tryd.prog 18 #[.int .i64 p, .agg #[.bool (neg), .int .i64 (z), .int .u64 (dgl (s) 0 : Nat), .int .u64 (dgl (s) 1 : Nat), .int .u64 (dgl (s) 2 : Nat), .int .u64 (dgl (s) 3 : Nat), .int .u64 (dgl (s) 4 : Nat), .int .u64 (dgl (s) 5 : Nat), .int .u64 (dgl (s) 6 : Nat), .int .u64 (dgl (s) 7 : Nat)], .bool more] w fun e w' => e = .returned (.bool true) ∧ Below w.heap.size w w'))
    (HLR : Hid (∀ w, Calls Tryd.prog 19 #[.int .i64 p, .agg #[.bool (neg), .int .i64 (z), .int .u64 (dgl (s) 0 : Nat), .int .u64 (dgl (s) 1 : Nat), .int .u64 (dgl (s) 2 : Nat), .int .u64 (dgl (s) 3 : Nat), .int .u64 (dgl (s) 4 : Nat), .int .u64 (dgl (s) 5 : Nat), .int .u64 (dgl (s) 6 : Nat), .int .u64 (dgl (s) 7 : Nat)], .bool more] w fun e w' => e = .returned (.bool true) ∧ Below w.heap.size w w'))
    (HIS : Hid (∀ w, Calls Tryd.prog 20 #[.int .i64 m] w fun e w' => e = .returned (.bool true) ∧ w' = w))
    (hq : ∀ w, (Op.equalIn 10000 26 (.agg #[.bool (gn), .int .i64 (gz), .int .u64 (dgl (gs) 0 : Nat), .int .u64 (dgl (gs) 1 : Nat), .int .u64 (dgl (gs) 2 : Nat), .int .u64 (dgl (gs) 3 : Nat), .int .u64 (dgl (gs) 4 : Nat), .int .u64 (dgl (gs) 5 : Nat), .int .u64 (dgl (gs) 6 : Nat), .int .u64 (dgl (gs) 7 : Nat)]) (.agg #[.bool neg, .int .i64 0, .int .u64 0, .int .u64 0, .int .u64 0, .int .u64 0, .int .u64 0, .int .u64 0, .int .u64 0, .int .u64 0])).run Tryd.prog w = .ok true w)
    (hs : s < QQ)
    (hl0 : (Go.bitLen s : Nat) = 0) (w : World) (hg : FmtG w) (hgl : 1 < w.heap.size) :
    Calls Tryd.prog 4 #[.agg #[.int .i64 p, .int .i64 m], .agg #[.bool (neg), .int .i64 (z), .int .u64 (dgl (s) 0 : Nat), .int .u64 (dgl (s) 1 : Nat), .int .u64 (dgl (s) 2 : Nat), .int .u64 (dgl (s) 3 : Nat), .int .u64 (dgl (s) 4 : Nat), .int .u64 (dgl (s) 5 : Nat), .int .u64 (dgl (s) 6 : Nat), .int .u64 (dgl (s) 7 : Nat)], .bool more] w fun e w' => e = .returned (.bool true) ∧ Below w.heap.size w w' := by
  have HS := hide (dgSt_start p m neg z s w hg hgl 35)
  clear hg hgl
  have HBG := hide (fun w => refBig_any s hs w)
  have HLN := hide (fun v w h => refLen_any s 40 v w h (by decide))
  clear hs
  rw [hl0] at HLN
  go_enter Tryd.func4, Tryd.ntmps4
  go_upto_region 1 with fail
  refine wp_gen (fun W => DgSt p m neg z s w W) HS.out ?_
  clear HS
  rintro W1 h1
  refine wp_region_grow 6 [(16, .val (.pointer (some ⟨w.heap.size, 0, none⟩))), (17, .val (.int .i64 p)), (18, .val (.pointer (some ⟨w.heap.size, 1, none⟩))), (19, .val (.int .i64 m)), (7, .val (.int .i64 p)), (8, .val (.int .i64 m))]
    (fun W => DgSt p m neg z s w W) mixedOk (by kernel_rfl) (by kernel_rfl) (h1.below (Below.refl _ _).drew) (fun W W' h hb => h.below hb) ?_ ?_
  · refine gSt (gStep_run rfl ?_) ?_
    · intro ρ W hC hc hf hL
      have e3 : ρ (.tmp 3) = .pointer (some ⟨w.heap.size, 0, none⟩) := hL 3 (by decide +kernel)
      have hl : w.heap.size < W.heap.size := by have := hC.lt; omega
      simp [go_sem, hc, hf, e3, hl]
      exact ⟨Below.refl _ _, rfl⟩
    refine gSt (gStep_run rfl ?_) ?_
    · intro ρ W hC hc hf hL
      have e16 : ρ (.tmp 16) = .pointer (some ⟨w.heap.size, 0, none⟩) := hL 16 (by decide +kernel)
      have q := hC.q0
      simp [go_sem, hc, hf, e16, q]
      exact ⟨Below.refl _ _, rfl⟩
    refine gSt (gStep_run rfl ?_) ?_
    · intro ρ W hC hc hf hL
      have e3 : ρ (.tmp 3) = .pointer (some ⟨w.heap.size, 0, none⟩) := hL 3 (by decide +kernel)
      have hl : w.heap.size < W.heap.size := by have := hC.lt; omega
      simp [go_sem, hc, hf, e3, hl]
      exact ⟨Below.refl _ _, rfl⟩
    refine gSt (gStep_run rfl ?_) ?_
    · intro ρ W hC hc hf hL
      have e18 : ρ (.tmp 18) = .pointer (some ⟨w.heap.size, 1, none⟩) := hL 18 (by decide +kernel)
      have q := hC.q1
      simp [go_sem, hc, hf, e18, q]
      exact ⟨Below.refl _ _, rfl⟩
    refine gSt (gStep_run rfl (gRun_move 17 7 (.inr rfl) rfl (by decide +kernel) (fun v w h => h))) ?_
    refine gSt (gStep_run rfl (gRun_move 19 8 (.inr rfl) rfl (by decide +kernel) (fun v w h => h))) ?_
    exact gSt0
  · intro W hC
    refine gFi 16 rfl ?_
    rintro _ rfl
    refine gFi 17 rfl ?_
    rintro _ rfl
    refine gFi 18 rfl ?_
    rintro _ rfl
    refine gFi 19 rfl ?_
    rintro _ rfl
    refine gFi 7 rfl ?_
    rintro _ rfl
    refine gFi 8 rfl ?_
    rintro _ rfl
    refine gFi0 ?_
    simp only [List.drop_succ_cons, List.drop_zero, Act.put, List.setIfInBounds_toArray, List.set_cons_succ, List.set_cons_zero]
    have HS := hide hC
    clear hC h1
    have ln := HS.out.n.n
    have le := HS.out.n.e
    have l0 := HS.out.n.x0
    have l1 := HS.out.n.x1
    have l2 := HS.out.n.x2
    have l3 := HS.out.n.x3
    have l4 := HS.out.n.x4
    have l5 := HS.out.n.x5
    have l6 := HS.out.n.x6
    have l7 := HS.out.n.x7
    go_wp2_with fail
    refine (HDI.out _).mono ?_
    rintro e w3 ⟨rfl, hb3⟩
    replace HS := hide (HS.out.below hb3)
    clear hb3
    clear ln le l0 l1 l2 l3 l4 l5 l6 l7
    go_upto_region 3 with fail
    refine wp_gen (fun W => DgSt p m neg z s w W ∧ NB W w3.heap.size gn gz gs) ⟨HS.out.below (below_allocs _ _), nb_new _ _ _ _ _⟩ ?_
    clear HS
    generalize w3.heap.size = p9 at *
    rintro W3 h3
    refine wp_region_grow 9 [(29, .val (.int .i64 p)), (30, .val (.agg #[.bool (neg), .int .i64 (z), .int .u64 (dgl (s) 0 : Nat), .int .u64 (dgl (s) 1 : Nat), .int .u64 (dgl (s) 2 : Nat), .int .u64 (dgl (s) 3 : Nat), .int .u64 (dgl (s) 4 : Nat), .int .u64 (dgl (s) 5 : Nat), .int .u64 (dgl (s) 6 : Nat), .int .u64 (dgl (s) 7 : Nat)])), (31, .val (.bool more)), (32, .val (.bool true)), (33, .val (.int .i64 p)), (34, .val (.agg #[.bool (neg), .int .i64 (z), .int .u64 (dgl (s) 0 : Nat), .int .u64 (dgl (s) 1 : Nat), .int .u64 (dgl (s) 2 : Nat), .int .u64 (dgl (s) 3 : Nat), .int .u64 (dgl (s) 4 : Nat), .int .u64 (dgl (s) 5 : Nat), .int .u64 (dgl (s) 6 : Nat), .int .u64 (dgl (s) 7 : Nat)])), (35, .val (.bool more)), (36, .val (.bool true)), (37, .val (.bool false))]
      (fun W => DgSt p m neg z s w W ∧ NB W p9 gn gz gs) mixedOk (by kernel_rfl) (by kernel_rfl) (⟨h3.1.below (Below.refl _ _).drew, h3.2.below (Below.refl _ _).drew⟩) (fun W W' h hb => ⟨h.1.below hb, h.2.below hb⟩) ?_ ?_
    · refine gSt (gStep_run rfl (gRun_move 7 29 (.inl rfl) rfl (by decide +kernel) (fun v w h => h))) ?_
      refine gSt (gStep_run rfl ?_) ?_
      · intro ρ W hC hc hf hL
        have e4 : ρ (.tmp 4) = .pointer (some ⟨w.heap.size + 1, 0, none⟩) := hL 4 (by decide +kernel)
        have ln := hC.1.n.n
        have le := hC.1.n.e
        have l0 := hC.1.n.x0
        have l1 := hC.1.n.x1
        have l2 := hC.1.n.x2
        have l3 := hC.1.n.x3
        have l4 := hC.1.n.x4
        have l5 := hC.1.n.x5
        have l6 := hC.1.n.x6
        have l7 := hC.1.n.x7
        simp [go_sem, hc, hf, e4, ln, le, l0, l1, l2, l3, l4, l5, l6, l7]
        exact ⟨Below.refl _ _, rfl⟩
      refine gSt (gStep_run rfl (gRun_move 2 31 (.inl rfl) rfl (by decide +kernel) (fun v w h => h))) ?_
      refine gSt (gStep_run rfl ?_) ?_
      · intro ρ W hC hc hf hL
        have e29 : ρ (.tmp 29) = .int .i64 p := hL 29 (by decide +kernel)
        have e30 : ρ (.tmp 30) = .agg #[.bool (neg), .int .i64 (z), .int .u64 (dgl (s) 0 : Nat), .int .u64 (dgl (s) 1 : Nat), .int .u64 (dgl (s) 2 : Nat), .int .u64 (dgl (s) 3 : Nat), .int .u64 (dgl (s) 4 : Nat), .int .u64 (dgl (s) 5 : Nat), .int .u64 (dgl (s) 6 : Nat), .int .u64 (dgl (s) 7 : Nat)] := hL 30 (by decide +kernel)
        have e31 : ρ (.tmp 31) = .bool more := hL 31 (by decide +kernel)
        simp [go_sem, hc, hf, e29, e30, e31]
        refine (HRI.out W).mono ?_
        rintro e w' ⟨rfl, hb⟩
        exact ⟨_, rfl, by first | exact hb | (subst hb; exact Below.refl _ _), rfl⟩
      refine gSt (gStep_run rfl (gRun_move 7 33 (.inl rfl) rfl (by decide +kernel) (fun v w h => h))) ?_
      refine gSt (gStep_run rfl ?_) ?_
      · intro ρ W hC hc hf hL
        have e4 : ρ (.tmp 4) = .pointer (some ⟨w.heap.size + 1, 0, none⟩) := hL 4 (by decide +kernel)
        have ln := hC.1.n.n
        have le := hC.1.n.e
        have l0 := hC.1.n.x0
        have l1 := hC.1.n.x1
        have l2 := hC.1.n.x2
        have l3 := hC.1.n.x3
        have l4 := hC.1.n.x4
        have l5 := hC.1.n.x5
        have l6 := hC.1.n.x6
        have l7 := hC.1.n.x7
        simp [go_sem, hc, hf, e4, ln, le, l0, l1, l2, l3, l4, l5, l6, l7]
        exact ⟨Below.refl _ _, rfl⟩
      refine gSt (gStep_run rfl (gRun_move 2 35 (.inl rfl) rfl (by decide +kernel) (fun v w h => h))) ?_
      refine gSt (gStep_run rfl ?_) ?_
      · intro ρ W hC hc hf hL
        have e33 : ρ (.tmp 33) = .int .i64 p := hL 33 (by decide +kernel)
        have e34 : ρ (.tmp 34) = .agg #[.bool (neg), .int .i64 (z), .int .u64 (dgl (s) 0 : Nat), .int .u64 (dgl (s) 1 : Nat), .int .u64 (dgl (s) 2 : Nat), .int .u64 (dgl (s) 3 : Nat), .int .u64 (dgl (s) 4 : Nat), .int .u64 (dgl (s) 5 : Nat), .int .u64 (dgl (s) 6 : Nat), .int .u64 (dgl (s) 7 : Nat)] := hL 34 (by decide +kernel)
        have e35 : ρ (.tmp 35) = .bool more := hL 35 (by decide +kernel)
        simp [go_sem, hc, hf, e33, e34, e35]
        refine (HLR.out W).mono ?_
        rintro e w' ⟨rfl, hb⟩
        exact ⟨_, rfl, by first | exact hb | (subst hb; exact Below.refl _ _), rfl⟩
      refine gSt (gStep_run rfl ?_) ?_
      · intro ρ W hC hc hf hL
        have e32 : ρ (.tmp 32) = .bool true := hL 32 (by decide +kernel)
        have e36 : ρ (.tmp 36) = .bool true := hL 36 (by decide +kernel)
        simp [go_sem, hc, hf, e32, e36]
        exact ⟨Below.refl _ _, rfl⟩
      exact gSt0
    · intro W hC
      refine gFi 29 rfl ?_
      rintro _ rfl
      refine gFi 30 rfl ?_
      rintro _ rfl
      refine gFi 31 rfl ?_
      rintro _ rfl
      refine gFi 32 rfl ?_
      rintro _ rfl
      refine gFi 33 rfl ?_
      rintro _ rfl
      refine gFi 34 rfl ?_
      rintro _ rfl
      refine gFi 35 rfl ?_
      rintro _ rfl
      refine gFi 36 rfl ?_
      rintro _ rfl
      refine gFi 37 rfl ?_
      rintro _ rfl
      refine gFi0 ?_
      simp only [List.drop_succ_cons, List.drop_zero, Act.put, List.setIfInBounds_toArray, List.set_cons_succ, List.set_cons_zero]
      obtain ⟨g1, g2⟩ := hC
      have HS := hide g1
      have HN := hide g2
      clear g1 g2 h3
      go_wp2_with fail
      refine (HIS.out _).mono ?_
      rintro e wl ⟨rfl, hw⟩
      subst wl
      have ln := HS.out.n.n
      have le := HS.out.n.e
      have l0 := HS.out.n.x0
      have l1 := HS.out.n.x1
      have l2 := HS.out.n.x2
      have l3 := HS.out.n.x3
      have l4 := HS.out.n.x4
      have l5 := HS.out.n.x5
      have l6 := HS.out.n.x6
      have l7 := HS.out.n.x7
      go_wp2_with fail
      refine (HLR.out _).mono ?_
      rintro e w4 ⟨rfl, hb4⟩
      replace HS := hide (HS.out.below hb4)
      replace HN := hide (HN.out.below hb4)
      clear hb4
      clear ln le l0 l1 l2 l3 l4 l5 l6 l7
      have ln := HS.out.n.n
      have le := HS.out.n.e
      have l0 := HS.out.n.x0
      have l1 := HS.out.n.x1
      have l2 := HS.out.n.x2
      have l3 := HS.out.n.x3
      have l4 := HS.out.n.x4
      have l5 := HS.out.n.x5
      have l6 := HS.out.n.x6
      have l7 := HS.out.n.x7
      go_wp2_with fail
      refine (HBG.out _).mono ?_
      rintro e w5 ⟨v5, rfl, hv5, hb5⟩
      replace HS := hide (HS.out.below hb5)
      replace HN := hide (HN.out.below hb5)
      clear hb5
      clear ln le l0 l1 l2 l3 l4 l5 l6 l7
      go_wp2_with fail
      refine (HLN.out _ _ hv5).mono ?_
      rintro e w6 ⟨rfl, hw⟩
      subst w6
      clear hv5
      have ln := HS.out.n.n
      have le := HS.out.n.e
      have l0 := HS.out.n.x0
      have l1 := HS.out.n.x1
      have l2 := HS.out.n.x2
      have l3 := HS.out.n.x3
      have l4 := HS.out.n.x4
      have l5 := HS.out.n.x5
      have l6 := HS.out.n.x6
      have l7 := HS.out.n.x7
      have yn := HN.out.n
      have ye := HN.out.e
      have y0 := HN.out.x0
      have y1 := HN.out.x1
      have y2 := HN.out.x2
      have y3 := HN.out.x3
      have y4 := HN.out.x4
      have y5 := HN.out.x5
      have y6 := HN.out.x6
      have y7 := HN.out.x7
      go_wp2_with fail
      refine (awake9_any _ HS.out.g).mono ?_
      rintro e w9 ⟨rfl, hb9⟩
      have HB := hide (below_trans HS.out.bel hb9)
      clear hb9 HS HN
      go_wp2
      go_ret
      exact ⟨rfl, HB.out⟩
      
    

set_option maxHeartbeats 4000000 in
theorem packDigits_Y (p m z gz T E : Int) (neg more gn off R : Bool) (s gs num U : Nat)
    (HDI : Hid (∀ w, Calls Tryd.prog 17 #[.int .i64 p, .int .i64 m, .agg #[.bool (neg), .int .i64 (z), .int .u64 (dgl (s) 0 : Nat), .int .u64 (dgl (s) 1 : Nat), .int .u64 (dgl (s) 2 : Nat), .int .u64 (dgl (s) 3 : Nat), .int .u64 (dgl (s) 4 : Nat), .int .u64 (dgl (s) 5 : Nat), .int .u64 (dgl (s) 6 : Nat), .int .u64 (dgl (s) 7 : Nat)], .bool more] w fun e w' => e = .returned (.tuple #[.agg #[.bool (neg), .int .i64 (gz), .int .u64 (dgl (gs) 0 : Nat), .int .u64 (dgl (gs) 1 : Nat), .int .u64 (dgl (gs) 2 : Nat), .int .u64 (dgl (gs) 3 : Nat), .int .u64 (dgl (gs) 4 : Nat), .int .u64 (dgl (gs) 5 : Nat), .int .u64 (dgl (gs) 6 : Nat), .int .u64 (dgl (gs) 7 : Nat)], .bool off, .int .i64 0]) ∧ Below w.heap.size w w'))
    (HRI : Hid (∀ w, Calls Tryd.prog 18 #[.int .i64 p, .agg #[.bool (neg), .int .i64 (z), .int .u64 (dgl (s) 0 : Nat), .int .u64 (dgl (s) 1 : Nat), .int .u64 (dgl (s) 2 : Nat), .int .u64 (dgl (s) 3 : Nat), .int .u64 (dgl (s) 4 : Nat), .int .u64 (dgl (s) 5 : Nat), .int .u64 (dgl (s) 6 : Nat), .int .u64 (dgl (s) 7 : Nat)], .bool more] w fun e w' => e = .returned (.bool true) ∧ Below w.heap.size w w'))
    (HLR : Hid (∀ w, Calls Tryd.prog 19 #[.int .i64 p, .agg #[.bool (neg), .int .i64 (z), .int .u64 (dgl (s) 0 : Nat), .int .u64 (dgl (s) 1 : Nat), .int .u64 (dgl (s) 2 : Nat), .int .u64 (dgl (s) 3 : Nat), .int .u64 (dgl (s) 4 : Nat), .int .u64 (dgl (s) 5 : Nat), .int .u64 (dgl (s) 6 : Nat), .int .u64 (dgl (s) 7 : Nat)], .bool more] w fun e w' => e = .returned (.bool true) ∧ Below w.heap.size w w'))
    (HIS : Hid (∀ w, Calls Tryd.prog 20 #[.int .i64 m] w fun e w' => e = .returned (.bool true) ∧ w' = w))
    (hs : s < QQ)
    (hl0 : (Go.bitLen s : Nat) ≠ 0)
    (HOF : Hid (∀ w, Calls Tryd.prog 24 #[.agg #[.bool (neg), .int .i64 (z), .int .u64 (dgl (s) 0 : Nat), .int .u64 (dgl (s) 1 : Nat), .int .u64 (dgl (s) 2 : Nat), .int .u64 (dgl (s) 3 : Nat), .int .u64 (dgl (s) 4 : Nat), .int .u64 (dgl (s) 5 : Nat), .int .u64 (dgl (s) 6 : Nat), .int .u64 (dgl (s) 7 : Nat)], .bool more] w fun e w' => ∃ u, e = .returned u ∧ RlV w' u neg 1 num 1 E 80 ∧ Below w.heap.size w w'))
    (HTP : Hid (∀ u w, RlV w u neg 1 num 1 E 80 → Calls Tryd.prog 25 #[u] w fun e w' => e = .returned (.int .i64 T) ∧ Below w.heap.size w w'))
    (hw1 : IntKind.i64.wrap (T - p) = T - p)
    (hw2 : IntKind.i64.wrap (T - p + 1) = T - p + 1)
    (HAT : Hid (∀ u w, RlV w u neg 1 num 1 E 80 → Calls Tryd.prog 26 #[u, .int .i64 (T - p + 1), .int .i64 p, .int .i64 m] w fun e w' => ∃ v, e = .returned (.tuple #[v, .bool off]) ∧ BigV w' v U 800 ∧ Below w.heap.size w w'))
    (hgs : gs < QQ)
    (hodd : Int.tmod ((dgl gs 0 : Nat) : Int) 2 = 1)
    (hle : ((Go.bitLen gs : Nat) : Int) ≤ p)
    (HSZ : Hid (∀ u v w, NumV w u neg gz gs 40 → NumV w v false (T - p + 1) U 800 → Calls Tryd.prog 27 #[u, v] w fun e w' => e = .returned (.int .i64 0) ∧ Below w.heap.size w w')) (w : World) (hg : FmtG w) (hgl : 1 < w.heap.size) :
    Calls Tryd.prog 4 #[.agg #[.int .i64 p, .int .i64 m], .agg #[.bool (neg), .int .i64 (z), .int .u64 (dgl (s) 0 : Nat), .int .u64 (dgl (s) 1 : Nat), .int .u64 (dgl (s) 2 : Nat), .int .u64 (dgl (s) 3 : Nat), .int .u64 (dgl (s) 4 : Nat), .int .u64 (dgl (s) 5 : Nat), .int .u64 (dgl (s) 6 : Nat), .int .u64 (dgl (s) 7 : Nat)], .bool more] w fun e w' => e = .returned (.bool true) ∧ Below w.heap.size w w' := by
  have HS := hide (dgSt_start p m neg z s w hg hgl 35)
  clear hg hgl
  have HBG := hide (fun w => refBig_any s hs w)
  have HLN := hide (fun v w h => refLen_any s 40 v w h (by decide))
  clear hs
  have HBH := hide (fun w => refBig_any gs hgs w)
  have HLO := hide (fun v w h => refLen_any gs 40 v w h (by decide))
  have HOG := hide (fun w => refOf7_any neg gz gs hgs w)
  have hl1 : ¬ ((Go.bitLen s : Nat) : Int) = 0 := by omega
  clear hgs hl0
  generalize Go.bitLen gs = lg at *
  generalize Go.bitLen s = ls at *
  go_enter Tryd.func4, Tryd.ntmps4
  go_upto_region 1 with fail
  refine wp_gen (fun W => DgSt p m neg z s w W) HS.out ?_
  clear HS
  rintro W1 h1
  refine wp_region_grow 6 [(16, .val (.pointer (some ⟨w.heap.size, 0, none⟩))), (17, .val (.int .i64 p)), (18, .val (.pointer (some ⟨w.heap.size, 1, none⟩))), (19, .val (.int .i64 m)), (7, .val (.int .i64 p)), (8, .val (.int .i64 m))]
    (fun W => DgSt p m neg z s w W) mixedOk (by kernel_rfl) (by kernel_rfl) (h1.below (Below.refl _ _).drew) (fun W W' h hb => h.below hb) ?_ ?_
  · refine gSt (gStep_run rfl ?_) ?_
    · intro ρ W hC hc hf hL
      have e3 : ρ (.tmp 3) = .pointer (some ⟨w.heap.size, 0, none⟩) := hL 3 (by decide +kernel)
      have hl : w.heap.size < W.heap.size := by have := hC.lt; omega
      simp [go_sem, hc, hf, e3, hl]
      exact ⟨Below.refl _ _, rfl⟩
    refine gSt (gStep_run rfl ?_) ?_
    · intro ρ W hC hc hf hL
      have e16 : ρ (.tmp 16) = .pointer (some ⟨w.heap.size, 0, none⟩) := hL 16 (by decide +kernel)
      have q := hC.q0
      simp [go_sem, hc, hf, e16, q]
      exact ⟨Below.refl _ _, rfl⟩
    refine gSt (gStep_run rfl ?_) ?_
    · intro ρ W hC hc hf hL
      have e3 : ρ (.tmp 3) = .pointer (some ⟨w.heap.size, 0, none⟩) := hL 3 (by decide +kernel)
      have hl : w.heap.size < W.heap.size := by have := hC.lt; omega
      simp [go_sem, hc, hf, e3, hl]
      exact ⟨Below.refl _ _, rfl⟩
    refine gSt (gStep_run rfl ?_) ?_
    · intro ρ W hC hc hf hL
      have e18 : ρ (.tmp 18) = .pointer (some ⟨w.heap.size, 1, none⟩) := hL 18 (by decide +kernel)
      have q := hC.q1
      simp [go_sem, hc, hf, e18, q]
      exact ⟨Below.refl _ _, rfl⟩
    refine gSt (gStep_run rfl (gRun_move 17 7 (.inr rfl) rfl (by decide +kernel) (fun v w h => h))) ?_
    refine gSt (gStep_run rfl (gRun_move 19 8 (.inr rfl) rfl (by decide +kernel) (fun v w h => h))) ?_
    exact gSt0
  · intro W hC
    refine gFi 16 rfl ?_
    rintro _ rfl
    refine gFi 17 rfl ?_
    rintro _ rfl
    refine gFi 18 rfl ?_
    rintro _ rfl
    refine gFi 19 rfl ?_
    rintro _ rfl
    refine gFi 7 rfl ?_
    rintro _ rfl
    refine gFi 8 rfl ?_
    rintro _ rfl
    refine gFi0 ?_
    simp only [List.drop_succ_cons, List.drop_zero, Act.put, List.setIfInBounds_toArray, List.set_cons_succ, List.set_cons_zero]
    have HS := hide hC
    clear hC h1
    have ln := HS.out.n.n
    have le := HS.out.n.e
    have l0 := HS.out.n.x0
    have l1 := HS.out.n.x1
    have l2 := HS.out.n.x2
    have l3 := HS.out.n.x3
    have l4 := HS.out.n.x4
    have l5 := HS.out.n.x5
    have l6 := HS.out.n.x6
    have l7 := HS.out.n.x7
    go_wp2_with fail
    refine (HDI.out _).mono ?_
    rintro e w3 ⟨rfl, hb3⟩
    replace HS := hide (HS.out.below hb3)
    clear hb3
    clear ln le l0 l1 l2 l3 l4 l5 l6 l7
    go_upto_region 3 with fail
    refine wp_gen (fun W => DgSt p m neg z s w W ∧ NB W w3.heap.size neg gz gs) ⟨HS.out.below (below_allocs _ _), nb_new _ _ _ _ _⟩ ?_
    clear HS
    generalize w3.heap.size = p9 at *
    rintro W3 h3
    refine wp_region_grow 9 [(29, .val (.int .i64 p)), (30, .val (.agg #[.bool (neg), .int .i64 (z), .int .u64 (dgl (s) 0 : Nat), .int .u64 (dgl (s) 1 : Nat), .int .u64 (dgl (s) 2 : Nat), .int .u64 (dgl (s) 3 : Nat), .int .u64 (dgl (s) 4 : Nat), .int .u64 (dgl (s) 5 : Nat), .int .u64 (dgl (s) 6 : Nat), .int .u64 (dgl (s) 7 : Nat)])), (31, .val (.bool more)), (32, .val (.bool true)), (33, .val (.int .i64 p)), (34, .val (.agg #[.bool (neg), .int .i64 (z), .int .u64 (dgl (s) 0 : Nat), .int .u64 (dgl (s) 1 : Nat), .int .u64 (dgl (s) 2 : Nat), .int .u64 (dgl (s) 3 : Nat), .int .u64 (dgl (s) 4 : Nat), .int .u64 (dgl (s) 5 : Nat), .int .u64 (dgl (s) 6 : Nat), .int .u64 (dgl (s) 7 : Nat)])), (35, .val (.bool more)), (36, .val (.bool true)), (37, .val (.bool false))]
      (fun W => DgSt p m neg z s w W ∧ NB W p9 neg gz gs) mixedOk (by kernel_rfl) (by kernel_rfl) (⟨h3.1.below (Below.refl _ _).drew, h3.2.below (Below.refl _ _).drew⟩) (fun W W' h hb => ⟨h.1.below hb, h.2.below hb⟩) ?_ ?_
    · refine gSt (gStep_run rfl (gRun_move 7 29 (.inl rfl) rfl (by decide +kernel) (fun v w h => h))) ?_
      refine gSt (gStep_run rfl ?_) ?_
      · intro ρ W hC hc hf hL
        have e4 : ρ (.tmp 4) = .pointer (some ⟨w.heap.size + 1, 0, none⟩) := hL 4 (by decide +kernel)
        have ln := hC.1.n.n
        have le := hC.1.n.e
        have l0 := hC.1.n.x0
        have l1 := hC.1.n.x1
        have l2 := hC.1.n.x2
        have l3 := hC.1.n.x3
        have l4 := hC.1.n.x4
        have l5 := hC.1.n.x5
        have l6 := hC.1.n.x6
        have l7 := hC.1.n.x7
        simp [go_sem, hc, hf, e4, ln, le, l0, l1, l2, l3, l4, l5, l6, l7]
        exact ⟨Below.refl _ _, rfl⟩
      refine gSt (gStep_run rfl (gRun_move 2 31 (.inl rfl) rfl (by decide +kernel) (fun v w h => h))) ?_
      refine gSt (gStep_run rfl ?_) ?_
      · intro ρ W hC hc hf hL
        have e29 : ρ (.tmp 29) = .int .i64 p := hL 29 (by decide +kernel)
        have e30 : ρ (.tmp 30) = .agg #[.bool (neg), .int .i64 (z), .int .u64 (dgl (s) 0 : Nat), .int .u64 (dgl (s) 1 : Nat), .int .u64 (dgl (s) 2 : Nat), .int .u64 (dgl (s) 3 : Nat), .int .u64 (dgl (s) 4 : Nat), .int .u64 (dgl (s) 5 : Nat), .int .u64 (dgl (s) 6 : Nat), .int .u64 (dgl (s) 7 : Nat)] := hL 30 (by decide +kernel)
        have e31 : ρ (.tmp 31) = .bool more := hL 31 (by decide +kernel)
        simp [go_sem, hc, hf, e29, e30, e31]
        refine (HRI.out W).mono ?_
        rintro e w' ⟨rfl, hb⟩
        exact ⟨_, rfl, by first | exact hb | (subst hb; exact Below.refl _ _), rfl⟩
      refine gSt (gStep_run rfl (gRun_move 7 33 (.inl rfl) rfl (by decide +kernel) (fun v w h => h))) ?_
      refine gSt (gStep_run rfl ?_) ?_
      · intro ρ W hC hc hf hL
        have e4 : ρ (.tmp 4) = .pointer (some ⟨w.heap.size + 1, 0, none⟩) := hL 4 (by decide +kernel)
        have ln := hC.1.n.n
        have le := hC.1.n.e
        have l0 := hC.1.n.x0
        have l1 := hC.1.n.x1
        have l2 := hC.1.n.x2
        have l3 := hC.1.n.x3
        have l4 := hC.1.n.x4
        have l5 := hC.1.n.x5
        have l6 := hC.1.n.x6
        have l7 := hC.1.n.x7
        simp [go_sem, hc, hf, e4, ln, le, l0, l1, l2, l3, l4, l5, l6, l7]
        exact ⟨Below.refl _ _, rfl⟩
      refine gSt (gStep_run rfl (gRun_move 2 35 (.inl rfl) rfl (by decide +kernel) (fun v w h => h))) ?_
      refine gSt (gStep_run rfl ?_) ?_
      · intro ρ W hC hc hf hL
        have e33 : ρ (.tmp 33) = .int .i64 p := hL 33 (by decide +kernel)
        have e34 : ρ (.tmp 34) = .agg #[.bool (neg), .int .i64 (z), .int .u64 (dgl (s) 0 : Nat), .int .u64 (dgl (s) 1 : Nat), .int .u64 (dgl (s) 2 : Nat), .int .u64 (dgl (s) 3 : Nat), .int .u64 (dgl (s) 4 : Nat), .int .u64 (dgl (s) 5 : Nat), .int .u64 (dgl (s) 6 : Nat), .int .u64 (dgl (s) 7 : Nat)] := hL 34 (by decide +kernel)
        have e35 : ρ (.tmp 35) = .bool more := hL 35 (by decide +kernel)
        simp [go_sem, hc, hf, e33, e34, e35]
        refine (HLR.out W).mono ?_
        rintro e w' ⟨rfl, hb⟩
        exact ⟨_, rfl, by first | exact hb | (subst hb; exact Below.refl _ _), rfl⟩
      refine gSt (gStep_run rfl ?_) ?_
      · intro ρ W hC hc hf hL
        have e32 : ρ (.tmp 32) = .bool true := hL 32 (by decide +kernel)
        have e36 : ρ (.tmp 36) = .bool true := hL 36 (by decide +kernel)
        simp [go_sem, hc, hf, e32, e36]
        exact ⟨Below.refl _ _, rfl⟩
      exact gSt0
    · intro W hC
      refine gFi 29 rfl ?_
      rintro _ rfl
      refine gFi 30 rfl ?_
      rintro _ rfl
      refine gFi 31 rfl ?_
      rintro _ rfl
      refine gFi 32 rfl ?_
      rintro _ rfl
      refine gFi 33 rfl ?_
      rintro _ rfl
      refine gFi 34 rfl ?_
      rintro _ rfl
      refine gFi 35 rfl ?_
      rintro _ rfl
      refine gFi 36 rfl ?_
      rintro _ rfl
      refine gFi 37 rfl ?_
      rintro _ rfl
      refine gFi0 ?_
      simp only [List.drop_succ_cons, List.drop_zero, Act.put, List.setIfInBounds_toArray, List.set_cons_succ, List.set_cons_zero]
      obtain ⟨g1, g2⟩ := hC
      have HS := hide g1
      have HN := hide g2
      clear g1 g2 h3
      go_wp2_with fail
      refine (HIS.out _).mono ?_
      rintro e wl ⟨rfl, hw⟩
      subst wl
      have ln := HS.out.n.n
      have le := HS.out.n.e
      have l0 := HS.out.n.x0
      have l1 := HS.out.n.x1
      have l2 := HS.out.n.x2
      have l3 := HS.out.n.x3
      have l4 := HS.out.n.x4
      have l5 := HS.out.n.x5
      have l6 := HS.out.n.x6
      have l7 := HS.out.n.x7
      go_wp2_with fail
      refine (HLR.out _).mono ?_
      rintro e w4 ⟨rfl, hb4⟩
      replace HS := hide (HS.out.below hb4)
      replace HN := hide (HN.out.below hb4)
      clear hb4
      clear ln le l0 l1 l2 l3 l4 l5 l6 l7
      have ln := HS.out.n.n
      have le := HS.out.n.e
      have l0 := HS.out.n.x0
      have l1 := HS.out.n.x1
      have l2 := HS.out.n.x2
      have l3 := HS.out.n.x3
      have l4 := HS.out.n.x4
      have l5 := HS.out.n.x5
      have l6 := HS.out.n.x6
      have l7 := HS.out.n.x7
      go_wp2_with fail
      refine (HBG.out _).mono ?_
      rintro e w5 ⟨v5, rfl, hv5, hb5⟩
      replace HS := hide (HS.out.below hb5)
      replace HN := hide (HN.out.below hb5)
      clear hb5
      clear ln le l0 l1 l2 l3 l4 l5 l6 l7
      go_wp2_with fail
      refine (HLN.out _ _ hv5).mono ?_
      rintro e w6 ⟨rfl, hw⟩
      subst w6
      clear hv5
      have ln := HS.out.n.n
      have le := HS.out.n.e
      have l0 := HS.out.n.x0
      have l1 := HS.out.n.x1
      have l2 := HS.out.n.x2
      have l3 := HS.out.n.x3
      have l4 := HS.out.n.x4
      have l5 := HS.out.n.x5
      have l6 := HS.out.n.x6
      have l7 := HS.out.n.x7
      go_wp2_with fail
      refine (HOF.out _).mono ?_
      rintro e w7 ⟨u7, rfl, ⟨v1, v2, rfl, k1, k2⟩, hb7⟩
      obtain ⟨ao1, lx1, ca1, rfl⟩ := k1.slice
      obtain ⟨ao2, lx2, ca2, rfl⟩ := k2.slice
      replace HS := hide (HS.out.below hb7)
      replace HN := hide (HN.out.below hb7)
      clear hb7
      clear ln le l0 l1 l2 l3 l4 l5 l6 l7
      have HST := hide (show DgSt p m neg z s w (w7.alloc (.cells #[.bool neg, .int .i64 (1 : Nat), .slice ao1 lx1 ca1, .slice ao2 lx2 ca2, .int .i64 E] 45)) ∧ NB (w7.alloc (.cells #[.bool neg, .int .i64 (1 : Nat), .slice ao1 lx1 ca1, .slice ao2 lx2 ca2, .int .i64 E] 45)) p9 neg gz gs ∧ RB (w7.alloc (.cells #[.bool neg, .int .i64 (1 : Nat), .slice ao1 lx1 ca1, .slice ao2 lx2 ca2, .int .i64 E] 45)) w7.heap.size neg (1 : Nat) E (.slice ao1 lx1 ca1) (.slice ao2 lx2 ca2) ∧ BigV (w7.alloc (.cells #[.bool neg, .int .i64 (1 : Nat), .slice ao1 lx1 ca1, .slice ao2 lx2 ca2, .int .i64 E] 45)) (.slice ao1 lx1 ca1) num 80 ∧ BigV (w7.alloc (.cells #[.bool neg, .int .i64 (1 : Nat), .slice ao1 lx1 ca1, .slice ao2 lx2 ca2, .int .i64 E] 45)) (.slice ao2 lx2 ca2) 1 80 from
        ⟨HS.out.below (below_allocs _ _), HN.out.below (below_allocs _ _), rb_new _ _ _ _ _ _ ⟨_, _, _, rfl⟩ ⟨_, _, _, rfl⟩ _, k1.below (below_allocs _ _), k2.below (below_allocs _ _)⟩)
      clear HS HN k1 k2
      go_upto_region 10 with fail
      refine wp_gen (fun W => DgSt p m neg z s w W ∧ NB W p9 neg gz gs ∧ RB W w7.heap.size neg (1 : Nat) E (.slice ao1 lx1 ca1) (.slice ao2 lx2 ca2) ∧ BigV W (.slice ao1 lx1 ca1) num 80 ∧ BigV W (.slice ao2 lx2 ca2) 1 80) HST.out ?_
      clear HST
      generalize w7.heap.size = p12 at *
      rintro W4 ⟨g1, g2, g3, g4, g5⟩
      have HS := hide g1
      have HN := hide g2
      have HR := hide g3
      have H1 := hide g4
      have H2 := hide g5
      clear g1 g2 g3 g4 g5
      have c0 := HR.out.c0
      have c1 := HR.out.c1
      have c2 := HR.out.c2
      have c3 := HR.out.c3
      have c4 := HR.out.c4
      go_wp2_with fail
      refine (HTP.out _ _ ⟨_, _, rfl, H1.out, H2.out⟩).mono ?_
      rintro e w8 ⟨rfl, hb8⟩
      replace HS := hide (HS.out.below hb8)
      replace HN := hide (HN.out.below hb8)
      replace HR := hide (HR.out.below hb8)
      replace H1 := hide (H1.out.below hb8)
      replace H2 := hide (H2.out.below hb8)
      clear hb8
      clear c0 c1 c2 c3 c4
      have c0 := HR.out.c0
      have c1 := HR.out.c1
      have c2 := HR.out.c2
      have c3 := HR.out.c3
      have c4 := HR.out.c4
      go_wp2_with fail
      refine (HAT.out _ _ ⟨_, _, rfl, H1.out, H2.out⟩).mono ?_
      rintro e wa ⟨va, rfl, hva, hba⟩
      obtain ⟨ao3, lx3, ca3, rfl⟩ := hva.slice
      have HV := hide hva
      replace HS := hide (HS.out.below hba)
      replace HN := hide (HN.out.below hba)
      clear hba hva H1 H2 HR
      clear c0 c1 c2 c3 c4
      have ln := HS.out.n.n
      have le := HS.out.n.e
      have l0 := HS.out.n.x0
      have l1 := HS.out.n.x1
      have l2 := HS.out.n.x2
      have l3 := HS.out.n.x3
      have l4 := HS.out.n.x4
      have l5 := HS.out.n.x5
      have l6 := HS.out.n.x6
      have l7 := HS.out.n.x7
      have yn := HN.out.n
      have ye := HN.out.e
      have y0 := HN.out.x0
      have y1 := HN.out.x1
      have y2 := HN.out.x2
      have y3 := HN.out.x3
      have y4 := HN.out.x4
      have y5 := HN.out.x5
      have y6 := HN.out.x6
      have y7 := HN.out.x7
      go_wp2_with fail
      refine (HBH.out _).mono ?_
      rintro e wb ⟨vb, rfl, hvb, hbb⟩
      replace HS := hide (HS.out.below hbb)
      replace HN := hide (HN.out.below hbb)
      replace HV := hide (HV.out.below hbb)
      clear hbb
      clear ln le l0 l1 l2 l3 l4 l5 l6 l7
      clear yn ye y0 y1 y2 y3 y4 y5 y6 y7
      go_wp2_with fail
      refine (HLO.out _ _ hvb).mono ?_
      rintro e wc ⟨rfl, hw⟩
      subst wc
      clear hvb
      have yn := HN.out.n
      have ye := HN.out.e
      have y0 := HN.out.x0
      have y1 := HN.out.x1
      have y2 := HN.out.x2
      have y3 := HN.out.x3
      have y4 := HN.out.x4
      have y5 := HN.out.x5
      have y6 := HN.out.x6
      have y7 := HN.out.x7
      go_wp2_with fail
      refine (HOG.out _).mono ?_
      rintro e wd ⟨vd, rfl, hvd, hbd⟩
      replace HS := hide (HS.out.below hbd)
      replace HN := hide (HN.out.below hbd)
      replace HV := hide (HV.out.below hbd)
      clear hbd
      clear yn ye y0 y1 y2 y3 y4 y5 y6 y7
      go_wp2_with fail
      refine (HSZ.out _ _ _ hvd ⟨_, rfl, HV.out⟩).mono ?_
      rintro e we ⟨rfl, hbe⟩
      replace HS := hide (HS.out.below hbe)
      replace HN := hide (HN.out.below hbe)
      clear hbe hvd HV
      go_wp2_with fail
      refine (awake9_any _ HS.out.g).mono ?_
      rintro e w9 ⟨rfl, hb9⟩
      have HB := hide (below_trans HS.out.bel hb9)
      clear hb9 HS HN
      go_wp2
      go_ret
      exact ⟨rfl, HB.out⟩
      
    

end Go.Proofs.YtpcjdllijkjdkaaDoor

/- PackDigits at any number: the numbers. -/
set_option linter.unusedVariables false
set_option linter.unusedSimpArgs false
set_option maxRecDepth 8000
namespace Go.Proofs.YtpcjdllijkjdkaaDoor
open Go.RowKit Plain

theorem zero_num (neg : Bool) : (.agg #[.bool (neg), .int .i64 (0), .int .u64 (dgl (0) 0 : Nat), .int .u64 (dgl (0) 1 : Nat), .int .u64 (dgl (0) 2 : Nat), .int .u64 (dgl (0) 3 : Nat), .int .u64 (dgl (0) 4 : Nat), .int .u64 (dgl (0) 5 : Nat), .int .u64 (dgl (0) 6 : Nat), .int .u64 (dgl (0) 7 : Nat)] : Value) = .agg #[.bool neg, .int .i64 0, .int .u64 0, .int .u64 0, .int .u64 0, .int .u64 0, .int .u64 0, .int .u64 0, .int .u64 0, .int .u64 0] := by
  simp [dgl_zero]
theorem zero_eq (neg : Bool) (w : World) : (Op.equalIn 10000 26 (.agg #[.bool (neg), .int .i64 (0), .int .u64 (dgl (0) 0 : Nat), .int .u64 (dgl (0) 1 : Nat), .int .u64 (dgl (0) 2 : Nat), .int .u64 (dgl (0) 3 : Nat), .int .u64 (dgl (0) 4 : Nat), .int .u64 (dgl (0) 5 : Nat), .int .u64 (dgl (0) 6 : Nat), .int .u64 (dgl (0) 7 : Nat)]) (.agg #[.bool neg, .int .i64 0, .int .u64 0, .int .u64 0, .int .u64 0, .int .u64 0, .int .u64 0, .int .u64 0, .int .u64 0, .int .u64 0])).run Tryd.prog w = .ok true w := by
  have h := num_eq neg neg 0 0 (show 0 < QQ by decide +kernel) (show 0 < QQ by decide +kernel) w
  rw [zero_num neg] at h ⊢
  rw [h]
  simp
theorem rgt_bd {z : Int} (h : rgt z = true) : -1048576 ≤ z ∧ z ≤ 1048576 := by
  unfold rgt at h
  simpa using h
/-- The document's number reaches a place: 1 there is not above it. -/
theorem one_at (s : Nat) (more : Bool) (z P : Int) (h : z ≤ P) : cR 1 (nmR s more) 1 (exR z more) 1 P ≤ 0 ↔ 2 ^ (P - z).toNat ≤ s := by
  rw [cR_one]
  cases more
  · show sizeZ 1 P s z ≤ 0 ↔ _
    rw [sizeZ_le 1 s P z z h (Int.le_refl _)]
    unfold vl
    rw [show (z - z).toNat = 0 by omega, Nat.pow_zero, Nat.mul_one, Nat.one_mul]
  · show sizeZ 1 P (s * 2 ^ 1 + 1) (z - 1) ≤ 0 ↔ _
    rw [sizeZ_le 1 (s * 2 ^ 1 + 1) P (z - 1) (z - 1) (by omega) (Int.le_refl _)]
    unfold vl
    rw [show (z - 1 - (z - 1)).toNat = 0 by omega, Nat.pow_zero, Nat.mul_one, Nat.one_mul, show (P - (z - 1)).toNat = (P - z).toNat + 1 by omega, Nat.pow_succ, Nat.pow_one]
    omega
theorem nmR_len {z : Int} (s : Nat) (more : Bool) : (Go.bitLen s : Int) + z ≤ (Go.bitLen (nmR s more) : Int) + exR z more + 0 ∧ (Go.bitLen (nmR s more) : Int) ≤ (Go.bitLen s : Int) + 1 := by
  cases more
  · exact ⟨by show (Go.bitLen s : Int) + z ≤ (Go.bitLen s : Int) + z + 0; omega, by show (Go.bitLen s : Int) ≤ _; omega⟩
  · have h1 := len_dbl s
    have h2 : Go.bitLen s + 1 ≤ Go.bitLen (s * 2 ^ 1 + 1) := by
      rcases Nat.eq_zero_or_pos s with rfl | h0
      · decide +kernel
      · rcases Nat.lt_or_ge (Go.bitLen (s * 2 ^ 1 + 1)) (Go.bitLen s + 1) with h3 | h3
        · have h4 := (len_le (s * 2 ^ 1 + 1) (Go.bitLen s)).1 (by omega)
          have h5 := len_ge (show s ≠ 0 by omega)
          have h6 : 2 ^ Go.bitLen s = 2 * 2 ^ (Go.bitLen s - 1) := by rw [← Nat.pow_succ']; congr 1; have := len_pos (show s ≠ 0 by omega); omega
          rw [Nat.pow_one] at h4
          omega
        · exact h3
    exact ⟨by show (Go.bitLen s : Int) + z ≤ (Go.bitLen (s * 2 ^ 1 + 1) : Int) + (z - 1) + 0; omega, by show (Go.bitLen (s * 2 ^ 1 + 1) : Int) ≤ _; omega⟩
/-- Top, of such a number. -/
theorem rtopA_any (neg : Bool) (s : Nat) (more : Bool) (z : Int) (h0 : s ≠ 0) (hl : Go.bitLen s ≤ 600) (hz : -4000000 ≤ z ∧ z ≤ 4000000) (u : Value) (w : World) (hu : RlV w u neg 1 (nmR s more) 1 (exR z more) 80) :
    Calls Tryd.prog 25 #[u] w fun e' w' => e' = .returned (.int .i64 (z + (Go.bitLen s : Int) - 1)) ∧ Below w.heap.size w w' := by
  have h1 := len_pos h0
  obtain ⟨n1, n2⟩ := nmR_len (z := z) s more
  have hb : Go.bitLen 1 = 1 := by decide +kernel
  have hE : z - 1 ≤ exR z more ∧ exR z more ≤ z := by cases more <;> (unfold exR; simp only [cond_true, cond_false]; omega)
  refine rtop_any 1 (.inl rfl) neg (exR z more) (nmR s more) 1 80 (by omega) (by omega) (by omega) (by omega) (z + (Go.bitLen s : Int) - 1) _ rfl ?_ ?_ ?_ u w hu
  · rw [hb]; omega
  · rw [one_at s more z _ (by omega), show (z + (Go.bitLen s : Int) - 1 - z).toNat = Go.bitLen s - 1 by omega]
    exact len_ge h0
  · intro P hP _
    rcases Int.lt_or_le 0 (cR 1 (nmR s more) 1 (exR z more) 1 P) with h | h
    · exact h
    · rw [one_at s more z P (by omega)] at h
      have h2 := len_lt s
      have h3 : 2 ^ Go.bitLen s ≤ 2 ^ (P - z).toNat := Nat.pow_le_pow_right (by decide) (by omega)
      omega
/-- The document's number, at a place: so many units, rounded. -/
def atN (s : Nat) (more : Bool) (z P m : Int) (neg : Bool) : Nat :=
  s * 2 ^ (z - P).toNat / 2 ^ (P - z).toNat + (growN m neg (s * 2 ^ (z - P).toNat / 2 ^ (P - z).toNat % 2 == 1) ((restN s (P - z).toNat more : Nat) : Int)).toNat
theorem ratA_any (neg : Bool) (s : Nat) (more : Bool) (z P m : Int) (M : Nat) (hl : Go.bitLen s ≤ 600) (hz : -4000000 ≤ z ∧ z ≤ 4000000) (hP : -5000000 ≤ P ∧ P ≤ 5000000) (hM : M ≤ 600) (h : more = true → z < P)
    (hD : s * 2 ^ (z - P).toNat / 2 ^ (P - z).toNat < 2 ^ M) (u : Value) (w : World) (hu : RlV w u neg 1 (nmR s more) 1 (exR z more) 80) :
    Calls Tryd.prog 26 #[u, .int .i64 P, .int .i64 (M : Nat), .int .i64 m] w fun e' w' => ∃ v, e' = .returned (.tuple #[v, .bool (!decide (restN s (P - z).toNat more = 0))]) ∧ BigV w' v (atN s more z P m neg) 800 ∧ Below w.heap.size w w' := by
  obtain ⟨n1, n2⟩ := nmR_len (z := z) s more
  have hb : Go.bitLen 1 = 1 := by decide +kernel
  have hE : z - 1 ≤ exR z more ∧ exR z more ≤ z := by cases more <;> (unfold exR; simp only [cond_true, cond_false]; omega)
  have hh := rat_any 1 neg (exR z more) P ((restN s (P - z).toNat more : Nat) : Int) m (nmR s more) 1 80 M (s * 2 ^ (z - P).toNat / 2 ^ (P - z).toNat) u w hu
    (fun u W hu => rdown_any 1 (.inl rfl) neg (exR z more) P (nmR s more) 1 80 M _ (by omega) (by omega) (by omega) (by omega) (by omega) hM (cR_mono s more z P h M) (down_inv s more z P h M hD) _ (down_rest s more z P h).symm u W hu)
  have hd : decide (0 < ((restN s (P - z).toNat more : Nat) : Int)) = !decide (restN s (P - z).toNat more = 0) := by
    by_cases h0 : restN s (P - z).toNat more = 0
    · rw [h0]; rfl
    · rw [decide_eq_true (show 0 < ((restN s (P - z).toNat more : Nat) : Int) by omega), decide_eq_false h0]; rfl
  rw [hd] at hh
  exact hh
theorem atN_cut (s : Nat) (more : Bool) (z P m : Int) (neg : Bool) (h : z ≤ P) : atN s more z P m neg = cutN s (P - z).toNat m more neg := by
  unfold atN cutN
  rw [show (z - P).toNat = 0 by omega, Nat.pow_zero, Nat.mul_one]
theorem atN_up (s : Nat) (z P m : Int) (neg : Bool) (h : P ≤ z) : atN s false z P m neg = s * 2 ^ (z - P).toNat := by
  unfold atN
  rw [show (P - z).toNat = 0 by omega, restN_0, growN_nil, Nat.pow_zero, Nat.div_one]
  rfl

end Go.Proofs.YtpcjdllijkjdkaaDoor

/- PackDigits at any number. -/
set_option linter.unusedVariables false
set_option linter.unusedSimpArgs false
set_option maxRecDepth 8000
namespace Go.Proofs.YtpcjdllijkjdkaaDoor
open Go.RowKit Plain

/-- What pack.Digits tells of a number that may be rounded. -/
theorem digits_zero (p : Int) (m : Int) (neg : Bool) (z : Int) (hm : isM m = true) (hR : rightB p z 0 false = true) (w : World) :
    Calls Tryd.prog 17 #[.int .i64 p, .int .i64 m, .agg #[.bool (neg), .int .i64 (z), .int .u64 (dgl (0) 0 : Nat), .int .u64 (dgl (0) 1 : Nat), .int .u64 (dgl (0) 2 : Nat), .int .u64 (dgl (0) 3 : Nat), .int .u64 (dgl (0) 4 : Nat), .int .u64 (dgl (0) 5 : Nat), .int .u64 (dgl (0) 6 : Nat), .int .u64 (dgl (0) 7 : Nat)], .bool false] w fun e w' => e = .returned (.tuple #[.agg #[.bool (neg), .int .i64 (0), .int .u64 (dgl (0) 0 : Nat), .int .u64 (dgl (0) 1 : Nat), .int .u64 (dgl (0) 2 : Nat), .int .u64 (dgl (0) 3 : Nat), .int .u64 (dgl (0) 4 : Nat), .int .u64 (dgl (0) 5 : Nat), .int .u64 (dgl (0) 6 : Nat), .int .u64 (dgl (0) 7 : Nat)], .bool false, .int .i64 0]) ∧ Below w.heap.size w w' := by
  obtain ⟨hp1, hp2, hr, _, _⟩ := right_parts hR
  have hz := rgt_bd hr
  have hI := fun w => modeIs_any m w
  rw [hm] at hI
  have hRI := fun w => pright_any p z neg false 0 (show 0 < QQ by decide +kernel) w
  rw [hR] at hRI
  have hb : Go.bitLen 0 = 0 := by decide +kernel
  have hC := fun c w hc => cut_prec p z m neg false 0 (show 0 < QQ by decide +kernel) hm hz (by omega) c w hc
  rw [hb, show (0 - p.toNat : Nat) = 0 by omega, cutN_0, restN_0] at hC
  have hS := fun w => short_Z neg 0 0 (rgt_of (by omega)) (by omega) w
  rw [← zero_num neg] at hS
  have hq := fun w => wide_eqz (show 0 < QQ by decide +kernel) w
  rw [decide_eq_true rfl] at hq
  exact digits_Y p m z _ 0 neg false _ 0 0 0 hI hRI hC (fun w => odd_Z neg _ 0 0 0 hS hq w) w

theorem digits_some (p : Int) (m : Int) (neg : Bool) (z : Int) (s : Nat) (more : Bool) (hs : s < QQ) (h0 : s ≠ 0) (hm : isM m = true) (hR : rightB p z s more = true) (t : Nat)
    (h1 : cutN s (Go.bitLen s - p.toNat) m more neg / 2 ^ t * 2 ^ t = cutN s (Go.bitLen s - p.toNat) m more neg) (h2 : cutN s (Go.bitLen s - p.toNat) m more neg / 2 ^ t % 2 = 1) (h3 : ∀ n, n < t → cutN s (Go.bitLen s - p.toNat) m more neg / 2 ^ n % 2 = 0) (w : World) :
    Calls Tryd.prog 17 #[.int .i64 p, .int .i64 m, .agg #[.bool (neg), .int .i64 (z), .int .u64 (dgl (s) 0 : Nat), .int .u64 (dgl (s) 1 : Nat), .int .u64 (dgl (s) 2 : Nat), .int .u64 (dgl (s) 3 : Nat), .int .u64 (dgl (s) 4 : Nat), .int .u64 (dgl (s) 5 : Nat), .int .u64 (dgl (s) 6 : Nat), .int .u64 (dgl (s) 7 : Nat)], .bool more] w fun e w' => e = .returned (.tuple #[.agg #[.bool (neg), .int .i64 ((0 + (t : Int)) + (z + ((Go.bitLen s - p.toNat : Nat) : Int))), .int .u64 (dgl (cutN s (Go.bitLen s - p.toNat) m more neg / 2 ^ t) 0 : Nat), .int .u64 (dgl (cutN s (Go.bitLen s - p.toNat) m more neg / 2 ^ t) 1 : Nat), .int .u64 (dgl (cutN s (Go.bitLen s - p.toNat) m more neg / 2 ^ t) 2 : Nat), .int .u64 (dgl (cutN s (Go.bitLen s - p.toNat) m more neg / 2 ^ t) 3 : Nat), .int .u64 (dgl (cutN s (Go.bitLen s - p.toNat) m more neg / 2 ^ t) 4 : Nat), .int .u64 (dgl (cutN s (Go.bitLen s - p.toNat) m more neg / 2 ^ t) 5 : Nat), .int .u64 (dgl (cutN s (Go.bitLen s - p.toNat) m more neg / 2 ^ t) 6 : Nat), .int .u64 (dgl (cutN s (Go.bitLen s - p.toNat) m more neg / 2 ^ t) 7 : Nat)], .bool (!decide (restN s (Go.bitLen s - p.toNat) more = 0)), .int .i64 0]) ∧ Below w.heap.size w w' := by
  obtain ⟨hp1, hp2, hr, hl, _⟩ := right_parts hR
  have hz := rgt_bd hr
  have hI := fun w => modeIs_any m w
  rw [hm] at hI
  have hRI := fun w => pright_any p z neg more s hs w
  rw [hR] at hRI
  have hC := fun c w hc => cut_prec p z m neg more s hs hm hz (by omega) c w hc
  have hqq : cutN s (Go.bitLen s - p.toNat) m more neg < QQ := cutN_qq hl
  have hln := len_pos h0
  generalize cutN s (Go.bitLen s - p.toNat) m more neg = q at *
  have hq0 : q ≠ 0 := fun e => by rw [e, Nat.zero_div] at h2; omega
  have ht : t < 512 := by have h4 := odd_len h2; have h5 := len_qq hqq; omega
  have hS := fun w => short_Y neg 0 q (rgt_of (by omega)) (by omega) hqq hq0 t h1 h2 h3 w
  have hqt : q / 2 ^ t < QQ := Nat.lt_of_le_of_lt (Nat.div_le_self _ _) hqq
  have hqz : q / 2 ^ t ≠ 0 := fun e => by rw [e] at h2; omega
  have hq := fun w => wide_eqz hqt w
  rw [decide_eq_false hqz] at hq
  exact digits_Y p m z _ _ neg more _ s q _ hI hRI hC (fun w => odd_Y neg _ _ q _ hS hq (by unfold Hid; rw [IntKind.wrap_i64]; omega) w) w

/-- A number without noughts behind it has no more digits than it was cut to. -/
theorem odd_cut {s : Nat} {p : Int} {m : Int} {more neg : Bool} (hp : 1 ≤ p) (h0 : s ≠ 0) (t : Nat)
    (h1 : cutN s (Go.bitLen s - p.toNat) m more neg / 2 ^ t * 2 ^ t = cutN s (Go.bitLen s - p.toNat) m more neg) (h2 : cutN s (Go.bitLen s - p.toNat) m more neg / 2 ^ t % 2 = 1) (h3 : ∀ n, n < t → cutN s (Go.bitLen s - p.toNat) m more neg / 2 ^ n % 2 = 0)
    (hm : more = true → p < (Go.bitLen s : Int)) : (Go.bitLen (cutN s (Go.bitLen s - p.toNat) m more neg / 2 ^ t) : Int) ≤ p := by
  rcases Nat.lt_or_ge p.toNat (Go.bitLen s) with hk | hk
  · rcases cut_len (m := m) (more := more) (neg := neg) hk (by omega) with ⟨h4, _⟩ | h4
    · generalize cutN s (Go.bitLen s - p.toNat) m more neg = q at *
      have h5 : Go.bitLen (q / 2 ^ t) ≤ Go.bitLen q := (len_le _ _).2 (Nat.lt_of_le_of_lt (Nat.div_le_self _ _) (len_lt q))
      omega
    · rw [h4] at h1 h2 h3 ⊢
      rcases Nat.lt_trichotomy t p.toNat with h5 | h5 | h5
      · rw [Nat.pow_div (by omega) (by decide), show p.toNat - t = (p.toNat - t - 1) + 1 by omega, Nat.pow_succ] at h2
        omega
      · rw [h5, Nat.div_self (Nat.two_pow_pos _), show Go.bitLen 1 = 1 from by decide +kernel]
        omega
      · have h6 := h3 _ h5
        rw [Nat.div_self (Nat.two_pow_pos _)] at h6
        omega
  · have hmf : more = false := by
      cases more
      · rfl
      · have := hm rfl; omega
    subst hmf
    rw [show Go.bitLen s - p.toNat = 0 by omega, cutN_0]
    have h5 : Go.bitLen (s / 2 ^ t) ≤ Go.bitLen s := (len_le _ _).2 (Nat.lt_of_le_of_lt (Nat.div_le_self _ _) (len_lt s))
    omega

/-- The document's number at the last place is the one that was cut. -/
theorem at_cut {s : Nat} {p z m : Int} {more neg : Bool} (h0 : s ≠ 0) (hp : 1 ≤ p) (hm : more = true → p < (Go.bitLen s : Int)) :
    ∃ j : Nat, atN s more z (z + (Go.bitLen s : Int) - 1 - p + 1) m neg = cutN s (Go.bitLen s - p.toNat) m more neg * 2 ^ j ∧ z + ((Go.bitLen s - p.toNat : Nat) : Int) - (z + (Go.bitLen s : Int) - 1 - p + 1) = (j : Int) ∧ ((z + (Go.bitLen s : Int) - 1 - p + 1) - z).toNat = Go.bitLen s - p.toNat ∧
      s * 2 ^ (z - (z + (Go.bitLen s : Int) - 1 - p + 1)).toNat / 2 ^ ((z + (Go.bitLen s : Int) - 1 - p + 1) - z).toNat < 2 ^ p.toNat ∧ (more = true → z < z + (Go.bitLen s : Int) - 1 - p + 1) := by
  have h1 := len_pos h0
  have h2 := len_lt s
  rcases Nat.lt_or_ge p.toNat (Go.bitLen s) with hk | hk
  · have e1 : ((z + (Go.bitLen s : Int) - 1 - p + 1) - z).toNat = Go.bitLen s - p.toNat := by omega
    refine ⟨0, ?_, by omega, e1, ?_, fun h => by have := hm h; omega⟩
    · rw [atN_cut _ _ _ _ _ _ (by omega), e1, Nat.pow_zero, Nat.mul_one]
    · rw [e1, show (z - (z + (Go.bitLen s : Int) - 1 - p + 1)).toNat = 0 by omega, Nat.pow_zero, Nat.mul_one, Nat.div_lt_iff_lt_mul (Nat.two_pow_pos _), ← Nat.pow_add, show p.toNat + (Go.bitLen s - p.toNat) = Go.bitLen s by omega]
      exact h2
  · have hmf : more = false := by
      cases more
      · rfl
      · have := hm rfl; omega
    subst hmf
    have e1 : ((z + (Go.bitLen s : Int) - 1 - p + 1) - z).toNat = Go.bitLen s - p.toNat := by omega
    refine ⟨p.toNat - Go.bitLen s, ?_, by omega, e1, ?_, fun h => by cases h⟩
    · rw [atN_up _ _ _ _ _ (by omega), show Go.bitLen s - p.toNat = 0 by omega, cutN_0]
      congr 2
      omega
    · rw [show ((z + (Go.bitLen s : Int) - 1 - p + 1) - z).toNat = 0 by omega, Nat.pow_zero, Nat.div_one, show (z - (z + (Go.bitLen s : Int) - 1 - p + 1)).toNat = p.toNat - Go.bitLen s by omega]
      have e3 : 2 ^ p.toNat = 2 ^ Go.bitLen s * 2 ^ (p.toNat - Go.bitLen s) := by rw [← Nat.pow_add]; congr 1; omega
      rw [e3]
      exact Nat.mul_lt_mul_of_pos_right h2 (Nat.two_pow_pos _)

theorem atN_len {s : Nat} {z P m : Int} {more neg : Bool} {M : Nat} (hM : M ≤ 600) (hD : s * 2 ^ (z - P).toNat / 2 ^ (P - z).toNat < 2 ^ M) : Go.bitLen (atN s more z P m neg) ≤ M + 1 := by
  refine (len_le _ _).2 ?_
  unfold atN
  have h1 := Nat.two_pow_pos M
  rw [Nat.pow_succ]
  generalize s * 2 ^ (z - P).toNat / 2 ^ (P - z).toNat = d at *
  have h2 := Bool.toNat_le (growN m neg (d % 2 == 1) ((restN s (P - z).toNat more : Nat) : Int))
  omega

theorem packDigits_num (p m : Int) (neg : Bool) (z : Int) (s : Nat) (more : Bool) (hs : s < QQ) (w : World) (hg : FmtG w) :
    Calls Tryd.prog 4 #[.agg #[.int .i64 p, .int .i64 m], .agg #[.bool (neg), .int .i64 (z), .int .u64 (dgl (s) 0 : Nat), .int .u64 (dgl (s) 1 : Nat), .int .u64 (dgl (s) 2 : Nat), .int .u64 (dgl (s) 3 : Nat), .int .u64 (dgl (s) 4 : Nat), .int .u64 (dgl (s) 5 : Nat), .int .u64 (dgl (s) 6 : Nat), .int .u64 (dgl (s) 7 : Nat)], .bool more] w fun e w' => e = .returned (.bool true) ∧ Below w.heap.size w w' := by
  have hRI := fun w => pright_any p z neg more s hs w
  have hLR := fun w => lright_any p z neg more s hs w
  have hIS := fun w => refIs8_any m w
  have hI := fun w => modeIs_any m w
  have hq0 := zero_eq false
  have hz0 := zero_num false
  by_cases hm : isM m = true
  · rw [hm] at hIS
    by_cases hR : rightB p z s more = true
    · rw [hR] at hRI hLR
      obtain ⟨hp1, hp2, hr, hl, hmo⟩ := right_parts hR
      have hz := rgt_bd hr
      by_cases h0 : s = 0
      · subst h0
        have hb : Go.bitLen 0 = 0 := by decide +kernel
        have hmf : more = false := by
          cases more
          · rfl
          · have := hmo rfl; omega
        subst hmf
        exact packDigits_Z p m z 0 0 0 neg false neg false true 0 0 0 0 (fun w => digits_zero p m neg z hm hR w) hRI hLR hIS (zero_eq neg) hs (by rw [hb]) w hg hg.lt
      · have hln := len_pos h0
        obtain ⟨t, h1, h2, h3⟩ := odd_part (cutN s (Go.bitLen s - p.toNat) m more neg) (by
          intro e
          rcases Nat.lt_or_ge p.toNat (Go.bitLen s) with hk | hk
          · rcases cut_len (m := m) (more := more) (neg := neg) hk (by omega) with ⟨h4, _⟩ | h4
            · rw [e] at h4
              have hb : Go.bitLen 0 = 0 := by decide +kernel
              omega
            · rw [e] at h4
              have := Nat.two_pow_pos p.toNat
              omega
          · have hb := (cutN_bd s (Go.bitLen s - p.toNat) m more neg).1
            rw [show Go.bitLen s - p.toNat = 0 by omega, Nat.pow_zero, Nat.div_one] at hb
            rw [show Go.bitLen s - p.toNat = 0 by omega] at e
            omega)
        have hD := fun w => digits_some p m neg z s more hs h0 hm hR t h1 h2 h3 w
        have hO := odd_cut hp1 h0 t h1 h2 h3 hmo
        obtain ⟨j, j1, j2, j3, j4, j5⟩ := at_cut (z := z) (m := m) (neg := neg) h0 hp1 hmo
        have hqq : cutN s (Go.bitLen s - p.toNat) m more neg < QQ := cutN_qq hl
        have hT := fun u w hu => rtopA_any neg s more z h0 (by omega) (by omega) u w hu
        have hA := fun u w hu => ratA_any neg s more z (z + (Go.bitLen s : Int) - 1 - p + 1) m p.toNat (by omega) (by omega) (by omega) (by omega) j5 j4 u w hu
        have hAl := atN_len (more := more) (m := m) (neg := neg) (show p.toNat ≤ 600 by omega) j4
        rw [j3, show ((p.toNat : Nat) : Int) = p by omega] at hA
        have hot := odd_len h2
        have hql := len_qq hqq
        generalize cutN s (Go.bitLen s - p.toNat) m more neg = q at *
        have hqt : q / 2 ^ t < QQ := Nat.lt_of_le_of_lt (Nat.div_le_self _ _) hqq
        have hgl := len_qq hqt
        refine packDigits_Y p m z (0 + (t : Int) + (z + ((Go.bitLen s - p.toNat : Nat) : Int))) (z + (Go.bitLen s : Int) - 1) (exR z more) neg more false (!decide (restN s (Go.bitLen s - p.toNat) more = 0)) false s (q / 2 ^ t) (nmR s more) (atN s more z (z + (Go.bitLen s : Int) - 1 - p + 1) m neg)
          hD hRI hLR hIS hs (by omega) (fun w => rofA_any neg more z s hs (by omega) w) hT (by rw [IntKind.wrap_i64]; omega) (by rw [IntKind.wrap_i64]; omega) hA hqt ?_ hO ?_ w hg hg.lt
        · rw [dgl0, Int.tmod_eq_emod_of_nonneg (by omega)]
          omega
        · intro u v w hu hv
          have hS := refSizeG neg false (q / 2 ^ t) (atN s more z (z + (Go.bitLen s : Int) - 1 - p + 1) m neg) 800 (0 + (t : Int) + (z + ((Go.bitLen s - p.toNat : Nat) : Int))) (z + (Go.bitLen s : Int) - 1 - p + 1) u v w (hu.mono (by decide)) hv (by omega) (by omega) (by omega) (by omega) (by omega)
          have e := (sizeZ_spec (q / 2 ^ t) (atN s more z (z + (Go.bitLen s : Int) - 1 - p + 1) m neg) (0 + (t : Int) + (z + ((Go.bitLen s - p.toNat : Nat) : Int))) (z + (Go.bitLen s : Int) - 1 - p + 1) (z + (Go.bitLen s : Int) - 1 - p + 1) (by omega) (Int.le_refl _)).2.2 (by
            unfold vl
            rw [j1, show (0 + (t : Int) + (z + ((Go.bitLen s - p.toNat : Nat) : Int)) - (z + (Go.bitLen s : Int) - 1 - p + 1)).toNat = t + j by omega, Nat.pow_add, ← Nat.mul_assoc, h1, Int.sub_self, show (0 : Int).toNat = 0 from rfl, Nat.pow_zero, Nat.mul_one])
          rw [e] at hS
          exact hS
    · have hR2 : rightB p z s more = false := by simpa using hR
      rw [hR2] at hRI hLR
      rw [hm] at hI
      refine packDigits_C p m z 0 0 0 neg more false false false s 0 0 0 (fun w => ?_) hRI hLR hIS hq0 w hg hg.lt
      rw [hz0]
      exact digits_R p m z 0 0 neg more false s 0 0 hI hRI w
  · have hm2 : isM m = false := by simpa using hm
    rw [hm2] at hIS hI
    refine packDigits_B p m z 0 0 0 neg more false false (rightB p z s more) s 0 0 0 (fun w => ?_) hRI hLR hIS hq0 w hg hg.lt
    rw [hz0]
    exact digits_M p m z 0 0 neg more false s 0 0 hI w

end Go.Proofs.YtpcjdllijkjdkaaDoor

/- PackDigits: for every number of digits, mode and number the law returns true. Conditions: those of the tied card (the table of formats is laid as the program lays it). -/
namespace Go.Proofs.YtpcjdllijkjdkaaDoor.packDigits
open Go.ChangeShapes Go.WideShapes Go.ChangeAt Go.RowKit Go.Proofs.YtpcjdllijkjdkaaDoor

theorem own : ownKnob Tryd.prog.godebug = none := by kernel_rfl
theorem laidOut : laidOutB Tryd.prog = true := by kernel_rfl

theorem door_met (os : Os) (args : Array Value) : laidMetH Tryd.prog [("radicand/format.formats", Rows.laid_radicand_format_formats)] ((World.doorLaid Tryd.prog 400 os).forCall (fun _ _ => 0) ⟨#[], args, []⟩).memory :=
  laidMetH_of_parts3 (fuel := 8) (laidMet_of_run' 8 (by kernel_rfl) (by kernel_rfl)) (by kernel_rfl) (by kernel_rfl)

set_option maxRecDepth 100000 in
theorem lifted (os : Os) (started : os.Started) (H : Type) (enc : TypeId × Value → H) :
    ReturnsInHanded {} Tryd.checked os 4 .any (fun w args => (Rows.packDigitsSpec.pre enc Tryd.prog Tryd.f4 [] false w args ∧ laidMetH Tryd.prog [("radicand/format.formats", Rows.laid_radicand_format_formats)] w) ∧ sizedMet enc Tryd.prog Tryd.f4 (OpenSpec.ofChange Rows.packDigitsSpec) false w args) (Rows.packDigitsSpec.post enc Tryd.prog Tryd.f4 false true false false) := by
  refine returnsInHanded_of_change_and (C := Tryd.checked) (X := fun w _ => laidMetH Tryd.prog [("radicand/format.formats", Rows.laid_radicand_format_formats)] w) (fun _ _ _ hh h => h.of_heap hh) own started (by kernel_rfl) Tryd.func4
    (ChangeSpec.witness_shaped (enc := enc) (C := Tryd.checked) (os := os) (X := fun w _ => laidMetH Tryd.prog [("radicand/format.formats", Rows.laid_radicand_format_formats)] w) false (World.doorLaid Tryd.prog 400 os) #[.agg #[.int .i64 0, .int .i64 0], .agg #[.bool false, .int .i64 0, .int .u64 0, .int .u64 0, .int .u64 0, .int .u64 0, .int .u64 0, .int .u64 0, .int .u64 0, .int .u64 0], .bool false] 40 rfl (World.shaped_of_RefB (by kernel_rfl) (by kernel_rfl)) (by kernel_rfl) (by kernel_rfl) (by kernel_rfl) (door_met os _)) ?_
  intro W base args ds gs before hval0 hW _ _ hL _
  have hval : ∀ (j : Nat) t v, Tryd.f4.params[j]? = some t → args[j]? = some v → Value.okWide Tryd.prog W .any base t v := hval0
  have hW' := hW
  obtain ⟨p, q, hA0, hV, rfl, hfz, hnd⟩ := hW
  have hA : DataW.TrodAll enc Tryd.prog W 0 (fun _ => true) true Tryd.f4.params.toList args.toList ds p := hA0
  rw [Tryd.params4] at hA hval
  obtain ⟨v0, vs0, d0, ds0, p0, q0, hargs, rfl, rfl, h0, r0⟩ := trodAll_cons hA
  obtain ⟨v1, vs1, d1, ds1, p1, q1, rfl, rfl, rfl, h1, r1⟩ := trodAll_cons r0
  obtain ⟨v2, vs2, d2, ds2, p2, q2, rfl, rfl, rfl, h2, r2⟩ := trodAll_cons r1
  obtain ⟨rfl, rfl, rfl⟩ := trodAll_nil r2
  obtain rfl : args = #[v0, v1, v2] := by cases args; simp_all
  obtain ⟨rfl, rfl⟩ := trodVars_none hV
  have k0 := h0
  have lt0 : ∀ x ∈ p0, x.block < W.heap.size := by obtain ⟨m, hm⟩ := k0; exact DataW.trod_lt m _ _ _ hm
  have k1 := h1
  have lt1 : ∀ x ∈ p1, x.block < W.heap.size := by obtain ⟨m, hm⟩ := k1; exact DataW.trod_lt m _ _ _ hm
  have k2 := h2
  have lt2 : ∀ x ∈ p2, x.block < W.heap.size := by obtain ⟨m, hm⟩ := k2; exact DataW.trod_lt m _ _ _ hm
  obtain ⟨q00, q01, ⟨bq00, bq01⟩, rfl⟩ := ints2_open (hval 0 35 v0 rfl rfl) h0
  obtain ⟨n1, z1, b1, hb1, rfl⟩ := number_open (hval 1 26 v1 rfl rfl) h1
  obtain ⟨b2, rfl, rfl, rfl⟩ := open_bool Tryd.underlying4 (hval 2 4 v2 rfl rfl) h2
  clear hA0 hval0
  have hg := of_laid1 hL
  refine (packDigits_num q00 q01 n1 z1 b1 b2 hb1.2 W hg).mono fun e W' ⟨he, bel⟩ => ?_
  subst he
  exact ⟨_, rfl, _, _, _, [], _, [], hW', trodAll_mk1 (shut_bool Tryd.underlying4 _), (trodAll_cons_mk (Below.trod laidOut (by kernel_rfl) (of_decide_eq_true (by kernel_rfl)) k0 bel lt0) (trodAll_cons_mk (Below.trod laidOut (by kernel_rfl) (of_decide_eq_true (by kernel_rfl)) k1 bel lt1) (trodAll_cons_mk (Below.trod laidOut (by kernel_rfl) (of_decide_eq_true (by kernel_rfl)) k2 bel lt2) trodAll_mk0))), rfl, bel.frame _, fun h => by cases h⟩

theorem over : Rows.packDigitsRow.holds Tryd.pinned (OpenSpec.ofChange Rows.packDigitsSpec) :=
  OpenClaim.holds_of_wide 4 Tryd.f4 rfl rfl rfl rfl rfl rfl rfl ⟨rfl, rfl, rfl, rfl, rfl⟩ rfl rfl rfl rfl rfl (by kernel_rfl) Tryd.func4 (by kernel_rfl)
    (of_decide_eq_true (by kernel_rfl)) (by unfold Func.isWrapper; first | (rw [if_pos (by decide +kernel)]; kernel_rfl) | (rw [if_neg (by decide +kernel)]; exact ⟨rfl, rfl⟩))
    (fun os started H enc _ => lifted os started H enc)

theorem proved : Rows.PackDigitsCardSaid :=
  Claim7.holds_tied_plain_at .later [] [.data] true (true, "bda7307485677e703060dea11d85374f6d1941a46d5c51f47956e134a69fc123") false
    over (fun _ h => by cases h) (by kernel_rfl) (fun _ h => by cases h) packDigits_row_tie rfl ⟨rfl, rfl⟩ (by kernel_rfl) rfl
    (fun f fn hf hfn => by
      obtain rfl : f = 4 := Option.some.inj ((show Tryd.prog.funcNamed "radicand/radicandlaw09.PackDigits" = some 4 by kernel_rfl).symm.trans hf) |>.symm
      obtain rfl : fn = Tryd.f4 := (Option.some.inj (Tryd.func4.symm.trans hfn)).symm
      exact ⟨by kernel_rfl, fun j t ht => by
        rw [Tryd.params4] at ht
        rcases j with _ | j
        · obtain rfl : t = 35 := by simpa using ht.symm
          exact (show Tryd.prog.wantsStandIn 35 = false by kernel_rfl)
        rcases j with _ | j
        · obtain rfl : t = 26 := by simpa using ht.symm
          exact (show Tryd.prog.wantsStandIn 26 = false by kernel_rfl)
        rcases j with _ | j
        · obtain rfl : t = 4 := by simpa using ht.symm
          exact (show Tryd.prog.wantsStandIn 4 = false by kernel_rfl)
        simp at ht⟩)
    (by kernel_rfl)
#print axioms proved
end Go.Proofs.YtpcjdllijkjdkaaDoor.packDigits

