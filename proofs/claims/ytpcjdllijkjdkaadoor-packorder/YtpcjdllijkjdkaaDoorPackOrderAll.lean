/- PackOrder: for every format, mode and two numbers the law returns true. Conditions: those of the tied card (the table of formats is laid as the program lays it). -/
import Derived.Test.YtpcjdllijkjdkaaDoorPartBB
import Derived.Test.YtpcjdllijkjdkaaDoorPartBC
import Derived.Test.YtpcjdllijkjdkaaDoorRows
import Derived.Test.YtpcjdllijkjdkaaDoorTie
import Derived.Test.YtpcjdllijkjdkaaDoorCards
import Derived.LaidMore
import Derived.Stop.Joined
import Derived.SevenTiedAt
import Derived.Test.YtpcjdllijkjdkaaDoorPartAC
import Derived.Test.YtpcjdllijkjdkaaDoorPartAO
import Derived.WalkKit
import Derived.ProofKit
import Derived.OpenShut
import Derived.ShutString
import Derived.ChangeOld
import Derived.Below
/- The walk of PackOrder. -/
set_option linter.unusedVariables false
set_option linter.unusedSimpArgs false
set_option maxRecDepth 8000
namespace Go.Proofs.YtpcjdllijkjdkaaDoor
open Go.RowKit Plain

structure PkSt (f m : Int) (n1 : Bool) (e1 : Int) (s1 : Nat) (n2 : Bool) (e2 : Int) (s2 : Nat) (w W : World) : Prop where
  g : FmtG W
  gl : 1 < w.heap.size
  q0 : W.cell? ⟨w.heap.size, 0, none⟩ = some (.int .i64 f)
  q1 : W.cell? ⟨w.heap.size, 1, none⟩ = some (.int .i64 m)
  na : NB W (w.heap.size + 1) (n1) (e1) (s1)
  nb : NB W (w.heap.size + 2) (n2) (e2) (s2)
  fa : ∀ i, W.frozen? ⟨w.heap.size + 1, i, none⟩ = false
  fb : ∀ i, W.frozen? ⟨w.heap.size + 2, i, none⟩ = false
  lt : w.heap.size + 2 < W.heap.size
  bel : Below w.heap.size w W
theorem PkSt.under {f m : Int} {n1 : Bool} {e1 : Int} {s1 : Nat} {n2 : Bool} {e2 : Int} {s2 : Nat} {w W W' : World} (h : PkSt f m n1 e1 s1 n2 e2 s2 w W) {C : Nat} (hb : Below C W W') (hc : w.heap.size + 2 < C) : PkSt f m n1 e1 s1 n2 e2 s2 w W' :=
  ⟨⟨fun i hi => (hb.cell (p := ⟨1, i, none⟩) (show 1 < C by have := h.gl; omega)).trans (h.g.c i hi), Nat.lt_of_lt_of_le h.g.lt hb.size⟩, h.gl, (hb.cell (p := ⟨w.heap.size, 0, none⟩) (show w.heap.size < C by omega)).trans h.q0, (hb.cell (p := ⟨w.heap.size, 1, none⟩) (show w.heap.size < C by omega)).trans h.q1, h.na.under hb (show w.heap.size + 1 < C by omega), h.nb.under hb (show w.heap.size + 2 < C by omega), fun i => (hb.frozen (p := ⟨w.heap.size + 1, i, none⟩) (show w.heap.size + 1 < C by omega)).trans (h.fa i), fun i => (hb.frozen (p := ⟨w.heap.size + 2, i, none⟩) (show w.heap.size + 2 < C by omega)).trans (h.fb i), Nat.lt_of_lt_of_le h.lt hb.size, h.bel.trans (hb.mono (by omega))⟩
theorem PkSt.below {f m : Int} {n1 : Bool} {e1 : Int} {s1 : Nat} {n2 : Bool} {e2 : Int} {s2 : Nat} {w W W' : World} (h : PkSt f m n1 e1 s1 n2 e2 s2 w W) (hb : Below W.heap.size W W') : PkSt f m n1 e1 s1 n2 e2 s2 w W' := h.under hb h.lt
theorem pkSt_start (f m : Int) (n1 : Bool) (e1 : Int) (s1 : Nat) (n2 : Bool) (e2 : Int) (s2 : Nat) (w : World) (hg : FmtG w) (t : TypeId) : PkSt f m n1 e1 s1 n2 e2 s2 w (((w.alloc (.cells #[.int .i64 f, .int .i64 m] t)).alloc (.cells #[.bool (n1), .int .i64 (e1), .int .u64 (dgl (s1) 0 : Nat), .int .u64 (dgl (s1) 1 : Nat), .int .u64 (dgl (s1) 2 : Nat), .int .u64 (dgl (s1) 3 : Nat), .int .u64 (dgl (s1) 4 : Nat), .int .u64 (dgl (s1) 5 : Nat), .int .u64 (dgl (s1) 6 : Nat), .int .u64 (dgl (s1) 7 : Nat)] 26)).alloc (.cells #[.bool (n2), .int .i64 (e2), .int .u64 (dgl (s2) 0 : Nat), .int .u64 (dgl (s2) 1 : Nat), .int .u64 (dgl (s2) 2 : Nat), .int .u64 (dgl (s2) 3 : Nat), .int .u64 (dgl (s2) 4 : Nat), .int .u64 (dgl (s2) 5 : Nat), .int .u64 (dgl (s2) 6 : Nat), .int .u64 (dgl (s2) 7 : Nat)] 26)) := by
  have h1 := nb_new (w.alloc (.cells #[.int .i64 f, .int .i64 m] t)) n1 e1 s1 26
  have h2 := nb_new ((w.alloc (.cells #[.int .i64 f, .int .i64 m] t)).alloc (.cells #[.bool (n1), .int .i64 (e1), .int .u64 (dgl (s1) 0 : Nat), .int .u64 (dgl (s1) 1 : Nat), .int .u64 (dgl (s1) 2 : Nat), .int .u64 (dgl (s1) 3 : Nat), .int .u64 (dgl (s1) 4 : Nat), .int .u64 (dgl (s1) 5 : Nat), .int .u64 (dgl (s1) 6 : Nat), .int .u64 (dgl (s1) 7 : Nat)] 26)) n2 e2 s2 26
  rw [World.size_alloc, World.size_alloc] at h2
  rw [World.size_alloc] at h1
  exact ⟨((hg.below (below_allocs _ _)).below (below_allocs _ _)).below (below_allocs _ _), hg.lt, by simp [go_sem], by simp [go_sem], h1.below (below_allocs _ _), h2, fun i => by simp [go_sem], fun i => by simp [go_sem], by simp, below_trans (below_trans (below_allocs _ _) (below_allocs _ _)) (below_allocs _ _)⟩
set_option maxHeartbeats 2000000 in
theorem pk_swap {f m : Int} {n1 : Bool} {e1 : Int} {s1 : Nat} {n2 : Bool} {e2 : Int} {s2 : Nat} {w W : World} (h : PkSt f m n1 e1 s1 n2 e2 s2 w W) : PkSt f m n2 e2 s2 n1 e1 s1 w (((((((((((((((((((((W.setCell ⟨w.heap.size + 1, 0, none⟩ (.bool (n2))).setCell ⟨w.heap.size + 1, 1, none⟩ (.int .i64 (e2))).setCell ⟨w.heap.size + 1, 2, none⟩ (.int .u64 (dgl (s2) 0 : Nat))).setCell ⟨w.heap.size + 1, 3, none⟩ (.int .u64 (dgl (s2) 1 : Nat))).setCell ⟨w.heap.size + 1, 4, none⟩ (.int .u64 (dgl (s2) 2 : Nat))).setCell ⟨w.heap.size + 1, 5, none⟩ (.int .u64 (dgl (s2) 3 : Nat))).setCell ⟨w.heap.size + 1, 6, none⟩ (.int .u64 (dgl (s2) 4 : Nat))).setCell ⟨w.heap.size + 1, 7, none⟩ (.int .u64 (dgl (s2) 5 : Nat))).setCell ⟨w.heap.size + 1, 8, none⟩ (.int .u64 (dgl (s2) 6 : Nat))).setCell ⟨w.heap.size + 1, 9, none⟩ (.int .u64 (dgl (s2) 7 : Nat))).setCell ⟨w.heap.size + 2, 0, none⟩ (.bool (n1))).setCell ⟨w.heap.size + 2, 1, none⟩ (.int .i64 (e1))).setCell ⟨w.heap.size + 2, 2, none⟩ (.int .u64 (dgl (s1) 0 : Nat))).setCell ⟨w.heap.size + 2, 3, none⟩ (.int .u64 (dgl (s1) 1 : Nat))).setCell ⟨w.heap.size + 2, 4, none⟩ (.int .u64 (dgl (s1) 2 : Nat))).setCell ⟨w.heap.size + 2, 5, none⟩ (.int .u64 (dgl (s1) 3 : Nat))).setCell ⟨w.heap.size + 2, 6, none⟩ (.int .u64 (dgl (s1) 4 : Nat))).setCell ⟨w.heap.size + 2, 7, none⟩ (.int .u64 (dgl (s1) 5 : Nat))).setCell ⟨w.heap.size + 2, 8, none⟩ (.int .u64 (dgl (s1) 6 : Nat))).setCell ⟨w.heap.size + 2, 9, none⟩ (.int .u64 (dgl (s1) 7 : Nat)))) := by
  have hb : Below w.heap.size W (((((((((((((((((((((W.setCell ⟨w.heap.size + 1, 0, none⟩ (.bool (n2))).setCell ⟨w.heap.size + 1, 1, none⟩ (.int .i64 (e2))).setCell ⟨w.heap.size + 1, 2, none⟩ (.int .u64 (dgl (s2) 0 : Nat))).setCell ⟨w.heap.size + 1, 3, none⟩ (.int .u64 (dgl (s2) 1 : Nat))).setCell ⟨w.heap.size + 1, 4, none⟩ (.int .u64 (dgl (s2) 2 : Nat))).setCell ⟨w.heap.size + 1, 5, none⟩ (.int .u64 (dgl (s2) 3 : Nat))).setCell ⟨w.heap.size + 1, 6, none⟩ (.int .u64 (dgl (s2) 4 : Nat))).setCell ⟨w.heap.size + 1, 7, none⟩ (.int .u64 (dgl (s2) 5 : Nat))).setCell ⟨w.heap.size + 1, 8, none⟩ (.int .u64 (dgl (s2) 6 : Nat))).setCell ⟨w.heap.size + 1, 9, none⟩ (.int .u64 (dgl (s2) 7 : Nat))).setCell ⟨w.heap.size + 2, 0, none⟩ (.bool (n1))).setCell ⟨w.heap.size + 2, 1, none⟩ (.int .i64 (e1))).setCell ⟨w.heap.size + 2, 2, none⟩ (.int .u64 (dgl (s1) 0 : Nat))).setCell ⟨w.heap.size + 2, 3, none⟩ (.int .u64 (dgl (s1) 1 : Nat))).setCell ⟨w.heap.size + 2, 4, none⟩ (.int .u64 (dgl (s1) 2 : Nat))).setCell ⟨w.heap.size + 2, 5, none⟩ (.int .u64 (dgl (s1) 3 : Nat))).setCell ⟨w.heap.size + 2, 6, none⟩ (.int .u64 (dgl (s1) 4 : Nat))).setCell ⟨w.heap.size + 2, 7, none⟩ (.int .u64 (dgl (s1) 5 : Nat))).setCell ⟨w.heap.size + 2, 8, none⟩ (.int .u64 (dgl (s1) 6 : Nat))).setCell ⟨w.heap.size + 2, 9, none⟩ (.int .u64 (dgl (s1) 7 : Nat)))) := (((((((((((((((((((((Below.refl w.heap.size W).setCell (p := ⟨w.heap.size + 1, 0, none⟩) (Nat.le_add_right _ _) _).setCell (p := ⟨w.heap.size + 1, 1, none⟩) (Nat.le_add_right _ _) _).setCell (p := ⟨w.heap.size + 1, 2, none⟩) (Nat.le_add_right _ _) _).setCell (p := ⟨w.heap.size + 1, 3, none⟩) (Nat.le_add_right _ _) _).setCell (p := ⟨w.heap.size + 1, 4, none⟩) (Nat.le_add_right _ _) _).setCell (p := ⟨w.heap.size + 1, 5, none⟩) (Nat.le_add_right _ _) _).setCell (p := ⟨w.heap.size + 1, 6, none⟩) (Nat.le_add_right _ _) _).setCell (p := ⟨w.heap.size + 1, 7, none⟩) (Nat.le_add_right _ _) _).setCell (p := ⟨w.heap.size + 1, 8, none⟩) (Nat.le_add_right _ _) _).setCell (p := ⟨w.heap.size + 1, 9, none⟩) (Nat.le_add_right _ _) _).setCell (p := ⟨w.heap.size + 2, 0, none⟩) (Nat.le_add_right _ _) _).setCell (p := ⟨w.heap.size + 2, 1, none⟩) (Nat.le_add_right _ _) _).setCell (p := ⟨w.heap.size + 2, 2, none⟩) (Nat.le_add_right _ _) _).setCell (p := ⟨w.heap.size + 2, 3, none⟩) (Nat.le_add_right _ _) _).setCell (p := ⟨w.heap.size + 2, 4, none⟩) (Nat.le_add_right _ _) _).setCell (p := ⟨w.heap.size + 2, 5, none⟩) (Nat.le_add_right _ _) _).setCell (p := ⟨w.heap.size + 2, 6, none⟩) (Nat.le_add_right _ _) _).setCell (p := ⟨w.heap.size + 2, 7, none⟩) (Nat.le_add_right _ _) _).setCell (p := ⟨w.heap.size + 2, 8, none⟩) (Nat.le_add_right _ _) _).setCell (p := ⟨w.heap.size + 2, 9, none⟩) (Nat.le_add_right _ _) _)
  have h0 := h.q0
  have h1 := h.q1
  have hl := h.lt
  have a_n := h.na.n
  have a_e := h.na.e
  have a_0 := h.na.x0
  have a_1 := h.na.x1
  have a_2 := h.na.x2
  have a_3 := h.na.x3
  have a_4 := h.na.x4
  have a_5 := h.na.x5
  have a_6 := h.na.x6
  have a_7 := h.na.x7
  have b_n := h.nb.n
  have b_e := h.nb.e
  have b_0 := h.nb.x0
  have b_1 := h.nb.x1
  have b_2 := h.nb.x2
  have b_3 := h.nb.x3
  have b_4 := h.nb.x4
  have b_5 := h.nb.x5
  have b_6 := h.nb.x6
  have b_7 := h.nb.x7
  refine ⟨⟨fun i hi => (hb.cell (p := ⟨1, i, none⟩) h.gl).trans (h.g.c i hi), Nat.lt_of_lt_of_le h.g.lt hb.size⟩, h.gl, by simp [go_sem, h0], by simp [go_sem, h1], ⟨?_, ?_, ?_, ?_, ?_, ?_, ?_, ?_, ?_, ?_, ?_⟩, ⟨?_, ?_, ?_, ?_, ?_, ?_, ?_, ?_, ?_, ?_, ?_⟩, fun i => by simpa [go_sem] using h.fa i, fun i => by simpa [go_sem] using h.fb i, Nat.lt_of_lt_of_le hl hb.size, h.bel.trans hb⟩
  all_goals first | (simp [go_sem, hl, a_n, a_e, a_0, a_1, a_2, a_3, a_4, a_5, a_6, a_7, b_n, b_e, b_0, b_1, b_2, b_3, b_4, b_5, b_6, b_7]; done) | (simp [go_sem]; omega)

set_option maxHeartbeats 8000000 in
theorem packOrder_A (f m e1 e2 P c fa fb : Int) (n1 n2 : Bool) (s1 s2 a b : Nat) (u v : ByteArray)
    (HI5 : Hid (∀ w, Calls Tryd.prog 12 #[.int .i64 f] w fun e w' => e = .returned (.bool false) ∧ Below w.heap.size w w')) (w : World) (hg : FmtG w) :
    Calls Tryd.prog 7 #[.agg #[.int .i64 f, .int .i64 m], .agg #[.bool (n1), .int .i64 (e1), .int .u64 (dgl (s1) 0 : Nat), .int .u64 (dgl (s1) 1 : Nat), .int .u64 (dgl (s1) 2 : Nat), .int .u64 (dgl (s1) 3 : Nat), .int .u64 (dgl (s1) 4 : Nat), .int .u64 (dgl (s1) 5 : Nat), .int .u64 (dgl (s1) 6 : Nat), .int .u64 (dgl (s1) 7 : Nat)], .agg #[.bool (n2), .int .i64 (e2), .int .u64 (dgl (s2) 0 : Nat), .int .u64 (dgl (s2) 1 : Nat), .int .u64 (dgl (s2) 2 : Nat), .int .u64 (dgl (s2) 3 : Nat), .int .u64 (dgl (s2) 4 : Nat), .int .u64 (dgl (s2) 5 : Nat), .int .u64 (dgl (s2) 6 : Nat), .int .u64 (dgl (s2) 7 : Nat)]] w fun e w' => e = .returned (.bool true) ∧ Below w.heap.size w w' := by
  have HS := hide (pkSt_start f m n1 e1 s1 n2 e2 s2 w hg 35)
  clear hg
  go_enter Tryd.func7, Tryd.ntmps7
  go_upto_region 1 with fail
  refine wp_gen (fun W => PkSt f m n1 e1 s1 n2 e2 s2 w W) HS.out ?_
  clear HS
  rintro W1 h1
  refine wp_region_grow 6 [(15, .val (.pointer (some ⟨w.heap.size, 0, none⟩))), (16, .val (.int .i64 f)), (17, .val (.pointer (some ⟨w.heap.size, 1, none⟩))), (18, .val (.int .i64 m)), (7, .val (.int .i64 f)), (8, .val (.int .i64 m))]
    (fun W => PkSt f m n1 e1 s1 n2 e2 s2 w W) mixedOk (by kernel_rfl) (by kernel_rfl) (h1.below (Below.refl _ _).drew) (fun W W' h hb => h.below hb) ?_ ?_
  · refine gSt (gStep_run rfl ?_) ?_
    · intro ρ W hC hc hf hL
      have e3 : ρ (.tmp 3) = .pointer (some ⟨w.heap.size, 0, none⟩) := hL 3 (by decide +kernel)
      have hl : w.heap.size < W.heap.size := by have := hC.lt; omega
      simp [go_sem, hc, hf, e3, hl]
      exact ⟨Below.refl _ _, rfl⟩
    refine gSt (gStep_run rfl ?_) ?_
    · intro ρ W hC hc hf hL
      have e15 : ρ (.tmp 15) = .pointer (some ⟨w.heap.size, 0, none⟩) := hL 15 (by decide +kernel)
      have q := hC.q0
      simp [go_sem, hc, hf, e15, q]
      exact ⟨Below.refl _ _, rfl⟩
    refine gSt (gStep_run rfl ?_) ?_
    · intro ρ W hC hc hf hL
      have e3 : ρ (.tmp 3) = .pointer (some ⟨w.heap.size, 0, none⟩) := hL 3 (by decide +kernel)
      have hl : w.heap.size < W.heap.size := by have := hC.lt; omega
      simp [go_sem, hc, hf, e3, hl]
      exact ⟨Below.refl _ _, rfl⟩
    refine gSt (gStep_run rfl ?_) ?_
    · intro ρ W hC hc hf hL
      have e17 : ρ (.tmp 17) = .pointer (some ⟨w.heap.size, 1, none⟩) := hL 17 (by decide +kernel)
      have q := hC.q1
      simp [go_sem, hc, hf, e17, q]
      exact ⟨Below.refl _ _, rfl⟩
    refine gSt (gStep_run rfl (gRun_move 16 7 (.inr rfl) rfl (by decide +kernel) (fun v w h => h))) ?_
    refine gSt (gStep_run rfl (gRun_move 18 8 (.inr rfl) rfl (by decide +kernel) (fun v w h => h))) ?_
    exact gSt0
  · intro W hC
    refine gFi 15 rfl ?_
    rintro _ rfl
    refine gFi 16 rfl ?_
    rintro _ rfl
    refine gFi 17 rfl ?_
    rintro _ rfl
    refine gFi 18 rfl ?_
    rintro _ rfl
    refine gFi 7 rfl ?_
    rintro _ rfl
    refine gFi 8 rfl ?_
    rintro _ rfl
    refine gFi0 ?_
    simp only [List.drop_succ_cons, List.drop_zero, Act.put, List.setIfInBounds_toArray, List.set_cons_succ, List.set_cons_zero]
    have HS := hide hC
    clear hC h1
    go_upto_region 2 with fail
    refine wp_gen (fun W => PkSt f m n1 e1 s1 n2 e2 s2 w W) HS.out ?_
    clear HS
    rintro W2 h2
    refine wp_region_grow 22 [(19, .val (.int .i64 f)), (20, .val (.bool false)), (21, .val (.bool true)), (22, .val (.bool true)), (23, .val (undef)), (24, .val (undef)), (25, .val (undef)), (26, .val (.bool true)), (27, .val (.bool true)), (28, .val (undef)), (29, .val (undef)), (30, .val (undef)), (31, .val (undef)), (32, .val (undef)), (33, .val (.bool true)), (34, .val (.bool true)), (35, .val (undef)), (36, .val (undef)), (37, .val (undef)), (38, .val (undef)), (39, .val (undef)), (40, .val (.bool true))]
      (fun W => PkSt f m n1 e1 s1 n2 e2 s2 w W) mixedOk (by kernel_rfl) (by kernel_rfl) (h2.below (Below.refl _ _).drew) (fun W W' h hb => h.below hb) ?_ ?_
    · refine gSt (gStep_run rfl (gRun_move 7 19 (.inl rfl) rfl (by decide +kernel) (fun v w h => h))) ?_
      refine gSt (gStep_run rfl ?_) ?_
      · intro ρ W hC hc hf hL
        have e19 : ρ (.tmp 19) = .int .i64 f := hL 19 (by decide +kernel)
        simp [go_sem, hc, hf, e19]
        refine (HI5.out W).mono ?_
        rintro e w' ⟨rfl, hb⟩
        exact ⟨_, rfl, by first | exact hb | (subst hb; exact Below.refl _ _), rfl⟩
      refine gSt (gStep_run rfl ?_) ?_
      · intro ρ W hC hc hf hL
        have e20 : ρ (.tmp 20) = .bool false := hL 20 (by decide +kernel)
        simp [go_sem, hc, hf, e20]
        exact ⟨Below.refl _ _, rfl⟩
      refine gSt (gStep_run rfl (gRun_move 21 22 (.inl rfl) rfl (by decide +kernel) (fun v w h => h))) ?_
      refine gSt (gStep_off 3 22 false rfl rfl (by decide +kernel) (fun v w h => h) (fun w => rfl)) ?_
      refine gSt (gStep_off 3 22 false rfl rfl (by decide +kernel) (fun v w h => h) (fun w => rfl)) ?_
      refine gSt (gStep_off 3 22 false rfl rfl (by decide +kernel) (fun v w h => h) (fun w => rfl)) ?_
      refine gSt (gStep_run rfl (gRun_pickCT 22 26 _ _ rfl rfl (by decide +kernel) (fun v w h => h) (fun w => rfl))) ?_
      refine gSt (gStep_run rfl (gRun_move 26 27 (.inl rfl) rfl (by decide +kernel) (fun v w h => h))) ?_
      refine gSt (gStep_off 8 27 false rfl rfl (by decide +kernel) (fun v w h => h) (fun w => rfl)) ?_
      refine gSt (gStep_off 8 27 false rfl rfl (by decide +kernel) (fun v w h => h) (fun w => rfl)) ?_
      refine gSt (gStep_off 8 27 false rfl rfl (by decide +kernel) (fun v w h => h) (fun w => rfl)) ?_
      refine gSt (gStep_off 8 27 false rfl rfl (by decide +kernel) (fun v w h => h) (fun w => rfl)) ?_
      refine gSt (gStep_off 8 27 false rfl rfl (by decide +kernel) (fun v w h => h) (fun w => rfl)) ?_
      refine gSt (gStep_run rfl (gRun_pickCT 27 33 _ _ rfl rfl (by decide +kernel) (fun v w h => h) (fun w => rfl))) ?_
      refine gSt (gStep_run rfl (gRun_move 33 34 (.inl rfl) rfl (by decide +kernel) (fun v w h => h))) ?_
      refine gSt (gStep_off 15 34 false rfl rfl (by decide +kernel) (fun v w h => h) (fun w => rfl)) ?_
      refine gSt (gStep_off 15 34 false rfl rfl (by decide +kernel) (fun v w h => h) (fun w => rfl)) ?_
      refine gSt (gStep_off 15 34 false rfl rfl (by decide +kernel) (fun v w h => h) (fun w => rfl)) ?_
      refine gSt (gStep_off 15 34 false rfl rfl (by decide +kernel) (fun v w h => h) (fun w => rfl)) ?_
      refine gSt (gStep_off 15 34 false rfl rfl (by decide +kernel) (fun v w h => h) (fun w => rfl)) ?_
      refine gSt (gStep_run rfl (gRun_pickCT 34 40 _ _ rfl rfl (by decide +kernel) (fun v w h => h) (fun w => rfl))) ?_
      exact gSt0
    · intro W hC
      refine gFi 19 rfl ?_
      rintro _ rfl
      refine gFi 20 rfl ?_
      rintro _ rfl
      refine gFi 21 rfl ?_
      rintro _ rfl
      refine gFi 22 rfl ?_
      rintro _ rfl
      refine gFi 23 rfl ?_
      rintro _ rfl
      refine gFi 24 rfl ?_
      rintro _ rfl
      refine gFi 25 rfl ?_
      rintro _ rfl
      refine gFi 26 rfl ?_
      rintro _ rfl
      refine gFi 27 rfl ?_
      rintro _ rfl
      refine gFi 28 rfl ?_
      rintro _ rfl
      refine gFi 29 rfl ?_
      rintro _ rfl
      refine gFi 30 rfl ?_
      rintro _ rfl
      refine gFi 31 rfl ?_
      rintro _ rfl
      refine gFi 32 rfl ?_
      rintro _ rfl
      refine gFi 33 rfl ?_
      rintro _ rfl
      refine gFi 34 rfl ?_
      rintro _ rfl
      refine gFi 35 rfl ?_
      rintro _ rfl
      refine gFi 36 rfl ?_
      rintro _ rfl
      refine gFi 37 rfl ?_
      rintro _ rfl
      refine gFi 38 rfl ?_
      rintro _ rfl
      refine gFi 39 rfl ?_
      rintro _ rfl
      refine gFi 40 rfl ?_
      rintro _ rfl
      refine gFi0 ?_
      simp only [List.drop_succ_cons, List.drop_zero, Act.put, List.setIfInBounds_toArray, List.set_cons_succ, List.set_cons_zero]
      have HS := hide hC
      clear hC h2
      go_wp2_with fail
      refine (awake9_any _ HS.out.g).mono ?_
      rintro e w9 ⟨rfl, hb9⟩
      have HB := hide (below_trans HS.out.bel hb9)
      clear hb9 HS
      go_wp2
      go_ret
      exact ⟨rfl, HB.out⟩
      
    

set_option maxHeartbeats 8000000 in
theorem packOrder_B (f m e1 e2 P c fa fb : Int) (n1 n2 : Bool) (s1 s2 a b : Nat) (u v : ByteArray)
    (HI5 : Hid (∀ w, Calls Tryd.prog 12 #[.int .i64 f] w fun e w' => e = .returned (.bool true) ∧ Below w.heap.size w w'))
    (HI8 : Hid (∀ w, Calls Tryd.prog 20 #[.int .i64 m] w fun e w' => e = .returned (.bool false) ∧ Below w.heap.size w w')) (w : World) (hg : FmtG w) :
    Calls Tryd.prog 7 #[.agg #[.int .i64 f, .int .i64 m], .agg #[.bool (n1), .int .i64 (e1), .int .u64 (dgl (s1) 0 : Nat), .int .u64 (dgl (s1) 1 : Nat), .int .u64 (dgl (s1) 2 : Nat), .int .u64 (dgl (s1) 3 : Nat), .int .u64 (dgl (s1) 4 : Nat), .int .u64 (dgl (s1) 5 : Nat), .int .u64 (dgl (s1) 6 : Nat), .int .u64 (dgl (s1) 7 : Nat)], .agg #[.bool (n2), .int .i64 (e2), .int .u64 (dgl (s2) 0 : Nat), .int .u64 (dgl (s2) 1 : Nat), .int .u64 (dgl (s2) 2 : Nat), .int .u64 (dgl (s2) 3 : Nat), .int .u64 (dgl (s2) 4 : Nat), .int .u64 (dgl (s2) 5 : Nat), .int .u64 (dgl (s2) 6 : Nat), .int .u64 (dgl (s2) 7 : Nat)]] w fun e w' => e = .returned (.bool true) ∧ Below w.heap.size w w' := by
  have HS := hide (pkSt_start f m n1 e1 s1 n2 e2 s2 w hg 35)
  clear hg
  go_enter Tryd.func7, Tryd.ntmps7
  go_upto_region 1 with fail
  refine wp_gen (fun W => PkSt f m n1 e1 s1 n2 e2 s2 w W) HS.out ?_
  clear HS
  rintro W1 h1
  refine wp_region_grow 6 [(15, .val (.pointer (some ⟨w.heap.size, 0, none⟩))), (16, .val (.int .i64 f)), (17, .val (.pointer (some ⟨w.heap.size, 1, none⟩))), (18, .val (.int .i64 m)), (7, .val (.int .i64 f)), (8, .val (.int .i64 m))]
    (fun W => PkSt f m n1 e1 s1 n2 e2 s2 w W) mixedOk (by kernel_rfl) (by kernel_rfl) (h1.below (Below.refl _ _).drew) (fun W W' h hb => h.below hb) ?_ ?_
  · refine gSt (gStep_run rfl ?_) ?_
    · intro ρ W hC hc hf hL
      have e3 : ρ (.tmp 3) = .pointer (some ⟨w.heap.size, 0, none⟩) := hL 3 (by decide +kernel)
      have hl : w.heap.size < W.heap.size := by have := hC.lt; omega
      simp [go_sem, hc, hf, e3, hl]
      exact ⟨Below.refl _ _, rfl⟩
    refine gSt (gStep_run rfl ?_) ?_
    · intro ρ W hC hc hf hL
      have e15 : ρ (.tmp 15) = .pointer (some ⟨w.heap.size, 0, none⟩) := hL 15 (by decide +kernel)
      have q := hC.q0
      simp [go_sem, hc, hf, e15, q]
      exact ⟨Below.refl _ _, rfl⟩
    refine gSt (gStep_run rfl ?_) ?_
    · intro ρ W hC hc hf hL
      have e3 : ρ (.tmp 3) = .pointer (some ⟨w.heap.size, 0, none⟩) := hL 3 (by decide +kernel)
      have hl : w.heap.size < W.heap.size := by have := hC.lt; omega
      simp [go_sem, hc, hf, e3, hl]
      exact ⟨Below.refl _ _, rfl⟩
    refine gSt (gStep_run rfl ?_) ?_
    · intro ρ W hC hc hf hL
      have e17 : ρ (.tmp 17) = .pointer (some ⟨w.heap.size, 1, none⟩) := hL 17 (by decide +kernel)
      have q := hC.q1
      simp [go_sem, hc, hf, e17, q]
      exact ⟨Below.refl _ _, rfl⟩
    refine gSt (gStep_run rfl (gRun_move 16 7 (.inr rfl) rfl (by decide +kernel) (fun v w h => h))) ?_
    refine gSt (gStep_run rfl (gRun_move 18 8 (.inr rfl) rfl (by decide +kernel) (fun v w h => h))) ?_
    exact gSt0
  · intro W hC
    refine gFi 15 rfl ?_
    rintro _ rfl
    refine gFi 16 rfl ?_
    rintro _ rfl
    refine gFi 17 rfl ?_
    rintro _ rfl
    refine gFi 18 rfl ?_
    rintro _ rfl
    refine gFi 7 rfl ?_
    rintro _ rfl
    refine gFi 8 rfl ?_
    rintro _ rfl
    refine gFi0 ?_
    simp only [List.drop_succ_cons, List.drop_zero, Act.put, List.setIfInBounds_toArray, List.set_cons_succ, List.set_cons_zero]
    have HS := hide hC
    clear hC h1
    go_upto_region 2 with fail
    refine wp_gen (fun W => PkSt f m n1 e1 s1 n2 e2 s2 w W) HS.out ?_
    clear HS
    rintro W2 h2
    refine wp_region_grow 22 [(19, .val (.int .i64 f)), (20, .val (.bool true)), (21, .val (.bool false)), (22, .val (.bool false)), (23, .val (.int .i64 m)), (24, .val (.bool false)), (25, .val (.bool true)), (26, .val (.bool true)), (27, .val (.bool true)), (28, .val (undef)), (29, .val (undef)), (30, .val (undef)), (31, .val (undef)), (32, .val (undef)), (33, .val (.bool true)), (34, .val (.bool true)), (35, .val (undef)), (36, .val (undef)), (37, .val (undef)), (38, .val (undef)), (39, .val (undef)), (40, .val (.bool true))]
      (fun W => PkSt f m n1 e1 s1 n2 e2 s2 w W) mixedOk (by kernel_rfl) (by kernel_rfl) (h2.below (Below.refl _ _).drew) (fun W W' h hb => h.below hb) ?_ ?_
    · refine gSt (gStep_run rfl (gRun_move 7 19 (.inl rfl) rfl (by decide +kernel) (fun v w h => h))) ?_
      refine gSt (gStep_run rfl ?_) ?_
      · intro ρ W hC hc hf hL
        have e19 : ρ (.tmp 19) = .int .i64 f := hL 19 (by decide +kernel)
        simp [go_sem, hc, hf, e19]
        refine (HI5.out W).mono ?_
        rintro e w' ⟨rfl, hb⟩
        exact ⟨_, rfl, by first | exact hb | (subst hb; exact Below.refl _ _), rfl⟩
      refine gSt (gStep_run rfl ?_) ?_
      · intro ρ W hC hc hf hL
        have e20 : ρ (.tmp 20) = .bool true := hL 20 (by decide +kernel)
        simp [go_sem, hc, hf, e20]
        exact ⟨Below.refl _ _, rfl⟩
      refine gSt (gStep_run rfl (gRun_move 21 22 (.inl rfl) rfl (by decide +kernel) (fun v w h => h))) ?_
      refine gSt (gStep_on 3 22 false rfl rfl (by decide +kernel) (fun v w h => h) (gRun_move 8 23 (.inl rfl) rfl (by decide +kernel) (fun v w h => h))) ?_
      refine gSt (gStep_on 3 22 false rfl rfl (by decide +kernel) (fun v w h => h) ?_) ?_
      · intro ρ W hC hc hf hL
        have e23 : ρ (.tmp 23) = .int .i64 m := hL 23 (by decide +kernel)
        simp [go_sem, hc, hf, e23]
        refine (HI8.out W).mono ?_
        rintro e w' ⟨rfl, hb⟩
        exact ⟨_, rfl, by first | exact hb | (subst hb; exact Below.refl _ _), rfl⟩
      refine gSt (gStep_on 3 22 false rfl rfl (by decide +kernel) (fun v w h => h) ?_) ?_
      · intro ρ W hC hc hf hL
        have e24 : ρ (.tmp 24) = .bool false := hL 24 (by decide +kernel)
        simp [go_sem, hc, hf, e24]
        exact ⟨Below.refl _ _, rfl⟩
      refine gSt (gStep_run rfl (gRun_pickCF 22 25 26 _ rfl rfl (by decide +kernel) (by decide +kernel) (fun v w h => h) (fun v w h => h))) ?_
      refine gSt (gStep_run rfl (gRun_move 26 27 (.inl rfl) rfl (by decide +kernel) (fun v w h => h))) ?_
      refine gSt (gStep_off 8 27 false rfl rfl (by decide +kernel) (fun v w h => h) (fun w => rfl)) ?_
      refine gSt (gStep_off 8 27 false rfl rfl (by decide +kernel) (fun v w h => h) (fun w => rfl)) ?_
      refine gSt (gStep_off 8 27 false rfl rfl (by decide +kernel) (fun v w h => h) (fun w => rfl)) ?_
      refine gSt (gStep_off 8 27 false rfl rfl (by decide +kernel) (fun v w h => h) (fun w => rfl)) ?_
      refine gSt (gStep_off 8 27 false rfl rfl (by decide +kernel) (fun v w h => h) (fun w => rfl)) ?_
      refine gSt (gStep_run rfl (gRun_pickCT 27 33 _ _ rfl rfl (by decide +kernel) (fun v w h => h) (fun w => rfl))) ?_
      refine gSt (gStep_run rfl (gRun_move 33 34 (.inl rfl) rfl (by decide +kernel) (fun v w h => h))) ?_
      refine gSt (gStep_off 15 34 false rfl rfl (by decide +kernel) (fun v w h => h) (fun w => rfl)) ?_
      refine gSt (gStep_off 15 34 false rfl rfl (by decide +kernel) (fun v w h => h) (fun w => rfl)) ?_
      refine gSt (gStep_off 15 34 false rfl rfl (by decide +kernel) (fun v w h => h) (fun w => rfl)) ?_
      refine gSt (gStep_off 15 34 false rfl rfl (by decide +kernel) (fun v w h => h) (fun w => rfl)) ?_
      refine gSt (gStep_off 15 34 false rfl rfl (by decide +kernel) (fun v w h => h) (fun w => rfl)) ?_
      refine gSt (gStep_run rfl (gRun_pickCT 34 40 _ _ rfl rfl (by decide +kernel) (fun v w h => h) (fun w => rfl))) ?_
      exact gSt0
    · intro W hC
      refine gFi 19 rfl ?_
      rintro _ rfl
      refine gFi 20 rfl ?_
      rintro _ rfl
      refine gFi 21 rfl ?_
      rintro _ rfl
      refine gFi 22 rfl ?_
      rintro _ rfl
      refine gFi 23 rfl ?_
      rintro _ rfl
      refine gFi 24 rfl ?_
      rintro _ rfl
      refine gFi 25 rfl ?_
      rintro _ rfl
      refine gFi 26 rfl ?_
      rintro _ rfl
      refine gFi 27 rfl ?_
      rintro _ rfl
      refine gFi 28 rfl ?_
      rintro _ rfl
      refine gFi 29 rfl ?_
      rintro _ rfl
      refine gFi 30 rfl ?_
      rintro _ rfl
      refine gFi 31 rfl ?_
      rintro _ rfl
      refine gFi 32 rfl ?_
      rintro _ rfl
      refine gFi 33 rfl ?_
      rintro _ rfl
      refine gFi 34 rfl ?_
      rintro _ rfl
      refine gFi 35 rfl ?_
      rintro _ rfl
      refine gFi 36 rfl ?_
      rintro _ rfl
      refine gFi 37 rfl ?_
      rintro _ rfl
      refine gFi 38 rfl ?_
      rintro _ rfl
      refine gFi 39 rfl ?_
      rintro _ rfl
      refine gFi 40 rfl ?_
      rintro _ rfl
      refine gFi0 ?_
      simp only [List.drop_succ_cons, List.drop_zero, Act.put, List.setIfInBounds_toArray, List.set_cons_succ, List.set_cons_zero]
      have HS := hide hC
      clear hC h2
      go_wp2_with fail
      refine (awake9_any _ HS.out.g).mono ?_
      rintro e w9 ⟨rfl, hb9⟩
      have HB := hide (below_trans HS.out.bel hb9)
      clear hb9 HS
      go_wp2
      go_ret
      exact ⟨rfl, HB.out⟩
      
    

set_option maxHeartbeats 8000000 in
theorem packOrder_C (f m e1 e2 P c fa fb : Int) (n1 n2 : Bool) (s1 s2 a b : Nat) (u v : ByteArray)
    (HI5 : Hid (∀ w, Calls Tryd.prog 12 #[.int .i64 f] w fun e w' => e = .returned (.bool true) ∧ Below w.heap.size w w'))
    (HI8 : Hid (∀ w, Calls Tryd.prog 20 #[.int .i64 m] w fun e w' => e = .returned (.bool true) ∧ Below w.heap.size w w'))
    (HPR : Hid (∀ w, Calls Tryd.prog 34 #[.int .i64 f] w fun e w' => e = .returned (.int .i64 P) ∧ Below w.heap.size w w'))
    (HRA : Hid (∀ w, Calls Tryd.prog 19 #[.int .i64 P, .agg #[.bool (n1), .int .i64 (e1), .int .u64 (dgl (s1) 0 : Nat), .int .u64 (dgl (s1) 1 : Nat), .int .u64 (dgl (s1) 2 : Nat), .int .u64 (dgl (s1) 3 : Nat), .int .u64 (dgl (s1) 4 : Nat), .int .u64 (dgl (s1) 5 : Nat), .int .u64 (dgl (s1) 6 : Nat), .int .u64 (dgl (s1) 7 : Nat)], .bool false] w fun e w' => e = .returned (.bool false) ∧ Below w.heap.size w w')) (w : World) (hg : FmtG w) :
    Calls Tryd.prog 7 #[.agg #[.int .i64 f, .int .i64 m], .agg #[.bool (n1), .int .i64 (e1), .int .u64 (dgl (s1) 0 : Nat), .int .u64 (dgl (s1) 1 : Nat), .int .u64 (dgl (s1) 2 : Nat), .int .u64 (dgl (s1) 3 : Nat), .int .u64 (dgl (s1) 4 : Nat), .int .u64 (dgl (s1) 5 : Nat), .int .u64 (dgl (s1) 6 : Nat), .int .u64 (dgl (s1) 7 : Nat)], .agg #[.bool (n2), .int .i64 (e2), .int .u64 (dgl (s2) 0 : Nat), .int .u64 (dgl (s2) 1 : Nat), .int .u64 (dgl (s2) 2 : Nat), .int .u64 (dgl (s2) 3 : Nat), .int .u64 (dgl (s2) 4 : Nat), .int .u64 (dgl (s2) 5 : Nat), .int .u64 (dgl (s2) 6 : Nat), .int .u64 (dgl (s2) 7 : Nat)]] w fun e w' => e = .returned (.bool true) ∧ Below w.heap.size w w' := by
  have HS := hide (pkSt_start f m n1 e1 s1 n2 e2 s2 w hg 35)
  clear hg
  go_enter Tryd.func7, Tryd.ntmps7
  go_upto_region 1 with fail
  refine wp_gen (fun W => PkSt f m n1 e1 s1 n2 e2 s2 w W) HS.out ?_
  clear HS
  rintro W1 h1
  refine wp_region_grow 6 [(15, .val (.pointer (some ⟨w.heap.size, 0, none⟩))), (16, .val (.int .i64 f)), (17, .val (.pointer (some ⟨w.heap.size, 1, none⟩))), (18, .val (.int .i64 m)), (7, .val (.int .i64 f)), (8, .val (.int .i64 m))]
    (fun W => PkSt f m n1 e1 s1 n2 e2 s2 w W) mixedOk (by kernel_rfl) (by kernel_rfl) (h1.below (Below.refl _ _).drew) (fun W W' h hb => h.below hb) ?_ ?_
  · refine gSt (gStep_run rfl ?_) ?_
    · intro ρ W hC hc hf hL
      have e3 : ρ (.tmp 3) = .pointer (some ⟨w.heap.size, 0, none⟩) := hL 3 (by decide +kernel)
      have hl : w.heap.size < W.heap.size := by have := hC.lt; omega
      simp [go_sem, hc, hf, e3, hl]
      exact ⟨Below.refl _ _, rfl⟩
    refine gSt (gStep_run rfl ?_) ?_
    · intro ρ W hC hc hf hL
      have e15 : ρ (.tmp 15) = .pointer (some ⟨w.heap.size, 0, none⟩) := hL 15 (by decide +kernel)
      have q := hC.q0
      simp [go_sem, hc, hf, e15, q]
      exact ⟨Below.refl _ _, rfl⟩
    refine gSt (gStep_run rfl ?_) ?_
    · intro ρ W hC hc hf hL
      have e3 : ρ (.tmp 3) = .pointer (some ⟨w.heap.size, 0, none⟩) := hL 3 (by decide +kernel)
      have hl : w.heap.size < W.heap.size := by have := hC.lt; omega
      simp [go_sem, hc, hf, e3, hl]
      exact ⟨Below.refl _ _, rfl⟩
    refine gSt (gStep_run rfl ?_) ?_
    · intro ρ W hC hc hf hL
      have e17 : ρ (.tmp 17) = .pointer (some ⟨w.heap.size, 1, none⟩) := hL 17 (by decide +kernel)
      have q := hC.q1
      simp [go_sem, hc, hf, e17, q]
      exact ⟨Below.refl _ _, rfl⟩
    refine gSt (gStep_run rfl (gRun_move 16 7 (.inr rfl) rfl (by decide +kernel) (fun v w h => h))) ?_
    refine gSt (gStep_run rfl (gRun_move 18 8 (.inr rfl) rfl (by decide +kernel) (fun v w h => h))) ?_
    exact gSt0
  · intro W hC
    refine gFi 15 rfl ?_
    rintro _ rfl
    refine gFi 16 rfl ?_
    rintro _ rfl
    refine gFi 17 rfl ?_
    rintro _ rfl
    refine gFi 18 rfl ?_
    rintro _ rfl
    refine gFi 7 rfl ?_
    rintro _ rfl
    refine gFi 8 rfl ?_
    rintro _ rfl
    refine gFi0 ?_
    simp only [List.drop_succ_cons, List.drop_zero, Act.put, List.setIfInBounds_toArray, List.set_cons_succ, List.set_cons_zero]
    have HS := hide hC
    clear hC h1
    go_upto_region 2 with fail
    refine wp_gen (fun W => PkSt f m n1 e1 s1 n2 e2 s2 w W) HS.out ?_
    clear HS
    rintro W2 h2
    refine wp_region_grow 22 [(19, .val (.int .i64 f)), (20, .val (.bool true)), (21, .val (.bool false)), (22, .val (.bool false)), (23, .val (.int .i64 m)), (24, .val (.bool true)), (25, .val (.bool false)), (26, .val (.bool false)), (27, .val (.bool false)), (28, .val (.int .i64 f)), (29, .val (.int .i64 P)), (30, .val (.agg #[.bool (n1), .int .i64 (e1), .int .u64 (dgl (s1) 0 : Nat), .int .u64 (dgl (s1) 1 : Nat), .int .u64 (dgl (s1) 2 : Nat), .int .u64 (dgl (s1) 3 : Nat), .int .u64 (dgl (s1) 4 : Nat), .int .u64 (dgl (s1) 5 : Nat), .int .u64 (dgl (s1) 6 : Nat), .int .u64 (dgl (s1) 7 : Nat)])), (31, .val (.bool false)), (32, .val (.bool true)), (33, .val (.bool true)), (34, .val (.bool true)), (35, .val (undef)), (36, .val (undef)), (37, .val (undef)), (38, .val (undef)), (39, .val (undef)), (40, .val (.bool true))]
      (fun W => PkSt f m n1 e1 s1 n2 e2 s2 w W) mixedOk (by kernel_rfl) (by kernel_rfl) (h2.below (Below.refl _ _).drew) (fun W W' h hb => h.below hb) ?_ ?_
    · refine gSt (gStep_run rfl (gRun_move 7 19 (.inl rfl) rfl (by decide +kernel) (fun v w h => h))) ?_
      refine gSt (gStep_run rfl ?_) ?_
      · intro ρ W hC hc hf hL
        have e19 : ρ (.tmp 19) = .int .i64 f := hL 19 (by decide +kernel)
        simp [go_sem, hc, hf, e19]
        refine (HI5.out W).mono ?_
        rintro e w' ⟨rfl, hb⟩
        exact ⟨_, rfl, by first | exact hb | (subst hb; exact Below.refl _ _), rfl⟩
      refine gSt (gStep_run rfl ?_) ?_
      · intro ρ W hC hc hf hL
        have e20 : ρ (.tmp 20) = .bool true := hL 20 (by decide +kernel)
        simp [go_sem, hc, hf, e20]
        exact ⟨Below.refl _ _, rfl⟩
      refine gSt (gStep_run rfl (gRun_move 21 22 (.inl rfl) rfl (by decide +kernel) (fun v w h => h))) ?_
      refine gSt (gStep_on 3 22 false rfl rfl (by decide +kernel) (fun v w h => h) (gRun_move 8 23 (.inl rfl) rfl (by decide +kernel) (fun v w h => h))) ?_
      refine gSt (gStep_on 3 22 false rfl rfl (by decide +kernel) (fun v w h => h) ?_) ?_
      · intro ρ W hC hc hf hL
        have e23 : ρ (.tmp 23) = .int .i64 m := hL 23 (by decide +kernel)
        simp [go_sem, hc, hf, e23]
        refine (HI8.out W).mono ?_
        rintro e w' ⟨rfl, hb⟩
        exact ⟨_, rfl, by first | exact hb | (subst hb; exact Below.refl _ _), rfl⟩
      refine gSt (gStep_on 3 22 false rfl rfl (by decide +kernel) (fun v w h => h) ?_) ?_
      · intro ρ W hC hc hf hL
        have e24 : ρ (.tmp 24) = .bool true := hL 24 (by decide +kernel)
        simp [go_sem, hc, hf, e24]
        exact ⟨Below.refl _ _, rfl⟩
      refine gSt (gStep_run rfl (gRun_pickCF 22 25 26 _ rfl rfl (by decide +kernel) (by decide +kernel) (fun v w h => h) (fun v w h => h))) ?_
      refine gSt (gStep_run rfl (gRun_move 26 27 (.inl rfl) rfl (by decide +kernel) (fun v w h => h))) ?_
      refine gSt (gStep_on 8 27 false rfl rfl (by decide +kernel) (fun v w h => h) (gRun_move 7 28 (.inl rfl) rfl (by decide +kernel) (fun v w h => h))) ?_
      refine gSt (gStep_on 8 27 false rfl rfl (by decide +kernel) (fun v w h => h) ?_) ?_
      · intro ρ W hC hc hf hL
        have e28 : ρ (.tmp 28) = .int .i64 f := hL 28 (by decide +kernel)
        simp [go_sem, hc, hf, e28]
        refine (HPR.out W).mono ?_
        rintro e w' ⟨rfl, hb⟩
        exact ⟨_, rfl, by first | exact hb | (subst hb; exact Below.refl _ _), rfl⟩
      refine gSt (gStep_on 8 27 false rfl rfl (by decide +kernel) (fun v w h => h) ?_) ?_
      · intro ρ W hC hc hf hL
        have e4 : ρ (.tmp 4) = .pointer (some ⟨w.heap.size + 1, 0, none⟩) := hL 4 (by decide +kernel)
        have ln := hC.na.n
        have le := hC.na.e
        have l0 := hC.na.x0
        have l1 := hC.na.x1
        have l2 := hC.na.x2
        have l3 := hC.na.x3
        have l4 := hC.na.x4
        have l5 := hC.na.x5
        have l6 := hC.na.x6
        have l7 := hC.na.x7
        simp [go_sem, hc, hf, e4, ln, le, l0, l1, l2, l3, l4, l5, l6, l7]
        exact ⟨Below.refl _ _, rfl⟩
      refine gSt (gStep_on 8 27 false rfl rfl (by decide +kernel) (fun v w h => h) ?_) ?_
      · intro ρ W hC hc hf hL
        have e29 : ρ (.tmp 29) = .int .i64 P := hL 29 (by decide +kernel)
        have e30 : ρ (.tmp 30) = .agg #[.bool (n1), .int .i64 (e1), .int .u64 (dgl (s1) 0 : Nat), .int .u64 (dgl (s1) 1 : Nat), .int .u64 (dgl (s1) 2 : Nat), .int .u64 (dgl (s1) 3 : Nat), .int .u64 (dgl (s1) 4 : Nat), .int .u64 (dgl (s1) 5 : Nat), .int .u64 (dgl (s1) 6 : Nat), .int .u64 (dgl (s1) 7 : Nat)] := hL 30 (by decide +kernel)
        simp [go_sem, hc, hf, e29, e30]
        refine (HRA.out W).mono ?_
        rintro e w' ⟨rfl, hb⟩
        exact ⟨_, rfl, by first | exact hb | (subst hb; exact Below.refl _ _), rfl⟩
      refine gSt (gStep_on 8 27 false rfl rfl (by decide +kernel) (fun v w h => h) ?_) ?_
      · intro ρ W hC hc hf hL
        have e31 : ρ (.tmp 31) = .bool false := hL 31 (by decide +kernel)
        simp [go_sem, hc, hf, e31]
        exact ⟨Below.refl _ _, rfl⟩
      refine gSt (gStep_run rfl (gRun_pickCF 27 32 33 _ rfl rfl (by decide +kernel) (by decide +kernel) (fun v w h => h) (fun v w h => h))) ?_
      refine gSt (gStep_run rfl (gRun_move 33 34 (.inl rfl) rfl (by decide +kernel) (fun v w h => h))) ?_
      refine gSt (gStep_off 15 34 false rfl rfl (by decide +kernel) (fun v w h => h) (fun w => rfl)) ?_
      refine gSt (gStep_off 15 34 false rfl rfl (by decide +kernel) (fun v w h => h) (fun w => rfl)) ?_
      refine gSt (gStep_off 15 34 false rfl rfl (by decide +kernel) (fun v w h => h) (fun w => rfl)) ?_
      refine gSt (gStep_off 15 34 false rfl rfl (by decide +kernel) (fun v w h => h) (fun w => rfl)) ?_
      refine gSt (gStep_off 15 34 false rfl rfl (by decide +kernel) (fun v w h => h) (fun w => rfl)) ?_
      refine gSt (gStep_run rfl (gRun_pickCT 34 40 _ _ rfl rfl (by decide +kernel) (fun v w h => h) (fun w => rfl))) ?_
      exact gSt0
    · intro W hC
      refine gFi 19 rfl ?_
      rintro _ rfl
      refine gFi 20 rfl ?_
      rintro _ rfl
      refine gFi 21 rfl ?_
      rintro _ rfl
      refine gFi 22 rfl ?_
      rintro _ rfl
      refine gFi 23 rfl ?_
      rintro _ rfl
      refine gFi 24 rfl ?_
      rintro _ rfl
      refine gFi 25 rfl ?_
      rintro _ rfl
      refine gFi 26 rfl ?_
      rintro _ rfl
      refine gFi 27 rfl ?_
      rintro _ rfl
      refine gFi 28 rfl ?_
      rintro _ rfl
      refine gFi 29 rfl ?_
      rintro _ rfl
      refine gFi 30 rfl ?_
      rintro _ rfl
      refine gFi 31 rfl ?_
      rintro _ rfl
      refine gFi 32 rfl ?_
      rintro _ rfl
      refine gFi 33 rfl ?_
      rintro _ rfl
      refine gFi 34 rfl ?_
      rintro _ rfl
      refine gFi 35 rfl ?_
      rintro _ rfl
      refine gFi 36 rfl ?_
      rintro _ rfl
      refine gFi 37 rfl ?_
      rintro _ rfl
      refine gFi 38 rfl ?_
      rintro _ rfl
      refine gFi 39 rfl ?_
      rintro _ rfl
      refine gFi 40 rfl ?_
      rintro _ rfl
      refine gFi0 ?_
      simp only [List.drop_succ_cons, List.drop_zero, Act.put, List.setIfInBounds_toArray, List.set_cons_succ, List.set_cons_zero]
      have HS := hide hC
      clear hC h2
      go_wp2_with fail
      refine (awake9_any _ HS.out.g).mono ?_
      rintro e w9 ⟨rfl, hb9⟩
      have HB := hide (below_trans HS.out.bel hb9)
      clear hb9 HS
      go_wp2
      go_ret
      exact ⟨rfl, HB.out⟩
      
    

set_option maxHeartbeats 8000000 in
theorem packOrder_D (f m e1 e2 P c fa fb : Int) (n1 n2 : Bool) (s1 s2 a b : Nat) (u v : ByteArray)
    (HI5 : Hid (∀ w, Calls Tryd.prog 12 #[.int .i64 f] w fun e w' => e = .returned (.bool true) ∧ Below w.heap.size w w'))
    (HI8 : Hid (∀ w, Calls Tryd.prog 20 #[.int .i64 m] w fun e w' => e = .returned (.bool true) ∧ Below w.heap.size w w'))
    (HPR : Hid (∀ w, Calls Tryd.prog 34 #[.int .i64 f] w fun e w' => e = .returned (.int .i64 P) ∧ Below w.heap.size w w'))
    (HRA : Hid (∀ w, Calls Tryd.prog 19 #[.int .i64 P, .agg #[.bool (n1), .int .i64 (e1), .int .u64 (dgl (s1) 0 : Nat), .int .u64 (dgl (s1) 1 : Nat), .int .u64 (dgl (s1) 2 : Nat), .int .u64 (dgl (s1) 3 : Nat), .int .u64 (dgl (s1) 4 : Nat), .int .u64 (dgl (s1) 5 : Nat), .int .u64 (dgl (s1) 6 : Nat), .int .u64 (dgl (s1) 7 : Nat)], .bool false] w fun e w' => e = .returned (.bool true) ∧ Below w.heap.size w w'))
    (HRB : Hid (∀ w, Calls Tryd.prog 19 #[.int .i64 P, .agg #[.bool (n2), .int .i64 (e2), .int .u64 (dgl (s2) 0 : Nat), .int .u64 (dgl (s2) 1 : Nat), .int .u64 (dgl (s2) 2 : Nat), .int .u64 (dgl (s2) 3 : Nat), .int .u64 (dgl (s2) 4 : Nat), .int .u64 (dgl (s2) 5 : Nat), .int .u64 (dgl (s2) 6 : Nat), .int .u64 (dgl (s2) 7 : Nat)], .bool false] w fun e w' => e = .returned (.bool false) ∧ Below w.heap.size w w')) (w : World) (hg : FmtG w) :
    Calls Tryd.prog 7 #[.agg #[.int .i64 f, .int .i64 m], .agg #[.bool (n1), .int .i64 (e1), .int .u64 (dgl (s1) 0 : Nat), .int .u64 (dgl (s1) 1 : Nat), .int .u64 (dgl (s1) 2 : Nat), .int .u64 (dgl (s1) 3 : Nat), .int .u64 (dgl (s1) 4 : Nat), .int .u64 (dgl (s1) 5 : Nat), .int .u64 (dgl (s1) 6 : Nat), .int .u64 (dgl (s1) 7 : Nat)], .agg #[.bool (n2), .int .i64 (e2), .int .u64 (dgl (s2) 0 : Nat), .int .u64 (dgl (s2) 1 : Nat), .int .u64 (dgl (s2) 2 : Nat), .int .u64 (dgl (s2) 3 : Nat), .int .u64 (dgl (s2) 4 : Nat), .int .u64 (dgl (s2) 5 : Nat), .int .u64 (dgl (s2) 6 : Nat), .int .u64 (dgl (s2) 7 : Nat)]] w fun e w' => e = .returned (.bool true) ∧ Below w.heap.size w w' := by
  have HS := hide (pkSt_start f m n1 e1 s1 n2 e2 s2 w hg 35)
  clear hg
  go_enter Tryd.func7, Tryd.ntmps7
  go_upto_region 1 with fail
  refine wp_gen (fun W => PkSt f m n1 e1 s1 n2 e2 s2 w W) HS.out ?_
  clear HS
  rintro W1 h1
  refine wp_region_grow 6 [(15, .val (.pointer (some ⟨w.heap.size, 0, none⟩))), (16, .val (.int .i64 f)), (17, .val (.pointer (some ⟨w.heap.size, 1, none⟩))), (18, .val (.int .i64 m)), (7, .val (.int .i64 f)), (8, .val (.int .i64 m))]
    (fun W => PkSt f m n1 e1 s1 n2 e2 s2 w W) mixedOk (by kernel_rfl) (by kernel_rfl) (h1.below (Below.refl _ _).drew) (fun W W' h hb => h.below hb) ?_ ?_
  · refine gSt (gStep_run rfl ?_) ?_
    · intro ρ W hC hc hf hL
      have e3 : ρ (.tmp 3) = .pointer (some ⟨w.heap.size, 0, none⟩) := hL 3 (by decide +kernel)
      have hl : w.heap.size < W.heap.size := by have := hC.lt; omega
      simp [go_sem, hc, hf, e3, hl]
      exact ⟨Below.refl _ _, rfl⟩
    refine gSt (gStep_run rfl ?_) ?_
    · intro ρ W hC hc hf hL
      have e15 : ρ (.tmp 15) = .pointer (some ⟨w.heap.size, 0, none⟩) := hL 15 (by decide +kernel)
      have q := hC.q0
      simp [go_sem, hc, hf, e15, q]
      exact ⟨Below.refl _ _, rfl⟩
    refine gSt (gStep_run rfl ?_) ?_
    · intro ρ W hC hc hf hL
      have e3 : ρ (.tmp 3) = .pointer (some ⟨w.heap.size, 0, none⟩) := hL 3 (by decide +kernel)
      have hl : w.heap.size < W.heap.size := by have := hC.lt; omega
      simp [go_sem, hc, hf, e3, hl]
      exact ⟨Below.refl _ _, rfl⟩
    refine gSt (gStep_run rfl ?_) ?_
    · intro ρ W hC hc hf hL
      have e17 : ρ (.tmp 17) = .pointer (some ⟨w.heap.size, 1, none⟩) := hL 17 (by decide +kernel)
      have q := hC.q1
      simp [go_sem, hc, hf, e17, q]
      exact ⟨Below.refl _ _, rfl⟩
    refine gSt (gStep_run rfl (gRun_move 16 7 (.inr rfl) rfl (by decide +kernel) (fun v w h => h))) ?_
    refine gSt (gStep_run rfl (gRun_move 18 8 (.inr rfl) rfl (by decide +kernel) (fun v w h => h))) ?_
    exact gSt0
  · intro W hC
    refine gFi 15 rfl ?_
    rintro _ rfl
    refine gFi 16 rfl ?_
    rintro _ rfl
    refine gFi 17 rfl ?_
    rintro _ rfl
    refine gFi 18 rfl ?_
    rintro _ rfl
    refine gFi 7 rfl ?_
    rintro _ rfl
    refine gFi 8 rfl ?_
    rintro _ rfl
    refine gFi0 ?_
    simp only [List.drop_succ_cons, List.drop_zero, Act.put, List.setIfInBounds_toArray, List.set_cons_succ, List.set_cons_zero]
    have HS := hide hC
    clear hC h1
    go_upto_region 2 with fail
    refine wp_gen (fun W => PkSt f m n1 e1 s1 n2 e2 s2 w W) HS.out ?_
    clear HS
    rintro W2 h2
    refine wp_region_grow 22 [(19, .val (.int .i64 f)), (20, .val (.bool true)), (21, .val (.bool false)), (22, .val (.bool false)), (23, .val (.int .i64 m)), (24, .val (.bool true)), (25, .val (.bool false)), (26, .val (.bool false)), (27, .val (.bool false)), (28, .val (.int .i64 f)), (29, .val (.int .i64 P)), (30, .val (.agg #[.bool (n1), .int .i64 (e1), .int .u64 (dgl (s1) 0 : Nat), .int .u64 (dgl (s1) 1 : Nat), .int .u64 (dgl (s1) 2 : Nat), .int .u64 (dgl (s1) 3 : Nat), .int .u64 (dgl (s1) 4 : Nat), .int .u64 (dgl (s1) 5 : Nat), .int .u64 (dgl (s1) 6 : Nat), .int .u64 (dgl (s1) 7 : Nat)])), (31, .val (.bool true)), (32, .val (.bool false)), (33, .val (.bool false)), (34, .val (.bool false)), (35, .val (.int .i64 f)), (36, .val (.int .i64 P)), (37, .val (.agg #[.bool (n2), .int .i64 (e2), .int .u64 (dgl (s2) 0 : Nat), .int .u64 (dgl (s2) 1 : Nat), .int .u64 (dgl (s2) 2 : Nat), .int .u64 (dgl (s2) 3 : Nat), .int .u64 (dgl (s2) 4 : Nat), .int .u64 (dgl (s2) 5 : Nat), .int .u64 (dgl (s2) 6 : Nat), .int .u64 (dgl (s2) 7 : Nat)])), (38, .val (.bool false)), (39, .val (.bool true)), (40, .val (.bool true))]
      (fun W => PkSt f m n1 e1 s1 n2 e2 s2 w W) mixedOk (by kernel_rfl) (by kernel_rfl) (h2.below (Below.refl _ _).drew) (fun W W' h hb => h.below hb) ?_ ?_
    · refine gSt (gStep_run rfl (gRun_move 7 19 (.inl rfl) rfl (by decide +kernel) (fun v w h => h))) ?_
      refine gSt (gStep_run rfl ?_) ?_
      · intro ρ W hC hc hf hL
        have e19 : ρ (.tmp 19) = .int .i64 f := hL 19 (by decide +kernel)
        simp [go_sem, hc, hf, e19]
        refine (HI5.out W).mono ?_
        rintro e w' ⟨rfl, hb⟩
        exact ⟨_, rfl, by first | exact hb | (subst hb; exact Below.refl _ _), rfl⟩
      refine gSt (gStep_run rfl ?_) ?_
      · intro ρ W hC hc hf hL
        have e20 : ρ (.tmp 20) = .bool true := hL 20 (by decide +kernel)
        simp [go_sem, hc, hf, e20]
        exact ⟨Below.refl _ _, rfl⟩
      refine gSt (gStep_run rfl (gRun_move 21 22 (.inl rfl) rfl (by decide +kernel) (fun v w h => h))) ?_
      refine gSt (gStep_on 3 22 false rfl rfl (by decide +kernel) (fun v w h => h) (gRun_move 8 23 (.inl rfl) rfl (by decide +kernel) (fun v w h => h))) ?_
      refine gSt (gStep_on 3 22 false rfl rfl (by decide +kernel) (fun v w h => h) ?_) ?_
      · intro ρ W hC hc hf hL
        have e23 : ρ (.tmp 23) = .int .i64 m := hL 23 (by decide +kernel)
        simp [go_sem, hc, hf, e23]
        refine (HI8.out W).mono ?_
        rintro e w' ⟨rfl, hb⟩
        exact ⟨_, rfl, by first | exact hb | (subst hb; exact Below.refl _ _), rfl⟩
      refine gSt (gStep_on 3 22 false rfl rfl (by decide +kernel) (fun v w h => h) ?_) ?_
      · intro ρ W hC hc hf hL
        have e24 : ρ (.tmp 24) = .bool true := hL 24 (by decide +kernel)
        simp [go_sem, hc, hf, e24]
        exact ⟨Below.refl _ _, rfl⟩
      refine gSt (gStep_run rfl (gRun_pickCF 22 25 26 _ rfl rfl (by decide +kernel) (by decide +kernel) (fun v w h => h) (fun v w h => h))) ?_
      refine gSt (gStep_run rfl (gRun_move 26 27 (.inl rfl) rfl (by decide +kernel) (fun v w h => h))) ?_
      refine gSt (gStep_on 8 27 false rfl rfl (by decide +kernel) (fun v w h => h) (gRun_move 7 28 (.inl rfl) rfl (by decide +kernel) (fun v w h => h))) ?_
      refine gSt (gStep_on 8 27 false rfl rfl (by decide +kernel) (fun v w h => h) ?_) ?_
      · intro ρ W hC hc hf hL
        have e28 : ρ (.tmp 28) = .int .i64 f := hL 28 (by decide +kernel)
        simp [go_sem, hc, hf, e28]
        refine (HPR.out W).mono ?_
        rintro e w' ⟨rfl, hb⟩
        exact ⟨_, rfl, by first | exact hb | (subst hb; exact Below.refl _ _), rfl⟩
      refine gSt (gStep_on 8 27 false rfl rfl (by decide +kernel) (fun v w h => h) ?_) ?_
      · intro ρ W hC hc hf hL
        have e4 : ρ (.tmp 4) = .pointer (some ⟨w.heap.size + 1, 0, none⟩) := hL 4 (by decide +kernel)
        have ln := hC.na.n
        have le := hC.na.e
        have l0 := hC.na.x0
        have l1 := hC.na.x1
        have l2 := hC.na.x2
        have l3 := hC.na.x3
        have l4 := hC.na.x4
        have l5 := hC.na.x5
        have l6 := hC.na.x6
        have l7 := hC.na.x7
        simp [go_sem, hc, hf, e4, ln, le, l0, l1, l2, l3, l4, l5, l6, l7]
        exact ⟨Below.refl _ _, rfl⟩
      refine gSt (gStep_on 8 27 false rfl rfl (by decide +kernel) (fun v w h => h) ?_) ?_
      · intro ρ W hC hc hf hL
        have e29 : ρ (.tmp 29) = .int .i64 P := hL 29 (by decide +kernel)
        have e30 : ρ (.tmp 30) = .agg #[.bool (n1), .int .i64 (e1), .int .u64 (dgl (s1) 0 : Nat), .int .u64 (dgl (s1) 1 : Nat), .int .u64 (dgl (s1) 2 : Nat), .int .u64 (dgl (s1) 3 : Nat), .int .u64 (dgl (s1) 4 : Nat), .int .u64 (dgl (s1) 5 : Nat), .int .u64 (dgl (s1) 6 : Nat), .int .u64 (dgl (s1) 7 : Nat)] := hL 30 (by decide +kernel)
        simp [go_sem, hc, hf, e29, e30]
        refine (HRA.out W).mono ?_
        rintro e w' ⟨rfl, hb⟩
        exact ⟨_, rfl, by first | exact hb | (subst hb; exact Below.refl _ _), rfl⟩
      refine gSt (gStep_on 8 27 false rfl rfl (by decide +kernel) (fun v w h => h) ?_) ?_
      · intro ρ W hC hc hf hL
        have e31 : ρ (.tmp 31) = .bool true := hL 31 (by decide +kernel)
        simp [go_sem, hc, hf, e31]
        exact ⟨Below.refl _ _, rfl⟩
      refine gSt (gStep_run rfl (gRun_pickCF 27 32 33 _ rfl rfl (by decide +kernel) (by decide +kernel) (fun v w h => h) (fun v w h => h))) ?_
      refine gSt (gStep_run rfl (gRun_move 33 34 (.inl rfl) rfl (by decide +kernel) (fun v w h => h))) ?_
      refine gSt (gStep_on 15 34 false rfl rfl (by decide +kernel) (fun v w h => h) (gRun_move 7 35 (.inl rfl) rfl (by decide +kernel) (fun v w h => h))) ?_
      refine gSt (gStep_on 15 34 false rfl rfl (by decide +kernel) (fun v w h => h) ?_) ?_
      · intro ρ W hC hc hf hL
        have e35 : ρ (.tmp 35) = .int .i64 f := hL 35 (by decide +kernel)
        simp [go_sem, hc, hf, e35]
        refine (HPR.out W).mono ?_
        rintro e w' ⟨rfl, hb⟩
        exact ⟨_, rfl, by first | exact hb | (subst hb; exact Below.refl _ _), rfl⟩
      refine gSt (gStep_on 15 34 false rfl rfl (by decide +kernel) (fun v w h => h) ?_) ?_
      · intro ρ W hC hc hf hL
        have e5 : ρ (.tmp 5) = .pointer (some ⟨w.heap.size + 2, 0, none⟩) := hL 5 (by decide +kernel)
        have ln := hC.nb.n
        have le := hC.nb.e
        have l0 := hC.nb.x0
        have l1 := hC.nb.x1
        have l2 := hC.nb.x2
        have l3 := hC.nb.x3
        have l4 := hC.nb.x4
        have l5 := hC.nb.x5
        have l6 := hC.nb.x6
        have l7 := hC.nb.x7
        simp [go_sem, hc, hf, e5, ln, le, l0, l1, l2, l3, l4, l5, l6, l7]
        exact ⟨Below.refl _ _, rfl⟩
      refine gSt (gStep_on 15 34 false rfl rfl (by decide +kernel) (fun v w h => h) ?_) ?_
      · intro ρ W hC hc hf hL
        have e36 : ρ (.tmp 36) = .int .i64 P := hL 36 (by decide +kernel)
        have e37 : ρ (.tmp 37) = .agg #[.bool (n2), .int .i64 (e2), .int .u64 (dgl (s2) 0 : Nat), .int .u64 (dgl (s2) 1 : Nat), .int .u64 (dgl (s2) 2 : Nat), .int .u64 (dgl (s2) 3 : Nat), .int .u64 (dgl (s2) 4 : Nat), .int .u64 (dgl (s2) 5 : Nat), .int .u64 (dgl (s2) 6 : Nat), .int .u64 (dgl (s2) 7 : Nat)] := hL 37 (by decide +kernel)
        simp [go_sem, hc, hf, e36, e37]
        refine (HRB.out W).mono ?_
        rintro e w' ⟨rfl, hb⟩
        exact ⟨_, rfl, by first | exact hb | (subst hb; exact Below.refl _ _), rfl⟩
      refine gSt (gStep_on 15 34 false rfl rfl (by decide +kernel) (fun v w h => h) ?_) ?_
      · intro ρ W hC hc hf hL
        have e38 : ρ (.tmp 38) = .bool false := hL 38 (by decide +kernel)
        simp [go_sem, hc, hf, e38]
        exact ⟨Below.refl _ _, rfl⟩
      refine gSt (gStep_run rfl (gRun_pickCF 34 39 40 _ rfl rfl (by decide +kernel) (by decide +kernel) (fun v w h => h) (fun v w h => h))) ?_
      exact gSt0
    · intro W hC
      refine gFi 19 rfl ?_
      rintro _ rfl
      refine gFi 20 rfl ?_
      rintro _ rfl
      refine gFi 21 rfl ?_
      rintro _ rfl
      refine gFi 22 rfl ?_
      rintro _ rfl
      refine gFi 23 rfl ?_
      rintro _ rfl
      refine gFi 24 rfl ?_
      rintro _ rfl
      refine gFi 25 rfl ?_
      rintro _ rfl
      refine gFi 26 rfl ?_
      rintro _ rfl
      refine gFi 27 rfl ?_
      rintro _ rfl
      refine gFi 28 rfl ?_
      rintro _ rfl
      refine gFi 29 rfl ?_
      rintro _ rfl
      refine gFi 30 rfl ?_
      rintro _ rfl
      refine gFi 31 rfl ?_
      rintro _ rfl
      refine gFi 32 rfl ?_
      rintro _ rfl
      refine gFi 33 rfl ?_
      rintro _ rfl
      refine gFi 34 rfl ?_
      rintro _ rfl
      refine gFi 35 rfl ?_
      rintro _ rfl
      refine gFi 36 rfl ?_
      rintro _ rfl
      refine gFi 37 rfl ?_
      rintro _ rfl
      refine gFi 38 rfl ?_
      rintro _ rfl
      refine gFi 39 rfl ?_
      rintro _ rfl
      refine gFi 40 rfl ?_
      rintro _ rfl
      refine gFi0 ?_
      simp only [List.drop_succ_cons, List.drop_zero, Act.put, List.setIfInBounds_toArray, List.set_cons_succ, List.set_cons_zero]
      have HS := hide hC
      clear hC h2
      go_wp2_with fail
      refine (awake9_any _ HS.out.g).mono ?_
      rintro e w9 ⟨rfl, hb9⟩
      have HB := hide (below_trans HS.out.bel hb9)
      clear hb9 HS
      go_wp2
      go_ret
      exact ⟨rfl, HB.out⟩
      
    

set_option maxHeartbeats 8000000 in
theorem packOrder_S (f m e1 e2 P c fa fb : Int) (n1 n2 : Bool) (s1 s2 a b : Nat) (u v : ByteArray)
    (HI5 : Hid (∀ w, Calls Tryd.prog 12 #[.int .i64 f] w fun e w' => e = .returned (.bool true) ∧ Below w.heap.size w w'))
    (HI8 : Hid (∀ w, Calls Tryd.prog 20 #[.int .i64 m] w fun e w' => e = .returned (.bool true) ∧ Below w.heap.size w w'))
    (HPR : Hid (∀ w, Calls Tryd.prog 34 #[.int .i64 f] w fun e w' => e = .returned (.int .i64 P) ∧ Below w.heap.size w w'))
    (HRA : Hid (∀ w, Calls Tryd.prog 19 #[.int .i64 P, .agg #[.bool (n1), .int .i64 (e1), .int .u64 (dgl (s1) 0 : Nat), .int .u64 (dgl (s1) 1 : Nat), .int .u64 (dgl (s1) 2 : Nat), .int .u64 (dgl (s1) 3 : Nat), .int .u64 (dgl (s1) 4 : Nat), .int .u64 (dgl (s1) 5 : Nat), .int .u64 (dgl (s1) 6 : Nat), .int .u64 (dgl (s1) 7 : Nat)], .bool false] w fun e w' => e = .returned (.bool true) ∧ Below w.heap.size w w'))
    (HRB : Hid (∀ w, Calls Tryd.prog 19 #[.int .i64 P, .agg #[.bool (n2), .int .i64 (e2), .int .u64 (dgl (s2) 0 : Nat), .int .u64 (dgl (s2) 1 : Nat), .int .u64 (dgl (s2) 2 : Nat), .int .u64 (dgl (s2) 3 : Nat), .int .u64 (dgl (s2) 4 : Nat), .int .u64 (dgl (s2) 5 : Nat), .int .u64 (dgl (s2) 6 : Nat), .int .u64 (dgl (s2) 7 : Nat)], .bool false] w fun e w' => e = .returned (.bool true) ∧ Below w.heap.size w w'))
    (HCM : Hid (∀ w, Calls Tryd.prog 35 #[.agg #[.bool (n1), .int .i64 (e1), .int .u64 (dgl (s1) 0 : Nat), .int .u64 (dgl (s1) 1 : Nat), .int .u64 (dgl (s1) 2 : Nat), .int .u64 (dgl (s1) 3 : Nat), .int .u64 (dgl (s1) 4 : Nat), .int .u64 (dgl (s1) 5 : Nat), .int .u64 (dgl (s1) 6 : Nat), .int .u64 (dgl (s1) 7 : Nat)], .agg #[.bool (n2), .int .i64 (e2), .int .u64 (dgl (s2) 0 : Nat), .int .u64 (dgl (s2) 1 : Nat), .int .u64 (dgl (s2) 2 : Nat), .int .u64 (dgl (s2) 3 : Nat), .int .u64 (dgl (s2) 4 : Nat), .int .u64 (dgl (s2) 5 : Nat), .int .u64 (dgl (s2) 6 : Nat), .int .u64 (dgl (s2) 7 : Nat)]] w fun e w' => e = .returned (.int .i64 c) ∧ Below w.heap.size w w'))
    (hc : (0 : Int) < c)
    (HRX : Hid (∀ w, FmtG w → Calls Tryd.prog 33 #[.int .i64 f, .int .i64 m, .agg #[.bool (n2), .int .i64 (e2), .int .u64 (dgl (s2) 0 : Nat), .int .u64 (dgl (s2) 1 : Nat), .int .u64 (dgl (s2) 2 : Nat), .int .u64 (dgl (s2) 3 : Nat), .int .u64 (dgl (s2) 4 : Nat), .int .u64 (dgl (s2) 5 : Nat), .int .u64 (dgl (s2) 6 : Nat), .int .u64 (dgl (s2) 7 : Nat)], .bool false] w fun e w' => e = .returned (.tuple #[.agg #[.int .u64 (dgl (a) 1 : Nat), .int .u64 (dgl (a) 0 : Nat)], .int .i64 fa, .int .i64 0]) ∧ Below w.heap.size w w'))
    (HRY : Hid (∀ w, FmtG w → Calls Tryd.prog 33 #[.int .i64 f, .int .i64 m, .agg #[.bool (n1), .int .i64 (e1), .int .u64 (dgl (s1) 0 : Nat), .int .u64 (dgl (s1) 1 : Nat), .int .u64 (dgl (s1) 2 : Nat), .int .u64 (dgl (s1) 3 : Nat), .int .u64 (dgl (s1) 4 : Nat), .int .u64 (dgl (s1) 5 : Nat), .int .u64 (dgl (s1) 6 : Nat), .int .u64 (dgl (s1) 7 : Nat)], .bool false] w fun e w' => e = .returned (.tuple #[.agg #[.int .u64 (dgl (b) 1 : Nat), .int .u64 (dgl (b) 0 : Nat)], .int .i64 fb, .int .i64 0]) ∧ Below w.heap.size w w'))
    (HPX : Hid (∀ w, Calls Tryd.prog 36 #[.int .i64 f, .agg #[.int .u64 (dgl (a) 1 : Nat), .int .u64 (dgl (a) 0 : Nat)]] w fun e w' => e = .returned (.string u) ∧ Below w.heap.size w w'))
    (HPY : Hid (∀ w, Calls Tryd.prog 36 #[.int .i64 f, .agg #[.int .u64 (dgl (b) 1 : Nat), .int .u64 (dgl (b) 0 : Nat)]] w fun e w' => e = .returned (.string v) ∧ Below w.heap.size w w'))
    (hle : (Op.bytesLess u.toList v.toList || u.toList == v.toList) = true) (w : World) (hg : FmtG w) :
    Calls Tryd.prog 7 #[.agg #[.int .i64 f, .int .i64 m], .agg #[.bool (n1), .int .i64 (e1), .int .u64 (dgl (s1) 0 : Nat), .int .u64 (dgl (s1) 1 : Nat), .int .u64 (dgl (s1) 2 : Nat), .int .u64 (dgl (s1) 3 : Nat), .int .u64 (dgl (s1) 4 : Nat), .int .u64 (dgl (s1) 5 : Nat), .int .u64 (dgl (s1) 6 : Nat), .int .u64 (dgl (s1) 7 : Nat)], .agg #[.bool (n2), .int .i64 (e2), .int .u64 (dgl (s2) 0 : Nat), .int .u64 (dgl (s2) 1 : Nat), .int .u64 (dgl (s2) 2 : Nat), .int .u64 (dgl (s2) 3 : Nat), .int .u64 (dgl (s2) 4 : Nat), .int .u64 (dgl (s2) 5 : Nat), .int .u64 (dgl (s2) 6 : Nat), .int .u64 (dgl (s2) 7 : Nat)]] w fun e w' => e = .returned (.bool true) ∧ Below w.heap.size w w' := by
  have HS := hide (pkSt_start f m n1 e1 s1 n2 e2 s2 w hg 35)
  clear hg
  go_enter Tryd.func7, Tryd.ntmps7
  go_upto_region 1 with fail
  refine wp_gen (fun W => PkSt f m n1 e1 s1 n2 e2 s2 w W) HS.out ?_
  clear HS
  rintro W1 h1
  refine wp_region_grow 6 [(15, .val (.pointer (some ⟨w.heap.size, 0, none⟩))), (16, .val (.int .i64 f)), (17, .val (.pointer (some ⟨w.heap.size, 1, none⟩))), (18, .val (.int .i64 m)), (7, .val (.int .i64 f)), (8, .val (.int .i64 m))]
    (fun W => PkSt f m n1 e1 s1 n2 e2 s2 w W) mixedOk (by kernel_rfl) (by kernel_rfl) (h1.below (Below.refl _ _).drew) (fun W W' h hb => h.below hb) ?_ ?_
  · refine gSt (gStep_run rfl ?_) ?_
    · intro ρ W hC hc hf hL
      have e3 : ρ (.tmp 3) = .pointer (some ⟨w.heap.size, 0, none⟩) := hL 3 (by decide +kernel)
      have hl : w.heap.size < W.heap.size := by have := hC.lt; omega
      simp [go_sem, hc, hf, e3, hl]
      exact ⟨Below.refl _ _, rfl⟩
    refine gSt (gStep_run rfl ?_) ?_
    · intro ρ W hC hc hf hL
      have e15 : ρ (.tmp 15) = .pointer (some ⟨w.heap.size, 0, none⟩) := hL 15 (by decide +kernel)
      have q := hC.q0
      simp [go_sem, hc, hf, e15, q]
      exact ⟨Below.refl _ _, rfl⟩
    refine gSt (gStep_run rfl ?_) ?_
    · intro ρ W hC hc hf hL
      have e3 : ρ (.tmp 3) = .pointer (some ⟨w.heap.size, 0, none⟩) := hL 3 (by decide +kernel)
      have hl : w.heap.size < W.heap.size := by have := hC.lt; omega
      simp [go_sem, hc, hf, e3, hl]
      exact ⟨Below.refl _ _, rfl⟩
    refine gSt (gStep_run rfl ?_) ?_
    · intro ρ W hC hc hf hL
      have e17 : ρ (.tmp 17) = .pointer (some ⟨w.heap.size, 1, none⟩) := hL 17 (by decide +kernel)
      have q := hC.q1
      simp [go_sem, hc, hf, e17, q]
      exact ⟨Below.refl _ _, rfl⟩
    refine gSt (gStep_run rfl (gRun_move 16 7 (.inr rfl) rfl (by decide +kernel) (fun v w h => h))) ?_
    refine gSt (gStep_run rfl (gRun_move 18 8 (.inr rfl) rfl (by decide +kernel) (fun v w h => h))) ?_
    exact gSt0
  · intro W hC
    refine gFi 15 rfl ?_
    rintro _ rfl
    refine gFi 16 rfl ?_
    rintro _ rfl
    refine gFi 17 rfl ?_
    rintro _ rfl
    refine gFi 18 rfl ?_
    rintro _ rfl
    refine gFi 7 rfl ?_
    rintro _ rfl
    refine gFi 8 rfl ?_
    rintro _ rfl
    refine gFi0 ?_
    simp only [List.drop_succ_cons, List.drop_zero, Act.put, List.setIfInBounds_toArray, List.set_cons_succ, List.set_cons_zero]
    have HS := hide hC
    clear hC h1
    go_upto_region 2 with fail
    refine wp_gen (fun W => PkSt f m n1 e1 s1 n2 e2 s2 w W) HS.out ?_
    clear HS
    rintro W2 h2
    refine wp_region_grow 22 [(19, .val (.int .i64 f)), (20, .val (.bool true)), (21, .val (.bool false)), (22, .val (.bool false)), (23, .val (.int .i64 m)), (24, .val (.bool true)), (25, .val (.bool false)), (26, .val (.bool false)), (27, .val (.bool false)), (28, .val (.int .i64 f)), (29, .val (.int .i64 P)), (30, .val (.agg #[.bool (n1), .int .i64 (e1), .int .u64 (dgl (s1) 0 : Nat), .int .u64 (dgl (s1) 1 : Nat), .int .u64 (dgl (s1) 2 : Nat), .int .u64 (dgl (s1) 3 : Nat), .int .u64 (dgl (s1) 4 : Nat), .int .u64 (dgl (s1) 5 : Nat), .int .u64 (dgl (s1) 6 : Nat), .int .u64 (dgl (s1) 7 : Nat)])), (31, .val (.bool true)), (32, .val (.bool false)), (33, .val (.bool false)), (34, .val (.bool false)), (35, .val (.int .i64 f)), (36, .val (.int .i64 P)), (37, .val (.agg #[.bool (n2), .int .i64 (e2), .int .u64 (dgl (s2) 0 : Nat), .int .u64 (dgl (s2) 1 : Nat), .int .u64 (dgl (s2) 2 : Nat), .int .u64 (dgl (s2) 3 : Nat), .int .u64 (dgl (s2) 4 : Nat), .int .u64 (dgl (s2) 5 : Nat), .int .u64 (dgl (s2) 6 : Nat), .int .u64 (dgl (s2) 7 : Nat)])), (38, .val (.bool true)), (39, .val (.bool false)), (40, .val (.bool false))]
      (fun W => PkSt f m n1 e1 s1 n2 e2 s2 w W) mixedOk (by kernel_rfl) (by kernel_rfl) (h2.below (Below.refl _ _).drew) (fun W W' h hb => h.below hb) ?_ ?_
    · refine gSt (gStep_run rfl (gRun_move 7 19 (.inl rfl) rfl (by decide +kernel) (fun v w h => h))) ?_
      refine gSt (gStep_run rfl ?_) ?_
      · intro ρ W hC hc hf hL
        have e19 : ρ (.tmp 19) = .int .i64 f := hL 19 (by decide +kernel)
        simp [go_sem, hc, hf, e19]
        refine (HI5.out W).mono ?_
        rintro e w' ⟨rfl, hb⟩
        exact ⟨_, rfl, by first | exact hb | (subst hb; exact Below.refl _ _), rfl⟩
      refine gSt (gStep_run rfl ?_) ?_
      · intro ρ W hC hc hf hL
        have e20 : ρ (.tmp 20) = .bool true := hL 20 (by decide +kernel)
        simp [go_sem, hc, hf, e20]
        exact ⟨Below.refl _ _, rfl⟩
      refine gSt (gStep_run rfl (gRun_move 21 22 (.inl rfl) rfl (by decide +kernel) (fun v w h => h))) ?_
      refine gSt (gStep_on 3 22 false rfl rfl (by decide +kernel) (fun v w h => h) (gRun_move 8 23 (.inl rfl) rfl (by decide +kernel) (fun v w h => h))) ?_
      refine gSt (gStep_on 3 22 false rfl rfl (by decide +kernel) (fun v w h => h) ?_) ?_
      · intro ρ W hC hc hf hL
        have e23 : ρ (.tmp 23) = .int .i64 m := hL 23 (by decide +kernel)
        simp [go_sem, hc, hf, e23]
        refine (HI8.out W).mono ?_
        rintro e w' ⟨rfl, hb⟩
        exact ⟨_, rfl, by first | exact hb | (subst hb; exact Below.refl _ _), rfl⟩
      refine gSt (gStep_on 3 22 false rfl rfl (by decide +kernel) (fun v w h => h) ?_) ?_
      · intro ρ W hC hc hf hL
        have e24 : ρ (.tmp 24) = .bool true := hL 24 (by decide +kernel)
        simp [go_sem, hc, hf, e24]
        exact ⟨Below.refl _ _, rfl⟩
      refine gSt (gStep_run rfl (gRun_pickCF 22 25 26 _ rfl rfl (by decide +kernel) (by decide +kernel) (fun v w h => h) (fun v w h => h))) ?_
      refine gSt (gStep_run rfl (gRun_move 26 27 (.inl rfl) rfl (by decide +kernel) (fun v w h => h))) ?_
      refine gSt (gStep_on 8 27 false rfl rfl (by decide +kernel) (fun v w h => h) (gRun_move 7 28 (.inl rfl) rfl (by decide +kernel) (fun v w h => h))) ?_
      refine gSt (gStep_on 8 27 false rfl rfl (by decide +kernel) (fun v w h => h) ?_) ?_
      · intro ρ W hC hc hf hL
        have e28 : ρ (.tmp 28) = .int .i64 f := hL 28 (by decide +kernel)
        simp [go_sem, hc, hf, e28]
        refine (HPR.out W).mono ?_
        rintro e w' ⟨rfl, hb⟩
        exact ⟨_, rfl, by first | exact hb | (subst hb; exact Below.refl _ _), rfl⟩
      refine gSt (gStep_on 8 27 false rfl rfl (by decide +kernel) (fun v w h => h) ?_) ?_
      · intro ρ W hC hc hf hL
        have e4 : ρ (.tmp 4) = .pointer (some ⟨w.heap.size + 1, 0, none⟩) := hL 4 (by decide +kernel)
        have ln := hC.na.n
        have le := hC.na.e
        have l0 := hC.na.x0
        have l1 := hC.na.x1
        have l2 := hC.na.x2
        have l3 := hC.na.x3
        have l4 := hC.na.x4
        have l5 := hC.na.x5
        have l6 := hC.na.x6
        have l7 := hC.na.x7
        simp [go_sem, hc, hf, e4, ln, le, l0, l1, l2, l3, l4, l5, l6, l7]
        exact ⟨Below.refl _ _, rfl⟩
      refine gSt (gStep_on 8 27 false rfl rfl (by decide +kernel) (fun v w h => h) ?_) ?_
      · intro ρ W hC hc hf hL
        have e29 : ρ (.tmp 29) = .int .i64 P := hL 29 (by decide +kernel)
        have e30 : ρ (.tmp 30) = .agg #[.bool (n1), .int .i64 (e1), .int .u64 (dgl (s1) 0 : Nat), .int .u64 (dgl (s1) 1 : Nat), .int .u64 (dgl (s1) 2 : Nat), .int .u64 (dgl (s1) 3 : Nat), .int .u64 (dgl (s1) 4 : Nat), .int .u64 (dgl (s1) 5 : Nat), .int .u64 (dgl (s1) 6 : Nat), .int .u64 (dgl (s1) 7 : Nat)] := hL 30 (by decide +kernel)
        simp [go_sem, hc, hf, e29, e30]
        refine (HRA.out W).mono ?_
        rintro e w' ⟨rfl, hb⟩
        exact ⟨_, rfl, by first | exact hb | (subst hb; exact Below.refl _ _), rfl⟩
      refine gSt (gStep_on 8 27 false rfl rfl (by decide +kernel) (fun v w h => h) ?_) ?_
      · intro ρ W hC hc hf hL
        have e31 : ρ (.tmp 31) = .bool true := hL 31 (by decide +kernel)
        simp [go_sem, hc, hf, e31]
        exact ⟨Below.refl _ _, rfl⟩
      refine gSt (gStep_run rfl (gRun_pickCF 27 32 33 _ rfl rfl (by decide +kernel) (by decide +kernel) (fun v w h => h) (fun v w h => h))) ?_
      refine gSt (gStep_run rfl (gRun_move 33 34 (.inl rfl) rfl (by decide +kernel) (fun v w h => h))) ?_
      refine gSt (gStep_on 15 34 false rfl rfl (by decide +kernel) (fun v w h => h) (gRun_move 7 35 (.inl rfl) rfl (by decide +kernel) (fun v w h => h))) ?_
      refine gSt (gStep_on 15 34 false rfl rfl (by decide +kernel) (fun v w h => h) ?_) ?_
      · intro ρ W hC hc hf hL
        have e35 : ρ (.tmp 35) = .int .i64 f := hL 35 (by decide +kernel)
        simp [go_sem, hc, hf, e35]
        refine (HPR.out W).mono ?_
        rintro e w' ⟨rfl, hb⟩
        exact ⟨_, rfl, by first | exact hb | (subst hb; exact Below.refl _ _), rfl⟩
      refine gSt (gStep_on 15 34 false rfl rfl (by decide +kernel) (fun v w h => h) ?_) ?_
      · intro ρ W hC hc hf hL
        have e5 : ρ (.tmp 5) = .pointer (some ⟨w.heap.size + 2, 0, none⟩) := hL 5 (by decide +kernel)
        have ln := hC.nb.n
        have le := hC.nb.e
        have l0 := hC.nb.x0
        have l1 := hC.nb.x1
        have l2 := hC.nb.x2
        have l3 := hC.nb.x3
        have l4 := hC.nb.x4
        have l5 := hC.nb.x5
        have l6 := hC.nb.x6
        have l7 := hC.nb.x7
        simp [go_sem, hc, hf, e5, ln, le, l0, l1, l2, l3, l4, l5, l6, l7]
        exact ⟨Below.refl _ _, rfl⟩
      refine gSt (gStep_on 15 34 false rfl rfl (by decide +kernel) (fun v w h => h) ?_) ?_
      · intro ρ W hC hc hf hL
        have e36 : ρ (.tmp 36) = .int .i64 P := hL 36 (by decide +kernel)
        have e37 : ρ (.tmp 37) = .agg #[.bool (n2), .int .i64 (e2), .int .u64 (dgl (s2) 0 : Nat), .int .u64 (dgl (s2) 1 : Nat), .int .u64 (dgl (s2) 2 : Nat), .int .u64 (dgl (s2) 3 : Nat), .int .u64 (dgl (s2) 4 : Nat), .int .u64 (dgl (s2) 5 : Nat), .int .u64 (dgl (s2) 6 : Nat), .int .u64 (dgl (s2) 7 : Nat)] := hL 37 (by decide +kernel)
        simp [go_sem, hc, hf, e36, e37]
        refine (HRB.out W).mono ?_
        rintro e w' ⟨rfl, hb⟩
        exact ⟨_, rfl, by first | exact hb | (subst hb; exact Below.refl _ _), rfl⟩
      refine gSt (gStep_on 15 34 false rfl rfl (by decide +kernel) (fun v w h => h) ?_) ?_
      · intro ρ W hC hc hf hL
        have e38 : ρ (.tmp 38) = .bool true := hL 38 (by decide +kernel)
        simp [go_sem, hc, hf, e38]
        exact ⟨Below.refl _ _, rfl⟩
      refine gSt (gStep_run rfl (gRun_pickCF 34 39 40 _ rfl rfl (by decide +kernel) (by decide +kernel) (fun v w h => h) (fun v w h => h))) ?_
      exact gSt0
    · intro W hC
      refine gFi 19 rfl ?_
      rintro _ rfl
      refine gFi 20 rfl ?_
      rintro _ rfl
      refine gFi 21 rfl ?_
      rintro _ rfl
      refine gFi 22 rfl ?_
      rintro _ rfl
      refine gFi 23 rfl ?_
      rintro _ rfl
      refine gFi 24 rfl ?_
      rintro _ rfl
      refine gFi 25 rfl ?_
      rintro _ rfl
      refine gFi 26 rfl ?_
      rintro _ rfl
      refine gFi 27 rfl ?_
      rintro _ rfl
      refine gFi 28 rfl ?_
      rintro _ rfl
      refine gFi 29 rfl ?_
      rintro _ rfl
      refine gFi 30 rfl ?_
      rintro _ rfl
      refine gFi 31 rfl ?_
      rintro _ rfl
      refine gFi 32 rfl ?_
      rintro _ rfl
      refine gFi 33 rfl ?_
      rintro _ rfl
      refine gFi 34 rfl ?_
      rintro _ rfl
      refine gFi 35 rfl ?_
      rintro _ rfl
      refine gFi 36 rfl ?_
      rintro _ rfl
      refine gFi 37 rfl ?_
      rintro _ rfl
      refine gFi 38 rfl ?_
      rintro _ rfl
      refine gFi 39 rfl ?_
      rintro _ rfl
      refine gFi 40 rfl ?_
      rintro _ rfl
      refine gFi0 ?_
      simp only [List.drop_succ_cons, List.drop_zero, Act.put, List.setIfInBounds_toArray, List.set_cons_succ, List.set_cons_zero]
      have HS := hide hC
      clear hC h2
      have ln := HS.out.na.n
      have le := HS.out.na.e
      have l0 := HS.out.na.x0
      have l1 := HS.out.na.x1
      have l2 := HS.out.na.x2
      have l3 := HS.out.na.x3
      have l4 := HS.out.na.x4
      have l5 := HS.out.na.x5
      have l6 := HS.out.na.x6
      have l7 := HS.out.na.x7
      have yn := HS.out.nb.n
      have ye := HS.out.nb.e
      have y0 := HS.out.nb.x0
      have y1 := HS.out.nb.x1
      have y2 := HS.out.nb.x2
      have y3 := HS.out.nb.x3
      have y4 := HS.out.nb.x4
      have y5 := HS.out.nb.x5
      have y6 := HS.out.nb.x6
      have y7 := HS.out.nb.x7
      go_wp2_with fail
      refine (HCM.out _).mono ?_
      rintro e w2 ⟨rfl, hb2⟩
      replace HS := hide (HS.out.below hb2)
      clear hb2
      clear ln le l0 l1 l2 l3 l4 l5 l6 l7
      clear yn ye y0 y1 y2 y3 y4 y5 y6 y7
      have ln := HS.out.na.n
      have le := HS.out.na.e
      have l0 := HS.out.na.x0
      have l1 := HS.out.na.x1
      have l2 := HS.out.na.x2
      have l3 := HS.out.na.x3
      have l4 := HS.out.na.x4
      have l5 := HS.out.na.x5
      have l6 := HS.out.na.x6
      have l7 := HS.out.na.x7
      have yn := HS.out.nb.n
      have ye := HS.out.nb.e
      have y0 := HS.out.nb.x0
      have y1 := HS.out.nb.x1
      have y2 := HS.out.nb.x2
      have y3 := HS.out.nb.x3
      have y4 := HS.out.nb.x4
      have y5 := HS.out.nb.x5
      have y6 := HS.out.nb.x6
      have y7 := HS.out.nb.x7
      have HW := hide (pk_swap HS.out)
      have hl := HS.out.lt
      have hfa := HS.out.fa
      have hfb := HS.out.fb
      clear HS
      go_upto_region 6 with fail
      refine wp_gen (fun W => PkSt f m n2 e2 s2 n1 e1 s1 w W) HW.out ?_
      clear HW hl hfa hfb
      clear ln le l0 l1 l2 l3 l4 l5 l6 l7
      clear yn ye y0 y1 y2 y3 y4 y5 y6 y7
      rintro W3 h3
      have HS := hide h3
      clear h3
      have ln := HS.out.na.n
      have le := HS.out.na.e
      have l0 := HS.out.na.x0
      have l1 := HS.out.na.x1
      have l2 := HS.out.na.x2
      have l3 := HS.out.na.x3
      have l4 := HS.out.na.x4
      have l5 := HS.out.na.x5
      have l6 := HS.out.na.x6
      have l7 := HS.out.na.x7
      go_wp2_with fail
      refine (HRX.out _ HS.out.g).mono ?_
      rintro e w3 ⟨rfl, hb3⟩
      replace HS := hide (HS.out.below hb3)
      clear hb3
      clear ln le l0 l1 l2 l3 l4 l5 l6 l7
      go_upto_region 7 with fail
      refine wp_gen (fun W => PkSt f m n2 e2 s2 n1 e1 s1 w W ∧ WB W w3.heap.size (dgl a 1) (dgl a 0)) ⟨HS.out.below (below_allocs _ _), wb_new2 _ _ _ _⟩ ?_
      clear HS
      generalize w3.heap.size = p9 at *
      rintro W4 ⟨g1, g2⟩
      have HS := hide g1
      have HX := hide g2
      clear g1 g2
      have yn := HS.out.nb.n
      have ye := HS.out.nb.e
      have y0 := HS.out.nb.x0
      have y1 := HS.out.nb.x1
      have y2 := HS.out.nb.x2
      have y3 := HS.out.nb.x3
      have y4 := HS.out.nb.x4
      have y5 := HS.out.nb.x5
      have y6 := HS.out.nb.x6
      have y7 := HS.out.nb.x7
      go_wp2_with fail
      refine (HRY.out _ HS.out.g).mono ?_
      rintro e w4 ⟨rfl, hb4⟩
      replace HS := hide (HS.out.below hb4)
      replace HX := hide (HX.out.below hb4)
      clear hb4
      clear yn ye y0 y1 y2 y3 y4 y5 y6 y7
      go_upto_region 8 with fail
      refine wp_gen (fun W => PkSt f m n2 e2 s2 n1 e1 s1 w W ∧ WB W p9 (dgl a 1) (dgl a 0) ∧ WB W w4.heap.size (dgl b 1) (dgl b 0)) ⟨HS.out.below (below_allocs _ _), HX.out.below (below_allocs _ _), wb_new2 _ _ _ _⟩ ?_
      clear HS HX
      generalize w4.heap.size = p12 at *
      rintro W5 h5
      refine wp_region_grow 19 [(64, .val (.int .i64 0)), (65, .val (.bool true)), (66, .val (.bool true)), (67, .val (.int .i64 0)), (68, .val (.bool true)), (69, .val (.bool true)), (70, .val (.bool true)), (71, .val (.int .i64 f)), (72, .val (.agg #[.int .u64 (dgl (a) 1 : Nat), .int .u64 (dgl (a) 0 : Nat)])), (73, .val (.string u)), (74, .val (.int .i64 f)), (75, .val (.agg #[.int .u64 (dgl (b) 1 : Nat), .int .u64 (dgl (b) 0 : Nat)])), (76, .val (.string v)), (77, .val (.bool true)), (78, .val (.bool true)), (79, .val (.bool true)), (80, .val (.bool true)), (81, .val (.bool true)), (6, .val (.bool true))]
        (fun W => PkSt f m n2 e2 s2 n1 e1 s1 w W ∧ WB W p9 (dgl a 1) (dgl a 0) ∧ WB W p12 (dgl b 1) (dgl b 0)) mixedOk (by kernel_rfl) (by kernel_rfl) (⟨h5.1.below (Below.refl _ _).drew, h5.2.1.below (Below.refl _ _).drew, h5.2.2.below (Below.refl _ _).drew⟩) (fun W W' h hb => ⟨h.1.below hb, h.2.1.below hb, h.2.2.below hb⟩) ?_ ?_
      · refine gSt (gStep_run rfl (gRun_move 11 64 (.inl rfl) rfl (by decide +kernel) (fun v w h => h))) ?_
        refine gSt (gStep_run rfl ?_) ?_
        · intro ρ W hC hc hf hL
          have e64 : ρ (.tmp 64) = .int .i64 0 := hL 64 (by decide +kernel)
          simp [go_sem, hc, hf, e64]
          exact ⟨Below.refl _ _, rfl⟩
        refine gSt (gStep_run rfl (gRun_move 65 66 (.inl rfl) rfl (by decide +kernel) (fun v w h => h))) ?_
        refine gSt (gStep_on 2 66 true rfl rfl (by decide +kernel) (fun v w h => h) (gRun_move 14 67 (.inl rfl) rfl (by decide +kernel) (fun v w h => h))) ?_
        refine gSt (gStep_on 2 66 true rfl rfl (by decide +kernel) (fun v w h => h) ?_) ?_
        · intro ρ W hC hc hf hL
          have e67 : ρ (.tmp 67) = .int .i64 0 := hL 67 (by decide +kernel)
          simp [go_sem, hc, hf, e67]
          exact ⟨Below.refl _ _, rfl⟩
        refine gSt (gStep_run rfl (gRun_pickT 66 68 69 _ rfl rfl (by decide +kernel) (by decide +kernel) (fun v w h => h) (fun v w h => h))) ?_
        refine gSt (gStep_run rfl (gRun_move 69 70 (.inl rfl) rfl (by decide +kernel) (fun v w h => h))) ?_
        refine gSt (gStep_on 6 70 true rfl rfl (by decide +kernel) (fun v w h => h) (gRun_move 7 71 (.inl rfl) rfl (by decide +kernel) (fun v w h => h))) ?_
        refine gSt (gStep_on 6 70 true rfl rfl (by decide +kernel) (fun v w h => h) ?_) ?_
        · intro ρ W hC hc hf hL
          have e9 : ρ (.tmp 9) = .pointer (some ⟨p9, 0, none⟩) := hL 9 (by decide +kernel)
          have lh := hC.2.1.h
          have ll := hC.2.1.l
          simp [go_sem, hc, hf, e9, lh, ll]
          exact ⟨Below.refl _ _, rfl⟩
        refine gSt (gStep_on 6 70 true rfl rfl (by decide +kernel) (fun v w h => h) ?_) ?_
        · intro ρ W hC hc hf hL
          have e71 : ρ (.tmp 71) = .int .i64 f := hL 71 (by decide +kernel)
          have e72 : ρ (.tmp 72) = .agg #[.int .u64 (dgl (a) 1 : Nat), .int .u64 (dgl (a) 0 : Nat)] := hL 72 (by decide +kernel)
          simp [go_sem, hc, hf, e71, e72]
          refine (HPX.out W).mono ?_
          rintro e w' ⟨rfl, hb⟩
          exact ⟨_, rfl, by first | exact hb | (subst hb; exact Below.refl _ _), rfl⟩
        refine gSt (gStep_on 6 70 true rfl rfl (by decide +kernel) (fun v w h => h) (gRun_move 7 74 (.inl rfl) rfl (by decide +kernel) (fun v w h => h))) ?_
        refine gSt (gStep_on 6 70 true rfl rfl (by decide +kernel) (fun v w h => h) ?_) ?_
        · intro ρ W hC hc hf hL
          have e12 : ρ (.tmp 12) = .pointer (some ⟨p12, 0, none⟩) := hL 12 (by decide +kernel)
          have lh := hC.2.2.h
          have ll := hC.2.2.l
          simp [go_sem, hc, hf, e12, lh, ll]
          exact ⟨Below.refl _ _, rfl⟩
        refine gSt (gStep_on 6 70 true rfl rfl (by decide +kernel) (fun v w h => h) ?_) ?_
        · intro ρ W hC hc hf hL
          have e74 : ρ (.tmp 74) = .int .i64 f := hL 74 (by decide +kernel)
          have e75 : ρ (.tmp 75) = .agg #[.int .u64 (dgl (b) 1 : Nat), .int .u64 (dgl (b) 0 : Nat)] := hL 75 (by decide +kernel)
          simp [go_sem, hc, hf, e74, e75]
          refine (HPY.out W).mono ?_
          rintro e w' ⟨rfl, hb⟩
          exact ⟨_, rfl, by first | exact hb | (subst hb; exact Below.refl _ _), rfl⟩
        refine gSt (gStep_on 6 70 true rfl rfl (by decide +kernel) (fun v w h => h) ?_) ?_
        · intro ρ W hC hc hf hL
          have e73 : ρ (.tmp 73) = .string u := hL 73 (by decide +kernel)
          have e76 : ρ (.tmp 76) = .string v := hL 76 (by decide +kernel)
          simp [go_sem, hc, hf, e73, e76, Op.stringOp, hle]
          exact ⟨Below.refl _ _, rfl⟩
        refine gSt (gStep_run rfl (gRun_pickT 70 77 78 _ rfl rfl (by decide +kernel) (by decide +kernel) (fun v w h => h) (fun v w h => h))) ?_
        refine gSt (gStep_run rfl (gRun_move 78 79 (.inl rfl) rfl (by decide +kernel) (fun v w h => h))) ?_
        refine gSt (gStep_on 15 79 true rfl rfl (by decide +kernel) (fun v w h => h) ?_) ?_
        · intro ρ W hC hc hf hL
          simp [go_sem, hc, hf]
          refine (awake9_any W hC.1.g).mono ?_
          rintro e w' ⟨rfl, hb⟩
          exact ⟨_, rfl, by first | exact hb | (subst hb; exact Below.refl _ _), rfl⟩
        refine gSt (gStep_run rfl (gRun_pickT 79 80 81 _ rfl rfl (by decide +kernel) (by decide +kernel) (fun v w h => h) (fun v w h => h))) ?_
        refine gSt (gStep_run rfl (gRun_move 81 6 (.inr rfl) rfl (by decide +kernel) (fun v w h => h))) ?_
        exact gSt0
      · intro W hC
        refine gFi 64 rfl ?_
        rintro _ rfl
        refine gFi 65 rfl ?_
        rintro _ rfl
        refine gFi 66 rfl ?_
        rintro _ rfl
        refine gFi 67 rfl ?_
        rintro _ rfl
        refine gFi 68 rfl ?_
        rintro _ rfl
        refine gFi 69 rfl ?_
        rintro _ rfl
        refine gFi 70 rfl ?_
        rintro _ rfl
        refine gFi 71 rfl ?_
        rintro _ rfl
        refine gFi 72 rfl ?_
        rintro _ rfl
        refine gFi 73 rfl ?_
        rintro _ rfl
        refine gFi 74 rfl ?_
        rintro _ rfl
        refine gFi 75 rfl ?_
        rintro _ rfl
        refine gFi 76 rfl ?_
        rintro _ rfl
        refine gFi 77 rfl ?_
        rintro _ rfl
        refine gFi 78 rfl ?_
        rintro _ rfl
        refine gFi 79 rfl ?_
        rintro _ rfl
        refine gFi 80 rfl ?_
        rintro _ rfl
        refine gFi 81 rfl ?_
        rintro _ rfl
        refine gFi 6 rfl ?_
        rintro _ rfl
        refine gFi0 ?_
        simp only [List.drop_succ_cons, List.drop_zero, Act.put, List.setIfInBounds_toArray, List.set_cons_succ, List.set_cons_zero]
        have HB := hide hC.1.bel
        clear hC h5
        go_wp2
        go_ret
        exact ⟨rfl, HB.out⟩
        
      
    

set_option maxHeartbeats 8000000 in
theorem packOrder_N (f m e1 e2 P c fa fb : Int) (n1 n2 : Bool) (s1 s2 a b : Nat) (u v : ByteArray)
    (HI5 : Hid (∀ w, Calls Tryd.prog 12 #[.int .i64 f] w fun e w' => e = .returned (.bool true) ∧ Below w.heap.size w w'))
    (HI8 : Hid (∀ w, Calls Tryd.prog 20 #[.int .i64 m] w fun e w' => e = .returned (.bool true) ∧ Below w.heap.size w w'))
    (HPR : Hid (∀ w, Calls Tryd.prog 34 #[.int .i64 f] w fun e w' => e = .returned (.int .i64 P) ∧ Below w.heap.size w w'))
    (HRA : Hid (∀ w, Calls Tryd.prog 19 #[.int .i64 P, .agg #[.bool (n1), .int .i64 (e1), .int .u64 (dgl (s1) 0 : Nat), .int .u64 (dgl (s1) 1 : Nat), .int .u64 (dgl (s1) 2 : Nat), .int .u64 (dgl (s1) 3 : Nat), .int .u64 (dgl (s1) 4 : Nat), .int .u64 (dgl (s1) 5 : Nat), .int .u64 (dgl (s1) 6 : Nat), .int .u64 (dgl (s1) 7 : Nat)], .bool false] w fun e w' => e = .returned (.bool true) ∧ Below w.heap.size w w'))
    (HRB : Hid (∀ w, Calls Tryd.prog 19 #[.int .i64 P, .agg #[.bool (n2), .int .i64 (e2), .int .u64 (dgl (s2) 0 : Nat), .int .u64 (dgl (s2) 1 : Nat), .int .u64 (dgl (s2) 2 : Nat), .int .u64 (dgl (s2) 3 : Nat), .int .u64 (dgl (s2) 4 : Nat), .int .u64 (dgl (s2) 5 : Nat), .int .u64 (dgl (s2) 6 : Nat), .int .u64 (dgl (s2) 7 : Nat)], .bool false] w fun e w' => e = .returned (.bool true) ∧ Below w.heap.size w w'))
    (HCM : Hid (∀ w, Calls Tryd.prog 35 #[.agg #[.bool (n1), .int .i64 (e1), .int .u64 (dgl (s1) 0 : Nat), .int .u64 (dgl (s1) 1 : Nat), .int .u64 (dgl (s1) 2 : Nat), .int .u64 (dgl (s1) 3 : Nat), .int .u64 (dgl (s1) 4 : Nat), .int .u64 (dgl (s1) 5 : Nat), .int .u64 (dgl (s1) 6 : Nat), .int .u64 (dgl (s1) 7 : Nat)], .agg #[.bool (n2), .int .i64 (e2), .int .u64 (dgl (s2) 0 : Nat), .int .u64 (dgl (s2) 1 : Nat), .int .u64 (dgl (s2) 2 : Nat), .int .u64 (dgl (s2) 3 : Nat), .int .u64 (dgl (s2) 4 : Nat), .int .u64 (dgl (s2) 5 : Nat), .int .u64 (dgl (s2) 6 : Nat), .int .u64 (dgl (s2) 7 : Nat)]] w fun e w' => e = .returned (.int .i64 c) ∧ Below w.heap.size w w'))
    (hc : ¬ (0 : Int) < c)
    (HRX : Hid (∀ w, FmtG w → Calls Tryd.prog 33 #[.int .i64 f, .int .i64 m, .agg #[.bool (n1), .int .i64 (e1), .int .u64 (dgl (s1) 0 : Nat), .int .u64 (dgl (s1) 1 : Nat), .int .u64 (dgl (s1) 2 : Nat), .int .u64 (dgl (s1) 3 : Nat), .int .u64 (dgl (s1) 4 : Nat), .int .u64 (dgl (s1) 5 : Nat), .int .u64 (dgl (s1) 6 : Nat), .int .u64 (dgl (s1) 7 : Nat)], .bool false] w fun e w' => e = .returned (.tuple #[.agg #[.int .u64 (dgl (a) 1 : Nat), .int .u64 (dgl (a) 0 : Nat)], .int .i64 fa, .int .i64 0]) ∧ Below w.heap.size w w'))
    (HRY : Hid (∀ w, FmtG w → Calls Tryd.prog 33 #[.int .i64 f, .int .i64 m, .agg #[.bool (n2), .int .i64 (e2), .int .u64 (dgl (s2) 0 : Nat), .int .u64 (dgl (s2) 1 : Nat), .int .u64 (dgl (s2) 2 : Nat), .int .u64 (dgl (s2) 3 : Nat), .int .u64 (dgl (s2) 4 : Nat), .int .u64 (dgl (s2) 5 : Nat), .int .u64 (dgl (s2) 6 : Nat), .int .u64 (dgl (s2) 7 : Nat)], .bool false] w fun e w' => e = .returned (.tuple #[.agg #[.int .u64 (dgl (b) 1 : Nat), .int .u64 (dgl (b) 0 : Nat)], .int .i64 fb, .int .i64 0]) ∧ Below w.heap.size w w'))
    (HPX : Hid (∀ w, Calls Tryd.prog 36 #[.int .i64 f, .agg #[.int .u64 (dgl (a) 1 : Nat), .int .u64 (dgl (a) 0 : Nat)]] w fun e w' => e = .returned (.string u) ∧ Below w.heap.size w w'))
    (HPY : Hid (∀ w, Calls Tryd.prog 36 #[.int .i64 f, .agg #[.int .u64 (dgl (b) 1 : Nat), .int .u64 (dgl (b) 0 : Nat)]] w fun e w' => e = .returned (.string v) ∧ Below w.heap.size w w'))
    (hle : (Op.bytesLess u.toList v.toList || u.toList == v.toList) = true) (w : World) (hg : FmtG w) :
    Calls Tryd.prog 7 #[.agg #[.int .i64 f, .int .i64 m], .agg #[.bool (n1), .int .i64 (e1), .int .u64 (dgl (s1) 0 : Nat), .int .u64 (dgl (s1) 1 : Nat), .int .u64 (dgl (s1) 2 : Nat), .int .u64 (dgl (s1) 3 : Nat), .int .u64 (dgl (s1) 4 : Nat), .int .u64 (dgl (s1) 5 : Nat), .int .u64 (dgl (s1) 6 : Nat), .int .u64 (dgl (s1) 7 : Nat)], .agg #[.bool (n2), .int .i64 (e2), .int .u64 (dgl (s2) 0 : Nat), .int .u64 (dgl (s2) 1 : Nat), .int .u64 (dgl (s2) 2 : Nat), .int .u64 (dgl (s2) 3 : Nat), .int .u64 (dgl (s2) 4 : Nat), .int .u64 (dgl (s2) 5 : Nat), .int .u64 (dgl (s2) 6 : Nat), .int .u64 (dgl (s2) 7 : Nat)]] w fun e w' => e = .returned (.bool true) ∧ Below w.heap.size w w' := by
  have HS := hide (pkSt_start f m n1 e1 s1 n2 e2 s2 w hg 35)
  clear hg
  go_enter Tryd.func7, Tryd.ntmps7
  go_upto_region 1 with fail
  refine wp_gen (fun W => PkSt f m n1 e1 s1 n2 e2 s2 w W) HS.out ?_
  clear HS
  rintro W1 h1
  refine wp_region_grow 6 [(15, .val (.pointer (some ⟨w.heap.size, 0, none⟩))), (16, .val (.int .i64 f)), (17, .val (.pointer (some ⟨w.heap.size, 1, none⟩))), (18, .val (.int .i64 m)), (7, .val (.int .i64 f)), (8, .val (.int .i64 m))]
    (fun W => PkSt f m n1 e1 s1 n2 e2 s2 w W) mixedOk (by kernel_rfl) (by kernel_rfl) (h1.below (Below.refl _ _).drew) (fun W W' h hb => h.below hb) ?_ ?_
  · refine gSt (gStep_run rfl ?_) ?_
    · intro ρ W hC hc hf hL
      have e3 : ρ (.tmp 3) = .pointer (some ⟨w.heap.size, 0, none⟩) := hL 3 (by decide +kernel)
      have hl : w.heap.size < W.heap.size := by have := hC.lt; omega
      simp [go_sem, hc, hf, e3, hl]
      exact ⟨Below.refl _ _, rfl⟩
    refine gSt (gStep_run rfl ?_) ?_
    · intro ρ W hC hc hf hL
      have e15 : ρ (.tmp 15) = .pointer (some ⟨w.heap.size, 0, none⟩) := hL 15 (by decide +kernel)
      have q := hC.q0
      simp [go_sem, hc, hf, e15, q]
      exact ⟨Below.refl _ _, rfl⟩
    refine gSt (gStep_run rfl ?_) ?_
    · intro ρ W hC hc hf hL
      have e3 : ρ (.tmp 3) = .pointer (some ⟨w.heap.size, 0, none⟩) := hL 3 (by decide +kernel)
      have hl : w.heap.size < W.heap.size := by have := hC.lt; omega
      simp [go_sem, hc, hf, e3, hl]
      exact ⟨Below.refl _ _, rfl⟩
    refine gSt (gStep_run rfl ?_) ?_
    · intro ρ W hC hc hf hL
      have e17 : ρ (.tmp 17) = .pointer (some ⟨w.heap.size, 1, none⟩) := hL 17 (by decide +kernel)
      have q := hC.q1
      simp [go_sem, hc, hf, e17, q]
      exact ⟨Below.refl _ _, rfl⟩
    refine gSt (gStep_run rfl (gRun_move 16 7 (.inr rfl) rfl (by decide +kernel) (fun v w h => h))) ?_
    refine gSt (gStep_run rfl (gRun_move 18 8 (.inr rfl) rfl (by decide +kernel) (fun v w h => h))) ?_
    exact gSt0
  · intro W hC
    refine gFi 15 rfl ?_
    rintro _ rfl
    refine gFi 16 rfl ?_
    rintro _ rfl
    refine gFi 17 rfl ?_
    rintro _ rfl
    refine gFi 18 rfl ?_
    rintro _ rfl
    refine gFi 7 rfl ?_
    rintro _ rfl
    refine gFi 8 rfl ?_
    rintro _ rfl
    refine gFi0 ?_
    simp only [List.drop_succ_cons, List.drop_zero, Act.put, List.setIfInBounds_toArray, List.set_cons_succ, List.set_cons_zero]
    have HS := hide hC
    clear hC h1
    go_upto_region 2 with fail
    refine wp_gen (fun W => PkSt f m n1 e1 s1 n2 e2 s2 w W) HS.out ?_
    clear HS
    rintro W2 h2
    refine wp_region_grow 22 [(19, .val (.int .i64 f)), (20, .val (.bool true)), (21, .val (.bool false)), (22, .val (.bool false)), (23, .val (.int .i64 m)), (24, .val (.bool true)), (25, .val (.bool false)), (26, .val (.bool false)), (27, .val (.bool false)), (28, .val (.int .i64 f)), (29, .val (.int .i64 P)), (30, .val (.agg #[.bool (n1), .int .i64 (e1), .int .u64 (dgl (s1) 0 : Nat), .int .u64 (dgl (s1) 1 : Nat), .int .u64 (dgl (s1) 2 : Nat), .int .u64 (dgl (s1) 3 : Nat), .int .u64 (dgl (s1) 4 : Nat), .int .u64 (dgl (s1) 5 : Nat), .int .u64 (dgl (s1) 6 : Nat), .int .u64 (dgl (s1) 7 : Nat)])), (31, .val (.bool true)), (32, .val (.bool false)), (33, .val (.bool false)), (34, .val (.bool false)), (35, .val (.int .i64 f)), (36, .val (.int .i64 P)), (37, .val (.agg #[.bool (n2), .int .i64 (e2), .int .u64 (dgl (s2) 0 : Nat), .int .u64 (dgl (s2) 1 : Nat), .int .u64 (dgl (s2) 2 : Nat), .int .u64 (dgl (s2) 3 : Nat), .int .u64 (dgl (s2) 4 : Nat), .int .u64 (dgl (s2) 5 : Nat), .int .u64 (dgl (s2) 6 : Nat), .int .u64 (dgl (s2) 7 : Nat)])), (38, .val (.bool true)), (39, .val (.bool false)), (40, .val (.bool false))]
      (fun W => PkSt f m n1 e1 s1 n2 e2 s2 w W) mixedOk (by kernel_rfl) (by kernel_rfl) (h2.below (Below.refl _ _).drew) (fun W W' h hb => h.below hb) ?_ ?_
    · refine gSt (gStep_run rfl (gRun_move 7 19 (.inl rfl) rfl (by decide +kernel) (fun v w h => h))) ?_
      refine gSt (gStep_run rfl ?_) ?_
      · intro ρ W hC hc hf hL
        have e19 : ρ (.tmp 19) = .int .i64 f := hL 19 (by decide +kernel)
        simp [go_sem, hc, hf, e19]
        refine (HI5.out W).mono ?_
        rintro e w' ⟨rfl, hb⟩
        exact ⟨_, rfl, by first | exact hb | (subst hb; exact Below.refl _ _), rfl⟩
      refine gSt (gStep_run rfl ?_) ?_
      · intro ρ W hC hc hf hL
        have e20 : ρ (.tmp 20) = .bool true := hL 20 (by decide +kernel)
        simp [go_sem, hc, hf, e20]
        exact ⟨Below.refl _ _, rfl⟩
      refine gSt (gStep_run rfl (gRun_move 21 22 (.inl rfl) rfl (by decide +kernel) (fun v w h => h))) ?_
      refine gSt (gStep_on 3 22 false rfl rfl (by decide +kernel) (fun v w h => h) (gRun_move 8 23 (.inl rfl) rfl (by decide +kernel) (fun v w h => h))) ?_
      refine gSt (gStep_on 3 22 false rfl rfl (by decide +kernel) (fun v w h => h) ?_) ?_
      · intro ρ W hC hc hf hL
        have e23 : ρ (.tmp 23) = .int .i64 m := hL 23 (by decide +kernel)
        simp [go_sem, hc, hf, e23]
        refine (HI8.out W).mono ?_
        rintro e w' ⟨rfl, hb⟩
        exact ⟨_, rfl, by first | exact hb | (subst hb; exact Below.refl _ _), rfl⟩
      refine gSt (gStep_on 3 22 false rfl rfl (by decide +kernel) (fun v w h => h) ?_) ?_
      · intro ρ W hC hc hf hL
        have e24 : ρ (.tmp 24) = .bool true := hL 24 (by decide +kernel)
        simp [go_sem, hc, hf, e24]
        exact ⟨Below.refl _ _, rfl⟩
      refine gSt (gStep_run rfl (gRun_pickCF 22 25 26 _ rfl rfl (by decide +kernel) (by decide +kernel) (fun v w h => h) (fun v w h => h))) ?_
      refine gSt (gStep_run rfl (gRun_move 26 27 (.inl rfl) rfl (by decide +kernel) (fun v w h => h))) ?_
      refine gSt (gStep_on 8 27 false rfl rfl (by decide +kernel) (fun v w h => h) (gRun_move 7 28 (.inl rfl) rfl (by decide +kernel) (fun v w h => h))) ?_
      refine gSt (gStep_on 8 27 false rfl rfl (by decide +kernel) (fun v w h => h) ?_) ?_
      · intro ρ W hC hc hf hL
        have e28 : ρ (.tmp 28) = .int .i64 f := hL 28 (by decide +kernel)
        simp [go_sem, hc, hf, e28]
        refine (HPR.out W).mono ?_
        rintro e w' ⟨rfl, hb⟩
        exact ⟨_, rfl, by first | exact hb | (subst hb; exact Below.refl _ _), rfl⟩
      refine gSt (gStep_on 8 27 false rfl rfl (by decide +kernel) (fun v w h => h) ?_) ?_
      · intro ρ W hC hc hf hL
        have e4 : ρ (.tmp 4) = .pointer (some ⟨w.heap.size + 1, 0, none⟩) := hL 4 (by decide +kernel)
        have ln := hC.na.n
        have le := hC.na.e
        have l0 := hC.na.x0
        have l1 := hC.na.x1
        have l2 := hC.na.x2
        have l3 := hC.na.x3
        have l4 := hC.na.x4
        have l5 := hC.na.x5
        have l6 := hC.na.x6
        have l7 := hC.na.x7
        simp [go_sem, hc, hf, e4, ln, le, l0, l1, l2, l3, l4, l5, l6, l7]
        exact ⟨Below.refl _ _, rfl⟩
      refine gSt (gStep_on 8 27 false rfl rfl (by decide +kernel) (fun v w h => h) ?_) ?_
      · intro ρ W hC hc hf hL
        have e29 : ρ (.tmp 29) = .int .i64 P := hL 29 (by decide +kernel)
        have e30 : ρ (.tmp 30) = .agg #[.bool (n1), .int .i64 (e1), .int .u64 (dgl (s1) 0 : Nat), .int .u64 (dgl (s1) 1 : Nat), .int .u64 (dgl (s1) 2 : Nat), .int .u64 (dgl (s1) 3 : Nat), .int .u64 (dgl (s1) 4 : Nat), .int .u64 (dgl (s1) 5 : Nat), .int .u64 (dgl (s1) 6 : Nat), .int .u64 (dgl (s1) 7 : Nat)] := hL 30 (by decide +kernel)
        simp [go_sem, hc, hf, e29, e30]
        refine (HRA.out W).mono ?_
        rintro e w' ⟨rfl, hb⟩
        exact ⟨_, rfl, by first | exact hb | (subst hb; exact Below.refl _ _), rfl⟩
      refine gSt (gStep_on 8 27 false rfl rfl (by decide +kernel) (fun v w h => h) ?_) ?_
      · intro ρ W hC hc hf hL
        have e31 : ρ (.tmp 31) = .bool true := hL 31 (by decide +kernel)
        simp [go_sem, hc, hf, e31]
        exact ⟨Below.refl _ _, rfl⟩
      refine gSt (gStep_run rfl (gRun_pickCF 27 32 33 _ rfl rfl (by decide +kernel) (by decide +kernel) (fun v w h => h) (fun v w h => h))) ?_
      refine gSt (gStep_run rfl (gRun_move 33 34 (.inl rfl) rfl (by decide +kernel) (fun v w h => h))) ?_
      refine gSt (gStep_on 15 34 false rfl rfl (by decide +kernel) (fun v w h => h) (gRun_move 7 35 (.inl rfl) rfl (by decide +kernel) (fun v w h => h))) ?_
      refine gSt (gStep_on 15 34 false rfl rfl (by decide +kernel) (fun v w h => h) ?_) ?_
      · intro ρ W hC hc hf hL
        have e35 : ρ (.tmp 35) = .int .i64 f := hL 35 (by decide +kernel)
        simp [go_sem, hc, hf, e35]
        refine (HPR.out W).mono ?_
        rintro e w' ⟨rfl, hb⟩
        exact ⟨_, rfl, by first | exact hb | (subst hb; exact Below.refl _ _), rfl⟩
      refine gSt (gStep_on 15 34 false rfl rfl (by decide +kernel) (fun v w h => h) ?_) ?_
      · intro ρ W hC hc hf hL
        have e5 : ρ (.tmp 5) = .pointer (some ⟨w.heap.size + 2, 0, none⟩) := hL 5 (by decide +kernel)
        have ln := hC.nb.n
        have le := hC.nb.e
        have l0 := hC.nb.x0
        have l1 := hC.nb.x1
        have l2 := hC.nb.x2
        have l3 := hC.nb.x3
        have l4 := hC.nb.x4
        have l5 := hC.nb.x5
        have l6 := hC.nb.x6
        have l7 := hC.nb.x7
        simp [go_sem, hc, hf, e5, ln, le, l0, l1, l2, l3, l4, l5, l6, l7]
        exact ⟨Below.refl _ _, rfl⟩
      refine gSt (gStep_on 15 34 false rfl rfl (by decide +kernel) (fun v w h => h) ?_) ?_
      · intro ρ W hC hc hf hL
        have e36 : ρ (.tmp 36) = .int .i64 P := hL 36 (by decide +kernel)
        have e37 : ρ (.tmp 37) = .agg #[.bool (n2), .int .i64 (e2), .int .u64 (dgl (s2) 0 : Nat), .int .u64 (dgl (s2) 1 : Nat), .int .u64 (dgl (s2) 2 : Nat), .int .u64 (dgl (s2) 3 : Nat), .int .u64 (dgl (s2) 4 : Nat), .int .u64 (dgl (s2) 5 : Nat), .int .u64 (dgl (s2) 6 : Nat), .int .u64 (dgl (s2) 7 : Nat)] := hL 37 (by decide +kernel)
        simp [go_sem, hc, hf, e36, e37]
        refine (HRB.out W).mono ?_
        rintro e w' ⟨rfl, hb⟩
        exact ⟨_, rfl, by first | exact hb | (subst hb; exact Below.refl _ _), rfl⟩
      refine gSt (gStep_on 15 34 false rfl rfl (by decide +kernel) (fun v w h => h) ?_) ?_
      · intro ρ W hC hc hf hL
        have e38 : ρ (.tmp 38) = .bool true := hL 38 (by decide +kernel)
        simp [go_sem, hc, hf, e38]
        exact ⟨Below.refl _ _, rfl⟩
      refine gSt (gStep_run rfl (gRun_pickCF 34 39 40 _ rfl rfl (by decide +kernel) (by decide +kernel) (fun v w h => h) (fun v w h => h))) ?_
      exact gSt0
    · intro W hC
      refine gFi 19 rfl ?_
      rintro _ rfl
      refine gFi 20 rfl ?_
      rintro _ rfl
      refine gFi 21 rfl ?_
      rintro _ rfl
      refine gFi 22 rfl ?_
      rintro _ rfl
      refine gFi 23 rfl ?_
      rintro _ rfl
      refine gFi 24 rfl ?_
      rintro _ rfl
      refine gFi 25 rfl ?_
      rintro _ rfl
      refine gFi 26 rfl ?_
      rintro _ rfl
      refine gFi 27 rfl ?_
      rintro _ rfl
      refine gFi 28 rfl ?_
      rintro _ rfl
      refine gFi 29 rfl ?_
      rintro _ rfl
      refine gFi 30 rfl ?_
      rintro _ rfl
      refine gFi 31 rfl ?_
      rintro _ rfl
      refine gFi 32 rfl ?_
      rintro _ rfl
      refine gFi 33 rfl ?_
      rintro _ rfl
      refine gFi 34 rfl ?_
      rintro _ rfl
      refine gFi 35 rfl ?_
      rintro _ rfl
      refine gFi 36 rfl ?_
      rintro _ rfl
      refine gFi 37 rfl ?_
      rintro _ rfl
      refine gFi 38 rfl ?_
      rintro _ rfl
      refine gFi 39 rfl ?_
      rintro _ rfl
      refine gFi 40 rfl ?_
      rintro _ rfl
      refine gFi0 ?_
      simp only [List.drop_succ_cons, List.drop_zero, Act.put, List.setIfInBounds_toArray, List.set_cons_succ, List.set_cons_zero]
      have HS := hide hC
      clear hC h2
      have ln := HS.out.na.n
      have le := HS.out.na.e
      have l0 := HS.out.na.x0
      have l1 := HS.out.na.x1
      have l2 := HS.out.na.x2
      have l3 := HS.out.na.x3
      have l4 := HS.out.na.x4
      have l5 := HS.out.na.x5
      have l6 := HS.out.na.x6
      have l7 := HS.out.na.x7
      have yn := HS.out.nb.n
      have ye := HS.out.nb.e
      have y0 := HS.out.nb.x0
      have y1 := HS.out.nb.x1
      have y2 := HS.out.nb.x2
      have y3 := HS.out.nb.x3
      have y4 := HS.out.nb.x4
      have y5 := HS.out.nb.x5
      have y6 := HS.out.nb.x6
      have y7 := HS.out.nb.x7
      go_wp2_with fail
      refine (HCM.out _).mono ?_
      rintro e w2 ⟨rfl, hb2⟩
      replace HS := hide (HS.out.below hb2)
      clear hb2
      clear ln le l0 l1 l2 l3 l4 l5 l6 l7
      clear yn ye y0 y1 y2 y3 y4 y5 y6 y7
      have ln := HS.out.na.n
      have le := HS.out.na.e
      have l0 := HS.out.na.x0
      have l1 := HS.out.na.x1
      have l2 := HS.out.na.x2
      have l3 := HS.out.na.x3
      have l4 := HS.out.na.x4
      have l5 := HS.out.na.x5
      have l6 := HS.out.na.x6
      have l7 := HS.out.na.x7
      go_wp2_with fail
      refine (HRX.out _ HS.out.g).mono ?_
      rintro e w3 ⟨rfl, hb3⟩
      replace HS := hide (HS.out.below hb3)
      clear hb3
      clear ln le l0 l1 l2 l3 l4 l5 l6 l7
      go_upto_region 7 with fail
      refine wp_gen (fun W => PkSt f m n1 e1 s1 n2 e2 s2 w W ∧ WB W w3.heap.size (dgl a 1) (dgl a 0)) ⟨HS.out.below (below_allocs _ _), wb_new2 _ _ _ _⟩ ?_
      clear HS
      generalize w3.heap.size = p9 at *
      rintro W4 ⟨g1, g2⟩
      have HS := hide g1
      have HX := hide g2
      clear g1 g2
      have yn := HS.out.nb.n
      have ye := HS.out.nb.e
      have y0 := HS.out.nb.x0
      have y1 := HS.out.nb.x1
      have y2 := HS.out.nb.x2
      have y3 := HS.out.nb.x3
      have y4 := HS.out.nb.x4
      have y5 := HS.out.nb.x5
      have y6 := HS.out.nb.x6
      have y7 := HS.out.nb.x7
      go_wp2_with fail
      refine (HRY.out _ HS.out.g).mono ?_
      rintro e w4 ⟨rfl, hb4⟩
      replace HS := hide (HS.out.below hb4)
      replace HX := hide (HX.out.below hb4)
      clear hb4
      clear yn ye y0 y1 y2 y3 y4 y5 y6 y7
      go_upto_region 8 with fail
      refine wp_gen (fun W => PkSt f m n1 e1 s1 n2 e2 s2 w W ∧ WB W p9 (dgl a 1) (dgl a 0) ∧ WB W w4.heap.size (dgl b 1) (dgl b 0)) ⟨HS.out.below (below_allocs _ _), HX.out.below (below_allocs _ _), wb_new2 _ _ _ _⟩ ?_
      clear HS HX
      generalize w4.heap.size = p12 at *
      rintro W5 h5
      refine wp_region_grow 19 [(64, .val (.int .i64 0)), (65, .val (.bool true)), (66, .val (.bool true)), (67, .val (.int .i64 0)), (68, .val (.bool true)), (69, .val (.bool true)), (70, .val (.bool true)), (71, .val (.int .i64 f)), (72, .val (.agg #[.int .u64 (dgl (a) 1 : Nat), .int .u64 (dgl (a) 0 : Nat)])), (73, .val (.string u)), (74, .val (.int .i64 f)), (75, .val (.agg #[.int .u64 (dgl (b) 1 : Nat), .int .u64 (dgl (b) 0 : Nat)])), (76, .val (.string v)), (77, .val (.bool true)), (78, .val (.bool true)), (79, .val (.bool true)), (80, .val (.bool true)), (81, .val (.bool true)), (6, .val (.bool true))]
        (fun W => PkSt f m n1 e1 s1 n2 e2 s2 w W ∧ WB W p9 (dgl a 1) (dgl a 0) ∧ WB W p12 (dgl b 1) (dgl b 0)) mixedOk (by kernel_rfl) (by kernel_rfl) (⟨h5.1.below (Below.refl _ _).drew, h5.2.1.below (Below.refl _ _).drew, h5.2.2.below (Below.refl _ _).drew⟩) (fun W W' h hb => ⟨h.1.below hb, h.2.1.below hb, h.2.2.below hb⟩) ?_ ?_
      · refine gSt (gStep_run rfl (gRun_move 11 64 (.inl rfl) rfl (by decide +kernel) (fun v w h => h))) ?_
        refine gSt (gStep_run rfl ?_) ?_
        · intro ρ W hC hc hf hL
          have e64 : ρ (.tmp 64) = .int .i64 0 := hL 64 (by decide +kernel)
          simp [go_sem, hc, hf, e64]
          exact ⟨Below.refl _ _, rfl⟩
        refine gSt (gStep_run rfl (gRun_move 65 66 (.inl rfl) rfl (by decide +kernel) (fun v w h => h))) ?_
        refine gSt (gStep_on 2 66 true rfl rfl (by decide +kernel) (fun v w h => h) (gRun_move 14 67 (.inl rfl) rfl (by decide +kernel) (fun v w h => h))) ?_
        refine gSt (gStep_on 2 66 true rfl rfl (by decide +kernel) (fun v w h => h) ?_) ?_
        · intro ρ W hC hc hf hL
          have e67 : ρ (.tmp 67) = .int .i64 0 := hL 67 (by decide +kernel)
          simp [go_sem, hc, hf, e67]
          exact ⟨Below.refl _ _, rfl⟩
        refine gSt (gStep_run rfl (gRun_pickT 66 68 69 _ rfl rfl (by decide +kernel) (by decide +kernel) (fun v w h => h) (fun v w h => h))) ?_
        refine gSt (gStep_run rfl (gRun_move 69 70 (.inl rfl) rfl (by decide +kernel) (fun v w h => h))) ?_
        refine gSt (gStep_on 6 70 true rfl rfl (by decide +kernel) (fun v w h => h) (gRun_move 7 71 (.inl rfl) rfl (by decide +kernel) (fun v w h => h))) ?_
        refine gSt (gStep_on 6 70 true rfl rfl (by decide +kernel) (fun v w h => h) ?_) ?_
        · intro ρ W hC hc hf hL
          have e9 : ρ (.tmp 9) = .pointer (some ⟨p9, 0, none⟩) := hL 9 (by decide +kernel)
          have lh := hC.2.1.h
          have ll := hC.2.1.l
          simp [go_sem, hc, hf, e9, lh, ll]
          exact ⟨Below.refl _ _, rfl⟩
        refine gSt (gStep_on 6 70 true rfl rfl (by decide +kernel) (fun v w h => h) ?_) ?_
        · intro ρ W hC hc hf hL
          have e71 : ρ (.tmp 71) = .int .i64 f := hL 71 (by decide +kernel)
          have e72 : ρ (.tmp 72) = .agg #[.int .u64 (dgl (a) 1 : Nat), .int .u64 (dgl (a) 0 : Nat)] := hL 72 (by decide +kernel)
          simp [go_sem, hc, hf, e71, e72]
          refine (HPX.out W).mono ?_
          rintro e w' ⟨rfl, hb⟩
          exact ⟨_, rfl, by first | exact hb | (subst hb; exact Below.refl _ _), rfl⟩
        refine gSt (gStep_on 6 70 true rfl rfl (by decide +kernel) (fun v w h => h) (gRun_move 7 74 (.inl rfl) rfl (by decide +kernel) (fun v w h => h))) ?_
        refine gSt (gStep_on 6 70 true rfl rfl (by decide +kernel) (fun v w h => h) ?_) ?_
        · intro ρ W hC hc hf hL
          have e12 : ρ (.tmp 12) = .pointer (some ⟨p12, 0, none⟩) := hL 12 (by decide +kernel)
          have lh := hC.2.2.h
          have ll := hC.2.2.l
          simp [go_sem, hc, hf, e12, lh, ll]
          exact ⟨Below.refl _ _, rfl⟩
        refine gSt (gStep_on 6 70 true rfl rfl (by decide +kernel) (fun v w h => h) ?_) ?_
        · intro ρ W hC hc hf hL
          have e74 : ρ (.tmp 74) = .int .i64 f := hL 74 (by decide +kernel)
          have e75 : ρ (.tmp 75) = .agg #[.int .u64 (dgl (b) 1 : Nat), .int .u64 (dgl (b) 0 : Nat)] := hL 75 (by decide +kernel)
          simp [go_sem, hc, hf, e74, e75]
          refine (HPY.out W).mono ?_
          rintro e w' ⟨rfl, hb⟩
          exact ⟨_, rfl, by first | exact hb | (subst hb; exact Below.refl _ _), rfl⟩
        refine gSt (gStep_on 6 70 true rfl rfl (by decide +kernel) (fun v w h => h) ?_) ?_
        · intro ρ W hC hc hf hL
          have e73 : ρ (.tmp 73) = .string u := hL 73 (by decide +kernel)
          have e76 : ρ (.tmp 76) = .string v := hL 76 (by decide +kernel)
          simp [go_sem, hc, hf, e73, e76, Op.stringOp, hle]
          exact ⟨Below.refl _ _, rfl⟩
        refine gSt (gStep_run rfl (gRun_pickT 70 77 78 _ rfl rfl (by decide +kernel) (by decide +kernel) (fun v w h => h) (fun v w h => h))) ?_
        refine gSt (gStep_run rfl (gRun_move 78 79 (.inl rfl) rfl (by decide +kernel) (fun v w h => h))) ?_
        refine gSt (gStep_on 15 79 true rfl rfl (by decide +kernel) (fun v w h => h) ?_) ?_
        · intro ρ W hC hc hf hL
          simp [go_sem, hc, hf]
          refine (awake9_any W hC.1.g).mono ?_
          rintro e w' ⟨rfl, hb⟩
          exact ⟨_, rfl, by first | exact hb | (subst hb; exact Below.refl _ _), rfl⟩
        refine gSt (gStep_run rfl (gRun_pickT 79 80 81 _ rfl rfl (by decide +kernel) (by decide +kernel) (fun v w h => h) (fun v w h => h))) ?_
        refine gSt (gStep_run rfl (gRun_move 81 6 (.inr rfl) rfl (by decide +kernel) (fun v w h => h))) ?_
        exact gSt0
      · intro W hC
        refine gFi 64 rfl ?_
        rintro _ rfl
        refine gFi 65 rfl ?_
        rintro _ rfl
        refine gFi 66 rfl ?_
        rintro _ rfl
        refine gFi 67 rfl ?_
        rintro _ rfl
        refine gFi 68 rfl ?_
        rintro _ rfl
        refine gFi 69 rfl ?_
        rintro _ rfl
        refine gFi 70 rfl ?_
        rintro _ rfl
        refine gFi 71 rfl ?_
        rintro _ rfl
        refine gFi 72 rfl ?_
        rintro _ rfl
        refine gFi 73 rfl ?_
        rintro _ rfl
        refine gFi 74 rfl ?_
        rintro _ rfl
        refine gFi 75 rfl ?_
        rintro _ rfl
        refine gFi 76 rfl ?_
        rintro _ rfl
        refine gFi 77 rfl ?_
        rintro _ rfl
        refine gFi 78 rfl ?_
        rintro _ rfl
        refine gFi 79 rfl ?_
        rintro _ rfl
        refine gFi 80 rfl ?_
        rintro _ rfl
        refine gFi 81 rfl ?_
        rintro _ rfl
        refine gFi 6 rfl ?_
        rintro _ rfl
        refine gFi0 ?_
        simp only [List.drop_succ_cons, List.drop_zero, Act.put, List.setIfInBounds_toArray, List.set_cons_succ, List.set_cons_zero]
        have HB := hide hC.1.bel
        clear hC h5
        go_wp2
        go_ret
        exact ⟨rfl, HB.out⟩
        
      
    

end Go.Proofs.YtpcjdllijkjdkaaDoor

/- PackOrder at any two numbers. -/
set_option linter.unusedVariables false
set_option linter.unusedSimpArgs false
set_option maxRecDepth 8000
namespace Go.Proofs.YtpcjdllijkjdkaaDoor
open Go.RowKit Plain

theorem to_below {i : Nat} {args : Array Value} {v : Value} {w : World} (h : Calls Tryd.prog i args w fun e w' => e = .returned v ∧ w' = w) : Calls Tryd.prog i args w fun e w' => e = .returned v ∧ Below w.heap.size w w' :=
  h.mono fun e w' h => ⟨h.1, by rw [h.2]; exact Below.refl _ _⟩

theorem is_in (f : Int) (h : 1 ≤ f ∧ f ≤ 4) (w : World) : Calls Tryd.prog 12 #[.int .i64 f] w fun e w' => e = .returned (.bool true) ∧ w' = w := by
  rcases f_cases f with rfl | rfl | rfl | rfl | h0
  · exact is_1 w
  · exact is_2 w
  · exact is_3 w
  · exact is_4 w
  · omega

/-- The text of a word of a format. -/
theorem place_any (f : Int) (a : Nat) (ha : a < 2 ^ 128) (hc : clsU f a ≠ 0) (neg : Bool) (X : Nat) (hn : negU f a = neg) (hx : sgnU f false a = X) (hX : X < 2 ^ 128) (w : World) :
    Calls Tryd.prog 36 #[.int .i64 f, .agg #[.int .u64 (dgl (a) 1 : Nat), .int .u64 (dgl (a) 0 : Nat)]] w fun e w' => e = .returned (.string (sT (plT X neg))) ∧ Below w.heap.size w w' := by
  have HNG := fun w => refNeg_u f a ha w
  have HSG := fun w => refSgn_u f a ha false hc w
  rw [hn] at HNG
  rw [hx] at HSG
  have hq := fun w => wordEq hX (show 0 < 2 ^ 128 by decide +kernel) w
  rw [show dgl 0 1 = 0 from by decide +kernel, show dgl 0 0 = 0 from by decide +kernel] at hq
  by_cases h0 : X = 0
  · rw [decide_eq_true h0] at hq
    rw [show plT X neg = [98] from if_pos h0]
    exact place_Z f a X neg HNG HSG hq w
  · rw [decide_eq_false h0] at hq
    rw [show plT X neg = (bif neg then [97] else [99]) ++ pT X neg 128 from if_neg h0]
    refine place_Y f a X neg (pT X neg 128) (hide rfl) HNG HSG (fun n hn x hx w => ?_) hq w
    have h := refBit5_any (dgl X 1) (dgl X 0) n (dgl_lt _ _) (dgl_lt _ _) hn x hx w
    rw [word_back X hX] at h
    exact h

/-- The word that a number is rounded to, and its flags; the word without its sign. -/
noncomputable def woR (f m : Int) (neg : Bool) (z : Int) (s : Nat) : Nat := if s = 0 then ngtU f neg else (rndR f m neg false z s).1
noncomputable def flR (f m : Int) (neg : Bool) (z : Int) (s : Nat) : Int := if s = 0 then 0 else ((rndR f m neg false z s).2 : Nat)
noncomputable def ptR (f m : Int) (neg : Bool) (z : Int) (s : Nat) : Nat := if s = 0 then 0 else patR f m neg z s
theorem round_num (f m : Int) (hf : 1 ≤ f ∧ f ≤ 4) (hm : isM m = true) (neg : Bool) (z : Int) (s : Nat) (hs : s < QQ) (hr : rightB (prU f : Nat) z s false = true) (w : World) (hg : FmtG w) :
    Calls Tryd.prog 33 #[.int .i64 f, .int .i64 m, .agg #[.bool (neg), .int .i64 (z), .int .u64 (dgl (s) 0 : Nat), .int .u64 (dgl (s) 1 : Nat), .int .u64 (dgl (s) 2 : Nat), .int .u64 (dgl (s) 3 : Nat), .int .u64 (dgl (s) 4 : Nat), .int .u64 (dgl (s) 5 : Nat), .int .u64 (dgl (s) 6 : Nat), .int .u64 (dgl (s) 7 : Nat)], .bool false] w fun e w' => e = .returned (.tuple #[.agg #[.int .u64 (dgl (woR f m neg z s) 1 : Nat), .int .u64 (dgl (woR f m neg z s) 0 : Nat)], .int .i64 (flR f m neg z s), .int .i64 0]) ∧ Below w.heap.size w w' := by
  unfold woR flR
  by_cases h0 : s = 0
  · subst h0
    rw [if_pos rfl, if_pos rfl]
    exact round_zero f m hf hm neg false z hr w hg
  · rw [if_neg h0, if_neg h0]
    exact round_yes f m hf hm neg false z s hs hr h0 w hg

theorem ngt_pat (f : Int) (hf : 1 ≤ f ∧ f ≤ 4) (neg : Bool) : ngtU f neg < 2 ^ 128 ∧ clsU f (ngtU f neg) ≠ 0 ∧ negU f (ngtU f neg) = neg ∧ sgnU f false (ngtU f neg) = 0 := by
  rcases f_cases f with rfl | rfl | rfl | rfl | h0
  · cases neg <;> decide +kernel
  · cases neg <;> decide +kernel
  · cases neg <;> decide +kernel
  · cases neg <;> decide +kernel
  · omega
theorem wo_pat {f m : Int} (hf : 1 ≤ f ∧ f ≤ 4) (neg : Bool) (z : Int) (s : Nat) :
    woR f m neg z s < 2 ^ 128 ∧ clsU f (woR f m neg z s) ≠ 0 ∧ negU f (woR f m neg z s) = neg ∧ sgnU f false (woR f m neg z s) = ptR f m neg z s := by
  unfold woR ptR
  by_cases h0 : s = 0
  · rw [if_pos h0, if_pos h0]
    exact ngt_pat f hf neg
  · rw [if_neg h0, if_neg h0]
    exact rnd_pat hf neg z s
theorem pat_lt {f m : Int} (hf : 1 ≤ f ∧ f ≤ 4) (neg : Bool) (z : Int) (s : Nat) : ptR f m neg z s < 2 ^ 128 := by
  obtain ⟨h1, h2, h3, h4⟩ := wo_pat (m := m) hf neg z s
  rw [← h4]
  exact (sgn_U false h2).1
theorem size_of {s1 s2 : Nat} {e1 e2 : Int} (h : ¬ 0 < cmpV s1 e1 s2 e2) : sizeZ s1 e1 s2 e2 ≤ 0 := by
  rw [sizeZ_le s1 s2 e1 e2 (min e1 e2) (by omega) (by omega)]
  unfold cmpV cmpN at h
  split at h
  · omega
  · split at h
    · omega
    · omega
theorem cmpV_back (a b : Nat) (ea eb : Int) : cmpV b eb a ea = - cmpV a ea b eb := by
  unfold cmpV
  rw [show min eb ea = min ea eb by omega]
  unfold cmpN
  repeat' split
  all_goals omega
theorem cZ_back {n1 n2 : Bool} {a b : Nat} {ea eb : Int} (h : 0 < cZ n1 a ea n2 b eb) : ¬ 0 < cZ n2 b eb n1 a ea := by
  unfold cZ at h ⊢
  by_cases he : sgnZ n1 a = sgnZ n2 b
  · rw [if_pos he] at h
    rw [if_pos he.symm, ← he, cmpV_back, Int.mul_neg]
    omega
  · rw [if_neg he] at h
    rw [if_neg (Ne.symm he)]
    unfold cmpI at h ⊢
    repeat' split
    all_goals omega

/-- Of two numbers the word of the one that is not above is not above either. -/
theorem wo_le {f m : Int} (hf : 1 ≤ f ∧ f ≤ 4) (n1 n2 : Bool) (e1 e2 : Int) (s1 s2 : Nat) (h : ¬ 0 < cZ n1 s1 e1 n2 s2 e2) :
    (Op.bytesLess (sT (plT (ptR f m n1 e1 s1) n1)).toList (sT (plT (ptR f m n2 e2 s2) n2)).toList || (sT (plT (ptR f m n1 e1 s1) n1)).toList == (sT (plT (ptR f m n2 e2 s2) n2)).toList) = true := by
  rw [show ∀ l, (sT l).toList = l from fun l => lst_list l, show ∀ l, (sT l).toList = l from fun l => lst_list l]
  unfold cZ at h
  refine plT_le (pat_lt hf n1 e1 s1) (pat_lt hf n2 e2 s2) ?_ ?_ ?_
  · rintro rfl rfl
    unfold ptR
    unfold sgnZ cmpI at h
    by_cases h1 : s1 = 0
    · rw [if_pos h1]
      exact Nat.zero_le _
    · by_cases h2 : s2 = 0
      · simp [h1, h2] at h
      · rw [if_neg h1, if_neg h2]
        refine pat_mono hf false h1 h2 (size_of ?_)
        simp only [if_neg h1, if_neg h2] at h
        simpa using h
  · rintro rfl rfl
    unfold ptR
    unfold sgnZ cmpI at h
    by_cases h2 : s2 = 0
    · rw [if_pos h2]
      exact Nat.zero_le _
    · by_cases h1 : s1 = 0
      · simp [h1, h2] at h
      · rw [if_neg h1, if_neg h2]
        refine pat_mono hf true h2 h1 (size_of ?_)
        simp only [if_neg h1, if_neg h2] at h
        rw [cmpV_back]
        simp at h
        omega
  · rintro rfl rfl
    unfold ptR
    unfold sgnZ cmpI at h
    by_cases h1 : s1 = 0
    · by_cases h2 : s2 = 0
      · rw [if_pos h1, if_pos h2]
        exact ⟨rfl, rfl⟩
      · simp [h1, h2] at h
    · by_cases h2 : s2 = 0
      · simp [h1, h2] at h
      · simp [h1, h2] at h

theorem packOrder_num (f m : Int) (n1 : Bool) (e1 : Int) (s1 : Nat) (n2 : Bool) (e2 : Int) (s2 : Nat) (hs1 : s1 < QQ) (hs2 : s2 < QQ) (w : World) (hg : FmtG w) :
    Calls Tryd.prog 7 #[.agg #[.int .i64 f, .int .i64 m], .agg #[.bool (n1), .int .i64 (e1), .int .u64 (dgl (s1) 0 : Nat), .int .u64 (dgl (s1) 1 : Nat), .int .u64 (dgl (s1) 2 : Nat), .int .u64 (dgl (s1) 3 : Nat), .int .u64 (dgl (s1) 4 : Nat), .int .u64 (dgl (s1) 5 : Nat), .int .u64 (dgl (s1) 6 : Nat), .int .u64 (dgl (s1) 7 : Nat)], .agg #[.bool (n2), .int .i64 (e2), .int .u64 (dgl (s2) 0 : Nat), .int .u64 (dgl (s2) 1 : Nat), .int .u64 (dgl (s2) 2 : Nat), .int .u64 (dgl (s2) 3 : Nat), .int .u64 (dgl (s2) 4 : Nat), .int .u64 (dgl (s2) 5 : Nat), .int .u64 (dgl (s2) 6 : Nat), .int .u64 (dgl (s2) 7 : Nat)]] w fun e w' => e = .returned (.bool true) ∧ Below w.heap.size w w' := by
  by_cases hf : 1 ≤ f ∧ f ≤ 4
  · have HI5 := fun w => to_below (is_in f hf w)
    have HPR := fun w => to_below (prec_u f hf w)
    have HI8 := fun w => to_below (refIs8_any m w)
    by_cases hm : isM m = true
    · rw [hm] at HI8
      have HRA := fun w => lright_any (prU f : Nat) e1 n1 false s1 hs1 w
      have HRB := fun w => lright_any (prU f : Nat) e2 n2 false s2 hs2 w
      by_cases hr1 : rightB (prU f : Nat) e1 s1 false = true
      · rw [hr1] at HRA
        by_cases hr2 : rightB (prU f : Nat) e2 s2 false = true
        · rw [hr2] at HRB
          have hz1 := (right_parts hr1).2.2.1
          have hz2 := (right_parts hr2).2.2.1
          have HCM := fun w => ucmp_any n1 n2 e1 e2 s1 s2 hs1 hs2 hz1 hz2 w
          have HR1 := fun w hg => round_num f m hf hm n1 e1 s1 hs1 hr1 w hg
          have HR2 := fun w hg => round_num f m hf hm n2 e2 s2 hs2 hr2 w hg
          obtain ⟨a1, a2, a3, a4⟩ := wo_pat (m := m) hf n1 e1 s1
          obtain ⟨b1, b2, b3, b4⟩ := wo_pat (m := m) hf n2 e2 s2
          have HP1 := fun w => place_any f _ a1 a2 n1 _ a3 a4 (pat_lt hf n1 e1 s1) w
          have HP2 := fun w => place_any f _ b1 b2 n2 _ b3 b4 (pat_lt hf n2 e2 s2) w
          by_cases hc : 0 < cZ n1 s1 e1 n2 s2 e2
          · exact packOrder_S f m e1 e2 (prU f : Nat) (cZ n1 s1 e1 n2 s2 e2) (flR f m n2 e2 s2) (flR f m n1 e1 s1) n1 n2 s1 s2 (woR f m n2 e2 s2) (woR f m n1 e1 s1) _ _ HI5 HI8 HPR HRA HRB HCM hc HR2 HR1 HP2 HP1 (wo_le hf n2 n1 e2 e1 s2 s1 (cZ_back hc)) w hg
          · exact packOrder_N f m e1 e2 (prU f : Nat) (cZ n1 s1 e1 n2 s2 e2) (flR f m n1 e1 s1) (flR f m n2 e2 s2) n1 n2 s1 s2 (woR f m n1 e1 s1) (woR f m n2 e2 s2) _ _ HI5 HI8 HPR HRA HRB HCM hc HR1 HR2 HP1 HP2 (wo_le hf n1 n2 e1 e2 s1 s2 hc) w hg
        · rw [show rightB (prU f : Nat) e2 s2 false = false by simpa using hr2] at HRB
          exact packOrder_D f m e1 e2 (prU f : Nat) 0 0 0 n1 n2 s1 s2 0 0 ⟨#[]⟩ ⟨#[]⟩ HI5 HI8 HPR HRA HRB w hg
      · rw [show rightB (prU f : Nat) e1 s1 false = false by simpa using hr1] at HRA
        exact packOrder_C f m e1 e2 (prU f : Nat) 0 0 0 n1 n2 s1 s2 0 0 ⟨#[]⟩ ⟨#[]⟩ HI5 HI8 HPR HRA w hg
    · rw [show isM m = false by simpa using hm] at HI8
      exact packOrder_B f m e1 e2 0 0 0 0 n1 n2 s1 s2 0 0 ⟨#[]⟩ ⟨#[]⟩ HI5 HI8 w hg
  · exact packOrder_A f m e1 e2 0 0 0 0 n1 n2 s1 s2 0 0 ⟨#[]⟩ ⟨#[]⟩ (fun w => to_below (is_none f (by omega) w)) w hg

end Go.Proofs.YtpcjdllijkjdkaaDoor

/- PackOrder: for every format, mode and two numbers the law returns true. Conditions: those of the tied card (the table of formats is laid as the program lays it). -/
namespace Go.Proofs.YtpcjdllijkjdkaaDoor.packOrder
open Go.ChangeShapes Go.WideShapes Go.ChangeAt Go.RowKit Go.Proofs.YtpcjdllijkjdkaaDoor

theorem own : ownKnob Tryd.prog.godebug = none := by kernel_rfl
theorem laidOut : laidOutB Tryd.prog = true := by kernel_rfl

theorem door_met (os : Os) (args : Array Value) : laidMetH Tryd.prog [("radicand/format.formats", Rows.laid_radicand_format_formats)] ((World.doorLaid Tryd.prog 400 os).forCall (fun _ _ => 0) ⟨#[], args, []⟩).memory :=
  laidMetH_of_parts3 (fuel := 8) (laidMet_of_run' 8 (by kernel_rfl) (by kernel_rfl)) (by kernel_rfl) (by kernel_rfl)

set_option maxRecDepth 100000 in
theorem lifted (os : Os) (started : os.Started) (H : Type) (enc : TypeId × Value → H) :
    ReturnsInHanded {} Tryd.checked os 7 .any (fun w args => (Rows.packOrderSpec.pre enc Tryd.prog Tryd.f7 [] false w args ∧ laidMetH Tryd.prog [("radicand/format.formats", Rows.laid_radicand_format_formats)] w) ∧ sizedMet enc Tryd.prog Tryd.f7 (OpenSpec.ofChange Rows.packOrderSpec) false w args) (Rows.packOrderSpec.post enc Tryd.prog Tryd.f7 false true false false) := by
  refine returnsInHanded_of_change_and (C := Tryd.checked) (X := fun w _ => laidMetH Tryd.prog [("radicand/format.formats", Rows.laid_radicand_format_formats)] w) (fun _ _ _ hh h => h.of_heap hh) own started (by kernel_rfl) Tryd.func7
    (ChangeSpec.witness_shaped (enc := enc) (C := Tryd.checked) (os := os) (X := fun w _ => laidMetH Tryd.prog [("radicand/format.formats", Rows.laid_radicand_format_formats)] w) false (World.doorLaid Tryd.prog 400 os) #[.agg #[.int .i64 0, .int .i64 0], .agg #[.bool false, .int .i64 0, .int .u64 0, .int .u64 0, .int .u64 0, .int .u64 0, .int .u64 0, .int .u64 0, .int .u64 0, .int .u64 0], .agg #[.bool false, .int .i64 0, .int .u64 0, .int .u64 0, .int .u64 0, .int .u64 0, .int .u64 0, .int .u64 0, .int .u64 0, .int .u64 0]] 40 rfl (World.shaped_of_RefB (by kernel_rfl) (by kernel_rfl)) (by kernel_rfl) (by kernel_rfl) (by kernel_rfl) (door_met os _)) ?_
  intro W base args ds gs before hval0 hW _ _ hL _
  have hval : ∀ (j : Nat) t v, Tryd.f7.params[j]? = some t → args[j]? = some v → Value.okWide Tryd.prog W .any base t v := hval0
  have hW' := hW
  obtain ⟨p, q, hA0, hV, rfl, hfz, hnd⟩ := hW
  have hA : DataW.TrodAll enc Tryd.prog W 0 (fun _ => true) true Tryd.f7.params.toList args.toList ds p := hA0
  rw [Tryd.params7] at hA hval
  obtain ⟨v0, vs0, d0, ds0, p0, q0, hargs, rfl, rfl, h0, r0⟩ := trodAll_cons hA
  obtain ⟨v1, vs1, d1, ds1, p1, q1, rfl, rfl, rfl, h1, r1⟩ := trodAll_cons r0
  obtain ⟨v2, vs2, d2, ds2, p2, q2, rfl, rfl, rfl, h2, r2⟩ := trodAll_cons r1
  obtain ⟨rfl, rfl, rfl⟩ := trodAll_nil r2
  obtain rfl : args = #[v0, v1, v2] := by cases args; simp_all
  obtain ⟨rfl, rfl⟩ := trodVars_none hV
  have k0 := h0
  have lt0 : ∀ x ∈ p0, x.block < W.heap.size := by obtain ⟨m, hm⟩ := k0; exact DataW.trod_lt m _ _ _ hm
  have k1 := h1
  have lt1 : ∀ x ∈ p1, x.block < W.heap.size := by obtain ⟨m, hm⟩ := k1; exact DataW.trod_lt m _ _ _ hm
  have k2 := h2
  have lt2 : ∀ x ∈ p2, x.block < W.heap.size := by obtain ⟨m, hm⟩ := k2; exact DataW.trod_lt m _ _ _ hm
  obtain ⟨q00, q01, ⟨bq00, bq01⟩, rfl⟩ := ints2_open (hval 0 35 v0 rfl rfl) h0
  obtain ⟨n1, z1, b1, hb1, rfl⟩ := number_open (hval 1 26 v1 rfl rfl) h1
  obtain ⟨n2, z2, b2, hb2, rfl⟩ := number_open (hval 2 26 v2 rfl rfl) h2
  clear hA0 hval0
  have hg := of_laid1 hL
  refine (packOrder_num q00 q01 n1 z1 b1 n2 z2 b2 hb1.2 hb2.2 W hg).mono fun e W' ⟨he, bel⟩ => ?_
  subst he
  exact ⟨_, rfl, _, _, _, [], _, [], hW', trodAll_mk1 (shut_bool Tryd.underlying4 _), (trodAll_cons_mk (Below.trod laidOut (by kernel_rfl) (of_decide_eq_true (by kernel_rfl)) k0 bel lt0) (trodAll_cons_mk (Below.trod laidOut (by kernel_rfl) (of_decide_eq_true (by kernel_rfl)) k1 bel lt1) (trodAll_cons_mk (Below.trod laidOut (by kernel_rfl) (of_decide_eq_true (by kernel_rfl)) k2 bel lt2) trodAll_mk0))), rfl, bel.frame _, fun h => by cases h⟩

theorem over : Rows.packOrderRow.holds Tryd.pinned (OpenSpec.ofChange Rows.packOrderSpec) :=
  OpenClaim.holds_of_wide 7 Tryd.f7 rfl rfl rfl rfl rfl rfl rfl ⟨rfl, rfl, rfl, rfl, rfl⟩ rfl rfl rfl rfl rfl (by kernel_rfl) Tryd.func7 (by kernel_rfl)
    (of_decide_eq_true (by kernel_rfl)) (by unfold Func.isWrapper; first | (rw [if_pos (by decide +kernel)]; kernel_rfl) | (rw [if_neg (by decide +kernel)]; exact ⟨rfl, rfl⟩))
    (fun os started H enc _ => lifted os started H enc)

theorem proved : Rows.PackOrderCardSaid :=
  Claim7.holds_tied_plain_at .later [] [.data] true (true, "bda7307485677e703060dea11d85374f6d1941a46d5c51f47956e134a69fc123") false
    over (fun _ h => by cases h) (by kernel_rfl) (fun _ h => by cases h) packOrder_row_tie rfl ⟨rfl, rfl⟩ (by kernel_rfl) rfl
    (fun f fn hf hfn => by
      obtain rfl : f = 7 := Option.some.inj ((show Tryd.prog.funcNamed "radicand/radicandlaw09.PackOrder" = some 7 by kernel_rfl).symm.trans hf) |>.symm
      obtain rfl : fn = Tryd.f7 := (Option.some.inj (Tryd.func7.symm.trans hfn)).symm
      exact ⟨by kernel_rfl, fun j t ht => by
        rw [Tryd.params7] at ht
        rcases j with _ | j
        · obtain rfl : t = 35 := by simpa using ht.symm
          exact (show Tryd.prog.wantsStandIn 35 = false by kernel_rfl)
        rcases j with _ | j
        · obtain rfl : t = 26 := by simpa using ht.symm
          exact (show Tryd.prog.wantsStandIn 26 = false by kernel_rfl)
        rcases j with _ | j
        · obtain rfl : t = 26 := by simpa using ht.symm
          exact (show Tryd.prog.wantsStandIn 26 = false by kernel_rfl)
        simp at ht⟩)
    (by kernel_rfl)
#print axioms proved
end Go.Proofs.YtpcjdllijkjdkaaDoor.packOrder

