/- Contracts and laws: FmtC, FmtD, FmtE, FmtF, FmtH, FmtI. -/
import Derived.Test.YtpcjdllijkjdkaaGreatDoorPartAL
import Derived.Test.YtpcjdllijkjdkaaGreatDoorPartAN
import Derived.Test.YtpcjdllijkjdkaaGreatDoorPartAO
import Derived.Deep.DeepCutAuto
/- Contracts: the closures that tell a format's field and fraction. -/
set_option linter.unusedVariables false
set_option linter.unusedSimpArgs false
set_option maxRecDepth 8000
namespace Go.Proofs.YtpcjdllijkjdkaaGreatDoor
open Go.RowKit Plain

/-- What such a closure goes by: the format's record, and two results. -/
structure CloSt (B : Nat) (w : World) (k : Nat → Int) (W : World) : Prop where
  rk : ∀ i, i < 5 → W.cell? ⟨B, i, none⟩ = some (.int .i64 (k i))
  l1 : LiesF W (B + 1) (fun _ => 0)
  l2 : LiesF W (B + 1 + 1) (fun _ => 0)
  f1 : ∀ i, W.frozen? ⟨B + 1, i, none⟩ = false
  f2 : ∀ i, W.frozen? ⟨B + 1 + 1, i, none⟩ = false
  bel : Below B w W
theorem CloSt.below {B : Nat} {w : World} {k : Nat → Int} {W W' : World} (h : CloSt B w k W) (hb : Below W.heap.size W W') : CloSt B w k W' :=
  have hl := h.l1.2
  ⟨fun i hi => (hb.cell (p := ⟨B, i, none⟩) (show B < _ by omega)).trans (h.rk i hi), h.l1.below hb, h.l2.below hb, fun i => (hb.frozen (p := ⟨B + 1, i, none⟩) h.l1.2).trans (h.f1 i),
    fun i => (hb.frozen (p := ⟨B + 1 + 1, i, none⟩) h.l2.2).trans (h.f2 i), h.bel.trans (hb.mono (by omega))⟩
theorem rec5_new (w : World) (k : Nat → Int) (e : TypeId) (i : Nat) (hi : i < 5) : (w.alloc (.cells #[.int .i64 (k 0), .int .i64 (k 1), .int .i64 (k 2), .int .i64 (k 3), .int .i64 (k 4)] e)).cell? ⟨w.heap.size, i, none⟩ = some (.int .i64 (k i)) := by
  match i, hi with
  | 0, _ | 1, _ | 2, _ | 3, _ | 4, _ => simp [go_sem]
theorem cloSt_start (k : Nat → Int) (w : World) : CloSt w.heap.size w k (((w.alloc (.cells #[.int .i64 (k 0), .int .i64 (k 1), .int .i64 (k 2), .int .i64 (k 3), .int .i64 (k 4)] 49)).alloc (.cells #[.int .u64 0, .int .u64 0, .int .u64 0, .int .u64 0, .int .u64 0, .int .u64 0, .int .u64 0, .int .u64 0] 25)).alloc (.cells #[.int .u64 0, .int .u64 0, .int .u64 0, .int .u64 0, .int .u64 0, .int .u64 0, .int .u64 0, .int .u64 0] 25)) := by
  have hl1 := liesF_new (w.alloc (.cells #[.int .i64 (k 0), .int .i64 (k 1), .int .i64 (k 2), .int .i64 (k 3), .int .i64 (k 4)] 49)) (fun _ => 0) 25
  have hl2 := liesF_new ((w.alloc (.cells #[.int .i64 (k 0), .int .i64 (k 1), .int .i64 (k 2), .int .i64 (k 3), .int .i64 (k 4)] 49)).alloc (.cells #[.int .u64 0, .int .u64 0, .int .u64 0, .int .u64 0, .int .u64 0, .int .u64 0, .int .u64 0, .int .u64 0] 25)) (fun _ => 0) 25
  have hb1 := below_allocs (w.alloc (.cells #[.int .i64 (k 0), .int .i64 (k 1), .int .i64 (k 2), .int .i64 (k 3), .int .i64 (k 4)] 49)) (.cells #[.int .u64 0, .int .u64 0, .int .u64 0, .int .u64 0, .int .u64 0, .int .u64 0, .int .u64 0, .int .u64 0] 25)
  have hb2 := below_allocs ((w.alloc (.cells #[.int .i64 (k 0), .int .i64 (k 1), .int .i64 (k 2), .int .i64 (k 3), .int .i64 (k 4)] 49)).alloc (.cells #[.int .u64 0, .int .u64 0, .int .u64 0, .int .u64 0, .int .u64 0, .int .u64 0, .int .u64 0, .int .u64 0] 25)) (.cells #[.int .u64 0, .int .u64 0, .int .u64 0, .int .u64 0, .int .u64 0, .int .u64 0, .int .u64 0, .int .u64 0] 25)
  have hb3 := below_trans hb1 hb2
  rw [World.size_alloc] at hl1
  rw [World.size_alloc, World.size_alloc] at hl2
  rw [World.size_alloc] at hb3
  exact ⟨fun i hi => (hb3.cell (p := ⟨w.heap.size, i, none⟩) (show w.heap.size < w.heap.size + 1 by omega)).trans (rec5_new w k _ i hi), hl1.alloc _, hl2, fun i => by simp [go_sem], fun i => by simp [go_sem],
    below_trans (below_allocs w _) (below_trans (below_allocs _ _) (below_allocs _ _))⟩

theorem wideOf_nil (w : World) : Calls Tryz.prog 47 #[.slice none 0 0] w fun e w' => e = .returned (.agg #[.int .u64 (dgl (0) 0 : Nat), .int .u64 (dgl (0) 1 : Nat), .int .u64 (dgl (0) 2 : Nat), .int .u64 (dgl (0) 3 : Nat), .int .u64 (dgl (0) 4 : Nat), .int .u64 (dgl (0) 5 : Nat), .int .u64 (dgl (0) 6 : Nat), .int .u64 (dgl (0) 7 : Nat)]) ∧ Below w.heap.size w w' := by
  refine wideOf_any [] 0 _ w (Rd.nil mk64 w) (fun i hi => ?_)
  rw [dgl_zero]
  rfl
set_option maxHeartbeats 1000000 in
theorem inf1_any (k : Nat → Int) (a : Nat) (HM : Hid (∀ w, Calls Tryz.prog 83 #[.int .i64 (k 4)] w fun e w' => e = .returned (.agg #[.int .u64 (dgl (a) 0 : Nat), .int .u64 (dgl (a) 1 : Nat), .int .u64 (dgl (a) 2 : Nat), .int .u64 (dgl (a) 3 : Nat), .int .u64 (dgl (a) 4 : Nat), .int .u64 (dgl (a) 5 : Nat), .int .u64 (dgl (a) 6 : Nat), .int .u64 (dgl (a) 7 : Nat)]) ∧ Below w.heap.size w w')) (w : World) :
    Calls Tryz.prog 82 #[.agg #[.int .i64 (k 0), .int .i64 (k 1), .int .i64 (k 2), .int .i64 (k 3), .int .i64 (k 4)]] w fun e w' => e = .returned (.tuple #[.agg #[.int .u64 (dgl (a) 0 : Nat), .int .u64 (dgl (a) 1 : Nat), .int .u64 (dgl (a) 2 : Nat), .int .u64 (dgl (a) 3 : Nat), .int .u64 (dgl (a) 4 : Nat), .int .u64 (dgl (a) 5 : Nat), .int .u64 (dgl (a) 6 : Nat), .int .u64 (dgl (a) 7 : Nat)], .agg #[.int .u64 (dgl (0) 0 : Nat), .int .u64 (dgl (0) 1 : Nat), .int .u64 (dgl (0) 2 : Nat), .int .u64 (dgl (0) 3 : Nat), .int .u64 (dgl (0) 4 : Nat), .int .u64 (dgl (0) 5 : Nat), .int .u64 (dgl (0) 6 : Nat), .int .u64 (dgl (0) 7 : Nat)]]) ∧ Below w.heap.size w w' := by
  have HST := hide (cloSt_start k w)
  go_enter Tryz.func82, Tryz.ntmps82
  go_wp2_with fail
  refine (HM.out _).mono ?_
  rintro e w1 ⟨rfl, hb1⟩
  replace HST := hide (HST.out.below hb1)
  clear hb1
  go_wp2_with fail
  refine (wideOf_nil _).mono ?_
  rintro e w2 ⟨rfl, hb2⟩
  replace HST := hide (HST.out.below hb2)
  clear hb2
  have h1 := HST.out.l1.1
  have h2 := HST.out.l2.1
  have f1 := HST.out.f1
  have f2 := HST.out.f2
  have q1 := HST.out.l1.2
  have q2 := HST.out.l2.2
  have HB := hide HST.out.bel
  clear HST
  go_wp2
  exact bodyPost_ret (v := .tuple #[.agg #[.int .u64 (dgl (a) 0 : Nat), .int .u64 (dgl (a) 1 : Nat), .int .u64 (dgl (a) 2 : Nat), .int .u64 (dgl (a) 3 : Nat), .int .u64 (dgl (a) 4 : Nat), .int .u64 (dgl (a) 5 : Nat), .int .u64 (dgl (a) 6 : Nat), .int .u64 (dgl (a) 7 : Nat)], .agg #[.int .u64 (dgl (0) 0 : Nat), .int .u64 (dgl (0) 1 : Nat), .int .u64 (dgl (0) 2 : Nat), .int .u64 (dgl (0) 3 : Nat), .int .u64 (dgl (0) 4 : Nat), .int .u64 (dgl (0) 5 : Nat), .int .u64 (dgl (0) 6 : Nat), .int .u64 (dgl (0) 7 : Nat)]]) (by simp [results, Tryz.results82, go_sem, h1, h2, q1, q2]) rfl ⟨rfl, below_set8 (below_set8 HB.out _ (by omega) _ _ _ _ _ _ _ _) _ (by omega) _ _ _ _ _ _ _ _⟩

set_option maxHeartbeats 1000000 in
theorem nought1_any (k : Nat → Int)  (w : World) :
    Calls Tryz.prog 46 #[.agg #[.int .i64 (k 0), .int .i64 (k 1), .int .i64 (k 2), .int .i64 (k 3), .int .i64 (k 4)]] w fun e w' => e = .returned (.tuple #[.agg #[.int .u64 (dgl (0) 0 : Nat), .int .u64 (dgl (0) 1 : Nat), .int .u64 (dgl (0) 2 : Nat), .int .u64 (dgl (0) 3 : Nat), .int .u64 (dgl (0) 4 : Nat), .int .u64 (dgl (0) 5 : Nat), .int .u64 (dgl (0) 6 : Nat), .int .u64 (dgl (0) 7 : Nat)], .agg #[.int .u64 (dgl (0) 0 : Nat), .int .u64 (dgl (0) 1 : Nat), .int .u64 (dgl (0) 2 : Nat), .int .u64 (dgl (0) 3 : Nat), .int .u64 (dgl (0) 4 : Nat), .int .u64 (dgl (0) 5 : Nat), .int .u64 (dgl (0) 6 : Nat), .int .u64 (dgl (0) 7 : Nat)]]) ∧ Below w.heap.size w w' := by
  have HST := hide (cloSt_start k w)
  go_enter Tryz.func46, Tryz.ntmps46
  go_wp2_with fail
  refine (wideOf_nil _).mono ?_
  rintro e w1 ⟨rfl, hb1⟩
  replace HST := hide (HST.out.below hb1)
  clear hb1
  go_wp2_with fail
  refine (wideOf_nil _).mono ?_
  rintro e w2 ⟨rfl, hb2⟩
  replace HST := hide (HST.out.below hb2)
  clear hb2
  have h1 := HST.out.l1.1
  have h2 := HST.out.l2.1
  have f1 := HST.out.f1
  have f2 := HST.out.f2
  have q1 := HST.out.l1.2
  have q2 := HST.out.l2.2
  have HB := hide HST.out.bel
  clear HST
  go_wp2
  exact bodyPost_ret (v := .tuple #[.agg #[.int .u64 (dgl (0) 0 : Nat), .int .u64 (dgl (0) 1 : Nat), .int .u64 (dgl (0) 2 : Nat), .int .u64 (dgl (0) 3 : Nat), .int .u64 (dgl (0) 4 : Nat), .int .u64 (dgl (0) 5 : Nat), .int .u64 (dgl (0) 6 : Nat), .int .u64 (dgl (0) 7 : Nat)], .agg #[.int .u64 (dgl (0) 0 : Nat), .int .u64 (dgl (0) 1 : Nat), .int .u64 (dgl (0) 2 : Nat), .int .u64 (dgl (0) 3 : Nat), .int .u64 (dgl (0) 4 : Nat), .int .u64 (dgl (0) 5 : Nat), .int .u64 (dgl (0) 6 : Nat), .int .u64 (dgl (0) 7 : Nat)]]) (by simp [results, Tryz.results46, go_sem, h1, h2, q1, q2]) rfl ⟨rfl, below_set8 (below_set8 HB.out _ (by omega) _ _ _ _ _ _ _ _) _ (by omega) _ _ _ _ _ _ _ _⟩

set_option maxHeartbeats 1000000 in
theorem max1_any (k : Nat → Int) (a c b : Nat) (HM : Hid (∀ w, Calls Tryz.prog 83 #[.int .i64 (k 4 - 1)] w fun e w' => e = .returned (.agg #[.int .u64 (dgl (a) 0 : Nat), .int .u64 (dgl (a) 1 : Nat), .int .u64 (dgl (a) 2 : Nat), .int .u64 (dgl (a) 3 : Nat), .int .u64 (dgl (a) 4 : Nat), .int .u64 (dgl (a) 5 : Nat), .int .u64 (dgl (a) 6 : Nat), .int .u64 (dgl (a) 7 : Nat)]) ∧ Below w.heap.size w w')) (HS : Hid (∀ w, Calls Tryz.prog 74 #[.agg #[.int .u64 (dgl (a) 0 : Nat), .int .u64 (dgl (a) 1 : Nat), .int .u64 (dgl (a) 2 : Nat), .int .u64 (dgl (a) 3 : Nat), .int .u64 (dgl (a) 4 : Nat), .int .u64 (dgl (a) 5 : Nat), .int .u64 (dgl (a) 6 : Nat), .int .u64 (dgl (a) 7 : Nat)], .int .i64 1] w fun e w' => e = .returned (.agg #[.int .u64 (dgl (c) 0 : Nat), .int .u64 (dgl (c) 1 : Nat), .int .u64 (dgl (c) 2 : Nat), .int .u64 (dgl (c) 3 : Nat), .int .u64 (dgl (c) 4 : Nat), .int .u64 (dgl (c) 5 : Nat), .int .u64 (dgl (c) 6 : Nat), .int .u64 (dgl (c) 7 : Nat)]) ∧ Below w.heap.size w w')) (HP : Hid (∀ w, Calls Tryz.prog 83 #[.int .i64 (k 1 - 1)] w fun e w' => e = .returned (.agg #[.int .u64 (dgl (b) 0 : Nat), .int .u64 (dgl (b) 1 : Nat), .int .u64 (dgl (b) 2 : Nat), .int .u64 (dgl (b) 3 : Nat), .int .u64 (dgl (b) 4 : Nat), .int .u64 (dgl (b) 5 : Nat), .int .u64 (dgl (b) 6 : Nat), .int .u64 (dgl (b) 7 : Nat)]) ∧ Below w.heap.size w w')) (hw4 : IntKind.i64.wrap (k 4 - 1) = k 4 - 1) (hw1 : IntKind.i64.wrap (k 1 - 1) = k 1 - 1) (w : World) :
    Calls Tryz.prog 84 #[.agg #[.int .i64 (k 0), .int .i64 (k 1), .int .i64 (k 2), .int .i64 (k 3), .int .i64 (k 4)]] w fun e w' => e = .returned (.tuple #[.agg #[.int .u64 (dgl (c) 0 : Nat), .int .u64 (dgl (c) 1 : Nat), .int .u64 (dgl (c) 2 : Nat), .int .u64 (dgl (c) 3 : Nat), .int .u64 (dgl (c) 4 : Nat), .int .u64 (dgl (c) 5 : Nat), .int .u64 (dgl (c) 6 : Nat), .int .u64 (dgl (c) 7 : Nat)], .agg #[.int .u64 (dgl (b) 0 : Nat), .int .u64 (dgl (b) 1 : Nat), .int .u64 (dgl (b) 2 : Nat), .int .u64 (dgl (b) 3 : Nat), .int .u64 (dgl (b) 4 : Nat), .int .u64 (dgl (b) 5 : Nat), .int .u64 (dgl (b) 6 : Nat), .int .u64 (dgl (b) 7 : Nat)]]) ∧ Below w.heap.size w w' := by
  have HST := hide (cloSt_start k w)
  go_enter Tryz.func84, Tryz.ntmps84
  go_upto_region 1 with fail
  refine wp_gen (fun W => CloSt w.heap.size w k W) HST.out ?_
  rintro W1 h1
  clear HST
  refine wp_region_grow 9 [(4, .val (.pointer (some ⟨w.heap.size, 4, none⟩))), (5, .val (.int .i64 (k 4))), (6, .val (.int .i64 (k 4 - 1))), (7, .val (.agg #[.int .u64 (dgl (a) 0 : Nat), .int .u64 (dgl (a) 1 : Nat), .int .u64 (dgl (a) 2 : Nat), .int .u64 (dgl (a) 3 : Nat), .int .u64 (dgl (a) 4 : Nat), .int .u64 (dgl (a) 5 : Nat), .int .u64 (dgl (a) 6 : Nat), .int .u64 (dgl (a) 7 : Nat)])), (8, .val (.agg #[.int .u64 (dgl (c) 0 : Nat), .int .u64 (dgl (c) 1 : Nat), .int .u64 (dgl (c) 2 : Nat), .int .u64 (dgl (c) 3 : Nat), .int .u64 (dgl (c) 4 : Nat), .int .u64 (dgl (c) 5 : Nat), .int .u64 (dgl (c) 6 : Nat), .int .u64 (dgl (c) 7 : Nat)])), (9, .val (.pointer (some ⟨w.heap.size, 1, none⟩))), (10, .val (.int .i64 (k 1))), (11, .val (.int .i64 (k 1 - 1))), (12, .val (.agg #[.int .u64 (dgl (b) 0 : Nat), .int .u64 (dgl (b) 1 : Nat), .int .u64 (dgl (b) 2 : Nat), .int .u64 (dgl (b) 3 : Nat), .int .u64 (dgl (b) 4 : Nat), .int .u64 (dgl (b) 5 : Nat), .int .u64 (dgl (b) 6 : Nat), .int .u64 (dgl (b) 7 : Nat)]))]
    (fun W => CloSt w.heap.size w k W) mixedOk (by kernel_rfl) (by kernel_rfl) (h1.below (Below.refl _ _).drew) (fun W W' h hb => h.below hb) ?_ ?_
  · refine gSt (gStep_run rfl ?_) ?_
    · intro ρ W hC hc hf hL
      have e1 : ρ (.tmp 1) = .pointer (some ⟨w.heap.size, 0, none⟩) := hL 1 (by decide +kernel)
      simp [go_sem, hc, hf, e1]
      exact ⟨Below.refl _ _, rfl⟩
    refine gSt (gStep_run rfl ?_) ?_
    · intro ρ W hC hc hf hL
      have e4 : ρ (.tmp 4) = .pointer (some ⟨w.heap.size, 4, none⟩) := hL 4 (by decide +kernel)
      have hl := hC.rk 4 (by decide)
      simp [go_sem, hc, hf, e4, hl]
      exact ⟨Below.refl _ _, rfl⟩
    refine gSt (gStep_run rfl ?_) ?_
    · intro ρ W hC hc hf hL
      have e5 : ρ (.tmp 5) = .int .i64 (k 4) := hL 5 (by decide +kernel)
      simp [go_sem, hc, hf, e5, hw4]
      exact ⟨Below.refl _ _, rfl⟩
    refine gSt (gStep_run rfl ?_) ?_
    · intro ρ W hC hc hf hL
      have e6 : ρ (.tmp 6) = .int .i64 (k 4 - 1) := hL 6 (by decide +kernel)
      simp [go_sem, hc, hf, e6]
      refine (HM.out W).mono ?_
      rintro e w' ⟨rfl, hb⟩
      exact ⟨_, rfl, by first | exact hb | (subst hb; exact Below.refl _ _), rfl⟩
    refine gSt (gStep_run rfl ?_) ?_
    · intro ρ W hC hc hf hL
      have e7 : ρ (.tmp 7) = .agg #[.int .u64 (dgl (a) 0 : Nat), .int .u64 (dgl (a) 1 : Nat), .int .u64 (dgl (a) 2 : Nat), .int .u64 (dgl (a) 3 : Nat), .int .u64 (dgl (a) 4 : Nat), .int .u64 (dgl (a) 5 : Nat), .int .u64 (dgl (a) 6 : Nat), .int .u64 (dgl (a) 7 : Nat)] := hL 7 (by decide +kernel)
      simp [go_sem, hc, hf, e7]
      refine (HS.out W).mono ?_
      rintro e w' ⟨rfl, hb⟩
      exact ⟨_, rfl, by first | exact hb | (subst hb; exact Below.refl _ _), rfl⟩
    refine gSt (gStep_run rfl ?_) ?_
    · intro ρ W hC hc hf hL
      have e1 : ρ (.tmp 1) = .pointer (some ⟨w.heap.size, 0, none⟩) := hL 1 (by decide +kernel)
      simp [go_sem, hc, hf, e1]
      exact ⟨Below.refl _ _, rfl⟩
    refine gSt (gStep_run rfl ?_) ?_
    · intro ρ W hC hc hf hL
      have e9 : ρ (.tmp 9) = .pointer (some ⟨w.heap.size, 1, none⟩) := hL 9 (by decide +kernel)
      have hl := hC.rk 1 (by decide)
      simp [go_sem, hc, hf, e9, hl]
      exact ⟨Below.refl _ _, rfl⟩
    refine gSt (gStep_run rfl ?_) ?_
    · intro ρ W hC hc hf hL
      have e10 : ρ (.tmp 10) = .int .i64 (k 1) := hL 10 (by decide +kernel)
      simp [go_sem, hc, hf, e10, hw1]
      exact ⟨Below.refl _ _, rfl⟩
    refine gSt (gStep_run rfl ?_) ?_
    · intro ρ W hC hc hf hL
      have e11 : ρ (.tmp 11) = .int .i64 (k 1 - 1) := hL 11 (by decide +kernel)
      simp [go_sem, hc, hf, e11]
      refine (HP.out W).mono ?_
      rintro e w' ⟨rfl, hb⟩
      exact ⟨_, rfl, by first | exact hb | (subst hb; exact Below.refl _ _), rfl⟩
    exact gSt0
  · intro W hC
    refine gFi 4 rfl ?_
    rintro _ rfl
    refine gFi 5 rfl ?_
    rintro _ rfl
    refine gFi 6 rfl ?_
    rintro _ rfl
    refine gFi 7 rfl ?_
    rintro _ rfl
    refine gFi 8 rfl ?_
    rintro _ rfl
    refine gFi 9 rfl ?_
    rintro _ rfl
    refine gFi 10 rfl ?_
    rintro _ rfl
    refine gFi 11 rfl ?_
    rintro _ rfl
    refine gFi 12 rfl ?_
    rintro _ rfl
    refine gFi0 ?_
    simp only [List.drop_succ_cons, List.drop_zero, Act.put, List.setIfInBounds_toArray, List.set_cons_succ, List.set_cons_zero]
    have HST := hide hC
    clear hC h1
    have h1 := HST.out.l1.1
    have h2 := HST.out.l2.1
    have f1 := HST.out.f1
    have f2 := HST.out.f2
    have q1 := HST.out.l1.2
    have q2 := HST.out.l2.2
    have HB := hide HST.out.bel
    clear HST
    go_wp2
    exact bodyPost_ret (v := .tuple #[.agg #[.int .u64 (dgl (c) 0 : Nat), .int .u64 (dgl (c) 1 : Nat), .int .u64 (dgl (c) 2 : Nat), .int .u64 (dgl (c) 3 : Nat), .int .u64 (dgl (c) 4 : Nat), .int .u64 (dgl (c) 5 : Nat), .int .u64 (dgl (c) 6 : Nat), .int .u64 (dgl (c) 7 : Nat)], .agg #[.int .u64 (dgl (b) 0 : Nat), .int .u64 (dgl (b) 1 : Nat), .int .u64 (dgl (b) 2 : Nat), .int .u64 (dgl (b) 3 : Nat), .int .u64 (dgl (b) 4 : Nat), .int .u64 (dgl (b) 5 : Nat), .int .u64 (dgl (b) 6 : Nat), .int .u64 (dgl (b) 7 : Nat)]]) (by simp [results, Tryz.results84, go_sem, h1, h2, q1, q2]) rfl ⟨rfl, below_set8 (below_set8 HB.out _ (by omega) _ _ _ _ _ _ _ _) _ (by omega) _ _ _ _ _ _ _ _⟩

end Go.Proofs.YtpcjdllijkjdkaaGreatDoor

/- Contracts: format.made, as a walk. -/
set_option linter.unusedVariables false
set_option linter.unusedSimpArgs false
set_option maxRecDepth 8000
namespace Go.Proofs.YtpcjdllijkjdkaaGreatDoor
open Go.RowKit Plain

/-- What made goes by: the result, and the format's record. -/
structure MadeSt (B p7 : Nat) (w : World) (k : Nat → Int) (W : World) : Prop where
  rw : ∀ i, i < 2 → W.cell? ⟨B, i, none⟩ = some (.int .u64 0)
  lt : B < W.heap.size
  fz : ∀ i, W.frozen? ⟨B, i, none⟩ = false
  rk : ∀ i, i < 5 → W.cell? ⟨p7, i, none⟩ = some (.int .i64 (k i))
  lk : p7 < W.heap.size
  ne : B < p7
  bel : Below B w W
theorem MadeSt.under {B p7 : Nat} {w : World} {k : Nat → Int} {W W' : World} (h : MadeSt B p7 w k W) {C : Nat} (hb : Below C W W') (hc : p7 < C) : MadeSt B p7 w k W' :=
  have hn := h.ne
  ⟨fun i hi => (hb.cell (p := ⟨B, i, none⟩) (show B < C by omega)).trans (h.rw i hi), Nat.lt_of_lt_of_le h.lt hb.size, fun i => (hb.frozen (p := ⟨B, i, none⟩) (show B < C by omega)).trans (h.fz i),
    fun i hi => (hb.cell (p := ⟨p7, i, none⟩) hc).trans (h.rk i hi), Nat.lt_of_lt_of_le h.lk hb.size, h.ne, h.bel.trans (hb.mono (by omega))⟩
theorem MadeSt.below {B p7 : Nat} {w : World} {k : Nat → Int} {W W' : World} (h : MadeSt B p7 w k W) (hb : Below W.heap.size W W') : MadeSt B p7 w k W' := h.under hb h.lk
theorem madeSt_start (k : Nat → Int) (w w1 : World) (hb : Below (w.alloc (.cells #[.int .u64 0, .int .u64 0] 29)).heap.size (w.alloc (.cells #[.int .u64 0, .int .u64 0] 29)) w1) : MadeSt w.heap.size w1.heap.size w k (w1.alloc (.cells #[.int .i64 (k 0), .int .i64 (k 1), .int .i64 (k 2), .int .i64 (k 3), .int .i64 (k 4)] 49)) := by
  have h0 := below_allocs w1 (.cells #[.int .i64 (k 0), .int .i64 (k 1), .int .i64 (k 2), .int .i64 (k 3), .int .i64 (k 4)] 49)
  have hb2 := below_trans hb h0
  have hs := hb.size
  rw [World.size_alloc] at hb2 hs
  refine ⟨fun i hi => (hb2.cell (p := ⟨w.heap.size, i, none⟩) (show w.heap.size < w.heap.size + 1 by omega)).trans ?_, by simp; omega, fun i => (hb2.frozen (p := ⟨w.heap.size, i, none⟩) (show w.heap.size < w.heap.size + 1 by omega)).trans (by simp [go_sem]), fun i hi => rec5_new w1 k _ i hi, by simp, by omega, below_trans (below_allocs w _) (below_trans hb h0)⟩
  match i, hi with
  | 0, _ | 1, _ => simp [go_sem]

set_option maxHeartbeats 2000000 in
theorem made_walk (f : Int) (neg : Bool) (fid : Nat) (k : Nat → Int) (a b u s p t : Nat) (ov ov2 : Bool) (hent : ∀ args w, (callFunc fid args).run Tryz.prog w = .ok (.enter fid args) w)
    (hw0 : IntKind.i64.wrap (k 0 - 1) = k 0 - 1) (hw1 : IntKind.i64.wrap (k 1 - 1) = k 1 - 1)
    (HO : Hid (∀ w, FmtG w → Calls Tryz.prog 15 #[.int .i64 f] w fun e w' => e = .returned (.tuple #[.agg #[.int .i64 (k 0), .int .i64 (k 1), .int .i64 (k 2), .int .i64 (k 3), .int .i64 (k 4)], .bool true]) ∧ Below w.heap.size w w'))
    (HPA : Hid (∀ w, Calls Tryz.prog fid #[.agg #[.int .i64 (k 0), .int .i64 (k 1), .int .i64 (k 2), .int .i64 (k 3), .int .i64 (k 4)]] w fun e w' => e = .returned (.tuple #[.agg #[.int .u64 (dgl (a) 0 : Nat), .int .u64 (dgl (a) 1 : Nat), .int .u64 (dgl (a) 2 : Nat), .int .u64 (dgl (a) 3 : Nat), .int .u64 (dgl (a) 4 : Nat), .int .u64 (dgl (a) 5 : Nat), .int .u64 (dgl (a) 6 : Nat), .int .u64 (dgl (a) 7 : Nat)], .agg #[.int .u64 (dgl (b) 0 : Nat), .int .u64 (dgl (b) 1 : Nat), .int .u64 (dgl (b) 2 : Nat), .int .u64 (dgl (b) 3 : Nat), .int .u64 (dgl (b) 4 : Nat), .int .u64 (dgl (b) 5 : Nat), .int .u64 (dgl (b) 6 : Nat), .int .u64 (dgl (b) 7 : Nat)]]) ∧ Below w.heap.size w w'))
    (HSH : Hid (∀ w, Calls Tryz.prog 74 #[.agg #[.int .u64 (dgl (a) 0 : Nat), .int .u64 (dgl (a) 1 : Nat), .int .u64 (dgl (a) 2 : Nat), .int .u64 (dgl (a) 3 : Nat), .int .u64 (dgl (a) 4 : Nat), .int .u64 (dgl (a) 5 : Nat), .int .u64 (dgl (a) 6 : Nat), .int .u64 (dgl (a) 7 : Nat)], .int .i64 (k 1 - 1)] w fun e w' => e = .returned (.agg #[.int .u64 (dgl (u) 0 : Nat), .int .u64 (dgl (u) 1 : Nat), .int .u64 (dgl (u) 2 : Nat), .int .u64 (dgl (u) 3 : Nat), .int .u64 (dgl (u) 4 : Nat), .int .u64 (dgl (u) 5 : Nat), .int .u64 (dgl (u) 6 : Nat), .int .u64 (dgl (u) 7 : Nat)]) ∧ Below w.heap.size w w'))
    (HA1 : Hid (∀ w, Calls Tryz.prog 73 #[.agg #[.int .u64 (dgl (u) 0 : Nat), .int .u64 (dgl (u) 1 : Nat), .int .u64 (dgl (u) 2 : Nat), .int .u64 (dgl (u) 3 : Nat), .int .u64 (dgl (u) 4 : Nat), .int .u64 (dgl (u) 5 : Nat), .int .u64 (dgl (u) 6 : Nat), .int .u64 (dgl (u) 7 : Nat)], .agg #[.int .u64 (dgl (b) 0 : Nat), .int .u64 (dgl (b) 1 : Nat), .int .u64 (dgl (b) 2 : Nat), .int .u64 (dgl (b) 3 : Nat), .int .u64 (dgl (b) 4 : Nat), .int .u64 (dgl (b) 5 : Nat), .int .u64 (dgl (b) 6 : Nat), .int .u64 (dgl (b) 7 : Nat)]] w fun e w' => e = .returned (.tuple #[.agg #[.int .u64 (dgl (s) 0 : Nat), .int .u64 (dgl (s) 1 : Nat), .int .u64 (dgl (s) 2 : Nat), .int .u64 (dgl (s) 3 : Nat), .int .u64 (dgl (s) 4 : Nat), .int .u64 (dgl (s) 5 : Nat), .int .u64 (dgl (s) 6 : Nat), .int .u64 (dgl (s) 7 : Nat)], .bool ov]) ∧ Below w.heap.size w w'))
    (HPO : Hid (∀ w, Calls Tryz.prog 58 #[.int .i64 (k 0 - 1)] w fun e w' => e = .returned (.agg #[.int .u64 (dgl (p) 0 : Nat), .int .u64 (dgl (p) 1 : Nat), .int .u64 (dgl (p) 2 : Nat), .int .u64 (dgl (p) 3 : Nat), .int .u64 (dgl (p) 4 : Nat), .int .u64 (dgl (p) 5 : Nat), .int .u64 (dgl (p) 6 : Nat), .int .u64 (dgl (p) 7 : Nat)]) ∧ Below w.heap.size w w'))
    (HA2 : Hid (∀ w, Calls Tryz.prog 73 #[.agg #[.int .u64 (dgl (s) 0 : Nat), .int .u64 (dgl (s) 1 : Nat), .int .u64 (dgl (s) 2 : Nat), .int .u64 (dgl (s) 3 : Nat), .int .u64 (dgl (s) 4 : Nat), .int .u64 (dgl (s) 5 : Nat), .int .u64 (dgl (s) 6 : Nat), .int .u64 (dgl (s) 7 : Nat)], .agg #[.int .u64 (dgl (p) 0 : Nat), .int .u64 (dgl (p) 1 : Nat), .int .u64 (dgl (p) 2 : Nat), .int .u64 (dgl (p) 3 : Nat), .int .u64 (dgl (p) 4 : Nat), .int .u64 (dgl (p) 5 : Nat), .int .u64 (dgl (p) 6 : Nat), .int .u64 (dgl (p) 7 : Nat)]] w fun e w' => e = .returned (.tuple #[.agg #[.int .u64 (dgl (t) 0 : Nat), .int .u64 (dgl (t) 1 : Nat), .int .u64 (dgl (t) 2 : Nat), .int .u64 (dgl (t) 3 : Nat), .int .u64 (dgl (t) 4 : Nat), .int .u64 (dgl (t) 5 : Nat), .int .u64 (dgl (t) 6 : Nat), .int .u64 (dgl (t) 7 : Nat)], .bool ov2]) ∧ Below w.heap.size w w'))
    (w : World) (hg : FmtG w) :
    Calls Tryz.prog 45 #[.int .i64 f, .bool neg, .func (.func fid) #[] #[]] w fun e w' => e = .returned (.agg #[.int .u64 (dgl (bif neg then t else s) 1 : Nat), .int .u64 (dgl (bif neg then t else s) 0 : Nat)]) ∧ Below w.heap.size w w' := by
  have HG := hide (hg.below (below_allocs w (.cells #[.int .u64 0, .int .u64 0] 29)))
  clear hg
  go_enter Tryz.func45, Tryz.ntmps45
  go_wp2_with fail
  refine (HO.out _ HG.out).mono ?_
  rintro e w1 ⟨rfl, hb1⟩
  have HST := hide (madeSt_start k w w1 hb1)
  clear hb1 HG
  go_wp2_with fail
  refine (HPA.out _).mono ?_
  rintro e w2 ⟨rfl, hb2⟩
  replace HST := hide (HST.out.below hb2)
  clear hb2
  go_upto_region 5 with fail
  refine wp_gen (fun W => MadeSt w.heap.size w1.heap.size w k W ∧ LiesF W w2.heap.size (dgl a) ∧ LiesF W (w2.heap.size + 1) (dgl b)) ⟨?_, ?_, ?_⟩ ?_
  · exact HST.out.below (below_trans (below_allocs _ _) (below_allocs _ _))
  · exact (liesF_new _ _ _).alloc _
  · have hl := liesF_new (w2.alloc (.cells #[.int .u64 (dgl (a) 0 : Nat), .int .u64 (dgl (a) 1 : Nat), .int .u64 (dgl (a) 2 : Nat), .int .u64 (dgl (a) 3 : Nat), .int .u64 (dgl (a) 4 : Nat), .int .u64 (dgl (a) 5 : Nat), .int .u64 (dgl (a) 6 : Nat), .int .u64 (dgl (a) 7 : Nat)] 25)) (dgl b) 25
    rw [World.size_alloc] at hl
    exact hl
  rintro W1 h1
  have HN := hide (show w1.heap.size < w2.heap.size from HST.out.lk)
  clear HST
  generalize w1.heap.size = p7 at *
  generalize w2.heap.size = p9 at *
  obtain ⟨p10, hp10⟩ : ∃ p10, p9 + 1 = p10 := ⟨_, rfl⟩
  rw [hp10] at h1 ⊢
  replace HN := hide (show p7 < p9 ∧ p9 < p10 by have := HN.out; omega)
  clear hp10
  refine wp_region_storeK 12 [11] [28, 29, 30, 31, 32, 33, 34, 27, 35, 36, 11] (fun bs => [(28, .val (.agg #[.int .u64 (dgl (a) 0 : Nat), .int .u64 (dgl (a) 1 : Nat), .int .u64 (dgl (a) 2 : Nat), .int .u64 (dgl (a) 3 : Nat), .int .u64 (dgl (a) 4 : Nat), .int .u64 (dgl (a) 5 : Nat), .int .u64 (dgl (a) 6 : Nat), .int .u64 (dgl (a) 7 : Nat)])), (29, .val (.pointer (some ⟨p7, 1, none⟩))), (30, .val (.int .i64 (k 1))), (31, .val (.int .i64 (k 1 - 1))), (32, .val (.agg #[.int .u64 (dgl (u) 0 : Nat), .int .u64 (dgl (u) 1 : Nat), .int .u64 (dgl (u) 2 : Nat), .int .u64 (dgl (u) 3 : Nat), .int .u64 (dgl (u) 4 : Nat), .int .u64 (dgl (u) 5 : Nat), .int .u64 (dgl (u) 6 : Nat), .int .u64 (dgl (u) 7 : Nat)])), (33, .val (.agg #[.int .u64 (dgl (b) 0 : Nat), .int .u64 (dgl (b) 1 : Nat), .int .u64 (dgl (b) 2 : Nat), .int .u64 (dgl (b) 3 : Nat), .int .u64 (dgl (b) 4 : Nat), .int .u64 (dgl (b) 5 : Nat), .int .u64 (dgl (b) 6 : Nat), .int .u64 (dgl (b) 7 : Nat)])), (34, .val (.tuple #[.agg #[.int .u64 (dgl (s) 0 : Nat), .int .u64 (dgl (s) 1 : Nat), .int .u64 (dgl (s) 2 : Nat), .int .u64 (dgl (s) 3 : Nat), .int .u64 (dgl (s) 4 : Nat), .int .u64 (dgl (s) 5 : Nat), .int .u64 (dgl (s) 6 : Nat), .int .u64 (dgl (s) 7 : Nat)], .bool ov])), (27, .val (.tuple #[.agg #[.int .u64 (dgl (s) 0 : Nat), .int .u64 (dgl (s) 1 : Nat), .int .u64 (dgl (s) 2 : Nat), .int .u64 (dgl (s) 3 : Nat), .int .u64 (dgl (s) 4 : Nat), .int .u64 (dgl (s) 5 : Nat), .int .u64 (dgl (s) 6 : Nat), .int .u64 (dgl (s) 7 : Nat)], .bool ov])), (35, .val (.agg #[.int .u64 (dgl (s) 0 : Nat), .int .u64 (dgl (s) 1 : Nat), .int .u64 (dgl (s) 2 : Nat), .int .u64 (dgl (s) 3 : Nat), .int .u64 (dgl (s) 4 : Nat), .int .u64 (dgl (s) 5 : Nat), .int .u64 (dgl (s) 6 : Nat), .int .u64 (dgl (s) 7 : Nat)])), (36, .val (.bool ov)), (11, bif bs.headD false then SlotIs.box (p10 + 1) (dgl s) else SlotIs.box (p10 + 1) (fun _ => 0))])
    (fun _ W => MadeSt w.heap.size p7 w k W ∧ LiesF W p9 (dgl a) ∧ LiesF W p10 (dgl b)) (fun bs => rfl) mixedOk (by kernel_rfl) (by kernel_rfl) (by kernel_rfl) (⟨h1.1.below (Below.refl _ _).drew, h1.2⟩) (fun bs W W' h hb => ⟨h.1.below hb, h.2.1.below hb, h.2.2.below hb⟩) ?_ ?_
  · refine kSt rfl (fun φ hφ => gStep_run rfl ?_) ?_
    · intro ρ W hC hc hf hL
      have e9 : ρ (.tmp 9) = .pointer (some ⟨p9, 0, none⟩) := hL 9 (by decide +kernel)
      have hl := hC.2.1.1
      simp [go_sem, hc, hf, e9, hl]
      exact ⟨Below.refl _ _, rfl⟩
    refine kSt rfl (fun φ hφ => gStep_run rfl ?_) ?_
    · intro ρ W hC hc hf hL
      have e7 : ρ (.tmp 7) = .pointer (some ⟨p7, 0, none⟩) := hL 7 (by decide +kernel)
      simp [go_sem, hc, hf, e7]
      exact ⟨Below.refl _ _, rfl⟩
    refine kSt rfl (fun φ hφ => gStep_run rfl ?_) ?_
    · intro ρ W hC hc hf hL
      have e29 : ρ (.tmp 29) = .pointer (some ⟨p7, 1, none⟩) := hL 29 (by decide +kernel)
      have hl := hC.1.rk 1 (by decide)
      simp [go_sem, hc, hf, e29, hl]
      exact ⟨Below.refl _ _, rfl⟩
    refine kSt rfl (fun φ hφ => gStep_run rfl ?_) ?_
    · intro ρ W hC hc hf hL
      have e30 : ρ (.tmp 30) = .int .i64 (k 1) := hL 30 (by decide +kernel)
      simp [go_sem, hc, hf, e30, hw1]
      exact ⟨Below.refl _ _, rfl⟩
    refine kSt rfl (fun φ hφ => gStep_run rfl ?_) ?_
    · intro ρ W hC hc hf hL
      have e28 : ρ (.tmp 28) = .agg #[.int .u64 (dgl (a) 0 : Nat), .int .u64 (dgl (a) 1 : Nat), .int .u64 (dgl (a) 2 : Nat), .int .u64 (dgl (a) 3 : Nat), .int .u64 (dgl (a) 4 : Nat), .int .u64 (dgl (a) 5 : Nat), .int .u64 (dgl (a) 6 : Nat), .int .u64 (dgl (a) 7 : Nat)] := hL 28 (by decide +kernel)
      have e31 : ρ (.tmp 31) = .int .i64 (k 1 - 1) := hL 31 (by decide +kernel)
      simp [go_sem, hc, hf, e28, e31]
      refine (HSH.out W).mono ?_
      rintro e w' ⟨rfl, hb⟩
      exact ⟨_, rfl, by first | exact hb | (subst hb; exact Below.refl _ _), rfl⟩
    refine kSt rfl (fun φ hφ => gStep_run rfl ?_) ?_
    · intro ρ W hC hc hf hL
      have e10 : ρ (.tmp 10) = .pointer (some ⟨p10, 0, none⟩) := hL 10 (by decide +kernel)
      have hl := hC.2.2.1
      simp [go_sem, hc, hf, e10, hl]
      exact ⟨Below.refl _ _, rfl⟩
    refine kSt rfl (fun φ hφ => gStep_run rfl ?_) ?_
    · intro ρ W hC hc hf hL
      have e32 : ρ (.tmp 32) = .agg #[.int .u64 (dgl (u) 0 : Nat), .int .u64 (dgl (u) 1 : Nat), .int .u64 (dgl (u) 2 : Nat), .int .u64 (dgl (u) 3 : Nat), .int .u64 (dgl (u) 4 : Nat), .int .u64 (dgl (u) 5 : Nat), .int .u64 (dgl (u) 6 : Nat), .int .u64 (dgl (u) 7 : Nat)] := hL 32 (by decide +kernel)
      have e33 : ρ (.tmp 33) = .agg #[.int .u64 (dgl (b) 0 : Nat), .int .u64 (dgl (b) 1 : Nat), .int .u64 (dgl (b) 2 : Nat), .int .u64 (dgl (b) 3 : Nat), .int .u64 (dgl (b) 4 : Nat), .int .u64 (dgl (b) 5 : Nat), .int .u64 (dgl (b) 6 : Nat), .int .u64 (dgl (b) 7 : Nat)] := hL 33 (by decide +kernel)
      simp [go_sem, hc, hf, e32, e33]
      refine (HA1.out W).mono ?_
      rintro e w' ⟨rfl, hb⟩
      exact ⟨_, rfl, by first | exact hb | (subst hb; exact Below.refl _ _), rfl⟩
    refine kSt rfl (fun φ hφ => gStep_run rfl (gRun_move 34 27 (.inl rfl) rfl (by decide +kernel) (fun v w h => h))) ?_
    refine kSt rfl (fun φ hφ => gStep_run rfl ?_) ?_
    · intro ρ W hC hc hf hL
      have e27 : ρ (.tmp 27) = .tuple #[.agg #[.int .u64 (dgl (s) 0 : Nat), .int .u64 (dgl (s) 1 : Nat), .int .u64 (dgl (s) 2 : Nat), .int .u64 (dgl (s) 3 : Nat), .int .u64 (dgl (s) 4 : Nat), .int .u64 (dgl (s) 5 : Nat), .int .u64 (dgl (s) 6 : Nat), .int .u64 (dgl (s) 7 : Nat)], .bool ov] := hL 27 (by decide +kernel)
      simp [go_sem, hc, hf, e27]
      exact ⟨Below.refl _ _, rfl⟩
    refine kSt rfl (fun φ hφ => gStep_run rfl ?_) ?_
    · intro ρ W hC hc hf hL
      have e27 : ρ (.tmp 27) = .tuple #[.agg #[.int .u64 (dgl (s) 0 : Nat), .int .u64 (dgl (s) 1 : Nat), .int .u64 (dgl (s) 2 : Nat), .int .u64 (dgl (s) 3 : Nat), .int .u64 (dgl (s) 4 : Nat), .int .u64 (dgl (s) 5 : Nat), .int .u64 (dgl (s) 6 : Nat), .int .u64 (dgl (s) 7 : Nat)], .bool ov] := hL 27 (by decide +kernel)
      simp [go_sem, hc, hf, e27]
      exact ⟨Below.refl _ _, rfl⟩
    refine kSt rfl (fun φ hφ => gStep_run rfl ?_) ?_
    · intro ρ W hC hc hf hL
      have hφ0 : φ 11 = false := hφ 11 (by simp) (by kernel_rfl)
      simp [go_sem, hc, hf]
      refine ⟨below_allocs _ _, ?_⟩
      show (bif φ 11 then SlotIs.box (p10 + 1) (dgl s) else SlotIs.box (p10 + 1) (fun _ => 0)).R _ _
      rw [hφ0]
      exact ⟨_, rfl, hC.2.2.2, liesF_new _ (fun _ => 0) _, fun i => by simp [go_sem]⟩
    refine kStS rfl ⟨rfl, rfl, ?_⟩ ?_
    · intro φ ρ W hφ hC hc hL
      have b11 := hL 11 (by decide +kernel)
      have e35 : ρ (.tmp 35) = .agg #[.int .u64 (dgl (s) 0 : Nat), .int .u64 (dgl (s) 1 : Nat), .int .u64 (dgl (s) 2 : Nat), .int .u64 (dgl (s) 3 : Nat), .int .u64 (dgl (s) 4 : Nat), .int .u64 (dgl (s) 5 : Nat), .int .u64 (dgl (s) 6 : Nat), .int .u64 (dgl (s) 7 : Nat)] := hL 35 (by decide +kernel)
      have b11 : (bif φ 11 then SlotIs.box (p10 + 1) (dgl s) else SlotIs.box (p10 + 1) (fun _ => 0)).R (ρ (.tmp 11)) W := hL 11 (by decide +kernel)
      rw [hφ] at b11
      obtain ⟨p11, e11, q11, l11, z11⟩ := b11
      have hz := l11.1
      have hzl := l11.2
      refine gUpon_of ((((((((W.setCell ⟨p11, 0, none⟩ (.int .u64 (dgl s 0 : Nat))).setCell ⟨p11, 1, none⟩ (.int .u64 (dgl s 1 : Nat))).setCell ⟨p11, 2, none⟩ (.int .u64 (dgl s 2 : Nat))).setCell ⟨p11, 3, none⟩ (.int .u64 (dgl s 3 : Nat))).setCell ⟨p11, 4, none⟩ (.int .u64 (dgl s 4 : Nat))).setCell ⟨p11, 5, none⟩ (.int .u64 (dgl s 5 : Nat))).setCell ⟨p11, 6, none⟩ (.int .u64 (dgl s 6 : Nat))).setCell ⟨p11, 7, none⟩ (.int .u64 (dgl s 7 : Nat))) ?_ (fun _ => ?_)
      · simp [go_sem, hc, e35, e11, hz, hzl, z11, gUpon]
      have hs8 := below_set8 (Below.refl (p10 + 1) W) p11 q11 (.int .u64 (dgl s 0 : Nat)) (.int .u64 (dgl s 1 : Nat)) (.int .u64 (dgl s 2 : Nat)) (.int .u64 (dgl s 3 : Nat)) (.int .u64 (dgl s 4 : Nat)) (.int .u64 (dgl s 5 : Nat)) (.int .u64 (dgl s 6 : Nat)) (.int .u64 (dgl s 7 : Nat))
      have hN := HN.out
      refine ⟨⟨hC.1.under hs8 (by omega), lies_box hC.2.1 hs8 (by omega), lies_box hC.2.2 hs8 (by omega)⟩, fun t => ?_⟩
      refine (tbl_imp rfl (fun _ => val_imp) (tbl_imp rfl (fun _ => val_imp) (tbl_imp rfl (fun _ => val_imp) (tbl_imp rfl (fun _ => val_imp) (tbl_imp rfl (fun _ => val_imp) (tbl_imp rfl (fun _ => val_imp) (tbl_imp rfl (fun _ => val_imp) (tbl_imp rfl (fun _ => val_imp) (tbl_imp rfl (fun _ => val_imp) (tbl_imp rfl (fun _ => val_imp) (tbl_imp rfl (fun ht h => ?_) tbl_nil_imp)))))))))))
      subst ht
      show (bif (φ 11 || true) then SlotIs.box (p10 + 1) (dgl s) else SlotIs.box (p10 + 1) (fun _ => 0)).R _ _
      rw [Bool.or_true]
      exact ⟨p11, e11, q11, set8_same W p11 (dgl s) (fun _ => 0) l11, fun i => by simpa [go_sem] using z11 i⟩
    exact kSt0
  · intro W hC
    refine gFi 28 rfl ?_
    rintro _ rfl
    refine gFi 29 rfl ?_
    rintro _ rfl
    refine gFi 30 rfl ?_
    rintro _ rfl
    refine gFi 31 rfl ?_
    rintro _ rfl
    refine gFi 32 rfl ?_
    rintro _ rfl
    refine gFi 33 rfl ?_
    rintro _ rfl
    refine gFi 34 rfl ?_
    rintro _ rfl
    refine gFi 27 rfl ?_
    rintro _ rfl
    refine gFi 35 rfl ?_
    rintro _ rfl
    refine gFi 36 rfl ?_
    rintro _ rfl
    refine gFi 11 rfl ?_
    rintro _ ⟨p11, rfl, q11, l11, z11⟩
    refine gFiN rfl ?_
    refine gFi0 ?_
    simp only [List.drop_succ_cons, List.drop_zero, Act.put, List.setIfInBounds_toArray, List.set_cons_succ, List.set_cons_zero]
    have HC := hide hC.1
    have HL := hide l11
    have HN2 := hide (show p7 + 1 ≤ p11 by have := HN.out; omega)
    clear hC h1 l11
    cases neg
    · have hcs := HL.out.1
      go_wp2_with fail
      refine (wideLow_any (dgl s) _).mono ?_
      rintro e w3 ⟨rfl, hb3⟩
      replace HC := hide (HC.out.below hb3)
      clear hb3 hcs HL
      have hr0 := HC.out.rw 0 (by decide)
      have hr1 := HC.out.rw 1 (by decide)
      have hrf := HC.out.fz
      have hlt := HC.out.lt
      have HB := hide HC.out.bel
      clear HC
      go_wp2
      exact bodyPost_ret (v := .agg #[.int .u64 (dgl s 1 : Nat), .int .u64 (dgl s 0 : Nat)]) (by simp [results, Tryz.results45, go_sem, hr0, hr1, hlt]) rfl ⟨rfl, (HB.out.setCell (p := ⟨w.heap.size, 0, none⟩) (Nat.le_refl _) _).setCell (p := ⟨w.heap.size, 1, none⟩) (Nat.le_refl _) _⟩
    · go_upto_region 7 with fail
      refine wp_gen (fun W => MadeSt w.heap.size p7 w k W ∧ LiesF W p11 (dgl s) ∧ ∀ i, W.frozen? ⟨p11, i, none⟩ = false) ⟨HC.out, HL.out, z11⟩ ?_
      clear HC HL z11
      rintro W2 ⟨h2, h3, z11⟩
      refine wp_region_storeK 10 [9] [39, 40, 41, 42, 43, 44, 38, 45, 46] (fun bs => [(39, .val (.agg #[.int .u64 (dgl (s) 0 : Nat), .int .u64 (dgl (s) 1 : Nat), .int .u64 (dgl (s) 2 : Nat), .int .u64 (dgl (s) 3 : Nat), .int .u64 (dgl (s) 4 : Nat), .int .u64 (dgl (s) 5 : Nat), .int .u64 (dgl (s) 6 : Nat), .int .u64 (dgl (s) 7 : Nat)])), (40, .val (.pointer (some ⟨p7, 0, none⟩))), (41, .val (.int .i64 (k 0))), (42, .val (.int .i64 (k 0 - 1))), (43, .val (.agg #[.int .u64 (dgl (p) 0 : Nat), .int .u64 (dgl (p) 1 : Nat), .int .u64 (dgl (p) 2 : Nat), .int .u64 (dgl (p) 3 : Nat), .int .u64 (dgl (p) 4 : Nat), .int .u64 (dgl (p) 5 : Nat), .int .u64 (dgl (p) 6 : Nat), .int .u64 (dgl (p) 7 : Nat)])), (44, .val (.tuple #[.agg #[.int .u64 (dgl (t) 0 : Nat), .int .u64 (dgl (t) 1 : Nat), .int .u64 (dgl (t) 2 : Nat), .int .u64 (dgl (t) 3 : Nat), .int .u64 (dgl (t) 4 : Nat), .int .u64 (dgl (t) 5 : Nat), .int .u64 (dgl (t) 6 : Nat), .int .u64 (dgl (t) 7 : Nat)], .bool ov2])), (38, .val (.tuple #[.agg #[.int .u64 (dgl (t) 0 : Nat), .int .u64 (dgl (t) 1 : Nat), .int .u64 (dgl (t) 2 : Nat), .int .u64 (dgl (t) 3 : Nat), .int .u64 (dgl (t) 4 : Nat), .int .u64 (dgl (t) 5 : Nat), .int .u64 (dgl (t) 6 : Nat), .int .u64 (dgl (t) 7 : Nat)], .bool ov2])), (45, .val (.agg #[.int .u64 (dgl (t) 0 : Nat), .int .u64 (dgl (t) 1 : Nat), .int .u64 (dgl (t) 2 : Nat), .int .u64 (dgl (t) 3 : Nat), .int .u64 (dgl (t) 4 : Nat), .int .u64 (dgl (t) 5 : Nat), .int .u64 (dgl (t) 6 : Nat), .int .u64 (dgl (t) 7 : Nat)])), (46, .val (.bool ov2))])
        (fun bs W => MadeSt w.heap.size p7 w k W ∧ (∀ b, bs.headD false = b → LiesF W p11 (dgl (bif b then t else s))) ∧ ∀ i, W.frozen? ⟨p11, i, none⟩ = false) (fun bs => rfl) mixedOk (by kernel_rfl) (by kernel_rfl) (by kernel_rfl) (⟨h2.below (Below.refl _ _).drew, fun b hb => by subst hb; exact h3.below (Below.refl _ _).drew, fun i => (Below.refl _ _).drew.frozen (p := ⟨p11, i, none⟩) h3.2 |>.trans (z11 i)⟩) (fun bs W W' h hb => ⟨h.1.below hb, fun b hq => (h.2.1 b hq).below hb, fun i => (hb.frozen (p := ⟨p11, i, none⟩) (h.2.1 _ rfl).2).trans (h.2.2 i)⟩) ?_ ?_
      · refine kSt rfl (fun φ hφ => gStep_run rfl ?_) ?_
        · intro ρ W hC hc hf hL
          have e11 : ρ (.tmp 11) = .pointer (some ⟨p11, 0, none⟩) := hL 11 (by decide +kernel)
          have hφ0 : φ 9 = false := hφ 9 (by simp) (by kernel_rfl)
          have hD : LiesF W p11 (dgl s) := hC.2.1 false hφ0
          have hl := hD.1
          simp [go_sem, hc, hf, e11, hl]
          exact ⟨Below.refl _ _, rfl⟩
        refine kSt rfl (fun φ hφ => gStep_run rfl ?_) ?_
        · intro ρ W hC hc hf hL
          have e7 : ρ (.tmp 7) = .pointer (some ⟨p7, 0, none⟩) := hL 7 (by decide +kernel)
          simp [go_sem, hc, hf, e7]
          exact ⟨Below.refl _ _, rfl⟩
        refine kSt rfl (fun φ hφ => gStep_run rfl ?_) ?_
        · intro ρ W hC hc hf hL
          have e40 : ρ (.tmp 40) = .pointer (some ⟨p7, 0, none⟩) := hL 40 (by decide +kernel)
          have hl := hC.1.rk 0 (by decide)
          simp [go_sem, hc, hf, e40, hl]
          exact ⟨Below.refl _ _, rfl⟩
        refine kSt rfl (fun φ hφ => gStep_run rfl ?_) ?_
        · intro ρ W hC hc hf hL
          have e41 : ρ (.tmp 41) = .int .i64 (k 0) := hL 41 (by decide +kernel)
          simp [go_sem, hc, hf, e41, hw0]
          exact ⟨Below.refl _ _, rfl⟩
        refine kSt rfl (fun φ hφ => gStep_run rfl ?_) ?_
        · intro ρ W hC hc hf hL
          have e42 : ρ (.tmp 42) = .int .i64 (k 0 - 1) := hL 42 (by decide +kernel)
          simp [go_sem, hc, hf, e42]
          refine (HPO.out W).mono ?_
          rintro e w' ⟨rfl, hb⟩
          exact ⟨_, rfl, by first | exact hb | (subst hb; exact Below.refl _ _), rfl⟩
        refine kSt rfl (fun φ hφ => gStep_run rfl ?_) ?_
        · intro ρ W hC hc hf hL
          have e39 : ρ (.tmp 39) = .agg #[.int .u64 (dgl (s) 0 : Nat), .int .u64 (dgl (s) 1 : Nat), .int .u64 (dgl (s) 2 : Nat), .int .u64 (dgl (s) 3 : Nat), .int .u64 (dgl (s) 4 : Nat), .int .u64 (dgl (s) 5 : Nat), .int .u64 (dgl (s) 6 : Nat), .int .u64 (dgl (s) 7 : Nat)] := hL 39 (by decide +kernel)
          have e43 : ρ (.tmp 43) = .agg #[.int .u64 (dgl (p) 0 : Nat), .int .u64 (dgl (p) 1 : Nat), .int .u64 (dgl (p) 2 : Nat), .int .u64 (dgl (p) 3 : Nat), .int .u64 (dgl (p) 4 : Nat), .int .u64 (dgl (p) 5 : Nat), .int .u64 (dgl (p) 6 : Nat), .int .u64 (dgl (p) 7 : Nat)] := hL 43 (by decide +kernel)
          simp [go_sem, hc, hf, e39, e43]
          refine (HA2.out W).mono ?_
          rintro e w' ⟨rfl, hb⟩
          exact ⟨_, rfl, by first | exact hb | (subst hb; exact Below.refl _ _), rfl⟩
        refine kSt rfl (fun φ hφ => gStep_run rfl (gRun_move 44 38 (.inl rfl) rfl (by decide +kernel) (fun v w h => h))) ?_
        refine kSt rfl (fun φ hφ => gStep_run rfl ?_) ?_
        · intro ρ W hC hc hf hL
          have e38 : ρ (.tmp 38) = .tuple #[.agg #[.int .u64 (dgl (t) 0 : Nat), .int .u64 (dgl (t) 1 : Nat), .int .u64 (dgl (t) 2 : Nat), .int .u64 (dgl (t) 3 : Nat), .int .u64 (dgl (t) 4 : Nat), .int .u64 (dgl (t) 5 : Nat), .int .u64 (dgl (t) 6 : Nat), .int .u64 (dgl (t) 7 : Nat)], .bool ov2] := hL 38 (by decide +kernel)
          simp [go_sem, hc, hf, e38]
          exact ⟨Below.refl _ _, rfl⟩
        refine kSt rfl (fun φ hφ => gStep_run rfl ?_) ?_
        · intro ρ W hC hc hf hL
          have e38 : ρ (.tmp 38) = .tuple #[.agg #[.int .u64 (dgl (t) 0 : Nat), .int .u64 (dgl (t) 1 : Nat), .int .u64 (dgl (t) 2 : Nat), .int .u64 (dgl (t) 3 : Nat), .int .u64 (dgl (t) 4 : Nat), .int .u64 (dgl (t) 5 : Nat), .int .u64 (dgl (t) 6 : Nat), .int .u64 (dgl (t) 7 : Nat)], .bool ov2] := hL 38 (by decide +kernel)
          simp [go_sem, hc, hf, e38]
          exact ⟨Below.refl _ _, rfl⟩
        refine kStS rfl ⟨rfl, rfl, ?_⟩ ?_
        · intro φ ρ W hφ hC hc hL
          have e11 : ρ (.tmp 11) = .pointer (some ⟨p11, 0, none⟩) := hL 11 (by decide +kernel)
          have e45 : ρ (.tmp 45) = .agg #[.int .u64 (dgl (t) 0 : Nat), .int .u64 (dgl (t) 1 : Nat), .int .u64 (dgl (t) 2 : Nat), .int .u64 (dgl (t) 3 : Nat), .int .u64 (dgl (t) 4 : Nat), .int .u64 (dgl (t) 5 : Nat), .int .u64 (dgl (t) 6 : Nat), .int .u64 (dgl (t) 7 : Nat)] := hL 45 (by decide +kernel)
          have hD : LiesF W p11 (dgl s) := hC.2.1 false hφ
          have hr := hD.1
          have hrl := hD.2
          have hrf := hC.2.2
          refine gUpon_of ((((((((W.setCell ⟨p11, 0, none⟩ (.int .u64 (dgl t 0 : Nat))).setCell ⟨p11, 1, none⟩ (.int .u64 (dgl t 1 : Nat))).setCell ⟨p11, 2, none⟩ (.int .u64 (dgl t 2 : Nat))).setCell ⟨p11, 3, none⟩ (.int .u64 (dgl t 3 : Nat))).setCell ⟨p11, 4, none⟩ (.int .u64 (dgl t 4 : Nat))).setCell ⟨p11, 5, none⟩ (.int .u64 (dgl t 5 : Nat))).setCell ⟨p11, 6, none⟩ (.int .u64 (dgl t 6 : Nat))).setCell ⟨p11, 7, none⟩ (.int .u64 (dgl t 7 : Nat))) ?_ (fun _ => ?_)
          · simp [go_sem, hc, e11, e45, hr, hrl, hrf, gUpon]
          have hs8 := below_set8 (Below.refl (p7 + 1) W) p11 HN2.out (.int .u64 (dgl t 0 : Nat)) (.int .u64 (dgl t 1 : Nat)) (.int .u64 (dgl t 2 : Nat)) (.int .u64 (dgl t 3 : Nat)) (.int .u64 (dgl t 4 : Nat)) (.int .u64 (dgl t 5 : Nat)) (.int .u64 (dgl t 6 : Nat)) (.int .u64 (dgl t 7 : Nat))
          refine ⟨⟨hC.1.under hs8 (by omega), fun b hb => ?_, fun i => by simpa [go_sem] using hrf i⟩, fun t => (tbl_imp rfl (fun _ => val_imp) (tbl_imp rfl (fun _ => val_imp) (tbl_imp rfl (fun _ => val_imp) (tbl_imp rfl (fun _ => val_imp) (tbl_imp rfl (fun _ => val_imp) (tbl_imp rfl (fun _ => val_imp) (tbl_imp rfl (fun _ => val_imp) (tbl_imp rfl (fun _ => val_imp) (tbl_imp rfl (fun _ => val_imp) tbl_nil_imp)))))))))⟩
          have hb2 : (φ 9 || true) = b := hb
          rw [Bool.or_true] at hb2
          subst hb2
          exact set8_same W p11 (dgl t) (dgl s) hD
        exact kSt0
      · intro W hC
        refine gFi 39 rfl ?_
        rintro _ rfl
        refine gFi 40 rfl ?_
        rintro _ rfl
        refine gFi 41 rfl ?_
        rintro _ rfl
        refine gFi 42 rfl ?_
        rintro _ rfl
        refine gFi 43 rfl ?_
        rintro _ rfl
        refine gFi 44 rfl ?_
        rintro _ rfl
        refine gFi 38 rfl ?_
        rintro _ rfl
        refine gFi 45 rfl ?_
        rintro _ rfl
        refine gFi 46 rfl ?_
        rintro _ rfl
        refine gFiN rfl ?_
        refine gFi0 ?_
        simp only [List.drop_succ_cons, List.drop_zero, Act.put, List.setIfInBounds_toArray, List.set_cons_succ, List.set_cons_zero]
        have HL : Hid (LiesF W p11 (dgl t)) := hC.2.1 true rfl
        have HC := hide hC.1
        clear hC h2 h3 z11
        have hcs := HL.out.1
        go_wp2_with fail
        refine (wideLow_any (dgl t) _).mono ?_
        rintro e w3 ⟨rfl, hb3⟩
        replace HC := hide (HC.out.below hb3)
        clear hb3 hcs HL
        have hr0 := HC.out.rw 0 (by decide)
        have hr1 := HC.out.rw 1 (by decide)
        have hrf := HC.out.fz
        have hlt := HC.out.lt
        have HB := hide HC.out.bel
        clear HC
        go_wp2
        exact bodyPost_ret (v := .agg #[.int .u64 (dgl t 1 : Nat), .int .u64 (dgl t 0 : Nat)]) (by simp [results, Tryz.results45, go_sem, hr0, hr1, hlt]) rfl ⟨rfl, (HB.out.setCell (p := ⟨w.heap.size, 0, none⟩) (Nat.le_refl _) _).setCell (p := ⟨w.heap.size, 1, none⟩) (Nat.le_refl _) _⟩

end Go.Proofs.YtpcjdllijkjdkaaGreatDoor

/- Contracts: format.made with its numbers, and Inf, NaN, Max, Least, One, Nought. -/
set_option linter.unusedVariables false
set_option linter.unusedSimpArgs false
set_option maxRecDepth 8000
namespace Go.Proofs.YtpcjdllijkjdkaaGreatDoor
open Go.RowKit Plain

theorem q200 : 2 ^ 200 < QQ := by decide +kernel

theorem made_1 (neg : Bool) (fid : Nat) (a b : Nat) (hent : ∀ args w, (callFunc fid args).run Tryz.prog w = .ok (.enter fid args) w) (ha : a < 2 ^ 5) (hb : b < 2 ^ 10)
    (HPA : Hid (∀ w, Calls Tryz.prog fid #[.agg #[.int .i64 16, .int .i64 11, .int .i64 15, .int .i64 (-14), .int .i64 5]] w fun e w' => e = .returned (.tuple #[.agg #[.int .u64 (dgl (a) 0 : Nat), .int .u64 (dgl (a) 1 : Nat), .int .u64 (dgl (a) 2 : Nat), .int .u64 (dgl (a) 3 : Nat), .int .u64 (dgl (a) 4 : Nat), .int .u64 (dgl (a) 5 : Nat), .int .u64 (dgl (a) 6 : Nat), .int .u64 (dgl (a) 7 : Nat)], .agg #[.int .u64 (dgl (b) 0 : Nat), .int .u64 (dgl (b) 1 : Nat), .int .u64 (dgl (b) 2 : Nat), .int .u64 (dgl (b) 3 : Nat), .int .u64 (dgl (b) 4 : Nat), .int .u64 (dgl (b) 5 : Nat), .int .u64 (dgl (b) 6 : Nat), .int .u64 (dgl (b) 7 : Nat)]]) ∧ Below w.heap.size w w')) (w : World) (hg : FmtG w) :
    Calls Tryz.prog 45 #[.int .i64 1, .bool neg, .func (.func fid) #[] #[]] w fun e w' => e = .returned (.agg #[.int .u64 (dgl (a * 2 ^ 10 + b + (bif neg then 2 ^ 15 else 0)) 1 : Nat), .int .u64 (dgl (a * 2 ^ 10 + b + (bif neg then 2 ^ 15 else 0)) 0 : Nat)]) ∧ Below w.heap.size w w' := by
  have hQ := q200
  have h1 := fun w => wideShl_any a 10 (by omega) w
  rw [show roomI 10 = ((10 : Nat) : Int) by decide, sh_up] at h1
  have h2 := fun w => wideAdd_any (a * 2 ^ 10) b (by omega) (by omega) w
  have h3 := fun w => widePower_any 15 (by decide) w
  rw [show roomI 15 = ((15 : Nat) : Int) by decide, sh_up, Nat.one_mul] at h3
  have h4 := fun w => wideAdd_any (a * 2 ^ 10 + b) (2 ^ 15) (by omega) (by omega) w
  have h := made_walk 1 neg fid (fun i => [16, 11, 15, -14, 5].getD i 0) a b (a * 2 ^ 10) (a * 2 ^ 10 + b) (2 ^ 15) (a * 2 ^ 10 + b + 2 ^ 15) _ _ hent (by decide +kernel) (by decide +kernel) (fun w hg => of_1 w hg) HPA h1 h2 h3 h4 w hg
  rw [show (bif neg then a * 2 ^ 10 + b + 2 ^ 15 else a * 2 ^ 10 + b) = a * 2 ^ 10 + b + (bif neg then 2 ^ 15 else 0) by cases neg <;> simp only [cond_true, cond_false, Nat.add_zero]] at h
  exact h

theorem made_2 (neg : Bool) (fid : Nat) (a b : Nat) (hent : ∀ args w, (callFunc fid args).run Tryz.prog w = .ok (.enter fid args) w) (ha : a < 2 ^ 8) (hb : b < 2 ^ 23)
    (HPA : Hid (∀ w, Calls Tryz.prog fid #[.agg #[.int .i64 32, .int .i64 24, .int .i64 127, .int .i64 (-126), .int .i64 8]] w fun e w' => e = .returned (.tuple #[.agg #[.int .u64 (dgl (a) 0 : Nat), .int .u64 (dgl (a) 1 : Nat), .int .u64 (dgl (a) 2 : Nat), .int .u64 (dgl (a) 3 : Nat), .int .u64 (dgl (a) 4 : Nat), .int .u64 (dgl (a) 5 : Nat), .int .u64 (dgl (a) 6 : Nat), .int .u64 (dgl (a) 7 : Nat)], .agg #[.int .u64 (dgl (b) 0 : Nat), .int .u64 (dgl (b) 1 : Nat), .int .u64 (dgl (b) 2 : Nat), .int .u64 (dgl (b) 3 : Nat), .int .u64 (dgl (b) 4 : Nat), .int .u64 (dgl (b) 5 : Nat), .int .u64 (dgl (b) 6 : Nat), .int .u64 (dgl (b) 7 : Nat)]]) ∧ Below w.heap.size w w')) (w : World) (hg : FmtG w) :
    Calls Tryz.prog 45 #[.int .i64 2, .bool neg, .func (.func fid) #[] #[]] w fun e w' => e = .returned (.agg #[.int .u64 (dgl (a * 2 ^ 23 + b + (bif neg then 2 ^ 31 else 0)) 1 : Nat), .int .u64 (dgl (a * 2 ^ 23 + b + (bif neg then 2 ^ 31 else 0)) 0 : Nat)]) ∧ Below w.heap.size w w' := by
  have hQ := q200
  have h1 := fun w => wideShl_any a 23 (by omega) w
  rw [show roomI 23 = ((23 : Nat) : Int) by decide, sh_up] at h1
  have h2 := fun w => wideAdd_any (a * 2 ^ 23) b (by omega) (by omega) w
  have h3 := fun w => widePower_any 31 (by decide) w
  rw [show roomI 31 = ((31 : Nat) : Int) by decide, sh_up, Nat.one_mul] at h3
  have h4 := fun w => wideAdd_any (a * 2 ^ 23 + b) (2 ^ 31) (by omega) (by omega) w
  have h := made_walk 2 neg fid (fun i => [32, 24, 127, -126, 8].getD i 0) a b (a * 2 ^ 23) (a * 2 ^ 23 + b) (2 ^ 31) (a * 2 ^ 23 + b + 2 ^ 31) _ _ hent (by decide +kernel) (by decide +kernel) (fun w hg => of_2 w hg) HPA h1 h2 h3 h4 w hg
  rw [show (bif neg then a * 2 ^ 23 + b + 2 ^ 31 else a * 2 ^ 23 + b) = a * 2 ^ 23 + b + (bif neg then 2 ^ 31 else 0) by cases neg <;> simp only [cond_true, cond_false, Nat.add_zero]] at h
  exact h

theorem made_3 (neg : Bool) (fid : Nat) (a b : Nat) (hent : ∀ args w, (callFunc fid args).run Tryz.prog w = .ok (.enter fid args) w) (ha : a < 2 ^ 11) (hb : b < 2 ^ 52)
    (HPA : Hid (∀ w, Calls Tryz.prog fid #[.agg #[.int .i64 64, .int .i64 53, .int .i64 1023, .int .i64 (-1022), .int .i64 11]] w fun e w' => e = .returned (.tuple #[.agg #[.int .u64 (dgl (a) 0 : Nat), .int .u64 (dgl (a) 1 : Nat), .int .u64 (dgl (a) 2 : Nat), .int .u64 (dgl (a) 3 : Nat), .int .u64 (dgl (a) 4 : Nat), .int .u64 (dgl (a) 5 : Nat), .int .u64 (dgl (a) 6 : Nat), .int .u64 (dgl (a) 7 : Nat)], .agg #[.int .u64 (dgl (b) 0 : Nat), .int .u64 (dgl (b) 1 : Nat), .int .u64 (dgl (b) 2 : Nat), .int .u64 (dgl (b) 3 : Nat), .int .u64 (dgl (b) 4 : Nat), .int .u64 (dgl (b) 5 : Nat), .int .u64 (dgl (b) 6 : Nat), .int .u64 (dgl (b) 7 : Nat)]]) ∧ Below w.heap.size w w')) (w : World) (hg : FmtG w) :
    Calls Tryz.prog 45 #[.int .i64 3, .bool neg, .func (.func fid) #[] #[]] w fun e w' => e = .returned (.agg #[.int .u64 (dgl (a * 2 ^ 52 + b + (bif neg then 2 ^ 63 else 0)) 1 : Nat), .int .u64 (dgl (a * 2 ^ 52 + b + (bif neg then 2 ^ 63 else 0)) 0 : Nat)]) ∧ Below w.heap.size w w' := by
  have hQ := q200
  have h1 := fun w => wideShl_any a 52 (by omega) w
  rw [show roomI 52 = ((52 : Nat) : Int) by decide, sh_up] at h1
  have h2 := fun w => wideAdd_any (a * 2 ^ 52) b (by omega) (by omega) w
  have h3 := fun w => widePower_any 63 (by decide) w
  rw [show roomI 63 = ((63 : Nat) : Int) by decide, sh_up, Nat.one_mul] at h3
  have h4 := fun w => wideAdd_any (a * 2 ^ 52 + b) (2 ^ 63) (by omega) (by omega) w
  have h := made_walk 3 neg fid (fun i => [64, 53, 1023, -1022, 11].getD i 0) a b (a * 2 ^ 52) (a * 2 ^ 52 + b) (2 ^ 63) (a * 2 ^ 52 + b + 2 ^ 63) _ _ hent (by decide +kernel) (by decide +kernel) (fun w hg => of_3 w hg) HPA h1 h2 h3 h4 w hg
  rw [show (bif neg then a * 2 ^ 52 + b + 2 ^ 63 else a * 2 ^ 52 + b) = a * 2 ^ 52 + b + (bif neg then 2 ^ 63 else 0) by cases neg <;> simp only [cond_true, cond_false, Nat.add_zero]] at h
  exact h

theorem made_4 (neg : Bool) (fid : Nat) (a b : Nat) (hent : ∀ args w, (callFunc fid args).run Tryz.prog w = .ok (.enter fid args) w) (ha : a < 2 ^ 15) (hb : b < 2 ^ 112)
    (HPA : Hid (∀ w, Calls Tryz.prog fid #[.agg #[.int .i64 128, .int .i64 113, .int .i64 16383, .int .i64 (-16382), .int .i64 15]] w fun e w' => e = .returned (.tuple #[.agg #[.int .u64 (dgl (a) 0 : Nat), .int .u64 (dgl (a) 1 : Nat), .int .u64 (dgl (a) 2 : Nat), .int .u64 (dgl (a) 3 : Nat), .int .u64 (dgl (a) 4 : Nat), .int .u64 (dgl (a) 5 : Nat), .int .u64 (dgl (a) 6 : Nat), .int .u64 (dgl (a) 7 : Nat)], .agg #[.int .u64 (dgl (b) 0 : Nat), .int .u64 (dgl (b) 1 : Nat), .int .u64 (dgl (b) 2 : Nat), .int .u64 (dgl (b) 3 : Nat), .int .u64 (dgl (b) 4 : Nat), .int .u64 (dgl (b) 5 : Nat), .int .u64 (dgl (b) 6 : Nat), .int .u64 (dgl (b) 7 : Nat)]]) ∧ Below w.heap.size w w')) (w : World) (hg : FmtG w) :
    Calls Tryz.prog 45 #[.int .i64 4, .bool neg, .func (.func fid) #[] #[]] w fun e w' => e = .returned (.agg #[.int .u64 (dgl (a * 2 ^ 112 + b + (bif neg then 2 ^ 127 else 0)) 1 : Nat), .int .u64 (dgl (a * 2 ^ 112 + b + (bif neg then 2 ^ 127 else 0)) 0 : Nat)]) ∧ Below w.heap.size w w' := by
  have hQ := q200
  have h1 := fun w => wideShl_any a 112 (by omega) w
  rw [show roomI 112 = ((112 : Nat) : Int) by decide, sh_up] at h1
  have h2 := fun w => wideAdd_any (a * 2 ^ 112) b (by omega) (by omega) w
  have h3 := fun w => widePower_any 127 (by decide) w
  rw [show roomI 127 = ((127 : Nat) : Int) by decide, sh_up, Nat.one_mul] at h3
  have h4 := fun w => wideAdd_any (a * 2 ^ 112 + b) (2 ^ 127) (by omega) (by omega) w
  have h := made_walk 4 neg fid (fun i => [128, 113, 16383, -16382, 15].getD i 0) a b (a * 2 ^ 112) (a * 2 ^ 112 + b) (2 ^ 127) (a * 2 ^ 112 + b + 2 ^ 127) _ _ hent (by decide +kernel) (by decide +kernel) (fun w hg => of_4 w hg) HPA h1 h2 h3 h4 w hg
  rw [show (bif neg then a * 2 ^ 112 + b + 2 ^ 127 else a * 2 ^ 112 + b) = a * 2 ^ 112 + b + (bif neg then 2 ^ 127 else 0) by cases neg <;> simp only [cond_true, cond_false, Nat.add_zero]] at h
  exact h

theorem inf_pass (f : Int) (neg : Bool) (x y : Nat) (HM : Hid (∀ w, FmtG w → Calls Tryz.prog 45 #[.int .i64 f, .bool neg, .func (.func 82) #[] #[]] w fun e w' => e = .returned (.agg #[.int .u64 (x : Nat), .int .u64 (y : Nat)]) ∧ Below w.heap.size w w')) (w : World) (hg : FmtG w) :
    Calls Tryz.prog 51 #[.int .i64 f, .bool neg] w fun e w' => e = .returned (.agg #[.int .u64 (x : Nat), .int .u64 (y : Nat)]) ∧ Below w.heap.size w w' := by
  have HB0 := hide (below_allocs w (.cells #[.int .u64 0, .int .u64 0] 29))
  have HG := hide (hg.below HB0.out)
  clear hg
  go_enter Tryz.func51, Tryz.ntmps51
  go_wp2_with fail
  refine (HM.out _ HG.out).mono ?_
  rintro e w1 ⟨rfl, hb1⟩
  have hs := hb1.size
  rw [World.size_alloc] at hs
  have hc : ∀ i, i < 2 → w1.cell? ⟨w.heap.size, i, none⟩ = some (.int .u64 0) := fun i hi => (hb1.cell (p := ⟨w.heap.size, i, none⟩) (by simp)).trans (by match i, hi with | 0, _ | 1, _ => simp [go_sem])
  have hr0 := hc 0 (by decide)
  have hr1 := hc 1 (by decide)
  have hf : ∀ i, w1.frozen? ⟨w.heap.size, i, none⟩ = false := fun i => (hb1.frozen (p := ⟨w.heap.size, i, none⟩) (by simp)).trans (by simp [go_sem])
  have hlt : w.heap.size < w1.heap.size := hs
  have HB := hide (below_trans HB0.out hb1)
  clear hb1 hs HG HB0 hc
  go_wp2
  exact bodyPost_ret (v := .agg #[.int .u64 (x : Nat), .int .u64 (y : Nat)]) (by simp [results, Tryz.results51, go_sem, hr0, hr1, hlt]) rfl ⟨rfl, (HB.out.setCell (p := ⟨w.heap.size, 0, none⟩) (Nat.le_refl _) _).setCell (p := ⟨w.heap.size, 1, none⟩) (Nat.le_refl _) _⟩
theorem inf_1 (neg : Bool) (w : World) (hg : FmtG w) : Calls Tryz.prog 51 #[.int .i64 1, .bool neg] w fun e w' => e = .returned (.agg #[.int .u64 (dgl (bif neg then 64512 else 31744) 1 : Nat), .int .u64 (dgl (bif neg then 64512 else 31744) 0 : Nat)]) ∧ Below w.heap.size w w' := by
  have h1 := fun w => wideMask_any 5 5 (by decide) w
  have h := fun w hg => made_1 neg 82 (2 ^ 5 - 1) (0) (enters_of Tryz.func82 (by kernel_rfl) rfl) (by decide) (by decide) (fun w => inf1_any (fun i => [16, 11, 15, -14, 5].getD i 0) (2 ^ 5 - 1) h1 w) w hg
  rw [show (2 ^ 5 - 1) * 2 ^ 10 + (0) + (bif neg then 2 ^ 15 else 0) = (bif neg then 64512 else 31744) by cases neg <;> decide] at h
  exact inf_pass 1 neg _ _ h w hg
theorem inf_2 (neg : Bool) (w : World) (hg : FmtG w) : Calls Tryz.prog 51 #[.int .i64 2, .bool neg] w fun e w' => e = .returned (.agg #[.int .u64 (dgl (bif neg then 4286578688 else 2139095040) 1 : Nat), .int .u64 (dgl (bif neg then 4286578688 else 2139095040) 0 : Nat)]) ∧ Below w.heap.size w w' := by
  have h1 := fun w => wideMask_any 8 8 (by decide) w
  have h := fun w hg => made_2 neg 82 (2 ^ 8 - 1) (0) (enters_of Tryz.func82 (by kernel_rfl) rfl) (by decide) (by decide) (fun w => inf1_any (fun i => [32, 24, 127, -126, 8].getD i 0) (2 ^ 8 - 1) h1 w) w hg
  rw [show (2 ^ 8 - 1) * 2 ^ 23 + (0) + (bif neg then 2 ^ 31 else 0) = (bif neg then 4286578688 else 2139095040) by cases neg <;> decide] at h
  exact inf_pass 2 neg _ _ h w hg
theorem inf_3 (neg : Bool) (w : World) (hg : FmtG w) : Calls Tryz.prog 51 #[.int .i64 3, .bool neg] w fun e w' => e = .returned (.agg #[.int .u64 (dgl (bif neg then 18442240474082181120 else 9218868437227405312) 1 : Nat), .int .u64 (dgl (bif neg then 18442240474082181120 else 9218868437227405312) 0 : Nat)]) ∧ Below w.heap.size w w' := by
  have h1 := fun w => wideMask_any 11 11 (by decide) w
  have h := fun w hg => made_3 neg 82 (2 ^ 11 - 1) (0) (enters_of Tryz.func82 (by kernel_rfl) rfl) (by decide) (by decide) (fun w => inf1_any (fun i => [64, 53, 1023, -1022, 11].getD i 0) (2 ^ 11 - 1) h1 w) w hg
  rw [show (2 ^ 11 - 1) * 2 ^ 52 + (0) + (bif neg then 2 ^ 63 else 0) = (bif neg then 18442240474082181120 else 9218868437227405312) by cases neg <;> decide] at h
  exact inf_pass 3 neg _ _ h w hg
theorem inf_4 (neg : Bool) (w : World) (hg : FmtG w) : Calls Tryz.prog 51 #[.int .i64 4, .bool neg] w fun e w' => e = .returned (.agg #[.int .u64 (dgl (bif neg then 340277174624079928635746076935438991360 else 170135991163610696904058773219554885632) 1 : Nat), .int .u64 (dgl (bif neg then 340277174624079928635746076935438991360 else 170135991163610696904058773219554885632) 0 : Nat)]) ∧ Below w.heap.size w w' := by
  have h1 := fun w => wideMask_any 15 15 (by decide) w
  have h := fun w hg => made_4 neg 82 (2 ^ 15 - 1) (0) (enters_of Tryz.func82 (by kernel_rfl) rfl) (by decide) (by decide) (fun w => inf1_any (fun i => [128, 113, 16383, -16382, 15].getD i 0) (2 ^ 15 - 1) h1 w) w hg
  rw [show (2 ^ 15 - 1) * 2 ^ 112 + (0) + (bif neg then 2 ^ 127 else 0) = (bif neg then 340277174624079928635746076935438991360 else 170135991163610696904058773219554885632) by cases neg <;> decide] at h
  exact inf_pass 4 neg _ _ h w hg

theorem max_pass (f : Int) (neg : Bool) (x y : Nat) (HM : Hid (∀ w, FmtG w → Calls Tryz.prog 45 #[.int .i64 f, .bool neg, .func (.func 84) #[] #[]] w fun e w' => e = .returned (.agg #[.int .u64 (x : Nat), .int .u64 (y : Nat)]) ∧ Below w.heap.size w w')) (w : World) (hg : FmtG w) :
    Calls Tryz.prog 52 #[.int .i64 f, .bool neg] w fun e w' => e = .returned (.agg #[.int .u64 (x : Nat), .int .u64 (y : Nat)]) ∧ Below w.heap.size w w' := by
  have HB0 := hide (below_allocs w (.cells #[.int .u64 0, .int .u64 0] 29))
  have HG := hide (hg.below HB0.out)
  clear hg
  go_enter Tryz.func52, Tryz.ntmps52
  go_wp2_with fail
  refine (HM.out _ HG.out).mono ?_
  rintro e w1 ⟨rfl, hb1⟩
  have hs := hb1.size
  rw [World.size_alloc] at hs
  have hc : ∀ i, i < 2 → w1.cell? ⟨w.heap.size, i, none⟩ = some (.int .u64 0) := fun i hi => (hb1.cell (p := ⟨w.heap.size, i, none⟩) (by simp)).trans (by match i, hi with | 0, _ | 1, _ => simp [go_sem])
  have hr0 := hc 0 (by decide)
  have hr1 := hc 1 (by decide)
  have hf : ∀ i, w1.frozen? ⟨w.heap.size, i, none⟩ = false := fun i => (hb1.frozen (p := ⟨w.heap.size, i, none⟩) (by simp)).trans (by simp [go_sem])
  have hlt : w.heap.size < w1.heap.size := hs
  have HB := hide (below_trans HB0.out hb1)
  clear hb1 hs HG HB0 hc
  go_wp2
  exact bodyPost_ret (v := .agg #[.int .u64 (x : Nat), .int .u64 (y : Nat)]) (by simp [results, Tryz.results52, go_sem, hr0, hr1, hlt]) rfl ⟨rfl, (HB.out.setCell (p := ⟨w.heap.size, 0, none⟩) (Nat.le_refl _) _).setCell (p := ⟨w.heap.size, 1, none⟩) (Nat.le_refl _) _⟩
theorem max_1 (neg : Bool) (w : World) (hg : FmtG w) : Calls Tryz.prog 52 #[.int .i64 1, .bool neg] w fun e w' => e = .returned (.agg #[.int .u64 (dgl (bif neg then 64511 else 31743) 1 : Nat), .int .u64 (dgl (bif neg then 64511 else 31743) 0 : Nat)]) ∧ Below w.heap.size w w' := by
  have h1 := fun w => wideMask_any 4 4 (by decide) w
  have hQ := q200
  have h3 := fun w => wideShl_any (2 ^ 4 - 1) 1 (by omega) w
  rw [show roomI 1 = ((1 : Nat) : Int) by decide, sh_up] at h3
  have h2 := fun w => wideMask_any 10 10 (by decide) w
  have h := fun w hg => made_1 neg 84 ((2 ^ 4 - 1) * 2 ^ 1) (2 ^ 10 - 1) (enters_of Tryz.func84 (by kernel_rfl) rfl) (by decide) (by decide) (fun w => max1_any (fun i => [16, 11, 15, -14, 5].getD i 0) (2 ^ 4 - 1) ((2 ^ 4 - 1) * 2 ^ 1) (2 ^ 10 - 1) h1 h3 h2 (by decide +kernel) (by decide +kernel) w) w hg
  rw [show ((2 ^ 4 - 1) * 2 ^ 1) * 2 ^ 10 + (2 ^ 10 - 1) + (bif neg then 2 ^ 15 else 0) = (bif neg then 64511 else 31743) by cases neg <;> decide] at h
  exact max_pass 1 neg _ _ h w hg
theorem max_2 (neg : Bool) (w : World) (hg : FmtG w) : Calls Tryz.prog 52 #[.int .i64 2, .bool neg] w fun e w' => e = .returned (.agg #[.int .u64 (dgl (bif neg then 4286578687 else 2139095039) 1 : Nat), .int .u64 (dgl (bif neg then 4286578687 else 2139095039) 0 : Nat)]) ∧ Below w.heap.size w w' := by
  have h1 := fun w => wideMask_any 7 7 (by decide) w
  have hQ := q200
  have h3 := fun w => wideShl_any (2 ^ 7 - 1) 1 (by omega) w
  rw [show roomI 1 = ((1 : Nat) : Int) by decide, sh_up] at h3
  have h2 := fun w => wideMask_any 23 23 (by decide) w
  have h := fun w hg => made_2 neg 84 ((2 ^ 7 - 1) * 2 ^ 1) (2 ^ 23 - 1) (enters_of Tryz.func84 (by kernel_rfl) rfl) (by decide) (by decide) (fun w => max1_any (fun i => [32, 24, 127, -126, 8].getD i 0) (2 ^ 7 - 1) ((2 ^ 7 - 1) * 2 ^ 1) (2 ^ 23 - 1) h1 h3 h2 (by decide +kernel) (by decide +kernel) w) w hg
  rw [show ((2 ^ 7 - 1) * 2 ^ 1) * 2 ^ 23 + (2 ^ 23 - 1) + (bif neg then 2 ^ 31 else 0) = (bif neg then 4286578687 else 2139095039) by cases neg <;> decide] at h
  exact max_pass 2 neg _ _ h w hg
theorem max_3 (neg : Bool) (w : World) (hg : FmtG w) : Calls Tryz.prog 52 #[.int .i64 3, .bool neg] w fun e w' => e = .returned (.agg #[.int .u64 (dgl (bif neg then 18442240474082181119 else 9218868437227405311) 1 : Nat), .int .u64 (dgl (bif neg then 18442240474082181119 else 9218868437227405311) 0 : Nat)]) ∧ Below w.heap.size w w' := by
  have h1 := fun w => wideMask_any 10 10 (by decide) w
  have hQ := q200
  have h3 := fun w => wideShl_any (2 ^ 10 - 1) 1 (by omega) w
  rw [show roomI 1 = ((1 : Nat) : Int) by decide, sh_up] at h3
  have h2 := fun w => wideMask_any 52 52 (by decide) w
  have h := fun w hg => made_3 neg 84 ((2 ^ 10 - 1) * 2 ^ 1) (2 ^ 52 - 1) (enters_of Tryz.func84 (by kernel_rfl) rfl) (by decide) (by decide) (fun w => max1_any (fun i => [64, 53, 1023, -1022, 11].getD i 0) (2 ^ 10 - 1) ((2 ^ 10 - 1) * 2 ^ 1) (2 ^ 52 - 1) h1 h3 h2 (by decide +kernel) (by decide +kernel) w) w hg
  rw [show ((2 ^ 10 - 1) * 2 ^ 1) * 2 ^ 52 + (2 ^ 52 - 1) + (bif neg then 2 ^ 63 else 0) = (bif neg then 18442240474082181119 else 9218868437227405311) by cases neg <;> decide] at h
  exact max_pass 3 neg _ _ h w hg
theorem max_4 (neg : Bool) (w : World) (hg : FmtG w) : Calls Tryz.prog 52 #[.int .i64 4, .bool neg] w fun e w' => e = .returned (.agg #[.int .u64 (dgl (bif neg then 340277174624079928635746076935438991359 else 170135991163610696904058773219554885631) 1 : Nat), .int .u64 (dgl (bif neg then 340277174624079928635746076935438991359 else 170135991163610696904058773219554885631) 0 : Nat)]) ∧ Below w.heap.size w w' := by
  have h1 := fun w => wideMask_any 14 14 (by decide) w
  have hQ := q200
  have h3 := fun w => wideShl_any (2 ^ 14 - 1) 1 (by omega) w
  rw [show roomI 1 = ((1 : Nat) : Int) by decide, sh_up] at h3
  have h2 := fun w => wideMask_any 112 112 (by decide) w
  have h := fun w hg => made_4 neg 84 ((2 ^ 14 - 1) * 2 ^ 1) (2 ^ 112 - 1) (enters_of Tryz.func84 (by kernel_rfl) rfl) (by decide) (by decide) (fun w => max1_any (fun i => [128, 113, 16383, -16382, 15].getD i 0) (2 ^ 14 - 1) ((2 ^ 14 - 1) * 2 ^ 1) (2 ^ 112 - 1) h1 h3 h2 (by decide +kernel) (by decide +kernel) w) w hg
  rw [show ((2 ^ 14 - 1) * 2 ^ 1) * 2 ^ 112 + (2 ^ 112 - 1) + (bif neg then 2 ^ 127 else 0) = (bif neg then 340277174624079928635746076935438991359 else 170135991163610696904058773219554885631) by cases neg <;> decide] at h
  exact max_pass 4 neg _ _ h w hg

theorem nought_pass (f : Int) (neg : Bool) (x y : Nat) (HM : Hid (∀ w, FmtG w → Calls Tryz.prog 45 #[.int .i64 f, .bool neg, .func (.func 46) #[] #[]] w fun e w' => e = .returned (.agg #[.int .u64 (x : Nat), .int .u64 (y : Nat)]) ∧ Below w.heap.size w w')) (w : World) (hg : FmtG w) :
    Calls Tryz.prog 18 #[.int .i64 f, .bool neg] w fun e w' => e = .returned (.agg #[.int .u64 (x : Nat), .int .u64 (y : Nat)]) ∧ Below w.heap.size w w' := by
  have HB0 := hide (below_allocs w (.cells #[.int .u64 0, .int .u64 0] 29))
  have HG := hide (hg.below HB0.out)
  clear hg
  go_enter Tryz.func18, Tryz.ntmps18
  go_wp2_with fail
  refine (HM.out _ HG.out).mono ?_
  rintro e w1 ⟨rfl, hb1⟩
  have hs := hb1.size
  rw [World.size_alloc] at hs
  have hc : ∀ i, i < 2 → w1.cell? ⟨w.heap.size, i, none⟩ = some (.int .u64 0) := fun i hi => (hb1.cell (p := ⟨w.heap.size, i, none⟩) (by simp)).trans (by match i, hi with | 0, _ | 1, _ => simp [go_sem])
  have hr0 := hc 0 (by decide)
  have hr1 := hc 1 (by decide)
  have hf : ∀ i, w1.frozen? ⟨w.heap.size, i, none⟩ = false := fun i => (hb1.frozen (p := ⟨w.heap.size, i, none⟩) (by simp)).trans (by simp [go_sem])
  have hlt : w.heap.size < w1.heap.size := hs
  have HB := hide (below_trans HB0.out hb1)
  clear hb1 hs HG HB0 hc
  go_wp2
  exact bodyPost_ret (v := .agg #[.int .u64 (x : Nat), .int .u64 (y : Nat)]) (by simp [results, Tryz.results18, go_sem, hr0, hr1, hlt]) rfl ⟨rfl, (HB.out.setCell (p := ⟨w.heap.size, 0, none⟩) (Nat.le_refl _) _).setCell (p := ⟨w.heap.size, 1, none⟩) (Nat.le_refl _) _⟩
theorem nought_1 (neg : Bool) (w : World) (hg : FmtG w) : Calls Tryz.prog 18 #[.int .i64 1, .bool neg] w fun e w' => e = .returned (.agg #[.int .u64 (dgl (bif neg then 32768 else 0) 1 : Nat), .int .u64 (dgl (bif neg then 32768 else 0) 0 : Nat)]) ∧ Below w.heap.size w w' := by
  have h := fun w hg => made_1 neg 46 (0) (0) (enters_of Tryz.func46 (by kernel_rfl) rfl) (by decide) (by decide) (fun w => nought1_any (fun i => [16, 11, 15, -14, 5].getD i 0) w) w hg
  rw [show (0) * 2 ^ 10 + (0) + (bif neg then 2 ^ 15 else 0) = (bif neg then 32768 else 0) by cases neg <;> decide] at h
  exact nought_pass 1 neg _ _ h w hg
theorem nought_2 (neg : Bool) (w : World) (hg : FmtG w) : Calls Tryz.prog 18 #[.int .i64 2, .bool neg] w fun e w' => e = .returned (.agg #[.int .u64 (dgl (bif neg then 2147483648 else 0) 1 : Nat), .int .u64 (dgl (bif neg then 2147483648 else 0) 0 : Nat)]) ∧ Below w.heap.size w w' := by
  have h := fun w hg => made_2 neg 46 (0) (0) (enters_of Tryz.func46 (by kernel_rfl) rfl) (by decide) (by decide) (fun w => nought1_any (fun i => [32, 24, 127, -126, 8].getD i 0) w) w hg
  rw [show (0) * 2 ^ 23 + (0) + (bif neg then 2 ^ 31 else 0) = (bif neg then 2147483648 else 0) by cases neg <;> decide] at h
  exact nought_pass 2 neg _ _ h w hg
theorem nought_3 (neg : Bool) (w : World) (hg : FmtG w) : Calls Tryz.prog 18 #[.int .i64 3, .bool neg] w fun e w' => e = .returned (.agg #[.int .u64 (dgl (bif neg then 9223372036854775808 else 0) 1 : Nat), .int .u64 (dgl (bif neg then 9223372036854775808 else 0) 0 : Nat)]) ∧ Below w.heap.size w w' := by
  have h := fun w hg => made_3 neg 46 (0) (0) (enters_of Tryz.func46 (by kernel_rfl) rfl) (by decide) (by decide) (fun w => nought1_any (fun i => [64, 53, 1023, -1022, 11].getD i 0) w) w hg
  rw [show (0) * 2 ^ 52 + (0) + (bif neg then 2 ^ 63 else 0) = (bif neg then 9223372036854775808 else 0) by cases neg <;> decide] at h
  exact nought_pass 3 neg _ _ h w hg
theorem nought_4 (neg : Bool) (w : World) (hg : FmtG w) : Calls Tryz.prog 18 #[.int .i64 4, .bool neg] w fun e w' => e = .returned (.agg #[.int .u64 (dgl (bif neg then 170141183460469231731687303715884105728 else 0) 1 : Nat), .int .u64 (dgl (bif neg then 170141183460469231731687303715884105728 else 0) 0 : Nat)]) ∧ Below w.heap.size w w' := by
  have h := fun w hg => made_4 neg 46 (0) (0) (enters_of Tryz.func46 (by kernel_rfl) rfl) (by decide) (by decide) (fun w => nought1_any (fun i => [128, 113, 16383, -16382, 15].getD i 0) w) w hg
  rw [show (0) * 2 ^ 112 + (0) + (bif neg then 2 ^ 127 else 0) = (bif neg then 170141183460469231731687303715884105728 else 0) by cases neg <;> decide] at h
  exact nought_pass 4 neg _ _ h w hg

end Go.Proofs.YtpcjdllijkjdkaaGreatDoor

/- Contracts: law05.awake. -/
set_option linter.unusedVariables false
set_option linter.unusedSimpArgs false
set_option maxRecDepth 8000
namespace Go.Proofs.YtpcjdllijkjdkaaGreatDoor
open Go.RowKit Plain

end Go.Proofs.YtpcjdllijkjdkaaGreatDoor

/- Contracts: radicandref05.times, Sign, Word. -/
set_option linter.unusedVariables false
set_option linter.unusedSimpArgs false
set_option maxRecDepth 8000
namespace Go.Proofs.YtpcjdllijkjdkaaGreatDoor
open Go.RowKit Plain

/-- A text of signs 0 and 1. -/
def bt (l : List Bool) : ByteArray := ⟨(l.map fun b => bif b then (49 : UInt8) else 48).toArray⟩
/-- The number that it is, base 2. -/
def valN (l : List Bool) : Nat := l.foldl (fun n b => 2 * n + b.toNat) 0
theorem bt_size (l : List Bool) : (bt l).size = l.length := by
  show ((l.map _).toArray).size = _
  simp
theorem bt_app (l m : List Bool) : bt l ++ bt m = bt (l ++ m) := by
  apply ByteArray.ext
  show (bt l ++ bt m).data = _
  simp [bt]
theorem bt_get (l : List Bool) (k : Nat) (h : k < (bt l).size) (h2 : k < l.length) : (bt l)[k]'h = bif l[k] then (49 : UInt8) else 48 := by
  have : (bt l)[k]'h = ((l.map fun b => bif b then (49 : UInt8) else 48).toArray)[k]'(by simpa using h2) := rfl
  rw [this]
  simp
theorem valN_snoc (l : List Bool) (b : Bool) : valN (l ++ [b]) = 2 * valN l + b.toNat := by simp [valN]
theorem valN_take (l : List Bool) (k : Nat) (h : k < l.length) : valN (l.take (k + 1)) = 2 * valN (l.take k) + l[k].toNat := by
  rw [List.take_succ_eq_append_getElem h, valN_snoc]
theorem sign5_any (b : Bool) (w : World) : Calls Tryz.prog 31 #[.bool b] w fun e w' => e = .returned (.string (bt [b])) ∧ w' = w := by
  cases b
  · go_enter Tryz.func31, Tryz.ntmps31
    go_wp2
    go_ret
    exact ⟨rfl, rfl⟩
  · go_enter Tryz.func31, Tryz.ntmps31
    go_wp2
    go_ret
    exact ⟨rfl, rfl⟩
theorem ret_str {s t : ByteArray} (h : s = t) : Ending.returned (.string s) = Ending.returned (.string t) := by rw [h]

set_option maxHeartbeats 1000000 in
theorem times_any (b : Bool) (n : Nat) (hn : n ≤ 200) (x : Int) (hx : x = (n : Int)) (w : World) : Calls Tryz.prog 32 #[.string (bt [b]), .int .i64 x] w fun e w' => e = .returned (.string (bt (List.replicate n b))) ∧ w' = w := by
  subst hx
  go_enter Tryz.func32, Tryz.ntmps32
  go_wp2
  go_loop [5, 6] (fun o i => ∃ k : Nat, k ≤ n ∧ o = .string (bt (List.replicate k b)) ∧ i = .int .i64 k) (fun o i => n - (intOf i).toNat)
  case atStart => exact ⟨0, by omega, rfl, rfl⟩
  case round =>
    obtain ⟨k, hk, rfl, rfl⟩ := hrel
    by_cases hlt : k < n
    · have hj : (k : Int) < (n : Int) := by omega
      have h1 : (bt (List.replicate k b)).size ≤ 200 := by rw [bt_size, List.length_replicate]; omega
      have h2 : (bt [b]).size = 1 := bt_size _
      have HE : Hid (bt (List.replicate k b) ++ bt [b] = bt (List.replicate (k + 1) b)) := by unfold Hid; rw [bt_app, ← List.replicate_succ']
      go_wp2
      go_round
      case rel => exact ⟨k + 1, by omega, congrArg Value.string HE.out, rfl⟩
      case measure =>
        show n - ((k : Int) + 1).toNat < n - ((k : Int)).toNat
        omega
    · have hj : ¬ (k : Int) < (n : Int) := by omega
      have HK := hide (show k = n by omega)
      go_wp2
      go_ret
      exact ⟨ret_str (by rw [HK.out]), rfl⟩

theorem dgl0 (n : Nat) : dgl n 0 = n % 18446744073709551616 := by unfold dgl; rw [Nat.pow_zero, Nat.div_one]
theorem dgl1 (n : Nat) : dgl n 1 = n / 18446744073709551616 % 18446744073709551616 := by unfold dgl; rw [Nat.pow_one]
theorem word_hi (N : Nat) (b : Bool) : bits .or .u64 (IntKind.u64.wrap ((dgl N 1 : Int) * 2)) ((dgl N 0 : Int) / 9223372036854775808) = ((dgl (2 * N + b.toNat) 1 : Nat) : Int) := by
  have h := or_add 1 (dgl N 1) (dgl N 0) (by decide) (dgl_lt _ _) (dgl_lt _ _)
  rw [show min (IntKind.u64.wrap (64 - ((1 : Nat) : Int))).toNat 64 = 63 by decide +kernel, show (2 : Int) ^ 1 = 2 from rfl, show (2 : Int) ^ 63 = 9223372036854775808 by decide +kernel] at h
  rw [h, dgl1, dgl0, dgl1]
  have hb := Bool.toNat_le b
  omega
theorem word_lo (N : Nat) : IntKind.u64.wrap ((dgl N 0 : Int) * 2) = ((dgl (2 * N) 0 : Nat) : Int) := by
  rw [IntKind.wrap_u64, dgl0, dgl0]
  omega
theorem word_lo1 (N : Nat) : IntKind.u64.wrap (((dgl (2 * N) 0 : Nat) : Int) + 1) = ((dgl (2 * N + 1) 0 : Nat) : Int) := by
  rw [IntKind.wrap_u64, dgl0, dgl0]
  omega

structure WordSt (w : World) (hi lo : Nat) (W : World) : Prop where
  r0 : W.cell? ⟨w.heap.size, 0, none⟩ = some (.int .u64 0)
  r1 : W.cell? ⟨w.heap.size, 1, none⟩ = some (.int .u64 0)
  fr : ∀ i, W.frozen? ⟨w.heap.size, i, none⟩ = false
  h : W.cell? ⟨w.heap.size + 1, 0, none⟩ = some (.int .u64 (hi : Nat))
  l : W.cell? ⟨w.heap.size + 1, 1, none⟩ = some (.int .u64 (lo : Nat))
  fh : ∀ i, W.frozen? ⟨w.heap.size + 1, i, none⟩ = false
  lt : w.heap.size + 1 < W.heap.size
  bel : Below w.heap.size w W
theorem wordSt_start (w : World) : WordSt w 0 0 ((w.alloc (.cells #[.int .u64 0, .int .u64 0] 29)).alloc (.cells #[.int .u64 0, .int .u64 0] 29)) :=
  ⟨by simp [go_sem], by simp [go_sem], fun i => by simp [go_sem], by simp [go_sem], by simp [go_sem], fun i => by simp [go_sem], by simp, below_trans (below_allocs _ _) (below_allocs _ _)⟩
theorem WordSt.set {w W : World} {hi lo : Nat} (h : WordSt w hi lo W) (a b : Nat) : WordSt w a b ((W.setCell ⟨w.heap.size + 1, 0, none⟩ (.int .u64 (a : Nat))).setCell ⟨w.heap.size + 1, 1, none⟩ (.int .u64 (b : Nat))) := by
  have h1 := h.h
  have h2 := h.l
  have h3 := h.r0
  have h4 := h.r1
  have h5 := h.fr
  have h6 := h.fh
  have h7 := h.lt
  exact ⟨by simpa [go_sem] using h3, by simpa [go_sem] using h4, fun i => by simpa [go_sem] using h5 i, by simp [go_sem, h1, h2], by simp [go_sem, h1, h2], fun i => by simpa [go_sem] using h6 i, by simpa [go_sem] using h7,
    (h.bel.setCell (p := ⟨w.heap.size + 1, 0, none⟩) (Nat.le_succ _) _).setCell (p := ⟨w.heap.size + 1, 1, none⟩) (Nat.le_succ _) _⟩

theorem WordSt.set1 {w W : World} {hi lo : Nat} (h : WordSt w hi lo W) (b : Nat) : WordSt w hi b (W.setCell ⟨w.heap.size + 1, 1, none⟩ (.int .u64 (b : Nat))) := by
  have h1 := h.h
  have h2 := h.l
  have h3 := h.r0
  have h4 := h.r1
  have h5 := h.fr
  have h6 := h.fh
  have h7 := h.lt
  exact ⟨by simpa [go_sem] using h3, by simpa [go_sem] using h4, fun i => by simpa [go_sem] using h5 i, by simp [go_sem, h1], by simp [go_sem, h2], fun i => by simpa [go_sem] using h6 i, by simpa [go_sem] using h7,
    h.bel.setCell (p := ⟨w.heap.size + 1, 1, none⟩) (Nat.le_succ _) _⟩

set_option maxHeartbeats 1000000 in
theorem refWord_any (l : List Bool) (hl : l.length ≤ 1000) (w : World) : Calls Tryz.prog 30 #[.string (bt l)] w fun e w' => e = .returned (.agg #[.int .u64 (dgl (valN l) 1 : Nat), .int .u64 (dgl (valN l) 0 : Nat)]) ∧ Below w.heap.size w w' := by
  have HS0 := hide (wordSt_start w)
  have hs := bt_size l
  go_enter Tryz.func30, Tryz.ntmps30
  go_wp2
  go_loopw [4] (fun i wr => ∃ k : Nat, k ≤ l.length ∧ i = .int .i64 k ∧ Hid (WordSt w (dgl (valN (l.take k)) 1) (dgl (valN (l.take k)) 0) wr)) (fun i _ => l.length - (intOf i).toNat)
  case atStart => exact ⟨0, by omega, rfl, by rw [List.take_zero, show valN [] = 0 from rfl, dgl_zero, dgl_zero]; exact HS0⟩
  case round =>
    clear HS0
    obtain ⟨k, hk, rfl, hst⟩ := hrel
    by_cases hlt : k < l.length
    · have hj : (k : Int) < ((bt l).size : Int) := by rw [hs]; omega
      have hV := valN_take l k hlt
      have hG := bt_get l k (by rw [hs]; exact hlt) hlt
      have h1 := hst.out.h
      have h2 := hst.out.l
      have h3 := hst.out.fh
      have h4 := hst.out.lt
      generalize valN (l.take k) = N at *
      generalize l[k] = b at *
      have w1 := word_hi N b
      have w2 := word_lo N
      have w3 := word_lo1 N
      cases b
      · have HV := hide hV
        clear hV
        go_wp2
        go_roundw
        case rel => exact ⟨k + 1, by omega, rfl, by rw [HV.out]; exact hst.out.set _ _⟩
        case measure =>
          show l.length - ((k : Int) + 1).toNat < l.length - ((k : Int)).toNat
          omega
      · have HV := hide hV
        clear hV
        go_wp2
        go_roundw
        case rel => exact ⟨k + 1, by omega, rfl, by rw [HV.out]; exact (hst.out.set _ _).set1 _⟩
        case measure =>
          show l.length - ((k : Int) + 1).toNat < l.length - ((k : Int)).toNat
          omega
    · have hj : ¬ (k : Int) < ((bt l).size : Int) := by rw [hs]; omega
      have hkl : k = l.length := by omega
      rw [hkl, List.take_length] at hst
      have h1 := hst.out.h
      have h2 := hst.out.l
      have h3 := hst.out.r0
      have h4 := hst.out.r1
      have h5 := hst.out.fr
      have h6 := hst.out.lt
      have h7 : w.heap.size < wr.heap.size := by omega
      have HB := hide hst.out.bel
      clear hst hkl hs
      go_wp2
      exact bodyPost_ret (v := .agg #[.int .u64 (dgl (valN l) 1 : Nat), .int .u64 (dgl (valN l) 0 : Nat)]) (by simp [results, Tryz.results30, go_sem, h3, h4, h7]) rfl ⟨rfl, (HB.out.setCell (p := ⟨w.heap.size, 0, none⟩) (Nat.le_refl _) _).setCell (p := ⟨w.heap.size, 1, none⟩) (Nat.le_refl _) _⟩

end Go.Proofs.YtpcjdllijkjdkaaGreatDoor

/- Contracts: radicandref05.Inf, NaN, Max, One, Nought. -/
set_option linter.unusedVariables false
set_option linter.unusedSimpArgs false
set_option maxRecDepth 8000
namespace Go.Proofs.YtpcjdllijkjdkaaGreatDoor
open Go.RowKit Plain

theorem times_1 (n : Nat) (hn : n ≤ 200) (w : World) : Calls Tryz.prog 32 #[.string ⟨#[49]⟩, .int .i64 (n : Int)] w fun e w' => e = .returned (.string (bt (List.replicate n true))) ∧ w' = w := times_any true n hn _ rfl w
theorem times_0 (n : Nat) (hn : n ≤ 200) (w : World) : Calls Tryz.prog 32 #[.string ⟨#[48]⟩, .int .i64 (n : Int)] w fun e w' => e = .returned (.string (bt (List.replicate n false))) ∧ w' = w := times_any false n hn _ rfl w
/-- What a call that lays a word into its result leaves. -/
theorem word_out {w w1 : World} (hb1 : Below (w.alloc (.cells #[.int .u64 0, .int .u64 0] 29)).heap.size (w.alloc (.cells #[.int .u64 0, .int .u64 0] 29)) w1) :
    w1.cell? ⟨w.heap.size, 0, none⟩ = some (.int .u64 0) ∧ w1.cell? ⟨w.heap.size, 1, none⟩ = some (.int .u64 0) ∧ (∀ i, w1.frozen? ⟨w.heap.size, i, none⟩ = false) ∧ w.heap.size < w1.heap.size ∧ Below w.heap.size w w1 := by
  have hs := hb1.size
  have hc : ∀ i, i < 2 → w1.cell? ⟨w.heap.size, i, none⟩ = some (.int .u64 0) := fun i hi => (hb1.cell (p := ⟨w.heap.size, i, none⟩) (by simp)).trans (by match i, hi with | 0, _ | 1, _ => simp [go_sem])
  rw [World.size_alloc] at hs
  exact ⟨hc 0 (by decide), hc 1 (by decide), fun i => (hb1.frozen (p := ⟨w.heap.size, i, none⟩) (by simp)).trans (by simp [go_sem]), hs, below_trans (below_allocs _ _) hb1⟩

set_option maxHeartbeats 1000000 in
theorem rinf_1 (neg : Bool) (w : World) : Calls Tryz.prog 37 #[.int .i64 1, .bool neg] w fun e w' => e = .returned (.agg #[.int .u64 (dgl (bif neg then 64512 else 31744) 1 : Nat), .int .u64 (dgl (bif neg then 64512 else 31744) 0 : Nat)]) ∧ Below w.heap.size w w' := by
  have hW := fun w => refWord_any (([neg]) ++ (List.replicate 5 true) ++ (List.replicate 10 false)) (by simp) w
  rw [show valN (([neg]) ++ (List.replicate 5 true) ++ (List.replicate 10 false)) = (bif neg then 64512 else 31744) by cases neg <;> decide +kernel] at hW
  rw [← bt_app, ← bt_app] at hW
  have HW : Hid (∀ w, Calls Tryz.prog 30 #[.string (bt [neg] ++ bt (List.replicate 5 true) ++ bt (List.replicate 10 false))] w fun e w' => e = .returned (.agg #[.int .u64 (dgl (bif neg then 64512 else 31744) 1 : Nat), .int .u64 (dgl (bif neg then 64512 else 31744) 0 : Nat)]) ∧ Below w.heap.size w w') := hW
  clear hW
  have s0 : (bt [neg]).size = 1 := by rw [bt_size]; simp
  have s1 : (bt (List.replicate 5 true)).size = 5 := by rw [bt_size]; simp
  have s2 : (bt (List.replicate 10 false)).size = 10 := by rw [bt_size]; simp
  go_enter Tryz.func37, Tryz.ntmps37
  go_wp2_with fail
  refine (sign5_any neg _).mono ?_
  rintro e w1 ⟨rfl, hw⟩
  subst w1
  go_wp2_with fail
  refine (field_1 _).mono ?_
  rintro e w1 ⟨rfl, hw⟩
  subst w1
  go_wp2_with fail
  refine (times_1 5 (by decide) _).mono ?_
  rintro e w1 ⟨rfl, hw⟩
  subst w1
  go_wp2_with fail
  refine (prec_1 _).mono ?_
  rintro e w1 ⟨rfl, hw⟩
  subst w1
  go_wp2_with fail
  refine (times_0 10 (by decide) _).mono ?_
  rintro e w1 ⟨rfl, hw⟩
  subst w1
  go_wp2_with fail
  refine (HW.out _).mono ?_
  rintro e w1 ⟨rfl, hb1⟩
  obtain ⟨hr0, hr1, hrf, hlt, hB⟩ := word_out hb1
  have HB := hide hB
  clear hb1 hB HW
  go_wp2
  exact bodyPost_ret (v := .agg #[.int .u64 (dgl (bif neg then 64512 else 31744) 1 : Nat), .int .u64 (dgl (bif neg then 64512 else 31744) 0 : Nat)]) (by simp [results, Tryz.results37, go_sem, hr0, hr1, hlt]) rfl ⟨rfl, (HB.out.setCell (p := ⟨w.heap.size, 0, none⟩) (Nat.le_refl _) _).setCell (p := ⟨w.heap.size, 1, none⟩) (Nat.le_refl _) _⟩

set_option maxHeartbeats 1000000 in
theorem rmax_1 (neg : Bool) (w : World) : Calls Tryz.prog 38 #[.int .i64 1, .bool neg] w fun e w' => e = .returned (.agg #[.int .u64 (dgl (bif neg then 64511 else 31743) 1 : Nat), .int .u64 (dgl (bif neg then 64511 else 31743) 0 : Nat)]) ∧ Below w.heap.size w w' := by
  have hW := fun w => refWord_any (([neg]) ++ (List.replicate 4 true) ++ ([false]) ++ (List.replicate 10 true)) (by simp) w
  rw [show valN (([neg]) ++ (List.replicate 4 true) ++ ([false]) ++ (List.replicate 10 true)) = (bif neg then 64511 else 31743) by cases neg <;> decide +kernel] at hW
  rw [← bt_app, ← bt_app, ← bt_app] at hW
  have HW : Hid (∀ w, Calls Tryz.prog 30 #[.string (bt [neg] ++ bt (List.replicate 4 true) ++ ⟨#[48]⟩ ++ bt (List.replicate 10 true))] w fun e w' => e = .returned (.agg #[.int .u64 (dgl (bif neg then 64511 else 31743) 1 : Nat), .int .u64 (dgl (bif neg then 64511 else 31743) 0 : Nat)]) ∧ Below w.heap.size w w') := hW
  clear hW
  have s0 : (bt [neg]).size = 1 := by rw [bt_size]; simp
  have s1 : (bt (List.replicate 4 true)).size = 4 := by rw [bt_size]; simp
  have s3 : (bt (List.replicate 10 true)).size = 10 := by rw [bt_size]; simp
  go_enter Tryz.func38, Tryz.ntmps38
  go_wp2_with fail
  refine (sign5_any neg _).mono ?_
  rintro e w1 ⟨rfl, hw⟩
  subst w1
  go_wp2_with fail
  refine (field_1 _).mono ?_
  rintro e w1 ⟨rfl, hw⟩
  subst w1
  go_wp2_with fail
  refine (times_1 4 (by decide) _).mono ?_
  rintro e w1 ⟨rfl, hw⟩
  subst w1
  go_wp2_with fail
  refine (prec_1 _).mono ?_
  rintro e w1 ⟨rfl, hw⟩
  subst w1
  go_wp2_with fail
  refine (times_1 10 (by decide) _).mono ?_
  rintro e w1 ⟨rfl, hw⟩
  subst w1
  go_wp2_with fail
  refine (HW.out _).mono ?_
  rintro e w1 ⟨rfl, hb1⟩
  obtain ⟨hr0, hr1, hrf, hlt, hB⟩ := word_out hb1
  have HB := hide hB
  clear hb1 hB HW
  go_wp2
  exact bodyPost_ret (v := .agg #[.int .u64 (dgl (bif neg then 64511 else 31743) 1 : Nat), .int .u64 (dgl (bif neg then 64511 else 31743) 0 : Nat)]) (by simp [results, Tryz.results38, go_sem, hr0, hr1, hlt]) rfl ⟨rfl, (HB.out.setCell (p := ⟨w.heap.size, 0, none⟩) (Nat.le_refl _) _).setCell (p := ⟨w.heap.size, 1, none⟩) (Nat.le_refl _) _⟩

set_option maxHeartbeats 1000000 in
theorem rnought_1 (neg : Bool) (w : World) : Calls Tryz.prog 12 #[.int .i64 1, .bool neg] w fun e w' => e = .returned (.agg #[.int .u64 (dgl (bif neg then 32768 else 0) 1 : Nat), .int .u64 (dgl (bif neg then 32768 else 0) 0 : Nat)]) ∧ Below w.heap.size w w' := by
  have hW := fun w => refWord_any (([neg]) ++ (List.replicate 15 false)) (by simp) w
  rw [show valN (([neg]) ++ (List.replicate 15 false)) = (bif neg then 32768 else 0) by cases neg <;> decide +kernel] at hW
  rw [← bt_app] at hW
  have HW : Hid (∀ w, Calls Tryz.prog 30 #[.string (bt [neg] ++ bt (List.replicate 15 false))] w fun e w' => e = .returned (.agg #[.int .u64 (dgl (bif neg then 32768 else 0) 1 : Nat), .int .u64 (dgl (bif neg then 32768 else 0) 0 : Nat)]) ∧ Below w.heap.size w w') := hW
  clear hW
  have s0 : (bt [neg]).size = 1 := by rw [bt_size]; simp
  have s1 : (bt (List.replicate 15 false)).size = 15 := by rw [bt_size]; simp
  go_enter Tryz.func12, Tryz.ntmps12
  go_wp2_with fail
  refine (sign5_any neg _).mono ?_
  rintro e w1 ⟨rfl, hw⟩
  subst w1
  go_wp2_with fail
  refine (bits_1 _).mono ?_
  rintro e w1 ⟨rfl, hw⟩
  subst w1
  go_wp2_with fail
  refine (times_0 15 (by decide) _).mono ?_
  rintro e w1 ⟨rfl, hw⟩
  subst w1
  go_wp2_with fail
  refine (HW.out _).mono ?_
  rintro e w1 ⟨rfl, hb1⟩
  obtain ⟨hr0, hr1, hrf, hlt, hB⟩ := word_out hb1
  have HB := hide hB
  clear hb1 hB HW
  go_wp2
  exact bodyPost_ret (v := .agg #[.int .u64 (dgl (bif neg then 32768 else 0) 1 : Nat), .int .u64 (dgl (bif neg then 32768 else 0) 0 : Nat)]) (by simp [results, Tryz.results12, go_sem, hr0, hr1, hlt]) rfl ⟨rfl, (HB.out.setCell (p := ⟨w.heap.size, 0, none⟩) (Nat.le_refl _) _).setCell (p := ⟨w.heap.size, 1, none⟩) (Nat.le_refl _) _⟩

set_option maxHeartbeats 1000000 in
theorem rinf_2 (neg : Bool) (w : World) : Calls Tryz.prog 37 #[.int .i64 2, .bool neg] w fun e w' => e = .returned (.agg #[.int .u64 (dgl (bif neg then 4286578688 else 2139095040) 1 : Nat), .int .u64 (dgl (bif neg then 4286578688 else 2139095040) 0 : Nat)]) ∧ Below w.heap.size w w' := by
  have hW := fun w => refWord_any (([neg]) ++ (List.replicate 8 true) ++ (List.replicate 23 false)) (by simp) w
  rw [show valN (([neg]) ++ (List.replicate 8 true) ++ (List.replicate 23 false)) = (bif neg then 4286578688 else 2139095040) by cases neg <;> decide +kernel] at hW
  rw [← bt_app, ← bt_app] at hW
  have HW : Hid (∀ w, Calls Tryz.prog 30 #[.string (bt [neg] ++ bt (List.replicate 8 true) ++ bt (List.replicate 23 false))] w fun e w' => e = .returned (.agg #[.int .u64 (dgl (bif neg then 4286578688 else 2139095040) 1 : Nat), .int .u64 (dgl (bif neg then 4286578688 else 2139095040) 0 : Nat)]) ∧ Below w.heap.size w w') := hW
  clear hW
  have s0 : (bt [neg]).size = 1 := by rw [bt_size]; simp
  have s1 : (bt (List.replicate 8 true)).size = 8 := by rw [bt_size]; simp
  have s2 : (bt (List.replicate 23 false)).size = 23 := by rw [bt_size]; simp
  go_enter Tryz.func37, Tryz.ntmps37
  go_wp2_with fail
  refine (sign5_any neg _).mono ?_
  rintro e w1 ⟨rfl, hw⟩
  subst w1
  go_wp2_with fail
  refine (field_2 _).mono ?_
  rintro e w1 ⟨rfl, hw⟩
  subst w1
  go_wp2_with fail
  refine (times_1 8 (by decide) _).mono ?_
  rintro e w1 ⟨rfl, hw⟩
  subst w1
  go_wp2_with fail
  refine (prec_2 _).mono ?_
  rintro e w1 ⟨rfl, hw⟩
  subst w1
  go_wp2_with fail
  refine (times_0 23 (by decide) _).mono ?_
  rintro e w1 ⟨rfl, hw⟩
  subst w1
  go_wp2_with fail
  refine (HW.out _).mono ?_
  rintro e w1 ⟨rfl, hb1⟩
  obtain ⟨hr0, hr1, hrf, hlt, hB⟩ := word_out hb1
  have HB := hide hB
  clear hb1 hB HW
  go_wp2
  exact bodyPost_ret (v := .agg #[.int .u64 (dgl (bif neg then 4286578688 else 2139095040) 1 : Nat), .int .u64 (dgl (bif neg then 4286578688 else 2139095040) 0 : Nat)]) (by simp [results, Tryz.results37, go_sem, hr0, hr1, hlt]) rfl ⟨rfl, (HB.out.setCell (p := ⟨w.heap.size, 0, none⟩) (Nat.le_refl _) _).setCell (p := ⟨w.heap.size, 1, none⟩) (Nat.le_refl _) _⟩

set_option maxHeartbeats 1000000 in
theorem rmax_2 (neg : Bool) (w : World) : Calls Tryz.prog 38 #[.int .i64 2, .bool neg] w fun e w' => e = .returned (.agg #[.int .u64 (dgl (bif neg then 4286578687 else 2139095039) 1 : Nat), .int .u64 (dgl (bif neg then 4286578687 else 2139095039) 0 : Nat)]) ∧ Below w.heap.size w w' := by
  have hW := fun w => refWord_any (([neg]) ++ (List.replicate 7 true) ++ ([false]) ++ (List.replicate 23 true)) (by simp) w
  rw [show valN (([neg]) ++ (List.replicate 7 true) ++ ([false]) ++ (List.replicate 23 true)) = (bif neg then 4286578687 else 2139095039) by cases neg <;> decide +kernel] at hW
  rw [← bt_app, ← bt_app, ← bt_app] at hW
  have HW : Hid (∀ w, Calls Tryz.prog 30 #[.string (bt [neg] ++ bt (List.replicate 7 true) ++ ⟨#[48]⟩ ++ bt (List.replicate 23 true))] w fun e w' => e = .returned (.agg #[.int .u64 (dgl (bif neg then 4286578687 else 2139095039) 1 : Nat), .int .u64 (dgl (bif neg then 4286578687 else 2139095039) 0 : Nat)]) ∧ Below w.heap.size w w') := hW
  clear hW
  have s0 : (bt [neg]).size = 1 := by rw [bt_size]; simp
  have s1 : (bt (List.replicate 7 true)).size = 7 := by rw [bt_size]; simp
  have s3 : (bt (List.replicate 23 true)).size = 23 := by rw [bt_size]; simp
  go_enter Tryz.func38, Tryz.ntmps38
  go_wp2_with fail
  refine (sign5_any neg _).mono ?_
  rintro e w1 ⟨rfl, hw⟩
  subst w1
  go_wp2_with fail
  refine (field_2 _).mono ?_
  rintro e w1 ⟨rfl, hw⟩
  subst w1
  go_wp2_with fail
  refine (times_1 7 (by decide) _).mono ?_
  rintro e w1 ⟨rfl, hw⟩
  subst w1
  go_wp2_with fail
  refine (prec_2 _).mono ?_
  rintro e w1 ⟨rfl, hw⟩
  subst w1
  go_wp2_with fail
  refine (times_1 23 (by decide) _).mono ?_
  rintro e w1 ⟨rfl, hw⟩
  subst w1
  go_wp2_with fail
  refine (HW.out _).mono ?_
  rintro e w1 ⟨rfl, hb1⟩
  obtain ⟨hr0, hr1, hrf, hlt, hB⟩ := word_out hb1
  have HB := hide hB
  clear hb1 hB HW
  go_wp2
  exact bodyPost_ret (v := .agg #[.int .u64 (dgl (bif neg then 4286578687 else 2139095039) 1 : Nat), .int .u64 (dgl (bif neg then 4286578687 else 2139095039) 0 : Nat)]) (by simp [results, Tryz.results38, go_sem, hr0, hr1, hlt]) rfl ⟨rfl, (HB.out.setCell (p := ⟨w.heap.size, 0, none⟩) (Nat.le_refl _) _).setCell (p := ⟨w.heap.size, 1, none⟩) (Nat.le_refl _) _⟩

set_option maxHeartbeats 1000000 in
theorem rnought_2 (neg : Bool) (w : World) : Calls Tryz.prog 12 #[.int .i64 2, .bool neg] w fun e w' => e = .returned (.agg #[.int .u64 (dgl (bif neg then 2147483648 else 0) 1 : Nat), .int .u64 (dgl (bif neg then 2147483648 else 0) 0 : Nat)]) ∧ Below w.heap.size w w' := by
  have hW := fun w => refWord_any (([neg]) ++ (List.replicate 31 false)) (by simp) w
  rw [show valN (([neg]) ++ (List.replicate 31 false)) = (bif neg then 2147483648 else 0) by cases neg <;> decide +kernel] at hW
  rw [← bt_app] at hW
  have HW : Hid (∀ w, Calls Tryz.prog 30 #[.string (bt [neg] ++ bt (List.replicate 31 false))] w fun e w' => e = .returned (.agg #[.int .u64 (dgl (bif neg then 2147483648 else 0) 1 : Nat), .int .u64 (dgl (bif neg then 2147483648 else 0) 0 : Nat)]) ∧ Below w.heap.size w w') := hW
  clear hW
  have s0 : (bt [neg]).size = 1 := by rw [bt_size]; simp
  have s1 : (bt (List.replicate 31 false)).size = 31 := by rw [bt_size]; simp
  go_enter Tryz.func12, Tryz.ntmps12
  go_wp2_with fail
  refine (sign5_any neg _).mono ?_
  rintro e w1 ⟨rfl, hw⟩
  subst w1
  go_wp2_with fail
  refine (bits_2 _).mono ?_
  rintro e w1 ⟨rfl, hw⟩
  subst w1
  go_wp2_with fail
  refine (times_0 31 (by decide) _).mono ?_
  rintro e w1 ⟨rfl, hw⟩
  subst w1
  go_wp2_with fail
  refine (HW.out _).mono ?_
  rintro e w1 ⟨rfl, hb1⟩
  obtain ⟨hr0, hr1, hrf, hlt, hB⟩ := word_out hb1
  have HB := hide hB
  clear hb1 hB HW
  go_wp2
  exact bodyPost_ret (v := .agg #[.int .u64 (dgl (bif neg then 2147483648 else 0) 1 : Nat), .int .u64 (dgl (bif neg then 2147483648 else 0) 0 : Nat)]) (by simp [results, Tryz.results12, go_sem, hr0, hr1, hlt]) rfl ⟨rfl, (HB.out.setCell (p := ⟨w.heap.size, 0, none⟩) (Nat.le_refl _) _).setCell (p := ⟨w.heap.size, 1, none⟩) (Nat.le_refl _) _⟩

set_option maxHeartbeats 1000000 in
theorem rinf_3 (neg : Bool) (w : World) : Calls Tryz.prog 37 #[.int .i64 3, .bool neg] w fun e w' => e = .returned (.agg #[.int .u64 (dgl (bif neg then 18442240474082181120 else 9218868437227405312) 1 : Nat), .int .u64 (dgl (bif neg then 18442240474082181120 else 9218868437227405312) 0 : Nat)]) ∧ Below w.heap.size w w' := by
  have hW := fun w => refWord_any (([neg]) ++ (List.replicate 11 true) ++ (List.replicate 52 false)) (by simp) w
  rw [show valN (([neg]) ++ (List.replicate 11 true) ++ (List.replicate 52 false)) = (bif neg then 18442240474082181120 else 9218868437227405312) by cases neg <;> decide +kernel] at hW
  rw [← bt_app, ← bt_app] at hW
  have HW : Hid (∀ w, Calls Tryz.prog 30 #[.string (bt [neg] ++ bt (List.replicate 11 true) ++ bt (List.replicate 52 false))] w fun e w' => e = .returned (.agg #[.int .u64 (dgl (bif neg then 18442240474082181120 else 9218868437227405312) 1 : Nat), .int .u64 (dgl (bif neg then 18442240474082181120 else 9218868437227405312) 0 : Nat)]) ∧ Below w.heap.size w w') := hW
  clear hW
  have s0 : (bt [neg]).size = 1 := by rw [bt_size]; simp
  have s1 : (bt (List.replicate 11 true)).size = 11 := by rw [bt_size]; simp
  have s2 : (bt (List.replicate 52 false)).size = 52 := by rw [bt_size]; simp
  go_enter Tryz.func37, Tryz.ntmps37
  go_wp2_with fail
  refine (sign5_any neg _).mono ?_
  rintro e w1 ⟨rfl, hw⟩
  subst w1
  go_wp2_with fail
  refine (field_3 _).mono ?_
  rintro e w1 ⟨rfl, hw⟩
  subst w1
  go_wp2_with fail
  refine (times_1 11 (by decide) _).mono ?_
  rintro e w1 ⟨rfl, hw⟩
  subst w1
  go_wp2_with fail
  refine (prec_3 _).mono ?_
  rintro e w1 ⟨rfl, hw⟩
  subst w1
  go_wp2_with fail
  refine (times_0 52 (by decide) _).mono ?_
  rintro e w1 ⟨rfl, hw⟩
  subst w1
  go_wp2_with fail
  refine (HW.out _).mono ?_
  rintro e w1 ⟨rfl, hb1⟩
  obtain ⟨hr0, hr1, hrf, hlt, hB⟩ := word_out hb1
  have HB := hide hB
  clear hb1 hB HW
  go_wp2
  exact bodyPost_ret (v := .agg #[.int .u64 (dgl (bif neg then 18442240474082181120 else 9218868437227405312) 1 : Nat), .int .u64 (dgl (bif neg then 18442240474082181120 else 9218868437227405312) 0 : Nat)]) (by simp [results, Tryz.results37, go_sem, hr0, hr1, hlt]) rfl ⟨rfl, (HB.out.setCell (p := ⟨w.heap.size, 0, none⟩) (Nat.le_refl _) _).setCell (p := ⟨w.heap.size, 1, none⟩) (Nat.le_refl _) _⟩

set_option maxHeartbeats 1000000 in
theorem rmax_3 (neg : Bool) (w : World) : Calls Tryz.prog 38 #[.int .i64 3, .bool neg] w fun e w' => e = .returned (.agg #[.int .u64 (dgl (bif neg then 18442240474082181119 else 9218868437227405311) 1 : Nat), .int .u64 (dgl (bif neg then 18442240474082181119 else 9218868437227405311) 0 : Nat)]) ∧ Below w.heap.size w w' := by
  have hW := fun w => refWord_any (([neg]) ++ (List.replicate 10 true) ++ ([false]) ++ (List.replicate 52 true)) (by simp) w
  rw [show valN (([neg]) ++ (List.replicate 10 true) ++ ([false]) ++ (List.replicate 52 true)) = (bif neg then 18442240474082181119 else 9218868437227405311) by cases neg <;> decide +kernel] at hW
  rw [← bt_app, ← bt_app, ← bt_app] at hW
  have HW : Hid (∀ w, Calls Tryz.prog 30 #[.string (bt [neg] ++ bt (List.replicate 10 true) ++ ⟨#[48]⟩ ++ bt (List.replicate 52 true))] w fun e w' => e = .returned (.agg #[.int .u64 (dgl (bif neg then 18442240474082181119 else 9218868437227405311) 1 : Nat), .int .u64 (dgl (bif neg then 18442240474082181119 else 9218868437227405311) 0 : Nat)]) ∧ Below w.heap.size w w') := hW
  clear hW
  have s0 : (bt [neg]).size = 1 := by rw [bt_size]; simp
  have s1 : (bt (List.replicate 10 true)).size = 10 := by rw [bt_size]; simp
  have s3 : (bt (List.replicate 52 true)).size = 52 := by rw [bt_size]; simp
  go_enter Tryz.func38, Tryz.ntmps38
  go_wp2_with fail
  refine (sign5_any neg _).mono ?_
  rintro e w1 ⟨rfl, hw⟩
  subst w1
  go_wp2_with fail
  refine (field_3 _).mono ?_
  rintro e w1 ⟨rfl, hw⟩
  subst w1
  go_wp2_with fail
  refine (times_1 10 (by decide) _).mono ?_
  rintro e w1 ⟨rfl, hw⟩
  subst w1
  go_wp2_with fail
  refine (prec_3 _).mono ?_
  rintro e w1 ⟨rfl, hw⟩
  subst w1
  go_wp2_with fail
  refine (times_1 52 (by decide) _).mono ?_
  rintro e w1 ⟨rfl, hw⟩
  subst w1
  go_wp2_with fail
  refine (HW.out _).mono ?_
  rintro e w1 ⟨rfl, hb1⟩
  obtain ⟨hr0, hr1, hrf, hlt, hB⟩ := word_out hb1
  have HB := hide hB
  clear hb1 hB HW
  go_wp2
  exact bodyPost_ret (v := .agg #[.int .u64 (dgl (bif neg then 18442240474082181119 else 9218868437227405311) 1 : Nat), .int .u64 (dgl (bif neg then 18442240474082181119 else 9218868437227405311) 0 : Nat)]) (by simp [results, Tryz.results38, go_sem, hr0, hr1, hlt]) rfl ⟨rfl, (HB.out.setCell (p := ⟨w.heap.size, 0, none⟩) (Nat.le_refl _) _).setCell (p := ⟨w.heap.size, 1, none⟩) (Nat.le_refl _) _⟩

set_option maxHeartbeats 1000000 in
theorem rnought_3 (neg : Bool) (w : World) : Calls Tryz.prog 12 #[.int .i64 3, .bool neg] w fun e w' => e = .returned (.agg #[.int .u64 (dgl (bif neg then 9223372036854775808 else 0) 1 : Nat), .int .u64 (dgl (bif neg then 9223372036854775808 else 0) 0 : Nat)]) ∧ Below w.heap.size w w' := by
  have hW := fun w => refWord_any (([neg]) ++ (List.replicate 63 false)) (by simp) w
  rw [show valN (([neg]) ++ (List.replicate 63 false)) = (bif neg then 9223372036854775808 else 0) by cases neg <;> decide +kernel] at hW
  rw [← bt_app] at hW
  have HW : Hid (∀ w, Calls Tryz.prog 30 #[.string (bt [neg] ++ bt (List.replicate 63 false))] w fun e w' => e = .returned (.agg #[.int .u64 (dgl (bif neg then 9223372036854775808 else 0) 1 : Nat), .int .u64 (dgl (bif neg then 9223372036854775808 else 0) 0 : Nat)]) ∧ Below w.heap.size w w') := hW
  clear hW
  have s0 : (bt [neg]).size = 1 := by rw [bt_size]; simp
  have s1 : (bt (List.replicate 63 false)).size = 63 := by rw [bt_size]; simp
  go_enter Tryz.func12, Tryz.ntmps12
  go_wp2_with fail
  refine (sign5_any neg _).mono ?_
  rintro e w1 ⟨rfl, hw⟩
  subst w1
  go_wp2_with fail
  refine (bits_3 _).mono ?_
  rintro e w1 ⟨rfl, hw⟩
  subst w1
  go_wp2_with fail
  refine (times_0 63 (by decide) _).mono ?_
  rintro e w1 ⟨rfl, hw⟩
  subst w1
  go_wp2_with fail
  refine (HW.out _).mono ?_
  rintro e w1 ⟨rfl, hb1⟩
  obtain ⟨hr0, hr1, hrf, hlt, hB⟩ := word_out hb1
  have HB := hide hB
  clear hb1 hB HW
  go_wp2
  exact bodyPost_ret (v := .agg #[.int .u64 (dgl (bif neg then 9223372036854775808 else 0) 1 : Nat), .int .u64 (dgl (bif neg then 9223372036854775808 else 0) 0 : Nat)]) (by simp [results, Tryz.results12, go_sem, hr0, hr1, hlt]) rfl ⟨rfl, (HB.out.setCell (p := ⟨w.heap.size, 0, none⟩) (Nat.le_refl _) _).setCell (p := ⟨w.heap.size, 1, none⟩) (Nat.le_refl _) _⟩

set_option maxHeartbeats 1000000 in
theorem rinf_4 (neg : Bool) (w : World) : Calls Tryz.prog 37 #[.int .i64 4, .bool neg] w fun e w' => e = .returned (.agg #[.int .u64 (dgl (bif neg then 340277174624079928635746076935438991360 else 170135991163610696904058773219554885632) 1 : Nat), .int .u64 (dgl (bif neg then 340277174624079928635746076935438991360 else 170135991163610696904058773219554885632) 0 : Nat)]) ∧ Below w.heap.size w w' := by
  have hW := fun w => refWord_any (([neg]) ++ (List.replicate 15 true) ++ (List.replicate 112 false)) (by simp) w
  rw [show valN (([neg]) ++ (List.replicate 15 true) ++ (List.replicate 112 false)) = (bif neg then 340277174624079928635746076935438991360 else 170135991163610696904058773219554885632) by cases neg <;> decide +kernel] at hW
  rw [← bt_app, ← bt_app] at hW
  have HW : Hid (∀ w, Calls Tryz.prog 30 #[.string (bt [neg] ++ bt (List.replicate 15 true) ++ bt (List.replicate 112 false))] w fun e w' => e = .returned (.agg #[.int .u64 (dgl (bif neg then 340277174624079928635746076935438991360 else 170135991163610696904058773219554885632) 1 : Nat), .int .u64 (dgl (bif neg then 340277174624079928635746076935438991360 else 170135991163610696904058773219554885632) 0 : Nat)]) ∧ Below w.heap.size w w') := hW
  clear hW
  have s0 : (bt [neg]).size = 1 := by rw [bt_size]; simp
  have s1 : (bt (List.replicate 15 true)).size = 15 := by rw [bt_size]; simp
  have s2 : (bt (List.replicate 112 false)).size = 112 := by rw [bt_size]; simp
  go_enter Tryz.func37, Tryz.ntmps37
  go_wp2_with fail
  refine (sign5_any neg _).mono ?_
  rintro e w1 ⟨rfl, hw⟩
  subst w1
  go_wp2_with fail
  refine (field_4 _).mono ?_
  rintro e w1 ⟨rfl, hw⟩
  subst w1
  go_wp2_with fail
  refine (times_1 15 (by decide) _).mono ?_
  rintro e w1 ⟨rfl, hw⟩
  subst w1
  go_wp2_with fail
  refine (prec_4 _).mono ?_
  rintro e w1 ⟨rfl, hw⟩
  subst w1
  go_wp2_with fail
  refine (times_0 112 (by decide) _).mono ?_
  rintro e w1 ⟨rfl, hw⟩
  subst w1
  go_wp2_with fail
  refine (HW.out _).mono ?_
  rintro e w1 ⟨rfl, hb1⟩
  obtain ⟨hr0, hr1, hrf, hlt, hB⟩ := word_out hb1
  have HB := hide hB
  clear hb1 hB HW
  go_wp2
  exact bodyPost_ret (v := .agg #[.int .u64 (dgl (bif neg then 340277174624079928635746076935438991360 else 170135991163610696904058773219554885632) 1 : Nat), .int .u64 (dgl (bif neg then 340277174624079928635746076935438991360 else 170135991163610696904058773219554885632) 0 : Nat)]) (by simp [results, Tryz.results37, go_sem, hr0, hr1, hlt]) rfl ⟨rfl, (HB.out.setCell (p := ⟨w.heap.size, 0, none⟩) (Nat.le_refl _) _).setCell (p := ⟨w.heap.size, 1, none⟩) (Nat.le_refl _) _⟩

set_option maxHeartbeats 1000000 in
theorem rmax_4 (neg : Bool) (w : World) : Calls Tryz.prog 38 #[.int .i64 4, .bool neg] w fun e w' => e = .returned (.agg #[.int .u64 (dgl (bif neg then 340277174624079928635746076935438991359 else 170135991163610696904058773219554885631) 1 : Nat), .int .u64 (dgl (bif neg then 340277174624079928635746076935438991359 else 170135991163610696904058773219554885631) 0 : Nat)]) ∧ Below w.heap.size w w' := by
  have hW := fun w => refWord_any (([neg]) ++ (List.replicate 14 true) ++ ([false]) ++ (List.replicate 112 true)) (by simp) w
  rw [show valN (([neg]) ++ (List.replicate 14 true) ++ ([false]) ++ (List.replicate 112 true)) = (bif neg then 340277174624079928635746076935438991359 else 170135991163610696904058773219554885631) by cases neg <;> decide +kernel] at hW
  rw [← bt_app, ← bt_app, ← bt_app] at hW
  have HW : Hid (∀ w, Calls Tryz.prog 30 #[.string (bt [neg] ++ bt (List.replicate 14 true) ++ ⟨#[48]⟩ ++ bt (List.replicate 112 true))] w fun e w' => e = .returned (.agg #[.int .u64 (dgl (bif neg then 340277174624079928635746076935438991359 else 170135991163610696904058773219554885631) 1 : Nat), .int .u64 (dgl (bif neg then 340277174624079928635746076935438991359 else 170135991163610696904058773219554885631) 0 : Nat)]) ∧ Below w.heap.size w w') := hW
  clear hW
  have s0 : (bt [neg]).size = 1 := by rw [bt_size]; simp
  have s1 : (bt (List.replicate 14 true)).size = 14 := by rw [bt_size]; simp
  have s3 : (bt (List.replicate 112 true)).size = 112 := by rw [bt_size]; simp
  go_enter Tryz.func38, Tryz.ntmps38
  go_wp2_with fail
  refine (sign5_any neg _).mono ?_
  rintro e w1 ⟨rfl, hw⟩
  subst w1
  go_wp2_with fail
  refine (field_4 _).mono ?_
  rintro e w1 ⟨rfl, hw⟩
  subst w1
  go_wp2_with fail
  refine (times_1 14 (by decide) _).mono ?_
  rintro e w1 ⟨rfl, hw⟩
  subst w1
  go_wp2_with fail
  refine (prec_4 _).mono ?_
  rintro e w1 ⟨rfl, hw⟩
  subst w1
  go_wp2_with fail
  refine (times_1 112 (by decide) _).mono ?_
  rintro e w1 ⟨rfl, hw⟩
  subst w1
  go_wp2_with fail
  refine (HW.out _).mono ?_
  rintro e w1 ⟨rfl, hb1⟩
  obtain ⟨hr0, hr1, hrf, hlt, hB⟩ := word_out hb1
  have HB := hide hB
  clear hb1 hB HW
  go_wp2
  exact bodyPost_ret (v := .agg #[.int .u64 (dgl (bif neg then 340277174624079928635746076935438991359 else 170135991163610696904058773219554885631) 1 : Nat), .int .u64 (dgl (bif neg then 340277174624079928635746076935438991359 else 170135991163610696904058773219554885631) 0 : Nat)]) (by simp [results, Tryz.results38, go_sem, hr0, hr1, hlt]) rfl ⟨rfl, (HB.out.setCell (p := ⟨w.heap.size, 0, none⟩) (Nat.le_refl _) _).setCell (p := ⟨w.heap.size, 1, none⟩) (Nat.le_refl _) _⟩

set_option maxHeartbeats 1000000 in
theorem rnought_4 (neg : Bool) (w : World) : Calls Tryz.prog 12 #[.int .i64 4, .bool neg] w fun e w' => e = .returned (.agg #[.int .u64 (dgl (bif neg then 170141183460469231731687303715884105728 else 0) 1 : Nat), .int .u64 (dgl (bif neg then 170141183460469231731687303715884105728 else 0) 0 : Nat)]) ∧ Below w.heap.size w w' := by
  have hW := fun w => refWord_any (([neg]) ++ (List.replicate 127 false)) (by simp) w
  rw [show valN (([neg]) ++ (List.replicate 127 false)) = (bif neg then 170141183460469231731687303715884105728 else 0) by cases neg <;> decide +kernel] at hW
  rw [← bt_app] at hW
  have HW : Hid (∀ w, Calls Tryz.prog 30 #[.string (bt [neg] ++ bt (List.replicate 127 false))] w fun e w' => e = .returned (.agg #[.int .u64 (dgl (bif neg then 170141183460469231731687303715884105728 else 0) 1 : Nat), .int .u64 (dgl (bif neg then 170141183460469231731687303715884105728 else 0) 0 : Nat)]) ∧ Below w.heap.size w w') := hW
  clear hW
  have s0 : (bt [neg]).size = 1 := by rw [bt_size]; simp
  have s1 : (bt (List.replicate 127 false)).size = 127 := by rw [bt_size]; simp
  go_enter Tryz.func12, Tryz.ntmps12
  go_wp2_with fail
  refine (sign5_any neg _).mono ?_
  rintro e w1 ⟨rfl, hw⟩
  subst w1
  go_wp2_with fail
  refine (bits_4 _).mono ?_
  rintro e w1 ⟨rfl, hw⟩
  subst w1
  go_wp2_with fail
  refine (times_0 127 (by decide) _).mono ?_
  rintro e w1 ⟨rfl, hw⟩
  subst w1
  go_wp2_with fail
  refine (HW.out _).mono ?_
  rintro e w1 ⟨rfl, hb1⟩
  obtain ⟨hr0, hr1, hrf, hlt, hB⟩ := word_out hb1
  have HB := hide hB
  clear hb1 hB HW
  go_wp2
  exact bodyPost_ret (v := .agg #[.int .u64 (dgl (bif neg then 170141183460469231731687303715884105728 else 0) 1 : Nat), .int .u64 (dgl (bif neg then 170141183460469231731687303715884105728 else 0) 0 : Nat)]) (by simp [results, Tryz.results12, go_sem, hr0, hr1, hlt]) rfl ⟨rfl, (HB.out.setCell (p := ⟨w.heap.size, 0, none⟩) (Nat.le_refl _) _).setCell (p := ⟨w.heap.size, 1, none⟩) (Nat.le_refl _) _⟩

end Go.Proofs.YtpcjdllijkjdkaaGreatDoor

