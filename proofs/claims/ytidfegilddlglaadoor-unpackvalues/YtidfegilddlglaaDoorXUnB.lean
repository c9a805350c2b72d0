/- Contracts and laws: UnpB. -/
import Derived.Test.YtidfegilddlglaaDoorXUnA
import Derived.Test.YtidfegilddlglaaDoorBaseQ
/- Contracts: unpack.moved, over what its parts tell. -/
set_option linter.unusedVariables false
set_option linter.unusedSimpArgs false
set_option maxRecDepth 8000
namespace Go.Proofs.YtidfegilddlglaaDoor
open Go.RowKit Plain

theorem nb_set {W : World} {p : Nat} {n0 : Bool} {z0 : Int} {s0 : Nat} (h : NB W p n0 z0 s0) (n : Bool) (z : Int) (s : Nat) : NB ((((((((((W.setCell ⟨p, 0, none⟩ (.bool (n))).setCell ⟨p, 1, none⟩ (.int .i64 (z))).setCell ⟨p, 2, none⟩ (.int .u64 (dgl (s) 0 : Nat))).setCell ⟨p, 3, none⟩ (.int .u64 (dgl (s) 1 : Nat))).setCell ⟨p, 4, none⟩ (.int .u64 (dgl (s) 2 : Nat))).setCell ⟨p, 5, none⟩ (.int .u64 (dgl (s) 3 : Nat))).setCell ⟨p, 6, none⟩ (.int .u64 (dgl (s) 4 : Nat))).setCell ⟨p, 7, none⟩ (.int .u64 (dgl (s) 5 : Nat))).setCell ⟨p, 8, none⟩ (.int .u64 (dgl (s) 6 : Nat))).setCell ⟨p, 9, none⟩ (.int .u64 (dgl (s) 7 : Nat))) p n z s := by
  have ln := h.n
  have le := h.e
  have l0 := h.x0
  have l1 := h.x1
  have l2 := h.x2
  have l3 := h.x3
  have l4 := h.x4
  have l5 := h.x5
  have l6 := h.x6
  have l7 := h.x7
  have hl := h.lt
  exact ⟨by simp [go_sem, ln, le, l0, l1, l2, l3, l4, l5, l6, l7], by simp [go_sem, ln, le, l0, l1, l2, l3, l4, l5, l6, l7], by simp [go_sem, ln, le, l0, l1, l2, l3, l4, l5, l6, l7], by simp [go_sem, ln, le, l0, l1, l2, l3, l4, l5, l6, l7], by simp [go_sem, ln, le, l0, l1, l2, l3, l4, l5, l6, l7], by simp [go_sem, ln, le, l0, l1, l2, l3, l4, l5, l6, l7], by simp [go_sem, ln, le, l0, l1, l2, l3, l4, l5, l6, l7], by simp [go_sem, ln, le, l0, l1, l2, l3, l4, l5, l6, l7], by simp [go_sem, ln, le, l0, l1, l2, l3, l4, l5, l6, l7], by simp [go_sem, ln, le, l0, l1, l2, l3, l4, l5, l6, l7], by simpa [go_sem] using hl⟩
theorem below_set10 {B : Nat} {A W : World} (h : Below B A W) (p : Nat) (hb : B ≤ p) (n : Bool) (z : Int) (s : Nat) : Below B A ((((((((((W.setCell ⟨p, 0, none⟩ (.bool (n))).setCell ⟨p, 1, none⟩ (.int .i64 (z))).setCell ⟨p, 2, none⟩ (.int .u64 (dgl (s) 0 : Nat))).setCell ⟨p, 3, none⟩ (.int .u64 (dgl (s) 1 : Nat))).setCell ⟨p, 4, none⟩ (.int .u64 (dgl (s) 2 : Nat))).setCell ⟨p, 5, none⟩ (.int .u64 (dgl (s) 3 : Nat))).setCell ⟨p, 6, none⟩ (.int .u64 (dgl (s) 4 : Nat))).setCell ⟨p, 7, none⟩ (.int .u64 (dgl (s) 5 : Nat))).setCell ⟨p, 8, none⟩ (.int .u64 (dgl (s) 6 : Nat))).setCell ⟨p, 9, none⟩ (.int .u64 (dgl (s) 7 : Nat))) :=
  ((((((((((h.setCell (p := ⟨p, 0, none⟩) (hb) _).setCell (p := ⟨p, 1, none⟩) (hb) _).setCell (p := ⟨p, 2, none⟩) (hb) _).setCell (p := ⟨p, 3, none⟩) (hb) _).setCell (p := ⟨p, 4, none⟩) (hb) _).setCell (p := ⟨p, 5, none⟩) (hb) _).setCell (p := ⟨p, 6, none⟩) (hb) _).setCell (p := ⟨p, 7, none⟩) (hb) _).setCell (p := ⟨p, 8, none⟩) (hb) _).setCell (p := ⟨p, 9, none⟩) (hb) _)

structure Mv0 (a : Nat) (w W : World) : Prop where
  g : FmtG W
  wa : WB W w.heap.size (dgl a 1) (dgl a 0)
  r : NB W (w.heap.size + 1) false 0 0
  fr : ∀ i, W.frozen? ⟨w.heap.size + 1, i, none⟩ = false
  bel : Below w.heap.size w W
theorem Mv0.below {a : Nat} {w W W' : World} (h : Mv0 a w W) (hb : Below W.heap.size W W') : Mv0 a w W' :=
  ⟨h.g.below hb, h.wa.below hb, h.r.below hb, fun i => (hb.frozen (p := ⟨w.heap.size + 1, i, none⟩) h.r.lt).trans (h.fr i), below_trans h.bel hb⟩
theorem mv0_start (a : Nat) (w : World) (hg : FmtG w) : Mv0 a w ((w.alloc (.cells #[.int .u64 (dgl (a) 1 : Nat), .int .u64 (dgl (a) 0 : Nat)] 24)).alloc (.cells #[.bool false, .int .i64 0, .int .u64 0, .int .u64 0, .int .u64 0, .int .u64 0, .int .u64 0, .int .u64 0, .int .u64 0, .int .u64 0] 49)) := by
  have h1 := nb_zero (w.alloc (.cells #[.int .u64 (dgl (a) 1 : Nat), .int .u64 (dgl (a) 0 : Nat)] 24)) 49
  rw [World.size_alloc] at h1
  exact ⟨(hg.below (below_allocs _ _)).below (below_allocs _ _), ⟨by simp [go_sem], by simp [go_sem], by simp; omega⟩, h1, fun i => by simp [go_sem], below_trans (below_allocs _ _) (below_allocs _ _)⟩

structure MvSt (a p8 : Nat) (k : Nat → Int) (w : World) (n0 : Bool) (z0 : Int) (s0 : Nat) (W : World) : Prop where
  g : FmtG W
  wa : WB W w.heap.size (dgl a 1) (dgl a 0)
  r : NB W (w.heap.size + 1) n0 z0 s0
  fr : ∀ i, W.frozen? ⟨w.heap.size + 1, i, none⟩ = false
  rk : ∀ i, i < 5 → W.cell? ⟨p8, i, none⟩ = some (.int .i64 (k i))
  lk : p8 < W.heap.size
  lo : w.heap.size + 1 < p8
  bel : Below w.heap.size w W
theorem MvSt.under {a p8 : Nat} {k : Nat → Int} {w : World} {n0 : Bool} {z0 : Int} {s0 : Nat} {W W' : World} (h : MvSt a p8 k w n0 z0 s0 W) {C : Nat} (hb : Below C W W') (hc : p8 < C) : MvSt a p8 k w n0 z0 s0 W' := by
  have hl := h.lo
  have h1 : w.heap.size + 1 < C := by omega
  have h0 : w.heap.size < C := by omega
  exact ⟨⟨fun i hi => (hb.cell (p := ⟨0, i, none⟩) (show 0 < C by omega)).trans (h.g.c i hi), Nat.lt_of_lt_of_le h.g.lt hb.size⟩,
    ⟨(hb.cell (p := ⟨w.heap.size, 0, none⟩) h0).trans h.wa.h, (hb.cell (p := ⟨w.heap.size, 1, none⟩) h0).trans h.wa.l, Nat.lt_of_lt_of_le h.wa.lt hb.size⟩, h.r.under hb h1, fun i => (hb.frozen (p := ⟨w.heap.size + 1, i, none⟩) h1).trans (h.fr i),
    fun i hi => (hb.cell (p := ⟨p8, i, none⟩) hc).trans (h.rk i hi), Nat.lt_of_lt_of_le h.lk hb.size, h.lo, h.bel.trans (hb.mono (by omega))⟩
theorem MvSt.below {a p8 : Nat} {k : Nat → Int} {w : World} {n0 : Bool} {z0 : Int} {s0 : Nat} {W W' : World} (h : MvSt a p8 k w n0 z0 s0 W) (hb : Below W.heap.size W W') : MvSt a p8 k w n0 z0 s0 W' := h.under hb h.lk
theorem mvSt_start {a : Nat} {w W : World} (k : Nat → Int) (h : Mv0 a w W) : MvSt a W.heap.size k w false 0 0 (W.alloc (.cells #[.int .i64 (k 0), .int .i64 (k 1), .int .i64 (k 2), .int .i64 (k 3), .int .i64 (k 4)] 69)) := by
  have h1 := h.below (below_allocs W (.cells #[.int .i64 (k 0), .int .i64 (k 1), .int .i64 (k 2), .int .i64 (k 3), .int .i64 (k 4)] 69))
  exact ⟨h1.g, h1.wa, h1.r, h1.fr, fun i hi => rec5_new W k _ i hi, by simp, h.r.lt, h1.bel⟩
theorem MvSt.setR {a p8 : Nat} {k : Nat → Int} {w : World} {n0 : Bool} {z0 : Int} {s0 : Nat} {W : World} (h : MvSt a p8 k w n0 z0 s0 W) (n : Bool) (z : Int) (s : Nat) : MvSt a p8 k w n z s ((((((((((W.setCell ⟨w.heap.size + 1, 0, none⟩ (.bool (n))).setCell ⟨w.heap.size + 1, 1, none⟩ (.int .i64 (z))).setCell ⟨w.heap.size + 1, 2, none⟩ (.int .u64 (dgl (s) 0 : Nat))).setCell ⟨w.heap.size + 1, 3, none⟩ (.int .u64 (dgl (s) 1 : Nat))).setCell ⟨w.heap.size + 1, 4, none⟩ (.int .u64 (dgl (s) 2 : Nat))).setCell ⟨w.heap.size + 1, 5, none⟩ (.int .u64 (dgl (s) 3 : Nat))).setCell ⟨w.heap.size + 1, 6, none⟩ (.int .u64 (dgl (s) 4 : Nat))).setCell ⟨w.heap.size + 1, 7, none⟩ (.int .u64 (dgl (s) 5 : Nat))).setCell ⟨w.heap.size + 1, 8, none⟩ (.int .u64 (dgl (s) 6 : Nat))).setCell ⟨w.heap.size + 1, 9, none⟩ (.int .u64 (dgl (s) 7 : Nat))) := by
  have hl := h.lo
  have hk := h.rk
  have hlk := h.lk
  have hwl := h.wa.lt
  have hb := below_set10 (Below.refl (w.heap.size + 1) W) (w.heap.size + 1) (Nat.le_refl _) n z s
  have hne : ¬ p8 = w.heap.size + 1 := by omega
  refine ⟨⟨fun i hi => (hb.cell (p := ⟨0, i, none⟩) (Nat.zero_lt_succ _)).trans (h.g.c i hi), Nat.lt_of_lt_of_le h.g.lt hb.size⟩,
    ⟨(hb.cell (p := ⟨w.heap.size, 0, none⟩) (Nat.lt_succ_self _)).trans h.wa.h, (hb.cell (p := ⟨w.heap.size, 1, none⟩) (Nat.lt_succ_self _)).trans h.wa.l, Nat.lt_of_lt_of_le h.wa.lt hb.size⟩, nb_set h.r n z s, fun i => by simpa [go_sem] using h.fr i,
    fun i hi => ?_, Nat.lt_of_lt_of_le h.lk hb.size, h.lo, h.bel.trans (hb.mono (Nat.le_succ _))⟩
  have := hk i hi
  simp [go_sem, this, hne]
theorem lies_set10 {W : World} {b R : Nat} {f : Nat → Nat} {n : Bool} {z : Int} {s : Nat} (h : LiesF W b f) (hne : b ≠ R) : LiesF ((((((((((W.setCell ⟨R, 0, none⟩ (.bool (n))).setCell ⟨R, 1, none⟩ (.int .i64 (z))).setCell ⟨R, 2, none⟩ (.int .u64 (dgl (s) 0 : Nat))).setCell ⟨R, 3, none⟩ (.int .u64 (dgl (s) 1 : Nat))).setCell ⟨R, 4, none⟩ (.int .u64 (dgl (s) 2 : Nat))).setCell ⟨R, 5, none⟩ (.int .u64 (dgl (s) 3 : Nat))).setCell ⟨R, 6, none⟩ (.int .u64 (dgl (s) 4 : Nat))).setCell ⟨R, 7, none⟩ (.int .u64 (dgl (s) 5 : Nat))).setCell ⟨R, 8, none⟩ (.int .u64 (dgl (s) 6 : Nat))).setCell ⟨R, 9, none⟩ (.int .u64 (dgl (s) 7 : Nat))) b f := by
  refine ⟨fun i hi => ?_, by simpa using h.2⟩
  have := h.1 i hi
  simp [go_sem, this, hne]

set_option maxHeartbeats 2000000 in
theorem moved_A (f lo by_ : Int) (k : Nat → Int) (a r fd pw s t fid : Nat) (ov ng : Bool) (fv : Value)
    (HO : Hid (∀ w, FmtG w → Calls Tryd.prog 66 #[.int .i64 f] w fun e w' => e = .returned (.tuple #[.agg #[.int .i64 (k 0), .int .i64 (k 1), .int .i64 (k 2), .int .i64 (k 3), .int .i64 (k 4)], .bool false]) ∧ Below w.heap.size w w')) (w : World) (hg : FmtG w) :
    Calls Tryd.prog 79 #[.int .i64 f, .agg #[.int .u64 (dgl (a) 1 : Nat), .int .u64 (dgl (a) 0 : Nat)], fv] w fun e w' => e = .returned (.tuple #[.agg #[.bool false, .int .i64 0, .int .u64 0, .int .u64 0, .int .u64 0, .int .u64 0, .int .u64 0, .int .u64 0, .int .u64 0, .int .u64 0], .bool false]) ∧ Below w.heap.size w w' := by
  have HS := hide (mv0_start a w hg)
  clear hg
  go_enter Tryd.func79, Tryd.ntmps79
  go_wp2_with fail
  refine (HO.out _ HS.out.g).mono ?_
  rintro e w1 ⟨rfl, hb1⟩
  replace HS := hide (HS.out.below hb1)
  clear hb1
  go_upto_region 2 with fail
  refine wp_gen (fun W => MvSt a w1.heap.size k w false 0 0 W) (by have h := mvSt_start k HS.out; exact h) ?_
  clear HS
  generalize w1.heap.size = p8
  rintro W1 h1
  have HS := hide h1
  clear h1
  have HB := hide HS.out.bel
  have rn := HS.out.r.n
  have re := HS.out.r.e
  have r0 := HS.out.r.x0
  have r1 := HS.out.r.x1
  have r2 := HS.out.r.x2
  have r3 := HS.out.r.x3
  have r4 := HS.out.r.x4
  have r5 := HS.out.r.x5
  have r6 := HS.out.r.x6
  have r7 := HS.out.r.x7
  have hrf := HS.out.fr
  have hrl := HS.out.r.lt
  clear HS
  go_wp2
  exact bodyPost_ret (v := .tuple #[.agg #[.bool false, .int .i64 0, .int .u64 0, .int .u64 0, .int .u64 0, .int .u64 0, .int .u64 0, .int .u64 0, .int .u64 0, .int .u64 0], .bool false]) (by simp [results, Tryd.results79, go_sem, hrl, rn, re, r0, r1, r2, r3, r4, r5, r6, r7]) rfl ⟨rfl, ((((((((((HB.out.setCell (p := ⟨w.heap.size + 1, 0, none⟩) (Nat.le_succ _) _).setCell (p := ⟨w.heap.size + 1, 1, none⟩) (Nat.le_succ _) _).setCell (p := ⟨w.heap.size + 1, 2, none⟩) (Nat.le_succ _) _).setCell (p := ⟨w.heap.size + 1, 3, none⟩) (Nat.le_succ _) _).setCell (p := ⟨w.heap.size + 1, 4, none⟩) (Nat.le_succ _) _).setCell (p := ⟨w.heap.size + 1, 5, none⟩) (Nat.le_succ _) _).setCell (p := ⟨w.heap.size + 1, 6, none⟩) (Nat.le_succ _) _).setCell (p := ⟨w.heap.size + 1, 7, none⟩) (Nat.le_succ _) _).setCell (p := ⟨w.heap.size + 1, 8, none⟩) (Nat.le_succ _) _).setCell (p := ⟨w.heap.size + 1, 9, none⟩) (Nat.le_succ _) _)⟩

set_option maxHeartbeats 2000000 in
theorem moved_B (f lo by_ : Int) (k : Nat → Int) (a r fd pw s t fid : Nat) (ov ng : Bool) (fv : Value)
    (HO : Hid (∀ w, FmtG w → Calls Tryd.prog 66 #[.int .i64 f] w fun e w' => e = .returned (.tuple #[.agg #[.int .i64 (k 0), .int .i64 (k 1), .int .i64 (k 2), .int .i64 (k 3), .int .i64 (k 4)], .bool true]) ∧ Below w.heap.size w w'))
    (HFI : Hid (∀ w, FmtG w → Calls Tryd.prog 14 #[.int .i64 f, .agg #[.int .u64 (dgl (a) 1 : Nat), .int .u64 (dgl (a) 0 : Nat)]] w fun e w' => e = .returned (.bool false) ∧ Below w.heap.size w w')) (w : World) (hg : FmtG w) :
    Calls Tryd.prog 79 #[.int .i64 f, .agg #[.int .u64 (dgl (a) 1 : Nat), .int .u64 (dgl (a) 0 : Nat)], fv] w fun e w' => e = .returned (.tuple #[.agg #[.bool false, .int .i64 0, .int .u64 0, .int .u64 0, .int .u64 0, .int .u64 0, .int .u64 0, .int .u64 0, .int .u64 0, .int .u64 0], .bool false]) ∧ Below w.heap.size w w' := by
  have HS := hide (mv0_start a w hg)
  clear hg
  go_enter Tryd.func79, Tryd.ntmps79
  go_wp2_with fail
  refine (HO.out _ HS.out.g).mono ?_
  rintro e w1 ⟨rfl, hb1⟩
  replace HS := hide (HS.out.below hb1)
  clear hb1
  go_upto_region 2 with fail
  refine wp_gen (fun W => MvSt a w1.heap.size k w false 0 0 W) (by have h := mvSt_start k HS.out; exact h) ?_
  clear HS
  generalize w1.heap.size = p8
  rintro W1 h1
  have HS := hide h1
  clear h1
  have l0 := HS.out.wa.h
  have l1 := HS.out.wa.l
  go_wp2_with fail
  refine (HFI.out _ HS.out.g).mono ?_
  rintro e w2 ⟨rfl, hb2⟩
  replace HS := hide (HS.out.below hb2)
  clear hb2 l0 l1
  have HB := hide HS.out.bel
  have rn := HS.out.r.n
  have re := HS.out.r.e
  have r0 := HS.out.r.x0
  have r1 := HS.out.r.x1
  have r2 := HS.out.r.x2
  have r3 := HS.out.r.x3
  have r4 := HS.out.r.x4
  have r5 := HS.out.r.x5
  have r6 := HS.out.r.x6
  have r7 := HS.out.r.x7
  have hrf := HS.out.fr
  have hrl := HS.out.r.lt
  clear HS
  go_wp2
  exact bodyPost_ret (v := .tuple #[.agg #[.bool false, .int .i64 0, .int .u64 0, .int .u64 0, .int .u64 0, .int .u64 0, .int .u64 0, .int .u64 0, .int .u64 0, .int .u64 0], .bool false]) (by simp [results, Tryd.results79, go_sem, hrl, rn, re, r0, r1, r2, r3, r4, r5, r6, r7]) rfl ⟨rfl, ((((((((((HB.out.setCell (p := ⟨w.heap.size + 1, 0, none⟩) (Nat.le_succ _) _).setCell (p := ⟨w.heap.size + 1, 1, none⟩) (Nat.le_succ _) _).setCell (p := ⟨w.heap.size + 1, 2, none⟩) (Nat.le_succ _) _).setCell (p := ⟨w.heap.size + 1, 3, none⟩) (Nat.le_succ _) _).setCell (p := ⟨w.heap.size + 1, 4, none⟩) (Nat.le_succ _) _).setCell (p := ⟨w.heap.size + 1, 5, none⟩) (Nat.le_succ _) _).setCell (p := ⟨w.heap.size + 1, 6, none⟩) (Nat.le_succ _) _).setCell (p := ⟨w.heap.size + 1, 7, none⟩) (Nat.le_succ _) _).setCell (p := ⟨w.heap.size + 1, 8, none⟩) (Nat.le_succ _) _).setCell (p := ⟨w.heap.size + 1, 9, none⟩) (Nat.le_succ _) _)⟩

set_option maxHeartbeats 2000000 in
theorem moved_C0 (f lo by_ : Int) (k : Nat → Int) (a r fd pw s t fid : Nat) (ov ng : Bool) (fv : Value)
    (HO : Hid (∀ w, FmtG w → Calls Tryd.prog 66 #[.int .i64 f] w fun e w' => e = .returned (.tuple #[.agg #[.int .i64 (k 0), .int .i64 (k 1), .int .i64 (k 2), .int .i64 (k 3), .int .i64 (k 4)], .bool true]) ∧ Below w.heap.size w w'))
    (HFI : Hid (∀ w, FmtG w → Calls Tryd.prog 14 #[.int .i64 f, .agg #[.int .u64 (dgl (a) 1 : Nat), .int .u64 (dgl (a) 0 : Nat)]] w fun e w' => e = .returned (.bool true) ∧ Below w.heap.size w w'))
    (HFR : Hid (∀ w, FmtG w → Calls Tryd.prog 19 #[.int .i64 f, .agg #[.int .u64 (dgl (a) 1 : Nat), .int .u64 (dgl (a) 0 : Nat)]] w fun e w' => e = .returned (.agg #[.int .u64 (dgl (r) 0 : Nat), .int .u64 (dgl (r) 1 : Nat), .int .u64 (dgl (r) 2 : Nat), .int .u64 (dgl (r) 3 : Nat), .int .u64 (dgl (r) 4 : Nat), .int .u64 (dgl (r) 5 : Nat), .int .u64 (dgl (r) 6 : Nat), .int .u64 (dgl (r) 7 : Nat)]) ∧ Below w.heap.size w w'))
    (HLO : Hid (∀ w, Calls Tryd.prog 83 #[.agg #[.int .i64 (k 0), .int .i64 (k 1), .int .i64 (k 2), .int .i64 (k 3), .int .i64 (k 4)]] w fun e w' => e = .returned (.int .i64 lo) ∧ Below w.heap.size w w'))
    (HFD : Hid (∀ w, FmtG w → Calls Tryd.prog 18 #[.int .i64 f, .agg #[.int .u64 (dgl (a) 1 : Nat), .int .u64 (dgl (a) 0 : Nat)]] w fun e w' => e = .returned (.int .i64 0) ∧ Below w.heap.size w w'))
    (hlo : -20000 ≤ lo ∧ lo ≤ 0)
    (hent : ∀ args w, (callFunc fid args).run Tryd.prog w = .ok (.enter fid args) w)
    (HUP : Hid (∀ w, Calls Tryd.prog fid #[.agg #[.int .i64 (k 0), .int .i64 (k 1), .int .i64 (k 2), .int .i64 (k 3), .int .i64 (k 4)], .agg #[.int .u64 (dgl (r) 0 : Nat), .int .u64 (dgl (r) 1 : Nat), .int .u64 (dgl (r) 2 : Nat), .int .u64 (dgl (r) 3 : Nat), .int .u64 (dgl (r) 4 : Nat), .int .u64 (dgl (r) 5 : Nat), .int .u64 (dgl (r) 6 : Nat), .int .u64 (dgl (r) 7 : Nat)]] w fun e w' => e = .returned (.tuple #[.int .i64 by_, .bool false]) ∧ Below w.heap.size w w')) (w : World) (hg : FmtG w) :
    Calls Tryd.prog 79 #[.int .i64 f, .agg #[.int .u64 (dgl (a) 1 : Nat), .int .u64 (dgl (a) 0 : Nat)], .func (.func fid) #[] #[]] w fun e w' => e = .returned (.tuple #[.agg #[.bool false, .int .i64 0, .int .u64 0, .int .u64 0, .int .u64 0, .int .u64 0, .int .u64 0, .int .u64 0, .int .u64 0, .int .u64 0], .bool false]) ∧ Below w.heap.size w w' := by
  have HS := hide (mv0_start a w hg)
  clear hg
  go_enter Tryd.func79, Tryd.ntmps79
  go_wp2_with fail
  refine (HO.out _ HS.out.g).mono ?_
  rintro e w1 ⟨rfl, hb1⟩
  replace HS := hide (HS.out.below hb1)
  clear hb1
  go_upto_region 2 with fail
  refine wp_gen (fun W => MvSt a w1.heap.size k w false 0 0 W) (by have h := mvSt_start k HS.out; exact h) ?_
  clear HS
  generalize w1.heap.size = p8
  rintro W1 h1
  have HS := hide h1
  clear h1
  have l0 := HS.out.wa.h
  have l1 := HS.out.wa.l
  go_wp2_with fail
  refine (HFI.out _ HS.out.g).mono ?_
  rintro e w2 ⟨rfl, hb2⟩
  replace HS := hide (HS.out.below hb2)
  clear hb2 l0 l1
  go_upto_region 4 with fail
  refine wp_gen (fun W => MvSt a p8 k w false 0 0 W) HS.out ?_
  clear HS
  rintro W3 h3
  refine wp_region_storeK 8 [6] [29, 30, 31, 32, 33, 10, 11] (fun bs => [(29, .val (.int .i64 f)), (30, .val (.agg #[.int .u64 (dgl (a) 1 : Nat), .int .u64 (dgl (a) 0 : Nat)])), (31, .val (.agg #[.int .u64 (dgl (r) 0 : Nat), .int .u64 (dgl (r) 1 : Nat), .int .u64 (dgl (r) 2 : Nat), .int .u64 (dgl (r) 3 : Nat), .int .u64 (dgl (r) 4 : Nat), .int .u64 (dgl (r) 5 : Nat), .int .u64 (dgl (r) 6 : Nat), .int .u64 (dgl (r) 7 : Nat)])), (32, .val (.agg #[.int .i64 (k 0), .int .i64 (k 1), .int .i64 (k 2), .int .i64 (k 3), .int .i64 (k 4)])), (33, .val (.int .i64 lo)), (10, bif bs.headD false then SlotIs.box (p8 + 1) (dgl r) else SlotIs.box (p8 + 1) (fun _ => 0)), (11, .val (.int .i64 lo))])
    (fun _ W => MvSt a p8 k w false 0 0 W) (fun bs => rfl) mixedOk (by kernel_rfl) (by kernel_rfl) (by kernel_rfl) (h3.below (Below.refl _ _).drew) (fun bs W W' h hb => h.below hb) ?_ ?_
  · refine kSt rfl (fun φ hφ => gStep_run rfl (gRun_move 0 29 (.inl rfl) rfl (by decide +kernel) (fun v w h => h))) ?_
    refine kSt rfl (fun φ hφ => gStep_run rfl ?_) ?_
    · intro ρ W hC hc hf hL
      have e4 : ρ (.tmp 4) = .pointer (some ⟨w.heap.size, 0, none⟩) := hL 4 (by decide +kernel)
      have l0 := hC.wa.h
      have l1 := hC.wa.l
      simp [go_sem, hc, hf, e4, l0, l1]
      exact ⟨Below.refl _ _, rfl⟩
    refine kSt rfl (fun φ hφ => gStep_run rfl ?_) ?_
    · intro ρ W hC hc hf hL
      have e29 : ρ (.tmp 29) = .int .i64 f := hL 29 (by decide +kernel)
      have e30 : ρ (.tmp 30) = .agg #[.int .u64 (dgl (a) 1 : Nat), .int .u64 (dgl (a) 0 : Nat)] := hL 30 (by decide +kernel)
      simp [go_sem, hc, hf, e29, e30]
      refine (HFR.out W hC.g).mono ?_
      rintro e w' ⟨rfl, hb⟩
      exact ⟨_, rfl, by first | exact hb | (subst hb; exact Below.refl _ _), rfl⟩
    refine kSt rfl (fun φ hφ => gStep_run rfl ?_) ?_
    · intro ρ W hC hc hf hL
      have e8 : ρ (.tmp 8) = .pointer (some ⟨p8, 0, none⟩) := hL 8 (by decide +kernel)
      have l0 := hC.rk
      simp [go_sem, hc, hf, e8, l0]
      exact ⟨Below.refl _ _, rfl⟩
    refine kSt rfl (fun φ hφ => gStep_run rfl ?_) ?_
    · intro ρ W hC hc hf hL
      have e32 : ρ (.tmp 32) = .agg #[.int .i64 (k 0), .int .i64 (k 1), .int .i64 (k 2), .int .i64 (k 3), .int .i64 (k 4)] := hL 32 (by decide +kernel)
      simp [go_sem, hc, hf, e32]
      refine (HLO.out W).mono ?_
      rintro e w' ⟨rfl, hb⟩
      exact ⟨_, rfl, by first | exact hb | (subst hb; exact Below.refl _ _), rfl⟩
    refine kSt rfl (fun φ hφ => gStep_run rfl ?_) ?_
    · intro ρ W hC hc hf hL
      have hφ0 : φ 6 = false := hφ 6 (by simp) (by kernel_rfl)
      simp [go_sem, hc, hf]
      refine ⟨below_allocs _ _, ?_⟩
      show (bif φ 6 then SlotIs.box (p8 + 1) (dgl r) else SlotIs.box (p8 + 1) (fun _ => 0)).R _ _
      rw [hφ0]
      exact ⟨_, rfl, hC.lk, liesF_new _ (fun _ => 0) _, fun i => by simp [go_sem]⟩
    refine kStS rfl ⟨rfl, rfl, ?_⟩ ?_
    · intro φ ρ W hφ hC hc hL
      have b10 := hL 10 (by decide +kernel)
      have e31 : ρ (.tmp 31) = .agg #[.int .u64 (dgl (r) 0 : Nat), .int .u64 (dgl (r) 1 : Nat), .int .u64 (dgl (r) 2 : Nat), .int .u64 (dgl (r) 3 : Nat), .int .u64 (dgl (r) 4 : Nat), .int .u64 (dgl (r) 5 : Nat), .int .u64 (dgl (r) 6 : Nat), .int .u64 (dgl (r) 7 : Nat)] := hL 31 (by decide +kernel)
      have b10 : (bif φ 6 then SlotIs.box (p8 + 1) (dgl r) else SlotIs.box (p8 + 1) (fun _ => 0)).R (ρ (.tmp 10)) W := hL 10 (by decide +kernel)
      rw [hφ] at b10
      obtain ⟨p10, e10, q10, l10, z10⟩ := b10
      have hz := l10.1
      have hzl := l10.2
      refine gUpon_of ((((((((W.setCell ⟨p10, 0, none⟩ (.int .u64 (dgl r 0 : Nat))).setCell ⟨p10, 1, none⟩ (.int .u64 (dgl r 1 : Nat))).setCell ⟨p10, 2, none⟩ (.int .u64 (dgl r 2 : Nat))).setCell ⟨p10, 3, none⟩ (.int .u64 (dgl r 3 : Nat))).setCell ⟨p10, 4, none⟩ (.int .u64 (dgl r 4 : Nat))).setCell ⟨p10, 5, none⟩ (.int .u64 (dgl r 5 : Nat))).setCell ⟨p10, 6, none⟩ (.int .u64 (dgl r 6 : Nat))).setCell ⟨p10, 7, none⟩ (.int .u64 (dgl r 7 : Nat))) ?_ (fun _ => ?_)
      · simp [go_sem, hc, e31, e10, hz, hzl, z10, gUpon]
      have hs8 := below_set8 (Below.refl (p8 + 1) W) p10 q10 (.int .u64 (dgl r 0 : Nat)) (.int .u64 (dgl r 1 : Nat)) (.int .u64 (dgl r 2 : Nat)) (.int .u64 (dgl r 3 : Nat)) (.int .u64 (dgl r 4 : Nat)) (.int .u64 (dgl r 5 : Nat)) (.int .u64 (dgl r 6 : Nat)) (.int .u64 (dgl r 7 : Nat))
      refine ⟨hC.under hs8 (by omega), fun t => ?_⟩
      refine (tbl_imp rfl (fun _ => val_imp) (tbl_imp rfl (fun _ => val_imp) (tbl_imp rfl (fun _ => val_imp) (tbl_imp rfl (fun _ => val_imp) (tbl_imp rfl (fun _ => val_imp) (tbl_imp rfl (fun ht h => ?_) (tbl_imp rfl (fun _ => val_imp) tbl_nil_imp)))))))
      subst ht
      show (bif (φ 6 || true) then SlotIs.box (p8 + 1) (dgl r) else SlotIs.box (p8 + 1) (fun _ => 0)).R _ _
      rw [Bool.or_true]
      exact ⟨p10, e10, q10, set8_same W p10 (dgl r) (fun _ => 0) l10, fun i => by simpa [go_sem] using z10 i⟩
    refine kSt rfl (fun φ hφ => gStep_run rfl (gRun_move 33 11 (.inr rfl) rfl (by decide +kernel) (fun v w h => h))) ?_
    exact kSt0
  · intro W hC
    refine gFi 29 rfl ?_
    rintro _ rfl
    refine gFi 30 rfl ?_
    rintro _ rfl
    refine gFi 31 rfl ?_
    rintro _ rfl
    refine gFi 32 rfl ?_
    rintro _ rfl
    refine gFi 33 rfl ?_
    rintro _ rfl
    refine gFi 10 rfl ?_
    rintro _ ⟨p10, rfl, q10, l10, z10⟩
    refine gFiN rfl ?_
    refine gFi 11 rfl ?_
    rintro _ rfl
    refine gFi0 ?_
    simp only [List.drop_succ_cons, List.drop_zero, Act.put, List.setIfInBounds_toArray, List.set_cons_succ, List.set_cons_zero]
    have HS := hide hC
    have HL := hide l10
    have HN2 := hide q10
    have HZ := hide z10
    clear hC l10 q10 z10 h3
    have l0 := HS.out.wa.h
    have l1 := HS.out.wa.l
    go_wp2_with fail
    refine (HFD.out _ HS.out.g).mono ?_
    rintro e w4 ⟨rfl, hb4⟩
    replace HS := hide (HS.out.below hb4)
    replace HZ := hide (show ∀ i, w4.frozen? ⟨p10, i, none⟩ = false from fun i => (hb4.frozen (p := ⟨p10, i, none⟩) HL.out.2).trans (HZ.out i))
    replace HL := hide (HL.out.below hb4)
    clear hb4 l0 l1
    have hk := HS.out.rk
    have hs := HL.out.1
    go_wp2_with fail
    refine (HUP.out _).mono ?_
    rintro e w5 ⟨rfl, hb5⟩
    replace HS := hide (HS.out.below hb5)
    replace HL := hide (HL.out.below hb5)
    clear hb5 hk hs
    have HB := hide HS.out.bel
    have rn := HS.out.r.n
    have re := HS.out.r.e
    have r0 := HS.out.r.x0
    have r1 := HS.out.r.x1
    have r2 := HS.out.r.x2
    have r3 := HS.out.r.x3
    have r4 := HS.out.r.x4
    have r5 := HS.out.r.x5
    have r6 := HS.out.r.x6
    have r7 := HS.out.r.x7
    have hrf := HS.out.fr
    have hrl := HS.out.r.lt
    clear HS
    go_wp2
    exact bodyPost_ret (v := .tuple #[.agg #[.bool false, .int .i64 0, .int .u64 0, .int .u64 0, .int .u64 0, .int .u64 0, .int .u64 0, .int .u64 0, .int .u64 0, .int .u64 0], .bool false]) (by simp [results, Tryd.results79, go_sem, hrl, rn, re, r0, r1, r2, r3, r4, r5, r6, r7]) rfl ⟨rfl, ((((((((((HB.out.setCell (p := ⟨w.heap.size + 1, 0, none⟩) (Nat.le_succ _) _).setCell (p := ⟨w.heap.size + 1, 1, none⟩) (Nat.le_succ _) _).setCell (p := ⟨w.heap.size + 1, 2, none⟩) (Nat.le_succ _) _).setCell (p := ⟨w.heap.size + 1, 3, none⟩) (Nat.le_succ _) _).setCell (p := ⟨w.heap.size + 1, 4, none⟩) (Nat.le_succ _) _).setCell (p := ⟨w.heap.size + 1, 5, none⟩) (Nat.le_succ _) _).setCell (p := ⟨w.heap.size + 1, 6, none⟩) (Nat.le_succ _) _).setCell (p := ⟨w.heap.size + 1, 7, none⟩) (Nat.le_succ _) _).setCell (p := ⟨w.heap.size + 1, 8, none⟩) (Nat.le_succ _) _).setCell (p := ⟨w.heap.size + 1, 9, none⟩) (Nat.le_succ _) _)⟩

set_option maxHeartbeats 2000000 in
theorem moved_C1 (f lo by_ : Int) (k : Nat → Int) (a r fd pw s t fid : Nat) (ov ng : Bool) (fv : Value)
    (HO : Hid (∀ w, FmtG w → Calls Tryd.prog 66 #[.int .i64 f] w fun e w' => e = .returned (.tuple #[.agg #[.int .i64 (k 0), .int .i64 (k 1), .int .i64 (k 2), .int .i64 (k 3), .int .i64 (k 4)], .bool true]) ∧ Below w.heap.size w w'))
    (HFI : Hid (∀ w, FmtG w → Calls Tryd.prog 14 #[.int .i64 f, .agg #[.int .u64 (dgl (a) 1 : Nat), .int .u64 (dgl (a) 0 : Nat)]] w fun e w' => e = .returned (.bool true) ∧ Below w.heap.size w w'))
    (HFR : Hid (∀ w, FmtG w → Calls Tryd.prog 19 #[.int .i64 f, .agg #[.int .u64 (dgl (a) 1 : Nat), .int .u64 (dgl (a) 0 : Nat)]] w fun e w' => e = .returned (.agg #[.int .u64 (dgl (r) 0 : Nat), .int .u64 (dgl (r) 1 : Nat), .int .u64 (dgl (r) 2 : Nat), .int .u64 (dgl (r) 3 : Nat), .int .u64 (dgl (r) 4 : Nat), .int .u64 (dgl (r) 5 : Nat), .int .u64 (dgl (r) 6 : Nat), .int .u64 (dgl (r) 7 : Nat)]) ∧ Below w.heap.size w w'))
    (HLO : Hid (∀ w, Calls Tryd.prog 83 #[.agg #[.int .i64 (k 0), .int .i64 (k 1), .int .i64 (k 2), .int .i64 (k 3), .int .i64 (k 4)]] w fun e w' => e = .returned (.int .i64 lo) ∧ Below w.heap.size w w'))
    (HFD : Hid (∀ w, FmtG w → Calls Tryd.prog 18 #[.int .i64 f, .agg #[.int .u64 (dgl (a) 1 : Nat), .int .u64 (dgl (a) 0 : Nat)]] w fun e w' => e = .returned (.int .i64 0) ∧ Below w.heap.size w w'))
    (hlo : -20000 ≤ lo ∧ lo ≤ 0)
    (hent : ∀ args w, (callFunc fid args).run Tryd.prog w = .ok (.enter fid args) w)
    (HUP : Hid (∀ w, Calls Tryd.prog fid #[.agg #[.int .i64 (k 0), .int .i64 (k 1), .int .i64 (k 2), .int .i64 (k 3), .int .i64 (k 4)], .agg #[.int .u64 (dgl (r) 0 : Nat), .int .u64 (dgl (r) 1 : Nat), .int .u64 (dgl (r) 2 : Nat), .int .u64 (dgl (r) 3 : Nat), .int .u64 (dgl (r) 4 : Nat), .int .u64 (dgl (r) 5 : Nat), .int .u64 (dgl (r) 6 : Nat), .int .u64 (dgl (r) 7 : Nat)]] w fun e w' => e = .returned (.tuple #[.int .i64 by_, .bool true]) ∧ Below w.heap.size w w'))
    (HNG : Hid (∀ w, FmtG w → Calls Tryd.prog 16 #[.int .i64 f, .agg #[.int .u64 (dgl (a) 1 : Nat), .int .u64 (dgl (a) 0 : Nat)]] w fun e w' => e = .returned (.bool ng) ∧ Below w.heap.size w w'))
    (HSH : Hid (∀ w, Calls Tryd.prog 69 #[.agg #[.int .u64 (dgl (r) 0 : Nat), .int .u64 (dgl (r) 1 : Nat), .int .u64 (dgl (r) 2 : Nat), .int .u64 (dgl (r) 3 : Nat), .int .u64 (dgl (r) 4 : Nat), .int .u64 (dgl (r) 5 : Nat), .int .u64 (dgl (r) 6 : Nat), .int .u64 (dgl (r) 7 : Nat)], .int .i64 by_] w fun e w' => e = .returned (.agg #[.int .u64 (dgl (t) 0 : Nat), .int .u64 (dgl (t) 1 : Nat), .int .u64 (dgl (t) 2 : Nat), .int .u64 (dgl (t) 3 : Nat), .int .u64 (dgl (t) 4 : Nat), .int .u64 (dgl (t) 5 : Nat), .int .u64 (dgl (t) 6 : Nat), .int .u64 (dgl (t) 7 : Nat)]) ∧ Below w.heap.size w w'))
    (HW2 : Hid (IntKind.i64.wrap (lo - by_) = lo - by_)) (w : World) (hg : FmtG w) :
    Calls Tryd.prog 79 #[.int .i64 f, .agg #[.int .u64 (dgl (a) 1 : Nat), .int .u64 (dgl (a) 0 : Nat)], .func (.func fid) #[] #[]] w fun e w' => e = .returned (.tuple #[.agg #[.bool (ng), .int .i64 (lo - by_), .int .u64 (dgl (t) 0 : Nat), .int .u64 (dgl (t) 1 : Nat), .int .u64 (dgl (t) 2 : Nat), .int .u64 (dgl (t) 3 : Nat), .int .u64 (dgl (t) 4 : Nat), .int .u64 (dgl (t) 5 : Nat), .int .u64 (dgl (t) 6 : Nat), .int .u64 (dgl (t) 7 : Nat)], .bool true]) ∧ Below w.heap.size w w' := by
  have HS := hide (mv0_start a w hg)
  clear hg
  go_enter Tryd.func79, Tryd.ntmps79
  go_wp2_with fail
  refine (HO.out _ HS.out.g).mono ?_
  rintro e w1 ⟨rfl, hb1⟩
  replace HS := hide (HS.out.below hb1)
  clear hb1
  go_upto_region 2 with fail
  refine wp_gen (fun W => MvSt a w1.heap.size k w false 0 0 W) (by have h := mvSt_start k HS.out; exact h) ?_
  clear HS
  generalize w1.heap.size = p8
  rintro W1 h1
  have HS := hide h1
  clear h1
  have l0 := HS.out.wa.h
  have l1 := HS.out.wa.l
  go_wp2_with fail
  refine (HFI.out _ HS.out.g).mono ?_
  rintro e w2 ⟨rfl, hb2⟩
  replace HS := hide (HS.out.below hb2)
  clear hb2 l0 l1
  go_upto_region 4 with fail
  refine wp_gen (fun W => MvSt a p8 k w false 0 0 W) HS.out ?_
  clear HS
  rintro W3 h3
  refine wp_region_storeK 8 [6] [29, 30, 31, 32, 33, 10, 11] (fun bs => [(29, .val (.int .i64 f)), (30, .val (.agg #[.int .u64 (dgl (a) 1 : Nat), .int .u64 (dgl (a) 0 : Nat)])), (31, .val (.agg #[.int .u64 (dgl (r) 0 : Nat), .int .u64 (dgl (r) 1 : Nat), .int .u64 (dgl (r) 2 : Nat), .int .u64 (dgl (r) 3 : Nat), .int .u64 (dgl (r) 4 : Nat), .int .u64 (dgl (r) 5 : Nat), .int .u64 (dgl (r) 6 : Nat), .int .u64 (dgl (r) 7 : Nat)])), (32, .val (.agg #[.int .i64 (k 0), .int .i64 (k 1), .int .i64 (k 2), .int .i64 (k 3), .int .i64 (k 4)])), (33, .val (.int .i64 lo)), (10, bif bs.headD false then SlotIs.box (p8 + 1) (dgl r) else SlotIs.box (p8 + 1) (fun _ => 0)), (11, .val (.int .i64 lo))])
    (fun _ W => MvSt a p8 k w false 0 0 W) (fun bs => rfl) mixedOk (by kernel_rfl) (by kernel_rfl) (by kernel_rfl) (h3.below (Below.refl _ _).drew) (fun bs W W' h hb => h.below hb) ?_ ?_
  · refine kSt rfl (fun φ hφ => gStep_run rfl (gRun_move 0 29 (.inl rfl) rfl (by decide +kernel) (fun v w h => h))) ?_
    refine kSt rfl (fun φ hφ => gStep_run rfl ?_) ?_
    · intro ρ W hC hc hf hL
      have e4 : ρ (.tmp 4) = .pointer (some ⟨w.heap.size, 0, none⟩) := hL 4 (by decide +kernel)
      have l0 := hC.wa.h
      have l1 := hC.wa.l
      simp [go_sem, hc, hf, e4, l0, l1]
      exact ⟨Below.refl _ _, rfl⟩
    refine kSt rfl (fun φ hφ => gStep_run rfl ?_) ?_
    · intro ρ W hC hc hf hL
      have e29 : ρ (.tmp 29) = .int .i64 f := hL 29 (by decide +kernel)
      have e30 : ρ (.tmp 30) = .agg #[.int .u64 (dgl (a) 1 : Nat), .int .u64 (dgl (a) 0 : Nat)] := hL 30 (by decide +kernel)
      simp [go_sem, hc, hf, e29, e30]
      refine (HFR.out W hC.g).mono ?_
      rintro e w' ⟨rfl, hb⟩
      exact ⟨_, rfl, by first | exact hb | (subst hb; exact Below.refl _ _), rfl⟩
    refine kSt rfl (fun φ hφ => gStep_run rfl ?_) ?_
    · intro ρ W hC hc hf hL
      have e8 : ρ (.tmp 8) = .pointer (some ⟨p8, 0, none⟩) := hL 8 (by decide +kernel)
      have l0 := hC.rk
      simp [go_sem, hc, hf, e8, l0]
      exact ⟨Below.refl _ _, rfl⟩
    refine kSt rfl (fun φ hφ => gStep_run rfl ?_) ?_
    · intro ρ W hC hc hf hL
      have e32 : ρ (.tmp 32) = .agg #[.int .i64 (k 0), .int .i64 (k 1), .int .i64 (k 2), .int .i64 (k 3), .int .i64 (k 4)] := hL 32 (by decide +kernel)
      simp [go_sem, hc, hf, e32]
      refine (HLO.out W).mono ?_
      rintro e w' ⟨rfl, hb⟩
      exact ⟨_, rfl, by first | exact hb | (subst hb; exact Below.refl _ _), rfl⟩
    refine kSt rfl (fun φ hφ => gStep_run rfl ?_) ?_
    · intro ρ W hC hc hf hL
      have hφ0 : φ 6 = false := hφ 6 (by simp) (by kernel_rfl)
      simp [go_sem, hc, hf]
      refine ⟨below_allocs _ _, ?_⟩
      show (bif φ 6 then SlotIs.box (p8 + 1) (dgl r) else SlotIs.box (p8 + 1) (fun _ => 0)).R _ _
      rw [hφ0]
      exact ⟨_, rfl, hC.lk, liesF_new _ (fun _ => 0) _, fun i => by simp [go_sem]⟩
    refine kStS rfl ⟨rfl, rfl, ?_⟩ ?_
    · intro φ ρ W hφ hC hc hL
      have b10 := hL 10 (by decide +kernel)
      have e31 : ρ (.tmp 31) = .agg #[.int .u64 (dgl (r) 0 : Nat), .int .u64 (dgl (r) 1 : Nat), .int .u64 (dgl (r) 2 : Nat), .int .u64 (dgl (r) 3 : Nat), .int .u64 (dgl (r) 4 : Nat), .int .u64 (dgl (r) 5 : Nat), .int .u64 (dgl (r) 6 : Nat), .int .u64 (dgl (r) 7 : Nat)] := hL 31 (by decide +kernel)
      have b10 : (bif φ 6 then SlotIs.box (p8 + 1) (dgl r) else SlotIs.box (p8 + 1) (fun _ => 0)).R (ρ (.tmp 10)) W := hL 10 (by decide +kernel)
      rw [hφ] at b10
      obtain ⟨p10, e10, q10, l10, z10⟩ := b10
      have hz := l10.1
      have hzl := l10.2
      refine gUpon_of ((((((((W.setCell ⟨p10, 0, none⟩ (.int .u64 (dgl r 0 : Nat))).setCell ⟨p10, 1, none⟩ (.int .u64 (dgl r 1 : Nat))).setCell ⟨p10, 2, none⟩ (.int .u64 (dgl r 2 : Nat))).setCell ⟨p10, 3, none⟩ (.int .u64 (dgl r 3 : Nat))).setCell ⟨p10, 4, none⟩ (.int .u64 (dgl r 4 : Nat))).setCell ⟨p10, 5, none⟩ (.int .u64 (dgl r 5 : Nat))).setCell ⟨p10, 6, none⟩ (.int .u64 (dgl r 6 : Nat))).setCell ⟨p10, 7, none⟩ (.int .u64 (dgl r 7 : Nat))) ?_ (fun _ => ?_)
      · simp [go_sem, hc, e31, e10, hz, hzl, z10, gUpon]
      have hs8 := below_set8 (Below.refl (p8 + 1) W) p10 q10 (.int .u64 (dgl r 0 : Nat)) (.int .u64 (dgl r 1 : Nat)) (.int .u64 (dgl r 2 : Nat)) (.int .u64 (dgl r 3 : Nat)) (.int .u64 (dgl r 4 : Nat)) (.int .u64 (dgl r 5 : Nat)) (.int .u64 (dgl r 6 : Nat)) (.int .u64 (dgl r 7 : Nat))
      refine ⟨hC.under hs8 (by omega), fun t => ?_⟩
      refine (tbl_imp rfl (fun _ => val_imp) (tbl_imp rfl (fun _ => val_imp) (tbl_imp rfl (fun _ => val_imp) (tbl_imp rfl (fun _ => val_imp) (tbl_imp rfl (fun _ => val_imp) (tbl_imp rfl (fun ht h => ?_) (tbl_imp rfl (fun _ => val_imp) tbl_nil_imp)))))))
      subst ht
      show (bif (φ 6 || true) then SlotIs.box (p8 + 1) (dgl r) else SlotIs.box (p8 + 1) (fun _ => 0)).R _ _
      rw [Bool.or_true]
      exact ⟨p10, e10, q10, set8_same W p10 (dgl r) (fun _ => 0) l10, fun i => by simpa [go_sem] using z10 i⟩
    refine kSt rfl (fun φ hφ => gStep_run rfl (gRun_move 33 11 (.inr rfl) rfl (by decide +kernel) (fun v w h => h))) ?_
    exact kSt0
  · intro W hC
    refine gFi 29 rfl ?_
    rintro _ rfl
    refine gFi 30 rfl ?_
    rintro _ rfl
    refine gFi 31 rfl ?_
    rintro _ rfl
    refine gFi 32 rfl ?_
    rintro _ rfl
    refine gFi 33 rfl ?_
    rintro _ rfl
    refine gFi 10 rfl ?_
    rintro _ ⟨p10, rfl, q10, l10, z10⟩
    refine gFiN rfl ?_
    refine gFi 11 rfl ?_
    rintro _ rfl
    refine gFi0 ?_
    simp only [List.drop_succ_cons, List.drop_zero, Act.put, List.setIfInBounds_toArray, List.set_cons_succ, List.set_cons_zero]
    have HS := hide hC
    have HL := hide l10
    have HN2 := hide q10
    have HZ := hide z10
    clear hC l10 q10 z10 h3
    have l0 := HS.out.wa.h
    have l1 := HS.out.wa.l
    go_wp2_with fail
    refine (HFD.out _ HS.out.g).mono ?_
    rintro e w4 ⟨rfl, hb4⟩
    replace HS := hide (HS.out.below hb4)
    replace HZ := hide (show ∀ i, w4.frozen? ⟨p10, i, none⟩ = false from fun i => (hb4.frozen (p := ⟨p10, i, none⟩) HL.out.2).trans (HZ.out i))
    replace HL := hide (HL.out.below hb4)
    clear hb4 l0 l1
    have hk := HS.out.rk
    have hs := HL.out.1
    go_wp2_with fail
    refine (HUP.out _).mono ?_
    rintro e w5 ⟨rfl, hb5⟩
    replace HS := hide (HS.out.below hb5)
    replace HL := hide (HL.out.below hb5)
    clear hb5 hk hs
    go_upto_region 12 with fail
    refine wp_gen (fun W => MvSt a p8 k w false 0 0 W ∧ LiesF W p10 (dgl r)) ⟨HS.out, HL.out⟩ ?_
    clear HS HL
    rintro W5 ⟨h5, h6⟩
    refine wp_region_storeK 12 [10] [62, 63, 64, 65, 66, 67, 68, 69, 70, 71, 7] (fun bs => [(62, .val (.int .i64 f)), (63, .val (.agg #[.int .u64 (dgl (a) 1 : Nat), .int .u64 (dgl (a) 0 : Nat)])), (64, .val (.bool ng)), (65, .val (.int .i64 lo)), (66, .val (.int .i64 by_)), (67, .val (.int .i64 (lo - by_))), (68, .val (.agg #[.int .u64 (dgl (r) 0 : Nat), .int .u64 (dgl (r) 1 : Nat), .int .u64 (dgl (r) 2 : Nat), .int .u64 (dgl (r) 3 : Nat), .int .u64 (dgl (r) 4 : Nat), .int .u64 (dgl (r) 5 : Nat), .int .u64 (dgl (r) 6 : Nat), .int .u64 (dgl (r) 7 : Nat)])), (69, .val (.int .i64 by_)), (70, .val (.agg #[.int .u64 (dgl (t) 0 : Nat), .int .u64 (dgl (t) 1 : Nat), .int .u64 (dgl (t) 2 : Nat), .int .u64 (dgl (t) 3 : Nat), .int .u64 (dgl (t) 4 : Nat), .int .u64 (dgl (t) 5 : Nat), .int .u64 (dgl (t) 6 : Nat), .int .u64 (dgl (t) 7 : Nat)])), (71, .val (.agg #[.bool (ng), .int .i64 (lo - by_), .int .u64 (dgl (t) 0 : Nat), .int .u64 (dgl (t) 1 : Nat), .int .u64 (dgl (t) 2 : Nat), .int .u64 (dgl (t) 3 : Nat), .int .u64 (dgl (t) 4 : Nat), .int .u64 (dgl (t) 5 : Nat), .int .u64 (dgl (t) 6 : Nat), .int .u64 (dgl (t) 7 : Nat)])), (7, .val (.bool true))])
      (fun bs W => ∀ c, bs.headD false = c → MvSt a p8 k w (bif c then ng else false) (bif c then lo - by_ else 0) (bif c then t else 0) W ∧ LiesF W p10 (dgl r)) (fun bs => rfl) mixedOk (by kernel_rfl) (by kernel_rfl) (by kernel_rfl) (fun c hc => by subst hc; exact ⟨h5.below (Below.refl _ _).drew, h6.below (Below.refl _ _).drew⟩) (fun bs W W' h hb c hc => ⟨(h c hc).1.below hb, (h c hc).2.below hb⟩) ?_ ?_
    · refine kSt rfl (fun φ hφ => gStep_run rfl (gRun_move 0 62 (.inl rfl) rfl (by decide +kernel) (fun v w h => h))) ?_
      refine kSt rfl (fun φ hφ => gStep_run rfl ?_) ?_
      · intro ρ W hC hc hf hL
        have e4 : ρ (.tmp 4) = .pointer (some ⟨w.heap.size, 0, none⟩) := hL 4 (by decide +kernel)
        have hφ0 : φ 10 = false := hφ 10 (by simp) (by kernel_rfl)
        have hD : MvSt a p8 k w false 0 0 W ∧ LiesF W p10 (dgl r) := hC false hφ0
        have l0 := hD.1.wa.h
        have l1 := hD.1.wa.l
        simp [go_sem, hc, hf, e4, l0, l1]
        exact ⟨Below.refl _ _, rfl⟩
      refine kSt rfl (fun φ hφ => gStep_run rfl ?_) ?_
      · intro ρ W hC hc hf hL
        have e62 : ρ (.tmp 62) = .int .i64 f := hL 62 (by decide +kernel)
        have e63 : ρ (.tmp 63) = .agg #[.int .u64 (dgl (a) 1 : Nat), .int .u64 (dgl (a) 0 : Nat)] := hL 63 (by decide +kernel)
        have hφ0 : φ 10 = false := hφ 10 (by simp) (by kernel_rfl)
        have hD : MvSt a p8 k w false 0 0 W ∧ LiesF W p10 (dgl r) := hC false hφ0
        simp [go_sem, hc, hf, e62, e63]
        refine (HNG.out W hD.1.g).mono ?_
        rintro e w' ⟨rfl, hb⟩
        exact ⟨_, rfl, by first | exact hb | (subst hb; exact Below.refl _ _), rfl⟩
      refine kSt rfl (fun φ hφ => gStep_run rfl (gRun_move 11 65 (.inl rfl) rfl (by decide +kernel) (fun v w h => h))) ?_
      refine kSt rfl (fun φ hφ => gStep_run rfl (gRun_move 13 66 (.inl rfl) rfl (by decide +kernel) (fun v w h => h))) ?_
      refine kSt rfl (fun φ hφ => gStep_run rfl ?_) ?_
      · intro ρ W hC hc hf hL
        have e65 : ρ (.tmp 65) = .int .i64 lo := hL 65 (by decide +kernel)
        have e66 : ρ (.tmp 66) = .int .i64 by_ := hL 66 (by decide +kernel)
        have l0 := HW2.out
        simp [go_sem, hc, hf, e65, e66, l0]
        exact ⟨Below.refl _ _, rfl⟩
      refine kSt rfl (fun φ hφ => gStep_run rfl ?_) ?_
      · intro ρ W hC hc hf hL
        have e10 : ρ (.tmp 10) = .pointer (some ⟨p10, 0, none⟩) := hL 10 (by decide +kernel)
        have hφ0 : φ 10 = false := hφ 10 (by simp) (by kernel_rfl)
        have hD : MvSt a p8 k w false 0 0 W ∧ LiesF W p10 (dgl r) := hC false hφ0
        have l0 := hD.2.1
        simp [go_sem, hc, hf, e10, l0]
        exact ⟨Below.refl _ _, rfl⟩
      refine kSt rfl (fun φ hφ => gStep_run rfl (gRun_move 13 69 (.inl rfl) rfl (by decide +kernel) (fun v w h => h))) ?_
      refine kSt rfl (fun φ hφ => gStep_run rfl ?_) ?_
      · intro ρ W hC hc hf hL
        have e68 : ρ (.tmp 68) = .agg #[.int .u64 (dgl (r) 0 : Nat), .int .u64 (dgl (r) 1 : Nat), .int .u64 (dgl (r) 2 : Nat), .int .u64 (dgl (r) 3 : Nat), .int .u64 (dgl (r) 4 : Nat), .int .u64 (dgl (r) 5 : Nat), .int .u64 (dgl (r) 6 : Nat), .int .u64 (dgl (r) 7 : Nat)] := hL 68 (by decide +kernel)
        have e69 : ρ (.tmp 69) = .int .i64 by_ := hL 69 (by decide +kernel)
        simp [go_sem, hc, hf, e68, e69]
        refine (HSH.out W).mono ?_
        rintro e w' ⟨rfl, hb⟩
        exact ⟨_, rfl, by first | exact hb | (subst hb; exact Below.refl _ _), rfl⟩
      refine kSt rfl (fun φ hφ => gStep_run rfl ?_) ?_
      · intro ρ W hC hc hf hL
        have e64 : ρ (.tmp 64) = .bool ng := hL 64 (by decide +kernel)
        have e67 : ρ (.tmp 67) = .int .i64 (lo - by_) := hL 67 (by decide +kernel)
        have e70 : ρ (.tmp 70) = .agg #[.int .u64 (dgl (t) 0 : Nat), .int .u64 (dgl (t) 1 : Nat), .int .u64 (dgl (t) 2 : Nat), .int .u64 (dgl (t) 3 : Nat), .int .u64 (dgl (t) 4 : Nat), .int .u64 (dgl (t) 5 : Nat), .int .u64 (dgl (t) 6 : Nat), .int .u64 (dgl (t) 7 : Nat)] := hL 70 (by decide +kernel)
        simp [go_sem, hc, hf, e64, e67, e70]
        exact ⟨Below.refl _ _, rfl⟩
      refine kStS rfl ⟨rfl, rfl, ?_⟩ ?_
      · intro φ ρ W hφ hC hc hL
        have e6 : ρ (.tmp 6) = .pointer (some ⟨w.heap.size + 1, 0, none⟩) := hL 6 (by decide +kernel)
        have e71 : ρ (.tmp 71) = .agg #[.bool (ng), .int .i64 (lo - by_), .int .u64 (dgl (t) 0 : Nat), .int .u64 (dgl (t) 1 : Nat), .int .u64 (dgl (t) 2 : Nat), .int .u64 (dgl (t) 3 : Nat), .int .u64 (dgl (t) 4 : Nat), .int .u64 (dgl (t) 5 : Nat), .int .u64 (dgl (t) 6 : Nat), .int .u64 (dgl (t) 7 : Nat)] := hL 71 (by decide +kernel)
        have hD : MvSt a p8 k w false 0 0 W ∧ LiesF W p10 (dgl r) := hC false hφ
        have rn := hD.1.r.n
        have re := hD.1.r.e
        have r0 := hD.1.r.x0
        have r1 := hD.1.r.x1
        have r2 := hD.1.r.x2
        have r3 := hD.1.r.x3
        have r4 := hD.1.r.x4
        have r5 := hD.1.r.x5
        have r6 := hD.1.r.x6
        have r7 := hD.1.r.x7
        have hrf := hD.1.fr
        have hrl := hD.1.r.lt
        refine gUpon_of ((((((((((W.setCell ⟨w.heap.size + 1, 0, none⟩ (.bool (ng))).setCell ⟨w.heap.size + 1, 1, none⟩ (.int .i64 (lo - by_))).setCell ⟨w.heap.size + 1, 2, none⟩ (.int .u64 (dgl (t) 0 : Nat))).setCell ⟨w.heap.size + 1, 3, none⟩ (.int .u64 (dgl (t) 1 : Nat))).setCell ⟨w.heap.size + 1, 4, none⟩ (.int .u64 (dgl (t) 2 : Nat))).setCell ⟨w.heap.size + 1, 5, none⟩ (.int .u64 (dgl (t) 3 : Nat))).setCell ⟨w.heap.size + 1, 6, none⟩ (.int .u64 (dgl (t) 4 : Nat))).setCell ⟨w.heap.size + 1, 7, none⟩ (.int .u64 (dgl (t) 5 : Nat))).setCell ⟨w.heap.size + 1, 8, none⟩ (.int .u64 (dgl (t) 6 : Nat))).setCell ⟨w.heap.size + 1, 9, none⟩ (.int .u64 (dgl (t) 7 : Nat))) ?_ (fun _ => ?_)
        · simp [go_sem, hc, e6, e71, hrf, hrl, rn, re, r0, r1, r2, r3, r4, r5, r6, r7, gUpon]
        have hs10 := below_set10 (Below.refl (w.heap.size + 1) W) (w.heap.size + 1) (Nat.le_refl _) ng (lo - by_) t
        refine ⟨fun c hc => ?_, fun t => (tbl_imp rfl (fun _ => val_imp) (tbl_imp rfl (fun _ => val_imp) (tbl_imp rfl (fun _ => val_imp) (tbl_imp rfl (fun _ => val_imp) (tbl_imp rfl (fun _ => val_imp) (tbl_imp rfl (fun _ => val_imp) (tbl_imp rfl (fun _ => val_imp) (tbl_imp rfl (fun _ => val_imp) (tbl_imp rfl (fun _ => val_imp) (tbl_imp rfl (fun _ => val_imp) (tbl_imp rfl (fun _ => val_imp) tbl_nil_imp)))))))))))⟩
        have hc2 : (φ 10 || true) = c := hc
        rw [Bool.or_true] at hc2
        subst hc2
        exact ⟨hD.1.setR ng (lo - by_) t, lies_set10 hD.2 (by have h1 := hD.1.lo; have h2 := HN2.out; omega)⟩
      refine kSt rfl (fun φ hφ => gStep_run rfl (gRun_const _ 7 (.inr rfl) rfl (fun w => rfl))) ?_
      exact kSt0
    · intro W hC
      refine gFi 62 rfl ?_
      rintro _ rfl
      refine gFi 63 rfl ?_
      rintro _ rfl
      refine gFi 64 rfl ?_
      rintro _ rfl
      refine gFi 65 rfl ?_
      rintro _ rfl
      refine gFi 66 rfl ?_
      rintro _ rfl
      refine gFi 67 rfl ?_
      rintro _ rfl
      refine gFi 68 rfl ?_
      rintro _ rfl
      refine gFi 69 rfl ?_
      rintro _ rfl
      refine gFi 70 rfl ?_
      rintro _ rfl
      refine gFi 71 rfl ?_
      rintro _ rfl
      refine gFiN rfl ?_
      refine gFi 7 rfl ?_
      rintro _ rfl
      refine gFi0 ?_
      simp only [List.drop_succ_cons, List.drop_zero, Act.put, List.setIfInBounds_toArray, List.set_cons_succ, List.set_cons_zero]
      have HC := hide (hC true rfl).1
      clear hC h5 h6
      have rn := HC.out.r.n
      have re := HC.out.r.e
      have r0 := HC.out.r.x0
      have r1 := HC.out.r.x1
      have r2 := HC.out.r.x2
      have r3 := HC.out.r.x3
      have r4 := HC.out.r.x4
      have r5 := HC.out.r.x5
      have r6 := HC.out.r.x6
      have r7 := HC.out.r.x7
      simp only [cond_true] at rn re r0 r1 r2 r3 r4 r5 r6 r7
      have hrl := HC.out.r.lt
      have HB := hide HC.out.bel
      clear HC
      go_wp2
      exact bodyPost_ret (v := .tuple #[.agg #[.bool (ng), .int .i64 (lo - by_), .int .u64 (dgl (t) 0 : Nat), .int .u64 (dgl (t) 1 : Nat), .int .u64 (dgl (t) 2 : Nat), .int .u64 (dgl (t) 3 : Nat), .int .u64 (dgl (t) 4 : Nat), .int .u64 (dgl (t) 5 : Nat), .int .u64 (dgl (t) 6 : Nat), .int .u64 (dgl (t) 7 : Nat)], .bool true]) (by simp [results, Tryd.results79, go_sem, hrl, rn, re, r0, r1, r2, r3, r4, r5, r6, r7]) rfl ⟨rfl, HB.out⟩

set_option maxHeartbeats 2000000 in
theorem moved_D1 (f lo by_ : Int) (k : Nat → Int) (a r fd pw s t fid : Nat) (ov ng : Bool) (fv : Value)
    (HO : Hid (∀ w, FmtG w → Calls Tryd.prog 66 #[.int .i64 f] w fun e w' => e = .returned (.tuple #[.agg #[.int .i64 (k 0), .int .i64 (k 1), .int .i64 (k 2), .int .i64 (k 3), .int .i64 (k 4)], .bool true]) ∧ Below w.heap.size w w'))
    (HFI : Hid (∀ w, FmtG w → Calls Tryd.prog 14 #[.int .i64 f, .agg #[.int .u64 (dgl (a) 1 : Nat), .int .u64 (dgl (a) 0 : Nat)]] w fun e w' => e = .returned (.bool true) ∧ Below w.heap.size w w'))
    (HFR : Hid (∀ w, FmtG w → Calls Tryd.prog 19 #[.int .i64 f, .agg #[.int .u64 (dgl (a) 1 : Nat), .int .u64 (dgl (a) 0 : Nat)]] w fun e w' => e = .returned (.agg #[.int .u64 (dgl (r) 0 : Nat), .int .u64 (dgl (r) 1 : Nat), .int .u64 (dgl (r) 2 : Nat), .int .u64 (dgl (r) 3 : Nat), .int .u64 (dgl (r) 4 : Nat), .int .u64 (dgl (r) 5 : Nat), .int .u64 (dgl (r) 6 : Nat), .int .u64 (dgl (r) 7 : Nat)]) ∧ Below w.heap.size w w'))
    (HLO : Hid (∀ w, Calls Tryd.prog 83 #[.agg #[.int .i64 (k 0), .int .i64 (k 1), .int .i64 (k 2), .int .i64 (k 3), .int .i64 (k 4)]] w fun e w' => e = .returned (.int .i64 lo) ∧ Below w.heap.size w w'))
    (HFD : Hid (∀ w, FmtG w → Calls Tryd.prog 18 #[.int .i64 f, .agg #[.int .u64 (dgl (a) 1 : Nat), .int .u64 (dgl (a) 0 : Nat)]] w fun e w' => e = .returned (.int .i64 (fd : Nat)) ∧ Below w.heap.size w w'))
    (hlo : -20000 ≤ lo ∧ lo ≤ 0)
    (HNE : Hid ((((fd : Nat) : Int) != 0) = true)) (hfd : fd ≤ 40000) (HW1 : Hid (IntKind.i64.wrap (k 1 - 1) = k 1 - 1))
    (HPW : Hid (∀ w, Calls Tryd.prog 86 #[.int .i64 (k 1 - 1)] w fun e w' => e = .returned (.agg #[.int .u64 (dgl (pw) 0 : Nat), .int .u64 (dgl (pw) 1 : Nat), .int .u64 (dgl (pw) 2 : Nat), .int .u64 (dgl (pw) 3 : Nat), .int .u64 (dgl (pw) 4 : Nat), .int .u64 (dgl (pw) 5 : Nat), .int .u64 (dgl (pw) 6 : Nat), .int .u64 (dgl (pw) 7 : Nat)]) ∧ Below w.heap.size w w'))
    (HAD : Hid (∀ w, Calls Tryd.prog 68 #[.agg #[.int .u64 (dgl (r) 0 : Nat), .int .u64 (dgl (r) 1 : Nat), .int .u64 (dgl (r) 2 : Nat), .int .u64 (dgl (r) 3 : Nat), .int .u64 (dgl (r) 4 : Nat), .int .u64 (dgl (r) 5 : Nat), .int .u64 (dgl (r) 6 : Nat), .int .u64 (dgl (r) 7 : Nat)], .agg #[.int .u64 (dgl (pw) 0 : Nat), .int .u64 (dgl (pw) 1 : Nat), .int .u64 (dgl (pw) 2 : Nat), .int .u64 (dgl (pw) 3 : Nat), .int .u64 (dgl (pw) 4 : Nat), .int .u64 (dgl (pw) 5 : Nat), .int .u64 (dgl (pw) 6 : Nat), .int .u64 (dgl (pw) 7 : Nat)]] w fun e w' => e = .returned (.tuple #[.agg #[.int .u64 (dgl (s) 0 : Nat), .int .u64 (dgl (s) 1 : Nat), .int .u64 (dgl (s) 2 : Nat), .int .u64 (dgl (s) 3 : Nat), .int .u64 (dgl (s) 4 : Nat), .int .u64 (dgl (s) 5 : Nat), .int .u64 (dgl (s) 6 : Nat), .int .u64 (dgl (s) 7 : Nat)], .bool ov]) ∧ Below w.heap.size w w'))
    (hent : ∀ args w, (callFunc fid args).run Tryd.prog w = .ok (.enter fid args) w)
    (HUP : Hid (∀ w, Calls Tryd.prog fid #[.agg #[.int .i64 (k 0), .int .i64 (k 1), .int .i64 (k 2), .int .i64 (k 3), .int .i64 (k 4)], .agg #[.int .u64 (dgl (s) 0 : Nat), .int .u64 (dgl (s) 1 : Nat), .int .u64 (dgl (s) 2 : Nat), .int .u64 (dgl (s) 3 : Nat), .int .u64 (dgl (s) 4 : Nat), .int .u64 (dgl (s) 5 : Nat), .int .u64 (dgl (s) 6 : Nat), .int .u64 (dgl (s) 7 : Nat)]] w fun e w' => e = .returned (.tuple #[.int .i64 by_, .bool true]) ∧ Below w.heap.size w w'))
    (HNG : Hid (∀ w, FmtG w → Calls Tryd.prog 16 #[.int .i64 f, .agg #[.int .u64 (dgl (a) 1 : Nat), .int .u64 (dgl (a) 0 : Nat)]] w fun e w' => e = .returned (.bool ng) ∧ Below w.heap.size w w'))
    (HSH : Hid (∀ w, Calls Tryd.prog 69 #[.agg #[.int .u64 (dgl (s) 0 : Nat), .int .u64 (dgl (s) 1 : Nat), .int .u64 (dgl (s) 2 : Nat), .int .u64 (dgl (s) 3 : Nat), .int .u64 (dgl (s) 4 : Nat), .int .u64 (dgl (s) 5 : Nat), .int .u64 (dgl (s) 6 : Nat), .int .u64 (dgl (s) 7 : Nat)], .int .i64 by_] w fun e w' => e = .returned (.agg #[.int .u64 (dgl (t) 0 : Nat), .int .u64 (dgl (t) 1 : Nat), .int .u64 (dgl (t) 2 : Nat), .int .u64 (dgl (t) 3 : Nat), .int .u64 (dgl (t) 4 : Nat), .int .u64 (dgl (t) 5 : Nat), .int .u64 (dgl (t) 6 : Nat), .int .u64 (dgl (t) 7 : Nat)]) ∧ Below w.heap.size w w'))
    (HW2 : Hid (IntKind.i64.wrap ((lo + ((fd : Int) - 1)) - by_) = (lo + ((fd : Int) - 1)) - by_)) (w : World) (hg : FmtG w) :
    Calls Tryd.prog 79 #[.int .i64 f, .agg #[.int .u64 (dgl (a) 1 : Nat), .int .u64 (dgl (a) 0 : Nat)], .func (.func fid) #[] #[]] w fun e w' => e = .returned (.tuple #[.agg #[.bool (ng), .int .i64 ((lo + ((fd : Int) - 1)) - by_), .int .u64 (dgl (t) 0 : Nat), .int .u64 (dgl (t) 1 : Nat), .int .u64 (dgl (t) 2 : Nat), .int .u64 (dgl (t) 3 : Nat), .int .u64 (dgl (t) 4 : Nat), .int .u64 (dgl (t) 5 : Nat), .int .u64 (dgl (t) 6 : Nat), .int .u64 (dgl (t) 7 : Nat)], .bool true]) ∧ Below w.heap.size w w' := by
  have HS := hide (mv0_start a w hg)
  clear hg
  go_enter Tryd.func79, Tryd.ntmps79
  go_wp2_with fail
  refine (HO.out _ HS.out.g).mono ?_
  rintro e w1 ⟨rfl, hb1⟩
  replace HS := hide (HS.out.below hb1)
  clear hb1
  go_upto_region 2 with fail
  refine wp_gen (fun W => MvSt a w1.heap.size k w false 0 0 W) (by have h := mvSt_start k HS.out; exact h) ?_
  clear HS
  generalize w1.heap.size = p8
  rintro W1 h1
  have HS := hide h1
  clear h1
  have l0 := HS.out.wa.h
  have l1 := HS.out.wa.l
  go_wp2_with fail
  refine (HFI.out _ HS.out.g).mono ?_
  rintro e w2 ⟨rfl, hb2⟩
  replace HS := hide (HS.out.below hb2)
  clear hb2 l0 l1
  go_upto_region 4 with fail
  refine wp_gen (fun W => MvSt a p8 k w false 0 0 W) HS.out ?_
  clear HS
  rintro W3 h3
  refine wp_region_storeK 8 [6] [29, 30, 31, 32, 33, 10, 11] (fun bs => [(29, .val (.int .i64 f)), (30, .val (.agg #[.int .u64 (dgl (a) 1 : Nat), .int .u64 (dgl (a) 0 : Nat)])), (31, .val (.agg #[.int .u64 (dgl (r) 0 : Nat), .int .u64 (dgl (r) 1 : Nat), .int .u64 (dgl (r) 2 : Nat), .int .u64 (dgl (r) 3 : Nat), .int .u64 (dgl (r) 4 : Nat), .int .u64 (dgl (r) 5 : Nat), .int .u64 (dgl (r) 6 : Nat), .int .u64 (dgl (r) 7 : Nat)])), (32, .val (.agg #[.int .i64 (k 0), .int .i64 (k 1), .int .i64 (k 2), .int .i64 (k 3), .int .i64 (k 4)])), (33, .val (.int .i64 lo)), (10, bif bs.headD false then SlotIs.box (p8 + 1) (dgl r) else SlotIs.box (p8 + 1) (fun _ => 0)), (11, .val (.int .i64 lo))])
    (fun _ W => MvSt a p8 k w false 0 0 W) (fun bs => rfl) mixedOk (by kernel_rfl) (by kernel_rfl) (by kernel_rfl) (h3.below (Below.refl _ _).drew) (fun bs W W' h hb => h.below hb) ?_ ?_
  · refine kSt rfl (fun φ hφ => gStep_run rfl (gRun_move 0 29 (.inl rfl) rfl (by decide +kernel) (fun v w h => h))) ?_
    refine kSt rfl (fun φ hφ => gStep_run rfl ?_) ?_
    · intro ρ W hC hc hf hL
      have e4 : ρ (.tmp 4) = .pointer (some ⟨w.heap.size, 0, none⟩) := hL 4 (by decide +kernel)
      have l0 := hC.wa.h
      have l1 := hC.wa.l
      simp [go_sem, hc, hf, e4, l0, l1]
      exact ⟨Below.refl _ _, rfl⟩
    refine kSt rfl (fun φ hφ => gStep_run rfl ?_) ?_
    · intro ρ W hC hc hf hL
      have e29 : ρ (.tmp 29) = .int .i64 f := hL 29 (by decide +kernel)
      have e30 : ρ (.tmp 30) = .agg #[.int .u64 (dgl (a) 1 : Nat), .int .u64 (dgl (a) 0 : Nat)] := hL 30 (by decide +kernel)
      simp [go_sem, hc, hf, e29, e30]
      refine (HFR.out W hC.g).mono ?_
      rintro e w' ⟨rfl, hb⟩
      exact ⟨_, rfl, by first | exact hb | (subst hb; exact Below.refl _ _), rfl⟩
    refine kSt rfl (fun φ hφ => gStep_run rfl ?_) ?_
    · intro ρ W hC hc hf hL
      have e8 : ρ (.tmp 8) = .pointer (some ⟨p8, 0, none⟩) := hL 8 (by decide +kernel)
      have l0 := hC.rk
      simp [go_sem, hc, hf, e8, l0]
      exact ⟨Below.refl _ _, rfl⟩
    refine kSt rfl (fun φ hφ => gStep_run rfl ?_) ?_
    · intro ρ W hC hc hf hL
      have e32 : ρ (.tmp 32) = .agg #[.int .i64 (k 0), .int .i64 (k 1), .int .i64 (k 2), .int .i64 (k 3), .int .i64 (k 4)] := hL 32 (by decide +kernel)
      simp [go_sem, hc, hf, e32]
      refine (HLO.out W).mono ?_
      rintro e w' ⟨rfl, hb⟩
      exact ⟨_, rfl, by first | exact hb | (subst hb; exact Below.refl _ _), rfl⟩
    refine kSt rfl (fun φ hφ => gStep_run rfl ?_) ?_
    · intro ρ W hC hc hf hL
      have hφ0 : φ 6 = false := hφ 6 (by simp) (by kernel_rfl)
      simp [go_sem, hc, hf]
      refine ⟨below_allocs _ _, ?_⟩
      show (bif φ 6 then SlotIs.box (p8 + 1) (dgl r) else SlotIs.box (p8 + 1) (fun _ => 0)).R _ _
      rw [hφ0]
      exact ⟨_, rfl, hC.lk, liesF_new _ (fun _ => 0) _, fun i => by simp [go_sem]⟩
    refine kStS rfl ⟨rfl, rfl, ?_⟩ ?_
    · intro φ ρ W hφ hC hc hL
      have b10 := hL 10 (by decide +kernel)
      have e31 : ρ (.tmp 31) = .agg #[.int .u64 (dgl (r) 0 : Nat), .int .u64 (dgl (r) 1 : Nat), .int .u64 (dgl (r) 2 : Nat), .int .u64 (dgl (r) 3 : Nat), .int .u64 (dgl (r) 4 : Nat), .int .u64 (dgl (r) 5 : Nat), .int .u64 (dgl (r) 6 : Nat), .int .u64 (dgl (r) 7 : Nat)] := hL 31 (by decide +kernel)
      have b10 : (bif φ 6 then SlotIs.box (p8 + 1) (dgl r) else SlotIs.box (p8 + 1) (fun _ => 0)).R (ρ (.tmp 10)) W := hL 10 (by decide +kernel)
      rw [hφ] at b10
      obtain ⟨p10, e10, q10, l10, z10⟩ := b10
      have hz := l10.1
      have hzl := l10.2
      refine gUpon_of ((((((((W.setCell ⟨p10, 0, none⟩ (.int .u64 (dgl r 0 : Nat))).setCell ⟨p10, 1, none⟩ (.int .u64 (dgl r 1 : Nat))).setCell ⟨p10, 2, none⟩ (.int .u64 (dgl r 2 : Nat))).setCell ⟨p10, 3, none⟩ (.int .u64 (dgl r 3 : Nat))).setCell ⟨p10, 4, none⟩ (.int .u64 (dgl r 4 : Nat))).setCell ⟨p10, 5, none⟩ (.int .u64 (dgl r 5 : Nat))).setCell ⟨p10, 6, none⟩ (.int .u64 (dgl r 6 : Nat))).setCell ⟨p10, 7, none⟩ (.int .u64 (dgl r 7 : Nat))) ?_ (fun _ => ?_)
      · simp [go_sem, hc, e31, e10, hz, hzl, z10, gUpon]
      have hs8 := below_set8 (Below.refl (p8 + 1) W) p10 q10 (.int .u64 (dgl r 0 : Nat)) (.int .u64 (dgl r 1 : Nat)) (.int .u64 (dgl r 2 : Nat)) (.int .u64 (dgl r 3 : Nat)) (.int .u64 (dgl r 4 : Nat)) (.int .u64 (dgl r 5 : Nat)) (.int .u64 (dgl r 6 : Nat)) (.int .u64 (dgl r 7 : Nat))
      refine ⟨hC.under hs8 (by omega), fun t => ?_⟩
      refine (tbl_imp rfl (fun _ => val_imp) (tbl_imp rfl (fun _ => val_imp) (tbl_imp rfl (fun _ => val_imp) (tbl_imp rfl (fun _ => val_imp) (tbl_imp rfl (fun _ => val_imp) (tbl_imp rfl (fun ht h => ?_) (tbl_imp rfl (fun _ => val_imp) tbl_nil_imp)))))))
      subst ht
      show (bif (φ 6 || true) then SlotIs.box (p8 + 1) (dgl r) else SlotIs.box (p8 + 1) (fun _ => 0)).R _ _
      rw [Bool.or_true]
      exact ⟨p10, e10, q10, set8_same W p10 (dgl r) (fun _ => 0) l10, fun i => by simpa [go_sem] using z10 i⟩
    refine kSt rfl (fun φ hφ => gStep_run rfl (gRun_move 33 11 (.inr rfl) rfl (by decide +kernel) (fun v w h => h))) ?_
    exact kSt0
  · intro W hC
    refine gFi 29 rfl ?_
    rintro _ rfl
    refine gFi 30 rfl ?_
    rintro _ rfl
    refine gFi 31 rfl ?_
    rintro _ rfl
    refine gFi 32 rfl ?_
    rintro _ rfl
    refine gFi 33 rfl ?_
    rintro _ rfl
    refine gFi 10 rfl ?_
    rintro _ ⟨p10, rfl, q10, l10, z10⟩
    refine gFiN rfl ?_
    refine gFi 11 rfl ?_
    rintro _ rfl
    refine gFi0 ?_
    simp only [List.drop_succ_cons, List.drop_zero, Act.put, List.setIfInBounds_toArray, List.set_cons_succ, List.set_cons_zero]
    have HS := hide hC
    have HL := hide l10
    have HN2 := hide q10
    have HZ := hide z10
    clear hC l10 q10 z10 h3
    have l0 := HS.out.wa.h
    have l1 := HS.out.wa.l
    go_wp2_with fail
    refine (HFD.out _ HS.out.g).mono ?_
    rintro e w4 ⟨rfl, hb4⟩
    replace HS := hide (HS.out.below hb4)
    replace HZ := hide (show ∀ i, w4.frozen? ⟨p10, i, none⟩ = false from fun i => (hb4.frozen (p := ⟨p10, i, none⟩) HL.out.2).trans (HZ.out i))
    replace HL := hide (HL.out.below hb4)
    clear hb4 l0 l1
    have hne := HNE.out
    go_upto_region 7 with fail
    refine wp_gen (fun W => MvSt a p8 k w false 0 0 W ∧ LiesF W p10 (dgl r) ∧ ∀ i, W.frozen? ⟨p10, i, none⟩ = false) ⟨HS.out, HL.out, HZ.out⟩ ?_
    clear HS HL HZ hne
    rintro W5 ⟨h5, h6, h7⟩
    refine wp_region_storeK 10 [9] [40, 41, 42, 43, 44, 45, 39, 46, 47] (fun bs => [(40, .val (.agg #[.int .u64 (dgl (r) 0 : Nat), .int .u64 (dgl (r) 1 : Nat), .int .u64 (dgl (r) 2 : Nat), .int .u64 (dgl (r) 3 : Nat), .int .u64 (dgl (r) 4 : Nat), .int .u64 (dgl (r) 5 : Nat), .int .u64 (dgl (r) 6 : Nat), .int .u64 (dgl (r) 7 : Nat)])), (41, .val (.pointer (some ⟨p8, 1, none⟩))), (42, .val (.int .i64 (k 1))), (43, .val (.int .i64 (k 1 - 1))), (44, .val (.agg #[.int .u64 (dgl (pw) 0 : Nat), .int .u64 (dgl (pw) 1 : Nat), .int .u64 (dgl (pw) 2 : Nat), .int .u64 (dgl (pw) 3 : Nat), .int .u64 (dgl (pw) 4 : Nat), .int .u64 (dgl (pw) 5 : Nat), .int .u64 (dgl (pw) 6 : Nat), .int .u64 (dgl (pw) 7 : Nat)])), (45, .val (.tuple #[.agg #[.int .u64 (dgl (s) 0 : Nat), .int .u64 (dgl (s) 1 : Nat), .int .u64 (dgl (s) 2 : Nat), .int .u64 (dgl (s) 3 : Nat), .int .u64 (dgl (s) 4 : Nat), .int .u64 (dgl (s) 5 : Nat), .int .u64 (dgl (s) 6 : Nat), .int .u64 (dgl (s) 7 : Nat)], .bool ov])), (39, .val (.tuple #[.agg #[.int .u64 (dgl (s) 0 : Nat), .int .u64 (dgl (s) 1 : Nat), .int .u64 (dgl (s) 2 : Nat), .int .u64 (dgl (s) 3 : Nat), .int .u64 (dgl (s) 4 : Nat), .int .u64 (dgl (s) 5 : Nat), .int .u64 (dgl (s) 6 : Nat), .int .u64 (dgl (s) 7 : Nat)], .bool ov])), (46, .val (.agg #[.int .u64 (dgl (s) 0 : Nat), .int .u64 (dgl (s) 1 : Nat), .int .u64 (dgl (s) 2 : Nat), .int .u64 (dgl (s) 3 : Nat), .int .u64 (dgl (s) 4 : Nat), .int .u64 (dgl (s) 5 : Nat), .int .u64 (dgl (s) 6 : Nat), .int .u64 (dgl (s) 7 : Nat)])), (47, .val (.bool ov))])
      (fun bs W => MvSt a p8 k w false 0 0 W ∧ (∀ c, bs.headD false = c → LiesF W p10 (dgl (bif c then s else r))) ∧ ∀ i, W.frozen? ⟨p10, i, none⟩ = false) (fun bs => rfl) mixedOk (by kernel_rfl) (by kernel_rfl) (by kernel_rfl) (⟨h5.below (Below.refl _ _).drew, fun c hc => by subst hc; exact h6.below (Below.refl _ _).drew, fun i => (Below.refl _ _).drew.frozen (p := ⟨p10, i, none⟩) h6.2 |>.trans (h7 i)⟩) (fun bs W W' h hb => ⟨h.1.below hb, fun c hq => (h.2.1 c hq).below hb, fun i => (hb.frozen (p := ⟨p10, i, none⟩) (h.2.1 _ rfl).2).trans (h.2.2 i)⟩) ?_ ?_
    · refine kSt rfl (fun φ hφ => gStep_run rfl ?_) ?_
      · intro ρ W hC hc hf hL
        have e10 : ρ (.tmp 10) = .pointer (some ⟨p10, 0, none⟩) := hL 10 (by decide +kernel)
        have hφ0 : φ 9 = false := hφ 9 (by simp) (by kernel_rfl)
        have hD : LiesF W p10 (dgl r) := hC.2.1 false hφ0
        have hl := hD.1
        simp [go_sem, hc, hf, e10, hl]
        exact ⟨Below.refl _ _, rfl⟩
      refine kSt rfl (fun φ hφ => gStep_run rfl ?_) ?_
      · intro ρ W hC hc hf hL
        have e8 : ρ (.tmp 8) = .pointer (some ⟨p8, 0, none⟩) := hL 8 (by decide +kernel)
        simp [go_sem, hc, hf, e8]
        exact ⟨Below.refl _ _, rfl⟩
      refine kSt rfl (fun φ hφ => gStep_run rfl ?_) ?_
      · intro ρ W hC hc hf hL
        have e41 : ρ (.tmp 41) = .pointer (some ⟨p8, 1, none⟩) := hL 41 (by decide +kernel)
        have hl := hC.1.rk 1 (by decide)
        simp [go_sem, hc, hf, e41, hl]
        exact ⟨Below.refl _ _, rfl⟩
      refine kSt rfl (fun φ hφ => gStep_run rfl ?_) ?_
      · intro ρ W hC hc hf hL
        have e42 : ρ (.tmp 42) = .int .i64 (k 1) := hL 42 (by decide +kernel)
        have hl := HW1.out
        simp [go_sem, hc, hf, e42, hl]
        exact ⟨Below.refl _ _, rfl⟩
      refine kSt rfl (fun φ hφ => gStep_run rfl ?_) ?_
      · intro ρ W hC hc hf hL
        have e43 : ρ (.tmp 43) = .int .i64 (k 1 - 1) := hL 43 (by decide +kernel)
        simp [go_sem, hc, hf, e43]
        refine (HPW.out W).mono ?_
        rintro e w' ⟨rfl, hb⟩
        exact ⟨_, rfl, by first | exact hb | (subst hb; exact Below.refl _ _), rfl⟩
      refine kSt rfl (fun φ hφ => gStep_run rfl ?_) ?_
      · intro ρ W hC hc hf hL
        have e40 : ρ (.tmp 40) = .agg #[.int .u64 (dgl (r) 0 : Nat), .int .u64 (dgl (r) 1 : Nat), .int .u64 (dgl (r) 2 : Nat), .int .u64 (dgl (r) 3 : Nat), .int .u64 (dgl (r) 4 : Nat), .int .u64 (dgl (r) 5 : Nat), .int .u64 (dgl (r) 6 : Nat), .int .u64 (dgl (r) 7 : Nat)] := hL 40 (by decide +kernel)
        have e44 : ρ (.tmp 44) = .agg #[.int .u64 (dgl (pw) 0 : Nat), .int .u64 (dgl (pw) 1 : Nat), .int .u64 (dgl (pw) 2 : Nat), .int .u64 (dgl (pw) 3 : Nat), .int .u64 (dgl (pw) 4 : Nat), .int .u64 (dgl (pw) 5 : Nat), .int .u64 (dgl (pw) 6 : Nat), .int .u64 (dgl (pw) 7 : Nat)] := hL 44 (by decide +kernel)
        simp [go_sem, hc, hf, e40, e44]
        refine (HAD.out W).mono ?_
        rintro e w' ⟨rfl, hb⟩
        exact ⟨_, rfl, by first | exact hb | (subst hb; exact Below.refl _ _), rfl⟩
      refine kSt rfl (fun φ hφ => gStep_run rfl (gRun_move 45 39 (.inl rfl) rfl (by decide +kernel) (fun v w h => h))) ?_
      refine kSt rfl (fun φ hφ => gStep_run rfl ?_) ?_
      · intro ρ W hC hc hf hL
        have e39 : ρ (.tmp 39) = .tuple #[.agg #[.int .u64 (dgl (s) 0 : Nat), .int .u64 (dgl (s) 1 : Nat), .int .u64 (dgl (s) 2 : Nat), .int .u64 (dgl (s) 3 : Nat), .int .u64 (dgl (s) 4 : Nat), .int .u64 (dgl (s) 5 : Nat), .int .u64 (dgl (s) 6 : Nat), .int .u64 (dgl (s) 7 : Nat)], .bool ov] := hL 39 (by decide +kernel)
        simp [go_sem, hc, hf, e39]
        exact ⟨Below.refl _ _, rfl⟩
      refine kSt rfl (fun φ hφ => gStep_run rfl ?_) ?_
      · intro ρ W hC hc hf hL
        have e39 : ρ (.tmp 39) = .tuple #[.agg #[.int .u64 (dgl (s) 0 : Nat), .int .u64 (dgl (s) 1 : Nat), .int .u64 (dgl (s) 2 : Nat), .int .u64 (dgl (s) 3 : Nat), .int .u64 (dgl (s) 4 : Nat), .int .u64 (dgl (s) 5 : Nat), .int .u64 (dgl (s) 6 : Nat), .int .u64 (dgl (s) 7 : Nat)], .bool ov] := hL 39 (by decide +kernel)
        simp [go_sem, hc, hf, e39]
        exact ⟨Below.refl _ _, rfl⟩
      refine kStS rfl ⟨rfl, rfl, ?_⟩ ?_
      · intro φ ρ W hφ hC hc hL
        have e10 : ρ (.tmp 10) = .pointer (some ⟨p10, 0, none⟩) := hL 10 (by decide +kernel)
        have e46 : ρ (.tmp 46) = .agg #[.int .u64 (dgl (s) 0 : Nat), .int .u64 (dgl (s) 1 : Nat), .int .u64 (dgl (s) 2 : Nat), .int .u64 (dgl (s) 3 : Nat), .int .u64 (dgl (s) 4 : Nat), .int .u64 (dgl (s) 5 : Nat), .int .u64 (dgl (s) 6 : Nat), .int .u64 (dgl (s) 7 : Nat)] := hL 46 (by decide +kernel)
        have hD : LiesF W p10 (dgl r) := hC.2.1 false hφ
        have hr := hD.1
        have hrl := hD.2
        have hrf := hC.2.2
        refine gUpon_of ((((((((W.setCell ⟨p10, 0, none⟩ (.int .u64 (dgl s 0 : Nat))).setCell ⟨p10, 1, none⟩ (.int .u64 (dgl s 1 : Nat))).setCell ⟨p10, 2, none⟩ (.int .u64 (dgl s 2 : Nat))).setCell ⟨p10, 3, none⟩ (.int .u64 (dgl s 3 : Nat))).setCell ⟨p10, 4, none⟩ (.int .u64 (dgl s 4 : Nat))).setCell ⟨p10, 5, none⟩ (.int .u64 (dgl s 5 : Nat))).setCell ⟨p10, 6, none⟩ (.int .u64 (dgl s 6 : Nat))).setCell ⟨p10, 7, none⟩ (.int .u64 (dgl s 7 : Nat))) ?_ (fun _ => ?_)
        · simp [go_sem, hc, e10, e46, hr, hrl, hrf, gUpon]
        have hs8 := below_set8 (Below.refl (p8 + 1) W) p10 HN2.out (.int .u64 (dgl s 0 : Nat)) (.int .u64 (dgl s 1 : Nat)) (.int .u64 (dgl s 2 : Nat)) (.int .u64 (dgl s 3 : Nat)) (.int .u64 (dgl s 4 : Nat)) (.int .u64 (dgl s 5 : Nat)) (.int .u64 (dgl s 6 : Nat)) (.int .u64 (dgl s 7 : Nat))
        refine ⟨⟨hC.1.under hs8 (by omega), fun b hb => ?_, fun i => by simpa [go_sem] using hrf i⟩, fun t => (tbl_imp rfl (fun _ => val_imp) (tbl_imp rfl (fun _ => val_imp) (tbl_imp rfl (fun _ => val_imp) (tbl_imp rfl (fun _ => val_imp) (tbl_imp rfl (fun _ => val_imp) (tbl_imp rfl (fun _ => val_imp) (tbl_imp rfl (fun _ => val_imp) (tbl_imp rfl (fun _ => val_imp) (tbl_imp rfl (fun _ => val_imp) tbl_nil_imp)))))))))⟩
        have hb2 : (φ 9 || true) = b := hb
        rw [Bool.or_true] at hb2
        subst hb2
        exact set8_same W p10 (dgl s) (dgl r) hD
      exact kSt0
    · intro W hC
      refine gFi 40 rfl ?_
      rintro _ rfl
      refine gFi 41 rfl ?_
      rintro _ rfl
      refine gFi 42 rfl ?_
      rintro _ rfl
      refine gFi 43 rfl ?_
      rintro _ rfl
      refine gFi 44 rfl ?_
      rintro _ rfl
      refine gFi 45 rfl ?_
      rintro _ rfl
      refine gFi 39 rfl ?_
      rintro _ rfl
      refine gFi 46 rfl ?_
      rintro _ rfl
      refine gFi 47 rfl ?_
      rintro _ rfl
      refine gFiN rfl ?_
      refine gFi0 ?_
      simp only [List.drop_succ_cons, List.drop_zero, Act.put, List.setIfInBounds_toArray, List.set_cons_succ, List.set_cons_zero]
      have HL : Hid (LiesF W p10 (dgl s)) := hC.2.1 true rfl
      have HS := hide hC.1
      clear hC h5 h6 h7
      have hk := HS.out.rk
      have hs := HL.out.1
      go_wp2_with fail
      refine (HUP.out _).mono ?_
      rintro e w5 ⟨rfl, hb5⟩
      replace HS := hide (HS.out.below hb5)
      replace HL := hide (HL.out.below hb5)
      clear hb5 hk hs
      go_upto_region 12 with fail
      refine wp_gen (fun W => MvSt a p8 k w false 0 0 W ∧ LiesF W p10 (dgl s)) ⟨HS.out, HL.out⟩ ?_
      clear HS HL
      rintro W5 ⟨h5, h6⟩
      refine wp_region_storeK 12 [10] [62, 63, 64, 65, 66, 67, 68, 69, 70, 71, 7] (fun bs => [(62, .val (.int .i64 f)), (63, .val (.agg #[.int .u64 (dgl (a) 1 : Nat), .int .u64 (dgl (a) 0 : Nat)])), (64, .val (.bool ng)), (65, .val (.int .i64 (lo + ((fd : Int) - 1)))), (66, .val (.int .i64 by_)), (67, .val (.int .i64 ((lo + ((fd : Int) - 1)) - by_))), (68, .val (.agg #[.int .u64 (dgl (s) 0 : Nat), .int .u64 (dgl (s) 1 : Nat), .int .u64 (dgl (s) 2 : Nat), .int .u64 (dgl (s) 3 : Nat), .int .u64 (dgl (s) 4 : Nat), .int .u64 (dgl (s) 5 : Nat), .int .u64 (dgl (s) 6 : Nat), .int .u64 (dgl (s) 7 : Nat)])), (69, .val (.int .i64 by_)), (70, .val (.agg #[.int .u64 (dgl (t) 0 : Nat), .int .u64 (dgl (t) 1 : Nat), .int .u64 (dgl (t) 2 : Nat), .int .u64 (dgl (t) 3 : Nat), .int .u64 (dgl (t) 4 : Nat), .int .u64 (dgl (t) 5 : Nat), .int .u64 (dgl (t) 6 : Nat), .int .u64 (dgl (t) 7 : Nat)])), (71, .val (.agg #[.bool (ng), .int .i64 ((lo + ((fd : Int) - 1)) - by_), .int .u64 (dgl (t) 0 : Nat), .int .u64 (dgl (t) 1 : Nat), .int .u64 (dgl (t) 2 : Nat), .int .u64 (dgl (t) 3 : Nat), .int .u64 (dgl (t) 4 : Nat), .int .u64 (dgl (t) 5 : Nat), .int .u64 (dgl (t) 6 : Nat), .int .u64 (dgl (t) 7 : Nat)])), (7, .val (.bool true))])
        (fun bs W => ∀ c, bs.headD false = c → MvSt a p8 k w (bif c then ng else false) (bif c then (lo + ((fd : Int) - 1)) - by_ else 0) (bif c then t else 0) W ∧ LiesF W p10 (dgl s)) (fun bs => rfl) mixedOk (by kernel_rfl) (by kernel_rfl) (by kernel_rfl) (fun c hc => by subst hc; exact ⟨h5.below (Below.refl _ _).drew, h6.below (Below.refl _ _).drew⟩) (fun bs W W' h hb c hc => ⟨(h c hc).1.below hb, (h c hc).2.below hb⟩) ?_ ?_
      · refine kSt rfl (fun φ hφ => gStep_run rfl (gRun_move 0 62 (.inl rfl) rfl (by decide +kernel) (fun v w h => h))) ?_
        refine kSt rfl (fun φ hφ => gStep_run rfl ?_) ?_
        · intro ρ W hC hc hf hL
          have e4 : ρ (.tmp 4) = .pointer (some ⟨w.heap.size, 0, none⟩) := hL 4 (by decide +kernel)
          have hφ0 : φ 10 = false := hφ 10 (by simp) (by kernel_rfl)
          have hD : MvSt a p8 k w false 0 0 W ∧ LiesF W p10 (dgl s) := hC false hφ0
          have l0 := hD.1.wa.h
          have l1 := hD.1.wa.l
          simp [go_sem, hc, hf, e4, l0, l1]
          exact ⟨Below.refl _ _, rfl⟩
        refine kSt rfl (fun φ hφ => gStep_run rfl ?_) ?_
        · intro ρ W hC hc hf hL
          have e62 : ρ (.tmp 62) = .int .i64 f := hL 62 (by decide +kernel)
          have e63 : ρ (.tmp 63) = .agg #[.int .u64 (dgl (a) 1 : Nat), .int .u64 (dgl (a) 0 : Nat)] := hL 63 (by decide +kernel)
          have hφ0 : φ 10 = false := hφ 10 (by simp) (by kernel_rfl)
          have hD : MvSt a p8 k w false 0 0 W ∧ LiesF W p10 (dgl s) := hC false hφ0
          simp [go_sem, hc, hf, e62, e63]
          refine (HNG.out W hD.1.g).mono ?_
          rintro e w' ⟨rfl, hb⟩
          exact ⟨_, rfl, by first | exact hb | (subst hb; exact Below.refl _ _), rfl⟩
        refine kSt rfl (fun φ hφ => gStep_run rfl (gRun_move 11 65 (.inl rfl) rfl (by decide +kernel) (fun v w h => h))) ?_
        refine kSt rfl (fun φ hφ => gStep_run rfl (gRun_move 13 66 (.inl rfl) rfl (by decide +kernel) (fun v w h => h))) ?_
        refine kSt rfl (fun φ hφ => gStep_run rfl ?_) ?_
        · intro ρ W hC hc hf hL
          have e65 : ρ (.tmp 65) = .int .i64 (lo + ((fd : Int) - 1)) := hL 65 (by decide +kernel)
          have e66 : ρ (.tmp 66) = .int .i64 by_ := hL 66 (by decide +kernel)
          have l0 := HW2.out
          simp [go_sem, hc, hf, e65, e66, l0]
          exact ⟨Below.refl _ _, rfl⟩
        refine kSt rfl (fun φ hφ => gStep_run rfl ?_) ?_
        · intro ρ W hC hc hf hL
          have e10 : ρ (.tmp 10) = .pointer (some ⟨p10, 0, none⟩) := hL 10 (by decide +kernel)
          have hφ0 : φ 10 = false := hφ 10 (by simp) (by kernel_rfl)
          have hD : MvSt a p8 k w false 0 0 W ∧ LiesF W p10 (dgl s) := hC false hφ0
          have l0 := hD.2.1
          simp [go_sem, hc, hf, e10, l0]
          exact ⟨Below.refl _ _, rfl⟩
        refine kSt rfl (fun φ hφ => gStep_run rfl (gRun_move 13 69 (.inl rfl) rfl (by decide +kernel) (fun v w h => h))) ?_
        refine kSt rfl (fun φ hφ => gStep_run rfl ?_) ?_
        · intro ρ W hC hc hf hL
          have e68 : ρ (.tmp 68) = .agg #[.int .u64 (dgl (s) 0 : Nat), .int .u64 (dgl (s) 1 : Nat), .int .u64 (dgl (s) 2 : Nat), .int .u64 (dgl (s) 3 : Nat), .int .u64 (dgl (s) 4 : Nat), .int .u64 (dgl (s) 5 : Nat), .int .u64 (dgl (s) 6 : Nat), .int .u64 (dgl (s) 7 : Nat)] := hL 68 (by decide +kernel)
          have e69 : ρ (.tmp 69) = .int .i64 by_ := hL 69 (by decide +kernel)
          simp [go_sem, hc, hf, e68, e69]
          refine (HSH.out W).mono ?_
          rintro e w' ⟨rfl, hb⟩
          exact ⟨_, rfl, by first | exact hb | (subst hb; exact Below.refl _ _), rfl⟩
        refine kSt rfl (fun φ hφ => gStep_run rfl ?_) ?_
        · intro ρ W hC hc hf hL
          have e64 : ρ (.tmp 64) = .bool ng := hL 64 (by decide +kernel)
          have e67 : ρ (.tmp 67) = .int .i64 ((lo + ((fd : Int) - 1)) - by_) := hL 67 (by decide +kernel)
          have e70 : ρ (.tmp 70) = .agg #[.int .u64 (dgl (t) 0 : Nat), .int .u64 (dgl (t) 1 : Nat), .int .u64 (dgl (t) 2 : Nat), .int .u64 (dgl (t) 3 : Nat), .int .u64 (dgl (t) 4 : Nat), .int .u64 (dgl (t) 5 : Nat), .int .u64 (dgl (t) 6 : Nat), .int .u64 (dgl (t) 7 : Nat)] := hL 70 (by decide +kernel)
          simp [go_sem, hc, hf, e64, e67, e70]
          exact ⟨Below.refl _ _, rfl⟩
        refine kStS rfl ⟨rfl, rfl, ?_⟩ ?_
        · intro φ ρ W hφ hC hc hL
          have e6 : ρ (.tmp 6) = .pointer (some ⟨w.heap.size + 1, 0, none⟩) := hL 6 (by decide +kernel)
          have e71 : ρ (.tmp 71) = .agg #[.bool (ng), .int .i64 ((lo + ((fd : Int) - 1)) - by_), .int .u64 (dgl (t) 0 : Nat), .int .u64 (dgl (t) 1 : Nat), .int .u64 (dgl (t) 2 : Nat), .int .u64 (dgl (t) 3 : Nat), .int .u64 (dgl (t) 4 : Nat), .int .u64 (dgl (t) 5 : Nat), .int .u64 (dgl (t) 6 : Nat), .int .u64 (dgl (t) 7 : Nat)] := hL 71 (by decide +kernel)
          have hD : MvSt a p8 k w false 0 0 W ∧ LiesF W p10 (dgl s) := hC false hφ
          have rn := hD.1.r.n
          have re := hD.1.r.e
          have r0 := hD.1.r.x0
          have r1 := hD.1.r.x1
          have r2 := hD.1.r.x2
          have r3 := hD.1.r.x3
          have r4 := hD.1.r.x4
          have r5 := hD.1.r.x5
          have r6 := hD.1.r.x6
          have r7 := hD.1.r.x7
          have hrf := hD.1.fr
          have hrl := hD.1.r.lt
          refine gUpon_of ((((((((((W.setCell ⟨w.heap.size + 1, 0, none⟩ (.bool (ng))).setCell ⟨w.heap.size + 1, 1, none⟩ (.int .i64 ((lo + ((fd : Int) - 1)) - by_))).setCell ⟨w.heap.size + 1, 2, none⟩ (.int .u64 (dgl (t) 0 : Nat))).setCell ⟨w.heap.size + 1, 3, none⟩ (.int .u64 (dgl (t) 1 : Nat))).setCell ⟨w.heap.size + 1, 4, none⟩ (.int .u64 (dgl (t) 2 : Nat))).setCell ⟨w.heap.size + 1, 5, none⟩ (.int .u64 (dgl (t) 3 : Nat))).setCell ⟨w.heap.size + 1, 6, none⟩ (.int .u64 (dgl (t) 4 : Nat))).setCell ⟨w.heap.size + 1, 7, none⟩ (.int .u64 (dgl (t) 5 : Nat))).setCell ⟨w.heap.size + 1, 8, none⟩ (.int .u64 (dgl (t) 6 : Nat))).setCell ⟨w.heap.size + 1, 9, none⟩ (.int .u64 (dgl (t) 7 : Nat))) ?_ (fun _ => ?_)
          · simp [go_sem, hc, e6, e71, hrf, hrl, rn, re, r0, r1, r2, r3, r4, r5, r6, r7, gUpon]
          have hs10 := below_set10 (Below.refl (w.heap.size + 1) W) (w.heap.size + 1) (Nat.le_refl _) ng ((lo + ((fd : Int) - 1)) - by_) t
          refine ⟨fun c hc => ?_, fun t => (tbl_imp rfl (fun _ => val_imp) (tbl_imp rfl (fun _ => val_imp) (tbl_imp rfl (fun _ => val_imp) (tbl_imp rfl (fun _ => val_imp) (tbl_imp rfl (fun _ => val_imp) (tbl_imp rfl (fun _ => val_imp) (tbl_imp rfl (fun _ => val_imp) (tbl_imp rfl (fun _ => val_imp) (tbl_imp rfl (fun _ => val_imp) (tbl_imp rfl (fun _ => val_imp) (tbl_imp rfl (fun _ => val_imp) tbl_nil_imp)))))))))))⟩
          have hc2 : (φ 10 || true) = c := hc
          rw [Bool.or_true] at hc2
          subst hc2
          exact ⟨hD.1.setR ng ((lo + ((fd : Int) - 1)) - by_) t, lies_set10 hD.2 (by have h1 := hD.1.lo; have h2 := HN2.out; omega)⟩
        refine kSt rfl (fun φ hφ => gStep_run rfl (gRun_const _ 7 (.inr rfl) rfl (fun w => rfl))) ?_
        exact kSt0
      · intro W hC
        refine gFi 62 rfl ?_
        rintro _ rfl
        refine gFi 63 rfl ?_
        rintro _ rfl
        refine gFi 64 rfl ?_
        rintro _ rfl
        refine gFi 65 rfl ?_
        rintro _ rfl
        refine gFi 66 rfl ?_
        rintro _ rfl
        refine gFi 67 rfl ?_
        rintro _ rfl
        refine gFi 68 rfl ?_
        rintro _ rfl
        refine gFi 69 rfl ?_
        rintro _ rfl
        refine gFi 70 rfl ?_
        rintro _ rfl
        refine gFi 71 rfl ?_
        rintro _ rfl
        refine gFiN rfl ?_
        refine gFi 7 rfl ?_
        rintro _ rfl
        refine gFi0 ?_
        simp only [List.drop_succ_cons, List.drop_zero, Act.put, List.setIfInBounds_toArray, List.set_cons_succ, List.set_cons_zero]
        have HC := hide (hC true rfl).1
        clear hC h5 h6
        have rn := HC.out.r.n
        have re := HC.out.r.e
        have r0 := HC.out.r.x0
        have r1 := HC.out.r.x1
        have r2 := HC.out.r.x2
        have r3 := HC.out.r.x3
        have r4 := HC.out.r.x4
        have r5 := HC.out.r.x5
        have r6 := HC.out.r.x6
        have r7 := HC.out.r.x7
        simp only [cond_true] at rn re r0 r1 r2 r3 r4 r5 r6 r7
        have hrl := HC.out.r.lt
        have HB := hide HC.out.bel
        clear HC
        go_wp2
        exact bodyPost_ret (v := .tuple #[.agg #[.bool (ng), .int .i64 ((lo + ((fd : Int) - 1)) - by_), .int .u64 (dgl (t) 0 : Nat), .int .u64 (dgl (t) 1 : Nat), .int .u64 (dgl (t) 2 : Nat), .int .u64 (dgl (t) 3 : Nat), .int .u64 (dgl (t) 4 : Nat), .int .u64 (dgl (t) 5 : Nat), .int .u64 (dgl (t) 6 : Nat), .int .u64 (dgl (t) 7 : Nat)], .bool true]) (by simp [results, Tryd.results79, go_sem, hrl, rn, re, r0, r1, r2, r3, r4, r5, r6, r7]) rfl ⟨rfl, HB.out⟩

end Go.Proofs.YtidfegilddlglaaDoor

