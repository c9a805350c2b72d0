/- Contracts and laws: UnpL, UnpK, UnpM, UnpN. -/
import Derived.Test.YtpcjdllijkjdkaaDoorPartAW
/- Contracts: unpack.at, Exact, over what their parts tell. -/
set_option linter.unusedVariables false
set_option linter.unusedSimpArgs false
set_option maxRecDepth 8000
namespace Go.Proofs.YtpcjdllijkjdkaaDoor
open Go.RowKit Plain

structure AtSt (neg : Bool) (z : Int) (s : Nat) (w W : World) : Prop where
  n : NB W w.heap.size neg z s
  r : LiesF W (w.heap.size + 1) (fun _ => 0)
  fr : ∀ i, W.frozen? ⟨w.heap.size + 1, i, none⟩ = false
  bel : Below w.heap.size w W
theorem AtSt.below {neg : Bool} {z : Int} {s : Nat} {w W W' : World} (h : AtSt neg z s w W) (hb : Below W.heap.size W W') : AtSt neg z s w W' :=
  ⟨h.n.below hb, h.r.below hb, fun i => (hb.frozen (p := ⟨w.heap.size + 1, i, none⟩) h.r.2).trans (h.fr i), below_trans h.bel hb⟩
theorem atSt_start (neg : Bool) (z : Int) (s : Nat) (w : World) : AtSt neg z s w ((w.alloc (.cells #[.bool (neg), .int .i64 (z), .int .u64 (dgl (s) 0 : Nat), .int .u64 (dgl (s) 1 : Nat), .int .u64 (dgl (s) 2 : Nat), .int .u64 (dgl (s) 3 : Nat), .int .u64 (dgl (s) 4 : Nat), .int .u64 (dgl (s) 5 : Nat), .int .u64 (dgl (s) 6 : Nat), .int .u64 (dgl (s) 7 : Nat)] 26)).alloc (.cells #[.int .u64 0, .int .u64 0, .int .u64 0, .int .u64 0, .int .u64 0, .int .u64 0, .int .u64 0, .int .u64 0] 24)) := by
  have h1 := liesF_new (w.alloc (.cells #[.bool (neg), .int .i64 (z), .int .u64 (dgl (s) 0 : Nat), .int .u64 (dgl (s) 1 : Nat), .int .u64 (dgl (s) 2 : Nat), .int .u64 (dgl (s) 3 : Nat), .int .u64 (dgl (s) 4 : Nat), .int .u64 (dgl (s) 5 : Nat), .int .u64 (dgl (s) 6 : Nat), .int .u64 (dgl (s) 7 : Nat)] 26)) (fun _ => 0) 24
  rw [World.size_alloc] at h1
  exact ⟨(nb_new w neg z s 26).below (below_allocs _ _), h1, fun i => by simp [go_sem], below_trans (below_allocs _ _) (below_allocs _ _)⟩

set_option maxHeartbeats 2000000 in
theorem at_U (neg lost : Bool) (z x : Int) (s u : Nat)
    (hz : -1048576 ≤ z ∧ z ≤ 1048576) (hx : -3000000 ≤ x ∧ x ≤ 3000000)
    (h : x ≤ z)
    (HSH : Hid (∀ w, Calls Tryd.prog 107 #[.agg #[.int .u64 (dgl (s) 0 : Nat), .int .u64 (dgl (s) 1 : Nat), .int .u64 (dgl (s) 2 : Nat), .int .u64 (dgl (s) 3 : Nat), .int .u64 (dgl (s) 4 : Nat), .int .u64 (dgl (s) 5 : Nat), .int .u64 (dgl (s) 6 : Nat), .int .u64 (dgl (s) 7 : Nat)], .int .i64 (z - x)] w fun e w' => e = .returned (.agg #[.int .u64 (dgl (u) 0 : Nat), .int .u64 (dgl (u) 1 : Nat), .int .u64 (dgl (u) 2 : Nat), .int .u64 (dgl (u) 3 : Nat), .int .u64 (dgl (u) 4 : Nat), .int .u64 (dgl (u) 5 : Nat), .int .u64 (dgl (u) 6 : Nat), .int .u64 (dgl (u) 7 : Nat)]) ∧ Below w.heap.size w w')) (w : World) :
    Calls Tryd.prog 51 #[.agg #[.bool (neg), .int .i64 (z), .int .u64 (dgl (s) 0 : Nat), .int .u64 (dgl (s) 1 : Nat), .int .u64 (dgl (s) 2 : Nat), .int .u64 (dgl (s) 3 : Nat), .int .u64 (dgl (s) 4 : Nat), .int .u64 (dgl (s) 5 : Nat), .int .u64 (dgl (s) 6 : Nat), .int .u64 (dgl (s) 7 : Nat)], .int .i64 x] w fun e w' => e = .returned (.tuple #[.agg #[.int .u64 (dgl (u) 0 : Nat), .int .u64 (dgl (u) 1 : Nat), .int .u64 (dgl (u) 2 : Nat), .int .u64 (dgl (u) 3 : Nat), .int .u64 (dgl (u) 4 : Nat), .int .u64 (dgl (u) 5 : Nat), .int .u64 (dgl (u) 6 : Nat), .int .u64 (dgl (u) 7 : Nat)], .bool true]) ∧ Below w.heap.size w w' := by
  have HS := hide (atSt_start neg z s w)
  go_enter Tryd.func51, Tryd.ntmps51
  go_upto_region 1 with fail
  refine wp_gen (fun W => AtSt neg z s w W) HS.out ?_
  clear HS
  rintro W1 g1
  have HS := hide g1
  clear g1
  have ln := HS.out.n.n
  have le := HS.out.n.e
  have l0 := HS.out.n.x0
  have l1 := HS.out.n.x1
  have l2 := HS.out.n.x2
  have l3 := HS.out.n.x3
  have l4 := HS.out.n.x4
  have l5 := HS.out.n.x5
  have l6 := HS.out.n.x6
  have l7 := HS.out.n.x7
  go_wp2_with fail
  refine (HSH.out _).mono ?_
  rintro e w1 ⟨rfl, hb1⟩
  replace HS := hide (HS.out.below hb1)
  clear hb1 ln le l0 l1 l2 l3 l4 l5 l6 l7
  have hr := HS.out.r.1
  have hrf := HS.out.fr
  have hl := HS.out.r.2
  have HB := hide HS.out.bel
  clear HS
  go_wp2
  exact bodyPost_ret (v := .tuple #[.agg #[.int .u64 (dgl (u) 0 : Nat), .int .u64 (dgl (u) 1 : Nat), .int .u64 (dgl (u) 2 : Nat), .int .u64 (dgl (u) 3 : Nat), .int .u64 (dgl (u) 4 : Nat), .int .u64 (dgl (u) 5 : Nat), .int .u64 (dgl (u) 6 : Nat), .int .u64 (dgl (u) 7 : Nat)], .bool true]) (by simp [results, Tryd.results51, go_sem, hr, hl]) rfl ⟨rfl, below_set8 HB.out _ (by omega) _ _ _ _ _ _ _ _⟩

set_option maxHeartbeats 2000000 in
theorem at_D (neg lost : Bool) (z x : Int) (s u : Nat)
    (hz : -1048576 ≤ z ∧ z ≤ 1048576) (hx : -3000000 ≤ x ∧ x ≤ 3000000)
    (h : ¬ x ≤ z)
    (HSR : Hid (∀ w, Calls Tryd.prog 108 #[.agg #[.int .u64 (dgl (s) 0 : Nat), .int .u64 (dgl (s) 1 : Nat), .int .u64 (dgl (s) 2 : Nat), .int .u64 (dgl (s) 3 : Nat), .int .u64 (dgl (s) 4 : Nat), .int .u64 (dgl (s) 5 : Nat), .int .u64 (dgl (s) 6 : Nat), .int .u64 (dgl (s) 7 : Nat)], .int .i64 (x - z)] w fun e w' => e = .returned (.tuple #[.agg #[.int .u64 (dgl (u) 0 : Nat), .int .u64 (dgl (u) 1 : Nat), .int .u64 (dgl (u) 2 : Nat), .int .u64 (dgl (u) 3 : Nat), .int .u64 (dgl (u) 4 : Nat), .int .u64 (dgl (u) 5 : Nat), .int .u64 (dgl (u) 6 : Nat), .int .u64 (dgl (u) 7 : Nat)], .bool lost]) ∧ Below w.heap.size w w')) (w : World) :
    Calls Tryd.prog 51 #[.agg #[.bool (neg), .int .i64 (z), .int .u64 (dgl (s) 0 : Nat), .int .u64 (dgl (s) 1 : Nat), .int .u64 (dgl (s) 2 : Nat), .int .u64 (dgl (s) 3 : Nat), .int .u64 (dgl (s) 4 : Nat), .int .u64 (dgl (s) 5 : Nat), .int .u64 (dgl (s) 6 : Nat), .int .u64 (dgl (s) 7 : Nat)], .int .i64 x] w fun e w' => e = .returned (.tuple #[.agg #[.int .u64 (dgl (u) 0 : Nat), .int .u64 (dgl (u) 1 : Nat), .int .u64 (dgl (u) 2 : Nat), .int .u64 (dgl (u) 3 : Nat), .int .u64 (dgl (u) 4 : Nat), .int .u64 (dgl (u) 5 : Nat), .int .u64 (dgl (u) 6 : Nat), .int .u64 (dgl (u) 7 : Nat)], .bool (!lost)]) ∧ Below w.heap.size w w' := by
  have HS := hide (atSt_start neg z s w)
  go_enter Tryd.func51, Tryd.ntmps51
  go_upto_region 1 with fail
  refine wp_gen (fun W => AtSt neg z s w W) HS.out ?_
  clear HS
  rintro W1 g1
  have HS := hide g1
  clear g1
  have ln := HS.out.n.n
  have le := HS.out.n.e
  have l0 := HS.out.n.x0
  have l1 := HS.out.n.x1
  have l2 := HS.out.n.x2
  have l3 := HS.out.n.x3
  have l4 := HS.out.n.x4
  have l5 := HS.out.n.x5
  have l6 := HS.out.n.x6
  have l7 := HS.out.n.x7
  go_wp2_with fail
  refine (HSR.out _).mono ?_
  rintro e w1 ⟨rfl, hb1⟩
  replace HS := hide (HS.out.below hb1)
  clear hb1 ln le l0 l1 l2 l3 l4 l5 l6 l7
  go_upto_region 4 with fail
  refine wp_gen (fun W => AtSt neg z s w W ∧ LiesF W w1.heap.size (dgl u)) ⟨HS.out.below (below_allocs _ _), liesF_new _ _ _⟩ ?_
  clear HS
  generalize w1.heap.size = p6
  rintro W2 ⟨g1, g2⟩
  have HS := hide g1
  have hq := g2.1
  clear g1 g2
  have hr := HS.out.r.1
  have hrf := HS.out.fr
  have hl := HS.out.r.2
  have HB := hide HS.out.bel
  clear HS
  go_wp2
  exact bodyPost_ret (v := .tuple #[.agg #[.int .u64 (dgl (u) 0 : Nat), .int .u64 (dgl (u) 1 : Nat), .int .u64 (dgl (u) 2 : Nat), .int .u64 (dgl (u) 3 : Nat), .int .u64 (dgl (u) 4 : Nat), .int .u64 (dgl (u) 5 : Nat), .int .u64 (dgl (u) 6 : Nat), .int .u64 (dgl (u) 7 : Nat)], .bool (!lost)]) (by simp [results, Tryd.results51, go_sem, hr, hl]) rfl ⟨rfl, below_set8 HB.out _ (by omega) _ _ _ _ _ _ _ _⟩

structure Ex0 (neg : Bool) (z : Int) (s : Nat) (w W : World) : Prop where
  g : FmtG W
  gl : 1 < w.heap.size
  n : NB W w.heap.size neg z s
  r : WB W (w.heap.size + 1) 0 0
  fr : ∀ i, W.frozen? ⟨w.heap.size + 1, i, none⟩ = false
  bel : Below w.heap.size w W
theorem Ex0.below {neg : Bool} {z : Int} {s : Nat} {w W W' : World} (h : Ex0 neg z s w W) (hb : Below W.heap.size W W') : Ex0 neg z s w W' :=
  ⟨h.g.below hb, h.gl, h.n.below hb, h.r.below hb, fun i => (hb.frozen (p := ⟨w.heap.size + 1, i, none⟩) h.r.lt).trans (h.fr i), below_trans h.bel hb⟩
theorem ex0_start (neg : Bool) (z : Int) (s : Nat) (w : World) (hg : FmtG w) : Ex0 neg z s w ((w.alloc (.cells #[.bool (neg), .int .i64 (z), .int .u64 (dgl (s) 0 : Nat), .int .u64 (dgl (s) 1 : Nat), .int .u64 (dgl (s) 2 : Nat), .int .u64 (dgl (s) 3 : Nat), .int .u64 (dgl (s) 4 : Nat), .int .u64 (dgl (s) 5 : Nat), .int .u64 (dgl (s) 6 : Nat), .int .u64 (dgl (s) 7 : Nat)] 26)).alloc (.cells #[.int .u64 0, .int .u64 0] 28)) := by
  have h1 := wb_new (w.alloc (.cells #[.bool (neg), .int .i64 (z), .int .u64 (dgl (s) 0 : Nat), .int .u64 (dgl (s) 1 : Nat), .int .u64 (dgl (s) 2 : Nat), .int .u64 (dgl (s) 3 : Nat), .int .u64 (dgl (s) 4 : Nat), .int .u64 (dgl (s) 5 : Nat), .int .u64 (dgl (s) 6 : Nat), .int .u64 (dgl (s) 7 : Nat)] 26)) 28
  rw [World.size_alloc] at h1
  exact ⟨(hg.below (below_allocs _ _)).below (below_allocs _ _), hg.lt, (nb_new w neg z s 26).below (below_allocs _ _), h1, fun i => by simp [go_sem], below_trans (below_allocs _ _) (below_allocs _ _)⟩
structure ExSt (neg : Bool) (z : Int) (s p6 : Nat) (k : Nat → Int) (c1 c0 : Nat) (w W : World) : Prop where
  g : FmtG W
  gl : 1 < w.heap.size
  n : NB W w.heap.size neg z s
  r : WB W (w.heap.size + 1) c1 c0
  fr : ∀ i, W.frozen? ⟨w.heap.size + 1, i, none⟩ = false
  rk : ∀ i, i < 5 → W.cell? ⟨p6, i, none⟩ = some (.int .i64 (k i))
  lk : p6 < W.heap.size
  lo : w.heap.size + 1 < p6
  bel : Below w.heap.size w W
theorem ExSt.under {neg : Bool} {z : Int} {s p6 : Nat} {k : Nat → Int} {c1 c0 : Nat} {w W W' : World} (h : ExSt neg z s p6 k c1 c0 w W) {C : Nat} (hb : Below C W W') (hc : p6 < C) : ExSt neg z s p6 k c1 c0 w W' := by
  have hl := h.lo
  have h1 : w.heap.size + 1 < C := by omega
  have h0 : w.heap.size < C := by omega
  exact ⟨⟨fun i hi => (hb.cell (p := ⟨1, i, none⟩) (show 1 < _ by have := h.gl; omega)).trans (h.g.c i hi), Nat.lt_of_lt_of_le h.g.lt hb.size⟩, h.gl, h.n.under hb h0,
    ⟨(hb.cell (p := ⟨w.heap.size + 1, 0, none⟩) h1).trans h.r.h, (hb.cell (p := ⟨w.heap.size + 1, 1, none⟩) h1).trans h.r.l, Nat.lt_of_lt_of_le h.r.lt hb.size⟩, fun i => (hb.frozen (p := ⟨w.heap.size + 1, i, none⟩) h1).trans (h.fr i),
    fun i hi => (hb.cell (p := ⟨p6, i, none⟩) hc).trans (h.rk i hi), Nat.lt_of_lt_of_le h.lk hb.size, h.lo, h.bel.trans (hb.mono (by omega))⟩
theorem ExSt.below {neg : Bool} {z : Int} {s p6 : Nat} {k : Nat → Int} {c1 c0 : Nat} {w W W' : World} (h : ExSt neg z s p6 k c1 c0 w W) (hb : Below W.heap.size W W') : ExSt neg z s p6 k c1 c0 w W' := h.under hb h.lk
theorem exSt_start {neg : Bool} {z : Int} {s : Nat} {w W : World} (k : Nat → Int) (h : Ex0 neg z s w W) : ExSt neg z s W.heap.size k 0 0 w (W.alloc (.cells #[.int .i64 (k 0), .int .i64 (k 1), .int .i64 (k 2), .int .i64 (k 3), .int .i64 (k 4)] 85)) := by
  have h1 := h.below (below_allocs W (.cells #[.int .i64 (k 0), .int .i64 (k 1), .int .i64 (k 2), .int .i64 (k 3), .int .i64 (k 4)] 85))
  exact ⟨h1.g, h1.gl, h1.n, h1.r, h1.fr, fun i hi => rec5_new W k _ i hi, by simp, h.r.lt, h1.bel⟩
theorem ExSt.setR {neg : Bool} {z : Int} {s p6 : Nat} {k : Nat → Int} {c1 c0 : Nat} {w W : World} (h : ExSt neg z s p6 k c1 c0 w W) (d1 d0 : Nat) : ExSt neg z s p6 k d1 d0 w ((W.setCell ⟨w.heap.size + 1, 0, none⟩ (.int .u64 (d1 : Nat))).setCell ⟨w.heap.size + 1, 1, none⟩ (.int .u64 (d0 : Nat))) := by
  have hl := h.lo
  have hk := h.rk
  have hb := ((Below.refl (w.heap.size + 1) W).setCell (p := ⟨w.heap.size + 1, 0, none⟩) (Nat.le_refl _) (.int .u64 (d1 : Nat))).setCell (p := ⟨w.heap.size + 1, 1, none⟩) (Nat.le_refl _) (.int .u64 (d0 : Nat))
  have hne : ¬ p6 = w.heap.size + 1 := by omega
  refine ⟨⟨fun i hi => (hb.cell (p := ⟨1, i, none⟩) (show 1 < _ by have := h.gl; omega)).trans (h.g.c i hi), Nat.lt_of_lt_of_le h.g.lt hb.size⟩, h.gl, h.n.under hb (Nat.lt_succ_self _), wb_set h.r, fun i => by simpa [go_sem] using h.fr i, fun i hi => ?_, Nat.lt_of_lt_of_le h.lk hb.size, h.lo, h.bel.trans (hb.mono (Nat.le_succ _))⟩
  have := hk i hi
  simp [go_sem, this, hne]
theorem lies_set2 {W : World} {b R : Nat} {f : Nat → Nat} {x y : Value} (h : LiesF W b f) (hne : b ≠ R) : LiesF ((W.setCell ⟨R, 0, none⟩ x).setCell ⟨R, 1, none⟩ y) b f := by
  refine ⟨fun i hi => ?_, by simpa using h.2⟩
  have := h.1 i hi
  simp [go_sem, this, hne]

set_option maxHeartbeats 4000000 in
theorem exact_Z (f z tp lo la : Int) (neg wh ok ov : Bool) (k : Nat → Int) (s u v l pw c : Nat)
    (HO : Hid (∀ w, FmtG w → Calls Tryd.prog 47 #[.int .i64 f] w fun e w' => e = .returned (.tuple #[.agg #[.int .i64 (k 0), .int .i64 (k 1), .int .i64 (k 2), .int .i64 (k 3), .int .i64 (k 4)], .bool true]) ∧ Below w.heap.size w w'))
    (HR : Hid (∀ w, Calls Tryd.prog 14 #[.agg #[.bool (neg), .int .i64 (z), .int .u64 (dgl (s) 0 : Nat), .int .u64 (dgl (s) 1 : Nat), .int .u64 (dgl (s) 2 : Nat), .int .u64 (dgl (s) 3 : Nat), .int .u64 (dgl (s) 4 : Nat), .int .u64 (dgl (s) 5 : Nat), .int .u64 (dgl (s) 6 : Nat), .int .u64 (dgl (s) 7 : Nat)]] w fun e w' => e = .returned (.bool true) ∧ Below w.heap.size w w'))
    (HT : Hid (∀ w, Calls Tryd.prog 48 #[.agg #[.bool (neg), .int .i64 (z), .int .u64 (dgl (s) 0 : Nat), .int .u64 (dgl (s) 1 : Nat), .int .u64 (dgl (s) 2 : Nat), .int .u64 (dgl (s) 3 : Nat), .int .u64 (dgl (s) 4 : Nat), .int .u64 (dgl (s) 5 : Nat), .int .u64 (dgl (s) 6 : Nat), .int .u64 (dgl (s) 7 : Nat)]] w fun e w' => e = .returned (.tuple #[.int .i64 0, .bool false]) ∧ Below w.heap.size w w'))
    (HNO : Hid (∀ w, FmtG w → Calls Tryd.prog 49 #[.int .i64 f, .bool neg] w fun e w' => e = .returned (.agg #[.int .u64 (dgl (c) 1 : Nat), .int .u64 (dgl (c) 0 : Nat)]) ∧ Below w.heap.size w w')) (w : World) (hg : FmtG w) :
    Calls Tryd.prog 11 #[.int .i64 f, .agg #[.bool (neg), .int .i64 (z), .int .u64 (dgl (s) 0 : Nat), .int .u64 (dgl (s) 1 : Nat), .int .u64 (dgl (s) 2 : Nat), .int .u64 (dgl (s) 3 : Nat), .int .u64 (dgl (s) 4 : Nat), .int .u64 (dgl (s) 5 : Nat), .int .u64 (dgl (s) 6 : Nat), .int .u64 (dgl (s) 7 : Nat)]] w fun e w' => e = .returned (.tuple #[.agg #[.int .u64 (dgl (c) 1 : Nat), .int .u64 (dgl (c) 0 : Nat)], .bool true]) ∧ Below w.heap.size w w' := by
  have HS := hide (ex0_start neg z s w hg)
  clear hg
  go_enter Tryd.func11, Tryd.ntmps11
  go_wp2_with fail
  refine (HO.out _ HS.out.g).mono ?_
  rintro e w1 ⟨rfl, hb1⟩
  replace HS := hide (HS.out.below hb1)
  clear hb1
  go_upto_region 2 with fail
  refine wp_gen (fun W => ExSt neg z s w1.heap.size k 0 0 w W) (by have h := exSt_start k HS.out; exact h) ?_
  clear HS
  generalize w1.heap.size = p6
  rintro W1 g1
  have HS := hide g1
  clear g1
  have ln := HS.out.n.n
  have le := HS.out.n.e
  have l0 := HS.out.n.x0
  have l1 := HS.out.n.x1
  have l2 := HS.out.n.x2
  have l3 := HS.out.n.x3
  have l4 := HS.out.n.x4
  have l5 := HS.out.n.x5
  have l6 := HS.out.n.x6
  have l7 := HS.out.n.x7
  go_wp2_with fail
  refine (HR.out _).mono ?_
  rintro e w2 ⟨rfl, hb2⟩
  replace HS := hide (HS.out.below hb2)
  clear hb2 ln le l0 l1 l2 l3 l4 l5 l6 l7
  have ln := HS.out.n.n
  have le := HS.out.n.e
  have l0 := HS.out.n.x0
  have l1 := HS.out.n.x1
  have l2 := HS.out.n.x2
  have l3 := HS.out.n.x3
  have l4 := HS.out.n.x4
  have l5 := HS.out.n.x5
  have l6 := HS.out.n.x6
  have l7 := HS.out.n.x7
  go_wp2_with fail
  refine (HT.out _).mono ?_
  rintro e w3 ⟨rfl, hb3⟩
  replace HS := hide (HS.out.below hb3)
  clear hb3 ln le l0 l1 l2 l3 l4 l5 l6 l7
  have ln := HS.out.n.n
  have le := HS.out.n.e
  have l0 := HS.out.n.x0
  have l1 := HS.out.n.x1
  have l2 := HS.out.n.x2
  have l3 := HS.out.n.x3
  have l4 := HS.out.n.x4
  have l5 := HS.out.n.x5
  have l6 := HS.out.n.x6
  have l7 := HS.out.n.x7
  go_wp2_with fail
  refine (HNO.out _ HS.out.g).mono ?_
  rintro e w4 ⟨rfl, hb4⟩
  replace HS := hide (HS.out.below hb4)
  clear hb4 ln le l0 l1 l2 l3 l4 l5 l6 l7
  have q0 := HS.out.r.h
  have q1 := HS.out.r.l
  have hrf := HS.out.fr
  have hlt := HS.out.r.lt
  have HB := hide HS.out.bel
  clear HS
  go_wp2
  exact bodyPost_ret (v := .tuple #[.agg #[.int .u64 (dgl (c) 1 : Nat), .int .u64 (dgl (c) 0 : Nat)], .bool true]) (by simp [results, Tryd.results11, go_sem, hlt, q0, q1]) rfl ⟨rfl, (HB.out.setCell (p := ⟨w.heap.size + 1, 0, none⟩) (Nat.le_succ _) _).setCell (p := ⟨w.heap.size + 1, 1, none⟩) (Nat.le_succ _) _⟩

set_option maxHeartbeats 4000000 in
theorem exact_S (f z tp lo la : Int) (neg wh ok ov : Bool) (k : Nat → Int) (s u v l pw c : Nat)
    (HO : Hid (∀ w, FmtG w → Calls Tryd.prog 47 #[.int .i64 f] w fun e w' => e = .returned (.tuple #[.agg #[.int .i64 (k 0), .int .i64 (k 1), .int .i64 (k 2), .int .i64 (k 3), .int .i64 (k 4)], .bool true]) ∧ Below w.heap.size w w'))
    (HR : Hid (∀ w, Calls Tryd.prog 14 #[.agg #[.bool (neg), .int .i64 (z), .int .u64 (dgl (s) 0 : Nat), .int .u64 (dgl (s) 1 : Nat), .int .u64 (dgl (s) 2 : Nat), .int .u64 (dgl (s) 3 : Nat), .int .u64 (dgl (s) 4 : Nat), .int .u64 (dgl (s) 5 : Nat), .int .u64 (dgl (s) 6 : Nat), .int .u64 (dgl (s) 7 : Nat)]] w fun e w' => e = .returned (.bool true) ∧ Below w.heap.size w w'))
    (HT : Hid (∀ w, Calls Tryd.prog 48 #[.agg #[.bool (neg), .int .i64 (z), .int .u64 (dgl (s) 0 : Nat), .int .u64 (dgl (s) 1 : Nat), .int .u64 (dgl (s) 2 : Nat), .int .u64 (dgl (s) 3 : Nat), .int .u64 (dgl (s) 4 : Nat), .int .u64 (dgl (s) 5 : Nat), .int .u64 (dgl (s) 6 : Nat), .int .u64 (dgl (s) 7 : Nat)]] w fun e w' => e = .returned (.tuple #[.int .i64 tp, .bool true]) ∧ Below w.heap.size w w'))
    (htp : -3000000 ≤ tp ∧ tp ≤ 3000000) (hk1 : 1 ≤ k 1 ∧ k 1 ≤ 200) (hlo : -20000 ≤ lo ∧ lo ≤ 0) (HMX : Hid (max (tp - k 1 + 1) lo = la)) (hla : -3000000 ≤ la ∧ la ≤ 3000000)
    (HLO : Hid (∀ w, Calls Tryd.prog 50 #[.agg #[.int .i64 (k 0), .int .i64 (k 1), .int .i64 (k 2), .int .i64 (k 3), .int .i64 (k 4)]] w fun e w' => e = .returned (.int .i64 lo) ∧ Below w.heap.size w w'))
    (HAT : Hid (∀ w, Calls Tryd.prog 51 #[.agg #[.bool (neg), .int .i64 (z), .int .u64 (dgl (s) 0 : Nat), .int .u64 (dgl (s) 1 : Nat), .int .u64 (dgl (s) 2 : Nat), .int .u64 (dgl (s) 3 : Nat), .int .u64 (dgl (s) 4 : Nat), .int .u64 (dgl (s) 5 : Nat), .int .u64 (dgl (s) 6 : Nat), .int .u64 (dgl (s) 7 : Nat)], .int .i64 la] w fun e w' => e = .returned (.tuple #[.agg #[.int .u64 (dgl (u) 0 : Nat), .int .u64 (dgl (u) 1 : Nat), .int .u64 (dgl (u) 2 : Nat), .int .u64 (dgl (u) 3 : Nat), .int .u64 (dgl (u) 4 : Nat), .int .u64 (dgl (u) 5 : Nat), .int .u64 (dgl (u) 6 : Nat), .int .u64 (dgl (u) 7 : Nat)], .bool true]) ∧ Below w.heap.size w w'))
    (HEM : Hid (¬ k 2 < tp))
    (HLN : Hid (∀ w, Calls Tryd.prog 52 #[.agg #[.int .u64 (dgl (u) 0 : Nat), .int .u64 (dgl (u) 1 : Nat), .int .u64 (dgl (u) 2 : Nat), .int .u64 (dgl (u) 3 : Nat), .int .u64 (dgl (u) 4 : Nat), .int .u64 (dgl (u) 5 : Nat), .int .u64 (dgl (u) 6 : Nat), .int .u64 (dgl (u) 7 : Nat)]] w fun e w' => e = .returned (.int .i64 (l : Nat)) ∧ Below w.heap.size w w'))
    (HLL : Hid (decide ((l : Int) < k 1) = true))
    (HMK : Hid (∀ w, FmtG w → Calls Tryd.prog 53 #[.int .i64 f, .bool neg, .int .i64 0, .agg #[.int .u64 (dgl (u) 0 : Nat), .int .u64 (dgl (u) 1 : Nat), .int .u64 (dgl (u) 2 : Nat), .int .u64 (dgl (u) 3 : Nat), .int .u64 (dgl (u) 4 : Nat), .int .u64 (dgl (u) 5 : Nat), .int .u64 (dgl (u) 6 : Nat), .int .u64 (dgl (u) 7 : Nat)]] w fun e w' => e = .returned (.tuple #[.agg #[.int .u64 (dgl (c) 1 : Nat), .int .u64 (dgl (c) 0 : Nat)], .bool ok]) ∧ Below w.heap.size w w')) (w : World) (hg : FmtG w) :
    Calls Tryd.prog 11 #[.int .i64 f, .agg #[.bool (neg), .int .i64 (z), .int .u64 (dgl (s) 0 : Nat), .int .u64 (dgl (s) 1 : Nat), .int .u64 (dgl (s) 2 : Nat), .int .u64 (dgl (s) 3 : Nat), .int .u64 (dgl (s) 4 : Nat), .int .u64 (dgl (s) 5 : Nat), .int .u64 (dgl (s) 6 : Nat), .int .u64 (dgl (s) 7 : Nat)]] w fun e w' => e = .returned (.tuple #[.agg #[.int .u64 (dgl (c) 1 : Nat), .int .u64 (dgl (c) 0 : Nat)], .bool ok]) ∧ Below w.heap.size w w' := by
  have HS := hide (ex0_start neg z s w hg)
  clear hg
  go_enter Tryd.func11, Tryd.ntmps11
  go_wp2_with fail
  refine (HO.out _ HS.out.g).mono ?_
  rintro e w1 ⟨rfl, hb1⟩
  replace HS := hide (HS.out.below hb1)
  clear hb1
  go_upto_region 2 with fail
  refine wp_gen (fun W => ExSt neg z s w1.heap.size k 0 0 w W) (by have h := exSt_start k HS.out; exact h) ?_
  clear HS
  generalize w1.heap.size = p6
  rintro W1 g1
  have HS := hide g1
  clear g1
  have ln := HS.out.n.n
  have le := HS.out.n.e
  have l0 := HS.out.n.x0
  have l1 := HS.out.n.x1
  have l2 := HS.out.n.x2
  have l3 := HS.out.n.x3
  have l4 := HS.out.n.x4
  have l5 := HS.out.n.x5
  have l6 := HS.out.n.x6
  have l7 := HS.out.n.x7
  go_wp2_with fail
  refine (HR.out _).mono ?_
  rintro e w2 ⟨rfl, hb2⟩
  replace HS := hide (HS.out.below hb2)
  clear hb2 ln le l0 l1 l2 l3 l4 l5 l6 l7
  have ln := HS.out.n.n
  have le := HS.out.n.e
  have l0 := HS.out.n.x0
  have l1 := HS.out.n.x1
  have l2 := HS.out.n.x2
  have l3 := HS.out.n.x3
  have l4 := HS.out.n.x4
  have l5 := HS.out.n.x5
  have l6 := HS.out.n.x6
  have l7 := HS.out.n.x7
  go_wp2_with fail
  refine (HT.out _).mono ?_
  rintro e w3 ⟨rfl, hb3⟩
  replace HS := hide (HS.out.below hb3)
  clear hb3 ln le l0 l1 l2 l3 l4 l5 l6 l7
  go_upto_region 7 with fail
  refine wp_gen (fun W => ExSt neg z s p6 k 0 0 w W) HS.out ?_
  clear HS
  rintro W4 h7
  refine wp_region_grow 9 [(39, .val (.int .i64 tp)), (40, .val (.pointer (some ⟨p6, 1, none⟩))), (41, .val (.int .i64 (k 1))), (42, .val (.int .i64 (tp - k 1))), (43, .val (.int .i64 (tp - k 1 + 1))), (44, .val (.agg #[.int .i64 (k 0), .int .i64 (k 1), .int .i64 (k 2), .int .i64 (k 3), .int .i64 (k 4)])), (45, .val (.int .i64 lo)), (46, .val (.int .i64 la)), (10, .val (.int .i64 la))]
    (fun W => ExSt neg z s p6 k 0 0 w W) mixedOk (by kernel_rfl) (by kernel_rfl) (h7.below (Below.refl _ _).drew) (fun W W' h hb => h.below hb) ?_ ?_
  · refine gSt (gStep_run rfl (gRun_move 8 39 (.inl rfl) rfl (by decide +kernel) (fun v w h => h))) ?_
    refine gSt (gStep_run rfl ?_) ?_
    · intro ρ W hC hc hf hL
      have e6 : ρ (.tmp 6) = .pointer (some ⟨p6, 0, none⟩) := hL 6 (by decide +kernel)
      simp [go_sem, hc, hf, e6]
      exact ⟨Below.refl _ _, rfl⟩
    refine gSt (gStep_run rfl ?_) ?_
    · intro ρ W hC hc hf hL
      have e40 : ρ (.tmp 40) = .pointer (some ⟨p6, 1, none⟩) := hL 40 (by decide +kernel)
      have l0 := hC.rk 1 (by decide)
      simp [go_sem, hc, hf, e40, l0]
      exact ⟨Below.refl _ _, rfl⟩
    refine gSt (gStep_run rfl ?_) ?_
    · intro ρ W hC hc hf hL
      have e39 : ρ (.tmp 39) = .int .i64 tp := hL 39 (by decide +kernel)
      have e41 : ρ (.tmp 41) = .int .i64 (k 1) := hL 41 (by decide +kernel)
      have l0 : IntKind.i64.wrap (tp - k 1) = tp - k 1 := by rw [IntKind.wrap_i64]; omega
      simp [go_sem, hc, hf, e39, e41, l0]
      exact ⟨Below.refl _ _, rfl⟩
    refine gSt (gStep_run rfl ?_) ?_
    · intro ρ W hC hc hf hL
      have e42 : ρ (.tmp 42) = .int .i64 (tp - k 1) := hL 42 (by decide +kernel)
      have l0 : IntKind.i64.wrap (tp - k 1 + 1) = tp - k 1 + 1 := by rw [IntKind.wrap_i64]; omega
      simp [go_sem, hc, hf, e42, l0]
      exact ⟨Below.refl _ _, rfl⟩
    refine gSt (gStep_run rfl ?_) ?_
    · intro ρ W hC hc hf hL
      have e6 : ρ (.tmp 6) = .pointer (some ⟨p6, 0, none⟩) := hL 6 (by decide +kernel)
      have l0 := hC.rk
      simp [go_sem, hc, hf, e6, l0]
      exact ⟨Below.refl _ _, rfl⟩
    refine gSt (gStep_run rfl ?_) ?_
    · intro ρ W hC hc hf hL
      have e44 : ρ (.tmp 44) = .agg #[.int .i64 (k 0), .int .i64 (k 1), .int .i64 (k 2), .int .i64 (k 3), .int .i64 (k 4)] := hL 44 (by decide +kernel)
      simp [go_sem, hc, hf, e44]
      refine (HLO.out W).mono ?_
      rintro e w' ⟨rfl, hb⟩
      exact ⟨_, rfl, by first | exact hb | (subst hb; exact Below.refl _ _), rfl⟩
    refine gSt (gStep_run rfl ?_) ?_
    · intro ρ W hC hc hf hL
      have e43 : ρ (.tmp 43) = .int .i64 (tp - k 1 + 1) := hL 43 (by decide +kernel)
      have e45 : ρ (.tmp 45) = .int .i64 lo := hL 45 (by decide +kernel)
      have l0 := HMX.out
      simp [go_sem, hc, hf, e43, e45, l0]
      exact ⟨Below.refl _ _, rfl⟩
    refine gSt (gStep_run rfl (gRun_move 46 10 (.inr rfl) rfl (by decide +kernel) (fun v w h => h))) ?_
    exact gSt0
  · intro W hC
    refine gFi 39 rfl ?_
    rintro _ rfl
    refine gFi 40 rfl ?_
    rintro _ rfl
    refine gFi 41 rfl ?_
    rintro _ rfl
    refine gFi 42 rfl ?_
    rintro _ rfl
    refine gFi 43 rfl ?_
    rintro _ rfl
    refine gFi 44 rfl ?_
    rintro _ rfl
    refine gFi 45 rfl ?_
    rintro _ rfl
    refine gFi 46 rfl ?_
    rintro _ rfl
    refine gFi 10 rfl ?_
    rintro _ rfl
    refine gFi0 ?_
    simp only [List.drop_succ_cons, List.drop_zero, Act.put, List.setIfInBounds_toArray, List.set_cons_succ, List.set_cons_zero]
    have HS := hide hC
    clear hC h7
    have ln := HS.out.n.n
    have le := HS.out.n.e
    have l0 := HS.out.n.x0
    have l1 := HS.out.n.x1
    have l2 := HS.out.n.x2
    have l3 := HS.out.n.x3
    have l4 := HS.out.n.x4
    have l5 := HS.out.n.x5
    have l6 := HS.out.n.x6
    have l7 := HS.out.n.x7
    go_wp2_with fail
    refine (HAT.out _).mono ?_
    rintro e w5 ⟨rfl, hb5⟩
    replace HS := hide (HS.out.below hb5)
    clear hb5 ln le l0 l1 l2 l3 l4 l5 l6 l7
    go_upto_region 9 with fail
    refine wp_gen (fun W => ExSt neg z s p6 k 0 0 w W ∧ LiesF W w5.heap.size (dgl u)) ⟨HS.out.below (below_allocs _ _), liesF_new _ _ _⟩ ?_
    clear HS
    generalize w5.heap.size = p11
    rintro W5 ⟨g1, g2⟩
    have HS := hide g1
    have HL := hide g2
    have hk := g1.rk
    clear g1 g2
    have hem := HEM.out
    go_upto_region 11 with fail
    refine wp_gen (fun W => ExSt neg z s p6 k 0 0 w W ∧ LiesF W p11 (dgl u)) ⟨HS.out, HL.out⟩ ?_
    clear HS HL hem hk
    rintro W7 h1
    refine wp_region_grow 5 [(62, .val (.agg #[.int .u64 (dgl (u) 0 : Nat), .int .u64 (dgl (u) 1 : Nat), .int .u64 (dgl (u) 2 : Nat), .int .u64 (dgl (u) 3 : Nat), .int .u64 (dgl (u) 4 : Nat), .int .u64 (dgl (u) 5 : Nat), .int .u64 (dgl (u) 6 : Nat), .int .u64 (dgl (u) 7 : Nat)])), (63, .val (.int .i64 (l : Nat))), (64, .val (.pointer (some ⟨p6, 1, none⟩))), (65, .val (.int .i64 (k 1))), (66, .val (.bool true))]
      (fun W => ExSt neg z s p6 k 0 0 w W ∧ LiesF W p11 (dgl u)) mixedOk (by kernel_rfl) (by kernel_rfl) (⟨h1.1.below (Below.refl _ _).drew, h1.2.below (Below.refl _ _).drew⟩) (fun W W' h hb => ⟨h.1.below hb, h.2.below hb⟩) ?_ ?_
    · refine gSt (gStep_run rfl ?_) ?_
      · intro ρ W hC hc hf hL
        have e11 : ρ (.tmp 11) = .pointer (some ⟨p11, 0, none⟩) := hL 11 (by decide +kernel)
        have l0 := hC.2.1
        simp [go_sem, hc, hf, e11, l0]
        exact ⟨Below.refl _ _, rfl⟩
      refine gSt (gStep_run rfl ?_) ?_
      · intro ρ W hC hc hf hL
        have e62 : ρ (.tmp 62) = .agg #[.int .u64 (dgl (u) 0 : Nat), .int .u64 (dgl (u) 1 : Nat), .int .u64 (dgl (u) 2 : Nat), .int .u64 (dgl (u) 3 : Nat), .int .u64 (dgl (u) 4 : Nat), .int .u64 (dgl (u) 5 : Nat), .int .u64 (dgl (u) 6 : Nat), .int .u64 (dgl (u) 7 : Nat)] := hL 62 (by decide +kernel)
        simp [go_sem, hc, hf, e62]
        refine (HLN.out W).mono ?_
        rintro e w' ⟨rfl, hb⟩
        exact ⟨_, rfl, by first | exact hb | (subst hb; exact Below.refl _ _), rfl⟩
      refine gSt (gStep_run rfl ?_) ?_
      · intro ρ W hC hc hf hL
        have e6 : ρ (.tmp 6) = .pointer (some ⟨p6, 0, none⟩) := hL 6 (by decide +kernel)
        simp [go_sem, hc, hf, e6]
        exact ⟨Below.refl _ _, rfl⟩
      refine gSt (gStep_run rfl ?_) ?_
      · intro ρ W hC hc hf hL
        have e64 : ρ (.tmp 64) = .pointer (some ⟨p6, 1, none⟩) := hL 64 (by decide +kernel)
        have l0 := hC.1.rk 1 (by decide)
        simp [go_sem, hc, hf, e64, l0]
        exact ⟨Below.refl _ _, rfl⟩
      refine gSt (gStep_run rfl ?_) ?_
      · intro ρ W hC hc hf hL
        have e63 : ρ (.tmp 63) = .int .i64 (l : Nat) := hL 63 (by decide +kernel)
        have e65 : ρ (.tmp 65) = .int .i64 (k 1) := hL 65 (by decide +kernel)
        have l0 := HLL.out
        simp [go_sem, hc, hf, e63, e65, l0, -decide_eq_true_eq, -decide_eq_false_iff_not]
        exact ⟨Below.refl _ _, rfl⟩
      exact gSt0
    · intro W hC
      refine gFi 62 rfl ?_
      rintro _ rfl
      refine gFi 63 rfl ?_
      rintro _ rfl
      refine gFi 64 rfl ?_
      rintro _ rfl
      refine gFi 65 rfl ?_
      rintro _ rfl
      refine gFi 66 rfl ?_
      rintro _ rfl
      refine gFi0 ?_
      simp only [List.drop_succ_cons, List.drop_zero, Act.put, List.setIfInBounds_toArray, List.set_cons_succ, List.set_cons_zero]
      have HS := hide hC.1
      have HL := hide hC.2
      clear hC h1
      have hq := HL.out.1
      have ln := HS.out.n.n
      have le := HS.out.n.e
      have l0 := HS.out.n.x0
      have l1 := HS.out.n.x1
      have l2 := HS.out.n.x2
      have l3 := HS.out.n.x3
      have l4 := HS.out.n.x4
      have l5 := HS.out.n.x5
      have l6 := HS.out.n.x6
      have l7 := HS.out.n.x7
      go_wp2_with fail
      refine (HMK.out _ HS.out.g).mono ?_
      rintro e w7 ⟨rfl, hb7⟩
      replace HS := hide (HS.out.below hb7)
      clear hb7 hq HL ln le l0 l1 l2 l3 l4 l5 l6 l7
      have q0 := HS.out.r.h
      have q1 := HS.out.r.l
      have hrf := HS.out.fr
      have hlt := HS.out.r.lt
      have HB := hide HS.out.bel
      clear HS
      go_wp2
      exact bodyPost_ret (v := .tuple #[.agg #[.int .u64 (dgl (c) 1 : Nat), .int .u64 (dgl (c) 0 : Nat)], .bool ok]) (by simp [results, Tryd.results11, go_sem, hlt, q0, q1]) rfl ⟨rfl, (HB.out.setCell (p := ⟨w.heap.size + 1, 0, none⟩) (Nat.le_succ _) _).setCell (p := ⟨w.heap.size + 1, 1, none⟩) (Nat.le_succ _) _⟩
      

set_option maxHeartbeats 4000000 in
theorem exact_N (f z tp lo la : Int) (neg wh ok ov : Bool) (k : Nat → Int) (s u v l pw c : Nat)
    (HO : Hid (∀ w, FmtG w → Calls Tryd.prog 47 #[.int .i64 f] w fun e w' => e = .returned (.tuple #[.agg #[.int .i64 (k 0), .int .i64 (k 1), .int .i64 (k 2), .int .i64 (k 3), .int .i64 (k 4)], .bool true]) ∧ Below w.heap.size w w'))
    (HR : Hid (∀ w, Calls Tryd.prog 14 #[.agg #[.bool (neg), .int .i64 (z), .int .u64 (dgl (s) 0 : Nat), .int .u64 (dgl (s) 1 : Nat), .int .u64 (dgl (s) 2 : Nat), .int .u64 (dgl (s) 3 : Nat), .int .u64 (dgl (s) 4 : Nat), .int .u64 (dgl (s) 5 : Nat), .int .u64 (dgl (s) 6 : Nat), .int .u64 (dgl (s) 7 : Nat)]] w fun e w' => e = .returned (.bool true) ∧ Below w.heap.size w w'))
    (HT : Hid (∀ w, Calls Tryd.prog 48 #[.agg #[.bool (neg), .int .i64 (z), .int .u64 (dgl (s) 0 : Nat), .int .u64 (dgl (s) 1 : Nat), .int .u64 (dgl (s) 2 : Nat), .int .u64 (dgl (s) 3 : Nat), .int .u64 (dgl (s) 4 : Nat), .int .u64 (dgl (s) 5 : Nat), .int .u64 (dgl (s) 6 : Nat), .int .u64 (dgl (s) 7 : Nat)]] w fun e w' => e = .returned (.tuple #[.int .i64 tp, .bool true]) ∧ Below w.heap.size w w'))
    (htp : -3000000 ≤ tp ∧ tp ≤ 3000000) (hk1 : 1 ≤ k 1 ∧ k 1 ≤ 200) (hlo : -20000 ≤ lo ∧ lo ≤ 0) (HMX : Hid (max (tp - k 1 + 1) lo = la)) (hla : -3000000 ≤ la ∧ la ≤ 3000000)
    (HLO : Hid (∀ w, Calls Tryd.prog 50 #[.agg #[.int .i64 (k 0), .int .i64 (k 1), .int .i64 (k 2), .int .i64 (k 3), .int .i64 (k 4)]] w fun e w' => e = .returned (.int .i64 lo) ∧ Below w.heap.size w w'))
    (HAT : Hid (∀ w, Calls Tryd.prog 51 #[.agg #[.bool (neg), .int .i64 (z), .int .u64 (dgl (s) 0 : Nat), .int .u64 (dgl (s) 1 : Nat), .int .u64 (dgl (s) 2 : Nat), .int .u64 (dgl (s) 3 : Nat), .int .u64 (dgl (s) 4 : Nat), .int .u64 (dgl (s) 5 : Nat), .int .u64 (dgl (s) 6 : Nat), .int .u64 (dgl (s) 7 : Nat)], .int .i64 la] w fun e w' => e = .returned (.tuple #[.agg #[.int .u64 (dgl (u) 0 : Nat), .int .u64 (dgl (u) 1 : Nat), .int .u64 (dgl (u) 2 : Nat), .int .u64 (dgl (u) 3 : Nat), .int .u64 (dgl (u) 4 : Nat), .int .u64 (dgl (u) 5 : Nat), .int .u64 (dgl (u) 6 : Nat), .int .u64 (dgl (u) 7 : Nat)], .bool true]) ∧ Below w.heap.size w w'))
    (HEM : Hid (¬ k 2 < tp))
    (HLN : Hid (∀ w, Calls Tryd.prog 52 #[.agg #[.int .u64 (dgl (u) 0 : Nat), .int .u64 (dgl (u) 1 : Nat), .int .u64 (dgl (u) 2 : Nat), .int .u64 (dgl (u) 3 : Nat), .int .u64 (dgl (u) 4 : Nat), .int .u64 (dgl (u) 5 : Nat), .int .u64 (dgl (u) 6 : Nat), .int .u64 (dgl (u) 7 : Nat)]] w fun e w' => e = .returned (.int .i64 (l : Nat)) ∧ Below w.heap.size w w'))
    (HLL : Hid (decide ((l : Int) < k 1) = false))
    (HPW : Hid (∀ w, Calls Tryd.prog 55 #[.int .i64 (k 1 - 1)] w fun e w' => e = .returned (.agg #[.int .u64 (dgl (pw) 0 : Nat), .int .u64 (dgl (pw) 1 : Nat), .int .u64 (dgl (pw) 2 : Nat), .int .u64 (dgl (pw) 3 : Nat), .int .u64 (dgl (pw) 4 : Nat), .int .u64 (dgl (pw) 5 : Nat), .int .u64 (dgl (pw) 6 : Nat), .int .u64 (dgl (pw) 7 : Nat)]) ∧ Below w.heap.size w w'))
    (HSB : Hid (∀ w, Calls Tryd.prog 54 #[.agg #[.int .u64 (dgl (u) 0 : Nat), .int .u64 (dgl (u) 1 : Nat), .int .u64 (dgl (u) 2 : Nat), .int .u64 (dgl (u) 3 : Nat), .int .u64 (dgl (u) 4 : Nat), .int .u64 (dgl (u) 5 : Nat), .int .u64 (dgl (u) 6 : Nat), .int .u64 (dgl (u) 7 : Nat)], .agg #[.int .u64 (dgl (pw) 0 : Nat), .int .u64 (dgl (pw) 1 : Nat), .int .u64 (dgl (pw) 2 : Nat), .int .u64 (dgl (pw) 3 : Nat), .int .u64 (dgl (pw) 4 : Nat), .int .u64 (dgl (pw) 5 : Nat), .int .u64 (dgl (pw) 6 : Nat), .int .u64 (dgl (pw) 7 : Nat)]] w fun e w' => e = .returned (.tuple #[.agg #[.int .u64 (dgl (v) 0 : Nat), .int .u64 (dgl (v) 1 : Nat), .int .u64 (dgl (v) 2 : Nat), .int .u64 (dgl (v) 3 : Nat), .int .u64 (dgl (v) 4 : Nat), .int .u64 (dgl (v) 5 : Nat), .int .u64 (dgl (v) 6 : Nat), .int .u64 (dgl (v) 7 : Nat)], .bool ov]) ∧ Below w.heap.size w w'))
    (HMK : Hid (∀ w, FmtG w → Calls Tryd.prog 53 #[.int .i64 f, .bool neg, .int .i64 (la - lo + 1), .agg #[.int .u64 (dgl (v) 0 : Nat), .int .u64 (dgl (v) 1 : Nat), .int .u64 (dgl (v) 2 : Nat), .int .u64 (dgl (v) 3 : Nat), .int .u64 (dgl (v) 4 : Nat), .int .u64 (dgl (v) 5 : Nat), .int .u64 (dgl (v) 6 : Nat), .int .u64 (dgl (v) 7 : Nat)]] w fun e w' => e = .returned (.tuple #[.agg #[.int .u64 (dgl (c) 1 : Nat), .int .u64 (dgl (c) 0 : Nat)], .bool ok]) ∧ Below w.heap.size w w')) (w : World) (hg : FmtG w) :
    Calls Tryd.prog 11 #[.int .i64 f, .agg #[.bool (neg), .int .i64 (z), .int .u64 (dgl (s) 0 : Nat), .int .u64 (dgl (s) 1 : Nat), .int .u64 (dgl (s) 2 : Nat), .int .u64 (dgl (s) 3 : Nat), .int .u64 (dgl (s) 4 : Nat), .int .u64 (dgl (s) 5 : Nat), .int .u64 (dgl (s) 6 : Nat), .int .u64 (dgl (s) 7 : Nat)]] w fun e w' => e = .returned (.tuple #[.agg #[.int .u64 (dgl (c) 1 : Nat), .int .u64 (dgl (c) 0 : Nat)], .bool ok]) ∧ Below w.heap.size w w' := by
  have HS := hide (ex0_start neg z s w hg)
  clear hg
  go_enter Tryd.func11, Tryd.ntmps11
  go_wp2_with fail
  refine (HO.out _ HS.out.g).mono ?_
  rintro e w1 ⟨rfl, hb1⟩
  replace HS := hide (HS.out.below hb1)
  clear hb1
  go_upto_region 2 with fail
  refine wp_gen (fun W => ExSt neg z s w1.heap.size k 0 0 w W) (by have h := exSt_start k HS.out; exact h) ?_
  clear HS
  generalize w1.heap.size = p6
  rintro W1 g1
  have HS := hide g1
  clear g1
  have ln := HS.out.n.n
  have le := HS.out.n.e
  have l0 := HS.out.n.x0
  have l1 := HS.out.n.x1
  have l2 := HS.out.n.x2
  have l3 := HS.out.n.x3
  have l4 := HS.out.n.x4
  have l5 := HS.out.n.x5
  have l6 := HS.out.n.x6
  have l7 := HS.out.n.x7
  go_wp2_with fail
  refine (HR.out _).mono ?_
  rintro e w2 ⟨rfl, hb2⟩
  replace HS := hide (HS.out.below hb2)
  clear hb2 ln le l0 l1 l2 l3 l4 l5 l6 l7
  have ln := HS.out.n.n
  have le := HS.out.n.e
  have l0 := HS.out.n.x0
  have l1 := HS.out.n.x1
  have l2 := HS.out.n.x2
  have l3 := HS.out.n.x3
  have l4 := HS.out.n.x4
  have l5 := HS.out.n.x5
  have l6 := HS.out.n.x6
  have l7 := HS.out.n.x7
  go_wp2_with fail
  refine (HT.out _).mono ?_
  rintro e w3 ⟨rfl, hb3⟩
  replace HS := hide (HS.out.below hb3)
  clear hb3 ln le l0 l1 l2 l3 l4 l5 l6 l7
  go_upto_region 7 with fail
  refine wp_gen (fun W => ExSt neg z s p6 k 0 0 w W) HS.out ?_
  clear HS
  rintro W4 h7
  refine wp_region_grow 9 [(39, .val (.int .i64 tp)), (40, .val (.pointer (some ⟨p6, 1, none⟩))), (41, .val (.int .i64 (k 1))), (42, .val (.int .i64 (tp - k 1))), (43, .val (.int .i64 (tp - k 1 + 1))), (44, .val (.agg #[.int .i64 (k 0), .int .i64 (k 1), .int .i64 (k 2), .int .i64 (k 3), .int .i64 (k 4)])), (45, .val (.int .i64 lo)), (46, .val (.int .i64 la)), (10, .val (.int .i64 la))]
    (fun W => ExSt neg z s p6 k 0 0 w W) mixedOk (by kernel_rfl) (by kernel_rfl) (h7.below (Below.refl _ _).drew) (fun W W' h hb => h.below hb) ?_ ?_
  · refine gSt (gStep_run rfl (gRun_move 8 39 (.inl rfl) rfl (by decide +kernel) (fun v w h => h))) ?_
    refine gSt (gStep_run rfl ?_) ?_
    · intro ρ W hC hc hf hL
      have e6 : ρ (.tmp 6) = .pointer (some ⟨p6, 0, none⟩) := hL 6 (by decide +kernel)
      simp [go_sem, hc, hf, e6]
      exact ⟨Below.refl _ _, rfl⟩
    refine gSt (gStep_run rfl ?_) ?_
    · intro ρ W hC hc hf hL
      have e40 : ρ (.tmp 40) = .pointer (some ⟨p6, 1, none⟩) := hL 40 (by decide +kernel)
      have l0 := hC.rk 1 (by decide)
      simp [go_sem, hc, hf, e40, l0]
      exact ⟨Below.refl _ _, rfl⟩
    refine gSt (gStep_run rfl ?_) ?_
    · intro ρ W hC hc hf hL
      have e39 : ρ (.tmp 39) = .int .i64 tp := hL 39 (by decide +kernel)
      have e41 : ρ (.tmp 41) = .int .i64 (k 1) := hL 41 (by decide +kernel)
      have l0 : IntKind.i64.wrap (tp - k 1) = tp - k 1 := by rw [IntKind.wrap_i64]; omega
      simp [go_sem, hc, hf, e39, e41, l0]
      exact ⟨Below.refl _ _, rfl⟩
    refine gSt (gStep_run rfl ?_) ?_
    · intro ρ W hC hc hf hL
      have e42 : ρ (.tmp 42) = .int .i64 (tp - k 1) := hL 42 (by decide +kernel)
      have l0 : IntKind.i64.wrap (tp - k 1 + 1) = tp - k 1 + 1 := by rw [IntKind.wrap_i64]; omega
      simp [go_sem, hc, hf, e42, l0]
      exact ⟨Below.refl _ _, rfl⟩
    refine gSt (gStep_run rfl ?_) ?_
    · intro ρ W hC hc hf hL
      have e6 : ρ (.tmp 6) = .pointer (some ⟨p6, 0, none⟩) := hL 6 (by decide +kernel)
      have l0 := hC.rk
      simp [go_sem, hc, hf, e6, l0]
      exact ⟨Below.refl _ _, rfl⟩
    refine gSt (gStep_run rfl ?_) ?_
    · intro ρ W hC hc hf hL
      have e44 : ρ (.tmp 44) = .agg #[.int .i64 (k 0), .int .i64 (k 1), .int .i64 (k 2), .int .i64 (k 3), .int .i64 (k 4)] := hL 44 (by decide +kernel)
      simp [go_sem, hc, hf, e44]
      refine (HLO.out W).mono ?_
      rintro e w' ⟨rfl, hb⟩
      exact ⟨_, rfl, by first | exact hb | (subst hb; exact Below.refl _ _), rfl⟩
    refine gSt (gStep_run rfl ?_) ?_
    · intro ρ W hC hc hf hL
      have e43 : ρ (.tmp 43) = .int .i64 (tp - k 1 + 1) := hL 43 (by decide +kernel)
      have e45 : ρ (.tmp 45) = .int .i64 lo := hL 45 (by decide +kernel)
      have l0 := HMX.out
      simp [go_sem, hc, hf, e43, e45, l0]
      exact ⟨Below.refl _ _, rfl⟩
    refine gSt (gStep_run rfl (gRun_move 46 10 (.inr rfl) rfl (by decide +kernel) (fun v w h => h))) ?_
    exact gSt0
  · intro W hC
    refine gFi 39 rfl ?_
    rintro _ rfl
    refine gFi 40 rfl ?_
    rintro _ rfl
    refine gFi 41 rfl ?_
    rintro _ rfl
    refine gFi 42 rfl ?_
    rintro _ rfl
    refine gFi 43 rfl ?_
    rintro _ rfl
    refine gFi 44 rfl ?_
    rintro _ rfl
    refine gFi 45 rfl ?_
    rintro _ rfl
    refine gFi 46 rfl ?_
    rintro _ rfl
    refine gFi 10 rfl ?_
    rintro _ rfl
    refine gFi0 ?_
    simp only [List.drop_succ_cons, List.drop_zero, Act.put, List.setIfInBounds_toArray, List.set_cons_succ, List.set_cons_zero]
    have HS := hide hC
    clear hC h7
    have ln := HS.out.n.n
    have le := HS.out.n.e
    have l0 := HS.out.n.x0
    have l1 := HS.out.n.x1
    have l2 := HS.out.n.x2
    have l3 := HS.out.n.x3
    have l4 := HS.out.n.x4
    have l5 := HS.out.n.x5
    have l6 := HS.out.n.x6
    have l7 := HS.out.n.x7
    go_wp2_with fail
    refine (HAT.out _).mono ?_
    rintro e w5 ⟨rfl, hb5⟩
    replace HS := hide (HS.out.below hb5)
    clear hb5 ln le l0 l1 l2 l3 l4 l5 l6 l7
    go_upto_region 9 with fail
    refine wp_gen (fun W => ExSt neg z s p6 k 0 0 w W ∧ LiesF W w5.heap.size (dgl u)) ⟨HS.out.below (below_allocs _ _), liesF_new _ _ _⟩ ?_
    clear HS
    generalize w5.heap.size = p11
    rintro W5 ⟨g1, g2⟩
    have HS := hide g1
    have HL := hide g2
    have hk := g1.rk
    clear g1 g2
    have hem := HEM.out
    go_upto_region 11 with fail
    refine wp_gen (fun W => ExSt neg z s p6 k 0 0 w W ∧ LiesF W p11 (dgl u)) ⟨HS.out, HL.out⟩ ?_
    clear HS HL hem hk
    rintro W7 h1
    refine wp_region_grow 5 [(62, .val (.agg #[.int .u64 (dgl (u) 0 : Nat), .int .u64 (dgl (u) 1 : Nat), .int .u64 (dgl (u) 2 : Nat), .int .u64 (dgl (u) 3 : Nat), .int .u64 (dgl (u) 4 : Nat), .int .u64 (dgl (u) 5 : Nat), .int .u64 (dgl (u) 6 : Nat), .int .u64 (dgl (u) 7 : Nat)])), (63, .val (.int .i64 (l : Nat))), (64, .val (.pointer (some ⟨p6, 1, none⟩))), (65, .val (.int .i64 (k 1))), (66, .val (.bool false))]
      (fun W => ExSt neg z s p6 k 0 0 w W ∧ LiesF W p11 (dgl u)) mixedOk (by kernel_rfl) (by kernel_rfl) (⟨h1.1.below (Below.refl _ _).drew, h1.2.below (Below.refl _ _).drew⟩) (fun W W' h hb => ⟨h.1.below hb, h.2.below hb⟩) ?_ ?_
    · refine gSt (gStep_run rfl ?_) ?_
      · intro ρ W hC hc hf hL
        have e11 : ρ (.tmp 11) = .pointer (some ⟨p11, 0, none⟩) := hL 11 (by decide +kernel)
        have l0 := hC.2.1
        simp [go_sem, hc, hf, e11, l0]
        exact ⟨Below.refl _ _, rfl⟩
      refine gSt (gStep_run rfl ?_) ?_
      · intro ρ W hC hc hf hL
        have e62 : ρ (.tmp 62) = .agg #[.int .u64 (dgl (u) 0 : Nat), .int .u64 (dgl (u) 1 : Nat), .int .u64 (dgl (u) 2 : Nat), .int .u64 (dgl (u) 3 : Nat), .int .u64 (dgl (u) 4 : Nat), .int .u64 (dgl (u) 5 : Nat), .int .u64 (dgl (u) 6 : Nat), .int .u64 (dgl (u) 7 : Nat)] := hL 62 (by decide +kernel)
        simp [go_sem, hc, hf, e62]
        refine (HLN.out W).mono ?_
        rintro e w' ⟨rfl, hb⟩
        exact ⟨_, rfl, by first | exact hb | (subst hb; exact Below.refl _ _), rfl⟩
      refine gSt (gStep_run rfl ?_) ?_
      · intro ρ W hC hc hf hL
        have e6 : ρ (.tmp 6) = .pointer (some ⟨p6, 0, none⟩) := hL 6 (by decide +kernel)
        simp [go_sem, hc, hf, e6]
        exact ⟨Below.refl _ _, rfl⟩
      refine gSt (gStep_run rfl ?_) ?_
      · intro ρ W hC hc hf hL
        have e64 : ρ (.tmp 64) = .pointer (some ⟨p6, 1, none⟩) := hL 64 (by decide +kernel)
        have l0 := hC.1.rk 1 (by decide)
        simp [go_sem, hc, hf, e64, l0]
        exact ⟨Below.refl _ _, rfl⟩
      refine gSt (gStep_run rfl ?_) ?_
      · intro ρ W hC hc hf hL
        have e63 : ρ (.tmp 63) = .int .i64 (l : Nat) := hL 63 (by decide +kernel)
        have e65 : ρ (.tmp 65) = .int .i64 (k 1) := hL 65 (by decide +kernel)
        have l0 := HLL.out
        simp [go_sem, hc, hf, e63, e65, l0, -decide_eq_true_eq, -decide_eq_false_iff_not]
        exact ⟨Below.refl _ _, rfl⟩
      exact gSt0
    · intro W hC
      refine gFi 62 rfl ?_
      rintro _ rfl
      refine gFi 63 rfl ?_
      rintro _ rfl
      refine gFi 64 rfl ?_
      rintro _ rfl
      refine gFi 65 rfl ?_
      rintro _ rfl
      refine gFi 66 rfl ?_
      rintro _ rfl
      refine gFi0 ?_
      simp only [List.drop_succ_cons, List.drop_zero, Act.put, List.setIfInBounds_toArray, List.set_cons_succ, List.set_cons_zero]
      have HS := hide hC.1
      have HL := hide hC.2
      clear hC h1
      go_upto_region 13 with fail
      refine wp_gen (fun W => ExSt neg z s p6 k 0 0 w W ∧ LiesF W p11 (dgl u)) ⟨HS.out, HL.out⟩ ?_
      clear HS HL
      rintro W8 h5
      refine wp_region_storeK 12 [10] [75, 76, 77, 78, 79, 80, 74, 81, 82, 13, 14] (fun bs => [(75, .val (.agg #[.int .u64 (dgl (u) 0 : Nat), .int .u64 (dgl (u) 1 : Nat), .int .u64 (dgl (u) 2 : Nat), .int .u64 (dgl (u) 3 : Nat), .int .u64 (dgl (u) 4 : Nat), .int .u64 (dgl (u) 5 : Nat), .int .u64 (dgl (u) 6 : Nat), .int .u64 (dgl (u) 7 : Nat)])), (76, .val (.pointer (some ⟨p6, 1, none⟩))), (77, .val (.int .i64 (k 1))), (78, .val (.int .i64 (k 1 - 1))), (79, .val (.agg #[.int .u64 (dgl (pw) 0 : Nat), .int .u64 (dgl (pw) 1 : Nat), .int .u64 (dgl (pw) 2 : Nat), .int .u64 (dgl (pw) 3 : Nat), .int .u64 (dgl (pw) 4 : Nat), .int .u64 (dgl (pw) 5 : Nat), .int .u64 (dgl (pw) 6 : Nat), .int .u64 (dgl (pw) 7 : Nat)])), (80, .val (.tuple #[.agg #[.int .u64 (dgl (v) 0 : Nat), .int .u64 (dgl (v) 1 : Nat), .int .u64 (dgl (v) 2 : Nat), .int .u64 (dgl (v) 3 : Nat), .int .u64 (dgl (v) 4 : Nat), .int .u64 (dgl (v) 5 : Nat), .int .u64 (dgl (v) 6 : Nat), .int .u64 (dgl (v) 7 : Nat)], .bool ov])), (74, .val (.tuple #[.agg #[.int .u64 (dgl (v) 0 : Nat), .int .u64 (dgl (v) 1 : Nat), .int .u64 (dgl (v) 2 : Nat), .int .u64 (dgl (v) 3 : Nat), .int .u64 (dgl (v) 4 : Nat), .int .u64 (dgl (v) 5 : Nat), .int .u64 (dgl (v) 6 : Nat), .int .u64 (dgl (v) 7 : Nat)], .bool ov])), (81, .val (.agg #[.int .u64 (dgl (v) 0 : Nat), .int .u64 (dgl (v) 1 : Nat), .int .u64 (dgl (v) 2 : Nat), .int .u64 (dgl (v) 3 : Nat), .int .u64 (dgl (v) 4 : Nat), .int .u64 (dgl (v) 5 : Nat), .int .u64 (dgl (v) 6 : Nat), .int .u64 (dgl (v) 7 : Nat)])), (82, .val (.bool ov)), (13, bif bs.headD false then SlotIs.box (p6 + 1) (dgl v) else SlotIs.box (p6 + 1) (fun _ => 0)), (14, .val (.bool ov))])
        (fun bs W => ExSt neg z s p6 k 0 0 w W ∧ (bs.headD false = false → LiesF W p11 (dgl u))) (fun bs => rfl) mixedOk (by kernel_rfl) (by kernel_rfl) (by kernel_rfl) (⟨h5.1.below (Below.refl _ _).drew, fun _ => h5.2.below (Below.refl _ _).drew⟩) (fun bs W W' h hb => ⟨h.1.below hb, fun e => (h.2 e).below hb⟩) ?_ ?_
      · refine kSt rfl (fun φ hφ => gStep_run rfl ?_) ?_
        · intro ρ W hC hc hf hL
          have e11 : ρ (.tmp 11) = .pointer (some ⟨p11, 0, none⟩) := hL 11 (by decide +kernel)
          have hφ0 : φ 10 = false := hφ 10 (by simp) (by kernel_rfl)
          have l0 := (hC.2 hφ0).1
          simp [go_sem, hc, hf, e11, l0]
          exact ⟨Below.refl _ _, rfl⟩
        refine kSt rfl (fun φ hφ => gStep_run rfl ?_) ?_
        · intro ρ W hC hc hf hL
          have e6 : ρ (.tmp 6) = .pointer (some ⟨p6, 0, none⟩) := hL 6 (by decide +kernel)
          simp [go_sem, hc, hf, e6]
          exact ⟨Below.refl _ _, rfl⟩
        refine kSt rfl (fun φ hφ => gStep_run rfl ?_) ?_
        · intro ρ W hC hc hf hL
          have e76 : ρ (.tmp 76) = .pointer (some ⟨p6, 1, none⟩) := hL 76 (by decide +kernel)
          have l0 := hC.1.rk 1 (by decide)
          simp [go_sem, hc, hf, e76, l0]
          exact ⟨Below.refl _ _, rfl⟩
        refine kSt rfl (fun φ hφ => gStep_run rfl ?_) ?_
        · intro ρ W hC hc hf hL
          have e77 : ρ (.tmp 77) = .int .i64 (k 1) := hL 77 (by decide +kernel)
          have l0 : IntKind.i64.wrap (k 1 - 1) = k 1 - 1 := by rw [IntKind.wrap_i64]; omega
          simp [go_sem, hc, hf, e77, l0]
          exact ⟨Below.refl _ _, rfl⟩
        refine kSt rfl (fun φ hφ => gStep_run rfl ?_) ?_
        · intro ρ W hC hc hf hL
          have e78 : ρ (.tmp 78) = .int .i64 (k 1 - 1) := hL 78 (by decide +kernel)
          simp [go_sem, hc, hf, e78]
          refine (HPW.out W).mono ?_
          rintro e w' ⟨rfl, hb⟩
          exact ⟨_, rfl, by first | exact hb | (subst hb; exact Below.refl _ _), rfl⟩
        refine kSt rfl (fun φ hφ => gStep_run rfl ?_) ?_
        · intro ρ W hC hc hf hL
          have e75 : ρ (.tmp 75) = .agg #[.int .u64 (dgl (u) 0 : Nat), .int .u64 (dgl (u) 1 : Nat), .int .u64 (dgl (u) 2 : Nat), .int .u64 (dgl (u) 3 : Nat), .int .u64 (dgl (u) 4 : Nat), .int .u64 (dgl (u) 5 : Nat), .int .u64 (dgl (u) 6 : Nat), .int .u64 (dgl (u) 7 : Nat)] := hL 75 (by decide +kernel)
          have e79 : ρ (.tmp 79) = .agg #[.int .u64 (dgl (pw) 0 : Nat), .int .u64 (dgl (pw) 1 : Nat), .int .u64 (dgl (pw) 2 : Nat), .int .u64 (dgl (pw) 3 : Nat), .int .u64 (dgl (pw) 4 : Nat), .int .u64 (dgl (pw) 5 : Nat), .int .u64 (dgl (pw) 6 : Nat), .int .u64 (dgl (pw) 7 : Nat)] := hL 79 (by decide +kernel)
          simp [go_sem, hc, hf, e75, e79]
          refine (HSB.out W).mono ?_
          rintro e w' ⟨rfl, hb⟩
          exact ⟨_, rfl, by first | exact hb | (subst hb; exact Below.refl _ _), rfl⟩
        refine kSt rfl (fun φ hφ => gStep_run rfl (gRun_move 80 74 (.inl rfl) rfl (by decide +kernel) (fun v w h => h))) ?_
        refine kSt rfl (fun φ hφ => gStep_run rfl ?_) ?_
        · intro ρ W hC hc hf hL
          have e74 : ρ (.tmp 74) = .tuple #[.agg #[.int .u64 (dgl (v) 0 : Nat), .int .u64 (dgl (v) 1 : Nat), .int .u64 (dgl (v) 2 : Nat), .int .u64 (dgl (v) 3 : Nat), .int .u64 (dgl (v) 4 : Nat), .int .u64 (dgl (v) 5 : Nat), .int .u64 (dgl (v) 6 : Nat), .int .u64 (dgl (v) 7 : Nat)], .bool ov] := hL 74 (by decide +kernel)
          simp [go_sem, hc, hf, e74]
          exact ⟨Below.refl _ _, rfl⟩
        refine kSt rfl (fun φ hφ => gStep_run rfl ?_) ?_
        · intro ρ W hC hc hf hL
          have e74 : ρ (.tmp 74) = .tuple #[.agg #[.int .u64 (dgl (v) 0 : Nat), .int .u64 (dgl (v) 1 : Nat), .int .u64 (dgl (v) 2 : Nat), .int .u64 (dgl (v) 3 : Nat), .int .u64 (dgl (v) 4 : Nat), .int .u64 (dgl (v) 5 : Nat), .int .u64 (dgl (v) 6 : Nat), .int .u64 (dgl (v) 7 : Nat)], .bool ov] := hL 74 (by decide +kernel)
          simp [go_sem, hc, hf, e74]
          exact ⟨Below.refl _ _, rfl⟩
        refine kSt rfl (fun φ hφ => gStep_run rfl ?_) ?_
        · intro ρ W hC hc hf hL
          have hφ0 : φ 10 = false := hφ 10 (by simp) (by kernel_rfl)
          simp [go_sem, hc, hf]
          refine ⟨below_allocs _ _, ?_⟩
          show (bif φ 10 then SlotIs.box (p6 + 1) (dgl v) else SlotIs.box (p6 + 1) (fun _ => 0)).R _ _
          rw [hφ0]
          exact ⟨_, rfl, hC.1.lk, liesF_new _ (fun _ => 0) _, fun i => by simp [go_sem]⟩
        refine kStS rfl ⟨rfl, rfl, ?_⟩ ?_
        · intro φ ρ W hφ hC hc hL
          have b13 := hL 13 (by decide +kernel)
          have e81 : ρ (.tmp 81) = .agg #[.int .u64 (dgl (v) 0 : Nat), .int .u64 (dgl (v) 1 : Nat), .int .u64 (dgl (v) 2 : Nat), .int .u64 (dgl (v) 3 : Nat), .int .u64 (dgl (v) 4 : Nat), .int .u64 (dgl (v) 5 : Nat), .int .u64 (dgl (v) 6 : Nat), .int .u64 (dgl (v) 7 : Nat)] := hL 81 (by decide +kernel)
          have b13 : (bif φ 10 then SlotIs.box (p6 + 1) (dgl v) else SlotIs.box (p6 + 1) (fun _ => 0)).R (ρ (.tmp 13)) W := hL 13 (by decide +kernel)
          rw [hφ] at b13
          obtain ⟨p13, e13, q13, l13, z13⟩ := b13
          have hz := l13.1
          have hzl := l13.2
          refine gUpon_of ((((((((W.setCell ⟨p13, 0, none⟩ (.int .u64 (dgl v 0 : Nat))).setCell ⟨p13, 1, none⟩ (.int .u64 (dgl v 1 : Nat))).setCell ⟨p13, 2, none⟩ (.int .u64 (dgl v 2 : Nat))).setCell ⟨p13, 3, none⟩ (.int .u64 (dgl v 3 : Nat))).setCell ⟨p13, 4, none⟩ (.int .u64 (dgl v 4 : Nat))).setCell ⟨p13, 5, none⟩ (.int .u64 (dgl v 5 : Nat))).setCell ⟨p13, 6, none⟩ (.int .u64 (dgl v 6 : Nat))).setCell ⟨p13, 7, none⟩ (.int .u64 (dgl v 7 : Nat))) ?_ (fun _ => ?_)
          · simp [go_sem, hc, e81, e13, hz, hzl, z13, gUpon]
          have hs8 := below_set8 (Below.refl (p6 + 1) W) p13 q13 (.int .u64 (dgl v 0 : Nat)) (.int .u64 (dgl v 1 : Nat)) (.int .u64 (dgl v 2 : Nat)) (.int .u64 (dgl v 3 : Nat)) (.int .u64 (dgl v 4 : Nat)) (.int .u64 (dgl v 5 : Nat)) (.int .u64 (dgl v 6 : Nat)) (.int .u64 (dgl v 7 : Nat))
          refine ⟨⟨hC.1.under hs8 (by omega), fun e => absurd (show (φ 10 || true) = false from e) (by rw [Bool.or_true]; decide)⟩, fun t => ?_⟩
          refine (tbl_imp rfl (fun _ => val_imp) (tbl_imp rfl (fun _ => val_imp) (tbl_imp rfl (fun _ => val_imp) (tbl_imp rfl (fun _ => val_imp) (tbl_imp rfl (fun _ => val_imp) (tbl_imp rfl (fun _ => val_imp) (tbl_imp rfl (fun _ => val_imp) (tbl_imp rfl (fun _ => val_imp) (tbl_imp rfl (fun _ => val_imp) (tbl_imp rfl (fun ht h => ?_) (tbl_imp rfl (fun _ => val_imp) tbl_nil_imp)))))))))))
          subst ht
          show (bif (φ 10 || true) then SlotIs.box (p6 + 1) (dgl v) else SlotIs.box (p6 + 1) (fun _ => 0)).R _ _
          rw [Bool.or_true]
          exact ⟨p13, e13, q13, set8_same W p13 (dgl v) (fun _ => 0) l13, fun i => by simpa [go_sem] using z13 i⟩
        refine kSt rfl (fun φ hφ => gStep_run rfl (gRun_move 82 14 (.inr rfl) rfl (by decide +kernel) (fun v w h => h))) ?_
        exact kSt0
      · intro W hC
        refine gFi 75 rfl ?_
        rintro _ rfl
        refine gFi 76 rfl ?_
        rintro _ rfl
        refine gFi 77 rfl ?_
        rintro _ rfl
        refine gFi 78 rfl ?_
        rintro _ rfl
        refine gFi 79 rfl ?_
        rintro _ rfl
        refine gFi 80 rfl ?_
        rintro _ rfl
        refine gFi 74 rfl ?_
        rintro _ rfl
        refine gFi 81 rfl ?_
        rintro _ rfl
        refine gFi 82 rfl ?_
        rintro _ rfl
        refine gFi 13 rfl ?_
        rintro _ ⟨p13, rfl, q13, l13, z13⟩
        refine gFiN rfl ?_
        refine gFi 14 rfl ?_
        rintro _ rfl
        refine gFi0 ?_
        simp only [List.drop_succ_cons, List.drop_zero, Act.put, List.setIfInBounds_toArray, List.set_cons_succ, List.set_cons_zero]
        have HS := hide hC.1
        have HL := hide l13
        have HN2 := hide q13
        clear hC l13 q13 z13 h5
        go_upto_region 14 with fail
        refine wp_gen (fun W => ExSt neg z s p6 k 0 0 w W ∧ LiesF W p13 (dgl v)) ⟨HS.out, HL.out⟩ ?_
        clear HS HL
        rintro W9 ⟨h5, h6⟩
        refine wp_region_storeK 14 [12] [83, 84, 85, 86, 87, 88, 89, 90, 91, 92, 93, 94, 5] (fun bs => [(83, .val (.int .i64 f)), (84, .val (.pointer (some ⟨w.heap.size, 0, none⟩))), (85, .val (.bool neg)), (86, .val (.int .i64 la)), (87, .val (.agg #[.int .i64 (k 0), .int .i64 (k 1), .int .i64 (k 2), .int .i64 (k 3), .int .i64 (k 4)])), (88, .val (.int .i64 lo)), (89, .val (.int .i64 (la - lo))), (90, .val (.int .i64 (la - lo + 1))), (91, .val (.agg #[.int .u64 (dgl (v) 0 : Nat), .int .u64 (dgl (v) 1 : Nat), .int .u64 (dgl (v) 2 : Nat), .int .u64 (dgl (v) 3 : Nat), .int .u64 (dgl (v) 4 : Nat), .int .u64 (dgl (v) 5 : Nat), .int .u64 (dgl (v) 6 : Nat), .int .u64 (dgl (v) 7 : Nat)])), (92, .val (.tuple #[.agg #[.int .u64 (dgl (c) 1 : Nat), .int .u64 (dgl (c) 0 : Nat)], .bool ok])), (93, .val (.agg #[.int .u64 (dgl (c) 1 : Nat), .int .u64 (dgl (c) 0 : Nat)])), (94, .val (.bool ok)), (5, .val (.bool ok))])
          (fun bs W => ∀ p, bs.headD false = p → ExSt neg z s p6 k (bif p then dgl c 1 else 0) (bif p then dgl c 0 else 0) w W ∧ LiesF W p13 (dgl v)) (fun bs => rfl) mixedOk (by kernel_rfl) (by kernel_rfl) (by kernel_rfl) (fun p hp => by subst hp; exact ⟨h5.below (Below.refl _ _).drew, h6.below (Below.refl _ _).drew⟩) (fun bs W W' h hb p hp => ⟨(h p hp).1.below hb, (h p hp).2.below hb⟩) ?_ ?_
        · refine kSt rfl (fun φ hφ => gStep_run rfl (gRun_move 0 83 (.inl rfl) rfl (by decide +kernel) (fun v w h => h))) ?_
          refine kSt rfl (fun φ hφ => gStep_run rfl ?_) ?_
          · intro ρ W hC hc hf hL
            have e3 : ρ (.tmp 3) = .pointer (some ⟨w.heap.size, 0, none⟩) := hL 3 (by decide +kernel)
            simp [go_sem, hc, hf, e3]
            exact ⟨Below.refl _ _, rfl⟩
          refine kSt rfl (fun φ hφ => gStep_run rfl ?_) ?_
          · intro ρ W hC hc hf hL
            have e84 : ρ (.tmp 84) = .pointer (some ⟨w.heap.size, 0, none⟩) := hL 84 (by decide +kernel)
            have hφ0 : φ 12 = false := hφ 12 (by simp) (by kernel_rfl)
            have hD : ExSt neg z s p6 k 0 0 w W ∧ LiesF W p13 (dgl v) := hC false hφ0
            have l0 := hD.1.n.n
            simp [go_sem, hc, hf, e84, l0]
            exact ⟨Below.refl _ _, rfl⟩
          refine kSt rfl (fun φ hφ => gStep_run rfl (gRun_move 10 86 (.inl rfl) rfl (by decide +kernel) (fun v w h => h))) ?_
          refine kSt rfl (fun φ hφ => gStep_run rfl ?_) ?_
          · intro ρ W hC hc hf hL
            have e6 : ρ (.tmp 6) = .pointer (some ⟨p6, 0, none⟩) := hL 6 (by decide +kernel)
            have hφ0 : φ 12 = false := hφ 12 (by simp) (by kernel_rfl)
            have hD : ExSt neg z s p6 k 0 0 w W ∧ LiesF W p13 (dgl v) := hC false hφ0
            have l0 := hD.1.rk
            simp [go_sem, hc, hf, e6, l0]
            exact ⟨Below.refl _ _, rfl⟩
          refine kSt rfl (fun φ hφ => gStep_run rfl ?_) ?_
          · intro ρ W hC hc hf hL
            have e87 : ρ (.tmp 87) = .agg #[.int .i64 (k 0), .int .i64 (k 1), .int .i64 (k 2), .int .i64 (k 3), .int .i64 (k 4)] := hL 87 (by decide +kernel)
            simp [go_sem, hc, hf, e87]
            refine (HLO.out W).mono ?_
            rintro e w' ⟨rfl, hb⟩
            exact ⟨_, rfl, by first | exact hb | (subst hb; exact Below.refl _ _), rfl⟩
          refine kSt rfl (fun φ hφ => gStep_run rfl ?_) ?_
          · intro ρ W hC hc hf hL
            have e86 : ρ (.tmp 86) = .int .i64 la := hL 86 (by decide +kernel)
            have e88 : ρ (.tmp 88) = .int .i64 lo := hL 88 (by decide +kernel)
            have l0 : IntKind.i64.wrap (la - lo) = la - lo := by rw [IntKind.wrap_i64]; omega
            simp [go_sem, hc, hf, e86, e88, l0]
            exact ⟨Below.refl _ _, rfl⟩
          refine kSt rfl (fun φ hφ => gStep_run rfl ?_) ?_
          · intro ρ W hC hc hf hL
            have e89 : ρ (.tmp 89) = .int .i64 (la - lo) := hL 89 (by decide +kernel)
            have l0 : IntKind.i64.wrap (la - lo + 1) = la - lo + 1 := by rw [IntKind.wrap_i64]; omega
            simp [go_sem, hc, hf, e89, l0]
            exact ⟨Below.refl _ _, rfl⟩
          refine kSt rfl (fun φ hφ => gStep_run rfl ?_) ?_
          · intro ρ W hC hc hf hL
            have e13 : ρ (.tmp 13) = .pointer (some ⟨p13, 0, none⟩) := hL 13 (by decide +kernel)
            have hφ0 : φ 12 = false := hφ 12 (by simp) (by kernel_rfl)
            have hD : ExSt neg z s p6 k 0 0 w W ∧ LiesF W p13 (dgl v) := hC false hφ0
            have l0 := hD.2.1
            simp [go_sem, hc, hf, e13, l0]
            exact ⟨Below.refl _ _, rfl⟩
          refine kSt rfl (fun φ hφ => gStep_run rfl ?_) ?_
          · intro ρ W hC hc hf hL
            have e83 : ρ (.tmp 83) = .int .i64 f := hL 83 (by decide +kernel)
            have e85 : ρ (.tmp 85) = .bool neg := hL 85 (by decide +kernel)
            have e90 : ρ (.tmp 90) = .int .i64 (la - lo + 1) := hL 90 (by decide +kernel)
            have e91 : ρ (.tmp 91) = .agg #[.int .u64 (dgl (v) 0 : Nat), .int .u64 (dgl (v) 1 : Nat), .int .u64 (dgl (v) 2 : Nat), .int .u64 (dgl (v) 3 : Nat), .int .u64 (dgl (v) 4 : Nat), .int .u64 (dgl (v) 5 : Nat), .int .u64 (dgl (v) 6 : Nat), .int .u64 (dgl (v) 7 : Nat)] := hL 91 (by decide +kernel)
            have hφ0 : φ 12 = false := hφ 12 (by simp) (by kernel_rfl)
            have hD : ExSt neg z s p6 k 0 0 w W ∧ LiesF W p13 (dgl v) := hC false hφ0
            simp [go_sem, hc, hf, e83, e85, e90, e91]
            refine (HMK.out W hD.1.g).mono ?_
            rintro e w' ⟨rfl, hb⟩
            exact ⟨_, rfl, by first | exact hb | (subst hb; exact Below.refl _ _), rfl⟩
          refine kSt rfl (fun φ hφ => gStep_run rfl ?_) ?_
          · intro ρ W hC hc hf hL
            have e92 : ρ (.tmp 92) = .tuple #[.agg #[.int .u64 (dgl (c) 1 : Nat), .int .u64 (dgl (c) 0 : Nat)], .bool ok] := hL 92 (by decide +kernel)
            simp [go_sem, hc, hf, e92]
            exact ⟨Below.refl _ _, rfl⟩
          refine kSt rfl (fun φ hφ => gStep_run rfl ?_) ?_
          · intro ρ W hC hc hf hL
            have e92 : ρ (.tmp 92) = .tuple #[.agg #[.int .u64 (dgl (c) 1 : Nat), .int .u64 (dgl (c) 0 : Nat)], .bool ok] := hL 92 (by decide +kernel)
            simp [go_sem, hc, hf, e92]
            exact ⟨Below.refl _ _, rfl⟩
          refine kStS rfl ⟨rfl, rfl, ?_⟩ ?_
          · intro φ ρ W hφ hC hc hL
            have e4 : ρ (.tmp 4) = .pointer (some ⟨w.heap.size + 1, 0, none⟩) := hL 4 (by decide +kernel)
            have e93 : ρ (.tmp 93) = .agg #[.int .u64 (dgl (c) 1 : Nat), .int .u64 (dgl (c) 0 : Nat)] := hL 93 (by decide +kernel)
            have hD : ExSt neg z s p6 k 0 0 w W ∧ LiesF W p13 (dgl v) := hC false hφ
            have q0 := hD.1.r.h
            have q1 := hD.1.r.l
            have hrf := hD.1.fr
            have hrl := hD.1.r.lt
            refine gUpon_of ((W.setCell ⟨w.heap.size + 1, 0, none⟩ (.int .u64 (dgl c 1 : Nat))).setCell ⟨w.heap.size + 1, 1, none⟩ (.int .u64 (dgl c 0 : Nat))) ?_ (fun _ => ?_)
            · simp [go_sem, hc, e4, e93, hrf, hrl, q0, q1, gUpon]
            refine ⟨fun p hp => ?_, fun t => (tbl_imp rfl (fun _ => val_imp) (tbl_imp rfl (fun _ => val_imp) (tbl_imp rfl (fun _ => val_imp) (tbl_imp rfl (fun _ => val_imp) (tbl_imp rfl (fun _ => val_imp) (tbl_imp rfl (fun _ => val_imp) (tbl_imp rfl (fun _ => val_imp) (tbl_imp rfl (fun _ => val_imp) (tbl_imp rfl (fun _ => val_imp) (tbl_imp rfl (fun _ => val_imp) (tbl_imp rfl (fun _ => val_imp) (tbl_imp rfl (fun _ => val_imp) (tbl_imp rfl (fun _ => val_imp) tbl_nil_imp)))))))))))))⟩
            have hp2 : (φ 12 || true) = p := hp
            rw [Bool.or_true] at hp2
            subst hp2
            exact ⟨hD.1.setR (dgl c 1) (dgl c 0), lies_set2 hD.2 (by have h5 := hD.1.lo; have h6 := HN2.out; omega)⟩
          refine kSt rfl (fun φ hφ => gStep_run rfl (gRun_move 94 5 (.inr rfl) rfl (by decide +kernel) (fun v w h => h))) ?_
          exact kSt0
        · intro W hC
          refine gFi 83 rfl ?_
          rintro _ rfl
          refine gFi 84 rfl ?_
          rintro _ rfl
          refine gFi 85 rfl ?_
          rintro _ rfl
          refine gFi 86 rfl ?_
          rintro _ rfl
          refine gFi 87 rfl ?_
          rintro _ rfl
          refine gFi 88 rfl ?_
          rintro _ rfl
          refine gFi 89 rfl ?_
          rintro _ rfl
          refine gFi 90 rfl ?_
          rintro _ rfl
          refine gFi 91 rfl ?_
          rintro _ rfl
          refine gFi 92 rfl ?_
          rintro _ rfl
          refine gFi 93 rfl ?_
          rintro _ rfl
          refine gFi 94 rfl ?_
          rintro _ rfl
          refine gFiN rfl ?_
          refine gFi 5 rfl ?_
          rintro _ rfl
          refine gFi0 ?_
          simp only [List.drop_succ_cons, List.drop_zero, Act.put, List.setIfInBounds_toArray, List.set_cons_succ, List.set_cons_zero]
          have HC := hide (hC true rfl).1
          clear hC h5 h6
          have q0 := HC.out.r.h
          have q1 := HC.out.r.l
          simp only [cond_true] at q0 q1
          have hlt := HC.out.r.lt
          have HB := hide HC.out.bel
          clear HC
          go_wp2
          exact bodyPost_ret (v := .tuple #[.agg #[.int .u64 (dgl (c) 1 : Nat), .int .u64 (dgl (c) 0 : Nat)], .bool ok]) (by simp [results, Tryd.results11, go_sem, hlt, q0, q1]) rfl ⟨rfl, HB.out⟩

end Go.Proofs.YtpcjdllijkjdkaaDoor

/- Small laws: bounds of right numbers; == on words. -/
set_option linter.unusedVariables false
set_option linter.unusedSimpArgs false
set_option maxRecDepth 8000
namespace Go.Proofs.YtpcjdllijkjdkaaDoor
open Go.RowKit Plain

theorem rgtB {z : Int} (h : rgt z = true) : -1048576 ≤ z ∧ z ≤ 1048576 := by
  unfold rgt at h
  rw [Bool.and_eq_true, decide_eq_true_iff, decide_eq_true_iff] at h
  exact h
theorem wordEq {a b : Nat} (ha : a < 2 ^ 128) (hb : b < 2 ^ 128) (w : World) : (Op.equalIn 10000 28 (.agg #[.int .u64 (dgl (a) 1 : Nat), .int .u64 (dgl (a) 0 : Nat)]) (.agg #[.int .u64 (dgl (b) 1 : Nat), .int .u64 (dgl (b) 0 : Nat)])).run Tryd.prog w = .ok (decide (a = b)) w := by
  have u3 := Tryd.underlying22
  have uw := Tryd.underlying28
  have e1 := word_back a ha
  have e2 := word_back b hb
  have hk : a = b ↔ (dgl a 1 = dgl b 1 ∧ dgl a 0 = dgl b 0) := by
    constructor
    · intro h; subst h; exact ⟨rfl, rfl⟩
    · rintro ⟨h1, h2⟩
      rw [← e1, ← e2, h1, h2]
  rw [show decide (a = b) = decide (dgl a 1 = dgl b 1 ∧ dgl a 0 = dgl b 0) from decide_eq_decide.2 hk]
  generalize dgl a 1 = x1
  generalize dgl a 0 = x0
  generalize dgl b 1 = y1
  generalize dgl b 0 = y0
  rw [show (10000 : Nat) = 9999 + 1 from rfl]
  go_simp
  simp only [Int.ofNat_inj]
  by_cases h1 : x1 = y1
  · by_cases h2 : x0 = y0
    · simp [h1, h2]
    · simp [h1, h2]
  · simp [h1]

end Go.Proofs.YtpcjdllijkjdkaaDoor

/- Contracts: unpack.Exact at a number that a word stands for. -/
set_option linter.unusedVariables false
set_option linter.unusedSimpArgs false
set_option maxRecDepth 8000
namespace Go.Proofs.YtpcjdllijkjdkaaDoor
open Go.RowKit Plain

def emU (f : Int) : Int := tU f 15 127 1023 16383 0
theorem kU_2 (f : Int) (h : 1 ≤ f ∧ f ≤ 4) : kU f 2 = emU f := by
  rcases f_cases f with rfl | rfl | rfl | rfl | h0
  · rfl
  · rfl
  · rfl
  · rfl
  · omega
theorem loU_eq (f : Int) (h : 1 ≤ f ∧ f ≤ 4) : loU f = 2 - emU f - (prU f : Int) := by
  rcases f_cases f with rfl | rfl | rfl | rfl | h0
  · rfl
  · rfl
  · rfl
  · rfl
  · omega
theorem fin_fldN {B P F a : Nat} (h : 4 ≤ clsN B P F a) : fldN B P F a + 2 ≤ 2 ^ F := by
  unfold clsN at h
  by_cases hb : a < 2 ^ B
  · rw [if_pos hb] at h
    rw [show fldN B P F a = a / 2 ^ (P - 1) % 2 ^ F from if_pos hb]
    have hl := Nat.mod_lt (a / 2 ^ (P - 1)) (Nat.two_pow_pos F)
    generalize a / 2 ^ (P - 1) % 2 ^ F = fd at *
    unfold clsP at h
    by_cases he : fd = 2 ^ F - 1
    · rw [if_pos he] at h
      repeat' split at h
      all_goals omega
    · omega
  · rw [if_neg hb] at h
    omega
theorem fin_fld {f : Int} {a : Nat} (h : 4 ≤ clsU f a) : (fldU f a : Int) ≤ 2 * emU f := by
  rcases f_cases f with rfl | rfl | rfl | rfl | h0
  · have := fin_fldN (B := 16) (P := 11) (F := 5) h
    show ((fldN 16 11 5 a : Nat) : Int) ≤ 2 * 15
    omega
  · have := fin_fldN (B := 32) (P := 24) (F := 8) h
    show ((fldN 32 24 8 a : Nat) : Int) ≤ 2 * 127
    omega
  · have := fin_fldN (B := 64) (P := 53) (F := 11) h
    show ((fldN 64 53 11 a : Nat) : Int) ≤ 2 * 1023
    omega
  · have := fin_fldN (B := 128) (P := 113) (F := 15) h
    show ((fldN 128 113 15 a : Nat) : Int) ≤ 2 * 16383
    omega
  · rw [show clsU f a = 0 from tU_none f h0 _ _ _ _ _] at h
    omega
/-- The word of 0, with a sign. -/
def ngtU (f : Int) (neg : Bool) : Nat := tU f (bif neg then 32768 else 0) (bif neg then 2147483648 else 0) (bif neg then 9223372036854775808 else 0) (bif neg then 170141183460469231731687303715884105728 else 0) 0
theorem nought_u (f : Int) (h : 1 ≤ f ∧ f ≤ 4) (neg : Bool) (w : World) (hg : FmtG w) : Calls Tryd.prog 49 #[.int .i64 f, .bool neg] w fun e w' => e = .returned (.agg #[.int .u64 (dgl (ngtU f neg) 1 : Nat), .int .u64 (dgl (ngtU f neg) 0 : Nat)]) ∧ Below w.heap.size w w' := by
  rcases f_cases f with rfl | rfl | rfl | rfl | h0
  · exact nought_1 neg w hg
  · exact nought_2 neg w hg
  · exact nought_3 neg w hg
  · exact nought_4 neg w hg
  · omega
theorem ngtN_own {B P F a : Nat} (hB : B = P + F) (hP : 0 < P) (h : a < 2 ^ B) (h1 : fldN B P F a = 0) (h2 : frcN B P a = 0) : a = bif negN B a then 2 ^ (B - 1) else 0 := by
  unfold fldN at h1
  unfold frcN at h2
  rw [if_pos h] at h1 h2
  unfold negN
  rw [decide_eq_true h, Bool.true_and]
  have e1 := Nat.div_add_mod a (2 ^ (P - 1))
  have e2 := Nat.div_add_mod (a / 2 ^ (P - 1)) (2 ^ F)
  rw [h2, Nat.add_zero] at e1
  rw [h1, Nat.add_zero, Nat.div_div_eq_div_mul, ← Nat.pow_add, show P - 1 + F = B - 1 by omega] at e2
  have e3 : a = 2 ^ (B - 1) * (a / 2 ^ (B - 1)) := by
    rw [← e2, ← Nat.mul_assoc, ← Nat.pow_add, show P - 1 + F = B - 1 by omega] at e1
    exact e1.symm
  have h5 := pow_half B (by omega)
  have h6 : a / 2 ^ (B - 1) < 2 := by
    rw [Nat.div_lt_iff_lt_mul (Nat.two_pow_pos _)]
    omega
  generalize a / 2 ^ (B - 1) = q at *
  have hq : q = 0 ∨ q = 1 := by omega
  rcases hq with rfl | rfl
  · simpa using e3
  · simpa using e3
theorem ngt_own {f : Int} {a : Nat} (h4 : 4 ≤ clsU f a) (h0 : sigU f a = 0) : ngtU f (negU f a) = a := by
  have hf : 1 ≤ f ∧ f ≤ 4 := cls_form (a := a) (by omega)
  have h1 : fldU f a = 0 := Classical.byContradiction fun hn => by
    unfold sigU at h0
    rw [if_neg hn] at h0
    have := Nat.two_pow_pos (prU f - 1)
    omega
  have h2 : frcU f a = 0 := by unfold sigU at h0; rw [if_pos h1] at h0; exact h0
  rcases f_cases f with rfl | rfl | rfl | rfl | h
  · exact (ngtN_own (B := 16) (P := 11) (F := 5) rfl (by decide) (cls_fit (B := 16) (P := 11) (F := 5) (show clsN 16 11 5 a ≠ 0 from fun e => by rw [show clsU 1 a = clsN 16 11 5 a from rfl] at h4; omega)) h1 h2).symm
  · exact (ngtN_own (B := 32) (P := 24) (F := 8) rfl (by decide) (cls_fit (B := 32) (P := 24) (F := 8) (show clsN 32 24 8 a ≠ 0 from fun e => by rw [show clsU 2 a = clsN 32 24 8 a from rfl] at h4; omega)) h1 h2).symm
  · exact (ngtN_own (B := 64) (P := 53) (F := 11) rfl (by decide) (cls_fit (B := 64) (P := 53) (F := 11) (show clsN 64 53 11 a ≠ 0 from fun e => by rw [show clsU 3 a = clsN 64 53 11 a from rfl] at h4; omega)) h1 h2).symm
  · exact (ngtN_own (B := 128) (P := 113) (F := 15) rfl (by decide) (cls_fit (B := 128) (P := 113) (F := 15) (show clsN 128 113 15 a ≠ 0 from fun e => by rw [show clsU 4 a = clsN 128 113 15 a from rfl] at h4; omega)) h1 h2).symm
  · omega

/-- A Sig that is normal has all its digits, one that isn't has less. -/
theorem sig_len (f : Int) (a : Nat) (hf : 1 ≤ f ∧ f ≤ 4) : (fldU f a ≠ 0 → Go.bitLen (sigU f a) = prU f) ∧ (fldU f a = 0 → Go.bitLen (sigU f a) ≤ prU f - 1) := by
  have hp := prU_bd f hf
  have h1 := frcU_lt f a hf
  have h2 := sigU_lt f a hf
  constructor
  · intro h0
    have e : sigU f a = frcU f a + 2 ^ (prU f - 1) := if_neg h0
    have h3 := (len_le (sigU f a) (prU f)).2 h2
    have h4 : ¬ Go.bitLen (sigU f a) ≤ prU f - 1 := fun h => by
      have := (len_le (sigU f a) (prU f - 1)).1 h
      omega
    omega
  · intro h0
    have e : sigU f a = frcU f a := if_pos h0
    rw [e]
    exact (len_le _ _).2 h1
theorem same_top {a b : Nat} {ea eb m : Int} (ha : a ≠ 0) (hb : b ≠ 0) (h1 : m ≤ ea) (h2 : m ≤ eb) (h : vl a ea m = vl b eb m) : ea + (Go.bitLen a : Int) = eb + (Go.bitLen b : Int) := by
  have h3 := (sizeZ_spec a b ea eb m h1 h2).2.2 h
  unfold sizeZ at h3
  rw [if_neg ha, if_neg hb] at h3
  refine Classical.byContradiction fun ht => ?_
  rw [if_pos ht] at h3
  omega
theorem vl_cancel {a b : Nat} {ea eb m : Int} (h1 : m ≤ ea) (h2 : ea ≤ eb) (h : vl a ea m = vl b eb m) : a = b * 2 ^ (eb - ea).toNat := by
  unfold vl at h
  rw [show (eb - m).toNat = (eb - ea).toNat + (ea - m).toNat by omega, Nat.pow_add, ← Nat.mul_assoc] at h
  exact Nat.eq_of_mul_eq_mul_right (Nat.two_pow_pos _) h
theorem shr_num (s n : Nat) (h : n ≤ 512) (hs : s < QQ) (w : World) : Calls Tryd.prog 108 #[.agg #[.int .u64 (dgl (s) 0 : Nat), .int .u64 (dgl (s) 1 : Nat), .int .u64 (dgl (s) 2 : Nat), .int .u64 (dgl (s) 3 : Nat), .int .u64 (dgl (s) 4 : Nat), .int .u64 (dgl (s) 5 : Nat), .int .u64 (dgl (s) 6 : Nat), .int .u64 (dgl (s) 7 : Nat)], .int .i64 (n : Nat)] w fun e w' => e = .returned (.tuple #[.agg #[.int .u64 (dgl (s / 2 ^ n) 0 : Nat), .int .u64 (dgl (s / 2 ^ n) 1 : Nat), .int .u64 (dgl (s / 2 ^ n) 2 : Nat), .int .u64 (dgl (s / 2 ^ n) 3 : Nat), .int .u64 (dgl (s / 2 ^ n) 4 : Nat), .int .u64 (dgl (s / 2 ^ n) 5 : Nat), .int .u64 (dgl (s / 2 ^ n) 6 : Nat), .int .u64 (dgl (s / 2 ^ n) 7 : Nat)], .bool (!decide (s / 2 ^ n * 2 ^ n = s))]) ∧ Below w.heap.size w w' :=
  wideShr_any s n (n : Int) (by unfold roomI; omega) hs w
/-- unpack.at, where no digit is lost. -/
theorem at_word (neg : Bool) (z x m : Int) (s u : Nat) (hs : s < QQ) (hu : u < QQ) (hu0 : u ≠ 0) (hz : -1048576 ≤ z ∧ z ≤ 1048576) (hx : -3000000 ≤ x ∧ x ≤ 3000000) (h1 : m ≤ z) (h2 : m ≤ x) (h : vl s z m = vl u x m) (w : World) :
    Calls Tryd.prog 51 #[.agg #[.bool (neg), .int .i64 (z), .int .u64 (dgl (s) 0 : Nat), .int .u64 (dgl (s) 1 : Nat), .int .u64 (dgl (s) 2 : Nat), .int .u64 (dgl (s) 3 : Nat), .int .u64 (dgl (s) 4 : Nat), .int .u64 (dgl (s) 5 : Nat), .int .u64 (dgl (s) 6 : Nat), .int .u64 (dgl (s) 7 : Nat)], .int .i64 x] w fun e w' => e = .returned (.tuple #[.agg #[.int .u64 (dgl (u) 0 : Nat), .int .u64 (dgl (u) 1 : Nat), .int .u64 (dgl (u) 2 : Nat), .int .u64 (dgl (u) 3 : Nat), .int .u64 (dgl (u) 4 : Nat), .int .u64 (dgl (u) 5 : Nat), .int .u64 (dgl (u) 6 : Nat), .int .u64 (dgl (u) 7 : Nat)], .bool true]) ∧ Below w.heap.size w w' := by
  by_cases hzx : x ≤ z
  · have e := vl_cancel (a := u) (b := s) h2 hzx h.symm
    have hs0 : s ≠ 0 := fun h0 => hu0 (by rw [e, h0, Nat.zero_mul])
    have ht := same_top hs0 hu0 h1 h2 h
    have l1 := len_pos hs0
    have l2 := len_qq hu
    refine at_U neg false z x s u hz hx hzx (fun w => ?_) w
    have h3 := shl_num s (z - x).toNat (by omega) hs w
    rw [← e, show (((z - x).toNat : Nat) : Int) = z - x by omega] at h3
    exact h3
  · have e := vl_cancel (a := s) (b := u) h1 (show z ≤ x by omega) h
    have hs0 : s ≠ 0 := fun h0 => by
      rw [h0] at e
      have := Nat.mul_pos (Nat.pos_of_ne_zero hu0) (Nat.two_pow_pos (x - z).toNat)
      omega
    have ht := same_top hs0 hu0 h1 h2 h
    have l1 := len_pos hu0
    have l2 := len_qq hs
    have e2 : s / 2 ^ (x - z).toNat = u := by rw [e, Nat.mul_div_cancel _ (Nat.two_pow_pos _)]
    refine at_D neg false z x s u hz hx hzx (fun w => ?_) w
    have h3 := shr_num s (x - z).toNat (by omega) hs w
    rw [e2, ← e, decide_eq_true rfl, show (((x - z).toNat : Nat) : Int) = x - z by omega] at h3
    exact h3

theorem exact_word (f : Int) (a : Nat) (h4 : 4 ≤ clsU f a) (z m : Int) (s : Nat) (hs : s < QQ) (hr : rgt z = true) (h1 : m ≤ z) (h2 : m ≤ expU f a) (hv : vl s z m = vl (sigU f a) (expU f a) m) (w : World) (hg : FmtG w) :
    Calls Tryd.prog 11 #[.int .i64 f, .agg #[.bool (negU f a), .int .i64 (z), .int .u64 (dgl (s) 0 : Nat), .int .u64 (dgl (s) 1 : Nat), .int .u64 (dgl (s) 2 : Nat), .int .u64 (dgl (s) 3 : Nat), .int .u64 (dgl (s) 4 : Nat), .int .u64 (dgl (s) 5 : Nat), .int .u64 (dgl (s) 6 : Nat), .int .u64 (dgl (s) 7 : Nat)]] w fun e w' => e = .returned (.tuple #[.agg #[.int .u64 (dgl (a) 1 : Nat), .int .u64 (dgl (a) 0 : Nat)], .bool true]) ∧ Below w.heap.size w w' := by
  have hf : 1 ≤ f ∧ f ≤ 4 := cls_form (a := a) (by omega)
  have HO := fun w hg => of_u f hf w hg
  have HR := fun w => uRight_any (negU f a) z s w
  rw [hr] at HR
  have hz := rgtB hr
  by_cases h0 : s = 0
  · have hs0 : sigU f a = 0 := Classical.byContradiction fun hn => by
      have := vl_pos (expU f a) m hn
      rw [h0, vl_zero] at hv
      omega
    subst h0
    have HN := fun w hg => nought_u f hf (negU f a) w hg
    rw [ngt_own h4 hs0] at HN
    exact exact_Z f z 0 0 0 (negU f a) false false false (kU f) 0 0 0 0 0 a HO HR (fun w => top_Z (negU f a) z 0 hr hz w) HN w hg
  · have hs0 : sigU f a ≠ 0 := fun hn => by
      have := vl_pos z m h0
      rw [hn, vl_zero] at hv
      omega
    have ht := same_top h0 hs0 h1 h2 hv
    have hp := prU_bd f hf
    have hl := sig_len f a hf
    have hlo := loU_bd f
    have hfl := fin_fld h4
    have hle := loU_eq f hf
    have k1 := kU_1 f hf
    have k2 := kU_2 f hf
    have hfd := fldU_le f a
    have hrq := Nat.lt_trans (frcU_lt f a hf) (pow_qq (prU f - 1) (by omega))
    have lp := len_pos hs0
    have hq := sigU_qq f a hf
    have HT := fun w => top_Y (negU f a) z s hr hz hs h0 w
    have HLO := fun w => low_u f hf w
    by_cases hn : fldU f a = 0
    · have e1 : sigU f a = frcU f a := if_pos hn
      have e2 : expU f a = loU f := if_pos hn
      have l2 := hl.2 hn
      have HAT := fun w => at_word (negU f a) z (expU f a) m s (sigU f a) hs hq hs0 hz (by omega) h1 h2 hv w
      have HMK := fun w hg => makeOwn_u f a (by omega) w hg
      rw [hn, ← e1] at HMK
      exact exact_S f z _ (loU f) (expU f a) (negU f a) false true false (kU f) s (sigU f a) 0 (Go.bitLen (sigU f a)) 0 a HO HR HT (by omega) (by omega) hlo (by unfold Hid; omega) (by omega) HLO HAT (by unfold Hid; omega)
        (fun w => wideLen_any _ hq w) (by unfold Hid; rw [decide_eq_true_iff]; omega) HMK w hg
    · have e1 : sigU f a = frcU f a + 2 ^ (prU f - 1) := if_neg hn
      have e2 : expU f a = loU f + ((fldU f a : Int) - 1) := if_neg hn
      have l2 := hl.1 hn
      have HAT := fun w => at_word (negU f a) z (expU f a) m s (sigU f a) hs hq hs0 hz (by omega) h1 h2 hv w
      have HMK := fun w hg => makeOwn_u f a (by omega) w hg
      rw [show ((fldU f a : Nat) : Int) = expU f a - loU f + 1 by omega] at HMK
      have HPW := fun w => pow_num (prU f - 1) (kU f 1 - 1) (by omega) (by rw [k1]; omega) w
      have HSB := fun w => wideSub_any (sigU f a) (2 ^ (prU f - 1)) hq (pow_qq _ (by omega)) w
      rw [subQ_le hq (by omega), show sigU f a - 2 ^ (prU f - 1) = frcU f a by omega] at HSB
      exact exact_N f z _ (loU f) (expU f a) (negU f a) false true _ (kU f) s (sigU f a) (frcU f a) (Go.bitLen (sigU f a)) (2 ^ (prU f - 1)) a HO HR HT (by omega) (by omega) hlo (by unfold Hid; omega) (by omega) HLO HAT (by unfold Hid; omega)
        (fun w => wideLen_any _ hq w) (by unfold Hid; rw [decide_eq_false_iff_not]; omega) HPW HSB HMK w hg

end Go.Proofs.YtpcjdllijkjdkaaDoor

/- Contracts: the document's Value. -/
set_option linter.unusedVariables false
set_option linter.unusedSimpArgs false
set_option maxRecDepth 8000
namespace Go.Proofs.YtpcjdllijkjdkaaDoor
open Go.RowKit Plain

def SlotIs.nbox (B : Nat) (neg : Bool) (z : Int) (s : Nat) : SlotIs :=
  ⟨fun v w => ∃ b, v = .pointer (some ⟨b, 0, none⟩) ∧ B ≤ b ∧ NB w b neg z s ∧ ∀ i, w.frozen? ⟨b, i, none⟩ = false,
   fun v w w' hb ⟨b, h1, h2, h3, h4⟩ => ⟨b, h1, h2, h3.below hb, fun i => (hb.frozen (p := ⟨b, i, none⟩) h3.lt).trans (h4 i)⟩⟩
end Go.Proofs.YtpcjdllijkjdkaaDoor

