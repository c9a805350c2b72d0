/- Contracts and laws: UnpL, UnpK, UnpM, UnpN. -/
import Derived.Test.YtpcjdllijkjdkaaGreatDoorPartAW
/- Contracts: unpack.at, Exact, over what their parts tell. -/
set_option linter.unusedVariables false
set_option linter.unusedSimpArgs false
set_option maxRecDepth 8000
namespace Go.Proofs.YtpcjdllijkjdkaaGreatDoor
open Go.RowKit Plain

structure AtSt (neg : Bool) (z : Int) (s : Nat) (w W : World) : Prop where
  n : NB W w.heap.size neg z s
  r : LiesF W (w.heap.size + 1) (fun _ => 0)
  fr : ∀ i, W.frozen? ⟨w.heap.size + 1, i, none⟩ = false
  bel : Below w.heap.size w W
theorem AtSt.below {neg : Bool} {z : Int} {s : Nat} {w W W' : World} (h : AtSt neg z s w W) (hb : Below W.heap.size W W') : AtSt neg z s w W' :=
  ⟨h.n.below hb, h.r.below hb, fun i => (hb.frozen (p := ⟨w.heap.size + 1, i, none⟩) h.r.2).trans (h.fr i), below_trans h.bel hb⟩
theorem atSt_start (neg : Bool) (z : Int) (s : Nat) (w : World) : AtSt neg z s w ((w.alloc (.cells #[.bool (neg), .int .i64 (z), .int .u64 (dgl (s) 0 : Nat), .int .u64 (dgl (s) 1 : Nat), .int .u64 (dgl (s) 2 : Nat), .int .u64 (dgl (s) 3 : Nat), .int .u64 (dgl (s) 4 : Nat), .int .u64 (dgl (s) 5 : Nat), .int .u64 (dgl (s) 6 : Nat), .int .u64 (dgl (s) 7 : Nat)] 27)).alloc (.cells #[.int .u64 0, .int .u64 0, .int .u64 0, .int .u64 0, .int .u64 0, .int .u64 0, .int .u64 0, .int .u64 0] 25)) := by
  have h1 := liesF_new (w.alloc (.cells #[.bool (neg), .int .i64 (z), .int .u64 (dgl (s) 0 : Nat), .int .u64 (dgl (s) 1 : Nat), .int .u64 (dgl (s) 2 : Nat), .int .u64 (dgl (s) 3 : Nat), .int .u64 (dgl (s) 4 : Nat), .int .u64 (dgl (s) 5 : Nat), .int .u64 (dgl (s) 6 : Nat), .int .u64 (dgl (s) 7 : Nat)] 27)) (fun _ => 0) 25
  rw [World.size_alloc] at h1
  exact ⟨(nb_new w neg z s 27).below (below_allocs _ _), h1, fun i => by simp [go_sem], below_trans (below_allocs _ _) (below_allocs _ _)⟩

set_option maxHeartbeats 2000000 in
theorem at_U (neg lost : Bool) (z x : Int) (s u : Nat)
    (hz : -1048576 ≤ z ∧ z ≤ 1048576) (hx : -3000000 ≤ x ∧ x ≤ 3000000)
    (h : x ≤ z)
    (HSH : Hid (∀ w, Calls Tryz.prog 74 #[.agg #[.int .u64 (dgl (s) 0 : Nat), .int .u64 (dgl (s) 1 : Nat), .int .u64 (dgl (s) 2 : Nat), .int .u64 (dgl (s) 3 : Nat), .int .u64 (dgl (s) 4 : Nat), .int .u64 (dgl (s) 5 : Nat), .int .u64 (dgl (s) 6 : Nat), .int .u64 (dgl (s) 7 : Nat)], .int .i64 (z - x)] w fun e w' => e = .returned (.agg #[.int .u64 (dgl (u) 0 : Nat), .int .u64 (dgl (u) 1 : Nat), .int .u64 (dgl (u) 2 : Nat), .int .u64 (dgl (u) 3 : Nat), .int .u64 (dgl (u) 4 : Nat), .int .u64 (dgl (u) 5 : Nat), .int .u64 (dgl (u) 6 : Nat), .int .u64 (dgl (u) 7 : Nat)]) ∧ Below w.heap.size w w')) (w : World) :
    Calls Tryz.prog 55 #[.agg #[.bool (neg), .int .i64 (z), .int .u64 (dgl (s) 0 : Nat), .int .u64 (dgl (s) 1 : Nat), .int .u64 (dgl (s) 2 : Nat), .int .u64 (dgl (s) 3 : Nat), .int .u64 (dgl (s) 4 : Nat), .int .u64 (dgl (s) 5 : Nat), .int .u64 (dgl (s) 6 : Nat), .int .u64 (dgl (s) 7 : Nat)], .int .i64 x] w fun e w' => e = .returned (.tuple #[.agg #[.int .u64 (dgl (u) 0 : Nat), .int .u64 (dgl (u) 1 : Nat), .int .u64 (dgl (u) 2 : Nat), .int .u64 (dgl (u) 3 : Nat), .int .u64 (dgl (u) 4 : Nat), .int .u64 (dgl (u) 5 : Nat), .int .u64 (dgl (u) 6 : Nat), .int .u64 (dgl (u) 7 : Nat)], .bool true]) ∧ Below w.heap.size w w' := by
  have HS := hide (atSt_start neg z s w)
  go_enter Tryz.func55, Tryz.ntmps55
  go_upto_region 1 with fail
  refine wp_gen (fun W => AtSt neg z s w W) HS.out ?_
  clear HS
  rintro W1 g1
  have HS := hide g1
  clear g1
  have ln := HS.out.n.n
  have le := HS.out.n.e
  have l0 := HS.out.n.x0
  have l1 := HS.out.n.x1
  have l2 := HS.out.n.x2
  have l3 := HS.out.n.x3
  have l4 := HS.out.n.x4
  have l5 := HS.out.n.x5
  have l6 := HS.out.n.x6
  have l7 := HS.out.n.x7
  go_wp2_with fail
  refine (HSH.out _).mono ?_
  rintro e w1 ⟨rfl, hb1⟩
  replace HS := hide (HS.out.below hb1)
  clear hb1 ln le l0 l1 l2 l3 l4 l5 l6 l7
  have hr := HS.out.r.1
  have hrf := HS.out.fr
  have hl := HS.out.r.2
  have HB := hide HS.out.bel
  clear HS
  go_wp2
  exact bodyPost_ret (v := .tuple #[.agg #[.int .u64 (dgl (u) 0 : Nat), .int .u64 (dgl (u) 1 : Nat), .int .u64 (dgl (u) 2 : Nat), .int .u64 (dgl (u) 3 : Nat), .int .u64 (dgl (u) 4 : Nat), .int .u64 (dgl (u) 5 : Nat), .int .u64 (dgl (u) 6 : Nat), .int .u64 (dgl (u) 7 : Nat)], .bool true]) (by simp [results, Tryz.results55, go_sem, hr, hl]) rfl ⟨rfl, below_set8 HB.out _ (by omega) _ _ _ _ _ _ _ _⟩

set_option maxHeartbeats 2000000 in
theorem at_D (neg lost : Bool) (z x : Int) (s u : Nat)
    (hz : -1048576 ≤ z ∧ z ≤ 1048576) (hx : -3000000 ≤ x ∧ x ≤ 3000000)
    (h : ¬ x ≤ z)
    (HSR : Hid (∀ w, Calls Tryz.prog 78 #[.agg #[.int .u64 (dgl (s) 0 : Nat), .int .u64 (dgl (s) 1 : Nat), .int .u64 (dgl (s) 2 : Nat), .int .u64 (dgl (s) 3 : Nat), .int .u64 (dgl (s) 4 : Nat), .int .u64 (dgl (s) 5 : Nat), .int .u64 (dgl (s) 6 : Nat), .int .u64 (dgl (s) 7 : Nat)], .int .i64 (x - z)] w fun e w' => e = .returned (.tuple #[.agg #[.int .u64 (dgl (u) 0 : Nat), .int .u64 (dgl (u) 1 : Nat), .int .u64 (dgl (u) 2 : Nat), .int .u64 (dgl (u) 3 : Nat), .int .u64 (dgl (u) 4 : Nat), .int .u64 (dgl (u) 5 : Nat), .int .u64 (dgl (u) 6 : Nat), .int .u64 (dgl (u) 7 : Nat)], .bool lost]) ∧ Below w.heap.size w w')) (w : World) :
    Calls Tryz.prog 55 #[.agg #[.bool (neg), .int .i64 (z), .int .u64 (dgl (s) 0 : Nat), .int .u64 (dgl (s) 1 : Nat), .int .u64 (dgl (s) 2 : Nat), .int .u64 (dgl (s) 3 : Nat), .int .u64 (dgl (s) 4 : Nat), .int .u64 (dgl (s) 5 : Nat), .int .u64 (dgl (s) 6 : Nat), .int .u64 (dgl (s) 7 : Nat)], .int .i64 x] w fun e w' => e = .returned (.tuple #[.agg #[.int .u64 (dgl (u) 0 : Nat), .int .u64 (dgl (u) 1 : Nat), .int .u64 (dgl (u) 2 : Nat), .int .u64 (dgl (u) 3 : Nat), .int .u64 (dgl (u) 4 : Nat), .int .u64 (dgl (u) 5 : Nat), .int .u64 (dgl (u) 6 : Nat), .int .u64 (dgl (u) 7 : Nat)], .bool (!lost)]) ∧ Below w.heap.size w w' := by
  have HS := hide (atSt_start neg z s w)
  go_enter Tryz.func55, Tryz.ntmps55
  go_upto_region 1 with fail
  refine wp_gen (fun W => AtSt neg z s w W) HS.out ?_
  clear HS
  rintro W1 g1
  have HS := hide g1
  clear g1
  have ln := HS.out.n.n
  have le := HS.out.n.e
  have l0 := HS.out.n.x0
  have l1 := HS.out.n.x1
  have l2 := HS.out.n.x2
  have l3 := HS.out.n.x3
  have l4 := HS.out.n.x4
  have l5 := HS.out.n.x5
  have l6 := HS.out.n.x6
  have l7 := HS.out.n.x7
  go_wp2_with fail
  refine (HSR.out _).mono ?_
  rintro e w1 ⟨rfl, hb1⟩
  replace HS := hide (HS.out.below hb1)
  clear hb1 ln le l0 l1 l2 l3 l4 l5 l6 l7
  go_upto_region 4 with fail
  refine wp_gen (fun W => AtSt neg z s w W ∧ LiesF W w1.heap.size (dgl u)) ⟨HS.out.below (below_allocs _ _), liesF_new _ _ _⟩ ?_
  clear HS
  generalize w1.heap.size = p6
  rintro W2 ⟨g1, g2⟩
  have HS := hide g1
  have hq := g2.1
  clear g1 g2
  have hr := HS.out.r.1
  have hrf := HS.out.fr
  have hl := HS.out.r.2
  have HB := hide HS.out.bel
  clear HS
  go_wp2
  exact bodyPost_ret (v := .tuple #[.agg #[.int .u64 (dgl (u) 0 : Nat), .int .u64 (dgl (u) 1 : Nat), .int .u64 (dgl (u) 2 : Nat), .int .u64 (dgl (u) 3 : Nat), .int .u64 (dgl (u) 4 : Nat), .int .u64 (dgl (u) 5 : Nat), .int .u64 (dgl (u) 6 : Nat), .int .u64 (dgl (u) 7 : Nat)], .bool (!lost)]) (by simp [results, Tryz.results55, go_sem, hr, hl]) rfl ⟨rfl, below_set8 HB.out _ (by omega) _ _ _ _ _ _ _ _⟩

structure Ex0 (neg : Bool) (z : Int) (s : Nat) (w W : World) : Prop where
  g : FmtG W
  gl : 0 < w.heap.size
  n : NB W w.heap.size neg z s
  r : WB W (w.heap.size + 1) 0 0
  fr : ∀ i, W.frozen? ⟨w.heap.size + 1, i, none⟩ = false
  bel : Below w.heap.size w W
theorem Ex0.below {neg : Bool} {z : Int} {s : Nat} {w W W' : World} (h : Ex0 neg z s w W) (hb : Below W.heap.size W W') : Ex0 neg z s w W' :=
  ⟨h.g.below hb, h.gl, h.n.below hb, h.r.below hb, fun i => (hb.frozen (p := ⟨w.heap.size + 1, i, none⟩) h.r.lt).trans (h.fr i), below_trans h.bel hb⟩
theorem ex0_start (neg : Bool) (z : Int) (s : Nat) (w : World) (hg : FmtG w) : Ex0 neg z s w ((w.alloc (.cells #[.bool (neg), .int .i64 (z), .int .u64 (dgl (s) 0 : Nat), .int .u64 (dgl (s) 1 : Nat), .int .u64 (dgl (s) 2 : Nat), .int .u64 (dgl (s) 3 : Nat), .int .u64 (dgl (s) 4 : Nat), .int .u64 (dgl (s) 5 : Nat), .int .u64 (dgl (s) 6 : Nat), .int .u64 (dgl (s) 7 : Nat)] 27)).alloc (.cells #[.int .u64 0, .int .u64 0] 29)) := by
  have h1 := wb_new (w.alloc (.cells #[.bool (neg), .int .i64 (z), .int .u64 (dgl (s) 0 : Nat), .int .u64 (dgl (s) 1 : Nat), .int .u64 (dgl (s) 2 : Nat), .int .u64 (dgl (s) 3 : Nat), .int .u64 (dgl (s) 4 : Nat), .int .u64 (dgl (s) 5 : Nat), .int .u64 (dgl (s) 6 : Nat), .int .u64 (dgl (s) 7 : Nat)] 27)) 29
  rw [World.size_alloc] at h1
  exact ⟨(hg.below (below_allocs _ _)).below (below_allocs _ _), hg.lt, (nb_new w neg z s 27).below (below_allocs _ _), h1, fun i => by simp [go_sem], below_trans (below_allocs _ _) (below_allocs _ _)⟩
structure ExSt (neg : Bool) (z : Int) (s p6 : Nat) (k : Nat → Int) (c1 c0 : Nat) (w W : World) : Prop where
  g : FmtG W
  gl : 0 < w.heap.size
  n : NB W w.heap.size neg z s
  r : WB W (w.heap.size + 1) c1 c0
  fr : ∀ i, W.frozen? ⟨w.heap.size + 1, i, none⟩ = false
  rk : ∀ i, i < 5 → W.cell? ⟨p6, i, none⟩ = some (.int .i64 (k i))
  lk : p6 < W.heap.size
  lo : w.heap.size + 1 < p6
  bel : Below w.heap.size w W
theorem ExSt.under {neg : Bool} {z : Int} {s p6 : Nat} {k : Nat → Int} {c1 c0 : Nat} {w W W' : World} (h : ExSt neg z s p6 k c1 c0 w W) {C : Nat} (hb : Below C W W') (hc : p6 < C) : ExSt neg z s p6 k c1 c0 w W' := by
  have hl := h.lo
  have h1 : w.heap.size + 1 < C := by omega
  have h0 : w.heap.size < C := by omega
  exact ⟨⟨fun i hi => (hb.cell (p := ⟨0, i, none⟩) (show 0 < _ by have := h.gl; omega)).trans (h.g.c i hi), Nat.lt_of_lt_of_le h.g.lt hb.size⟩, h.gl, h.n.under hb h0,
    ⟨(hb.cell (p := ⟨w.heap.size + 1, 0, none⟩) h1).trans h.r.h, (hb.cell (p := ⟨w.heap.size + 1, 1, none⟩) h1).trans h.r.l, Nat.lt_of_lt_of_le h.r.lt hb.size⟩, fun i => (hb.frozen (p := ⟨w.heap.size + 1, i, none⟩) h1).trans (h.fr i),
    fun i hi => (hb.cell (p := ⟨p6, i, none⟩) hc).trans (h.rk i hi), Nat.lt_of_lt_of_le h.lk hb.size, h.lo, h.bel.trans (hb.mono (by omega))⟩
theorem ExSt.below {neg : Bool} {z : Int} {s p6 : Nat} {k : Nat → Int} {c1 c0 : Nat} {w W W' : World} (h : ExSt neg z s p6 k c1 c0 w W) (hb : Below W.heap.size W W') : ExSt neg z s p6 k c1 c0 w W' := h.under hb h.lk
theorem exSt_start {neg : Bool} {z : Int} {s : Nat} {w W : World} (k : Nat → Int) (h : Ex0 neg z s w W) : ExSt neg z s W.heap.size k 0 0 w (W.alloc (.cells #[.int .i64 (k 0), .int .i64 (k 1), .int .i64 (k 2), .int .i64 (k 3), .int .i64 (k 4)] 49)) := by
  have h1 := h.below (below_allocs W (.cells #[.int .i64 (k 0), .int .i64 (k 1), .int .i64 (k 2), .int .i64 (k 3), .int .i64 (k 4)] 49))
  exact ⟨h1.g, h1.gl, h1.n, h1.r, h1.fr, fun i hi => rec5_new W k _ i hi, by simp, h.r.lt, h1.bel⟩
theorem ExSt.setR {neg : Bool} {z : Int} {s p6 : Nat} {k : Nat → Int} {c1 c0 : Nat} {w W : World} (h : ExSt neg z s p6 k c1 c0 w W) (d1 d0 : Nat) : ExSt neg z s p6 k d1 d0 w ((W.setCell ⟨w.heap.size + 1, 0, none⟩ (.int .u64 (d1 : Nat))).setCell ⟨w.heap.size + 1, 1, none⟩ (.int .u64 (d0 : Nat))) := by
  have hl := h.lo
  have hk := h.rk
  have hb := ((Below.refl (w.heap.size + 1) W).setCell (p := ⟨w.heap.size + 1, 0, none⟩) (Nat.le_refl _) (.int .u64 (d1 : Nat))).setCell (p := ⟨w.heap.size + 1, 1, none⟩) (Nat.le_refl _) (.int .u64 (d0 : Nat))
  have hne : ¬ p6 = w.heap.size + 1 := by omega
  refine ⟨⟨fun i hi => (hb.cell (p := ⟨0, i, none⟩) (show 0 < _ by have := h.gl; omega)).trans (h.g.c i hi), Nat.lt_of_lt_of_le h.g.lt hb.size⟩, h.gl, h.n.under hb (Nat.lt_succ_self _), wb_set h.r, fun i => by simpa [go_sem] using h.fr i, fun i hi => ?_, Nat.lt_of_lt_of_le h.lk hb.size, h.lo, h.bel.trans (hb.mono (Nat.le_succ _))⟩
  have := hk i hi
  simp [go_sem, this, hne]
theorem lies_set2 {W : World} {b R : Nat} {f : Nat → Nat} {x y : Value} (h : LiesF W b f) (hne : b ≠ R) : LiesF ((W.setCell ⟨R, 0, none⟩ x).setCell ⟨R, 1, none⟩ y) b f := by
  refine ⟨fun i hi => ?_, by simpa using h.2⟩
  have := h.1 i hi
  simp [go_sem, this, hne]

set_option maxHeartbeats 4000000 in
theorem exact_Z (f z tp lo la : Int) (neg wh ok ov : Bool) (k : Nat → Int) (s u v l pw c : Nat)
    (HO : Hid (∀ w, FmtG w → Calls Tryz.prog 15 #[.int .i64 f] w fun e w' => e = .returned (.tuple #[.agg #[.int .i64 (k 0), .int .i64 (k 1), .int .i64 (k 2), .int .i64 (k 3), .int .i64 (k 4)], .bool true]) ∧ Below w.heap.size w w'))
    (HR : Hid (∀ w, Calls Tryz.prog 43 #[.agg #[.bool (neg), .int .i64 (z), .int .u64 (dgl (s) 0 : Nat), .int .u64 (dgl (s) 1 : Nat), .int .u64 (dgl (s) 2 : Nat), .int .u64 (dgl (s) 3 : Nat), .int .u64 (dgl (s) 4 : Nat), .int .u64 (dgl (s) 5 : Nat), .int .u64 (dgl (s) 6 : Nat), .int .u64 (dgl (s) 7 : Nat)]] w fun e w' => e = .returned (.bool true) ∧ Below w.heap.size w w'))
    (HT : Hid (∀ w, Calls Tryz.prog 53 #[.agg #[.bool (neg), .int .i64 (z), .int .u64 (dgl (s) 0 : Nat), .int .u64 (dgl (s) 1 : Nat), .int .u64 (dgl (s) 2 : Nat), .int .u64 (dgl (s) 3 : Nat), .int .u64 (dgl (s) 4 : Nat), .int .u64 (dgl (s) 5 : Nat), .int .u64 (dgl (s) 6 : Nat), .int .u64 (dgl (s) 7 : Nat)]] w fun e w' => e = .returned (.tuple #[.int .i64 0, .bool false]) ∧ Below w.heap.size w w'))
    (HNO : Hid (∀ w, FmtG w → Calls Tryz.prog 18 #[.int .i64 f, .bool neg] w fun e w' => e = .returned (.agg #[.int .u64 (dgl (c) 1 : Nat), .int .u64 (dgl (c) 0 : Nat)]) ∧ Below w.heap.size w w')) (w : World) (hg : FmtG w) :
    Calls Tryz.prog 24 #[.int .i64 f, .agg #[.bool (neg), .int .i64 (z), .int .u64 (dgl (s) 0 : Nat), .int .u64 (dgl (s) 1 : Nat), .int .u64 (dgl (s) 2 : Nat), .int .u64 (dgl (s) 3 : Nat), .int .u64 (dgl (s) 4 : Nat), .int .u64 (dgl (s) 5 : Nat), .int .u64 (dgl (s) 6 : Nat), .int .u64 (dgl (s) 7 : Nat)]] w fun e w' => e = .returned (.tuple #[.agg #[.int .u64 (dgl (c) 1 : Nat), .int .u64 (dgl (c) 0 : Nat)], .bool true]) ∧ Below w.heap.size w w' := by
  have HS := hide (ex0_start neg z s w hg)
  clear hg
  go_enter Tryz.func24, Tryz.ntmps24
  go_wp2_with fail
  refine (HO.out _ HS.out.g).mono ?_
  rintro e w1 ⟨rfl, hb1⟩
  replace HS := hide (HS.out.below hb1)
  clear hb1
  go_upto_region 2 with fail
  refine wp_gen (fun W => ExSt neg z s w1.heap.size k 0 0 w W) (by have h := exSt_start k HS.out; exact h) ?_
  clear HS
  generalize w1.heap.size = p6
  rintro W1 g1
  have HS := hide g1
  clear g1
  have ln := HS.out.n.n
  have le := HS.out.n.e
  have l0 := HS.out.n.x0
  have l1 := HS.out.n.x1
  have l2 := HS.out.n.x2
  have l3 := HS.out.n.x3
  have l4 := HS.out.n.x4
  have l5 := HS.out.n.x5
  have l6 := HS.out.n.x6
  have l7 := HS.out.n.x7
  go_wp2_with fail
  refine (HR.out _).mono ?_
  rintro e w2 ⟨rfl, hb2⟩
  replace HS := hide (HS.out.below hb2)
  clear hb2 ln le l0 l1 l2 l3 l4 l5 l6 l7
  have ln := HS.out.n.n
  have le := HS.out.n.e
  have l0 := HS.out.n.x0
  have l1 := HS.out.n.x1
  have l2 := HS.out.n.x2
  have l3 := HS.out.n.x3
  have l4 := HS.out.n.x4
  have l5 := HS.out.n.x5
  have l6 := HS.out.n.x6
  have l7 := HS.out.n.x7
  go_wp2_with fail
  refine (HT.out _).mono ?_
  rintro e w3 ⟨rfl, hb3⟩
  replace HS := hide (HS.out.below hb3)
  clear hb3 ln le l0 l1 l2 l3 l4 l5 l6 l7
  have ln := HS.out.n.n
  have le := HS.out.n.e
  have l0 := HS.out.n.x0
  have l1 := HS.out.n.x1
  have l2 := HS.out.n.x2
  have l3 := HS.out.n.x3
  have l4 := HS.out.n.x4
  have l5 := HS.out.n.x5
  have l6 := HS.out.n.x6
  have l7 := HS.out.n.x7
  go_wp2_with fail
  refine (HNO.out _ HS.out.g).mono ?_
  rintro e w4 ⟨rfl, hb4⟩
  replace HS := hide (HS.out.below hb4)
  clear hb4 ln le l0 l1 l2 l3 l4 l5 l6 l7
  have q0 := HS.out.r.h
  have q1 := HS.out.r.l
  have hrf := HS.out.fr
  have hlt := HS.out.r.lt
  have HB := hide HS.out.bel
  clear HS
  go_wp2
  exact bodyPost_ret (v := .tuple #[.agg #[.int .u64 (dgl (c) 1 : Nat), .int .u64 (dgl (c) 0 : Nat)], .bool true]) (by simp [results, Tryz.results24, go_sem, hlt, q0, q1]) rfl ⟨rfl, (HB.out.setCell (p := ⟨w.heap.size + 1, 0, none⟩) (Nat.le_succ _) _).setCell (p := ⟨w.heap.size + 1, 1, none⟩) (Nat.le_succ _) _⟩

set_option maxHeartbeats 4000000 in
theorem exact_S (f z tp lo la : Int) (neg wh ok ov : Bool) (k : Nat → Int) (s u v l pw c : Nat)
    (HO : Hid (∀ w, FmtG w → Calls Tryz.prog 15 #[.int .i64 f] w fun e w' => e = .returned (.tuple #[.agg #[.int .i64 (k 0), .int .i64 (k 1), .int .i64 (k 2), .int .i64 (k 3), .int .i64 (k 4)], .bool true]) ∧ Below w.heap.size w w'))
    (HR : Hid (∀ w, Calls Tryz.prog 43 #[.agg #[.bool (neg), .int .i64 (z), .int .u64 (dgl (s) 0 : Nat), .int .u64 (dgl (s) 1 : Nat), .int .u64 (dgl (s) 2 : Nat), .int .u64 (dgl (s) 3 : Nat), .int .u64 (dgl (s) 4 : Nat), .int .u64 (dgl (s) 5 : Nat), .int .u64 (dgl (s) 6 : Nat), .int .u64 (dgl (s) 7 : Nat)]] w fun e w' => e = .returned (.bool true) ∧ Below w.heap.size w w'))
    (HT : Hid (∀ w, Calls Tryz.prog 53 #[.agg #[.bool (neg), .int .i64 (z), .int .u64 (dgl (s) 0 : Nat), .int .u64 (dgl (s) 1 : Nat), .int .u64 (dgl (s) 2 : Nat), .int .u64 (dgl (s) 3 : Nat), .int .u64 (dgl (s) 4 : Nat), .int .u64 (dgl (s) 5 : Nat), .int .u64 (dgl (s) 6 : Nat), .int .u64 (dgl (s) 7 : Nat)]] w fun e w' => e = .returned (.tuple #[.int .i64 tp, .bool true]) ∧ Below w.heap.size w w'))
    (htp : -3000000 ≤ tp ∧ tp ≤ 3000000) (hk1 : 1 ≤ k 1 ∧ k 1 ≤ 200) (hlo : -20000 ≤ lo ∧ lo ≤ 0) (HMX : Hid (max (tp - k 1 + 1) lo = la)) (hla : -3000000 ≤ la ∧ la ≤ 3000000)
    (HLO : Hid (∀ w, Calls Tryz.prog 54 #[.agg #[.int .i64 (k 0), .int .i64 (k 1), .int .i64 (k 2), .int .i64 (k 3), .int .i64 (k 4)]] w fun e w' => e = .returned (.int .i64 lo) ∧ Below w.heap.size w w'))
    (HAT : Hid (∀ w, Calls Tryz.prog 55 #[.agg #[.bool (neg), .int .i64 (z), .int .u64 (dgl (s) 0 : Nat), .int .u64 (dgl (s) 1 : Nat), .int .u64 (dgl (s) 2 : Nat), .int .u64 (dgl (s) 3 : Nat), .int .u64 (dgl (s) 4 : Nat), .int .u64 (dgl (s) 5 : Nat), .int .u64 (dgl (s) 6 : Nat), .int .u64 (dgl (s) 7 : Nat)], .int .i64 la] w fun e w' => e = .returned (.tuple #[.agg #[.int .u64 (dgl (u) 0 : Nat), .int .u64 (dgl (u) 1 : Nat), .int .u64 (dgl (u) 2 : Nat), .int .u64 (dgl (u) 3 : Nat), .int .u64 (dgl (u) 4 : Nat), .int .u64 (dgl (u) 5 : Nat), .int .u64 (dgl (u) 6 : Nat), .int .u64 (dgl (u) 7 : Nat)], .bool true]) ∧ Below w.heap.size w w'))
    (HEM : Hid (¬ k 2 < tp))
    (HLN : Hid (∀ w, Calls Tryz.prog 44 #[.agg #[.int .u64 (dgl (u) 0 : Nat), .int .u64 (dgl (u) 1 : Nat), .int .u64 (dgl (u) 2 : Nat), .int .u64 (dgl (u) 3 : Nat), .int .u64 (dgl (u) 4 : Nat), .int .u64 (dgl (u) 5 : Nat), .int .u64 (dgl (u) 6 : Nat), .int .u64 (dgl (u) 7 : Nat)]] w fun e w' => e = .returned (.int .i64 (l : Nat)) ∧ Below w.heap.size w w'))
    (HLL : Hid (decide ((l : Int) < k 1) = true))
    (HMK : Hid (∀ w, FmtG w → Calls Tryz.prog 56 #[.int .i64 f, .bool neg, .int .i64 0, .agg #[.int .u64 (dgl (u) 0 : Nat), .int .u64 (dgl (u) 1 : Nat), .int .u64 (dgl (u) 2 : Nat), .int .u64 (dgl (u) 3 : Nat), .int .u64 (dgl (u) 4 : Nat), .int .u64 (dgl (u) 5 : Nat), .int .u64 (dgl (u) 6 : Nat), .int .u64 (dgl (u) 7 : Nat)]] w fun e w' => e = .returned (.tuple #[.agg #[.int .u64 (dgl (c) 1 : Nat), .int .u64 (dgl (c) 0 : Nat)], .bool ok]) ∧ Below w.heap.size w w')) (w : World) (hg : FmtG w) :
    Calls Tryz.prog 24 #[.int .i64 f, .agg #[.bool (neg), .int .i64 (z), .int .u64 (dgl (s) 0 : Nat), .int .u64 (dgl (s) 1 : Nat), .int .u64 (dgl (s) 2 : Nat), .int .u64 (dgl (s) 3 : Nat), .int .u64 (dgl (s) 4 : Nat), .int .u64 (dgl (s) 5 : Nat), .int .u64 (dgl (s) 6 : Nat), .int .u64 (dgl (s) 7 : Nat)]] w fun e w' => e = .returned (.tuple #[.agg #[.int .u64 (dgl (c) 1 : Nat), .int .u64 (dgl (c) 0 : Nat)], .bool ok]) ∧ Below w.heap.size w w' := by
  have HS := hide (ex0_start neg z s w hg)
  clear hg
  go_enter Tryz.func24, Tryz.ntmps24
  go_wp2_with fail
  refine (HO.out _ HS.out.g).mono ?_
  rintro e w1 ⟨rfl, hb1⟩
  replace HS := hide (HS.out.below hb1)
  clear hb1
  go_upto_region 2 with fail
  refine wp_gen (fun W => ExSt neg z s w1.heap.size k 0 0 w W) (by have h := exSt_start k HS.out; exact h) ?_
  clear HS
  generalize w1.heap.size = p6
  rintro W1 g1
  have HS := hide g1
  clear g1
  have ln := HS.out.n.n
  have le := HS.out.n.e
  have l0 := HS.out.n.x0
  have l1 := HS.out.n.x1
  have l2 := HS.out.n.x2
  have l3 := HS.out.n.x3
  have l4 := HS.out.n.x4
  have l5 := HS.out.n.x5
  have l6 := HS.out.n.x6
  have l7 := HS.out.n.x7
  go_wp2_with fail
  refine (HR.out _).mono ?_
  rintro e w2 ⟨rfl, hb2⟩
  replace HS := hide (HS.out.below hb2)
  clear hb2 ln le l0 l1 l2 l3 l4 l5 l6 l7
  have ln := HS.out.n.n
  have le := HS.out.n.e
  have l0 := HS.out.n.x0
  have l1 := HS.out.n.x1
  have l2 := HS.out.n.x2
  have l3 := HS.out.n.x3
  have l4 := HS.out.n.x4
  have l5 := HS.out.n.x5
  have l6 := HS.out.n.x6
  have l7 := HS.out.n.x7
  go_wp2_with fail
  refine (HT.out _).mono ?_
  rintro e w3 ⟨rfl, hb3⟩
  replace HS := hide (HS.out.below hb3)
  clear hb3 ln le l0 l1 l2 l3 l4 l5 l6 l7
  go_upto_region 7 with fail
  refine wp_gen (fun W => ExSt neg z s p6 k 0 0 w W) HS.out ?_
  clear HS
  rintro W4 h7
  refine wp_region_grow 9 [(39, .val (.int .i64 tp)), (40, .val (.pointer (some ⟨p6, 1, none⟩))), (41, .val (.int .i64 (k 1))), (42, .val (.int .i64 (tp - k 1))), (43, .val (.int .i64 (tp - k 1 + 1))), (44, .val (.agg #[.int .i64 (k 0), .int .i64 (k 1), .int .i64 (k 2), .int .i64 (k 3), .int .i64 (k 4)])), (45, .val (.int .i64 lo)), (46, .val (.int .i64 la)), (10, .val (.int .i64 la))]
    (fun W => ExSt neg z s p6 k 0 0 w W) mixedOk (by kernel_rfl) (by kernel_rfl) (h7.below (Below.refl _ _).drew) (fun W W' h hb => h.below hb) ?_ ?_
  · refine gSt (gStep_run rfl (gRun_move 8 39 (.inl rfl) rfl (by decide +kernel) (fun v w h => h))) ?_
    refine gSt (gStep_run rfl ?_) ?_
    · intro ρ W hC hc hf hL
      have e6 : ρ (.tmp 6) = .pointer (some ⟨p6, 0, none⟩) := hL 6 (by decide +kernel)
      simp [go_sem, hc, hf, e6]
      exact ⟨Below.refl _ _, rfl⟩
    refine gSt (gStep_run rfl ?_) ?_
    · intro ρ W hC hc hf hL
      have e40 : ρ (.tmp 40) = .pointer (some ⟨p6, 1, none⟩) := hL 40 (by decide +kernel)
      have l0 := hC.rk 1 (by decide)
      simp [go_sem, hc, hf, e40, l0]
      exact ⟨Below.refl _ _, rfl⟩
    refine gSt (gStep_run rfl ?_) ?_
    · intro ρ W hC hc hf hL
      have e39 : ρ (.tmp 39) = .int .i64 tp := hL 39 (by decide +kernel)
      have e41 : ρ (.tmp 41) = .int .i64 (k 1) := hL 41 (by decide +kernel)
      have l0 : IntKind.i64.wrap (tp - k 1) = tp - k 1 := by rw [IntKind.wrap_i64]; omega
      simp [go_sem, hc, hf, e39, e41, l0]
      exact ⟨Below.refl _ _, rfl⟩
    refine gSt (gStep_run rfl ?_) ?_
    · intro ρ W hC hc hf hL
      have e42 : ρ (.tmp 42) = .int .i64 (tp - k 1) := hL 42 (by decide +kernel)
      have l0 : IntKind.i64.wrap (tp - k 1 + 1) = tp - k 1 + 1 := by rw [IntKind.wrap_i64]; omega
      simp [go_sem, hc, hf, e42, l0]
      exact ⟨Below.refl _ _, rfl⟩
    refine gSt (gStep_run rfl ?_) ?_
    · intro ρ W hC hc hf hL
      have e6 : ρ (.tmp 6) = .pointer (some ⟨p6, 0, none⟩) := hL 6 (by decide +kernel)
      have l0 := hC.rk
      simp [go_sem, hc, hf, e6, l0]
      exact ⟨Below.refl _ _, rfl⟩
    refine gSt (gStep_run rfl ?_) ?_
    · intro ρ W hC hc hf hL
      have e44 : ρ (.tmp 44) = .agg #[.int .i64 (k 0), .int .i64 (k 1), .int .i64 (k 2), .int .i64 (k 3), .int .i64 (k 4)] := hL 44 (by decide +kernel)
      simp [go_sem, hc, hf, e44]
      refine (HLO.out W).mono ?_
      rintro e w' ⟨rfl, hb⟩
      exact ⟨_, rfl, by first | exact hb | (subst hb; exact Below.refl _ _), rfl⟩
    refine gSt (gStep_run rfl ?_) ?_
    · intro ρ W hC hc hf hL
      have e43 : ρ (.tmp 43) = .int .i64 (tp - k 1 + 1) := hL 43 (by decide +kernel)
      have e45 : ρ (.tmp 45) = .int .i64 lo := hL 45 (by decide +kernel)
      have l0 := HMX.out
      simp [go_sem, hc, hf, e43, e45, l0]
      exact ⟨Below.refl _ _, rfl⟩
    refine gSt (gStep_run rfl (gRun_move 46 10 (.inr rfl) rfl (by decide +kernel) (fun v w h => h))) ?_
    exact gSt0
  · intro W hC
    refine gFi 39 rfl ?_
    rintro _ rfl
    refine gFi 40 rfl ?_
    rintro _ rfl
    refine gFi 41 rfl ?_
    rintro _ rfl
    refine gFi 42 rfl ?_
    rintro _ rfl
    refine gFi 43 rfl ?_
    rintro _ rfl
    refine gFi 44 rfl ?_
    rintro _ rfl
    refine gFi 45 rfl ?_
    rintro _ rfl
    refine gFi 46 rfl ?_
    rintro _ rfl
    refine gFi 10 rfl ?_
    rintro _ rfl
    refine gFi0 ?_
    simp only [List.drop_succ_cons, List.drop_zero, Act.put, List.setIfInBounds_toArray, List.set_cons_succ, List.set_cons_zero]
    have HS := hide hC
    clear hC h7
    have ln := HS.out.n.n
    have le := HS.out.n.e
    have l0 := HS.out.n.x0
    have l1 := HS.out.n.x1
    have l2 := HS.out.n.x2
    have l3 := HS.out.n.x3
    have l4 := HS.out.n.x4
    have l5 := HS.out.n.x5
    have l6 := HS.out.n.x6
    have l7 := HS.out.n.x7
    go_wp2_with fail
    refine (HAT.out _).mono ?_
    rintro e w5 ⟨rfl, hb5⟩
    replace HS := hide (HS.out.below hb5)
    clear hb5 ln le l0 l1 l2 l3 l4 l5 l6 l7
    go_upto_region 9 with fail
    refine wp_gen (fun W => ExSt neg z s p6 k 0 0 w W ∧ LiesF W w5.heap.size (dgl u)) ⟨HS.out.below (below_allocs _ _), liesF_new _ _ _⟩ ?_
    clear HS
    generalize w5.heap.size = p11
    rintro W5 ⟨g1, g2⟩
    have HS := hide g1
    have HL := hide g2
    have hk := g1.rk
    clear g1 g2
    have hem := HEM.out
    go_upto_region 11 with fail
    refine wp_gen (fun W => ExSt neg z s p6 k 0 0 w W ∧ LiesF W p11 (dgl u)) ⟨HS.out, HL.out⟩ ?_
    clear HS HL hem hk
    rintro W7 h1
    refine wp_region_grow 5 [(62, .val (.agg #[.int .u64 (dgl (u) 0 : Nat), .int .u64 (dgl (u) 1 : Nat), .int .u64 (dgl (u) 2 : Nat), .int .u64 (dgl (u) 3 : Nat), .int .u64 (dgl (u) 4 : Nat), .int .u64 (dgl (u) 5 : Nat), .int .u64 (dgl (u) 6 : Nat), .int .u64 (dgl (u) 7 : Nat)])), (63, .val (.int .i64 (l : Nat))), (64, .val (.pointer (some ⟨p6, 1, none⟩))), (65, .val (.int .i64 (k 1))), (66, .val (.bool true))]
      (fun W => ExSt neg z s p6 k 0 0 w W ∧ LiesF W p11 (dgl u)) mixedOk (by kernel_rfl) (by kernel_rfl) (⟨h1.1.below (Below.refl _ _).drew, h1.2.below (Below.refl _ _).drew⟩) (fun W W' h hb => ⟨h.1.below hb, h.2.below hb⟩) ?_ ?_
    · refine gSt (gStep_run rfl ?_) ?_
      · intro ρ W hC hc hf hL
        have e11 : ρ (.tmp 11) = .pointer (some ⟨p11, 0, none⟩) := hL 11 (by decide +kernel)
        have l0 := hC.2.1
        simp [go_sem, hc, hf, e11, l0]
        exact ⟨Below.refl _ _, rfl⟩
      refine gSt (gStep_run rfl ?_) ?_
      · intro ρ W hC hc hf hL
        have e62 : ρ (.tmp 62) = .agg #[.int .u64 (dgl (u) 0 : Nat), .int .u64 (dgl (u) 1 : Nat), .int .u64 (dgl (u) 2 : Nat), .int .u64 (dgl (u) 3 : Nat), .int .u64 (dgl (u) 4 : Nat), .int .u64 (dgl (u) 5 : Nat), .int .u64 (dgl (u) 6 : Nat), .int .u64 (dgl (u) 7 : Nat)] := hL 62 (by decide +kernel)
        simp [go_sem, hc, hf, e62]
        refine (HLN.out W).mono ?_
        rintro e w' ⟨rfl, hb⟩
        exact ⟨_, rfl, by first | exact hb | (subst hb; exact Below.refl _ _), rfl⟩
      refine gSt (gStep_run rfl ?_) ?_
      · intro ρ W hC hc hf hL
        have e6 : ρ (.tmp 6) = .pointer (some ⟨p6, 0, none⟩) := hL 6 (by decide +kernel)
        simp [go_sem, hc, hf, e6]
        exact ⟨Below.refl _ _, rfl⟩
      refine gSt (gStep_run rfl ?_) ?_
      · intro ρ W hC hc hf hL
        have e64 : ρ (.tmp 64) = .pointer (some ⟨p6, 1, none⟩) := hL 64 (by decide +kernel)
        have l0 := hC.1.rk 1 (by decide)
        simp [go_sem, hc, hf, e64, l0]
        exact ⟨Below.refl _ _, rfl⟩
      refine gSt (gStep_run rfl ?_) ?_
      · intro ρ W hC hc hf hL
        have e63 : ρ (.tmp 63) = .int .i64 (l : Nat) := hL 63 (by decide +kernel)
        have e65 : ρ (.tmp 65) = .int .i64 (k 1) := hL 65 (by decide +kernel)
        have l0 := HLL.out
        simp [go_sem, hc, hf, e63, e65, l0, -decide_eq_true_eq, -decide_eq_false_iff_not]
        exact ⟨Below.refl _ _, rfl⟩
      exact gSt0
    · intro W hC
      refine gFi 62 rfl ?_
      rintro _ rfl
      refine gFi 63 rfl ?_
      rintro _ rfl
      refine gFi 64 rfl ?_
      rintro _ rfl
      refine gFi 65 rfl ?_
      rintro _ rfl
      refine gFi 66 rfl ?_
      rintro _ rfl
      refine gFi0 ?_
      simp only [List.drop_succ_cons, List.drop_zero, Act.put, List.setIfInBounds_toArray, List.set_cons_succ, List.set_cons_zero]
      have HS := hide hC.1
      have HL := hide hC.2
      clear hC h1
      have hq := HL.out.1
      have ln := HS.out.n.n
      have le := HS.out.n.e
      have l0 := HS.out.n.x0
      have l1 := HS.out.n.x1
      have l2 := HS.out.n.x2
      have l3 := HS.out.n.x3
      have l4 := HS.out.n.x4
      have l5 := HS.out.n.x5
      have l6 := HS.out.n.x6
      have l7 := HS.out.n.x7
      go_wp2_with fail
      refine (HMK.out _ HS.out.g).mono ?_
      rintro e w7 ⟨rfl, hb7⟩
      replace HS := hide (HS.out.below hb7)
      clear hb7 hq HL ln le l0 l1 l2 l3 l4 l5 l6 l7
      have q0 := HS.out.r.h
      have q1 := HS.out.r.l
      have hrf := HS.out.fr
      have hlt := HS.out.r.lt
      have HB := hide HS.out.bel
      clear HS
      go_wp2
      exact bodyPost_ret (v := .tuple #[.agg #[.int .u64 (dgl (c) 1 : Nat), .int .u64 (dgl (c) 0 : Nat)], .bool ok]) (by simp [results, Tryz.results24, go_sem, hlt, q0, q1]) rfl ⟨rfl, (HB.out.setCell (p := ⟨w.heap.size + 1, 0, none⟩) (Nat.le_succ _) _).setCell (p := ⟨w.heap.size + 1, 1, none⟩) (Nat.le_succ _) _⟩
      

set_option maxHeartbeats 4000000 in
theorem exact_N (f z tp lo la : Int) (neg wh ok ov : Bool) (k : Nat → Int) (s u v l pw c : Nat)
    (HO : Hid (∀ w, FmtG w → Calls Tryz.prog 15 #[.int .i64 f] w fun e w' => e = .returned (.tuple #[.agg #[.int .i64 (k 0), .int .i64 (k 1), .int .i64 (k 2), .int .i64 (k 3), .int .i64 (k 4)], .bool true]) ∧ Below w.heap.size w w'))
    (HR : Hid (∀ w, Calls Tryz.prog 43 #[.agg #[.bool (neg), .int .i64 (z), .int .u64 (dgl (s) 0 : Nat), .int .u64 (dgl (s) 1 : Nat), .int .u64 (dgl (s) 2 : Nat), .int .u64 (dgl (s) 3 : Nat), .int .u64 (dgl (s) 4 : Nat), .int .u64 (dgl (s) 5 : Nat), .int .u64 (dgl (s) 6 : Nat), .int .u64 (dgl (s) 7 : Nat)]] w fun e w' => e = .returned (.bool true) ∧ Below w.heap.size w w'))
    (HT : Hid (∀ w, Calls Tryz.prog 53 #[.agg #[.bool (neg), .int .i64 (z), .int .u64 (dgl (s) 0 : Nat), .int .u64 (dgl (s) 1 : Nat), .int .u64 (dgl (s) 2 : Nat), .int .u64 (dgl (s) 3 : Nat), .int .u64 (dgl (s) 4 : Nat), .int .u64 (dgl (s) 5 : Nat), .int .u64 (dgl (s) 6 : Nat), .int .u64 (dgl (s) 7 : Nat)]] w fun e w' => e = .returned (.tuple #[.int .i64 tp, .bool true]) ∧ Below w.heap.size w w'))
    (htp : -3000000 ≤ tp ∧ tp ≤ 3000000) (hk1 : 1 ≤ k 1 ∧ k 1 ≤ 200) (hlo : -20000 ≤ lo ∧ lo ≤ 0) (HMX : Hid (max (tp - k 1 + 1) lo = la)) (hla : -3000000 ≤ la ∧ la ≤ 3000000)
    (HLO : Hid (∀ w, Calls Tryz.prog 54 #[.agg #[.int .i64 (k 0), .int .i64 (k 1), .int .i64 (k 2), .int .i64 (k 3), .int .i64 (k 4)]] w fun e w' => e = .returned (.int .i64 lo) ∧ Below w.heap.size w w'))
    (HAT : Hid (∀ w, Calls Tryz.prog 55 #[.agg #[.bool (neg), .int .i64 (z), .int .u64 (dgl (s) 0 : Nat), .int .u64 (dgl (s) 1 : Nat), .int .u64 (dgl (s) 2 : Nat), .int .u64 (dgl (s) 3 : Nat), .int .u64 (dgl (s) 4 : Nat), .int .u64 (dgl (s) 5 : Nat), .int .u64 (dgl (s) 6 : Nat), .int .u64 (dgl (s) 7 : Nat)], .int .i64 la] w fun e w' => e = .returned (.tuple #[.agg #[.int .u64 (dgl (u) 0 : Nat), .int .u64 (dgl (u) 1 : Nat), .int .u64 (dgl (u) 2 : Nat), .int .u64 (dgl (u) 3 : Nat), .int .u64 (dgl (u) 4 : Nat), .int .u64 (dgl (u) 5 : Nat), .int .u64 (dgl (u) 6 : Nat), .int .u64 (dgl (u) 7 : Nat)], .bool true]) ∧ Below w.heap.size w w'))
    (HEM : Hid (¬ k 2 < tp))
    (HLN : Hid (∀ w, Calls Tryz.prog 44 #[.agg #[.int .u64 (dgl (u) 0 : Nat), .int .u64 (dgl (u) 1 : Nat), .int .u64 (dgl (u) 2 : Nat), .int .u64 (dgl (u) 3 : Nat), .int .u64 (dgl (u) 4 : Nat), .int .u64 (dgl (u) 5 : Nat), .int .u64 (dgl (u) 6 : Nat), .int .u64 (dgl (u) 7 : Nat)]] w fun e w' => e = .returned (.int .i64 (l : Nat)) ∧ Below w.heap.size w w'))
    (HLL : Hid (decide ((l : Int) < k 1) = false))
    (HPW : Hid (∀ w, Calls Tryz.prog 58 #[.int .i64 (k 1 - 1)] w fun e w' => e = .returned (.agg #[.int .u64 (dgl (pw) 0 : Nat), .int .u64 (dgl (pw) 1 : Nat), .int .u64 (dgl (pw) 2 : Nat), .int .u64 (dgl (pw) 3 : Nat), .int .u64 (dgl (pw) 4 : Nat), .int .u64 (dgl (pw) 5 : Nat), .int .u64 (dgl (pw) 6 : Nat), .int .u64 (dgl (pw) 7 : Nat)]) ∧ Below w.heap.size w w'))
    (HSB : Hid (∀ w, Calls Tryz.prog 57 #[.agg #[.int .u64 (dgl (u) 0 : Nat), .int .u64 (dgl (u) 1 : Nat), .int .u64 (dgl (u) 2 : Nat), .int .u64 (dgl (u) 3 : Nat), .int .u64 (dgl (u) 4 : Nat), .int .u64 (dgl (u) 5 : Nat), .int .u64 (dgl (u) 6 : Nat), .int .u64 (dgl (u) 7 : Nat)], .agg #[.int .u64 (dgl (pw) 0 : Nat), .int .u64 (dgl (pw) 1 : Nat), .int .u64 (dgl (pw) 2 : Nat), .int .u64 (dgl (pw) 3 : Nat), .int .u64 (dgl (pw) 4 : Nat), .int .u64 (dgl (pw) 5 : Nat), .int .u64 (dgl (pw) 6 : Nat), .int .u64 (dgl (pw) 7 : Nat)]] w fun e w' => e = .returned (.tuple #[.agg #[.int .u64 (dgl (v) 0 : Nat), .int .u64 (dgl (v) 1 : Nat), .int .u64 (dgl (v) 2 : Nat), .int .u64 (dgl (v) 3 : Nat), .int .u64 (dgl (v) 4 : Nat), .int .u64 (dgl (v) 5 : Nat), .int .u64 (dgl (v) 6 : Nat), .int .u64 (dgl (v) 7 : Nat)], .bool ov]) ∧ Below w.heap.size w w'))
    (HMK : Hid (∀ w, FmtG w → Calls Tryz.prog 56 #[.int .i64 f, .bool neg, .int .i64 (la - lo + 1), .agg #[.int .u64 (dgl (v) 0 : Nat), .int .u64 (dgl (v) 1 : Nat), .int .u64 (dgl (v) 2 : Nat), .int .u64 (dgl (v) 3 : Nat), .int .u64 (dgl (v) 4 : Nat), .int .u64 (dgl (v) 5 : Nat), .int .u64 (dgl (v) 6 : Nat), .int .u64 (dgl (v) 7 : Nat)]] w fun e w' => e = .returned (.tuple #[.agg #[.int .u64 (dgl (c) 1 : Nat), .int .u64 (dgl (c) 0 : Nat)], .bool ok]) ∧ Below w.heap.size w w')) (w : World) (hg : FmtG w) :
    Calls Tryz.prog 24 #[.int .i64 f, .agg #[.bool (neg), .int .i64 (z), .int .u64 (dgl (s) 0 : Nat), .int .u64 (dgl (s) 1 : Nat), .int .u64 (dgl (s) 2 : Nat), .int .u64 (dgl (s) 3 : Nat), .int .u64 (dgl (s) 4 : Nat), .int .u64 (dgl (s) 5 : Nat), .int .u64 (dgl (s) 6 : Nat), .int .u64 (dgl (s) 7 : Nat)]] w fun e w' => e = .returned (.tuple #[.agg #[.int .u64 (dgl (c) 1 : Nat), .int .u64 (dgl (c) 0 : Nat)], .bool ok]) ∧ Below w.heap.size w w' := by
  have HS := hide (ex0_start neg z s w hg)
  clear hg
  go_enter Tryz.func24, Tryz.ntmps24
  go_wp2_with fail
  refine (HO.out _ HS.out.g).mono ?_
  rintro e w1 ⟨rfl, hb1⟩
  replace HS := hide (HS.out.below hb1)
  clear hb1
  go_upto_region 2 with fail
  refine wp_gen (fun W => ExSt neg z s w1.heap.size k 0 0 w W) (by have h := exSt_start k HS.out; exact h) ?_
  clear HS
  generalize w1.heap.size = p6
  rintro W1 g1
  have HS := hide g1
  clear g1
  have ln := HS.out.n.n
  have le := HS.out.n.e
  have l0 := HS.out.n.x0
  have l1 := HS.out.n.x1
  have l2 := HS.out.n.x2
  have l3 := HS.out.n.x3
  have l4 := HS.out.n.x4
  have l5 := HS.out.n.x5
  have l6 := HS.out.n.x6
  have l7 := HS.out.n.x7
  go_wp2_with fail
  refine (HR.out _).mono ?_
  rintro e w2 ⟨rfl, hb2⟩
  replace HS := hide (HS.out.below hb2)
  clear hb2 ln le l0 l1 l2 l3 l4 l5 l6 l7
  have ln := HS.out.n.n
  have le := HS.out.n.e
  have l0 := HS.out.n.x0
  have l1 := HS.out.n.x1
  have l2 := HS.out.n.x2
  have l3 := HS.out.n.x3
  have l4 := HS.out.n.x4
  have l5 := HS.out.n.x5
  have l6 := HS.out.n.x6
  have l7 := HS.out.n.x7
  go_wp2_with fail
  refine (HT.out _).mono ?_
  rintro e w3 ⟨rfl, hb3⟩
  replace HS := hide (HS.out.below hb3)
  clear hb3 ln le l0 l1 l2 l3 l4 l5 l6 l7
  go_upto_region 7 with fail
  refine wp_gen (fun W => ExSt neg z s p6 k 0 0 w W) HS.out ?_
  clear HS
  rintro W4 h7
  refine wp_region_grow 9 [(39, .val (.int .i64 tp)), (40, .val (.pointer (some ⟨p6, 1, none⟩))), (41, .val (.int .i64 (k 1))), (42, .val (.int .i64 (tp - k 1))), (43, .val (.int .i64 (tp - k 1 + 1))), (44, .val (.agg #[.int .i64 (k 0), .int .i64 (k 1), .int .i64 (k 2), .int .i64 (k 3), .int .i64 (k 4)])), (45, .val (.int .i64 lo)), (46, .val (.int .i64 la)), (10, .val (.int .i64 la))]
    (fun W => ExSt neg z s p6 k 0 0 w W) mixedOk (by kernel_rfl) (by kernel_rfl) (h7.below (Below.refl _ _).drew) (fun W W' h hb => h.below hb) ?_ ?_
  · refine gSt (gStep_run rfl (gRun_move 8 39 (.inl rfl) rfl (by decide +kernel) (fun v w h => h))) ?_
    refine gSt (gStep_run rfl ?_) ?_
    · intro ρ W hC hc hf hL
      have e6 : ρ (.tmp 6) = .pointer (some ⟨p6, 0, none⟩) := hL 6 (by decide +kernel)
      simp [go_sem, hc, hf, e6]
      exact ⟨Below.refl _ _, rfl⟩
    refine gSt (gStep_run rfl ?_) ?_
    · intro ρ W hC hc hf hL
      have e40 : ρ (.tmp 40) = .pointer (some ⟨p6, 1, none⟩) := hL 40 (by decide +kernel)
      have l0 := hC.rk 1 (by decide)
      simp [go_sem, hc, hf, e40, l0]
      exact ⟨Below.refl _ _, rfl⟩
    refine gSt (gStep_run rfl ?_) ?_
    · intro ρ W hC hc hf hL
      have e39 : ρ (.tmp 39) = .int .i64 tp := hL 39 (by decide +kernel)
      have e41 : ρ (.tmp 41) = .int .i64 (k 1) := hL 41 (by decide +kernel)
      have l0 : IntKind.i64.wrap (tp - k 1) = tp - k 1 := by rw [IntKind.wrap_i64]; omega
      simp [go_sem, hc, hf, e39, e41, l0]
      exact ⟨Below.refl _ _, rfl⟩
    refine gSt (gStep_run rfl ?_) ?_
    · intro ρ W hC hc hf hL
      have e42 : ρ (.tmp 42) = .int .i64 (tp - k 1) := hL 42 (by decide +kernel)
      have l0 : IntKind.i64.wrap (tp - k 1 + 1) = tp - k 1 + 1 := by rw [IntKind.wrap_i64]; omega
      simp [go_sem, hc, hf, e42, l0]
      exact ⟨Below.refl _ _, rfl⟩
    refine gSt (gStep_run rfl ?_) ?_
    · intro ρ W hC hc hf hL
      have e6 : ρ (.tmp 6) = .pointer (some ⟨p6, 0, none⟩) := hL 6 (by decide +kernel)
      have l0 := hC.rk
      simp [go_sem, hc, hf, e6, l0]
      exact ⟨Below.refl _ _, rfl⟩
    refine gSt (gStep_run rfl ?_) ?_
    · intro ρ W hC hc hf hL
      have e44 : ρ (.tmp 44) = .agg #[.int .i64 (k 0), .int .i64 (k 1), .int .i64 (k 2), .int .i64 (k 3), .int .i64 (k 4)] := hL 44 (by decide +kernel)
      simp [go_sem, hc, hf, e44]
      refine (HLO.out W).mono ?_
      rintro e w' ⟨rfl, hb⟩
      exact ⟨_, rfl, by first | exact hb | (subst hb; exact Below.refl _ _), rfl⟩
    refine gSt (gStep_run rfl ?_) ?_
    · intro ρ W hC hc hf hL
      have e43 : ρ (.tmp 43) = .int .i64 (tp - k 1 + 1) := hL 43 (by decide +kernel)
      have e45 : ρ (.tmp 45) = .int .i64 lo := hL 45 (by decide +kernel)
      have l0 := HMX.out
      simp [go_sem, hc, hf, e43, e45, l0]
      exact ⟨Below.refl _ _, rfl⟩
    refine gSt (gStep_run rfl (gRun_move 46 10 (.inr rfl) rfl (by decide +kernel) (fun v w h => h))) ?_
    exact gSt0
  · intro W hC
    refine gFi 39 rfl ?_
    rintro _ rfl
    refine gFi 40 rfl ?_
    rintro _ rfl
    refine gFi 41 rfl ?_
    rintro _ rfl
    refine gFi 42 rfl ?_
    rintro _ rfl
    refine gFi 43 rfl ?_
    rintro _ rfl
    refine gFi 44 rfl ?_
    rintro _ rfl
    refine gFi 45 rfl ?_
    rintro _ rfl
    refine gFi 46 rfl ?_
    rintro _ rfl
    refine gFi 10 rfl ?_
    rintro _ rfl
    refine gFi0 ?_
    simp only [List.drop_succ_cons, List.drop_zero, Act.put, List.setIfInBounds_toArray, List.set_cons_succ, List.set_cons_zero]
    have HS := hide hC
    clear hC h7
    have ln := HS.out.n.n
    have le := HS.out.n.e
    have l0 := HS.out.n.x0
    have l1 := HS.out.n.x1
    have l2 := HS.out.n.x2
    have l3 := HS.out.n.x3
    have l4 := HS.out.n.x4
    have l5 := HS.out.n.x5
    have l6 := HS.out.n.x6
    have l7 := HS.out.n.x7
    go_wp2_with fail
    refine (HAT.out _).mono ?_
    rintro e w5 ⟨rfl, hb5⟩
    replace HS := hide (HS.out.below hb5)
    clear hb5 ln le l0 l1 l2 l3 l4 l5 l6 l7
    go_upto_region 9 with fail
    refine wp_gen (fun W => ExSt neg z s p6 k 0 0 w W ∧ LiesF W w5.heap.size (dgl u)) ⟨HS.out.below (below_allocs _ _), liesF_new _ _ _⟩ ?_
    clear HS
    generalize w5.heap.size = p11
    rintro W5 ⟨g1, g2⟩
    have HS := hide g1
    have HL := hide g2
    have hk := g1.rk
    clear g1 g2
    have hem := HEM.out
    go_upto_region 11 with fail
    refine wp_gen (fun W => ExSt neg z s p6 k 0 0 w W ∧ LiesF W p11 (dgl u)) ⟨HS.out, HL.out⟩ ?_
    clear HS HL hem hk
    rintro W7 h1
    refine wp_region_grow 5 [(62, .val (.agg #[.int .u64 (dgl (u) 0 : Nat), .int .u64 (dgl (u) 1 : Nat), .int .u64 (dgl (u) 2 : Nat), .int .u64 (dgl (u) 3 : Nat), .int .u64 (dgl (u) 4 : Nat), .int .u64 (dgl (u) 5 : Nat), .int .u64 (dgl (u) 6 : Nat), .int .u64 (dgl (u) 7 : Nat)])), (63, .val (.int .i64 (l : Nat))), (64, .val (.pointer (some ⟨p6, 1, none⟩))), (65, .val (.int .i64 (k 1))), (66, .val (.bool false))]
      (fun W => ExSt neg z s p6 k 0 0 w W ∧ LiesF W p11 (dgl u)) mixedOk (by kernel_rfl) (by kernel_rfl) (⟨h1.1.below (Below.refl _ _).drew, h1.2.below (Below.refl _ _).drew⟩) (fun W W' h hb => ⟨h.1.below hb, h.2.below hb⟩) ?_ ?_
    · refine gSt (gStep_run rfl ?_) ?_
      · intro ρ W hC hc hf hL
        have e11 : ρ (.tmp 11) = .pointer (some ⟨p11, 0, none⟩) := hL 11 (by decide +kernel)
        have l0 := hC.2.1
        simp [go_sem, hc, hf, e11, l0]
        exact ⟨Below.refl _ _, rfl⟩
      refine gSt (gStep_run rfl ?_) ?_
      · intro ρ W hC hc hf hL
        have e62 : ρ (.tmp 62) = .agg #[.int .u64 (dgl (u) 0 : Nat), .int .u64 (dgl (u) 1 : Nat), .int .u64 (dgl (u) 2 : Nat), .int .u64 (dgl (u) 3 : Nat), .int .u64 (dgl (u) 4 : Nat), .int .u64 (dgl (u) 5 : Nat), .int .u64 (dgl (u) 6 : Nat), .int .u64 (dgl (u) 7 : Nat)] := hL 62 (by decide +kernel)
        simp [go_sem, hc, hf, e62]
        refine (HLN.out W).mono ?_
        rintro e w' ⟨rfl, hb⟩
        exact ⟨_, rfl, by first | exact hb | (subst hb; exact Below.refl _ _), rfl⟩
      refine gSt (gStep_run rfl ?_) ?_
      · intro ρ W hC hc hf hL
        have e6 : ρ (.tmp 6) = .pointer (some ⟨p6, 0, none⟩) := hL 6 (by decide +kernel)
        simp [go_sem, hc, hf, e6]
        exact ⟨Below.refl _ _, rfl⟩
      refine gSt (gStep_run rfl ?_) ?_
      · intro ρ W hC hc hf hL
        have e64 : ρ (.tmp 64) = .pointer (some ⟨p6, 1, none⟩) := hL 64 (by decide +kernel)
        have l0 := hC.1.rk 1 (by decide)
        simp [go_sem, hc, hf, e64, l0]
        exact ⟨Below.refl _ _, rfl⟩
      refine gSt (gStep_run rfl ?_) ?_
      · intro ρ W hC hc hf hL
        have e63 : ρ (.tmp 63) = .int .i64 (l : Nat) := hL 63 (by decide +kernel)
        have e65 : ρ (.tmp 65) = .int .i64 (k 1) := hL 65 (by decide +kernel)
        have l0 := HLL.out
        simp [go_sem, hc, hf, e63, e65, l0, -decide_eq_true_eq, -decide_eq_false_iff_not]
        exact ⟨Below.refl _ _, rfl⟩
      exact gSt0
    · intro W hC
      refine gFi 62 rfl ?_
      rintro _ rfl
      refine gFi 63 rfl ?_
      rintro _ rfl
      refine gFi 64 rfl ?_
      rintro _ rfl
      refine gFi 65 rfl ?_
      rintro _ rfl
      refine gFi 66 rfl ?_
      rintro _ rfl
      refine gFi0 ?_
      simp only [List.drop_succ_cons, List.drop_zero, Act.put, List.setIfInBounds_toArray, List.set_cons_succ, List.set_cons_zero]
      have HS := hide hC.1
      have HL := hide hC.2
      clear hC h1
      go_upto_region 13 with fail
      refine wp_gen (fun W => ExSt neg z s p6 k 0 0 w W ∧ LiesF W p11 (dgl u)) ⟨HS.out, HL.out⟩ ?_
      clear HS HL
      rintro W8 h5
      refine wp_region_storeK 12 [10] [75, 76, 77, 78, 79, 80, 74, 81, 82, 13, 14] (fun bs => [(75, .val (.agg #[.int .u64 (dgl (u) 0 : Nat), .int .u64 (dgl (u) 1 : Nat), .int .u64 (dgl (u) 2 : Nat), .int .u64 (dgl (u) 3 : Nat), .int .u64 (dgl (u) 4 : Nat), .int .u64 (dgl (u) 5 : Nat), .int .u64 (dgl (u) 6 : Nat), .int .u64 (dgl (u) 7 : Nat)])), (76, .val (.pointer (some ⟨p6, 1, none⟩))), (77, .val (.int .i64 (k 1))), (78, .val (.int .i64 (k 1 - 1))), (79, .val (.agg #[.int .u64 (dgl (pw) 0 : Nat), .int .u64 (dgl (pw) 1 : Nat), .int .u64 (dgl (pw) 2 : Nat), .int .u64 (dgl (pw) 3 : Nat), .int .u64 (dgl (pw) 4 : Nat), .int .u64 (dgl (pw) 5 : Nat), .int .u64 (dgl (pw) 6 : Nat), .int .u64 (dgl (pw) 7 : Nat)])), (80, .val (.tuple #[.agg #[.int .u64 (dgl (v) 0 : Nat), .int .u64 (dgl (v) 1 : Nat), .int .u64 (dgl (v) 2 : Nat), .int .u64 (dgl (v) 3 : Nat), .int .u64 (dgl (v) 4 : Nat), .int .u64 (dgl (v) 5 : Nat), .int .u64 (dgl (v) 6 : Nat), .int .u64 (dgl (v) 7 : Nat)], .bool ov])), (74, .val (.tuple #[.agg #[.int .u64 (dgl (v) 0 : Nat), .int .u64 (dgl (v) 1 : Nat), .int .u64 (dgl (v) 2 : Nat), .int .u64 (dgl (v) 3 : Nat), .int .u64 (dgl (v) 4 : Nat), .int .u64 (dgl (v) 5 : Nat), .int .u64 (dgl (v) 6 : Nat), .int .u64 (dgl (v) 7 : Nat)], .bool ov])), (81, .val (.agg #[.int .u64 (dgl (v) 0 : Nat), .int .u64 (dgl (v) 1 : Nat), .int .u64 (dgl (v) 2 : Nat), .int .u64 (dgl (v) 3 : Nat), .int .u64 (dgl (v) 4 : Nat), .int .u64 (dgl (v) 5 : Nat), .int .u64 (dgl (v) 6 : Nat), .int .u64 (dgl (v) 7 : Nat)])), (82, .val (.bool ov)), (13, bif bs.headD false then SlotIs.box (p6 + 1) (dgl v) else SlotIs.box (p6 + 1) (fun _ => 0)), (14, .val (.bool ov))])
        (fun bs W => ExSt neg z s p6 k 0 0 w W ∧ (bs.headD false = false → LiesF W p11 (dgl u))) (fun bs => rfl) mixedOk (by kernel_rfl) (by kernel_rfl) (by kernel_rfl) (⟨h5.1.below (Below.refl _ _).drew, fun _ => h5.2.below (Below.refl _ _).drew⟩) (fun bs W W' h hb => ⟨h.1.below hb, fun e => (h.2 e).below hb⟩) ?_ ?_
      · refine kSt rfl (fun φ hφ => gStep_run rfl ?_) ?_
        · intro ρ W hC hc hf hL
          have e11 : ρ (.tmp 11) = .pointer (some ⟨p11, 0, none⟩) := hL 11 (by decide +kernel)
          have hφ0 : φ 10 = false := hφ 10 (by simp) (by kernel_rfl)
          have l0 := (hC.2 hφ0).1
          simp [go_sem, hc, hf, e11, l0]
          exact ⟨Below.refl _ _, rfl⟩
        refine kSt rfl (fun φ hφ => gStep_run rfl ?_) ?_
        · intro ρ W hC hc hf hL
          have e6 : ρ (.tmp 6) = .pointer (some ⟨p6, 0, none⟩) := hL 6 (by decide +kernel)
          simp [go_sem, hc, hf, e6]
          exact ⟨Below.refl _ _, rfl⟩
        refine kSt rfl (fun φ hφ => gStep_run rfl ?_) ?_
        · intro ρ W hC hc hf hL
          have e76 : ρ (.tmp 76) = .pointer (some ⟨p6, 1, none⟩) := hL 76 (by decide +kernel)
          have l0 := hC.1.rk 1 (by decide)
          simp [go_sem, hc, hf, e76, l0]
          exact ⟨Below.refl _ _, rfl⟩
        refine kSt rfl (fun φ hφ => gStep_run rfl ?_) ?_
        · intro ρ W hC hc hf hL
          have e77 : ρ (.tmp 77) = .int .i64 (k 1) := hL 77 (by decide +kernel)
          have l0 : IntKind.i64.wrap (k 1 - 1) = k 1 - 1 := by rw [IntKind.wrap_i64]; omega
          simp [go_sem, hc, hf, e77, l0]
          exact ⟨Below.refl _ _, rfl⟩
        refine kSt rfl (fun φ hφ => gStep_run rfl ?_) ?_
        · intro ρ W hC hc hf hL
          have e78 : ρ (.tmp 78) = .int .i64 (k 1 - 1) := hL 78 (by decide +kernel)
          simp [go_sem, hc, hf, e78]
          refine (HPW.out W).mono ?_
          rintro e w' ⟨rfl, hb⟩
          exact ⟨_, rfl, by first | exact hb | (subst hb; exact Below.refl _ _), rfl⟩
        refine kSt rfl (fun φ hφ => gStep_run rfl ?_) ?_
        · intro ρ W hC hc hf hL
          have e75 : ρ (.tmp 75) = .agg #[.int .u64 (dgl (u) 0 : Nat), .int .u64 (dgl (u) 1 : Nat), .int .u64 (dgl (u) 2 : Nat), .int .u64 (dgl (u) 3 : Nat), .int .u64 (dgl (u) 4 : Nat), .int .u64 (dgl (u) 5 : Nat), .int .u64 (dgl (u) 6 : Nat), .int .u64 (dgl (u) 7 : Nat)] := hL 75 (by decide +kernel)
          have e79 : ρ (.tmp 79) = .agg #[.int .u64 (dgl (pw) 0 : Nat), .int .u64 (dgl (pw) 1 : Nat), .int .u64 (dgl (pw) 2 : Nat), .int .u64 (dgl (pw) 3 : Nat), .int .u64 (dgl (pw) 4 : Nat), .int .u64 (dgl (pw) 5 : Nat), .int .u64 (dgl (pw) 6 : Nat), .int .u64 (dgl (pw) 7 : Nat)] := hL 79 (by decide +kernel)
          simp [go_sem, hc, hf, e75, e79]
          refine (HSB.out W).mono ?_
          rintro e w' ⟨rfl, hb⟩
          exact ⟨_, rfl, by first | exact hb | (subst hb; exact Below.refl _ _), rfl⟩
        refine kSt rfl (fun φ hφ => gStep_run rfl (gRun_move 80 74 (.inl rfl) rfl (by decide +kernel) (fun v w h => h))) ?_
        refine kSt rfl (fun φ hφ => gStep_run rfl ?_) ?_
        · intro ρ W hC hc hf hL
          have e74 : ρ (.tmp 74) = .tuple #[.agg #[.int .u64 (dgl (v) 0 : Nat), .int .u64 (dgl (v) 1 : Nat), .int .u64 (dgl (v) 2 : Nat), .int .u64 (dgl (v) 3 : Nat), .int .u64 (dgl (v) 4 : Nat), .int .u64 (dgl (v) 5 : Nat), .int .u64 (dgl (v) 6 : Nat), .int .u64 (dgl (v) 7 : Nat)], .bool ov] := hL 74 (by decide +kernel)
          simp [go_sem, hc, hf, e74]
          exact ⟨Below.refl _ _, rfl⟩
        refine kSt rfl (fun φ hφ => gStep_run rfl ?_) ?_
        · intro ρ W hC hc hf hL
          have e74 : ρ (.tmp 74) = .tuple #[.agg #[.int .u64 (dgl (v) 0 : Nat), .int .u64 (dgl (v) 1 : Nat), .int .u64 (dgl (v) 2 : Nat), .int .u64 (dgl (v) 3 : Nat), .int .u64 (dgl (v) 4 : Nat), .int .u64 (dgl (v) 5 : Nat), .int .u64 (dgl (v) 6 : Nat), .int .u64 (dgl (v) 7 : Nat)], .bool ov] := hL 74 (by decide +kernel)
          simp [go_sem, hc, hf, e74]
          exact ⟨Below.refl _ _, rfl⟩
        refine kSt rfl (fun φ hφ => gStep_run rfl ?_) ?_
        · intro ρ W hC hc hf hL
          have hφ0 : φ 10 = false := hφ 10 (by simp) (by kernel_rfl)
          simp [go_sem, hc, hf]
          refine ⟨below_allocs _ _, ?_⟩
          show (bif φ 10 then SlotIs.box (p6 + 1) (dgl v) else SlotIs.box (p6 + 1) (fun _ => 0)).R _ _
          rw [hφ0]
          exact ⟨_, rfl, hC.1.lk, liesF_new _ (fun _ => 0) _, fun i => by simp [go_sem]⟩
        refine kStS rfl ⟨rfl, rfl, ?_⟩ ?_
        · intro φ ρ W hφ hC hc hL
          have b13 := hL 13 (by decide +kernel)
          have e81 : ρ (.tmp 81) = .agg #[.int .u64 (dgl (v) 0 : Nat), .int .u64 (dgl (v) 1 : Nat), .int .u64 (dgl (v) 2 : Nat), .int .u64 (dgl (v) 3 : Nat), .int .u64 (dgl (v) 4 : Nat), .int .u64 (dgl (v) 5 : Nat), .int .u64 (dgl (v) 6 : Nat), .int .u64 (dgl (v) 7 : Nat)] := hL 81 (by decide +kernel)
          have b13 : (bif φ 10 then SlotIs.box (p6 + 1) (dgl v) else SlotIs.box (p6 + 1) (fun _ => 0)).R (ρ (.tmp 13)) W := hL 13 (by decide +kernel)
          rw [hφ] at b13
          obtain ⟨p13, e13, q13, l13, z13⟩ := b13
          have hz := l13.1
          have hzl := l13.2
          refine gUpon_of ((((((((W.setCell ⟨p13, 0, none⟩ (.int .u64 (dgl v 0 : Nat))).setCell ⟨p13, 1, none⟩ (.int .u64 (dgl v 1 : Nat))).setCell ⟨p13, 2, none⟩ (.int .u64 (dgl v 2 : Nat))).setCell ⟨p13, 3, none⟩ (.int .u64 (dgl v 3 : Nat))).setCell ⟨p13, 4, none⟩ (.int .u64 (dgl v 4 : Nat))).setCell ⟨p13, 5, none⟩ (.int .u64 (dgl v 5 : Nat))).setCell ⟨p13, 6, none⟩ (.int .u64 (dgl v 6 : Nat))).setCell ⟨p13, 7, none⟩ (.int .u64 (dgl v 7 : Nat))) ?_ (fun _ => ?_)
          · simp [go_sem, hc, e81, e13, hz, hzl, z13, gUpon]
          have hs8 := below_set8 (Below.refl (p6 + 1) W) p13 q13 (.int .u64 (dgl v 0 : Nat)) (.int .u64 (dgl v 1 : Nat)) (.int .u64 (dgl v 2 : Nat)) (.int .u64 (dgl v 3 : Nat)) (.int .u64 (dgl v 4 : Nat)) (.int .u64 (dgl v 5 : Nat)) (.int .u64 (dgl v 6 : Nat)) (.int .u64 (dgl v 7 : Nat))
          refine ⟨⟨hC.1.under hs8 (by omega), fun e => absurd (show (φ 10 || true) = false from e) (by rw [Bool.or_true]; decide)⟩, fun t => ?_⟩
          refine (tbl_imp rfl (fun _ => val_imp) (tbl_imp rfl (fun _ => val_imp) (tbl_imp rfl (fun _ => val_imp) (tbl_imp rfl (fun _ => val_imp) (tbl_imp rfl (fun _ => val_imp) (tbl_imp rfl (fun _ => val_imp) (tbl_imp rfl (fun _ => val_imp) (tbl_imp rfl (fun _ => val_imp) (tbl_imp rfl (fun _ => val_imp) (tbl_imp rfl (fun ht h => ?_) (tbl_imp rfl (fun _ => val_imp) tbl_nil_imp)))))))))))
          subst ht
          show (bif (φ 10 || true) then SlotIs.box (p6 + 1) (dgl v) else SlotIs.box (p6 + 1) (fun _ => 0)).R _ _
          rw [Bool.or_true]
          exact ⟨p13, e13, q13, set8_same W p13 (dgl v) (fun _ => 0) l13, fun i => by simpa [go_sem] using z13 i⟩
        refine kSt rfl (fun φ hφ => gStep_run rfl (gRun_move 82 14 (.inr rfl) rfl (by decide +kernel) (fun v w h => h))) ?_
        exact kSt0
      · intro W hC
        refine gFi 75 rfl ?_
        rintro _ rfl
        refine gFi 76 rfl ?_
        rintro _ rfl
        refine gFi 77 rfl ?_
        rintro _ rfl
        refine gFi 78 rfl ?_
        rintro _ rfl
        refine gFi 79 rfl ?_
        rintro _ rfl
        refine gFi 80 rfl ?_
        rintro _ rfl
        refine gFi 74 rfl ?_
        rintro _ rfl
        refine gFi 81 rfl ?_
        rintro _ rfl
        refine gFi 82 rfl ?_
        rintro _ rfl
        refine gFi 13 rfl ?_
        rintro _ ⟨p13, rfl, q13, l13, z13⟩
        refine gFiN rfl ?_
        refine gFi 14 rfl ?_
        rintro _ rfl
        refine gFi0 ?_
        simp only [List.drop_succ_cons, List.drop_zero, Act.put, List.setIfInBounds_toArray, List.set_cons_succ, List.set_cons_zero]
        have HS := hide hC.1
        have HL := hide l13
        have HN2 := hide q13
        clear hC l13 q13 z13 h5
        go_upto_region 14 with fail
        refine wp_gen (fun W => ExSt neg z s p6 k 0 0 w W ∧ LiesF W p13 (dgl v)) ⟨HS.out, HL.out⟩ ?_
        clear HS HL
        rintro W9 ⟨h5, h6⟩
        refine wp_region_storeK 14 [12] [83, 84, 85, 86, 87, 88, 89, 90, 91, 92, 93, 94, 5] (fun bs => [(83, .val (.int .i64 f)), (84, .val (.pointer (some ⟨w.heap.size, 0, none⟩))), (85, .val (.bool neg)), (86, .val (.int .i64 la)), (87, .val (.agg #[.int .i64 (k 0), .int .i64 (k 1), .int .i64 (k 2), .int .i64 (k 3), .int .i64 (k 4)])), (88, .val (.int .i64 lo)), (89, .val (.int .i64 (la - lo))), (90, .val (.int .i64 (la - lo + 1))), (91, .val (.agg #[.int .u64 (dgl (v) 0 : Nat), .int .u64 (dgl (v) 1 : Nat), .int .u64 (dgl (v) 2 : Nat), .int .u64 (dgl (v) 3 : Nat), .int .u64 (dgl (v) 4 : Nat), .int .u64 (dgl (v) 5 : Nat), .int .u64 (dgl (v) 6 : Nat), .int .u64 (dgl (v) 7 : Nat)])), (92, .val (.tuple #[.agg #[.int .u64 (dgl (c) 1 : Nat), .int .u64 (dgl (c) 0 : Nat)], .bool ok])), (93, .val (.agg #[.int .u64 (dgl (c) 1 : Nat), .int .u64 (dgl (c) 0 : Nat)])), (94, .val (.bool ok)), (5, .val (.bool ok))])
          (fun bs W => ∀ p, bs.headD false = p → ExSt neg z s p6 k (bif p then dgl c 1 else 0) (bif p then dgl c 0 else 0) w W ∧ LiesF W p13 (dgl v)) (fun bs => rfl) mixedOk (by kernel_rfl) (by kernel_rfl) (by kernel_rfl) (fun p hp => by subst hp; exact ⟨h5.below (Below.refl _ _).drew, h6.below (Below.refl _ _).drew⟩) (fun bs W W' h hb p hp => ⟨(h p hp).1.below hb, (h p hp).2.below hb⟩) ?_ ?_
        · refine kSt rfl (fun φ hφ => gStep_run rfl (gRun_move 0 83 (.inl rfl) rfl (by decide +kernel) (fun v w h => h))) ?_
          refine kSt rfl (fun φ hφ => gStep_run rfl ?_) ?_
          · intro ρ W hC hc hf hL
            have e3 : ρ (.tmp 3) = .pointer (some ⟨w.heap.size, 0, none⟩) := hL 3 (by decide +kernel)
            simp [go_sem, hc, hf, e3]
            exact ⟨Below.refl _ _, rfl⟩
          refine kSt rfl (fun φ hφ => gStep_run rfl ?_) ?_
          · intro ρ W hC hc hf hL
            have e84 : ρ (.tmp 84) = .pointer (some ⟨w.heap.size, 0, none⟩) := hL 84 (by decide +kernel)
            have hφ0 : φ 12 = false := hφ 12 (by simp) (by kernel_rfl)
            have hD : ExSt neg z s p6 k 0 0 w W ∧ LiesF W p13 (dgl v) := hC false hφ0
            have l0 := hD.1.n.n
            simp [go_sem, hc, hf, e84, l0]
            exact ⟨Below.refl _ _, rfl⟩
          refine kSt rfl (fun φ hφ => gStep_run rfl (gRun_move 10 86 (.inl rfl) rfl (by decide +kernel) (fun v w h => h))) ?_
          refine kSt rfl (fun φ hφ => gStep_run rfl ?_) ?_
          · intro ρ W hC hc hf hL
            have e6 : ρ (.tmp 6) = .pointer (some ⟨p6, 0, none⟩) := hL 6 (by decide +kernel)
            have hφ0 : φ 12 = false := hφ 12 (by simp) (by kernel_rfl)
            have hD : ExSt neg z s p6 k 0 0 w W ∧ LiesF W p13 (dgl v) := hC false hφ0
            have l0 := hD.1.rk
            simp [go_sem, hc, hf, e6, l0]
            exact ⟨Below.refl _ _, rfl⟩
          refine kSt rfl (fun φ hφ => gStep_run rfl ?_) ?_
          · intro ρ W hC hc hf hL
            have e87 : ρ (.tmp 87) = .agg #[.int .i64 (k 0), .int .i64 (k 1), .int .i64 (k 2), .int .i64 (k 3), .int .i64 (k 4)] := hL 87 (by decide +kernel)
            simp [go_sem, hc, hf, e87]
            refine (HLO.out W).mono ?_
            rintro e w' ⟨rfl, hb⟩
            exact ⟨_, rfl, by first | exact hb | (subst hb; exact Below.refl _ _), rfl⟩
          refine kSt rfl (fun φ hφ => gStep_run rfl ?_) ?_
          · intro ρ W hC hc hf hL
            have e86 : ρ (.tmp 86) = .int .i64 la := hL 86 (by decide +kernel)
            have e88 : ρ (.tmp 88) = .int .i64 lo := hL 88 (by decide +kernel)
            have l0 : IntKind.i64.wrap (la - lo) = la - lo := by rw [IntKind.wrap_i64]; omega
            simp [go_sem, hc, hf, e86, e88, l0]
            exact ⟨Below.refl _ _, rfl⟩
          refine kSt rfl (fun φ hφ => gStep_run rfl ?_) ?_
          · intro ρ W hC hc hf hL
            have e89 : ρ (.tmp 89) = .int .i64 (la - lo) := hL 89 (by decide +kernel)
            have l0 : IntKind.i64.wrap (la - lo + 1) = la - lo + 1 := by rw [IntKind.wrap_i64]; omega
            simp [go_sem, hc, hf, e89, l0]
            exact ⟨Below.refl _ _, rfl⟩
          refine kSt rfl (fun φ hφ => gStep_run rfl ?_) ?_
          · intro ρ W hC hc hf hL
            have e13 : ρ (.tmp 13) = .pointer (some ⟨p13, 0, none⟩) := hL 13 (by decide +kernel)
            have hφ0 : φ 12 = false := hφ 12 (by simp) (by kernel_rfl)
            have hD : ExSt neg z s p6 k 0 0 w W ∧ LiesF W p13 (dgl v) := hC false hφ0
            have l0 := hD.2.1
            simp [go_sem, hc, hf, e13, l0]
            exact ⟨Below.refl _ _, rfl⟩
          refine kSt rfl (fun φ hφ => gStep_run rfl ?_) ?_
          · intro ρ W hC hc hf hL
            have e83 : ρ (.tmp 83) = .int .i64 f := hL 83 (by decide +kernel)
            have e85 : ρ (.tmp 85) = .bool neg := hL 85 (by decide +kernel)
            have e90 : ρ (.tmp 90) = .int .i64 (la - lo + 1) := hL 90 (by decide +kernel)
            have e91 : ρ (.tmp 91) = .agg #[.int .u64 (dgl (v) 0 : Nat), .int .u64 (dgl (v) 1 : Nat), .int .u64 (dgl (v) 2 : Nat), .int .u64 (dgl (v) 3 : Nat), .int .u64 (dgl (v) 4 : Nat), .int .u64 (dgl (v) 5 : Nat), .int .u64 (dgl (v) 6 : Nat), .int .u64 (dgl (v) 7 : Nat)] := hL 91 (by decide +kernel)
            have hφ0 : φ 12 = false := hφ 12 (by simp) (by kernel_rfl)
            have hD : ExSt neg z s p6 k 0 0 w W ∧ LiesF W p13 (dgl v) := hC false hφ0
            simp [go_sem, hc, hf, e83, e85, e90, e91]
            refine (HMK.out W hD.1.g).mono ?_
            rintro e w' ⟨rfl, hb⟩
            exact ⟨_, rfl, by first | exact hb | (subst hb; exact Below.refl _ _), rfl⟩
          refine kSt rfl (fun φ hφ => gStep_run rfl ?_) ?_
          · intro ρ W hC hc hf hL
            have e92 : ρ (.tmp 92) = .tuple #[.agg #[.int .u64 (dgl (c) 1 : Nat), .int .u64 (dgl (c) 0 : Nat)], .bool ok] := hL 92 (by decide +kernel)
            simp [go_sem, hc, hf, e92]
            exact ⟨Below.refl _ _, rfl⟩
          refine kSt rfl (fun φ hφ => gStep_run rfl ?_) ?_
          · intro ρ W hC hc hf hL
            have e92 : ρ (.tmp 92) = .tuple #[.agg #[.int .u64 (dgl (c) 1 : Nat), .int .u64 (dgl (c) 0 : Nat)], .bool ok] := hL 92 (by decide +kernel)
            simp [go_sem, hc, hf, e92]
            exact ⟨Below.refl _ _, rfl⟩
          refine kStS rfl ⟨rfl, rfl, ?_⟩ ?_
          · intro φ ρ W hφ hC hc hL
            have e4 : ρ (.tmp 4) = .pointer (some ⟨w.heap.size + 1, 0, none⟩) := hL 4 (by decide +kernel)
            have e93 : ρ (.tmp 93) = .agg #[.int .u64 (dgl (c) 1 : Nat), .int .u64 (dgl (c) 0 : Nat)] := hL 93 (by decide +kernel)
            have hD : ExSt neg z s p6 k 0 0 w W ∧ LiesF W p13 (dgl v) := hC false hφ
            have q0 := hD.1.r.h
            have q1 := hD.1.r.l
            have hrf := hD.1.fr
            have hrl := hD.1.r.lt
            refine gUpon_of ((W.setCell ⟨w.heap.size + 1, 0, none⟩ (.int .u64 (dgl c 1 : Nat))).setCell ⟨w.heap.size + 1, 1, none⟩ (.int .u64 (dgl c 0 : Nat))) ?_ (fun _ => ?_)
            · simp [go_sem, hc, e4, e93, hrf, hrl, q0, q1, gUpon]
            refine ⟨fun p hp => ?_, fun t => (tbl_imp rfl (fun _ => val_imp) (tbl_imp rfl (fun _ => val_imp) (tbl_imp rfl (fun _ => val_imp) (tbl_imp rfl (fun _ => val_imp) (tbl_imp rfl (fun _ => val_imp) (tbl_imp rfl (fun _ => val_imp) (tbl_imp rfl (fun _ => val_imp) (tbl_imp rfl (fun _ => val_imp) (tbl_imp rfl (fun _ => val_imp) (tbl_imp rfl (fun _ => val_imp) (tbl_imp rfl (fun _ => val_imp) (tbl_imp rfl (fun _ => val_imp) (tbl_imp rfl (fun _ => val_imp) tbl_nil_imp)))))))))))))⟩
            have hp2 : (φ 12 || true) = p := hp
            rw [Bool.or_true] at hp2
            subst hp2
            exact ⟨hD.1.setR (dgl c 1) (dgl c 0), lies_set2 hD.2 (by have h5 := hD.1.lo; have h6 := HN2.out; omega)⟩
          refine kSt rfl (fun φ hφ => gStep_run rfl (gRun_move 94 5 (.inr rfl) rfl (by decide +kernel) (fun v w h => h))) ?_
          exact kSt0
        · intro W hC
          refine gFi 83 rfl ?_
          rintro _ rfl
          refine gFi 84 rfl ?_
          rintro _ rfl
          refine gFi 85 rfl ?_
          rintro _ rfl
          refine gFi 86 rfl ?_
          rintro _ rfl
          refine gFi 87 rfl ?_
          rintro _ rfl
          refine gFi 88 rfl ?_
          rintro _ rfl
          refine gFi 89 rfl ?_
          rintro _ rfl
          refine gFi 90 rfl ?_
          rintro _ rfl
          refine gFi 91 rfl ?_
          rintro _ rfl
          refine gFi 92 rfl ?_
          rintro _ rfl
          refine gFi 93 rfl ?_
          rintro _ rfl
          refine gFi 94 rfl ?_
          rintro _ rfl
          refine gFiN rfl ?_
          refine gFi 5 rfl ?_
          rintro _ rfl
          refine gFi0 ?_
          simp only [List.drop_succ_cons, List.drop_zero, Act.put, List.setIfInBounds_toArray, List.set_cons_succ, List.set_cons_zero]
          have HC := hide (hC true rfl).1
          clear hC h5 h6
          have q0 := HC.out.r.h
          have q1 := HC.out.r.l
          simp only [cond_true] at q0 q1
          have hlt := HC.out.r.lt
          have HB := hide HC.out.bel
          clear HC
          go_wp2
          exact bodyPost_ret (v := .tuple #[.agg #[.int .u64 (dgl (c) 1 : Nat), .int .u64 (dgl (c) 0 : Nat)], .bool ok]) (by simp [results, Tryz.results24, go_sem, hlt, q0, q1]) rfl ⟨rfl, HB.out⟩

end Go.Proofs.YtpcjdllijkjdkaaGreatDoor

/- Small laws: bounds of right numbers; == on words. -/
set_option linter.unusedVariables false
set_option linter.unusedSimpArgs false
set_option maxRecDepth 8000
namespace Go.Proofs.YtpcjdllijkjdkaaGreatDoor
open Go.RowKit Plain

theorem rgtB {z : Int} (h : rgt z = true) : -1048576 ≤ z ∧ z ≤ 1048576 := by
  unfold rgt at h
  rw [Bool.and_eq_true, decide_eq_true_iff, decide_eq_true_iff] at h
  exact h
theorem wordEq {a b : Nat} (ha : a < 2 ^ 128) (hb : b < 2 ^ 128) (w : World) : (Op.equalIn 10000 29 (.agg #[.int .u64 (dgl (a) 1 : Nat), .int .u64 (dgl (a) 0 : Nat)]) (.agg #[.int .u64 (dgl (b) 1 : Nat), .int .u64 (dgl (b) 0 : Nat)])).run Tryz.prog w = .ok (decide (a = b)) w := by
  have u3 := Tryz.underlying23
  have uw := Tryz.underlying29
  have e1 := word_back a ha
  have e2 := word_back b hb
  have hk : a = b ↔ (dgl a 1 = dgl b 1 ∧ dgl a 0 = dgl b 0) := by
    constructor
    · intro h; subst h; exact ⟨rfl, rfl⟩
    · rintro ⟨h1, h2⟩
      rw [← e1, ← e2, h1, h2]
  rw [show decide (a = b) = decide (dgl a 1 = dgl b 1 ∧ dgl a 0 = dgl b 0) from decide_eq_decide.2 hk]
  generalize dgl a 1 = x1
  generalize dgl a 0 = x0
  generalize dgl b 1 = y1
  generalize dgl b 0 = y0
  rw [show (10000 : Nat) = 9999 + 1 from rfl]
  go_simp
  simp only [Int.ofNat_inj]
  by_cases h1 : x1 = y1
  · by_cases h2 : x0 = y0
    · simp [h1, h2]
    · simp [h1, h2]
  · simp [h1]

end Go.Proofs.YtpcjdllijkjdkaaGreatDoor

/- Contracts: unpack.Exact at a number that a word stands for. -/
set_option linter.unusedVariables false
set_option linter.unusedSimpArgs false
set_option maxRecDepth 8000
namespace Go.Proofs.YtpcjdllijkjdkaaGreatDoor
open Go.RowKit Plain

def emU (f : Int) : Int := tU f 15 127 1023 16383 0
theorem kU_2 (f : Int) (h : 1 ≤ f ∧ f ≤ 4) : kU f 2 = emU f := by
  rcases f_cases f with rfl | rfl | rfl | rfl | h0
  · rfl
  · rfl
  · rfl
  · rfl
  · omega
theorem loU_eq (f : Int) (h : 1 ≤ f ∧ f ≤ 4) : loU f = 2 - emU f - (prU f : Int) := by
  rcases f_cases f with rfl | rfl | rfl | rfl | h0
  · rfl
  · rfl
  · rfl
  · rfl
  · omega
theorem fin_fldN {B P F a : Nat} (h : 4 ≤ clsN B P F a) : fldN B P F a + 2 ≤ 2 ^ F := by
  unfold clsN at h
  by_cases hb : a < 2 ^ B
  · rw [if_pos hb] at h
    rw [show fldN B P F a = a / 2 ^ (P - 1) % 2 ^ F from if_pos hb]
    have hl := Nat.mod_lt (a / 2 ^ (P - 1)) (Nat.two_pow_pos F)
    generalize a / 2 ^ (P - 1) % 2 ^ F = fd at *
    unfold clsP at h
    by_cases he : fd = 2 ^ F - 1
    · rw [if_pos he] at h
      repeat' split at h
      all_goals omega
    · omega
  · rw [if_neg hb] at h
    omega
theorem fin_fld {f : Int} {a : Nat} (h : 4 ≤ clsU f a) : (fldU f a : Int) ≤ 2 * emU f := by
  rcases f_cases f with rfl | rfl | rfl | rfl | h0
  · have := fin_fldN (B := 16) (P := 11) (F := 5) h
    show ((fldN 16 11 5 a : Nat) : Int) ≤ 2 * 15
    omega
  · have := fin_fldN (B := 32) (P := 24) (F := 8) h
    show ((fldN 32 24 8 a : Nat) : Int) ≤ 2 * 127
    omega
  · have := fin_fldN (B := 64) (P := 53) (F := 11) h
    show ((fldN 64 53 11 a : Nat) : Int) ≤ 2 * 1023
    omega
  · have := fin_fldN (B := 128) (P := 113) (F := 15) h
    show ((fldN 128 113 15 a : Nat) : Int) ≤ 2 * 16383
    omega
  · rw [show clsU f a = 0 from tU_none f h0 _ _ _ _ _] at h
    omega
/-- The word of 0, with a sign. -/
def ngtU (f : Int) (neg : Bool) : Nat := tU f (bif neg then 32768 else 0) (bif neg then 2147483648 else 0) (bif neg then 9223372036854775808 else 0) (bif neg then 170141183460469231731687303715884105728 else 0) 0
theorem nought_u (f : Int) (h : 1 ≤ f ∧ f ≤ 4) (neg : Bool) (w : World) (hg : FmtG w) : Calls Tryz.prog 18 #[.int .i64 f, .bool neg] w fun e w' => e = .returned (.agg #[.int .u64 (dgl (ngtU f neg) 1 : Nat), .int .u64 (dgl (ngtU f neg) 0 : Nat)]) ∧ Below w.heap.size w w' := by
  rcases f_cases f with rfl | rfl | rfl | rfl | h0
  · exact nought_1 neg w hg
  · exact nought_2 neg w hg
  · exact nought_3 neg w hg
  · exact nought_4 neg w hg
  · omega
theorem ngtN_own {B P F a : Nat} (hB : B = P + F) (hP : 0 < P) (h : a < 2 ^ B) (h1 : fldN B P F a = 0) (h2 : frcN B P a = 0) : a = bif negN B a then 2 ^ (B - 1) else 0 := by
  unfold fldN at h1
  unfold frcN at h2
  rw [if_pos h] at h1 h2
  unfold negN
  rw [decide_eq_true h, Bool.true_and]
  have e1 := Nat.div_add_mod a (2 ^ (P - 1))
  have e2 := Nat.div_add_mod (a / 2 ^ (P - 1)) (2 ^ F)
  rw [h2, Nat.add_zero] at e1
  rw [h1, Nat.add_zero, Nat.div_div_eq_div_mul, ← Nat.pow_add, show P - 1 + F = B - 1 by omega] at e2
  have e3 : a = 2 ^ (B - 1) * (a / 2 ^ (B - 1)) := by
    rw [← e2, ← Nat.mul_assoc, ← Nat.pow_add, show P - 1 + F = B - 1 by omega] at e1
    exact e1.symm
  have h5 := pow_half B (by omega)
  have h6 : a / 2 ^ (B - 1) < 2 := by
    rw [Nat.div_lt_iff_lt_mul (Nat.two_pow_pos _)]
    omega
  generalize a / 2 ^ (B - 1) = q at *
  have hq : q = 0 ∨ q = 1 := by omega
  rcases hq with rfl | rfl
  · simpa using e3
  · simpa using e3
theorem ngt_own {f : Int} {a : Nat} (h4 : 4 ≤ clsU f a) (h0 : sigU f a = 0) : ngtU f (negU f a) = a := by
  have hf : 1 ≤ f ∧ f ≤ 4 := cls_form (a := a) (by omega)
  have h1 : fldU f a = 0 := Classical.byContradiction fun hn => by
    unfold sigU at h0
    rw [if_neg hn] at h0
    have := Nat.two_pow_pos (prU f - 1)
    omega
  have h2 : frcU f a = 0 := by unfold sigU at h0; rw [if_pos h1] at h0; exact h0
  rcases f_cases f with rfl | rfl | rfl | rfl | h
  · exact (ngtN_own (B := 16) (P := 11) (F := 5) rfl (by decide) (cls_fit (B := 16) (P := 11) (F := 5) (show clsN 16 11 5 a ≠ 0 from fun e => by rw [show clsU 1 a = clsN 16 11 5 a from rfl] at h4; omega)) h1 h2).symm
  · exact (ngtN_own (B := 32) (P := 24) (F := 8) rfl (by decide) (cls_fit (B := 32) (P := 24) (F := 8) (show clsN 32 24 8 a ≠ 0 from fun e => by rw [show clsU 2 a = clsN 32 24 8 a from rfl] at h4; omega)) h1 h2).symm
  · exact (ngtN_own (B := 64) (P := 53) (F := 11) rfl (by decide) (cls_fit (B := 64) (P := 53) (F := 11) (show clsN 64 53 11 a ≠ 0 from fun e => by rw [show clsU 3 a = clsN 64 53 11 a from rfl] at h4; omega)) h1 h2).symm
  · exact (ngtN_own (B := 128) (P := 113) (F := 15) rfl (by decide) (cls_fit (B := 128) (P := 113) (F := 15) (show clsN 128 113 15 a ≠ 0 from fun e => by rw [show clsU 4 a = clsN 128 113 15 a from rfl] at h4; omega)) h1 h2).symm
  · omega

/-- A Sig that is normal has all its digits, one that isn't has less. -/
theorem sig_len (f : Int) (a : Nat) (hf : 1 ≤ f ∧ f ≤ 4) : (fldU f a ≠ 0 → Go.bitLen (sigU f a) = prU f) ∧ (fldU f a = 0 → Go.bitLen (sigU f a) ≤ prU f - 1) := by
  have hp := prU_bd f hf
  have h1 := frcU_lt f a hf
  have h2 := sigU_lt f a hf
  constructor
  · intro h0
    have e : sigU f a = frcU f a + 2 ^ (prU f - 1) := if_neg h0
    have h3 := (len_le (sigU f a) (prU f)).2 h2
    have h4 : ¬ Go.bitLen (sigU f a) ≤ prU f - 1 := fun h => by
      have := (len_le (sigU f a) (prU f - 1)).1 h
      omega
    omega
  · intro h0
    have e : sigU f a = frcU f a := if_pos h0
    rw [e]
    exact (len_le _ _).2 h1
theorem same_top {a b : Nat} {ea eb m : Int} (ha : a ≠ 0) (hb : b ≠ 0) (h1 : m ≤ ea) (h2 : m ≤ eb) (h : vl a ea m = vl b eb m) : ea + (Go.bitLen a : Int) = eb + (Go.bitLen b : Int) := by
  have h3 := (sizeZ_spec a b ea eb m h1 h2).2.2 h
  unfold sizeZ at h3
  rw [if_neg ha, if_neg hb] at h3
  refine Classical.byContradiction fun ht => ?_
  rw [if_pos ht] at h3
  omega
theorem vl_cancel {a b : Nat} {ea eb m : Int} (h1 : m ≤ ea) (h2 : ea ≤ eb) (h : vl a ea m = vl b eb m) : a = b * 2 ^ (eb - ea).toNat := by
  unfold vl at h
  rw [show (eb - m).toNat = (eb - ea).toNat + (ea - m).toNat by omega, Nat.pow_add, ← Nat.mul_assoc] at h
  exact Nat.eq_of_mul_eq_mul_right (Nat.two_pow_pos _) h
theorem shr_num (s n : Nat) (h : n ≤ 512) (hs : s < QQ) (w : World) : Calls Tryz.prog 78 #[.agg #[.int .u64 (dgl (s) 0 : Nat), .int .u64 (dgl (s) 1 : Nat), .int .u64 (dgl (s) 2 : Nat), .int .u64 (dgl (s) 3 : Nat), .int .u64 (dgl (s) 4 : Nat), .int .u64 (dgl (s) 5 : Nat), .int .u64 (dgl (s) 6 : Nat), .int .u64 (dgl (s) 7 : Nat)], .int .i64 (n : Nat)] w fun e w' => e = .returned (.tuple #[.agg #[.int .u64 (dgl (s / 2 ^ n) 0 : Nat), .int .u64 (dgl (s / 2 ^ n) 1 : Nat), .int .u64 (dgl (s / 2 ^ n) 2 : Nat), .int .u64 (dgl (s / 2 ^ n) 3 : Nat), .int .u64 (dgl (s / 2 ^ n) 4 : Nat), .int .u64 (dgl (s / 2 ^ n) 5 : Nat), .int .u64 (dgl (s / 2 ^ n) 6 : Nat), .int .u64 (dgl (s / 2 ^ n) 7 : Nat)], .bool (!decide (s / 2 ^ n * 2 ^ n = s))]) ∧ Below w.heap.size w w' :=
  wideShr_any s n (n : Int) (by unfold roomI; omega) hs w
/-- unpack.at, where no digit is lost. -/
theorem at_word (neg : Bool) (z x m : Int) (s u : Nat) (hs : s < QQ) (hu : u < QQ) (hu0 : u ≠ 0) (hz : -1048576 ≤ z ∧ z ≤ 1048576) (hx : -3000000 ≤ x ∧ x ≤ 3000000) (h1 : m ≤ z) (h2 : m ≤ x) (h : vl s z m = vl u x m) (w : World) :
    Calls Tryz.prog 55 #[.agg #[.bool (neg), .int .i64 (z), .int .u64 (dgl (s) 0 : Nat), .int .u64 (dgl (s) 1 : Nat), .int .u64 (dgl (s) 2 : Nat), .int .u64 (dgl (s) 3 : Nat), .int .u64 (dgl (s) 4 : Nat), .int .u64 (dgl (s) 5 : Nat), .int .u64 (dgl (s) 6 : Nat), .int .u64 (dgl (s) 7 : Nat)], .int .i64 x] w fun e w' => e = .returned (.tuple #[.agg #[.int .u64 (dgl (u) 0 : Nat), .int .u64 (dgl (u) 1 : Nat), .int .u64 (dgl (u) 2 : Nat), .int .u64 (dgl (u) 3 : Nat), .int .u64 (dgl (u) 4 : Nat), .int .u64 (dgl (u) 5 : Nat), .int .u64 (dgl (u) 6 : Nat), .int .u64 (dgl (u) 7 : Nat)], .bool true]) ∧ Below w.heap.size w w' := by
  by_cases hzx : x ≤ z
  · have e := vl_cancel (a := u) (b := s) h2 hzx h.symm
    have hs0 : s ≠ 0 := fun h0 => hu0 (by rw [e, h0, Nat.zero_mul])
    have ht := same_top hs0 hu0 h1 h2 h
    have l1 := len_pos hs0
    have l2 := len_qq hu
    refine at_U neg false z x s u hz hx hzx (fun w => ?_) w
    have h3 := shl_num s (z - x).toNat (by omega) hs w
    rw [← e, show (((z - x).toNat : Nat) : Int) = z - x by omega] at h3
    exact h3
  · have e := vl_cancel (a := s) (b := u) h1 (show z ≤ x by omega) h
    have hs0 : s ≠ 0 := fun h0 => by
      rw [h0] at e
      have := Nat.mul_pos (Nat.pos_of_ne_zero hu0) (Nat.two_pow_pos (x - z).toNat)
      omega
    have ht := same_top hs0 hu0 h1 h2 h
    have l1 := len_pos hu0
    have l2 := len_qq hs
    have e2 : s / 2 ^ (x - z).toNat = u := by rw [e, Nat.mul_div_cancel _ (Nat.two_pow_pos _)]
    refine at_D neg false z x s u hz hx hzx (fun w => ?_) w
    have h3 := shr_num s (x - z).toNat (by omega) hs w
    rw [e2, ← e, decide_eq_true rfl, show (((x - z).toNat : Nat) : Int) = x - z by omega] at h3
    exact h3

theorem exact_word (f : Int) (a : Nat) (h4 : 4 ≤ clsU f a) (z m : Int) (s : Nat) (hs : s < QQ) (hr : rgt z = true) (h1 : m ≤ z) (h2 : m ≤ expU f a) (hv : vl s z m = vl (sigU f a) (expU f a) m) (w : World) (hg : FmtG w) :
    Calls Tryz.prog 24 #[.int .i64 f, .agg #[.bool (negU f a), .int .i64 (z), .int .u64 (dgl (s) 0 : Nat), .int .u64 (dgl (s) 1 : Nat), .int .u64 (dgl (s) 2 : Nat), .int .u64 (dgl (s) 3 : Nat), .int .u64 (dgl (s) 4 : Nat), .int .u64 (dgl (s) 5 : Nat), .int .u64 (dgl (s) 6 : Nat), .int .u64 (dgl (s) 7 : Nat)]] w fun e w' => e = .returned (.tuple #[.agg #[.int .u64 (dgl (a) 1 : Nat), .int .u64 (dgl (a) 0 : Nat)], .bool true]) ∧ Below w.heap.size w w' := by
  have hf : 1 ≤ f ∧ f ≤ 4 := cls_form (a := a) (by omega)
  have HO := fun w hg => of_u f hf w hg
  have HR := fun w => uRight_any (negU f a) z s w
  rw [hr] at HR
  have hz := rgtB hr
  by_cases h0 : s = 0
  · have hs0 : sigU f a = 0 := Classical.byContradiction fun hn => by
      have := vl_pos (expU f a) m hn
      rw [h0, vl_zero] at hv
      omega
    subst h0
    have HN := fun w hg => nought_u f hf (negU f a) w hg
    rw [ngt_own h4 hs0] at HN
    exact exact_Z f z 0 0 0 (negU f a) false false false (kU f) 0 0 0 0 0 a HO HR (fun w => top_Z (negU f a) z 0 hr hz w) HN w hg
  · have hs0 : sigU f a ≠ 0 := fun hn => by
      have := vl_pos z m h0
      rw [hn, vl_zero] at hv
      omega
    have ht := same_top h0 hs0 h1 h2 hv
    have hp := prU_bd f hf
    have hl := sig_len f a hf
    have hlo := loU_bd f
    have hfl := fin_fld h4
    have hle := loU_eq f hf
    have k1 := kU_1 f hf
    have k2 := kU_2 f hf
    have hfd := fldU_le f a
    have hrq := Nat.lt_trans (frcU_lt f a hf) (pow_qq (prU f - 1) (by omega))
    have lp := len_pos hs0
    have hq := sigU_qq f a hf
    have HT := fun w => top_Y (negU f a) z s hr hz hs h0 w
    have HLO := fun w => low_u f hf w
    by_cases hn : fldU f a = 0
    · have e1 : sigU f a = frcU f a := if_pos hn
      have e2 : expU f a = loU f := if_pos hn
      have l2 := hl.2 hn
      have HAT := fun w => at_word (negU f a) z (expU f a) m s (sigU f a) hs hq hs0 hz (by omega) h1 h2 hv w
      have HMK := fun w hg => makeOwn_u f a (by omega) w hg
      rw [hn, ← e1] at HMK
      exact exact_S f z _ (loU f) (expU f a) (negU f a) false true false (kU f) s (sigU f a) 0 (Go.bitLen (sigU f a)) 0 a HO HR HT (by omega) (by omega) hlo (by unfold Hid; omega) (by omega) HLO HAT (by unfold Hid; omega)
        (fun w => wideLen_any _ hq w) (by unfold Hid; rw [decide_eq_true_iff]; omega) HMK w hg
    · have e1 : sigU f a = frcU f a + 2 ^ (prU f - 1) := if_neg hn
      have e2 : expU f a = loU f + ((fldU f a : Int) - 1) := if_neg hn
      have l2 := hl.1 hn
      have HAT := fun w => at_word (negU f a) z (expU f a) m s (sigU f a) hs hq hs0 hz (by omega) h1 h2 hv w
      have HMK := fun w hg => makeOwn_u f a (by omega) w hg
      rw [show ((fldU f a : Nat) : Int) = expU f a - loU f + 1 by omega] at HMK
      have HPW := fun w => pow_num (prU f - 1) (kU f 1 - 1) (by omega) (by rw [k1]; omega) w
      have HSB := fun w => wideSub_any (sigU f a) (2 ^ (prU f - 1)) hq (pow_qq _ (by omega)) w
      rw [subQ_le hq (by omega), show sigU f a - 2 ^ (prU f - 1) = frcU f a by omega] at HSB
      exact exact_N f z _ (loU f) (expU f a) (negU f a) false true _ (kU f) s (sigU f a) (frcU f a) (Go.bitLen (sigU f a)) (2 ^ (prU f - 1)) a HO HR HT (by omega) (by omega) hlo (by unfold Hid; omega) (by omega) HLO HAT (by unfold Hid; omega)
        (fun w => wideLen_any _ hq w) (by unfold Hid; rw [decide_eq_false_iff_not]; omega) HPW HSB HMK w hg

end Go.Proofs.YtpcjdllijkjdkaaGreatDoor

/- Contracts: the document's Value. -/
set_option linter.unusedVariables false
set_option linter.unusedSimpArgs false
set_option maxRecDepth 8000
namespace Go.Proofs.YtpcjdllijkjdkaaGreatDoor
open Go.RowKit Plain

def SlotIs.nbox (B : Nat) (neg : Bool) (z : Int) (s : Nat) : SlotIs :=
  ⟨fun v w => ∃ b, v = .pointer (some ⟨b, 0, none⟩) ∧ B ≤ b ∧ NB w b neg z s ∧ ∀ i, w.frozen? ⟨b, i, none⟩ = false,
   fun v w w' hb ⟨b, h1, h2, h3, h4⟩ => ⟨b, h1, h2, h3.below hb, fun i => (hb.frozen (p := ⟨b, i, none⟩) h3.lt).trans (h4 i)⟩⟩
structure RvSt (a : Nat) (w W : World) : Prop where
  wa : WB W w.heap.size (dgl a 1) (dgl a 0)
  r : NB W (w.heap.size + 1) false 0 0
  fr : ∀ i, W.frozen? ⟨w.heap.size + 1, i, none⟩ = false
  bel : Below w.heap.size w W
theorem RvSt.under {a : Nat} {w W W' : World} (h : RvSt a w W) {C : Nat} (hb : Below C W W') (hc : w.heap.size + 1 < C) : RvSt a w W' := by
  have h0 : w.heap.size < C := by omega
  exact ⟨⟨(hb.cell (p := ⟨w.heap.size, 0, none⟩) h0).trans h.wa.h, (hb.cell (p := ⟨w.heap.size, 1, none⟩) h0).trans h.wa.l, Nat.lt_of_lt_of_le h.wa.lt hb.size⟩, h.r.under hb hc, fun i => (hb.frozen (p := ⟨w.heap.size + 1, i, none⟩) hc).trans (h.fr i), h.bel.trans (hb.mono (by omega))⟩
theorem RvSt.below {a : Nat} {w W W' : World} (h : RvSt a w W) (hb : Below W.heap.size W W') : RvSt a w W' := h.under hb h.r.lt
theorem rvSt_start (a : Nat) (w : World) : RvSt a w ((w.alloc (.cells #[.int .u64 (dgl (a) 1 : Nat), .int .u64 (dgl (a) 0 : Nat)] 29)).alloc (.cells #[.bool false, .int .i64 0, .int .u64 0, .int .u64 0, .int .u64 0, .int .u64 0, .int .u64 0, .int .u64 0, .int .u64 0, .int .u64 0] 27)) := by
  have h1 := nb_zero (w.alloc (.cells #[.int .u64 (dgl (a) 1 : Nat), .int .u64 (dgl (a) 0 : Nat)] 29)) 27
  rw [World.size_alloc] at h1
  exact ⟨⟨by simp [go_sem], by simp [go_sem], by simp; omega⟩, h1, fun i => by simp [go_sem], below_trans (below_allocs _ _) (below_allocs _ _)⟩
theorem nb_setx0 {W : World} {p : Nat} {n : Bool} {z : Int} {r s : Nat} (h : NB W p n z r) (ho : ∀ j, j ≠ 0 → dgl s j = dgl r j) : NB (W.setCell ⟨p, 2, none⟩ (.int .u64 (dgl s 0 : Nat))) p n z s := by
  have ln := h.n
  have le := h.e
  have l0 := h.x0
  have l1 := h.x1
  have l2 := h.x2
  have l3 := h.x3
  have l4 := h.x4
  have l5 := h.x5
  have l6 := h.x6
  have l7 := h.x7
  have hl := h.lt
  have o1 := ho 1 (by decide)
  have o2 := ho 2 (by decide)
  have o3 := ho 3 (by decide)
  have o4 := ho 4 (by decide)
  have o5 := ho 5 (by decide)
  have o6 := ho 6 (by decide)
  have o7 := ho 7 (by decide)
  exact ⟨by simp [go_sem, ln], by simp [go_sem, le], by simp [go_sem, l0], by simp [go_sem, l1, o1], by simp [go_sem, l2, o2], by simp [go_sem, l3, o3], by simp [go_sem, l4, o4], by simp [go_sem, l5, o5], by simp [go_sem, l6, o6], by simp [go_sem, l7, o7], by simpa [go_sem] using hl⟩
theorem nb_setx1 {W : World} {p : Nat} {n : Bool} {z : Int} {r s : Nat} (h : NB W p n z r) (ho : ∀ j, j ≠ 1 → dgl s j = dgl r j) : NB (W.setCell ⟨p, 3, none⟩ (.int .u64 (dgl s 1 : Nat))) p n z s := by
  have ln := h.n
  have le := h.e
  have l0 := h.x0
  have l1 := h.x1
  have l2 := h.x2
  have l3 := h.x3
  have l4 := h.x4
  have l5 := h.x5
  have l6 := h.x6
  have l7 := h.x7
  have hl := h.lt
  have o0 := ho 0 (by decide)
  have o2 := ho 2 (by decide)
  have o3 := ho 3 (by decide)
  have o4 := ho 4 (by decide)
  have o5 := ho 5 (by decide)
  have o6 := ho 6 (by decide)
  have o7 := ho 7 (by decide)
  exact ⟨by simp [go_sem, ln], by simp [go_sem, le], by simp [go_sem, l0, o0], by simp [go_sem, l1], by simp [go_sem, l2, o2], by simp [go_sem, l3, o3], by simp [go_sem, l4, o4], by simp [go_sem, l5, o5], by simp [go_sem, l6, o6], by simp [go_sem, l7, o7], by simpa [go_sem] using hl⟩
theorem nb_sete {W : World} {p : Nat} {n : Bool} {z : Int} {s : Nat} (h : NB W p n z s) (y : Int) : NB (W.setCell ⟨p, 1, none⟩ (.int .i64 y)) p n y s := by
  have ln := h.n
  have le := h.e
  have l0 := h.x0
  have l1 := h.x1
  have l2 := h.x2
  have l3 := h.x3
  have l4 := h.x4
  have l5 := h.x5
  have l6 := h.x6
  have l7 := h.x7
  have hl := h.lt
  exact ⟨by simp [go_sem, ln], by simp [go_sem, le], by simp [go_sem, l0], by simp [go_sem, l1], by simp [go_sem, l2], by simp [go_sem, l3], by simp [go_sem, l4], by simp [go_sem, l5], by simp [go_sem, l6], by simp [go_sem, l7], by simpa [go_sem] using hl⟩

set_option maxHeartbeats 4000000 in
theorem rval_Z (f em lo : Int) (a r s fd P e : Nat) (ng : Bool)
    (HFD : Hid (∀ w, Calls Tryz.prog 92 #[.int .i64 f, .agg #[.int .u64 (dgl (a) 1 : Nat), .int .u64 (dgl (a) 0 : Nat)]] w fun e w' => e = .returned (.int .i64 0) ∧ Below w.heap.size w w'))
    (HNG : Hid (∀ w, Calls Tryz.prog 95 #[.int .i64 f, .agg #[.int .u64 (dgl (a) 1 : Nat), .int .u64 (dgl (a) 0 : Nat)]] w fun e w' => e = .returned (.bool ng) ∧ Below w.heap.size w w'))
    (HFR : Hid (∀ w, Calls Tryz.prog 93 #[.int .i64 f, .agg #[.int .u64 (dgl (a) 1 : Nat), .int .u64 (dgl (a) 0 : Nat)]] w fun e w' => e = .returned (.agg #[.int .u64 (dgl (r) 0 : Nat), .int .u64 (dgl (r) 1 : Nat), .int .u64 (dgl (r) 2 : Nat), .int .u64 (dgl (r) 3 : Nat), .int .u64 (dgl (r) 4 : Nat), .int .u64 (dgl (r) 5 : Nat), .int .u64 (dgl (r) 6 : Nat), .int .u64 (dgl (r) 7 : Nat)]) ∧ Below w.heap.size w w'))
    (HEM : Hid (∀ w, Calls Tryz.prog 39 #[.int .i64 f] w fun e w' => e = .returned (.int .i64 em) ∧ w' = w))
    (HPR : Hid (∀ w, Calls Tryz.prog 8 #[.int .i64 f] w fun e w' => e = .returned (.int .i64 (P : Nat)) ∧ w' = w))
    (hem : -20000 ≤ em ∧ em ≤ 0) (hP : 2 ≤ P ∧ P ≤ 128) (HLO : Hid (em - (P : Int) + 1 = lo)) (w : World) :
    Calls Tryz.prog 70 #[.int .i64 f, .agg #[.int .u64 (dgl (a) 1 : Nat), .int .u64 (dgl (a) 0 : Nat)]] w fun e w' => e = .returned (.agg #[.bool (ng), .int .i64 (lo), .int .u64 (dgl (r) 0 : Nat), .int .u64 (dgl (r) 1 : Nat), .int .u64 (dgl (r) 2 : Nat), .int .u64 (dgl (r) 3 : Nat), .int .u64 (dgl (r) 4 : Nat), .int .u64 (dgl (r) 5 : Nat), .int .u64 (dgl (r) 6 : Nat), .int .u64 (dgl (r) 7 : Nat)]) ∧ Below w.heap.size w w' := by
  have HS := hide (rvSt_start a w)
  go_enter Tryz.func70, Tryz.ntmps70
  go_upto_region 1 with fail
  refine wp_gen (fun W => RvSt a w W) HS.out ?_
  clear HS
  rintro W1 g1
  have HS := hide g1
  have l0 := g1.wa.h
  have l1 := g1.wa.l
  clear g1
  go_wp2_with fail
  refine (HFD.out _).mono ?_
  rintro e_ w1 ⟨rfl, hb1⟩
  replace HS := hide (HS.out.below hb1)
  clear hb1 l0 l1
  go_upto_region 2 with fail
  refine wp_gen (fun W => RvSt a w W) HS.out ?_
  clear HS
  rintro W2 h2
  refine wp_region_storeK 15 [14] [11, 12, 13, 14, 15, 16, 17, 18, 19, 20, 21, 22, 23, 6] (fun bs => [(11, .val (.int .i64 f)), (12, .val (.agg #[.int .u64 (dgl (a) 1 : Nat), .int .u64 (dgl (a) 0 : Nat)])), (13, .val (.bool ng)), (14, .val (.int .i64 f)), (15, .val (.agg #[.int .u64 (dgl (a) 1 : Nat), .int .u64 (dgl (a) 0 : Nat)])), (16, .val (.agg #[.int .u64 (dgl (r) 0 : Nat), .int .u64 (dgl (r) 1 : Nat), .int .u64 (dgl (r) 2 : Nat), .int .u64 (dgl (r) 3 : Nat), .int .u64 (dgl (r) 4 : Nat), .int .u64 (dgl (r) 5 : Nat), .int .u64 (dgl (r) 6 : Nat), .int .u64 (dgl (r) 7 : Nat)])), (17, .val (.int .i64 f)), (18, .val (.int .i64 em)), (19, .val (.int .i64 f)), (20, .val (.int .i64 (P : Nat))), (21, .val (.int .i64 (em - (P : Int)))), (22, .val (.int .i64 lo)), (23, .val (.agg #[.bool (ng), .int .i64 (lo), .int .u64 (dgl (r) 0 : Nat), .int .u64 (dgl (r) 1 : Nat), .int .u64 (dgl (r) 2 : Nat), .int .u64 (dgl (r) 3 : Nat), .int .u64 (dgl (r) 4 : Nat), .int .u64 (dgl (r) 5 : Nat), .int .u64 (dgl (r) 6 : Nat), .int .u64 (dgl (r) 7 : Nat)])), (6, bif bs.headD false then SlotIs.nbox (w.heap.size + 1 + 1) ng lo r else SlotIs.nbox (w.heap.size + 1 + 1) false 0 0)])
    (fun _ W => RvSt a w W) (fun bs => rfl) mixedOk (by kernel_rfl) (by kernel_rfl) (by kernel_rfl) (h2.below (Below.refl _ _).drew) (fun bs W W' h hb => h.below hb) ?_ ?_
  · refine kSt rfl (fun φ hφ => gStep_run rfl (gRun_move 0 11 (.inl rfl) rfl (by decide +kernel) (fun v w h => h))) ?_
    refine kSt rfl (fun φ hφ => gStep_run rfl ?_) ?_
    · intro ρ W hC hc hf hL
      have e3 : ρ (.tmp 3) = .pointer (some ⟨w.heap.size, 0, none⟩) := hL 3 (by decide +kernel)
      have l0 := hC.wa.h
      have l1 := hC.wa.l
      simp [go_sem, hc, hf, e3, l0, l1]
      exact ⟨Below.refl _ _, rfl⟩
    refine kSt rfl (fun φ hφ => gStep_run rfl ?_) ?_
    · intro ρ W hC hc hf hL
      have e11 : ρ (.tmp 11) = .int .i64 f := hL 11 (by decide +kernel)
      have e12 : ρ (.tmp 12) = .agg #[.int .u64 (dgl (a) 1 : Nat), .int .u64 (dgl (a) 0 : Nat)] := hL 12 (by decide +kernel)
      simp [go_sem, hc, hf, e11, e12]
      refine (HNG.out W).mono ?_
      rintro e w' ⟨rfl, hb⟩
      exact ⟨_, rfl, by first | exact hb | (subst hb; exact Below.refl _ _), rfl⟩
    refine kSt rfl (fun φ hφ => gStep_run rfl (gRun_move 0 14 (.inl rfl) rfl (by decide +kernel) (fun v w h => h))) ?_
    refine kSt rfl (fun φ hφ => gStep_run rfl ?_) ?_
    · intro ρ W hC hc hf hL
      have e3 : ρ (.tmp 3) = .pointer (some ⟨w.heap.size, 0, none⟩) := hL 3 (by decide +kernel)
      have l0 := hC.wa.h
      have l1 := hC.wa.l
      simp [go_sem, hc, hf, e3, l0, l1]
      exact ⟨Below.refl _ _, rfl⟩
    refine kSt rfl (fun φ hφ => gStep_run rfl ?_) ?_
    · intro ρ W hC hc hf hL
      have e14 : ρ (.tmp 14) = .int .i64 f := hL 14 (by decide +kernel)
      have e15 : ρ (.tmp 15) = .agg #[.int .u64 (dgl (a) 1 : Nat), .int .u64 (dgl (a) 0 : Nat)] := hL 15 (by decide +kernel)
      simp [go_sem, hc, hf, e14, e15]
      refine (HFR.out W).mono ?_
      rintro e w' ⟨rfl, hb⟩
      exact ⟨_, rfl, by first | exact hb | (subst hb; exact Below.refl _ _), rfl⟩
    refine kSt rfl (fun φ hφ => gStep_run rfl (gRun_move 0 17 (.inl rfl) rfl (by decide +kernel) (fun v w h => h))) ?_
    refine kSt rfl (fun φ hφ => gStep_run rfl ?_) ?_
    · intro ρ W hC hc hf hL
      have e17 : ρ (.tmp 17) = .int .i64 f := hL 17 (by decide +kernel)
      simp [go_sem, hc, hf, e17]
      refine (HEM.out W).mono ?_
      rintro e w' ⟨rfl, hb⟩
      exact ⟨_, rfl, by first | exact hb | (subst hb; exact Below.refl _ _), rfl⟩
    refine kSt rfl (fun φ hφ => gStep_run rfl (gRun_move 0 19 (.inl rfl) rfl (by decide +kernel) (fun v w h => h))) ?_
    refine kSt rfl (fun φ hφ => gStep_run rfl ?_) ?_
    · intro ρ W hC hc hf hL
      have e19 : ρ (.tmp 19) = .int .i64 f := hL 19 (by decide +kernel)
      simp [go_sem, hc, hf, e19]
      refine (HPR.out W).mono ?_
      rintro e w' ⟨rfl, hb⟩
      exact ⟨_, rfl, by first | exact hb | (subst hb; exact Below.refl _ _), rfl⟩
    refine kSt rfl (fun φ hφ => gStep_run rfl ?_) ?_
    · intro ρ W hC hc hf hL
      have e18 : ρ (.tmp 18) = .int .i64 em := hL 18 (by decide +kernel)
      have e20 : ρ (.tmp 20) = .int .i64 (P : Nat) := hL 20 (by decide +kernel)
      have l0 : IntKind.i64.wrap (em - (P : Int)) = em - (P : Int) := by rw [IntKind.wrap_i64]; omega
      simp [go_sem, hc, hf, e18, e20, l0]
      exact ⟨Below.refl _ _, rfl⟩
    refine kSt rfl (fun φ hφ => gStep_run rfl ?_) ?_
    · intro ρ W hC hc hf hL
      have e21 : ρ (.tmp 21) = .int .i64 (em - (P : Int)) := hL 21 (by decide +kernel)
      have l1 : IntKind.i64.wrap (em - (P : Int) + 1) = em - (P : Int) + 1 := by rw [IntKind.wrap_i64]; omega
      have l0 := HLO.out
      rw [l0] at l1
      simp [go_sem, hc, hf, e21, l0, l1]
      exact ⟨Below.refl _ _, rfl⟩
    refine kSt rfl (fun φ hφ => gStep_run rfl ?_) ?_
    · intro ρ W hC hc hf hL
      have e13 : ρ (.tmp 13) = .bool ng := hL 13 (by decide +kernel)
      have e16 : ρ (.tmp 16) = .agg #[.int .u64 (dgl (r) 0 : Nat), .int .u64 (dgl (r) 1 : Nat), .int .u64 (dgl (r) 2 : Nat), .int .u64 (dgl (r) 3 : Nat), .int .u64 (dgl (r) 4 : Nat), .int .u64 (dgl (r) 5 : Nat), .int .u64 (dgl (r) 6 : Nat), .int .u64 (dgl (r) 7 : Nat)] := hL 16 (by decide +kernel)
      have e22 : ρ (.tmp 22) = .int .i64 lo := hL 22 (by decide +kernel)
      simp [go_sem, hc, hf, e13, e16, e22]
      exact ⟨Below.refl _ _, rfl⟩
    refine kSt rfl (fun φ hφ => gStep_run rfl ?_) ?_
    · intro ρ W hC hc hf hL
      have hφ0 : φ 14 = false := hφ 14 (by simp) (by kernel_rfl)
      simp [go_sem, hc, hf]
      refine ⟨below_allocs _ _, ?_⟩
      show (bif φ 14 then SlotIs.nbox (w.heap.size + 1 + 1) ng lo r else SlotIs.nbox (w.heap.size + 1 + 1) false 0 0).R _ _
      rw [hφ0]
      exact ⟨_, rfl, hC.r.lt, nb_zero _ _, fun i => by simp [go_sem]⟩
    refine kStS rfl ⟨rfl, rfl, ?_⟩ ?_
    · intro φ ρ W hφ hC hc hL
      have b6 := hL 6 (by decide +kernel)
      have e23 : ρ (.tmp 23) = .agg #[.bool (ng), .int .i64 (lo), .int .u64 (dgl (r) 0 : Nat), .int .u64 (dgl (r) 1 : Nat), .int .u64 (dgl (r) 2 : Nat), .int .u64 (dgl (r) 3 : Nat), .int .u64 (dgl (r) 4 : Nat), .int .u64 (dgl (r) 5 : Nat), .int .u64 (dgl (r) 6 : Nat), .int .u64 (dgl (r) 7 : Nat)] := hL 23 (by decide +kernel)
      have b6 : (bif φ 14 then SlotIs.nbox (w.heap.size + 1 + 1) ng lo r else SlotIs.nbox (w.heap.size + 1 + 1) false 0 0).R (ρ (.tmp 6)) W := hL 6 (by decide +kernel)
      rw [hφ] at b6
      obtain ⟨p6, e6, q6, l6, z6⟩ := b6
      have yn := l6.n
      have ye := l6.e
      have y0 := l6.x0
      have y1 := l6.x1
      have y2 := l6.x2
      have y3 := l6.x3
      have y4 := l6.x4
      have y5 := l6.x5
      have y6 := l6.x6
      have y7 := l6.x7
      have hzl := l6.lt
      refine gUpon_of ((((((((((W.setCell ⟨p6, 0, none⟩ (.bool (ng))).setCell ⟨p6, 1, none⟩ (.int .i64 (lo))).setCell ⟨p6, 2, none⟩ (.int .u64 (dgl (r) 0 : Nat))).setCell ⟨p6, 3, none⟩ (.int .u64 (dgl (r) 1 : Nat))).setCell ⟨p6, 4, none⟩ (.int .u64 (dgl (r) 2 : Nat))).setCell ⟨p6, 5, none⟩ (.int .u64 (dgl (r) 3 : Nat))).setCell ⟨p6, 6, none⟩ (.int .u64 (dgl (r) 4 : Nat))).setCell ⟨p6, 7, none⟩ (.int .u64 (dgl (r) 5 : Nat))).setCell ⟨p6, 8, none⟩ (.int .u64 (dgl (r) 6 : Nat))).setCell ⟨p6, 9, none⟩ (.int .u64 (dgl (r) 7 : Nat))) ?_ (fun _ => ?_)
      · simp [go_sem, hc, e23, e6, hzl, z6, yn, ye, y0, y1, y2, y3, y4, y5, y6, y7, gUpon]
      have hs10 := below_set10 (Below.refl (w.heap.size + 1 + 1) W) p6 q6 ng lo r
      refine ⟨hC.under hs10 (by omega), fun t => ?_⟩
      refine (tbl_imp rfl (fun _ => val_imp) (tbl_imp rfl (fun _ => val_imp) (tbl_imp rfl (fun _ => val_imp) (tbl_imp rfl (fun _ => val_imp) (tbl_imp rfl (fun _ => val_imp) (tbl_imp rfl (fun _ => val_imp) (tbl_imp rfl (fun _ => val_imp) (tbl_imp rfl (fun _ => val_imp) (tbl_imp rfl (fun _ => val_imp) (tbl_imp rfl (fun _ => val_imp) (tbl_imp rfl (fun _ => val_imp) (tbl_imp rfl (fun _ => val_imp) (tbl_imp rfl (fun _ => val_imp) (tbl_imp rfl (fun ht h => ?_) tbl_nil_imp))))))))))))))
      subst ht
      show (bif (φ 14 || true) then SlotIs.nbox (w.heap.size + 1 + 1) ng lo r else SlotIs.nbox (w.heap.size + 1 + 1) false 0 0).R _ _
      rw [Bool.or_true]
      exact ⟨p6, e6, q6, nb_set l6 ng lo r, fun i => by simpa [go_sem] using z6 i⟩
    exact kSt0
  · intro W hC
    refine gFi 11 rfl ?_
    rintro _ rfl
    refine gFi 12 rfl ?_
    rintro _ rfl
    refine gFi 13 rfl ?_
    rintro _ rfl
    refine gFi 14 rfl ?_
    rintro _ rfl
    refine gFi 15 rfl ?_
    rintro _ rfl
    refine gFi 16 rfl ?_
    rintro _ rfl
    refine gFi 17 rfl ?_
    rintro _ rfl
    refine gFi 18 rfl ?_
    rintro _ rfl
    refine gFi 19 rfl ?_
    rintro _ rfl
    refine gFi 20 rfl ?_
    rintro _ rfl
    refine gFi 21 rfl ?_
    rintro _ rfl
    refine gFi 22 rfl ?_
    rintro _ rfl
    refine gFi 23 rfl ?_
    rintro _ rfl
    refine gFi 6 rfl ?_
    rintro u6 b6
    refine gFiN rfl ?_
    refine gFi0 ?_
    simp only [List.drop_succ_cons, List.drop_zero, Act.put, List.setIfInBounds_toArray, List.set_cons_succ, List.set_cons_zero]
    obtain ⟨p6, rfl, q6, l6, z6⟩ := b6
    have HS := hide hC
    have HN := hide l6
    have HP6 := hide q6
    have HZ := hide z6
    clear hC l6 q6 z6 h2
    have hrf := HS.out.fr
    have rn := HS.out.r.n
    have re := HS.out.r.e
    have r0 := HS.out.r.x0
    have r1 := HS.out.r.x1
    have r2 := HS.out.r.x2
    have r3 := HS.out.r.x3
    have r4 := HS.out.r.x4
    have r5 := HS.out.r.x5
    have r6 := HS.out.r.x6
    have r7 := HS.out.r.x7
    have hrl := HS.out.r.lt
    have ln := HN.out.n
    have le := HN.out.e
    have l0 := HN.out.x0
    have l1 := HN.out.x1
    have l2 := HN.out.x2
    have l3 := HN.out.x3
    have l4 := HN.out.x4
    have l5 := HN.out.x5
    have l6 := HN.out.x6
    have l7 := HN.out.x7
    have HB := hide HS.out.bel
    clear HS HN
    go_wp2
    exact bodyPost_ret (v := .agg #[.bool (ng), .int .i64 (lo), .int .u64 (dgl (r) 0 : Nat), .int .u64 (dgl (r) 1 : Nat), .int .u64 (dgl (r) 2 : Nat), .int .u64 (dgl (r) 3 : Nat), .int .u64 (dgl (r) 4 : Nat), .int .u64 (dgl (r) 5 : Nat), .int .u64 (dgl (r) 6 : Nat), .int .u64 (dgl (r) 7 : Nat)]) (by simp [results, Tryz.results70, go_sem, hrl, rn, re, r0, r1, r2, r3, r4, r5, r6, r7]) rfl ⟨rfl, ((((((((((HB.out.setCell (p := ⟨w.heap.size + 1, 0, none⟩) (Nat.le_succ _) _).setCell (p := ⟨w.heap.size + 1, 1, none⟩) (Nat.le_succ _) _).setCell (p := ⟨w.heap.size + 1, 2, none⟩) (Nat.le_succ _) _).setCell (p := ⟨w.heap.size + 1, 3, none⟩) (Nat.le_succ _) _).setCell (p := ⟨w.heap.size + 1, 4, none⟩) (Nat.le_succ _) _).setCell (p := ⟨w.heap.size + 1, 5, none⟩) (Nat.le_succ _) _).setCell (p := ⟨w.heap.size + 1, 6, none⟩) (Nat.le_succ _) _).setCell (p := ⟨w.heap.size + 1, 7, none⟩) (Nat.le_succ _) _).setCell (p := ⟨w.heap.size + 1, 8, none⟩) (Nat.le_succ _) _).setCell (p := ⟨w.heap.size + 1, 9, none⟩) (Nat.le_succ _) _)⟩
    

set_option maxHeartbeats 4000000 in
theorem rval_L (f em lo : Int) (a r s fd P e : Nat) (ng : Bool)
    (HFD : Hid (∀ w, Calls Tryz.prog 92 #[.int .i64 f, .agg #[.int .u64 (dgl (a) 1 : Nat), .int .u64 (dgl (a) 0 : Nat)]] w fun e w' => e = .returned (.int .i64 (fd : Nat)) ∧ Below w.heap.size w w'))
    (HNG : Hid (∀ w, Calls Tryz.prog 95 #[.int .i64 f, .agg #[.int .u64 (dgl (a) 1 : Nat), .int .u64 (dgl (a) 0 : Nat)]] w fun e w' => e = .returned (.bool ng) ∧ Below w.heap.size w w'))
    (HFR : Hid (∀ w, Calls Tryz.prog 93 #[.int .i64 f, .agg #[.int .u64 (dgl (a) 1 : Nat), .int .u64 (dgl (a) 0 : Nat)]] w fun e w' => e = .returned (.agg #[.int .u64 (dgl (r) 0 : Nat), .int .u64 (dgl (r) 1 : Nat), .int .u64 (dgl (r) 2 : Nat), .int .u64 (dgl (r) 3 : Nat), .int .u64 (dgl (r) 4 : Nat), .int .u64 (dgl (r) 5 : Nat), .int .u64 (dgl (r) 6 : Nat), .int .u64 (dgl (r) 7 : Nat)]) ∧ Below w.heap.size w w'))
    (HEM : Hid (∀ w, Calls Tryz.prog 39 #[.int .i64 f] w fun e w' => e = .returned (.int .i64 em) ∧ w' = w))
    (HPR : Hid (∀ w, Calls Tryz.prog 8 #[.int .i64 f] w fun e w' => e = .returned (.int .i64 (P : Nat)) ∧ w' = w))
    (hem : -20000 ≤ em ∧ em ≤ 0) (hP : 2 ≤ P ∧ P ≤ 128) (HLO : Hid (em - (P : Int) + 1 = lo))
    (hfd : 1 ≤ fd ∧ fd ≤ 40000) (HQ : Hid (((P : Int) - 1).tdiv 64 = 0)) (HM : Hid (((P : Int) - 1).tmod 64 = ((e : Nat) : Int))) (HSH : Hid (IntKind.u64.wrap ((2 : Int) ^ e) = (2 : Int) ^ e)) (HE6 : Hid ((e : Int) < 64)) (HAD : Hid (IntKind.u64.wrap (((dgl r 0 : Nat) : Int) + (2 : Int) ^ e) = ((dgl s 0 : Nat) : Int))) (HOT : Hid (∀ j, j ≠ 0 → dgl s j = dgl r j)) (w : World) :
    Calls Tryz.prog 70 #[.int .i64 f, .agg #[.int .u64 (dgl (a) 1 : Nat), .int .u64 (dgl (a) 0 : Nat)]] w fun e w' => e = .returned (.agg #[.bool (ng), .int .i64 (lo + (fd : Int) - 1), .int .u64 (dgl (s) 0 : Nat), .int .u64 (dgl (s) 1 : Nat), .int .u64 (dgl (s) 2 : Nat), .int .u64 (dgl (s) 3 : Nat), .int .u64 (dgl (s) 4 : Nat), .int .u64 (dgl (s) 5 : Nat), .int .u64 (dgl (s) 6 : Nat), .int .u64 (dgl (s) 7 : Nat)]) ∧ Below w.heap.size w w' := by
  have HS := hide (rvSt_start a w)
  go_enter Tryz.func70, Tryz.ntmps70
  go_upto_region 1 with fail
  refine wp_gen (fun W => RvSt a w W) HS.out ?_
  clear HS
  rintro W1 g1
  have HS := hide g1
  have l0 := g1.wa.h
  have l1 := g1.wa.l
  clear g1
  go_wp2_with fail
  refine (HFD.out _).mono ?_
  rintro e_ w1 ⟨rfl, hb1⟩
  replace HS := hide (HS.out.below hb1)
  clear hb1 l0 l1
  go_upto_region 2 with fail
  refine wp_gen (fun W => RvSt a w W) HS.out ?_
  clear HS
  rintro W2 h2
  refine wp_region_storeK 15 [14] [11, 12, 13, 14, 15, 16, 17, 18, 19, 20, 21, 22, 23, 6] (fun bs => [(11, .val (.int .i64 f)), (12, .val (.agg #[.int .u64 (dgl (a) 1 : Nat), .int .u64 (dgl (a) 0 : Nat)])), (13, .val (.bool ng)), (14, .val (.int .i64 f)), (15, .val (.agg #[.int .u64 (dgl (a) 1 : Nat), .int .u64 (dgl (a) 0 : Nat)])), (16, .val (.agg #[.int .u64 (dgl (r) 0 : Nat), .int .u64 (dgl (r) 1 : Nat), .int .u64 (dgl (r) 2 : Nat), .int .u64 (dgl (r) 3 : Nat), .int .u64 (dgl (r) 4 : Nat), .int .u64 (dgl (r) 5 : Nat), .int .u64 (dgl (r) 6 : Nat), .int .u64 (dgl (r) 7 : Nat)])), (17, .val (.int .i64 f)), (18, .val (.int .i64 em)), (19, .val (.int .i64 f)), (20, .val (.int .i64 (P : Nat))), (21, .val (.int .i64 (em - (P : Int)))), (22, .val (.int .i64 lo)), (23, .val (.agg #[.bool (ng), .int .i64 (lo), .int .u64 (dgl (r) 0 : Nat), .int .u64 (dgl (r) 1 : Nat), .int .u64 (dgl (r) 2 : Nat), .int .u64 (dgl (r) 3 : Nat), .int .u64 (dgl (r) 4 : Nat), .int .u64 (dgl (r) 5 : Nat), .int .u64 (dgl (r) 6 : Nat), .int .u64 (dgl (r) 7 : Nat)])), (6, bif bs.headD false then SlotIs.nbox (w.heap.size + 1 + 1) ng lo r else SlotIs.nbox (w.heap.size + 1 + 1) false 0 0)])
    (fun _ W => RvSt a w W) (fun bs => rfl) mixedOk (by kernel_rfl) (by kernel_rfl) (by kernel_rfl) (h2.below (Below.refl _ _).drew) (fun bs W W' h hb => h.below hb) ?_ ?_
  · refine kSt rfl (fun φ hφ => gStep_run rfl (gRun_move 0 11 (.inl rfl) rfl (by decide +kernel) (fun v w h => h))) ?_
    refine kSt rfl (fun φ hφ => gStep_run rfl ?_) ?_
    · intro ρ W hC hc hf hL
      have e3 : ρ (.tmp 3) = .pointer (some ⟨w.heap.size, 0, none⟩) := hL 3 (by decide +kernel)
      have l0 := hC.wa.h
      have l1 := hC.wa.l
      simp [go_sem, hc, hf, e3, l0, l1]
      exact ⟨Below.refl _ _, rfl⟩
    refine kSt rfl (fun φ hφ => gStep_run rfl ?_) ?_
    · intro ρ W hC hc hf hL
      have e11 : ρ (.tmp 11) = .int .i64 f := hL 11 (by decide +kernel)
      have e12 : ρ (.tmp 12) = .agg #[.int .u64 (dgl (a) 1 : Nat), .int .u64 (dgl (a) 0 : Nat)] := hL 12 (by decide +kernel)
      simp [go_sem, hc, hf, e11, e12]
      refine (HNG.out W).mono ?_
      rintro e w' ⟨rfl, hb⟩
      exact ⟨_, rfl, by first | exact hb | (subst hb; exact Below.refl _ _), rfl⟩
    refine kSt rfl (fun φ hφ => gStep_run rfl (gRun_move 0 14 (.inl rfl) rfl (by decide +kernel) (fun v w h => h))) ?_
    refine kSt rfl (fun φ hφ => gStep_run rfl ?_) ?_
    · intro ρ W hC hc hf hL
      have e3 : ρ (.tmp 3) = .pointer (some ⟨w.heap.size, 0, none⟩) := hL 3 (by decide +kernel)
      have l0 := hC.wa.h
      have l1 := hC.wa.l
      simp [go_sem, hc, hf, e3, l0, l1]
      exact ⟨Below.refl _ _, rfl⟩
    refine kSt rfl (fun φ hφ => gStep_run rfl ?_) ?_
    · intro ρ W hC hc hf hL
      have e14 : ρ (.tmp 14) = .int .i64 f := hL 14 (by decide +kernel)
      have e15 : ρ (.tmp 15) = .agg #[.int .u64 (dgl (a) 1 : Nat), .int .u64 (dgl (a) 0 : Nat)] := hL 15 (by decide +kernel)
      simp [go_sem, hc, hf, e14, e15]
      refine (HFR.out W).mono ?_
      rintro e w' ⟨rfl, hb⟩
      exact ⟨_, rfl, by first | exact hb | (subst hb; exact Below.refl _ _), rfl⟩
    refine kSt rfl (fun φ hφ => gStep_run rfl (gRun_move 0 17 (.inl rfl) rfl (by decide +kernel) (fun v w h => h))) ?_
    refine kSt rfl (fun φ hφ => gStep_run rfl ?_) ?_
    · intro ρ W hC hc hf hL
      have e17 : ρ (.tmp 17) = .int .i64 f := hL 17 (by decide +kernel)
      simp [go_sem, hc, hf, e17]
      refine (HEM.out W).mono ?_
      rintro e w' ⟨rfl, hb⟩
      exact ⟨_, rfl, by first | exact hb | (subst hb; exact Below.refl _ _), rfl⟩
    refine kSt rfl (fun φ hφ => gStep_run rfl (gRun_move 0 19 (.inl rfl) rfl (by decide +kernel) (fun v w h => h))) ?_
    refine kSt rfl (fun φ hφ => gStep_run rfl ?_) ?_
    · intro ρ W hC hc hf hL
      have e19 : ρ (.tmp 19) = .int .i64 f := hL 19 (by decide +kernel)
      simp [go_sem, hc, hf, e19]
      refine (HPR.out W).mono ?_
      rintro e w' ⟨rfl, hb⟩
      exact ⟨_, rfl, by first | exact hb | (subst hb; exact Below.refl _ _), rfl⟩
    refine kSt rfl (fun φ hφ => gStep_run rfl ?_) ?_
    · intro ρ W hC hc hf hL
      have e18 : ρ (.tmp 18) = .int .i64 em := hL 18 (by decide +kernel)
      have e20 : ρ (.tmp 20) = .int .i64 (P : Nat) := hL 20 (by decide +kernel)
      have l0 : IntKind.i64.wrap (em - (P : Int)) = em - (P : Int) := by rw [IntKind.wrap_i64]; omega
      simp [go_sem, hc, hf, e18, e20, l0]
      exact ⟨Below.refl _ _, rfl⟩
    refine kSt rfl (fun φ hφ => gStep_run rfl ?_) ?_
    · intro ρ W hC hc hf hL
      have e21 : ρ (.tmp 21) = .int .i64 (em - (P : Int)) := hL 21 (by decide +kernel)
      have l1 : IntKind.i64.wrap (em - (P : Int) + 1) = em - (P : Int) + 1 := by rw [IntKind.wrap_i64]; omega
      have l0 := HLO.out
      rw [l0] at l1
      simp [go_sem, hc, hf, e21, l0, l1]
      exact ⟨Below.refl _ _, rfl⟩
    refine kSt rfl (fun φ hφ => gStep_run rfl ?_) ?_
    · intro ρ W hC hc hf hL
      have e13 : ρ (.tmp 13) = .bool ng := hL 13 (by decide +kernel)
      have e16 : ρ (.tmp 16) = .agg #[.int .u64 (dgl (r) 0 : Nat), .int .u64 (dgl (r) 1 : Nat), .int .u64 (dgl (r) 2 : Nat), .int .u64 (dgl (r) 3 : Nat), .int .u64 (dgl (r) 4 : Nat), .int .u64 (dgl (r) 5 : Nat), .int .u64 (dgl (r) 6 : Nat), .int .u64 (dgl (r) 7 : Nat)] := hL 16 (by decide +kernel)
      have e22 : ρ (.tmp 22) = .int .i64 lo := hL 22 (by decide +kernel)
      simp [go_sem, hc, hf, e13, e16, e22]
      exact ⟨Below.refl _ _, rfl⟩
    refine kSt rfl (fun φ hφ => gStep_run rfl ?_) ?_
    · intro ρ W hC hc hf hL
      have hφ0 : φ 14 = false := hφ 14 (by simp) (by kernel_rfl)
      simp [go_sem, hc, hf]
      refine ⟨below_allocs _ _, ?_⟩
      show (bif φ 14 then SlotIs.nbox (w.heap.size + 1 + 1) ng lo r else SlotIs.nbox (w.heap.size + 1 + 1) false 0 0).R _ _
      rw [hφ0]
      exact ⟨_, rfl, hC.r.lt, nb_zero _ _, fun i => by simp [go_sem]⟩
    refine kStS rfl ⟨rfl, rfl, ?_⟩ ?_
    · intro φ ρ W hφ hC hc hL
      have b6 := hL 6 (by decide +kernel)
      have e23 : ρ (.tmp 23) = .agg #[.bool (ng), .int .i64 (lo), .int .u64 (dgl (r) 0 : Nat), .int .u64 (dgl (r) 1 : Nat), .int .u64 (dgl (r) 2 : Nat), .int .u64 (dgl (r) 3 : Nat), .int .u64 (dgl (r) 4 : Nat), .int .u64 (dgl (r) 5 : Nat), .int .u64 (dgl (r) 6 : Nat), .int .u64 (dgl (r) 7 : Nat)] := hL 23 (by decide +kernel)
      have b6 : (bif φ 14 then SlotIs.nbox (w.heap.size + 1 + 1) ng lo r else SlotIs.nbox (w.heap.size + 1 + 1) false 0 0).R (ρ (.tmp 6)) W := hL 6 (by decide +kernel)
      rw [hφ] at b6
      obtain ⟨p6, e6, q6, l6, z6⟩ := b6
      have yn := l6.n
      have ye := l6.e
      have y0 := l6.x0
      have y1 := l6.x1
      have y2 := l6.x2
      have y3 := l6.x3
      have y4 := l6.x4
      have y5 := l6.x5
      have y6 := l6.x6
      have y7 := l6.x7
      have hzl := l6.lt
      refine gUpon_of ((((((((((W.setCell ⟨p6, 0, none⟩ (.bool (ng))).setCell ⟨p6, 1, none⟩ (.int .i64 (lo))).setCell ⟨p6, 2, none⟩ (.int .u64 (dgl (r) 0 : Nat))).setCell ⟨p6, 3, none⟩ (.int .u64 (dgl (r) 1 : Nat))).setCell ⟨p6, 4, none⟩ (.int .u64 (dgl (r) 2 : Nat))).setCell ⟨p6, 5, none⟩ (.int .u64 (dgl (r) 3 : Nat))).setCell ⟨p6, 6, none⟩ (.int .u64 (dgl (r) 4 : Nat))).setCell ⟨p6, 7, none⟩ (.int .u64 (dgl (r) 5 : Nat))).setCell ⟨p6, 8, none⟩ (.int .u64 (dgl (r) 6 : Nat))).setCell ⟨p6, 9, none⟩ (.int .u64 (dgl (r) 7 : Nat))) ?_ (fun _ => ?_)
      · simp [go_sem, hc, e23, e6, hzl, z6, yn, ye, y0, y1, y2, y3, y4, y5, y6, y7, gUpon]
      have hs10 := below_set10 (Below.refl (w.heap.size + 1 + 1) W) p6 q6 ng lo r
      refine ⟨hC.under hs10 (by omega), fun t => ?_⟩
      refine (tbl_imp rfl (fun _ => val_imp) (tbl_imp rfl (fun _ => val_imp) (tbl_imp rfl (fun _ => val_imp) (tbl_imp rfl (fun _ => val_imp) (tbl_imp rfl (fun _ => val_imp) (tbl_imp rfl (fun _ => val_imp) (tbl_imp rfl (fun _ => val_imp) (tbl_imp rfl (fun _ => val_imp) (tbl_imp rfl (fun _ => val_imp) (tbl_imp rfl (fun _ => val_imp) (tbl_imp rfl (fun _ => val_imp) (tbl_imp rfl (fun _ => val_imp) (tbl_imp rfl (fun _ => val_imp) (tbl_imp rfl (fun ht h => ?_) tbl_nil_imp))))))))))))))
      subst ht
      show (bif (φ 14 || true) then SlotIs.nbox (w.heap.size + 1 + 1) ng lo r else SlotIs.nbox (w.heap.size + 1 + 1) false 0 0).R _ _
      rw [Bool.or_true]
      exact ⟨p6, e6, q6, nb_set l6 ng lo r, fun i => by simpa [go_sem] using z6 i⟩
    exact kSt0
  · intro W hC
    refine gFi 11 rfl ?_
    rintro _ rfl
    refine gFi 12 rfl ?_
    rintro _ rfl
    refine gFi 13 rfl ?_
    rintro _ rfl
    refine gFi 14 rfl ?_
    rintro _ rfl
    refine gFi 15 rfl ?_
    rintro _ rfl
    refine gFi 16 rfl ?_
    rintro _ rfl
    refine gFi 17 rfl ?_
    rintro _ rfl
    refine gFi 18 rfl ?_
    rintro _ rfl
    refine gFi 19 rfl ?_
    rintro _ rfl
    refine gFi 20 rfl ?_
    rintro _ rfl
    refine gFi 21 rfl ?_
    rintro _ rfl
    refine gFi 22 rfl ?_
    rintro _ rfl
    refine gFi 23 rfl ?_
    rintro _ rfl
    refine gFi 6 rfl ?_
    rintro u6 b6
    refine gFiN rfl ?_
    refine gFi0 ?_
    simp only [List.drop_succ_cons, List.drop_zero, Act.put, List.setIfInBounds_toArray, List.set_cons_succ, List.set_cons_zero]
    obtain ⟨p6, rfl, q6, l6, z6⟩ := b6
    have HS := hide hC
    have HN := hide l6
    have HP6 := hide q6
    have HZ := hide z6
    clear hC l6 q6 z6 h2
    have hgt : (0 : Int) < (fd : Int) := by omega
    go_wp2_with fail
    refine (HPR.out _).mono ?_
    rintro e_ wl ⟨rfl, hw⟩
    subst wl
    have hwp : IntKind.i64.wrap ((P : Int) - 1) = (P : Int) - 1 := by rw [IntKind.wrap_i64]; omega
    go_upto_region 5 with fail
    refine wp_gen (fun W => RvSt a w W ∧ NB W p6 ng lo r ∧ ∀ i, W.frozen? ⟨p6, i, none⟩ = false) ⟨HS.out, HN.out, HZ.out⟩ ?_
    clear HS HN HZ hgt hwp
    rintro W5 h5
    refine wp_region_grow 13 [(29, .val (.int .i64 ((P : Int) - 1))), (30, .val (.int .i64 0)), (31, .val (.int .i64 ((P : Int) - 1))), (32, .val (.int .i64 0)), (33, .val (.pointer (some ⟨p6, 2, none⟩))), (34, .val (.pointer (some ⟨p6, 2, none⟩))), (35, .val (.int .u64 (dgl r 0 : Nat))), (36, .val (.int .i64 ((P : Int) - 1))), (37, .val (.int .i64 ((e : Nat) : Int))), (38, .val (.int .u64 ((2 : Int) ^ e))), (39, .val (.int .u64 (dgl s 0 : Nat))), (40, .val (.pointer (some ⟨p6, 2, none⟩))), (41, .val (.pointer (some ⟨p6, 2, none⟩)))]
      (fun W => RvSt a w W ∧ NB W p6 ng lo r ∧ ∀ i, W.frozen? ⟨p6, i, none⟩ = false) mixedOk (by kernel_rfl) (by kernel_rfl) (⟨h5.1.below (Below.refl _ _).drew, h5.2.1.below (Below.refl _ _).drew, fun i => ((Below.refl _ _).drew.frozen (p := ⟨p6, i, none⟩) h5.2.1.lt).trans (h5.2.2 i)⟩) (fun W W' h hb => ⟨h.1.below hb, h.2.1.below hb, fun i => (hb.frozen (p := ⟨p6, i, none⟩) h.2.1.lt).trans (h.2.2 i)⟩) ?_ ?_
    · refine gSt (gStep_run rfl (gRun_move 7 29 (.inl rfl) rfl (by decide +kernel) (fun v w h => h))) ?_
      refine gSt (gStep_run rfl ?_) ?_
      · intro ρ W hC hc hf hL
        have e29 : ρ (.tmp 29) = .int .i64 ((P : Int) - 1) := hL 29 (by decide +kernel)
        have l0 := HQ.out
        simp [go_sem, hc, hf, e29, l0]
        exact ⟨Below.refl _ _, rfl⟩
      refine gSt (gStep_run rfl (gRun_move 7 31 (.inl rfl) rfl (by decide +kernel) (fun v w h => h))) ?_
      refine gSt (gStep_run rfl ?_) ?_
      · intro ρ W hC hc hf hL
        have e31 : ρ (.tmp 31) = .int .i64 ((P : Int) - 1) := hL 31 (by decide +kernel)
        have l0 := HQ.out
        simp [go_sem, hc, hf, e31, l0]
        exact ⟨Below.refl _ _, rfl⟩
      refine gSt (gStep_run rfl ?_) ?_
      · intro ρ W hC hc hf hL
        have e6 : ρ (.tmp 6) = .pointer (some ⟨p6, 0, none⟩) := hL 6 (by decide +kernel)
        simp [go_sem, hc, hf, e6]
        exact ⟨Below.refl _ _, rfl⟩
      refine gSt (gStep_run rfl ?_) ?_
      · intro ρ W hC hc hf hL
        have e32 : ρ (.tmp 32) = .int .i64 0 := hL 32 (by decide +kernel)
        have e33 : ρ (.tmp 33) = .pointer (some ⟨p6, 2, none⟩) := hL 33 (by decide +kernel)
        simp [go_sem, hc, hf, e32, e33]
        exact ⟨Below.refl _ _, rfl⟩
      refine gSt (gStep_run rfl ?_) ?_
      · intro ρ W hC hc hf hL
        have e34 : ρ (.tmp 34) = .pointer (some ⟨p6, 2, none⟩) := hL 34 (by decide +kernel)
        have l0 := hC.2.1.x0
        simp [go_sem, hc, hf, e34, l0]
        exact ⟨Below.refl _ _, rfl⟩
      refine gSt (gStep_run rfl (gRun_move 7 36 (.inl rfl) rfl (by decide +kernel) (fun v w h => h))) ?_
      refine gSt (gStep_run rfl ?_) ?_
      · intro ρ W hC hc hf hL
        have e36 : ρ (.tmp 36) = .int .i64 ((P : Int) - 1) := hL 36 (by decide +kernel)
        have l0 := HM.out
        simp [go_sem, hc, hf, e36, l0]
        exact ⟨Below.refl _ _, rfl⟩
      refine gSt (gStep_run rfl ?_) ?_
      · intro ρ W hC hc hf hL
        have e37 : ρ (.tmp 37) = .int .i64 ((e : Nat) : Int) := hL 37 (by decide +kernel)
        have l0 := HSH.out
        have h0 : (0 : Int) ≤ (e : Int) := by omega
        have h6 := HE6.out
        simp [go_sem, hc, hf, e37, l0, h0, h6]
        exact ⟨Below.refl _ _, rfl⟩
      refine gSt (gStep_run rfl ?_) ?_
      · intro ρ W hC hc hf hL
        have e35 : ρ (.tmp 35) = .int .u64 (dgl r 0 : Nat) := hL 35 (by decide +kernel)
        have e38 : ρ (.tmp 38) = .int .u64 ((2 : Int) ^ e) := hL 38 (by decide +kernel)
        have l0 := HAD.out
        simp [go_sem, hc, hf, e35, e38, l0]
        exact ⟨Below.refl _ _, rfl⟩
      refine gSt (gStep_run rfl ?_) ?_
      · intro ρ W hC hc hf hL
        have e6 : ρ (.tmp 6) = .pointer (some ⟨p6, 0, none⟩) := hL 6 (by decide +kernel)
        simp [go_sem, hc, hf, e6]
        exact ⟨Below.refl _ _, rfl⟩
      refine gSt (gStep_run rfl ?_) ?_
      · intro ρ W hC hc hf hL
        have e30 : ρ (.tmp 30) = .int .i64 0 := hL 30 (by decide +kernel)
        have e40 : ρ (.tmp 40) = .pointer (some ⟨p6, 2, none⟩) := hL 40 (by decide +kernel)
        simp [go_sem, hc, hf, e30, e40]
        exact ⟨Below.refl _ _, rfl⟩
      exact gSt0
    · intro W hC
      refine gFi 29 rfl ?_
      rintro _ rfl
      refine gFi 30 rfl ?_
      rintro _ rfl
      refine gFi 31 rfl ?_
      rintro _ rfl
      refine gFi 32 rfl ?_
      rintro _ rfl
      refine gFi 33 rfl ?_
      rintro _ rfl
      refine gFi 34 rfl ?_
      rintro _ rfl
      refine gFi 35 rfl ?_
      rintro _ rfl
      refine gFi 36 rfl ?_
      rintro _ rfl
      refine gFi 37 rfl ?_
      rintro _ rfl
      refine gFi 38 rfl ?_
      rintro _ rfl
      refine gFi 39 rfl ?_
      rintro _ rfl
      refine gFi 40 rfl ?_
      rintro _ rfl
      refine gFi 41 rfl ?_
      rintro _ rfl
      refine gFi0 ?_
      simp only [List.drop_succ_cons, List.drop_zero, Act.put, List.setIfInBounds_toArray, List.set_cons_succ, List.set_cons_zero]
      have l0 := hC.2.1.x0
      have hf6 := hC.2.2
      have hl6 := hC.2.1.lt
      have HN0 := hide hC.2.1
      have HR0 := hide hC.1
      have HS2 := hide (show RvSt a w (W.setCell ⟨p6, 2, none⟩ (.int .u64 (dgl s 0 : Nat))) ∧ NB (W.setCell ⟨p6, 2, none⟩ (.int .u64 (dgl s 0 : Nat))) p6 ng lo s ∧ ∀ i, (W.setCell ⟨p6, 2, none⟩ (.int .u64 (dgl s 0 : Nat))).frozen? ⟨p6, i, none⟩ = false from
        ⟨hC.1.under ((Below.refl (w.heap.size + 1 + 1) W).setCell (p := ⟨p6, 2, none⟩) HP6.out _) (by omega), nb_setx0 hC.2.1 HOT.out, fun i => by simpa [go_sem] using hC.2.2 i⟩)
      clear hC h5
      go_upto_region 6 with fail
      refine wp_gen (fun W => RvSt a w W ∧ NB W p6 ng lo s ∧ ∀ i, W.frozen? ⟨p6, i, none⟩ = false) HS2.out ?_
      clear HS2 HN0 HR0 l0 hf6 hl6
      rintro W6 h6
      have le := h6.2.1.e
      have hf6 := h6.2.2
      have hl6 := h6.2.1.lt
      have hw : IntKind.i64.wrap (lo + (fd : Int)) = lo + (fd : Int) := by rw [IntKind.wrap_i64]; have := HLO.out; omega
      have hw2 : IntKind.i64.wrap (lo + (fd : Int) - 1) = lo + (fd : Int) - 1 := by rw [IntKind.wrap_i64]; have := HLO.out; omega
      have HS3 := hide (show RvSt a w (W6.setCell ⟨p6, 1, none⟩ (.int .i64 (lo + (fd : Int) - 1))) ∧ NB (W6.setCell ⟨p6, 1, none⟩ (.int .i64 (lo + (fd : Int) - 1))) p6 ng (lo + (fd : Int) - 1) s from
        ⟨h6.1.under ((Below.refl (w.heap.size + 1 + 1) W6).setCell (p := ⟨p6, 1, none⟩) HP6.out _) (by omega), nb_sete h6.2.1 _⟩)
      clear h6
      go_upto_region 7 with fail
      refine wp_gen (fun W => RvSt a w W ∧ NB W p6 ng (lo + (fd : Int) - 1) s) HS3.out ?_
      clear HS3 le hf6 hl6 hw hw2
      rintro W7 ⟨g1, g2⟩
      have HS := hide g1
      have HN := hide g2
      clear g1 g2
      have hrf := HS.out.fr
      have rn := HS.out.r.n
      have re := HS.out.r.e
      have r0 := HS.out.r.x0
      have r1 := HS.out.r.x1
      have r2 := HS.out.r.x2
      have r3 := HS.out.r.x3
      have r4 := HS.out.r.x4
      have r5 := HS.out.r.x5
      have r6 := HS.out.r.x6
      have r7 := HS.out.r.x7
      have hrl := HS.out.r.lt
      have ln := HN.out.n
      have le := HN.out.e
      have l0 := HN.out.x0
      have l1 := HN.out.x1
      have l2 := HN.out.x2
      have l3 := HN.out.x3
      have l4 := HN.out.x4
      have l5 := HN.out.x5
      have l6 := HN.out.x6
      have l7 := HN.out.x7
      have HB := hide HS.out.bel
      clear HS HN
      go_wp2
      exact bodyPost_ret (v := .agg #[.bool (ng), .int .i64 (lo + (fd : Int) - 1), .int .u64 (dgl (s) 0 : Nat), .int .u64 (dgl (s) 1 : Nat), .int .u64 (dgl (s) 2 : Nat), .int .u64 (dgl (s) 3 : Nat), .int .u64 (dgl (s) 4 : Nat), .int .u64 (dgl (s) 5 : Nat), .int .u64 (dgl (s) 6 : Nat), .int .u64 (dgl (s) 7 : Nat)]) (by simp [results, Tryz.results70, go_sem, hrl, rn, re, r0, r1, r2, r3, r4, r5, r6, r7]) rfl ⟨rfl, ((((((((((HB.out.setCell (p := ⟨w.heap.size + 1, 0, none⟩) (Nat.le_succ _) _).setCell (p := ⟨w.heap.size + 1, 1, none⟩) (Nat.le_succ _) _).setCell (p := ⟨w.heap.size + 1, 2, none⟩) (Nat.le_succ _) _).setCell (p := ⟨w.heap.size + 1, 3, none⟩) (Nat.le_succ _) _).setCell (p := ⟨w.heap.size + 1, 4, none⟩) (Nat.le_succ _) _).setCell (p := ⟨w.heap.size + 1, 5, none⟩) (Nat.le_succ _) _).setCell (p := ⟨w.heap.size + 1, 6, none⟩) (Nat.le_succ _) _).setCell (p := ⟨w.heap.size + 1, 7, none⟩) (Nat.le_succ _) _).setCell (p := ⟨w.heap.size + 1, 8, none⟩) (Nat.le_succ _) _).setCell (p := ⟨w.heap.size + 1, 9, none⟩) (Nat.le_succ _) _)⟩
      

set_option maxHeartbeats 4000000 in
theorem rval_H (f em lo : Int) (a r s fd P e : Nat) (ng : Bool)
    (HFD : Hid (∀ w, Calls Tryz.prog 92 #[.int .i64 f, .agg #[.int .u64 (dgl (a) 1 : Nat), .int .u64 (dgl (a) 0 : Nat)]] w fun e w' => e = .returned (.int .i64 (fd : Nat)) ∧ Below w.heap.size w w'))
    (HNG : Hid (∀ w, Calls Tryz.prog 95 #[.int .i64 f, .agg #[.int .u64 (dgl (a) 1 : Nat), .int .u64 (dgl (a) 0 : Nat)]] w fun e w' => e = .returned (.bool ng) ∧ Below w.heap.size w w'))
    (HFR : Hid (∀ w, Calls Tryz.prog 93 #[.int .i64 f, .agg #[.int .u64 (dgl (a) 1 : Nat), .int .u64 (dgl (a) 0 : Nat)]] w fun e w' => e = .returned (.agg #[.int .u64 (dgl (r) 0 : Nat), .int .u64 (dgl (r) 1 : Nat), .int .u64 (dgl (r) 2 : Nat), .int .u64 (dgl (r) 3 : Nat), .int .u64 (dgl (r) 4 : Nat), .int .u64 (dgl (r) 5 : Nat), .int .u64 (dgl (r) 6 : Nat), .int .u64 (dgl (r) 7 : Nat)]) ∧ Below w.heap.size w w'))
    (HEM : Hid (∀ w, Calls Tryz.prog 39 #[.int .i64 f] w fun e w' => e = .returned (.int .i64 em) ∧ w' = w))
    (HPR : Hid (∀ w, Calls Tryz.prog 8 #[.int .i64 f] w fun e w' => e = .returned (.int .i64 (P : Nat)) ∧ w' = w))
    (hem : -20000 ≤ em ∧ em ≤ 0) (hP : 2 ≤ P ∧ P ≤ 128) (HLO : Hid (em - (P : Int) + 1 = lo))
    (hfd : 1 ≤ fd ∧ fd ≤ 40000) (HQ : Hid (((P : Int) - 1).tdiv 64 = 1)) (HM : Hid (((P : Int) - 1).tmod 64 = ((e : Nat) : Int))) (HSH : Hid (IntKind.u64.wrap ((2 : Int) ^ e) = (2 : Int) ^ e)) (HE6 : Hid ((e : Int) < 64)) (HAD : Hid (IntKind.u64.wrap (((dgl r 1 : Nat) : Int) + (2 : Int) ^ e) = ((dgl s 1 : Nat) : Int))) (HOT : Hid (∀ j, j ≠ 1 → dgl s j = dgl r j)) (w : World) :
    Calls Tryz.prog 70 #[.int .i64 f, .agg #[.int .u64 (dgl (a) 1 : Nat), .int .u64 (dgl (a) 0 : Nat)]] w fun e w' => e = .returned (.agg #[.bool (ng), .int .i64 (lo + (fd : Int) - 1), .int .u64 (dgl (s) 0 : Nat), .int .u64 (dgl (s) 1 : Nat), .int .u64 (dgl (s) 2 : Nat), .int .u64 (dgl (s) 3 : Nat), .int .u64 (dgl (s) 4 : Nat), .int .u64 (dgl (s) 5 : Nat), .int .u64 (dgl (s) 6 : Nat), .int .u64 (dgl (s) 7 : Nat)]) ∧ Below w.heap.size w w' := by
  have HS := hide (rvSt_start a w)
  go_enter Tryz.func70, Tryz.ntmps70
  go_upto_region 1 with fail
  refine wp_gen (fun W => RvSt a w W) HS.out ?_
  clear HS
  rintro W1 g1
  have HS := hide g1
  have l0 := g1.wa.h
  have l1 := g1.wa.l
  clear g1
  go_wp2_with fail
  refine (HFD.out _).mono ?_
  rintro e_ w1 ⟨rfl, hb1⟩
  replace HS := hide (HS.out.below hb1)
  clear hb1 l0 l1
  go_upto_region 2 with fail
  refine wp_gen (fun W => RvSt a w W) HS.out ?_
  clear HS
  rintro W2 h2
  refine wp_region_storeK 15 [14] [11, 12, 13, 14, 15, 16, 17, 18, 19, 20, 21, 22, 23, 6] (fun bs => [(11, .val (.int .i64 f)), (12, .val (.agg #[.int .u64 (dgl (a) 1 : Nat), .int .u64 (dgl (a) 0 : Nat)])), (13, .val (.bool ng)), (14, .val (.int .i64 f)), (15, .val (.agg #[.int .u64 (dgl (a) 1 : Nat), .int .u64 (dgl (a) 0 : Nat)])), (16, .val (.agg #[.int .u64 (dgl (r) 0 : Nat), .int .u64 (dgl (r) 1 : Nat), .int .u64 (dgl (r) 2 : Nat), .int .u64 (dgl (r) 3 : Nat), .int .u64 (dgl (r) 4 : Nat), .int .u64 (dgl (r) 5 : Nat), .int .u64 (dgl (r) 6 : Nat), .int .u64 (dgl (r) 7 : Nat)])), (17, .val (.int .i64 f)), (18, .val (.int .i64 em)), (19, .val (.int .i64 f)), (20, .val (.int .i64 (P : Nat))), (21, .val (.int .i64 (em - (P : Int)))), (22, .val (.int .i64 lo)), (23, .val (.agg #[.bool (ng), .int .i64 (lo), .int .u64 (dgl (r) 0 : Nat), .int .u64 (dgl (r) 1 : Nat), .int .u64 (dgl (r) 2 : Nat), .int .u64 (dgl (r) 3 : Nat), .int .u64 (dgl (r) 4 : Nat), .int .u64 (dgl (r) 5 : Nat), .int .u64 (dgl (r) 6 : Nat), .int .u64 (dgl (r) 7 : Nat)])), (6, bif bs.headD false then SlotIs.nbox (w.heap.size + 1 + 1) ng lo r else SlotIs.nbox (w.heap.size + 1 + 1) false 0 0)])
    (fun _ W => RvSt a w W) (fun bs => rfl) mixedOk (by kernel_rfl) (by kernel_rfl) (by kernel_rfl) (h2.below (Below.refl _ _).drew) (fun bs W W' h hb => h.below hb) ?_ ?_
  · refine kSt rfl (fun φ hφ => gStep_run rfl (gRun_move 0 11 (.inl rfl) rfl (by decide +kernel) (fun v w h => h))) ?_
    refine kSt rfl (fun φ hφ => gStep_run rfl ?_) ?_
    · intro ρ W hC hc hf hL
      have e3 : ρ (.tmp 3) = .pointer (some ⟨w.heap.size, 0, none⟩) := hL 3 (by decide +kernel)
      have l0 := hC.wa.h
      have l1 := hC.wa.l
      simp [go_sem, hc, hf, e3, l0, l1]
      exact ⟨Below.refl _ _, rfl⟩
    refine kSt rfl (fun φ hφ => gStep_run rfl ?_) ?_
    · intro ρ W hC hc hf hL
      have e11 : ρ (.tmp 11) = .int .i64 f := hL 11 (by decide +kernel)
      have e12 : ρ (.tmp 12) = .agg #[.int .u64 (dgl (a) 1 : Nat), .int .u64 (dgl (a) 0 : Nat)] := hL 12 (by decide +kernel)
      simp [go_sem, hc, hf, e11, e12]
      refine (HNG.out W).mono ?_
      rintro e w' ⟨rfl, hb⟩
      exact ⟨_, rfl, by first | exact hb | (subst hb; exact Below.refl _ _), rfl⟩
    refine kSt rfl (fun φ hφ => gStep_run rfl (gRun_move 0 14 (.inl rfl) rfl (by decide +kernel) (fun v w h => h))) ?_
    refine kSt rfl (fun φ hφ => gStep_run rfl ?_) ?_
    · intro ρ W hC hc hf hL
      have e3 : ρ (.tmp 3) = .pointer (some ⟨w.heap.size, 0, none⟩) := hL 3 (by decide +kernel)
      have l0 := hC.wa.h
      have l1 := hC.wa.l
      simp [go_sem, hc, hf, e3, l0, l1]
      exact ⟨Below.refl _ _, rfl⟩
    refine kSt rfl (fun φ hφ => gStep_run rfl ?_) ?_
    · intro ρ W hC hc hf hL
      have e14 : ρ (.tmp 14) = .int .i64 f := hL 14 (by decide +kernel)
      have e15 : ρ (.tmp 15) = .agg #[.int .u64 (dgl (a) 1 : Nat), .int .u64 (dgl (a) 0 : Nat)] := hL 15 (by decide +kernel)
      simp [go_sem, hc, hf, e14, e15]
      refine (HFR.out W).mono ?_
      rintro e w' ⟨rfl, hb⟩
      exact ⟨_, rfl, by first | exact hb | (subst hb; exact Below.refl _ _), rfl⟩
    refine kSt rfl (fun φ hφ => gStep_run rfl (gRun_move 0 17 (.inl rfl) rfl (by decide +kernel) (fun v w h => h))) ?_
    refine kSt rfl (fun φ hφ => gStep_run rfl ?_) ?_
    · intro ρ W hC hc hf hL
      have e17 : ρ (.tmp 17) = .int .i64 f := hL 17 (by decide +kernel)
      simp [go_sem, hc, hf, e17]
      refine (HEM.out W).mono ?_
      rintro e w' ⟨rfl, hb⟩
      exact ⟨_, rfl, by first | exact hb | (subst hb; exact Below.refl _ _), rfl⟩
    refine kSt rfl (fun φ hφ => gStep_run rfl (gRun_move 0 19 (.inl rfl) rfl (by decide +kernel) (fun v w h => h))) ?_
    refine kSt rfl (fun φ hφ => gStep_run rfl ?_) ?_
    · intro ρ W hC hc hf hL
      have e19 : ρ (.tmp 19) = .int .i64 f := hL 19 (by decide +kernel)
      simp [go_sem, hc, hf, e19]
      refine (HPR.out W).mono ?_
      rintro e w' ⟨rfl, hb⟩
      exact ⟨_, rfl, by first | exact hb | (subst hb; exact Below.refl _ _), rfl⟩
    refine kSt rfl (fun φ hφ => gStep_run rfl ?_) ?_
    · intro ρ W hC hc hf hL
      have e18 : ρ (.tmp 18) = .int .i64 em := hL 18 (by decide +kernel)
      have e20 : ρ (.tmp 20) = .int .i64 (P : Nat) := hL 20 (by decide +kernel)
      have l0 : IntKind.i64.wrap (em - (P : Int)) = em - (P : Int) := by rw [IntKind.wrap_i64]; omega
      simp [go_sem, hc, hf, e18, e20, l0]
      exact ⟨Below.refl _ _, rfl⟩
    refine kSt rfl (fun φ hφ => gStep_run rfl ?_) ?_
    · intro ρ W hC hc hf hL
      have e21 : ρ (.tmp 21) = .int .i64 (em - (P : Int)) := hL 21 (by decide +kernel)
      have l1 : IntKind.i64.wrap (em - (P : Int) + 1) = em - (P : Int) + 1 := by rw [IntKind.wrap_i64]; omega
      have l0 := HLO.out
      rw [l0] at l1
      simp [go_sem, hc, hf, e21, l0, l1]
      exact ⟨Below.refl _ _, rfl⟩
    refine kSt rfl (fun φ hφ => gStep_run rfl ?_) ?_
    · intro ρ W hC hc hf hL
      have e13 : ρ (.tmp 13) = .bool ng := hL 13 (by decide +kernel)
      have e16 : ρ (.tmp 16) = .agg #[.int .u64 (dgl (r) 0 : Nat), .int .u64 (dgl (r) 1 : Nat), .int .u64 (dgl (r) 2 : Nat), .int .u64 (dgl (r) 3 : Nat), .int .u64 (dgl (r) 4 : Nat), .int .u64 (dgl (r) 5 : Nat), .int .u64 (dgl (r) 6 : Nat), .int .u64 (dgl (r) 7 : Nat)] := hL 16 (by decide +kernel)
      have e22 : ρ (.tmp 22) = .int .i64 lo := hL 22 (by decide +kernel)
      simp [go_sem, hc, hf, e13, e16, e22]
      exact ⟨Below.refl _ _, rfl⟩
    refine kSt rfl (fun φ hφ => gStep_run rfl ?_) ?_
    · intro ρ W hC hc hf hL
      have hφ0 : φ 14 = false := hφ 14 (by simp) (by kernel_rfl)
      simp [go_sem, hc, hf]
      refine ⟨below_allocs _ _, ?_⟩
      show (bif φ 14 then SlotIs.nbox (w.heap.size + 1 + 1) ng lo r else SlotIs.nbox (w.heap.size + 1 + 1) false 0 0).R _ _
      rw [hφ0]
      exact ⟨_, rfl, hC.r.lt, nb_zero _ _, fun i => by simp [go_sem]⟩
    refine kStS rfl ⟨rfl, rfl, ?_⟩ ?_
    · intro φ ρ W hφ hC hc hL
      have b6 := hL 6 (by decide +kernel)
      have e23 : ρ (.tmp 23) = .agg #[.bool (ng), .int .i64 (lo), .int .u64 (dgl (r) 0 : Nat), .int .u64 (dgl (r) 1 : Nat), .int .u64 (dgl (r) 2 : Nat), .int .u64 (dgl (r) 3 : Nat), .int .u64 (dgl (r) 4 : Nat), .int .u64 (dgl (r) 5 : Nat), .int .u64 (dgl (r) 6 : Nat), .int .u64 (dgl (r) 7 : Nat)] := hL 23 (by decide +kernel)
      have b6 : (bif φ 14 then SlotIs.nbox (w.heap.size + 1 + 1) ng lo r else SlotIs.nbox (w.heap.size + 1 + 1) false 0 0).R (ρ (.tmp 6)) W := hL 6 (by decide +kernel)
      rw [hφ] at b6
      obtain ⟨p6, e6, q6, l6, z6⟩ := b6
      have yn := l6.n
      have ye := l6.e
      have y0 := l6.x0
      have y1 := l6.x1
      have y2 := l6.x2
      have y3 := l6.x3
      have y4 := l6.x4
      have y5 := l6.x5
      have y6 := l6.x6
      have y7 := l6.x7
      have hzl := l6.lt
      refine gUpon_of ((((((((((W.setCell ⟨p6, 0, none⟩ (.bool (ng))).setCell ⟨p6, 1, none⟩ (.int .i64 (lo))).setCell ⟨p6, 2, none⟩ (.int .u64 (dgl (r) 0 : Nat))).setCell ⟨p6, 3, none⟩ (.int .u64 (dgl (r) 1 : Nat))).setCell ⟨p6, 4, none⟩ (.int .u64 (dgl (r) 2 : Nat))).setCell ⟨p6, 5, none⟩ (.int .u64 (dgl (r) 3 : Nat))).setCell ⟨p6, 6, none⟩ (.int .u64 (dgl (r) 4 : Nat))).setCell ⟨p6, 7, none⟩ (.int .u64 (dgl (r) 5 : Nat))).setCell ⟨p6, 8, none⟩ (.int .u64 (dgl (r) 6 : Nat))).setCell ⟨p6, 9, none⟩ (.int .u64 (dgl (r) 7 : Nat))) ?_ (fun _ => ?_)
      · simp [go_sem, hc, e23, e6, hzl, z6, yn, ye, y0, y1, y2, y3, y4, y5, y6, y7, gUpon]
      have hs10 := below_set10 (Below.refl (w.heap.size + 1 + 1) W) p6 q6 ng lo r
      refine ⟨hC.under hs10 (by omega), fun t => ?_⟩
      refine (tbl_imp rfl (fun _ => val_imp) (tbl_imp rfl (fun _ => val_imp) (tbl_imp rfl (fun _ => val_imp) (tbl_imp rfl (fun _ => val_imp) (tbl_imp rfl (fun _ => val_imp) (tbl_imp rfl (fun _ => val_imp) (tbl_imp rfl (fun _ => val_imp) (tbl_imp rfl (fun _ => val_imp) (tbl_imp rfl (fun _ => val_imp) (tbl_imp rfl (fun _ => val_imp) (tbl_imp rfl (fun _ => val_imp) (tbl_imp rfl (fun _ => val_imp) (tbl_imp rfl (fun _ => val_imp) (tbl_imp rfl (fun ht h => ?_) tbl_nil_imp))))))))))))))
      subst ht
      show (bif (φ 14 || true) then SlotIs.nbox (w.heap.size + 1 + 1) ng lo r else SlotIs.nbox (w.heap.size + 1 + 1) false 0 0).R _ _
      rw [Bool.or_true]
      exact ⟨p6, e6, q6, nb_set l6 ng lo r, fun i => by simpa [go_sem] using z6 i⟩
    exact kSt0
  · intro W hC
    refine gFi 11 rfl ?_
    rintro _ rfl
    refine gFi 12 rfl ?_
    rintro _ rfl
    refine gFi 13 rfl ?_
    rintro _ rfl
    refine gFi 14 rfl ?_
    rintro _ rfl
    refine gFi 15 rfl ?_
    rintro _ rfl
    refine gFi 16 rfl ?_
    rintro _ rfl
    refine gFi 17 rfl ?_
    rintro _ rfl
    refine gFi 18 rfl ?_
    rintro _ rfl
    refine gFi 19 rfl ?_
    rintro _ rfl
    refine gFi 20 rfl ?_
    rintro _ rfl
    refine gFi 21 rfl ?_
    rintro _ rfl
    refine gFi 22 rfl ?_
    rintro _ rfl
    refine gFi 23 rfl ?_
    rintro _ rfl
    refine gFi 6 rfl ?_
    rintro u6 b6
    refine gFiN rfl ?_
    refine gFi0 ?_
    simp only [List.drop_succ_cons, List.drop_zero, Act.put, List.setIfInBounds_toArray, List.set_cons_succ, List.set_cons_zero]
    obtain ⟨p6, rfl, q6, l6, z6⟩ := b6
    have HS := hide hC
    have HN := hide l6
    have HP6 := hide q6
    have HZ := hide z6
    clear hC l6 q6 z6 h2
    have hgt : (0 : Int) < (fd : Int) := by omega
    go_wp2_with fail
    refine (HPR.out _).mono ?_
    rintro e_ wl ⟨rfl, hw⟩
    subst wl
    have hwp : IntKind.i64.wrap ((P : Int) - 1) = (P : Int) - 1 := by rw [IntKind.wrap_i64]; omega
    go_upto_region 5 with fail
    refine wp_gen (fun W => RvSt a w W ∧ NB W p6 ng lo r ∧ ∀ i, W.frozen? ⟨p6, i, none⟩ = false) ⟨HS.out, HN.out, HZ.out⟩ ?_
    clear HS HN HZ hgt hwp
    rintro W5 h5
    refine wp_region_grow 13 [(29, .val (.int .i64 ((P : Int) - 1))), (30, .val (.int .i64 1)), (31, .val (.int .i64 ((P : Int) - 1))), (32, .val (.int .i64 1)), (33, .val (.pointer (some ⟨p6, 2, none⟩))), (34, .val (.pointer (some ⟨p6, 3, none⟩))), (35, .val (.int .u64 (dgl r 1 : Nat))), (36, .val (.int .i64 ((P : Int) - 1))), (37, .val (.int .i64 ((e : Nat) : Int))), (38, .val (.int .u64 ((2 : Int) ^ e))), (39, .val (.int .u64 (dgl s 1 : Nat))), (40, .val (.pointer (some ⟨p6, 2, none⟩))), (41, .val (.pointer (some ⟨p6, 3, none⟩)))]
      (fun W => RvSt a w W ∧ NB W p6 ng lo r ∧ ∀ i, W.frozen? ⟨p6, i, none⟩ = false) mixedOk (by kernel_rfl) (by kernel_rfl) (⟨h5.1.below (Below.refl _ _).drew, h5.2.1.below (Below.refl _ _).drew, fun i => ((Below.refl _ _).drew.frozen (p := ⟨p6, i, none⟩) h5.2.1.lt).trans (h5.2.2 i)⟩) (fun W W' h hb => ⟨h.1.below hb, h.2.1.below hb, fun i => (hb.frozen (p := ⟨p6, i, none⟩) h.2.1.lt).trans (h.2.2 i)⟩) ?_ ?_
    · refine gSt (gStep_run rfl (gRun_move 7 29 (.inl rfl) rfl (by decide +kernel) (fun v w h => h))) ?_
      refine gSt (gStep_run rfl ?_) ?_
      · intro ρ W hC hc hf hL
        have e29 : ρ (.tmp 29) = .int .i64 ((P : Int) - 1) := hL 29 (by decide +kernel)
        have l0 := HQ.out
        simp [go_sem, hc, hf, e29, l0]
        exact ⟨Below.refl _ _, rfl⟩
      refine gSt (gStep_run rfl (gRun_move 7 31 (.inl rfl) rfl (by decide +kernel) (fun v w h => h))) ?_
      refine gSt (gStep_run rfl ?_) ?_
      · intro ρ W hC hc hf hL
        have e31 : ρ (.tmp 31) = .int .i64 ((P : Int) - 1) := hL 31 (by decide +kernel)
        have l0 := HQ.out
        simp [go_sem, hc, hf, e31, l0]
        exact ⟨Below.refl _ _, rfl⟩
      refine gSt (gStep_run rfl ?_) ?_
      · intro ρ W hC hc hf hL
        have e6 : ρ (.tmp 6) = .pointer (some ⟨p6, 0, none⟩) := hL 6 (by decide +kernel)
        simp [go_sem, hc, hf, e6]
        exact ⟨Below.refl _ _, rfl⟩
      refine gSt (gStep_run rfl ?_) ?_
      · intro ρ W hC hc hf hL
        have e32 : ρ (.tmp 32) = .int .i64 1 := hL 32 (by decide +kernel)
        have e33 : ρ (.tmp 33) = .pointer (some ⟨p6, 2, none⟩) := hL 33 (by decide +kernel)
        simp [go_sem, hc, hf, e32, e33]
        exact ⟨Below.refl _ _, rfl⟩
      refine gSt (gStep_run rfl ?_) ?_
      · intro ρ W hC hc hf hL
        have e34 : ρ (.tmp 34) = .pointer (some ⟨p6, 3, none⟩) := hL 34 (by decide +kernel)
        have l0 := hC.2.1.x1
        simp [go_sem, hc, hf, e34, l0]
        exact ⟨Below.refl _ _, rfl⟩
      refine gSt (gStep_run rfl (gRun_move 7 36 (.inl rfl) rfl (by decide +kernel) (fun v w h => h))) ?_
      refine gSt (gStep_run rfl ?_) ?_
      · intro ρ W hC hc hf hL
        have e36 : ρ (.tmp 36) = .int .i64 ((P : Int) - 1) := hL 36 (by decide +kernel)
        have l0 := HM.out
        simp [go_sem, hc, hf, e36, l0]
        exact ⟨Below.refl _ _, rfl⟩
      refine gSt (gStep_run rfl ?_) ?_
      · intro ρ W hC hc hf hL
        have e37 : ρ (.tmp 37) = .int .i64 ((e : Nat) : Int) := hL 37 (by decide +kernel)
        have l0 := HSH.out
        have h0 : (0 : Int) ≤ (e : Int) := by omega
        have h6 := HE6.out
        simp [go_sem, hc, hf, e37, l0, h0, h6]
        exact ⟨Below.refl _ _, rfl⟩
      refine gSt (gStep_run rfl ?_) ?_
      · intro ρ W hC hc hf hL
        have e35 : ρ (.tmp 35) = .int .u64 (dgl r 1 : Nat) := hL 35 (by decide +kernel)
        have e38 : ρ (.tmp 38) = .int .u64 ((2 : Int) ^ e) := hL 38 (by decide +kernel)
        have l0 := HAD.out
        simp [go_sem, hc, hf, e35, e38, l0]
        exact ⟨Below.refl _ _, rfl⟩
      refine gSt (gStep_run rfl ?_) ?_
      · intro ρ W hC hc hf hL
        have e6 : ρ (.tmp 6) = .pointer (some ⟨p6, 0, none⟩) := hL 6 (by decide +kernel)
        simp [go_sem, hc, hf, e6]
        exact ⟨Below.refl _ _, rfl⟩
      refine gSt (gStep_run rfl ?_) ?_
      · intro ρ W hC hc hf hL
        have e30 : ρ (.tmp 30) = .int .i64 1 := hL 30 (by decide +kernel)
        have e40 : ρ (.tmp 40) = .pointer (some ⟨p6, 2, none⟩) := hL 40 (by decide +kernel)
        simp [go_sem, hc, hf, e30, e40]
        exact ⟨Below.refl _ _, rfl⟩
      exact gSt0
    · intro W hC
      refine gFi 29 rfl ?_
      rintro _ rfl
      refine gFi 30 rfl ?_
      rintro _ rfl
      refine gFi 31 rfl ?_
      rintro _ rfl
      refine gFi 32 rfl ?_
      rintro _ rfl
      refine gFi 33 rfl ?_
      rintro _ rfl
      refine gFi 34 rfl ?_
      rintro _ rfl
      refine gFi 35 rfl ?_
      rintro _ rfl
      refine gFi 36 rfl ?_
      rintro _ rfl
      refine gFi 37 rfl ?_
      rintro _ rfl
      refine gFi 38 rfl ?_
      rintro _ rfl
      refine gFi 39 rfl ?_
      rintro _ rfl
      refine gFi 40 rfl ?_
      rintro _ rfl
      refine gFi 41 rfl ?_
      rintro _ rfl
      refine gFi0 ?_
      simp only [List.drop_succ_cons, List.drop_zero, Act.put, List.setIfInBounds_toArray, List.set_cons_succ, List.set_cons_zero]
      have l0 := hC.2.1.x1
      have hf6 := hC.2.2
      have hl6 := hC.2.1.lt
      have HN0 := hide hC.2.1
      have HR0 := hide hC.1
      have HS2 := hide (show RvSt a w (W.setCell ⟨p6, 3, none⟩ (.int .u64 (dgl s 1 : Nat))) ∧ NB (W.setCell ⟨p6, 3, none⟩ (.int .u64 (dgl s 1 : Nat))) p6 ng lo s ∧ ∀ i, (W.setCell ⟨p6, 3, none⟩ (.int .u64 (dgl s 1 : Nat))).frozen? ⟨p6, i, none⟩ = false from
        ⟨hC.1.under ((Below.refl (w.heap.size + 1 + 1) W).setCell (p := ⟨p6, 3, none⟩) HP6.out _) (by omega), nb_setx1 hC.2.1 HOT.out, fun i => by simpa [go_sem] using hC.2.2 i⟩)
      clear hC h5
      go_upto_region 6 with fail
      refine wp_gen (fun W => RvSt a w W ∧ NB W p6 ng lo s ∧ ∀ i, W.frozen? ⟨p6, i, none⟩ = false) HS2.out ?_
      clear HS2 HN0 HR0 l0 hf6 hl6
      rintro W6 h6
      have le := h6.2.1.e
      have hf6 := h6.2.2
      have hl6 := h6.2.1.lt
      have hw : IntKind.i64.wrap (lo + (fd : Int)) = lo + (fd : Int) := by rw [IntKind.wrap_i64]; have := HLO.out; omega
      have hw2 : IntKind.i64.wrap (lo + (fd : Int) - 1) = lo + (fd : Int) - 1 := by rw [IntKind.wrap_i64]; have := HLO.out; omega
      have HS3 := hide (show RvSt a w (W6.setCell ⟨p6, 1, none⟩ (.int .i64 (lo + (fd : Int) - 1))) ∧ NB (W6.setCell ⟨p6, 1, none⟩ (.int .i64 (lo + (fd : Int) - 1))) p6 ng (lo + (fd : Int) - 1) s from
        ⟨h6.1.under ((Below.refl (w.heap.size + 1 + 1) W6).setCell (p := ⟨p6, 1, none⟩) HP6.out _) (by omega), nb_sete h6.2.1 _⟩)
      clear h6
      go_upto_region 7 with fail
      refine wp_gen (fun W => RvSt a w W ∧ NB W p6 ng (lo + (fd : Int) - 1) s) HS3.out ?_
      clear HS3 le hf6 hl6 hw hw2
      rintro W7 ⟨g1, g2⟩
      have HS := hide g1
      have HN := hide g2
      clear g1 g2
      have hrf := HS.out.fr
      have rn := HS.out.r.n
      have re := HS.out.r.e
      have r0 := HS.out.r.x0
      have r1 := HS.out.r.x1
      have r2 := HS.out.r.x2
      have r3 := HS.out.r.x3
      have r4 := HS.out.r.x4
      have r5 := HS.out.r.x5
      have r6 := HS.out.r.x6
      have r7 := HS.out.r.x7
      have hrl := HS.out.r.lt
      have ln := HN.out.n
      have le := HN.out.e
      have l0 := HN.out.x0
      have l1 := HN.out.x1
      have l2 := HN.out.x2
      have l3 := HN.out.x3
      have l4 := HN.out.x4
      have l5 := HN.out.x5
      have l6 := HN.out.x6
      have l7 := HN.out.x7
      have HB := hide HS.out.bel
      clear HS HN
      go_wp2
      exact bodyPost_ret (v := .agg #[.bool (ng), .int .i64 (lo + (fd : Int) - 1), .int .u64 (dgl (s) 0 : Nat), .int .u64 (dgl (s) 1 : Nat), .int .u64 (dgl (s) 2 : Nat), .int .u64 (dgl (s) 3 : Nat), .int .u64 (dgl (s) 4 : Nat), .int .u64 (dgl (s) 5 : Nat), .int .u64 (dgl (s) 6 : Nat), .int .u64 (dgl (s) 7 : Nat)]) (by simp [results, Tryz.results70, go_sem, hrl, rn, re, r0, r1, r2, r3, r4, r5, r6, r7]) rfl ⟨rfl, ((((((((((HB.out.setCell (p := ⟨w.heap.size + 1, 0, none⟩) (Nat.le_succ _) _).setCell (p := ⟨w.heap.size + 1, 1, none⟩) (Nat.le_succ _) _).setCell (p := ⟨w.heap.size + 1, 2, none⟩) (Nat.le_succ _) _).setCell (p := ⟨w.heap.size + 1, 3, none⟩) (Nat.le_succ _) _).setCell (p := ⟨w.heap.size + 1, 4, none⟩) (Nat.le_succ _) _).setCell (p := ⟨w.heap.size + 1, 5, none⟩) (Nat.le_succ _) _).setCell (p := ⟨w.heap.size + 1, 6, none⟩) (Nat.le_succ _) _).setCell (p := ⟨w.heap.size + 1, 7, none⟩) (Nat.le_succ _) _).setCell (p := ⟨w.heap.size + 1, 8, none⟩) (Nat.le_succ _) _).setCell (p := ⟨w.heap.size + 1, 9, none⟩) (Nat.le_succ _) _)⟩
      

end Go.Proofs.YtpcjdllijkjdkaaGreatDoor

