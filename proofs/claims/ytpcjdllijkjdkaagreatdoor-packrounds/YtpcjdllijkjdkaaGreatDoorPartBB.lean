/- Contracts and laws: PckC, PckD. -/
import Derived.Test.YtpcjdllijkjdkaaGreatDoorPartBA
import Derived.Test.YtpcjdllijkjdkaaGreatDoorPartAY
/- Contracts: pack.Round, over what its parts tell. -/
set_option linter.unusedVariables false
set_option linter.unusedSimpArgs false
set_option maxRecDepth 8000
namespace Go.Proofs.YtpcjdllijkjdkaaGreatDoor
open Go.RowKit Plain

structure RuSt (neg : Bool) (z : Int) (s : Nat) (w W : World) : Prop where
  g : FmtG W
  gl : 0 < w.heap.size
  n : NB W (w.heap.size) (neg) (z) (s)
  r : WB W (w.heap.size + 1) (0) (0)
  fr : ∀ i, W.frozen? ⟨w.heap.size + 1, i, none⟩ = false
  lt : w.heap.size + 1 < W.heap.size
  bel : Below w.heap.size w W
theorem RuSt.under {neg : Bool} {z : Int} {s : Nat} {w W W' : World} (h : RuSt neg z s w W) {C : Nat} (hb : Below C W W') (hc : w.heap.size + 1 < C) : RuSt neg z s w W' :=
  ⟨⟨fun i hi => (hb.cell (p := ⟨0, i, none⟩) (show 0 < C by have := h.gl; omega)).trans (h.g.c i hi), Nat.lt_of_lt_of_le h.g.lt hb.size⟩, h.gl, h.n.under hb (show w.heap.size < C by omega), h.r.under hb (show w.heap.size + 1 < C by omega), fun i => (hb.frozen (p := ⟨w.heap.size + 1, i, none⟩) (show w.heap.size + 1 < C by omega)).trans (h.fr i), Nat.lt_of_lt_of_le h.lt hb.size, h.bel.trans (hb.mono (by omega))⟩
theorem RuSt.below {neg : Bool} {z : Int} {s : Nat} {w W W' : World} (h : RuSt neg z s w W) (hb : Below W.heap.size W W') : RuSt neg z s w W' := h.under hb h.lt
theorem ruSt_start (neg : Bool) (z : Int) (s : Nat) (w : World) (hg : FmtG w) : RuSt neg z s w ((w.alloc (.cells #[.bool (neg), .int .i64 (z), .int .u64 (dgl (s) 0 : Nat), .int .u64 (dgl (s) 1 : Nat), .int .u64 (dgl (s) 2 : Nat), .int .u64 (dgl (s) 3 : Nat), .int .u64 (dgl (s) 4 : Nat), .int .u64 (dgl (s) 5 : Nat), .int .u64 (dgl (s) 6 : Nat), .int .u64 (dgl (s) 7 : Nat)] 27)).alloc (.cells #[.int .u64 0, .int .u64 0] 29)) :=
  ⟨(hg.below (below_allocs _ _)).below (below_allocs _ _), hg.lt, (nb_new w neg z s 27).below (below_allocs _ _), ⟨by simp [go_sem], by simp [go_sem], by simp⟩, fun i => by simp [go_sem], by simp, below_trans (below_allocs _ _) (below_allocs _ _)⟩
theorem capK_new (w : World) (k : Nat → Int) (e : TypeId) : CapK w.heap.size k (w.alloc (.cells #[.int .i64 (k 0), .int .i64 (k 1), .int .i64 (k 2), .int .i64 (k 3), .int .i64 (k 4)] e)) := ⟨fun i hi => rec5_new w k e i hi, by simp⟩
def rndV (c : Nat) : Value := .func (.func 23) #[] #[.pointer (some ⟨c, 0, none⟩)]

set_option maxHeartbeats 8000000 in
theorem round_E1 (f m z zc zd tp : Int) (neg more off ok2 : Bool) (k : Nat → Int) (s q q2 a : Nat)
    (HO : Hid (∀ w, FmtG w → Calls Tryz.prog 15 #[.int .i64 f] w fun e w' => e = .returned (.tuple #[.agg #[.int .i64 (k 0), .int .i64 (k 1), .int .i64 (k 2), .int .i64 (k 3), .int .i64 (k 4)], .bool false]) ∧ Below w.heap.size w w')) (w : World) (hg : FmtG w) :
    Calls Tryz.prog 4 #[.int .i64 f, .int .i64 m, .agg #[.bool (neg), .int .i64 (z), .int .u64 (dgl (s) 0 : Nat), .int .u64 (dgl (s) 1 : Nat), .int .u64 (dgl (s) 2 : Nat), .int .u64 (dgl (s) 3 : Nat), .int .u64 (dgl (s) 4 : Nat), .int .u64 (dgl (s) 5 : Nat), .int .u64 (dgl (s) 6 : Nat), .int .u64 (dgl (s) 7 : Nat)], .bool more] w fun e w' => e = .returned (.tuple #[.agg #[.int .u64 0, .int .u64 0], .int .i64 0, .int .i64 1]) ∧ Below w.heap.size w w' := by
  have HS := hide (ruSt_start neg z s w hg)
  clear hg
  go_enter Tryz.func4, Tryz.ntmps4
  go_upto_region 1 with fail
  refine wp_gen (fun W => RuSt neg z s w W) HS.out ?_
  clear HS
  rintro W1 h1
  have HS := hide h1
  clear h1
  go_wp2_with fail
  refine (HO.out _ HS.out.g).mono ?_
  rintro e w1 ⟨rfl, hb1⟩
  replace HS := hide (HS.out.below hb1)
  clear hb1
  go_upto_region 2 with fail
  refine wp_gen (fun W => RuSt neg z s w W ∧ CapK w1.heap.size k W) ⟨HS.out.below (below_allocs _ _), capK_new _ _ _⟩ ?_
  have HP := hide (show w.heap.size + 1 + 1 ≤ w1.heap.size from HS.out.lt)
  clear HS
  generalize w1.heap.size = p11 at *
  rintro W2 ⟨g1, g2⟩
  have HS := hide g1
  have HK := hide g2
  clear g1 g2
  have rh := HS.out.r.h
  have rl := HS.out.r.l
  have hrf := HS.out.fr
  have hlt := HS.out.lt
  have HB := hide HS.out.bel
  clear HS
  go_wp2
  exact bodyPost_ret (v := .tuple #[.agg #[.int .u64 0, .int .u64 0], .int .i64 0, .int .i64 1]) (by simp [results, Tryz.results4, go_sem, hlt, rh, rl]) rfl ⟨rfl, (HB.out.setCell (p := ⟨w.heap.size + 1, 0, none⟩) (Nat.le_succ _) _).setCell (p := ⟨w.heap.size + 1, 1, none⟩) (Nat.le_succ _) _⟩

set_option maxHeartbeats 8000000 in
theorem round_E2 (f m z zc zd tp : Int) (neg more off ok2 : Bool) (k : Nat → Int) (s q q2 a : Nat)
    (HO : Hid (∀ w, FmtG w → Calls Tryz.prog 15 #[.int .i64 f] w fun e w' => e = .returned (.tuple #[.agg #[.int .i64 (k 0), .int .i64 (k 1), .int .i64 (k 2), .int .i64 (k 3), .int .i64 (k 4)], .bool true]) ∧ Below w.heap.size w w'))
    (HIS : Hid (∀ w, Calls Tryz.prog 16 #[.int .i64 m] w fun e w' => e = .returned (.bool false) ∧ w' = w)) (w : World) (hg : FmtG w) :
    Calls Tryz.prog 4 #[.int .i64 f, .int .i64 m, .agg #[.bool (neg), .int .i64 (z), .int .u64 (dgl (s) 0 : Nat), .int .u64 (dgl (s) 1 : Nat), .int .u64 (dgl (s) 2 : Nat), .int .u64 (dgl (s) 3 : Nat), .int .u64 (dgl (s) 4 : Nat), .int .u64 (dgl (s) 5 : Nat), .int .u64 (dgl (s) 6 : Nat), .int .u64 (dgl (s) 7 : Nat)], .bool more] w fun e w' => e = .returned (.tuple #[.agg #[.int .u64 0, .int .u64 0], .int .i64 0, .int .i64 1]) ∧ Below w.heap.size w w' := by
  have HS := hide (ruSt_start neg z s w hg)
  clear hg
  go_enter Tryz.func4, Tryz.ntmps4
  go_upto_region 1 with fail
  refine wp_gen (fun W => RuSt neg z s w W) HS.out ?_
  clear HS
  rintro W1 h1
  have HS := hide h1
  clear h1
  go_wp2_with fail
  refine (HO.out _ HS.out.g).mono ?_
  rintro e w1 ⟨rfl, hb1⟩
  replace HS := hide (HS.out.below hb1)
  clear hb1
  go_upto_region 2 with fail
  refine wp_gen (fun W => RuSt neg z s w W ∧ CapK w1.heap.size k W) ⟨HS.out.below (below_allocs _ _), capK_new _ _ _⟩ ?_
  have HP := hide (show w.heap.size + 1 + 1 ≤ w1.heap.size from HS.out.lt)
  clear HS
  generalize w1.heap.size = p11 at *
  rintro W2 ⟨g1, g2⟩
  have HS := hide g1
  have HK := hide g2
  clear g1 g2
  go_wp2_with fail
  refine (HIS.out _).mono ?_
  rintro e wl ⟨rfl, hw⟩
  subst wl
  have rh := HS.out.r.h
  have rl := HS.out.r.l
  have hrf := HS.out.fr
  have hlt := HS.out.lt
  have HB := hide HS.out.bel
  clear HS
  go_wp2
  exact bodyPost_ret (v := .tuple #[.agg #[.int .u64 0, .int .u64 0], .int .i64 0, .int .i64 1]) (by simp [results, Tryz.results4, go_sem, hlt, rh, rl]) rfl ⟨rfl, (HB.out.setCell (p := ⟨w.heap.size + 1, 0, none⟩) (Nat.le_succ _) _).setCell (p := ⟨w.heap.size + 1, 1, none⟩) (Nat.le_succ _) _⟩

set_option maxHeartbeats 8000000 in
theorem round_E3 (f m z zc zd tp : Int) (neg more off ok2 : Bool) (k : Nat → Int) (s q q2 a : Nat)
    (HO : Hid (∀ w, FmtG w → Calls Tryz.prog 15 #[.int .i64 f] w fun e w' => e = .returned (.tuple #[.agg #[.int .i64 (k 0), .int .i64 (k 1), .int .i64 (k 2), .int .i64 (k 3), .int .i64 (k 4)], .bool true]) ∧ Below w.heap.size w w'))
    (HIS : Hid (∀ w, Calls Tryz.prog 16 #[.int .i64 m] w fun e w' => e = .returned (.bool true) ∧ w' = w))
    (HRI : Hid (∀ w, Calls Tryz.prog 17 #[.int .i64 (k 1), .agg #[.bool (neg), .int .i64 (z), .int .u64 (dgl (s) 0 : Nat), .int .u64 (dgl (s) 1 : Nat), .int .u64 (dgl (s) 2 : Nat), .int .u64 (dgl (s) 3 : Nat), .int .u64 (dgl (s) 4 : Nat), .int .u64 (dgl (s) 5 : Nat), .int .u64 (dgl (s) 6 : Nat), .int .u64 (dgl (s) 7 : Nat)], .bool more] w fun e w' => e = .returned (.bool false) ∧ Below w.heap.size w w')) (w : World) (hg : FmtG w) :
    Calls Tryz.prog 4 #[.int .i64 f, .int .i64 m, .agg #[.bool (neg), .int .i64 (z), .int .u64 (dgl (s) 0 : Nat), .int .u64 (dgl (s) 1 : Nat), .int .u64 (dgl (s) 2 : Nat), .int .u64 (dgl (s) 3 : Nat), .int .u64 (dgl (s) 4 : Nat), .int .u64 (dgl (s) 5 : Nat), .int .u64 (dgl (s) 6 : Nat), .int .u64 (dgl (s) 7 : Nat)], .bool more] w fun e w' => e = .returned (.tuple #[.agg #[.int .u64 0, .int .u64 0], .int .i64 0, .int .i64 1]) ∧ Below w.heap.size w w' := by
  have HS := hide (ruSt_start neg z s w hg)
  clear hg
  go_enter Tryz.func4, Tryz.ntmps4
  go_upto_region 1 with fail
  refine wp_gen (fun W => RuSt neg z s w W) HS.out ?_
  clear HS
  rintro W1 h1
  have HS := hide h1
  clear h1
  go_wp2_with fail
  refine (HO.out _ HS.out.g).mono ?_
  rintro e w1 ⟨rfl, hb1⟩
  replace HS := hide (HS.out.below hb1)
  clear hb1
  go_upto_region 2 with fail
  refine wp_gen (fun W => RuSt neg z s w W ∧ CapK w1.heap.size k W) ⟨HS.out.below (below_allocs _ _), capK_new _ _ _⟩ ?_
  have HP := hide (show w.heap.size + 1 + 1 ≤ w1.heap.size from HS.out.lt)
  clear HS
  generalize w1.heap.size = p11 at *
  rintro W2 ⟨g1, g2⟩
  have HS := hide g1
  have HK := hide g2
  clear g1 g2
  go_wp2_with fail
  refine (HIS.out _).mono ?_
  rintro e wl ⟨rfl, hw⟩
  subst wl
  have ln := HS.out.n.n
  have le := HS.out.n.e
  have l0 := HS.out.n.x0
  have l1 := HS.out.n.x1
  have l2 := HS.out.n.x2
  have l3 := HS.out.n.x3
  have l4 := HS.out.n.x4
  have l5 := HS.out.n.x5
  have l6 := HS.out.n.x6
  have l7 := HS.out.n.x7
  have hk1 := HK.out.c 1 (by decide)
  go_wp2_with fail
  refine (HRI.out _).mono ?_
  rintro e w2 ⟨rfl, hb2⟩
  replace HS := hide (HS.out.below hb2)
  replace HK := hide (HK.out.below hb2)
  clear hb2 hk1 ln le l0 l1 l2 l3 l4 l5 l6 l7
  have rh := HS.out.r.h
  have rl := HS.out.r.l
  have hrf := HS.out.fr
  have hlt := HS.out.lt
  have HB := hide HS.out.bel
  clear HS
  go_wp2
  exact bodyPost_ret (v := .tuple #[.agg #[.int .u64 0, .int .u64 0], .int .i64 0, .int .i64 1]) (by simp [results, Tryz.results4, go_sem, hlt, rh, rl]) rfl ⟨rfl, (HB.out.setCell (p := ⟨w.heap.size + 1, 0, none⟩) (Nat.le_succ _) _).setCell (p := ⟨w.heap.size + 1, 1, none⟩) (Nat.le_succ _) _⟩

set_option maxHeartbeats 8000000 in
theorem round_Z (f m z zc zd tp : Int) (neg more off ok2 : Bool) (k : Nat → Int) (s q q2 a : Nat)
    (HO : Hid (∀ w, FmtG w → Calls Tryz.prog 15 #[.int .i64 f] w fun e w' => e = .returned (.tuple #[.agg #[.int .i64 (k 0), .int .i64 (k 1), .int .i64 (k 2), .int .i64 (k 3), .int .i64 (k 4)], .bool true]) ∧ Below w.heap.size w w'))
    (HIS : Hid (∀ w, Calls Tryz.prog 16 #[.int .i64 m] w fun e w' => e = .returned (.bool true) ∧ w' = w))
    (HRI : Hid (∀ w, Calls Tryz.prog 17 #[.int .i64 (k 1), .agg #[.bool (neg), .int .i64 (z), .int .u64 (dgl (s) 0 : Nat), .int .u64 (dgl (s) 1 : Nat), .int .u64 (dgl (s) 2 : Nat), .int .u64 (dgl (s) 3 : Nat), .int .u64 (dgl (s) 4 : Nat), .int .u64 (dgl (s) 5 : Nat), .int .u64 (dgl (s) 6 : Nat), .int .u64 (dgl (s) 7 : Nat)], .bool more] w fun e w' => e = .returned (.bool true) ∧ Below w.heap.size w w'))
    (hz : ∀ w, (Op.equalIn 10000 25 (.agg #[.int .u64 (dgl (s) 0 : Nat), .int .u64 (dgl (s) 1 : Nat), .int .u64 (dgl (s) 2 : Nat), .int .u64 (dgl (s) 3 : Nat), .int .u64 (dgl (s) 4 : Nat), .int .u64 (dgl (s) 5 : Nat), .int .u64 (dgl (s) 6 : Nat), .int .u64 (dgl (s) 7 : Nat)]) (.agg #[.int .u64 0, .int .u64 0, .int .u64 0, .int .u64 0, .int .u64 0, .int .u64 0, .int .u64 0, .int .u64 0])).run Tryz.prog w = .ok true w)
    (HNG : Hid (∀ w, FmtG w → Calls Tryz.prog 18 #[.int .i64 f, .bool neg] w fun e w' => e = .returned (.agg #[.int .u64 (dgl (a) 1 : Nat), .int .u64 (dgl (a) 0 : Nat)]) ∧ Below w.heap.size w w')) (w : World) (hg : FmtG w) :
    Calls Tryz.prog 4 #[.int .i64 f, .int .i64 m, .agg #[.bool (neg), .int .i64 (z), .int .u64 (dgl (s) 0 : Nat), .int .u64 (dgl (s) 1 : Nat), .int .u64 (dgl (s) 2 : Nat), .int .u64 (dgl (s) 3 : Nat), .int .u64 (dgl (s) 4 : Nat), .int .u64 (dgl (s) 5 : Nat), .int .u64 (dgl (s) 6 : Nat), .int .u64 (dgl (s) 7 : Nat)], .bool more] w fun e w' => e = .returned (.tuple #[.agg #[.int .u64 (dgl (a) 1 : Nat), .int .u64 (dgl (a) 0 : Nat)], .int .i64 0, .int .i64 0]) ∧ Below w.heap.size w w' := by
  have HS := hide (ruSt_start neg z s w hg)
  clear hg
  go_enter Tryz.func4, Tryz.ntmps4
  go_upto_region 1 with fail
  refine wp_gen (fun W => RuSt neg z s w W) HS.out ?_
  clear HS
  rintro W1 h1
  have HS := hide h1
  clear h1
  go_wp2_with fail
  refine (HO.out _ HS.out.g).mono ?_
  rintro e w1 ⟨rfl, hb1⟩
  replace HS := hide (HS.out.below hb1)
  clear hb1
  go_upto_region 2 with fail
  refine wp_gen (fun W => RuSt neg z s w W ∧ CapK w1.heap.size k W) ⟨HS.out.below (below_allocs _ _), capK_new _ _ _⟩ ?_
  have HP := hide (show w.heap.size + 1 + 1 ≤ w1.heap.size from HS.out.lt)
  clear HS
  generalize w1.heap.size = p11 at *
  rintro W2 ⟨g1, g2⟩
  have HS := hide g1
  have HK := hide g2
  clear g1 g2
  go_wp2_with fail
  refine (HIS.out _).mono ?_
  rintro e wl ⟨rfl, hw⟩
  subst wl
  have ln := HS.out.n.n
  have le := HS.out.n.e
  have l0 := HS.out.n.x0
  have l1 := HS.out.n.x1
  have l2 := HS.out.n.x2
  have l3 := HS.out.n.x3
  have l4 := HS.out.n.x4
  have l5 := HS.out.n.x5
  have l6 := HS.out.n.x6
  have l7 := HS.out.n.x7
  have hk1 := HK.out.c 1 (by decide)
  go_wp2_with fail
  refine (HRI.out _).mono ?_
  rintro e w2 ⟨rfl, hb2⟩
  replace HS := hide (HS.out.below hb2)
  replace HK := hide (HK.out.below hb2)
  clear hb2 hk1 ln le l0 l1 l2 l3 l4 l5 l6 l7
  have ln := HS.out.n.n
  have le := HS.out.n.e
  have l0 := HS.out.n.x0
  have l1 := HS.out.n.x1
  have l2 := HS.out.n.x2
  have l3 := HS.out.n.x3
  have l4 := HS.out.n.x4
  have l5 := HS.out.n.x5
  have l6 := HS.out.n.x6
  have l7 := HS.out.n.x7
  go_wp2_with fail
  refine (HNG.out _ HS.out.g).mono ?_
  rintro e w3 ⟨rfl, hb3⟩
  replace HS := hide (HS.out.below hb3)
  clear hb3 ln le l0 l1 l2 l3 l4 l5 l6 l7
  have rh := HS.out.r.h
  have rl := HS.out.r.l
  have hrf := HS.out.fr
  have hlt := HS.out.lt
  have HB := hide HS.out.bel
  clear HS
  go_wp2
  exact bodyPost_ret (v := .tuple #[.agg #[.int .u64 (dgl (a) 1 : Nat), .int .u64 (dgl (a) 0 : Nat)], .int .i64 0, .int .i64 0]) (by simp [results, Tryz.results4, go_sem, hlt, rh, rl]) rfl ⟨rfl, (HB.out.setCell (p := ⟨w.heap.size + 1, 0, none⟩) (Nat.le_succ _) _).setCell (p := ⟨w.heap.size + 1, 1, none⟩) (Nat.le_succ _) _⟩

set_option maxHeartbeats 8000000 in
theorem round_O (f m z zc zd tp : Int) (neg more off ok2 : Bool) (k : Nat → Int) (s q q2 a : Nat)
    (HO : Hid (∀ w, FmtG w → Calls Tryz.prog 15 #[.int .i64 f] w fun e w' => e = .returned (.tuple #[.agg #[.int .i64 (k 0), .int .i64 (k 1), .int .i64 (k 2), .int .i64 (k 3), .int .i64 (k 4)], .bool true]) ∧ Below w.heap.size w w'))
    (HIS : Hid (∀ w, Calls Tryz.prog 16 #[.int .i64 m] w fun e w' => e = .returned (.bool true) ∧ w' = w))
    (HRI : Hid (∀ w, Calls Tryz.prog 17 #[.int .i64 (k 1), .agg #[.bool (neg), .int .i64 (z), .int .u64 (dgl (s) 0 : Nat), .int .u64 (dgl (s) 1 : Nat), .int .u64 (dgl (s) 2 : Nat), .int .u64 (dgl (s) 3 : Nat), .int .u64 (dgl (s) 4 : Nat), .int .u64 (dgl (s) 5 : Nat), .int .u64 (dgl (s) 6 : Nat), .int .u64 (dgl (s) 7 : Nat)], .bool more] w fun e w' => e = .returned (.bool true) ∧ Below w.heap.size w w'))
    (hz : ∀ w, (Op.equalIn 10000 25 (.agg #[.int .u64 (dgl (s) 0 : Nat), .int .u64 (dgl (s) 1 : Nat), .int .u64 (dgl (s) 2 : Nat), .int .u64 (dgl (s) 3 : Nat), .int .u64 (dgl (s) 4 : Nat), .int .u64 (dgl (s) 5 : Nat), .int .u64 (dgl (s) 6 : Nat), .int .u64 (dgl (s) 7 : Nat)]) (.agg #[.int .u64 0, .int .u64 0, .int .u64 0, .int .u64 0, .int .u64 0, .int .u64 0, .int .u64 0, .int .u64 0])).run Tryz.prog w = .ok false w)
    (HCU : Hid (∀ c w, CapP c (k 1) w → Calls Tryz.prog 19 #[.int .i64 m, .agg #[.bool (neg), .int .i64 (z), .int .u64 (dgl (s) 0 : Nat), .int .u64 (dgl (s) 1 : Nat), .int .u64 (dgl (s) 2 : Nat), .int .u64 (dgl (s) 3 : Nat), .int .u64 (dgl (s) 4 : Nat), .int .u64 (dgl (s) 5 : Nat), .int .u64 (dgl (s) 6 : Nat), .int .u64 (dgl (s) 7 : Nat)], .bool more, precV c] w fun e w' => e = .returned (.tuple #[.agg #[.bool (neg), .int .i64 (zc), .int .u64 (dgl (q) 0 : Nat), .int .u64 (dgl (q) 1 : Nat), .int .u64 (dgl (q) 2 : Nat), .int .u64 (dgl (q) 3 : Nat), .int .u64 (dgl (q) 4 : Nat), .int .u64 (dgl (q) 5 : Nat), .int .u64 (dgl (q) 6 : Nat), .int .u64 (dgl (q) 7 : Nat)], .bool off]) ∧ Below w.heap.size w w'))
    (HTP : Hid (∀ w, Calls Tryz.prog 21 #[.agg #[.bool (neg), .int .i64 (zc), .int .u64 (dgl (q) 0 : Nat), .int .u64 (dgl (q) 1 : Nat), .int .u64 (dgl (q) 2 : Nat), .int .u64 (dgl (q) 3 : Nat), .int .u64 (dgl (q) 4 : Nat), .int .u64 (dgl (q) 5 : Nat), .int .u64 (dgl (q) 6 : Nat), .int .u64 (dgl (q) 7 : Nat)]] w fun e w' => e = .returned (.int .i64 tp) ∧ Below w.heap.size w w'))
    (hgt : k 2 < tp)
    (HBE : Hid (∀ w, FmtG w → Calls Tryz.prog 22 #[.int .i64 f, .int .i64 m, .bool neg] w fun e w' => e = .returned (.agg #[.int .u64 (dgl (a) 1 : Nat), .int .u64 (dgl (a) 0 : Nat)]) ∧ Below w.heap.size w w')) (w : World) (hg : FmtG w) :
    Calls Tryz.prog 4 #[.int .i64 f, .int .i64 m, .agg #[.bool (neg), .int .i64 (z), .int .u64 (dgl (s) 0 : Nat), .int .u64 (dgl (s) 1 : Nat), .int .u64 (dgl (s) 2 : Nat), .int .u64 (dgl (s) 3 : Nat), .int .u64 (dgl (s) 4 : Nat), .int .u64 (dgl (s) 5 : Nat), .int .u64 (dgl (s) 6 : Nat), .int .u64 (dgl (s) 7 : Nat)], .bool more] w fun e w' => e = .returned (.tuple #[.agg #[.int .u64 (dgl (a) 1 : Nat), .int .u64 (dgl (a) 0 : Nat)], .int .i64 20, .int .i64 0]) ∧ Below w.heap.size w w' := by
  have HS := hide (ruSt_start neg z s w hg)
  clear hg
  go_enter Tryz.func4, Tryz.ntmps4
  go_upto_region 1 with fail
  refine wp_gen (fun W => RuSt neg z s w W) HS.out ?_
  clear HS
  rintro W1 h1
  have HS := hide h1
  clear h1
  go_wp2_with fail
  refine (HO.out _ HS.out.g).mono ?_
  rintro e w1 ⟨rfl, hb1⟩
  replace HS := hide (HS.out.below hb1)
  clear hb1
  go_upto_region 2 with fail
  refine wp_gen (fun W => RuSt neg z s w W ∧ CapK w1.heap.size k W) ⟨HS.out.below (below_allocs _ _), capK_new _ _ _⟩ ?_
  have HP := hide (show w.heap.size + 1 + 1 ≤ w1.heap.size from HS.out.lt)
  clear HS
  generalize w1.heap.size = p11 at *
  rintro W2 ⟨g1, g2⟩
  have HS := hide g1
  have HK := hide g2
  clear g1 g2
  go_wp2_with fail
  refine (HIS.out _).mono ?_
  rintro e wl ⟨rfl, hw⟩
  subst wl
  have ln := HS.out.n.n
  have le := HS.out.n.e
  have l0 := HS.out.n.x0
  have l1 := HS.out.n.x1
  have l2 := HS.out.n.x2
  have l3 := HS.out.n.x3
  have l4 := HS.out.n.x4
  have l5 := HS.out.n.x5
  have l6 := HS.out.n.x6
  have l7 := HS.out.n.x7
  have hk1 := HK.out.c 1 (by decide)
  go_wp2_with fail
  refine (HRI.out _).mono ?_
  rintro e w2 ⟨rfl, hb2⟩
  replace HS := hide (HS.out.below hb2)
  replace HK := hide (HK.out.below hb2)
  clear hb2 hk1 ln le l0 l1 l2 l3 l4 l5 l6 l7
  have ln := HS.out.n.n
  have le := HS.out.n.e
  have l0 := HS.out.n.x0
  have l1 := HS.out.n.x1
  have l2 := HS.out.n.x2
  have l3 := HS.out.n.x3
  have l4 := HS.out.n.x4
  have l5 := HS.out.n.x5
  have l6 := HS.out.n.x6
  have l7 := HS.out.n.x7
  go_upto_region 6 with fail
  refine wp_gen (fun W => RuSt neg z s w W ∧ CapK p11 k W) ⟨HS.out, HK.out⟩ ?_
  clear HS HK ln le l0 l1 l2 l3 l4 l5 l6 l7
  have hp11 := HP.out
  rintro W3 h3
  refine wp_region_storeK 13 [11] [48, 49, 50, 51, 52, 53, 54, 47, 55, 56, 13, 14] (fun bs => [(48, .val (.int .i64 m)), (49, .val (.agg #[.bool (neg), .int .i64 (z), .int .u64 (dgl (s) 0 : Nat), .int .u64 (dgl (s) 1 : Nat), .int .u64 (dgl (s) 2 : Nat), .int .u64 (dgl (s) 3 : Nat), .int .u64 (dgl (s) 4 : Nat), .int .u64 (dgl (s) 5 : Nat), .int .u64 (dgl (s) 6 : Nat), .int .u64 (dgl (s) 7 : Nat)])), (50, .val (.bool more)), (51, .val (.pointer (some ⟨p11, 1, none⟩))), (52, .val (.int .i64 (k 1))), (53, bif bs.headD false then SlotIs.any  else SlotIs.prec (k 1)), (54, .val (.tuple #[.agg #[.bool (neg), .int .i64 (zc), .int .u64 (dgl (q) 0 : Nat), .int .u64 (dgl (q) 1 : Nat), .int .u64 (dgl (q) 2 : Nat), .int .u64 (dgl (q) 3 : Nat), .int .u64 (dgl (q) 4 : Nat), .int .u64 (dgl (q) 5 : Nat), .int .u64 (dgl (q) 6 : Nat), .int .u64 (dgl (q) 7 : Nat)], .bool off])), (47, .val (.tuple #[.agg #[.bool (neg), .int .i64 (zc), .int .u64 (dgl (q) 0 : Nat), .int .u64 (dgl (q) 1 : Nat), .int .u64 (dgl (q) 2 : Nat), .int .u64 (dgl (q) 3 : Nat), .int .u64 (dgl (q) 4 : Nat), .int .u64 (dgl (q) 5 : Nat), .int .u64 (dgl (q) 6 : Nat), .int .u64 (dgl (q) 7 : Nat)], .bool off])), (55, .val (.agg #[.bool (neg), .int .i64 (zc), .int .u64 (dgl (q) 0 : Nat), .int .u64 (dgl (q) 1 : Nat), .int .u64 (dgl (q) 2 : Nat), .int .u64 (dgl (q) 3 : Nat), .int .u64 (dgl (q) 4 : Nat), .int .u64 (dgl (q) 5 : Nat), .int .u64 (dgl (q) 6 : Nat), .int .u64 (dgl (q) 7 : Nat)])), (56, .val (.bool off)), (13, bif bs.headD false then SlotIs.nbox (p11 + 1) neg zc q else SlotIs.nbox (p11 + 1) false 0 0), (14, .val (.bool off))])
    (fun _ W => RuSt neg z s w W ∧ CapK p11 k W) (fun bs => rfl) mixedOk (by kernel_rfl) (by kernel_rfl) (by kernel_rfl) (⟨h3.1.below (Below.refl _ _).drew, h3.2.below (Below.refl _ _).drew⟩) (fun bs W W' h hb => ⟨h.1.below hb, h.2.below hb⟩) ?_ ?_
  · refine kSt rfl (fun φ hφ => gStep_run rfl (gRun_move 1 48 (.inl rfl) rfl (by decide +kernel) (fun v w h => h))) ?_
    refine kSt rfl (fun φ hφ => gStep_run rfl ?_) ?_
    · intro ρ W hC hc hf hL
      have e6 : ρ (.tmp 6) = .pointer (some ⟨w.heap.size, 0, none⟩) := hL 6 (by decide +kernel)
      have ln := hC.1.n.n
      have le := hC.1.n.e
      have l0 := hC.1.n.x0
      have l1 := hC.1.n.x1
      have l2 := hC.1.n.x2
      have l3 := hC.1.n.x3
      have l4 := hC.1.n.x4
      have l5 := hC.1.n.x5
      have l6 := hC.1.n.x6
      have l7 := hC.1.n.x7
      simp [go_sem, hc, hf, e6, ln, le, l0, l1, l2, l3, l4, l5, l6, l7]
      exact ⟨Below.refl _ _, rfl⟩
    refine kSt rfl (fun φ hφ => gStep_run rfl (gRun_move 3 50 (.inl rfl) rfl (by decide +kernel) (fun v w h => h))) ?_
    refine kSt rfl (fun φ hφ => gStep_run rfl ?_) ?_
    · intro ρ W hC hc hf hL
      have e11 : ρ (.tmp 11) = .pointer (some ⟨p11, 0, none⟩) := hL 11 (by decide +kernel)
      simp [go_sem, hc, hf, e11]
      exact ⟨Below.refl _ _, rfl⟩
    refine kSt rfl (fun φ hφ => gStep_run rfl ?_) ?_
    · intro ρ W hC hc hf hL
      have e51 : ρ (.tmp 51) = .pointer (some ⟨p11, 1, none⟩) := hL 51 (by decide +kernel)
      have hk1 := hC.2.c 1 (by decide)
      simp [go_sem, hc, hf, e51, hk1]
      exact ⟨Below.refl _ _, rfl⟩
    refine kSt rfl (fun φ hφ => gStep_run rfl ?_) ?_
    · intro ρ W hC hc hf hL
      have hφ0 : φ 11 = false := hφ 11 (by simp) (by kernel_rfl)
      have e52 : ρ (.tmp 52) = .int .i64 (k 1) := hL 52 (by decide +kernel)
      simp [go_sem, hc, hf, e52]
      refine (precise_any _ W).mono ?_
      rintro e w' ⟨rfl, hc2, hb⟩
      refine ⟨_, rfl, hb, ?_⟩
      show (bif φ 11 then SlotIs.any else SlotIs.prec (k 1)).R _ _
      rw [hφ0]
      exact ⟨_, rfl, hc2⟩
    refine kSt rfl (fun φ hφ => gStep_run rfl ?_) ?_
    · intro ρ W hC hc hf hL
      have hφ0 : φ 11 = false := hφ 11 (by simp) (by kernel_rfl)
      have e48 : ρ (.tmp 48) = .int .i64 m := hL 48 (by decide +kernel)
      have e49 : ρ (.tmp 49) = .agg #[.bool (neg), .int .i64 (z), .int .u64 (dgl (s) 0 : Nat), .int .u64 (dgl (s) 1 : Nat), .int .u64 (dgl (s) 2 : Nat), .int .u64 (dgl (s) 3 : Nat), .int .u64 (dgl (s) 4 : Nat), .int .u64 (dgl (s) 5 : Nat), .int .u64 (dgl (s) 6 : Nat), .int .u64 (dgl (s) 7 : Nat)] := hL 49 (by decide +kernel)
      have e50 : ρ (.tmp 50) = .bool more := hL 50 (by decide +kernel)
      have b53 : (bif φ 11 then SlotIs.any  else SlotIs.prec (k 1)).R (ρ (.tmp 53)) W := hL 53 (by decide +kernel)
      rw [hφ0] at b53
      obtain ⟨q53, e53, cc⟩ := b53
      simp [go_sem, hc, hf, e48, e49, e50, e53]
      refine (HCU.out q53 W cc).mono ?_
      rintro e w' ⟨rfl, hb⟩
      exact ⟨_, rfl, by first | exact hb | (subst hb; exact Below.refl _ _), rfl⟩
    refine kSt rfl (fun φ hφ => gStep_run rfl (gRun_move 54 47 (.inl rfl) rfl (by decide +kernel) (fun v w h => h))) ?_
    refine kSt rfl (fun φ hφ => gStep_run rfl ?_) ?_
    · intro ρ W hC hc hf hL
      have e47 : ρ (.tmp 47) = .tuple #[.agg #[.bool (neg), .int .i64 (zc), .int .u64 (dgl (q) 0 : Nat), .int .u64 (dgl (q) 1 : Nat), .int .u64 (dgl (q) 2 : Nat), .int .u64 (dgl (q) 3 : Nat), .int .u64 (dgl (q) 4 : Nat), .int .u64 (dgl (q) 5 : Nat), .int .u64 (dgl (q) 6 : Nat), .int .u64 (dgl (q) 7 : Nat)], .bool off] := hL 47 (by decide +kernel)
      simp [go_sem, hc, hf, e47]
      exact ⟨Below.refl _ _, rfl⟩
    refine kSt rfl (fun φ hφ => gStep_run rfl ?_) ?_
    · intro ρ W hC hc hf hL
      have e47 : ρ (.tmp 47) = .tuple #[.agg #[.bool (neg), .int .i64 (zc), .int .u64 (dgl (q) 0 : Nat), .int .u64 (dgl (q) 1 : Nat), .int .u64 (dgl (q) 2 : Nat), .int .u64 (dgl (q) 3 : Nat), .int .u64 (dgl (q) 4 : Nat), .int .u64 (dgl (q) 5 : Nat), .int .u64 (dgl (q) 6 : Nat), .int .u64 (dgl (q) 7 : Nat)], .bool off] := hL 47 (by decide +kernel)
      simp [go_sem, hc, hf, e47]
      exact ⟨Below.refl _ _, rfl⟩
    refine kSt rfl (fun φ hφ => gStep_run rfl ?_) ?_
    · intro ρ W hC hc hf hL
      have hφ0 : φ 11 = false := hφ 11 (by simp) (by kernel_rfl)
      simp [go_sem, hc, hf]
      refine ⟨below_allocs _ _, ?_⟩
      show (bif φ 11 then SlotIs.nbox (p11 + 1) neg zc q else SlotIs.nbox (p11 + 1) false 0 0).R _ _
      rw [hφ0]
      exact ⟨_, rfl, hC.2.lt, nb_zero _ _, fun i => by simp [go_sem]⟩
    refine kStS rfl ⟨rfl, rfl, ?_⟩ ?_
    · intro φ ρ W hφ hC hc hL
      have b13 := hL 13 (by decide +kernel)
      have e55 : ρ (.tmp 55) = .agg #[.bool (neg), .int .i64 (zc), .int .u64 (dgl (q) 0 : Nat), .int .u64 (dgl (q) 1 : Nat), .int .u64 (dgl (q) 2 : Nat), .int .u64 (dgl (q) 3 : Nat), .int .u64 (dgl (q) 4 : Nat), .int .u64 (dgl (q) 5 : Nat), .int .u64 (dgl (q) 6 : Nat), .int .u64 (dgl (q) 7 : Nat)] := hL 55 (by decide +kernel)
      have bx : (bif φ 11 then SlotIs.nbox (p11 + 1) neg zc q else SlotIs.nbox (p11 + 1) false 0 0).R (ρ (.tmp 13)) W := hL 13 (by decide +kernel)
      rw [hφ] at bx
      obtain ⟨px, ex, qx, lx, zx⟩ := bx
      have yn := lx.n
      have ye := lx.e
      have y0 := lx.x0
      have y1 := lx.x1
      have y2 := lx.x2
      have y3 := lx.x3
      have y4 := lx.x4
      have y5 := lx.x5
      have y6 := lx.x6
      have y7 := lx.x7
      have hzl := lx.lt
      refine gUpon_of ((((((((((W.setCell ⟨px, 0, none⟩ (.bool (neg))).setCell ⟨px, 1, none⟩ (.int .i64 (zc))).setCell ⟨px, 2, none⟩ (.int .u64 (dgl (q) 0 : Nat))).setCell ⟨px, 3, none⟩ (.int .u64 (dgl (q) 1 : Nat))).setCell ⟨px, 4, none⟩ (.int .u64 (dgl (q) 2 : Nat))).setCell ⟨px, 5, none⟩ (.int .u64 (dgl (q) 3 : Nat))).setCell ⟨px, 6, none⟩ (.int .u64 (dgl (q) 4 : Nat))).setCell ⟨px, 7, none⟩ (.int .u64 (dgl (q) 5 : Nat))).setCell ⟨px, 8, none⟩ (.int .u64 (dgl (q) 6 : Nat))).setCell ⟨px, 9, none⟩ (.int .u64 (dgl (q) 7 : Nat))) ?_ (fun _ => ?_)
      · simp [go_sem, hc, e55, ex, hzl, zx, yn, ye, y0, y1, y2, y3, y4, y5, y6, y7, gUpon]
      have hs10 := below_set10 (Below.refl (p11 + 1) W) px qx neg zc q
      refine ⟨⟨hC.1.under hs10 (by omega), hC.2.under hs10 (Nat.lt_succ_self _)⟩, fun t => ?_⟩
      refine (tbl_imp rfl (fun _ => val_imp) (tbl_imp rfl (fun _ => val_imp) (tbl_imp rfl (fun _ => val_imp) (tbl_imp rfl (fun _ => val_imp) (tbl_imp rfl (fun _ => val_imp) (tbl_imp rfl (fun ht h => ?_) (tbl_imp rfl (fun _ => val_imp) (tbl_imp rfl (fun _ => val_imp) (tbl_imp rfl (fun _ => val_imp) (tbl_imp rfl (fun _ => val_imp) (tbl_imp rfl (fun ht h => ?_) (tbl_imp rfl (fun _ => val_imp) tbl_nil_imp))))))))))))
      · subst ht
        show (bif (φ 11 || true) then SlotIs.any else SlotIs.prec (k 1)).R _ _
        rw [Bool.or_true]
        trivial
      · subst ht
        show (bif (φ 11 || true) then SlotIs.nbox (p11 + 1) neg zc q else SlotIs.nbox (p11 + 1) false 0 0).R _ _
        rw [Bool.or_true]
        exact ⟨px, ex, qx, nb_set lx neg zc q, fun i => by simpa [go_sem] using zx i⟩
    refine kSt rfl (fun φ hφ => gStep_run rfl (gRun_move 56 14 (.inr rfl) rfl (by decide +kernel) (fun v w h => h))) ?_
    exact kSt0
  · intro W hC
    refine gFi 48 rfl ?_
    rintro _ rfl
    refine gFi 49 rfl ?_
    rintro _ rfl
    refine gFi 50 rfl ?_
    rintro _ rfl
    refine gFi 51 rfl ?_
    rintro _ rfl
    refine gFi 52 rfl ?_
    rintro _ rfl
    refine gFi 53 rfl ?_
    rintro u53 b53
    refine gFi 54 rfl ?_
    rintro _ rfl
    refine gFi 47 rfl ?_
    rintro _ rfl
    refine gFi 55 rfl ?_
    rintro _ rfl
    refine gFi 56 rfl ?_
    rintro _ rfl
    refine gFi 13 rfl ?_
    rintro u13 b13
    refine gFiN rfl ?_
    refine gFi 14 rfl ?_
    rintro _ rfl
    refine gFi0 ?_
    simp only [List.drop_succ_cons, List.drop_zero, Act.put, List.setIfInBounds_toArray, List.set_cons_succ, List.set_cons_zero]
    obtain ⟨p13, rfl, q13, l13, z13⟩ := b13
    have HS := hide hC.1
    have HK := hide hC.2
    have HN := hide l13
    have HZ := hide z13
    have HQ := hide q13
    clear hC l13 q13 z13 h3 b53
    go_upto_region 8 with fail
    refine wp_gen (fun W => RuSt neg z s w W ∧ CapK p11 k W ∧ NB W p13 neg zc q ∧ ∀ i, W.frozen? ⟨p13, i, none⟩ = false) ⟨HS.out, HK.out, HN.out, HZ.out⟩ ?_
    clear HS HK HN HZ
    rintro W4 h8
    refine wp_region_grow 6 [(58, .val (.agg #[.bool (neg), .int .i64 (zc), .int .u64 (dgl (q) 0 : Nat), .int .u64 (dgl (q) 1 : Nat), .int .u64 (dgl (q) 2 : Nat), .int .u64 (dgl (q) 3 : Nat), .int .u64 (dgl (q) 4 : Nat), .int .u64 (dgl (q) 5 : Nat), .int .u64 (dgl (q) 6 : Nat), .int .u64 (dgl (q) 7 : Nat)])), (59, .val (.int .i64 tp)), (60, .val (.pointer (some ⟨p11, 2, none⟩))), (61, .val (.int .i64 (k 2))), (62, .val (.bool true)), (57, .val (.bool true))]
      (fun W => RuSt neg z s w W ∧ CapK p11 k W ∧ NB W p13 neg zc q ∧ ∀ i, W.frozen? ⟨p13, i, none⟩ = false) mixedOk (by kernel_rfl) (by kernel_rfl) (⟨h8.1.below (Below.refl _ _).drew, h8.2.1.below (Below.refl _ _).drew, h8.2.2.1.below (Below.refl _ _).drew, fun i => ((Below.refl _ _).drew.frozen (p := ⟨p13, i, none⟩) h8.2.2.1.lt).trans (h8.2.2.2 i)⟩) (fun W W' h hb => ⟨h.1.below hb, h.2.1.below hb, h.2.2.1.below hb, fun i => (hb.frozen (p := ⟨p13, i, none⟩) h.2.2.1.lt).trans (h.2.2.2 i)⟩) ?_ ?_
    · refine gSt (gStep_run rfl ?_) ?_
      · intro ρ W hC hc hf hL
        have e13 : ρ (.tmp 13) = .pointer (some ⟨p13, 0, none⟩) := hL 13 (by decide +kernel)
        have yn := hC.2.2.1.n
        have ye := hC.2.2.1.e
        have y0 := hC.2.2.1.x0
        have y1 := hC.2.2.1.x1
        have y2 := hC.2.2.1.x2
        have y3 := hC.2.2.1.x3
        have y4 := hC.2.2.1.x4
        have y5 := hC.2.2.1.x5
        have y6 := hC.2.2.1.x6
        have y7 := hC.2.2.1.x7
        simp [go_sem, hc, hf, e13, yn, ye, y0, y1, y2, y3, y4, y5, y6, y7]
        exact ⟨Below.refl _ _, rfl⟩
      refine gSt (gStep_run rfl ?_) ?_
      · intro ρ W hC hc hf hL
        have e58 : ρ (.tmp 58) = .agg #[.bool (neg), .int .i64 (zc), .int .u64 (dgl (q) 0 : Nat), .int .u64 (dgl (q) 1 : Nat), .int .u64 (dgl (q) 2 : Nat), .int .u64 (dgl (q) 3 : Nat), .int .u64 (dgl (q) 4 : Nat), .int .u64 (dgl (q) 5 : Nat), .int .u64 (dgl (q) 6 : Nat), .int .u64 (dgl (q) 7 : Nat)] := hL 58 (by decide +kernel)
        simp [go_sem, hc, hf, e58]
        refine (HTP.out W).mono ?_
        rintro e w' ⟨rfl, hb⟩
        exact ⟨_, rfl, by first | exact hb | (subst hb; exact Below.refl _ _), rfl⟩
      refine gSt (gStep_run rfl ?_) ?_
      · intro ρ W hC hc hf hL
        have e11 : ρ (.tmp 11) = .pointer (some ⟨p11, 0, none⟩) := hL 11 (by decide +kernel)
        simp [go_sem, hc, hf, e11]
        exact ⟨Below.refl _ _, rfl⟩
      refine gSt (gStep_run rfl ?_) ?_
      · intro ρ W hC hc hf hL
        have e60 : ρ (.tmp 60) = .pointer (some ⟨p11, 2, none⟩) := hL 60 (by decide +kernel)
        have hk := hC.2.1.c 2 (by decide)
        simp [go_sem, hc, hf, e60, hk]
        exact ⟨Below.refl _ _, rfl⟩
      refine gSt (gStep_run rfl ?_) ?_
      · intro ρ W hC hc hf hL
        have e59 : ρ (.tmp 59) = .int .i64 tp := hL 59 (by decide +kernel)
        have e61 : ρ (.tmp 61) = .int .i64 (k 2) := hL 61 (by decide +kernel)
        have hg2 : decide (k 2 < tp) = true := decide_eq_true (by omega)
        simp [go_sem, hc, hf, e59, e61, hg2, hgt]
        exact ⟨Below.refl _ _, rfl⟩
      refine gSt (gStep_run rfl (gRun_move 62 57 (.inr rfl) rfl (by decide +kernel) (fun v w h => h))) ?_
      exact gSt0
    · intro W hC
      refine gFi 58 rfl ?_
      rintro _ rfl
      refine gFi 59 rfl ?_
      rintro _ rfl
      refine gFi 60 rfl ?_
      rintro _ rfl
      refine gFi 61 rfl ?_
      rintro _ rfl
      refine gFi 62 rfl ?_
      rintro _ rfl
      refine gFi 57 rfl ?_
      rintro _ rfl
      refine gFi0 ?_
      simp only [List.drop_succ_cons, List.drop_zero, Act.put, List.setIfInBounds_toArray, List.set_cons_succ, List.set_cons_zero]
      have HS := hide hC.1
      have HK := hide hC.2.1
      have HN := hide hC.2.2.1
      have HZ := hide hC.2.2.2
      clear hC h8 HK HN HZ
      have ln := HS.out.n.n
      go_wp2_with fail
      refine (HBE.out _ HS.out.g).mono ?_
      rintro e w5 ⟨rfl, hb5⟩
      replace HS := hide (HS.out.below hb5)
      clear hb5 ln
      have rh := HS.out.r.h
      have rl := HS.out.r.l
      have hrf := HS.out.fr
      have hlt := HS.out.lt
      have HB := hide HS.out.bel
      clear HS
      go_wp2
      exact bodyPost_ret (v := .tuple #[.agg #[.int .u64 (dgl (a) 1 : Nat), .int .u64 (dgl (a) 0 : Nat)], .int .i64 20, .int .i64 0]) (by simp [results, Tryz.results4, go_sem, hlt, rh, rl]) rfl ⟨rfl, (HB.out.setCell (p := ⟨w.heap.size + 1, 0, none⟩) (Nat.le_succ _) _).setCell (p := ⟨w.heap.size + 1, 1, none⟩) (Nat.le_succ _) _⟩
      
    

set_option maxHeartbeats 8000000 in
theorem round_N0 (f m z zc zd tp : Int) (neg more off ok2 : Bool) (k : Nat → Int) (s q q2 a : Nat)
    (HO : Hid (∀ w, FmtG w → Calls Tryz.prog 15 #[.int .i64 f] w fun e w' => e = .returned (.tuple #[.agg #[.int .i64 (k 0), .int .i64 (k 1), .int .i64 (k 2), .int .i64 (k 3), .int .i64 (k 4)], .bool true]) ∧ Below w.heap.size w w'))
    (HIS : Hid (∀ w, Calls Tryz.prog 16 #[.int .i64 m] w fun e w' => e = .returned (.bool true) ∧ w' = w))
    (HRI : Hid (∀ w, Calls Tryz.prog 17 #[.int .i64 (k 1), .agg #[.bool (neg), .int .i64 (z), .int .u64 (dgl (s) 0 : Nat), .int .u64 (dgl (s) 1 : Nat), .int .u64 (dgl (s) 2 : Nat), .int .u64 (dgl (s) 3 : Nat), .int .u64 (dgl (s) 4 : Nat), .int .u64 (dgl (s) 5 : Nat), .int .u64 (dgl (s) 6 : Nat), .int .u64 (dgl (s) 7 : Nat)], .bool more] w fun e w' => e = .returned (.bool true) ∧ Below w.heap.size w w'))
    (hz : ∀ w, (Op.equalIn 10000 25 (.agg #[.int .u64 (dgl (s) 0 : Nat), .int .u64 (dgl (s) 1 : Nat), .int .u64 (dgl (s) 2 : Nat), .int .u64 (dgl (s) 3 : Nat), .int .u64 (dgl (s) 4 : Nat), .int .u64 (dgl (s) 5 : Nat), .int .u64 (dgl (s) 6 : Nat), .int .u64 (dgl (s) 7 : Nat)]) (.agg #[.int .u64 0, .int .u64 0, .int .u64 0, .int .u64 0, .int .u64 0, .int .u64 0, .int .u64 0, .int .u64 0])).run Tryz.prog w = .ok false w)
    (HCU : Hid (∀ c w, CapP c (k 1) w → Calls Tryz.prog 19 #[.int .i64 m, .agg #[.bool (neg), .int .i64 (z), .int .u64 (dgl (s) 0 : Nat), .int .u64 (dgl (s) 1 : Nat), .int .u64 (dgl (s) 2 : Nat), .int .u64 (dgl (s) 3 : Nat), .int .u64 (dgl (s) 4 : Nat), .int .u64 (dgl (s) 5 : Nat), .int .u64 (dgl (s) 6 : Nat), .int .u64 (dgl (s) 7 : Nat)], .bool more, precV c] w fun e w' => e = .returned (.tuple #[.agg #[.bool (neg), .int .i64 (zc), .int .u64 (dgl (q) 0 : Nat), .int .u64 (dgl (q) 1 : Nat), .int .u64 (dgl (q) 2 : Nat), .int .u64 (dgl (q) 3 : Nat), .int .u64 (dgl (q) 4 : Nat), .int .u64 (dgl (q) 5 : Nat), .int .u64 (dgl (q) 6 : Nat), .int .u64 (dgl (q) 7 : Nat)], .bool false]) ∧ Below w.heap.size w w'))
    (HTP : Hid (∀ w, Calls Tryz.prog 21 #[.agg #[.bool (neg), .int .i64 (zc), .int .u64 (dgl (q) 0 : Nat), .int .u64 (dgl (q) 1 : Nat), .int .u64 (dgl (q) 2 : Nat), .int .u64 (dgl (q) 3 : Nat), .int .u64 (dgl (q) 4 : Nat), .int .u64 (dgl (q) 5 : Nat), .int .u64 (dgl (q) 6 : Nat), .int .u64 (dgl (q) 7 : Nat)]] w fun e w' => e = .returned (.int .i64 tp) ∧ Below w.heap.size w w'))
    (hgt : ¬ k 2 < tp)
    (hlt3 : ¬ tp < k 3)
    (HEX : Hid (∀ w, FmtG w → Calls Tryz.prog 24 #[.int .i64 f, .agg #[.bool (neg), .int .i64 (zc), .int .u64 (dgl (q) 0 : Nat), .int .u64 (dgl (q) 1 : Nat), .int .u64 (dgl (q) 2 : Nat), .int .u64 (dgl (q) 3 : Nat), .int .u64 (dgl (q) 4 : Nat), .int .u64 (dgl (q) 5 : Nat), .int .u64 (dgl (q) 6 : Nat), .int .u64 (dgl (q) 7 : Nat)]] w fun e w' => e = .returned (.tuple #[.agg #[.int .u64 (dgl (a) 1 : Nat), .int .u64 (dgl (a) 0 : Nat)], .bool ok2]) ∧ Below w.heap.size w w')) (w : World) (hg : FmtG w) :
    Calls Tryz.prog 4 #[.int .i64 f, .int .i64 m, .agg #[.bool (neg), .int .i64 (z), .int .u64 (dgl (s) 0 : Nat), .int .u64 (dgl (s) 1 : Nat), .int .u64 (dgl (s) 2 : Nat), .int .u64 (dgl (s) 3 : Nat), .int .u64 (dgl (s) 4 : Nat), .int .u64 (dgl (s) 5 : Nat), .int .u64 (dgl (s) 6 : Nat), .int .u64 (dgl (s) 7 : Nat)], .bool more] w fun e w' => e = .returned (.tuple #[.agg #[.int .u64 (dgl (a) 1 : Nat), .int .u64 (dgl (a) 0 : Nat)], .int .i64 0, .int .i64 0]) ∧ Below w.heap.size w w' := by
  have HS := hide (ruSt_start neg z s w hg)
  clear hg
  go_enter Tryz.func4, Tryz.ntmps4
  go_upto_region 1 with fail
  refine wp_gen (fun W => RuSt neg z s w W) HS.out ?_
  clear HS
  rintro W1 h1
  have HS := hide h1
  clear h1
  go_wp2_with fail
  refine (HO.out _ HS.out.g).mono ?_
  rintro e w1 ⟨rfl, hb1⟩
  replace HS := hide (HS.out.below hb1)
  clear hb1
  go_upto_region 2 with fail
  refine wp_gen (fun W => RuSt neg z s w W ∧ CapK w1.heap.size k W) ⟨HS.out.below (below_allocs _ _), capK_new _ _ _⟩ ?_
  have HP := hide (show w.heap.size + 1 + 1 ≤ w1.heap.size from HS.out.lt)
  clear HS
  generalize w1.heap.size = p11 at *
  rintro W2 ⟨g1, g2⟩
  have HS := hide g1
  have HK := hide g2
  clear g1 g2
  go_wp2_with fail
  refine (HIS.out _).mono ?_
  rintro e wl ⟨rfl, hw⟩
  subst wl
  have ln := HS.out.n.n
  have le := HS.out.n.e
  have l0 := HS.out.n.x0
  have l1 := HS.out.n.x1
  have l2 := HS.out.n.x2
  have l3 := HS.out.n.x3
  have l4 := HS.out.n.x4
  have l5 := HS.out.n.x5
  have l6 := HS.out.n.x6
  have l7 := HS.out.n.x7
  have hk1 := HK.out.c 1 (by decide)
  go_wp2_with fail
  refine (HRI.out _).mono ?_
  rintro e w2 ⟨rfl, hb2⟩
  replace HS := hide (HS.out.below hb2)
  replace HK := hide (HK.out.below hb2)
  clear hb2 hk1 ln le l0 l1 l2 l3 l4 l5 l6 l7
  have ln := HS.out.n.n
  have le := HS.out.n.e
  have l0 := HS.out.n.x0
  have l1 := HS.out.n.x1
  have l2 := HS.out.n.x2
  have l3 := HS.out.n.x3
  have l4 := HS.out.n.x4
  have l5 := HS.out.n.x5
  have l6 := HS.out.n.x6
  have l7 := HS.out.n.x7
  go_upto_region 6 with fail
  refine wp_gen (fun W => RuSt neg z s w W ∧ CapK p11 k W) ⟨HS.out, HK.out⟩ ?_
  clear HS HK ln le l0 l1 l2 l3 l4 l5 l6 l7
  have hp11 := HP.out
  rintro W3 h3
  refine wp_region_storeK 13 [11] [48, 49, 50, 51, 52, 53, 54, 47, 55, 56, 13, 14] (fun bs => [(48, .val (.int .i64 m)), (49, .val (.agg #[.bool (neg), .int .i64 (z), .int .u64 (dgl (s) 0 : Nat), .int .u64 (dgl (s) 1 : Nat), .int .u64 (dgl (s) 2 : Nat), .int .u64 (dgl (s) 3 : Nat), .int .u64 (dgl (s) 4 : Nat), .int .u64 (dgl (s) 5 : Nat), .int .u64 (dgl (s) 6 : Nat), .int .u64 (dgl (s) 7 : Nat)])), (50, .val (.bool more)), (51, .val (.pointer (some ⟨p11, 1, none⟩))), (52, .val (.int .i64 (k 1))), (53, bif bs.headD false then SlotIs.any  else SlotIs.prec (k 1)), (54, .val (.tuple #[.agg #[.bool (neg), .int .i64 (zc), .int .u64 (dgl (q) 0 : Nat), .int .u64 (dgl (q) 1 : Nat), .int .u64 (dgl (q) 2 : Nat), .int .u64 (dgl (q) 3 : Nat), .int .u64 (dgl (q) 4 : Nat), .int .u64 (dgl (q) 5 : Nat), .int .u64 (dgl (q) 6 : Nat), .int .u64 (dgl (q) 7 : Nat)], .bool false])), (47, .val (.tuple #[.agg #[.bool (neg), .int .i64 (zc), .int .u64 (dgl (q) 0 : Nat), .int .u64 (dgl (q) 1 : Nat), .int .u64 (dgl (q) 2 : Nat), .int .u64 (dgl (q) 3 : Nat), .int .u64 (dgl (q) 4 : Nat), .int .u64 (dgl (q) 5 : Nat), .int .u64 (dgl (q) 6 : Nat), .int .u64 (dgl (q) 7 : Nat)], .bool false])), (55, .val (.agg #[.bool (neg), .int .i64 (zc), .int .u64 (dgl (q) 0 : Nat), .int .u64 (dgl (q) 1 : Nat), .int .u64 (dgl (q) 2 : Nat), .int .u64 (dgl (q) 3 : Nat), .int .u64 (dgl (q) 4 : Nat), .int .u64 (dgl (q) 5 : Nat), .int .u64 (dgl (q) 6 : Nat), .int .u64 (dgl (q) 7 : Nat)])), (56, .val (.bool false)), (13, bif bs.headD false then SlotIs.nbox (p11 + 1) neg zc q else SlotIs.nbox (p11 + 1) false 0 0), (14, .val (.bool false))])
    (fun _ W => RuSt neg z s w W ∧ CapK p11 k W) (fun bs => rfl) mixedOk (by kernel_rfl) (by kernel_rfl) (by kernel_rfl) (⟨h3.1.below (Below.refl _ _).drew, h3.2.below (Below.refl _ _).drew⟩) (fun bs W W' h hb => ⟨h.1.below hb, h.2.below hb⟩) ?_ ?_
  · refine kSt rfl (fun φ hφ => gStep_run rfl (gRun_move 1 48 (.inl rfl) rfl (by decide +kernel) (fun v w h => h))) ?_
    refine kSt rfl (fun φ hφ => gStep_run rfl ?_) ?_
    · intro ρ W hC hc hf hL
      have e6 : ρ (.tmp 6) = .pointer (some ⟨w.heap.size, 0, none⟩) := hL 6 (by decide +kernel)
      have ln := hC.1.n.n
      have le := hC.1.n.e
      have l0 := hC.1.n.x0
      have l1 := hC.1.n.x1
      have l2 := hC.1.n.x2
      have l3 := hC.1.n.x3
      have l4 := hC.1.n.x4
      have l5 := hC.1.n.x5
      have l6 := hC.1.n.x6
      have l7 := hC.1.n.x7
      simp [go_sem, hc, hf, e6, ln, le, l0, l1, l2, l3, l4, l5, l6, l7]
      exact ⟨Below.refl _ _, rfl⟩
    refine kSt rfl (fun φ hφ => gStep_run rfl (gRun_move 3 50 (.inl rfl) rfl (by decide +kernel) (fun v w h => h))) ?_
    refine kSt rfl (fun φ hφ => gStep_run rfl ?_) ?_
    · intro ρ W hC hc hf hL
      have e11 : ρ (.tmp 11) = .pointer (some ⟨p11, 0, none⟩) := hL 11 (by decide +kernel)
      simp [go_sem, hc, hf, e11]
      exact ⟨Below.refl _ _, rfl⟩
    refine kSt rfl (fun φ hφ => gStep_run rfl ?_) ?_
    · intro ρ W hC hc hf hL
      have e51 : ρ (.tmp 51) = .pointer (some ⟨p11, 1, none⟩) := hL 51 (by decide +kernel)
      have hk1 := hC.2.c 1 (by decide)
      simp [go_sem, hc, hf, e51, hk1]
      exact ⟨Below.refl _ _, rfl⟩
    refine kSt rfl (fun φ hφ => gStep_run rfl ?_) ?_
    · intro ρ W hC hc hf hL
      have hφ0 : φ 11 = false := hφ 11 (by simp) (by kernel_rfl)
      have e52 : ρ (.tmp 52) = .int .i64 (k 1) := hL 52 (by decide +kernel)
      simp [go_sem, hc, hf, e52]
      refine (precise_any _ W).mono ?_
      rintro e w' ⟨rfl, hc2, hb⟩
      refine ⟨_, rfl, hb, ?_⟩
      show (bif φ 11 then SlotIs.any else SlotIs.prec (k 1)).R _ _
      rw [hφ0]
      exact ⟨_, rfl, hc2⟩
    refine kSt rfl (fun φ hφ => gStep_run rfl ?_) ?_
    · intro ρ W hC hc hf hL
      have hφ0 : φ 11 = false := hφ 11 (by simp) (by kernel_rfl)
      have e48 : ρ (.tmp 48) = .int .i64 m := hL 48 (by decide +kernel)
      have e49 : ρ (.tmp 49) = .agg #[.bool (neg), .int .i64 (z), .int .u64 (dgl (s) 0 : Nat), .int .u64 (dgl (s) 1 : Nat), .int .u64 (dgl (s) 2 : Nat), .int .u64 (dgl (s) 3 : Nat), .int .u64 (dgl (s) 4 : Nat), .int .u64 (dgl (s) 5 : Nat), .int .u64 (dgl (s) 6 : Nat), .int .u64 (dgl (s) 7 : Nat)] := hL 49 (by decide +kernel)
      have e50 : ρ (.tmp 50) = .bool more := hL 50 (by decide +kernel)
      have b53 : (bif φ 11 then SlotIs.any  else SlotIs.prec (k 1)).R (ρ (.tmp 53)) W := hL 53 (by decide +kernel)
      rw [hφ0] at b53
      obtain ⟨q53, e53, cc⟩ := b53
      simp [go_sem, hc, hf, e48, e49, e50, e53]
      refine (HCU.out q53 W cc).mono ?_
      rintro e w' ⟨rfl, hb⟩
      exact ⟨_, rfl, by first | exact hb | (subst hb; exact Below.refl _ _), rfl⟩
    refine kSt rfl (fun φ hφ => gStep_run rfl (gRun_move 54 47 (.inl rfl) rfl (by decide +kernel) (fun v w h => h))) ?_
    refine kSt rfl (fun φ hφ => gStep_run rfl ?_) ?_
    · intro ρ W hC hc hf hL
      have e47 : ρ (.tmp 47) = .tuple #[.agg #[.bool (neg), .int .i64 (zc), .int .u64 (dgl (q) 0 : Nat), .int .u64 (dgl (q) 1 : Nat), .int .u64 (dgl (q) 2 : Nat), .int .u64 (dgl (q) 3 : Nat), .int .u64 (dgl (q) 4 : Nat), .int .u64 (dgl (q) 5 : Nat), .int .u64 (dgl (q) 6 : Nat), .int .u64 (dgl (q) 7 : Nat)], .bool false] := hL 47 (by decide +kernel)
      simp [go_sem, hc, hf, e47]
      exact ⟨Below.refl _ _, rfl⟩
    refine kSt rfl (fun φ hφ => gStep_run rfl ?_) ?_
    · intro ρ W hC hc hf hL
      have e47 : ρ (.tmp 47) = .tuple #[.agg #[.bool (neg), .int .i64 (zc), .int .u64 (dgl (q) 0 : Nat), .int .u64 (dgl (q) 1 : Nat), .int .u64 (dgl (q) 2 : Nat), .int .u64 (dgl (q) 3 : Nat), .int .u64 (dgl (q) 4 : Nat), .int .u64 (dgl (q) 5 : Nat), .int .u64 (dgl (q) 6 : Nat), .int .u64 (dgl (q) 7 : Nat)], .bool false] := hL 47 (by decide +kernel)
      simp [go_sem, hc, hf, e47]
      exact ⟨Below.refl _ _, rfl⟩
    refine kSt rfl (fun φ hφ => gStep_run rfl ?_) ?_
    · intro ρ W hC hc hf hL
      have hφ0 : φ 11 = false := hφ 11 (by simp) (by kernel_rfl)
      simp [go_sem, hc, hf]
      refine ⟨below_allocs _ _, ?_⟩
      show (bif φ 11 then SlotIs.nbox (p11 + 1) neg zc q else SlotIs.nbox (p11 + 1) false 0 0).R _ _
      rw [hφ0]
      exact ⟨_, rfl, hC.2.lt, nb_zero _ _, fun i => by simp [go_sem]⟩
    refine kStS rfl ⟨rfl, rfl, ?_⟩ ?_
    · intro φ ρ W hφ hC hc hL
      have b13 := hL 13 (by decide +kernel)
      have e55 : ρ (.tmp 55) = .agg #[.bool (neg), .int .i64 (zc), .int .u64 (dgl (q) 0 : Nat), .int .u64 (dgl (q) 1 : Nat), .int .u64 (dgl (q) 2 : Nat), .int .u64 (dgl (q) 3 : Nat), .int .u64 (dgl (q) 4 : Nat), .int .u64 (dgl (q) 5 : Nat), .int .u64 (dgl (q) 6 : Nat), .int .u64 (dgl (q) 7 : Nat)] := hL 55 (by decide +kernel)
      have bx : (bif φ 11 then SlotIs.nbox (p11 + 1) neg zc q else SlotIs.nbox (p11 + 1) false 0 0).R (ρ (.tmp 13)) W := hL 13 (by decide +kernel)
      rw [hφ] at bx
      obtain ⟨px, ex, qx, lx, zx⟩ := bx
      have yn := lx.n
      have ye := lx.e
      have y0 := lx.x0
      have y1 := lx.x1
      have y2 := lx.x2
      have y3 := lx.x3
      have y4 := lx.x4
      have y5 := lx.x5
      have y6 := lx.x6
      have y7 := lx.x7
      have hzl := lx.lt
      refine gUpon_of ((((((((((W.setCell ⟨px, 0, none⟩ (.bool (neg))).setCell ⟨px, 1, none⟩ (.int .i64 (zc))).setCell ⟨px, 2, none⟩ (.int .u64 (dgl (q) 0 : Nat))).setCell ⟨px, 3, none⟩ (.int .u64 (dgl (q) 1 : Nat))).setCell ⟨px, 4, none⟩ (.int .u64 (dgl (q) 2 : Nat))).setCell ⟨px, 5, none⟩ (.int .u64 (dgl (q) 3 : Nat))).setCell ⟨px, 6, none⟩ (.int .u64 (dgl (q) 4 : Nat))).setCell ⟨px, 7, none⟩ (.int .u64 (dgl (q) 5 : Nat))).setCell ⟨px, 8, none⟩ (.int .u64 (dgl (q) 6 : Nat))).setCell ⟨px, 9, none⟩ (.int .u64 (dgl (q) 7 : Nat))) ?_ (fun _ => ?_)
      · simp [go_sem, hc, e55, ex, hzl, zx, yn, ye, y0, y1, y2, y3, y4, y5, y6, y7, gUpon]
      have hs10 := below_set10 (Below.refl (p11 + 1) W) px qx neg zc q
      refine ⟨⟨hC.1.under hs10 (by omega), hC.2.under hs10 (Nat.lt_succ_self _)⟩, fun t => ?_⟩
      refine (tbl_imp rfl (fun _ => val_imp) (tbl_imp rfl (fun _ => val_imp) (tbl_imp rfl (fun _ => val_imp) (tbl_imp rfl (fun _ => val_imp) (tbl_imp rfl (fun _ => val_imp) (tbl_imp rfl (fun ht h => ?_) (tbl_imp rfl (fun _ => val_imp) (tbl_imp rfl (fun _ => val_imp) (tbl_imp rfl (fun _ => val_imp) (tbl_imp rfl (fun _ => val_imp) (tbl_imp rfl (fun ht h => ?_) (tbl_imp rfl (fun _ => val_imp) tbl_nil_imp))))))))))))
      · subst ht
        show (bif (φ 11 || true) then SlotIs.any else SlotIs.prec (k 1)).R _ _
        rw [Bool.or_true]
        trivial
      · subst ht
        show (bif (φ 11 || true) then SlotIs.nbox (p11 + 1) neg zc q else SlotIs.nbox (p11 + 1) false 0 0).R _ _
        rw [Bool.or_true]
        exact ⟨px, ex, qx, nb_set lx neg zc q, fun i => by simpa [go_sem] using zx i⟩
    refine kSt rfl (fun φ hφ => gStep_run rfl (gRun_move 56 14 (.inr rfl) rfl (by decide +kernel) (fun v w h => h))) ?_
    exact kSt0
  · intro W hC
    refine gFi 48 rfl ?_
    rintro _ rfl
    refine gFi 49 rfl ?_
    rintro _ rfl
    refine gFi 50 rfl ?_
    rintro _ rfl
    refine gFi 51 rfl ?_
    rintro _ rfl
    refine gFi 52 rfl ?_
    rintro _ rfl
    refine gFi 53 rfl ?_
    rintro u53 b53
    refine gFi 54 rfl ?_
    rintro _ rfl
    refine gFi 47 rfl ?_
    rintro _ rfl
    refine gFi 55 rfl ?_
    rintro _ rfl
    refine gFi 56 rfl ?_
    rintro _ rfl
    refine gFi 13 rfl ?_
    rintro u13 b13
    refine gFiN rfl ?_
    refine gFi 14 rfl ?_
    rintro _ rfl
    refine gFi0 ?_
    simp only [List.drop_succ_cons, List.drop_zero, Act.put, List.setIfInBounds_toArray, List.set_cons_succ, List.set_cons_zero]
    obtain ⟨p13, rfl, q13, l13, z13⟩ := b13
    have HS := hide hC.1
    have HK := hide hC.2
    have HN := hide l13
    have HZ := hide z13
    have HQ := hide q13
    clear hC l13 q13 z13 h3 b53
    go_upto_region 8 with fail
    refine wp_gen (fun W => RuSt neg z s w W ∧ CapK p11 k W ∧ NB W p13 neg zc q ∧ ∀ i, W.frozen? ⟨p13, i, none⟩ = false) ⟨HS.out, HK.out, HN.out, HZ.out⟩ ?_
    clear HS HK HN HZ
    rintro W4 h8
    refine wp_region_grow 6 [(58, .val (.agg #[.bool (neg), .int .i64 (zc), .int .u64 (dgl (q) 0 : Nat), .int .u64 (dgl (q) 1 : Nat), .int .u64 (dgl (q) 2 : Nat), .int .u64 (dgl (q) 3 : Nat), .int .u64 (dgl (q) 4 : Nat), .int .u64 (dgl (q) 5 : Nat), .int .u64 (dgl (q) 6 : Nat), .int .u64 (dgl (q) 7 : Nat)])), (59, .val (.int .i64 tp)), (60, .val (.pointer (some ⟨p11, 2, none⟩))), (61, .val (.int .i64 (k 2))), (62, .val (.bool false)), (57, .val (.bool false))]
      (fun W => RuSt neg z s w W ∧ CapK p11 k W ∧ NB W p13 neg zc q ∧ ∀ i, W.frozen? ⟨p13, i, none⟩ = false) mixedOk (by kernel_rfl) (by kernel_rfl) (⟨h8.1.below (Below.refl _ _).drew, h8.2.1.below (Below.refl _ _).drew, h8.2.2.1.below (Below.refl _ _).drew, fun i => ((Below.refl _ _).drew.frozen (p := ⟨p13, i, none⟩) h8.2.2.1.lt).trans (h8.2.2.2 i)⟩) (fun W W' h hb => ⟨h.1.below hb, h.2.1.below hb, h.2.2.1.below hb, fun i => (hb.frozen (p := ⟨p13, i, none⟩) h.2.2.1.lt).trans (h.2.2.2 i)⟩) ?_ ?_
    · refine gSt (gStep_run rfl ?_) ?_
      · intro ρ W hC hc hf hL
        have e13 : ρ (.tmp 13) = .pointer (some ⟨p13, 0, none⟩) := hL 13 (by decide +kernel)
        have yn := hC.2.2.1.n
        have ye := hC.2.2.1.e
        have y0 := hC.2.2.1.x0
        have y1 := hC.2.2.1.x1
        have y2 := hC.2.2.1.x2
        have y3 := hC.2.2.1.x3
        have y4 := hC.2.2.1.x4
        have y5 := hC.2.2.1.x5
        have y6 := hC.2.2.1.x6
        have y7 := hC.2.2.1.x7
        simp [go_sem, hc, hf, e13, yn, ye, y0, y1, y2, y3, y4, y5, y6, y7]
        exact ⟨Below.refl _ _, rfl⟩
      refine gSt (gStep_run rfl ?_) ?_
      · intro ρ W hC hc hf hL
        have e58 : ρ (.tmp 58) = .agg #[.bool (neg), .int .i64 (zc), .int .u64 (dgl (q) 0 : Nat), .int .u64 (dgl (q) 1 : Nat), .int .u64 (dgl (q) 2 : Nat), .int .u64 (dgl (q) 3 : Nat), .int .u64 (dgl (q) 4 : Nat), .int .u64 (dgl (q) 5 : Nat), .int .u64 (dgl (q) 6 : Nat), .int .u64 (dgl (q) 7 : Nat)] := hL 58 (by decide +kernel)
        simp [go_sem, hc, hf, e58]
        refine (HTP.out W).mono ?_
        rintro e w' ⟨rfl, hb⟩
        exact ⟨_, rfl, by first | exact hb | (subst hb; exact Below.refl _ _), rfl⟩
      refine gSt (gStep_run rfl ?_) ?_
      · intro ρ W hC hc hf hL
        have e11 : ρ (.tmp 11) = .pointer (some ⟨p11, 0, none⟩) := hL 11 (by decide +kernel)
        simp [go_sem, hc, hf, e11]
        exact ⟨Below.refl _ _, rfl⟩
      refine gSt (gStep_run rfl ?_) ?_
      · intro ρ W hC hc hf hL
        have e60 : ρ (.tmp 60) = .pointer (some ⟨p11, 2, none⟩) := hL 60 (by decide +kernel)
        have hk := hC.2.1.c 2 (by decide)
        simp [go_sem, hc, hf, e60, hk]
        exact ⟨Below.refl _ _, rfl⟩
      refine gSt (gStep_run rfl ?_) ?_
      · intro ρ W hC hc hf hL
        have e59 : ρ (.tmp 59) = .int .i64 tp := hL 59 (by decide +kernel)
        have e61 : ρ (.tmp 61) = .int .i64 (k 2) := hL 61 (by decide +kernel)
        have hg2 : decide (k 2 < tp) = false := decide_eq_false (by omega)
        simp [go_sem, hc, hf, e59, e61, hg2, hgt]
        exact ⟨Below.refl _ _, rfl⟩
      refine gSt (gStep_run rfl (gRun_move 62 57 (.inr rfl) rfl (by decide +kernel) (fun v w h => h))) ?_
      exact gSt0
    · intro W hC
      refine gFi 58 rfl ?_
      rintro _ rfl
      refine gFi 59 rfl ?_
      rintro _ rfl
      refine gFi 60 rfl ?_
      rintro _ rfl
      refine gFi 61 rfl ?_
      rintro _ rfl
      refine gFi 62 rfl ?_
      rintro _ rfl
      refine gFi 57 rfl ?_
      rintro _ rfl
      refine gFi0 ?_
      simp only [List.drop_succ_cons, List.drop_zero, Act.put, List.setIfInBounds_toArray, List.set_cons_succ, List.set_cons_zero]
      have HS := hide hC.1
      have HK := hide hC.2.1
      have HN := hide hC.2.2.1
      have HZ := hide hC.2.2.2
      clear hC h8
      go_upto_region 10 with fail
      refine wp_gen (fun W => RuSt neg z s w W ∧ CapK p11 k W ∧ NB W p13 neg zc q ∧ ∀ i, W.frozen? ⟨p13, i, none⟩ = false) ⟨HS.out, HK.out, HN.out, HZ.out⟩ ?_
      clear HS HK HN HZ
      rintro W5 h10
      refine wp_region_grow 6 [(69, .val (.agg #[.bool (neg), .int .i64 (zc), .int .u64 (dgl (q) 0 : Nat), .int .u64 (dgl (q) 1 : Nat), .int .u64 (dgl (q) 2 : Nat), .int .u64 (dgl (q) 3 : Nat), .int .u64 (dgl (q) 4 : Nat), .int .u64 (dgl (q) 5 : Nat), .int .u64 (dgl (q) 6 : Nat), .int .u64 (dgl (q) 7 : Nat)])), (70, .val (.int .i64 tp)), (71, .val (.pointer (some ⟨p11, 3, none⟩))), (72, .val (.int .i64 (k 3))), (73, .val (.bool false)), (68, .val (.bool false))]
        (fun W => RuSt neg z s w W ∧ CapK p11 k W ∧ NB W p13 neg zc q ∧ ∀ i, W.frozen? ⟨p13, i, none⟩ = false) mixedOk (by kernel_rfl) (by kernel_rfl) (⟨h10.1.below (Below.refl _ _).drew, h10.2.1.below (Below.refl _ _).drew, h10.2.2.1.below (Below.refl _ _).drew, fun i => ((Below.refl _ _).drew.frozen (p := ⟨p13, i, none⟩) h10.2.2.1.lt).trans (h10.2.2.2 i)⟩) (fun W W' h hb => ⟨h.1.below hb, h.2.1.below hb, h.2.2.1.below hb, fun i => (hb.frozen (p := ⟨p13, i, none⟩) h.2.2.1.lt).trans (h.2.2.2 i)⟩) ?_ ?_
      · refine gSt (gStep_run rfl ?_) ?_
        · intro ρ W hC hc hf hL
          have e13 : ρ (.tmp 13) = .pointer (some ⟨p13, 0, none⟩) := hL 13 (by decide +kernel)
          have yn := hC.2.2.1.n
          have ye := hC.2.2.1.e
          have y0 := hC.2.2.1.x0
          have y1 := hC.2.2.1.x1
          have y2 := hC.2.2.1.x2
          have y3 := hC.2.2.1.x3
          have y4 := hC.2.2.1.x4
          have y5 := hC.2.2.1.x5
          have y6 := hC.2.2.1.x6
          have y7 := hC.2.2.1.x7
          simp [go_sem, hc, hf, e13, yn, ye, y0, y1, y2, y3, y4, y5, y6, y7]
          exact ⟨Below.refl _ _, rfl⟩
        refine gSt (gStep_run rfl ?_) ?_
        · intro ρ W hC hc hf hL
          have e69 : ρ (.tmp 69) = .agg #[.bool (neg), .int .i64 (zc), .int .u64 (dgl (q) 0 : Nat), .int .u64 (dgl (q) 1 : Nat), .int .u64 (dgl (q) 2 : Nat), .int .u64 (dgl (q) 3 : Nat), .int .u64 (dgl (q) 4 : Nat), .int .u64 (dgl (q) 5 : Nat), .int .u64 (dgl (q) 6 : Nat), .int .u64 (dgl (q) 7 : Nat)] := hL 69 (by decide +kernel)
          simp [go_sem, hc, hf, e69]
          refine (HTP.out W).mono ?_
          rintro e w' ⟨rfl, hb⟩
          exact ⟨_, rfl, by first | exact hb | (subst hb; exact Below.refl _ _), rfl⟩
        refine gSt (gStep_run rfl ?_) ?_
        · intro ρ W hC hc hf hL
          have e11 : ρ (.tmp 11) = .pointer (some ⟨p11, 0, none⟩) := hL 11 (by decide +kernel)
          simp [go_sem, hc, hf, e11]
          exact ⟨Below.refl _ _, rfl⟩
        refine gSt (gStep_run rfl ?_) ?_
        · intro ρ W hC hc hf hL
          have e71 : ρ (.tmp 71) = .pointer (some ⟨p11, 3, none⟩) := hL 71 (by decide +kernel)
          have hk := hC.2.1.c 3 (by decide)
          simp [go_sem, hc, hf, e71, hk]
          exact ⟨Below.refl _ _, rfl⟩
        refine gSt (gStep_run rfl ?_) ?_
        · intro ρ W hC hc hf hL
          have e70 : ρ (.tmp 70) = .int .i64 tp := hL 70 (by decide +kernel)
          have e72 : ρ (.tmp 72) = .int .i64 (k 3) := hL 72 (by decide +kernel)
          have hg3 : decide (tp < k 3) = false := decide_eq_false (by omega)
          simp [go_sem, hc, hf, e70, e72, hg3, hlt3]
          exact ⟨Below.refl _ _, rfl⟩
        refine gSt (gStep_run rfl (gRun_move 73 68 (.inr rfl) rfl (by decide +kernel) (fun v w h => h))) ?_
        exact gSt0
      · intro W hC
        refine gFi 69 rfl ?_
        rintro _ rfl
        refine gFi 70 rfl ?_
        rintro _ rfl
        refine gFi 71 rfl ?_
        rintro _ rfl
        refine gFi 72 rfl ?_
        rintro _ rfl
        refine gFi 73 rfl ?_
        rintro _ rfl
        refine gFi 68 rfl ?_
        rintro _ rfl
        refine gFi0 ?_
        simp only [List.drop_succ_cons, List.drop_zero, Act.put, List.setIfInBounds_toArray, List.set_cons_succ, List.set_cons_zero]
        have HS := hide hC.1
        have HK := hide hC.2.1
        have HN := hide hC.2.2.1
        have HZ := hide hC.2.2.2
        clear hC h10
        have yn := HN.out.n
        have ye := HN.out.e
        have y0 := HN.out.x0
        have y1 := HN.out.x1
        have y2 := HN.out.x2
        have y3 := HN.out.x3
        have y4 := HN.out.x4
        have y5 := HN.out.x5
        have y6 := HN.out.x6
        have y7 := HN.out.x7
        go_wp2_with fail
        refine (HEX.out _ HS.out.g).mono ?_
        rintro e w8 ⟨rfl, hb8⟩
        replace HS := hide (HS.out.below hb8)
        clear hb8 HN yn ye y0 y1 y2 y3 y4 y5 y6 y7
        go_upto_region 16 with fail
        refine wp_gen (fun W => RuSt neg z s w W ∧ WB W w8.heap.size (dgl a 1) (dgl a 0)) ⟨HS.out.below (below_allocs _ _), wb_new2 _ _ _ _⟩ ?_
        clear HS
        generalize w8.heap.size = p16 at *
        rintro W9 ⟨g1, g2⟩
        have HS := hide g1
        have ah := g2.h
        have al := g2.l
        clear g1 g2
        have rh := HS.out.r.h
        have rl := HS.out.r.l
        have hrf := HS.out.fr
        have hlt := HS.out.lt
        have HB := hide HS.out.bel
        clear HS
        go_wp2
        exact bodyPost_ret (v := .tuple #[.agg #[.int .u64 (dgl (a) 1 : Nat), .int .u64 (dgl (a) 0 : Nat)], .int .i64 0, .int .i64 0]) (by simp [results, Tryz.results4, go_sem, hlt, rh, rl]) rfl ⟨rfl, (HB.out.setCell (p := ⟨w.heap.size + 1, 0, none⟩) (Nat.le_succ _) _).setCell (p := ⟨w.heap.size + 1, 1, none⟩) (Nat.le_succ _) _⟩
        
      
    

set_option maxHeartbeats 8000000 in
theorem round_N1 (f m z zc zd tp : Int) (neg more off ok2 : Bool) (k : Nat → Int) (s q q2 a : Nat)
    (HO : Hid (∀ w, FmtG w → Calls Tryz.prog 15 #[.int .i64 f] w fun e w' => e = .returned (.tuple #[.agg #[.int .i64 (k 0), .int .i64 (k 1), .int .i64 (k 2), .int .i64 (k 3), .int .i64 (k 4)], .bool true]) ∧ Below w.heap.size w w'))
    (HIS : Hid (∀ w, Calls Tryz.prog 16 #[.int .i64 m] w fun e w' => e = .returned (.bool true) ∧ w' = w))
    (HRI : Hid (∀ w, Calls Tryz.prog 17 #[.int .i64 (k 1), .agg #[.bool (neg), .int .i64 (z), .int .u64 (dgl (s) 0 : Nat), .int .u64 (dgl (s) 1 : Nat), .int .u64 (dgl (s) 2 : Nat), .int .u64 (dgl (s) 3 : Nat), .int .u64 (dgl (s) 4 : Nat), .int .u64 (dgl (s) 5 : Nat), .int .u64 (dgl (s) 6 : Nat), .int .u64 (dgl (s) 7 : Nat)], .bool more] w fun e w' => e = .returned (.bool true) ∧ Below w.heap.size w w'))
    (hz : ∀ w, (Op.equalIn 10000 25 (.agg #[.int .u64 (dgl (s) 0 : Nat), .int .u64 (dgl (s) 1 : Nat), .int .u64 (dgl (s) 2 : Nat), .int .u64 (dgl (s) 3 : Nat), .int .u64 (dgl (s) 4 : Nat), .int .u64 (dgl (s) 5 : Nat), .int .u64 (dgl (s) 6 : Nat), .int .u64 (dgl (s) 7 : Nat)]) (.agg #[.int .u64 0, .int .u64 0, .int .u64 0, .int .u64 0, .int .u64 0, .int .u64 0, .int .u64 0, .int .u64 0])).run Tryz.prog w = .ok false w)
    (HCU : Hid (∀ c w, CapP c (k 1) w → Calls Tryz.prog 19 #[.int .i64 m, .agg #[.bool (neg), .int .i64 (z), .int .u64 (dgl (s) 0 : Nat), .int .u64 (dgl (s) 1 : Nat), .int .u64 (dgl (s) 2 : Nat), .int .u64 (dgl (s) 3 : Nat), .int .u64 (dgl (s) 4 : Nat), .int .u64 (dgl (s) 5 : Nat), .int .u64 (dgl (s) 6 : Nat), .int .u64 (dgl (s) 7 : Nat)], .bool more, precV c] w fun e w' => e = .returned (.tuple #[.agg #[.bool (neg), .int .i64 (zc), .int .u64 (dgl (q) 0 : Nat), .int .u64 (dgl (q) 1 : Nat), .int .u64 (dgl (q) 2 : Nat), .int .u64 (dgl (q) 3 : Nat), .int .u64 (dgl (q) 4 : Nat), .int .u64 (dgl (q) 5 : Nat), .int .u64 (dgl (q) 6 : Nat), .int .u64 (dgl (q) 7 : Nat)], .bool true]) ∧ Below w.heap.size w w'))
    (HTP : Hid (∀ w, Calls Tryz.prog 21 #[.agg #[.bool (neg), .int .i64 (zc), .int .u64 (dgl (q) 0 : Nat), .int .u64 (dgl (q) 1 : Nat), .int .u64 (dgl (q) 2 : Nat), .int .u64 (dgl (q) 3 : Nat), .int .u64 (dgl (q) 4 : Nat), .int .u64 (dgl (q) 5 : Nat), .int .u64 (dgl (q) 6 : Nat), .int .u64 (dgl (q) 7 : Nat)]] w fun e w' => e = .returned (.int .i64 tp) ∧ Below w.heap.size w w'))
    (hgt : ¬ k 2 < tp)
    (hlt3 : ¬ tp < k 3)
    (HEX : Hid (∀ w, FmtG w → Calls Tryz.prog 24 #[.int .i64 f, .agg #[.bool (neg), .int .i64 (zc), .int .u64 (dgl (q) 0 : Nat), .int .u64 (dgl (q) 1 : Nat), .int .u64 (dgl (q) 2 : Nat), .int .u64 (dgl (q) 3 : Nat), .int .u64 (dgl (q) 4 : Nat), .int .u64 (dgl (q) 5 : Nat), .int .u64 (dgl (q) 6 : Nat), .int .u64 (dgl (q) 7 : Nat)]] w fun e w' => e = .returned (.tuple #[.agg #[.int .u64 (dgl (a) 1 : Nat), .int .u64 (dgl (a) 0 : Nat)], .bool ok2]) ∧ Below w.heap.size w w')) (w : World) (hg : FmtG w) :
    Calls Tryz.prog 4 #[.int .i64 f, .int .i64 m, .agg #[.bool (neg), .int .i64 (z), .int .u64 (dgl (s) 0 : Nat), .int .u64 (dgl (s) 1 : Nat), .int .u64 (dgl (s) 2 : Nat), .int .u64 (dgl (s) 3 : Nat), .int .u64 (dgl (s) 4 : Nat), .int .u64 (dgl (s) 5 : Nat), .int .u64 (dgl (s) 6 : Nat), .int .u64 (dgl (s) 7 : Nat)], .bool more] w fun e w' => e = .returned (.tuple #[.agg #[.int .u64 (dgl (a) 1 : Nat), .int .u64 (dgl (a) 0 : Nat)], .int .i64 16, .int .i64 0]) ∧ Below w.heap.size w w' := by
  have HS := hide (ruSt_start neg z s w hg)
  clear hg
  go_enter Tryz.func4, Tryz.ntmps4
  go_upto_region 1 with fail
  refine wp_gen (fun W => RuSt neg z s w W) HS.out ?_
  clear HS
  rintro W1 h1
  have HS := hide h1
  clear h1
  go_wp2_with fail
  refine (HO.out _ HS.out.g).mono ?_
  rintro e w1 ⟨rfl, hb1⟩
  replace HS := hide (HS.out.below hb1)
  clear hb1
  go_upto_region 2 with fail
  refine wp_gen (fun W => RuSt neg z s w W ∧ CapK w1.heap.size k W) ⟨HS.out.below (below_allocs _ _), capK_new _ _ _⟩ ?_
  have HP := hide (show w.heap.size + 1 + 1 ≤ w1.heap.size from HS.out.lt)
  clear HS
  generalize w1.heap.size = p11 at *
  rintro W2 ⟨g1, g2⟩
  have HS := hide g1
  have HK := hide g2
  clear g1 g2
  go_wp2_with fail
  refine (HIS.out _).mono ?_
  rintro e wl ⟨rfl, hw⟩
  subst wl
  have ln := HS.out.n.n
  have le := HS.out.n.e
  have l0 := HS.out.n.x0
  have l1 := HS.out.n.x1
  have l2 := HS.out.n.x2
  have l3 := HS.out.n.x3
  have l4 := HS.out.n.x4
  have l5 := HS.out.n.x5
  have l6 := HS.out.n.x6
  have l7 := HS.out.n.x7
  have hk1 := HK.out.c 1 (by decide)
  go_wp2_with fail
  refine (HRI.out _).mono ?_
  rintro e w2 ⟨rfl, hb2⟩
  replace HS := hide (HS.out.below hb2)
  replace HK := hide (HK.out.below hb2)
  clear hb2 hk1 ln le l0 l1 l2 l3 l4 l5 l6 l7
  have ln := HS.out.n.n
  have le := HS.out.n.e
  have l0 := HS.out.n.x0
  have l1 := HS.out.n.x1
  have l2 := HS.out.n.x2
  have l3 := HS.out.n.x3
  have l4 := HS.out.n.x4
  have l5 := HS.out.n.x5
  have l6 := HS.out.n.x6
  have l7 := HS.out.n.x7
  go_upto_region 6 with fail
  refine wp_gen (fun W => RuSt neg z s w W ∧ CapK p11 k W) ⟨HS.out, HK.out⟩ ?_
  clear HS HK ln le l0 l1 l2 l3 l4 l5 l6 l7
  have hp11 := HP.out
  rintro W3 h3
  refine wp_region_storeK 13 [11] [48, 49, 50, 51, 52, 53, 54, 47, 55, 56, 13, 14] (fun bs => [(48, .val (.int .i64 m)), (49, .val (.agg #[.bool (neg), .int .i64 (z), .int .u64 (dgl (s) 0 : Nat), .int .u64 (dgl (s) 1 : Nat), .int .u64 (dgl (s) 2 : Nat), .int .u64 (dgl (s) 3 : Nat), .int .u64 (dgl (s) 4 : Nat), .int .u64 (dgl (s) 5 : Nat), .int .u64 (dgl (s) 6 : Nat), .int .u64 (dgl (s) 7 : Nat)])), (50, .val (.bool more)), (51, .val (.pointer (some ⟨p11, 1, none⟩))), (52, .val (.int .i64 (k 1))), (53, bif bs.headD false then SlotIs.any  else SlotIs.prec (k 1)), (54, .val (.tuple #[.agg #[.bool (neg), .int .i64 (zc), .int .u64 (dgl (q) 0 : Nat), .int .u64 (dgl (q) 1 : Nat), .int .u64 (dgl (q) 2 : Nat), .int .u64 (dgl (q) 3 : Nat), .int .u64 (dgl (q) 4 : Nat), .int .u64 (dgl (q) 5 : Nat), .int .u64 (dgl (q) 6 : Nat), .int .u64 (dgl (q) 7 : Nat)], .bool true])), (47, .val (.tuple #[.agg #[.bool (neg), .int .i64 (zc), .int .u64 (dgl (q) 0 : Nat), .int .u64 (dgl (q) 1 : Nat), .int .u64 (dgl (q) 2 : Nat), .int .u64 (dgl (q) 3 : Nat), .int .u64 (dgl (q) 4 : Nat), .int .u64 (dgl (q) 5 : Nat), .int .u64 (dgl (q) 6 : Nat), .int .u64 (dgl (q) 7 : Nat)], .bool true])), (55, .val (.agg #[.bool (neg), .int .i64 (zc), .int .u64 (dgl (q) 0 : Nat), .int .u64 (dgl (q) 1 : Nat), .int .u64 (dgl (q) 2 : Nat), .int .u64 (dgl (q) 3 : Nat), .int .u64 (dgl (q) 4 : Nat), .int .u64 (dgl (q) 5 : Nat), .int .u64 (dgl (q) 6 : Nat), .int .u64 (dgl (q) 7 : Nat)])), (56, .val (.bool true)), (13, bif bs.headD false then SlotIs.nbox (p11 + 1) neg zc q else SlotIs.nbox (p11 + 1) false 0 0), (14, .val (.bool true))])
    (fun _ W => RuSt neg z s w W ∧ CapK p11 k W) (fun bs => rfl) mixedOk (by kernel_rfl) (by kernel_rfl) (by kernel_rfl) (⟨h3.1.below (Below.refl _ _).drew, h3.2.below (Below.refl _ _).drew⟩) (fun bs W W' h hb => ⟨h.1.below hb, h.2.below hb⟩) ?_ ?_
  · refine kSt rfl (fun φ hφ => gStep_run rfl (gRun_move 1 48 (.inl rfl) rfl (by decide +kernel) (fun v w h => h))) ?_
    refine kSt rfl (fun φ hφ => gStep_run rfl ?_) ?_
    · intro ρ W hC hc hf hL
      have e6 : ρ (.tmp 6) = .pointer (some ⟨w.heap.size, 0, none⟩) := hL 6 (by decide +kernel)
      have ln := hC.1.n.n
      have le := hC.1.n.e
      have l0 := hC.1.n.x0
      have l1 := hC.1.n.x1
      have l2 := hC.1.n.x2
      have l3 := hC.1.n.x3
      have l4 := hC.1.n.x4
      have l5 := hC.1.n.x5
      have l6 := hC.1.n.x6
      have l7 := hC.1.n.x7
      simp [go_sem, hc, hf, e6, ln, le, l0, l1, l2, l3, l4, l5, l6, l7]
      exact ⟨Below.refl _ _, rfl⟩
    refine kSt rfl (fun φ hφ => gStep_run rfl (gRun_move 3 50 (.inl rfl) rfl (by decide +kernel) (fun v w h => h))) ?_
    refine kSt rfl (fun φ hφ => gStep_run rfl ?_) ?_
    · intro ρ W hC hc hf hL
      have e11 : ρ (.tmp 11) = .pointer (some ⟨p11, 0, none⟩) := hL 11 (by decide +kernel)
      simp [go_sem, hc, hf, e11]
      exact ⟨Below.refl _ _, rfl⟩
    refine kSt rfl (fun φ hφ => gStep_run rfl ?_) ?_
    · intro ρ W hC hc hf hL
      have e51 : ρ (.tmp 51) = .pointer (some ⟨p11, 1, none⟩) := hL 51 (by decide +kernel)
      have hk1 := hC.2.c 1 (by decide)
      simp [go_sem, hc, hf, e51, hk1]
      exact ⟨Below.refl _ _, rfl⟩
    refine kSt rfl (fun φ hφ => gStep_run rfl ?_) ?_
    · intro ρ W hC hc hf hL
      have hφ0 : φ 11 = false := hφ 11 (by simp) (by kernel_rfl)
      have e52 : ρ (.tmp 52) = .int .i64 (k 1) := hL 52 (by decide +kernel)
      simp [go_sem, hc, hf, e52]
      refine (precise_any _ W).mono ?_
      rintro e w' ⟨rfl, hc2, hb⟩
      refine ⟨_, rfl, hb, ?_⟩
      show (bif φ 11 then SlotIs.any else SlotIs.prec (k 1)).R _ _
      rw [hφ0]
      exact ⟨_, rfl, hc2⟩
    refine kSt rfl (fun φ hφ => gStep_run rfl ?_) ?_
    · intro ρ W hC hc hf hL
      have hφ0 : φ 11 = false := hφ 11 (by simp) (by kernel_rfl)
      have e48 : ρ (.tmp 48) = .int .i64 m := hL 48 (by decide +kernel)
      have e49 : ρ (.tmp 49) = .agg #[.bool (neg), .int .i64 (z), .int .u64 (dgl (s) 0 : Nat), .int .u64 (dgl (s) 1 : Nat), .int .u64 (dgl (s) 2 : Nat), .int .u64 (dgl (s) 3 : Nat), .int .u64 (dgl (s) 4 : Nat), .int .u64 (dgl (s) 5 : Nat), .int .u64 (dgl (s) 6 : Nat), .int .u64 (dgl (s) 7 : Nat)] := hL 49 (by decide +kernel)
      have e50 : ρ (.tmp 50) = .bool more := hL 50 (by decide +kernel)
      have b53 : (bif φ 11 then SlotIs.any  else SlotIs.prec (k 1)).R (ρ (.tmp 53)) W := hL 53 (by decide +kernel)
      rw [hφ0] at b53
      obtain ⟨q53, e53, cc⟩ := b53
      simp [go_sem, hc, hf, e48, e49, e50, e53]
      refine (HCU.out q53 W cc).mono ?_
      rintro e w' ⟨rfl, hb⟩
      exact ⟨_, rfl, by first | exact hb | (subst hb; exact Below.refl _ _), rfl⟩
    refine kSt rfl (fun φ hφ => gStep_run rfl (gRun_move 54 47 (.inl rfl) rfl (by decide +kernel) (fun v w h => h))) ?_
    refine kSt rfl (fun φ hφ => gStep_run rfl ?_) ?_
    · intro ρ W hC hc hf hL
      have e47 : ρ (.tmp 47) = .tuple #[.agg #[.bool (neg), .int .i64 (zc), .int .u64 (dgl (q) 0 : Nat), .int .u64 (dgl (q) 1 : Nat), .int .u64 (dgl (q) 2 : Nat), .int .u64 (dgl (q) 3 : Nat), .int .u64 (dgl (q) 4 : Nat), .int .u64 (dgl (q) 5 : Nat), .int .u64 (dgl (q) 6 : Nat), .int .u64 (dgl (q) 7 : Nat)], .bool true] := hL 47 (by decide +kernel)
      simp [go_sem, hc, hf, e47]
      exact ⟨Below.refl _ _, rfl⟩
    refine kSt rfl (fun φ hφ => gStep_run rfl ?_) ?_
    · intro ρ W hC hc hf hL
      have e47 : ρ (.tmp 47) = .tuple #[.agg #[.bool (neg), .int .i64 (zc), .int .u64 (dgl (q) 0 : Nat), .int .u64 (dgl (q) 1 : Nat), .int .u64 (dgl (q) 2 : Nat), .int .u64 (dgl (q) 3 : Nat), .int .u64 (dgl (q) 4 : Nat), .int .u64 (dgl (q) 5 : Nat), .int .u64 (dgl (q) 6 : Nat), .int .u64 (dgl (q) 7 : Nat)], .bool true] := hL 47 (by decide +kernel)
      simp [go_sem, hc, hf, e47]
      exact ⟨Below.refl _ _, rfl⟩
    refine kSt rfl (fun φ hφ => gStep_run rfl ?_) ?_
    · intro ρ W hC hc hf hL
      have hφ0 : φ 11 = false := hφ 11 (by simp) (by kernel_rfl)
      simp [go_sem, hc, hf]
      refine ⟨below_allocs _ _, ?_⟩
      show (bif φ 11 then SlotIs.nbox (p11 + 1) neg zc q else SlotIs.nbox (p11 + 1) false 0 0).R _ _
      rw [hφ0]
      exact ⟨_, rfl, hC.2.lt, nb_zero _ _, fun i => by simp [go_sem]⟩
    refine kStS rfl ⟨rfl, rfl, ?_⟩ ?_
    · intro φ ρ W hφ hC hc hL
      have b13 := hL 13 (by decide +kernel)
      have e55 : ρ (.tmp 55) = .agg #[.bool (neg), .int .i64 (zc), .int .u64 (dgl (q) 0 : Nat), .int .u64 (dgl (q) 1 : Nat), .int .u64 (dgl (q) 2 : Nat), .int .u64 (dgl (q) 3 : Nat), .int .u64 (dgl (q) 4 : Nat), .int .u64 (dgl (q) 5 : Nat), .int .u64 (dgl (q) 6 : Nat), .int .u64 (dgl (q) 7 : Nat)] := hL 55 (by decide +kernel)
      have bx : (bif φ 11 then SlotIs.nbox (p11 + 1) neg zc q else SlotIs.nbox (p11 + 1) false 0 0).R (ρ (.tmp 13)) W := hL 13 (by decide +kernel)
      rw [hφ] at bx
      obtain ⟨px, ex, qx, lx, zx⟩ := bx
      have yn := lx.n
      have ye := lx.e
      have y0 := lx.x0
      have y1 := lx.x1
      have y2 := lx.x2
      have y3 := lx.x3
      have y4 := lx.x4
      have y5 := lx.x5
      have y6 := lx.x6
      have y7 := lx.x7
      have hzl := lx.lt
      refine gUpon_of ((((((((((W.setCell ⟨px, 0, none⟩ (.bool (neg))).setCell ⟨px, 1, none⟩ (.int .i64 (zc))).setCell ⟨px, 2, none⟩ (.int .u64 (dgl (q) 0 : Nat))).setCell ⟨px, 3, none⟩ (.int .u64 (dgl (q) 1 : Nat))).setCell ⟨px, 4, none⟩ (.int .u64 (dgl (q) 2 : Nat))).setCell ⟨px, 5, none⟩ (.int .u64 (dgl (q) 3 : Nat))).setCell ⟨px, 6, none⟩ (.int .u64 (dgl (q) 4 : Nat))).setCell ⟨px, 7, none⟩ (.int .u64 (dgl (q) 5 : Nat))).setCell ⟨px, 8, none⟩ (.int .u64 (dgl (q) 6 : Nat))).setCell ⟨px, 9, none⟩ (.int .u64 (dgl (q) 7 : Nat))) ?_ (fun _ => ?_)
      · simp [go_sem, hc, e55, ex, hzl, zx, yn, ye, y0, y1, y2, y3, y4, y5, y6, y7, gUpon]
      have hs10 := below_set10 (Below.refl (p11 + 1) W) px qx neg zc q
      refine ⟨⟨hC.1.under hs10 (by omega), hC.2.under hs10 (Nat.lt_succ_self _)⟩, fun t => ?_⟩
      refine (tbl_imp rfl (fun _ => val_imp) (tbl_imp rfl (fun _ => val_imp) (tbl_imp rfl (fun _ => val_imp) (tbl_imp rfl (fun _ => val_imp) (tbl_imp rfl (fun _ => val_imp) (tbl_imp rfl (fun ht h => ?_) (tbl_imp rfl (fun _ => val_imp) (tbl_imp rfl (fun _ => val_imp) (tbl_imp rfl (fun _ => val_imp) (tbl_imp rfl (fun _ => val_imp) (tbl_imp rfl (fun ht h => ?_) (tbl_imp rfl (fun _ => val_imp) tbl_nil_imp))))))))))))
      · subst ht
        show (bif (φ 11 || true) then SlotIs.any else SlotIs.prec (k 1)).R _ _
        rw [Bool.or_true]
        trivial
      · subst ht
        show (bif (φ 11 || true) then SlotIs.nbox (p11 + 1) neg zc q else SlotIs.nbox (p11 + 1) false 0 0).R _ _
        rw [Bool.or_true]
        exact ⟨px, ex, qx, nb_set lx neg zc q, fun i => by simpa [go_sem] using zx i⟩
    refine kSt rfl (fun φ hφ => gStep_run rfl (gRun_move 56 14 (.inr rfl) rfl (by decide +kernel) (fun v w h => h))) ?_
    exact kSt0
  · intro W hC
    refine gFi 48 rfl ?_
    rintro _ rfl
    refine gFi 49 rfl ?_
    rintro _ rfl
    refine gFi 50 rfl ?_
    rintro _ rfl
    refine gFi 51 rfl ?_
    rintro _ rfl
    refine gFi 52 rfl ?_
    rintro _ rfl
    refine gFi 53 rfl ?_
    rintro u53 b53
    refine gFi 54 rfl ?_
    rintro _ rfl
    refine gFi 47 rfl ?_
    rintro _ rfl
    refine gFi 55 rfl ?_
    rintro _ rfl
    refine gFi 56 rfl ?_
    rintro _ rfl
    refine gFi 13 rfl ?_
    rintro u13 b13
    refine gFiN rfl ?_
    refine gFi 14 rfl ?_
    rintro _ rfl
    refine gFi0 ?_
    simp only [List.drop_succ_cons, List.drop_zero, Act.put, List.setIfInBounds_toArray, List.set_cons_succ, List.set_cons_zero]
    obtain ⟨p13, rfl, q13, l13, z13⟩ := b13
    have HS := hide hC.1
    have HK := hide hC.2
    have HN := hide l13
    have HZ := hide z13
    have HQ := hide q13
    clear hC l13 q13 z13 h3 b53
    go_upto_region 8 with fail
    refine wp_gen (fun W => RuSt neg z s w W ∧ CapK p11 k W ∧ NB W p13 neg zc q ∧ ∀ i, W.frozen? ⟨p13, i, none⟩ = false) ⟨HS.out, HK.out, HN.out, HZ.out⟩ ?_
    clear HS HK HN HZ
    rintro W4 h8
    refine wp_region_grow 6 [(58, .val (.agg #[.bool (neg), .int .i64 (zc), .int .u64 (dgl (q) 0 : Nat), .int .u64 (dgl (q) 1 : Nat), .int .u64 (dgl (q) 2 : Nat), .int .u64 (dgl (q) 3 : Nat), .int .u64 (dgl (q) 4 : Nat), .int .u64 (dgl (q) 5 : Nat), .int .u64 (dgl (q) 6 : Nat), .int .u64 (dgl (q) 7 : Nat)])), (59, .val (.int .i64 tp)), (60, .val (.pointer (some ⟨p11, 2, none⟩))), (61, .val (.int .i64 (k 2))), (62, .val (.bool false)), (57, .val (.bool false))]
      (fun W => RuSt neg z s w W ∧ CapK p11 k W ∧ NB W p13 neg zc q ∧ ∀ i, W.frozen? ⟨p13, i, none⟩ = false) mixedOk (by kernel_rfl) (by kernel_rfl) (⟨h8.1.below (Below.refl _ _).drew, h8.2.1.below (Below.refl _ _).drew, h8.2.2.1.below (Below.refl _ _).drew, fun i => ((Below.refl _ _).drew.frozen (p := ⟨p13, i, none⟩) h8.2.2.1.lt).trans (h8.2.2.2 i)⟩) (fun W W' h hb => ⟨h.1.below hb, h.2.1.below hb, h.2.2.1.below hb, fun i => (hb.frozen (p := ⟨p13, i, none⟩) h.2.2.1.lt).trans (h.2.2.2 i)⟩) ?_ ?_
    · refine gSt (gStep_run rfl ?_) ?_
      · intro ρ W hC hc hf hL
        have e13 : ρ (.tmp 13) = .pointer (some ⟨p13, 0, none⟩) := hL 13 (by decide +kernel)
        have yn := hC.2.2.1.n
        have ye := hC.2.2.1.e
        have y0 := hC.2.2.1.x0
        have y1 := hC.2.2.1.x1
        have y2 := hC.2.2.1.x2
        have y3 := hC.2.2.1.x3
        have y4 := hC.2.2.1.x4
        have y5 := hC.2.2.1.x5
        have y6 := hC.2.2.1.x6
        have y7 := hC.2.2.1.x7
        simp [go_sem, hc, hf, e13, yn, ye, y0, y1, y2, y3, y4, y5, y6, y7]
        exact ⟨Below.refl _ _, rfl⟩
      refine gSt (gStep_run rfl ?_) ?_
      · intro ρ W hC hc hf hL
        have e58 : ρ (.tmp 58) = .agg #[.bool (neg), .int .i64 (zc), .int .u64 (dgl (q) 0 : Nat), .int .u64 (dgl (q) 1 : Nat), .int .u64 (dgl (q) 2 : Nat), .int .u64 (dgl (q) 3 : Nat), .int .u64 (dgl (q) 4 : Nat), .int .u64 (dgl (q) 5 : Nat), .int .u64 (dgl (q) 6 : Nat), .int .u64 (dgl (q) 7 : Nat)] := hL 58 (by decide +kernel)
        simp [go_sem, hc, hf, e58]
        refine (HTP.out W).mono ?_
        rintro e w' ⟨rfl, hb⟩
        exact ⟨_, rfl, by first | exact hb | (subst hb; exact Below.refl _ _), rfl⟩
      refine gSt (gStep_run rfl ?_) ?_
      · intro ρ W hC hc hf hL
        have e11 : ρ (.tmp 11) = .pointer (some ⟨p11, 0, none⟩) := hL 11 (by decide +kernel)
        simp [go_sem, hc, hf, e11]
        exact ⟨Below.refl _ _, rfl⟩
      refine gSt (gStep_run rfl ?_) ?_
      · intro ρ W hC hc hf hL
        have e60 : ρ (.tmp 60) = .pointer (some ⟨p11, 2, none⟩) := hL 60 (by decide +kernel)
        have hk := hC.2.1.c 2 (by decide)
        simp [go_sem, hc, hf, e60, hk]
        exact ⟨Below.refl _ _, rfl⟩
      refine gSt (gStep_run rfl ?_) ?_
      · intro ρ W hC hc hf hL
        have e59 : ρ (.tmp 59) = .int .i64 tp := hL 59 (by decide +kernel)
        have e61 : ρ (.tmp 61) = .int .i64 (k 2) := hL 61 (by decide +kernel)
        have hg2 : decide (k 2 < tp) = false := decide_eq_false (by omega)
        simp [go_sem, hc, hf, e59, e61, hg2, hgt]
        exact ⟨Below.refl _ _, rfl⟩
      refine gSt (gStep_run rfl (gRun_move 62 57 (.inr rfl) rfl (by decide +kernel) (fun v w h => h))) ?_
      exact gSt0
    · intro W hC
      refine gFi 58 rfl ?_
      rintro _ rfl
      refine gFi 59 rfl ?_
      rintro _ rfl
      refine gFi 60 rfl ?_
      rintro _ rfl
      refine gFi 61 rfl ?_
      rintro _ rfl
      refine gFi 62 rfl ?_
      rintro _ rfl
      refine gFi 57 rfl ?_
      rintro _ rfl
      refine gFi0 ?_
      simp only [List.drop_succ_cons, List.drop_zero, Act.put, List.setIfInBounds_toArray, List.set_cons_succ, List.set_cons_zero]
      have HS := hide hC.1
      have HK := hide hC.2.1
      have HN := hide hC.2.2.1
      have HZ := hide hC.2.2.2
      clear hC h8
      go_upto_region 10 with fail
      refine wp_gen (fun W => RuSt neg z s w W ∧ CapK p11 k W ∧ NB W p13 neg zc q ∧ ∀ i, W.frozen? ⟨p13, i, none⟩ = false) ⟨HS.out, HK.out, HN.out, HZ.out⟩ ?_
      clear HS HK HN HZ
      rintro W5 h10
      refine wp_region_grow 6 [(69, .val (.agg #[.bool (neg), .int .i64 (zc), .int .u64 (dgl (q) 0 : Nat), .int .u64 (dgl (q) 1 : Nat), .int .u64 (dgl (q) 2 : Nat), .int .u64 (dgl (q) 3 : Nat), .int .u64 (dgl (q) 4 : Nat), .int .u64 (dgl (q) 5 : Nat), .int .u64 (dgl (q) 6 : Nat), .int .u64 (dgl (q) 7 : Nat)])), (70, .val (.int .i64 tp)), (71, .val (.pointer (some ⟨p11, 3, none⟩))), (72, .val (.int .i64 (k 3))), (73, .val (.bool false)), (68, .val (.bool false))]
        (fun W => RuSt neg z s w W ∧ CapK p11 k W ∧ NB W p13 neg zc q ∧ ∀ i, W.frozen? ⟨p13, i, none⟩ = false) mixedOk (by kernel_rfl) (by kernel_rfl) (⟨h10.1.below (Below.refl _ _).drew, h10.2.1.below (Below.refl _ _).drew, h10.2.2.1.below (Below.refl _ _).drew, fun i => ((Below.refl _ _).drew.frozen (p := ⟨p13, i, none⟩) h10.2.2.1.lt).trans (h10.2.2.2 i)⟩) (fun W W' h hb => ⟨h.1.below hb, h.2.1.below hb, h.2.2.1.below hb, fun i => (hb.frozen (p := ⟨p13, i, none⟩) h.2.2.1.lt).trans (h.2.2.2 i)⟩) ?_ ?_
      · refine gSt (gStep_run rfl ?_) ?_
        · intro ρ W hC hc hf hL
          have e13 : ρ (.tmp 13) = .pointer (some ⟨p13, 0, none⟩) := hL 13 (by decide +kernel)
          have yn := hC.2.2.1.n
          have ye := hC.2.2.1.e
          have y0 := hC.2.2.1.x0
          have y1 := hC.2.2.1.x1
          have y2 := hC.2.2.1.x2
          have y3 := hC.2.2.1.x3
          have y4 := hC.2.2.1.x4
          have y5 := hC.2.2.1.x5
          have y6 := hC.2.2.1.x6
          have y7 := hC.2.2.1.x7
          simp [go_sem, hc, hf, e13, yn, ye, y0, y1, y2, y3, y4, y5, y6, y7]
          exact ⟨Below.refl _ _, rfl⟩
        refine gSt (gStep_run rfl ?_) ?_
        · intro ρ W hC hc hf hL
          have e69 : ρ (.tmp 69) = .agg #[.bool (neg), .int .i64 (zc), .int .u64 (dgl (q) 0 : Nat), .int .u64 (dgl (q) 1 : Nat), .int .u64 (dgl (q) 2 : Nat), .int .u64 (dgl (q) 3 : Nat), .int .u64 (dgl (q) 4 : Nat), .int .u64 (dgl (q) 5 : Nat), .int .u64 (dgl (q) 6 : Nat), .int .u64 (dgl (q) 7 : Nat)] := hL 69 (by decide +kernel)
          simp [go_sem, hc, hf, e69]
          refine (HTP.out W).mono ?_
          rintro e w' ⟨rfl, hb⟩
          exact ⟨_, rfl, by first | exact hb | (subst hb; exact Below.refl _ _), rfl⟩
        refine gSt (gStep_run rfl ?_) ?_
        · intro ρ W hC hc hf hL
          have e11 : ρ (.tmp 11) = .pointer (some ⟨p11, 0, none⟩) := hL 11 (by decide +kernel)
          simp [go_sem, hc, hf, e11]
          exact ⟨Below.refl _ _, rfl⟩
        refine gSt (gStep_run rfl ?_) ?_
        · intro ρ W hC hc hf hL
          have e71 : ρ (.tmp 71) = .pointer (some ⟨p11, 3, none⟩) := hL 71 (by decide +kernel)
          have hk := hC.2.1.c 3 (by decide)
          simp [go_sem, hc, hf, e71, hk]
          exact ⟨Below.refl _ _, rfl⟩
        refine gSt (gStep_run rfl ?_) ?_
        · intro ρ W hC hc hf hL
          have e70 : ρ (.tmp 70) = .int .i64 tp := hL 70 (by decide +kernel)
          have e72 : ρ (.tmp 72) = .int .i64 (k 3) := hL 72 (by decide +kernel)
          have hg3 : decide (tp < k 3) = false := decide_eq_false (by omega)
          simp [go_sem, hc, hf, e70, e72, hg3, hlt3]
          exact ⟨Below.refl _ _, rfl⟩
        refine gSt (gStep_run rfl (gRun_move 73 68 (.inr rfl) rfl (by decide +kernel) (fun v w h => h))) ?_
        exact gSt0
      · intro W hC
        refine gFi 69 rfl ?_
        rintro _ rfl
        refine gFi 70 rfl ?_
        rintro _ rfl
        refine gFi 71 rfl ?_
        rintro _ rfl
        refine gFi 72 rfl ?_
        rintro _ rfl
        refine gFi 73 rfl ?_
        rintro _ rfl
        refine gFi 68 rfl ?_
        rintro _ rfl
        refine gFi0 ?_
        simp only [List.drop_succ_cons, List.drop_zero, Act.put, List.setIfInBounds_toArray, List.set_cons_succ, List.set_cons_zero]
        have HS := hide hC.1
        have HK := hide hC.2.1
        have HN := hide hC.2.2.1
        have HZ := hide hC.2.2.2
        clear hC h10
        have yn := HN.out.n
        have ye := HN.out.e
        have y0 := HN.out.x0
        have y1 := HN.out.x1
        have y2 := HN.out.x2
        have y3 := HN.out.x3
        have y4 := HN.out.x4
        have y5 := HN.out.x5
        have y6 := HN.out.x6
        have y7 := HN.out.x7
        go_wp2_with fail
        refine (HEX.out _ HS.out.g).mono ?_
        rintro e w8 ⟨rfl, hb8⟩
        replace HS := hide (HS.out.below hb8)
        clear hb8 HN yn ye y0 y1 y2 y3 y4 y5 y6 y7
        go_upto_region 16 with fail
        refine wp_gen (fun W => RuSt neg z s w W ∧ WB W w8.heap.size (dgl a 1) (dgl a 0)) ⟨HS.out.below (below_allocs _ _), wb_new2 _ _ _ _⟩ ?_
        clear HS
        generalize w8.heap.size = p16 at *
        rintro W9 ⟨g1, g2⟩
        have HS := hide g1
        have ah := g2.h
        have al := g2.l
        clear g1 g2
        have rh := HS.out.r.h
        have rl := HS.out.r.l
        have hrf := HS.out.fr
        have hlt := HS.out.lt
        have HB := hide HS.out.bel
        clear HS
        go_wp2
        exact bodyPost_ret (v := .tuple #[.agg #[.int .u64 (dgl (a) 1 : Nat), .int .u64 (dgl (a) 0 : Nat)], .int .i64 16, .int .i64 0]) (by simp [results, Tryz.results4, go_sem, hlt, rh, rl]) rfl ⟨rfl, (HB.out.setCell (p := ⟨w.heap.size + 1, 0, none⟩) (Nat.le_succ _) _).setCell (p := ⟨w.heap.size + 1, 1, none⟩) (Nat.le_succ _) _⟩
        
      
    

set_option maxHeartbeats 8000000 in
theorem round_T0 (f m z zc zd tp : Int) (neg more off ok2 : Bool) (k : Nat → Int) (s q q2 a : Nat)
    (HO : Hid (∀ w, FmtG w → Calls Tryz.prog 15 #[.int .i64 f] w fun e w' => e = .returned (.tuple #[.agg #[.int .i64 (k 0), .int .i64 (k 1), .int .i64 (k 2), .int .i64 (k 3), .int .i64 (k 4)], .bool true]) ∧ Below w.heap.size w w'))
    (HIS : Hid (∀ w, Calls Tryz.prog 16 #[.int .i64 m] w fun e w' => e = .returned (.bool true) ∧ w' = w))
    (HRI : Hid (∀ w, Calls Tryz.prog 17 #[.int .i64 (k 1), .agg #[.bool (neg), .int .i64 (z), .int .u64 (dgl (s) 0 : Nat), .int .u64 (dgl (s) 1 : Nat), .int .u64 (dgl (s) 2 : Nat), .int .u64 (dgl (s) 3 : Nat), .int .u64 (dgl (s) 4 : Nat), .int .u64 (dgl (s) 5 : Nat), .int .u64 (dgl (s) 6 : Nat), .int .u64 (dgl (s) 7 : Nat)], .bool more] w fun e w' => e = .returned (.bool true) ∧ Below w.heap.size w w'))
    (hz : ∀ w, (Op.equalIn 10000 25 (.agg #[.int .u64 (dgl (s) 0 : Nat), .int .u64 (dgl (s) 1 : Nat), .int .u64 (dgl (s) 2 : Nat), .int .u64 (dgl (s) 3 : Nat), .int .u64 (dgl (s) 4 : Nat), .int .u64 (dgl (s) 5 : Nat), .int .u64 (dgl (s) 6 : Nat), .int .u64 (dgl (s) 7 : Nat)]) (.agg #[.int .u64 0, .int .u64 0, .int .u64 0, .int .u64 0, .int .u64 0, .int .u64 0, .int .u64 0, .int .u64 0])).run Tryz.prog w = .ok false w)
    (HCU : Hid (∀ c w, CapP c (k 1) w → Calls Tryz.prog 19 #[.int .i64 m, .agg #[.bool (neg), .int .i64 (z), .int .u64 (dgl (s) 0 : Nat), .int .u64 (dgl (s) 1 : Nat), .int .u64 (dgl (s) 2 : Nat), .int .u64 (dgl (s) 3 : Nat), .int .u64 (dgl (s) 4 : Nat), .int .u64 (dgl (s) 5 : Nat), .int .u64 (dgl (s) 6 : Nat), .int .u64 (dgl (s) 7 : Nat)], .bool more, precV c] w fun e w' => e = .returned (.tuple #[.agg #[.bool (neg), .int .i64 (zc), .int .u64 (dgl (q) 0 : Nat), .int .u64 (dgl (q) 1 : Nat), .int .u64 (dgl (q) 2 : Nat), .int .u64 (dgl (q) 3 : Nat), .int .u64 (dgl (q) 4 : Nat), .int .u64 (dgl (q) 5 : Nat), .int .u64 (dgl (q) 6 : Nat), .int .u64 (dgl (q) 7 : Nat)], .bool off]) ∧ Below w.heap.size w w'))
    (HTP : Hid (∀ w, Calls Tryz.prog 21 #[.agg #[.bool (neg), .int .i64 (zc), .int .u64 (dgl (q) 0 : Nat), .int .u64 (dgl (q) 1 : Nat), .int .u64 (dgl (q) 2 : Nat), .int .u64 (dgl (q) 3 : Nat), .int .u64 (dgl (q) 4 : Nat), .int .u64 (dgl (q) 5 : Nat), .int .u64 (dgl (q) 6 : Nat), .int .u64 (dgl (q) 7 : Nat)]] w fun e w' => e = .returned (.int .i64 tp) ∧ Below w.heap.size w w'))
    (hgt : ¬ k 2 < tp)
    (hlt3 : tp < k 3)
    (HC2 : Hid (∀ c w, CapK c k w → Calls Tryz.prog 19 #[.int .i64 m, .agg #[.bool (neg), .int .i64 (z), .int .u64 (dgl (s) 0 : Nat), .int .u64 (dgl (s) 1 : Nat), .int .u64 (dgl (s) 2 : Nat), .int .u64 (dgl (s) 3 : Nat), .int .u64 (dgl (s) 4 : Nat), .int .u64 (dgl (s) 5 : Nat), .int .u64 (dgl (s) 6 : Nat), .int .u64 (dgl (s) 7 : Nat)], .bool more, rndV c] w fun e w' => e = .returned (.tuple #[.agg #[.bool (neg), .int .i64 (zd), .int .u64 (dgl (q2) 0 : Nat), .int .u64 (dgl (q2) 1 : Nat), .int .u64 (dgl (q2) 2 : Nat), .int .u64 (dgl (q2) 3 : Nat), .int .u64 (dgl (q2) 4 : Nat), .int .u64 (dgl (q2) 5 : Nat), .int .u64 (dgl (q2) 6 : Nat), .int .u64 (dgl (q2) 7 : Nat)], .bool false]) ∧ Below w.heap.size w w'))
    (HEX : Hid (∀ w, FmtG w → Calls Tryz.prog 24 #[.int .i64 f, .agg #[.bool (neg), .int .i64 (zd), .int .u64 (dgl (q2) 0 : Nat), .int .u64 (dgl (q2) 1 : Nat), .int .u64 (dgl (q2) 2 : Nat), .int .u64 (dgl (q2) 3 : Nat), .int .u64 (dgl (q2) 4 : Nat), .int .u64 (dgl (q2) 5 : Nat), .int .u64 (dgl (q2) 6 : Nat), .int .u64 (dgl (q2) 7 : Nat)]] w fun e w' => e = .returned (.tuple #[.agg #[.int .u64 (dgl (a) 1 : Nat), .int .u64 (dgl (a) 0 : Nat)], .bool ok2]) ∧ Below w.heap.size w w')) (w : World) (hg : FmtG w) :
    Calls Tryz.prog 4 #[.int .i64 f, .int .i64 m, .agg #[.bool (neg), .int .i64 (z), .int .u64 (dgl (s) 0 : Nat), .int .u64 (dgl (s) 1 : Nat), .int .u64 (dgl (s) 2 : Nat), .int .u64 (dgl (s) 3 : Nat), .int .u64 (dgl (s) 4 : Nat), .int .u64 (dgl (s) 5 : Nat), .int .u64 (dgl (s) 6 : Nat), .int .u64 (dgl (s) 7 : Nat)], .bool more] w fun e w' => e = .returned (.tuple #[.agg #[.int .u64 (dgl (a) 1 : Nat), .int .u64 (dgl (a) 0 : Nat)], .int .i64 0, .int .i64 0]) ∧ Below w.heap.size w w' := by
  have HS := hide (ruSt_start neg z s w hg)
  clear hg
  go_enter Tryz.func4, Tryz.ntmps4
  go_upto_region 1 with fail
  refine wp_gen (fun W => RuSt neg z s w W) HS.out ?_
  clear HS
  rintro W1 h1
  have HS := hide h1
  clear h1
  go_wp2_with fail
  refine (HO.out _ HS.out.g).mono ?_
  rintro e w1 ⟨rfl, hb1⟩
  replace HS := hide (HS.out.below hb1)
  clear hb1
  go_upto_region 2 with fail
  refine wp_gen (fun W => RuSt neg z s w W ∧ CapK w1.heap.size k W) ⟨HS.out.below (below_allocs _ _), capK_new _ _ _⟩ ?_
  have HP := hide (show w.heap.size + 1 + 1 ≤ w1.heap.size from HS.out.lt)
  clear HS
  generalize w1.heap.size = p11 at *
  rintro W2 ⟨g1, g2⟩
  have HS := hide g1
  have HK := hide g2
  clear g1 g2
  go_wp2_with fail
  refine (HIS.out _).mono ?_
  rintro e wl ⟨rfl, hw⟩
  subst wl
  have ln := HS.out.n.n
  have le := HS.out.n.e
  have l0 := HS.out.n.x0
  have l1 := HS.out.n.x1
  have l2 := HS.out.n.x2
  have l3 := HS.out.n.x3
  have l4 := HS.out.n.x4
  have l5 := HS.out.n.x5
  have l6 := HS.out.n.x6
  have l7 := HS.out.n.x7
  have hk1 := HK.out.c 1 (by decide)
  go_wp2_with fail
  refine (HRI.out _).mono ?_
  rintro e w2 ⟨rfl, hb2⟩
  replace HS := hide (HS.out.below hb2)
  replace HK := hide (HK.out.below hb2)
  clear hb2 hk1 ln le l0 l1 l2 l3 l4 l5 l6 l7
  have ln := HS.out.n.n
  have le := HS.out.n.e
  have l0 := HS.out.n.x0
  have l1 := HS.out.n.x1
  have l2 := HS.out.n.x2
  have l3 := HS.out.n.x3
  have l4 := HS.out.n.x4
  have l5 := HS.out.n.x5
  have l6 := HS.out.n.x6
  have l7 := HS.out.n.x7
  go_upto_region 6 with fail
  refine wp_gen (fun W => RuSt neg z s w W ∧ CapK p11 k W) ⟨HS.out, HK.out⟩ ?_
  clear HS HK ln le l0 l1 l2 l3 l4 l5 l6 l7
  have hp11 := HP.out
  rintro W3 h3
  refine wp_region_storeK 13 [11] [48, 49, 50, 51, 52, 53, 54, 47, 55, 56, 13, 14] (fun bs => [(48, .val (.int .i64 m)), (49, .val (.agg #[.bool (neg), .int .i64 (z), .int .u64 (dgl (s) 0 : Nat), .int .u64 (dgl (s) 1 : Nat), .int .u64 (dgl (s) 2 : Nat), .int .u64 (dgl (s) 3 : Nat), .int .u64 (dgl (s) 4 : Nat), .int .u64 (dgl (s) 5 : Nat), .int .u64 (dgl (s) 6 : Nat), .int .u64 (dgl (s) 7 : Nat)])), (50, .val (.bool more)), (51, .val (.pointer (some ⟨p11, 1, none⟩))), (52, .val (.int .i64 (k 1))), (53, bif bs.headD false then SlotIs.any  else SlotIs.prec (k 1)), (54, .val (.tuple #[.agg #[.bool (neg), .int .i64 (zc), .int .u64 (dgl (q) 0 : Nat), .int .u64 (dgl (q) 1 : Nat), .int .u64 (dgl (q) 2 : Nat), .int .u64 (dgl (q) 3 : Nat), .int .u64 (dgl (q) 4 : Nat), .int .u64 (dgl (q) 5 : Nat), .int .u64 (dgl (q) 6 : Nat), .int .u64 (dgl (q) 7 : Nat)], .bool off])), (47, .val (.tuple #[.agg #[.bool (neg), .int .i64 (zc), .int .u64 (dgl (q) 0 : Nat), .int .u64 (dgl (q) 1 : Nat), .int .u64 (dgl (q) 2 : Nat), .int .u64 (dgl (q) 3 : Nat), .int .u64 (dgl (q) 4 : Nat), .int .u64 (dgl (q) 5 : Nat), .int .u64 (dgl (q) 6 : Nat), .int .u64 (dgl (q) 7 : Nat)], .bool off])), (55, .val (.agg #[.bool (neg), .int .i64 (zc), .int .u64 (dgl (q) 0 : Nat), .int .u64 (dgl (q) 1 : Nat), .int .u64 (dgl (q) 2 : Nat), .int .u64 (dgl (q) 3 : Nat), .int .u64 (dgl (q) 4 : Nat), .int .u64 (dgl (q) 5 : Nat), .int .u64 (dgl (q) 6 : Nat), .int .u64 (dgl (q) 7 : Nat)])), (56, .val (.bool off)), (13, bif bs.headD false then SlotIs.nbox (p11 + 1) neg zc q else SlotIs.nbox (p11 + 1) false 0 0), (14, .val (.bool off))])
    (fun _ W => RuSt neg z s w W ∧ CapK p11 k W) (fun bs => rfl) mixedOk (by kernel_rfl) (by kernel_rfl) (by kernel_rfl) (⟨h3.1.below (Below.refl _ _).drew, h3.2.below (Below.refl _ _).drew⟩) (fun bs W W' h hb => ⟨h.1.below hb, h.2.below hb⟩) ?_ ?_
  · refine kSt rfl (fun φ hφ => gStep_run rfl (gRun_move 1 48 (.inl rfl) rfl (by decide +kernel) (fun v w h => h))) ?_
    refine kSt rfl (fun φ hφ => gStep_run rfl ?_) ?_
    · intro ρ W hC hc hf hL
      have e6 : ρ (.tmp 6) = .pointer (some ⟨w.heap.size, 0, none⟩) := hL 6 (by decide +kernel)
      have ln := hC.1.n.n
      have le := hC.1.n.e
      have l0 := hC.1.n.x0
      have l1 := hC.1.n.x1
      have l2 := hC.1.n.x2
      have l3 := hC.1.n.x3
      have l4 := hC.1.n.x4
      have l5 := hC.1.n.x5
      have l6 := hC.1.n.x6
      have l7 := hC.1.n.x7
      simp [go_sem, hc, hf, e6, ln, le, l0, l1, l2, l3, l4, l5, l6, l7]
      exact ⟨Below.refl _ _, rfl⟩
    refine kSt rfl (fun φ hφ => gStep_run rfl (gRun_move 3 50 (.inl rfl) rfl (by decide +kernel) (fun v w h => h))) ?_
    refine kSt rfl (fun φ hφ => gStep_run rfl ?_) ?_
    · intro ρ W hC hc hf hL
      have e11 : ρ (.tmp 11) = .pointer (some ⟨p11, 0, none⟩) := hL 11 (by decide +kernel)
      simp [go_sem, hc, hf, e11]
      exact ⟨Below.refl _ _, rfl⟩
    refine kSt rfl (fun φ hφ => gStep_run rfl ?_) ?_
    · intro ρ W hC hc hf hL
      have e51 : ρ (.tmp 51) = .pointer (some ⟨p11, 1, none⟩) := hL 51 (by decide +kernel)
      have hk1 := hC.2.c 1 (by decide)
      simp [go_sem, hc, hf, e51, hk1]
      exact ⟨Below.refl _ _, rfl⟩
    refine kSt rfl (fun φ hφ => gStep_run rfl ?_) ?_
    · intro ρ W hC hc hf hL
      have hφ0 : φ 11 = false := hφ 11 (by simp) (by kernel_rfl)
      have e52 : ρ (.tmp 52) = .int .i64 (k 1) := hL 52 (by decide +kernel)
      simp [go_sem, hc, hf, e52]
      refine (precise_any _ W).mono ?_
      rintro e w' ⟨rfl, hc2, hb⟩
      refine ⟨_, rfl, hb, ?_⟩
      show (bif φ 11 then SlotIs.any else SlotIs.prec (k 1)).R _ _
      rw [hφ0]
      exact ⟨_, rfl, hc2⟩
    refine kSt rfl (fun φ hφ => gStep_run rfl ?_) ?_
    · intro ρ W hC hc hf hL
      have hφ0 : φ 11 = false := hφ 11 (by simp) (by kernel_rfl)
      have e48 : ρ (.tmp 48) = .int .i64 m := hL 48 (by decide +kernel)
      have e49 : ρ (.tmp 49) = .agg #[.bool (neg), .int .i64 (z), .int .u64 (dgl (s) 0 : Nat), .int .u64 (dgl (s) 1 : Nat), .int .u64 (dgl (s) 2 : Nat), .int .u64 (dgl (s) 3 : Nat), .int .u64 (dgl (s) 4 : Nat), .int .u64 (dgl (s) 5 : Nat), .int .u64 (dgl (s) 6 : Nat), .int .u64 (dgl (s) 7 : Nat)] := hL 49 (by decide +kernel)
      have e50 : ρ (.tmp 50) = .bool more := hL 50 (by decide +kernel)
      have b53 : (bif φ 11 then SlotIs.any  else SlotIs.prec (k 1)).R (ρ (.tmp 53)) W := hL 53 (by decide +kernel)
      rw [hφ0] at b53
      obtain ⟨q53, e53, cc⟩ := b53
      simp [go_sem, hc, hf, e48, e49, e50, e53]
      refine (HCU.out q53 W cc).mono ?_
      rintro e w' ⟨rfl, hb⟩
      exact ⟨_, rfl, by first | exact hb | (subst hb; exact Below.refl _ _), rfl⟩
    refine kSt rfl (fun φ hφ => gStep_run rfl (gRun_move 54 47 (.inl rfl) rfl (by decide +kernel) (fun v w h => h))) ?_
    refine kSt rfl (fun φ hφ => gStep_run rfl ?_) ?_
    · intro ρ W hC hc hf hL
      have e47 : ρ (.tmp 47) = .tuple #[.agg #[.bool (neg), .int .i64 (zc), .int .u64 (dgl (q) 0 : Nat), .int .u64 (dgl (q) 1 : Nat), .int .u64 (dgl (q) 2 : Nat), .int .u64 (dgl (q) 3 : Nat), .int .u64 (dgl (q) 4 : Nat), .int .u64 (dgl (q) 5 : Nat), .int .u64 (dgl (q) 6 : Nat), .int .u64 (dgl (q) 7 : Nat)], .bool off] := hL 47 (by decide +kernel)
      simp [go_sem, hc, hf, e47]
      exact ⟨Below.refl _ _, rfl⟩
    refine kSt rfl (fun φ hφ => gStep_run rfl ?_) ?_
    · intro ρ W hC hc hf hL
      have e47 : ρ (.tmp 47) = .tuple #[.agg #[.bool (neg), .int .i64 (zc), .int .u64 (dgl (q) 0 : Nat), .int .u64 (dgl (q) 1 : Nat), .int .u64 (dgl (q) 2 : Nat), .int .u64 (dgl (q) 3 : Nat), .int .u64 (dgl (q) 4 : Nat), .int .u64 (dgl (q) 5 : Nat), .int .u64 (dgl (q) 6 : Nat), .int .u64 (dgl (q) 7 : Nat)], .bool off] := hL 47 (by decide +kernel)
      simp [go_sem, hc, hf, e47]
      exact ⟨Below.refl _ _, rfl⟩
    refine kSt rfl (fun φ hφ => gStep_run rfl ?_) ?_
    · intro ρ W hC hc hf hL
      have hφ0 : φ 11 = false := hφ 11 (by simp) (by kernel_rfl)
      simp [go_sem, hc, hf]
      refine ⟨below_allocs _ _, ?_⟩
      show (bif φ 11 then SlotIs.nbox (p11 + 1) neg zc q else SlotIs.nbox (p11 + 1) false 0 0).R _ _
      rw [hφ0]
      exact ⟨_, rfl, hC.2.lt, nb_zero _ _, fun i => by simp [go_sem]⟩
    refine kStS rfl ⟨rfl, rfl, ?_⟩ ?_
    · intro φ ρ W hφ hC hc hL
      have b13 := hL 13 (by decide +kernel)
      have e55 : ρ (.tmp 55) = .agg #[.bool (neg), .int .i64 (zc), .int .u64 (dgl (q) 0 : Nat), .int .u64 (dgl (q) 1 : Nat), .int .u64 (dgl (q) 2 : Nat), .int .u64 (dgl (q) 3 : Nat), .int .u64 (dgl (q) 4 : Nat), .int .u64 (dgl (q) 5 : Nat), .int .u64 (dgl (q) 6 : Nat), .int .u64 (dgl (q) 7 : Nat)] := hL 55 (by decide +kernel)
      have bx : (bif φ 11 then SlotIs.nbox (p11 + 1) neg zc q else SlotIs.nbox (p11 + 1) false 0 0).R (ρ (.tmp 13)) W := hL 13 (by decide +kernel)
      rw [hφ] at bx
      obtain ⟨px, ex, qx, lx, zx⟩ := bx
      have yn := lx.n
      have ye := lx.e
      have y0 := lx.x0
      have y1 := lx.x1
      have y2 := lx.x2
      have y3 := lx.x3
      have y4 := lx.x4
      have y5 := lx.x5
      have y6 := lx.x6
      have y7 := lx.x7
      have hzl := lx.lt
      refine gUpon_of ((((((((((W.setCell ⟨px, 0, none⟩ (.bool (neg))).setCell ⟨px, 1, none⟩ (.int .i64 (zc))).setCell ⟨px, 2, none⟩ (.int .u64 (dgl (q) 0 : Nat))).setCell ⟨px, 3, none⟩ (.int .u64 (dgl (q) 1 : Nat))).setCell ⟨px, 4, none⟩ (.int .u64 (dgl (q) 2 : Nat))).setCell ⟨px, 5, none⟩ (.int .u64 (dgl (q) 3 : Nat))).setCell ⟨px, 6, none⟩ (.int .u64 (dgl (q) 4 : Nat))).setCell ⟨px, 7, none⟩ (.int .u64 (dgl (q) 5 : Nat))).setCell ⟨px, 8, none⟩ (.int .u64 (dgl (q) 6 : Nat))).setCell ⟨px, 9, none⟩ (.int .u64 (dgl (q) 7 : Nat))) ?_ (fun _ => ?_)
      · simp [go_sem, hc, e55, ex, hzl, zx, yn, ye, y0, y1, y2, y3, y4, y5, y6, y7, gUpon]
      have hs10 := below_set10 (Below.refl (p11 + 1) W) px qx neg zc q
      refine ⟨⟨hC.1.under hs10 (by omega), hC.2.under hs10 (Nat.lt_succ_self _)⟩, fun t => ?_⟩
      refine (tbl_imp rfl (fun _ => val_imp) (tbl_imp rfl (fun _ => val_imp) (tbl_imp rfl (fun _ => val_imp) (tbl_imp rfl (fun _ => val_imp) (tbl_imp rfl (fun _ => val_imp) (tbl_imp rfl (fun ht h => ?_) (tbl_imp rfl (fun _ => val_imp) (tbl_imp rfl (fun _ => val_imp) (tbl_imp rfl (fun _ => val_imp) (tbl_imp rfl (fun _ => val_imp) (tbl_imp rfl (fun ht h => ?_) (tbl_imp rfl (fun _ => val_imp) tbl_nil_imp))))))))))))
      · subst ht
        show (bif (φ 11 || true) then SlotIs.any else SlotIs.prec (k 1)).R _ _
        rw [Bool.or_true]
        trivial
      · subst ht
        show (bif (φ 11 || true) then SlotIs.nbox (p11 + 1) neg zc q else SlotIs.nbox (p11 + 1) false 0 0).R _ _
        rw [Bool.or_true]
        exact ⟨px, ex, qx, nb_set lx neg zc q, fun i => by simpa [go_sem] using zx i⟩
    refine kSt rfl (fun φ hφ => gStep_run rfl (gRun_move 56 14 (.inr rfl) rfl (by decide +kernel) (fun v w h => h))) ?_
    exact kSt0
  · intro W hC
    refine gFi 48 rfl ?_
    rintro _ rfl
    refine gFi 49 rfl ?_
    rintro _ rfl
    refine gFi 50 rfl ?_
    rintro _ rfl
    refine gFi 51 rfl ?_
    rintro _ rfl
    refine gFi 52 rfl ?_
    rintro _ rfl
    refine gFi 53 rfl ?_
    rintro u53 b53
    refine gFi 54 rfl ?_
    rintro _ rfl
    refine gFi 47 rfl ?_
    rintro _ rfl
    refine gFi 55 rfl ?_
    rintro _ rfl
    refine gFi 56 rfl ?_
    rintro _ rfl
    refine gFi 13 rfl ?_
    rintro u13 b13
    refine gFiN rfl ?_
    refine gFi 14 rfl ?_
    rintro _ rfl
    refine gFi0 ?_
    simp only [List.drop_succ_cons, List.drop_zero, Act.put, List.setIfInBounds_toArray, List.set_cons_succ, List.set_cons_zero]
    obtain ⟨p13, rfl, q13, l13, z13⟩ := b13
    have HS := hide hC.1
    have HK := hide hC.2
    have HN := hide l13
    have HZ := hide z13
    have HQ := hide q13
    clear hC l13 q13 z13 h3 b53
    go_upto_region 8 with fail
    refine wp_gen (fun W => RuSt neg z s w W ∧ CapK p11 k W ∧ NB W p13 neg zc q ∧ ∀ i, W.frozen? ⟨p13, i, none⟩ = false) ⟨HS.out, HK.out, HN.out, HZ.out⟩ ?_
    clear HS HK HN HZ
    rintro W4 h8
    refine wp_region_grow 6 [(58, .val (.agg #[.bool (neg), .int .i64 (zc), .int .u64 (dgl (q) 0 : Nat), .int .u64 (dgl (q) 1 : Nat), .int .u64 (dgl (q) 2 : Nat), .int .u64 (dgl (q) 3 : Nat), .int .u64 (dgl (q) 4 : Nat), .int .u64 (dgl (q) 5 : Nat), .int .u64 (dgl (q) 6 : Nat), .int .u64 (dgl (q) 7 : Nat)])), (59, .val (.int .i64 tp)), (60, .val (.pointer (some ⟨p11, 2, none⟩))), (61, .val (.int .i64 (k 2))), (62, .val (.bool false)), (57, .val (.bool false))]
      (fun W => RuSt neg z s w W ∧ CapK p11 k W ∧ NB W p13 neg zc q ∧ ∀ i, W.frozen? ⟨p13, i, none⟩ = false) mixedOk (by kernel_rfl) (by kernel_rfl) (⟨h8.1.below (Below.refl _ _).drew, h8.2.1.below (Below.refl _ _).drew, h8.2.2.1.below (Below.refl _ _).drew, fun i => ((Below.refl _ _).drew.frozen (p := ⟨p13, i, none⟩) h8.2.2.1.lt).trans (h8.2.2.2 i)⟩) (fun W W' h hb => ⟨h.1.below hb, h.2.1.below hb, h.2.2.1.below hb, fun i => (hb.frozen (p := ⟨p13, i, none⟩) h.2.2.1.lt).trans (h.2.2.2 i)⟩) ?_ ?_
    · refine gSt (gStep_run rfl ?_) ?_
      · intro ρ W hC hc hf hL
        have e13 : ρ (.tmp 13) = .pointer (some ⟨p13, 0, none⟩) := hL 13 (by decide +kernel)
        have yn := hC.2.2.1.n
        have ye := hC.2.2.1.e
        have y0 := hC.2.2.1.x0
        have y1 := hC.2.2.1.x1
        have y2 := hC.2.2.1.x2
        have y3 := hC.2.2.1.x3
        have y4 := hC.2.2.1.x4
        have y5 := hC.2.2.1.x5
        have y6 := hC.2.2.1.x6
        have y7 := hC.2.2.1.x7
        simp [go_sem, hc, hf, e13, yn, ye, y0, y1, y2, y3, y4, y5, y6, y7]
        exact ⟨Below.refl _ _, rfl⟩
      refine gSt (gStep_run rfl ?_) ?_
      · intro ρ W hC hc hf hL
        have e58 : ρ (.tmp 58) = .agg #[.bool (neg), .int .i64 (zc), .int .u64 (dgl (q) 0 : Nat), .int .u64 (dgl (q) 1 : Nat), .int .u64 (dgl (q) 2 : Nat), .int .u64 (dgl (q) 3 : Nat), .int .u64 (dgl (q) 4 : Nat), .int .u64 (dgl (q) 5 : Nat), .int .u64 (dgl (q) 6 : Nat), .int .u64 (dgl (q) 7 : Nat)] := hL 58 (by decide +kernel)
        simp [go_sem, hc, hf, e58]
        refine (HTP.out W).mono ?_
        rintro e w' ⟨rfl, hb⟩
        exact ⟨_, rfl, by first | exact hb | (subst hb; exact Below.refl _ _), rfl⟩
      refine gSt (gStep_run rfl ?_) ?_
      · intro ρ W hC hc hf hL
        have e11 : ρ (.tmp 11) = .pointer (some ⟨p11, 0, none⟩) := hL 11 (by decide +kernel)
        simp [go_sem, hc, hf, e11]
        exact ⟨Below.refl _ _, rfl⟩
      refine gSt (gStep_run rfl ?_) ?_
      · intro ρ W hC hc hf hL
        have e60 : ρ (.tmp 60) = .pointer (some ⟨p11, 2, none⟩) := hL 60 (by decide +kernel)
        have hk := hC.2.1.c 2 (by decide)
        simp [go_sem, hc, hf, e60, hk]
        exact ⟨Below.refl _ _, rfl⟩
      refine gSt (gStep_run rfl ?_) ?_
      · intro ρ W hC hc hf hL
        have e59 : ρ (.tmp 59) = .int .i64 tp := hL 59 (by decide +kernel)
        have e61 : ρ (.tmp 61) = .int .i64 (k 2) := hL 61 (by decide +kernel)
        have hg2 : decide (k 2 < tp) = false := decide_eq_false (by omega)
        simp [go_sem, hc, hf, e59, e61, hg2, hgt]
        exact ⟨Below.refl _ _, rfl⟩
      refine gSt (gStep_run rfl (gRun_move 62 57 (.inr rfl) rfl (by decide +kernel) (fun v w h => h))) ?_
      exact gSt0
    · intro W hC
      refine gFi 58 rfl ?_
      rintro _ rfl
      refine gFi 59 rfl ?_
      rintro _ rfl
      refine gFi 60 rfl ?_
      rintro _ rfl
      refine gFi 61 rfl ?_
      rintro _ rfl
      refine gFi 62 rfl ?_
      rintro _ rfl
      refine gFi 57 rfl ?_
      rintro _ rfl
      refine gFi0 ?_
      simp only [List.drop_succ_cons, List.drop_zero, Act.put, List.setIfInBounds_toArray, List.set_cons_succ, List.set_cons_zero]
      have HS := hide hC.1
      have HK := hide hC.2.1
      have HN := hide hC.2.2.1
      have HZ := hide hC.2.2.2
      clear hC h8
      go_upto_region 10 with fail
      refine wp_gen (fun W => RuSt neg z s w W ∧ CapK p11 k W ∧ NB W p13 neg zc q ∧ ∀ i, W.frozen? ⟨p13, i, none⟩ = false) ⟨HS.out, HK.out, HN.out, HZ.out⟩ ?_
      clear HS HK HN HZ
      rintro W5 h10
      refine wp_region_grow 6 [(69, .val (.agg #[.bool (neg), .int .i64 (zc), .int .u64 (dgl (q) 0 : Nat), .int .u64 (dgl (q) 1 : Nat), .int .u64 (dgl (q) 2 : Nat), .int .u64 (dgl (q) 3 : Nat), .int .u64 (dgl (q) 4 : Nat), .int .u64 (dgl (q) 5 : Nat), .int .u64 (dgl (q) 6 : Nat), .int .u64 (dgl (q) 7 : Nat)])), (70, .val (.int .i64 tp)), (71, .val (.pointer (some ⟨p11, 3, none⟩))), (72, .val (.int .i64 (k 3))), (73, .val (.bool true)), (68, .val (.bool true))]
        (fun W => RuSt neg z s w W ∧ CapK p11 k W ∧ NB W p13 neg zc q ∧ ∀ i, W.frozen? ⟨p13, i, none⟩ = false) mixedOk (by kernel_rfl) (by kernel_rfl) (⟨h10.1.below (Below.refl _ _).drew, h10.2.1.below (Below.refl _ _).drew, h10.2.2.1.below (Below.refl _ _).drew, fun i => ((Below.refl _ _).drew.frozen (p := ⟨p13, i, none⟩) h10.2.2.1.lt).trans (h10.2.2.2 i)⟩) (fun W W' h hb => ⟨h.1.below hb, h.2.1.below hb, h.2.2.1.below hb, fun i => (hb.frozen (p := ⟨p13, i, none⟩) h.2.2.1.lt).trans (h.2.2.2 i)⟩) ?_ ?_
      · refine gSt (gStep_run rfl ?_) ?_
        · intro ρ W hC hc hf hL
          have e13 : ρ (.tmp 13) = .pointer (some ⟨p13, 0, none⟩) := hL 13 (by decide +kernel)
          have yn := hC.2.2.1.n
          have ye := hC.2.2.1.e
          have y0 := hC.2.2.1.x0
          have y1 := hC.2.2.1.x1
          have y2 := hC.2.2.1.x2
          have y3 := hC.2.2.1.x3
          have y4 := hC.2.2.1.x4
          have y5 := hC.2.2.1.x5
          have y6 := hC.2.2.1.x6
          have y7 := hC.2.2.1.x7
          simp [go_sem, hc, hf, e13, yn, ye, y0, y1, y2, y3, y4, y5, y6, y7]
          exact ⟨Below.refl _ _, rfl⟩
        refine gSt (gStep_run rfl ?_) ?_
        · intro ρ W hC hc hf hL
          have e69 : ρ (.tmp 69) = .agg #[.bool (neg), .int .i64 (zc), .int .u64 (dgl (q) 0 : Nat), .int .u64 (dgl (q) 1 : Nat), .int .u64 (dgl (q) 2 : Nat), .int .u64 (dgl (q) 3 : Nat), .int .u64 (dgl (q) 4 : Nat), .int .u64 (dgl (q) 5 : Nat), .int .u64 (dgl (q) 6 : Nat), .int .u64 (dgl (q) 7 : Nat)] := hL 69 (by decide +kernel)
          simp [go_sem, hc, hf, e69]
          refine (HTP.out W).mono ?_
          rintro e w' ⟨rfl, hb⟩
          exact ⟨_, rfl, by first | exact hb | (subst hb; exact Below.refl _ _), rfl⟩
        refine gSt (gStep_run rfl ?_) ?_
        · intro ρ W hC hc hf hL
          have e11 : ρ (.tmp 11) = .pointer (some ⟨p11, 0, none⟩) := hL 11 (by decide +kernel)
          simp [go_sem, hc, hf, e11]
          exact ⟨Below.refl _ _, rfl⟩
        refine gSt (gStep_run rfl ?_) ?_
        · intro ρ W hC hc hf hL
          have e71 : ρ (.tmp 71) = .pointer (some ⟨p11, 3, none⟩) := hL 71 (by decide +kernel)
          have hk := hC.2.1.c 3 (by decide)
          simp [go_sem, hc, hf, e71, hk]
          exact ⟨Below.refl _ _, rfl⟩
        refine gSt (gStep_run rfl ?_) ?_
        · intro ρ W hC hc hf hL
          have e70 : ρ (.tmp 70) = .int .i64 tp := hL 70 (by decide +kernel)
          have e72 : ρ (.tmp 72) = .int .i64 (k 3) := hL 72 (by decide +kernel)
          have hg3 : decide (tp < k 3) = true := decide_eq_true (by omega)
          simp [go_sem, hc, hf, e70, e72, hg3, hlt3]
          exact ⟨Below.refl _ _, rfl⟩
        refine gSt (gStep_run rfl (gRun_move 73 68 (.inr rfl) rfl (by decide +kernel) (fun v w h => h))) ?_
        exact gSt0
      · intro W hC
        refine gFi 69 rfl ?_
        rintro _ rfl
        refine gFi 70 rfl ?_
        rintro _ rfl
        refine gFi 71 rfl ?_
        rintro _ rfl
        refine gFi 72 rfl ?_
        rintro _ rfl
        refine gFi 73 rfl ?_
        rintro _ rfl
        refine gFi 68 rfl ?_
        rintro _ rfl
        refine gFi0 ?_
        simp only [List.drop_succ_cons, List.drop_zero, Act.put, List.setIfInBounds_toArray, List.set_cons_succ, List.set_cons_zero]
        have HS := hide hC.1
        have HK := hide hC.2.1
        have HN := hide hC.2.2.1
        have HZ := hide hC.2.2.2
        clear hC h10
        have ln := HS.out.n.n
        have le := HS.out.n.e
        have l0 := HS.out.n.x0
        have l1 := HS.out.n.x1
        have l2 := HS.out.n.x2
        have l3 := HS.out.n.x3
        have l4 := HS.out.n.x4
        have l5 := HS.out.n.x5
        have l6 := HS.out.n.x6
        have l7 := HS.out.n.x7
        go_wp2_with fail
        refine (HC2.out p11 _ HK.out).mono ?_
        rintro e w6 ⟨rfl, hb6⟩
        replace HZ := hide (show ∀ i, w6.frozen? ⟨p13, i, none⟩ = false from fun i => (hb6.frozen (p := ⟨p13, i, none⟩) HN.out.lt).trans (HZ.out i))
        replace HS := hide (HS.out.below hb6)
        replace HK := hide (HK.out.below hb6)
        replace HN := hide (HN.out.below hb6)
        clear hb6 ln le l0 l1 l2 l3 l4 l5 l6 l7
        have yn := HN.out.n
        have ye := HN.out.e
        have y0 := HN.out.x0
        have y1 := HN.out.x1
        have y2 := HN.out.x2
        have y3 := HN.out.x3
        have y4 := HN.out.x4
        have y5 := HN.out.x5
        have y6 := HN.out.x6
        have y7 := HN.out.x7
        have hl13 := HN.out.lt
        have hf13 := HZ.out
        have HSS := hide (show RuSt neg z s w _ ∧ NB ((((((((((w6.setCell ⟨p13, 0, none⟩ (.bool (neg))).setCell ⟨p13, 1, none⟩ (.int .i64 (zd))).setCell ⟨p13, 2, none⟩ (.int .u64 (dgl (q2) 0 : Nat))).setCell ⟨p13, 3, none⟩ (.int .u64 (dgl (q2) 1 : Nat))).setCell ⟨p13, 4, none⟩ (.int .u64 (dgl (q2) 2 : Nat))).setCell ⟨p13, 5, none⟩ (.int .u64 (dgl (q2) 3 : Nat))).setCell ⟨p13, 6, none⟩ (.int .u64 (dgl (q2) 4 : Nat))).setCell ⟨p13, 7, none⟩ (.int .u64 (dgl (q2) 5 : Nat))).setCell ⟨p13, 8, none⟩ (.int .u64 (dgl (q2) 6 : Nat))).setCell ⟨p13, 9, none⟩ (.int .u64 (dgl (q2) 7 : Nat))) p13 neg zd q2 from
          ⟨HS.out.under (below_set10 (Below.refl (p11 + 1) w6) p13 HQ.out neg zd q2) (by omega), nb_set HN.out neg zd q2⟩)
        clear HS HK HN HZ
        go_upto_region 13 with fail
        refine wp_gen (fun W => RuSt neg z s w W ∧ NB W p13 neg zd q2) HSS.out ?_
        clear HSS hl13 hf13 yn ye y0 y1 y2 y3 y4 y5 y6 y7
        rintro W7 ⟨g1, g2⟩
        have HS := hide g1
        have HN := hide g2
        clear g1 g2
        have yn := HN.out.n
        have ye := HN.out.e
        have y0 := HN.out.x0
        have y1 := HN.out.x1
        have y2 := HN.out.x2
        have y3 := HN.out.x3
        have y4 := HN.out.x4
        have y5 := HN.out.x5
        have y6 := HN.out.x6
        have y7 := HN.out.x7
        go_wp2_with fail
        refine (HEX.out _ HS.out.g).mono ?_
        rintro e w8 ⟨rfl, hb8⟩
        replace HS := hide (HS.out.below hb8)
        clear hb8 HN yn ye y0 y1 y2 y3 y4 y5 y6 y7
        go_upto_region 16 with fail
        refine wp_gen (fun W => RuSt neg z s w W ∧ WB W w8.heap.size (dgl a 1) (dgl a 0)) ⟨HS.out.below (below_allocs _ _), wb_new2 _ _ _ _⟩ ?_
        clear HS
        generalize w8.heap.size = p16 at *
        rintro W9 ⟨g1, g2⟩
        have HS := hide g1
        have ah := g2.h
        have al := g2.l
        clear g1 g2
        have rh := HS.out.r.h
        have rl := HS.out.r.l
        have hrf := HS.out.fr
        have hlt := HS.out.lt
        have HB := hide HS.out.bel
        clear HS
        go_wp2
        exact bodyPost_ret (v := .tuple #[.agg #[.int .u64 (dgl (a) 1 : Nat), .int .u64 (dgl (a) 0 : Nat)], .int .i64 0, .int .i64 0]) (by simp [results, Tryz.results4, go_sem, hlt, rh, rl]) rfl ⟨rfl, (HB.out.setCell (p := ⟨w.heap.size + 1, 0, none⟩) (Nat.le_succ _) _).setCell (p := ⟨w.heap.size + 1, 1, none⟩) (Nat.le_succ _) _⟩
        
      
    

set_option maxHeartbeats 8000000 in
theorem round_T1 (f m z zc zd tp : Int) (neg more off ok2 : Bool) (k : Nat → Int) (s q q2 a : Nat)
    (HO : Hid (∀ w, FmtG w → Calls Tryz.prog 15 #[.int .i64 f] w fun e w' => e = .returned (.tuple #[.agg #[.int .i64 (k 0), .int .i64 (k 1), .int .i64 (k 2), .int .i64 (k 3), .int .i64 (k 4)], .bool true]) ∧ Below w.heap.size w w'))
    (HIS : Hid (∀ w, Calls Tryz.prog 16 #[.int .i64 m] w fun e w' => e = .returned (.bool true) ∧ w' = w))
    (HRI : Hid (∀ w, Calls Tryz.prog 17 #[.int .i64 (k 1), .agg #[.bool (neg), .int .i64 (z), .int .u64 (dgl (s) 0 : Nat), .int .u64 (dgl (s) 1 : Nat), .int .u64 (dgl (s) 2 : Nat), .int .u64 (dgl (s) 3 : Nat), .int .u64 (dgl (s) 4 : Nat), .int .u64 (dgl (s) 5 : Nat), .int .u64 (dgl (s) 6 : Nat), .int .u64 (dgl (s) 7 : Nat)], .bool more] w fun e w' => e = .returned (.bool true) ∧ Below w.heap.size w w'))
    (hz : ∀ w, (Op.equalIn 10000 25 (.agg #[.int .u64 (dgl (s) 0 : Nat), .int .u64 (dgl (s) 1 : Nat), .int .u64 (dgl (s) 2 : Nat), .int .u64 (dgl (s) 3 : Nat), .int .u64 (dgl (s) 4 : Nat), .int .u64 (dgl (s) 5 : Nat), .int .u64 (dgl (s) 6 : Nat), .int .u64 (dgl (s) 7 : Nat)]) (.agg #[.int .u64 0, .int .u64 0, .int .u64 0, .int .u64 0, .int .u64 0, .int .u64 0, .int .u64 0, .int .u64 0])).run Tryz.prog w = .ok false w)
    (HCU : Hid (∀ c w, CapP c (k 1) w → Calls Tryz.prog 19 #[.int .i64 m, .agg #[.bool (neg), .int .i64 (z), .int .u64 (dgl (s) 0 : Nat), .int .u64 (dgl (s) 1 : Nat), .int .u64 (dgl (s) 2 : Nat), .int .u64 (dgl (s) 3 : Nat), .int .u64 (dgl (s) 4 : Nat), .int .u64 (dgl (s) 5 : Nat), .int .u64 (dgl (s) 6 : Nat), .int .u64 (dgl (s) 7 : Nat)], .bool more, precV c] w fun e w' => e = .returned (.tuple #[.agg #[.bool (neg), .int .i64 (zc), .int .u64 (dgl (q) 0 : Nat), .int .u64 (dgl (q) 1 : Nat), .int .u64 (dgl (q) 2 : Nat), .int .u64 (dgl (q) 3 : Nat), .int .u64 (dgl (q) 4 : Nat), .int .u64 (dgl (q) 5 : Nat), .int .u64 (dgl (q) 6 : Nat), .int .u64 (dgl (q) 7 : Nat)], .bool off]) ∧ Below w.heap.size w w'))
    (HTP : Hid (∀ w, Calls Tryz.prog 21 #[.agg #[.bool (neg), .int .i64 (zc), .int .u64 (dgl (q) 0 : Nat), .int .u64 (dgl (q) 1 : Nat), .int .u64 (dgl (q) 2 : Nat), .int .u64 (dgl (q) 3 : Nat), .int .u64 (dgl (q) 4 : Nat), .int .u64 (dgl (q) 5 : Nat), .int .u64 (dgl (q) 6 : Nat), .int .u64 (dgl (q) 7 : Nat)]] w fun e w' => e = .returned (.int .i64 tp) ∧ Below w.heap.size w w'))
    (hgt : ¬ k 2 < tp)
    (hlt3 : tp < k 3)
    (HC2 : Hid (∀ c w, CapK c k w → Calls Tryz.prog 19 #[.int .i64 m, .agg #[.bool (neg), .int .i64 (z), .int .u64 (dgl (s) 0 : Nat), .int .u64 (dgl (s) 1 : Nat), .int .u64 (dgl (s) 2 : Nat), .int .u64 (dgl (s) 3 : Nat), .int .u64 (dgl (s) 4 : Nat), .int .u64 (dgl (s) 5 : Nat), .int .u64 (dgl (s) 6 : Nat), .int .u64 (dgl (s) 7 : Nat)], .bool more, rndV c] w fun e w' => e = .returned (.tuple #[.agg #[.bool (neg), .int .i64 (zd), .int .u64 (dgl (q2) 0 : Nat), .int .u64 (dgl (q2) 1 : Nat), .int .u64 (dgl (q2) 2 : Nat), .int .u64 (dgl (q2) 3 : Nat), .int .u64 (dgl (q2) 4 : Nat), .int .u64 (dgl (q2) 5 : Nat), .int .u64 (dgl (q2) 6 : Nat), .int .u64 (dgl (q2) 7 : Nat)], .bool true]) ∧ Below w.heap.size w w'))
    (HEX : Hid (∀ w, FmtG w → Calls Tryz.prog 24 #[.int .i64 f, .agg #[.bool (neg), .int .i64 (zd), .int .u64 (dgl (q2) 0 : Nat), .int .u64 (dgl (q2) 1 : Nat), .int .u64 (dgl (q2) 2 : Nat), .int .u64 (dgl (q2) 3 : Nat), .int .u64 (dgl (q2) 4 : Nat), .int .u64 (dgl (q2) 5 : Nat), .int .u64 (dgl (q2) 6 : Nat), .int .u64 (dgl (q2) 7 : Nat)]] w fun e w' => e = .returned (.tuple #[.agg #[.int .u64 (dgl (a) 1 : Nat), .int .u64 (dgl (a) 0 : Nat)], .bool ok2]) ∧ Below w.heap.size w w')) (w : World) (hg : FmtG w) :
    Calls Tryz.prog 4 #[.int .i64 f, .int .i64 m, .agg #[.bool (neg), .int .i64 (z), .int .u64 (dgl (s) 0 : Nat), .int .u64 (dgl (s) 1 : Nat), .int .u64 (dgl (s) 2 : Nat), .int .u64 (dgl (s) 3 : Nat), .int .u64 (dgl (s) 4 : Nat), .int .u64 (dgl (s) 5 : Nat), .int .u64 (dgl (s) 6 : Nat), .int .u64 (dgl (s) 7 : Nat)], .bool more] w fun e w' => e = .returned (.tuple #[.agg #[.int .u64 (dgl (a) 1 : Nat), .int .u64 (dgl (a) 0 : Nat)], .int .i64 24, .int .i64 0]) ∧ Below w.heap.size w w' := by
  have HS := hide (ruSt_start neg z s w hg)
  clear hg
  go_enter Tryz.func4, Tryz.ntmps4
  go_upto_region 1 with fail
  refine wp_gen (fun W => RuSt neg z s w W) HS.out ?_
  clear HS
  rintro W1 h1
  have HS := hide h1
  clear h1
  go_wp2_with fail
  refine (HO.out _ HS.out.g).mono ?_
  rintro e w1 ⟨rfl, hb1⟩
  replace HS := hide (HS.out.below hb1)
  clear hb1
  go_upto_region 2 with fail
  refine wp_gen (fun W => RuSt neg z s w W ∧ CapK w1.heap.size k W) ⟨HS.out.below (below_allocs _ _), capK_new _ _ _⟩ ?_
  have HP := hide (show w.heap.size + 1 + 1 ≤ w1.heap.size from HS.out.lt)
  clear HS
  generalize w1.heap.size = p11 at *
  rintro W2 ⟨g1, g2⟩
  have HS := hide g1
  have HK := hide g2
  clear g1 g2
  go_wp2_with fail
  refine (HIS.out _).mono ?_
  rintro e wl ⟨rfl, hw⟩
  subst wl
  have ln := HS.out.n.n
  have le := HS.out.n.e
  have l0 := HS.out.n.x0
  have l1 := HS.out.n.x1
  have l2 := HS.out.n.x2
  have l3 := HS.out.n.x3
  have l4 := HS.out.n.x4
  have l5 := HS.out.n.x5
  have l6 := HS.out.n.x6
  have l7 := HS.out.n.x7
  have hk1 := HK.out.c 1 (by decide)
  go_wp2_with fail
  refine (HRI.out _).mono ?_
  rintro e w2 ⟨rfl, hb2⟩
  replace HS := hide (HS.out.below hb2)
  replace HK := hide (HK.out.below hb2)
  clear hb2 hk1 ln le l0 l1 l2 l3 l4 l5 l6 l7
  have ln := HS.out.n.n
  have le := HS.out.n.e
  have l0 := HS.out.n.x0
  have l1 := HS.out.n.x1
  have l2 := HS.out.n.x2
  have l3 := HS.out.n.x3
  have l4 := HS.out.n.x4
  have l5 := HS.out.n.x5
  have l6 := HS.out.n.x6
  have l7 := HS.out.n.x7
  go_upto_region 6 with fail
  refine wp_gen (fun W => RuSt neg z s w W ∧ CapK p11 k W) ⟨HS.out, HK.out⟩ ?_
  clear HS HK ln le l0 l1 l2 l3 l4 l5 l6 l7
  have hp11 := HP.out
  rintro W3 h3
  refine wp_region_storeK 13 [11] [48, 49, 50, 51, 52, 53, 54, 47, 55, 56, 13, 14] (fun bs => [(48, .val (.int .i64 m)), (49, .val (.agg #[.bool (neg), .int .i64 (z), .int .u64 (dgl (s) 0 : Nat), .int .u64 (dgl (s) 1 : Nat), .int .u64 (dgl (s) 2 : Nat), .int .u64 (dgl (s) 3 : Nat), .int .u64 (dgl (s) 4 : Nat), .int .u64 (dgl (s) 5 : Nat), .int .u64 (dgl (s) 6 : Nat), .int .u64 (dgl (s) 7 : Nat)])), (50, .val (.bool more)), (51, .val (.pointer (some ⟨p11, 1, none⟩))), (52, .val (.int .i64 (k 1))), (53, bif bs.headD false then SlotIs.any  else SlotIs.prec (k 1)), (54, .val (.tuple #[.agg #[.bool (neg), .int .i64 (zc), .int .u64 (dgl (q) 0 : Nat), .int .u64 (dgl (q) 1 : Nat), .int .u64 (dgl (q) 2 : Nat), .int .u64 (dgl (q) 3 : Nat), .int .u64 (dgl (q) 4 : Nat), .int .u64 (dgl (q) 5 : Nat), .int .u64 (dgl (q) 6 : Nat), .int .u64 (dgl (q) 7 : Nat)], .bool off])), (47, .val (.tuple #[.agg #[.bool (neg), .int .i64 (zc), .int .u64 (dgl (q) 0 : Nat), .int .u64 (dgl (q) 1 : Nat), .int .u64 (dgl (q) 2 : Nat), .int .u64 (dgl (q) 3 : Nat), .int .u64 (dgl (q) 4 : Nat), .int .u64 (dgl (q) 5 : Nat), .int .u64 (dgl (q) 6 : Nat), .int .u64 (dgl (q) 7 : Nat)], .bool off])), (55, .val (.agg #[.bool (neg), .int .i64 (zc), .int .u64 (dgl (q) 0 : Nat), .int .u64 (dgl (q) 1 : Nat), .int .u64 (dgl (q) 2 : Nat), .int .u64 (dgl (q) 3 : Nat), .int .u64 (dgl (q) 4 : Nat), .int .u64 (dgl (q) 5 : Nat), .int .u64 (dgl (q) 6 : Nat), .int .u64 (dgl (q) 7 : Nat)])), (56, .val (.bool off)), (13, bif bs.headD false then SlotIs.nbox (p11 + 1) neg zc q else SlotIs.nbox (p11 + 1) false 0 0), (14, .val (.bool off))])
    (fun _ W => RuSt neg z s w W ∧ CapK p11 k W) (fun bs => rfl) mixedOk (by kernel_rfl) (by kernel_rfl) (by kernel_rfl) (⟨h3.1.below (Below.refl _ _).drew, h3.2.below (Below.refl _ _).drew⟩) (fun bs W W' h hb => ⟨h.1.below hb, h.2.below hb⟩) ?_ ?_
  · refine kSt rfl (fun φ hφ => gStep_run rfl (gRun_move 1 48 (.inl rfl) rfl (by decide +kernel) (fun v w h => h))) ?_
    refine kSt rfl (fun φ hφ => gStep_run rfl ?_) ?_
    · intro ρ W hC hc hf hL
      have e6 : ρ (.tmp 6) = .pointer (some ⟨w.heap.size, 0, none⟩) := hL 6 (by decide +kernel)
      have ln := hC.1.n.n
      have le := hC.1.n.e
      have l0 := hC.1.n.x0
      have l1 := hC.1.n.x1
      have l2 := hC.1.n.x2
      have l3 := hC.1.n.x3
      have l4 := hC.1.n.x4
      have l5 := hC.1.n.x5
      have l6 := hC.1.n.x6
      have l7 := hC.1.n.x7
      simp [go_sem, hc, hf, e6, ln, le, l0, l1, l2, l3, l4, l5, l6, l7]
      exact ⟨Below.refl _ _, rfl⟩
    refine kSt rfl (fun φ hφ => gStep_run rfl (gRun_move 3 50 (.inl rfl) rfl (by decide +kernel) (fun v w h => h))) ?_
    refine kSt rfl (fun φ hφ => gStep_run rfl ?_) ?_
    · intro ρ W hC hc hf hL
      have e11 : ρ (.tmp 11) = .pointer (some ⟨p11, 0, none⟩) := hL 11 (by decide +kernel)
      simp [go_sem, hc, hf, e11]
      exact ⟨Below.refl _ _, rfl⟩
    refine kSt rfl (fun φ hφ => gStep_run rfl ?_) ?_
    · intro ρ W hC hc hf hL
      have e51 : ρ (.tmp 51) = .pointer (some ⟨p11, 1, none⟩) := hL 51 (by decide +kernel)
      have hk1 := hC.2.c 1 (by decide)
      simp [go_sem, hc, hf, e51, hk1]
      exact ⟨Below.refl _ _, rfl⟩
    refine kSt rfl (fun φ hφ => gStep_run rfl ?_) ?_
    · intro ρ W hC hc hf hL
      have hφ0 : φ 11 = false := hφ 11 (by simp) (by kernel_rfl)
      have e52 : ρ (.tmp 52) = .int .i64 (k 1) := hL 52 (by decide +kernel)
      simp [go_sem, hc, hf, e52]
      refine (precise_any _ W).mono ?_
      rintro e w' ⟨rfl, hc2, hb⟩
      refine ⟨_, rfl, hb, ?_⟩
      show (bif φ 11 then SlotIs.any else SlotIs.prec (k 1)).R _ _
      rw [hφ0]
      exact ⟨_, rfl, hc2⟩
    refine kSt rfl (fun φ hφ => gStep_run rfl ?_) ?_
    · intro ρ W hC hc hf hL
      have hφ0 : φ 11 = false := hφ 11 (by simp) (by kernel_rfl)
      have e48 : ρ (.tmp 48) = .int .i64 m := hL 48 (by decide +kernel)
      have e49 : ρ (.tmp 49) = .agg #[.bool (neg), .int .i64 (z), .int .u64 (dgl (s) 0 : Nat), .int .u64 (dgl (s) 1 : Nat), .int .u64 (dgl (s) 2 : Nat), .int .u64 (dgl (s) 3 : Nat), .int .u64 (dgl (s) 4 : Nat), .int .u64 (dgl (s) 5 : Nat), .int .u64 (dgl (s) 6 : Nat), .int .u64 (dgl (s) 7 : Nat)] := hL 49 (by decide +kernel)
      have e50 : ρ (.tmp 50) = .bool more := hL 50 (by decide +kernel)
      have b53 : (bif φ 11 then SlotIs.any  else SlotIs.prec (k 1)).R (ρ (.tmp 53)) W := hL 53 (by decide +kernel)
      rw [hφ0] at b53
      obtain ⟨q53, e53, cc⟩ := b53
      simp [go_sem, hc, hf, e48, e49, e50, e53]
      refine (HCU.out q53 W cc).mono ?_
      rintro e w' ⟨rfl, hb⟩
      exact ⟨_, rfl, by first | exact hb | (subst hb; exact Below.refl _ _), rfl⟩
    refine kSt rfl (fun φ hφ => gStep_run rfl (gRun_move 54 47 (.inl rfl) rfl (by decide +kernel) (fun v w h => h))) ?_
    refine kSt rfl (fun φ hφ => gStep_run rfl ?_) ?_
    · intro ρ W hC hc hf hL
      have e47 : ρ (.tmp 47) = .tuple #[.agg #[.bool (neg), .int .i64 (zc), .int .u64 (dgl (q) 0 : Nat), .int .u64 (dgl (q) 1 : Nat), .int .u64 (dgl (q) 2 : Nat), .int .u64 (dgl (q) 3 : Nat), .int .u64 (dgl (q) 4 : Nat), .int .u64 (dgl (q) 5 : Nat), .int .u64 (dgl (q) 6 : Nat), .int .u64 (dgl (q) 7 : Nat)], .bool off] := hL 47 (by decide +kernel)
      simp [go_sem, hc, hf, e47]
      exact ⟨Below.refl _ _, rfl⟩
    refine kSt rfl (fun φ hφ => gStep_run rfl ?_) ?_
    · intro ρ W hC hc hf hL
      have e47 : ρ (.tmp 47) = .tuple #[.agg #[.bool (neg), .int .i64 (zc), .int .u64 (dgl (q) 0 : Nat), .int .u64 (dgl (q) 1 : Nat), .int .u64 (dgl (q) 2 : Nat), .int .u64 (dgl (q) 3 : Nat), .int .u64 (dgl (q) 4 : Nat), .int .u64 (dgl (q) 5 : Nat), .int .u64 (dgl (q) 6 : Nat), .int .u64 (dgl (q) 7 : Nat)], .bool off] := hL 47 (by decide +kernel)
      simp [go_sem, hc, hf, e47]
      exact ⟨Below.refl _ _, rfl⟩
    refine kSt rfl (fun φ hφ => gStep_run rfl ?_) ?_
    · intro ρ W hC hc hf hL
      have hφ0 : φ 11 = false := hφ 11 (by simp) (by kernel_rfl)
      simp [go_sem, hc, hf]
      refine ⟨below_allocs _ _, ?_⟩
      show (bif φ 11 then SlotIs.nbox (p11 + 1) neg zc q else SlotIs.nbox (p11 + 1) false 0 0).R _ _
      rw [hφ0]
      exact ⟨_, rfl, hC.2.lt, nb_zero _ _, fun i => by simp [go_sem]⟩
    refine kStS rfl ⟨rfl, rfl, ?_⟩ ?_
    · intro φ ρ W hφ hC hc hL
      have b13 := hL 13 (by decide +kernel)
      have e55 : ρ (.tmp 55) = .agg #[.bool (neg), .int .i64 (zc), .int .u64 (dgl (q) 0 : Nat), .int .u64 (dgl (q) 1 : Nat), .int .u64 (dgl (q) 2 : Nat), .int .u64 (dgl (q) 3 : Nat), .int .u64 (dgl (q) 4 : Nat), .int .u64 (dgl (q) 5 : Nat), .int .u64 (dgl (q) 6 : Nat), .int .u64 (dgl (q) 7 : Nat)] := hL 55 (by decide +kernel)
      have bx : (bif φ 11 then SlotIs.nbox (p11 + 1) neg zc q else SlotIs.nbox (p11 + 1) false 0 0).R (ρ (.tmp 13)) W := hL 13 (by decide +kernel)
      rw [hφ] at bx
      obtain ⟨px, ex, qx, lx, zx⟩ := bx
      have yn := lx.n
      have ye := lx.e
      have y0 := lx.x0
      have y1 := lx.x1
      have y2 := lx.x2
      have y3 := lx.x3
      have y4 := lx.x4
      have y5 := lx.x5
      have y6 := lx.x6
      have y7 := lx.x7
      have hzl := lx.lt
      refine gUpon_of ((((((((((W.setCell ⟨px, 0, none⟩ (.bool (neg))).setCell ⟨px, 1, none⟩ (.int .i64 (zc))).setCell ⟨px, 2, none⟩ (.int .u64 (dgl (q) 0 : Nat))).setCell ⟨px, 3, none⟩ (.int .u64 (dgl (q) 1 : Nat))).setCell ⟨px, 4, none⟩ (.int .u64 (dgl (q) 2 : Nat))).setCell ⟨px, 5, none⟩ (.int .u64 (dgl (q) 3 : Nat))).setCell ⟨px, 6, none⟩ (.int .u64 (dgl (q) 4 : Nat))).setCell ⟨px, 7, none⟩ (.int .u64 (dgl (q) 5 : Nat))).setCell ⟨px, 8, none⟩ (.int .u64 (dgl (q) 6 : Nat))).setCell ⟨px, 9, none⟩ (.int .u64 (dgl (q) 7 : Nat))) ?_ (fun _ => ?_)
      · simp [go_sem, hc, e55, ex, hzl, zx, yn, ye, y0, y1, y2, y3, y4, y5, y6, y7, gUpon]
      have hs10 := below_set10 (Below.refl (p11 + 1) W) px qx neg zc q
      refine ⟨⟨hC.1.under hs10 (by omega), hC.2.under hs10 (Nat.lt_succ_self _)⟩, fun t => ?_⟩
      refine (tbl_imp rfl (fun _ => val_imp) (tbl_imp rfl (fun _ => val_imp) (tbl_imp rfl (fun _ => val_imp) (tbl_imp rfl (fun _ => val_imp) (tbl_imp rfl (fun _ => val_imp) (tbl_imp rfl (fun ht h => ?_) (tbl_imp rfl (fun _ => val_imp) (tbl_imp rfl (fun _ => val_imp) (tbl_imp rfl (fun _ => val_imp) (tbl_imp rfl (fun _ => val_imp) (tbl_imp rfl (fun ht h => ?_) (tbl_imp rfl (fun _ => val_imp) tbl_nil_imp))))))))))))
      · subst ht
        show (bif (φ 11 || true) then SlotIs.any else SlotIs.prec (k 1)).R _ _
        rw [Bool.or_true]
        trivial
      · subst ht
        show (bif (φ 11 || true) then SlotIs.nbox (p11 + 1) neg zc q else SlotIs.nbox (p11 + 1) false 0 0).R _ _
        rw [Bool.or_true]
        exact ⟨px, ex, qx, nb_set lx neg zc q, fun i => by simpa [go_sem] using zx i⟩
    refine kSt rfl (fun φ hφ => gStep_run rfl (gRun_move 56 14 (.inr rfl) rfl (by decide +kernel) (fun v w h => h))) ?_
    exact kSt0
  · intro W hC
    refine gFi 48 rfl ?_
    rintro _ rfl
    refine gFi 49 rfl ?_
    rintro _ rfl
    refine gFi 50 rfl ?_
    rintro _ rfl
    refine gFi 51 rfl ?_
    rintro _ rfl
    refine gFi 52 rfl ?_
    rintro _ rfl
    refine gFi 53 rfl ?_
    rintro u53 b53
    refine gFi 54 rfl ?_
    rintro _ rfl
    refine gFi 47 rfl ?_
    rintro _ rfl
    refine gFi 55 rfl ?_
    rintro _ rfl
    refine gFi 56 rfl ?_
    rintro _ rfl
    refine gFi 13 rfl ?_
    rintro u13 b13
    refine gFiN rfl ?_
    refine gFi 14 rfl ?_
    rintro _ rfl
    refine gFi0 ?_
    simp only [List.drop_succ_cons, List.drop_zero, Act.put, List.setIfInBounds_toArray, List.set_cons_succ, List.set_cons_zero]
    obtain ⟨p13, rfl, q13, l13, z13⟩ := b13
    have HS := hide hC.1
    have HK := hide hC.2
    have HN := hide l13
    have HZ := hide z13
    have HQ := hide q13
    clear hC l13 q13 z13 h3 b53
    go_upto_region 8 with fail
    refine wp_gen (fun W => RuSt neg z s w W ∧ CapK p11 k W ∧ NB W p13 neg zc q ∧ ∀ i, W.frozen? ⟨p13, i, none⟩ = false) ⟨HS.out, HK.out, HN.out, HZ.out⟩ ?_
    clear HS HK HN HZ
    rintro W4 h8
    refine wp_region_grow 6 [(58, .val (.agg #[.bool (neg), .int .i64 (zc), .int .u64 (dgl (q) 0 : Nat), .int .u64 (dgl (q) 1 : Nat), .int .u64 (dgl (q) 2 : Nat), .int .u64 (dgl (q) 3 : Nat), .int .u64 (dgl (q) 4 : Nat), .int .u64 (dgl (q) 5 : Nat), .int .u64 (dgl (q) 6 : Nat), .int .u64 (dgl (q) 7 : Nat)])), (59, .val (.int .i64 tp)), (60, .val (.pointer (some ⟨p11, 2, none⟩))), (61, .val (.int .i64 (k 2))), (62, .val (.bool false)), (57, .val (.bool false))]
      (fun W => RuSt neg z s w W ∧ CapK p11 k W ∧ NB W p13 neg zc q ∧ ∀ i, W.frozen? ⟨p13, i, none⟩ = false) mixedOk (by kernel_rfl) (by kernel_rfl) (⟨h8.1.below (Below.refl _ _).drew, h8.2.1.below (Below.refl _ _).drew, h8.2.2.1.below (Below.refl _ _).drew, fun i => ((Below.refl _ _).drew.frozen (p := ⟨p13, i, none⟩) h8.2.2.1.lt).trans (h8.2.2.2 i)⟩) (fun W W' h hb => ⟨h.1.below hb, h.2.1.below hb, h.2.2.1.below hb, fun i => (hb.frozen (p := ⟨p13, i, none⟩) h.2.2.1.lt).trans (h.2.2.2 i)⟩) ?_ ?_
    · refine gSt (gStep_run rfl ?_) ?_
      · intro ρ W hC hc hf hL
        have e13 : ρ (.tmp 13) = .pointer (some ⟨p13, 0, none⟩) := hL 13 (by decide +kernel)
        have yn := hC.2.2.1.n
        have ye := hC.2.2.1.e
        have y0 := hC.2.2.1.x0
        have y1 := hC.2.2.1.x1
        have y2 := hC.2.2.1.x2
        have y3 := hC.2.2.1.x3
        have y4 := hC.2.2.1.x4
        have y5 := hC.2.2.1.x5
        have y6 := hC.2.2.1.x6
        have y7 := hC.2.2.1.x7
        simp [go_sem, hc, hf, e13, yn, ye, y0, y1, y2, y3, y4, y5, y6, y7]
        exact ⟨Below.refl _ _, rfl⟩
      refine gSt (gStep_run rfl ?_) ?_
      · intro ρ W hC hc hf hL
        have e58 : ρ (.tmp 58) = .agg #[.bool (neg), .int .i64 (zc), .int .u64 (dgl (q) 0 : Nat), .int .u64 (dgl (q) 1 : Nat), .int .u64 (dgl (q) 2 : Nat), .int .u64 (dgl (q) 3 : Nat), .int .u64 (dgl (q) 4 : Nat), .int .u64 (dgl (q) 5 : Nat), .int .u64 (dgl (q) 6 : Nat), .int .u64 (dgl (q) 7 : Nat)] := hL 58 (by decide +kernel)
        simp [go_sem, hc, hf, e58]
        refine (HTP.out W).mono ?_
        rintro e w' ⟨rfl, hb⟩
        exact ⟨_, rfl, by first | exact hb | (subst hb; exact Below.refl _ _), rfl⟩
      refine gSt (gStep_run rfl ?_) ?_
      · intro ρ W hC hc hf hL
        have e11 : ρ (.tmp 11) = .pointer (some ⟨p11, 0, none⟩) := hL 11 (by decide +kernel)
        simp [go_sem, hc, hf, e11]
        exact ⟨Below.refl _ _, rfl⟩
      refine gSt (gStep_run rfl ?_) ?_
      · intro ρ W hC hc hf hL
        have e60 : ρ (.tmp 60) = .pointer (some ⟨p11, 2, none⟩) := hL 60 (by decide +kernel)
        have hk := hC.2.1.c 2 (by decide)
        simp [go_sem, hc, hf, e60, hk]
        exact ⟨Below.refl _ _, rfl⟩
      refine gSt (gStep_run rfl ?_) ?_
      · intro ρ W hC hc hf hL
        have e59 : ρ (.tmp 59) = .int .i64 tp := hL 59 (by decide +kernel)
        have e61 : ρ (.tmp 61) = .int .i64 (k 2) := hL 61 (by decide +kernel)
        have hg2 : decide (k 2 < tp) = false := decide_eq_false (by omega)
        simp [go_sem, hc, hf, e59, e61, hg2, hgt]
        exact ⟨Below.refl _ _, rfl⟩
      refine gSt (gStep_run rfl (gRun_move 62 57 (.inr rfl) rfl (by decide +kernel) (fun v w h => h))) ?_
      exact gSt0
    · intro W hC
      refine gFi 58 rfl ?_
      rintro _ rfl
      refine gFi 59 rfl ?_
      rintro _ rfl
      refine gFi 60 rfl ?_
      rintro _ rfl
      refine gFi 61 rfl ?_
      rintro _ rfl
      refine gFi 62 rfl ?_
      rintro _ rfl
      refine gFi 57 rfl ?_
      rintro _ rfl
      refine gFi0 ?_
      simp only [List.drop_succ_cons, List.drop_zero, Act.put, List.setIfInBounds_toArray, List.set_cons_succ, List.set_cons_zero]
      have HS := hide hC.1
      have HK := hide hC.2.1
      have HN := hide hC.2.2.1
      have HZ := hide hC.2.2.2
      clear hC h8
      go_upto_region 10 with fail
      refine wp_gen (fun W => RuSt neg z s w W ∧ CapK p11 k W ∧ NB W p13 neg zc q ∧ ∀ i, W.frozen? ⟨p13, i, none⟩ = false) ⟨HS.out, HK.out, HN.out, HZ.out⟩ ?_
      clear HS HK HN HZ
      rintro W5 h10
      refine wp_region_grow 6 [(69, .val (.agg #[.bool (neg), .int .i64 (zc), .int .u64 (dgl (q) 0 : Nat), .int .u64 (dgl (q) 1 : Nat), .int .u64 (dgl (q) 2 : Nat), .int .u64 (dgl (q) 3 : Nat), .int .u64 (dgl (q) 4 : Nat), .int .u64 (dgl (q) 5 : Nat), .int .u64 (dgl (q) 6 : Nat), .int .u64 (dgl (q) 7 : Nat)])), (70, .val (.int .i64 tp)), (71, .val (.pointer (some ⟨p11, 3, none⟩))), (72, .val (.int .i64 (k 3))), (73, .val (.bool true)), (68, .val (.bool true))]
        (fun W => RuSt neg z s w W ∧ CapK p11 k W ∧ NB W p13 neg zc q ∧ ∀ i, W.frozen? ⟨p13, i, none⟩ = false) mixedOk (by kernel_rfl) (by kernel_rfl) (⟨h10.1.below (Below.refl _ _).drew, h10.2.1.below (Below.refl _ _).drew, h10.2.2.1.below (Below.refl _ _).drew, fun i => ((Below.refl _ _).drew.frozen (p := ⟨p13, i, none⟩) h10.2.2.1.lt).trans (h10.2.2.2 i)⟩) (fun W W' h hb => ⟨h.1.below hb, h.2.1.below hb, h.2.2.1.below hb, fun i => (hb.frozen (p := ⟨p13, i, none⟩) h.2.2.1.lt).trans (h.2.2.2 i)⟩) ?_ ?_
      · refine gSt (gStep_run rfl ?_) ?_
        · intro ρ W hC hc hf hL
          have e13 : ρ (.tmp 13) = .pointer (some ⟨p13, 0, none⟩) := hL 13 (by decide +kernel)
          have yn := hC.2.2.1.n
          have ye := hC.2.2.1.e
          have y0 := hC.2.2.1.x0
          have y1 := hC.2.2.1.x1
          have y2 := hC.2.2.1.x2
          have y3 := hC.2.2.1.x3
          have y4 := hC.2.2.1.x4
          have y5 := hC.2.2.1.x5
          have y6 := hC.2.2.1.x6
          have y7 := hC.2.2.1.x7
          simp [go_sem, hc, hf, e13, yn, ye, y0, y1, y2, y3, y4, y5, y6, y7]
          exact ⟨Below.refl _ _, rfl⟩
        refine gSt (gStep_run rfl ?_) ?_
        · intro ρ W hC hc hf hL
          have e69 : ρ (.tmp 69) = .agg #[.bool (neg), .int .i64 (zc), .int .u64 (dgl (q) 0 : Nat), .int .u64 (dgl (q) 1 : Nat), .int .u64 (dgl (q) 2 : Nat), .int .u64 (dgl (q) 3 : Nat), .int .u64 (dgl (q) 4 : Nat), .int .u64 (dgl (q) 5 : Nat), .int .u64 (dgl (q) 6 : Nat), .int .u64 (dgl (q) 7 : Nat)] := hL 69 (by decide +kernel)
          simp [go_sem, hc, hf, e69]
          refine (HTP.out W).mono ?_
          rintro e w' ⟨rfl, hb⟩
          exact ⟨_, rfl, by first | exact hb | (subst hb; exact Below.refl _ _), rfl⟩
        refine gSt (gStep_run rfl ?_) ?_
        · intro ρ W hC hc hf hL
          have e11 : ρ (.tmp 11) = .pointer (some ⟨p11, 0, none⟩) := hL 11 (by decide +kernel)
          simp [go_sem, hc, hf, e11]
          exact ⟨Below.refl _ _, rfl⟩
        refine gSt (gStep_run rfl ?_) ?_
        · intro ρ W hC hc hf hL
          have e71 : ρ (.tmp 71) = .pointer (some ⟨p11, 3, none⟩) := hL 71 (by decide +kernel)
          have hk := hC.2.1.c 3 (by decide)
          simp [go_sem, hc, hf, e71, hk]
          exact ⟨Below.refl _ _, rfl⟩
        refine gSt (gStep_run rfl ?_) ?_
        · intro ρ W hC hc hf hL
          have e70 : ρ (.tmp 70) = .int .i64 tp := hL 70 (by decide +kernel)
          have e72 : ρ (.tmp 72) = .int .i64 (k 3) := hL 72 (by decide +kernel)
          have hg3 : decide (tp < k 3) = true := decide_eq_true (by omega)
          simp [go_sem, hc, hf, e70, e72, hg3, hlt3]
          exact ⟨Below.refl _ _, rfl⟩
        refine gSt (gStep_run rfl (gRun_move 73 68 (.inr rfl) rfl (by decide +kernel) (fun v w h => h))) ?_
        exact gSt0
      · intro W hC
        refine gFi 69 rfl ?_
        rintro _ rfl
        refine gFi 70 rfl ?_
        rintro _ rfl
        refine gFi 71 rfl ?_
        rintro _ rfl
        refine gFi 72 rfl ?_
        rintro _ rfl
        refine gFi 73 rfl ?_
        rintro _ rfl
        refine gFi 68 rfl ?_
        rintro _ rfl
        refine gFi0 ?_
        simp only [List.drop_succ_cons, List.drop_zero, Act.put, List.setIfInBounds_toArray, List.set_cons_succ, List.set_cons_zero]
        have HS := hide hC.1
        have HK := hide hC.2.1
        have HN := hide hC.2.2.1
        have HZ := hide hC.2.2.2
        clear hC h10
        have ln := HS.out.n.n
        have le := HS.out.n.e
        have l0 := HS.out.n.x0
        have l1 := HS.out.n.x1
        have l2 := HS.out.n.x2
        have l3 := HS.out.n.x3
        have l4 := HS.out.n.x4
        have l5 := HS.out.n.x5
        have l6 := HS.out.n.x6
        have l7 := HS.out.n.x7
        go_wp2_with fail
        refine (HC2.out p11 _ HK.out).mono ?_
        rintro e w6 ⟨rfl, hb6⟩
        replace HZ := hide (show ∀ i, w6.frozen? ⟨p13, i, none⟩ = false from fun i => (hb6.frozen (p := ⟨p13, i, none⟩) HN.out.lt).trans (HZ.out i))
        replace HS := hide (HS.out.below hb6)
        replace HK := hide (HK.out.below hb6)
        replace HN := hide (HN.out.below hb6)
        clear hb6 ln le l0 l1 l2 l3 l4 l5 l6 l7
        have yn := HN.out.n
        have ye := HN.out.e
        have y0 := HN.out.x0
        have y1 := HN.out.x1
        have y2 := HN.out.x2
        have y3 := HN.out.x3
        have y4 := HN.out.x4
        have y5 := HN.out.x5
        have y6 := HN.out.x6
        have y7 := HN.out.x7
        have hl13 := HN.out.lt
        have hf13 := HZ.out
        have HSS := hide (show RuSt neg z s w _ ∧ NB ((((((((((w6.setCell ⟨p13, 0, none⟩ (.bool (neg))).setCell ⟨p13, 1, none⟩ (.int .i64 (zd))).setCell ⟨p13, 2, none⟩ (.int .u64 (dgl (q2) 0 : Nat))).setCell ⟨p13, 3, none⟩ (.int .u64 (dgl (q2) 1 : Nat))).setCell ⟨p13, 4, none⟩ (.int .u64 (dgl (q2) 2 : Nat))).setCell ⟨p13, 5, none⟩ (.int .u64 (dgl (q2) 3 : Nat))).setCell ⟨p13, 6, none⟩ (.int .u64 (dgl (q2) 4 : Nat))).setCell ⟨p13, 7, none⟩ (.int .u64 (dgl (q2) 5 : Nat))).setCell ⟨p13, 8, none⟩ (.int .u64 (dgl (q2) 6 : Nat))).setCell ⟨p13, 9, none⟩ (.int .u64 (dgl (q2) 7 : Nat))) p13 neg zd q2 from
          ⟨HS.out.under (below_set10 (Below.refl (p11 + 1) w6) p13 HQ.out neg zd q2) (by omega), nb_set HN.out neg zd q2⟩)
        clear HS HK HN HZ
        go_upto_region 13 with fail
        refine wp_gen (fun W => RuSt neg z s w W ∧ NB W p13 neg zd q2) HSS.out ?_
        clear HSS hl13 hf13 yn ye y0 y1 y2 y3 y4 y5 y6 y7
        rintro W7 ⟨g1, g2⟩
        have HS := hide g1
        have HN := hide g2
        clear g1 g2
        have yn := HN.out.n
        have ye := HN.out.e
        have y0 := HN.out.x0
        have y1 := HN.out.x1
        have y2 := HN.out.x2
        have y3 := HN.out.x3
        have y4 := HN.out.x4
        have y5 := HN.out.x5
        have y6 := HN.out.x6
        have y7 := HN.out.x7
        go_wp2_with fail
        refine (HEX.out _ HS.out.g).mono ?_
        rintro e w8 ⟨rfl, hb8⟩
        replace HS := hide (HS.out.below hb8)
        clear hb8 HN yn ye y0 y1 y2 y3 y4 y5 y6 y7
        go_upto_region 16 with fail
        refine wp_gen (fun W => RuSt neg z s w W ∧ WB W w8.heap.size (dgl a 1) (dgl a 0)) ⟨HS.out.below (below_allocs _ _), wb_new2 _ _ _ _⟩ ?_
        clear HS
        generalize w8.heap.size = p16 at *
        rintro W9 ⟨g1, g2⟩
        have HS := hide g1
        have ah := g2.h
        have al := g2.l
        clear g1 g2
        have rh := HS.out.r.h
        have rl := HS.out.r.l
        have hrf := HS.out.fr
        have hlt := HS.out.lt
        have HB := hide HS.out.bel
        clear HS
        go_wp2
        exact bodyPost_ret (v := .tuple #[.agg #[.int .u64 (dgl (a) 1 : Nat), .int .u64 (dgl (a) 0 : Nat)], .int .i64 24, .int .i64 0]) (by simp [results, Tryz.results4, go_sem, hlt, rh, rl]; first | rfl | decide +kernel) rfl ⟨rfl, (HB.out.setCell (p := ⟨w.heap.size + 1, 0, none⟩) (Nat.le_succ _) _).setCell (p := ⟨w.heap.size + 1, 1, none⟩) (Nat.le_succ _) _⟩
        
      
    

end Go.Proofs.YtpcjdllijkjdkaaGreatDoor

/- Contracts: pack.Round at any number; numbers of rounding. -/
set_option linter.unusedVariables false
set_option linter.unusedSimpArgs false
set_option maxRecDepth 8000
namespace Go.Proofs.YtpcjdllijkjdkaaGreatDoor
open Go.RowKit Plain

theorem growN_nil (m : Int) (neg od : Bool) : growN m neg od ((0 : Nat) : Int) = false := if_pos (by omega)
theorem cutN_bd (s k : Nat) (m : Int) (more neg : Bool) : s / 2 ^ k ≤ cutN s k m more neg ∧ cutN s k m more neg ≤ s / 2 ^ k + 1 := by
  unfold cutN
  cases growN m neg (s / 2 ^ k % 2 == 1) (restN s k more : Nat)
  · exact ⟨Nat.le_refl _, Nat.le_succ _⟩
  · exact ⟨Nat.le_succ _, Nat.le_refl _⟩
theorem cutN_keep {s k : Nat} {more : Bool} (m : Int) (neg : Bool) (h : restN s k more = 0) : cutN s k m more neg = s / 2 ^ k := by
  unfold cutN
  rw [h, growN_nil]
  rfl
theorem restN_0 (s : Nat) : restN s 0 false = 0 := by rw [restN_zero]; rfl
theorem cutN_0 (s : Nat) (m : Int) (neg : Bool) : cutN s 0 m false neg = s := by rw [cutN_keep m neg (restN_0 s), Nat.pow_zero, Nat.div_one]
theorem cutN_qq {s k : Nat} {m : Int} {more neg : Bool} (h : Go.bitLen s ≤ 511) : cutN s k m more neg < QQ := by
  have h1 := (cutN_bd s k m more neg).2
  obtain ⟨r, hr⟩ : ∃ r, r = 511 := ⟨_, rfl⟩
  rw [← hr] at h
  have h2 := (len_le s r).1 h
  have h3 := Nat.div_le_self s (2 ^ k)
  have e := qq_pow (r + 1) (by omega)
  have e2 : 2 ^ (r + 1) = 2 * 2 ^ r := Nat.pow_succ'
  rw [e] at e2
  have e3 := Nat.pow_le_pow_right (show 0 < 2 by decide) (show 1 ≤ r by omega)
  generalize 2 ^ r = y at *
  omega
theorem len_div {s k : Nat} (hs : s ≠ 0) (h : k < Go.bitLen s) : Go.bitLen (s / 2 ^ k) = Go.bitLen s - k := by
  have h1 := len_lt s
  have h2 := len_ge hs
  have e1 : 2 ^ Go.bitLen s = 2 ^ (Go.bitLen s - k) * 2 ^ k := by rw [← Nat.pow_add]; congr 1; omega
  have e2 : 2 ^ (Go.bitLen s - 1) = 2 ^ (Go.bitLen s - 1 - k) * 2 ^ k := by rw [← Nat.pow_add]; congr 1; omega
  have h3 : s / 2 ^ k < 2 ^ (Go.bitLen s - k) := (Nat.div_lt_iff_lt_mul (Nat.two_pow_pos k)).2 (by rw [← e1]; exact h1)
  have h4 : 2 ^ (Go.bitLen s - 1 - k) ≤ s / 2 ^ k := (Nat.le_div_iff_mul_le (Nat.two_pow_pos k)).2 (by rw [← e2]; exact h2)
  have h5 := (len_le (s / 2 ^ k) (Go.bitLen s - k)).2 h3
  have h6 : ¬ Go.bitLen (s / 2 ^ k) ≤ Go.bitLen s - 1 - k := fun h7 => by
    have := (len_le _ _).1 h7
    omega
  omega
theorem len_pow (n : Nat) : Go.bitLen (2 ^ n) = n + 1 := by
  have h1 := (len_le (2 ^ n) (n + 1)).2 (by rw [Nat.pow_succ]; have := Nat.two_pow_pos n; omega)
  have h2 : ¬ Go.bitLen (2 ^ n) ≤ n := fun h => by
    have := (len_le _ _).1 h
    omega
  omega
/-- A number that keeps n digits has n of them, or is 2^n. -/
theorem cut_len {s n : Nat} {m : Int} {more neg : Bool} (h : n < Go.bitLen s) (hn : 0 < n) : (Go.bitLen (cutN s (Go.bitLen s - n) m more neg) = n ∧ 2 ^ (n - 1) ≤ cutN s (Go.bitLen s - n) m more neg) ∨ cutN s (Go.bitLen s - n) m more neg = 2 ^ n := by
  have h0 : s ≠ 0 := fun e => by rw [e] at h; exact absurd h (Nat.not_lt_zero _)
  have hd := len_div h0 (show Go.bitLen s - n < Go.bitLen s by omega)
  obtain ⟨b1, b2⟩ := cutN_bd s (Go.bitLen s - n) m more neg
  generalize cutN s (Go.bitLen s - n) m more neg = q at *
  have hd2 : Go.bitLen (s / 2 ^ (Go.bitLen s - n)) = n := by omega
  generalize s / 2 ^ (Go.bitLen s - n) = d at *
  have hd0 : d ≠ 0 := fun e => by rw [e] at hd2; have : Go.bitLen 0 = 0 := rfl; omega
  have h1 := len_lt d
  have h2 := len_ge hd0
  rw [hd2] at h1 h2
  by_cases hq : q = 2 ^ n
  · exact .inr hq
  · refine .inl ⟨?_, by omega⟩
    have h3 := (len_le q n).2 (by omega)
    have h4 : ¬ Go.bitLen q ≤ n - 1 := fun h5 => by
      have := (len_le q (n - 1)).1 h5
      omega
    omega

/-- A finite word stands for a number without its sign. -/
def rep (f : Int) (q : Nat) (z : Int) : Prop := ∃ a, a < 2 ^ 128 ∧ 4 ≤ clsU f a ∧ sizeZ (sigU f a) (expU f a) q z = 0
theorem rep_word {f : Int} (hf : 1 ≤ f ∧ f ≤ 4) {u q : Nat} {la z : Int} (h1 : Go.bitLen u ≤ prU f) (h2 : loU f ≤ la) (h3 : Go.bitLen u < prU f → la = loU f) (h4 : la + (Go.bitLen u : Int) - 1 ≤ emU f) (hv : sizeZ u la q z = 0) : rep f q z := by
  obtain ⟨a, ha, e1, -, e3, e4⟩ := word_of f hf false u la h1 h2 h3 h4
  exact ⟨a, ha, e1, by rw [e3, e4]; exact hv⟩
noncomputable def fndU (f : Int) (s : Nat) (z : Int) : Nat := if h : 1 ≤ f ∧ f ≤ 4 then Classical.choose (find_ex f h s z) else 0
theorem fndU_spec {f : Int} (hf : 1 ≤ f ∧ f ≤ 4) (s : Nat) (z : Int) : FInv (takeB f s z) (mU f) 0 (fndU f s z) := by
  unfold fndU
  rw [dif_pos hf]
  exact Classical.choose_spec (find_ex f hf s z)
/-- The finite word that isn't above a number, the greatest one without its sign. -/
noncomputable def wrdU (f : Int) (neg : Bool) (s : Nat) (z : Int) : Nat := sgnU f neg (fndU f s z)
theorem wrd_ok {f : Int} (hf : 1 ≤ f ∧ f ≤ 4) (neg : Bool) {s : Nat} {z : Int} (h : rep f s z) : wrdU f neg s z < 2 ^ 128 ∧ 4 ≤ clsU f (wrdU f neg s z) ∧ negU f (wrdU f neg s z) = neg ∧ sizeZ (sigU f (wrdU f neg s z)) (expU f (wrdU f neg s z)) s z = 0 := by
  have hX := fndU_spec hf s z
  obtain ⟨a, ha, a4, az⟩ := h
  have hz := find_hit hf hX a4 az
  have h4 := (take_fin hX.2.2.1).1
  have hne : clsU f (fndU f s z) ≠ 0 := by omega
  obtain ⟨b1, b2, -, -, b5⟩ := sgn_U neg hne
  obtain ⟨c1, c2⟩ := sgn_sig neg hne
  unfold wrdU
  exact ⟨b1, by omega, b2, by rw [c1, c2]; exact hz⟩
theorem exact_rep {f : Int} (hf : 1 ≤ f ∧ f ≤ 4) (neg : Bool) {z : Int} {s : Nat} (hs : s < QQ) (hr : rgt z = true) (h : rep f s z) (w : World) (hg : FmtG w) :
    Calls Tryz.prog 24 #[.int .i64 f, .agg #[.bool (neg), .int .i64 (z), .int .u64 (dgl (s) 0 : Nat), .int .u64 (dgl (s) 1 : Nat), .int .u64 (dgl (s) 2 : Nat), .int .u64 (dgl (s) 3 : Nat), .int .u64 (dgl (s) 4 : Nat), .int .u64 (dgl (s) 5 : Nat), .int .u64 (dgl (s) 6 : Nat), .int .u64 (dgl (s) 7 : Nat)]] w fun e w' => e = .returned (.tuple #[.agg #[.int .u64 (dgl (wrdU f neg s z) 1 : Nat), .int .u64 (dgl (wrdU f neg s z) 0 : Nat)], .bool true]) ∧ Below w.heap.size w w' := by
  obtain ⟨h1, h2, h3, h4⟩ := wrd_ok hf neg h
  have hv := (sizeZ_spec (sigU f (wrdU f neg s z)) s (expU f (wrdU f neg s z)) z (min (expU f (wrdU f neg s z)) z) (by omega) (by omega)).2.1 h4
  have hE := exact_word f (wrdU f neg s z) h2 z (min (expU f (wrdU f neg s z)) z) s hs hr (by omega) (by omega) hv.symm w hg
  rw [h3] at hE
  exact hE
theorem sizeZ_vl {a b : Nat} {ea eb : Int} (h1 : ea ≤ eb) (h : a = b * 2 ^ (eb - ea).toNat) : sizeZ a ea b eb = 0 := by
  refine (sizeZ_spec a b ea eb ea (Int.le_refl _) h1).2.2 ?_
  unfold vl
  rw [Int.sub_self, show (0 : Int).toNat = 0 from rfl, Nat.pow_zero, Nat.mul_one]
  exact h
theorem sizeZ_self (a : Nat) (e : Int) : sizeZ a e a e = 0 := sizeZ_vl (Int.le_refl _) (by rw [Int.sub_self, show (0 : Int).toNat = 0 from rfl, Nat.pow_zero, Nat.mul_one])
/-- A number that is a whole one of the last place, and no greater than 2^(p-1) of them, or has p digits. -/
theorem rep_norm {f : Int} (hf : 1 ≤ f ∧ f ≤ 4) {s : Nat} {z m : Int} {more neg : Bool} (h0 : s ≠ 0) (hm : more = true → prU f < Go.bitLen s)
    (h1 : z + ((Go.bitLen s - prU f : Nat) : Int) + (Go.bitLen (cutN s (Go.bitLen s - prU f) m more neg) : Int) - 1 ≤ emU f) (h2 : enU f ≤ z + ((Go.bitLen s - prU f : Nat) : Int) + (Go.bitLen (cutN s (Go.bitLen s - prU f) m more neg) : Int) - 1) :
    rep f (cutN s (Go.bitLen s - prU f) m more neg) (z + ((Go.bitLen s - prU f : Nat) : Int)) := by
  have hp := prU_bd f hf
  have he := enU_eq f hf
  by_cases hk : Go.bitLen s ≤ prU f
  · obtain rfl : more = false := by
      cases more
      · rfl
      · have := hm rfl; omega
    have hk0 : Go.bitLen s - prU f = 0 := by omega
    rw [hk0] at h1 h2 ⊢
    rw [cutN_0] at h1 h2 ⊢
    have hl := len_pos h0
    have hs := len_shift (x := s) (prU f - Go.bitLen s) h0
    refine rep_word hf (u := s * 2 ^ (prU f - Go.bitLen s)) (la := z - ((prU f - Go.bitLen s : Nat) : Int)) (by omega) (by omega) (by omega) (by omega) ?_
    refine sizeZ_vl (by omega) ?_
    rw [show (z + ((0 : Nat) : Int) - (z - ((prU f - Go.bitLen s : Nat) : Int))).toNat = prU f - Go.bitLen s by omega]
  · rcases cut_len (s := s) (n := prU f) (m := m) (more := more) (neg := neg) (by omega) (by omega) with ⟨l1, l2⟩ | l1
    · generalize cutN s (Go.bitLen s - prU f) m more neg = q at *
      exact rep_word hf (u := q) (la := z + ((Go.bitLen s - prU f : Nat) : Int)) (by omega) (by omega) (by omega) (by omega) (sizeZ_self _ _)
    · rw [l1] at h1 h2 ⊢
      have hl := len_pow (prU f)
      have hl2 := len_pow (prU f - 1)
      refine rep_word hf (u := 2 ^ (prU f - 1)) (la := z + ((Go.bitLen s - prU f : Nat) : Int) + 1) (by omega) (by omega) (by omega) (by omega) ?_
      refine (sizeZ_spec _ _ _ _ (z + ((Go.bitLen s - prU f : Nat) : Int)) (by omega) (Int.le_refl _)).2.2 ?_
      unfold vl
      rw [show (z + ((Go.bitLen s - prU f : Nat) : Int) + 1 - (z + ((Go.bitLen s - prU f : Nat) : Int))).toNat = 1 by omega, Int.sub_self, show (0 : Int).toNat = 0 from rfl, ← Nat.pow_add, ← Nat.pow_add]
      congr 1
      omega
/-- What is tiny, cut at the least place. -/
theorem tiny_cut {f : Int} (hf : 1 ≤ f ∧ f ≤ 4) {s : Nat} {z m : Int} {more neg : Bool} (h0 : s ≠ 0) (hm : more = true → prU f < Go.bitLen s)
    (h2 : z + ((Go.bitLen s - prU f : Nat) : Int) + (Go.bitLen (cutN s (Go.bitLen s - prU f) m more neg) : Int) - 1 < enU f) :
    (more = true → z < loU f) ∧ z + (Go.bitLen s : Int) ≤ enU f ∧ (z < loU f → cutN s (loU f - z).toNat m more neg ≤ 2 ^ (prU f - 1)) := by
  have hp := prU_bd f hf
  have he := enU_eq f hf
  have hl := len_pos h0
  have ht : z + (Go.bitLen s : Int) ≤ enU f := by
    by_cases hk : Go.bitLen s ≤ prU f
    · obtain rfl : more = false := by
        cases more
        · rfl
        · have := hm rfl; omega
      have hk0 : Go.bitLen s - prU f = 0 := by omega
      rw [hk0, cutN_0] at h2
      omega
    · rcases cut_len (s := s) (n := prU f) (m := m) (more := more) (neg := neg) (by omega) (by omega) with ⟨l1, l2⟩ | l1
      · omega
      · have hl := len_pow (prU f)
        rw [l1] at h2
        omega
  refine ⟨fun h => ?_, ht, fun hz => ?_⟩
  · have := hm h; omega
  · have h3 := (cutN_bd s (loU f - z).toNat m more neg).2
    have h4 : s / 2 ^ (loU f - z).toNat < 2 ^ (prU f - 1) := by
      refine (Nat.div_lt_iff_lt_mul (Nat.two_pow_pos _)).2 ?_
      rw [← Nat.pow_add]
      exact (len_le s _).1 (by omega)
    omega
theorem rep_tiny {f : Int} (hf : 1 ≤ f ∧ f ≤ 4) {s : Nat} {z m : Int} {more neg : Bool} (h0 : s ≠ 0) (hm : more = true → prU f < Go.bitLen s)
    (h2 : z + ((Go.bitLen s - prU f : Nat) : Int) + (Go.bitLen (cutN s (Go.bitLen s - prU f) m more neg) : Int) - 1 < enU f) :
    rep f (cutN s (loU f - z).toNat m more neg) (z + ((loU f - z).toNat : Int)) := by
  have hp := prU_bd f hf
  have he := enU_eq f hf
  have hl := len_pos h0
  have hen := emU_nn f hf
  obtain ⟨t1, t2, t3⟩ := tiny_cut hf h0 hm h2
  by_cases hz : z < loU f
  · have h4 := t3 hz
    rw [show z + ((loU f - z).toNat : Int) = loU f by omega]
    generalize cutN s (loU f - z).toNat m more neg = q at *
    have e1 : 2 ^ prU f = 2 * 2 ^ (prU f - 1) := by rw [← Nat.pow_succ']; congr 1; omega
    have e2 := Nat.two_pow_pos (prU f - 1)
    have h5 := (len_le q (prU f)).2 (by omega)
    exact rep_word hf (u := q) (la := loU f) h5 (Int.le_refl _) (fun _ => rfl) (by omega) (sizeZ_self _ _)
  · obtain rfl : more = false := by
      cases more
      · rfl
      · exact absurd (t1 rfl) hz
    rw [show (loU f - z).toNat = 0 by omega, cutN_0]
    have hs := len_shift (x := s) (z - loU f).toNat h0
    refine rep_word hf (u := s * 2 ^ (z - loU f).toNat) (la := loU f) (by omega) (Int.le_refl _) (fun _ => rfl) (by omega) ?_
    refine sizeZ_vl (by omega) ?_
    rw [show (z + ((0 : Nat) : Int) - loU f).toNat = (z - loU f).toNat by omega]

def infU (f : Int) (neg : Bool) : Nat := tU f (bif neg then 64512 else 31744) (bif neg then 4286578688 else 2139095040) (bif neg then 18442240474082181120 else 9218868437227405312) (bif neg then 340277174624079928635746076935438991360 else 170135991163610696904058773219554885632) 0
def maxU (f : Int) (neg : Bool) : Nat := tU f (bif neg then 64511 else 31743) (bif neg then 4286578687 else 2139095039) (bif neg then 18442240474082181119 else 9218868437227405311) (bif neg then 340277174624079928635746076935438991359 else 170135991163610696904058773219554885631) 0
theorem inf_u (f : Int) (h : 1 ≤ f ∧ f ≤ 4) (neg : Bool) (w : World) (hg : FmtG w) : Calls Tryz.prog 51 #[.int .i64 f, .bool neg] w fun e w' => e = .returned (.agg #[.int .u64 (dgl (infU f neg) 1 : Nat), .int .u64 (dgl (infU f neg) 0 : Nat)]) ∧ Below w.heap.size w w' := by
  rcases f_cases f with rfl | rfl | rfl | rfl | h0
  · exact inf_1 neg w hg
  · exact inf_2 neg w hg
  · exact inf_3 neg w hg
  · exact inf_4 neg w hg
  · omega
theorem max_u (f : Int) (h : 1 ≤ f ∧ f ≤ 4) (neg : Bool) (w : World) (hg : FmtG w) : Calls Tryz.prog 52 #[.int .i64 f, .bool neg] w fun e w' => e = .returned (.agg #[.int .u64 (dgl (maxU f neg) 1 : Nat), .int .u64 (dgl (maxU f neg) 0 : Nat)]) ∧ Below w.heap.size w w' := by
  rcases f_cases f with rfl | rfl | rfl | rfl | h0
  · exact max_1 neg w hg
  · exact max_2 neg w hg
  · exact max_3 neg w hg
  · exact max_4 neg w hg
  · omega
def bndU (f m : Int) (neg : Bool) : Nat := bif growN m neg false 3 then infU f neg else maxU f neg
theorem beyond_u (f m : Int) (h : 1 ≤ f ∧ f ≤ 4) (neg : Bool) (w : World) (hg : FmtG w) : Calls Tryz.prog 22 #[.int .i64 f, .int .i64 m, .bool neg] w fun e w' => e = .returned (.agg #[.int .u64 (dgl (bndU f m neg) 1 : Nat), .int .u64 (dgl (bndU f m neg) 0 : Nat)]) ∧ Below w.heap.size w w' := by
  have HG := fun w => modeGrows_any m neg false 3 w
  unfold bndU
  generalize growN m neg false 3 = g at *
  cases g
  · exact beyond_M f m neg _ HG (fun w hg => max_u f h neg w hg) w hg
  · exact beyond_I f m neg _ HG (fun w hg => inf_u f h neg w hg) w hg

/-- pack.cut, where a closure tells the last place that stays. -/
theorem cut_prec (p z m : Int) (neg more : Bool) (s : Nat) (hs : s < QQ) (hm : isM m = true) (hz : -1048576 ≤ z ∧ z ≤ 1048576) (hp : 0 ≤ p ∧ p ≤ 1000) (c : Nat) (w : World) (hc : CapP c p w) :
    Calls Tryz.prog 19 #[.int .i64 m, .agg #[.bool (neg), .int .i64 (z), .int .u64 (dgl (s) 0 : Nat), .int .u64 (dgl (s) 1 : Nat), .int .u64 (dgl (s) 2 : Nat), .int .u64 (dgl (s) 3 : Nat), .int .u64 (dgl (s) 4 : Nat), .int .u64 (dgl (s) 5 : Nat), .int .u64 (dgl (s) 6 : Nat), .int .u64 (dgl (s) 7 : Nat)], .bool more, precV c] w fun e w' => e = .returned (.tuple #[.agg #[.bool (neg), .int .i64 (z + ((Go.bitLen s - p.toNat : Nat) : Int)), .int .u64 (dgl (cutN s (Go.bitLen s - p.toNat) m more neg) 0 : Nat), .int .u64 (dgl (cutN s (Go.bitLen s - p.toNat) m more neg) 1 : Nat), .int .u64 (dgl (cutN s (Go.bitLen s - p.toNat) m more neg) 2 : Nat), .int .u64 (dgl (cutN s (Go.bitLen s - p.toNat) m more neg) 3 : Nat), .int .u64 (dgl (cutN s (Go.bitLen s - p.toNat) m more neg) 4 : Nat), .int .u64 (dgl (cutN s (Go.bitLen s - p.toNat) m more neg) 5 : Nat), .int .u64 (dgl (cutN s (Go.bitLen s - p.toNat) m more neg) 6 : Nat), .int .u64 (dgl (cutN s (Go.bitLen s - p.toNat) m more neg) 7 : Nat)], .bool (!decide (restN s (Go.bitLen s - p.toNat) more = 0))]) ∧ Below w.heap.size w w' := by
  have hl := len_qq hs
  have HC := fun w => modeCut_yes s hs ((Go.bitLen s - p.toNat : Nat) : Int) m (by omega) more neg hm w
  rw [show (((Go.bitLen s - p.toNat : Nat) : Int)).toNat = Go.bitLen s - p.toNat from rfl] at HC
  exact pcut_walk z (z + (Go.bitLen s : Int) - 1) (z + (Go.bitLen s : Int) - 1 - p + 1) ((Go.bitLen s - p.toNat : Nat) : Int) m neg more _ s _ 49 _ (CapP c p) (fun _ _ h hb => h.below hb) (enters_of Tryz.func49 (by kernel_rfl) rfl) (fun w => ptop_any neg z s hs (by omega) w) (fun w hc => precC_any c p _ (by omega) (by omega) w hc) (by omega) (by omega) (by unfold Hid; omega) HC w hc
theorem cut_rnd (k : Nat → Int) (z m : Int) (neg more : Bool) (s : Nat) (hs : s < QQ) (hm : isM m = true) (hz : -1048576 ≤ z ∧ z ≤ 1048576) (hk1 : -100000 ≤ k 1 ∧ k 1 ≤ 100000) (hk3 : -100000 ≤ k 3 ∧ k 3 ≤ 100000) (lo : Int) (hlo : k 3 - k 1 + 1 = lo) (c : Nat) (w : World) (hc : CapK c k w) :
    Calls Tryz.prog 19 #[.int .i64 m, .agg #[.bool (neg), .int .i64 (z), .int .u64 (dgl (s) 0 : Nat), .int .u64 (dgl (s) 1 : Nat), .int .u64 (dgl (s) 2 : Nat), .int .u64 (dgl (s) 3 : Nat), .int .u64 (dgl (s) 4 : Nat), .int .u64 (dgl (s) 5 : Nat), .int .u64 (dgl (s) 6 : Nat), .int .u64 (dgl (s) 7 : Nat)], .bool more, rndV c] w fun e w' => e = .returned (.tuple #[.agg #[.bool (neg), .int .i64 (z + ((lo - z).toNat : Int)), .int .u64 (dgl (cutN s (lo - z).toNat m more neg) 0 : Nat), .int .u64 (dgl (cutN s (lo - z).toNat m more neg) 1 : Nat), .int .u64 (dgl (cutN s (lo - z).toNat m more neg) 2 : Nat), .int .u64 (dgl (cutN s (lo - z).toNat m more neg) 3 : Nat), .int .u64 (dgl (cutN s (lo - z).toNat m more neg) 4 : Nat), .int .u64 (dgl (cutN s (lo - z).toNat m more neg) 5 : Nat), .int .u64 (dgl (cutN s (lo - z).toNat m more neg) 6 : Nat), .int .u64 (dgl (cutN s (lo - z).toNat m more neg) 7 : Nat)], .bool (!decide (restN s (lo - z).toNat more = 0))]) ∧ Below w.heap.size w w' := by
  have hl := len_qq hs
  have HC := fun w => modeCut_yes s hs (((lo - z).toNat : Nat) : Int) m (by omega) more neg hm w
  rw [show ((((lo - z).toNat : Nat) : Int)).toNat = (lo - z).toNat from rfl] at HC
  exact pcut_walk z (z + (Go.bitLen s : Int) - 1) (k 3 - k 1 + 1) (((lo - z).toNat : Nat) : Int) m neg more _ s _ 23 _ (CapK c k) (fun _ _ h hb => h.below hb) (enters_of Tryz.func23 (by kernel_rfl) rfl) (fun w => ptop_any neg z s hs (by omega) w) (fun w hc => rndC_any c k _ (by omega) (by omega) w hc) (by omega) (by omega) (by unfold Hid; omega) HC w hc

/-- What a number is rounded to, and the flags. -/
noncomputable def rndR (f m : Int) (neg more : Bool) (z : Int) (s : Nat) : Nat × Nat :=
  if emU f < z + ((Go.bitLen s - prU f : Nat) : Int) + (Go.bitLen (cutN s (Go.bitLen s - prU f) m more neg) : Int) - 1 then (bndU f m neg, 20)
  else if z + ((Go.bitLen s - prU f : Nat) : Int) + (Go.bitLen (cutN s (Go.bitLen s - prU f) m more neg) : Int) - 1 < enU f then (wrdU f neg (cutN s (loU f - z).toNat m more neg) (z + ((loU f - z).toNat : Int)), if restN s (loU f - z).toNat more = 0 then 0 else 24)
  else (wrdU f neg (cutN s (Go.bitLen s - prU f) m more neg) (z + ((Go.bitLen s - prU f : Nat) : Int)), if restN s (Go.bitLen s - prU f) more = 0 then 0 else 16)
theorem kU_3 (f : Int) (h : 1 ≤ f ∧ f ≤ 4) : kU f 3 = enU f := by
  rcases f_cases f with rfl | rfl | rfl | rfl | h0
  · rfl
  · rfl
  · rfl
  · rfl
  · omega
theorem right_parts {p z : Int} {s : Nat} {more : Bool} (h : rightB p z s more = true) : 1 ≤ p ∧ p ≤ 500 ∧ rgt z = true ∧ Go.bitLen s ≤ 511 ∧ (more = true → p < (Go.bitLen s : Int)) := by
  unfold rightB at h
  rw [Bool.and_eq_true, Bool.and_eq_true, Bool.and_eq_true, Bool.and_eq_true, decide_eq_true_iff, decide_eq_true_iff, decide_eq_true_iff] at h
  obtain ⟨h1, h2, h3, h4, h5⟩ := h
  refine ⟨h1, h2, h3, h4, fun hm => ?_⟩
  rw [hm] at h5
  simpa using h5
theorem rgt_of {z : Int} (h : -1048576 ≤ z ∧ z ≤ 1048576) : rgt z = true := by
  unfold rgt
  rw [decide_eq_true h.1, decide_eq_true h.2]
  rfl
theorem round_yes (f m : Int) (hf : 1 ≤ f ∧ f ≤ 4) (hm : isM m = true) (neg more : Bool) (z : Int) (s : Nat) (hs : s < QQ) (hr : rightB (prU f : Nat) z s more = true) (h0 : s ≠ 0) (w : World) (hg : FmtG w) :
    Calls Tryz.prog 4 #[.int .i64 f, .int .i64 m, .agg #[.bool (neg), .int .i64 (z), .int .u64 (dgl (s) 0 : Nat), .int .u64 (dgl (s) 1 : Nat), .int .u64 (dgl (s) 2 : Nat), .int .u64 (dgl (s) 3 : Nat), .int .u64 (dgl (s) 4 : Nat), .int .u64 (dgl (s) 5 : Nat), .int .u64 (dgl (s) 6 : Nat), .int .u64 (dgl (s) 7 : Nat)], .bool more] w fun e w' => e = .returned (.tuple #[.agg #[.int .u64 (dgl ((rndR f m neg more z s).1) 1 : Nat), .int .u64 (dgl ((rndR f m neg more z s).1) 0 : Nat)], .int .i64 ((rndR f m neg more z s).2 : Nat), .int .i64 0]) ∧ Below w.heap.size w w' := by
  have hp := prU_bd f hf
  have he := enU_eq f hf
  have hen := emU_nn f hf
  have hle := loU_eq f hf
  have hlo := loU_bd f
  have k1 := kU_1 f hf
  have k2 := kU_2 f hf
  have k3 := kU_3 f hf
  obtain ⟨-, -, r3, r4, r5⟩ := right_parts hr
  have hz := rgtB r3
  have r5' : more = true → prU f < Go.bitLen s := fun h => by have := r5 h; omega
  have HO := fun w hg => of_u f hf w hg
  have HI := fun w => modeIs_any m w
  rw [hm] at HI
  have HR := fun w => pright_any (kU f 1) z neg more s hs w
  rw [k1, hr] at HR
  have hq0 := fun w => wide_eqz hs w
  rw [decide_eq_false h0] at hq0
  have HC := fun c w (hc : CapP c (kU f 1) w) => cut_prec (kU f 1) z m neg more s hs hm hz (by omega) c w hc
  rw [k1, show (((prU f : Nat) : Int)).toNat = prU f from rfl] at HC
  have HC2 := fun c w (hc : CapK c (kU f) w) => cut_rnd (kU f) z m neg more s hs hm hz (by omega) (by omega) (loU f) (by omega) c w hc
  have hl := len_pos h0
  have hqq := cutN_qq (s := s) (k := Go.bitLen s - prU f) (m := m) (more := more) (neg := neg) r4
  have hqq2 := cutN_qq (s := s) (k := (loU f - z).toNat) (m := m) (more := more) (neg := neg) r4
  have hlq := len_qq hqq
  have HT := fun w => ptop_any neg (z + ((Go.bitLen s - prU f : Nat) : Int)) (cutN s (Go.bitLen s - prU f) m more neg) hqq (by omega) w
  unfold rndR
  by_cases hO : emU f < z + ((Go.bitLen s - prU f : Nat) : Int) + (Go.bitLen (cutN s (Go.bitLen s - prU f) m more neg) : Int) - 1
  · rw [if_pos hO]
    rw [← k1] at HC HR
    exact round_O f m z _ 0 _ neg more _ false (kU f) s _ 0 _ HO HI HR hq0 HC HT (by omega) (fun w hg => beyond_u f m hf neg w hg) w hg
  · rw [if_neg hO]
    by_cases hT : z + ((Go.bitLen s - prU f : Nat) : Int) + (Go.bitLen (cutN s (Go.bitLen s - prU f) m more neg) : Int) - 1 < enU f
    · rw [if_pos hT]
      have hrep := rep_tiny hf h0 r5' hT
      have HE := fun w hg => exact_rep hf neg hqq2 (rgt_of (by omega)) hrep w hg
      rw [← k1] at HC HR
      by_cases hx : restN s (loU f - z).toNat more = 0
      · rw [decide_eq_true hx] at HC2
        rw [if_pos hx]
        exact round_T0 f m z _ _ _ neg more _ true (kU f) s _ _ _ HO HI HR hq0 HC HT (by omega) (by omega) HC2 HE w hg
      · rw [decide_eq_false hx] at HC2
        rw [if_neg hx]
        exact round_T1 f m z _ _ _ neg more _ true (kU f) s _ _ _ HO HI HR hq0 HC HT (by omega) (by omega) HC2 HE w hg
    · rw [if_neg hT]
      have hrep := rep_norm (z := z) (m := m) (neg := neg) hf h0 r5' (by omega) (by omega)
      have hz2 : -1048576 ≤ z + ((Go.bitLen s - prU f : Nat) : Int) ∧ z + ((Go.bitLen s - prU f : Nat) : Int) ≤ 1048576 := by
        have hem : emU f ≤ 20000 := by
          rcases f_cases f with rfl | rfl | rfl | rfl | h9
          · decide
          · decide
          · decide
          · decide
          · omega
        have hq1 : cutN s (Go.bitLen s - prU f) m more neg ≠ 0 := fun e0 => by
          have hb := (cutN_bd s (Go.bitLen s - prU f) m more neg).1
          rw [e0] at hb
          by_cases hk : Go.bitLen s ≤ prU f
          · rw [show Go.bitLen s - prU f = 0 by omega, Nat.pow_zero, Nat.div_one] at hb
            omega
          · have hd := len_div h0 (show Go.bitLen s - prU f < Go.bitLen s by omega)
            rw [Nat.le_zero.1 hb] at hd
            have : Go.bitLen 0 = 0 := rfl
            omega
        have := len_pos hq1
        omega
      have HE := fun w hg => exact_rep hf neg hqq (rgt_of hz2) hrep w hg
      rw [← k1] at HC HR
      by_cases hx : restN s (Go.bitLen s - prU f) more = 0
      · rw [decide_eq_true hx] at HC
        rw [if_pos hx]
        exact round_N0 f m z _ 0 _ neg more false true (kU f) s _ 0 _ HO HI HR hq0 HC HT (by omega) (by omega) HE w hg
      · rw [decide_eq_false hx] at HC
        rw [if_neg hx]
        exact round_N1 f m z _ 0 _ neg more true true (kU f) s _ 0 _ HO HI HR hq0 HC HT (by omega) (by omega) HE w hg
theorem round_zero (f m : Int) (hf : 1 ≤ f ∧ f ≤ 4) (hm : isM m = true) (neg more : Bool) (z : Int) (hr : rightB (prU f : Nat) z 0 more = true) (w : World) (hg : FmtG w) :
    Calls Tryz.prog 4 #[.int .i64 f, .int .i64 m, .agg #[.bool (neg), .int .i64 (z), .int .u64 (dgl (0) 0 : Nat), .int .u64 (dgl (0) 1 : Nat), .int .u64 (dgl (0) 2 : Nat), .int .u64 (dgl (0) 3 : Nat), .int .u64 (dgl (0) 4 : Nat), .int .u64 (dgl (0) 5 : Nat), .int .u64 (dgl (0) 6 : Nat), .int .u64 (dgl (0) 7 : Nat)], .bool more] w fun e w' => e = .returned (.tuple #[.agg #[.int .u64 (dgl (ngtU f neg) 1 : Nat), .int .u64 (dgl (ngtU f neg) 0 : Nat)], .int .i64 0, .int .i64 0]) ∧ Below w.heap.size w w' := by
  have k1 := kU_1 f hf
  have HI := fun w => modeIs_any m w
  rw [hm] at HI
  have HR := fun w => pright_any (kU f 1) z neg more 0 (by have := qb_small f; omega) w
  rw [k1, hr] at HR
  rw [← k1] at HR
  have hq0 := fun w => wide_eqz (a := 0) (by have := qb_small f; omega) w
  rw [decide_eq_true rfl] at hq0
  exact round_Z f m z 0 0 0 neg more false false (kU f) 0 0 0 _ (fun w hg => of_u f hf w hg) HI HR hq0 (fun w hg => nought_u f hf neg w hg) w hg
theorem round_no (f m : Int) (neg more : Bool) (z : Int) (s : Nat) (hs : s < QQ) (h : ¬ ((1 ≤ f ∧ f ≤ 4) ∧ isM m = true ∧ rightB (prU f : Nat) z s more = true)) (w : World) (hg : FmtG w) :
    Calls Tryz.prog 4 #[.int .i64 f, .int .i64 m, .agg #[.bool (neg), .int .i64 (z), .int .u64 (dgl (s) 0 : Nat), .int .u64 (dgl (s) 1 : Nat), .int .u64 (dgl (s) 2 : Nat), .int .u64 (dgl (s) 3 : Nat), .int .u64 (dgl (s) 4 : Nat), .int .u64 (dgl (s) 5 : Nat), .int .u64 (dgl (s) 6 : Nat), .int .u64 (dgl (s) 7 : Nat)], .bool more] w fun e w' => e = .returned (.tuple #[.agg #[.int .u64 0, .int .u64 0], .int .i64 0, .int .i64 1]) ∧ Below w.heap.size w w' := by
  by_cases hf : 1 ≤ f ∧ f ≤ 4
  · have k1 := kU_1 f hf
    have HO := fun w hg => of_u f hf w hg
    have HI := fun w => modeIs_any m w
    by_cases hm : isM m = true
    · rw [hm] at HI
      have hr : rightB (prU f : Nat) z s more = false := by
        cases hb : rightB (prU f : Nat) z s more
        · rfl
        · exact absurd ⟨hf, hm, hb⟩ h
      have HR := fun w => pright_any (kU f 1) z neg more s hs w
      rw [k1, hr] at HR
      rw [← k1] at HR
      exact round_E3 f m z 0 0 0 neg more false false (kU f) s 0 0 0 HO HI HR w hg
    · have hm2 : isM m = false := by simpa using hm
      rw [hm2] at HI
      exact round_E2 f m z 0 0 0 neg more false false (kU f) s 0 0 0 HO HI w hg
  · exact round_E1 f m z 0 0 0 neg more false false (fun _ => 0) s 0 0 0 (fun w hg => of_none f (by omega) w) w hg

end Go.Proofs.YtpcjdllijkjdkaaGreatDoor

