/- Contracts and laws: TabB, TabC, TabD, TabE, TabF. -/
import Derived.Test.YtgnaomgcfliamaaDoorPartAC
import Derived.Test.YtgnaomgcfliamaaDoorPartAM
import Derived.Test.YtgnaomgcfliamaaDoorPartAK
import Derived.Test.YtgnaomgcfliamaaDoorPartAH
import Derived.Test.YtgnaomgcfliamaaDoorPartAN
/- Contracts: table.Bounds, chosen, Digit; law 14's awake. -/
set_option linter.unusedVariables false
set_option linter.unusedSimpArgs false
set_option maxRecDepth 8000
namespace Go.Proofs.YtgnaomgcfliamaaDoor
open Go.RowKit Plain

/-- Four ints lie in a block. -/
def LiesI (w : World) (b : Nat) (f : Nat → Int) : Prop := (∀ i, i < 4 → w.cell? ⟨b, i, none⟩ = some (.int .i64 (f i))) ∧ b < w.heap.size
theorem LiesI.under {w w' : World} {b : Nat} {f : Nat → Int} (h : LiesI w b f) {C : Nat} (hb : Below C w w') (hc : b < C) : LiesI w' b f :=
  ⟨fun i hi => (hb.cell (p := ⟨b, i, none⟩) hc).trans (h.1 i hi), Nat.lt_of_lt_of_le h.2 hb.size⟩
theorem LiesI.below {w w' : World} {b : Nat} {f : Nat → Int} (h : LiesI w b f) (hb : Below w.heap.size w w') : LiesI w' b f := h.under hb h.2
theorem belowT_allocs (w : World) (o : Obj) : Below w.heap.size w (w.alloc o) := (Below.refl _ _).alloc (Nat.le_refl _) o
theorem liesI_new (w : World) (f : Nat → Int) (e : TypeId) : LiesI (w.alloc (.cells #[.int .i64 (f 0), .int .i64 (f 1), .int .i64 (f 2), .int .i64 (f 3)] e)) w.heap.size f := by
  refine ⟨fun i hi => ?_, by simp⟩
  rcases (show i = 0 ∨ i = 1 ∨ i = 2 ∨ i = 3 by omega) with rfl | rfl | rfl | rfl <;> simp [go_sem]
theorem below_set4 {B : Nat} {a W : World} (h : Below B a W) (b : Nat) (hb : B ≤ b) (x0 x1 x2 x3 : Value) : Below B a ((((W.setCell ⟨b, 0, none⟩ x0).setCell ⟨b, 1, none⟩ x1).setCell ⟨b, 2, none⟩ x2).setCell ⟨b, 3, none⟩ x3) :=
  ((((h.setCell (p := ⟨b, 0, none⟩) (hb) _).setCell (p := ⟨b, 1, none⟩) (hb) _).setCell (p := ⟨b, 2, none⟩) (hb) _).setCell (p := ⟨b, 3, none⟩) (hb) _)
/-- What a call goes by that has four ints as its result: they lie at its first block. -/
structure R4St (w W : World) : Prop where
  l : LiesI W w.heap.size (fun _ => 0)
  f : ∀ i, W.frozen? ⟨w.heap.size, i, none⟩ = false
  bel : Below w.heap.size w W
theorem R4St.below {w W W' : World} (h : R4St w W) (hb : Below W.heap.size W W') : R4St w W' :=
  ⟨h.l.below hb, fun i => (hb.frozen (p := ⟨w.heap.size, i, none⟩) h.l.2).trans (h.f i), ⟨hb.os.trans h.bel.os, hb.tape.trans h.bel.tape, hb.output.trans h.bel.output, Nat.le_trans h.bel.size hb.size, fun k hk => (hb.block k (Nat.lt_of_lt_of_le hk h.bel.size)).trans (h.bel.block k hk)⟩⟩
theorem r4_start (w : World) (e : TypeId) : R4St w (w.alloc (.cells #[.int .i64 0, .int .i64 0, .int .i64 0, .int .i64 0] e)) := ⟨liesI_new w (fun _ => 0) e, fun i => by simp [go_sem], belowT_allocs _ _⟩

/-- A row of the table. -/
def tabN (i : Int) (k : Nat) : Int := tabL.getD (4 * (i - 8).toNat + k) 0
/-- The digit by bounds. -/
def chN (f : Nat → Int) (y : Int) : Int := if f 0 ≤ y then 2 else if f 1 ≤ y then 1 else if f 2 ≤ y then 0 else if f 3 ≤ y then -1 else -2
theorem chN_at {f : Nat → Int} {y : Int} {j : Nat} (hj : j < 4) (h : ∀ m, m < j → ¬ f m ≤ y) (hy : f j ≤ y) : chN f y = 2 - (j : Int) := by
  unfold chN
  rcases (show j = 0 ∨ j = 1 ∨ j = 2 ∨ j = 3 by omega) with rfl | rfl | rfl | rfl
  · rw [if_pos hy]; rfl
  · rw [if_neg (h 0 (by omega)), if_pos hy]; rfl
  · rw [if_neg (h 0 (by omega)), if_neg (h 1 (by omega)), if_pos hy]; rfl
  · rw [if_neg (h 0 (by omega)), if_neg (h 1 (by omega)), if_neg (h 2 (by omega)), if_pos hy]; rfl
theorem chN_none {f : Nat → Int} {y : Int} (h : ∀ m, m < 4 → ¬ f m ≤ y) : chN f y = -2 := by
  unfold chN
  rw [if_neg (h 0 (by omega)), if_neg (h 1 (by omega)), if_neg (h 2 (by omega)), if_neg (h 3 (by omega))]

theorem bounds_no (i : Int) (hi : i < 8 ∨ 15 < i) (w : World) : Calls Tryd.prog 7 #[.int .i64 i] w fun e w' => e = .returned (.tuple #[.agg #[.int .i64 0, .int .i64 0, .int .i64 0, .int .i64 0], .bool false]) ∧ Below w.heap.size w w' := by
  have HS := hide (r4_start w 22)
  go_enter Tryd.func7, Tryd.ntmps7
  rcases hi with h | h
  · go_upto_region 2 with fail
    refine wp_gen (fun W => R4St w W) HS.out ?_
    clear HS
    rintro W2 h2
    have hr1 := h2.l.1
    have hrl1 := h2.l.2
    have hrf1 := h2.f
    have HBE := hide h2.bel
    clear h2
    go_wp2
    exact bodyPost_ret (v := .tuple #[.agg #[.int .i64 0, .int .i64 0, .int .i64 0, .int .i64 0], .bool false]) (by simp [results, Tryd.results7, go_sem, hr1, hrl1]) rfl ⟨rfl, below_set4 HBE.out _ (by omega) _ _ _ _⟩
  · have h0 : ¬ i < 8 := by omega
    go_upto_region 2 with fail
    refine wp_gen (fun W => R4St w W) HS.out ?_
    clear HS
    rintro W2 h2
    have hr1 := h2.l.1
    have hrl1 := h2.l.2
    have hrf1 := h2.f
    have HBE := hide h2.bel
    clear h2
    go_wp2
    exact bodyPost_ret (v := .tuple #[.agg #[.int .i64 0, .int .i64 0, .int .i64 0, .int .i64 0], .bool false]) (by simp [results, Tryd.results7, go_sem, hr1, hrl1]) rfl ⟨rfl, below_set4 HBE.out _ (by omega) _ _ _ _⟩

theorem bounds_8 (w : World) (hg : TabG w) : Calls Tryd.prog 7 #[.int .i64 8] w fun e w' => e = .returned (.tuple #[.agg #[.int .i64 (tabN 8 0), .int .i64 (tabN 8 1), .int .i64 (tabN 8 2), .int .i64 (tabN 8 3)], .bool true]) ∧ Below w.heap.size w w' := by
  have HS := hide (r4_start w 22)
  have HG := hide (hg.below (belowT_allocs w (.cells #[.int .i64 0, .int .i64 0, .int .i64 0, .int .i64 0] 22)))
  have HN : Hid ((#[.int .i64 (tabN 8 0), .int .i64 (tabN 8 1), .int .i64 (tabN 8 2), .int .i64 (tabN 8 3)] : Array Value) = #[.int .i64 12, .int .i64 3, .int .i64 (-5), .int .i64 (-13)]) := rfl
  go_enter Tryd.func7, Tryd.ntmps7
  go_upto_region 3 with fail
  refine wp_gen (fun W => R4St w W ∧ TabG W) ⟨HS.out, HG.out⟩ ?_
  clear HS HG hg
  rintro W3 h3
  have hr1 := h3.1.l.1
  have hrl1 := h3.1.l.2
  have hrf1 := h3.1.f
  have hc0 : W3.cell? ⟨0, 0, none⟩ = some (.int .i64 (12)) := h3.2.c 0 (by decide)
  have hc1 : W3.cell? ⟨0, 1, none⟩ = some (.int .i64 (3)) := h3.2.c 1 (by decide)
  have hc2 : W3.cell? ⟨0, 2, none⟩ = some (.int .i64 (-5)) := h3.2.c 2 (by decide)
  have hc3 : W3.cell? ⟨0, 3, none⟩ = some (.int .i64 (-13)) := h3.2.c 3 (by decide)
  have HBE := hide h3.1.bel
  clear h3
  go_wp2
  refine bodyPost_ret (v := .tuple #[.agg #[.int .i64 12, .int .i64 3, .int .i64 (-5), .int .i64 (-13)], .bool true]) (by simp [results, Tryd.results7, go_sem, hr1, hrl1]) rfl ⟨by rw [HN.out], below_set4 HBE.out _ (by omega) _ _ _ _⟩

theorem bounds_9 (w : World) (hg : TabG w) : Calls Tryd.prog 7 #[.int .i64 9] w fun e w' => e = .returned (.tuple #[.agg #[.int .i64 (tabN 9 0), .int .i64 (tabN 9 1), .int .i64 (tabN 9 2), .int .i64 (tabN 9 3)], .bool true]) ∧ Below w.heap.size w w' := by
  have HS := hide (r4_start w 22)
  have HG := hide (hg.below (belowT_allocs w (.cells #[.int .i64 0, .int .i64 0, .int .i64 0, .int .i64 0] 22)))
  have HN : Hid ((#[.int .i64 (tabN 9 0), .int .i64 (tabN 9 1), .int .i64 (tabN 9 2), .int .i64 (tabN 9 3)] : Array Value) = #[.int .i64 14, .int .i64 4, .int .i64 (-6), .int .i64 (-15)]) := rfl
  go_enter Tryd.func7, Tryd.ntmps7
  go_upto_region 3 with fail
  refine wp_gen (fun W => R4St w W ∧ TabG W) ⟨HS.out, HG.out⟩ ?_
  clear HS HG hg
  rintro W3 h3
  have hr1 := h3.1.l.1
  have hrl1 := h3.1.l.2
  have hrf1 := h3.1.f
  have hc0 : W3.cell? ⟨0, 4, none⟩ = some (.int .i64 (14)) := h3.2.c 4 (by decide)
  have hc1 : W3.cell? ⟨0, 5, none⟩ = some (.int .i64 (4)) := h3.2.c 5 (by decide)
  have hc2 : W3.cell? ⟨0, 6, none⟩ = some (.int .i64 (-6)) := h3.2.c 6 (by decide)
  have hc3 : W3.cell? ⟨0, 7, none⟩ = some (.int .i64 (-15)) := h3.2.c 7 (by decide)
  have HBE := hide h3.1.bel
  clear h3
  go_wp2
  refine bodyPost_ret (v := .tuple #[.agg #[.int .i64 14, .int .i64 4, .int .i64 (-6), .int .i64 (-15)], .bool true]) (by simp [results, Tryd.results7, go_sem, hr1, hrl1]) rfl ⟨by rw [HN.out], below_set4 HBE.out _ (by omega) _ _ _ _⟩

theorem bounds_10 (w : World) (hg : TabG w) : Calls Tryd.prog 7 #[.int .i64 10] w fun e w' => e = .returned (.tuple #[.agg #[.int .i64 (tabN 10 0), .int .i64 (tabN 10 1), .int .i64 (tabN 10 2), .int .i64 (tabN 10 3)], .bool true]) ∧ Below w.heap.size w w' := by
  have HS := hide (r4_start w 22)
  have HG := hide (hg.below (belowT_allocs w (.cells #[.int .i64 0, .int .i64 0, .int .i64 0, .int .i64 0] 22)))
  have HN : Hid ((#[.int .i64 (tabN 10 0), .int .i64 (tabN 10 1), .int .i64 (tabN 10 2), .int .i64 (tabN 10 3)] : Array Value) = #[.int .i64 15, .int .i64 4, .int .i64 (-6), .int .i64 (-16)]) := rfl
  go_enter Tryd.func7, Tryd.ntmps7
  go_upto_region 3 with fail
  refine wp_gen (fun W => R4St w W ∧ TabG W) ⟨HS.out, HG.out⟩ ?_
  clear HS HG hg
  rintro W3 h3
  have hr1 := h3.1.l.1
  have hrl1 := h3.1.l.2
  have hrf1 := h3.1.f
  have hc0 : W3.cell? ⟨0, 8, none⟩ = some (.int .i64 (15)) := h3.2.c 8 (by decide)
  have hc1 : W3.cell? ⟨0, 9, none⟩ = some (.int .i64 (4)) := h3.2.c 9 (by decide)
  have hc2 : W3.cell? ⟨0, 10, none⟩ = some (.int .i64 (-6)) := h3.2.c 10 (by decide)
  have hc3 : W3.cell? ⟨0, 11, none⟩ = some (.int .i64 (-16)) := h3.2.c 11 (by decide)
  have HBE := hide h3.1.bel
  clear h3
  go_wp2
  refine bodyPost_ret (v := .tuple #[.agg #[.int .i64 15, .int .i64 4, .int .i64 (-6), .int .i64 (-16)], .bool true]) (by simp [results, Tryd.results7, go_sem, hr1, hrl1]) rfl ⟨by rw [HN.out], below_set4 HBE.out _ (by omega) _ _ _ _⟩

theorem bounds_11 (w : World) (hg : TabG w) : Calls Tryd.prog 7 #[.int .i64 11] w fun e w' => e = .returned (.tuple #[.agg #[.int .i64 (tabN 11 0), .int .i64 (tabN 11 1), .int .i64 (tabN 11 2), .int .i64 (tabN 11 3)], .bool true]) ∧ Below w.heap.size w w' := by
  have HS := hide (r4_start w 22)
  have HG := hide (hg.below (belowT_allocs w (.cells #[.int .i64 0, .int .i64 0, .int .i64 0, .int .i64 0] 22)))
  have HN : Hid ((#[.int .i64 (tabN 11 0), .int .i64 (tabN 11 1), .int .i64 (tabN 11 2), .int .i64 (tabN 11 3)] : Array Value) = #[.int .i64 16, .int .i64 4, .int .i64 (-7), .int .i64 (-18)]) := rfl
  go_enter Tryd.func7, Tryd.ntmps7
  go_upto_region 3 with fail
  refine wp_gen (fun W => R4St w W ∧ TabG W) ⟨HS.out, HG.out⟩ ?_
  clear HS HG hg
  rintro W3 h3
  have hr1 := h3.1.l.1
  have hrl1 := h3.1.l.2
  have hrf1 := h3.1.f
  have hc0 : W3.cell? ⟨0, 12, none⟩ = some (.int .i64 (16)) := h3.2.c 12 (by decide)
  have hc1 : W3.cell? ⟨0, 13, none⟩ = some (.int .i64 (4)) := h3.2.c 13 (by decide)
  have hc2 : W3.cell? ⟨0, 14, none⟩ = some (.int .i64 (-7)) := h3.2.c 14 (by decide)
  have hc3 : W3.cell? ⟨0, 15, none⟩ = some (.int .i64 (-18)) := h3.2.c 15 (by decide)
  have HBE := hide h3.1.bel
  clear h3
  go_wp2
  refine bodyPost_ret (v := .tuple #[.agg #[.int .i64 16, .int .i64 4, .int .i64 (-7), .int .i64 (-18)], .bool true]) (by simp [results, Tryd.results7, go_sem, hr1, hrl1]) rfl ⟨by rw [HN.out], below_set4 HBE.out _ (by omega) _ _ _ _⟩

theorem bounds_12 (w : World) (hg : TabG w) : Calls Tryd.prog 7 #[.int .i64 12] w fun e w' => e = .returned (.tuple #[.agg #[.int .i64 (tabN 12 0), .int .i64 (tabN 12 1), .int .i64 (tabN 12 2), .int .i64 (tabN 12 3)], .bool true]) ∧ Below w.heap.size w w' := by
  have HS := hide (r4_start w 22)
  have HG := hide (hg.below (belowT_allocs w (.cells #[.int .i64 0, .int .i64 0, .int .i64 0, .int .i64 0] 22)))
  have HN : Hid ((#[.int .i64 (tabN 12 0), .int .i64 (tabN 12 1), .int .i64 (tabN 12 2), .int .i64 (tabN 12 3)] : Array Value) = #[.int .i64 18, .int .i64 5, .int .i64 (-8), .int .i64 (-20)]) := rfl
  go_enter Tryd.func7, Tryd.ntmps7
  go_upto_region 3 with fail
  refine wp_gen (fun W => R4St w W ∧ TabG W) ⟨HS.out, HG.out⟩ ?_
  clear HS HG hg
  rintro W3 h3
  have hr1 := h3.1.l.1
  have hrl1 := h3.1.l.2
  have hrf1 := h3.1.f
  have hc0 : W3.cell? ⟨0, 16, none⟩ = some (.int .i64 (18)) := h3.2.c 16 (by decide)
  have hc1 : W3.cell? ⟨0, 17, none⟩ = some (.int .i64 (5)) := h3.2.c 17 (by decide)
  have hc2 : W3.cell? ⟨0, 18, none⟩ = some (.int .i64 (-8)) := h3.2.c 18 (by decide)
  have hc3 : W3.cell? ⟨0, 19, none⟩ = some (.int .i64 (-20)) := h3.2.c 19 (by decide)
  have HBE := hide h3.1.bel
  clear h3
  go_wp2
  refine bodyPost_ret (v := .tuple #[.agg #[.int .i64 18, .int .i64 5, .int .i64 (-8), .int .i64 (-20)], .bool true]) (by simp [results, Tryd.results7, go_sem, hr1, hrl1]) rfl ⟨by rw [HN.out], below_set4 HBE.out _ (by omega) _ _ _ _⟩

theorem bounds_13 (w : World) (hg : TabG w) : Calls Tryd.prog 7 #[.int .i64 13] w fun e w' => e = .returned (.tuple #[.agg #[.int .i64 (tabN 13 0), .int .i64 (tabN 13 1), .int .i64 (tabN 13 2), .int .i64 (tabN 13 3)], .bool true]) ∧ Below w.heap.size w w' := by
  have HS := hide (r4_start w 22)
  have HG := hide (hg.below (belowT_allocs w (.cells #[.int .i64 0, .int .i64 0, .int .i64 0, .int .i64 0] 22)))
  have HN : Hid ((#[.int .i64 (tabN 13 0), .int .i64 (tabN 13 1), .int .i64 (tabN 13 2), .int .i64 (tabN 13 3)] : Array Value) = #[.int .i64 19, .int .i64 5, .int .i64 (-8), .int .i64 (-21)]) := rfl
  go_enter Tryd.func7, Tryd.ntmps7
  go_upto_region 3 with fail
  refine wp_gen (fun W => R4St w W ∧ TabG W) ⟨HS.out, HG.out⟩ ?_
  clear HS HG hg
  rintro W3 h3
  have hr1 := h3.1.l.1
  have hrl1 := h3.1.l.2
  have hrf1 := h3.1.f
  have hc0 : W3.cell? ⟨0, 20, none⟩ = some (.int .i64 (19)) := h3.2.c 20 (by decide)
  have hc1 : W3.cell? ⟨0, 21, none⟩ = some (.int .i64 (5)) := h3.2.c 21 (by decide)
  have hc2 : W3.cell? ⟨0, 22, none⟩ = some (.int .i64 (-8)) := h3.2.c 22 (by decide)
  have hc3 : W3.cell? ⟨0, 23, none⟩ = some (.int .i64 (-21)) := h3.2.c 23 (by decide)
  have HBE := hide h3.1.bel
  clear h3
  go_wp2
  refine bodyPost_ret (v := .tuple #[.agg #[.int .i64 19, .int .i64 5, .int .i64 (-8), .int .i64 (-21)], .bool true]) (by simp [results, Tryd.results7, go_sem, hr1, hrl1]) rfl ⟨by rw [HN.out], below_set4 HBE.out _ (by omega) _ _ _ _⟩

theorem bounds_14 (w : World) (hg : TabG w) : Calls Tryd.prog 7 #[.int .i64 14] w fun e w' => e = .returned (.tuple #[.agg #[.int .i64 (tabN 14 0), .int .i64 (tabN 14 1), .int .i64 (tabN 14 2), .int .i64 (tabN 14 3)], .bool true]) ∧ Below w.heap.size w w' := by
  have HS := hide (r4_start w 22)
  have HG := hide (hg.below (belowT_allocs w (.cells #[.int .i64 0, .int .i64 0, .int .i64 0, .int .i64 0] 22)))
  have HN : Hid ((#[.int .i64 (tabN 14 0), .int .i64 (tabN 14 1), .int .i64 (tabN 14 2), .int .i64 (tabN 14 3)] : Array Value) = #[.int .i64 20, .int .i64 5, .int .i64 (-9), .int .i64 (-23)]) := rfl
  go_enter Tryd.func7, Tryd.ntmps7
  go_upto_region 3 with fail
  refine wp_gen (fun W => R4St w W ∧ TabG W) ⟨HS.out, HG.out⟩ ?_
  clear HS HG hg
  rintro W3 h3
  have hr1 := h3.1.l.1
  have hrl1 := h3.1.l.2
  have hrf1 := h3.1.f
  have hc0 : W3.cell? ⟨0, 24, none⟩ = some (.int .i64 (20)) := h3.2.c 24 (by decide)
  have hc1 : W3.cell? ⟨0, 25, none⟩ = some (.int .i64 (5)) := h3.2.c 25 (by decide)
  have hc2 : W3.cell? ⟨0, 26, none⟩ = some (.int .i64 (-9)) := h3.2.c 26 (by decide)
  have hc3 : W3.cell? ⟨0, 27, none⟩ = some (.int .i64 (-23)) := h3.2.c 27 (by decide)
  have HBE := hide h3.1.bel
  clear h3
  go_wp2
  refine bodyPost_ret (v := .tuple #[.agg #[.int .i64 20, .int .i64 5, .int .i64 (-9), .int .i64 (-23)], .bool true]) (by simp [results, Tryd.results7, go_sem, hr1, hrl1]) rfl ⟨by rw [HN.out], below_set4 HBE.out _ (by omega) _ _ _ _⟩

theorem bounds_15 (w : World) (hg : TabG w) : Calls Tryd.prog 7 #[.int .i64 15] w fun e w' => e = .returned (.tuple #[.agg #[.int .i64 (tabN 15 0), .int .i64 (tabN 15 1), .int .i64 (tabN 15 2), .int .i64 (tabN 15 3)], .bool true]) ∧ Below w.heap.size w w' := by
  have HS := hide (r4_start w 22)
  have HG := hide (hg.below (belowT_allocs w (.cells #[.int .i64 0, .int .i64 0, .int .i64 0, .int .i64 0] 22)))
  have HN : Hid ((#[.int .i64 (tabN 15 0), .int .i64 (tabN 15 1), .int .i64 (tabN 15 2), .int .i64 (tabN 15 3)] : Array Value) = #[.int .i64 22, .int .i64 6, .int .i64 (-10), .int .i64 (-25)]) := rfl
  go_enter Tryd.func7, Tryd.ntmps7
  go_upto_region 3 with fail
  refine wp_gen (fun W => R4St w W ∧ TabG W) ⟨HS.out, HG.out⟩ ?_
  clear HS HG hg
  rintro W3 h3
  have hr1 := h3.1.l.1
  have hrl1 := h3.1.l.2
  have hrf1 := h3.1.f
  have hc0 : W3.cell? ⟨0, 28, none⟩ = some (.int .i64 (22)) := h3.2.c 28 (by decide)
  have hc1 : W3.cell? ⟨0, 29, none⟩ = some (.int .i64 (6)) := h3.2.c 29 (by decide)
  have hc2 : W3.cell? ⟨0, 30, none⟩ = some (.int .i64 (-10)) := h3.2.c 30 (by decide)
  have hc3 : W3.cell? ⟨0, 31, none⟩ = some (.int .i64 (-25)) := h3.2.c 31 (by decide)
  have HBE := hide h3.1.bel
  clear h3
  go_wp2
  refine bodyPost_ret (v := .tuple #[.agg #[.int .i64 22, .int .i64 6, .int .i64 (-10), .int .i64 (-25)], .bool true]) (by simp [results, Tryd.results7, go_sem, hr1, hrl1]) rfl ⟨by rw [HN.out], below_set4 HBE.out _ (by omega) _ _ _ _⟩

theorem bounds_yes (i : Int) (h1 : 8 ≤ i) (h2 : i ≤ 15) (w : World) (hg : TabG w) : Calls Tryd.prog 7 #[.int .i64 i] w fun e w' => e = .returned (.tuple #[.agg #[.int .i64 (tabN i 0), .int .i64 (tabN i 1), .int .i64 (tabN i 2), .int .i64 (tabN i 3)], .bool true]) ∧ Below w.heap.size w w' := by
  rcases (show i = 8 ∨ i = 9 ∨ i = 10 ∨ i = 11 ∨ i = 12 ∨ i = 13 ∨ i = 14 ∨ i = 15 by omega) with rfl | rfl | rfl | rfl | rfl | rfl | rfl | rfl
  · exact bounds_8 w hg
  · exact bounds_9 w hg
  · exact bounds_10 w hg
  · exact bounds_11 w hg
  · exact bounds_12 w hg
  · exact bounds_13 w hg
  · exact bounds_14 w hg
  · exact bounds_15 w hg

theorem idx4_run (f : Nat → Int) (i : Nat) (hi : i < 4) (w : World) : (Instr.index 22 (.agg #[.int .i64 (f 0), .int .i64 (f 1), .int .i64 (f 2), .int .i64 (f 3)]) (.int .i64 (i : Nat))).run Tryd.prog w = .ok (.int .i64 (f i)) w := by
  match i, hi with
  | 0, _ => simp [Instr.index, go_sem, run_underlying Tryd.underlying22]
  | 1, _ => simp [Instr.index, go_sem, run_underlying Tryd.underlying22]
  | 2, _ => simp [Instr.index, go_sem, run_underlying Tryd.underlying22]
  | 3, _ => simp [Instr.index, go_sem, run_underlying Tryd.underlying22]

set_option maxHeartbeats 1000000 in
theorem chosen_any (f : Nat → Int) (y : Int) (w : World) : Calls Tryd.prog 22 #[.agg #[.int .i64 (f 0), .int .i64 (f 1), .int .i64 (f 2), .int .i64 (f 3)], .int .i64 y] w fun e w' => e = .returned (.int .i64 (chN f y)) ∧ Below w.heap.size w w' := by
  have HB := hide (belowT_allocs w (.cells #[.int .i64 (f 0), .int .i64 (f 1), .int .i64 (f 2), .int .i64 (f 3)] 22))
  go_enter Tryd.func22, Tryd.ntmps22
  go_wp2
  go_loopw [8] (fun i wr => ∃ j : Nat, j ≤ 4 ∧ i = .int .i64 j ∧ Hid (∀ m, m < j → ¬ f m ≤ y) ∧ Hid (Below w.heap.size w wr))
    (fun i _ => 4 - (intOf i).toNat)
  case atStart => exact ⟨0, by omega, rfl, fun m hm => absurd hm (by omega), HB⟩
  case round =>
    clear HB
    obtain ⟨j, hj, rfl, HA, HB⟩ := hrel
    by_cases hlt : j < 4
    · have hj4 : (j : Int) < 4 := by omega
      have hix := fun w => idx4_run f j hlt w
      have hw2 : IntKind.i64.wrap (2 - (j : Int)) = 2 - (j : Int) := by rw [IntKind.wrap_i64]; omega
      by_cases hy : f j ≤ y
      · have HR := hide (chN_at hlt HA.out hy)
        clear HA
        go_wp2
        go_ret
        exact ⟨ret_int HR.out.symm, HB.out⟩
      · have HN : Hid (∀ m, m < j + 1 → ¬ f m ≤ y) := fun m hm => by
          rcases Nat.lt_or_ge m j with h | h
          · exact HA.out m h
          · have : m = j := by omega
            rw [this]; exact hy
        clear HA
        go_wp2
        go_roundw
        case rel => exact ⟨j + 1, by omega, by go_num, HN, HB⟩
        case measure => simp [intOf]; omega
    · obtain rfl : j = 4 := by omega
      have HR := hide (chN_none HA.out)
      clear HA
      go_wp2
      go_ret
      exact ⟨ret_int HR.out.symm, HB.out⟩

theorem digit_walkN (i y : Int) (HBD : Hid (∀ w, Calls Tryd.prog 7 #[.int .i64 i] w fun e w' => e = .returned (.tuple #[.agg #[.int .i64 0, .int .i64 0, .int .i64 0, .int .i64 0], .bool false]) ∧ Below w.heap.size w w')) (w : World) :
    Calls Tryd.prog 8 #[.int .i64 i, .int .i64 y] w fun e w' => e = .returned (.tuple #[.int .i64 0, .bool false]) ∧ Below w.heap.size w w' := by
  go_enter Tryd.func8, Tryd.ntmps8
  go_wp2_with fail
  refine (HBD.out _).mono ?_
  rintro e w1 ⟨rfl, hb1⟩
  have HB := hide (hb1.alloc hb1.size (.cells #[.int .i64 0, .int .i64 0, .int .i64 0, .int .i64 0] 22))
  clear hb1
  go_wp2
  exact bodyPost_ret (v := .tuple #[.int .i64 0, .bool false]) (by simp [results, Tryd.results8, go_sem]) rfl ⟨rfl, HB.out⟩
theorem digit_walkY (i y : Int) (f : Nat → Int) (HBD : Hid (∀ w, TabG w → Calls Tryd.prog 7 #[.int .i64 i] w fun e w' => e = .returned (.tuple #[.agg #[.int .i64 (f 0), .int .i64 (f 1), .int .i64 (f 2), .int .i64 (f 3)], .bool true]) ∧ Below w.heap.size w w')) (w : World) (hg : TabG w) :
    Calls Tryd.prog 8 #[.int .i64 i, .int .i64 y] w fun e w' => e = .returned (.tuple #[.int .i64 (chN f y), .bool true]) ∧ Below w.heap.size w w' := by
  have HG := hide hg
  have HCH := hide (fun w => chosen_any f y w)
  clear hg
  go_enter Tryd.func8, Tryd.ntmps8
  go_wp2_with fail
  refine (HBD.out _ HG.out).mono ?_
  rintro e w1 ⟨rfl, hb1⟩
  go_upto_region 2 with fail
  refine wp_gen (fun W => LiesI W w1.heap.size f ∧ Below w.heap.size w W) ⟨liesI_new w1 f _, hb1.alloc hb1.size _⟩ ?_
  clear hb1 HBD HG
  generalize w1.heap.size = p6 at *
  rintro W2 h2
  have HL := hide h2
  have hl := h2.1.1
  clear h2
  go_wp2_with fail
  refine (HCH.out _).mono ?_
  rintro e w3 ⟨rfl, hb3⟩
  have HB := hide (show Below w.heap.size w w3 from HL.out.2.trans (hb3.mono HL.out.2.size))
  clear hb3 HL hl
  go_wp2
  exact bodyPost_ret (v := .tuple #[.int .i64 (chN f y), .bool true]) (by simp [results, Tryd.results8, go_sem]) rfl ⟨rfl, HB.out⟩
theorem digit_no (i y : Int) (hi : i < 8 ∨ 15 < i) (w : World) : Calls Tryd.prog 8 #[.int .i64 i, .int .i64 y] w fun e w' => e = .returned (.tuple #[.int .i64 0, .bool false]) ∧ Below w.heap.size w w' :=
  digit_walkN i y (fun w => bounds_no i hi w) w
theorem digit_yes (i y : Int) (h1 : 8 ≤ i) (h2 : i ≤ 15) (w : World) (hg : TabG w) : Calls Tryd.prog 8 #[.int .i64 i, .int .i64 y] w fun e w' => e = .returned (.tuple #[.int .i64 (chN (tabN i) y), .bool true]) ∧ Below w.heap.size w w' :=
  digit_walkY i y (tabN i) (fun w hg => bounds_yes i h1 h2 w hg) w hg
/-- == on arrays of four ints. -/
theorem four_equal (f g : Nat → Int) (w : World) :
    (Op.equalIn 10000 22 (.agg #[.int .i64 (f 0), .int .i64 (f 1), .int .i64 (f 2), .int .i64 (f 3)]) (.agg #[.int .i64 (g 0), .int .i64 (g 1), .int .i64 (g 2), .int .i64 (g 3)])).run Tryd.prog w = .ok (f 0 == g 0 && (f 1 == g 1 && (f 2 == g 2 && f 3 == g 3))) w := by
  have u3 := Tryd.underlying3
  have a3 := Tryd.isAgg3
  obtain ⟨inf, hi⟩ : ∃ i, Tryd.prog.info? 3 = some i := Option.isSome_iff_exists.1 (by kernel_rfl)
  rw [show (10000 : Nat) = 9999 + 1 from rfl, run_equalIn_array w 9999 _ _ Tryd.underlying22 hi]
  have hc : Tryd.prog.cellsOf 3 = 1 := by kernel_rfl
  rw [hc]
  simp only [List.range_succ, List.range_zero, List.nil_append, List.cons_append, Op.eqItems]
  go_simp
  by_cases h0 : f 0 = g 0
  · by_cases h1 : f 1 = g 1
    · by_cases h2 : f 2 = g 2
      · by_cases h3 : f 3 = g 3 <;> simp [h0, h1, h2, h3]
      · simp [h0, h1, h2]
    · simp [h0, h1]
  · simp [h0]
theorem four_same (f : Nat → Int) (w : World) : (Op.equalIn 10000 22 (.agg #[.int .i64 (f 0), .int .i64 (f 1), .int .i64 (f 2), .int .i64 (f 3)]) (.agg #[.int .i64 (f 0), .int .i64 (f 1), .int .i64 (f 2), .int .i64 (f 3)])).run Tryd.prog w = .ok true w := by
  rw [four_equal]
  simp

set_option maxHeartbeats 1000000 in
theorem awake14_any (w : World) (hg : TabG w) : Calls Tryd.prog 9 #[] w fun e w' => e = .returned (.bool true) ∧ Below w.heap.size w w' := by
  have HG := hide hg
  have HB8 : Hid (∀ w, TabG w → Calls Tryd.prog 7 #[.int .i64 8] w fun e w' => e = .returned (.tuple #[.agg #[.int .i64 12, .int .i64 3, .int .i64 (-5), .int .i64 (-13)], .bool true]) ∧ Below w.heap.size w w') := fun w hg => bounds_8 w hg
  have HD8 : Hid (∀ w, TabG w → Calls Tryd.prog 8 #[.int .i64 8, .int .i64 11] w fun e w' => e = .returned (.tuple #[.int .i64 1, .bool true]) ∧ Below w.heap.size w w') := fun w hg => digit_yes 8 11 (by omega) (by omega) w hg
  have hq : ∀ w, (Op.equalIn 10000 22 (.agg #[.int .i64 12, .int .i64 3, .int .i64 (-5), .int .i64 (-13)]) (.agg #[.int .i64 12, .int .i64 3, .int .i64 (-5), .int .i64 (-13)])).run Tryd.prog w = .ok true w := fun w => four_same (tabN 8) w
  clear hg
  go_enter Tryd.func9, Tryd.ntmps9
  go_wp2_with fail
  refine (HB8.out _ HG.out).mono ?_
  rintro e w1 ⟨rfl, hb1⟩
  replace HG := hide (HG.out.below hb1)
  go_upto_region 2 with fail
  have hbw := belowT_allocs w1 (.cells #[.int .i64 12, .int .i64 3, .int .i64 (-5), .int .i64 (-13)] 22)
  refine wp_gen (fun W => LiesI W w1.heap.size (tabN 8) ∧ TabG W ∧ Below w.heap.size w W) ⟨liesI_new w1 (tabN 8) _, HG.out.below hbw, hb1.trans (hbw.mono hb1.size)⟩ ?_
  clear hb1 HB8 HG hbw
  generalize w1.heap.size = p1 at *
  rintro W2 h2
  have HL := hide h2
  clear h2
  go_wp2_with fail
  refine (HD8.out _ HL.out.2.1).mono ?_
  rintro e w3 ⟨rfl, hb3⟩
  have HL3 : Hid (LiesI w3 p1 (tabN 8) ∧ Below w.heap.size w w3) := ⟨HL.out.1.below hb3, HL.out.2.2.trans (hb3.mono HL.out.2.2.size)⟩
  clear hb3 HL HD8
  have hl0 : w3.cell? ⟨p1, 0, none⟩ = some (.int .i64 12) := HL3.out.1.1 0 (by decide)
  have hl1 : w3.cell? ⟨p1, 1, none⟩ = some (.int .i64 3) := HL3.out.1.1 1 (by decide)
  have hl2 : w3.cell? ⟨p1, 2, none⟩ = some (.int .i64 (-5)) := HL3.out.1.1 2 (by decide)
  have hl3 : w3.cell? ⟨p1, 3, none⟩ = some (.int .i64 (-13)) := HL3.out.1.1 3 (by decide)
  go_wp2
  go_ret
  exact ⟨rfl, HL3.out.2⟩
end Go.Proofs.YtgnaomgcfliamaaDoor

/- Contracts: radicandref14.least, Bounds, Digit. -/
set_option linter.unusedVariables false
set_option linter.unusedSimpArgs false
set_option maxRecDepth 8000
namespace Go.Proofs.YtgnaomgcfliamaaDoor
open Go.RowKit Plain

/-- The least whole number that isn't below a third. -/
def leN (n : Int) : Int := (n + 2) / 3
/-- The document's row. -/
def rowN (i : Int) : Nat → Int
  | 0 => leN (4 * (i + 1))
  | 1 => leN (i + 1)
  | 2 => leN (-2 * i)
  | _ => leN (-5 * i)
theorem row_tab (i : Int) (h1 : 8 ≤ i) (h2 : i ≤ 15) : (#[.int .i64 (rowN i 0), .int .i64 (rowN i 1), .int .i64 (rowN i 2), .int .i64 (rowN i 3)] : Array Value) = #[.int .i64 (tabN i 0), .int .i64 (tabN i 1), .int .i64 (tabN i 2), .int .i64 (tabN i 3)] := by
  rcases (show i = 8 ∨ i = 9 ∨ i = 10 ∨ i = 11 ∨ i = 12 ∨ i = 13 ∨ i = 14 ∨ i = 15 by omega) with rfl | rfl | rfl | rfl | rfl | rfl | rfl | rfl <;> rfl

theorem least_any (n : Int) (h1 : -290 ≤ n) (h2 : n ≤ 1000) (w : World) : Calls Tryd.prog 23 #[.int .i64 n] w fun e w' => e = .returned (.int .i64 (leN n)) ∧ w' = w := by
  go_enter Tryd.func23, Tryd.ntmps23
  go_wp2
  go_loopw [3] (fun i wr => ∃ k : Int, -100 ≤ k ∧ 3 * (k - 1) < n ∧ i = .int .i64 k ∧ wr = w)
    (fun i _ => (n - 3 * intOf i).toNat)
  case atStart => exact ⟨-100, by omega, by omega, rfl, rfl⟩
  case round =>
    obtain ⟨k, hk1, hk2, rfl, rfl⟩ := hrel
    have hw3 : IntKind.i64.wrap (3 * k) = 3 * k := by rw [IntKind.wrap_i64]; omega
    have hw1 : IntKind.i64.wrap (k + 1) = k + 1 := by rw [IntKind.wrap_i64]; omega
    by_cases hlt : 3 * k < n
    · have HT := hide hlt
      go_wp2
      go_roundw
      case rel => exact ⟨k + 1, by omega, by have := HT.out; omega, rfl, by first | rfl | trivial⟩
      case measure => simp [intOf]; have := HT.out; omega
    · have HR : Hid (k = leN n) := by apply hide; unfold leN; omega
      go_wp2
      go_ret
      exact ⟨ret_int HR.out, rfl⟩

set_option maxHeartbeats 1000000 in
theorem rbounds_any (i : Int) (h1 : 8 ≤ i) (h2 : i ≤ 15) (w : World) : Calls Tryd.prog 10 #[.int .i64 i] w fun e w' => e = .returned (.agg #[.int .i64 (rowN i 0), .int .i64 (rowN i 1), .int .i64 (rowN i 2), .int .i64 (rowN i 3)]) ∧ Below w.heap.size w w' := by
  have HS := hide (r4_start w 22)
  have HL : Hid (∀ n, -290 ≤ n → n ≤ 1000 → ∀ w, Calls Tryd.prog 23 #[.int .i64 n] w fun e w' => e = .returned (.int .i64 (leN n)) ∧ w' = w) := fun n a b w => least_any n a b w
  have HA := hide (HL.out (4 * (i + 1)) (by omega) (by omega))
  have HB := hide (HL.out (i + 1) (by omega) (by omega))
  have HC := hide (HL.out (-2 * i) (by omega) (by omega))
  have HD := hide (HL.out (-5 * i) (by omega) (by omega))
  have e0 : rowN i 0 = leN (4 * (i + 1)) := rfl
  have e1 : rowN i 1 = leN (i + 1) := rfl
  have e2 : rowN i 2 = leN (-2 * i) := rfl
  have e3 : rowN i 3 = leN (-5 * i) := rfl
  rw [e0, e1, e2, e3]
  have hw0 : IntKind.i64.wrap (i + 1) = i + 1 := by rw [IntKind.wrap_i64]; omega
  have hw1 : IntKind.i64.wrap (4 * (i + 1)) = 4 * (i + 1) := by rw [IntKind.wrap_i64]; omega
  have hw2 : IntKind.i64.wrap (-2 * i) = -2 * i := by rw [IntKind.wrap_i64]; omega
  have hw3 : IntKind.i64.wrap (-5 * i) = -5 * i := by rw [IntKind.wrap_i64]; omega
  clear HL e0 e1 e2 e3 h1 h2
  generalize leN (4 * (i + 1)) = q0 at *
  generalize leN (i + 1) = q1 at *
  generalize leN (-2 * i) = q2 at *
  generalize leN (-5 * i) = q3 at *
  go_enter Tryd.func10, Tryd.ntmps10
  go_wp2_with fail
  refine (HA.out _).mono ?_
  rintro e w1 ⟨rfl, hw⟩
  subst w1
  go_wp2_with fail
  refine (HB.out _).mono ?_
  rintro e w1 ⟨rfl, hw⟩
  subst w1
  go_wp2_with fail
  refine (HC.out _).mono ?_
  rintro e w1 ⟨rfl, hw⟩
  subst w1
  go_wp2_with fail
  refine (HD.out _).mono ?_
  rintro e w1 ⟨rfl, hw⟩
  subst w1
  have hr1 := HS.out.l.1
  have hrl1 := HS.out.l.2
  have hrf1 := HS.out.f
  have HBE := hide HS.out.bel
  clear HS
  go_wp2
  exact bodyPost_ret (v := .agg #[.int .i64 q0, .int .i64 q1, .int .i64 q2, .int .i64 q3]) (by simp [results, Tryd.results10, go_sem]) rfl ⟨rfl, belowT_allocs _ _⟩

set_option maxHeartbeats 1000000 in
theorem rdigit_any (f : Nat → Int) (y : Int) (w : World) : Calls Tryd.prog 11 #[.agg #[.int .i64 (f 0), .int .i64 (f 1), .int .i64 (f 2), .int .i64 (f 3)], .int .i64 y] w fun e w' => e = .returned (.int .i64 (chN f y)) ∧ Below w.heap.size w w' := by
  have HB : Hid (LiesI (w.alloc (.cells #[.int .i64 (f 0), .int .i64 (f 1), .int .i64 (f 2), .int .i64 (f 3)] 22)) w.heap.size f ∧ Below w.heap.size w (w.alloc (.cells #[.int .i64 (f 0), .int .i64 (f 1), .int .i64 (f 2), .int .i64 (f 3)] 22))) := ⟨liesI_new w f _, belowT_allocs w _⟩
  go_enter Tryd.func11, Tryd.ntmps11
  go_wp2
  go_loopw [5] (fun i wr => ∃ j : Nat, j ≤ 4 ∧ i = .int .i64 j ∧ Hid (∀ m, m < j → ¬ f m ≤ y) ∧ Hid (LiesI wr w.heap.size f ∧ Below w.heap.size w wr))
    (fun i _ => 4 - (intOf i).toNat)
  case atStart => exact ⟨0, by omega, rfl, fun m hm => absurd hm (by omega), HB⟩
  case round =>
    clear HB
    obtain ⟨j, hj, rfl, HA, HB⟩ := hrel
    by_cases hlt : j < 4
    · have hj4 : (j : Int) < 4 := by omega
      have hck := HB.out.1.1 j hlt
      have hw2 : IntKind.i64.wrap (2 - (j : Int)) = 2 - (j : Int) := by rw [IntKind.wrap_i64]; omega
      by_cases hy : f j ≤ y
      · have HR := hide (chN_at hlt HA.out hy)
        clear HA
        go_wp2
        go_ret
        exact ⟨ret_int HR.out.symm, HB.out.2⟩
      · have HN : Hid (∀ m, m < j + 1 → ¬ f m ≤ y) := fun m hm => by
          rcases Nat.lt_or_ge m j with h | h
          · exact HA.out m h
          · have : m = j := by omega
            rw [this]; exact hy
        clear HA
        go_wp2
        go_roundw
        case rel => exact ⟨j + 1, by omega, by go_num, HN, HB⟩
        case measure => simp [intOf]; omega
    · obtain rfl : j = 4 := by omega
      have HR := hide (chN_none HA.out)
      clear HA
      go_wp2
      go_ret
      exact ⟨ret_int HR.out.symm, HB.out.2⟩
end Go.Proofs.YtgnaomgcfliamaaDoor

/- Contracts: table.RootBounds, RootDigit; radicandref14.RootBounds. -/
set_option linter.unusedVariables false
set_option linter.unusedSimpArgs false
set_option maxRecDepth 8000
namespace Go.Proofs.YtgnaomgcfliamaaDoor
open Go.RowKit Plain

/-- What a root's step adds to the bounds of 2 and -1, and to those of 1 and 0. -/
def qN (c j : Nat) : Int := ((c / 4 ^ j : Nat) : Int)
/-- A root's bounds. -/
def rbN (j : Nat) (s : Int) : Nat → Int
  | 0 => 3 * s + qN 36 j
  | 1 => s + qN 4 j
  | 2 => -s + qN 4 j
  | _ => -3 * s + qN 36 j
theorem qN_far {c j : Nat} (hc : c ≤ 36) (hj : 3 ≤ j) : qN c j = 0 := by
  unfold qN
  have h : 4 ^ 3 ≤ 4 ^ j := Nat.pow_le_pow_right (by decide) hj
  rw [Nat.div_eq_of_lt (by have : (4 : Nat) ^ 3 = 64 := rfl; omega)]
  rfl
theorem rb_far (j : Nat) (s : Int) (hj : 3 ≤ j) : rbN j s = rbN 3 s := by
  funext k
  match k with
  | 0 => show 3 * s + qN 36 j = 3 * s + qN 36 3; rw [qN_far (by decide) hj]; rfl
  | 1 => show s + qN 4 j = s + qN 4 3; rw [qN_far (by decide) hj]; rfl
  | 2 => show -s + qN 4 j = -s + qN 4 3; rw [qN_far (by decide) hj]; rfl
  | k + 3 => show -3 * s + qN 36 j = -3 * s + qN 36 3; rw [qN_far (by decide) hj]; rfl

theorem rootB_no (j s : Int) (h : j < 0 ∨ s < 28 ∨ 64 < s) (w : World) : Calls Tryd.prog 12 #[.int .i64 j, .int .i64 s] w fun e w' => e = .returned (.tuple #[.agg #[.int .i64 0, .int .i64 0, .int .i64 0, .int .i64 0], .bool false]) ∧ Below w.heap.size w w' := by
  have HS := hide (r4_start w 22)
  go_enter Tryd.func12, Tryd.ntmps12
  by_cases hj : j < 0
  · go_upto_region 2 with fail
    refine wp_gen (fun W => R4St w W) HS.out ?_
    clear HS
    rintro W2 h2
    have hr1 := h2.l.1
    have hrl1 := h2.l.2
    have hrf1 := h2.f
    have HBE := hide h2.bel
    clear h2
    go_wp2
    exact bodyPost_ret (v := .tuple #[.agg #[.int .i64 0, .int .i64 0, .int .i64 0, .int .i64 0], .bool false]) (by simp [results, Tryd.results12, go_sem, hr1, hrl1]) rfl ⟨rfl, below_set4 HBE.out _ (by omega) _ _ _ _⟩
  · by_cases hs : s < 28
    · go_upto_region 2 with fail
      refine wp_gen (fun W => R4St w W) HS.out ?_
      clear HS
      rintro W2 h2
      have hr1 := h2.l.1
      have hrl1 := h2.l.2
      have hrf1 := h2.f
      have HBE := hide h2.bel
      clear h2
      go_wp2
      exact bodyPost_ret (v := .tuple #[.agg #[.int .i64 0, .int .i64 0, .int .i64 0, .int .i64 0], .bool false]) (by simp [results, Tryd.results12, go_sem, hr1, hrl1]) rfl ⟨rfl, below_set4 HBE.out _ (by omega) _ _ _ _⟩
    · have hs2 : 64 < s := by omega
      go_upto_region 2 with fail
      refine wp_gen (fun W => R4St w W) HS.out ?_
      clear HS
      rintro W2 h2
      have hr1 := h2.l.1
      have hrl1 := h2.l.2
      have hrf1 := h2.f
      have HBE := hide h2.bel
      clear h2
      go_wp2
      exact bodyPost_ret (v := .tuple #[.agg #[.int .i64 0, .int .i64 0, .int .i64 0, .int .i64 0], .bool false]) (by simp [results, Tryd.results12, go_sem, hr1, hrl1]) rfl ⟨rfl, below_set4 HBE.out _ (by omega) _ _ _ _⟩

/-- What RootBounds goes by: its result, and the bounds found so far. -/
structure RbSt (p : Nat) (f : Nat → Int) (w W : World) : Prop where
  r : R4St w W
  l : LiesI W p f
  fr : ∀ i, W.frozen? ⟨p, i, none⟩ = false
  op : w.heap.size < p
theorem RbSt.set {p : Nat} {f : Nat → Int} {w W : World} (h : RbSt p f w W) (j : Nat) (hj : j < 4) (v : Int) : RbSt p (fun m => if m = j then v else f m) w (W.setCell ⟨p, j, none⟩ (.int .i64 v)) := by
  have hop := h.op
  have hb : Below p W (W.setCell ⟨p, j, none⟩ (.int .i64 v)) := (Below.refl p W).setCell (p := ⟨p, j, none⟩) (Nat.le_refl _) _
  refine ⟨⟨h.r.l.under hb hop, fun i => by simpa [go_sem] using h.r.f i, h.r.bel.setCell (p := ⟨p, j, none⟩) (show w.heap.size ≤ p by omega) _⟩, ⟨fun i hi => ?_, by simpa [go_sem] using h.l.2⟩, fun i => by simpa [go_sem] using h.fr i, hop⟩
  have hc := h.l.1 j hj
  have hci := h.l.1 i hi
  have hlt := h.l.2
  by_cases hij : i = j
  · subst hij
    simp [go_sem, hc]
  · simp [go_sem, hci, hij]

set_option maxHeartbeats 2000000 in
theorem rootB_0 (j : Int) (hj : j = 0) (s : Int) (h1 : 28 ≤ s) (h2 : s ≤ 64) (w : World) : Calls Tryd.prog 12 #[.int .i64 j, .int .i64 s] w fun e w' => e = .returned (.tuple #[.agg #[.int .i64 (rbN 0 s 0), .int .i64 (rbN 0 s 1), .int .i64 (rbN 0 s 2), .int .i64 (rbN 0 s 3)], .bool true]) ∧ Below w.heap.size w w' := by
  have HS := hide (r4_start w 22)
  have hn0 : ¬ j < 0 := by omega
  have hn1 : ¬ s < 28 := by omega
  have hn2 : ¬ 64 < s := by omega
  have hmn : min j 3 = 0 := by omega
  have HS1 := hide h1
  have HS2 := hide h2
  clear h1 h2 hj
  go_enter Tryd.func12, Tryd.ntmps12
  go_upto_region 4 with fail
  have hbw := belowT_allocs (w.alloc (.cells #[.int .i64 0, .int .i64 0, .int .i64 0, .int .i64 0] 22)) (.cells #[.int .i64 0, .int .i64 0, .int .i64 0, .int .i64 0] 22)
  refine wp_gen (fun W => RbSt (w.alloc (.cells #[.int .i64 0, .int .i64 0, .int .i64 0, .int .i64 0] 22)).heap.size (fun _ => 0) w W) ⟨HS.out.below hbw, liesI_new _ (fun _ => 0) _, fun i => by simp [go_sem], by simp⟩ ?_
  clear HS hbw
  simp only [World.size_alloc]
  generalize hpp : w.heap.size + 1 = p
  clear hpp
  rintro W4 h4
  have HB0 := hide h4
  clear h4
  go_wp2
  go_loopw [20] (fun i wr => ∃ (k : Nat) (f : Nat → Int), k ≤ 4 ∧ i = .int .i64 k ∧ Hid (∀ m, m < k → f m = rbN 0 s m) ∧ Hid (RbSt p f w wr))
    (fun i _ => 4 - (intOf i).toNat)
  case atStart => exact ⟨0, fun _ => 0, by omega, rfl, fun m hm => absurd hm (by omega), HB0⟩
  case round =>
    clear HB0
    obtain ⟨k, f, hk, rfl, HF, hst⟩ := hrel
    have hc := hst.out.l.1
    have hcl := hst.out.l.2
    have hcf := hst.out.fr
    have h1 := HS1.out
    have h2 := HS2.out
    rcases (show k = 0 ∨ k = 1 ∨ k = 2 ∨ k = 3 ∨ k = 4 by omega) with rfl | rfl | rfl | rfl | rfl
    · have HN : Hid (∀ m, m < 1 → (fun m => if m = 0 then 3 * s + 36 else f m) m = rbN 0 s m) := fun m hm => by
        show (if m = 0 then _ else f m) = _
        split
        · rename_i h
          rw [h]; simp [rbN, qN]
        · exact HF.out m (by omega)
      have hst2 := hide (hst.out.set 0 (by decide) (3 * s + 36))
      have hwa : IntKind.i64.wrap (3 * s + 36) = 3 * s + 36 := by rw [IntKind.wrap_i64]; omega
      have hwb : IntKind.i64.wrap (3 * s) = 3 * s := by rw [IntKind.wrap_i64]; omega
      clear HF hst h1 h2
      go_wp2
      exact ⟨⟨1, _, by omega, by rfl, HN, hst2⟩, by simp [intOf]⟩
    · have HN : Hid (∀ m, m < 2 → (fun m => if m = 1 then s + 4 else f m) m = rbN 0 s m) := fun m hm => by
        show (if m = 1 then _ else f m) = _
        split
        · rename_i h
          rw [h]; simp [rbN, qN]
        · exact HF.out m (by omega)
      have hst2 := hide (hst.out.set 1 (by decide) (s + 4))
      have hwa : IntKind.i64.wrap (s + 4) = s + 4 := by rw [IntKind.wrap_i64]; omega
      have hwb : IntKind.i64.wrap (s) = s := by rw [IntKind.wrap_i64]; omega
      clear HF hst h1 h2
      go_wp2
      exact ⟨⟨2, _, by omega, by rfl, HN, hst2⟩, by simp [intOf]⟩
    · have HN : Hid (∀ m, m < 3 → (fun m => if m = 2 then -s + 4 else f m) m = rbN 0 s m) := fun m hm => by
        show (if m = 2 then _ else f m) = _
        split
        · rename_i h
          rw [h]; simp [rbN, qN]
        · exact HF.out m (by omega)
      have hst2 := hide (hst.out.set 2 (by decide) (-s + 4))
      have hwa : IntKind.i64.wrap (-s + 4) = -s + 4 := by rw [IntKind.wrap_i64]; omega
      have hwb : IntKind.i64.wrap (-1 * s) = -1 * s := by rw [IntKind.wrap_i64]; omega
      clear HF hst h1 h2
      go_wp2
      exact ⟨⟨3, _, by omega, by rfl, HN, hst2⟩, by simp [intOf]⟩
    · have HN : Hid (∀ m, m < 4 → (fun m => if m = 3 then -3 * s + 36 else f m) m = rbN 0 s m) := fun m hm => by
        show (if m = 3 then _ else f m) = _
        split
        · rename_i h
          rw [h]; simp [rbN, qN]
        · exact HF.out m (by omega)
      have hst2 := hide (hst.out.set 3 (by decide) (-3 * s + 36))
      have hwa : IntKind.i64.wrap (-3 * s + 36) = -3 * s + 36 := by rw [IntKind.wrap_i64]; omega
      have hwb : IntKind.i64.wrap (-3 * s) = -3 * s := by rw [IntKind.wrap_i64]; omega
      clear HF hst h1 h2
      go_wp2
      exact ⟨⟨4, _, by omega, by rfl, HN, hst2⟩, by simp [intOf]⟩
    · have hx : ∀ i, i < 4 → wr.cell? ⟨p, i, none⟩ = some (.int .i64 (rbN 0 s i)) := fun i hi => by rw [hc i hi, HF.out i hi]
      have hr1 := hst.out.r.l.1
      have hrl1 := hst.out.r.l.2
      have hrf1 := hst.out.r.f
      have HBE := hide hst.out.r.bel
      clear HF hst hc h1 h2
      go_wp2
      exact bodyPost_ret (v := .tuple #[.agg #[.int .i64 (rbN 0 s 0), .int .i64 (rbN 0 s 1), .int .i64 (rbN 0 s 2), .int .i64 (rbN 0 s 3)], .bool true]) (by simp [results, Tryd.results12, go_sem, hr1, hrl1]) rfl ⟨rfl, below_set4 HBE.out _ (by omega) _ _ _ _⟩

set_option maxHeartbeats 2000000 in
theorem rootB_1 (j : Int) (hj : j = 1) (s : Int) (h1 : 28 ≤ s) (h2 : s ≤ 64) (w : World) : Calls Tryd.prog 12 #[.int .i64 j, .int .i64 s] w fun e w' => e = .returned (.tuple #[.agg #[.int .i64 (rbN 1 s 0), .int .i64 (rbN 1 s 1), .int .i64 (rbN 1 s 2), .int .i64 (rbN 1 s 3)], .bool true]) ∧ Below w.heap.size w w' := by
  have HS := hide (r4_start w 22)
  have hn0 : ¬ j < 0 := by omega
  have hn1 : ¬ s < 28 := by omega
  have hn2 : ¬ 64 < s := by omega
  have hmn : min j 3 = 1 := by omega
  have HS1 := hide h1
  have HS2 := hide h2
  clear h1 h2 hj
  go_enter Tryd.func12, Tryd.ntmps12
  go_upto_region 4 with fail
  have hbw := belowT_allocs (w.alloc (.cells #[.int .i64 0, .int .i64 0, .int .i64 0, .int .i64 0] 22)) (.cells #[.int .i64 0, .int .i64 0, .int .i64 0, .int .i64 0] 22)
  refine wp_gen (fun W => RbSt (w.alloc (.cells #[.int .i64 0, .int .i64 0, .int .i64 0, .int .i64 0] 22)).heap.size (fun _ => 0) w W) ⟨HS.out.below hbw, liesI_new _ (fun _ => 0) _, fun i => by simp [go_sem], by simp⟩ ?_
  clear HS hbw
  simp only [World.size_alloc]
  generalize hpp : w.heap.size + 1 = p
  clear hpp
  rintro W4 h4
  have HB0 := hide h4
  clear h4
  go_wp2
  go_loopw [20] (fun i wr => ∃ (k : Nat) (f : Nat → Int), k ≤ 4 ∧ i = .int .i64 k ∧ Hid (∀ m, m < k → f m = rbN 1 s m) ∧ Hid (RbSt p f w wr))
    (fun i _ => 4 - (intOf i).toNat)
  case atStart => exact ⟨0, fun _ => 0, by omega, rfl, fun m hm => absurd hm (by omega), HB0⟩
  case round =>
    clear HB0
    obtain ⟨k, f, hk, rfl, HF, hst⟩ := hrel
    have hc := hst.out.l.1
    have hcl := hst.out.l.2
    have hcf := hst.out.fr
    have h1 := HS1.out
    have h2 := HS2.out
    rcases (show k = 0 ∨ k = 1 ∨ k = 2 ∨ k = 3 ∨ k = 4 by omega) with rfl | rfl | rfl | rfl | rfl
    · have HN : Hid (∀ m, m < 1 → (fun m => if m = 0 then 3 * s + 9 else f m) m = rbN 1 s m) := fun m hm => by
        show (if m = 0 then _ else f m) = _
        split
        · rename_i h
          rw [h]; simp [rbN, qN]
        · exact HF.out m (by omega)
      have hst2 := hide (hst.out.set 0 (by decide) (3 * s + 9))
      have hwa : IntKind.i64.wrap (3 * s + 9) = 3 * s + 9 := by rw [IntKind.wrap_i64]; omega
      have hwb : IntKind.i64.wrap (3 * s) = 3 * s := by rw [IntKind.wrap_i64]; omega
      clear HF hst h1 h2
      go_wp2
      exact ⟨⟨1, _, by omega, by rfl, HN, hst2⟩, by simp [intOf]⟩
    · have HN : Hid (∀ m, m < 2 → (fun m => if m = 1 then s + 1 else f m) m = rbN 1 s m) := fun m hm => by
        show (if m = 1 then _ else f m) = _
        split
        · rename_i h
          rw [h]; simp [rbN, qN]
        · exact HF.out m (by omega)
      have hst2 := hide (hst.out.set 1 (by decide) (s + 1))
      have hwa : IntKind.i64.wrap (s + 1) = s + 1 := by rw [IntKind.wrap_i64]; omega
      have hwb : IntKind.i64.wrap (s) = s := by rw [IntKind.wrap_i64]; omega
      clear HF hst h1 h2
      go_wp2
      exact ⟨⟨2, _, by omega, by rfl, HN, hst2⟩, by simp [intOf]⟩
    · have HN : Hid (∀ m, m < 3 → (fun m => if m = 2 then -s + 1 else f m) m = rbN 1 s m) := fun m hm => by
        show (if m = 2 then _ else f m) = _
        split
        · rename_i h
          rw [h]; simp [rbN, qN]
        · exact HF.out m (by omega)
      have hst2 := hide (hst.out.set 2 (by decide) (-s + 1))
      have hwa : IntKind.i64.wrap (-s + 1) = -s + 1 := by rw [IntKind.wrap_i64]; omega
      have hwb : IntKind.i64.wrap (-1 * s) = -1 * s := by rw [IntKind.wrap_i64]; omega
      clear HF hst h1 h2
      go_wp2
      exact ⟨⟨3, _, by omega, by rfl, HN, hst2⟩, by simp [intOf]⟩
    · have HN : Hid (∀ m, m < 4 → (fun m => if m = 3 then -3 * s + 9 else f m) m = rbN 1 s m) := fun m hm => by
        show (if m = 3 then _ else f m) = _
        split
        · rename_i h
          rw [h]; simp [rbN, qN]
        · exact HF.out m (by omega)
      have hst2 := hide (hst.out.set 3 (by decide) (-3 * s + 9))
      have hwa : IntKind.i64.wrap (-3 * s + 9) = -3 * s + 9 := by rw [IntKind.wrap_i64]; omega
      have hwb : IntKind.i64.wrap (-3 * s) = -3 * s := by rw [IntKind.wrap_i64]; omega
      clear HF hst h1 h2
      go_wp2
      exact ⟨⟨4, _, by omega, by rfl, HN, hst2⟩, by simp [intOf]⟩
    · have hx : ∀ i, i < 4 → wr.cell? ⟨p, i, none⟩ = some (.int .i64 (rbN 1 s i)) := fun i hi => by rw [hc i hi, HF.out i hi]
      have hr1 := hst.out.r.l.1
      have hrl1 := hst.out.r.l.2
      have hrf1 := hst.out.r.f
      have HBE := hide hst.out.r.bel
      clear HF hst hc h1 h2
      go_wp2
      exact bodyPost_ret (v := .tuple #[.agg #[.int .i64 (rbN 1 s 0), .int .i64 (rbN 1 s 1), .int .i64 (rbN 1 s 2), .int .i64 (rbN 1 s 3)], .bool true]) (by simp [results, Tryd.results12, go_sem, hr1, hrl1]) rfl ⟨rfl, below_set4 HBE.out _ (by omega) _ _ _ _⟩

set_option maxHeartbeats 2000000 in
theorem rootB_2 (j : Int) (hj : j = 2) (s : Int) (h1 : 28 ≤ s) (h2 : s ≤ 64) (w : World) : Calls Tryd.prog 12 #[.int .i64 j, .int .i64 s] w fun e w' => e = .returned (.tuple #[.agg #[.int .i64 (rbN 2 s 0), .int .i64 (rbN 2 s 1), .int .i64 (rbN 2 s 2), .int .i64 (rbN 2 s 3)], .bool true]) ∧ Below w.heap.size w w' := by
  have HS := hide (r4_start w 22)
  have hn0 : ¬ j < 0 := by omega
  have hn1 : ¬ s < 28 := by omega
  have hn2 : ¬ 64 < s := by omega
  have hmn : min j 3 = 2 := by omega
  have HS1 := hide h1
  have HS2 := hide h2
  clear h1 h2 hj
  go_enter Tryd.func12, Tryd.ntmps12
  go_upto_region 4 with fail
  have hbw := belowT_allocs (w.alloc (.cells #[.int .i64 0, .int .i64 0, .int .i64 0, .int .i64 0] 22)) (.cells #[.int .i64 0, .int .i64 0, .int .i64 0, .int .i64 0] 22)
  refine wp_gen (fun W => RbSt (w.alloc (.cells #[.int .i64 0, .int .i64 0, .int .i64 0, .int .i64 0] 22)).heap.size (fun _ => 0) w W) ⟨HS.out.below hbw, liesI_new _ (fun _ => 0) _, fun i => by simp [go_sem], by simp⟩ ?_
  clear HS hbw
  simp only [World.size_alloc]
  generalize hpp : w.heap.size + 1 = p
  clear hpp
  rintro W4 h4
  have HB0 := hide h4
  clear h4
  go_wp2
  go_loopw [20] (fun i wr => ∃ (k : Nat) (f : Nat → Int), k ≤ 4 ∧ i = .int .i64 k ∧ Hid (∀ m, m < k → f m = rbN 2 s m) ∧ Hid (RbSt p f w wr))
    (fun i _ => 4 - (intOf i).toNat)
  case atStart => exact ⟨0, fun _ => 0, by omega, rfl, fun m hm => absurd hm (by omega), HB0⟩
  case round =>
    clear HB0
    obtain ⟨k, f, hk, rfl, HF, hst⟩ := hrel
    have hc := hst.out.l.1
    have hcl := hst.out.l.2
    have hcf := hst.out.fr
    have h1 := HS1.out
    have h2 := HS2.out
    rcases (show k = 0 ∨ k = 1 ∨ k = 2 ∨ k = 3 ∨ k = 4 by omega) with rfl | rfl | rfl | rfl | rfl
    · have HN : Hid (∀ m, m < 1 → (fun m => if m = 0 then 3 * s + 2 else f m) m = rbN 2 s m) := fun m hm => by
        show (if m = 0 then _ else f m) = _
        split
        · rename_i h
          rw [h]; simp [rbN, qN]
        · exact HF.out m (by omega)
      have hst2 := hide (hst.out.set 0 (by decide) (3 * s + 2))
      have hwa : IntKind.i64.wrap (3 * s + 2) = 3 * s + 2 := by rw [IntKind.wrap_i64]; omega
      have hwb : IntKind.i64.wrap (3 * s) = 3 * s := by rw [IntKind.wrap_i64]; omega
      clear HF hst h1 h2
      go_wp2
      exact ⟨⟨1, _, by omega, by rfl, HN, hst2⟩, by simp [intOf]⟩
    · have HN : Hid (∀ m, m < 2 → (fun m => if m = 1 then s else f m) m = rbN 2 s m) := fun m hm => by
        show (if m = 1 then _ else f m) = _
        split
        · rename_i h
          rw [h]; simp [rbN, qN]
        · exact HF.out m (by omega)
      have hst2 := hide (hst.out.set 1 (by decide) (s))
      have hwa : IntKind.i64.wrap (s) = s := by rw [IntKind.wrap_i64]; omega
      have hwb : IntKind.i64.wrap (s) = s := by rw [IntKind.wrap_i64]; omega
      clear HF hst h1 h2
      go_wp2
      exact ⟨⟨2, _, by omega, by rfl, HN, hst2⟩, by simp [intOf]⟩
    · have HN : Hid (∀ m, m < 3 → (fun m => if m = 2 then -s else f m) m = rbN 2 s m) := fun m hm => by
        show (if m = 2 then _ else f m) = _
        split
        · rename_i h
          rw [h]; simp [rbN, qN]
        · exact HF.out m (by omega)
      have hst2 := hide (hst.out.set 2 (by decide) (-s))
      have hwa : IntKind.i64.wrap (-s) = -s := by rw [IntKind.wrap_i64]; omega
      have hwb : IntKind.i64.wrap (-1 * s) = -1 * s := by rw [IntKind.wrap_i64]; omega
      clear HF hst h1 h2
      go_wp2
      exact ⟨⟨3, _, by omega, by rfl, HN, hst2⟩, by simp [intOf]⟩
    · have HN : Hid (∀ m, m < 4 → (fun m => if m = 3 then -3 * s + 2 else f m) m = rbN 2 s m) := fun m hm => by
        show (if m = 3 then _ else f m) = _
        split
        · rename_i h
          rw [h]; simp [rbN, qN]
        · exact HF.out m (by omega)
      have hst2 := hide (hst.out.set 3 (by decide) (-3 * s + 2))
      have hwa : IntKind.i64.wrap (-3 * s + 2) = -3 * s + 2 := by rw [IntKind.wrap_i64]; omega
      have hwb : IntKind.i64.wrap (-3 * s) = -3 * s := by rw [IntKind.wrap_i64]; omega
      clear HF hst h1 h2
      go_wp2
      exact ⟨⟨4, _, by omega, by rfl, HN, hst2⟩, by simp [intOf]⟩
    · have hx : ∀ i, i < 4 → wr.cell? ⟨p, i, none⟩ = some (.int .i64 (rbN 2 s i)) := fun i hi => by rw [hc i hi, HF.out i hi]
      have hr1 := hst.out.r.l.1
      have hrl1 := hst.out.r.l.2
      have hrf1 := hst.out.r.f
      have HBE := hide hst.out.r.bel
      clear HF hst hc h1 h2
      go_wp2
      exact bodyPost_ret (v := .tuple #[.agg #[.int .i64 (rbN 2 s 0), .int .i64 (rbN 2 s 1), .int .i64 (rbN 2 s 2), .int .i64 (rbN 2 s 3)], .bool true]) (by simp [results, Tryd.results12, go_sem, hr1, hrl1]) rfl ⟨rfl, below_set4 HBE.out _ (by omega) _ _ _ _⟩

set_option maxHeartbeats 2000000 in
theorem rootB_3 (j : Int) (hj : 3 ≤ j) (s : Int) (h1 : 28 ≤ s) (h2 : s ≤ 64) (w : World) : Calls Tryd.prog 12 #[.int .i64 j, .int .i64 s] w fun e w' => e = .returned (.tuple #[.agg #[.int .i64 (rbN 3 s 0), .int .i64 (rbN 3 s 1), .int .i64 (rbN 3 s 2), .int .i64 (rbN 3 s 3)], .bool true]) ∧ Below w.heap.size w w' := by
  have HS := hide (r4_start w 22)
  have hn0 : ¬ j < 0 := by omega
  have hn1 : ¬ s < 28 := by omega
  have hn2 : ¬ 64 < s := by omega
  have hmn : min j 3 = 3 := by omega
  have HS1 := hide h1
  have HS2 := hide h2
  clear h1 h2 hj
  go_enter Tryd.func12, Tryd.ntmps12
  go_upto_region 4 with fail
  have hbw := belowT_allocs (w.alloc (.cells #[.int .i64 0, .int .i64 0, .int .i64 0, .int .i64 0] 22)) (.cells #[.int .i64 0, .int .i64 0, .int .i64 0, .int .i64 0] 22)
  refine wp_gen (fun W => RbSt (w.alloc (.cells #[.int .i64 0, .int .i64 0, .int .i64 0, .int .i64 0] 22)).heap.size (fun _ => 0) w W) ⟨HS.out.below hbw, liesI_new _ (fun _ => 0) _, fun i => by simp [go_sem], by simp⟩ ?_
  clear HS hbw
  simp only [World.size_alloc]
  generalize hpp : w.heap.size + 1 = p
  clear hpp
  rintro W4 h4
  have HB0 := hide h4
  clear h4
  go_wp2
  go_loopw [20] (fun i wr => ∃ (k : Nat) (f : Nat → Int), k ≤ 4 ∧ i = .int .i64 k ∧ Hid (∀ m, m < k → f m = rbN 3 s m) ∧ Hid (RbSt p f w wr))
    (fun i _ => 4 - (intOf i).toNat)
  case atStart => exact ⟨0, fun _ => 0, by omega, rfl, fun m hm => absurd hm (by omega), HB0⟩
  case round =>
    clear HB0
    obtain ⟨k, f, hk, rfl, HF, hst⟩ := hrel
    have hc := hst.out.l.1
    have hcl := hst.out.l.2
    have hcf := hst.out.fr
    have h1 := HS1.out
    have h2 := HS2.out
    rcases (show k = 0 ∨ k = 1 ∨ k = 2 ∨ k = 3 ∨ k = 4 by omega) with rfl | rfl | rfl | rfl | rfl
    · have HN : Hid (∀ m, m < 1 → (fun m => if m = 0 then 3 * s else f m) m = rbN 3 s m) := fun m hm => by
        show (if m = 0 then _ else f m) = _
        split
        · rename_i h
          rw [h]; simp [rbN, qN]
        · exact HF.out m (by omega)
      have hst2 := hide (hst.out.set 0 (by decide) (3 * s))
      have hwa : IntKind.i64.wrap (3 * s) = 3 * s := by rw [IntKind.wrap_i64]; omega
      have hwb : IntKind.i64.wrap (3 * s) = 3 * s := by rw [IntKind.wrap_i64]; omega
      clear HF hst h1 h2
      go_wp2
      exact ⟨⟨1, _, by omega, by rfl, HN, hst2⟩, by simp [intOf]⟩
    · have HN : Hid (∀ m, m < 2 → (fun m => if m = 1 then s else f m) m = rbN 3 s m) := fun m hm => by
        show (if m = 1 then _ else f m) = _
        split
        · rename_i h
          rw [h]; simp [rbN, qN]
        · exact HF.out m (by omega)
      have hst2 := hide (hst.out.set 1 (by decide) (s))
      have hwa : IntKind.i64.wrap (s) = s := by rw [IntKind.wrap_i64]; omega
      have hwb : IntKind.i64.wrap (s) = s := by rw [IntKind.wrap_i64]; omega
      clear HF hst h1 h2
      go_wp2
      exact ⟨⟨2, _, by omega, by rfl, HN, hst2⟩, by simp [intOf]⟩
    · have HN : Hid (∀ m, m < 3 → (fun m => if m = 2 then -s else f m) m = rbN 3 s m) := fun m hm => by
        show (if m = 2 then _ else f m) = _
        split
        · rename_i h
          rw [h]; simp [rbN, qN]
        · exact HF.out m (by omega)
      have hst2 := hide (hst.out.set 2 (by decide) (-s))
      have hwa : IntKind.i64.wrap (-s) = -s := by rw [IntKind.wrap_i64]; omega
      have hwb : IntKind.i64.wrap (-1 * s) = -1 * s := by rw [IntKind.wrap_i64]; omega
      clear HF hst h1 h2
      go_wp2
      exact ⟨⟨3, _, by omega, by rfl, HN, hst2⟩, by simp [intOf]⟩
    · have HN : Hid (∀ m, m < 4 → (fun m => if m = 3 then -3 * s else f m) m = rbN 3 s m) := fun m hm => by
        show (if m = 3 then _ else f m) = _
        split
        · rename_i h
          rw [h]; simp [rbN, qN]
        · exact HF.out m (by omega)
      have hst2 := hide (hst.out.set 3 (by decide) (-3 * s))
      have hwa : IntKind.i64.wrap (-3 * s) = -3 * s := by rw [IntKind.wrap_i64]; omega
      have hwb : IntKind.i64.wrap (-3 * s) = -3 * s := by rw [IntKind.wrap_i64]; omega
      clear HF hst h1 h2
      go_wp2
      exact ⟨⟨4, _, by omega, by rfl, HN, hst2⟩, by simp [intOf]⟩
    · have hx : ∀ i, i < 4 → wr.cell? ⟨p, i, none⟩ = some (.int .i64 (rbN 3 s i)) := fun i hi => by rw [hc i hi, HF.out i hi]
      have hr1 := hst.out.r.l.1
      have hrl1 := hst.out.r.l.2
      have hrf1 := hst.out.r.f
      have HBE := hide hst.out.r.bel
      clear HF hst hc h1 h2
      go_wp2
      exact bodyPost_ret (v := .tuple #[.agg #[.int .i64 (rbN 3 s 0), .int .i64 (rbN 3 s 1), .int .i64 (rbN 3 s 2), .int .i64 (rbN 3 s 3)], .bool true]) (by simp [results, Tryd.results12, go_sem, hr1, hrl1]) rfl ⟨rfl, below_set4 HBE.out _ (by omega) _ _ _ _⟩
end Go.Proofs.YtgnaomgcfliamaaDoor

/- Contracts: table.RootBounds, RootDigit for any step; radicandref14.RootBounds. -/
set_option linter.unusedVariables false
set_option linter.unusedSimpArgs false
set_option maxRecDepth 8000
namespace Go.Proofs.YtgnaomgcfliamaaDoor
open Go.RowKit Plain

theorem rootB_yes (j : Nat) (s : Int) (h1 : 28 ≤ s) (h2 : s ≤ 64) (w : World) : Calls Tryd.prog 12 #[.int .i64 (j : Nat), .int .i64 s] w fun e w' => e = .returned (.tuple #[.agg #[.int .i64 (rbN j s 0), .int .i64 (rbN j s 1), .int .i64 (rbN j s 2), .int .i64 (rbN j s 3)], .bool true]) ∧ Below w.heap.size w w' := by
  rcases (show j = 0 ∨ j = 1 ∨ j = 2 ∨ 3 ≤ j by omega) with rfl | rfl | rfl | h
  · exact rootB_0 _ rfl s h1 h2 w
  · exact rootB_1 _ rfl s h1 h2 w
  · exact rootB_2 _ rfl s h1 h2 w
  · rw [rb_far j s h]
    exact rootB_3 _ (by omega) s h1 h2 w

theorem rootD_walkN (j s y : Int) (HBD : Hid (∀ w, Calls Tryd.prog 12 #[.int .i64 j, .int .i64 s] w fun e w' => e = .returned (.tuple #[.agg #[.int .i64 0, .int .i64 0, .int .i64 0, .int .i64 0], .bool false]) ∧ Below w.heap.size w w')) (w : World) :
    Calls Tryd.prog 13 #[.int .i64 j, .int .i64 s, .int .i64 y] w fun e w' => e = .returned (.tuple #[.int .i64 0, .bool false]) ∧ Below w.heap.size w w' := by
  go_enter Tryd.func13, Tryd.ntmps13
  go_wp2_with fail
  refine (HBD.out _).mono ?_
  rintro e w1 ⟨rfl, hb1⟩
  have HB := hide (hb1.alloc hb1.size (.cells #[.int .i64 0, .int .i64 0, .int .i64 0, .int .i64 0] 22))
  clear hb1
  go_wp2
  exact bodyPost_ret (v := .tuple #[.int .i64 0, .bool false]) (by simp [results, Tryd.results13, go_sem]) rfl ⟨rfl, HB.out⟩
theorem rootD_walkY (j s y : Int) (f : Nat → Int) (HBD : Hid (∀ w, Calls Tryd.prog 12 #[.int .i64 j, .int .i64 s] w fun e w' => e = .returned (.tuple #[.agg #[.int .i64 (f 0), .int .i64 (f 1), .int .i64 (f 2), .int .i64 (f 3)], .bool true]) ∧ Below w.heap.size w w')) (w : World) :
    Calls Tryd.prog 13 #[.int .i64 j, .int .i64 s, .int .i64 y] w fun e w' => e = .returned (.tuple #[.int .i64 (chN f y), .bool true]) ∧ Below w.heap.size w w' := by
  have HCH := hide (fun w => chosen_any f y w)
  go_enter Tryd.func13, Tryd.ntmps13
  go_wp2_with fail
  refine (HBD.out _).mono ?_
  rintro e w1 ⟨rfl, hb1⟩
  go_upto_region 2 with fail
  refine wp_gen (fun W => LiesI W w1.heap.size f ∧ Below w.heap.size w W) ⟨liesI_new w1 f _, hb1.alloc hb1.size _⟩ ?_
  clear hb1 HBD
  generalize w1.heap.size = p6 at *
  rintro W2 h2
  have HL := hide h2
  have hl := h2.1.1
  clear h2
  go_wp2_with fail
  refine (HCH.out _).mono ?_
  rintro e w3 ⟨rfl, hb3⟩
  have HB := hide (show Below w.heap.size w w3 from HL.out.2.trans (hb3.mono HL.out.2.size))
  clear hb3 HL hl
  go_wp2
  exact bodyPost_ret (v := .tuple #[.int .i64 (chN f y), .bool true]) (by simp [results, Tryd.results13, go_sem]) rfl ⟨rfl, HB.out⟩
theorem rootD_no (j s y : Int) (h : j < 0 ∨ s < 28 ∨ 64 < s) (w : World) : Calls Tryd.prog 13 #[.int .i64 j, .int .i64 s, .int .i64 y] w fun e w' => e = .returned (.tuple #[.int .i64 0, .bool false]) ∧ Below w.heap.size w w' :=
  rootD_walkN j s y (fun w => rootB_no j s h w) w
theorem rootD_yes (j : Nat) (s y : Int) (h1 : 28 ≤ s) (h2 : s ≤ 64) (w : World) : Calls Tryd.prog 13 #[.int .i64 (j : Nat), .int .i64 s, .int .i64 y] w fun e w' => e = .returned (.tuple #[.int .i64 (chN (rbN j s) y), .bool true]) ∧ Below w.heap.size w w' :=
  rootD_walkY j s y (rbN j s) (fun w => rootB_yes j s h1 h2 w) w

set_option maxHeartbeats 4000000 in
theorem rrootB_any (j : Nat) (s : Int) (hj : j ≤ 9223372036854775807) (h1 : 28 ≤ s) (h2 : s ≤ 64) (w : World) : Calls Tryd.prog 14 #[.int .i64 (j : Nat), .int .i64 s] w fun e w' => e = .returned (.agg #[.int .i64 (rbN j s 0), .int .i64 (rbN j s 1), .int .i64 (rbN j s 2), .int .i64 (rbN j s 3)]) ∧ Below w.heap.size w w' := by
  have HS := hide (r4_start w 22)
  have HS1 := hide h1
  have HS2 := hide h2
  have HJ := hide hj
  clear h1 h2 hj
  go_enter Tryd.func14, Tryd.ntmps14
  go_upto_region 2 with fail
  have hbw := belowT_allocs (w.alloc (.cells #[.int .i64 0, .int .i64 0, .int .i64 0, .int .i64 0] 22)) (.cells #[.int .i64 0, .int .i64 0, .int .i64 0, .int .i64 0] 22)
  refine wp_gen (fun W => RbSt (w.alloc (.cells #[.int .i64 0, .int .i64 0, .int .i64 0, .int .i64 0] 22)).heap.size (fun _ => 0) w W) ⟨HS.out.below hbw, liesI_new _ (fun _ => 0) _, fun i => by simp [go_sem], by simp⟩ ?_
  clear HS hbw
  simp only [World.size_alloc]
  generalize hpp : w.heap.size + 1 = p
  clear hpp
  rintro W4 h4
  have HB0 := hide h4
  clear h4
  go_wp2
  go_loopw [6] (fun i wr => ∃ (k : Nat) (f : Nat → Int), k ≤ 4 ∧ i = .int .i64 k ∧ Hid (∀ m, m < k → f m = rbN j s m) ∧ Hid (RbSt p f w wr))
    (fun i _ => 4 - (intOf i).toNat)
  case atStart => exact ⟨0, fun _ => 0, by omega, rfl, fun m hm => absurd hm (by omega), HB0⟩
  case round =>
    clear HB0
    obtain ⟨k, f, hk, rfl, HF, hst⟩ := hrel
    rcases (show k = 0 ∨ k = 1 ∨ k = 2 ∨ k = 3 ∨ k = 4 by omega) with rfl | rfl | rfl | rfl | rfl
    · go_wp2
      go_loopw [8, 9] (fun qv nv wr2 => ∃ (n q : Nat), n ≤ j ∧ qv = .int .i64 q ∧ nv = .int .i64 n ∧ Hid (q = 36 / 4 ^ n) ∧ wr2 = wr)
        (fun qv _ _ => (intOf qv).toNat)
      case atStart => exact ⟨0, 36, by omega, rfl, rfl, hide rfl, rfl⟩
      case round =>
        obtain ⟨n, q, hn, rfl, rfl, hq, rfl⟩ := hrel
        have hqQ := hide (show q ≤ 36 by rw [hq.out]; exact Nat.div_le_self _ _)
        by_cases hgo : n < j ∧ 0 < q
        · obtain ⟨hnj, hq0⟩ := hgo
          have hn1 : (n : Int) < (j : Int) := by omega
          have hq1 : (0 : Int) < (q : Int) := by omega
          have HQ2 : Hid (q / 4 = 36 / 4 ^ (n + 1)) := by apply hide; rw [hq.out, Nat.pow_succ, Nat.div_div_eq_div_mul]
          have hq36 := hqQ.out
          have hw1 : IntKind.i64.wrap ((n : Int) + 1) = ((n + 1 : Nat) : Int) := by rw [IntKind.wrap_i64]; have := HJ.out; omega
          have hd4 : (q : Int).tdiv 4 = ((q / 4 : Nat) : Int) := by rw [Int.tdiv_eq_ediv_of_nonneg (by omega)]; omega
          clear hq
          go_wp2
          go_roundw
          case rel => exact ⟨n + 1, q / 4, by omega, by go_num, by go_num, HQ2, by first | rfl | trivial⟩
          case measure => simp [intOf]; omega
        · have HQF : Hid ((q : Int) = qN 36 j) := by
            apply hide
            unfold qN
            rcases (show n = j ∨ q = 0 by omega) with h | h
            · rw [← h, hq.out]
            · have hp : 4 ^ n ≤ 4 ^ j := Nat.pow_le_pow_right (by decide) hn
              have h0 : 36 / 4 ^ j ≤ 36 / 4 ^ n := Nat.div_le_div_left hp (Nat.pow_pos (by decide))
              rw [← hq.out, h] at h0
              rw [h, Nat.le_zero.1 h0]
          have HN : Hid (∀ m, m < 1 → (fun m => if m = 0 then 3 * s + (q : Int) else f m) m = rbN j s m) := fun m hm => by
            show (if m = 0 then _ else f m) = _
            split
            · rename_i h
              rw [h, HQF.out]; rfl
            · exact HF.out m (by omega)
          have hst2 := hide (hst.out.set 0 (by decide) (3 * s + (q : Int)))
          have h1 := HS1.out
          have h2 := HS2.out
          have hq36 := hqQ.out
          have hwa : IntKind.i64.wrap (3 * s + (q : Int)) = 3 * s + (q : Int) := by rw [IntKind.wrap_i64]; omega
          have hwb : IntKind.i64.wrap (3 * s) = 3 * s := by rw [IntKind.wrap_i64]; omega
          have hc := hst.out.l.1
          have hcl := hst.out.l.2
          have hcf := hst.out.fr
          clear HQF hq HF hst hqQ
          by_cases hnj : (n : Int) < (j : Int)
          · have hq0 : ¬ (0 : Int) < (q : Int) := by omega
            clear hgo h1 h2 hq36
            go_wp2
            go_roundw
            case rel => exact ⟨1, _, by omega, by rfl, HN, hst2⟩
            case measure => simp [intOf]
          · clear hgo h1 h2 hq36
            go_wp2
            go_roundw
            case rel => exact ⟨1, _, by omega, by rfl, HN, hst2⟩
            case measure => simp [intOf]
    · go_wp2
      go_loopw [8, 9] (fun qv nv wr2 => ∃ (n q : Nat), n ≤ j ∧ qv = .int .i64 q ∧ nv = .int .i64 n ∧ Hid (q = 4 / 4 ^ n) ∧ wr2 = wr)
        (fun qv _ _ => (intOf qv).toNat)
      case atStart => exact ⟨0, 4, by omega, rfl, rfl, hide rfl, rfl⟩
      case round =>
        obtain ⟨n, q, hn, rfl, rfl, hq, rfl⟩ := hrel
        have hqQ := hide (show q ≤ 4 by rw [hq.out]; exact Nat.div_le_self _ _)
        by_cases hgo : n < j ∧ 0 < q
        · obtain ⟨hnj, hq0⟩ := hgo
          have hn1 : (n : Int) < (j : Int) := by omega
          have hq1 : (0 : Int) < (q : Int) := by omega
          have HQ2 : Hid (q / 4 = 4 / 4 ^ (n + 1)) := by apply hide; rw [hq.out, Nat.pow_succ, Nat.div_div_eq_div_mul]
          have hq36 := hqQ.out
          have hw1 : IntKind.i64.wrap ((n : Int) + 1) = ((n + 1 : Nat) : Int) := by rw [IntKind.wrap_i64]; have := HJ.out; omega
          have hd4 : (q : Int).tdiv 4 = ((q / 4 : Nat) : Int) := by rw [Int.tdiv_eq_ediv_of_nonneg (by omega)]; omega
          clear hq
          go_wp2
          go_roundw
          case rel => exact ⟨n + 1, q / 4, by omega, by go_num, by go_num, HQ2, by first | rfl | trivial⟩
          case measure => simp [intOf]; omega
        · have HQF : Hid ((q : Int) = qN 4 j) := by
            apply hide
            unfold qN
            rcases (show n = j ∨ q = 0 by omega) with h | h
            · rw [← h, hq.out]
            · have hp : 4 ^ n ≤ 4 ^ j := Nat.pow_le_pow_right (by decide) hn
              have h0 : 4 / 4 ^ j ≤ 4 / 4 ^ n := Nat.div_le_div_left hp (Nat.pow_pos (by decide))
              rw [← hq.out, h] at h0
              rw [h, Nat.le_zero.1 h0]
          have HN : Hid (∀ m, m < 2 → (fun m => if m = 1 then s + (q : Int) else f m) m = rbN j s m) := fun m hm => by
            show (if m = 1 then _ else f m) = _
            split
            · rename_i h
              rw [h, HQF.out]; rfl
            · exact HF.out m (by omega)
          have hst2 := hide (hst.out.set 1 (by decide) (s + (q : Int)))
          have h1 := HS1.out
          have h2 := HS2.out
          have hq36 := hqQ.out
          have hwa : IntKind.i64.wrap (s + (q : Int)) = s + (q : Int) := by rw [IntKind.wrap_i64]; omega
          have hwb : IntKind.i64.wrap (s) = s := by rw [IntKind.wrap_i64]; omega
          have hc := hst.out.l.1
          have hcl := hst.out.l.2
          have hcf := hst.out.fr
          clear HQF hq HF hst hqQ
          by_cases hnj : (n : Int) < (j : Int)
          · have hq0 : ¬ (0 : Int) < (q : Int) := by omega
            clear hgo h1 h2 hq36
            go_wp2
            go_roundw
            case rel => exact ⟨2, _, by omega, by rfl, HN, hst2⟩
            case measure => simp [intOf]
          · clear hgo h1 h2 hq36
            go_wp2
            go_roundw
            case rel => exact ⟨2, _, by omega, by rfl, HN, hst2⟩
            case measure => simp [intOf]
    · go_wp2
      go_loopw [8, 9] (fun qv nv wr2 => ∃ (n q : Nat), n ≤ j ∧ qv = .int .i64 q ∧ nv = .int .i64 n ∧ Hid (q = 4 / 4 ^ n) ∧ wr2 = wr)
        (fun qv _ _ => (intOf qv).toNat)
      case atStart => exact ⟨0, 4, by omega, rfl, rfl, hide rfl, rfl⟩
      case round =>
        obtain ⟨n, q, hn, rfl, rfl, hq, rfl⟩ := hrel
        have hqQ := hide (show q ≤ 4 by rw [hq.out]; exact Nat.div_le_self _ _)
        by_cases hgo : n < j ∧ 0 < q
        · obtain ⟨hnj, hq0⟩ := hgo
          have hn1 : (n : Int) < (j : Int) := by omega
          have hq1 : (0 : Int) < (q : Int) := by omega
          have HQ2 : Hid (q / 4 = 4 / 4 ^ (n + 1)) := by apply hide; rw [hq.out, Nat.pow_succ, Nat.div_div_eq_div_mul]
          have hq36 := hqQ.out
          have hw1 : IntKind.i64.wrap ((n : Int) + 1) = ((n + 1 : Nat) : Int) := by rw [IntKind.wrap_i64]; have := HJ.out; omega
          have hd4 : (q : Int).tdiv 4 = ((q / 4 : Nat) : Int) := by rw [Int.tdiv_eq_ediv_of_nonneg (by omega)]; omega
          clear hq
          go_wp2
          go_roundw
          case rel => exact ⟨n + 1, q / 4, by omega, by go_num, by go_num, HQ2, by first | rfl | trivial⟩
          case measure => simp [intOf]; omega
        · have HQF : Hid ((q : Int) = qN 4 j) := by
            apply hide
            unfold qN
            rcases (show n = j ∨ q = 0 by omega) with h | h
            · rw [← h, hq.out]
            · have hp : 4 ^ n ≤ 4 ^ j := Nat.pow_le_pow_right (by decide) hn
              have h0 : 4 / 4 ^ j ≤ 4 / 4 ^ n := Nat.div_le_div_left hp (Nat.pow_pos (by decide))
              rw [← hq.out, h] at h0
              rw [h, Nat.le_zero.1 h0]
          have HN : Hid (∀ m, m < 3 → (fun m => if m = 2 then -s + (q : Int) else f m) m = rbN j s m) := fun m hm => by
            show (if m = 2 then _ else f m) = _
            split
            · rename_i h
              rw [h, HQF.out]; rfl
            · exact HF.out m (by omega)
          have hst2 := hide (hst.out.set 2 (by decide) (-s + (q : Int)))
          have h1 := HS1.out
          have h2 := HS2.out
          have hq36 := hqQ.out
          have hwa : IntKind.i64.wrap (-s + (q : Int)) = -s + (q : Int) := by rw [IntKind.wrap_i64]; omega
          have hwb : IntKind.i64.wrap (-s) = -s := by rw [IntKind.wrap_i64]; omega
          have hc := hst.out.l.1
          have hcl := hst.out.l.2
          have hcf := hst.out.fr
          clear HQF hq HF hst hqQ
          by_cases hnj : (n : Int) < (j : Int)
          · have hq0 : ¬ (0 : Int) < (q : Int) := by omega
            clear hgo h1 h2 hq36
            go_wp2
            go_roundw
            case rel => exact ⟨3, _, by omega, by rfl, HN, hst2⟩
            case measure => simp [intOf]
          · clear hgo h1 h2 hq36
            go_wp2
            go_roundw
            case rel => exact ⟨3, _, by omega, by rfl, HN, hst2⟩
            case measure => simp [intOf]
    · go_wp2
      go_loopw [8, 9] (fun qv nv wr2 => ∃ (n q : Nat), n ≤ j ∧ qv = .int .i64 q ∧ nv = .int .i64 n ∧ Hid (q = 36 / 4 ^ n) ∧ wr2 = wr)
        (fun qv _ _ => (intOf qv).toNat)
      case atStart => exact ⟨0, 36, by omega, rfl, rfl, hide rfl, rfl⟩
      case round =>
        obtain ⟨n, q, hn, rfl, rfl, hq, rfl⟩ := hrel
        have hqQ := hide (show q ≤ 36 by rw [hq.out]; exact Nat.div_le_self _ _)
        by_cases hgo : n < j ∧ 0 < q
        · obtain ⟨hnj, hq0⟩ := hgo
          have hn1 : (n : Int) < (j : Int) := by omega
          have hq1 : (0 : Int) < (q : Int) := by omega
          have HQ2 : Hid (q / 4 = 36 / 4 ^ (n + 1)) := by apply hide; rw [hq.out, Nat.pow_succ, Nat.div_div_eq_div_mul]
          have hq36 := hqQ.out
          have hw1 : IntKind.i64.wrap ((n : Int) + 1) = ((n + 1 : Nat) : Int) := by rw [IntKind.wrap_i64]; have := HJ.out; omega
          have hd4 : (q : Int).tdiv 4 = ((q / 4 : Nat) : Int) := by rw [Int.tdiv_eq_ediv_of_nonneg (by omega)]; omega
          clear hq
          go_wp2
          go_roundw
          case rel => exact ⟨n + 1, q / 4, by omega, by go_num, by go_num, HQ2, by first | rfl | trivial⟩
          case measure => simp [intOf]; omega
        · have HQF : Hid ((q : Int) = qN 36 j) := by
            apply hide
            unfold qN
            rcases (show n = j ∨ q = 0 by omega) with h | h
            · rw [← h, hq.out]
            · have hp : 4 ^ n ≤ 4 ^ j := Nat.pow_le_pow_right (by decide) hn
              have h0 : 36 / 4 ^ j ≤ 36 / 4 ^ n := Nat.div_le_div_left hp (Nat.pow_pos (by decide))
              rw [← hq.out, h] at h0
              rw [h, Nat.le_zero.1 h0]
          have HN : Hid (∀ m, m < 4 → (fun m => if m = 3 then -3 * s + (q : Int) else f m) m = rbN j s m) := fun m hm => by
            show (if m = 3 then _ else f m) = _
            split
            · rename_i h
              rw [h, HQF.out]; rfl
            · exact HF.out m (by omega)
          have hst2 := hide (hst.out.set 3 (by decide) (-3 * s + (q : Int)))
          have h1 := HS1.out
          have h2 := HS2.out
          have hq36 := hqQ.out
          have hwa : IntKind.i64.wrap (-3 * s + (q : Int)) = -3 * s + (q : Int) := by rw [IntKind.wrap_i64]; omega
          have hwb : IntKind.i64.wrap (-3 * s) = -3 * s := by rw [IntKind.wrap_i64]; omega
          have hc := hst.out.l.1
          have hcl := hst.out.l.2
          have hcf := hst.out.fr
          clear HQF hq HF hst hqQ
          by_cases hnj : (n : Int) < (j : Int)
          · have hq0 : ¬ (0 : Int) < (q : Int) := by omega
            clear hgo h1 h2 hq36
            go_wp2
            go_roundw
            case rel => exact ⟨4, _, by omega, by rfl, HN, hst2⟩
            case measure => simp [intOf]
          · clear hgo h1 h2 hq36
            go_wp2
            go_roundw
            case rel => exact ⟨4, _, by omega, by rfl, HN, hst2⟩
            case measure => simp [intOf]
    · have hx : ∀ i, i < 4 → wr.cell? ⟨p, i, none⟩ = some (.int .i64 (rbN j s i)) := fun i hi => by rw [hst.out.l.1 i hi, HF.out i hi]
      have hr1 := hst.out.r.l.1
      have hrl1 := hst.out.r.l.2
      have hrf1 := hst.out.r.f
      have HBE := hide hst.out.r.bel
      clear HF hst
      go_wp2
      exact bodyPost_ret (v := .agg #[.int .i64 (rbN j s 0), .int .i64 (rbN j s 1), .int .i64 (rbN j s 2), .int .i64 (rbN j s 3)]) (by simp [results, Tryd.results14, go_sem, hr1, hrl1]) rfl ⟨rfl, below_set4 HBE.out _ (by omega) _ _ _ _⟩
end Go.Proofs.YtgnaomgcfliamaaDoor

/- Contracts: table.Row. -/
set_option linter.unusedVariables false
set_option linter.unusedSimpArgs false
set_option maxRecDepth 8000
namespace Go.Proofs.YtgnaomgcfliamaaDoor
open Go.RowKit Plain

theorem fld_loT (x y : Value) (w : World) : (Instr.field 56 (.agg #[x, y]) 1).run Tryd.prog w = .ok y w := by
  have h64 := Tryd.underlying35
  have hg := Tryd.isAgg35
  simp [Instr.field, asAgg, go_sem, run_underlying Tryd.underlying56]
theorem bitLen_top (d : Nat) (h : d ≠ 0) : d < 2 ^ Go.bitLen d ∧ 2 ^ (Go.bitLen d - 1) ≤ d ∧ 1 ≤ Go.bitLen d := by
  have h1 := Go.bitLen_spec d
  refine ⟨h1.1, h1.2 h, ?_⟩
  unfold Go.bitLen
  rw [if_neg h]
  omega
/-- The four highest digits. -/
theorem row_num (d L M : Nat) (hd : d < 2 ^ L) (hl : 2 ^ (L - 1) ≤ d) (h1 : 1 ≤ L) (hL : L ≤ M + 4) :
    d * 2 ^ (M + 4 - L) < 2 ^ (M + 4) ∧ d * 2 ^ (M + 4 - L) / 2 ^ M = d * 2 ^ 4 / 2 ^ L ∧ 8 ≤ d * 2 ^ (M + 4 - L) / 2 ^ M ∧ d * 2 ^ (M + 4 - L) / 2 ^ M ≤ 15 := by
  have e1 : 2 ^ L * 2 ^ (M + 4 - L) = 2 ^ (M + 4) := by rw [← Nat.pow_add]; congr 1; omega
  have e2 : 2 ^ (M + 4) = 2 ^ M * 16 := by rw [Nat.pow_add]
  have p1 : 0 < 2 ^ (M + 4 - L) := Nat.two_pow_pos _
  have p2 : 0 < 2 ^ M := Nat.two_pow_pos _
  have p3 : 0 < 2 ^ L := Nat.two_pow_pos _
  have g1 : d * 2 ^ (M + 4 - L) < 2 ^ (M + 4) := by rw [← e1]; exact Nat.mul_lt_mul_of_pos_right hd p1
  have g2 : d * 2 ^ (M + 4 - L) / 2 ^ M = d * 2 ^ 4 / 2 ^ L := by
    rw [← Nat.mul_div_mul_right (d * 2 ^ (M + 4 - L)) (2 ^ M) p3, ← Nat.mul_div_mul_right (d * 2 ^ 4) (2 ^ L) p2, Nat.mul_assoc, Nat.mul_comm (2 ^ (M + 4 - L)) (2 ^ L), e1, Nat.mul_assoc, Nat.mul_comm (2 ^ 4) (2 ^ M), Nat.mul_comm (2 ^ L) (2 ^ M), show (2 : Nat) ^ 4 = 16 from rfl, e2]
  refine ⟨g1, g2, ?_, ?_⟩
  · rw [Nat.le_div_iff_mul_le p2]
    have e3 : 2 ^ (L - 1) * 2 ^ (M + 4 - L) = 2 ^ (M + 3) := by rw [← Nat.pow_add]; congr 1; omega
    have e4 : 2 ^ (M + 3) = 2 ^ M * 8 := by rw [Nat.pow_add]
    have := Nat.mul_le_mul_right (2 ^ (M + 4 - L)) hl
    rw [e3, e4] at this
    omega
  · have : d * 2 ^ (M + 4 - L) / 2 ^ M < 16 := by
      rw [Nat.div_lt_iff_lt_mul p2, Nat.mul_comm 16, ← e2]
      exact g1
    omega

theorem rowC_no (w : World) : Calls Tryd.prog 15 #[.agg #[.int .u64 0, .int .u64 0, .int .u64 0, .int .u64 0, .int .u64 0, .int .u64 0, .int .u64 0, .int .u64 0]] w fun e w' => e = .returned (.tuple #[.int .i64 0, .bool false]) ∧ Below w.heap.size w w' := by
  have HB := hide (belowT_allocs w (.cells #[.int .u64 0, .int .u64 0, .int .u64 0, .int .u64 0, .int .u64 0, .int .u64 0, .int .u64 0, .int .u64 0] 37))
  have hzz : ∀ w, (Op.equalIn 10000 37 (.agg #[.int .u64 0, .int .u64 0, .int .u64 0, .int .u64 0, .int .u64 0, .int .u64 0, .int .u64 0, .int .u64 0]) (.agg #[.int .u64 0, .int .u64 0, .int .u64 0, .int .u64 0, .int .u64 0, .int .u64 0, .int .u64 0, .int .u64 0])).run Tryd.prog w = .ok true w := fun w => by
    have h := wide_eqb (a := 0) (b := 0) (by decide +kernel) (by decide +kernel) w
    rw [decide_eq_true rfl] at h
    exact h
  go_enter Tryd.func15, Tryd.ntmps15
  go_wp2
  exact bodyPost_ret (v := .tuple #[.int .i64 0, .bool false]) (by simp [results, Tryd.results15, go_sem]) rfl ⟨rfl, HB.out⟩

set_option maxHeartbeats 4000000 in
theorem rowC_walk (d L k X r : Nat) (ov : Bool) (hwk : IntKind.i64.wrap (512 - ((L : Nat) : Int)) = ((k : Nat) : Int)) (hr : Hid (dgl r 0 = r)) (hr15 : r ≤ 15)
    (HZ : Hid (∀ w, (Op.equalIn 10000 37 (.agg #[.int .u64 (dgl (d) 0 : Nat), .int .u64 (dgl (d) 1 : Nat), .int .u64 (dgl (d) 2 : Nat), .int .u64 (dgl (d) 3 : Nat), .int .u64 (dgl (d) 4 : Nat), .int .u64 (dgl (d) 5 : Nat), .int .u64 (dgl (d) 6 : Nat), .int .u64 (dgl (d) 7 : Nat)]) (.agg #[.int .u64 0, .int .u64 0, .int .u64 0, .int .u64 0, .int .u64 0, .int .u64 0, .int .u64 0, .int .u64 0])).run Tryd.prog w = .ok false w))
    (HLN : Hid (∀ w, Calls Tryd.prog 26 #[.agg #[.int .u64 (dgl (d) 0 : Nat), .int .u64 (dgl (d) 1 : Nat), .int .u64 (dgl (d) 2 : Nat), .int .u64 (dgl (d) 3 : Nat), .int .u64 (dgl (d) 4 : Nat), .int .u64 (dgl (d) 5 : Nat), .int .u64 (dgl (d) 6 : Nat), .int .u64 (dgl (d) 7 : Nat)]] w fun e w' => e = .returned (.int .i64 ((L : Nat) : Int)) ∧ Below w.heap.size w w'))
    (HSH : Hid (∀ w, Calls Tryd.prog 25 #[.agg #[.int .u64 (dgl (d) 0 : Nat), .int .u64 (dgl (d) 1 : Nat), .int .u64 (dgl (d) 2 : Nat), .int .u64 (dgl (d) 3 : Nat), .int .u64 (dgl (d) 4 : Nat), .int .u64 (dgl (d) 5 : Nat), .int .u64 (dgl (d) 6 : Nat), .int .u64 (dgl (d) 7 : Nat)], .int .i64 ((k : Nat) : Int)] w fun e w' => e = .returned (.agg #[.int .u64 (dgl (X) 0 : Nat), .int .u64 (dgl (X) 1 : Nat), .int .u64 (dgl (X) 2 : Nat), .int .u64 (dgl (X) 3 : Nat), .int .u64 (dgl (X) 4 : Nat), .int .u64 (dgl (X) 5 : Nat), .int .u64 (dgl (X) 6 : Nat), .int .u64 (dgl (X) 7 : Nat)]) ∧ Below w.heap.size w w'))
    (HSR : Hid (∀ w, Calls Tryd.prog 24 #[.agg #[.int .u64 (dgl (X) 0 : Nat), .int .u64 (dgl (X) 1 : Nat), .int .u64 (dgl (X) 2 : Nat), .int .u64 (dgl (X) 3 : Nat), .int .u64 (dgl (X) 4 : Nat), .int .u64 (dgl (X) 5 : Nat), .int .u64 (dgl (X) 6 : Nat), .int .u64 (dgl (X) 7 : Nat)], .int .i64 508] w fun e w' => e = .returned (.tuple #[.agg #[.int .u64 (dgl (r) 0 : Nat), .int .u64 (dgl (r) 1 : Nat), .int .u64 (dgl (r) 2 : Nat), .int .u64 (dgl (r) 3 : Nat), .int .u64 (dgl (r) 4 : Nat), .int .u64 (dgl (r) 5 : Nat), .int .u64 (dgl (r) 6 : Nat), .int .u64 (dgl (r) 7 : Nat)], .bool ov]) ∧ Below w.heap.size w w'))
    (HLW : Hid (∀ w, Calls Tryd.prog 27 #[.agg #[.int .u64 (dgl (r) 0 : Nat), .int .u64 (dgl (r) 1 : Nat), .int .u64 (dgl (r) 2 : Nat), .int .u64 (dgl (r) 3 : Nat), .int .u64 (dgl (r) 4 : Nat), .int .u64 (dgl (r) 5 : Nat), .int .u64 (dgl (r) 6 : Nat), .int .u64 (dgl (r) 7 : Nat)]] w fun e w' => e = .returned (.agg #[.int .u64 (dgl r 1 : Nat), .int .u64 (dgl r 0 : Nat)]) ∧ Below w.heap.size w w')) (w : World) :
    Calls Tryd.prog 15 #[.agg #[.int .u64 (dgl (d) 0 : Nat), .int .u64 (dgl (d) 1 : Nat), .int .u64 (dgl (d) 2 : Nat), .int .u64 (dgl (d) 3 : Nat), .int .u64 (dgl (d) 4 : Nat), .int .u64 (dgl (d) 5 : Nat), .int .u64 (dgl (d) 6 : Nat), .int .u64 (dgl (d) 7 : Nat)]] w fun e w' => e = .returned (.tuple #[.int .i64 ((r : Nat) : Int), .bool true]) ∧ Below w.heap.size w w' := by
  have HS : Hid (LiesF (w.alloc (.cells #[.int .u64 (dgl (d) 0 : Nat), .int .u64 (dgl (d) 1 : Nat), .int .u64 (dgl (d) 2 : Nat), .int .u64 (dgl (d) 3 : Nat), .int .u64 (dgl (d) 4 : Nat), .int .u64 (dgl (d) 5 : Nat), .int .u64 (dgl (d) 6 : Nat), .int .u64 (dgl (d) 7 : Nat)] 37)) w.heap.size (dgl d) ∧ Below w.heap.size w (w.alloc (.cells #[.int .u64 (dgl (d) 0 : Nat), .int .u64 (dgl (d) 1 : Nat), .int .u64 (dgl (d) 2 : Nat), .int .u64 (dgl (d) 3 : Nat), .int .u64 (dgl (d) 4 : Nat), .int .u64 (dgl (d) 5 : Nat), .int .u64 (dgl (d) 6 : Nat), .int .u64 (dgl (d) 7 : Nat)] 37)) ∧ w.heap.size + 1 ≤ (w.alloc (.cells #[.int .u64 (dgl (d) 0 : Nat), .int .u64 (dgl (d) 1 : Nat), .int .u64 (dgl (d) 2 : Nat), .int .u64 (dgl (d) 3 : Nat), .int .u64 (dgl (d) 4 : Nat), .int .u64 (dgl (d) 5 : Nat), .int .u64 (dgl (d) 6 : Nat), .int .u64 (dgl (d) 7 : Nat)] 37)).heap.size) := ⟨liesF_new w (dgl d) _, belowT_allocs w _, by simp⟩
  have hz := HZ.out
  have hri : IntKind.i64.wrap ((dgl r 0 : Nat) : Int) = ((dgl r 0 : Nat) : Int) := by rw [hr.out, IntKind.wrap_i64]; omega
  go_enter Tryd.func15, Tryd.ntmps15
  go_upto_region 3 with fail
  refine wp_gen (fun W => LiesF W w.heap.size (dgl d) ∧ Below w.heap.size w W ∧ w.heap.size + 1 ≤ W.heap.size) HS.out ?_
  clear HS hz
  rintro W1 h1
  refine wp_region_storeK 12 [10] [10, 11, 12, 13, 14, 15, 9, 16, 17, 4, 5] (fun bs => [(10, .val (.agg #[.int .u64 (dgl (d) 0 : Nat), .int .u64 (dgl (d) 1 : Nat), .int .u64 (dgl (d) 2 : Nat), .int .u64 (dgl (d) 3 : Nat), .int .u64 (dgl (d) 4 : Nat), .int .u64 (dgl (d) 5 : Nat), .int .u64 (dgl (d) 6 : Nat), .int .u64 (dgl (d) 7 : Nat)])), (11, .val (.agg #[.int .u64 (dgl (d) 0 : Nat), .int .u64 (dgl (d) 1 : Nat), .int .u64 (dgl (d) 2 : Nat), .int .u64 (dgl (d) 3 : Nat), .int .u64 (dgl (d) 4 : Nat), .int .u64 (dgl (d) 5 : Nat), .int .u64 (dgl (d) 6 : Nat), .int .u64 (dgl (d) 7 : Nat)])), (12, .val (.int .i64 ((L : Nat) : Int))), (13, .val (.int .i64 ((k : Nat) : Int))), (14, .val (.agg #[.int .u64 (dgl (X) 0 : Nat), .int .u64 (dgl (X) 1 : Nat), .int .u64 (dgl (X) 2 : Nat), .int .u64 (dgl (X) 3 : Nat), .int .u64 (dgl (X) 4 : Nat), .int .u64 (dgl (X) 5 : Nat), .int .u64 (dgl (X) 6 : Nat), .int .u64 (dgl (X) 7 : Nat)])), (15, .val (.tuple #[.agg #[.int .u64 (dgl (r) 0 : Nat), .int .u64 (dgl (r) 1 : Nat), .int .u64 (dgl (r) 2 : Nat), .int .u64 (dgl (r) 3 : Nat), .int .u64 (dgl (r) 4 : Nat), .int .u64 (dgl (r) 5 : Nat), .int .u64 (dgl (r) 6 : Nat), .int .u64 (dgl (r) 7 : Nat)], .bool ov])), (9, .val (.tuple #[.agg #[.int .u64 (dgl (r) 0 : Nat), .int .u64 (dgl (r) 1 : Nat), .int .u64 (dgl (r) 2 : Nat), .int .u64 (dgl (r) 3 : Nat), .int .u64 (dgl (r) 4 : Nat), .int .u64 (dgl (r) 5 : Nat), .int .u64 (dgl (r) 6 : Nat), .int .u64 (dgl (r) 7 : Nat)], .bool ov])), (16, .val (.agg #[.int .u64 (dgl (r) 0 : Nat), .int .u64 (dgl (r) 1 : Nat), .int .u64 (dgl (r) 2 : Nat), .int .u64 (dgl (r) 3 : Nat), .int .u64 (dgl (r) 4 : Nat), .int .u64 (dgl (r) 5 : Nat), .int .u64 (dgl (r) 6 : Nat), .int .u64 (dgl (r) 7 : Nat)])), (17, .val (.bool ov)), (4, bif bs.headD false then SlotIs.box (w.heap.size + 1) (dgl r) else SlotIs.box (w.heap.size + 1) (fun _ => 0)), (5, .val (.bool ov))])
    (fun _ W => LiesF W w.heap.size (dgl d) ∧ Below w.heap.size w W ∧ w.heap.size + 1 ≤ W.heap.size) (fun bs => rfl) mixedOk (by kernel_rfl) (by kernel_rfl) (by kernel_rfl) (⟨h1.1.below (Below.refl _ _).drew, h1.2.1.trans ((Below.refl _ _).drew.mono h1.2.1.size), h1.2.2⟩) (fun bs W W' h hb => ⟨h.1.below hb, h.2.1.trans (hb.mono h.2.1.size), Nat.le_trans h.2.2 hb.size⟩) ?_ ?_
  · refine kSt rfl (fun φ hφ => gStep_run rfl ?_) ?_
    · intro ρ W hC hc hf hL
      have e1 : ρ (.tmp 1) = .pointer (some ⟨w.heap.size, 0, none⟩) := hL 1 (by decide +kernel)
      have hl := hC.1.1
      simp [go_sem, hc, hf, e1, hl]
      exact ⟨Below.refl _ _, rfl⟩
    refine kSt rfl (fun φ hφ => gStep_run rfl ?_) ?_
    · intro ρ W hC hc hf hL
      have e1 : ρ (.tmp 1) = .pointer (some ⟨w.heap.size, 0, none⟩) := hL 1 (by decide +kernel)
      have hl := hC.1.1
      simp [go_sem, hc, hf, e1, hl]
      exact ⟨Below.refl _ _, rfl⟩
    refine kSt rfl (fun φ hφ => gStep_run rfl ?_) ?_
    · intro ρ W hC hc hf hL
      have e11 : ρ (.tmp 11) = .agg #[.int .u64 (dgl (d) 0 : Nat), .int .u64 (dgl (d) 1 : Nat), .int .u64 (dgl (d) 2 : Nat), .int .u64 (dgl (d) 3 : Nat), .int .u64 (dgl (d) 4 : Nat), .int .u64 (dgl (d) 5 : Nat), .int .u64 (dgl (d) 6 : Nat), .int .u64 (dgl (d) 7 : Nat)] := hL 11 (by decide +kernel)
      simp [go_sem, hc, hf, e11]
      refine (HLN.out W).mono ?_
      rintro e w' ⟨rfl, hb⟩
      exact ⟨_, rfl, by first | exact hb | (subst hb; exact Below.refl _ _), rfl⟩
    refine kSt rfl (fun φ hφ => gStep_run rfl ?_) ?_
    · intro ρ W hC hc hf hL
      have e12 : ρ (.tmp 12) = .int .i64 ((L : Nat) : Int) := hL 12 (by decide +kernel)
      simp [go_sem, hc, hf, e12, hwk]
      exact ⟨Below.refl _ _, rfl⟩
    refine kSt rfl (fun φ hφ => gStep_run rfl ?_) ?_
    · intro ρ W hC hc hf hL
      have e10 : ρ (.tmp 10) = .agg #[.int .u64 (dgl (d) 0 : Nat), .int .u64 (dgl (d) 1 : Nat), .int .u64 (dgl (d) 2 : Nat), .int .u64 (dgl (d) 3 : Nat), .int .u64 (dgl (d) 4 : Nat), .int .u64 (dgl (d) 5 : Nat), .int .u64 (dgl (d) 6 : Nat), .int .u64 (dgl (d) 7 : Nat)] := hL 10 (by decide +kernel)
      have e13 : ρ (.tmp 13) = .int .i64 ((k : Nat) : Int) := hL 13 (by decide +kernel)
      simp [go_sem, hc, hf, e10, e13]
      refine (HSH.out W).mono ?_
      rintro e w' ⟨rfl, hb⟩
      exact ⟨_, rfl, by first | exact hb | (subst hb; exact Below.refl _ _), rfl⟩
    refine kSt rfl (fun φ hφ => gStep_run rfl ?_) ?_
    · intro ρ W hC hc hf hL
      have e14 : ρ (.tmp 14) = .agg #[.int .u64 (dgl (X) 0 : Nat), .int .u64 (dgl (X) 1 : Nat), .int .u64 (dgl (X) 2 : Nat), .int .u64 (dgl (X) 3 : Nat), .int .u64 (dgl (X) 4 : Nat), .int .u64 (dgl (X) 5 : Nat), .int .u64 (dgl (X) 6 : Nat), .int .u64 (dgl (X) 7 : Nat)] := hL 14 (by decide +kernel)
      simp [go_sem, hc, hf, e14]
      refine (HSR.out W).mono ?_
      rintro e w' ⟨rfl, hb⟩
      exact ⟨_, rfl, by first | exact hb | (subst hb; exact Below.refl _ _), rfl⟩
    refine kSt rfl (fun φ hφ => gStep_run rfl (gRun_move 15 9 (.inl rfl) rfl (by decide +kernel) (fun v w h => h))) ?_
    refine kSt rfl (fun φ hφ => gStep_run rfl ?_) ?_
    · intro ρ W hC hc hf hL
      have e9 : ρ (.tmp 9) = .tuple #[.agg #[.int .u64 (dgl (r) 0 : Nat), .int .u64 (dgl (r) 1 : Nat), .int .u64 (dgl (r) 2 : Nat), .int .u64 (dgl (r) 3 : Nat), .int .u64 (dgl (r) 4 : Nat), .int .u64 (dgl (r) 5 : Nat), .int .u64 (dgl (r) 6 : Nat), .int .u64 (dgl (r) 7 : Nat)], .bool ov] := hL 9 (by decide +kernel)
      simp [go_sem, hc, hf, e9]
      exact ⟨Below.refl _ _, rfl⟩
    refine kSt rfl (fun φ hφ => gStep_run rfl ?_) ?_
    · intro ρ W hC hc hf hL
      have e9 : ρ (.tmp 9) = .tuple #[.agg #[.int .u64 (dgl (r) 0 : Nat), .int .u64 (dgl (r) 1 : Nat), .int .u64 (dgl (r) 2 : Nat), .int .u64 (dgl (r) 3 : Nat), .int .u64 (dgl (r) 4 : Nat), .int .u64 (dgl (r) 5 : Nat), .int .u64 (dgl (r) 6 : Nat), .int .u64 (dgl (r) 7 : Nat)], .bool ov] := hL 9 (by decide +kernel)
      simp [go_sem, hc, hf, e9]
      exact ⟨Below.refl _ _, rfl⟩
    refine kSt rfl (fun φ hφ => gStep_run rfl ?_) ?_
    · intro ρ W hC hc hf hL
      have hφ0 : φ 10 = false := hφ 10 (by simp) (by kernel_rfl)
      simp [go_sem, hc, hf]
      refine ⟨belowT_allocs _ _, ?_⟩
      show (bif φ 10 then SlotIs.box (w.heap.size + 1) (dgl r) else SlotIs.box (w.heap.size + 1) (fun _ => 0)).R _ _
      rw [hφ0]
      exact ⟨_, rfl, hC.2.2, liesF_new _ (fun _ => 0) _, fun i => by simp [go_sem]⟩
    refine kStS rfl ⟨rfl, rfl, ?_⟩ ?_
    · intro φ ρ W hφ hC hc hL
      have b4 := hL 4 (by decide +kernel)
      have e16 : ρ (.tmp 16) = .agg #[.int .u64 (dgl (r) 0 : Nat), .int .u64 (dgl (r) 1 : Nat), .int .u64 (dgl (r) 2 : Nat), .int .u64 (dgl (r) 3 : Nat), .int .u64 (dgl (r) 4 : Nat), .int .u64 (dgl (r) 5 : Nat), .int .u64 (dgl (r) 6 : Nat), .int .u64 (dgl (r) 7 : Nat)] := hL 16 (by decide +kernel)
      have bx : (bif φ 10 then SlotIs.box (w.heap.size + 1) (dgl r) else SlotIs.box (w.heap.size + 1) (fun _ => 0)).R (ρ (.tmp 4)) W := hL 4 (by decide +kernel)
      rw [hφ] at bx
      obtain ⟨px, ex, qx, lx, zx⟩ := bx
      have hz := lx.1
      have hzl := lx.2
      refine gUpon_of ((((((((W.setCell ⟨px, 0, none⟩ (.int .u64 (dgl r 0 : Nat))).setCell ⟨px, 1, none⟩ (.int .u64 (dgl r 1 : Nat))).setCell ⟨px, 2, none⟩ (.int .u64 (dgl r 2 : Nat))).setCell ⟨px, 3, none⟩ (.int .u64 (dgl r 3 : Nat))).setCell ⟨px, 4, none⟩ (.int .u64 (dgl r 4 : Nat))).setCell ⟨px, 5, none⟩ (.int .u64 (dgl r 5 : Nat))).setCell ⟨px, 6, none⟩ (.int .u64 (dgl r 6 : Nat))).setCell ⟨px, 7, none⟩ (.int .u64 (dgl r 7 : Nat))) ?_ (fun _ => ?_)
      · simp [go_sem, hc, e16, ex, hz, hzl, zx, gUpon]
      have hs8 := below_set8 (Below.refl (w.heap.size + 1) W) px qx (.int .u64 (dgl r 0 : Nat)) (.int .u64 (dgl r 1 : Nat)) (.int .u64 (dgl r 2 : Nat)) (.int .u64 (dgl r 3 : Nat)) (.int .u64 (dgl r 4 : Nat)) (.int .u64 (dgl r 5 : Nat)) (.int .u64 (dgl r 6 : Nat)) (.int .u64 (dgl r 7 : Nat))
      refine ⟨⟨lies_box hC.1 hs8 (by omega), hC.2.1.trans (hs8.mono (by omega)), Nat.le_trans hC.2.2 hs8.size⟩, fun t => ?_⟩
      refine (tbl_imp rfl (fun _ => val_imp) (tbl_imp rfl (fun _ => val_imp) (tbl_imp rfl (fun _ => val_imp) (tbl_imp rfl (fun _ => val_imp) (tbl_imp rfl (fun _ => val_imp) (tbl_imp rfl (fun _ => val_imp) (tbl_imp rfl (fun _ => val_imp) (tbl_imp rfl (fun _ => val_imp) (tbl_imp rfl (fun _ => val_imp) (tbl_imp rfl (fun ht h => ?_) (tbl_imp rfl (fun _ => val_imp) tbl_nil_imp)))))))))))
      · subst ht
        show (bif (φ 10 || true) then SlotIs.box (w.heap.size + 1) (dgl r) else SlotIs.box (w.heap.size + 1) (fun _ => 0)).R _ _
        rw [Bool.or_true]
        exact ⟨px, ex, qx, set8_same W px (dgl r) (fun _ => 0) lx, fun i => by simpa [go_sem] using zx i⟩
    refine kSt rfl (fun φ hφ => gStep_run rfl (gRun_move 17 5 (.inr rfl) rfl (by decide +kernel) (fun v w h => h))) ?_
    exact kSt0
  · intro W hC
    refine gFi 10 rfl ?_
    rintro _ rfl
    refine gFi 11 rfl ?_
    rintro _ rfl
    refine gFi 12 rfl ?_
    rintro _ rfl
    refine gFi 13 rfl ?_
    rintro _ rfl
    refine gFi 14 rfl ?_
    rintro _ rfl
    refine gFi 15 rfl ?_
    rintro _ rfl
    refine gFi 9 rfl ?_
    rintro _ rfl
    refine gFi 16 rfl ?_
    rintro _ rfl
    refine gFi 17 rfl ?_
    rintro _ rfl
    refine gFi 4 rfl ?_
    rintro _ ⟨p4, rfl, q4, l4, z4⟩
    refine gFiN rfl ?_
    refine gFi 5 rfl ?_
    rintro _ rfl
    refine gFi0 ?_
    simp only [List.drop_succ_cons, List.drop_zero, Act.put, List.setIfInBounds_toArray, List.set_cons_succ, List.set_cons_zero]
    have HS := hide (show LiesF W p4 (dgl r) ∧ Below w.heap.size w W from ⟨l4, hC.2.1⟩)
    have hl4 := l4.1
    have hfd := fun w => fld_loT (.int .u64 (dgl r 1 : Nat)) (.int .u64 (dgl r 0 : Nat)) w
    clear hC l4 z4 q4 h1
    go_wp2_with fail
    refine (HLW.out _).mono ?_
    rintro e w5 ⟨rfl, hb5⟩
    have HB := hide (HS.out.2.trans (hb5.mono HS.out.2.size))
    clear HS hl4 hb5
    go_wp2
    exact bodyPost_ret (v := .tuple #[.int .i64 ((dgl r 0 : Nat) : Int), .bool true]) (by simp [results, Tryd.results15, go_sem]) rfl ⟨by rw [hr.out], HB.out⟩
    

/-- A divisor's row. -/
def rwN (d : Nat) : Nat := d * 2 ^ (512 - Go.bitLen d) / 2 ^ 508
theorem len512 {d : Nat} (h : d < QQ) : Go.bitLen d ≤ 512 := by
  have h2 : ∀ N, d < 2 ^ N → Go.bitLen d ≤ N := fun N hN => by
    rcases Nat.lt_or_ge N (Go.bitLen d) with h1 | h1
    · have hd0 : d ≠ 0 := by
        rintro rfl
        exact absurd h1 (by unfold Go.bitLen; simp)
      have h3 := (bitLen_top d hd0).2.1
      have h4 : 2 ^ N ≤ 2 ^ (Go.bitLen d - 1) := Nat.pow_le_pow_right (by decide) (by omega)
      omega
    · exact h1
  exact h2 512 (by have : QQ = 2 ^ 512 := by decide +kernel
                   rw [← this]; exact h)
theorem roww_all {d : Nat} (h : d < QQ) (h0 : d ≠ 0) : d * 2 ^ (512 - Go.bitLen d) < QQ ∧ rwN d = d * 2 ^ 4 / 2 ^ Go.bitLen d ∧ 8 ≤ rwN d ∧ rwN d ≤ 15 := by
  have ht := bitLen_top d h0
  have hl := len512 h
  have key : ∀ M N, N = M + 4 → Go.bitLen d ≤ N → d * 2 ^ (N - Go.bitLen d) < 2 ^ N ∧ d * 2 ^ (N - Go.bitLen d) / 2 ^ M = d * 2 ^ 4 / 2 ^ Go.bitLen d ∧ 8 ≤ d * 2 ^ (N - Go.bitLen d) / 2 ^ M ∧ d * 2 ^ (N - Go.bitLen d) / 2 ^ M ≤ 15 := fun M N hN hb => by
    subst hN
    exact row_num d (Go.bitLen d) M ht.1 ht.2.1 ht.2.2 hb
  have := key 508 512 rfl hl
  have e : QQ = 2 ^ 512 := by decide +kernel
  rw [e]
  exact this
theorem rowC_yes (d : Nat) (hd : d < QQ) (h0 : d ≠ 0) (w : World) :
    Calls Tryd.prog 15 #[.agg #[.int .u64 (dgl (d) 0 : Nat), .int .u64 (dgl (d) 1 : Nat), .int .u64 (dgl (d) 2 : Nat), .int .u64 (dgl (d) 3 : Nat), .int .u64 (dgl (d) 4 : Nat), .int .u64 (dgl (d) 5 : Nat), .int .u64 (dgl (d) 6 : Nat), .int .u64 (dgl (d) 7 : Nat)]] w fun e w' => e = .returned (.tuple #[.int .i64 ((rwN d : Nat) : Int), .bool true]) ∧ Below w.heap.size w w' := by
  have hl := len512 hd
  have hr := roww_all hd h0
  have hsh := fun w => wideShl_any d (((512 - Go.bitLen d : Nat)) : Int) hd w
  rw [show roomI (((512 - Go.bitLen d : Nat)) : Int) = (((512 - Go.bitLen d : Nat)) : Int) by unfold roomI; omega, sh_up] at hsh
  have hsr := fun w => wideShr_any (d * 2 ^ (512 - Go.bitLen d)) 508 508 (by decide) hr.1 w
  refine rowC_walk d (Go.bitLen d) (512 - Go.bitLen d) (d * 2 ^ (512 - Go.bitLen d)) (rwN d) _ (by rw [IntKind.wrap_i64]; omega) ?_ hr.2.2.2 (fun w => ?_) (fun w => wideLen_any d hd w) hsh hsr (fun w => wideLow_any (dgl (rwN d)) w) w
  · exact hide (by unfold dgl; rw [Nat.pow_zero, Nat.div_one]; exact Nat.mod_eq_of_lt (by have := hr.2.2.2; omega))
  · have h := wide_eqz hd w
    rw [decide_eq_false h0] at h
    exact h
end Go.Proofs.YtgnaomgcfliamaaDoor

