/- Contracts and laws: TabB, TabC, TabD, TabE, SrtN, SrtD, SrtE, SrtF. -/
import Derived.Test.YtbngaajhdaciaaaDoorPartAO
import Derived.Test.YtbngaajhdaciaaaDoorPartAL
import Derived.Test.YtbngaajhdaciaaaDoorPartAJ
import Derived.Test.YtbngaajhdaciaaaDoorPartAN
import Derived.Test.YtbngaajhdaciaaaDoorPartAC
import Derived.Test.YtbngaajhdaciaaaDoorPartAK
/- Contracts: table.Bounds, chosen, Digit; law 14's awake. -/
set_option linter.unusedVariables false
set_option linter.unusedSimpArgs false
set_option maxRecDepth 8000
namespace Go.Proofs.YtbngaajhdaciaaaDoor
open Go.RowKit Plain

/-- Four ints lie in a block. -/
def LiesI (w : World) (b : Nat) (f : Nat → Int) : Prop := (∀ i, i < 4 → w.cell? ⟨b, i, none⟩ = some (.int .i64 (f i))) ∧ b < w.heap.size
theorem LiesI.under {w w' : World} {b : Nat} {f : Nat → Int} (h : LiesI w b f) {C : Nat} (hb : Below C w w') (hc : b < C) : LiesI w' b f :=
  ⟨fun i hi => (hb.cell (p := ⟨b, i, none⟩) hc).trans (h.1 i hi), Nat.lt_of_lt_of_le h.2 hb.size⟩
theorem LiesI.below {w w' : World} {b : Nat} {f : Nat → Int} (h : LiesI w b f) (hb : Below w.heap.size w w') : LiesI w' b f := h.under hb h.2
theorem belowT_allocs (w : World) (o : Obj) : Below w.heap.size w (w.alloc o) := (Below.refl _ _).alloc (Nat.le_refl _) o
theorem liesI_new (w : World) (f : Nat → Int) (e : TypeId) : LiesI (w.alloc (.cells #[.int .i64 (f 0), .int .i64 (f 1), .int .i64 (f 2), .int .i64 (f 3)] e)) w.heap.size f := by
  refine ⟨fun i hi => ?_, by simp⟩
  rcases (show i = 0 ∨ i = 1 ∨ i = 2 ∨ i = 3 by omega) with rfl | rfl | rfl | rfl <;> simp [go_sem]
theorem below_set4 {B : Nat} {a W : World} (h : Below B a W) (b : Nat) (hb : B ≤ b) (x0 x1 x2 x3 : Value) : Below B a ((((W.setCell ⟨b, 0, none⟩ x0).setCell ⟨b, 1, none⟩ x1).setCell ⟨b, 2, none⟩ x2).setCell ⟨b, 3, none⟩ x3) :=
  ((((h.setCell (p := ⟨b, 0, none⟩) (hb) _).setCell (p := ⟨b, 1, none⟩) (hb) _).setCell (p := ⟨b, 2, none⟩) (hb) _).setCell (p := ⟨b, 3, none⟩) (hb) _)
/-- What a call goes by that has four ints as its result: they lie at its first block. -/
structure R4St (w W : World) : Prop where
  l : LiesI W w.heap.size (fun _ => 0)
  f : ∀ i, W.frozen? ⟨w.heap.size, i, none⟩ = false
  bel : Below w.heap.size w W
theorem R4St.below {w W W' : World} (h : R4St w W) (hb : Below W.heap.size W W') : R4St w W' :=
  ⟨h.l.below hb, fun i => (hb.frozen (p := ⟨w.heap.size, i, none⟩) h.l.2).trans (h.f i), ⟨hb.os.trans h.bel.os, hb.tape.trans h.bel.tape, hb.output.trans h.bel.output, Nat.le_trans h.bel.size hb.size, fun k hk => (hb.block k (Nat.lt_of_lt_of_le hk h.bel.size)).trans (h.bel.block k hk)⟩⟩
theorem r4_start (w : World) (e : TypeId) : R4St w (w.alloc (.cells #[.int .i64 0, .int .i64 0, .int .i64 0, .int .i64 0] e)) := ⟨liesI_new w (fun _ => 0) e, fun i => by simp [go_sem], belowT_allocs _ _⟩

/-- A row of the table. -/
def tabN (i : Int) (k : Nat) : Int := tabL.getD (4 * (i - 8).toNat + k) 0
/-- The digit by bounds. -/
def chN (f : Nat → Int) (y : Int) : Int := if f 0 ≤ y then 2 else if f 1 ≤ y then 1 else if f 2 ≤ y then 0 else if f 3 ≤ y then -1 else -2
theorem chN_at {f : Nat → Int} {y : Int} {j : Nat} (hj : j < 4) (h : ∀ m, m < j → ¬ f m ≤ y) (hy : f j ≤ y) : chN f y = 2 - (j : Int) := by
  unfold chN
  rcases (show j = 0 ∨ j = 1 ∨ j = 2 ∨ j = 3 by omega) with rfl | rfl | rfl | rfl
  · rw [if_pos hy]; rfl
  · rw [if_neg (h 0 (by omega)), if_pos hy]; rfl
  · rw [if_neg (h 0 (by omega)), if_neg (h 1 (by omega)), if_pos hy]; rfl
  · rw [if_neg (h 0 (by omega)), if_neg (h 1 (by omega)), if_neg (h 2 (by omega)), if_pos hy]; rfl
theorem chN_none {f : Nat → Int} {y : Int} (h : ∀ m, m < 4 → ¬ f m ≤ y) : chN f y = -2 := by
  unfold chN
  rw [if_neg (h 0 (by omega)), if_neg (h 1 (by omega)), if_neg (h 2 (by omega)), if_neg (h 3 (by omega))]

theorem bounds_8 (w : World) (hg : TabG w) : Calls Tryd.prog 81 #[.int .i64 8] w fun e w' => e = .returned (.tuple #[.agg #[.int .i64 (tabN 8 0), .int .i64 (tabN 8 1), .int .i64 (tabN 8 2), .int .i64 (tabN 8 3)], .bool true]) ∧ Below w.heap.size w w' := by
  have HS := hide (r4_start w 74)
  have HG := hide (hg.below (belowT_allocs w (.cells #[.int .i64 0, .int .i64 0, .int .i64 0, .int .i64 0] 74)))
  have HN : Hid ((#[.int .i64 (tabN 8 0), .int .i64 (tabN 8 1), .int .i64 (tabN 8 2), .int .i64 (tabN 8 3)] : Array Value) = #[.int .i64 12, .int .i64 3, .int .i64 (-5), .int .i64 (-13)]) := rfl
  go_enter Tryd.func81, Tryd.ntmps81
  go_upto_region 3 with fail
  refine wp_gen (fun W => R4St w W ∧ TabG W) ⟨HS.out, HG.out⟩ ?_
  clear HS HG hg
  rintro W3 h3
  have hr1 := h3.1.l.1
  have hrl1 := h3.1.l.2
  have hrf1 := h3.1.f
  have hc0 : W3.cell? ⟨0, 0, none⟩ = some (.int .i64 (12)) := h3.2.c 0 (by decide)
  have hc1 : W3.cell? ⟨0, 1, none⟩ = some (.int .i64 (3)) := h3.2.c 1 (by decide)
  have hc2 : W3.cell? ⟨0, 2, none⟩ = some (.int .i64 (-5)) := h3.2.c 2 (by decide)
  have hc3 : W3.cell? ⟨0, 3, none⟩ = some (.int .i64 (-13)) := h3.2.c 3 (by decide)
  have HBE := hide h3.1.bel
  clear h3
  go_wp2
  refine bodyPost_ret (v := .tuple #[.agg #[.int .i64 12, .int .i64 3, .int .i64 (-5), .int .i64 (-13)], .bool true]) (by simp [results, Tryd.results81, go_sem, hr1, hrl1]) rfl ⟨by rw [HN.out], below_set4 HBE.out _ (by omega) _ _ _ _⟩

theorem bounds_9 (w : World) (hg : TabG w) : Calls Tryd.prog 81 #[.int .i64 9] w fun e w' => e = .returned (.tuple #[.agg #[.int .i64 (tabN 9 0), .int .i64 (tabN 9 1), .int .i64 (tabN 9 2), .int .i64 (tabN 9 3)], .bool true]) ∧ Below w.heap.size w w' := by
  have HS := hide (r4_start w 74)
  have HG := hide (hg.below (belowT_allocs w (.cells #[.int .i64 0, .int .i64 0, .int .i64 0, .int .i64 0] 74)))
  have HN : Hid ((#[.int .i64 (tabN 9 0), .int .i64 (tabN 9 1), .int .i64 (tabN 9 2), .int .i64 (tabN 9 3)] : Array Value) = #[.int .i64 14, .int .i64 4, .int .i64 (-6), .int .i64 (-15)]) := rfl
  go_enter Tryd.func81, Tryd.ntmps81
  go_upto_region 3 with fail
  refine wp_gen (fun W => R4St w W ∧ TabG W) ⟨HS.out, HG.out⟩ ?_
  clear HS HG hg
  rintro W3 h3
  have hr1 := h3.1.l.1
  have hrl1 := h3.1.l.2
  have hrf1 := h3.1.f
  have hc0 : W3.cell? ⟨0, 4, none⟩ = some (.int .i64 (14)) := h3.2.c 4 (by decide)
  have hc1 : W3.cell? ⟨0, 5, none⟩ = some (.int .i64 (4)) := h3.2.c 5 (by decide)
  have hc2 : W3.cell? ⟨0, 6, none⟩ = some (.int .i64 (-6)) := h3.2.c 6 (by decide)
  have hc3 : W3.cell? ⟨0, 7, none⟩ = some (.int .i64 (-15)) := h3.2.c 7 (by decide)
  have HBE := hide h3.1.bel
  clear h3
  go_wp2
  refine bodyPost_ret (v := .tuple #[.agg #[.int .i64 14, .int .i64 4, .int .i64 (-6), .int .i64 (-15)], .bool true]) (by simp [results, Tryd.results81, go_sem, hr1, hrl1]) rfl ⟨by rw [HN.out], below_set4 HBE.out _ (by omega) _ _ _ _⟩

theorem bounds_10 (w : World) (hg : TabG w) : Calls Tryd.prog 81 #[.int .i64 10] w fun e w' => e = .returned (.tuple #[.agg #[.int .i64 (tabN 10 0), .int .i64 (tabN 10 1), .int .i64 (tabN 10 2), .int .i64 (tabN 10 3)], .bool true]) ∧ Below w.heap.size w w' := by
  have HS := hide (r4_start w 74)
  have HG := hide (hg.below (belowT_allocs w (.cells #[.int .i64 0, .int .i64 0, .int .i64 0, .int .i64 0] 74)))
  have HN : Hid ((#[.int .i64 (tabN 10 0), .int .i64 (tabN 10 1), .int .i64 (tabN 10 2), .int .i64 (tabN 10 3)] : Array Value) = #[.int .i64 15, .int .i64 4, .int .i64 (-6), .int .i64 (-16)]) := rfl
  go_enter Tryd.func81, Tryd.ntmps81
  go_upto_region 3 with fail
  refine wp_gen (fun W => R4St w W ∧ TabG W) ⟨HS.out, HG.out⟩ ?_
  clear HS HG hg
  rintro W3 h3
  have hr1 := h3.1.l.1
  have hrl1 := h3.1.l.2
  have hrf1 := h3.1.f
  have hc0 : W3.cell? ⟨0, 8, none⟩ = some (.int .i64 (15)) := h3.2.c 8 (by decide)
  have hc1 : W3.cell? ⟨0, 9, none⟩ = some (.int .i64 (4)) := h3.2.c 9 (by decide)
  have hc2 : W3.cell? ⟨0, 10, none⟩ = some (.int .i64 (-6)) := h3.2.c 10 (by decide)
  have hc3 : W3.cell? ⟨0, 11, none⟩ = some (.int .i64 (-16)) := h3.2.c 11 (by decide)
  have HBE := hide h3.1.bel
  clear h3
  go_wp2
  refine bodyPost_ret (v := .tuple #[.agg #[.int .i64 15, .int .i64 4, .int .i64 (-6), .int .i64 (-16)], .bool true]) (by simp [results, Tryd.results81, go_sem, hr1, hrl1]) rfl ⟨by rw [HN.out], below_set4 HBE.out _ (by omega) _ _ _ _⟩

theorem bounds_11 (w : World) (hg : TabG w) : Calls Tryd.prog 81 #[.int .i64 11] w fun e w' => e = .returned (.tuple #[.agg #[.int .i64 (tabN 11 0), .int .i64 (tabN 11 1), .int .i64 (tabN 11 2), .int .i64 (tabN 11 3)], .bool true]) ∧ Below w.heap.size w w' := by
  have HS := hide (r4_start w 74)
  have HG := hide (hg.below (belowT_allocs w (.cells #[.int .i64 0, .int .i64 0, .int .i64 0, .int .i64 0] 74)))
  have HN : Hid ((#[.int .i64 (tabN 11 0), .int .i64 (tabN 11 1), .int .i64 (tabN 11 2), .int .i64 (tabN 11 3)] : Array Value) = #[.int .i64 16, .int .i64 4, .int .i64 (-7), .int .i64 (-18)]) := rfl
  go_enter Tryd.func81, Tryd.ntmps81
  go_upto_region 3 with fail
  refine wp_gen (fun W => R4St w W ∧ TabG W) ⟨HS.out, HG.out⟩ ?_
  clear HS HG hg
  rintro W3 h3
  have hr1 := h3.1.l.1
  have hrl1 := h3.1.l.2
  have hrf1 := h3.1.f
  have hc0 : W3.cell? ⟨0, 12, none⟩ = some (.int .i64 (16)) := h3.2.c 12 (by decide)
  have hc1 : W3.cell? ⟨0, 13, none⟩ = some (.int .i64 (4)) := h3.2.c 13 (by decide)
  have hc2 : W3.cell? ⟨0, 14, none⟩ = some (.int .i64 (-7)) := h3.2.c 14 (by decide)
  have hc3 : W3.cell? ⟨0, 15, none⟩ = some (.int .i64 (-18)) := h3.2.c 15 (by decide)
  have HBE := hide h3.1.bel
  clear h3
  go_wp2
  refine bodyPost_ret (v := .tuple #[.agg #[.int .i64 16, .int .i64 4, .int .i64 (-7), .int .i64 (-18)], .bool true]) (by simp [results, Tryd.results81, go_sem, hr1, hrl1]) rfl ⟨by rw [HN.out], below_set4 HBE.out _ (by omega) _ _ _ _⟩

theorem bounds_12 (w : World) (hg : TabG w) : Calls Tryd.prog 81 #[.int .i64 12] w fun e w' => e = .returned (.tuple #[.agg #[.int .i64 (tabN 12 0), .int .i64 (tabN 12 1), .int .i64 (tabN 12 2), .int .i64 (tabN 12 3)], .bool true]) ∧ Below w.heap.size w w' := by
  have HS := hide (r4_start w 74)
  have HG := hide (hg.below (belowT_allocs w (.cells #[.int .i64 0, .int .i64 0, .int .i64 0, .int .i64 0] 74)))
  have HN : Hid ((#[.int .i64 (tabN 12 0), .int .i64 (tabN 12 1), .int .i64 (tabN 12 2), .int .i64 (tabN 12 3)] : Array Value) = #[.int .i64 18, .int .i64 5, .int .i64 (-8), .int .i64 (-20)]) := rfl
  go_enter Tryd.func81, Tryd.ntmps81
  go_upto_region 3 with fail
  refine wp_gen (fun W => R4St w W ∧ TabG W) ⟨HS.out, HG.out⟩ ?_
  clear HS HG hg
  rintro W3 h3
  have hr1 := h3.1.l.1
  have hrl1 := h3.1.l.2
  have hrf1 := h3.1.f
  have hc0 : W3.cell? ⟨0, 16, none⟩ = some (.int .i64 (18)) := h3.2.c 16 (by decide)
  have hc1 : W3.cell? ⟨0, 17, none⟩ = some (.int .i64 (5)) := h3.2.c 17 (by decide)
  have hc2 : W3.cell? ⟨0, 18, none⟩ = some (.int .i64 (-8)) := h3.2.c 18 (by decide)
  have hc3 : W3.cell? ⟨0, 19, none⟩ = some (.int .i64 (-20)) := h3.2.c 19 (by decide)
  have HBE := hide h3.1.bel
  clear h3
  go_wp2
  refine bodyPost_ret (v := .tuple #[.agg #[.int .i64 18, .int .i64 5, .int .i64 (-8), .int .i64 (-20)], .bool true]) (by simp [results, Tryd.results81, go_sem, hr1, hrl1]) rfl ⟨by rw [HN.out], below_set4 HBE.out _ (by omega) _ _ _ _⟩

theorem bounds_13 (w : World) (hg : TabG w) : Calls Tryd.prog 81 #[.int .i64 13] w fun e w' => e = .returned (.tuple #[.agg #[.int .i64 (tabN 13 0), .int .i64 (tabN 13 1), .int .i64 (tabN 13 2), .int .i64 (tabN 13 3)], .bool true]) ∧ Below w.heap.size w w' := by
  have HS := hide (r4_start w 74)
  have HG := hide (hg.below (belowT_allocs w (.cells #[.int .i64 0, .int .i64 0, .int .i64 0, .int .i64 0] 74)))
  have HN : Hid ((#[.int .i64 (tabN 13 0), .int .i64 (tabN 13 1), .int .i64 (tabN 13 2), .int .i64 (tabN 13 3)] : Array Value) = #[.int .i64 19, .int .i64 5, .int .i64 (-8), .int .i64 (-21)]) := rfl
  go_enter Tryd.func81, Tryd.ntmps81
  go_upto_region 3 with fail
  refine wp_gen (fun W => R4St w W ∧ TabG W) ⟨HS.out, HG.out⟩ ?_
  clear HS HG hg
  rintro W3 h3
  have hr1 := h3.1.l.1
  have hrl1 := h3.1.l.2
  have hrf1 := h3.1.f
  have hc0 : W3.cell? ⟨0, 20, none⟩ = some (.int .i64 (19)) := h3.2.c 20 (by decide)
  have hc1 : W3.cell? ⟨0, 21, none⟩ = some (.int .i64 (5)) := h3.2.c 21 (by decide)
  have hc2 : W3.cell? ⟨0, 22, none⟩ = some (.int .i64 (-8)) := h3.2.c 22 (by decide)
  have hc3 : W3.cell? ⟨0, 23, none⟩ = some (.int .i64 (-21)) := h3.2.c 23 (by decide)
  have HBE := hide h3.1.bel
  clear h3
  go_wp2
  refine bodyPost_ret (v := .tuple #[.agg #[.int .i64 19, .int .i64 5, .int .i64 (-8), .int .i64 (-21)], .bool true]) (by simp [results, Tryd.results81, go_sem, hr1, hrl1]) rfl ⟨by rw [HN.out], below_set4 HBE.out _ (by omega) _ _ _ _⟩

theorem bounds_14 (w : World) (hg : TabG w) : Calls Tryd.prog 81 #[.int .i64 14] w fun e w' => e = .returned (.tuple #[.agg #[.int .i64 (tabN 14 0), .int .i64 (tabN 14 1), .int .i64 (tabN 14 2), .int .i64 (tabN 14 3)], .bool true]) ∧ Below w.heap.size w w' := by
  have HS := hide (r4_start w 74)
  have HG := hide (hg.below (belowT_allocs w (.cells #[.int .i64 0, .int .i64 0, .int .i64 0, .int .i64 0] 74)))
  have HN : Hid ((#[.int .i64 (tabN 14 0), .int .i64 (tabN 14 1), .int .i64 (tabN 14 2), .int .i64 (tabN 14 3)] : Array Value) = #[.int .i64 20, .int .i64 5, .int .i64 (-9), .int .i64 (-23)]) := rfl
  go_enter Tryd.func81, Tryd.ntmps81
  go_upto_region 3 with fail
  refine wp_gen (fun W => R4St w W ∧ TabG W) ⟨HS.out, HG.out⟩ ?_
  clear HS HG hg
  rintro W3 h3
  have hr1 := h3.1.l.1
  have hrl1 := h3.1.l.2
  have hrf1 := h3.1.f
  have hc0 : W3.cell? ⟨0, 24, none⟩ = some (.int .i64 (20)) := h3.2.c 24 (by decide)
  have hc1 : W3.cell? ⟨0, 25, none⟩ = some (.int .i64 (5)) := h3.2.c 25 (by decide)
  have hc2 : W3.cell? ⟨0, 26, none⟩ = some (.int .i64 (-9)) := h3.2.c 26 (by decide)
  have hc3 : W3.cell? ⟨0, 27, none⟩ = some (.int .i64 (-23)) := h3.2.c 27 (by decide)
  have HBE := hide h3.1.bel
  clear h3
  go_wp2
  refine bodyPost_ret (v := .tuple #[.agg #[.int .i64 20, .int .i64 5, .int .i64 (-9), .int .i64 (-23)], .bool true]) (by simp [results, Tryd.results81, go_sem, hr1, hrl1]) rfl ⟨by rw [HN.out], below_set4 HBE.out _ (by omega) _ _ _ _⟩

theorem bounds_15 (w : World) (hg : TabG w) : Calls Tryd.prog 81 #[.int .i64 15] w fun e w' => e = .returned (.tuple #[.agg #[.int .i64 (tabN 15 0), .int .i64 (tabN 15 1), .int .i64 (tabN 15 2), .int .i64 (tabN 15 3)], .bool true]) ∧ Below w.heap.size w w' := by
  have HS := hide (r4_start w 74)
  have HG := hide (hg.below (belowT_allocs w (.cells #[.int .i64 0, .int .i64 0, .int .i64 0, .int .i64 0] 74)))
  have HN : Hid ((#[.int .i64 (tabN 15 0), .int .i64 (tabN 15 1), .int .i64 (tabN 15 2), .int .i64 (tabN 15 3)] : Array Value) = #[.int .i64 22, .int .i64 6, .int .i64 (-10), .int .i64 (-25)]) := rfl
  go_enter Tryd.func81, Tryd.ntmps81
  go_upto_region 3 with fail
  refine wp_gen (fun W => R4St w W ∧ TabG W) ⟨HS.out, HG.out⟩ ?_
  clear HS HG hg
  rintro W3 h3
  have hr1 := h3.1.l.1
  have hrl1 := h3.1.l.2
  have hrf1 := h3.1.f
  have hc0 : W3.cell? ⟨0, 28, none⟩ = some (.int .i64 (22)) := h3.2.c 28 (by decide)
  have hc1 : W3.cell? ⟨0, 29, none⟩ = some (.int .i64 (6)) := h3.2.c 29 (by decide)
  have hc2 : W3.cell? ⟨0, 30, none⟩ = some (.int .i64 (-10)) := h3.2.c 30 (by decide)
  have hc3 : W3.cell? ⟨0, 31, none⟩ = some (.int .i64 (-25)) := h3.2.c 31 (by decide)
  have HBE := hide h3.1.bel
  clear h3
  go_wp2
  refine bodyPost_ret (v := .tuple #[.agg #[.int .i64 22, .int .i64 6, .int .i64 (-10), .int .i64 (-25)], .bool true]) (by simp [results, Tryd.results81, go_sem, hr1, hrl1]) rfl ⟨by rw [HN.out], below_set4 HBE.out _ (by omega) _ _ _ _⟩

theorem bounds_yes (i : Int) (h1 : 8 ≤ i) (h2 : i ≤ 15) (w : World) (hg : TabG w) : Calls Tryd.prog 81 #[.int .i64 i] w fun e w' => e = .returned (.tuple #[.agg #[.int .i64 (tabN i 0), .int .i64 (tabN i 1), .int .i64 (tabN i 2), .int .i64 (tabN i 3)], .bool true]) ∧ Below w.heap.size w w' := by
  rcases (show i = 8 ∨ i = 9 ∨ i = 10 ∨ i = 11 ∨ i = 12 ∨ i = 13 ∨ i = 14 ∨ i = 15 by omega) with rfl | rfl | rfl | rfl | rfl | rfl | rfl | rfl
  · exact bounds_8 w hg
  · exact bounds_9 w hg
  · exact bounds_10 w hg
  · exact bounds_11 w hg
  · exact bounds_12 w hg
  · exact bounds_13 w hg
  · exact bounds_14 w hg
  · exact bounds_15 w hg

theorem idx4_run (f : Nat → Int) (i : Nat) (hi : i < 4) (w : World) : (Instr.index 74 (.agg #[.int .i64 (f 0), .int .i64 (f 1), .int .i64 (f 2), .int .i64 (f 3)]) (.int .i64 (i : Nat))).run Tryd.prog w = .ok (.int .i64 (f i)) w := by
  match i, hi with
  | 0, _ => simp [Instr.index, go_sem, run_underlying Tryd.underlying74]
  | 1, _ => simp [Instr.index, go_sem, run_underlying Tryd.underlying74]
  | 2, _ => simp [Instr.index, go_sem, run_underlying Tryd.underlying74]
  | 3, _ => simp [Instr.index, go_sem, run_underlying Tryd.underlying74]

set_option maxHeartbeats 1000000 in
theorem chosen_any (f : Nat → Int) (y : Int) (w : World) : Calls Tryd.prog 82 #[.agg #[.int .i64 (f 0), .int .i64 (f 1), .int .i64 (f 2), .int .i64 (f 3)], .int .i64 y] w fun e w' => e = .returned (.int .i64 (chN f y)) ∧ Below w.heap.size w w' := by
  have HB := hide (belowT_allocs w (.cells #[.int .i64 (f 0), .int .i64 (f 1), .int .i64 (f 2), .int .i64 (f 3)] 74))
  go_enter Tryd.func82, Tryd.ntmps82
  go_wp2
  go_loopw [8] (fun i wr => ∃ j : Nat, j ≤ 4 ∧ i = .int .i64 j ∧ Hid (∀ m, m < j → ¬ f m ≤ y) ∧ Hid (Below w.heap.size w wr))
    (fun i _ => 4 - (intOf i).toNat)
  case atStart => exact ⟨0, by omega, rfl, fun m hm => absurd hm (by omega), HB⟩
  case round =>
    clear HB
    obtain ⟨j, hj, rfl, HA, HB⟩ := hrel
    by_cases hlt : j < 4
    · have hj4 : (j : Int) < 4 := by omega
      have hix := fun w => idx4_run f j hlt w
      have hw2 : IntKind.i64.wrap (2 - (j : Int)) = 2 - (j : Int) := by rw [IntKind.wrap_i64]; omega
      by_cases hy : f j ≤ y
      · have HR := hide (chN_at hlt HA.out hy)
        clear HA
        go_wp2
        go_ret
        exact ⟨ret_int HR.out.symm, HB.out⟩
      · have HN : Hid (∀ m, m < j + 1 → ¬ f m ≤ y) := fun m hm => by
          rcases Nat.lt_or_ge m j with h | h
          · exact HA.out m h
          · have : m = j := by omega
            rw [this]; exact hy
        clear HA
        go_wp2
        go_roundw
        case rel => exact ⟨j + 1, by omega, by go_num, HN, HB⟩
        case measure => simp [intOf]; omega
    · obtain rfl : j = 4 := by omega
      have HR := hide (chN_none HA.out)
      clear HA
      go_wp2
      go_ret
      exact ⟨ret_int HR.out.symm, HB.out⟩

theorem digit_walkY (i y : Int) (f : Nat → Int) (HBD : Hid (∀ w, TabG w → Calls Tryd.prog 81 #[.int .i64 i] w fun e w' => e = .returned (.tuple #[.agg #[.int .i64 (f 0), .int .i64 (f 1), .int .i64 (f 2), .int .i64 (f 3)], .bool true]) ∧ Below w.heap.size w w')) (w : World) (hg : TabG w) :
    Calls Tryd.prog 60 #[.int .i64 i, .int .i64 y] w fun e w' => e = .returned (.tuple #[.int .i64 (chN f y), .bool true]) ∧ Below w.heap.size w w' := by
  have HG := hide hg
  have HCH := hide (fun w => chosen_any f y w)
  clear hg
  go_enter Tryd.func60, Tryd.ntmps60
  go_wp2_with fail
  refine (HBD.out _ HG.out).mono ?_
  rintro e w1 ⟨rfl, hb1⟩
  go_upto_region 2 with fail
  refine wp_gen (fun W => LiesI W w1.heap.size f ∧ Below w.heap.size w W) ⟨liesI_new w1 f _, hb1.alloc hb1.size _⟩ ?_
  clear hb1 HBD HG
  generalize w1.heap.size = p6 at *
  rintro W2 h2
  have HL := hide h2
  have hl := h2.1.1
  clear h2
  go_wp2_with fail
  refine (HCH.out _).mono ?_
  rintro e w3 ⟨rfl, hb3⟩
  have HB := hide (show Below w.heap.size w w3 from HL.out.2.trans (hb3.mono HL.out.2.size))
  clear hb3 HL hl
  go_wp2
  exact bodyPost_ret (v := .tuple #[.int .i64 (chN f y), .bool true]) (by simp [results, Tryd.results60, go_sem]) rfl ⟨rfl, HB.out⟩
theorem digit_yes (i y : Int) (h1 : 8 ≤ i) (h2 : i ≤ 15) (w : World) (hg : TabG w) : Calls Tryd.prog 60 #[.int .i64 i, .int .i64 y] w fun e w' => e = .returned (.tuple #[.int .i64 (chN (tabN i) y), .bool true]) ∧ Below w.heap.size w w' :=
  digit_walkY i y (tabN i) (fun w hg => bounds_yes i h1 h2 w hg) w hg
end Go.Proofs.YtbngaajhdaciaaaDoor

/- Contracts: radicandref14.least, Bounds, Digit. -/
set_option linter.unusedVariables false
set_option linter.unusedSimpArgs false
set_option maxRecDepth 8000
namespace Go.Proofs.YtbngaajhdaciaaaDoor
open Go.RowKit Plain

/-- The least whole number that isn't below a third. -/
def leN (n : Int) : Int := (n + 2) / 3
/-- The document's row. -/
def rowN (i : Int) : Nat → Int
  | 0 => leN (4 * (i + 1))
  | 1 => leN (i + 1)
  | 2 => leN (-2 * i)
  | _ => leN (-5 * i)
theorem row_tab (i : Int) (h1 : 8 ≤ i) (h2 : i ≤ 15) : (#[.int .i64 (rowN i 0), .int .i64 (rowN i 1), .int .i64 (rowN i 2), .int .i64 (rowN i 3)] : Array Value) = #[.int .i64 (tabN i 0), .int .i64 (tabN i 1), .int .i64 (tabN i 2), .int .i64 (tabN i 3)] := by
  rcases (show i = 8 ∨ i = 9 ∨ i = 10 ∨ i = 11 ∨ i = 12 ∨ i = 13 ∨ i = 14 ∨ i = 15 by omega) with rfl | rfl | rfl | rfl | rfl | rfl | rfl | rfl <;> rfl

theorem least_any (n : Int) (h1 : -290 ≤ n) (h2 : n ≤ 1000) (w : World) : Calls Tryd.prog 71 #[.int .i64 n] w fun e w' => e = .returned (.int .i64 (leN n)) ∧ w' = w := by
  go_enter Tryd.func71, Tryd.ntmps71
  go_wp2
  go_loopw [3] (fun i wr => ∃ k : Int, -100 ≤ k ∧ 3 * (k - 1) < n ∧ i = .int .i64 k ∧ wr = w)
    (fun i _ => (n - 3 * intOf i).toNat)
  case atStart => exact ⟨-100, by omega, by omega, rfl, rfl⟩
  case round =>
    obtain ⟨k, hk1, hk2, rfl, rfl⟩ := hrel
    have hw3 : IntKind.i64.wrap (3 * k) = 3 * k := by rw [IntKind.wrap_i64]; omega
    have hw1 : IntKind.i64.wrap (k + 1) = k + 1 := by rw [IntKind.wrap_i64]; omega
    by_cases hlt : 3 * k < n
    · have HT := hide hlt
      go_wp2
      go_roundw
      case rel => exact ⟨k + 1, by omega, by have := HT.out; omega, rfl, by first | rfl | trivial⟩
      case measure => simp [intOf]; have := HT.out; omega
    · have HR : Hid (k = leN n) := by apply hide; unfold leN; omega
      go_wp2
      go_ret
      exact ⟨ret_int HR.out, rfl⟩

set_option maxHeartbeats 1000000 in
theorem rbounds_any (i : Int) (h1 : 8 ≤ i) (h2 : i ≤ 15) (w : World) : Calls Tryd.prog 39 #[.int .i64 i] w fun e w' => e = .returned (.agg #[.int .i64 (rowN i 0), .int .i64 (rowN i 1), .int .i64 (rowN i 2), .int .i64 (rowN i 3)]) ∧ Below w.heap.size w w' := by
  have HS := hide (r4_start w 74)
  have HL : Hid (∀ n, -290 ≤ n → n ≤ 1000 → ∀ w, Calls Tryd.prog 71 #[.int .i64 n] w fun e w' => e = .returned (.int .i64 (leN n)) ∧ w' = w) := fun n a b w => least_any n a b w
  have HA := hide (HL.out (4 * (i + 1)) (by omega) (by omega))
  have HB := hide (HL.out (i + 1) (by omega) (by omega))
  have HC := hide (HL.out (-2 * i) (by omega) (by omega))
  have HD := hide (HL.out (-5 * i) (by omega) (by omega))
  have e0 : rowN i 0 = leN (4 * (i + 1)) := rfl
  have e1 : rowN i 1 = leN (i + 1) := rfl
  have e2 : rowN i 2 = leN (-2 * i) := rfl
  have e3 : rowN i 3 = leN (-5 * i) := rfl
  rw [e0, e1, e2, e3]
  have hw0 : IntKind.i64.wrap (i + 1) = i + 1 := by rw [IntKind.wrap_i64]; omega
  have hw1 : IntKind.i64.wrap (4 * (i + 1)) = 4 * (i + 1) := by rw [IntKind.wrap_i64]; omega
  have hw2 : IntKind.i64.wrap (-2 * i) = -2 * i := by rw [IntKind.wrap_i64]; omega
  have hw3 : IntKind.i64.wrap (-5 * i) = -5 * i := by rw [IntKind.wrap_i64]; omega
  clear HL e0 e1 e2 e3 h1 h2
  generalize leN (4 * (i + 1)) = q0 at *
  generalize leN (i + 1) = q1 at *
  generalize leN (-2 * i) = q2 at *
  generalize leN (-5 * i) = q3 at *
  go_enter Tryd.func39, Tryd.ntmps39
  go_wp2_with fail
  refine (HA.out _).mono ?_
  rintro e w1 ⟨rfl, hw⟩
  subst w1
  go_wp2_with fail
  refine (HB.out _).mono ?_
  rintro e w1 ⟨rfl, hw⟩
  subst w1
  go_wp2_with fail
  refine (HC.out _).mono ?_
  rintro e w1 ⟨rfl, hw⟩
  subst w1
  go_wp2_with fail
  refine (HD.out _).mono ?_
  rintro e w1 ⟨rfl, hw⟩
  subst w1
  have hr1 := HS.out.l.1
  have hrl1 := HS.out.l.2
  have hrf1 := HS.out.f
  have HBE := hide HS.out.bel
  clear HS
  go_wp2
  exact bodyPost_ret (v := .agg #[.int .i64 q0, .int .i64 q1, .int .i64 q2, .int .i64 q3]) (by simp [results, Tryd.results39, go_sem]) rfl ⟨rfl, belowT_allocs _ _⟩

set_option maxHeartbeats 1000000 in
theorem rdigit_any (f : Nat → Int) (y : Int) (w : World) : Calls Tryd.prog 38 #[.agg #[.int .i64 (f 0), .int .i64 (f 1), .int .i64 (f 2), .int .i64 (f 3)], .int .i64 y] w fun e w' => e = .returned (.int .i64 (chN f y)) ∧ Below w.heap.size w w' := by
  have HB : Hid (LiesI (w.alloc (.cells #[.int .i64 (f 0), .int .i64 (f 1), .int .i64 (f 2), .int .i64 (f 3)] 74)) w.heap.size f ∧ Below w.heap.size w (w.alloc (.cells #[.int .i64 (f 0), .int .i64 (f 1), .int .i64 (f 2), .int .i64 (f 3)] 74))) := ⟨liesI_new w f _, belowT_allocs w _⟩
  go_enter Tryd.func38, Tryd.ntmps38
  go_wp2
  go_loopw [5] (fun i wr => ∃ j : Nat, j ≤ 4 ∧ i = .int .i64 j ∧ Hid (∀ m, m < j → ¬ f m ≤ y) ∧ Hid (LiesI wr w.heap.size f ∧ Below w.heap.size w wr))
    (fun i _ => 4 - (intOf i).toNat)
  case atStart => exact ⟨0, by omega, rfl, fun m hm => absurd hm (by omega), HB⟩
  case round =>
    clear HB
    obtain ⟨j, hj, rfl, HA, HB⟩ := hrel
    by_cases hlt : j < 4
    · have hj4 : (j : Int) < 4 := by omega
      have hck := HB.out.1.1 j hlt
      have hw2 : IntKind.i64.wrap (2 - (j : Int)) = 2 - (j : Int) := by rw [IntKind.wrap_i64]; omega
      by_cases hy : f j ≤ y
      · have HR := hide (chN_at hlt HA.out hy)
        clear HA
        go_wp2
        go_ret
        exact ⟨ret_int HR.out.symm, HB.out.2⟩
      · have HN : Hid (∀ m, m < j + 1 → ¬ f m ≤ y) := fun m hm => by
          rcases Nat.lt_or_ge m j with h | h
          · exact HA.out m h
          · have : m = j := by omega
            rw [this]; exact hy
        clear HA
        go_wp2
        go_roundw
        case rel => exact ⟨j + 1, by omega, by go_num, HN, HB⟩
        case measure => simp [intOf]; omega
    · obtain rfl : j = 4 := by omega
      have HR := hide (chN_none HA.out)
      clear HA
      go_wp2
      go_ret
      exact ⟨ret_int HR.out.symm, HB.out.2⟩
end Go.Proofs.YtbngaajhdaciaaaDoor

/- Contracts: table.RootBounds, RootDigit; radicandref14.RootBounds. -/
set_option linter.unusedVariables false
set_option linter.unusedSimpArgs false
set_option maxRecDepth 8000
namespace Go.Proofs.YtbngaajhdaciaaaDoor
open Go.RowKit Plain

end Go.Proofs.YtbngaajhdaciaaaDoor

/- Contracts: table.RootBounds, RootDigit for any step; radicandref14.RootBounds. -/
set_option linter.unusedVariables false
set_option linter.unusedSimpArgs false
set_option maxRecDepth 8000
namespace Go.Proofs.YtbngaajhdaciaaaDoor
open Go.RowKit Plain

end Go.Proofs.YtbngaajhdaciaaaDoor

/- Plain numbers of layer 15: what is left behind each step stays within two thirds (nothing of the program but the table's own numbers). -/
set_option linter.unusedVariables false
set_option linter.unusedSimpArgs false
set_option maxRecDepth 8000
namespace Go.Proofs.YtbngaajhdaciaaaDoor
open Plain

/-- One step: U is a sixteenth, D the divisor, Y what is left. -/
theorem srt_step (i U D Y : Int) (h1 : 8 ≤ i) (h2 : i ≤ 15) (hU : 0 < U) (hD1 : i * U ≤ D) (hD2 : D < (i + 1) * U) (hY1 : -(8 * D) ≤ 3 * Y) (hY2 : 3 * Y ≤ 8 * D) :
    -2 ≤ chN (tabN i) (Y / U) ∧ chN (tabN i) (Y / U) ≤ 2 ∧ -(2 * D) ≤ 3 * (Y - chN (tabN i) (Y / U) * D) ∧ 3 * (Y - chN (tabN i) (Y / U) * D) ≤ 2 * D := by
  obtain ⟨a, ha⟩ : ∃ a, Y / U = a := ⟨_, rfl⟩
  have ha1 : a * U ≤ Y := by rw [← ha]; exact Int.ediv_mul_le Y (by omega)
  have ha2 : Y < (a + 1) * U := by rw [← ha]; exact Int.lt_ediv_add_one_mul_self Y hU
  rw [ha]
  have up : ∀ b : Int, b ≤ a → b * U ≤ Y := fun b hb => Int.le_trans (Int.mul_le_mul_of_nonneg_right hb (by omega)) ha1
  have dn : ∀ b : Int, ¬ b ≤ a → Y < b * U := fun b hb => Int.lt_of_lt_of_le ha2 (Int.mul_le_mul_of_nonneg_right (by omega) (by omega))
  clear ha ha1 ha2
  rcases (show i = 8 ∨ i = 9 ∨ i = 10 ∨ i = 11 ∨ i = 12 ∨ i = 13 ∨ i = 14 ∨ i = 15 by omega) with rfl | rfl | rfl | rfl | rfl | rfl | rfl | rfl
  all_goals
    unfold chN
    split
    · rename_i h; have g := up _ h; clear up dn; simp only [tabN, tabL] at g; simp at g; omega
    · rename_i h0; have g0 := dn _ h0
      split
      · rename_i h; have g := up _ h; clear up dn; simp only [tabN, tabL] at g g0; simp at g g0; omega
      · rename_i h1; have g1 := dn _ h1
        split
        · rename_i h; have g := up _ h; clear up dn; simp only [tabN, tabL] at g g1; simp at g g1; omega
        · rename_i h2; have g2 := dn _ h2
          split
          · rename_i h; have g := up _ h; clear up dn; simp only [tabN, tabL] at g g2; simp at g g2; omega
          · rename_i h3; have g3 := dn _ h3; clear up dn; simp only [tabN, tabL] at g3; simp at g3; omega

/-- What is left behind j steps, E being a sixteenth, the digits worth 4^T down to 1. -/
def lfS (i E D N : Int) (T : Nat) : Nat → Int
  | 0 => N
  | j + 1 => lfS i E D N T j - chN (tabN i) (lfS i E D N T j / (E * 4 ^ (T - j))) * (D * 4 ^ (T - j))
/-- The digit of a step. -/
def dgS (i E D N : Int) (T j : Nat) : Int := chN (tabN i) (lfS i E D N T j / (E * 4 ^ (T - j)))
theorem lfS_succ (i E D N : Int) (T j : Nat) : lfS i E D N T (j + 1) = lfS i E D N T j - dgS i E D N T j * (D * 4 ^ (T - j)) := rfl
/-- The number of the first j digits. -/
def nmS (i E D N : Int) (T : Nat) : Nat → Int
  | 0 => 0
  | j + 1 => 4 * nmS i E D N T j + dgS i E D N T j
theorem pow4_pos (n : Nat) : 0 < (4 : Int) ^ n := Int.pow_pos (by decide)
theorem pow4_step {T j : Nat} (h : j ≤ T) : (4 : Int) ^ (T + 1 - j) = 4 * 4 ^ (T - j) := by
  rw [show T + 1 - j = (T - j) + 1 by omega, Int.pow_succ, Int.mul_comm]

theorem srt_div_pos {i E D : Int} (h1 : 8 ≤ i) (hE : 0 < E) (hD1 : i * E ≤ D) : 0 < D := by
  have : 8 * E ≤ i * E := Int.mul_le_mul_of_nonneg_right h1 (by omega)
  omega
section
variable {i E D N : Int} {T : Nat} (h1 : 8 ≤ i) (h2 : i ≤ 15) (hE : 0 < E) (hD1 : i * E ≤ D) (hD2 : D < (i + 1) * E) (hN0 : 0 ≤ N) (hN : 3 * N ≤ 2 * (D * 4 ^ (T + 1)))
include h1 h2 hE hD1 hD2 hN0 hN
theorem lfS_keeps : ∀ j, j ≤ T + 1 → -(2 * (D * 4 ^ (T + 1 - j))) ≤ 3 * lfS i E D N T j ∧ 3 * lfS i E D N T j ≤ 2 * (D * 4 ^ (T + 1 - j))
  | 0, _ => by
    have hD := srt_div_pos h1 hE hD1
    have : 0 ≤ D * 4 ^ (T + 1) := Int.mul_nonneg (by omega) (Int.le_of_lt (pow4_pos _))
    rw [Nat.sub_zero]
    show -(2 * (D * 4 ^ (T + 1))) ≤ 3 * N ∧ 3 * N ≤ 2 * (D * 4 ^ (T + 1))
    omega
  | j + 1, hj => by
    have ih := lfS_keeps j (by omega)
    rw [pow4_step (show j ≤ T by omega)] at ih
    rw [show T + 1 - (j + 1) = T - j by omega, lfS_succ]
    have hW := pow4_pos (T - j)
    unfold dgS
    generalize (4 : Int) ^ (T - j) = W at *
    have e1 : D * (4 * W) = 4 * (D * W) := Int.mul_left_comm _ _ _
    rw [e1] at ih
    have hk := srt_step i (E * W) (D * W) (lfS i E D N T j) h1 h2 (Int.mul_pos hE hW) (by rw [← Int.mul_assoc]; exact Int.mul_le_mul_of_nonneg_right hD1 (by omega)) (by rw [← Int.mul_assoc]; exact Int.mul_lt_mul_of_pos_right hD2 hW) (by omega) (by omega)
    exact hk.2.2
theorem dgS_bd (j : Nat) (hj : j ≤ T) : -2 ≤ dgS i E D N T j ∧ dgS i E D N T j ≤ 2 := by
  have ih := lfS_keeps h1 h2 hE hD1 hD2 hN0 hN j (by omega)
  rw [pow4_step hj] at ih
  have hW := pow4_pos (T - j)
  unfold dgS
  generalize (4 : Int) ^ (T - j) = W at *
  have e1 : D * (4 * W) = 4 * (D * W) := Int.mul_left_comm _ _ _
  rw [e1] at ih
  have hk := srt_step i (E * W) (D * W) (lfS i E D N T j) h1 h2 (Int.mul_pos hE hW) (by rw [← Int.mul_assoc]; exact Int.mul_le_mul_of_nonneg_right hD1 (by omega)) (by rw [← Int.mul_assoc]; exact Int.mul_lt_mul_of_pos_right hD2 hW) (by omega) (by omega)
  exact ⟨hk.1, hk.2.1⟩
end
theorem lfS_num (i E D N : Int) (T : Nat) : ∀ j, j ≤ T + 1 → N = lfS i E D N T j + D * 4 ^ (T + 1 - j) * nmS i E D N T j
  | 0, _ => by simp [lfS, nmS]
  | j + 1, hj => by
    have ih := lfS_num i E D N T j (by omega)
    rw [pow4_step (show j ≤ T by omega)] at ih
    rw [show T + 1 - (j + 1) = T - j by omega, lfS_succ]
    show N = lfS i E D N T j - dgS i E D N T j * (D * 4 ^ (T - j)) + D * 4 ^ (T - j) * (4 * nmS i E D N T j + dgS i E D N T j)
    generalize (4 : Int) ^ (T - j) = W at *
    generalize dgS i E D N T j = k at *
    generalize nmS i E D N T j = m at *
    have e1 : D * (4 * W) * m = 4 * (D * W * m) := by rw [Int.mul_left_comm D 4 W, Int.mul_assoc]
    have e2 : D * W * (4 * m + k) = 4 * (D * W * m) + k * (D * W) := by rw [Int.mul_add, Int.mul_left_comm (D * W) 4 m, Int.mul_comm (D * W) k]
    rw [e1] at ih
    rw [e2]
    omega
/-- In the end: the quotient is the digits' number, or one less. -/
theorem lfS_end {D N L m : Int} (hD : 0 < D) (hL1 : -(2 * D) ≤ 3 * L) (hL2 : 3 * L ≤ 2 * D) (h : N = L + D * m) :
    (0 ≤ L → N / D = m ∧ N % D = L) ∧ (L < 0 → N / D = m - 1 ∧ N % D = L + D) := by
  constructor
  · intro h0
    have e : N = L + m * D := by rw [h, Int.mul_comm m D]
    rw [e, Int.add_mul_ediv_right _ _ (by omega), Int.add_mul_emod_self_right, Int.ediv_eq_zero_of_lt h0 (by omega), Int.emod_eq_of_lt h0 (by omega)]
    exact ⟨by omega, rfl⟩
  · intro h0
    have e : N = (L + D) + (m - 1) * D := by rw [h, Int.sub_mul, Int.mul_comm m D]; omega
    rw [e, Int.add_mul_ediv_right _ _ (by omega), Int.add_mul_emod_self_right, Int.ediv_eq_zero_of_lt (by omega) (by omega), Int.emod_eq_of_lt (by omega) (by omega)]
    exact ⟨by omega, rfl⟩
end Go.Proofs.YtbngaajhdaciaaaDoor

/- Contracts: radicandref15.Run. -/
set_option linter.unusedVariables false
set_option linter.unusedSimpArgs false
set_option maxRecDepth 8000
namespace Go.Proofs.YtbngaajhdaciaaaDoor
open Go.RowKit Plain

theorem cell_grown {W W' : World} {row : Option Nat} {b i : Nat} (hg : W.grownBy W' row) (hb : b < W.heap.size) (hr : some b ≠ row) : W'.cell? ⟨b, i, none⟩ = W.cell? ⟨b, i, none⟩ := World.cell?_of_block (w := W) (hg.block b hb hr)
theorem frozen_grown {W W' : World} {row : Option Nat} {b i : Nat} (hg : W.grownBy W' row) (hb : b < W.heap.size) (hr : some b ≠ row) : W'.frozen? ⟨b, i, none⟩ = W.frozen? ⟨b, i, none⟩ := World.frozen?_of_block (w := W) (hg.block b hb hr)
theorem big_grown {W W' : World} {row : Option Nat} {ao : Option Addr} {l c n K : Nat} (hg : W.grownBy W' row) (h : BigV W (.slice ao l c) n K) (hr : ∀ b off, ao = some ⟨b, off, none⟩ → some b ≠ row) : BigV W' (.slice ao l c) n K := by
  obtain ⟨ls, ⟨ao', ca, he, hc, hm, hx⟩, hd, hn, hk⟩ := h
  simp only [Value.slice.injEq] at he
  obtain ⟨rfl, hl, rfl⟩ := he
  refine ⟨ls, ⟨ao, c, by rw [hl], hc, hm, ?_⟩, hd, hn, hk⟩
  rcases hx with hx | ⟨b, off, rfl, hlt, hcell⟩
  · exact .inl hx
  · exact .inr ⟨b, off, rfl, Nat.lt_of_lt_of_le hlt hg.size, fun i hi => (cell_grown hg hlt (hr b off rfl)).trans (hcell i hi)⟩
/-- 'out = append(out, x)', out the call's own: only its row may have changed. -/
theorem wpList_appG {P : Program} {ops : Array Oper} {rest : List Oper} {o : Oper} {a : Act} {Q : Exit → Act → World → Prop} (wr : World) (hgd : o.guard = none) (s x : Operand) (t : TypeId)
    (ho : o.op = .call { callee := .builtin .append, args := #[s, x], argTypes := #[t, t] })
    (base : Nat) (e : TypeId) (i : TypeInfo) (z : Value) (bytes : Nat) (ht : P.underlying t = some (.slice e)) (hi : P.info? e = some i) (hz : i.zero = some z)
    (hsize : i.size = 1) (hby : i.bytes = bytes) (hzs : z.cells.size = 1)
    (mk : Nat → Value) (v : Value) (n : Nat) (l : List Nat) (hs : a.eval s = v) (hown : wr.ownsRow base e 1 v n (l.map mk))
    (y : Value) (d : Nat) (hy : y = mk d) (h1 : y.oneCell' = true) (hx : a.eval x = .slice (some ⟨wr.heap.size, 0, none⟩) 1 1)
    (h63 : n + 1 ≤ 9223372036854775807) (hbytes : (n + 1) * bytes ≤ 140737488355328) (hbase : base ≤ wr.heap.size)
    (h : ∀ v' w', w'.ownsRow base e 1 v' (n + 1) ((l ++ [d]).map mk) → wr.grownBy w' v.ownBlock → wpList P ops Q rest (a.put o.dst v') w') :
    wpList P ops Q (o :: rest) a (wr.alloc (.cells #[y] e)) := by
  refine wpList_append_own _ hgd s x t ho base e i z 1 bytes ht hi hz hsize hby hzs (by decide) v n (l.map mk) hs (hown.alloc _) ⟨wr.heap.size, 0, none⟩ 1 1 [y] hx rfl ?_ ?_ (by unfold maxLen; omega) hbytes (by simp; omega) ?_
  · intro j u hj
    match j, hj with
    | 0, hj => simp at hj; subst hj; simp [Addr.add]
  · intro u hu; simp at hu; subst hu; exact h1
  · intro v' w' ho' hg _
    refine h v' w' (by rw [List.map_append, List.map_singleton, ← hy]; exact ho') ?_
    exact grownBy_trans (grownBy_of_below (Below.alloc (Below.refl _ wr) (Nat.le_refl _) _) _) hg

/-- The result's box. -/
structure Rz15 (w W : World) : Prop where
  r0 : W.cell? ⟨w.heap.size + 2, 0, none⟩ = some (.slice none 0 0)
  r1 : W.cell? ⟨w.heap.size + 2, 1, none⟩ = some (.bool false)
  rf : ∀ i, W.frozen? ⟨w.heap.size + 2, i, none⟩ = false
  rn : ∀ k, 2 ≤ k → W.cell? ⟨w.heap.size + 2, k, none⟩ = none
  lt : w.heap.size + 2 < W.heap.size
  bel : Below w.heap.size w W
theorem Rz15.below {w W W' : World} (h : Rz15 w W) (hb : Below W.heap.size W W') : Rz15 w W' :=
  ⟨(hb.cell (p := ⟨w.heap.size + 2, 0, none⟩) h.lt).trans h.r0, (hb.cell (p := ⟨w.heap.size + 2, 1, none⟩) h.lt).trans h.r1, fun i => (hb.frozen (p := ⟨w.heap.size + 2, i, none⟩) h.lt).trans (h.rf i), fun k hk => (hb.cell (p := ⟨w.heap.size + 2, k, none⟩) h.lt).trans (h.rn k hk), Nat.lt_of_lt_of_le h.lt hb.size, below_trans h.bel hb⟩
theorem big_lt {W : World} {b off l c n K : Nat} (h : BigV W (.slice (some ⟨b, off, none⟩) l c) n K) (hn : n ≠ 0) : b < W.heap.size := by
  obtain ⟨ls, ⟨ao', ca, he, hc, hm, hx⟩, hd, -, -⟩ := h
  simp only [Value.slice.injEq] at he
  obtain ⟨rfl, hl, rfl⟩ := he
  rcases hx with hx | ⟨b', off', e, hlt, -⟩
  · have h1 := hd.1
    rw [hx, Nat.pow_zero] at h1
    omega
  · cases e; exact hlt
theorem owns_slice {w : World} {base n : Nat} {e : TypeId} {size : Nat} {v : Value} {xs : List Value} (h : w.ownsRow base e size v n xs) : ∃ ao l c, v = .slice ao l c := by
  rcases h.2 with ⟨rfl, _⟩ | ⟨g, cap, cur, rfl, _⟩
  · exact ⟨_, _, _, rfl⟩
  · exact ⟨_, _, _, rfl⟩
/-- What Run goes by. -/
structure Rn15 (p base : Nat) (oy : Option Addr) (ly cy D : Nat) (w W : World) : Prop where
  r0 : W.cell? ⟨w.heap.size + 2, 0, none⟩ = some (.slice none 0 0)
  r1 : W.cell? ⟨w.heap.size + 2, 1, none⟩ = some (.bool false)
  rf : ∀ i, W.frozen? ⟨w.heap.size + 2, i, none⟩ = false
  rn : ∀ k, 2 ≤ k → W.cell? ⟨w.heap.size + 2, k, none⟩ = none
  y : BigV W (.slice oy ly cy) D 45
  yb : ∀ b off, oy = some ⟨b, off, none⟩ → b < base
  pf : ∀ i, W.frozen? ⟨p, i, none⟩ = false
  pn : ∀ k, 2 ≤ k → W.cell? ⟨p, k, none⟩ = none
  o1 : w.heap.size + 2 < p
  o2 : p < base
  o3 : base ≤ W.heap.size
  bel : Below w.heap.size w W
/-- What is left lies in a block. -/
structure Lf15 (p : Nat) (ao : Option Addr) (l c : Nat) (z : Int) (K : Nat) (W : World) : Prop where
  c0 : W.cell? ⟨p, 0, none⟩ = some (.slice ao l c)
  c1 : W.cell? ⟨p, 1, none⟩ = some (.bool (decide (z < 0)))
  v : BigV W (.slice ao l c) z.natAbs K
section
variable {p base ly cy D : Nat} {oy : Option Addr} {w W W' : World}
theorem Rn15.below (h : Rn15 p base oy ly cy D w W) (hb : Below W.heap.size W W') : Rn15 p base oy ly cy D w W' := by
  have h1 := h.o1
  have h2 := h.o2
  have h3 := h.o3
  exact ⟨(hb.cell (p := ⟨w.heap.size + 2, 0, none⟩) (show w.heap.size + 2 < _ by omega)).trans h.r0, (hb.cell (p := ⟨w.heap.size + 2, 1, none⟩) (show w.heap.size + 2 < _ by omega)).trans h.r1, fun i => (hb.frozen (p := ⟨w.heap.size + 2, i, none⟩) (show w.heap.size + 2 < _ by omega)).trans (h.rf i), fun k hk => (hb.cell (p := ⟨w.heap.size + 2, k, none⟩) (show w.heap.size + 2 < _ by omega)).trans (h.rn k hk), h.y.below hb, h.yb, fun i => (hb.frozen (p := ⟨p, i, none⟩) (show p < _ by omega)).trans (h.pf i), fun k hk => (hb.cell (p := ⟨p, k, none⟩) (show p < _ by omega)).trans (h.pn k hk), h1, h2, Nat.le_trans h3 hb.size, below_trans h.bel hb⟩
theorem Rn15.grown (h : Rn15 p base oy ly cy D w W) {row : Option Nat} (hg : W.grownBy W' row) (hr : ∀ g, row = some g → base ≤ g) : Rn15 p base oy ly cy D w W' := by
  have h1 := h.o1
  have h2 := h.o2
  have h3 := h.o3
  have ne : ∀ b, b < base → some b ≠ row := fun b hb e => by have := hr b e.symm; omega
  refine ⟨(cell_grown hg (by omega) (ne _ (by omega))).trans h.r0, (cell_grown hg (by omega) (ne _ (by omega))).trans h.r1, fun i => (frozen_grown hg (by omega) (ne _ (by omega))).trans (h.rf i), fun k hk => (cell_grown hg (by omega) (ne _ (by omega))).trans (h.rn k hk), big_grown hg h.y fun b off e => ne b (h.yb b off e), h.yb, fun i => (frozen_grown hg (by omega) (ne _ h2)).trans (h.pf i), fun k hk => (cell_grown hg (by omega) (ne _ h2)).trans (h.pn k hk), h1, h2, Nat.le_trans h3 hg.size, h.bel.trans (below_of_grownBy hg h.bel.size fun k e => by have := hr k e; omega)⟩
theorem Rn15.set (h : Rn15 p base oy ly cy D w W) (o : Option Addr) (l c : Nat) (b : Bool) (hD : D ≠ 0) {o0 : Option Addr} {l0 c0 : Nat} {b0 : Bool} (e0 : W.cell? ⟨p, 0, none⟩ = some (.slice o0 l0 c0)) (e1 : W.cell? ⟨p, 1, none⟩ = some (.bool b0)) : Rn15 p base oy ly cy D w ((W.setCell ⟨p, 0, none⟩ (.slice o l c)).setCell ⟨p, 1, none⟩ (.bool b)) := by
  have h1 := h.o1
  have h2 := h.o2
  have h3 := h.o3
  have r0 := h.r0
  have r1 := h.r1
  have ne : w.heap.size + 2 ≠ p := by omega
  refine ⟨by simp [go_sem, r0, ne], by simp [go_sem, r1, ne], fun i => by simpa [go_sem] using h.rf i, fun k hk => ?_, BigV.set2 h.y ⟨_, _, _, e0⟩ ⟨_, e1⟩ h.pn _ _, h.yb, fun i => by simpa [go_sem] using h.pf i, fun k hk => ?_, h1, h2, by simpa [go_sem] using h3, (h.bel.setCell (p := ⟨p, 0, none⟩) (show w.heap.size ≤ p by omega) _).setCell (p := ⟨p, 1, none⟩) (show w.heap.size ≤ p by omega) _⟩
  · have := h.rn k hk
    simp [go_sem, this, ne]
  · have := h.pn k hk
    have k0 : k ≠ 0 := by omega
    have k1 : k ≠ 1 := by omega
    simp [go_sem, this, k0, k1]
theorem Lf15.below {ao : Option Addr} {l c K : Nat} {z : Int} (h : Lf15 p ao l c z K W) (hp : p < W.heap.size) (hb : Below W.heap.size W W') : Lf15 p ao l c z K W' :=
  ⟨(hb.cell (p := ⟨p, 0, none⟩) hp).trans h.c0, (hb.cell (p := ⟨p, 1, none⟩) hp).trans h.c1, h.v.below hb⟩
theorem Lf15.grown {ao : Option Addr} {l c K : Nat} {z : Int} (h : Lf15 p ao l c z K W) (hp : p < W.heap.size) {row : Option Nat} (hg : W.grownBy W' row) (hr : some p ≠ row) (ha : ∀ b off, ao = some ⟨b, off, none⟩ → some b ≠ row) : Lf15 p ao l c z K W' :=
  ⟨(cell_grown hg hp hr).trans h.c0, (cell_grown hg hp hr).trans h.c1, big_grown hg h.v ha⟩
end
/-- The first k of a sequence of ints, as a row keeps them. -/
def seqL (f : Nat → Int) (k : Nat) : List Nat := (List.range k).map fun i => nof (f i)
theorem seqL_len (f : Nat → Int) (k : Nat) : (seqL f k).length = k := by simp [seqL]
theorem seqL_succ (f : Nat → Int) (k : Nat) : seqL f (k + 1) = seqL f k ++ [nof (f k)] := by simp [seqL, List.range_succ]
theorem seqL_get (f : Nat → Int) (k i : Nat) (h : i < k) : dg (seqL f k) i = nof (f i) := by simp [dg, seqL, h]

set_option maxHeartbeats 8000000 in
theorem run15_walk (n d L by_ X D row steps : Nat) (lf dj : Nat → Int) (hL : Go.bitLen d = L) (hby : IntKind.i64.wrap (128 - ((L : Nat) : Int)) = ((by_ : Nat) : Int)) (hby2 : by_ ≤ 128) (hX : n * 2 ^ by_ = X) (hD : d * 2 ^ by_ = D) (hrow : D / 2 ^ 124 = row) (h8 : 8 ≤ row) (h15 : row ≤ 15) (hst : steps ≤ 65)
    (h0 : lf 0 = (X : Int)) (hs : Hid (∀ j, j < 65 → lf (j + 1) = lf j - dj j * ((D * 2 ^ (2 * (64 - j)) : Nat) : Int))) (hd2 : Hid (∀ j, j < 65 → -2 ≤ dj j ∧ dj j ≤ 2))
    (HBN : Hid (∀ w, Calls Tryd.prog 16 #[.agg #[.int .u64 (dgl (n) 0 : Nat), .int .u64 (dgl (n) 1 : Nat), .int .u64 (dgl (n) 2 : Nat), .int .u64 (dgl (n) 3 : Nat), .int .u64 (dgl (n) 4 : Nat), .int .u64 (dgl (n) 5 : Nat), .int .u64 (dgl (n) 6 : Nat), .int .u64 (dgl (n) 7 : Nat)]] w fun e w' => ∃ v, e = .returned v ∧ BigV w' v n 40 ∧ Below w.heap.size w w'))
    (HBD : Hid (∀ w, Calls Tryd.prog 16 #[.agg #[.int .u64 (dgl (d) 0 : Nat), .int .u64 (dgl (d) 1 : Nat), .int .u64 (dgl (d) 2 : Nat), .int .u64 (dgl (d) 3 : Nat), .int .u64 (dgl (d) 4 : Nat), .int .u64 (dgl (d) 5 : Nat), .int .u64 (dgl (d) 6 : Nat), .int .u64 (dgl (d) 7 : Nat)]] w fun e w' => ∃ v, e = .returned v ∧ BigV w' v d 40 ∧ Below w.heap.size w w'))
    (HBO : Hid (∀ w, Calls Tryd.prog 39 #[.int .i64 (row : Nat)] w fun e w' => e = .returned (.agg #[.int .i64 (tabN (row : Nat) 0), .int .i64 (tabN (row : Nat) 1), .int .i64 (tabN (row : Nat) 2), .int .i64 (tabN (row : Nat) 3)]) ∧ Below w.heap.size w w'))
    (HDN : Hid (∀ j, j < 65 → ∀ K v w, BigV w v (lf j).natAbs K → K ≤ 1000 → Calls Tryd.prog 40 #[.agg #[v, .bool (decide (lf j < 0))], .int .i64 ((124 + 2 * (64 - j) : Nat) : Int)] w fun e w' => e = .returned (.int .i64 (lf j / 2 ^ (124 + 2 * (64 - j)))) ∧ Below w.heap.size w w'))
    (HDG : Hid (∀ j, j < 65 → ∀ w, Calls Tryd.prog 38 #[.agg #[.int .i64 (tabN (row : Nat) 0), .int .i64 (tabN (row : Nat) 1), .int .i64 (tabN (row : Nat) 2), .int .i64 (tabN (row : Nat) 3)], .int .i64 (lf j / 2 ^ (124 + 2 * (64 - j)))] w fun e w' => e = .returned (.int .i64 (dj j)) ∧ Below w.heap.size w w')) (w : World) :
    Calls Tryd.prog 12 #[.agg #[.int .u64 (dgl (n) 0 : Nat), .int .u64 (dgl (n) 1 : Nat), .int .u64 (dgl (n) 2 : Nat), .int .u64 (dgl (n) 3 : Nat), .int .u64 (dgl (n) 4 : Nat), .int .u64 (dgl (n) 5 : Nat), .int .u64 (dgl (n) 6 : Nat), .int .u64 (dgl (n) 7 : Nat)], .agg #[.int .u64 (dgl (d) 0 : Nat), .int .u64 (dgl (d) 1 : Nat), .int .u64 (dgl (d) 2 : Nat), .int .u64 (dgl (d) 3 : Nat), .int .u64 (dgl (d) 4 : Nat), .int .u64 (dgl (d) 5 : Nat), .int .u64 (dgl (d) 6 : Nat), .int .u64 (dgl (d) 7 : Nat)], .int .i64 (steps : Nat)] w fun e w' => ∃ v vl, e = .returned (.tuple #[v, .agg #[vl, .bool (decide (lf steps < 0))]]) ∧ Rd mkZ w' v (seqL dj steps) ∧ BigV w' vl (lf steps).natAbs 200 ∧ Below w.heap.size w w' := by
  obtain ⟨i0, hi, hz0, hz1, hz2⟩ := info_parts int_infoZ
  have hbw1 := below_allocs w (.cells #[.int .u64 (dgl (n) 0 : Nat), .int .u64 (dgl (n) 1 : Nat), .int .u64 (dgl (n) 2 : Nat), .int .u64 (dgl (n) 3 : Nat), .int .u64 (dgl (n) 4 : Nat), .int .u64 (dgl (n) 5 : Nat), .int .u64 (dgl (n) 6 : Nat), .int .u64 (dgl (n) 7 : Nat)] 24)
  have HF : Hid (∀ W, W = ((w.alloc (.cells #[.int .u64 (dgl (n) 0 : Nat), .int .u64 (dgl (n) 1 : Nat), .int .u64 (dgl (n) 2 : Nat), .int .u64 (dgl (n) 3 : Nat), .int .u64 (dgl (n) 4 : Nat), .int .u64 (dgl (n) 5 : Nat), .int .u64 (dgl (n) 6 : Nat), .int .u64 (dgl (n) 7 : Nat)] 24)).alloc (.cells #[.int .u64 (dgl (d) 0 : Nat), .int .u64 (dgl (d) 1 : Nat), .int .u64 (dgl (d) 2 : Nat), .int .u64 (dgl (d) 3 : Nat), .int .u64 (dgl (d) 4 : Nat), .int .u64 (dgl (d) 5 : Nat), .int .u64 (dgl (d) 6 : Nat), .int .u64 (dgl (d) 7 : Nat)] 24)).alloc (.cells #[.slice none 0 0, .bool false] 38) → LiesF W w.heap.size (dgl n) ∧ LiesF W (w.heap.size + 1) (dgl d) ∧ Rz15 w W) := by
    rintro W rfl
    have h2 := liesF_new (w.alloc (.cells #[.int .u64 (dgl (n) 0 : Nat), .int .u64 (dgl (n) 1 : Nat), .int .u64 (dgl (n) 2 : Nat), .int .u64 (dgl (n) 3 : Nat), .int .u64 (dgl (n) 4 : Nat), .int .u64 (dgl (n) 5 : Nat), .int .u64 (dgl (n) 6 : Nat), .int .u64 (dgl (n) 7 : Nat)] 24)) (dgl d) 24
    rw [World.size_alloc] at h2
    refine ⟨((liesF_new w (dgl n) _).alloc _).alloc _, h2.alloc _, by simp [go_sem], by simp [go_sem], fun i => by simp [go_sem], fun k hk => ?_, by simp, below_trans (below_trans (below_allocs _ _) (below_allocs _ _)) (below_allocs _ _)⟩
    match k, hk with
    | k + 2, _ => simp [go_sem]
  clear hbw1
  go_enter Tryd.func12, Tryd.ntmps12
  go_upto_region 1 with fail
  refine wp_gen (fun W => LiesF W w.heap.size (dgl n) ∧ LiesF W (w.heap.size + 1) (dgl d) ∧ Rz15 w W) (HF.out _ rfl) ?_
  clear HF
  rintro W1 h1
  have HF := hide h1
  clear h1
  refine wp_region_grow 6 [(18, .val (.agg #[.int .u64 (dgl (n) 0 : Nat), .int .u64 (dgl (n) 1 : Nat), .int .u64 (dgl (n) 2 : Nat), .int .u64 (dgl (n) 3 : Nat), .int .u64 (dgl (n) 4 : Nat), .int .u64 (dgl (n) 5 : Nat), .int .u64 (dgl (n) 6 : Nat), .int .u64 (dgl (n) 7 : Nat)])), (19, .big n 40), (20, .val (.agg #[.int .u64 (dgl (d) 0 : Nat), .int .u64 (dgl (d) 1 : Nat), .int .u64 (dgl (d) 2 : Nat), .int .u64 (dgl (d) 3 : Nat), .int .u64 (dgl (d) 4 : Nat), .int .u64 (dgl (d) 5 : Nat), .int .u64 (dgl (d) 6 : Nat), .int .u64 (dgl (d) 7 : Nat)])), (21, .big d 40), (8, .big n 40), (9, .big d 40)]
    (fun W => LiesF W w.heap.size (dgl n) ∧ LiesF W (w.heap.size + 1) (dgl d) ∧ Rz15 w W) mixedOk (by kernel_rfl) (by kernel_rfl) (⟨HF.out.1.below ((Below.refl _ _).drew), HF.out.2.1.below ((Below.refl _ _).drew), HF.out.2.2.below ((Below.refl _ _).drew)⟩) (fun W W' h hb => ⟨h.1.below hb, h.2.1.below hb, h.2.2.below hb⟩) ?_ ?_
  · refine gSt (gStep_run rfl ?_) ?_
    · intro ρ W hC hc hf hL
      have e3 : ρ (.tmp 3) = .pointer (some ⟨w.heap.size, 0, none⟩) := hL 3 (by decide +kernel)
      have hl := hC.1.1
      simp [go_sem, hc, hf, e3, hl]
      exact ⟨Below.refl _ _, rfl⟩
    refine gSt (gStep_run rfl ?_) ?_
    · intro ρ W hC hc hf hL
      have e18 : ρ (.tmp 18) = .agg #[.int .u64 (dgl (n) 0 : Nat), .int .u64 (dgl (n) 1 : Nat), .int .u64 (dgl (n) 2 : Nat), .int .u64 (dgl (n) 3 : Nat), .int .u64 (dgl (n) 4 : Nat), .int .u64 (dgl (n) 5 : Nat), .int .u64 (dgl (n) 6 : Nat), .int .u64 (dgl (n) 7 : Nat)] := hL 18 (by decide +kernel)
      simp [go_sem, hc, hf, e18]
      refine (HBN.out W).mono ?_
      rintro e w' ⟨v, rfl, hv, hb⟩
      exact ⟨_, rfl, hb, hv⟩
    refine gSt (gStep_run rfl ?_) ?_
    · intro ρ W hC hc hf hL
      have e4 : ρ (.tmp 4) = .pointer (some ⟨w.heap.size + 1, 0, none⟩) := hL 4 (by decide +kernel)
      have hl := hC.2.1.1
      simp [go_sem, hc, hf, e4, hl]
      exact ⟨Below.refl _ _, rfl⟩
    refine gSt (gStep_run rfl ?_) ?_
    · intro ρ W hC hc hf hL
      have e20 : ρ (.tmp 20) = .agg #[.int .u64 (dgl (d) 0 : Nat), .int .u64 (dgl (d) 1 : Nat), .int .u64 (dgl (d) 2 : Nat), .int .u64 (dgl (d) 3 : Nat), .int .u64 (dgl (d) 4 : Nat), .int .u64 (dgl (d) 5 : Nat), .int .u64 (dgl (d) 6 : Nat), .int .u64 (dgl (d) 7 : Nat)] := hL 20 (by decide +kernel)
      simp [go_sem, hc, hf, e20]
      refine (HBD.out W).mono ?_
      rintro e w' ⟨v, rfl, hv, hb⟩
      exact ⟨_, rfl, hb, hv⟩
    refine gSt (gStep_run rfl (gRun_move 19 8 (.inr rfl) rfl (by decide +kernel) (fun v w h => h))) ?_
    refine gSt (gStep_run rfl (gRun_move 21 9 (.inr rfl) rfl (by decide +kernel) (fun v w h => h))) ?_
    exact gSt0
  · intro W hC
    refine gFi 18 rfl ?_
    rintro _ rfl
    refine gFi 19 rfl ?_
    rintro u19 b19
    refine gFi 20 rfl ?_
    rintro _ rfl
    refine gFi 21 rfl ?_
    rintro u21 b21
    refine gFi 8 rfl ?_
    rintro u8 b8
    refine gFi 9 rfl ?_
    rintro u9 b9
    refine gFi0 ?_
    simp only [List.drop_succ_cons, List.drop_zero, Act.put, List.setIfInBounds_toArray, List.set_cons_succ, List.set_cons_zero]
    obtain ⟨o8, l8, c8, rfl⟩ := bgs_slice b8
    obtain ⟨o9, l9, c9, rfl⟩ := bgs_slice b9
    have HX := hide b8
    have HY := hide b9
    have HS := hide hC.2.2
    clear hC b8 b9 b19 b21 HF HBN HBD
    have HLN := hide (refLen_any d 40 _ _ HY.out (by decide))
    rw [hL] at HLN
    have HSX := hide (refShl_any n 40 by_ _ _ HX.out (by decide) (by omega))
    rw [hX] at HSX
    go_wp2_with fail
    refine HLN.out.mono ?_
    rintro e w2 ⟨rfl, hw⟩
    subst w2
    clear HLN
    go_wp2_with fail
    refine HSX.out.mono ?_
    rintro e w3 ⟨v3, rfl, hv3, hb3⟩
    obtain ⟨o3, l3, c3, rfl⟩ := bgs_slice hv3
    replace HS := hide (HS.out.below hb3)
    replace HY := hide (HY.out.below hb3)
    have HV3 := hide hv3
    clear HSX HX hb3 hv3
    have hl0 : decide (lf 0 < 0) = false := decide_eq_false (by omega)
    have hn0 : (lf 0).natAbs = X := by omega
    have hbw := below_allocs w3 (.cells #[.slice o3 l3 c3, .bool false] 38)
    have HG : Hid (Rz15 w (w3.alloc (.cells #[.slice o3 l3 c3, .bool false] 38)) ∧ Lf15 w3.heap.size o3 l3 c3 (lf 0) 60 (w3.alloc (.cells #[.slice o3 l3 c3, .bool false] 38)) ∧ (∀ i, (w3.alloc (.cells #[.slice o3 l3 c3, .bool false] 38)).frozen? ⟨w3.heap.size, i, none⟩ = false) ∧ (∀ k, 2 ≤ k → (w3.alloc (.cells #[.slice o3 l3 c3, .bool false] 38)).cell? ⟨w3.heap.size, k, none⟩ = none) ∧ BigV (w3.alloc (.cells #[.slice o3 l3 c3, .bool false] 38)) (.slice o9 l9 c9) d 40 ∧ w3.heap.size < (w3.alloc (.cells #[.slice o3 l3 c3, .bool false] 38)).heap.size) := by
      refine ⟨HS.out.below hbw, ⟨by simp [go_sem], by rw [hl0]; simp [go_sem], by rw [hn0]; exact (HV3.out.below hbw).mono (by omega)⟩, fun i => by simp [go_sem], fun k hk => ?_, HY.out.below hbw, by simp⟩
      match k, hk with
      | k + 2, _ => simp [go_sem]
    go_upto_region 4 with fail
    refine wp_gen (fun W => Rz15 w W ∧ Lf15 w3.heap.size o3 l3 c3 (lf 0) 60 W ∧ (∀ i, W.frozen? ⟨w3.heap.size, i, none⟩ = false) ∧ (∀ k, 2 ≤ k → W.cell? ⟨w3.heap.size, k, none⟩ = none) ∧ BigV W (.slice o9 l9 c9) d 40 ∧ w3.heap.size < W.heap.size) HG.out ?_
    have HO1 := hide HS.out.lt
    clear HG HS HY HV3 hbw
    generalize w3.heap.size = p at *
    rintro W4 h4
    have HS := hide h4
    clear h4
    have HSY := hide (refShl_any d 40 by_ _ _ HS.out.2.2.2.2.1 (by decide) (by omega))
    rw [hD] at HSY
    go_wp2_with fail
    refine HSY.out.mono ?_
    rintro e w5 ⟨v5, rfl, hv5, hb5⟩
    obtain ⟨o4, l4, c4, rfl⟩ := bgs_slice hv5
    have HY := hide (hv5.mono (show _ ≤ 45 by omega))
    have hup : ∀ {V V' : World}, Below V.heap.size V V' → (Rz15 w V ∧ Lf15 p o3 l3 c3 (lf 0) 60 V ∧ (∀ i, V.frozen? ⟨p, i, none⟩ = false) ∧ (∀ k, 2 ≤ k → V.cell? ⟨p, k, none⟩ = none) ∧ p < V.heap.size) → (Rz15 w V' ∧ Lf15 p o3 l3 c3 (lf 0) 60 V' ∧ (∀ i, V'.frozen? ⟨p, i, none⟩ = false) ∧ (∀ k, 2 ≤ k → V'.cell? ⟨p, k, none⟩ = none) ∧ p < V'.heap.size) := fun hb h => ⟨h.1.below hb, h.2.1.below h.2.2.2.2 hb, fun i => (hb.frozen (p := ⟨p, i, none⟩) h.2.2.2.2).trans (h.2.2.1 i), fun k hk => (hb.cell (p := ⟨p, k, none⟩) h.2.2.2.2).trans (h.2.2.2.1 k hk), Nat.lt_of_lt_of_le h.2.2.2.2 hb.size⟩
    have HS5 := hide (hup hb5 ⟨HS.out.1, HS.out.2.1, HS.out.2.2.1, HS.out.2.2.2.1, HS.out.2.2.2.2.2⟩)
    clear HS HSY hv5 hb5
    have HSR := hide (refShr_any D 45 124 _ _ HY.out (by decide) (by decide))
    rw [hrow] at HSR
    go_wp2_with fail
    refine HSR.out.mono ?_
    rintro e w6 ⟨v6, rfl, hv6, hb6⟩
    replace HS5 := hide (hup hb6 HS5.out)
    replace HY := hide (HY.out.below hb6)
    obtain ⟨lr, ⟨ro, rc, rfl, hrc, hrm, hrx⟩, hrd, -, hrk⟩ := hv6
    have hlen : 0 < lr.length := by
      rcases Nat.eq_zero_or_pos lr.length with h | h
      · have h1 := hrd.1
        rw [h, Nat.pow_zero] at h1
        omega
      · exact h
    have hd0 : dg lr 0 = row := by
      have h1 := hrd.2 0
      rw [Nat.pow_zero, Nat.div_one] at h1
      rw [h1]
      exact Nat.mod_eq_of_lt (show row < 4294967296 by omega)
    obtain ⟨b, off, rfl, hbl, hcell⟩ : ∃ b off, ro = some ⟨b, off, none⟩ ∧ b < w6.heap.size ∧ ∀ i, i < lr.length → w6.cell? ⟨b, off + i, none⟩ = some (mk32 (dg lr i)) := by
      rcases hrx with h | h
      · omega
      · exact h
    have hck : w6.cell? ⟨b, off, none⟩ = some (.int .u32 (row : Nat)) := by
      have h := hcell 0 hlen
      rw [Nat.add_zero, hd0] at h
      exact h
    have hlr : (0 : Int) < (lr.length : Int) := by omega
    have hrm2 : rc ≤ 9223372036854775807 := by unfold maxLen at hrm; omega
    obtain ⟨base, hbase⟩ : ∃ base, w6.heap.size = base := ⟨_, rfl⟩
    have HD0 := hide (show D ≠ 0 by
      intro h
      rw [h, Nat.zero_div] at hrow
      omega)
    have HRN : Hid (Rn15 p base o4 l4 c4 D w w6) := by
      have g := HS5.out
      refine ⟨g.1.r0, g.1.r1, g.1.rf, g.1.rn, HY.out, fun b off e => ?_, g.2.2.1, g.2.2.2.1, HO1.out, by rw [← hbase]; exact g.2.2.2.2, by omega, g.1.bel⟩
      subst e
      rw [← hbase]
      exact big_lt HY.out HD0.out
    have HLF := hide HS5.out.2.1
    clear hcell hrx hrd hd0 hb6 HSR HY HS5 hup hbl hbase HO1
    go_wp2
    go_loopw [13, 14] (fun vo i wr => ∃ (j : Nat) (ao : Option Addr) (l c : Nat), j ≤ steps ∧ i = .int .i64 j ∧ Hid (Rn15 p base o4 l4 c4 D w wr) ∧ Hid (Lf15 p ao l c (lf j) (60 + j) wr) ∧ Hid (wr.ownsRow base 3 1 vo j ((seqL dj j).map mkZ)) ∧ Hid (∀ g, vo.ownBlock = some g → ∀ b off, ao = some ⟨b, off, none⟩ → b ≠ g))
      (fun _ i _ => steps - (intOf i).toNat)
    case atStart => exact ⟨0, o3, l3, c3, by omega, rfl, HRN, HLF, World.ownsRow_nil _ _ _ _, fun g hg => by simp [Value.ownBlock] at hg⟩
    case round =>
      clear HRN HLF
      obtain ⟨j, ao, l, c, hj, rfl, HRN, HLF, HOWN, HAP⟩ := hrel
      by_cases hlt : j < steps
      · have hj65 : j < 65 := by omega
        have hjs : (j : Int) < (steps : Int) := by omega
        obtain ⟨oo, lo, co, rfl⟩ := owns_slice HOWN.out
        obtain ⟨pl, hpl⟩ : ∃ pl, 64 - j = pl := ⟨_, rfl⟩
        obtain ⟨p2, hp2e⟩ : ∃ p2, 2 * pl = p2 := ⟨_, rfl⟩
        obtain ⟨p3, hp3e⟩ : ∃ p3, 124 + p2 = p3 := ⟨_, rfl⟩
        have hplw : IntKind.i64.wrap (64 - (j : Int)) = ((pl : Nat) : Int) := by rw [IntKind.wrap_i64]; omega
        have hp2 : IntKind.i64.wrap (2 * ((pl : Nat) : Int)) = ((p2 : Nat) : Int) := by rw [IntKind.wrap_i64]; omega
        have hp3 : IntKind.i64.wrap (124 + ((p2 : Nat) : Int)) = ((p3 : Nat) : Int) := by rw [IntKind.wrap_i64]; omega
        have HP2 := hide (show p2 ≤ 128 by omega)
        obtain ⟨k, hk⟩ : ∃ k, dj j = k := ⟨_, rfl⟩
        have hkb := hd2.out j hj65
        rw [hk] at hkb
        obtain ⟨m, hm⟩ : ∃ m, k.natAbs = m := ⟨_, rfl⟩
        have HM2 := hide (show m < 18446744073709551616 by omega)
        have hnk : IntKind.i64.wrap (-k) = -k := by rw [IntKind.wrap_i64]; omega
        have hmx : IntKind.u64.wrap (max k (-k)) = ((m : Nat) : Int) := by rw [IntKind.wrap_u64]; omega
        have HMK := hide hm
        have HKJ := hide hk
        have HKZ : Hid (Value.int .i64 k = mkZ (nof k)) := (mkZ_nof (by omega)).symm
        obtain ⟨yq, hyq⟩ : ∃ yq, lf j / 2 ^ (124 + 2 * (64 - j)) = yq := ⟨_, rfl⟩
        obtain ⟨bz, hbz⟩ : ∃ bz, decide (lf j < 0) = bz := ⟨_, rfl⟩
        obtain ⟨za, hza⟩ : ∃ za, (lf j).natAbs = za := ⟨_, rfl⟩
        have HBZ := hide hbz
        have HZA := hide hza
        have HDNj : Hid (∀ W, BigV W (.slice ao l c) za (60 + j) → Calls Tryd.prog 40 #[.agg #[.slice ao l c, .bool bz], .int .i64 ((p3 : Nat) : Int)] W fun e w' => e = .returned (.int .i64 yq) ∧ Below W.heap.size W w') := fun W h => by
          have g := HDN.out j hj65 (60 + j) (.slice ao l c) W (by rw [hza]; exact h) (by omega)
          rw [hbz, hyq, hpl, hp2e, hp3e] at g
          exact g
        have HDGj : Hid (∀ W, Calls Tryd.prog 38 #[.agg #[.int .i64 (tabN ((row : Nat) : Int) 0), .int .i64 (tabN ((row : Nat) : Int) 1), .int .i64 (tabN ((row : Nat) : Int) 2), .int .i64 (tabN ((row : Nat) : Int) 3)], .int .i64 yq] W fun e w' => e = .returned (.int .i64 k) ∧ Below W.heap.size W w') := fun W => by
          have g := HDG.out j hj65 W
          rw [hyq, hk] at g
          exact g
        have HLN : Hid (lf j - k * ((D * 2 ^ p2 : Nat) : Int) = lf (j + 1)) := by
          apply hide
          rw [hs.out j hj65, hk, hpl, hp2e]
        have HKD : Hid (decide (k * ((D * 2 ^ p2 : Nat) : Int) < 0) = decide (k < 0)) := by
          apply hide
          have hpos : (0 : Int) < ((D * 2 ^ p2 : Nat) : Int) := by
            have := Nat.mul_pos (Nat.pos_of_ne_zero HD0.out) (Nat.two_pow_pos p2)
            omega
          generalize ((D * 2 ^ p2 : Nat) : Int) = X at *
          rcases (show k < 0 ∨ 0 ≤ k by omega) with h | h
          · rw [decide_eq_true h, decide_eq_true (Int.mul_neg_of_neg_of_pos h hpos)]
          · rw [decide_eq_false (Int.not_lt.2 (Int.mul_nonneg h (by omega))), decide_eq_false (show ¬ k < 0 by omega)]
        have HST : Hid (Rn15 p base o4 l4 c4 D w wr ∧ (wr.cell? ⟨p, 0, none⟩ = some (.slice ao l c) ∧ wr.cell? ⟨p, 1, none⟩ = some (.bool bz) ∧ BigV wr (.slice ao l c) za (60 + j)) ∧ wr.ownsRow base 3 1 (.slice oo lo co) j ((seqL dj j).map mkZ)) := ⟨HRN.out, ⟨HLF.out.c0, by rw [← hbz]; exact HLF.out.c1, by rw [← hza]; exact HLF.out.v⟩, HOWN.out⟩
        replace HAP : Hid (∀ g, (Value.slice oo lo co).ownBlock = some g → ∀ b off, ao = some ⟨b, off, none⟩ → b ≠ g) := HAP
        clear HRN HLF HOWN hk hm hyq hbz hza hpl hp2e hp3e hj65
        have hk1 := hkb.1
        have hk2 := hkb.2
        go_upto_region 11 with fail
        refine wp_region_grow 9 [(44, .val (.int .i64 ((row : Nat) : Int))), (45, .val (.agg #[.int .i64 (tabN ((row : Nat) : Int) 0), .int .i64 (tabN ((row : Nat) : Int) 1), .int .i64 (tabN ((row : Nat) : Int) 2), .int .i64 (tabN ((row : Nat) : Int) 3)])), (46, .val (.agg #[.slice ao l c, .bool bz])), (47, .val (.int .i64 ((pl : Nat) : Int))), (48, .val (.int .i64 ((p2 : Nat) : Int))), (49, .val (.int .i64 ((p3 : Nat) : Int))), (50, .val (.int .i64 yq)), (51, .val (.int .i64 k)), (16, .val (.int .i64 k))]
          (fun W => Rn15 p base o4 l4 c4 D w W ∧ (W.cell? ⟨p, 0, none⟩ = some (.slice ao l c) ∧ W.cell? ⟨p, 1, none⟩ = some (.bool bz) ∧ BigV W (.slice ao l c) za (60 + j)) ∧ W.ownsRow base 3 1 (.slice oo lo co) j ((seqL dj j).map mkZ)) mixedOk (by kernel_rfl) (by kernel_rfl) (⟨HST.out.1.below ((Below.refl _ _).drew), ⟨(Below.cell ((Below.refl _ _).drew) (p := ⟨p, 0, none⟩) (show p < _ by have := HST.out.1.o2; have := HST.out.1.o3; omega)).trans HST.out.2.1.1, (Below.cell ((Below.refl _ _).drew) (p := ⟨p, 1, none⟩) (show p < _ by have := HST.out.1.o2; have := HST.out.1.o3; omega)).trans HST.out.2.1.2.1, HST.out.2.1.2.2.below ((Below.refl _ _).drew)⟩, ownsZ_below HST.out.2.2 ((Below.refl _ _).drew)⟩) (fun W W' h hb => ⟨h.1.below hb, ⟨(Below.cell hb (p := ⟨p, 0, none⟩) (show p < _ by have := h.1.o2; have := h.1.o3; omega)).trans h.2.1.1, (Below.cell hb (p := ⟨p, 1, none⟩) (show p < _ by have := h.1.o2; have := h.1.o3; omega)).trans h.2.1.2.1, h.2.1.2.2.below hb⟩, ownsZ_below h.2.2 hb⟩) ?_ ?_
        · refine gSt (gStep_run rfl (gRun_move 12 44 (.inl rfl) rfl (by decide +kernel) (fun v w h => h))) ?_
          refine gSt (gStep_run rfl ?_) ?_
          · intro ρ W hC hc hf hL
            have e44 : ρ (.tmp 44) = .int .i64 ((row : Nat) : Int) := hL 44 (by decide +kernel)
            simp [go_sem, hc, hf, e44]
            refine (HBO.out W).mono ?_
            rintro e w' ⟨rfl, hb⟩
            exact ⟨_, rfl, by first | exact hb | (subst hb; exact Below.refl _ _), rfl⟩
          refine gSt (gStep_run rfl ?_) ?_
          · intro ρ W hC hc hf hL
            have e11 : ρ (.tmp 11) = .pointer (some ⟨p, 0, none⟩) := hL 11 (by decide +kernel)
            have lc0 := hC.2.1.1
            have lc1 := hC.2.1.2.1
            simp [go_sem, hc, hf, e11, lc0, lc1]
            exact ⟨Below.refl _ _, rfl⟩
          refine gSt (gStep_run rfl (gRun_move 15 47 (.inl rfl) rfl (by decide +kernel) (fun v w h => h))) ?_
          refine gSt (gStep_run rfl ?_) ?_
          · intro ρ W hC hc hf hL
            have e47 : ρ (.tmp 47) = .int .i64 ((pl : Nat) : Int) := hL 47 (by decide +kernel)
            simp [go_sem, hc, hf, e47, hp2]
            exact ⟨Below.refl _ _, rfl⟩
          refine gSt (gStep_run rfl ?_) ?_
          · intro ρ W hC hc hf hL
            have e48 : ρ (.tmp 48) = .int .i64 ((p2 : Nat) : Int) := hL 48 (by decide +kernel)
            simp [go_sem, hc, hf, e48, hp3]
            exact ⟨Below.refl _ _, rfl⟩
          refine gSt (gStep_run rfl ?_) ?_
          · intro ρ W hC hc hf hL
            have e46 : ρ (.tmp 46) = .agg #[.slice ao l c, .bool bz] := hL 46 (by decide +kernel)
            have e49 : ρ (.tmp 49) = .int .i64 ((p3 : Nat) : Int) := hL 49 (by decide +kernel)
            simp [go_sem, hc, hf, e46, e49]
            refine (HDNj.out W hC.2.1.2.2).mono ?_
            rintro e w' ⟨rfl, hb⟩
            exact ⟨_, rfl, by first | exact hb | (subst hb; exact Below.refl _ _), rfl⟩
          refine gSt (gStep_run rfl ?_) ?_
          · intro ρ W hC hc hf hL
            have e45 : ρ (.tmp 45) = .agg #[.int .i64 (tabN ((row : Nat) : Int) 0), .int .i64 (tabN ((row : Nat) : Int) 1), .int .i64 (tabN ((row : Nat) : Int) 2), .int .i64 (tabN ((row : Nat) : Int) 3)] := hL 45 (by decide +kernel)
            have e50 : ρ (.tmp 50) = .int .i64 yq := hL 50 (by decide +kernel)
            simp [go_sem, hc, hf, e45, e50]
            refine (HDGj.out W).mono ?_
            rintro e w' ⟨rfl, hb⟩
            exact ⟨_, rfl, by first | exact hb | (subst hb; exact Below.refl _ _), rfl⟩
          refine gSt (gStep_run rfl (gRun_move 51 16 (.inr rfl) rfl (by decide +kernel) (fun v w h => h))) ?_
          exact gSt0
        · intro W hC
          refine gFi 44 rfl ?_
          rintro _ rfl
          refine gFi 45 rfl ?_
          rintro _ rfl
          refine gFi 46 rfl ?_
          rintro _ rfl
          refine gFi 47 rfl ?_
          rintro _ rfl
          refine gFi 48 rfl ?_
          rintro _ rfl
          refine gFi 49 rfl ?_
          rintro _ rfl
          refine gFi 50 rfl ?_
          rintro _ rfl
          refine gFi 51 rfl ?_
          rintro _ rfl
          refine gFi 16 rfl ?_
          rintro _ rfl
          refine gFi0 ?_
          simp only [List.drop_succ_cons, List.drop_zero, Act.put, List.setIfInBounds_toArray, List.set_cons_succ, List.set_cons_zero]
          have HS11 := hide hC
          clear hC HST
          have HPB := hide (show p < base ∧ base ≤ W.heap.size from ⟨HS11.out.1.o2, HS11.out.1.o3⟩)
          go_wp2_with (at_builtin; (refine wpList_appG W rfl _ _ 31 rfl base 3 i0 (.int .i64 0) 8 Tryd.underlying31 hi hz0 hz1 hz2 rfl mkZ _ j (seqL dj j) (by rfl) HS11.out.2.2 _ (nof k) HKZ.out rfl (by rfl) (by omega) (by omega) HPB.out.2 ?_); intro v' wn hown1 hg1)
          have HROW : Hid (∀ g, (Value.slice oo lo co).ownBlock = some g → base ≤ g) := fun g hg => (HS11.out.2.2.lt g hg).1
          have HRn := hide (HS11.out.1.grown hg1 HROW.out)
          have hpne : some p ≠ (Value.slice oo lo co).ownBlock := fun e => by have := HROW.out p e.symm; have := HPB.out.1; omega
          have HLf : Hid (wn.cell? ⟨p, 0, none⟩ = some (.slice ao l c) ∧ wn.cell? ⟨p, 1, none⟩ = some (.bool bz) ∧ BigV wn (.slice ao l c) za (60 + j)) :=
            ⟨(cell_grown hg1 (by have := HPB.out; omega) hpne).trans HS11.out.2.1.1, (cell_grown hg1 (by have := HPB.out; omega) hpne).trans HS11.out.2.1.2.1, big_grown hg1 HS11.out.2.1.2.2 fun b off e e2 => HAP.out b e2.symm b off e rfl⟩
          have HOW := hide hown1
          clear HS11 hg1 hpne hown1 HAP HROW
          have HSM := hide (fun w => small_any m HM2.out w)
          have hup : ∀ {V V' : World} {vo : Value}, Below V.heap.size V V' → (Rn15 p base o4 l4 c4 D w V ∧ (V.cell? ⟨p, 0, none⟩ = some (.slice ao l c) ∧ V.cell? ⟨p, 1, none⟩ = some (.bool bz) ∧ BigV V (.slice ao l c) za (60 + j)) ∧ V.ownsRow base 3 1 vo (j + 1) ((seqL dj j ++ [nof k]).map mkZ)) → (Rn15 p base o4 l4 c4 D w V' ∧ (V'.cell? ⟨p, 0, none⟩ = some (.slice ao l c) ∧ V'.cell? ⟨p, 1, none⟩ = some (.bool bz) ∧ BigV V' (.slice ao l c) za (60 + j)) ∧ V'.ownsRow base 3 1 vo (j + 1) ((seqL dj j ++ [nof k]).map mkZ)) := fun hb h => ⟨h.1.below hb, ⟨(Below.cell hb (p := ⟨p, 0, none⟩) (show p < _ by have := h.1.o2; have := h.1.o3; omega)).trans h.2.1.1, (Below.cell hb (p := ⟨p, 1, none⟩) (show p < _ by have := h.1.o2; have := h.1.o3; omega)).trans h.2.1.2.1, h.2.1.2.2.below hb⟩, ownsZ_below h.2.2 hb⟩
          have HA := hide (show _ from (⟨HRn.out, HLf.out, HOW.out⟩ : Rn15 p base o4 l4 c4 D w wn ∧ (wn.cell? ⟨p, 0, none⟩ = some (.slice ao l c) ∧ wn.cell? ⟨p, 1, none⟩ = some (.bool bz) ∧ BigV wn (.slice ao l c) za (60 + j)) ∧ wn.ownsRow base 3 1 v' (j + 1) ((seqL dj j ++ [nof k]).map mkZ)))
          clear HRn HLf HOW
          go_wp2_with fail
          refine (HSM.out _).mono ?_
          rintro e w1 ⟨vm, rfl, hvm, hb1⟩
          obtain ⟨om, lm, cm, rfl⟩ := bgs_slice hvm
          replace HA := hide (hup hb1 HA.out)
          have HVM := hide hvm
          have HSH := hide (refShl_any D 45 p2 _ _ HA.out.1.y (by decide) (by have := HP2.out; omega))
          clear hvm hb1 HSM
          go_wp2_with fail
          refine HSH.out.mono ?_
          rintro e w2 ⟨vs, rfl, hvs, hb2⟩
          obtain ⟨os, ls, cs, rfl⟩ := bgs_slice hvs
          replace HA := hide (hup hb2 HA.out)
          have HMU := hide (refMul_any m (D * 2 ^ p2) 2 (p2 / 32 + 45 + 1) _ _ _ (HVM.out.below hb2) hvs (by decide) (by have := HP2.out; omega))
          clear hvs hb2 HSH HVM
          go_wp2_with fail
          refine HMU.out.mono ?_
          rintro e w3 ⟨vu, rfl, hvu, hb3⟩
          obtain ⟨ou, lu, cu, rfl⟩ := bgs_slice hvu
          replace HA := hide (hup hb3 HA.out)
          have HVU : Hid (BigV w3 (.slice ou lu cu) (k * ((D * 2 ^ p2 : Nat) : Int)).natAbs 60) := by
            have h := hvu.mono (show _ ≤ 60 by have := HP2.out; omega)
            rw [Int.natAbs_mul, Int.natAbs_natCast, HMK.out]
            exact h
          clear hvu hb3 HMU
          have hbw := below_allocs w3 (.cells #[.slice ou lu cu, .bool (decide (k < 0))] 38)
          go_upto_region 14 with fail
          refine wp_gen (fun W => (Rn15 p base o4 l4 c4 D w W ∧ (W.cell? ⟨p, 0, none⟩ = some (.slice ao l c) ∧ W.cell? ⟨p, 1, none⟩ = some (.bool bz) ∧ BigV W (.slice ao l c) za (60 + j)) ∧ W.ownsRow base 3 1 v' (j + 1) ((seqL dj j ++ [nof k]).map mkZ)) ∧ W.cell? ⟨w3.heap.size, 0, none⟩ = some (.slice ou lu cu) ∧ W.cell? ⟨w3.heap.size, 1, none⟩ = some (.bool (decide (k < 0))) ∧ BigV W (.slice ou lu cu) (k * ((D * 2 ^ p2 : Nat) : Int)).natAbs 60) ⟨hup hbw HA.out, by simp [go_sem], by simp [go_sem], HVU.out.below hbw⟩ ?_
          clear HA HVU hbw
          generalize w3.heap.size = p17 at *
          rintro W14 h14
          have HA := hide h14
          clear h14
          have HSB := hide (sub15_any (lf j) (k * ((D * 2 ^ p2 : Nat) : Int)) (60 + j) 60 _ _ W14 (by rw [HZA.out]; exact HA.out.1.2.1.2.2) HA.out.2.2.2 (by omega) (by decide))
          rw [HBZ.out, HKD.out, HLN.out] at HSB
          have lc0 := HA.out.1.2.1.1
          have lc1 := HA.out.1.2.1.2.1
          have lu0 := HA.out.2.1
          have lu1 := HA.out.2.2.1
          go_wp2_with fail
          refine HSB.out.mono ?_
          rintro e wS ⟨vS, rfl, hvS, hfS, hbS⟩
          obtain ⟨oS, lS, cS, rfl⟩ := bgs_slice hvS
          have HG := hide (hup hbS HA.out.1)
          have HF' : Hid (∀ g, v'.ownBlock = some g → ∀ b off, oS = some ⟨b, off, none⟩ → b ≠ g) := fun g hg b off e => by
            have h1 := (HA.out.1.2.2.lt g hg).2
            subst e
            have h2 := hfS b off lS cS rfl
            omega
          have HV := hide (hvS.mono (show _ ≤ 60 + (j + 1) by omega))
          clear HA HSB hvS hfS hbS lc0 lc1 lu0 lu1
          have pc0 := HG.out.2.1.1
          have pc1 := HG.out.2.1.2.1
          have pfz := HG.out.1.pf
          have plt : p < wS.heap.size := by have := HG.out.1.o2; have := HG.out.1.o3; omega
          obtain ⟨bS, hbS⟩ : ∃ bS, decide (lf (j + 1) < 0) = bS := ⟨_, rfl⟩
          have HBS := hide hbS
          have HNX : Hid (Rn15 p base o4 l4 c4 D w ((wS.setCell ⟨p, 0, none⟩ (.slice oS lS cS)).setCell ⟨p, 1, none⟩ (.bool bS)) ∧ Lf15 p oS lS cS (lf (j + 1)) (60 + (j + 1)) ((wS.setCell ⟨p, 0, none⟩ (.slice oS lS cS)).setCell ⟨p, 1, none⟩ (.bool bS)) ∧ ((wS.setCell ⟨p, 0, none⟩ (.slice oS lS cS)).setCell ⟨p, 1, none⟩ (.bool bS)).ownsRow base 3 1 v' (j + 1) ((seqL dj (j + 1)).map mkZ)) := by
            refine ⟨HG.out.1.set oS lS cS bS HD0.out pc0 pc1, ⟨by simp [go_sem, pc0, plt], by rw [HBS.out]; simp [go_sem, pc1, plt], BigV.set2 HV.out ⟨_, _, _, pc0⟩ ⟨_, pc1⟩ HG.out.1.pn _ _⟩, ?_⟩
            have hp := HG.out.1.o2
            have h := ownsRow_setCell_below (ownsRow_setCell_below HG.out.2.2 (a := ⟨p, 0, none⟩) hp (.slice oS lS cS)) (a := ⟨p, 1, none⟩) hp (.bool bS)
            rw [seqL_succ, HKJ.out]
            exact h
          rw [hbS]
          clear hbS HG HV HBS
          go_wp2
          go_roundw
          case rel => exact ⟨j + 1, oS, lS, cS, by omega, by go_num, HNX.out.1, HNX.out.2.1, HNX.out.2.2, HF'⟩
          case measure => simp [intOf]; omega
      
      · have hk : j = steps := by omega
        subst hk
        obtain ⟨oo, lo, co, rfl⟩ := owns_slice HOWN.out
        obtain ⟨bz, hbz⟩ : ∃ bz, decide (lf j < 0) = bz := ⟨_, rfl⟩
        have HBZ := hide hbz
        have HST : Hid (Rn15 p base o4 l4 c4 D w wr ∧ (wr.cell? ⟨p, 0, none⟩ = some (.slice ao l c) ∧ wr.cell? ⟨p, 1, none⟩ = some (.bool bz) ∧ BigV wr (.slice ao l c) (lf j).natAbs 200) ∧ wr.ownsRow base 3 1 (.slice oo lo co) j ((seqL dj j).map mkZ)) := ⟨HRN.out, ⟨HLF.out.c0, by rw [← hbz]; exact HLF.out.c1, HLF.out.v.mono (by omega)⟩, HOWN.out⟩
        have HC0 : Hid ((wr.cell? ⟨p, 0, none⟩ = some (.slice ao l c) ∧ wr.cell? ⟨p, 1, none⟩ = some (.bool bz) ∧ BigV wr (.slice ao l c) (lf j).natAbs 200) ∧ wr.ownsRow base 3 1 (.slice oo lo co) j ((seqL dj j).map mkZ) ∧ (w.heap.size + 2 < p ∧ p < base ∧ base ≤ wr.heap.size ∧ Below w.heap.size w wr ∧ (∀ i, wr.frozen? ⟨w.heap.size + 2, i, none⟩ = false) ∧ ∀ k, 2 ≤ k → wr.cell? ⟨w.heap.size + 2, k, none⟩ = none) ∧ (∃ s0 s1 s2, wr.cell? ⟨w.heap.size + 2, 0, none⟩ = some (.slice s0 s1 s2)) ∧ (∃ b, wr.cell? ⟨w.heap.size + 2, 1, none⟩ = some (.bool b)) ∧ (false = true → wr.cell? ⟨w.heap.size + 2, 0, none⟩ = some (.slice ao l c) ∧ wr.cell? ⟨w.heap.size + 2, 1, none⟩ = some (.bool bz))) := ⟨HST.out.2.1, HST.out.2.2, ⟨HST.out.1.o1, HST.out.1.o2, HST.out.1.o3, HST.out.1.bel, HST.out.1.rf, HST.out.1.rn⟩, ⟨_, _, _, HST.out.1.r0⟩, ⟨_, HST.out.1.r1⟩, fun h => by cases h⟩
        clear HRN HLF HOWN HAP hbz
        go_upto_region 15 with fail
        refine wp_region_storeK 4 [3] [73, 74, 6] (fun bs => [(73, .val (.slice oo lo co)), (74, .val (.agg #[.slice ao l c, .bool bz])), (6, .val (.slice oo lo co))])
          (fun bs W => (W.cell? ⟨p, 0, none⟩ = some (.slice ao l c) ∧ W.cell? ⟨p, 1, none⟩ = some (.bool bz) ∧ BigV W (.slice ao l c) (lf j).natAbs 200) ∧ W.ownsRow base 3 1 (.slice oo lo co) j ((seqL dj j).map mkZ) ∧ (w.heap.size + 2 < p ∧ p < base ∧ base ≤ W.heap.size ∧ Below w.heap.size w W ∧ (∀ i, W.frozen? ⟨w.heap.size + 2, i, none⟩ = false) ∧ ∀ k, 2 ≤ k → W.cell? ⟨w.heap.size + 2, k, none⟩ = none) ∧ (∃ s0 s1 s2, W.cell? ⟨w.heap.size + 2, 0, none⟩ = some (.slice s0 s1 s2)) ∧ (∃ b, W.cell? ⟨w.heap.size + 2, 1, none⟩ = some (.bool b)) ∧ (bs.headD false = true → W.cell? ⟨w.heap.size + 2, 0, none⟩ = some (.slice ao l c) ∧ W.cell? ⟨w.heap.size + 2, 1, none⟩ = some (.bool bz))) (fun bs => rfl) mixedOk (by kernel_rfl) (by kernel_rfl) (by kernel_rfl) (⟨⟨(Below.cell ((Below.refl wr.heap.size wr).drew) (p := ⟨p, 0, none⟩) (show p < _ by have := HC0.out.2.2.1; omega)).trans HC0.out.1.1, (Below.cell ((Below.refl wr.heap.size wr).drew) (p := ⟨p, 1, none⟩) (show p < _ by have := HC0.out.2.2.1; omega)).trans HC0.out.1.2.1, HC0.out.1.2.2.below ((Below.refl wr.heap.size wr).drew)⟩, ownsZ_below HC0.out.2.1 ((Below.refl wr.heap.size wr).drew), ⟨HC0.out.2.2.1.1, HC0.out.2.2.1.2.1, Nat.le_trans HC0.out.2.2.1.2.2.1 (Below.size ((Below.refl wr.heap.size wr).drew)), below_trans HC0.out.2.2.1.2.2.2.1 ((Below.refl wr.heap.size wr).drew), fun i => (Below.frozen ((Below.refl wr.heap.size wr).drew) (p := ⟨w.heap.size + 2, i, none⟩) (show w.heap.size + 2 < _ by have := HC0.out.2.2.1; omega)).trans (HC0.out.2.2.1.2.2.2.2.1 i), fun k hk => (Below.cell ((Below.refl wr.heap.size wr).drew) (p := ⟨w.heap.size + 2, k, none⟩) (show w.heap.size + 2 < _ by have := HC0.out.2.2.1; omega)).trans (HC0.out.2.2.1.2.2.2.2.2 k hk)⟩, (by obtain ⟨s0, s1, s2, e⟩ := HC0.out.2.2.2.1; exact ⟨s0, s1, s2, (Below.cell ((Below.refl wr.heap.size wr).drew) (p := ⟨w.heap.size + 2, 0, none⟩) (show w.heap.size + 2 < _ by have := HC0.out.2.2.1; omega)).trans e⟩), (by obtain ⟨s3, e⟩ := HC0.out.2.2.2.2.1; exact ⟨s3, (Below.cell ((Below.refl wr.heap.size wr).drew) (p := ⟨w.heap.size + 2, 1, none⟩) (show w.heap.size + 2 < _ by have := HC0.out.2.2.1; omega)).trans e⟩), fun hq => ⟨(Below.cell ((Below.refl wr.heap.size wr).drew) (p := ⟨w.heap.size + 2, 0, none⟩) (show w.heap.size + 2 < _ by have := HC0.out.2.2.1; omega)).trans (HC0.out.2.2.2.2.2 hq).1, (Below.cell ((Below.refl wr.heap.size wr).drew) (p := ⟨w.heap.size + 2, 1, none⟩) (show w.heap.size + 2 < _ by have := HC0.out.2.2.1; omega)).trans (HC0.out.2.2.2.2.2 hq).2⟩⟩) (fun bs W W' h hb => ⟨⟨(Below.cell hb (p := ⟨p, 0, none⟩) (show p < _ by have := h.2.2.1; omega)).trans h.1.1, (Below.cell hb (p := ⟨p, 1, none⟩) (show p < _ by have := h.2.2.1; omega)).trans h.1.2.1, h.1.2.2.below hb⟩, ownsZ_below h.2.1 hb, ⟨h.2.2.1.1, h.2.2.1.2.1, Nat.le_trans h.2.2.1.2.2.1 (Below.size hb), below_trans h.2.2.1.2.2.2.1 hb, fun i => (Below.frozen hb (p := ⟨w.heap.size + 2, i, none⟩) (show w.heap.size + 2 < _ by have := h.2.2.1; omega)).trans (h.2.2.1.2.2.2.2.1 i), fun k hk => (Below.cell hb (p := ⟨w.heap.size + 2, k, none⟩) (show w.heap.size + 2 < _ by have := h.2.2.1; omega)).trans (h.2.2.1.2.2.2.2.2 k hk)⟩, (by obtain ⟨s0, s1, s2, e⟩ := h.2.2.2.1; exact ⟨s0, s1, s2, (Below.cell hb (p := ⟨w.heap.size + 2, 0, none⟩) (show w.heap.size + 2 < _ by have := h.2.2.1; omega)).trans e⟩), (by obtain ⟨s3, e⟩ := h.2.2.2.2.1; exact ⟨s3, (Below.cell hb (p := ⟨w.heap.size + 2, 1, none⟩) (show w.heap.size + 2 < _ by have := h.2.2.1; omega)).trans e⟩), fun hq => ⟨(Below.cell hb (p := ⟨w.heap.size + 2, 0, none⟩) (show w.heap.size + 2 < _ by have := h.2.2.1; omega)).trans (h.2.2.2.2.2 hq).1, (Below.cell hb (p := ⟨w.heap.size + 2, 1, none⟩) (show w.heap.size + 2 < _ by have := h.2.2.1; omega)).trans (h.2.2.2.2.2 hq).2⟩⟩) ?_ ?_
        · refine kSt rfl (fun φ hφ => gStep_run rfl (gRun_move 13 73 (.inl rfl) rfl (by decide +kernel) (fun v w h => h))) ?_
          refine kSt rfl (fun φ hφ => gStep_run rfl ?_) ?_
          · intro ρ W hC hc hf hL
            have e11 : ρ (.tmp 11) = .pointer (some ⟨p, 0, none⟩) := hL 11 (by decide +kernel)
            have lc0 := hC.1.1
            have lc1 := hC.1.2.1
            simp [go_sem, hc, hf, e11, lc0, lc1]
            exact ⟨Below.refl _ _, rfl⟩
          refine kSt rfl (fun φ hφ => gStep_run rfl (gRun_move 73 6 (.inr rfl) rfl (by decide +kernel) (fun v w h => h))) ?_
          refine kStS rfl ⟨rfl, rfl, ?_⟩ ?_
          · intro φ ρ W hφ hC hc hL
            have e7 : ρ (.tmp 7) = .pointer (some ⟨w.heap.size + 2, 0, none⟩) := hL 7 (by decide +kernel)
            have e74 : ρ (.tmp 74) = .agg #[.slice ao l c, .bool bz] := hL 74 (by decide +kernel)
            obtain ⟨e0, e1, e2, r0⟩ := hC.2.2.2.1
            obtain ⟨e3, r1⟩ := hC.2.2.2.2.1
            have rl : w.heap.size + 2 < W.heap.size := by have := hC.2.2.1; omega
            have rf := hC.2.2.1.2.2.2.2.1
            have hne : p ≠ w.heap.size + 2 := by have := hC.2.2.1; omega
            have l0 := hC.1.1
            have l1 := hC.1.2.1
            refine gUpon_of ((W.setCell ⟨w.heap.size + 2, 0, none⟩ (.slice ao l c)).setCell ⟨w.heap.size + 2, 1, none⟩ (.bool bz)) ?_ (fun _ => ?_)
            · simp [go_sem, hc, e7, e74, r0, r1, rl, rf, gUpon]
            have hR : w.heap.size + 2 < base := by have := hC.2.2.1; omega
            refine ⟨⟨⟨by simp [go_sem, l0, hne], by simp [go_sem, l1, hne], BigV.set2 hC.1.2.2 hC.2.2.2.1 hC.2.2.2.2.1 hC.2.2.1.2.2.2.2.2 _ _⟩, ownsRow_setCell_below (ownsRow_setCell_below hC.2.1 (a := ⟨w.heap.size + 2, 0, none⟩) hR _) (a := ⟨w.heap.size + 2, 1, none⟩) hR _, ⟨hC.2.2.1.1, hC.2.2.1.2.1, by simpa [go_sem] using hC.2.2.1.2.2.1, (hC.2.2.1.2.2.2.1.setCell (p := ⟨w.heap.size + 2, 0, none⟩) (Nat.le_add_right _ 2) _).setCell (p := ⟨w.heap.size + 2, 1, none⟩) (Nat.le_add_right _ 2) _, fun i => by simpa [go_sem] using rf i, fun k hk => ?_⟩, ⟨ao, l, c, by simp [go_sem, r0, rl]⟩, ⟨bz, by simp [go_sem, r1, rl]⟩, fun _ => ⟨by simp [go_sem, r0, rl], by simp [go_sem, r1, rl]⟩⟩, fun t => ?_⟩
            · have h1 := hC.2.2.1.2.2.2.2.2 k hk
              have k0 : k ≠ 0 := by omega
              have k1 : k ≠ 1 := by omega
              simp [go_sem, h1, k0, k1]
            refine (tbl_imp rfl (fun _ => val_imp) (tbl_imp rfl (fun _ => val_imp) (tbl_imp rfl (fun _ => val_imp) tbl_nil_imp)))
          exact kSt0
        · intro W hC
          refine gFi 73 rfl ?_
          rintro _ rfl
          refine gFi 74 rfl ?_
          rintro _ rfl
          refine gFi 6 rfl ?_
          rintro _ rfl
          refine gFiN rfl ?_
          refine gFi0 ?_
          simp only [List.drop_succ_cons, List.drop_zero, Act.put, List.setIfInBounds_toArray, List.set_cons_succ, List.set_cons_zero]
          have hrr := hC.2.2.2.2.2 rfl
          have r0 := hrr.1
          have r1 := hrr.2
          have HR : Hid (Rd mkZ W (.slice oo lo co) (seqL dj j) ∧ BigV W (.slice ao l c) (lf j).natAbs 200 ∧ Below w.heap.size w W) := ⟨infoZ_rd (seqL_len dj j) hC.2.1, hC.1.2.2, hC.2.2.1.2.2.2.1⟩
          clear hC hrr HST
          go_wp2
          exact bodyPost_ret (v := .tuple #[.slice oo lo co, .agg #[.slice ao l c, .bool bz]]) (by simp [results, Tryd.results12, go_sem, r0, r1]) rfl ⟨_, _, by rw [HBZ.out], HR.out.1, HR.out.2.1, HR.out.2.2⟩
      
    

end Go.Proofs.YtbngaajhdaciaaaDoor

/- radicandref15.Run: the digits, and what is left, in plain numbers. -/
set_option linter.unusedVariables false
set_option linter.unusedSimpArgs false
set_option maxRecDepth 8000
namespace Go.Proofs.YtbngaajhdaciaaaDoor
open Go.RowKit Plain

/-- The divisor, shifted up; the dividend, as far. -/
def up15 (d : Nat) : Nat := d * 2 ^ (128 - Go.bitLen d)
def nu15 (n d : Nat) : Nat := n * 2 ^ (128 - Go.bitLen d)
/-- What is left behind j steps, and the digit of a step. -/
def lf15 (n d : Nat) (j : Nat) : Int := lfS ((up15 d / 2 ^ 124 : Nat) : Int) (((2 ^ 124 : Nat) : Nat) : Int) ((up15 d : Nat) : Int) ((nu15 n d : Nat) : Int) 64 j
def dg15 (n d : Nat) (j : Nat) : Int := dgS ((up15 d / 2 ^ 124 : Nat) : Int) (((2 ^ 124 : Nat) : Nat) : Int) ((up15 d : Nat) : Int) ((nu15 n d : Nat) : Int) 64 j
def nm15 (n d : Nat) (j : Nat) : Int := nmS ((up15 d / 2 ^ 124 : Nat) : Int) (((2 ^ 124 : Nat) : Nat) : Int) ((up15 d : Nat) : Int) ((nu15 n d : Nat) : Int) 64 j

theorem up15_bd (d : Nat) (h0 : d ≠ 0) (hL : Go.bitLen d ≤ 128) : 2 ^ 127 ≤ up15 d ∧ up15 d < 2 ^ 128 := by
  have hs := bitLen_spec d
  have h2 := hs.2 h0
  have h1 := hs.1
  have hl : Go.bitLen d ≠ 0 := fun e => by rw [e] at h1; omega
  unfold up15
  constructor
  · have : 2 ^ (Go.bitLen d - 1) * 2 ^ (128 - Go.bitLen d) ≤ d * 2 ^ (128 - Go.bitLen d) := Nat.mul_le_mul_right _ h2
    rwa [← Nat.pow_add, show Go.bitLen d - 1 + (128 - Go.bitLen d) = 127 by omega] at this
  · have : d * 2 ^ (128 - Go.bitLen d) < 2 ^ Go.bitLen d * 2 ^ (128 - Go.bitLen d) := Nat.mul_lt_mul_of_pos_right h1 (Nat.two_pow_pos _)
    rwa [← Nat.pow_add, show Go.bitLen d + (128 - Go.bitLen d) = 128 by omega] at this
theorem up15_row (D E : Nat) (hE : 0 < E) (h1 : 8 * E ≤ D) (h2 : D < 16 * E) : 8 ≤ D / E ∧ D / E ≤ 15 ∧ ((D / E : Nat) : Int) * (E : Int) ≤ (D : Int) ∧ (D : Int) < (((D / E : Nat) : Int) + 1) * (E : Int) := by
  have a := (Nat.le_div_iff_mul_le hE).2 h1
  have b := (Nat.div_lt_iff_lt_mul hE).2 h2
  have c := Nat.div_mul_le_self D E
  have e := Nat.lt_mul_of_div_lt (Nat.lt_succ_self (D / E)) hE
  rw [Nat.succ_eq_add_one] at e
  refine ⟨a, by omega, by exact_mod_cast c, ?_⟩
  have : (D : Int) < ((D / E + 1 : Nat) : Int) * (E : Int) := by exact_mod_cast e
  simpa using this
theorem pow4_two (k : Nat) : (4 : Int) ^ k = ((2 ^ (2 * k) : Nat) : Int) := by
  rw [Nat.pow_mul]
  simp

/-- The run's conditions. -/
structure Ok15 (n d : Nat) : Prop where
  h1 : (8 : Int) ≤ ((up15 d / 2 ^ 124 : Nat) : Int)
  h2 : ((up15 d / 2 ^ 124 : Nat) : Int) ≤ 15
  hE : (0 : Int) < ((2 ^ 124 : Nat) : Int)
  hD1 : ((up15 d / 2 ^ 124 : Nat) : Int) * ((2 ^ 124 : Nat) : Int) ≤ ((up15 d : Nat) : Int)
  hD2 : ((up15 d : Nat) : Int) < (((up15 d / 2 ^ 124 : Nat) : Int) + 1) * ((2 ^ 124 : Nat) : Int)
  hN0 : (0 : Int) ≤ ((nu15 n d : Nat) : Int)
  hN : 3 * ((nu15 n d : Nat) : Int) ≤ 2 * (((up15 d : Nat) : Int) * 4 ^ (64 + 1))
  hU : up15 d < 2 ^ 128
theorem ok15 (n d : Nat) (h0 : d ≠ 0) (hL : Go.bitLen d ≤ 128) (hq : n < d * 2 ^ 128) : Ok15 n d := by
  have hu := up15_bd d h0 hL
  have hE : 0 < 2 ^ 124 := Nat.two_pow_pos _
  have e1 : 2 ^ 127 = 8 * 2 ^ 124 := by decide +kernel
  have e2 : 2 ^ 128 = 16 * 2 ^ 124 := by decide +kernel
  have hr := up15_row (up15 d) (2 ^ 124) hE (by rw [← e1]; exact hu.1) (by rw [← e2]; exact hu.2)
  refine ⟨by omega, by omega, by exact_mod_cast hE, hr.2.2.1, hr.2.2.2, by omega, ?_, hu.2⟩
  have hp := Nat.two_pow_pos (128 - Go.bitLen d)
  have h3 : nu15 n d ≤ up15 d * 2 ^ 128 := by
    unfold nu15 up15
    rw [Nat.mul_right_comm]
    exact Nat.mul_le_mul_right _ (by omega)
  have e4 : (4 : Int) ^ (64 + 1) = 4 * ((2 ^ 128 : Nat) : Int) := by decide +kernel
  rw [e4]
  have h4 : ((nu15 n d : Nat) : Int) ≤ ((up15 d : Nat) : Int) * ((2 ^ 128 : Nat) : Int) := by exact_mod_cast h3
  have e5 : ((up15 d : Nat) : Int) * (4 * ((2 ^ 128 : Nat) : Int)) = 4 * (((up15 d : Nat) : Int) * ((2 ^ 128 : Nat) : Int)) := Int.mul_left_comm _ _ _
  rw [e5]
  have h5 : (0 : Int) ≤ ((up15 d : Nat) : Int) * ((2 ^ 128 : Nat) : Int) := Int.mul_nonneg (by omega) (by omega)
  generalize ((up15 d : Nat) : Int) * ((2 ^ 128 : Nat) : Int) = M at *
  omega
theorem Ok15.keeps {n d : Nat} (h : Ok15 n d) (j : Nat) (hj : j ≤ 65) : -(2 * (((up15 d : Nat) : Int) * 4 ^ (65 - j))) ≤ 3 * lf15 n d j ∧ 3 * lf15 n d j ≤ 2 * (((up15 d : Nat) : Int) * 4 ^ (65 - j)) :=
  lfS_keeps h.h1 h.h2 h.hE h.hD1 h.hD2 h.hN0 h.hN j hj
theorem Ok15.bd {n d : Nat} (h : Ok15 n d) (j : Nat) (hj : j < 65) : -2 ≤ dg15 n d j ∧ dg15 n d j ≤ 2 :=
  dgS_bd h.h1 h.h2 h.hE h.hD1 h.hD2 h.hN0 h.hN j (by omega)
theorem lf15_step (n d j : Nat) : lf15 n d (j + 1) = lf15 n d j - dg15 n d j * ((up15 d * 2 ^ (2 * (64 - j)) : Nat) : Int) := by
  have := lfS_succ ((up15 d / 2 ^ 124 : Nat) : Int) (((2 ^ 124 : Nat) : Nat) : Int) ((up15 d : Nat) : Int) ((nu15 n d : Nat) : Int) 64 j
  rw [pow4_two] at this
  rw [Int.natCast_mul]
  exact this
theorem dg15_is (n d j : Nat) : dg15 n d j = chN (tabN ((up15 d / 2 ^ 124 : Nat) : Int)) (lf15 n d j / 2 ^ (124 + 2 * (64 - j))) := by
  show chN _ (lf15 n d j / _) = _
  rw [pow4_two, ← Int.natCast_mul, ← Nat.pow_add]
  simp
theorem Ok15.small {n d : Nat} (h : Ok15 n d) (j : Nat) (hj : j < 65) : (lf15 n d j).natAbs / 2 ^ (124 + 2 * (64 - j)) < 4294967295 := by
  have hk := h.keeps j (by omega)
  have e : 65 - j = (64 - j) + 1 := by omega
  rw [e, Int.pow_succ, pow4_two] at hk
  have hU : up15 d ≤ 16 * 2 ^ 124 := by have := h.hU; have e2 : 2 ^ 128 = 16 * 2 ^ 124 := by decide +kernel
                                        omega
  have hW := Nat.two_pow_pos (2 * (64 - j))
  rw [Nat.pow_add]
  generalize 2 ^ (2 * (64 - j)) = W at *
  generalize (2 ^ 124 : Nat) = E at *
  generalize lf15 n d j = l at *
  have h1 : up15 d * W ≤ 16 * (E * W) := by rw [← Nat.mul_assoc]; exact Nat.mul_le_mul_right _ hU
  have e1 : ((up15 d : Nat) : Int) * (((W : Nat) : Int) * 4) = 4 * ((up15 d * W : Nat) : Int) := by rw [← Int.mul_assoc, Int.natCast_mul, Int.mul_comm]
  rw [e1] at hk
  have h2 : l.natAbs ≤ 64 * (E * W) := by omega
  have h3 : l.natAbs / (E * W) ≤ 64 := by
    apply Nat.div_le_of_le_mul
    rwa [Nat.mul_comm]
  omega

/-- Run: the digits, and what is left. -/
theorem run15_any (n d steps : Nat) (hn : n < QQ) (hd : d < QQ) (h0 : d ≠ 0) (hL : Go.bitLen d ≤ 128) (hq : n < d * 2 ^ 128) (hst : steps ≤ 65) (w : World) :
    Calls Tryd.prog 12 #[.agg #[.int .u64 (dgl (n) 0 : Nat), .int .u64 (dgl (n) 1 : Nat), .int .u64 (dgl (n) 2 : Nat), .int .u64 (dgl (n) 3 : Nat), .int .u64 (dgl (n) 4 : Nat), .int .u64 (dgl (n) 5 : Nat), .int .u64 (dgl (n) 6 : Nat), .int .u64 (dgl (n) 7 : Nat)], .agg #[.int .u64 (dgl (d) 0 : Nat), .int .u64 (dgl (d) 1 : Nat), .int .u64 (dgl (d) 2 : Nat), .int .u64 (dgl (d) 3 : Nat), .int .u64 (dgl (d) 4 : Nat), .int .u64 (dgl (d) 5 : Nat), .int .u64 (dgl (d) 6 : Nat), .int .u64 (dgl (d) 7 : Nat)], .int .i64 (steps : Nat)] w fun e w' => ∃ v vl, e = .returned (.tuple #[v, .agg #[vl, .bool (decide (lf15 n d steps < 0))]]) ∧ Rd mkZ w' v (seqL (dg15 n d) steps) ∧ BigV w' vl (lf15 n d steps).natAbs 200 ∧ Below w.heap.size w w' := by
  have ok := ok15 n d h0 hL hq
  have hr1 : 8 ≤ up15 d / 2 ^ 124 := by have := ok.h1; omega
  have hr2 : up15 d / 2 ^ 124 ≤ 15 := by have := ok.h2; omega
  refine run15_walk n d (Go.bitLen d) (128 - Go.bitLen d) (nu15 n d) (up15 d) (up15 d / 2 ^ 124) steps (lf15 n d) (dg15 n d) rfl (by rw [IntKind.wrap_i64]; omega) (by omega) rfl rfl rfl hr1 hr2 hst rfl
    (hide fun j _ => lf15_step n d j) (hide fun j hj => ok.bd j hj) (hide fun w => refBig_any n hn w) (hide fun w => refBig_any d hd w)
    (hide fun w => by have h := rbounds_any ((up15 d / 2 ^ 124 : Nat) : Int) ok.h1 ok.h2 w; rwa [row_tab _ ok.h1 ok.h2] at h)
    (hide fun j hj K v w hv hK => down15_any (lf15 n d j) (124 + 2 * (64 - j)) K v w hv (by omega) (by omega) (ok.small j hj))
    (hide fun j hj w => by rw [dg15_is]; exact rdigit_any _ _ w) w
end Go.Proofs.YtbngaajhdaciaaaDoor

/- Contracts: radicandref16.Norm. -/
set_option linter.unusedVariables false
set_option linter.unusedSimpArgs false
set_option maxRecDepth 8000
namespace Go.Proofs.YtbngaajhdaciaaaDoor
open Go.RowKit Plain

theorem bitLen_up (n k : Nat) (h0 : n ≠ 0) : Go.bitLen (n * 2 ^ k) = Go.bitLen n + k := by
  have h1 := bitLen_spec n
  have h2 := bitLen_spec (n * 2 ^ k)
  have hp := Nat.two_pow_pos k
  have h3 : n * 2 ^ k ≠ 0 := by
    have := Nat.mul_pos (Nat.pos_of_ne_zero h0) hp
    omega
  have hl : Go.bitLen n ≠ 0 := fun e => by have := h1.1; rw [e] at this; omega
  have a : n * 2 ^ k < 2 ^ (Go.bitLen n + k) := by rw [Nat.pow_add]; exact Nat.mul_lt_mul_of_pos_right h1.1 hp
  have b : 2 ^ (Go.bitLen n + k - 1) ≤ n * 2 ^ k := by
    rw [show Go.bitLen n + k - 1 = Go.bitLen n - 1 + k by omega, Nat.pow_add]
    exact Nat.mul_le_mul_right _ (h1.2 h0)
  exact Nat.le_antisymm (pow_inj_len (by decide) a (.inr (h2.2 h3))) (pow_inj_len (by decide) h2.1 (.inr b))

end Go.Proofs.YtbngaajhdaciaaaDoor

