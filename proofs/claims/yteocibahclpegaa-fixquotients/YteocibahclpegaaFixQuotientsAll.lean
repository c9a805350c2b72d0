/- For all wides and guesses the law radicandlaw18.FixQuotients returns true and leaves what came in as it was. No condition. -/
import Derived.Test.YteocibahclpegaaPartAS
import Derived.Test.YteocibahclpegaaRows
import Derived.Test.YteocibahclpegaaPartAL
import Derived.WalkKit
import Derived.ProofKit
import Derived.OpenShut
import Derived.ShutString
import Derived.ChangeOld
import Derived.Below
/- Contracts: the law FixQuotients: what it goes by. -/
set_option linter.unusedVariables false
set_option linter.unusedSimpArgs false
set_option maxRecDepth 8000
namespace Go.Proofs.Yteocibahclpegaa
open Go.RowKit Plain

theorem liesG_new (w : World) (x : Nat) (raw : Bool) (by_ most : Int) (e : TypeId) : LiesF (w.alloc (.cells #[.int .u64 (dgl x 0 : Nat), .int .u64 (dgl x 1 : Nat), .int .u64 (dgl x 2 : Nat), .int .u64 (dgl x 3 : Nat), .int .u64 (dgl x 4 : Nat), .int .u64 (dgl x 5 : Nat), .int .u64 (dgl x 6 : Nat), .int .u64 (dgl x 7 : Nat), .bool raw, .int .i8 by_, .int .i64 most] e)) w.heap.size (dgl x) ∧ (w.alloc (.cells #[.int .u64 (dgl x 0 : Nat), .int .u64 (dgl x 1 : Nat), .int .u64 (dgl x 2 : Nat), .int .u64 (dgl x 3 : Nat), .int .u64 (dgl x 4 : Nat), .int .u64 (dgl x 5 : Nat), .int .u64 (dgl x 6 : Nat), .int .u64 (dgl x 7 : Nat), .bool raw, .int .i8 by_, .int .i64 most] e)).cell? ⟨w.heap.size, 8, none⟩ = some (.bool raw) ∧ (w.alloc (.cells #[.int .u64 (dgl x 0 : Nat), .int .u64 (dgl x 1 : Nat), .int .u64 (dgl x 2 : Nat), .int .u64 (dgl x 3 : Nat), .int .u64 (dgl x 4 : Nat), .int .u64 (dgl x 5 : Nat), .int .u64 (dgl x 6 : Nat), .int .u64 (dgl x 7 : Nat), .bool raw, .int .i8 by_, .int .i64 most] e)).cell? ⟨w.heap.size, 9, none⟩ = some (.int .i8 by_) ∧ (w.alloc (.cells #[.int .u64 (dgl x 0 : Nat), .int .u64 (dgl x 1 : Nat), .int .u64 (dgl x 2 : Nat), .int .u64 (dgl x 3 : Nat), .int .u64 (dgl x 4 : Nat), .int .u64 (dgl x 5 : Nat), .int .u64 (dgl x 6 : Nat), .int .u64 (dgl x 7 : Nat), .bool raw, .int .i8 by_, .int .i64 most] e)).cell? ⟨w.heap.size, 10, none⟩ = some (.int .i64 most) := by
  refine ⟨⟨fun i hi => ?_, by simp⟩, by simp [go_sem], by simp [go_sem], by simp [go_sem]⟩
  match i, hi with
  | 0, _ => simp [go_sem]
  | 1, _ => simp [go_sem]
  | 2, _ => simp [go_sem]
  | 3, _ => simp [go_sem]
  | 4, _ => simp [go_sem]
  | 5, _ => simp [go_sem]
  | 6, _ => simp [go_sem]
  | 7, _ => simp [go_sem]
/-- What the law goes by: its arguments, the guess. -/
structure GqSt (n : Nat) (d : Nat) (x : Nat) (raw : Bool) (by_ : Int) (most : Int) (G : Nat) (w W : World) : Prop where
  la : LiesF W (w.heap.size) (dgl n)
  ld : LiesF W (w.heap.size + 1) (dgl d)
  lx : LiesF W (w.heap.size + 2) (dgl x)
  c8 : W.cell? ⟨w.heap.size + 2, 8, none⟩ = some (.bool raw)
  c9 : W.cell? ⟨w.heap.size + 2, 9, none⟩ = some (.int .i8 by_)
  c10 : W.cell? ⟨w.heap.size + 2, 10, none⟩ = some (.int .i64 most)
  lg : LiesF W (w.heap.size + 3) (dgl G)
  fg : ∀ i, W.frozen? ⟨w.heap.size + 3, i, none⟩ = false
  lt : w.heap.size + 3 < W.heap.size
  bel : Below w.heap.size w W
theorem GqSt.under {n : Nat} {d : Nat} {x : Nat} {raw : Bool} {by_ : Int} {most : Int} {G : Nat} {w W W' : World} (h : GqSt n d x raw by_ most G w W) {C : Nat} (hb : Below C W W') (hc : w.heap.size + 3 < C) : GqSt n d x raw by_ most G w W' :=
  ⟨lies_box h.la hb (show w.heap.size < C by omega), lies_box h.ld hb (show w.heap.size + 1 < C by omega), lies_box h.lx hb (show w.heap.size + 2 < C by omega), (hb.cell (p := ⟨w.heap.size + 2, 8, none⟩) (show w.heap.size + 2 < C by omega)).trans h.c8, (hb.cell (p := ⟨w.heap.size + 2, 9, none⟩) (show w.heap.size + 2 < C by omega)).trans h.c9, (hb.cell (p := ⟨w.heap.size + 2, 10, none⟩) (show w.heap.size + 2 < C by omega)).trans h.c10, lies_box h.lg hb (show w.heap.size + 3 < C by omega), fun i => (hb.frozen (p := ⟨w.heap.size + 3, i, none⟩) (show w.heap.size + 3 < C by omega)).trans (h.fg i), Nat.lt_of_lt_of_le h.lt hb.size, h.bel.trans (hb.mono (by omega))⟩
theorem GqSt.below {n : Nat} {d : Nat} {x : Nat} {raw : Bool} {by_ : Int} {most : Int} {G : Nat} {w W W' : World} (h : GqSt n d x raw by_ most G w W) (hb : Below W.heap.size W W') : GqSt n d x raw by_ most G w W' := h.under hb h.lt
theorem gqSt_start (n d x : Nat) (raw : Bool) (by_ most : Int) (w : World) : GqSt n d x raw by_ most x w ((((w.alloc (.cells #[.int .u64 (dgl (n) 0 : Nat), .int .u64 (dgl (n) 1 : Nat), .int .u64 (dgl (n) 2 : Nat), .int .u64 (dgl (n) 3 : Nat), .int .u64 (dgl (n) 4 : Nat), .int .u64 (dgl (n) 5 : Nat), .int .u64 (dgl (n) 6 : Nat), .int .u64 (dgl (n) 7 : Nat)] 32)).alloc (.cells #[.int .u64 (dgl (d) 0 : Nat), .int .u64 (dgl (d) 1 : Nat), .int .u64 (dgl (d) 2 : Nat), .int .u64 (dgl (d) 3 : Nat), .int .u64 (dgl (d) 4 : Nat), .int .u64 (dgl (d) 5 : Nat), .int .u64 (dgl (d) 6 : Nat), .int .u64 (dgl (d) 7 : Nat)] 32)).alloc (.cells #[.int .u64 (dgl x 0 : Nat), .int .u64 (dgl x 1 : Nat), .int .u64 (dgl x 2 : Nat), .int .u64 (dgl x 3 : Nat), .int .u64 (dgl x 4 : Nat), .int .u64 (dgl x 5 : Nat), .int .u64 (dgl x 6 : Nat), .int .u64 (dgl x 7 : Nat), .bool raw, .int .i8 by_, .int .i64 most] 47)).alloc (.cells #[.int .u64 (dgl (x) 0 : Nat), .int .u64 (dgl (x) 1 : Nat), .int .u64 (dgl (x) 2 : Nat), .int .u64 (dgl (x) 3 : Nat), .int .u64 (dgl (x) 4 : Nat), .int .u64 (dgl (x) 5 : Nat), .int .u64 (dgl (x) 6 : Nat), .int .u64 (dgl (x) 7 : Nat)] 32)) := by
  have h0 := liesF_new w (dgl n) 32
  have h1 := liesF_new (w.alloc (.cells #[.int .u64 (dgl (n) 0 : Nat), .int .u64 (dgl (n) 1 : Nat), .int .u64 (dgl (n) 2 : Nat), .int .u64 (dgl (n) 3 : Nat), .int .u64 (dgl (n) 4 : Nat), .int .u64 (dgl (n) 5 : Nat), .int .u64 (dgl (n) 6 : Nat), .int .u64 (dgl (n) 7 : Nat)] 32)) (dgl d) 32
  rw [World.size_alloc] at h1
  have h2 := liesG_new ((w.alloc (.cells #[.int .u64 (dgl (n) 0 : Nat), .int .u64 (dgl (n) 1 : Nat), .int .u64 (dgl (n) 2 : Nat), .int .u64 (dgl (n) 3 : Nat), .int .u64 (dgl (n) 4 : Nat), .int .u64 (dgl (n) 5 : Nat), .int .u64 (dgl (n) 6 : Nat), .int .u64 (dgl (n) 7 : Nat)] 32)).alloc (.cells #[.int .u64 (dgl (d) 0 : Nat), .int .u64 (dgl (d) 1 : Nat), .int .u64 (dgl (d) 2 : Nat), .int .u64 (dgl (d) 3 : Nat), .int .u64 (dgl (d) 4 : Nat), .int .u64 (dgl (d) 5 : Nat), .int .u64 (dgl (d) 6 : Nat), .int .u64 (dgl (d) 7 : Nat)] 32)) x raw by_ most 47
  have h3 := liesF_new (((w.alloc (.cells #[.int .u64 (dgl (n) 0 : Nat), .int .u64 (dgl (n) 1 : Nat), .int .u64 (dgl (n) 2 : Nat), .int .u64 (dgl (n) 3 : Nat), .int .u64 (dgl (n) 4 : Nat), .int .u64 (dgl (n) 5 : Nat), .int .u64 (dgl (n) 6 : Nat), .int .u64 (dgl (n) 7 : Nat)] 32)).alloc (.cells #[.int .u64 (dgl (d) 0 : Nat), .int .u64 (dgl (d) 1 : Nat), .int .u64 (dgl (d) 2 : Nat), .int .u64 (dgl (d) 3 : Nat), .int .u64 (dgl (d) 4 : Nat), .int .u64 (dgl (d) 5 : Nat), .int .u64 (dgl (d) 6 : Nat), .int .u64 (dgl (d) 7 : Nat)] 32)).alloc (.cells #[.int .u64 (dgl x 0 : Nat), .int .u64 (dgl x 1 : Nat), .int .u64 (dgl x 2 : Nat), .int .u64 (dgl x 3 : Nat), .int .u64 (dgl x 4 : Nat), .int .u64 (dgl x 5 : Nat), .int .u64 (dgl x 6 : Nat), .int .u64 (dgl x 7 : Nat), .bool raw, .int .i8 by_, .int .i64 most] 47)) (dgl x) 32
  simp only [World.size_alloc] at h2 h3
  have hl := h2.1.alloc (.cells #[.int .u64 (dgl (x) 0 : Nat), .int .u64 (dgl (x) 1 : Nat), .int .u64 (dgl (x) 2 : Nat), .int .u64 (dgl (x) 3 : Nat), .int .u64 (dgl (x) 4 : Nat), .int .u64 (dgl (x) 5 : Nat), .int .u64 (dgl (x) 6 : Nat), .int .u64 (dgl (x) 7 : Nat)] 32)
  exact ⟨(((h0.alloc _).alloc _).alloc _), ((h1.alloc _).alloc _), hl, ((below_allocs (((w.alloc (.cells #[.int .u64 (dgl (n) 0 : Nat), .int .u64 (dgl (n) 1 : Nat), .int .u64 (dgl (n) 2 : Nat), .int .u64 (dgl (n) 3 : Nat), .int .u64 (dgl (n) 4 : Nat), .int .u64 (dgl (n) 5 : Nat), .int .u64 (dgl (n) 6 : Nat), .int .u64 (dgl (n) 7 : Nat)] 32)).alloc (.cells #[.int .u64 (dgl (d) 0 : Nat), .int .u64 (dgl (d) 1 : Nat), .int .u64 (dgl (d) 2 : Nat), .int .u64 (dgl (d) 3 : Nat), .int .u64 (dgl (d) 4 : Nat), .int .u64 (dgl (d) 5 : Nat), .int .u64 (dgl (d) 6 : Nat), .int .u64 (dgl (d) 7 : Nat)] 32)).alloc (.cells #[.int .u64 (dgl x 0 : Nat), .int .u64 (dgl x 1 : Nat), .int .u64 (dgl x 2 : Nat), .int .u64 (dgl x 3 : Nat), .int .u64 (dgl x 4 : Nat), .int .u64 (dgl x 5 : Nat), .int .u64 (dgl x 6 : Nat), .int .u64 (dgl x 7 : Nat), .bool raw, .int .i8 by_, .int .i64 most] 47)) (.cells #[.int .u64 (dgl (x) 0 : Nat), .int .u64 (dgl (x) 1 : Nat), .int .u64 (dgl (x) 2 : Nat), .int .u64 (dgl (x) 3 : Nat), .int .u64 (dgl (x) 4 : Nat), .int .u64 (dgl (x) 5 : Nat), .int .u64 (dgl (x) 6 : Nat), .int .u64 (dgl (x) 7 : Nat)] 32)).cell (p := ⟨w.heap.size + 2, 8, none⟩) h2.1.2).trans h2.2.1, ((below_allocs (((w.alloc (.cells #[.int .u64 (dgl (n) 0 : Nat), .int .u64 (dgl (n) 1 : Nat), .int .u64 (dgl (n) 2 : Nat), .int .u64 (dgl (n) 3 : Nat), .int .u64 (dgl (n) 4 : Nat), .int .u64 (dgl (n) 5 : Nat), .int .u64 (dgl (n) 6 : Nat), .int .u64 (dgl (n) 7 : Nat)] 32)).alloc (.cells #[.int .u64 (dgl (d) 0 : Nat), .int .u64 (dgl (d) 1 : Nat), .int .u64 (dgl (d) 2 : Nat), .int .u64 (dgl (d) 3 : Nat), .int .u64 (dgl (d) 4 : Nat), .int .u64 (dgl (d) 5 : Nat), .int .u64 (dgl (d) 6 : Nat), .int .u64 (dgl (d) 7 : Nat)] 32)).alloc (.cells #[.int .u64 (dgl x 0 : Nat), .int .u64 (dgl x 1 : Nat), .int .u64 (dgl x 2 : Nat), .int .u64 (dgl x 3 : Nat), .int .u64 (dgl x 4 : Nat), .int .u64 (dgl x 5 : Nat), .int .u64 (dgl x 6 : Nat), .int .u64 (dgl x 7 : Nat), .bool raw, .int .i8 by_, .int .i64 most] 47)) (.cells #[.int .u64 (dgl (x) 0 : Nat), .int .u64 (dgl (x) 1 : Nat), .int .u64 (dgl (x) 2 : Nat), .int .u64 (dgl (x) 3 : Nat), .int .u64 (dgl (x) 4 : Nat), .int .u64 (dgl (x) 5 : Nat), .int .u64 (dgl (x) 6 : Nat), .int .u64 (dgl (x) 7 : Nat)] 32)).cell (p := ⟨w.heap.size + 2, 9, none⟩) h2.1.2).trans h2.2.2.1, ((below_allocs (((w.alloc (.cells #[.int .u64 (dgl (n) 0 : Nat), .int .u64 (dgl (n) 1 : Nat), .int .u64 (dgl (n) 2 : Nat), .int .u64 (dgl (n) 3 : Nat), .int .u64 (dgl (n) 4 : Nat), .int .u64 (dgl (n) 5 : Nat), .int .u64 (dgl (n) 6 : Nat), .int .u64 (dgl (n) 7 : Nat)] 32)).alloc (.cells #[.int .u64 (dgl (d) 0 : Nat), .int .u64 (dgl (d) 1 : Nat), .int .u64 (dgl (d) 2 : Nat), .int .u64 (dgl (d) 3 : Nat), .int .u64 (dgl (d) 4 : Nat), .int .u64 (dgl (d) 5 : Nat), .int .u64 (dgl (d) 6 : Nat), .int .u64 (dgl (d) 7 : Nat)] 32)).alloc (.cells #[.int .u64 (dgl x 0 : Nat), .int .u64 (dgl x 1 : Nat), .int .u64 (dgl x 2 : Nat), .int .u64 (dgl x 3 : Nat), .int .u64 (dgl x 4 : Nat), .int .u64 (dgl x 5 : Nat), .int .u64 (dgl x 6 : Nat), .int .u64 (dgl x 7 : Nat), .bool raw, .int .i8 by_, .int .i64 most] 47)) (.cells #[.int .u64 (dgl (x) 0 : Nat), .int .u64 (dgl (x) 1 : Nat), .int .u64 (dgl (x) 2 : Nat), .int .u64 (dgl (x) 3 : Nat), .int .u64 (dgl (x) 4 : Nat), .int .u64 (dgl (x) 5 : Nat), .int .u64 (dgl (x) 6 : Nat), .int .u64 (dgl (x) 7 : Nat)] 32)).cell (p := ⟨w.heap.size + 2, 10, none⟩) h2.1.2).trans h2.2.2.2, h3, fun i => by simp [go_sem], h3.2, below_trans (below_trans (below_trans (below_allocs _ _) (below_allocs _ _)) (below_allocs _ _)) (below_allocs _ _)⟩
theorem gqSt_set {n d x : Nat} {raw : Bool} {by_ most : Int} {H : Nat} {w W : World} (h : GqSt n d x raw by_ most H w W) (G : Nat) : GqSt n d x raw by_ most G w ((((((((W.setCell ⟨w.heap.size + 3, 0, none⟩ (.int .u64 (dgl G 0 : Nat))).setCell ⟨w.heap.size + 3, 1, none⟩ (.int .u64 (dgl G 1 : Nat))).setCell ⟨w.heap.size + 3, 2, none⟩ (.int .u64 (dgl G 2 : Nat))).setCell ⟨w.heap.size + 3, 3, none⟩ (.int .u64 (dgl G 3 : Nat))).setCell ⟨w.heap.size + 3, 4, none⟩ (.int .u64 (dgl G 4 : Nat))).setCell ⟨w.heap.size + 3, 5, none⟩ (.int .u64 (dgl G 5 : Nat))).setCell ⟨w.heap.size + 3, 6, none⟩ (.int .u64 (dgl G 6 : Nat))).setCell ⟨w.heap.size + 3, 7, none⟩ (.int .u64 (dgl G 7 : Nat))) :=
  ⟨lies_ne h.la (by omega), lies_ne h.ld (by omega), lies_ne h.lx (by omega), (by simpa [go_sem] using h.c8), (by simpa [go_sem] using h.c9), (by simpa [go_sem] using h.c10), set8_same W _ (dgl G) (dgl H) h.lg, fun i => by simpa [go_sem] using h.fg i, by simpa [go_sem] using h.lt, below_set8 h.bel _ (by omega) _ _ _ _ _ _ _ _⟩
end Go.Proofs.Yteocibahclpegaa

/- Contracts: the law FixQuotients, walked. -/
set_option linter.unusedVariables false
set_option linter.unusedSimpArgs false
set_option maxRecDepth 8000
namespace Go.Proofs.Yteocibahclpegaa
open Go.RowKit Plain

set_option maxHeartbeats 4000000 in
theorem fixQ_1a (n d x G A B L aw : Nat) (raw z1 z2 : Bool) (by_ most c : Int) (w : World) (hc : (c == 0) = false) (hc2 : (c != 0) = true) (hm : most < 0)
    (HM : Hid (∀ w, Calls Try.prog 23 #[.agg #[.int .u64 (dgl (n) 0 : Nat), .int .u64 (dgl (n) 1 : Nat), .int .u64 (dgl (n) 2 : Nat), .int .u64 (dgl (n) 3 : Nat), .int .u64 (dgl (n) 4 : Nat), .int .u64 (dgl (n) 5 : Nat), .int .u64 (dgl (n) 6 : Nat), .int .u64 (dgl (n) 7 : Nat)], .agg #[.int .u64 (dgl (d) 0 : Nat), .int .u64 (dgl (d) 1 : Nat), .int .u64 (dgl (d) 2 : Nat), .int .u64 (dgl (d) 3 : Nat), .int .u64 (dgl (d) 4 : Nat), .int .u64 (dgl (d) 5 : Nat), .int .u64 (dgl (d) 6 : Nat), .int .u64 (dgl (d) 7 : Nat)]] w fun e w' => e = .returned (.int .i64 c) ∧ Below w.heap.size w w'))
    (HQ : Hid (∀ w, Calls Try.prog 26 #[.agg #[.int .u64 (dgl (n) 0 : Nat), .int .u64 (dgl (n) 1 : Nat), .int .u64 (dgl (n) 2 : Nat), .int .u64 (dgl (n) 3 : Nat), .int .u64 (dgl (n) 4 : Nat), .int .u64 (dgl (n) 5 : Nat), .int .u64 (dgl (n) 6 : Nat), .int .u64 (dgl (n) 7 : Nat)], .agg #[.int .u64 (dgl (d) 0 : Nat), .int .u64 (dgl (d) 1 : Nat), .int .u64 (dgl (d) 2 : Nat), .int .u64 (dgl (d) 3 : Nat), .int .u64 (dgl (d) 4 : Nat), .int .u64 (dgl (d) 5 : Nat), .int .u64 (dgl (d) 6 : Nat), .int .u64 (dgl (d) 7 : Nat)], .agg #[.int .u64 (dgl (x) 0 : Nat), .int .u64 (dgl (x) 1 : Nat), .int .u64 (dgl (x) 2 : Nat), .int .u64 (dgl (x) 3 : Nat), .int .u64 (dgl (x) 4 : Nat), .int .u64 (dgl (x) 5 : Nat), .int .u64 (dgl (x) 6 : Nat), .int .u64 (dgl (x) 7 : Nat)], .int .i64 most] w fun e w' => e = .returned (.tuple #[.agg #[.int .u64 (dgl (0) 0 : Nat), .int .u64 (dgl (0) 1 : Nat), .int .u64 (dgl (0) 2 : Nat), .int .u64 (dgl (0) 3 : Nat), .int .u64 (dgl (0) 4 : Nat), .int .u64 (dgl (0) 5 : Nat), .int .u64 (dgl (0) 6 : Nat), .int .u64 (dgl (0) 7 : Nat)], .agg #[.int .u64 (dgl (0) 0 : Nat), .int .u64 (dgl (0) 1 : Nat), .int .u64 (dgl (0) 2 : Nat), .int .u64 (dgl (0) 3 : Nat), .int .u64 (dgl (0) 4 : Nat), .int .u64 (dgl (0) 5 : Nat), .int .u64 (dgl (0) 6 : Nat), .int .u64 (dgl (0) 7 : Nat)], .int .i64 0, .int .i64 1]) ∧ Below w.heap.size w w'))
    (HZ : ∀ w, (Op.equalIn 10000 32 (.agg #[.int .u64 (dgl (0) 0 : Nat), .int .u64 (dgl (0) 1 : Nat), .int .u64 (dgl (0) 2 : Nat), .int .u64 (dgl (0) 3 : Nat), .int .u64 (dgl (0) 4 : Nat), .int .u64 (dgl (0) 5 : Nat), .int .u64 (dgl (0) 6 : Nat), .int .u64 (dgl (0) 7 : Nat)]) (.agg #[.int .u64 0, .int .u64 0, .int .u64 0, .int .u64 0, .int .u64 0, .int .u64 0, .int .u64 0, .int .u64 0])).run Try.prog w = .ok true w)
    (HAK : Hid (∀ w, Calls Try.prog 27 #[] w fun e w' => e = .returned (.bool true) ∧ Below w.heap.size w w')) :
    Calls Try.prog 6 #[.agg #[.int .u64 (dgl (n) 0 : Nat), .int .u64 (dgl (n) 1 : Nat), .int .u64 (dgl (n) 2 : Nat), .int .u64 (dgl (n) 3 : Nat), .int .u64 (dgl (n) 4 : Nat), .int .u64 (dgl (n) 5 : Nat), .int .u64 (dgl (n) 6 : Nat), .int .u64 (dgl (n) 7 : Nat)], .agg #[.int .u64 (dgl (d) 0 : Nat), .int .u64 (dgl (d) 1 : Nat), .int .u64 (dgl (d) 2 : Nat), .int .u64 (dgl (d) 3 : Nat), .int .u64 (dgl (d) 4 : Nat), .int .u64 (dgl (d) 5 : Nat), .int .u64 (dgl (d) 6 : Nat), .int .u64 (dgl (d) 7 : Nat)], .agg #[.int .u64 (dgl x 0 : Nat), .int .u64 (dgl x 1 : Nat), .int .u64 (dgl x 2 : Nat), .int .u64 (dgl x 3 : Nat), .int .u64 (dgl x 4 : Nat), .int .u64 (dgl x 5 : Nat), .int .u64 (dgl x 6 : Nat), .int .u64 (dgl x 7 : Nat), .bool raw, .int .i8 by_, .int .i64 most]] w fun e w' => e = .returned (.bool true) ∧ Below w.heap.size w w' := by
  have HS := hide (gqSt_start n d x raw by_ most w)
  go_enter Try.func6, Try.ntmps6
  go_upto_region 2 with fail
  refine wp_gen (fun W => GqSt n d x raw by_ most x w W) HS.out ?_
  clear HS
  rintro W0 h0
  have HS := hide h0
  clear h0
  have hn := HS.out.la.1
  have hd := HS.out.ld.1
  go_wp2_with fail
  refine (HM.out _).mono ?_
  rintro e w1 ⟨rfl, hb1⟩
  replace HS := hide (HS.out.below hb1)
  clear hn hd hb1
  have hn := HS.out.la.1
  have hd := HS.out.ld.1
  have hg := HS.out.lg.1
  have hr10 := HS.out.c10
  go_wp2_with fail
  refine (HQ.out _).mono ?_
  rintro e w2 ⟨rfl, hb2⟩
  replace HS := hide (HS.out.below hb2)
  clear hn hd hg hr10 hb2
  go_upto_region 7 with fail
  have hp2 := r2_put w2 w2 0 0 (Below.refl _ _) 32 32
  refine wp_gen (fun W => GqSt n d x raw by_ most x w W ∧ LiesF W w2.heap.size (dgl 0) ∧ LiesF W (w2.heap.size + 1) (dgl 0)) ⟨HS.out.below (below_trans (below_allocs _ _) (below_allocs _ _)), hp2.lx, hp2.ly⟩ ?_
  clear hp2 HS
  generalize w2.heap.size = p11 at *
  rintro W2 ⟨kHS, g1, g2⟩
  have HS := hide kHS
  have P11 := hide g1
  have P12 := hide g2
  clear kHS g1 g2
  go_cut [15] (fun y wx => y = .bool true ∧ wx = W2)
  case first =>
    have h11 := P11.out.1
    have h12 := P12.out.1
    go_wp2
    all_goals
      go_meet
      exact ⟨rfl, rfl⟩
  case rest =>
    obtain ⟨rfl, rfl⟩ := hcut
    clear HZ
    clear P11 P12
    have hr10 := HS.out.c10
    go_wp2_with fail
    refine (HAK.out _).mono ?_
    rintro e w3 ⟨rfl, hb3⟩
    replace HS := hide (HS.out.below hb3)
    clear hr10 hb3
    have HBE := hide HS.out.bel
    clear HS
    go_wp2
    go_ret
    exact ⟨rfl, HBE.out⟩

set_option maxHeartbeats 4000000 in
theorem fixQ_1a2 (n d x G A B L aw : Nat) (raw z1 z2 : Bool) (by_ most c : Int) (w : World) (hc : (c == 0) = false) (hc2 : (c != 0) = true) (hm0 : decide (most < 0) = false) (hm1 : decide (100 < most) = true)
    (HM : Hid (∀ w, Calls Try.prog 23 #[.agg #[.int .u64 (dgl (n) 0 : Nat), .int .u64 (dgl (n) 1 : Nat), .int .u64 (dgl (n) 2 : Nat), .int .u64 (dgl (n) 3 : Nat), .int .u64 (dgl (n) 4 : Nat), .int .u64 (dgl (n) 5 : Nat), .int .u64 (dgl (n) 6 : Nat), .int .u64 (dgl (n) 7 : Nat)], .agg #[.int .u64 (dgl (d) 0 : Nat), .int .u64 (dgl (d) 1 : Nat), .int .u64 (dgl (d) 2 : Nat), .int .u64 (dgl (d) 3 : Nat), .int .u64 (dgl (d) 4 : Nat), .int .u64 (dgl (d) 5 : Nat), .int .u64 (dgl (d) 6 : Nat), .int .u64 (dgl (d) 7 : Nat)]] w fun e w' => e = .returned (.int .i64 c) ∧ Below w.heap.size w w'))
    (HQ : Hid (∀ w, Calls Try.prog 26 #[.agg #[.int .u64 (dgl (n) 0 : Nat), .int .u64 (dgl (n) 1 : Nat), .int .u64 (dgl (n) 2 : Nat), .int .u64 (dgl (n) 3 : Nat), .int .u64 (dgl (n) 4 : Nat), .int .u64 (dgl (n) 5 : Nat), .int .u64 (dgl (n) 6 : Nat), .int .u64 (dgl (n) 7 : Nat)], .agg #[.int .u64 (dgl (d) 0 : Nat), .int .u64 (dgl (d) 1 : Nat), .int .u64 (dgl (d) 2 : Nat), .int .u64 (dgl (d) 3 : Nat), .int .u64 (dgl (d) 4 : Nat), .int .u64 (dgl (d) 5 : Nat), .int .u64 (dgl (d) 6 : Nat), .int .u64 (dgl (d) 7 : Nat)], .agg #[.int .u64 (dgl (x) 0 : Nat), .int .u64 (dgl (x) 1 : Nat), .int .u64 (dgl (x) 2 : Nat), .int .u64 (dgl (x) 3 : Nat), .int .u64 (dgl (x) 4 : Nat), .int .u64 (dgl (x) 5 : Nat), .int .u64 (dgl (x) 6 : Nat), .int .u64 (dgl (x) 7 : Nat)], .int .i64 most] w fun e w' => e = .returned (.tuple #[.agg #[.int .u64 (dgl (0) 0 : Nat), .int .u64 (dgl (0) 1 : Nat), .int .u64 (dgl (0) 2 : Nat), .int .u64 (dgl (0) 3 : Nat), .int .u64 (dgl (0) 4 : Nat), .int .u64 (dgl (0) 5 : Nat), .int .u64 (dgl (0) 6 : Nat), .int .u64 (dgl (0) 7 : Nat)], .agg #[.int .u64 (dgl (0) 0 : Nat), .int .u64 (dgl (0) 1 : Nat), .int .u64 (dgl (0) 2 : Nat), .int .u64 (dgl (0) 3 : Nat), .int .u64 (dgl (0) 4 : Nat), .int .u64 (dgl (0) 5 : Nat), .int .u64 (dgl (0) 6 : Nat), .int .u64 (dgl (0) 7 : Nat)], .int .i64 0, .int .i64 1]) ∧ Below w.heap.size w w'))
    (HZ : ∀ w, (Op.equalIn 10000 32 (.agg #[.int .u64 (dgl (0) 0 : Nat), .int .u64 (dgl (0) 1 : Nat), .int .u64 (dgl (0) 2 : Nat), .int .u64 (dgl (0) 3 : Nat), .int .u64 (dgl (0) 4 : Nat), .int .u64 (dgl (0) 5 : Nat), .int .u64 (dgl (0) 6 : Nat), .int .u64 (dgl (0) 7 : Nat)]) (.agg #[.int .u64 0, .int .u64 0, .int .u64 0, .int .u64 0, .int .u64 0, .int .u64 0, .int .u64 0, .int .u64 0])).run Try.prog w = .ok true w)
    (HAK : Hid (∀ w, Calls Try.prog 27 #[] w fun e w' => e = .returned (.bool true) ∧ Below w.heap.size w w')) :
    Calls Try.prog 6 #[.agg #[.int .u64 (dgl (n) 0 : Nat), .int .u64 (dgl (n) 1 : Nat), .int .u64 (dgl (n) 2 : Nat), .int .u64 (dgl (n) 3 : Nat), .int .u64 (dgl (n) 4 : Nat), .int .u64 (dgl (n) 5 : Nat), .int .u64 (dgl (n) 6 : Nat), .int .u64 (dgl (n) 7 : Nat)], .agg #[.int .u64 (dgl (d) 0 : Nat), .int .u64 (dgl (d) 1 : Nat), .int .u64 (dgl (d) 2 : Nat), .int .u64 (dgl (d) 3 : Nat), .int .u64 (dgl (d) 4 : Nat), .int .u64 (dgl (d) 5 : Nat), .int .u64 (dgl (d) 6 : Nat), .int .u64 (dgl (d) 7 : Nat)], .agg #[.int .u64 (dgl x 0 : Nat), .int .u64 (dgl x 1 : Nat), .int .u64 (dgl x 2 : Nat), .int .u64 (dgl x 3 : Nat), .int .u64 (dgl x 4 : Nat), .int .u64 (dgl x 5 : Nat), .int .u64 (dgl x 6 : Nat), .int .u64 (dgl x 7 : Nat), .bool raw, .int .i8 by_, .int .i64 most]] w fun e w' => e = .returned (.bool true) ∧ Below w.heap.size w w' := by
  have HS := hide (gqSt_start n d x raw by_ most w)
  go_enter Try.func6, Try.ntmps6
  go_upto_region 2 with fail
  refine wp_gen (fun W => GqSt n d x raw by_ most x w W) HS.out ?_
  clear HS
  rintro W0 h0
  have HS := hide h0
  clear h0
  have hn := HS.out.la.1
  have hd := HS.out.ld.1
  go_wp2_with fail
  refine (HM.out _).mono ?_
  rintro e w1 ⟨rfl, hb1⟩
  replace HS := hide (HS.out.below hb1)
  clear hn hd hb1
  have hn := HS.out.la.1
  have hd := HS.out.ld.1
  have hg := HS.out.lg.1
  have hr10 := HS.out.c10
  go_wp2_with fail
  refine (HQ.out _).mono ?_
  rintro e w2 ⟨rfl, hb2⟩
  replace HS := hide (HS.out.below hb2)
  clear hn hd hg hr10 hb2
  go_upto_region 7 with fail
  have hp2 := r2_put w2 w2 0 0 (Below.refl _ _) 32 32
  refine wp_gen (fun W => GqSt n d x raw by_ most x w W ∧ LiesF W w2.heap.size (dgl 0) ∧ LiesF W (w2.heap.size + 1) (dgl 0)) ⟨HS.out.below (below_trans (below_allocs _ _) (below_allocs _ _)), hp2.lx, hp2.ly⟩ ?_
  clear hp2 HS
  generalize w2.heap.size = p11 at *
  rintro W2 ⟨kHS, g1, g2⟩
  have HS := hide kHS
  have P11 := hide g1
  have P12 := hide g2
  clear kHS g1 g2
  go_cut [15] (fun y wx => y = .bool true ∧ wx = W2)
  case first =>
    have h11 := P11.out.1
    have h12 := P12.out.1
    go_wp2
    all_goals
      go_meet
      exact ⟨rfl, rfl⟩
  case rest =>
    obtain ⟨rfl, rfl⟩ := hcut
    clear HZ
    clear P11 P12
    have hr10 := HS.out.c10
    go_wp2_with fail
    refine (HAK.out _).mono ?_
    rintro e w3 ⟨rfl, hb3⟩
    replace HS := hide (HS.out.below hb3)
    clear hr10 hb3
    have HBE := hide HS.out.bel
    clear HS
    go_wp2
    go_ret
    exact ⟨rfl, HBE.out⟩

set_option maxHeartbeats 4000000 in
theorem fixQ_1b (n d x G A B L aw : Nat) (raw z1 z2 : Bool) (by_ most c : Int) (w : World) (hc : (c == 0) = false) (hc2 : (c != 0) = true) (hm0 : decide (most < 0) = false) (hm1 : decide (100 < most) = false)
    (HM : Hid (∀ w, Calls Try.prog 23 #[.agg #[.int .u64 (dgl (n) 0 : Nat), .int .u64 (dgl (n) 1 : Nat), .int .u64 (dgl (n) 2 : Nat), .int .u64 (dgl (n) 3 : Nat), .int .u64 (dgl (n) 4 : Nat), .int .u64 (dgl (n) 5 : Nat), .int .u64 (dgl (n) 6 : Nat), .int .u64 (dgl (n) 7 : Nat)], .agg #[.int .u64 (dgl (d) 0 : Nat), .int .u64 (dgl (d) 1 : Nat), .int .u64 (dgl (d) 2 : Nat), .int .u64 (dgl (d) 3 : Nat), .int .u64 (dgl (d) 4 : Nat), .int .u64 (dgl (d) 5 : Nat), .int .u64 (dgl (d) 6 : Nat), .int .u64 (dgl (d) 7 : Nat)]] w fun e w' => e = .returned (.int .i64 c) ∧ Below w.heap.size w w'))
    (HQ : Hid (∀ w, Calls Try.prog 26 #[.agg #[.int .u64 (dgl (n) 0 : Nat), .int .u64 (dgl (n) 1 : Nat), .int .u64 (dgl (n) 2 : Nat), .int .u64 (dgl (n) 3 : Nat), .int .u64 (dgl (n) 4 : Nat), .int .u64 (dgl (n) 5 : Nat), .int .u64 (dgl (n) 6 : Nat), .int .u64 (dgl (n) 7 : Nat)], .agg #[.int .u64 (dgl (d) 0 : Nat), .int .u64 (dgl (d) 1 : Nat), .int .u64 (dgl (d) 2 : Nat), .int .u64 (dgl (d) 3 : Nat), .int .u64 (dgl (d) 4 : Nat), .int .u64 (dgl (d) 5 : Nat), .int .u64 (dgl (d) 6 : Nat), .int .u64 (dgl (d) 7 : Nat)], .agg #[.int .u64 (dgl (x) 0 : Nat), .int .u64 (dgl (x) 1 : Nat), .int .u64 (dgl (x) 2 : Nat), .int .u64 (dgl (x) 3 : Nat), .int .u64 (dgl (x) 4 : Nat), .int .u64 (dgl (x) 5 : Nat), .int .u64 (dgl (x) 6 : Nat), .int .u64 (dgl (x) 7 : Nat)], .int .i64 most] w fun e w' => e = .returned (.tuple #[.agg #[.int .u64 (dgl (0) 0 : Nat), .int .u64 (dgl (0) 1 : Nat), .int .u64 (dgl (0) 2 : Nat), .int .u64 (dgl (0) 3 : Nat), .int .u64 (dgl (0) 4 : Nat), .int .u64 (dgl (0) 5 : Nat), .int .u64 (dgl (0) 6 : Nat), .int .u64 (dgl (0) 7 : Nat)], .agg #[.int .u64 (dgl (0) 0 : Nat), .int .u64 (dgl (0) 1 : Nat), .int .u64 (dgl (0) 2 : Nat), .int .u64 (dgl (0) 3 : Nat), .int .u64 (dgl (0) 4 : Nat), .int .u64 (dgl (0) 5 : Nat), .int .u64 (dgl (0) 6 : Nat), .int .u64 (dgl (0) 7 : Nat)], .int .i64 0, .int .i64 c]) ∧ Below w.heap.size w w'))
    (HZ : ∀ w, (Op.equalIn 10000 32 (.agg #[.int .u64 (dgl (0) 0 : Nat), .int .u64 (dgl (0) 1 : Nat), .int .u64 (dgl (0) 2 : Nat), .int .u64 (dgl (0) 3 : Nat), .int .u64 (dgl (0) 4 : Nat), .int .u64 (dgl (0) 5 : Nat), .int .u64 (dgl (0) 6 : Nat), .int .u64 (dgl (0) 7 : Nat)]) (.agg #[.int .u64 0, .int .u64 0, .int .u64 0, .int .u64 0, .int .u64 0, .int .u64 0, .int .u64 0, .int .u64 0])).run Try.prog w = .ok true w)
    (HAK : Hid (∀ w, Calls Try.prog 27 #[] w fun e w' => e = .returned (.bool true) ∧ Below w.heap.size w w')) :
    Calls Try.prog 6 #[.agg #[.int .u64 (dgl (n) 0 : Nat), .int .u64 (dgl (n) 1 : Nat), .int .u64 (dgl (n) 2 : Nat), .int .u64 (dgl (n) 3 : Nat), .int .u64 (dgl (n) 4 : Nat), .int .u64 (dgl (n) 5 : Nat), .int .u64 (dgl (n) 6 : Nat), .int .u64 (dgl (n) 7 : Nat)], .agg #[.int .u64 (dgl (d) 0 : Nat), .int .u64 (dgl (d) 1 : Nat), .int .u64 (dgl (d) 2 : Nat), .int .u64 (dgl (d) 3 : Nat), .int .u64 (dgl (d) 4 : Nat), .int .u64 (dgl (d) 5 : Nat), .int .u64 (dgl (d) 6 : Nat), .int .u64 (dgl (d) 7 : Nat)], .agg #[.int .u64 (dgl x 0 : Nat), .int .u64 (dgl x 1 : Nat), .int .u64 (dgl x 2 : Nat), .int .u64 (dgl x 3 : Nat), .int .u64 (dgl x 4 : Nat), .int .u64 (dgl x 5 : Nat), .int .u64 (dgl x 6 : Nat), .int .u64 (dgl x 7 : Nat), .bool raw, .int .i8 by_, .int .i64 most]] w fun e w' => e = .returned (.bool true) ∧ Below w.heap.size w w' := by
  have HS := hide (gqSt_start n d x raw by_ most w)
  go_enter Try.func6, Try.ntmps6
  go_upto_region 2 with fail
  refine wp_gen (fun W => GqSt n d x raw by_ most x w W) HS.out ?_
  clear HS
  rintro W0 h0
  have HS := hide h0
  clear h0
  have hn := HS.out.la.1
  have hd := HS.out.ld.1
  go_wp2_with fail
  refine (HM.out _).mono ?_
  rintro e w1 ⟨rfl, hb1⟩
  replace HS := hide (HS.out.below hb1)
  clear hn hd hb1
  have hn := HS.out.la.1
  have hd := HS.out.ld.1
  have hg := HS.out.lg.1
  have hr10 := HS.out.c10
  go_wp2_with fail
  refine (HQ.out _).mono ?_
  rintro e w2 ⟨rfl, hb2⟩
  replace HS := hide (HS.out.below hb2)
  clear hn hd hg hr10 hb2
  go_upto_region 7 with fail
  have hp2 := r2_put w2 w2 0 0 (Below.refl _ _) 32 32
  refine wp_gen (fun W => GqSt n d x raw by_ most x w W ∧ LiesF W w2.heap.size (dgl 0) ∧ LiesF W (w2.heap.size + 1) (dgl 0)) ⟨HS.out.below (below_trans (below_allocs _ _) (below_allocs _ _)), hp2.lx, hp2.ly⟩ ?_
  clear hp2 HS
  generalize w2.heap.size = p11 at *
  rintro W2 ⟨kHS, g1, g2⟩
  have HS := hide kHS
  have P11 := hide g1
  have P12 := hide g2
  clear kHS g1 g2
  go_cut [15] (fun y wx => y = .bool true ∧ wx = W2)
  case first =>
    have h11 := P11.out.1
    have h12 := P12.out.1
    go_wp2
    all_goals
      go_meet
      exact ⟨rfl, rfl⟩
  case rest =>
    obtain ⟨rfl, rfl⟩ := hcut
    clear HZ
    clear P11 P12
    have hr10 := HS.out.c10
    have hn := HS.out.la.1
    have hd := HS.out.ld.1
    go_wp2_with fail
    refine (HM.out _).mono ?_
    rintro e w3 ⟨rfl, hb3⟩
    replace HS := hide (HS.out.below hb3)
    clear hr10 hn hd hb3
    go_wp2_with fail
    refine (HAK.out _).mono ?_
    rintro e w4 ⟨rfl, hb4⟩
    replace HS := hide (HS.out.below hb4)
    clear hb4
    have HBE := hide HS.out.bel
    clear HS
    go_wp2
    go_ret
    exact ⟨rfl, HBE.out⟩

set_option maxHeartbeats 4000000 in
theorem fixQ_2a (n d x G A B L aw : Nat) (raw z1 z2 : Bool) (by_ most c : Int) (w : World) (hm : most < 0)
    (HM : Hid (∀ w, Calls Try.prog 23 #[.agg #[.int .u64 (dgl (n) 0 : Nat), .int .u64 (dgl (n) 1 : Nat), .int .u64 (dgl (n) 2 : Nat), .int .u64 (dgl (n) 3 : Nat), .int .u64 (dgl (n) 4 : Nat), .int .u64 (dgl (n) 5 : Nat), .int .u64 (dgl (n) 6 : Nat), .int .u64 (dgl (n) 7 : Nat)], .agg #[.int .u64 (dgl (d) 0 : Nat), .int .u64 (dgl (d) 1 : Nat), .int .u64 (dgl (d) 2 : Nat), .int .u64 (dgl (d) 3 : Nat), .int .u64 (dgl (d) 4 : Nat), .int .u64 (dgl (d) 5 : Nat), .int .u64 (dgl (d) 6 : Nat), .int .u64 (dgl (d) 7 : Nat)]] w fun e w' => e = .returned (.int .i64 0) ∧ Below w.heap.size w w'))
    (HQ : Hid (∀ w, Calls Try.prog 26 #[.agg #[.int .u64 (dgl (n) 0 : Nat), .int .u64 (dgl (n) 1 : Nat), .int .u64 (dgl (n) 2 : Nat), .int .u64 (dgl (n) 3 : Nat), .int .u64 (dgl (n) 4 : Nat), .int .u64 (dgl (n) 5 : Nat), .int .u64 (dgl (n) 6 : Nat), .int .u64 (dgl (n) 7 : Nat)], .agg #[.int .u64 (dgl (d) 0 : Nat), .int .u64 (dgl (d) 1 : Nat), .int .u64 (dgl (d) 2 : Nat), .int .u64 (dgl (d) 3 : Nat), .int .u64 (dgl (d) 4 : Nat), .int .u64 (dgl (d) 5 : Nat), .int .u64 (dgl (d) 6 : Nat), .int .u64 (dgl (d) 7 : Nat)], .agg #[.int .u64 (dgl (x) 0 : Nat), .int .u64 (dgl (x) 1 : Nat), .int .u64 (dgl (x) 2 : Nat), .int .u64 (dgl (x) 3 : Nat), .int .u64 (dgl (x) 4 : Nat), .int .u64 (dgl (x) 5 : Nat), .int .u64 (dgl (x) 6 : Nat), .int .u64 (dgl (x) 7 : Nat)], .int .i64 most] w fun e w' => e = .returned (.tuple #[.agg #[.int .u64 (dgl (0) 0 : Nat), .int .u64 (dgl (0) 1 : Nat), .int .u64 (dgl (0) 2 : Nat), .int .u64 (dgl (0) 3 : Nat), .int .u64 (dgl (0) 4 : Nat), .int .u64 (dgl (0) 5 : Nat), .int .u64 (dgl (0) 6 : Nat), .int .u64 (dgl (0) 7 : Nat)], .agg #[.int .u64 (dgl (0) 0 : Nat), .int .u64 (dgl (0) 1 : Nat), .int .u64 (dgl (0) 2 : Nat), .int .u64 (dgl (0) 3 : Nat), .int .u64 (dgl (0) 4 : Nat), .int .u64 (dgl (0) 5 : Nat), .int .u64 (dgl (0) 6 : Nat), .int .u64 (dgl (0) 7 : Nat)], .int .i64 0, .int .i64 1]) ∧ Below w.heap.size w w'))
    (HZ : ∀ w, (Op.equalIn 10000 32 (.agg #[.int .u64 (dgl (0) 0 : Nat), .int .u64 (dgl (0) 1 : Nat), .int .u64 (dgl (0) 2 : Nat), .int .u64 (dgl (0) 3 : Nat), .int .u64 (dgl (0) 4 : Nat), .int .u64 (dgl (0) 5 : Nat), .int .u64 (dgl (0) 6 : Nat), .int .u64 (dgl (0) 7 : Nat)]) (.agg #[.int .u64 0, .int .u64 0, .int .u64 0, .int .u64 0, .int .u64 0, .int .u64 0, .int .u64 0, .int .u64 0])).run Try.prog w = .ok true w)
    (HAK : Hid (∀ w, Calls Try.prog 27 #[] w fun e w' => e = .returned (.bool true) ∧ Below w.heap.size w w')) :
    Calls Try.prog 6 #[.agg #[.int .u64 (dgl (n) 0 : Nat), .int .u64 (dgl (n) 1 : Nat), .int .u64 (dgl (n) 2 : Nat), .int .u64 (dgl (n) 3 : Nat), .int .u64 (dgl (n) 4 : Nat), .int .u64 (dgl (n) 5 : Nat), .int .u64 (dgl (n) 6 : Nat), .int .u64 (dgl (n) 7 : Nat)], .agg #[.int .u64 (dgl (d) 0 : Nat), .int .u64 (dgl (d) 1 : Nat), .int .u64 (dgl (d) 2 : Nat), .int .u64 (dgl (d) 3 : Nat), .int .u64 (dgl (d) 4 : Nat), .int .u64 (dgl (d) 5 : Nat), .int .u64 (dgl (d) 6 : Nat), .int .u64 (dgl (d) 7 : Nat)], .agg #[.int .u64 (dgl x 0 : Nat), .int .u64 (dgl x 1 : Nat), .int .u64 (dgl x 2 : Nat), .int .u64 (dgl x 3 : Nat), .int .u64 (dgl x 4 : Nat), .int .u64 (dgl x 5 : Nat), .int .u64 (dgl x 6 : Nat), .int .u64 (dgl x 7 : Nat), .bool true, .int .i8 by_, .int .i64 most]] w fun e w' => e = .returned (.bool true) ∧ Below w.heap.size w w' := by
  have HS := hide (gqSt_start n d x true by_ most w)
  go_enter Try.func6, Try.ntmps6
  go_upto_region 2 with fail
  refine wp_gen (fun W => GqSt n d x true by_ most x w W) HS.out ?_
  clear HS
  rintro W0 h0
  have HS := hide h0
  clear h0
  have hn := HS.out.la.1
  have hd := HS.out.ld.1
  go_wp2_with fail
  refine (HM.out _).mono ?_
  rintro e w1 ⟨rfl, hb1⟩
  replace HS := hide (HS.out.below hb1)
  clear hn hd hb1
  have hn := HS.out.la.1
  have hd := HS.out.ld.1
  have hr8 := HS.out.c8
  have hg := HS.out.lg.1
  have hr10 := HS.out.c10
  go_wp2_with fail
  refine (HQ.out _).mono ?_
  rintro e w2 ⟨rfl, hb2⟩
  replace HS := hide (HS.out.below hb2)
  clear hn hd hr8 hg hr10 hb2
  go_upto_region 7 with fail
  have hp2 := r2_put w2 w2 0 0 (Below.refl _ _) 32 32
  refine wp_gen (fun W => GqSt n d x true by_ most x w W ∧ LiesF W w2.heap.size (dgl 0) ∧ LiesF W (w2.heap.size + 1) (dgl 0)) ⟨HS.out.below (below_trans (below_allocs _ _) (below_allocs _ _)), hp2.lx, hp2.ly⟩ ?_
  clear hp2 HS
  generalize w2.heap.size = p11 at *
  rintro W2 ⟨kHS, g1, g2⟩
  have HS := hide kHS
  have P11 := hide g1
  have P12 := hide g2
  clear kHS g1 g2
  go_cut [15] (fun y wx => y = .bool true ∧ wx = W2)
  case first =>
    have h11 := P11.out.1
    have h12 := P12.out.1
    go_wp2
    all_goals
      go_meet
      exact ⟨rfl, rfl⟩
  case rest =>
    obtain ⟨rfl, rfl⟩ := hcut
    clear HZ
    clear P11 P12
    have hr10 := HS.out.c10
    go_wp2_with fail
    refine (HAK.out _).mono ?_
    rintro e w3 ⟨rfl, hb3⟩
    replace HS := hide (HS.out.below hb3)
    clear hr10 hb3
    have HBE := hide HS.out.bel
    clear HS
    go_wp2
    go_ret
    exact ⟨rfl, HBE.out⟩

set_option maxHeartbeats 4000000 in
theorem fixQ_2a2 (n d x G A B L aw : Nat) (raw z1 z2 : Bool) (by_ most c : Int) (w : World) (hm0 : decide (most < 0) = false) (hm1 : decide (100 < most) = true)
    (HM : Hid (∀ w, Calls Try.prog 23 #[.agg #[.int .u64 (dgl (n) 0 : Nat), .int .u64 (dgl (n) 1 : Nat), .int .u64 (dgl (n) 2 : Nat), .int .u64 (dgl (n) 3 : Nat), .int .u64 (dgl (n) 4 : Nat), .int .u64 (dgl (n) 5 : Nat), .int .u64 (dgl (n) 6 : Nat), .int .u64 (dgl (n) 7 : Nat)], .agg #[.int .u64 (dgl (d) 0 : Nat), .int .u64 (dgl (d) 1 : Nat), .int .u64 (dgl (d) 2 : Nat), .int .u64 (dgl (d) 3 : Nat), .int .u64 (dgl (d) 4 : Nat), .int .u64 (dgl (d) 5 : Nat), .int .u64 (dgl (d) 6 : Nat), .int .u64 (dgl (d) 7 : Nat)]] w fun e w' => e = .returned (.int .i64 0) ∧ Below w.heap.size w w'))
    (HQ : Hid (∀ w, Calls Try.prog 26 #[.agg #[.int .u64 (dgl (n) 0 : Nat), .int .u64 (dgl (n) 1 : Nat), .int .u64 (dgl (n) 2 : Nat), .int .u64 (dgl (n) 3 : Nat), .int .u64 (dgl (n) 4 : Nat), .int .u64 (dgl (n) 5 : Nat), .int .u64 (dgl (n) 6 : Nat), .int .u64 (dgl (n) 7 : Nat)], .agg #[.int .u64 (dgl (d) 0 : Nat), .int .u64 (dgl (d) 1 : Nat), .int .u64 (dgl (d) 2 : Nat), .int .u64 (dgl (d) 3 : Nat), .int .u64 (dgl (d) 4 : Nat), .int .u64 (dgl (d) 5 : Nat), .int .u64 (dgl (d) 6 : Nat), .int .u64 (dgl (d) 7 : Nat)], .agg #[.int .u64 (dgl (x) 0 : Nat), .int .u64 (dgl (x) 1 : Nat), .int .u64 (dgl (x) 2 : Nat), .int .u64 (dgl (x) 3 : Nat), .int .u64 (dgl (x) 4 : Nat), .int .u64 (dgl (x) 5 : Nat), .int .u64 (dgl (x) 6 : Nat), .int .u64 (dgl (x) 7 : Nat)], .int .i64 most] w fun e w' => e = .returned (.tuple #[.agg #[.int .u64 (dgl (0) 0 : Nat), .int .u64 (dgl (0) 1 : Nat), .int .u64 (dgl (0) 2 : Nat), .int .u64 (dgl (0) 3 : Nat), .int .u64 (dgl (0) 4 : Nat), .int .u64 (dgl (0) 5 : Nat), .int .u64 (dgl (0) 6 : Nat), .int .u64 (dgl (0) 7 : Nat)], .agg #[.int .u64 (dgl (0) 0 : Nat), .int .u64 (dgl (0) 1 : Nat), .int .u64 (dgl (0) 2 : Nat), .int .u64 (dgl (0) 3 : Nat), .int .u64 (dgl (0) 4 : Nat), .int .u64 (dgl (0) 5 : Nat), .int .u64 (dgl (0) 6 : Nat), .int .u64 (dgl (0) 7 : Nat)], .int .i64 0, .int .i64 1]) ∧ Below w.heap.size w w'))
    (HZ : ∀ w, (Op.equalIn 10000 32 (.agg #[.int .u64 (dgl (0) 0 : Nat), .int .u64 (dgl (0) 1 : Nat), .int .u64 (dgl (0) 2 : Nat), .int .u64 (dgl (0) 3 : Nat), .int .u64 (dgl (0) 4 : Nat), .int .u64 (dgl (0) 5 : Nat), .int .u64 (dgl (0) 6 : Nat), .int .u64 (dgl (0) 7 : Nat)]) (.agg #[.int .u64 0, .int .u64 0, .int .u64 0, .int .u64 0, .int .u64 0, .int .u64 0, .int .u64 0, .int .u64 0])).run Try.prog w = .ok true w)
    (HAK : Hid (∀ w, Calls Try.prog 27 #[] w fun e w' => e = .returned (.bool true) ∧ Below w.heap.size w w')) :
    Calls Try.prog 6 #[.agg #[.int .u64 (dgl (n) 0 : Nat), .int .u64 (dgl (n) 1 : Nat), .int .u64 (dgl (n) 2 : Nat), .int .u64 (dgl (n) 3 : Nat), .int .u64 (dgl (n) 4 : Nat), .int .u64 (dgl (n) 5 : Nat), .int .u64 (dgl (n) 6 : Nat), .int .u64 (dgl (n) 7 : Nat)], .agg #[.int .u64 (dgl (d) 0 : Nat), .int .u64 (dgl (d) 1 : Nat), .int .u64 (dgl (d) 2 : Nat), .int .u64 (dgl (d) 3 : Nat), .int .u64 (dgl (d) 4 : Nat), .int .u64 (dgl (d) 5 : Nat), .int .u64 (dgl (d) 6 : Nat), .int .u64 (dgl (d) 7 : Nat)], .agg #[.int .u64 (dgl x 0 : Nat), .int .u64 (dgl x 1 : Nat), .int .u64 (dgl x 2 : Nat), .int .u64 (dgl x 3 : Nat), .int .u64 (dgl x 4 : Nat), .int .u64 (dgl x 5 : Nat), .int .u64 (dgl x 6 : Nat), .int .u64 (dgl x 7 : Nat), .bool true, .int .i8 by_, .int .i64 most]] w fun e w' => e = .returned (.bool true) ∧ Below w.heap.size w w' := by
  have HS := hide (gqSt_start n d x true by_ most w)
  go_enter Try.func6, Try.ntmps6
  go_upto_region 2 with fail
  refine wp_gen (fun W => GqSt n d x true by_ most x w W) HS.out ?_
  clear HS
  rintro W0 h0
  have HS := hide h0
  clear h0
  have hn := HS.out.la.1
  have hd := HS.out.ld.1
  go_wp2_with fail
  refine (HM.out _).mono ?_
  rintro e w1 ⟨rfl, hb1⟩
  replace HS := hide (HS.out.below hb1)
  clear hn hd hb1
  have hn := HS.out.la.1
  have hd := HS.out.ld.1
  have hr8 := HS.out.c8
  have hg := HS.out.lg.1
  have hr10 := HS.out.c10
  go_wp2_with fail
  refine (HQ.out _).mono ?_
  rintro e w2 ⟨rfl, hb2⟩
  replace HS := hide (HS.out.below hb2)
  clear hn hd hr8 hg hr10 hb2
  go_upto_region 7 with fail
  have hp2 := r2_put w2 w2 0 0 (Below.refl _ _) 32 32
  refine wp_gen (fun W => GqSt n d x true by_ most x w W ∧ LiesF W w2.heap.size (dgl 0) ∧ LiesF W (w2.heap.size + 1) (dgl 0)) ⟨HS.out.below (below_trans (below_allocs _ _) (below_allocs _ _)), hp2.lx, hp2.ly⟩ ?_
  clear hp2 HS
  generalize w2.heap.size = p11 at *
  rintro W2 ⟨kHS, g1, g2⟩
  have HS := hide kHS
  have P11 := hide g1
  have P12 := hide g2
  clear kHS g1 g2
  go_cut [15] (fun y wx => y = .bool true ∧ wx = W2)
  case first =>
    have h11 := P11.out.1
    have h12 := P12.out.1
    go_wp2
    all_goals
      go_meet
      exact ⟨rfl, rfl⟩
  case rest =>
    obtain ⟨rfl, rfl⟩ := hcut
    clear HZ
    clear P11 P12
    have hr10 := HS.out.c10
    go_wp2_with fail
    refine (HAK.out _).mono ?_
    rintro e w3 ⟨rfl, hb3⟩
    replace HS := hide (HS.out.below hb3)
    clear hr10 hb3
    have HBE := hide HS.out.bel
    clear HS
    go_wp2
    go_ret
    exact ⟨rfl, HBE.out⟩

set_option maxHeartbeats 4000000 in
theorem fixQ_2c (n d x G A B L aw : Nat) (raw z1 z2 : Bool) (by_ most c : Int) (w : World) (hm0 : decide (most < 0) = false) (hm1 : decide (100 < most) = false) (hL : decide (200 < (L : Int)) = true)
    (HM : Hid (∀ w, Calls Try.prog 23 #[.agg #[.int .u64 (dgl (n) 0 : Nat), .int .u64 (dgl (n) 1 : Nat), .int .u64 (dgl (n) 2 : Nat), .int .u64 (dgl (n) 3 : Nat), .int .u64 (dgl (n) 4 : Nat), .int .u64 (dgl (n) 5 : Nat), .int .u64 (dgl (n) 6 : Nat), .int .u64 (dgl (n) 7 : Nat)], .agg #[.int .u64 (dgl (d) 0 : Nat), .int .u64 (dgl (d) 1 : Nat), .int .u64 (dgl (d) 2 : Nat), .int .u64 (dgl (d) 3 : Nat), .int .u64 (dgl (d) 4 : Nat), .int .u64 (dgl (d) 5 : Nat), .int .u64 (dgl (d) 6 : Nat), .int .u64 (dgl (d) 7 : Nat)]] w fun e w' => e = .returned (.int .i64 0) ∧ Below w.heap.size w w'))
    (HQ : Hid (∀ w, Calls Try.prog 26 #[.agg #[.int .u64 (dgl (n) 0 : Nat), .int .u64 (dgl (n) 1 : Nat), .int .u64 (dgl (n) 2 : Nat), .int .u64 (dgl (n) 3 : Nat), .int .u64 (dgl (n) 4 : Nat), .int .u64 (dgl (n) 5 : Nat), .int .u64 (dgl (n) 6 : Nat), .int .u64 (dgl (n) 7 : Nat)], .agg #[.int .u64 (dgl (d) 0 : Nat), .int .u64 (dgl (d) 1 : Nat), .int .u64 (dgl (d) 2 : Nat), .int .u64 (dgl (d) 3 : Nat), .int .u64 (dgl (d) 4 : Nat), .int .u64 (dgl (d) 5 : Nat), .int .u64 (dgl (d) 6 : Nat), .int .u64 (dgl (d) 7 : Nat)], .agg #[.int .u64 (dgl (x) 0 : Nat), .int .u64 (dgl (x) 1 : Nat), .int .u64 (dgl (x) 2 : Nat), .int .u64 (dgl (x) 3 : Nat), .int .u64 (dgl (x) 4 : Nat), .int .u64 (dgl (x) 5 : Nat), .int .u64 (dgl (x) 6 : Nat), .int .u64 (dgl (x) 7 : Nat)], .int .i64 most] w fun e w' => e = .returned (.tuple #[.agg #[.int .u64 (dgl (0) 0 : Nat), .int .u64 (dgl (0) 1 : Nat), .int .u64 (dgl (0) 2 : Nat), .int .u64 (dgl (0) 3 : Nat), .int .u64 (dgl (0) 4 : Nat), .int .u64 (dgl (0) 5 : Nat), .int .u64 (dgl (0) 6 : Nat), .int .u64 (dgl (0) 7 : Nat)], .agg #[.int .u64 (dgl (0) 0 : Nat), .int .u64 (dgl (0) 1 : Nat), .int .u64 (dgl (0) 2 : Nat), .int .u64 (dgl (0) 3 : Nat), .int .u64 (dgl (0) 4 : Nat), .int .u64 (dgl (0) 5 : Nat), .int .u64 (dgl (0) 6 : Nat), .int .u64 (dgl (0) 7 : Nat)], .int .i64 0, .int .i64 4]) ∧ Below w.heap.size w w'))
    (HZ : ∀ w, (Op.equalIn 10000 32 (.agg #[.int .u64 (dgl (0) 0 : Nat), .int .u64 (dgl (0) 1 : Nat), .int .u64 (dgl (0) 2 : Nat), .int .u64 (dgl (0) 3 : Nat), .int .u64 (dgl (0) 4 : Nat), .int .u64 (dgl (0) 5 : Nat), .int .u64 (dgl (0) 6 : Nat), .int .u64 (dgl (0) 7 : Nat)]) (.agg #[.int .u64 0, .int .u64 0, .int .u64 0, .int .u64 0, .int .u64 0, .int .u64 0, .int .u64 0, .int .u64 0])).run Try.prog w = .ok true w)
    (HBG : Hid (∀ w, Calls Try.prog 19 #[.agg #[.int .u64 (dgl (x) 0 : Nat), .int .u64 (dgl (x) 1 : Nat), .int .u64 (dgl (x) 2 : Nat), .int .u64 (dgl (x) 3 : Nat), .int .u64 (dgl (x) 4 : Nat), .int .u64 (dgl (x) 5 : Nat), .int .u64 (dgl (x) 6 : Nat), .int .u64 (dgl (x) 7 : Nat)]] w fun e w' => ∃ v, e = .returned v ∧ BigV w' v x 40 ∧ Below w.heap.size w w'))
    (HLN : Hid (∀ u w, BigV w u x 40 → Calls Try.prog 28 #[u] w fun e w' => e = .returned (.int .i64 (L : Nat)) ∧ w' = w))
    (HAK : Hid (∀ w, Calls Try.prog 27 #[] w fun e w' => e = .returned (.bool true) ∧ Below w.heap.size w w')) :
    Calls Try.prog 6 #[.agg #[.int .u64 (dgl (n) 0 : Nat), .int .u64 (dgl (n) 1 : Nat), .int .u64 (dgl (n) 2 : Nat), .int .u64 (dgl (n) 3 : Nat), .int .u64 (dgl (n) 4 : Nat), .int .u64 (dgl (n) 5 : Nat), .int .u64 (dgl (n) 6 : Nat), .int .u64 (dgl (n) 7 : Nat)], .agg #[.int .u64 (dgl (d) 0 : Nat), .int .u64 (dgl (d) 1 : Nat), .int .u64 (dgl (d) 2 : Nat), .int .u64 (dgl (d) 3 : Nat), .int .u64 (dgl (d) 4 : Nat), .int .u64 (dgl (d) 5 : Nat), .int .u64 (dgl (d) 6 : Nat), .int .u64 (dgl (d) 7 : Nat)], .agg #[.int .u64 (dgl x 0 : Nat), .int .u64 (dgl x 1 : Nat), .int .u64 (dgl x 2 : Nat), .int .u64 (dgl x 3 : Nat), .int .u64 (dgl x 4 : Nat), .int .u64 (dgl x 5 : Nat), .int .u64 (dgl x 6 : Nat), .int .u64 (dgl x 7 : Nat), .bool true, .int .i8 by_, .int .i64 most]] w fun e w' => e = .returned (.bool true) ∧ Below w.heap.size w w' := by
  have HS := hide (gqSt_start n d x true by_ most w)
  go_enter Try.func6, Try.ntmps6
  go_upto_region 2 with fail
  refine wp_gen (fun W => GqSt n d x true by_ most x w W) HS.out ?_
  clear HS
  rintro W0 h0
  have HS := hide h0
  clear h0
  have hn := HS.out.la.1
  have hd := HS.out.ld.1
  go_wp2_with fail
  refine (HM.out _).mono ?_
  rintro e w1 ⟨rfl, hb1⟩
  replace HS := hide (HS.out.below hb1)
  clear hn hd hb1
  have hn := HS.out.la.1
  have hd := HS.out.ld.1
  have hr8 := HS.out.c8
  have hg := HS.out.lg.1
  have hr10 := HS.out.c10
  go_wp2_with fail
  refine (HQ.out _).mono ?_
  rintro e w2 ⟨rfl, hb2⟩
  replace HS := hide (HS.out.below hb2)
  clear hn hd hr8 hg hr10 hb2
  go_upto_region 7 with fail
  have hp2 := r2_put w2 w2 0 0 (Below.refl _ _) 32 32
  refine wp_gen (fun W => GqSt n d x true by_ most x w W ∧ LiesF W w2.heap.size (dgl 0) ∧ LiesF W (w2.heap.size + 1) (dgl 0)) ⟨HS.out.below (below_trans (below_allocs _ _) (below_allocs _ _)), hp2.lx, hp2.ly⟩ ?_
  clear hp2 HS
  generalize w2.heap.size = p11 at *
  rintro W2 ⟨kHS, g1, g2⟩
  have HS := hide kHS
  have P11 := hide g1
  have P12 := hide g2
  clear kHS g1 g2
  go_cut [15] (fun y wx => y = .bool true ∧ wx = W2)
  case first =>
    have h11 := P11.out.1
    have h12 := P12.out.1
    go_wp2
    all_goals
      go_meet
      exact ⟨rfl, rfl⟩
  case rest =>
    obtain ⟨rfl, rfl⟩ := hcut
    clear HZ
    clear P11 P12
    have hr10 := HS.out.c10
    have hn := HS.out.la.1
    have hd := HS.out.ld.1
    go_wp2_with fail
    refine (HM.out _).mono ?_
    rintro e w3 ⟨rfl, hb3⟩
    replace HS := hide (HS.out.below hb3)
    clear hr10 hn hd hb3
    have hg := HS.out.lg.1
    go_wp2_with fail
    refine (HBG.out _).mono ?_
    rintro e w4 ⟨v1, rfl, hv1, hb4⟩
    replace HS := hide (HS.out.below hb4)
    clear hg hb4
    go_wp2_with fail
    refine (HLN.out _ _ hv1).mono ?_
    rintro e w5 ⟨rfl, hw⟩
    subst w5
    clear hv1
    go_wp2_with fail
    refine (HAK.out _).mono ?_
    rintro e w5 ⟨rfl, hb5⟩
    replace HS := hide (HS.out.below hb5)
    clear hb5
    have HBE := hide HS.out.bel
    clear HS
    go_wp2
    go_ret
    exact ⟨rfl, HBE.out⟩

set_option maxHeartbeats 4000000 in
theorem fixQ_2d (n d x G A B L aw : Nat) (raw z1 z2 : Bool) (by_ most c : Int) (w : World) (hm0 : decide (most < 0) = false) (hm1 : decide (100 < most) = false) (hL : decide (200 < (L : Int)) = false)
    (HM : Hid (∀ w, Calls Try.prog 23 #[.agg #[.int .u64 (dgl (n) 0 : Nat), .int .u64 (dgl (n) 1 : Nat), .int .u64 (dgl (n) 2 : Nat), .int .u64 (dgl (n) 3 : Nat), .int .u64 (dgl (n) 4 : Nat), .int .u64 (dgl (n) 5 : Nat), .int .u64 (dgl (n) 6 : Nat), .int .u64 (dgl (n) 7 : Nat)], .agg #[.int .u64 (dgl (d) 0 : Nat), .int .u64 (dgl (d) 1 : Nat), .int .u64 (dgl (d) 2 : Nat), .int .u64 (dgl (d) 3 : Nat), .int .u64 (dgl (d) 4 : Nat), .int .u64 (dgl (d) 5 : Nat), .int .u64 (dgl (d) 6 : Nat), .int .u64 (dgl (d) 7 : Nat)]] w fun e w' => e = .returned (.int .i64 0) ∧ Below w.heap.size w w'))
    (HDV : Hid (∀ w, Calls Try.prog 24 #[.agg #[.int .u64 (dgl (n) 0 : Nat), .int .u64 (dgl (n) 1 : Nat), .int .u64 (dgl (n) 2 : Nat), .int .u64 (dgl (n) 3 : Nat), .int .u64 (dgl (n) 4 : Nat), .int .u64 (dgl (n) 5 : Nat), .int .u64 (dgl (n) 6 : Nat), .int .u64 (dgl (n) 7 : Nat)], .agg #[.int .u64 (dgl (d) 0 : Nat), .int .u64 (dgl (d) 1 : Nat), .int .u64 (dgl (d) 2 : Nat), .int .u64 (dgl (d) 3 : Nat), .int .u64 (dgl (d) 4 : Nat), .int .u64 (dgl (d) 5 : Nat), .int .u64 (dgl (d) 6 : Nat), .int .u64 (dgl (d) 7 : Nat)]] w fun e w' => e = .returned (.tuple #[.agg #[.int .u64 (dgl (A) 0 : Nat), .int .u64 (dgl (A) 1 : Nat), .int .u64 (dgl (A) 2 : Nat), .int .u64 (dgl (A) 3 : Nat), .int .u64 (dgl (A) 4 : Nat), .int .u64 (dgl (A) 5 : Nat), .int .u64 (dgl (A) 6 : Nat), .int .u64 (dgl (A) 7 : Nat)], .agg #[.int .u64 (dgl (B) 0 : Nat), .int .u64 (dgl (B) 1 : Nat), .int .u64 (dgl (B) 2 : Nat), .int .u64 (dgl (B) 3 : Nat), .int .u64 (dgl (B) 4 : Nat), .int .u64 (dgl (B) 5 : Nat), .int .u64 (dgl (B) 6 : Nat), .int .u64 (dgl (B) 7 : Nat)]]) ∧ Below w.heap.size w w'))
    (HQ : Hid (∀ w, Calls Try.prog 26 #[.agg #[.int .u64 (dgl (n) 0 : Nat), .int .u64 (dgl (n) 1 : Nat), .int .u64 (dgl (n) 2 : Nat), .int .u64 (dgl (n) 3 : Nat), .int .u64 (dgl (n) 4 : Nat), .int .u64 (dgl (n) 5 : Nat), .int .u64 (dgl (n) 6 : Nat), .int .u64 (dgl (n) 7 : Nat)], .agg #[.int .u64 (dgl (d) 0 : Nat), .int .u64 (dgl (d) 1 : Nat), .int .u64 (dgl (d) 2 : Nat), .int .u64 (dgl (d) 3 : Nat), .int .u64 (dgl (d) 4 : Nat), .int .u64 (dgl (d) 5 : Nat), .int .u64 (dgl (d) 6 : Nat), .int .u64 (dgl (d) 7 : Nat)], .agg #[.int .u64 (dgl (x) 0 : Nat), .int .u64 (dgl (x) 1 : Nat), .int .u64 (dgl (x) 2 : Nat), .int .u64 (dgl (x) 3 : Nat), .int .u64 (dgl (x) 4 : Nat), .int .u64 (dgl (x) 5 : Nat), .int .u64 (dgl (x) 6 : Nat), .int .u64 (dgl (x) 7 : Nat)], .int .i64 most] w fun e w' => e = .returned (.tuple #[.agg #[.int .u64 (dgl (0) 0 : Nat), .int .u64 (dgl (0) 1 : Nat), .int .u64 (dgl (0) 2 : Nat), .int .u64 (dgl (0) 3 : Nat), .int .u64 (dgl (0) 4 : Nat), .int .u64 (dgl (0) 5 : Nat), .int .u64 (dgl (0) 6 : Nat), .int .u64 (dgl (0) 7 : Nat)], .agg #[.int .u64 (dgl (0) 0 : Nat), .int .u64 (dgl (0) 1 : Nat), .int .u64 (dgl (0) 2 : Nat), .int .u64 (dgl (0) 3 : Nat), .int .u64 (dgl (0) 4 : Nat), .int .u64 (dgl (0) 5 : Nat), .int .u64 (dgl (0) 6 : Nat), .int .u64 (dgl (0) 7 : Nat)], .int .i64 0, .int .i64 6]) ∧ Below w.heap.size w w'))
    (HZ : ∀ w, (Op.equalIn 10000 32 (.agg #[.int .u64 (dgl (0) 0 : Nat), .int .u64 (dgl (0) 1 : Nat), .int .u64 (dgl (0) 2 : Nat), .int .u64 (dgl (0) 3 : Nat), .int .u64 (dgl (0) 4 : Nat), .int .u64 (dgl (0) 5 : Nat), .int .u64 (dgl (0) 6 : Nat), .int .u64 (dgl (0) 7 : Nat)]) (.agg #[.int .u64 0, .int .u64 0, .int .u64 0, .int .u64 0, .int .u64 0, .int .u64 0, .int .u64 0, .int .u64 0])).run Try.prog w = .ok true w)
    (HBG : Hid (∀ w, Calls Try.prog 19 #[.agg #[.int .u64 (dgl (x) 0 : Nat), .int .u64 (dgl (x) 1 : Nat), .int .u64 (dgl (x) 2 : Nat), .int .u64 (dgl (x) 3 : Nat), .int .u64 (dgl (x) 4 : Nat), .int .u64 (dgl (x) 5 : Nat), .int .u64 (dgl (x) 6 : Nat), .int .u64 (dgl (x) 7 : Nat)]] w fun e w' => ∃ v, e = .returned v ∧ BigV w' v x 40 ∧ Below w.heap.size w w'))
    (HLN : Hid (∀ u w, BigV w u x 40 → Calls Try.prog 28 #[u] w fun e w' => e = .returned (.int .i64 (L : Nat)) ∧ w' = w))
    (HBA : Hid (∀ w, Calls Try.prog 19 #[.agg #[.int .u64 (dgl (A) 0 : Nat), .int .u64 (dgl (A) 1 : Nat), .int .u64 (dgl (A) 2 : Nat), .int .u64 (dgl (A) 3 : Nat), .int .u64 (dgl (A) 4 : Nat), .int .u64 (dgl (A) 5 : Nat), .int .u64 (dgl (A) 6 : Nat), .int .u64 (dgl (A) 7 : Nat)]] w fun e w' => ∃ v, e = .returned v ∧ BigV w' v A 40 ∧ Below w.heap.size w w'))
    (HAW : Hid (∀ u v w, BigV w u A 40 → BigV w v x 40 → Calls Try.prog 29 #[u, v] w fun e w' => ∃ v, e = .returned v ∧ BigV w' v aw 40 ∧ Below w.heap.size w w'))
    (HWI : Hid (∀ u w, BigV w u aw 40 → Calls Try.prog 30 #[u, .int .i64 most] w fun e w' => e = .returned (.bool false) ∧ Below w.heap.size w w'))
    (HAK : Hid (∀ w, Calls Try.prog 27 #[] w fun e w' => e = .returned (.bool true) ∧ Below w.heap.size w w')) :
    Calls Try.prog 6 #[.agg #[.int .u64 (dgl (n) 0 : Nat), .int .u64 (dgl (n) 1 : Nat), .int .u64 (dgl (n) 2 : Nat), .int .u64 (dgl (n) 3 : Nat), .int .u64 (dgl (n) 4 : Nat), .int .u64 (dgl (n) 5 : Nat), .int .u64 (dgl (n) 6 : Nat), .int .u64 (dgl (n) 7 : Nat)], .agg #[.int .u64 (dgl (d) 0 : Nat), .int .u64 (dgl (d) 1 : Nat), .int .u64 (dgl (d) 2 : Nat), .int .u64 (dgl (d) 3 : Nat), .int .u64 (dgl (d) 4 : Nat), .int .u64 (dgl (d) 5 : Nat), .int .u64 (dgl (d) 6 : Nat), .int .u64 (dgl (d) 7 : Nat)], .agg #[.int .u64 (dgl x 0 : Nat), .int .u64 (dgl x 1 : Nat), .int .u64 (dgl x 2 : Nat), .int .u64 (dgl x 3 : Nat), .int .u64 (dgl x 4 : Nat), .int .u64 (dgl x 5 : Nat), .int .u64 (dgl x 6 : Nat), .int .u64 (dgl x 7 : Nat), .bool true, .int .i8 by_, .int .i64 most]] w fun e w' => e = .returned (.bool true) ∧ Below w.heap.size w w' := by
  have HS := hide (gqSt_start n d x true by_ most w)
  go_enter Try.func6, Try.ntmps6
  go_upto_region 2 with fail
  refine wp_gen (fun W => GqSt n d x true by_ most x w W) HS.out ?_
  clear HS
  rintro W0 h0
  have HS := hide h0
  clear h0
  have hn := HS.out.la.1
  have hd := HS.out.ld.1
  go_wp2_with fail
  refine (HM.out _).mono ?_
  rintro e w1 ⟨rfl, hb1⟩
  replace HS := hide (HS.out.below hb1)
  clear hn hd hb1
  have hn := HS.out.la.1
  have hd := HS.out.ld.1
  have hr8 := HS.out.c8
  have hg := HS.out.lg.1
  have hr10 := HS.out.c10
  go_wp2_with fail
  refine (HQ.out _).mono ?_
  rintro e w2 ⟨rfl, hb2⟩
  replace HS := hide (HS.out.below hb2)
  clear hn hd hr8 hg hr10 hb2
  go_upto_region 7 with fail
  have hp2 := r2_put w2 w2 0 0 (Below.refl _ _) 32 32
  refine wp_gen (fun W => GqSt n d x true by_ most x w W ∧ LiesF W w2.heap.size (dgl 0) ∧ LiesF W (w2.heap.size + 1) (dgl 0)) ⟨HS.out.below (below_trans (below_allocs _ _) (below_allocs _ _)), hp2.lx, hp2.ly⟩ ?_
  clear hp2 HS
  generalize w2.heap.size = p11 at *
  rintro W2 ⟨kHS, g1, g2⟩
  have HS := hide kHS
  have P11 := hide g1
  have P12 := hide g2
  clear kHS g1 g2
  go_cut [15] (fun y wx => y = .bool true ∧ wx = W2)
  case first =>
    have h11 := P11.out.1
    have h12 := P12.out.1
    go_wp2
    all_goals
      go_meet
      exact ⟨rfl, rfl⟩
  case rest =>
    obtain ⟨rfl, rfl⟩ := hcut
    clear HZ
    clear P11 P12
    have hr10 := HS.out.c10
    have hn := HS.out.la.1
    have hd := HS.out.ld.1
    go_wp2_with fail
    refine (HM.out _).mono ?_
    rintro e w3 ⟨rfl, hb3⟩
    replace HS := hide (HS.out.below hb3)
    clear hr10 hn hd hb3
    have hg := HS.out.lg.1
    go_wp2_with fail
    refine (HBG.out _).mono ?_
    rintro e w4 ⟨v1, rfl, hv1, hb4⟩
    replace HS := hide (HS.out.below hb4)
    clear hg hb4
    go_wp2_with fail
    refine (HLN.out _ _ hv1).mono ?_
    rintro e w5 ⟨rfl, hw⟩
    subst w5
    clear hv1 HLN
    have hn := HS.out.la.1
    have hd := HS.out.ld.1
    go_wp2_with fail
    refine (HDV.out _).mono ?_
    rintro e w5 ⟨rfl, hb5⟩
    replace HS := hide (HS.out.below hb5)
    clear hn hd hb5
    go_upto_region 16 with fail
    have hp2 := r2_put w5 w5 A B (Below.refl _ _) 32 32
    refine wp_gen (fun W => GqSt n d x true by_ most x w W ∧ LiesF W w5.heap.size (dgl A) ∧ LiesF W (w5.heap.size + 1) (dgl B)) ⟨HS.out.below (below_trans (below_allocs _ _) (below_allocs _ _)), hp2.lx, hp2.ly⟩ ?_
    clear hp2 HS
    generalize w5.heap.size = p17 at *
    rintro W5 ⟨kHS, g1, g2⟩
    have HS := hide kHS
    have P17 := hide g1
    have P18 := hide g2
    clear kHS g1 g2
    have g17 := P17.out
    refine wp_region_grow 6 [(113, .val (.agg #[.int .u64 (dgl (A) 0 : Nat), .int .u64 (dgl (A) 1 : Nat), .int .u64 (dgl (A) 2 : Nat), .int .u64 (dgl (A) 3 : Nat), .int .u64 (dgl (A) 4 : Nat), .int .u64 (dgl (A) 5 : Nat), .int .u64 (dgl (A) 6 : Nat), .int .u64 (dgl (A) 7 : Nat)])), (114, .big A 40), (115, .val (.agg #[.int .u64 (dgl (x) 0 : Nat), .int .u64 (dgl (x) 1 : Nat), .int .u64 (dgl (x) 2 : Nat), .int .u64 (dgl (x) 3 : Nat), .int .u64 (dgl (x) 4 : Nat), .int .u64 (dgl (x) 5 : Nat), .int .u64 (dgl (x) 6 : Nat), .int .u64 (dgl (x) 7 : Nat)])), (116, .big x 40), (117, .big aw 40), (19, .big aw 40)]
      (fun W => GqSt n d x true by_ most x w W ∧ LiesF W p17 (dgl A)) mixedOk (by kernel_rfl) (by kernel_rfl) (⟨HS.out.below (Below.refl _ _).drew, g17.below (Below.refl _ _).drew⟩) (fun W W' h hb => ⟨h.1.below hb, h.2.below hb⟩) ?_ ?_
    · refine gSt (gStep_run rfl ?_) ?_
      · intro ρ W hC hc hf hL
        have e17 : ρ (.tmp 17) = .pointer (some ⟨p17, 0, none⟩) := hL 17 (by decide +kernel)
        have hl := hC.2.1
        simp [go_sem, hc, hf, e17, hl]
        exact ⟨Below.refl _ _, rfl⟩
      refine gSt (gStep_run rfl ?_) ?_
      · intro ρ W hC hc hf hL
        have e113 : ρ (.tmp 113) = .agg #[.int .u64 (dgl (A) 0 : Nat), .int .u64 (dgl (A) 1 : Nat), .int .u64 (dgl (A) 2 : Nat), .int .u64 (dgl (A) 3 : Nat), .int .u64 (dgl (A) 4 : Nat), .int .u64 (dgl (A) 5 : Nat), .int .u64 (dgl (A) 6 : Nat), .int .u64 (dgl (A) 7 : Nat)] := hL 113 (by decide +kernel)
        simp [go_sem, hc, hf, e113]
        refine (HBA.out W).mono ?_
        rintro e w' ⟨v, rfl, hv, hb⟩
        exact ⟨_, rfl, hb, hv⟩
      refine gSt (gStep_run rfl ?_) ?_
      · intro ρ W hC hc hf hL
        have e7 : ρ (.tmp 7) = .pointer (some ⟨w.heap.size + 3, 0, none⟩) := hL 7 (by decide +kernel)
        have hl := hC.1.lg.1
        simp [go_sem, hc, hf, e7, hl]
        exact ⟨Below.refl _ _, rfl⟩
      refine gSt (gStep_run rfl ?_) ?_
      · intro ρ W hC hc hf hL
        have e115 : ρ (.tmp 115) = .agg #[.int .u64 (dgl (x) 0 : Nat), .int .u64 (dgl (x) 1 : Nat), .int .u64 (dgl (x) 2 : Nat), .int .u64 (dgl (x) 3 : Nat), .int .u64 (dgl (x) 4 : Nat), .int .u64 (dgl (x) 5 : Nat), .int .u64 (dgl (x) 6 : Nat), .int .u64 (dgl (x) 7 : Nat)] := hL 115 (by decide +kernel)
        simp [go_sem, hc, hf, e115]
        refine (HBG.out W).mono ?_
        rintro e w' ⟨v, rfl, hv, hb⟩
        exact ⟨_, rfl, hb, hv⟩
      refine gSt (gStep_run rfl ?_) ?_
      · intro ρ W hC hc hf hL
        have b114 : BigV W (ρ (.tmp 114)) (A) (40) := hL 114 (by decide +kernel)
        have b116 : BigV W (ρ (.tmp 116)) (x) (40) := hL 116 (by decide +kernel)
        simp [go_sem, hc, hf]
        refine (HAW.out _ _ W b114 b116).mono ?_
        rintro e w' ⟨v, rfl, hv, hb⟩
        exact ⟨_, rfl, hb, hv⟩
      refine gSt (gStep_run rfl (gRun_move 117 19 (.inr rfl) rfl (by decide +kernel) (fun v w h => h))) ?_
      exact gSt0
    · intro W hC
      refine gFi 113 rfl ?_
      rintro _ rfl
      refine gFi 114 rfl ?_
      rintro u114 b114
      refine gFi 115 rfl ?_
      rintro _ rfl
      refine gFi 116 rfl ?_
      rintro u116 b116
      refine gFi 117 rfl ?_
      rintro u117 b117
      refine gFi 19 rfl ?_
      rintro u19 b19
      refine gFi0 ?_
      simp only [List.drop_succ_cons, List.drop_zero, Act.put, List.setIfInBounds_toArray, List.set_cons_succ, List.set_cons_zero]
      clear HS g17 P17 P18
      have HS := hide hC.1
      clear hC b114 b116 b117
      have hr10 := HS.out.c10
      go_wp2_with fail
      refine (HWI.out _ _ b19).mono ?_
      rintro e w6 ⟨rfl, hb6⟩
      replace HS := hide (HS.out.below hb6)
      clear hr10 hb6
      go_wp2_with fail
      refine (HAK.out _).mono ?_
      rintro e w7 ⟨rfl, hb7⟩
      replace HS := hide (HS.out.below hb7)
      clear hb7
      have HBE := hide HS.out.bel
      clear HS
      go_wp2
      go_ret
      exact ⟨rfl, HBE.out⟩
end Go.Proofs.Yteocibahclpegaa

/- Contracts: the law FixQuotients, walked. -/
set_option linter.unusedVariables false
set_option linter.unusedSimpArgs false
set_option maxRecDepth 8000
namespace Go.Proofs.Yteocibahclpegaa
open Go.RowKit Plain

set_option maxHeartbeats 4000000 in
theorem fixQ_3a (n d x G A B L aw : Nat) (raw z1 z2 : Bool) (by_ most c : Int) (w : World) (hm : most < 0)
    (HM : Hid (∀ w, Calls Try.prog 23 #[.agg #[.int .u64 (dgl (n) 0 : Nat), .int .u64 (dgl (n) 1 : Nat), .int .u64 (dgl (n) 2 : Nat), .int .u64 (dgl (n) 3 : Nat), .int .u64 (dgl (n) 4 : Nat), .int .u64 (dgl (n) 5 : Nat), .int .u64 (dgl (n) 6 : Nat), .int .u64 (dgl (n) 7 : Nat)], .agg #[.int .u64 (dgl (d) 0 : Nat), .int .u64 (dgl (d) 1 : Nat), .int .u64 (dgl (d) 2 : Nat), .int .u64 (dgl (d) 3 : Nat), .int .u64 (dgl (d) 4 : Nat), .int .u64 (dgl (d) 5 : Nat), .int .u64 (dgl (d) 6 : Nat), .int .u64 (dgl (d) 7 : Nat)]] w fun e w' => e = .returned (.int .i64 0) ∧ Below w.heap.size w w'))
    (HDV : Hid (∀ w, Calls Try.prog 24 #[.agg #[.int .u64 (dgl (n) 0 : Nat), .int .u64 (dgl (n) 1 : Nat), .int .u64 (dgl (n) 2 : Nat), .int .u64 (dgl (n) 3 : Nat), .int .u64 (dgl (n) 4 : Nat), .int .u64 (dgl (n) 5 : Nat), .int .u64 (dgl (n) 6 : Nat), .int .u64 (dgl (n) 7 : Nat)], .agg #[.int .u64 (dgl (d) 0 : Nat), .int .u64 (dgl (d) 1 : Nat), .int .u64 (dgl (d) 2 : Nat), .int .u64 (dgl (d) 3 : Nat), .int .u64 (dgl (d) 4 : Nat), .int .u64 (dgl (d) 5 : Nat), .int .u64 (dgl (d) 6 : Nat), .int .u64 (dgl (d) 7 : Nat)]] w fun e w' => e = .returned (.tuple #[.agg #[.int .u64 (dgl (A) 0 : Nat), .int .u64 (dgl (A) 1 : Nat), .int .u64 (dgl (A) 2 : Nat), .int .u64 (dgl (A) 3 : Nat), .int .u64 (dgl (A) 4 : Nat), .int .u64 (dgl (A) 5 : Nat), .int .u64 (dgl (A) 6 : Nat), .int .u64 (dgl (A) 7 : Nat)], .agg #[.int .u64 (dgl (B) 0 : Nat), .int .u64 (dgl (B) 1 : Nat), .int .u64 (dgl (B) 2 : Nat), .int .u64 (dgl (B) 3 : Nat), .int .u64 (dgl (B) 4 : Nat), .int .u64 (dgl (B) 5 : Nat), .int .u64 (dgl (B) 6 : Nat), .int .u64 (dgl (B) 7 : Nat)]]) ∧ Below w.heap.size w w'))
    (HBT : Hid (∀ w, Calls Try.prog 25 #[.agg #[.int .u64 (dgl (A) 0 : Nat), .int .u64 (dgl (A) 1 : Nat), .int .u64 (dgl (A) 2 : Nat), .int .u64 (dgl (A) 3 : Nat), .int .u64 (dgl (A) 4 : Nat), .int .u64 (dgl (A) 5 : Nat), .int .u64 (dgl (A) 6 : Nat), .int .u64 (dgl (A) 7 : Nat)], .int .i8 by_] w fun e w' => e = .returned (.agg #[.int .u64 (dgl (G) 0 : Nat), .int .u64 (dgl (G) 1 : Nat), .int .u64 (dgl (G) 2 : Nat), .int .u64 (dgl (G) 3 : Nat), .int .u64 (dgl (G) 4 : Nat), .int .u64 (dgl (G) 5 : Nat), .int .u64 (dgl (G) 6 : Nat), .int .u64 (dgl (G) 7 : Nat)]) ∧ Below w.heap.size w w'))
    (HQ : Hid (∀ w, Calls Try.prog 26 #[.agg #[.int .u64 (dgl (n) 0 : Nat), .int .u64 (dgl (n) 1 : Nat), .int .u64 (dgl (n) 2 : Nat), .int .u64 (dgl (n) 3 : Nat), .int .u64 (dgl (n) 4 : Nat), .int .u64 (dgl (n) 5 : Nat), .int .u64 (dgl (n) 6 : Nat), .int .u64 (dgl (n) 7 : Nat)], .agg #[.int .u64 (dgl (d) 0 : Nat), .int .u64 (dgl (d) 1 : Nat), .int .u64 (dgl (d) 2 : Nat), .int .u64 (dgl (d) 3 : Nat), .int .u64 (dgl (d) 4 : Nat), .int .u64 (dgl (d) 5 : Nat), .int .u64 (dgl (d) 6 : Nat), .int .u64 (dgl (d) 7 : Nat)], .agg #[.int .u64 (dgl (G) 0 : Nat), .int .u64 (dgl (G) 1 : Nat), .int .u64 (dgl (G) 2 : Nat), .int .u64 (dgl (G) 3 : Nat), .int .u64 (dgl (G) 4 : Nat), .int .u64 (dgl (G) 5 : Nat), .int .u64 (dgl (G) 6 : Nat), .int .u64 (dgl (G) 7 : Nat)], .int .i64 most] w fun e w' => e = .returned (.tuple #[.agg #[.int .u64 (dgl (0) 0 : Nat), .int .u64 (dgl (0) 1 : Nat), .int .u64 (dgl (0) 2 : Nat), .int .u64 (dgl (0) 3 : Nat), .int .u64 (dgl (0) 4 : Nat), .int .u64 (dgl (0) 5 : Nat), .int .u64 (dgl (0) 6 : Nat), .int .u64 (dgl (0) 7 : Nat)], .agg #[.int .u64 (dgl (0) 0 : Nat), .int .u64 (dgl (0) 1 : Nat), .int .u64 (dgl (0) 2 : Nat), .int .u64 (dgl (0) 3 : Nat), .int .u64 (dgl (0) 4 : Nat), .int .u64 (dgl (0) 5 : Nat), .int .u64 (dgl (0) 6 : Nat), .int .u64 (dgl (0) 7 : Nat)], .int .i64 0, .int .i64 1]) ∧ Below w.heap.size w w'))
    (HZ : ∀ w, (Op.equalIn 10000 32 (.agg #[.int .u64 (dgl (0) 0 : Nat), .int .u64 (dgl (0) 1 : Nat), .int .u64 (dgl (0) 2 : Nat), .int .u64 (dgl (0) 3 : Nat), .int .u64 (dgl (0) 4 : Nat), .int .u64 (dgl (0) 5 : Nat), .int .u64 (dgl (0) 6 : Nat), .int .u64 (dgl (0) 7 : Nat)]) (.agg #[.int .u64 0, .int .u64 0, .int .u64 0, .int .u64 0, .int .u64 0, .int .u64 0, .int .u64 0, .int .u64 0])).run Try.prog w = .ok true w)
    (HAK : Hid (∀ w, Calls Try.prog 27 #[] w fun e w' => e = .returned (.bool true) ∧ Below w.heap.size w w')) :
    Calls Try.prog 6 #[.agg #[.int .u64 (dgl (n) 0 : Nat), .int .u64 (dgl (n) 1 : Nat), .int .u64 (dgl (n) 2 : Nat), .int .u64 (dgl (n) 3 : Nat), .int .u64 (dgl (n) 4 : Nat), .int .u64 (dgl (n) 5 : Nat), .int .u64 (dgl (n) 6 : Nat), .int .u64 (dgl (n) 7 : Nat)], .agg #[.int .u64 (dgl (d) 0 : Nat), .int .u64 (dgl (d) 1 : Nat), .int .u64 (dgl (d) 2 : Nat), .int .u64 (dgl (d) 3 : Nat), .int .u64 (dgl (d) 4 : Nat), .int .u64 (dgl (d) 5 : Nat), .int .u64 (dgl (d) 6 : Nat), .int .u64 (dgl (d) 7 : Nat)], .agg #[.int .u64 (dgl x 0 : Nat), .int .u64 (dgl x 1 : Nat), .int .u64 (dgl x 2 : Nat), .int .u64 (dgl x 3 : Nat), .int .u64 (dgl x 4 : Nat), .int .u64 (dgl x 5 : Nat), .int .u64 (dgl x 6 : Nat), .int .u64 (dgl x 7 : Nat), .bool false, .int .i8 by_, .int .i64 most]] w fun e w' => e = .returned (.bool true) ∧ Below w.heap.size w w' := by
  have HS := hide (gqSt_start n d x false by_ most w)
  go_enter Try.func6, Try.ntmps6
  go_upto_region 2 with fail
  refine wp_gen (fun W => GqSt n d x false by_ most x w W) HS.out ?_
  clear HS
  rintro W0 h0
  have HS := hide h0
  clear h0
  have hn := HS.out.la.1
  have hd := HS.out.ld.1
  go_wp2_with fail
  refine (HM.out _).mono ?_
  rintro e w1 ⟨rfl, hb1⟩
  replace HS := hide (HS.out.below hb1)
  clear hn hd hb1
  have hn := HS.out.la.1
  have hd := HS.out.ld.1
  have hr8 := HS.out.c8
  go_wp2_with fail
  refine (HDV.out _).mono ?_
  rintro e w2 ⟨rfl, hb2⟩
  replace HS := hide (HS.out.below hb2)
  clear hn hd hr8 hb2
  go_upto_region 5 with fail
  have hp2 := r2_put w2 w2 A B (Below.refl _ _) 32 32
  refine wp_gen (fun W => GqSt n d x false by_ most x w W ∧ LiesF W w2.heap.size (dgl A) ∧ LiesF W (w2.heap.size + 1) (dgl B)) ⟨HS.out.below (below_trans (below_allocs _ _) (below_allocs _ _)), hp2.lx, hp2.ly⟩ ?_
  clear hp2 HS
  generalize w2.heap.size = p9 at *
  rintro W2 ⟨kHS, g1, g2⟩
  have HS := hide kHS
  have P9 := hide g1
  have P10 := hide g2
  clear kHS g1 g2
  clear P10
  have hp9 := P9.out.1
  have hr9 := HS.out.c9
  go_wp2_with fail
  refine (HBT.out _).mono ?_
  rintro e w3 ⟨rfl, hb3⟩
  replace HS := hide (HS.out.below hb3)
  replace P9 := hide (P9.out.below hb3)
  clear hp9 hr9 hb3
  clear P9
  have hg := HS.out.lg.1
  have hgl := HS.out.lg.2
  have hgf := HS.out.fg
  go_upto_region 6 with fail
  refine wp_gen (fun W => GqSt n d x false by_ most G w W) (gqSt_set HS.out G) ?_
  clear HS hg hgl hgf
  rintro W1 h1
  have HS := hide h1
  clear h1
  have hn := HS.out.la.1
  have hd := HS.out.ld.1
  have hg := HS.out.lg.1
  have hr10 := HS.out.c10
  go_wp2_with fail
  refine (HQ.out _).mono ?_
  rintro e w4 ⟨rfl, hb4⟩
  replace HS := hide (HS.out.below hb4)
  clear hn hd hg hr10 hb4
  go_upto_region 7 with fail
  have hp2 := r2_put w4 w4 0 0 (Below.refl _ _) 32 32
  refine wp_gen (fun W => GqSt n d x false by_ most G w W ∧ LiesF W w4.heap.size (dgl 0) ∧ LiesF W (w4.heap.size + 1) (dgl 0)) ⟨HS.out.below (below_trans (below_allocs _ _) (below_allocs _ _)), hp2.lx, hp2.ly⟩ ?_
  clear hp2 HS
  generalize w4.heap.size = p11 at *
  rintro W4 ⟨kHS, g1, g2⟩
  have HS := hide kHS
  have P11 := hide g1
  have P12 := hide g2
  clear kHS g1 g2
  go_cut [15] (fun y wx => y = .bool true ∧ wx = W4)
  case first =>
    have h11 := P11.out.1
    have h12 := P12.out.1
    go_wp2
    all_goals
      go_meet
      exact ⟨rfl, rfl⟩
  case rest =>
    obtain ⟨rfl, rfl⟩ := hcut
    clear HZ
    clear P11 P12
    have hr10 := HS.out.c10
    go_wp2_with fail
    refine (HAK.out _).mono ?_
    rintro e w5 ⟨rfl, hb5⟩
    replace HS := hide (HS.out.below hb5)
    clear hr10 hb5
    have HBE := hide HS.out.bel
    clear HS
    go_wp2
    go_ret
    exact ⟨rfl, HBE.out⟩

set_option maxHeartbeats 4000000 in
theorem fixQ_3a2 (n d x G A B L aw : Nat) (raw z1 z2 : Bool) (by_ most c : Int) (w : World) (hm0 : decide (most < 0) = false) (hm1 : decide (100 < most) = true)
    (HM : Hid (∀ w, Calls Try.prog 23 #[.agg #[.int .u64 (dgl (n) 0 : Nat), .int .u64 (dgl (n) 1 : Nat), .int .u64 (dgl (n) 2 : Nat), .int .u64 (dgl (n) 3 : Nat), .int .u64 (dgl (n) 4 : Nat), .int .u64 (dgl (n) 5 : Nat), .int .u64 (dgl (n) 6 : Nat), .int .u64 (dgl (n) 7 : Nat)], .agg #[.int .u64 (dgl (d) 0 : Nat), .int .u64 (dgl (d) 1 : Nat), .int .u64 (dgl (d) 2 : Nat), .int .u64 (dgl (d) 3 : Nat), .int .u64 (dgl (d) 4 : Nat), .int .u64 (dgl (d) 5 : Nat), .int .u64 (dgl (d) 6 : Nat), .int .u64 (dgl (d) 7 : Nat)]] w fun e w' => e = .returned (.int .i64 0) ∧ Below w.heap.size w w'))
    (HDV : Hid (∀ w, Calls Try.prog 24 #[.agg #[.int .u64 (dgl (n) 0 : Nat), .int .u64 (dgl (n) 1 : Nat), .int .u64 (dgl (n) 2 : Nat), .int .u64 (dgl (n) 3 : Nat), .int .u64 (dgl (n) 4 : Nat), .int .u64 (dgl (n) 5 : Nat), .int .u64 (dgl (n) 6 : Nat), .int .u64 (dgl (n) 7 : Nat)], .agg #[.int .u64 (dgl (d) 0 : Nat), .int .u64 (dgl (d) 1 : Nat), .int .u64 (dgl (d) 2 : Nat), .int .u64 (dgl (d) 3 : Nat), .int .u64 (dgl (d) 4 : Nat), .int .u64 (dgl (d) 5 : Nat), .int .u64 (dgl (d) 6 : Nat), .int .u64 (dgl (d) 7 : Nat)]] w fun e w' => e = .returned (.tuple #[.agg #[.int .u64 (dgl (A) 0 : Nat), .int .u64 (dgl (A) 1 : Nat), .int .u64 (dgl (A) 2 : Nat), .int .u64 (dgl (A) 3 : Nat), .int .u64 (dgl (A) 4 : Nat), .int .u64 (dgl (A) 5 : Nat), .int .u64 (dgl (A) 6 : Nat), .int .u64 (dgl (A) 7 : Nat)], .agg #[.int .u64 (dgl (B) 0 : Nat), .int .u64 (dgl (B) 1 : Nat), .int .u64 (dgl (B) 2 : Nat), .int .u64 (dgl (B) 3 : Nat), .int .u64 (dgl (B) 4 : Nat), .int .u64 (dgl (B) 5 : Nat), .int .u64 (dgl (B) 6 : Nat), .int .u64 (dgl (B) 7 : Nat)]]) ∧ Below w.heap.size w w'))
    (HBT : Hid (∀ w, Calls Try.prog 25 #[.agg #[.int .u64 (dgl (A) 0 : Nat), .int .u64 (dgl (A) 1 : Nat), .int .u64 (dgl (A) 2 : Nat), .int .u64 (dgl (A) 3 : Nat), .int .u64 (dgl (A) 4 : Nat), .int .u64 (dgl (A) 5 : Nat), .int .u64 (dgl (A) 6 : Nat), .int .u64 (dgl (A) 7 : Nat)], .int .i8 by_] w fun e w' => e = .returned (.agg #[.int .u64 (dgl (G) 0 : Nat), .int .u64 (dgl (G) 1 : Nat), .int .u64 (dgl (G) 2 : Nat), .int .u64 (dgl (G) 3 : Nat), .int .u64 (dgl (G) 4 : Nat), .int .u64 (dgl (G) 5 : Nat), .int .u64 (dgl (G) 6 : Nat), .int .u64 (dgl (G) 7 : Nat)]) ∧ Below w.heap.size w w'))
    (HQ : Hid (∀ w, Calls Try.prog 26 #[.agg #[.int .u64 (dgl (n) 0 : Nat), .int .u64 (dgl (n) 1 : Nat), .int .u64 (dgl (n) 2 : Nat), .int .u64 (dgl (n) 3 : Nat), .int .u64 (dgl (n) 4 : Nat), .int .u64 (dgl (n) 5 : Nat), .int .u64 (dgl (n) 6 : Nat), .int .u64 (dgl (n) 7 : Nat)], .agg #[.int .u64 (dgl (d) 0 : Nat), .int .u64 (dgl (d) 1 : Nat), .int .u64 (dgl (d) 2 : Nat), .int .u64 (dgl (d) 3 : Nat), .int .u64 (dgl (d) 4 : Nat), .int .u64 (dgl (d) 5 : Nat), .int .u64 (dgl (d) 6 : Nat), .int .u64 (dgl (d) 7 : Nat)], .agg #[.int .u64 (dgl (G) 0 : Nat), .int .u64 (dgl (G) 1 : Nat), .int .u64 (dgl (G) 2 : Nat), .int .u64 (dgl (G) 3 : Nat), .int .u64 (dgl (G) 4 : Nat), .int .u64 (dgl (G) 5 : Nat), .int .u64 (dgl (G) 6 : Nat), .int .u64 (dgl (G) 7 : Nat)], .int .i64 most] w fun e w' => e = .returned (.tuple #[.agg #[.int .u64 (dgl (0) 0 : Nat), .int .u64 (dgl (0) 1 : Nat), .int .u64 (dgl (0) 2 : Nat), .int .u64 (dgl (0) 3 : Nat), .int .u64 (dgl (0) 4 : Nat), .int .u64 (dgl (0) 5 : Nat), .int .u64 (dgl (0) 6 : Nat), .int .u64 (dgl (0) 7 : Nat)], .agg #[.int .u64 (dgl (0) 0 : Nat), .int .u64 (dgl (0) 1 : Nat), .int .u64 (dgl (0) 2 : Nat), .int .u64 (dgl (0) 3 : Nat), .int .u64 (dgl (0) 4 : Nat), .int .u64 (dgl (0) 5 : Nat), .int .u64 (dgl (0) 6 : Nat), .int .u64 (dgl (0) 7 : Nat)], .int .i64 0, .int .i64 1]) ∧ Below w.heap.size w w'))
    (HZ : ∀ w, (Op.equalIn 10000 32 (.agg #[.int .u64 (dgl (0) 0 : Nat), .int .u64 (dgl (0) 1 : Nat), .int .u64 (dgl (0) 2 : Nat), .int .u64 (dgl (0) 3 : Nat), .int .u64 (dgl (0) 4 : Nat), .int .u64 (dgl (0) 5 : Nat), .int .u64 (dgl (0) 6 : Nat), .int .u64 (dgl (0) 7 : Nat)]) (.agg #[.int .u64 0, .int .u64 0, .int .u64 0, .int .u64 0, .int .u64 0, .int .u64 0, .int .u64 0, .int .u64 0])).run Try.prog w = .ok true w)
    (HAK : Hid (∀ w, Calls Try.prog 27 #[] w fun e w' => e = .returned (.bool true) ∧ Below w.heap.size w w')) :
    Calls Try.prog 6 #[.agg #[.int .u64 (dgl (n) 0 : Nat), .int .u64 (dgl (n) 1 : Nat), .int .u64 (dgl (n) 2 : Nat), .int .u64 (dgl (n) 3 : Nat), .int .u64 (dgl (n) 4 : Nat), .int .u64 (dgl (n) 5 : Nat), .int .u64 (dgl (n) 6 : Nat), .int .u64 (dgl (n) 7 : Nat)], .agg #[.int .u64 (dgl (d) 0 : Nat), .int .u64 (dgl (d) 1 : Nat), .int .u64 (dgl (d) 2 : Nat), .int .u64 (dgl (d) 3 : Nat), .int .u64 (dgl (d) 4 : Nat), .int .u64 (dgl (d) 5 : Nat), .int .u64 (dgl (d) 6 : Nat), .int .u64 (dgl (d) 7 : Nat)], .agg #[.int .u64 (dgl x 0 : Nat), .int .u64 (dgl x 1 : Nat), .int .u64 (dgl x 2 : Nat), .int .u64 (dgl x 3 : Nat), .int .u64 (dgl x 4 : Nat), .int .u64 (dgl x 5 : Nat), .int .u64 (dgl x 6 : Nat), .int .u64 (dgl x 7 : Nat), .bool false, .int .i8 by_, .int .i64 most]] w fun e w' => e = .returned (.bool true) ∧ Below w.heap.size w w' := by
  have HS := hide (gqSt_start n d x false by_ most w)
  go_enter Try.func6, Try.ntmps6
  go_upto_region 2 with fail
  refine wp_gen (fun W => GqSt n d x false by_ most x w W) HS.out ?_
  clear HS
  rintro W0 h0
  have HS := hide h0
  clear h0
  have hn := HS.out.la.1
  have hd := HS.out.ld.1
  go_wp2_with fail
  refine (HM.out _).mono ?_
  rintro e w1 ⟨rfl, hb1⟩
  replace HS := hide (HS.out.below hb1)
  clear hn hd hb1
  have hn := HS.out.la.1
  have hd := HS.out.ld.1
  have hr8 := HS.out.c8
  go_wp2_with fail
  refine (HDV.out _).mono ?_
  rintro e w2 ⟨rfl, hb2⟩
  replace HS := hide (HS.out.below hb2)
  clear hn hd hr8 hb2
  go_upto_region 5 with fail
  have hp2 := r2_put w2 w2 A B (Below.refl _ _) 32 32
  refine wp_gen (fun W => GqSt n d x false by_ most x w W ∧ LiesF W w2.heap.size (dgl A) ∧ LiesF W (w2.heap.size + 1) (dgl B)) ⟨HS.out.below (below_trans (below_allocs _ _) (below_allocs _ _)), hp2.lx, hp2.ly⟩ ?_
  clear hp2 HS
  generalize w2.heap.size = p9 at *
  rintro W2 ⟨kHS, g1, g2⟩
  have HS := hide kHS
  have P9 := hide g1
  have P10 := hide g2
  clear kHS g1 g2
  clear P10
  have hp9 := P9.out.1
  have hr9 := HS.out.c9
  go_wp2_with fail
  refine (HBT.out _).mono ?_
  rintro e w3 ⟨rfl, hb3⟩
  replace HS := hide (HS.out.below hb3)
  replace P9 := hide (P9.out.below hb3)
  clear hp9 hr9 hb3
  clear P9
  have hg := HS.out.lg.1
  have hgl := HS.out.lg.2
  have hgf := HS.out.fg
  go_upto_region 6 with fail
  refine wp_gen (fun W => GqSt n d x false by_ most G w W) (gqSt_set HS.out G) ?_
  clear HS hg hgl hgf
  rintro W1 h1
  have HS := hide h1
  clear h1
  have hn := HS.out.la.1
  have hd := HS.out.ld.1
  have hg := HS.out.lg.1
  have hr10 := HS.out.c10
  go_wp2_with fail
  refine (HQ.out _).mono ?_
  rintro e w4 ⟨rfl, hb4⟩
  replace HS := hide (HS.out.below hb4)
  clear hn hd hg hr10 hb4
  go_upto_region 7 with fail
  have hp2 := r2_put w4 w4 0 0 (Below.refl _ _) 32 32
  refine wp_gen (fun W => GqSt n d x false by_ most G w W ∧ LiesF W w4.heap.size (dgl 0) ∧ LiesF W (w4.heap.size + 1) (dgl 0)) ⟨HS.out.below (below_trans (below_allocs _ _) (below_allocs _ _)), hp2.lx, hp2.ly⟩ ?_
  clear hp2 HS
  generalize w4.heap.size = p11 at *
  rintro W4 ⟨kHS, g1, g2⟩
  have HS := hide kHS
  have P11 := hide g1
  have P12 := hide g2
  clear kHS g1 g2
  go_cut [15] (fun y wx => y = .bool true ∧ wx = W4)
  case first =>
    have h11 := P11.out.1
    have h12 := P12.out.1
    go_wp2
    all_goals
      go_meet
      exact ⟨rfl, rfl⟩
  case rest =>
    obtain ⟨rfl, rfl⟩ := hcut
    clear HZ
    clear P11 P12
    have hr10 := HS.out.c10
    go_wp2_with fail
    refine (HAK.out _).mono ?_
    rintro e w5 ⟨rfl, hb5⟩
    replace HS := hide (HS.out.below hb5)
    clear hr10 hb5
    have HBE := hide HS.out.bel
    clear HS
    go_wp2
    go_ret
    exact ⟨rfl, HBE.out⟩

set_option maxHeartbeats 4000000 in
theorem fixQ_3c (n d x G A B L aw : Nat) (raw z1 z2 : Bool) (by_ most c : Int) (w : World) (hm0 : decide (most < 0) = false) (hm1 : decide (100 < most) = false) (hL : decide (200 < (L : Int)) = true)
    (HM : Hid (∀ w, Calls Try.prog 23 #[.agg #[.int .u64 (dgl (n) 0 : Nat), .int .u64 (dgl (n) 1 : Nat), .int .u64 (dgl (n) 2 : Nat), .int .u64 (dgl (n) 3 : Nat), .int .u64 (dgl (n) 4 : Nat), .int .u64 (dgl (n) 5 : Nat), .int .u64 (dgl (n) 6 : Nat), .int .u64 (dgl (n) 7 : Nat)], .agg #[.int .u64 (dgl (d) 0 : Nat), .int .u64 (dgl (d) 1 : Nat), .int .u64 (dgl (d) 2 : Nat), .int .u64 (dgl (d) 3 : Nat), .int .u64 (dgl (d) 4 : Nat), .int .u64 (dgl (d) 5 : Nat), .int .u64 (dgl (d) 6 : Nat), .int .u64 (dgl (d) 7 : Nat)]] w fun e w' => e = .returned (.int .i64 0) ∧ Below w.heap.size w w'))
    (HDV : Hid (∀ w, Calls Try.prog 24 #[.agg #[.int .u64 (dgl (n) 0 : Nat), .int .u64 (dgl (n) 1 : Nat), .int .u64 (dgl (n) 2 : Nat), .int .u64 (dgl (n) 3 : Nat), .int .u64 (dgl (n) 4 : Nat), .int .u64 (dgl (n) 5 : Nat), .int .u64 (dgl (n) 6 : Nat), .int .u64 (dgl (n) 7 : Nat)], .agg #[.int .u64 (dgl (d) 0 : Nat), .int .u64 (dgl (d) 1 : Nat), .int .u64 (dgl (d) 2 : Nat), .int .u64 (dgl (d) 3 : Nat), .int .u64 (dgl (d) 4 : Nat), .int .u64 (dgl (d) 5 : Nat), .int .u64 (dgl (d) 6 : Nat), .int .u64 (dgl (d) 7 : Nat)]] w fun e w' => e = .returned (.tuple #[.agg #[.int .u64 (dgl (A) 0 : Nat), .int .u64 (dgl (A) 1 : Nat), .int .u64 (dgl (A) 2 : Nat), .int .u64 (dgl (A) 3 : Nat), .int .u64 (dgl (A) 4 : Nat), .int .u64 (dgl (A) 5 : Nat), .int .u64 (dgl (A) 6 : Nat), .int .u64 (dgl (A) 7 : Nat)], .agg #[.int .u64 (dgl (B) 0 : Nat), .int .u64 (dgl (B) 1 : Nat), .int .u64 (dgl (B) 2 : Nat), .int .u64 (dgl (B) 3 : Nat), .int .u64 (dgl (B) 4 : Nat), .int .u64 (dgl (B) 5 : Nat), .int .u64 (dgl (B) 6 : Nat), .int .u64 (dgl (B) 7 : Nat)]]) ∧ Below w.heap.size w w'))
    (HBT : Hid (∀ w, Calls Try.prog 25 #[.agg #[.int .u64 (dgl (A) 0 : Nat), .int .u64 (dgl (A) 1 : Nat), .int .u64 (dgl (A) 2 : Nat), .int .u64 (dgl (A) 3 : Nat), .int .u64 (dgl (A) 4 : Nat), .int .u64 (dgl (A) 5 : Nat), .int .u64 (dgl (A) 6 : Nat), .int .u64 (dgl (A) 7 : Nat)], .int .i8 by_] w fun e w' => e = .returned (.agg #[.int .u64 (dgl (G) 0 : Nat), .int .u64 (dgl (G) 1 : Nat), .int .u64 (dgl (G) 2 : Nat), .int .u64 (dgl (G) 3 : Nat), .int .u64 (dgl (G) 4 : Nat), .int .u64 (dgl (G) 5 : Nat), .int .u64 (dgl (G) 6 : Nat), .int .u64 (dgl (G) 7 : Nat)]) ∧ Below w.heap.size w w'))
    (HQ : Hid (∀ w, Calls Try.prog 26 #[.agg #[.int .u64 (dgl (n) 0 : Nat), .int .u64 (dgl (n) 1 : Nat), .int .u64 (dgl (n) 2 : Nat), .int .u64 (dgl (n) 3 : Nat), .int .u64 (dgl (n) 4 : Nat), .int .u64 (dgl (n) 5 : Nat), .int .u64 (dgl (n) 6 : Nat), .int .u64 (dgl (n) 7 : Nat)], .agg #[.int .u64 (dgl (d) 0 : Nat), .int .u64 (dgl (d) 1 : Nat), .int .u64 (dgl (d) 2 : Nat), .int .u64 (dgl (d) 3 : Nat), .int .u64 (dgl (d) 4 : Nat), .int .u64 (dgl (d) 5 : Nat), .int .u64 (dgl (d) 6 : Nat), .int .u64 (dgl (d) 7 : Nat)], .agg #[.int .u64 (dgl (G) 0 : Nat), .int .u64 (dgl (G) 1 : Nat), .int .u64 (dgl (G) 2 : Nat), .int .u64 (dgl (G) 3 : Nat), .int .u64 (dgl (G) 4 : Nat), .int .u64 (dgl (G) 5 : Nat), .int .u64 (dgl (G) 6 : Nat), .int .u64 (dgl (G) 7 : Nat)], .int .i64 most] w fun e w' => e = .returned (.tuple #[.agg #[.int .u64 (dgl (0) 0 : Nat), .int .u64 (dgl (0) 1 : Nat), .int .u64 (dgl (0) 2 : Nat), .int .u64 (dgl (0) 3 : Nat), .int .u64 (dgl (0) 4 : Nat), .int .u64 (dgl (0) 5 : Nat), .int .u64 (dgl (0) 6 : Nat), .int .u64 (dgl (0) 7 : Nat)], .agg #[.int .u64 (dgl (0) 0 : Nat), .int .u64 (dgl (0) 1 : Nat), .int .u64 (dgl (0) 2 : Nat), .int .u64 (dgl (0) 3 : Nat), .int .u64 (dgl (0) 4 : Nat), .int .u64 (dgl (0) 5 : Nat), .int .u64 (dgl (0) 6 : Nat), .int .u64 (dgl (0) 7 : Nat)], .int .i64 0, .int .i64 4]) ∧ Below w.heap.size w w'))
    (HZ : ∀ w, (Op.equalIn 10000 32 (.agg #[.int .u64 (dgl (0) 0 : Nat), .int .u64 (dgl (0) 1 : Nat), .int .u64 (dgl (0) 2 : Nat), .int .u64 (dgl (0) 3 : Nat), .int .u64 (dgl (0) 4 : Nat), .int .u64 (dgl (0) 5 : Nat), .int .u64 (dgl (0) 6 : Nat), .int .u64 (dgl (0) 7 : Nat)]) (.agg #[.int .u64 0, .int .u64 0, .int .u64 0, .int .u64 0, .int .u64 0, .int .u64 0, .int .u64 0, .int .u64 0])).run Try.prog w = .ok true w)
    (HBG : Hid (∀ w, Calls Try.prog 19 #[.agg #[.int .u64 (dgl (G) 0 : Nat), .int .u64 (dgl (G) 1 : Nat), .int .u64 (dgl (G) 2 : Nat), .int .u64 (dgl (G) 3 : Nat), .int .u64 (dgl (G) 4 : Nat), .int .u64 (dgl (G) 5 : Nat), .int .u64 (dgl (G) 6 : Nat), .int .u64 (dgl (G) 7 : Nat)]] w fun e w' => ∃ v, e = .returned v ∧ BigV w' v G 40 ∧ Below w.heap.size w w'))
    (HLN : Hid (∀ u w, BigV w u G 40 → Calls Try.prog 28 #[u] w fun e w' => e = .returned (.int .i64 (L : Nat)) ∧ w' = w))
    (HAK : Hid (∀ w, Calls Try.prog 27 #[] w fun e w' => e = .returned (.bool true) ∧ Below w.heap.size w w')) :
    Calls Try.prog 6 #[.agg #[.int .u64 (dgl (n) 0 : Nat), .int .u64 (dgl (n) 1 : Nat), .int .u64 (dgl (n) 2 : Nat), .int .u64 (dgl (n) 3 : Nat), .int .u64 (dgl (n) 4 : Nat), .int .u64 (dgl (n) 5 : Nat), .int .u64 (dgl (n) 6 : Nat), .int .u64 (dgl (n) 7 : Nat)], .agg #[.int .u64 (dgl (d) 0 : Nat), .int .u64 (dgl (d) 1 : Nat), .int .u64 (dgl (d) 2 : Nat), .int .u64 (dgl (d) 3 : Nat), .int .u64 (dgl (d) 4 : Nat), .int .u64 (dgl (d) 5 : Nat), .int .u64 (dgl (d) 6 : Nat), .int .u64 (dgl (d) 7 : Nat)], .agg #[.int .u64 (dgl x 0 : Nat), .int .u64 (dgl x 1 : Nat), .int .u64 (dgl x 2 : Nat), .int .u64 (dgl x 3 : Nat), .int .u64 (dgl x 4 : Nat), .int .u64 (dgl x 5 : Nat), .int .u64 (dgl x 6 : Nat), .int .u64 (dgl x 7 : Nat), .bool false, .int .i8 by_, .int .i64 most]] w fun e w' => e = .returned (.bool true) ∧ Below w.heap.size w w' := by
  have HS := hide (gqSt_start n d x false by_ most w)
  go_enter Try.func6, Try.ntmps6
  go_upto_region 2 with fail
  refine wp_gen (fun W => GqSt n d x false by_ most x w W) HS.out ?_
  clear HS
  rintro W0 h0
  have HS := hide h0
  clear h0
  have hn := HS.out.la.1
  have hd := HS.out.ld.1
  go_wp2_with fail
  refine (HM.out _).mono ?_
  rintro e w1 ⟨rfl, hb1⟩
  replace HS := hide (HS.out.below hb1)
  clear hn hd hb1
  have hn := HS.out.la.1
  have hd := HS.out.ld.1
  have hr8 := HS.out.c8
  go_wp2_with fail
  refine (HDV.out _).mono ?_
  rintro e w2 ⟨rfl, hb2⟩
  replace HS := hide (HS.out.below hb2)
  clear hn hd hr8 hb2
  go_upto_region 5 with fail
  have hp2 := r2_put w2 w2 A B (Below.refl _ _) 32 32
  refine wp_gen (fun W => GqSt n d x false by_ most x w W ∧ LiesF W w2.heap.size (dgl A) ∧ LiesF W (w2.heap.size + 1) (dgl B)) ⟨HS.out.below (below_trans (below_allocs _ _) (below_allocs _ _)), hp2.lx, hp2.ly⟩ ?_
  clear hp2 HS
  generalize w2.heap.size = p9 at *
  rintro W2 ⟨kHS, g1, g2⟩
  have HS := hide kHS
  have P9 := hide g1
  have P10 := hide g2
  clear kHS g1 g2
  clear P10
  have hp9 := P9.out.1
  have hr9 := HS.out.c9
  go_wp2_with fail
  refine (HBT.out _).mono ?_
  rintro e w3 ⟨rfl, hb3⟩
  replace HS := hide (HS.out.below hb3)
  replace P9 := hide (P9.out.below hb3)
  clear hp9 hr9 hb3
  clear P9
  have hg := HS.out.lg.1
  have hgl := HS.out.lg.2
  have hgf := HS.out.fg
  go_upto_region 6 with fail
  refine wp_gen (fun W => GqSt n d x false by_ most G w W) (gqSt_set HS.out G) ?_
  clear HS hg hgl hgf
  rintro W1 h1
  have HS := hide h1
  clear h1
  have hn := HS.out.la.1
  have hd := HS.out.ld.1
  have hg := HS.out.lg.1
  have hr10 := HS.out.c10
  go_wp2_with fail
  refine (HQ.out _).mono ?_
  rintro e w4 ⟨rfl, hb4⟩
  replace HS := hide (HS.out.below hb4)
  clear hn hd hg hr10 hb4
  go_upto_region 7 with fail
  have hp2 := r2_put w4 w4 0 0 (Below.refl _ _) 32 32
  refine wp_gen (fun W => GqSt n d x false by_ most G w W ∧ LiesF W w4.heap.size (dgl 0) ∧ LiesF W (w4.heap.size + 1) (dgl 0)) ⟨HS.out.below (below_trans (below_allocs _ _) (below_allocs _ _)), hp2.lx, hp2.ly⟩ ?_
  clear hp2 HS
  generalize w4.heap.size = p11 at *
  rintro W4 ⟨kHS, g1, g2⟩
  have HS := hide kHS
  have P11 := hide g1
  have P12 := hide g2
  clear kHS g1 g2
  go_cut [15] (fun y wx => y = .bool true ∧ wx = W4)
  case first =>
    have h11 := P11.out.1
    have h12 := P12.out.1
    go_wp2
    all_goals
      go_meet
      exact ⟨rfl, rfl⟩
  case rest =>
    obtain ⟨rfl, rfl⟩ := hcut
    clear HZ
    clear P11 P12
    have hr10 := HS.out.c10
    have hn := HS.out.la.1
    have hd := HS.out.ld.1
    go_wp2_with fail
    refine (HM.out _).mono ?_
    rintro e w5 ⟨rfl, hb5⟩
    replace HS := hide (HS.out.below hb5)
    clear hr10 hn hd hb5
    have hg := HS.out.lg.1
    go_wp2_with fail
    refine (HBG.out _).mono ?_
    rintro e w6 ⟨v1, rfl, hv1, hb6⟩
    replace HS := hide (HS.out.below hb6)
    clear hg hb6
    go_wp2_with fail
    refine (HLN.out _ _ hv1).mono ?_
    rintro e w7 ⟨rfl, hw⟩
    subst w7
    clear hv1
    go_wp2_with fail
    refine (HAK.out _).mono ?_
    rintro e w7 ⟨rfl, hb7⟩
    replace HS := hide (HS.out.below hb7)
    clear hb7
    have HBE := hide HS.out.bel
    clear HS
    go_wp2
    go_ret
    exact ⟨rfl, HBE.out⟩

set_option maxHeartbeats 4000000 in
theorem fixQ_3d (n d x G A B L aw : Nat) (raw z1 z2 : Bool) (by_ most c : Int) (w : World) (hm0 : decide (most < 0) = false) (hm1 : decide (100 < most) = false) (hL : decide (200 < (L : Int)) = false)
    (HM : Hid (∀ w, Calls Try.prog 23 #[.agg #[.int .u64 (dgl (n) 0 : Nat), .int .u64 (dgl (n) 1 : Nat), .int .u64 (dgl (n) 2 : Nat), .int .u64 (dgl (n) 3 : Nat), .int .u64 (dgl (n) 4 : Nat), .int .u64 (dgl (n) 5 : Nat), .int .u64 (dgl (n) 6 : Nat), .int .u64 (dgl (n) 7 : Nat)], .agg #[.int .u64 (dgl (d) 0 : Nat), .int .u64 (dgl (d) 1 : Nat), .int .u64 (dgl (d) 2 : Nat), .int .u64 (dgl (d) 3 : Nat), .int .u64 (dgl (d) 4 : Nat), .int .u64 (dgl (d) 5 : Nat), .int .u64 (dgl (d) 6 : Nat), .int .u64 (dgl (d) 7 : Nat)]] w fun e w' => e = .returned (.int .i64 0) ∧ Below w.heap.size w w'))
    (HDV : Hid (∀ w, Calls Try.prog 24 #[.agg #[.int .u64 (dgl (n) 0 : Nat), .int .u64 (dgl (n) 1 : Nat), .int .u64 (dgl (n) 2 : Nat), .int .u64 (dgl (n) 3 : Nat), .int .u64 (dgl (n) 4 : Nat), .int .u64 (dgl (n) 5 : Nat), .int .u64 (dgl (n) 6 : Nat), .int .u64 (dgl (n) 7 : Nat)], .agg #[.int .u64 (dgl (d) 0 : Nat), .int .u64 (dgl (d) 1 : Nat), .int .u64 (dgl (d) 2 : Nat), .int .u64 (dgl (d) 3 : Nat), .int .u64 (dgl (d) 4 : Nat), .int .u64 (dgl (d) 5 : Nat), .int .u64 (dgl (d) 6 : Nat), .int .u64 (dgl (d) 7 : Nat)]] w fun e w' => e = .returned (.tuple #[.agg #[.int .u64 (dgl (A) 0 : Nat), .int .u64 (dgl (A) 1 : Nat), .int .u64 (dgl (A) 2 : Nat), .int .u64 (dgl (A) 3 : Nat), .int .u64 (dgl (A) 4 : Nat), .int .u64 (dgl (A) 5 : Nat), .int .u64 (dgl (A) 6 : Nat), .int .u64 (dgl (A) 7 : Nat)], .agg #[.int .u64 (dgl (B) 0 : Nat), .int .u64 (dgl (B) 1 : Nat), .int .u64 (dgl (B) 2 : Nat), .int .u64 (dgl (B) 3 : Nat), .int .u64 (dgl (B) 4 : Nat), .int .u64 (dgl (B) 5 : Nat), .int .u64 (dgl (B) 6 : Nat), .int .u64 (dgl (B) 7 : Nat)]]) ∧ Below w.heap.size w w'))
    (HBT : Hid (∀ w, Calls Try.prog 25 #[.agg #[.int .u64 (dgl (A) 0 : Nat), .int .u64 (dgl (A) 1 : Nat), .int .u64 (dgl (A) 2 : Nat), .int .u64 (dgl (A) 3 : Nat), .int .u64 (dgl (A) 4 : Nat), .int .u64 (dgl (A) 5 : Nat), .int .u64 (dgl (A) 6 : Nat), .int .u64 (dgl (A) 7 : Nat)], .int .i8 by_] w fun e w' => e = .returned (.agg #[.int .u64 (dgl (G) 0 : Nat), .int .u64 (dgl (G) 1 : Nat), .int .u64 (dgl (G) 2 : Nat), .int .u64 (dgl (G) 3 : Nat), .int .u64 (dgl (G) 4 : Nat), .int .u64 (dgl (G) 5 : Nat), .int .u64 (dgl (G) 6 : Nat), .int .u64 (dgl (G) 7 : Nat)]) ∧ Below w.heap.size w w'))
    (HQ : Hid (∀ w, Calls Try.prog 26 #[.agg #[.int .u64 (dgl (n) 0 : Nat), .int .u64 (dgl (n) 1 : Nat), .int .u64 (dgl (n) 2 : Nat), .int .u64 (dgl (n) 3 : Nat), .int .u64 (dgl (n) 4 : Nat), .int .u64 (dgl (n) 5 : Nat), .int .u64 (dgl (n) 6 : Nat), .int .u64 (dgl (n) 7 : Nat)], .agg #[.int .u64 (dgl (d) 0 : Nat), .int .u64 (dgl (d) 1 : Nat), .int .u64 (dgl (d) 2 : Nat), .int .u64 (dgl (d) 3 : Nat), .int .u64 (dgl (d) 4 : Nat), .int .u64 (dgl (d) 5 : Nat), .int .u64 (dgl (d) 6 : Nat), .int .u64 (dgl (d) 7 : Nat)], .agg #[.int .u64 (dgl (G) 0 : Nat), .int .u64 (dgl (G) 1 : Nat), .int .u64 (dgl (G) 2 : Nat), .int .u64 (dgl (G) 3 : Nat), .int .u64 (dgl (G) 4 : Nat), .int .u64 (dgl (G) 5 : Nat), .int .u64 (dgl (G) 6 : Nat), .int .u64 (dgl (G) 7 : Nat)], .int .i64 most] w fun e w' => e = .returned (.tuple #[.agg #[.int .u64 (dgl (0) 0 : Nat), .int .u64 (dgl (0) 1 : Nat), .int .u64 (dgl (0) 2 : Nat), .int .u64 (dgl (0) 3 : Nat), .int .u64 (dgl (0) 4 : Nat), .int .u64 (dgl (0) 5 : Nat), .int .u64 (dgl (0) 6 : Nat), .int .u64 (dgl (0) 7 : Nat)], .agg #[.int .u64 (dgl (0) 0 : Nat), .int .u64 (dgl (0) 1 : Nat), .int .u64 (dgl (0) 2 : Nat), .int .u64 (dgl (0) 3 : Nat), .int .u64 (dgl (0) 4 : Nat), .int .u64 (dgl (0) 5 : Nat), .int .u64 (dgl (0) 6 : Nat), .int .u64 (dgl (0) 7 : Nat)], .int .i64 0, .int .i64 6]) ∧ Below w.heap.size w w'))
    (HZ : ∀ w, (Op.equalIn 10000 32 (.agg #[.int .u64 (dgl (0) 0 : Nat), .int .u64 (dgl (0) 1 : Nat), .int .u64 (dgl (0) 2 : Nat), .int .u64 (dgl (0) 3 : Nat), .int .u64 (dgl (0) 4 : Nat), .int .u64 (dgl (0) 5 : Nat), .int .u64 (dgl (0) 6 : Nat), .int .u64 (dgl (0) 7 : Nat)]) (.agg #[.int .u64 0, .int .u64 0, .int .u64 0, .int .u64 0, .int .u64 0, .int .u64 0, .int .u64 0, .int .u64 0])).run Try.prog w = .ok true w)
    (HBG : Hid (∀ w, Calls Try.prog 19 #[.agg #[.int .u64 (dgl (G) 0 : Nat), .int .u64 (dgl (G) 1 : Nat), .int .u64 (dgl (G) 2 : Nat), .int .u64 (dgl (G) 3 : Nat), .int .u64 (dgl (G) 4 : Nat), .int .u64 (dgl (G) 5 : Nat), .int .u64 (dgl (G) 6 : Nat), .int .u64 (dgl (G) 7 : Nat)]] w fun e w' => ∃ v, e = .returned v ∧ BigV w' v G 40 ∧ Below w.heap.size w w'))
    (HLN : Hid (∀ u w, BigV w u G 40 → Calls Try.prog 28 #[u] w fun e w' => e = .returned (.int .i64 (L : Nat)) ∧ w' = w))
    (HBA : Hid (∀ w, Calls Try.prog 19 #[.agg #[.int .u64 (dgl (A) 0 : Nat), .int .u64 (dgl (A) 1 : Nat), .int .u64 (dgl (A) 2 : Nat), .int .u64 (dgl (A) 3 : Nat), .int .u64 (dgl (A) 4 : Nat), .int .u64 (dgl (A) 5 : Nat), .int .u64 (dgl (A) 6 : Nat), .int .u64 (dgl (A) 7 : Nat)]] w fun e w' => ∃ v, e = .returned v ∧ BigV w' v A 40 ∧ Below w.heap.size w w'))
    (HAW : Hid (∀ u v w, BigV w u A 40 → BigV w v G 40 → Calls Try.prog 29 #[u, v] w fun e w' => ∃ v, e = .returned v ∧ BigV w' v aw 40 ∧ Below w.heap.size w w'))
    (HWI : Hid (∀ u w, BigV w u aw 40 → Calls Try.prog 30 #[u, .int .i64 most] w fun e w' => e = .returned (.bool false) ∧ Below w.heap.size w w'))
    (HAK : Hid (∀ w, Calls Try.prog 27 #[] w fun e w' => e = .returned (.bool true) ∧ Below w.heap.size w w')) :
    Calls Try.prog 6 #[.agg #[.int .u64 (dgl (n) 0 : Nat), .int .u64 (dgl (n) 1 : Nat), .int .u64 (dgl (n) 2 : Nat), .int .u64 (dgl (n) 3 : Nat), .int .u64 (dgl (n) 4 : Nat), .int .u64 (dgl (n) 5 : Nat), .int .u64 (dgl (n) 6 : Nat), .int .u64 (dgl (n) 7 : Nat)], .agg #[.int .u64 (dgl (d) 0 : Nat), .int .u64 (dgl (d) 1 : Nat), .int .u64 (dgl (d) 2 : Nat), .int .u64 (dgl (d) 3 : Nat), .int .u64 (dgl (d) 4 : Nat), .int .u64 (dgl (d) 5 : Nat), .int .u64 (dgl (d) 6 : Nat), .int .u64 (dgl (d) 7 : Nat)], .agg #[.int .u64 (dgl x 0 : Nat), .int .u64 (dgl x 1 : Nat), .int .u64 (dgl x 2 : Nat), .int .u64 (dgl x 3 : Nat), .int .u64 (dgl x 4 : Nat), .int .u64 (dgl x 5 : Nat), .int .u64 (dgl x 6 : Nat), .int .u64 (dgl x 7 : Nat), .bool false, .int .i8 by_, .int .i64 most]] w fun e w' => e = .returned (.bool true) ∧ Below w.heap.size w w' := by
  have HS := hide (gqSt_start n d x false by_ most w)
  go_enter Try.func6, Try.ntmps6
  go_upto_region 2 with fail
  refine wp_gen (fun W => GqSt n d x false by_ most x w W) HS.out ?_
  clear HS
  rintro W0 h0
  have HS := hide h0
  clear h0
  have hn := HS.out.la.1
  have hd := HS.out.ld.1
  go_wp2_with fail
  refine (HM.out _).mono ?_
  rintro e w1 ⟨rfl, hb1⟩
  replace HS := hide (HS.out.below hb1)
  clear hn hd hb1
  have hn := HS.out.la.1
  have hd := HS.out.ld.1
  have hr8 := HS.out.c8
  go_wp2_with fail
  refine (HDV.out _).mono ?_
  rintro e w2 ⟨rfl, hb2⟩
  replace HS := hide (HS.out.below hb2)
  clear hn hd hr8 hb2
  go_upto_region 5 with fail
  have hp2 := r2_put w2 w2 A B (Below.refl _ _) 32 32
  refine wp_gen (fun W => GqSt n d x false by_ most x w W ∧ LiesF W w2.heap.size (dgl A) ∧ LiesF W (w2.heap.size + 1) (dgl B)) ⟨HS.out.below (below_trans (below_allocs _ _) (below_allocs _ _)), hp2.lx, hp2.ly⟩ ?_
  clear hp2 HS
  generalize w2.heap.size = p9 at *
  rintro W2 ⟨kHS, g1, g2⟩
  have HS := hide kHS
  have P9 := hide g1
  have P10 := hide g2
  clear kHS g1 g2
  clear P10
  have hp9 := P9.out.1
  have hr9 := HS.out.c9
  go_wp2_with fail
  refine (HBT.out _).mono ?_
  rintro e w3 ⟨rfl, hb3⟩
  replace HS := hide (HS.out.below hb3)
  replace P9 := hide (P9.out.below hb3)
  clear hp9 hr9 hb3
  clear P9
  have hg := HS.out.lg.1
  have hgl := HS.out.lg.2
  have hgf := HS.out.fg
  go_upto_region 6 with fail
  refine wp_gen (fun W => GqSt n d x false by_ most G w W) (gqSt_set HS.out G) ?_
  clear HS hg hgl hgf
  rintro W1 h1
  have HS := hide h1
  clear h1
  have hn := HS.out.la.1
  have hd := HS.out.ld.1
  have hg := HS.out.lg.1
  have hr10 := HS.out.c10
  go_wp2_with fail
  refine (HQ.out _).mono ?_
  rintro e w4 ⟨rfl, hb4⟩
  replace HS := hide (HS.out.below hb4)
  clear hn hd hg hr10 hb4
  go_upto_region 7 with fail
  have hp2 := r2_put w4 w4 0 0 (Below.refl _ _) 32 32
  refine wp_gen (fun W => GqSt n d x false by_ most G w W ∧ LiesF W w4.heap.size (dgl 0) ∧ LiesF W (w4.heap.size + 1) (dgl 0)) ⟨HS.out.below (below_trans (below_allocs _ _) (below_allocs _ _)), hp2.lx, hp2.ly⟩ ?_
  clear hp2 HS
  generalize w4.heap.size = p11 at *
  rintro W4 ⟨kHS, g1, g2⟩
  have HS := hide kHS
  have P11 := hide g1
  have P12 := hide g2
  clear kHS g1 g2
  go_cut [15] (fun y wx => y = .bool true ∧ wx = W4)
  case first =>
    have h11 := P11.out.1
    have h12 := P12.out.1
    go_wp2
    all_goals
      go_meet
      exact ⟨rfl, rfl⟩
  case rest =>
    obtain ⟨rfl, rfl⟩ := hcut
    clear HZ
    clear P11 P12
    have hr10 := HS.out.c10
    have hn := HS.out.la.1
    have hd := HS.out.ld.1
    go_wp2_with fail
    refine (HM.out _).mono ?_
    rintro e w5 ⟨rfl, hb5⟩
    replace HS := hide (HS.out.below hb5)
    clear hr10 hn hd hb5
    have hg := HS.out.lg.1
    go_wp2_with fail
    refine (HBG.out _).mono ?_
    rintro e w6 ⟨v1, rfl, hv1, hb6⟩
    replace HS := hide (HS.out.below hb6)
    clear hg hb6
    go_wp2_with fail
    refine (HLN.out _ _ hv1).mono ?_
    rintro e w7 ⟨rfl, hw⟩
    subst w7
    clear hv1 HLN
    have hn := HS.out.la.1
    have hd := HS.out.ld.1
    go_wp2_with fail
    refine (HDV.out _).mono ?_
    rintro e w7 ⟨rfl, hb7⟩
    replace HS := hide (HS.out.below hb7)
    clear hn hd hb7
    go_upto_region 16 with fail
    have hp2 := r2_put w7 w7 A B (Below.refl _ _) 32 32
    refine wp_gen (fun W => GqSt n d x false by_ most G w W ∧ LiesF W w7.heap.size (dgl A) ∧ LiesF W (w7.heap.size + 1) (dgl B)) ⟨HS.out.below (below_trans (below_allocs _ _) (below_allocs _ _)), hp2.lx, hp2.ly⟩ ?_
    clear hp2 HS
    generalize w7.heap.size = p17 at *
    rintro W7 ⟨kHS, g1, g2⟩
    have HS := hide kHS
    have P17 := hide g1
    have P18 := hide g2
    clear kHS g1 g2
    have g17 := P17.out
    refine wp_region_grow 6 [(113, .val (.agg #[.int .u64 (dgl (A) 0 : Nat), .int .u64 (dgl (A) 1 : Nat), .int .u64 (dgl (A) 2 : Nat), .int .u64 (dgl (A) 3 : Nat), .int .u64 (dgl (A) 4 : Nat), .int .u64 (dgl (A) 5 : Nat), .int .u64 (dgl (A) 6 : Nat), .int .u64 (dgl (A) 7 : Nat)])), (114, .big A 40), (115, .val (.agg #[.int .u64 (dgl (G) 0 : Nat), .int .u64 (dgl (G) 1 : Nat), .int .u64 (dgl (G) 2 : Nat), .int .u64 (dgl (G) 3 : Nat), .int .u64 (dgl (G) 4 : Nat), .int .u64 (dgl (G) 5 : Nat), .int .u64 (dgl (G) 6 : Nat), .int .u64 (dgl (G) 7 : Nat)])), (116, .big G 40), (117, .big aw 40), (19, .big aw 40)]
      (fun W => GqSt n d x false by_ most G w W ∧ LiesF W p17 (dgl A)) mixedOk (by kernel_rfl) (by kernel_rfl) (⟨HS.out.below (Below.refl _ _).drew, g17.below (Below.refl _ _).drew⟩) (fun W W' h hb => ⟨h.1.below hb, h.2.below hb⟩) ?_ ?_
    · refine gSt (gStep_run rfl ?_) ?_
      · intro ρ W hC hc hf hL
        have e17 : ρ (.tmp 17) = .pointer (some ⟨p17, 0, none⟩) := hL 17 (by decide +kernel)
        have hl := hC.2.1
        simp [go_sem, hc, hf, e17, hl]
        exact ⟨Below.refl _ _, rfl⟩
      refine gSt (gStep_run rfl ?_) ?_
      · intro ρ W hC hc hf hL
        have e113 : ρ (.tmp 113) = .agg #[.int .u64 (dgl (A) 0 : Nat), .int .u64 (dgl (A) 1 : Nat), .int .u64 (dgl (A) 2 : Nat), .int .u64 (dgl (A) 3 : Nat), .int .u64 (dgl (A) 4 : Nat), .int .u64 (dgl (A) 5 : Nat), .int .u64 (dgl (A) 6 : Nat), .int .u64 (dgl (A) 7 : Nat)] := hL 113 (by decide +kernel)
        simp [go_sem, hc, hf, e113]
        refine (HBA.out W).mono ?_
        rintro e w' ⟨v, rfl, hv, hb⟩
        exact ⟨_, rfl, hb, hv⟩
      refine gSt (gStep_run rfl ?_) ?_
      · intro ρ W hC hc hf hL
        have e7 : ρ (.tmp 7) = .pointer (some ⟨w.heap.size + 3, 0, none⟩) := hL 7 (by decide +kernel)
        have hl := hC.1.lg.1
        simp [go_sem, hc, hf, e7, hl]
        exact ⟨Below.refl _ _, rfl⟩
      refine gSt (gStep_run rfl ?_) ?_
      · intro ρ W hC hc hf hL
        have e115 : ρ (.tmp 115) = .agg #[.int .u64 (dgl (G) 0 : Nat), .int .u64 (dgl (G) 1 : Nat), .int .u64 (dgl (G) 2 : Nat), .int .u64 (dgl (G) 3 : Nat), .int .u64 (dgl (G) 4 : Nat), .int .u64 (dgl (G) 5 : Nat), .int .u64 (dgl (G) 6 : Nat), .int .u64 (dgl (G) 7 : Nat)] := hL 115 (by decide +kernel)
        simp [go_sem, hc, hf, e115]
        refine (HBG.out W).mono ?_
        rintro e w' ⟨v, rfl, hv, hb⟩
        exact ⟨_, rfl, hb, hv⟩
      refine gSt (gStep_run rfl ?_) ?_
      · intro ρ W hC hc hf hL
        have b114 : BigV W (ρ (.tmp 114)) (A) (40) := hL 114 (by decide +kernel)
        have b116 : BigV W (ρ (.tmp 116)) (G) (40) := hL 116 (by decide +kernel)
        simp [go_sem, hc, hf]
        refine (HAW.out _ _ W b114 b116).mono ?_
        rintro e w' ⟨v, rfl, hv, hb⟩
        exact ⟨_, rfl, hb, hv⟩
      refine gSt (gStep_run rfl (gRun_move 117 19 (.inr rfl) rfl (by decide +kernel) (fun v w h => h))) ?_
      exact gSt0
    · intro W hC
      refine gFi 113 rfl ?_
      rintro _ rfl
      refine gFi 114 rfl ?_
      rintro u114 b114
      refine gFi 115 rfl ?_
      rintro _ rfl
      refine gFi 116 rfl ?_
      rintro u116 b116
      refine gFi 117 rfl ?_
      rintro u117 b117
      refine gFi 19 rfl ?_
      rintro u19 b19
      refine gFi0 ?_
      simp only [List.drop_succ_cons, List.drop_zero, Act.put, List.setIfInBounds_toArray, List.set_cons_succ, List.set_cons_zero]
      clear HS g17 P17 P18
      have HS := hide hC.1
      clear hC b114 b116 b117
      have hr10 := HS.out.c10
      go_wp2_with fail
      refine (HWI.out _ _ b19).mono ?_
      rintro e w8 ⟨rfl, hb8⟩
      replace HS := hide (HS.out.below hb8)
      clear hr10 hb8
      go_wp2_with fail
      refine (HAK.out _).mono ?_
      rintro e w9 ⟨rfl, hb9⟩
      replace HS := hide (HS.out.below hb9)
      clear hb9
      have HBE := hide HS.out.bel
      clear HS
      go_wp2
      go_ret
      exact ⟨rfl, HBE.out⟩
end Go.Proofs.Yteocibahclpegaa

/- Contracts: the law FixQuotients, walked. -/
set_option linter.unusedVariables false
set_option linter.unusedSimpArgs false
set_option maxRecDepth 8000
namespace Go.Proofs.Yteocibahclpegaa
open Go.RowKit Plain

set_option maxHeartbeats 4000000 in
theorem fixQ_2e (n d x G A B L aw : Nat) (raw z1 z2 : Bool) (by_ most c : Int) (w : World) (hm0 : decide (most < 0) = false) (hm1 : decide (100 < most) = false) (hL : decide (200 < (L : Int)) = false) (hk : (0 : Int) ≤ (aw : Int)) (hu : IntKind.u64.wrap (aw : Int) = (aw : Int))
    (HM : Hid (∀ w, Calls Try.prog 23 #[.agg #[.int .u64 (dgl (n) 0 : Nat), .int .u64 (dgl (n) 1 : Nat), .int .u64 (dgl (n) 2 : Nat), .int .u64 (dgl (n) 3 : Nat), .int .u64 (dgl (n) 4 : Nat), .int .u64 (dgl (n) 5 : Nat), .int .u64 (dgl (n) 6 : Nat), .int .u64 (dgl (n) 7 : Nat)], .agg #[.int .u64 (dgl (d) 0 : Nat), .int .u64 (dgl (d) 1 : Nat), .int .u64 (dgl (d) 2 : Nat), .int .u64 (dgl (d) 3 : Nat), .int .u64 (dgl (d) 4 : Nat), .int .u64 (dgl (d) 5 : Nat), .int .u64 (dgl (d) 6 : Nat), .int .u64 (dgl (d) 7 : Nat)]] w fun e w' => e = .returned (.int .i64 0) ∧ Below w.heap.size w w'))
    (HDV : Hid (∀ w, Calls Try.prog 24 #[.agg #[.int .u64 (dgl (n) 0 : Nat), .int .u64 (dgl (n) 1 : Nat), .int .u64 (dgl (n) 2 : Nat), .int .u64 (dgl (n) 3 : Nat), .int .u64 (dgl (n) 4 : Nat), .int .u64 (dgl (n) 5 : Nat), .int .u64 (dgl (n) 6 : Nat), .int .u64 (dgl (n) 7 : Nat)], .agg #[.int .u64 (dgl (d) 0 : Nat), .int .u64 (dgl (d) 1 : Nat), .int .u64 (dgl (d) 2 : Nat), .int .u64 (dgl (d) 3 : Nat), .int .u64 (dgl (d) 4 : Nat), .int .u64 (dgl (d) 5 : Nat), .int .u64 (dgl (d) 6 : Nat), .int .u64 (dgl (d) 7 : Nat)]] w fun e w' => e = .returned (.tuple #[.agg #[.int .u64 (dgl (A) 0 : Nat), .int .u64 (dgl (A) 1 : Nat), .int .u64 (dgl (A) 2 : Nat), .int .u64 (dgl (A) 3 : Nat), .int .u64 (dgl (A) 4 : Nat), .int .u64 (dgl (A) 5 : Nat), .int .u64 (dgl (A) 6 : Nat), .int .u64 (dgl (A) 7 : Nat)], .agg #[.int .u64 (dgl (B) 0 : Nat), .int .u64 (dgl (B) 1 : Nat), .int .u64 (dgl (B) 2 : Nat), .int .u64 (dgl (B) 3 : Nat), .int .u64 (dgl (B) 4 : Nat), .int .u64 (dgl (B) 5 : Nat), .int .u64 (dgl (B) 6 : Nat), .int .u64 (dgl (B) 7 : Nat)]]) ∧ Below w.heap.size w w'))
    (HQ : Hid (∀ w, Calls Try.prog 26 #[.agg #[.int .u64 (dgl (n) 0 : Nat), .int .u64 (dgl (n) 1 : Nat), .int .u64 (dgl (n) 2 : Nat), .int .u64 (dgl (n) 3 : Nat), .int .u64 (dgl (n) 4 : Nat), .int .u64 (dgl (n) 5 : Nat), .int .u64 (dgl (n) 6 : Nat), .int .u64 (dgl (n) 7 : Nat)], .agg #[.int .u64 (dgl (d) 0 : Nat), .int .u64 (dgl (d) 1 : Nat), .int .u64 (dgl (d) 2 : Nat), .int .u64 (dgl (d) 3 : Nat), .int .u64 (dgl (d) 4 : Nat), .int .u64 (dgl (d) 5 : Nat), .int .u64 (dgl (d) 6 : Nat), .int .u64 (dgl (d) 7 : Nat)], .agg #[.int .u64 (dgl (x) 0 : Nat), .int .u64 (dgl (x) 1 : Nat), .int .u64 (dgl (x) 2 : Nat), .int .u64 (dgl (x) 3 : Nat), .int .u64 (dgl (x) 4 : Nat), .int .u64 (dgl (x) 5 : Nat), .int .u64 (dgl (x) 6 : Nat), .int .u64 (dgl (x) 7 : Nat)], .int .i64 most] w fun e w' => e = .returned (.tuple #[.agg #[.int .u64 (dgl (A) 0 : Nat), .int .u64 (dgl (A) 1 : Nat), .int .u64 (dgl (A) 2 : Nat), .int .u64 (dgl (A) 3 : Nat), .int .u64 (dgl (A) 4 : Nat), .int .u64 (dgl (A) 5 : Nat), .int .u64 (dgl (A) 6 : Nat), .int .u64 (dgl (A) 7 : Nat)], .agg #[.int .u64 (dgl (B) 0 : Nat), .int .u64 (dgl (B) 1 : Nat), .int .u64 (dgl (B) 2 : Nat), .int .u64 (dgl (B) 3 : Nat), .int .u64 (dgl (B) 4 : Nat), .int .u64 (dgl (B) 5 : Nat), .int .u64 (dgl (B) 6 : Nat), .int .u64 (dgl (B) 7 : Nat)], .int .i64 (aw : Nat), .int .i64 0]) ∧ Below w.heap.size w w'))
    (HZ1 : ∀ w, (Op.equalIn 10000 32 (.agg #[.int .u64 (dgl (A) 0 : Nat), .int .u64 (dgl (A) 1 : Nat), .int .u64 (dgl (A) 2 : Nat), .int .u64 (dgl (A) 3 : Nat), .int .u64 (dgl (A) 4 : Nat), .int .u64 (dgl (A) 5 : Nat), .int .u64 (dgl (A) 6 : Nat), .int .u64 (dgl (A) 7 : Nat)]) (.agg #[.int .u64 0, .int .u64 0, .int .u64 0, .int .u64 0, .int .u64 0, .int .u64 0, .int .u64 0, .int .u64 0])).run Try.prog w = .ok z1 w)
    (HZ2 : ∀ w, (Op.equalIn 10000 32 (.agg #[.int .u64 (dgl (B) 0 : Nat), .int .u64 (dgl (B) 1 : Nat), .int .u64 (dgl (B) 2 : Nat), .int .u64 (dgl (B) 3 : Nat), .int .u64 (dgl (B) 4 : Nat), .int .u64 (dgl (B) 5 : Nat), .int .u64 (dgl (B) 6 : Nat), .int .u64 (dgl (B) 7 : Nat)]) (.agg #[.int .u64 0, .int .u64 0, .int .u64 0, .int .u64 0, .int .u64 0, .int .u64 0, .int .u64 0, .int .u64 0])).run Try.prog w = .ok z2 w)
    (HEA : ∀ w, (Op.equalIn 10000 32 (.agg #[.int .u64 (dgl (A) 0 : Nat), .int .u64 (dgl (A) 1 : Nat), .int .u64 (dgl (A) 2 : Nat), .int .u64 (dgl (A) 3 : Nat), .int .u64 (dgl (A) 4 : Nat), .int .u64 (dgl (A) 5 : Nat), .int .u64 (dgl (A) 6 : Nat), .int .u64 (dgl (A) 7 : Nat)]) (.agg #[.int .u64 (dgl (A) 0 : Nat), .int .u64 (dgl (A) 1 : Nat), .int .u64 (dgl (A) 2 : Nat), .int .u64 (dgl (A) 3 : Nat), .int .u64 (dgl (A) 4 : Nat), .int .u64 (dgl (A) 5 : Nat), .int .u64 (dgl (A) 6 : Nat), .int .u64 (dgl (A) 7 : Nat)])).run Try.prog w = .ok true w)
    (HEB : ∀ w, (Op.equalIn 10000 32 (.agg #[.int .u64 (dgl (B) 0 : Nat), .int .u64 (dgl (B) 1 : Nat), .int .u64 (dgl (B) 2 : Nat), .int .u64 (dgl (B) 3 : Nat), .int .u64 (dgl (B) 4 : Nat), .int .u64 (dgl (B) 5 : Nat), .int .u64 (dgl (B) 6 : Nat), .int .u64 (dgl (B) 7 : Nat)]) (.agg #[.int .u64 (dgl (B) 0 : Nat), .int .u64 (dgl (B) 1 : Nat), .int .u64 (dgl (B) 2 : Nat), .int .u64 (dgl (B) 3 : Nat), .int .u64 (dgl (B) 4 : Nat), .int .u64 (dgl (B) 5 : Nat), .int .u64 (dgl (B) 6 : Nat), .int .u64 (dgl (B) 7 : Nat)])).run Try.prog w = .ok true w)
    (HBG : Hid (∀ w, Calls Try.prog 19 #[.agg #[.int .u64 (dgl (x) 0 : Nat), .int .u64 (dgl (x) 1 : Nat), .int .u64 (dgl (x) 2 : Nat), .int .u64 (dgl (x) 3 : Nat), .int .u64 (dgl (x) 4 : Nat), .int .u64 (dgl (x) 5 : Nat), .int .u64 (dgl (x) 6 : Nat), .int .u64 (dgl (x) 7 : Nat)]] w fun e w' => ∃ v, e = .returned v ∧ BigV w' v x 40 ∧ Below w.heap.size w w'))
    (HLN : Hid (∀ u w, BigV w u x 40 → Calls Try.prog 28 #[u] w fun e w' => e = .returned (.int .i64 (L : Nat)) ∧ w' = w))
    (HBA : Hid (∀ w, Calls Try.prog 19 #[.agg #[.int .u64 (dgl (A) 0 : Nat), .int .u64 (dgl (A) 1 : Nat), .int .u64 (dgl (A) 2 : Nat), .int .u64 (dgl (A) 3 : Nat), .int .u64 (dgl (A) 4 : Nat), .int .u64 (dgl (A) 5 : Nat), .int .u64 (dgl (A) 6 : Nat), .int .u64 (dgl (A) 7 : Nat)]] w fun e w' => ∃ v, e = .returned v ∧ BigV w' v A 40 ∧ Below w.heap.size w w'))
    (HAW : Hid (∀ u v w, BigV w u A 40 → BigV w v x 40 → Calls Try.prog 29 #[u, v] w fun e w' => ∃ v, e = .returned v ∧ BigV w' v aw 40 ∧ Below w.heap.size w w'))
    (HWI : Hid (∀ u w, BigV w u aw 40 → Calls Try.prog 30 #[u, .int .i64 most] w fun e w' => e = .returned (.bool true) ∧ Below w.heap.size w w'))
    (HSM : Hid (∀ w, Calls Try.prog 18 #[.int .u64 (aw : Nat)] w fun e w' => ∃ v, e = .returned v ∧ BigV w' v aw 2 ∧ Below w.heap.size w w'))
    (HCM : Hid (∀ u v w, BigV w u aw 2 → BigV w v aw 40 → Calls Try.prog 20 #[u, v] w fun e w' => e = .returned (.int .i64 0) ∧ w' = w))
    (HAK : Hid (∀ w, Calls Try.prog 27 #[] w fun e w' => e = .returned (.bool true) ∧ Below w.heap.size w w')) :
    Calls Try.prog 6 #[.agg #[.int .u64 (dgl (n) 0 : Nat), .int .u64 (dgl (n) 1 : Nat), .int .u64 (dgl (n) 2 : Nat), .int .u64 (dgl (n) 3 : Nat), .int .u64 (dgl (n) 4 : Nat), .int .u64 (dgl (n) 5 : Nat), .int .u64 (dgl (n) 6 : Nat), .int .u64 (dgl (n) 7 : Nat)], .agg #[.int .u64 (dgl (d) 0 : Nat), .int .u64 (dgl (d) 1 : Nat), .int .u64 (dgl (d) 2 : Nat), .int .u64 (dgl (d) 3 : Nat), .int .u64 (dgl (d) 4 : Nat), .int .u64 (dgl (d) 5 : Nat), .int .u64 (dgl (d) 6 : Nat), .int .u64 (dgl (d) 7 : Nat)], .agg #[.int .u64 (dgl x 0 : Nat), .int .u64 (dgl x 1 : Nat), .int .u64 (dgl x 2 : Nat), .int .u64 (dgl x 3 : Nat), .int .u64 (dgl x 4 : Nat), .int .u64 (dgl x 5 : Nat), .int .u64 (dgl x 6 : Nat), .int .u64 (dgl x 7 : Nat), .bool true, .int .i8 by_, .int .i64 most]] w fun e w' => e = .returned (.bool true) ∧ Below w.heap.size w w' := by
  have HS := hide (gqSt_start n d x true by_ most w)
  go_enter Try.func6, Try.ntmps6
  go_upto_region 2 with fail
  refine wp_gen (fun W => GqSt n d x true by_ most x w W) HS.out ?_
  clear HS
  rintro W0 h0
  have HS := hide h0
  clear h0
  have hn := HS.out.la.1
  have hd := HS.out.ld.1
  go_wp2_with fail
  refine (HM.out _).mono ?_
  rintro e w1 ⟨rfl, hb1⟩
  replace HS := hide (HS.out.below hb1)
  clear hn hd hb1
  have hn := HS.out.la.1
  have hd := HS.out.ld.1
  have hr8 := HS.out.c8
  have hg := HS.out.lg.1
  have hr10 := HS.out.c10
  go_wp2_with fail
  refine (HQ.out _).mono ?_
  rintro e w2 ⟨rfl, hb2⟩
  replace HS := hide (HS.out.below hb2)
  clear hn hd hr8 hg hr10 hb2
  go_upto_region 7 with fail
  have hp2 := r2_put w2 w2 A B (Below.refl _ _) 32 32
  refine wp_gen (fun W => GqSt n d x true by_ most x w W ∧ LiesF W w2.heap.size (dgl A) ∧ LiesF W (w2.heap.size + 1) (dgl B)) ⟨HS.out.below (below_trans (below_allocs _ _) (below_allocs _ _)), hp2.lx, hp2.ly⟩ ?_
  clear hp2 HS
  generalize w2.heap.size = p11 at *
  rintro W2 ⟨kHS, g1, g2⟩
  have HS := hide kHS
  have P11 := hide g1
  have P12 := hide g2
  clear kHS g1 g2
  go_cut [15] (fun y wx => (∃ z, y = .bool z) ∧ wx = W2)
  case first =>
    have h11 := P11.out.1
    have h12 := P12.out.1
    cases z1 <;> cases z2
    all_goals
      go_wp2
      go_meet
      exact ⟨⟨_, rfl⟩, rfl⟩
  case rest =>
    obtain ⟨⟨z3, rfl⟩, rfl⟩ := hcut
    clear HZ1 HZ2
    have hr10 := HS.out.c10
    have hn := HS.out.la.1
    have hd := HS.out.ld.1
    go_wp2_with fail
    refine (HM.out _).mono ?_
    rintro e w3 ⟨rfl, hb3⟩
    replace HS := hide (HS.out.below hb3)
    replace P11 := hide (P11.out.below hb3)
    replace P12 := hide (P12.out.below hb3)
    clear hr10 hn hd hb3
    have hg := HS.out.lg.1
    go_wp2_with fail
    refine (HBG.out _).mono ?_
    rintro e w4 ⟨v1, rfl, hv1, hb4⟩
    replace HS := hide (HS.out.below hb4)
    replace P11 := hide (P11.out.below hb4)
    replace P12 := hide (P12.out.below hb4)
    clear hg hb4
    go_wp2_with fail
    refine (HLN.out _ _ hv1).mono ?_
    rintro e w5 ⟨rfl, hw⟩
    subst w5
    clear hv1 HLN
    have hn := HS.out.la.1
    have hd := HS.out.ld.1
    go_wp2_with fail
    refine (HDV.out _).mono ?_
    rintro e w5 ⟨rfl, hb5⟩
    replace HS := hide (HS.out.below hb5)
    replace P11 := hide (P11.out.below hb5)
    replace P12 := hide (P12.out.below hb5)
    clear hn hd hb5
    go_upto_region 16 with fail
    have hp2 := r2_put w5 w5 A B (Below.refl _ _) 32 32
    refine wp_gen (fun W => GqSt n d x true by_ most x w W ∧ LiesF W (p11) (dgl A) ∧ LiesF W (p11 + 1) (dgl B) ∧ LiesF W w5.heap.size (dgl A) ∧ LiesF W (w5.heap.size + 1) (dgl B)) ⟨HS.out.below (below_trans (below_allocs _ _) (below_allocs _ _)), P11.out.below (below_trans (below_allocs _ _) (below_allocs _ _)), P12.out.below (below_trans (below_allocs _ _) (below_allocs _ _)), hp2.lx, hp2.ly⟩ ?_
    clear hp2 HS P11 P12
    generalize w5.heap.size = p17 at *
    rintro W5 ⟨kHS, kP11, kP12, g1, g2⟩
    have HS := hide kHS
    have P11 := hide kP11
    have P12 := hide kP12
    have P17 := hide g1
    have P18 := hide g2
    clear kHS kP11 kP12 g1 g2
    have g17 := P17.out
    refine wp_region_grow 6 [(113, .val (.agg #[.int .u64 (dgl (A) 0 : Nat), .int .u64 (dgl (A) 1 : Nat), .int .u64 (dgl (A) 2 : Nat), .int .u64 (dgl (A) 3 : Nat), .int .u64 (dgl (A) 4 : Nat), .int .u64 (dgl (A) 5 : Nat), .int .u64 (dgl (A) 6 : Nat), .int .u64 (dgl (A) 7 : Nat)])), (114, .big A 40), (115, .val (.agg #[.int .u64 (dgl (x) 0 : Nat), .int .u64 (dgl (x) 1 : Nat), .int .u64 (dgl (x) 2 : Nat), .int .u64 (dgl (x) 3 : Nat), .int .u64 (dgl (x) 4 : Nat), .int .u64 (dgl (x) 5 : Nat), .int .u64 (dgl (x) 6 : Nat), .int .u64 (dgl (x) 7 : Nat)])), (116, .big x 40), (117, .big aw 40), (19, .big aw 40)]
      (fun W => GqSt n d x true by_ most x w W ∧ LiesF W p17 (dgl A) ∧ LiesF W (p17 + 1) (dgl B) ∧ LiesF W p11 (dgl A) ∧ LiesF W (p11 + 1) (dgl B)) mixedOk (by kernel_rfl) (by kernel_rfl) (⟨HS.out.below (Below.refl _ _).drew, g17.below (Below.refl _ _).drew, P18.out.below (Below.refl _ _).drew, P11.out.below (Below.refl _ _).drew, P12.out.below (Below.refl _ _).drew⟩) (fun W W' h hb => ⟨h.1.below hb, h.2.1.below hb, h.2.2.1.below hb, h.2.2.2.1.below hb, h.2.2.2.2.below hb⟩) ?_ ?_
    · refine gSt (gStep_run rfl ?_) ?_
      · intro ρ W hC hc hf hL
        have e17 : ρ (.tmp 17) = .pointer (some ⟨p17, 0, none⟩) := hL 17 (by decide +kernel)
        have hl := hC.2.1.1
        simp [go_sem, hc, hf, e17, hl]
        exact ⟨Below.refl _ _, rfl⟩
      refine gSt (gStep_run rfl ?_) ?_
      · intro ρ W hC hc hf hL
        have e113 : ρ (.tmp 113) = .agg #[.int .u64 (dgl (A) 0 : Nat), .int .u64 (dgl (A) 1 : Nat), .int .u64 (dgl (A) 2 : Nat), .int .u64 (dgl (A) 3 : Nat), .int .u64 (dgl (A) 4 : Nat), .int .u64 (dgl (A) 5 : Nat), .int .u64 (dgl (A) 6 : Nat), .int .u64 (dgl (A) 7 : Nat)] := hL 113 (by decide +kernel)
        simp [go_sem, hc, hf, e113]
        refine (HBA.out W).mono ?_
        rintro e w' ⟨v, rfl, hv, hb⟩
        exact ⟨_, rfl, hb, hv⟩
      refine gSt (gStep_run rfl ?_) ?_
      · intro ρ W hC hc hf hL
        have e7 : ρ (.tmp 7) = .pointer (some ⟨w.heap.size + 3, 0, none⟩) := hL 7 (by decide +kernel)
        have hl := hC.1.lg.1
        simp [go_sem, hc, hf, e7, hl]
        exact ⟨Below.refl _ _, rfl⟩
      refine gSt (gStep_run rfl ?_) ?_
      · intro ρ W hC hc hf hL
        have e115 : ρ (.tmp 115) = .agg #[.int .u64 (dgl (x) 0 : Nat), .int .u64 (dgl (x) 1 : Nat), .int .u64 (dgl (x) 2 : Nat), .int .u64 (dgl (x) 3 : Nat), .int .u64 (dgl (x) 4 : Nat), .int .u64 (dgl (x) 5 : Nat), .int .u64 (dgl (x) 6 : Nat), .int .u64 (dgl (x) 7 : Nat)] := hL 115 (by decide +kernel)
        simp [go_sem, hc, hf, e115]
        refine (HBG.out W).mono ?_
        rintro e w' ⟨v, rfl, hv, hb⟩
        exact ⟨_, rfl, hb, hv⟩
      refine gSt (gStep_run rfl ?_) ?_
      · intro ρ W hC hc hf hL
        have b114 : BigV W (ρ (.tmp 114)) (A) (40) := hL 114 (by decide +kernel)
        have b116 : BigV W (ρ (.tmp 116)) (x) (40) := hL 116 (by decide +kernel)
        simp [go_sem, hc, hf]
        refine (HAW.out _ _ W b114 b116).mono ?_
        rintro e w' ⟨v, rfl, hv, hb⟩
        exact ⟨_, rfl, hb, hv⟩
      refine gSt (gStep_run rfl (gRun_move 117 19 (.inr rfl) rfl (by decide +kernel) (fun v w h => h))) ?_
      exact gSt0
    · intro W hC
      refine gFi 113 rfl ?_
      rintro _ rfl
      refine gFi 114 rfl ?_
      rintro u114 b114
      refine gFi 115 rfl ?_
      rintro _ rfl
      refine gFi 116 rfl ?_
      rintro u116 b116
      refine gFi 117 rfl ?_
      rintro u117 b117
      refine gFi 19 rfl ?_
      rintro u19 b19
      refine gFi0 ?_
      simp only [List.drop_succ_cons, List.drop_zero, Act.put, List.setIfInBounds_toArray, List.set_cons_succ, List.set_cons_zero]
      clear HS g17 P17 P18 P11 P12
      have HS := hide hC.1
      have P17 := hide hC.2.1
      have P18 := hide hC.2.2.1
      have P11 := hide hC.2.2.2.1
      have P12 := hide hC.2.2.2.2
      clear hC b114 b116 b117
      have hr10 := HS.out.c10
      go_wp2_with fail
      refine (HWI.out _ _ b19).mono ?_
      rintro e w6 ⟨rfl, hb6⟩
      replace HS := hide (HS.out.below hb6)
      replace P17 := hide (P17.out.below hb6)
      replace P18 := hide (P18.out.below hb6)
      replace P11 := hide (P11.out.below hb6)
      replace P12 := hide (P12.out.below hb6)
      replace b19 := BigV.below b19 hb6
      clear hr10 hb6
      have h17 := P17.out.1
      have h18 := P18.out.1
      have h11 := P11.out.1
      have h12 := P12.out.1
      go_wp2_with fail
      refine (HSM.out _).mono ?_
      rintro e w7 ⟨v2, rfl, hv2, hb7⟩
      replace HS := hide (HS.out.below hb7)
      replace b19 := BigV.below b19 hb7
      clear hb7
      clear h17 h18 h11 h12
      go_wp2_with fail
      refine (HCM.out _ _ _ hv2 b19).mono ?_
      rintro e w8 ⟨rfl, hw⟩
      subst w8
      go_wp2_with fail
      refine (HAK.out _).mono ?_
      rintro e w8 ⟨rfl, hb8⟩
      replace HS := hide (HS.out.below hb8)
      clear hb8
      have HBE := hide HS.out.bel
      clear HS
      go_wp2
      go_ret
      exact ⟨rfl, HBE.out⟩

set_option maxHeartbeats 4000000 in
theorem fixQ_3e (n d x G A B L aw : Nat) (raw z1 z2 : Bool) (by_ most c : Int) (w : World) (hm0 : decide (most < 0) = false) (hm1 : decide (100 < most) = false) (hL : decide (200 < (L : Int)) = false) (hk : (0 : Int) ≤ (aw : Int)) (hu : IntKind.u64.wrap (aw : Int) = (aw : Int))
    (HM : Hid (∀ w, Calls Try.prog 23 #[.agg #[.int .u64 (dgl (n) 0 : Nat), .int .u64 (dgl (n) 1 : Nat), .int .u64 (dgl (n) 2 : Nat), .int .u64 (dgl (n) 3 : Nat), .int .u64 (dgl (n) 4 : Nat), .int .u64 (dgl (n) 5 : Nat), .int .u64 (dgl (n) 6 : Nat), .int .u64 (dgl (n) 7 : Nat)], .agg #[.int .u64 (dgl (d) 0 : Nat), .int .u64 (dgl (d) 1 : Nat), .int .u64 (dgl (d) 2 : Nat), .int .u64 (dgl (d) 3 : Nat), .int .u64 (dgl (d) 4 : Nat), .int .u64 (dgl (d) 5 : Nat), .int .u64 (dgl (d) 6 : Nat), .int .u64 (dgl (d) 7 : Nat)]] w fun e w' => e = .returned (.int .i64 0) ∧ Below w.heap.size w w'))
    (HDV : Hid (∀ w, Calls Try.prog 24 #[.agg #[.int .u64 (dgl (n) 0 : Nat), .int .u64 (dgl (n) 1 : Nat), .int .u64 (dgl (n) 2 : Nat), .int .u64 (dgl (n) 3 : Nat), .int .u64 (dgl (n) 4 : Nat), .int .u64 (dgl (n) 5 : Nat), .int .u64 (dgl (n) 6 : Nat), .int .u64 (dgl (n) 7 : Nat)], .agg #[.int .u64 (dgl (d) 0 : Nat), .int .u64 (dgl (d) 1 : Nat), .int .u64 (dgl (d) 2 : Nat), .int .u64 (dgl (d) 3 : Nat), .int .u64 (dgl (d) 4 : Nat), .int .u64 (dgl (d) 5 : Nat), .int .u64 (dgl (d) 6 : Nat), .int .u64 (dgl (d) 7 : Nat)]] w fun e w' => e = .returned (.tuple #[.agg #[.int .u64 (dgl (A) 0 : Nat), .int .u64 (dgl (A) 1 : Nat), .int .u64 (dgl (A) 2 : Nat), .int .u64 (dgl (A) 3 : Nat), .int .u64 (dgl (A) 4 : Nat), .int .u64 (dgl (A) 5 : Nat), .int .u64 (dgl (A) 6 : Nat), .int .u64 (dgl (A) 7 : Nat)], .agg #[.int .u64 (dgl (B) 0 : Nat), .int .u64 (dgl (B) 1 : Nat), .int .u64 (dgl (B) 2 : Nat), .int .u64 (dgl (B) 3 : Nat), .int .u64 (dgl (B) 4 : Nat), .int .u64 (dgl (B) 5 : Nat), .int .u64 (dgl (B) 6 : Nat), .int .u64 (dgl (B) 7 : Nat)]]) ∧ Below w.heap.size w w'))
    (HBT : Hid (∀ w, Calls Try.prog 25 #[.agg #[.int .u64 (dgl (A) 0 : Nat), .int .u64 (dgl (A) 1 : Nat), .int .u64 (dgl (A) 2 : Nat), .int .u64 (dgl (A) 3 : Nat), .int .u64 (dgl (A) 4 : Nat), .int .u64 (dgl (A) 5 : Nat), .int .u64 (dgl (A) 6 : Nat), .int .u64 (dgl (A) 7 : Nat)], .int .i8 by_] w fun e w' => e = .returned (.agg #[.int .u64 (dgl (G) 0 : Nat), .int .u64 (dgl (G) 1 : Nat), .int .u64 (dgl (G) 2 : Nat), .int .u64 (dgl (G) 3 : Nat), .int .u64 (dgl (G) 4 : Nat), .int .u64 (dgl (G) 5 : Nat), .int .u64 (dgl (G) 6 : Nat), .int .u64 (dgl (G) 7 : Nat)]) ∧ Below w.heap.size w w'))
    (HQ : Hid (∀ w, Calls Try.prog 26 #[.agg #[.int .u64 (dgl (n) 0 : Nat), .int .u64 (dgl (n) 1 : Nat), .int .u64 (dgl (n) 2 : Nat), .int .u64 (dgl (n) 3 : Nat), .int .u64 (dgl (n) 4 : Nat), .int .u64 (dgl (n) 5 : Nat), .int .u64 (dgl (n) 6 : Nat), .int .u64 (dgl (n) 7 : Nat)], .agg #[.int .u64 (dgl (d) 0 : Nat), .int .u64 (dgl (d) 1 : Nat), .int .u64 (dgl (d) 2 : Nat), .int .u64 (dgl (d) 3 : Nat), .int .u64 (dgl (d) 4 : Nat), .int .u64 (dgl (d) 5 : Nat), .int .u64 (dgl (d) 6 : Nat), .int .u64 (dgl (d) 7 : Nat)], .agg #[.int .u64 (dgl (G) 0 : Nat), .int .u64 (dgl (G) 1 : Nat), .int .u64 (dgl (G) 2 : Nat), .int .u64 (dgl (G) 3 : Nat), .int .u64 (dgl (G) 4 : Nat), .int .u64 (dgl (G) 5 : Nat), .int .u64 (dgl (G) 6 : Nat), .int .u64 (dgl (G) 7 : Nat)], .int .i64 most] w fun e w' => e = .returned (.tuple #[.agg #[.int .u64 (dgl (A) 0 : Nat), .int .u64 (dgl (A) 1 : Nat), .int .u64 (dgl (A) 2 : Nat), .int .u64 (dgl (A) 3 : Nat), .int .u64 (dgl (A) 4 : Nat), .int .u64 (dgl (A) 5 : Nat), .int .u64 (dgl (A) 6 : Nat), .int .u64 (dgl (A) 7 : Nat)], .agg #[.int .u64 (dgl (B) 0 : Nat), .int .u64 (dgl (B) 1 : Nat), .int .u64 (dgl (B) 2 : Nat), .int .u64 (dgl (B) 3 : Nat), .int .u64 (dgl (B) 4 : Nat), .int .u64 (dgl (B) 5 : Nat), .int .u64 (dgl (B) 6 : Nat), .int .u64 (dgl (B) 7 : Nat)], .int .i64 (aw : Nat), .int .i64 0]) ∧ Below w.heap.size w w'))
    (HZ1 : ∀ w, (Op.equalIn 10000 32 (.agg #[.int .u64 (dgl (A) 0 : Nat), .int .u64 (dgl (A) 1 : Nat), .int .u64 (dgl (A) 2 : Nat), .int .u64 (dgl (A) 3 : Nat), .int .u64 (dgl (A) 4 : Nat), .int .u64 (dgl (A) 5 : Nat), .int .u64 (dgl (A) 6 : Nat), .int .u64 (dgl (A) 7 : Nat)]) (.agg #[.int .u64 0, .int .u64 0, .int .u64 0, .int .u64 0, .int .u64 0, .int .u64 0, .int .u64 0, .int .u64 0])).run Try.prog w = .ok z1 w)
    (HZ2 : ∀ w, (Op.equalIn 10000 32 (.agg #[.int .u64 (dgl (B) 0 : Nat), .int .u64 (dgl (B) 1 : Nat), .int .u64 (dgl (B) 2 : Nat), .int .u64 (dgl (B) 3 : Nat), .int .u64 (dgl (B) 4 : Nat), .int .u64 (dgl (B) 5 : Nat), .int .u64 (dgl (B) 6 : Nat), .int .u64 (dgl (B) 7 : Nat)]) (.agg #[.int .u64 0, .int .u64 0, .int .u64 0, .int .u64 0, .int .u64 0, .int .u64 0, .int .u64 0, .int .u64 0])).run Try.prog w = .ok z2 w)
    (HEA : ∀ w, (Op.equalIn 10000 32 (.agg #[.int .u64 (dgl (A) 0 : Nat), .int .u64 (dgl (A) 1 : Nat), .int .u64 (dgl (A) 2 : Nat), .int .u64 (dgl (A) 3 : Nat), .int .u64 (dgl (A) 4 : Nat), .int .u64 (dgl (A) 5 : Nat), .int .u64 (dgl (A) 6 : Nat), .int .u64 (dgl (A) 7 : Nat)]) (.agg #[.int .u64 (dgl (A) 0 : Nat), .int .u64 (dgl (A) 1 : Nat), .int .u64 (dgl (A) 2 : Nat), .int .u64 (dgl (A) 3 : Nat), .int .u64 (dgl (A) 4 : Nat), .int .u64 (dgl (A) 5 : Nat), .int .u64 (dgl (A) 6 : Nat), .int .u64 (dgl (A) 7 : Nat)])).run Try.prog w = .ok true w)
    (HEB : ∀ w, (Op.equalIn 10000 32 (.agg #[.int .u64 (dgl (B) 0 : Nat), .int .u64 (dgl (B) 1 : Nat), .int .u64 (dgl (B) 2 : Nat), .int .u64 (dgl (B) 3 : Nat), .int .u64 (dgl (B) 4 : Nat), .int .u64 (dgl (B) 5 : Nat), .int .u64 (dgl (B) 6 : Nat), .int .u64 (dgl (B) 7 : Nat)]) (.agg #[.int .u64 (dgl (B) 0 : Nat), .int .u64 (dgl (B) 1 : Nat), .int .u64 (dgl (B) 2 : Nat), .int .u64 (dgl (B) 3 : Nat), .int .u64 (dgl (B) 4 : Nat), .int .u64 (dgl (B) 5 : Nat), .int .u64 (dgl (B) 6 : Nat), .int .u64 (dgl (B) 7 : Nat)])).run Try.prog w = .ok true w)
    (HBG : Hid (∀ w, Calls Try.prog 19 #[.agg #[.int .u64 (dgl (G) 0 : Nat), .int .u64 (dgl (G) 1 : Nat), .int .u64 (dgl (G) 2 : Nat), .int .u64 (dgl (G) 3 : Nat), .int .u64 (dgl (G) 4 : Nat), .int .u64 (dgl (G) 5 : Nat), .int .u64 (dgl (G) 6 : Nat), .int .u64 (dgl (G) 7 : Nat)]] w fun e w' => ∃ v, e = .returned v ∧ BigV w' v G 40 ∧ Below w.heap.size w w'))
    (HLN : Hid (∀ u w, BigV w u G 40 → Calls Try.prog 28 #[u] w fun e w' => e = .returned (.int .i64 (L : Nat)) ∧ w' = w))
    (HBA : Hid (∀ w, Calls Try.prog 19 #[.agg #[.int .u64 (dgl (A) 0 : Nat), .int .u64 (dgl (A) 1 : Nat), .int .u64 (dgl (A) 2 : Nat), .int .u64 (dgl (A) 3 : Nat), .int .u64 (dgl (A) 4 : Nat), .int .u64 (dgl (A) 5 : Nat), .int .u64 (dgl (A) 6 : Nat), .int .u64 (dgl (A) 7 : Nat)]] w fun e w' => ∃ v, e = .returned v ∧ BigV w' v A 40 ∧ Below w.heap.size w w'))
    (HAW : Hid (∀ u v w, BigV w u A 40 → BigV w v G 40 → Calls Try.prog 29 #[u, v] w fun e w' => ∃ v, e = .returned v ∧ BigV w' v aw 40 ∧ Below w.heap.size w w'))
    (HWI : Hid (∀ u w, BigV w u aw 40 → Calls Try.prog 30 #[u, .int .i64 most] w fun e w' => e = .returned (.bool true) ∧ Below w.heap.size w w'))
    (HSM : Hid (∀ w, Calls Try.prog 18 #[.int .u64 (aw : Nat)] w fun e w' => ∃ v, e = .returned v ∧ BigV w' v aw 2 ∧ Below w.heap.size w w'))
    (HCM : Hid (∀ u v w, BigV w u aw 2 → BigV w v aw 40 → Calls Try.prog 20 #[u, v] w fun e w' => e = .returned (.int .i64 0) ∧ w' = w))
    (HAK : Hid (∀ w, Calls Try.prog 27 #[] w fun e w' => e = .returned (.bool true) ∧ Below w.heap.size w w')) :
    Calls Try.prog 6 #[.agg #[.int .u64 (dgl (n) 0 : Nat), .int .u64 (dgl (n) 1 : Nat), .int .u64 (dgl (n) 2 : Nat), .int .u64 (dgl (n) 3 : Nat), .int .u64 (dgl (n) 4 : Nat), .int .u64 (dgl (n) 5 : Nat), .int .u64 (dgl (n) 6 : Nat), .int .u64 (dgl (n) 7 : Nat)], .agg #[.int .u64 (dgl (d) 0 : Nat), .int .u64 (dgl (d) 1 : Nat), .int .u64 (dgl (d) 2 : Nat), .int .u64 (dgl (d) 3 : Nat), .int .u64 (dgl (d) 4 : Nat), .int .u64 (dgl (d) 5 : Nat), .int .u64 (dgl (d) 6 : Nat), .int .u64 (dgl (d) 7 : Nat)], .agg #[.int .u64 (dgl x 0 : Nat), .int .u64 (dgl x 1 : Nat), .int .u64 (dgl x 2 : Nat), .int .u64 (dgl x 3 : Nat), .int .u64 (dgl x 4 : Nat), .int .u64 (dgl x 5 : Nat), .int .u64 (dgl x 6 : Nat), .int .u64 (dgl x 7 : Nat), .bool false, .int .i8 by_, .int .i64 most]] w fun e w' => e = .returned (.bool true) ∧ Below w.heap.size w w' := by
  have HS := hide (gqSt_start n d x false by_ most w)
  go_enter Try.func6, Try.ntmps6
  go_upto_region 2 with fail
  refine wp_gen (fun W => GqSt n d x false by_ most x w W) HS.out ?_
  clear HS
  rintro W0 h0
  have HS := hide h0
  clear h0
  have hn := HS.out.la.1
  have hd := HS.out.ld.1
  go_wp2_with fail
  refine (HM.out _).mono ?_
  rintro e w1 ⟨rfl, hb1⟩
  replace HS := hide (HS.out.below hb1)
  clear hn hd hb1
  have hn := HS.out.la.1
  have hd := HS.out.ld.1
  have hr8 := HS.out.c8
  go_wp2_with fail
  refine (HDV.out _).mono ?_
  rintro e w2 ⟨rfl, hb2⟩
  replace HS := hide (HS.out.below hb2)
  clear hn hd hr8 hb2
  go_upto_region 5 with fail
  have hp2 := r2_put w2 w2 A B (Below.refl _ _) 32 32
  refine wp_gen (fun W => GqSt n d x false by_ most x w W ∧ LiesF W w2.heap.size (dgl A) ∧ LiesF W (w2.heap.size + 1) (dgl B)) ⟨HS.out.below (below_trans (below_allocs _ _) (below_allocs _ _)), hp2.lx, hp2.ly⟩ ?_
  clear hp2 HS
  generalize w2.heap.size = p9 at *
  rintro W2 ⟨kHS, g1, g2⟩
  have HS := hide kHS
  have P9 := hide g1
  have P10 := hide g2
  clear kHS g1 g2
  clear P10
  have hp9 := P9.out.1
  have hr9 := HS.out.c9
  go_wp2_with fail
  refine (HBT.out _).mono ?_
  rintro e w3 ⟨rfl, hb3⟩
  replace HS := hide (HS.out.below hb3)
  replace P9 := hide (P9.out.below hb3)
  clear hp9 hr9 hb3
  clear P9
  have hg := HS.out.lg.1
  have hgl := HS.out.lg.2
  have hgf := HS.out.fg
  go_upto_region 6 with fail
  refine wp_gen (fun W => GqSt n d x false by_ most G w W) (gqSt_set HS.out G) ?_
  clear HS hg hgl hgf
  rintro W1 h1
  have HS := hide h1
  clear h1
  have hn := HS.out.la.1
  have hd := HS.out.ld.1
  have hg := HS.out.lg.1
  have hr10 := HS.out.c10
  go_wp2_with fail
  refine (HQ.out _).mono ?_
  rintro e w4 ⟨rfl, hb4⟩
  replace HS := hide (HS.out.below hb4)
  clear hn hd hg hr10 hb4
  go_upto_region 7 with fail
  have hp2 := r2_put w4 w4 A B (Below.refl _ _) 32 32
  refine wp_gen (fun W => GqSt n d x false by_ most G w W ∧ LiesF W w4.heap.size (dgl A) ∧ LiesF W (w4.heap.size + 1) (dgl B)) ⟨HS.out.below (below_trans (below_allocs _ _) (below_allocs _ _)), hp2.lx, hp2.ly⟩ ?_
  clear hp2 HS
  generalize w4.heap.size = p11 at *
  rintro W4 ⟨kHS, g1, g2⟩
  have HS := hide kHS
  have P11 := hide g1
  have P12 := hide g2
  clear kHS g1 g2
  go_cut [15] (fun y wx => (∃ z, y = .bool z) ∧ wx = W4)
  case first =>
    have h11 := P11.out.1
    have h12 := P12.out.1
    cases z1 <;> cases z2
    all_goals
      go_wp2
      go_meet
      exact ⟨⟨_, rfl⟩, rfl⟩
  case rest =>
    obtain ⟨⟨z3, rfl⟩, rfl⟩ := hcut
    clear HZ1 HZ2
    have hr10 := HS.out.c10
    have hn := HS.out.la.1
    have hd := HS.out.ld.1
    go_wp2_with fail
    refine (HM.out _).mono ?_
    rintro e w5 ⟨rfl, hb5⟩
    replace HS := hide (HS.out.below hb5)
    replace P11 := hide (P11.out.below hb5)
    replace P12 := hide (P12.out.below hb5)
    clear hr10 hn hd hb5
    have hg := HS.out.lg.1
    go_wp2_with fail
    refine (HBG.out _).mono ?_
    rintro e w6 ⟨v1, rfl, hv1, hb6⟩
    replace HS := hide (HS.out.below hb6)
    replace P11 := hide (P11.out.below hb6)
    replace P12 := hide (P12.out.below hb6)
    clear hg hb6
    go_wp2_with fail
    refine (HLN.out _ _ hv1).mono ?_
    rintro e w7 ⟨rfl, hw⟩
    subst w7
    clear hv1 HLN
    have hn := HS.out.la.1
    have hd := HS.out.ld.1
    go_wp2_with fail
    refine (HDV.out _).mono ?_
    rintro e w7 ⟨rfl, hb7⟩
    replace HS := hide (HS.out.below hb7)
    replace P11 := hide (P11.out.below hb7)
    replace P12 := hide (P12.out.below hb7)
    clear hn hd hb7
    go_upto_region 16 with fail
    have hp2 := r2_put w7 w7 A B (Below.refl _ _) 32 32
    refine wp_gen (fun W => GqSt n d x false by_ most G w W ∧ LiesF W (p11) (dgl A) ∧ LiesF W (p11 + 1) (dgl B) ∧ LiesF W w7.heap.size (dgl A) ∧ LiesF W (w7.heap.size + 1) (dgl B)) ⟨HS.out.below (below_trans (below_allocs _ _) (below_allocs _ _)), P11.out.below (below_trans (below_allocs _ _) (below_allocs _ _)), P12.out.below (below_trans (below_allocs _ _) (below_allocs _ _)), hp2.lx, hp2.ly⟩ ?_
    clear hp2 HS P11 P12
    generalize w7.heap.size = p17 at *
    rintro W7 ⟨kHS, kP11, kP12, g1, g2⟩
    have HS := hide kHS
    have P11 := hide kP11
    have P12 := hide kP12
    have P17 := hide g1
    have P18 := hide g2
    clear kHS kP11 kP12 g1 g2
    have g17 := P17.out
    refine wp_region_grow 6 [(113, .val (.agg #[.int .u64 (dgl (A) 0 : Nat), .int .u64 (dgl (A) 1 : Nat), .int .u64 (dgl (A) 2 : Nat), .int .u64 (dgl (A) 3 : Nat), .int .u64 (dgl (A) 4 : Nat), .int .u64 (dgl (A) 5 : Nat), .int .u64 (dgl (A) 6 : Nat), .int .u64 (dgl (A) 7 : Nat)])), (114, .big A 40), (115, .val (.agg #[.int .u64 (dgl (G) 0 : Nat), .int .u64 (dgl (G) 1 : Nat), .int .u64 (dgl (G) 2 : Nat), .int .u64 (dgl (G) 3 : Nat), .int .u64 (dgl (G) 4 : Nat), .int .u64 (dgl (G) 5 : Nat), .int .u64 (dgl (G) 6 : Nat), .int .u64 (dgl (G) 7 : Nat)])), (116, .big G 40), (117, .big aw 40), (19, .big aw 40)]
      (fun W => GqSt n d x false by_ most G w W ∧ LiesF W p17 (dgl A) ∧ LiesF W (p17 + 1) (dgl B) ∧ LiesF W p11 (dgl A) ∧ LiesF W (p11 + 1) (dgl B)) mixedOk (by kernel_rfl) (by kernel_rfl) (⟨HS.out.below (Below.refl _ _).drew, g17.below (Below.refl _ _).drew, P18.out.below (Below.refl _ _).drew, P11.out.below (Below.refl _ _).drew, P12.out.below (Below.refl _ _).drew⟩) (fun W W' h hb => ⟨h.1.below hb, h.2.1.below hb, h.2.2.1.below hb, h.2.2.2.1.below hb, h.2.2.2.2.below hb⟩) ?_ ?_
    · refine gSt (gStep_run rfl ?_) ?_
      · intro ρ W hC hc hf hL
        have e17 : ρ (.tmp 17) = .pointer (some ⟨p17, 0, none⟩) := hL 17 (by decide +kernel)
        have hl := hC.2.1.1
        simp [go_sem, hc, hf, e17, hl]
        exact ⟨Below.refl _ _, rfl⟩
      refine gSt (gStep_run rfl ?_) ?_
      · intro ρ W hC hc hf hL
        have e113 : ρ (.tmp 113) = .agg #[.int .u64 (dgl (A) 0 : Nat), .int .u64 (dgl (A) 1 : Nat), .int .u64 (dgl (A) 2 : Nat), .int .u64 (dgl (A) 3 : Nat), .int .u64 (dgl (A) 4 : Nat), .int .u64 (dgl (A) 5 : Nat), .int .u64 (dgl (A) 6 : Nat), .int .u64 (dgl (A) 7 : Nat)] := hL 113 (by decide +kernel)
        simp [go_sem, hc, hf, e113]
        refine (HBA.out W).mono ?_
        rintro e w' ⟨v, rfl, hv, hb⟩
        exact ⟨_, rfl, hb, hv⟩
      refine gSt (gStep_run rfl ?_) ?_
      · intro ρ W hC hc hf hL
        have e7 : ρ (.tmp 7) = .pointer (some ⟨w.heap.size + 3, 0, none⟩) := hL 7 (by decide +kernel)
        have hl := hC.1.lg.1
        simp [go_sem, hc, hf, e7, hl]
        exact ⟨Below.refl _ _, rfl⟩
      refine gSt (gStep_run rfl ?_) ?_
      · intro ρ W hC hc hf hL
        have e115 : ρ (.tmp 115) = .agg #[.int .u64 (dgl (G) 0 : Nat), .int .u64 (dgl (G) 1 : Nat), .int .u64 (dgl (G) 2 : Nat), .int .u64 (dgl (G) 3 : Nat), .int .u64 (dgl (G) 4 : Nat), .int .u64 (dgl (G) 5 : Nat), .int .u64 (dgl (G) 6 : Nat), .int .u64 (dgl (G) 7 : Nat)] := hL 115 (by decide +kernel)
        simp [go_sem, hc, hf, e115]
        refine (HBG.out W).mono ?_
        rintro e w' ⟨v, rfl, hv, hb⟩
        exact ⟨_, rfl, hb, hv⟩
      refine gSt (gStep_run rfl ?_) ?_
      · intro ρ W hC hc hf hL
        have b114 : BigV W (ρ (.tmp 114)) (A) (40) := hL 114 (by decide +kernel)
        have b116 : BigV W (ρ (.tmp 116)) (G) (40) := hL 116 (by decide +kernel)
        simp [go_sem, hc, hf]
        refine (HAW.out _ _ W b114 b116).mono ?_
        rintro e w' ⟨v, rfl, hv, hb⟩
        exact ⟨_, rfl, hb, hv⟩
      refine gSt (gStep_run rfl (gRun_move 117 19 (.inr rfl) rfl (by decide +kernel) (fun v w h => h))) ?_
      exact gSt0
    · intro W hC
      refine gFi 113 rfl ?_
      rintro _ rfl
      refine gFi 114 rfl ?_
      rintro u114 b114
      refine gFi 115 rfl ?_
      rintro _ rfl
      refine gFi 116 rfl ?_
      rintro u116 b116
      refine gFi 117 rfl ?_
      rintro u117 b117
      refine gFi 19 rfl ?_
      rintro u19 b19
      refine gFi0 ?_
      simp only [List.drop_succ_cons, List.drop_zero, Act.put, List.setIfInBounds_toArray, List.set_cons_succ, List.set_cons_zero]
      clear HS g17 P17 P18 P11 P12
      have HS := hide hC.1
      have P17 := hide hC.2.1
      have P18 := hide hC.2.2.1
      have P11 := hide hC.2.2.2.1
      have P12 := hide hC.2.2.2.2
      clear hC b114 b116 b117
      have hr10 := HS.out.c10
      go_wp2_with fail
      refine (HWI.out _ _ b19).mono ?_
      rintro e w8 ⟨rfl, hb8⟩
      replace HS := hide (HS.out.below hb8)
      replace P17 := hide (P17.out.below hb8)
      replace P18 := hide (P18.out.below hb8)
      replace P11 := hide (P11.out.below hb8)
      replace P12 := hide (P12.out.below hb8)
      replace b19 := BigV.below b19 hb8
      clear hr10 hb8
      have h17 := P17.out.1
      have h18 := P18.out.1
      have h11 := P11.out.1
      have h12 := P12.out.1
      go_wp2_with fail
      refine (HSM.out _).mono ?_
      rintro e w9 ⟨v2, rfl, hv2, hb9⟩
      replace HS := hide (HS.out.below hb9)
      replace b19 := BigV.below b19 hb9
      clear hb9
      clear h17 h18 h11 h12
      go_wp2_with fail
      refine (HCM.out _ _ _ hv2 b19).mono ?_
      rintro e w10 ⟨rfl, hw⟩
      subst w10
      go_wp2_with fail
      refine (HAK.out _).mono ?_
      rintro e w10 ⟨rfl, hb10⟩
      replace HS := hide (HS.out.below hb10)
      clear hb10
      have HBE := hide HS.out.bel
      clear HS
      go_wp2
      go_ret
      exact ⟨rfl, HBE.out⟩
end Go.Proofs.Yteocibahclpegaa

/- Contracts: the law FixQuotients. -/
set_option linter.unusedVariables false
set_option linter.unusedSimpArgs false
set_option maxRecDepth 8000
namespace Go.Proofs.Yteocibahclpegaa
open Go.RowKit Plain

set_option maxHeartbeats 2000000 in
theorem fixQuotients_any (n d x : Nat) (raw : Bool) (b m : Int) (hn : n < QQ) (hd : d < QQ) (hx : x < QQ) (hb1 : -128 ≤ b) (hb2 : b < 128) (hm1 : -9223372036854775808 ≤ m) (hm2 : m ≤ 9223372036854775807) (w : World) :
    Calls Try.prog 6 #[.agg #[.int .u64 (dgl (n) 0 : Nat), .int .u64 (dgl (n) 1 : Nat), .int .u64 (dgl (n) 2 : Nat), .int .u64 (dgl (n) 3 : Nat), .int .u64 (dgl (n) 4 : Nat), .int .u64 (dgl (n) 5 : Nat), .int .u64 (dgl (n) 6 : Nat), .int .u64 (dgl (n) 7 : Nat)], .agg #[.int .u64 (dgl (d) 0 : Nat), .int .u64 (dgl (d) 1 : Nat), .int .u64 (dgl (d) 2 : Nat), .int .u64 (dgl (d) 3 : Nat), .int .u64 (dgl (d) 4 : Nat), .int .u64 (dgl (d) 5 : Nat), .int .u64 (dgl (d) 6 : Nat), .int .u64 (dgl (d) 7 : Nat)], .agg #[.int .u64 (dgl x 0 : Nat), .int .u64 (dgl x 1 : Nat), .int .u64 (dgl x 2 : Nat), .int .u64 (dgl x 3 : Nat), .int .u64 (dgl x 4 : Nat), .int .u64 (dgl x 5 : Nat), .int .u64 (dgl x 6 : Nat), .int .u64 (dgl x 7 : Nat), .bool raw, .int .i8 b, .int .i64 m]] w fun e w' => e = .returned (.bool true) ∧ Below w.heap.size w w' := by
  have hZ : ∀ w, (Op.equalIn 10000 32 (.agg #[.int .u64 (dgl (0) 0 : Nat), .int .u64 (dgl (0) 1 : Nat), .int .u64 (dgl (0) 2 : Nat), .int .u64 (dgl (0) 3 : Nat), .int .u64 (dgl (0) 4 : Nat), .int .u64 (dgl (0) 5 : Nat), .int .u64 (dgl (0) 6 : Nat), .int .u64 (dgl (0) 7 : Nat)]) (.agg #[.int .u64 0, .int .u64 0, .int .u64 0, .int .u64 0, .int .u64 0, .int .u64 0, .int .u64 0, .int .u64 0])).run Try.prog w = .ok true w := fun w => by
    have h := wide_eqz (show 0 < QQ by decide +kernel) w
    rw [decide_eq_true rfl] at h
    exact h
  have HAK := hide fun w => awake18_any w
  have HE : ∀ G E, G < QQ → fmN m ((mayN n d : Nat) : Int) G = E → E ≠ 0 → ∀ w, Calls Try.prog 26 #[.agg #[.int .u64 (dgl (n) 0 : Nat), .int .u64 (dgl (n) 1 : Nat), .int .u64 (dgl (n) 2 : Nat), .int .u64 (dgl (n) 3 : Nat), .int .u64 (dgl (n) 4 : Nat), .int .u64 (dgl (n) 5 : Nat), .int .u64 (dgl (n) 6 : Nat), .int .u64 (dgl (n) 7 : Nat)], .agg #[.int .u64 (dgl (d) 0 : Nat), .int .u64 (dgl (d) 1 : Nat), .int .u64 (dgl (d) 2 : Nat), .int .u64 (dgl (d) 3 : Nat), .int .u64 (dgl (d) 4 : Nat), .int .u64 (dgl (d) 5 : Nat), .int .u64 (dgl (d) 6 : Nat), .int .u64 (dgl (d) 7 : Nat)], .agg #[.int .u64 (dgl (G) 0 : Nat), .int .u64 (dgl (G) 1 : Nat), .int .u64 (dgl (G) 2 : Nat), .int .u64 (dgl (G) 3 : Nat), .int .u64 (dgl (G) 4 : Nat), .int .u64 (dgl (G) 5 : Nat), .int .u64 (dgl (G) 6 : Nat), .int .u64 (dgl (G) 7 : Nat)], .int .i64 m] w fun e' w' => e' = .returned (.tuple #[.agg #[.int .u64 (dgl (0) 0 : Nat), .int .u64 (dgl (0) 1 : Nat), .int .u64 (dgl (0) 2 : Nat), .int .u64 (dgl (0) 3 : Nat), .int .u64 (dgl (0) 4 : Nat), .int .u64 (dgl (0) 5 : Nat), .int .u64 (dgl (0) 6 : Nat), .int .u64 (dgl (0) 7 : Nat)], .agg #[.int .u64 (dgl (0) 0 : Nat), .int .u64 (dgl (0) 1 : Nat), .int .u64 (dgl (0) 2 : Nat), .int .u64 (dgl (0) 3 : Nat), .int .u64 (dgl (0) 4 : Nat), .int .u64 (dgl (0) 5 : Nat), .int .u64 (dgl (0) 6 : Nat), .int .u64 (dgl (0) 7 : Nat)], .int .i64 0, .int .i64 E]) ∧ Below w.heap.size w w' := fun G E hG he h0 w => by
    have h := fquot_err n d G m hn hd hG (by rw [he]; exact h0) w
    rw [he] at h
    exact h
  by_cases hc : mayN n d = 0
  · have hcz : ((mayN n d : Nat) : Int) = 0 := by omega
    have HM := hide fun w => rmay_any n d hn hd w
    rw [hc] at HM
    obtain ⟨h0, h1, h2⟩ := mayN_zero hc
    have hq : n / d < 2 ^ 128 := by rw [Nat.div_lt_iff_lt_mul h0, Nat.mul_comm]; exact h2
    have hqq : n / d < QQ := Nat.lt_of_le_of_lt (Nat.div_le_self n d) hn
    have hrq : n % d < QQ := Nat.lt_of_le_of_lt (Nat.mod_le n d) hn
    have HDV := hide fun w => refDivide_any n d hn hd h0 (Nat.lt_trans hq (by decide +kernel)) w
    have HBA := hide fun w => refBig_any (n / d) hqq w
    cases raw
    · have hG : (bnN (n / d) b) < QQ := bnN_lt hq hb2
      by_cases ha : m < 0
      · exact fixQ_3a n d x (bnN (n / d) b) (n / d) (n % d) 0 0 true true true b m 0 w ha HM HDV (hide fun w => bent_any (n / d) b hb1 hb2 hqq w) (hide (HE (bnN (n / d) b) 1 hG (fmN_a ha) (by decide))) hZ HAK
      by_cases ha2 : 100 < m
      · exact fixQ_3a2 n d x (bnN (n / d) b) (n / d) (n % d) 0 0 true true true b m 0 w (decide_eq_false ha) (decide_eq_true ha2) HM HDV (hide fun w => bent_any (n / d) b hb1 hb2 hqq w) (hide (HE (bnN (n / d) b) 1 hG (fmN_A ha2) (by decide))) hZ HAK
      have HBG := hide fun w => refBig_any (bnN (n / d) b) hG w
      have HLN := hide fun u w (hu : BigV w u (bnN (n / d) b) 40) => refLen_any (bnN (n / d) b) 40 u w hu (by decide)
      by_cases hL : 200 < Go.bitLen (bnN (n / d) b)
      · exact fixQ_3c n d x (bnN (n / d) b) (n / d) (n % d) (Go.bitLen (bnN (n / d) b)) 0 true true true b m 0 w (decide_eq_false ha) (decide_eq_false ha2) (decide_eq_true (by omega)) HM HDV (hide fun w => bent_any (n / d) b hb1 hb2 hqq w) (hide (HE (bnN (n / d) b) 4 hG (fmN_c ha ha2 hcz hL) (by decide))) hZ HBG HLN HAK
      have hg : (bnN (n / d) b) < 2 ^ 200 := Nat.not_le.1 fun h1 => hL ((bitLen_above (bnN (n / d) b) 200).2 h1)
      obtain ⟨j, rfl⟩ : ∃ j : Nat, m = (j : Nat) := ⟨m.toNat, by omega⟩
      have hj : j ≤ 100 := by omega
      have HAW := hide fun u v w (hu : BigV w u (n / d) 40) (hv : BigV w v (bnN (n / d) b) 40) => away18_any (n / d) (bnN (n / d) b) 40 40 u v w hu hv (by decide) (by decide)
      have HW := fun u w (hu : BigV w u (awN (n / d) (bnN (n / d) b)) 40) => within18_yes (awN (n / d) (bnN (n / d) b)) 40 j u w hu (by omega)
      by_cases hw : awN (n / d) (bnN (n / d) b) ≤ j
      · rw [decide_eq_true hw] at HW
        exact fixQ_3e n d x (bnN (n / d) b) (n / d) (n % d) (Go.bitLen (bnN (n / d) b)) (awN (n / d) (bnN (n / d) b)) true _ _ b (j : Nat) 0 w (decide_eq_false ha) (decide_eq_false ha2) (decide_eq_false (by omega)) (by omega) (by rw [IntKind.wrap_u64]; omega) HM HDV (hide fun w => bent_any (n / d) b hb1 hb2 hqq w) (hide fun w => fquot_ok n d (bnN (n / d) b) j hj hn hd hc hg hw w) (fun w => wide_eqz hqq w) (fun w => wide_eqz hrq w) (fun w => wide_same _ w) (fun w => wide_same _ w) HBG HLN HBA HAW (hide HW) (hide fun w => small_any (awN (n / d) (bnN (n / d) b)) (by omega) w)
          (hide fun u v w hu hv => by
            have h := cmp_any (awN (n / d) (bnN (n / d) b)) (awN (n / d) (bnN (n / d) b)) 2 40 u v w hu hv
            rw [cmpN_self rfl] at h
            exact h) HAK
      · rw [decide_eq_false hw] at HW
        exact fixQ_3d n d x (bnN (n / d) b) (n / d) (n % d) (Go.bitLen (bnN (n / d) b)) (awN (n / d) (bnN (n / d) b)) true true true b (j : Nat) 0 w (decide_eq_false ha) (decide_eq_false ha2) (decide_eq_false (by omega)) HM HDV (hide fun w => bent_any (n / d) b hb1 hb2 hqq w) (hide fun w => fquot_far n d (bnN (n / d) b) j hj hn hd hc hg (by omega) w) hZ HBG HLN HBA HAW (hide HW) HAK
    · have hG : x < QQ := hx
      by_cases ha : m < 0
      · exact fixQ_2a n d x 0 0 0 0 0 true true true b m 0 w ha HM (hide (HE x 1 hG (fmN_a ha) (by decide))) hZ HAK
      by_cases ha2 : 100 < m
      · exact fixQ_2a2 n d x 0 0 0 0 0 true true true b m 0 w (decide_eq_false ha) (decide_eq_true ha2) HM (hide (HE x 1 hG (fmN_A ha2) (by decide))) hZ HAK
      have HBG := hide fun w => refBig_any x hG w
      have HLN := hide fun u w (hu : BigV w u x 40) => refLen_any x 40 u w hu (by decide)
      by_cases hL : 200 < Go.bitLen x
      · exact fixQ_2c n d x 0 0 0 (Go.bitLen x) 0 true true true b m 0 w (decide_eq_false ha) (decide_eq_false ha2) (decide_eq_true (by omega)) HM (hide (HE x 4 hG (fmN_c ha ha2 hcz hL) (by decide))) hZ HBG HLN HAK
      have hg : x < 2 ^ 200 := Nat.not_le.1 fun h1 => hL ((bitLen_above x 200).2 h1)
      obtain ⟨j, rfl⟩ : ∃ j : Nat, m = (j : Nat) := ⟨m.toNat, by omega⟩
      have hj : j ≤ 100 := by omega
      have HAW := hide fun u v w (hu : BigV w u (n / d) 40) (hv : BigV w v x 40) => away18_any (n / d) x 40 40 u v w hu hv (by decide) (by decide)
      have HW := fun u w (hu : BigV w u (awN (n / d) x) 40) => within18_yes (awN (n / d) x) 40 j u w hu (by omega)
      by_cases hw : awN (n / d) x ≤ j
      · rw [decide_eq_true hw] at HW
        exact fixQ_2e n d x 0 (n / d) (n % d) (Go.bitLen x) (awN (n / d) x) true _ _ b (j : Nat) 0 w (decide_eq_false ha) (decide_eq_false ha2) (decide_eq_false (by omega)) (by omega) (by rw [IntKind.wrap_u64]; omega) HM HDV (hide fun w => fquot_ok n d x j hj hn hd hc hg hw w) (fun w => wide_eqz hqq w) (fun w => wide_eqz hrq w) (fun w => wide_same _ w) (fun w => wide_same _ w) HBG HLN HBA HAW (hide HW) (hide fun w => small_any (awN (n / d) x) (by omega) w)
          (hide fun u v w hu hv => by
            have h := cmp_any (awN (n / d) x) (awN (n / d) x) 2 40 u v w hu hv
            rw [cmpN_self rfl] at h
            exact h) HAK
      · rw [decide_eq_false hw] at HW
        exact fixQ_2d n d x 0 (n / d) (n % d) (Go.bitLen x) (awN (n / d) x) true true true b (j : Nat) 0 w (decide_eq_false ha) (decide_eq_false ha2) (decide_eq_false (by omega)) HM HDV (hide fun w => fquot_far n d x j hj hn hd hc hg (by omega) w) hZ HBG HLN HBA HAW (hide HW) HAK
  · have hcz : ((mayN n d : Nat) : Int) ≠ 0 := by omega
    have hc1 : (((mayN n d : Nat) : Int) == 0) = false := by rw [beq_eq_false_iff_ne]; exact hcz
    have hc2 : (((mayN n d : Nat) : Int) != 0) = true := by rw [bne_iff_ne]; exact hcz
    have HM := hide fun w => rmay_any n d hn hd w
    have hG : x < QQ := hx
    by_cases ha : m < 0
    · exact fixQ_1a n d x 0 0 0 0 0 raw true true b m ((mayN n d : Nat) : Int) w hc1 hc2 ha HM (hide (HE x 1 hG (fmN_a ha) (by decide))) hZ HAK
    by_cases ha2 : 100 < m
    · exact fixQ_1a2 n d x 0 0 0 0 0 raw true true b m ((mayN n d : Nat) : Int) w hc1 hc2 (decide_eq_false ha) (decide_eq_true ha2) HM (hide (HE x 1 hG (fmN_A ha2) (by decide))) hZ HAK
    exact fixQ_1b n d x 0 0 0 0 0 raw true true b m ((mayN n d : Nat) : Int) w hc1 hc2 (decide_eq_false ha) (decide_eq_false ha2) HM (hide (HE x ((mayN n d : Nat) : Int) hG (fmN_b ha ha2 hcz) (hcz))) hZ HAK
end Go.Proofs.Yteocibahclpegaa

/- For all wides and guesses the law radicandlaw18.FixQuotients returns true and leaves what came in as it was. No condition. -/
namespace Go.Proofs.Yteocibahclpegaa.fixQuotients
open Go.ChangeShapes Go.WideShapes Go.ChangeAt Go.RowKit Go.Proofs.Yteocibahclpegaa

theorem own : ownKnob Try.prog.godebug = none := by kernel_rfl
theorem laidOut : laidOutB Try.prog = true := by kernel_rfl

set_option maxRecDepth 100000 in
theorem lifted (os : Os) (started : os.Started) (H : Type) (enc : TypeId × Value → H) :
    ReturnsInHanded {} Try.checked os 6 .any (Rows.fixQuotientsSpec.pre6 enc Try.prog Try.f6 Rows.fixQuotientsRow.domain false) (Rows.fixQuotientsSpec.post enc Try.prog Try.f6 false true false false) := by
  refine returnsInHanded_of_change (C := Try.checked) own started (by kernel_rfl) Try.func6
    (ChangeSpec.witness6 (enc := enc) (C := Try.checked) false ⟨#[], #[.agg #[.int .u64 0, .int .u64 0, .int .u64 0, .int .u64 0, .int .u64 0, .int .u64 0, .int .u64 0, .int .u64 0], .agg #[.int .u64 0, .int .u64 0, .int .u64 0, .int .u64 0, .int .u64 0, .int .u64 0, .int .u64 0, .int .u64 0], .agg #[.int .u64 0, .int .u64 0, .int .u64 0, .int .u64 0, .int .u64 0, .int .u64 0, .int .u64 0, .int .u64 0, .bool false, .int .i8 0, .int .i64 0]], []⟩ 40 (by kernel_rfl) (by kernel_rfl) (by kernel_rfl) (by kernel_rfl)) ?_
  intro W base args ds gs before hval0 hW hcnd _
  have hval : ∀ (j : Nat) t v, Try.f6.params[j]? = some t → args[j]? = some v → Value.okWide Try.prog W .any base t v := hval0
  have hW' := hW
  obtain ⟨p, q, hA0, hV, rfl, hfz, hnd⟩ := hW
  have hA : DataW.TrodAll enc Try.prog W 0 (fun _ => true) true Try.f6.params.toList args.toList ds p := hA0
  rw [Try.params6] at hA hval
  obtain ⟨v0, vs0, d0, ds0, p0, q0, hargs, rfl, rfl, h0, r0⟩ := trodAll_cons hA
  obtain ⟨v1, vs1, d1, ds1, p1, q1, rfl, rfl, rfl, h1, r1⟩ := trodAll_cons r0
  obtain ⟨v2, vs2, d2, ds2, p2, q2, rfl, rfl, rfl, h2, r2⟩ := trodAll_cons r1
  obtain ⟨rfl, rfl, rfl⟩ := trodAll_nil r2
  obtain rfl : args = #[v0, v1, v2] := by cases args; simp_all
  obtain ⟨rfl, rfl⟩ := trodVars_none hV
  have k0 := h0
  have lt0 : ∀ x ∈ p0, x.block < W.heap.size := by obtain ⟨m, hm⟩ := k0; exact DataW.trod_lt m _ _ _ hm
  have k1 := h1
  have lt1 : ∀ x ∈ p1, x.block < W.heap.size := by obtain ⟨m, hm⟩ := k1; exact DataW.trod_lt m _ _ _ hm
  have k2 := h2
  have lt2 : ∀ x ∈ p2, x.block < W.heap.size := by obtain ⟨m, hm⟩ := k2; exact DataW.trod_lt m _ _ _ hm
  obtain ⟨x0, hx0, rfl⟩ := wide_of_trod (hval 0 32 v0 rfl rfl) h0
  obtain ⟨x1, hx1, rfl⟩ := wide_of_trod (hval 1 32 v1 rfl rfl) h1
  obtain ⟨x2, n2, b2, m2, hg2, rfl⟩ := guess_open (hval 2 47 v2 rfl rfl) h2
  clear hA0 hval0
  refine (fixQuotients_any x0 x1 x2 n2 b2 m2 hx0 hx1 hg2.1 hg2.2.1.1 hg2.2.1.2 hg2.2.2.1 hg2.2.2.2 W).mono fun e W' ⟨he, bel⟩ => ?_
  subst he
  exact ⟨_, rfl, _, _, _, [], _, [], hW', trodAll_mk1 (shut_bool Try.underlying4 _), (trodAll_cons_mk (Below.trod laidOut (by kernel_rfl) (of_decide_eq_true (by kernel_rfl)) k0 bel lt0) (trodAll_cons_mk (Below.trod laidOut (by kernel_rfl) (of_decide_eq_true (by kernel_rfl)) k1 bel lt1) (trodAll_cons_mk (Below.trod laidOut (by kernel_rfl) (of_decide_eq_true (by kernel_rfl)) k2 bel lt2) trodAll_mk0))), rfl, bel.frame _, fun h => by cases h⟩

theorem over : Rows.fixQuotientsRow.holds Try.pinned (OpenSpec.ofChange Rows.fixQuotientsSpec) :=
  OpenClaim.holds_of_wide 6 Try.f6 rfl rfl rfl rfl rfl rfl rfl ⟨rfl, rfl, rfl, rfl, rfl⟩ rfl rfl rfl rfl rfl (by kernel_rfl) Try.func6 (by kernel_rfl)
    (of_decide_eq_true (by kernel_rfl)) (by unfold Func.isWrapper; first | (rw [if_pos (by decide +kernel)]; kernel_rfl) | (rw [if_neg (by decide +kernel)]; exact ⟨rfl, rfl⟩))
    (fun os started H enc _ => lifted os started H enc)

theorem proved : Rows.FixQuotientsSaid := over
#print axioms proved
end Go.Proofs.Yteocibahclpegaa.fixQuotients

