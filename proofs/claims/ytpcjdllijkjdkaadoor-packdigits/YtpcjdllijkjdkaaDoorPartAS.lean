/- Contracts and laws: ClsF, ClsG, ClsH, ClsI. -/
import Derived.Test.YtpcjdllijkjdkaaDoorPartAR
import Derived.Deep.DeepCutAuto
/- Contracts: radicandref06.Fraction. -/
set_option linter.unusedVariables false
set_option linter.unusedSimpArgs false
set_option maxRecDepth 8000
namespace Go.Proofs.YtpcjdllijkjdkaaDoor
open Go.RowKit Plain

end Go.Proofs.YtpcjdllijkjdkaaDoor

/- Contracts: radicandref06.Class, Neg. -/
set_option linter.unusedVariables false
set_option linter.unusedSimpArgs false
set_option maxRecDepth 8000
namespace Go.Proofs.YtpcjdllijkjdkaaDoor
open Go.RowKit Plain

end Go.Proofs.YtpcjdllijkjdkaaDoor

/- Contracts: radicandref06.Neg; what is none of a format's, for all of ref06 and class. -/
set_option linter.unusedVariables false
set_option linter.unusedSimpArgs false
set_option maxRecDepth 8000
namespace Go.Proofs.YtpcjdllijkjdkaaDoor
open Go.RowKit Plain

end Go.Proofs.YtpcjdllijkjdkaaDoor

/- Contracts: class.Make, as a walk. -/
set_option linter.unusedVariables false
set_option linter.unusedSimpArgs false
set_option maxRecDepth 8000
namespace Go.Proofs.YtpcjdllijkjdkaaDoor
open Go.RowKit Plain

/-- What Make goes by: the fraction, the result, the format's record. -/
structure MkSt (w : World) (p : Nat) (k : Nat → Int) (b : Nat) (W : World) : Prop where
  g : FmtG W
  gl : 1 < w.heap.size
  lb : LiesF W (w.heap.size) (dgl b)
  r0 : W.cell? ⟨w.heap.size + 1, 0, none⟩ = some (.int .u64 0)
  r1 : W.cell? ⟨w.heap.size + 1, 1, none⟩ = some (.int .u64 0)
  fz : ∀ i, W.frozen? ⟨w.heap.size + 1, i, none⟩ = false
  lt : w.heap.size + 1 < W.heap.size
  rk : ∀ i, i < 5 → W.cell? ⟨p, i, none⟩ = some (.int .i64 (k i))
  lk : p < W.heap.size
  ne : w.heap.size + 1 < p
  bel : Below w.heap.size w W
theorem MkSt.under {w : World} {p : Nat} {k : Nat → Int} {b : Nat} {W W' : World} (h : MkSt w p k b W) {C : Nat} (hb : Below C W W') (hc : p < C) : MkSt w p k b W' :=
  have hn := h.ne
  have hg := h.gl
  ⟨⟨fun i hi => (hb.cell (p := ⟨1, i, none⟩) (show 1 < _ by omega)).trans (h.g.c i hi), Nat.lt_of_lt_of_le h.g.lt hb.size⟩, h.gl, lies_box h.lb hb (by omega), (hb.cell (p := ⟨w.heap.size + 1, 0, none⟩) (show w.heap.size + 1 < C by omega)).trans h.r0, (hb.cell (p := ⟨w.heap.size + 1, 1, none⟩) (show w.heap.size + 1 < C by omega)).trans h.r1,
    fun i => (hb.frozen (p := ⟨w.heap.size + 1, i, none⟩) (show w.heap.size + 1 < C by omega)).trans (h.fz i), Nat.lt_of_lt_of_le h.lt hb.size, fun i hi => (hb.cell (p := ⟨p, i, none⟩) hc).trans (h.rk i hi), Nat.lt_of_lt_of_le h.lk hb.size, h.ne, h.bel.trans (hb.mono (by omega))⟩
theorem MkSt.below {w : World} {p : Nat} {k : Nat → Int} {b : Nat} {W W' : World} (h : MkSt w p k b W) (hb : Below W.heap.size W W') : MkSt w p k b W' := h.under hb h.lk
theorem mkSt_start (w w1 : World) (k : Nat → Int) (b : Nat) (hg : FmtG w) (hb : Below ((w.alloc (.cells #[.int .u64 (dgl (b) 0 : Nat), .int .u64 (dgl (b) 1 : Nat), .int .u64 (dgl (b) 2 : Nat), .int .u64 (dgl (b) 3 : Nat), .int .u64 (dgl (b) 4 : Nat), .int .u64 (dgl (b) 5 : Nat), .int .u64 (dgl (b) 6 : Nat), .int .u64 (dgl (b) 7 : Nat)] 24)).alloc (.cells #[.int .u64 0, .int .u64 0] 28)).heap.size ((w.alloc (.cells #[.int .u64 (dgl (b) 0 : Nat), .int .u64 (dgl (b) 1 : Nat), .int .u64 (dgl (b) 2 : Nat), .int .u64 (dgl (b) 3 : Nat), .int .u64 (dgl (b) 4 : Nat), .int .u64 (dgl (b) 5 : Nat), .int .u64 (dgl (b) 6 : Nat), .int .u64 (dgl (b) 7 : Nat)] 24)).alloc (.cells #[.int .u64 0, .int .u64 0] 28)) w1) :
    MkSt w w1.heap.size k b (w1.alloc (.cells #[.int .i64 (k 0), .int .i64 (k 1), .int .i64 (k 2), .int .i64 (k 3), .int .i64 (k 4)] 85)) := by
  have hs := hb.size
  have h0 := below_trans hb (below_allocs w1 (.cells #[.int .i64 (k 0), .int .i64 (k 1), .int .i64 (k 2), .int .i64 (k 3), .int .i64 (k 4)] 85))
  have ha := below_trans (below_allocs w (.cells #[.int .u64 (dgl (b) 0 : Nat), .int .u64 (dgl (b) 1 : Nat), .int .u64 (dgl (b) 2 : Nat), .int .u64 (dgl (b) 3 : Nat), .int .u64 (dgl (b) 4 : Nat), .int .u64 (dgl (b) 5 : Nat), .int .u64 (dgl (b) 6 : Nat), .int .u64 (dgl (b) 7 : Nat)] 24)) (below_allocs (w.alloc (.cells #[.int .u64 (dgl (b) 0 : Nat), .int .u64 (dgl (b) 1 : Nat), .int .u64 (dgl (b) 2 : Nat), .int .u64 (dgl (b) 3 : Nat), .int .u64 (dgl (b) 4 : Nat), .int .u64 (dgl (b) 5 : Nat), .int .u64 (dgl (b) 6 : Nat), .int .u64 (dgl (b) 7 : Nat)] 24)) (.cells #[.int .u64 0, .int .u64 0] 28))
  have hl := ((liesF_new w (dgl b) 24).alloc (.cells #[.int .u64 0, .int .u64 0] 28)).below h0
  rw [World.size_alloc, World.size_alloc] at hs h0
  have hbel := below_trans ha (show Below ((w.alloc (.cells #[.int .u64 (dgl (b) 0 : Nat), .int .u64 (dgl (b) 1 : Nat), .int .u64 (dgl (b) 2 : Nat), .int .u64 (dgl (b) 3 : Nat), .int .u64 (dgl (b) 4 : Nat), .int .u64 (dgl (b) 5 : Nat), .int .u64 (dgl (b) 6 : Nat), .int .u64 (dgl (b) 7 : Nat)] 24)).alloc (.cells #[.int .u64 0, .int .u64 0] 28)).heap.size _ _ by rw [World.size_alloc, World.size_alloc]; exact h0)
  refine ⟨hg.below hbel, hg.lt, hl, (h0.cell (p := ⟨w.heap.size + 1, 0, none⟩) (show w.heap.size + 1 < w.heap.size + 1 + 1 by omega)).trans (by simp [go_sem]), (h0.cell (p := ⟨w.heap.size + 1, 1, none⟩) (show w.heap.size + 1 < w.heap.size + 1 + 1 by omega)).trans (by simp [go_sem]),
    fun i => (h0.frozen (p := ⟨w.heap.size + 1, i, none⟩) (show w.heap.size + 1 < w.heap.size + 1 + 1 by omega)).trans (by simp [go_sem]), by simp; omega, fun i hi => rec5_new w1 k _ i hi, by simp, by omega, hbel⟩

end Go.Proofs.YtpcjdllijkjdkaaDoor

