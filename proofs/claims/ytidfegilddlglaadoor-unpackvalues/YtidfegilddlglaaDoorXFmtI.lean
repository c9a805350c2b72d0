/- Contracts and laws: FmtI. -/
import Derived.Test.YtidfegilddlglaaDoorXFmtH
/- Contracts: radicandref05.Inf, NaN, Max, One, Nought. -/
set_option linter.unusedVariables false
set_option linter.unusedSimpArgs false
set_option maxRecDepth 8000
namespace Go.Proofs.YtidfegilddlglaaDoor
open Go.RowKit Plain

theorem bt_one : (⟨#[49]⟩ : ByteArray) = bt [true] := rfl
theorem bt_nil : (⟨#[48]⟩ : ByteArray) = bt [false] := rfl
theorem bt_nn : (⟨#[48, 48]⟩ : ByteArray) = bt [false, false] := rfl
/-- What a call that lays a word into its result leaves. -/
theorem word_out {w w1 : World} (hb1 : Below (w.alloc (.cells #[.int .u64 0, .int .u64 0] 24)).heap.size (w.alloc (.cells #[.int .u64 0, .int .u64 0] 24)) w1) :
    w1.cell? ⟨w.heap.size, 0, none⟩ = some (.int .u64 0) ∧ w1.cell? ⟨w.heap.size, 1, none⟩ = some (.int .u64 0) ∧ (∀ i, w1.frozen? ⟨w.heap.size, i, none⟩ = false) ∧ w.heap.size < w1.heap.size ∧ Below w.heap.size w w1 := by
  have hs := hb1.size
  have hc : ∀ i, i < 2 → w1.cell? ⟨w.heap.size, i, none⟩ = some (.int .u64 0) := fun i hi => (hb1.cell (p := ⟨w.heap.size, i, none⟩) (by simp)).trans (by match i, hi with | 0, _ | 1, _ => simp [go_sem])
  rw [World.size_alloc] at hs
  exact ⟨hc 0 (by decide), hc 1 (by decide), fun i => (hb1.frozen (p := ⟨w.heap.size, i, none⟩) (by simp)).trans (by simp [go_sem]), hs, below_trans (below_allocs _ _) hb1⟩

end Go.Proofs.YtidfegilddlglaaDoor

