/- Contracts and laws: FmtJ. -/
import Derived.Test.YtidfegilddlglaaDoorXFmtG
/- What the rows that list the table of formats alone give. -/
set_option linter.unusedVariables false
set_option linter.unusedSimpArgs false
set_option maxRecDepth 8000
namespace Go.Proofs.YtidfegilddlglaaDoor
open Go.RowKit Plain Go.ChangeShapes Go.WideShapes

theorem of_laid1 {W : World} (h : laidMetH Tryd.prog [("radicand/format.formats", Rows.laid_radicand_format_formats)] W) : FmtG W := by
  rw [MakeChecks.laidMetH_plain _ _ _ (by kernel_rfl)] at h
  obtain ⟨ps, ⟨g0, t0, cs0, f0, p0, q0, hg0, ht0, hv0, hd0, _, _⟩, _, _⟩ := h
  obtain rfl := Option.some.inj (gFormats.symm.trans hg0)
  obtain rfl := Option.some.inj (tFormats.symm.trans ht0)
  have h0 := fmt_all hd0
  have k0 : ∀ i, i < 20 → W.cell? ⟨0, i, none⟩ = some (.int .i64 (fmtL.getD i 0)) := fun i hi => by
    rw [World.var?_cell hg0 hv0 i, ← Array.getElem?_toList, h0, List.getElem?_map]
    match i, hi with
    | 0, _ | 1, _ | 2, _ | 3, _ | 4, _ | 5, _ | 6, _ | 7, _ | 8, _ | 9, _ | 10, _ | 11, _ | 12, _ | 13, _ | 14, _ | 15, _ | 16, _ | 17, _ | 18, _ | 19, _ => rfl
    | n + 20, hi => omega
  exact ⟨k0, cell_lt (k0 0 (by decide))⟩

end Go.Proofs.YtidfegilddlglaaDoor

