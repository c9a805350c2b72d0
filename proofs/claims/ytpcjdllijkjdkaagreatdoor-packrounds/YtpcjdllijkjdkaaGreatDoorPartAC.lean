/- Contracts and laws: FmtG, FmtJ. -/
import Derived.Test.YtpcjdllijkjdkaaGreatDoorRows
import Derived.Test.YtpcjdllijkjdkaaGreatDoorPartAB
import Derived.ProofKit
import Derived.OpenShut
import Derived.ChangeMaps5
import Derived.Lib.SmallJoins
import Derived.Stop.Joined
import Derived.LaidMore
/- What the program's two tables of formats hold, as the rows lay them. -/
set_option linter.unusedVariables false
set_option linter.unusedSimpArgs false
set_option maxRecDepth 8000
namespace Go.Proofs.YtpcjdllijkjdkaaGreatDoor
open Go.RowKit Plain Go.ChangeShapes Go.WideShapes

/-- The table of formats, cell by cell. -/
def fmtL : List Int := [16, 11, 15, -14, 5, 32, 24, 127, -126, 8, 64, 53, 1023, -1022, 11, 128, 113, 16383, -16382, 15]
section
variable {H : Type} {enc : TypeId × Value → H} {W : World} {base : Nat} {sp : Nat → Bool} {held : Bool}

theorem fmt_one {n : Nat} {c : Value} {x : DataW H × List MemPlace} {a : Int} (h : DataW.trod enc Tryz.prog W base sp held n 3 [c] = some x) (hx : x.1 = .lit (.int .i64 a)) : c = .int .i64 a := by
  obtain ⟨k, e1, e2, _⟩ := DataW.trod_int Tryz.underlying3 h
  simp at e1
  subst e1
  rw [e2] at hx
  simp at hx
  rw [hx]
theorem list5 {l : List Value} (h : l.length = 5) : ∃ a b c d e, l = [a, b, c, d, e] := by
  match l, h with
  | [a, b, c, d, e], _ => exact ⟨a, b, c, d, e, rfl⟩
theorem fmt_row {fuel : Nat} {cs : List Value} {p : List MemPlace} {a b c d e : Int} (h : DataW.trod enc Tryz.prog W base sp held fuel 49 cs = some (.agg [.lit (.int .i64 a), .lit (.int .i64 b), .lit (.int .i64 c), .lit (.int .i64 d), .lit (.int .i64 e)], p)) :
    cs = [.int .i64 a, .int .i64 b, .int .i64 c, .int .i64 d, .int .i64 e] := by
  obtain ⟨xs, n, _, hx, hl, hlen, hf⟩ := DataW.trod_struct Tryz.underlying49 h
  have hl5 : cs.length = 5 := hl.trans (by kernel_rfl)
  obtain ⟨c0, c1, c2, c3, c4, rfl⟩ := list5 hl5
  match xs, hlen, hx, hf with
  | [y0, y1, y2, y3, y4], _, hx, hf =>
    simp only [List.map_cons, List.map_nil, Prod.mk.injEq, DataW.agg.injEq, List.cons.injEq] at hx
    have c1' : Tryz.prog.cellsOf 3 = 1 := by kernel_rfl
    have g0 : DataW.trod enc Tryz.prog W base sp held n 3 (([c0, c1, c2, c3, c4].drop 0).take (Tryz.prog.cellsOf 3)) = some y0 := hf 0 _ rfl
    have g1 : DataW.trod enc Tryz.prog W base sp held n 3 (([c0, c1, c2, c3, c4].drop 1).take (Tryz.prog.cellsOf 3)) = some y1 := hf 1 _ rfl
    have g2 : DataW.trod enc Tryz.prog W base sp held n 3 (([c0, c1, c2, c3, c4].drop 2).take (Tryz.prog.cellsOf 3)) = some y2 := hf 2 _ rfl
    have g3 : DataW.trod enc Tryz.prog W base sp held n 3 (([c0, c1, c2, c3, c4].drop 3).take (Tryz.prog.cellsOf 3)) = some y3 := hf 3 _ rfl
    have g4 : DataW.trod enc Tryz.prog W base sp held n 3 (([c0, c1, c2, c3, c4].drop 4).take (Tryz.prog.cellsOf 3)) = some y4 := hf 4 _ rfl
    rw [c1'] at g0 g1 g2 g3 g4
    rw [fmt_one g0 hx.1.1.symm, fmt_one g1 hx.1.2.1.symm, fmt_one g2 hx.1.2.2.1.symm, fmt_one g3 hx.1.2.2.2.1.symm, fmt_one g4 hx.1.2.2.2.2.1.symm]
theorem list20 {l : List Value} (h : l.length = 20) : l = (l.drop 0).take 5 ++ ((l.drop 5).take 5 ++ ((l.drop 10).take 5 ++ (l.drop 15).take 5)) := by
  have h3 : (l.drop 15).take 5 = l.drop 15 := List.take_of_length_le (by rw [List.length_drop]; omega)
  have key : ∀ k, l.drop k = (l.drop k).take 5 ++ l.drop (k + 5) := fun k => by
    rw [← List.drop_drop]
    exact (List.take_append_drop 5 (l.drop k)).symm
  rw [h3]
  have e10 := key 10
  have e5 := key 5
  have e0 := key 0
  rw [← e10, ← e5]
  exact e0
theorem fmt_all {fuel : Nat} {cs : List Value} {p : List MemPlace} (h : DataW.trod enc Tryz.prog W base sp held fuel 75 cs = some (Rows.laid_radicand_format_formats, p)) : cs = fmtL.map (Value.int .i64) := by
  obtain ⟨xs, m, _, hx, hl, hlen, hf⟩ := DataW.trod_array Tryz.underlying75 h
  have hl20 : cs.length = 20 := hl.trans (by kernel_rfl)
  have c5 : Tryz.prog.cellsOf 49 = 5 := by kernel_rfl
  match xs, hlen, hx, hf with
  | [y0, y1, y2, y3], _, hx, hf =>
    unfold Rows.laid_radicand_format_formats at hx
    simp only [List.map_cons, List.map_nil, Prod.mk.injEq, DataW.agg.injEq, List.cons.injEq] at hx
    obtain ⟨⟨e0, e1, e2, e3, _⟩, _⟩ := hx
    have g0 := hf 0 (by decide)
    have g1 := hf 1 (by decide)
    have g2 := hf 2 (by decide)
    have g3 := hf 3 (by decide)
    rw [c5] at g0 g1 g2 g3
    obtain ⟨a0, b0⟩ := y0
    obtain ⟨a1, b1⟩ := y1
    obtain ⟨a2, b2⟩ := y2
    obtain ⟨a3, b3⟩ := y3
    subst e0 e1 e2 e3
    rw [list20 hl20, fmt_row g0, fmt_row g1, fmt_row g2, fmt_row g3]
    rfl
end

/-- The table of formats lies where the program's own lies. -/
structure FmtG (W : World) : Prop where
  c : ∀ i, i < 20 → W.cell? ⟨0, i, none⟩ = some (.int .i64 (fmtL.getD i 0))
  lt : 0 < W.heap.size
theorem FmtG.below {W W' : World} (h : FmtG W) (hb : Below W.heap.size W W') : FmtG W' :=
  ⟨fun i hi => (hb.cell (p := ⟨0, i, none⟩) h.lt).trans (h.c i hi), Nat.lt_of_lt_of_le h.lt hb.size⟩
theorem gFormats : Tryz.prog.globalNamed "radicand/format.formats" = some 0 := by kernel_rfl
theorem tFormats : (Tryz.prog.globals[0]?).map (·.type) = some 75 := by kernel_rfl
theorem cell_lt {W : World} {b i : Nat} {v : Value} (h : W.cell? ⟨b, i, none⟩ = some v) : b < W.heap.size := by
  rcases Nat.lt_or_ge b W.heap.size with h1 | h1
  · exact h1
  · simp [World.cell?, Array.getElem?_eq_none h1] at h

end Go.Proofs.YtpcjdllijkjdkaaGreatDoor

/- What the rows that list the table of formats alone give. -/
set_option linter.unusedVariables false
set_option linter.unusedSimpArgs false
set_option maxRecDepth 8000
namespace Go.Proofs.YtpcjdllijkjdkaaGreatDoor
open Go.RowKit Plain Go.ChangeShapes Go.WideShapes

theorem of_laid1 {W : World} (h : laidMetH Tryz.prog [("radicand/format.formats", Rows.laid_radicand_format_formats)] W) : FmtG W := by
  rw [MakeChecks.laidMetH_plain _ _ _ (by kernel_rfl)] at h
  obtain ⟨ps, ⟨g0, t0, cs0, f0, p0, q0, hg0, ht0, hv0, hd0, _, _⟩, _, _⟩ := h
  obtain rfl := Option.some.inj (gFormats.symm.trans hg0)
  obtain rfl := Option.some.inj (tFormats.symm.trans ht0)
  have h0 := fmt_all hd0
  have k0 : ∀ i, i < 20 → W.cell? ⟨0, i, none⟩ = some (.int .i64 (fmtL.getD i 0)) := fun i hi => by
    rw [World.var?_cell hg0 hv0 i, ← Array.getElem?_toList, h0, List.getElem?_map]
    match i, hi with
    | 0, _ | 1, _ | 2, _ | 3, _ | 4, _ | 5, _ | 6, _ | 7, _ | 8, _ | 9, _ | 10, _ | 11, _ | 12, _ | 13, _ | 14, _ | 15, _ | 16, _ | 17, _ | 18, _ | 19, _ => rfl
    | n + 20, hi => omega
  exact ⟨k0, cell_lt (k0 0 (by decide))⟩

end Go.Proofs.YtpcjdllijkjdkaaGreatDoor

