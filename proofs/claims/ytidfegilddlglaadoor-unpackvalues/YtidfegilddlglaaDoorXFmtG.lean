/- Contracts and laws: FmtG. -/
import Derived.Test.YtidfegilddlglaaDoorRows
import Derived.Test.YtidfegilddlglaaDoorBaseA
import Derived.ProofKit
import Derived.OpenShut
import Derived.ChangeMaps5
import Derived.Lib.SmallJoins
import Derived.Stop.Joined
import Derived.LaidMore
/- What the program's two tables of formats hold, as the rows lay them. -/
set_option linter.unusedVariables false
set_option linter.unusedSimpArgs false
set_option maxRecDepth 8000
namespace Go.Proofs.YtidfegilddlglaaDoor
open Go.RowKit Plain Go.ChangeShapes Go.WideShapes

/-- The table of formats, cell by cell. -/
def fmtL : List Int := [16, 11, 15, -14, 5, 32, 24, 127, -126, 8, 64, 53, 1023, -1022, 11, 128, 113, 16383, -16382, 15]
/-- The table of names. -/
def namL : List (List UInt8) := [[98, 105, 110, 97, 114, 121, 49, 54], [98, 105, 110, 97, 114, 121, 51, 50], [98, 105, 110, 97, 114, 121, 54, 52], [98, 105, 110, 97, 114, 121, 49, 50, 56]]

section
variable {H : Type} {enc : TypeId × Value → H} {W : World} {base : Nat} {sp : Nat → Bool} {held : Bool}

theorem fmt_one {n : Nat} {c : Value} {x : DataW H × List MemPlace} {a : Int} (h : DataW.trod enc Tryd.prog W base sp held n 3 [c] = some x) (hx : x.1 = .lit (.int .i64 a)) : c = .int .i64 a := by
  obtain ⟨k, e1, e2, _⟩ := DataW.trod_int Tryd.underlying3 h
  simp at e1
  subst e1
  rw [e2] at hx
  simp at hx
  rw [hx]
theorem list5 {l : List Value} (h : l.length = 5) : ∃ a b c d e, l = [a, b, c, d, e] := by
  match l, h with
  | [a, b, c, d, e], _ => exact ⟨a, b, c, d, e, rfl⟩
theorem fmt_row {fuel : Nat} {cs : List Value} {p : List MemPlace} {a b c d e : Int} (h : DataW.trod enc Tryd.prog W base sp held fuel 69 cs = some (.agg [.lit (.int .i64 a), .lit (.int .i64 b), .lit (.int .i64 c), .lit (.int .i64 d), .lit (.int .i64 e)], p)) :
    cs = [.int .i64 a, .int .i64 b, .int .i64 c, .int .i64 d, .int .i64 e] := by
  obtain ⟨xs, n, _, hx, hl, hlen, hf⟩ := DataW.trod_struct Tryd.underlying69 h
  have hl5 : cs.length = 5 := hl.trans (by kernel_rfl)
  obtain ⟨c0, c1, c2, c3, c4, rfl⟩ := list5 hl5
  match xs, hlen, hx, hf with
  | [y0, y1, y2, y3, y4], _, hx, hf =>
    simp only [List.map_cons, List.map_nil, Prod.mk.injEq, DataW.agg.injEq, List.cons.injEq] at hx
    have c1' : Tryd.prog.cellsOf 3 = 1 := by kernel_rfl
    have g0 : DataW.trod enc Tryd.prog W base sp held n 3 (([c0, c1, c2, c3, c4].drop 0).take (Tryd.prog.cellsOf 3)) = some y0 := hf 0 _ rfl
    have g1 : DataW.trod enc Tryd.prog W base sp held n 3 (([c0, c1, c2, c3, c4].drop 1).take (Tryd.prog.cellsOf 3)) = some y1 := hf 1 _ rfl
    have g2 : DataW.trod enc Tryd.prog W base sp held n 3 (([c0, c1, c2, c3, c4].drop 2).take (Tryd.prog.cellsOf 3)) = some y2 := hf 2 _ rfl
    have g3 : DataW.trod enc Tryd.prog W base sp held n 3 (([c0, c1, c2, c3, c4].drop 3).take (Tryd.prog.cellsOf 3)) = some y3 := hf 3 _ rfl
    have g4 : DataW.trod enc Tryd.prog W base sp held n 3 (([c0, c1, c2, c3, c4].drop 4).take (Tryd.prog.cellsOf 3)) = some y4 := hf 4 _ rfl
    rw [c1'] at g0 g1 g2 g3 g4
    rw [fmt_one g0 hx.1.1.symm, fmt_one g1 hx.1.2.1.symm, fmt_one g2 hx.1.2.2.1.symm, fmt_one g3 hx.1.2.2.2.1.symm, fmt_one g4 hx.1.2.2.2.2.1.symm]
theorem list20 {l : List Value} (h : l.length = 20) : l = (l.drop 0).take 5 ++ ((l.drop 5).take 5 ++ ((l.drop 10).take 5 ++ (l.drop 15).take 5)) := by
  have h3 : (l.drop 15).take 5 = l.drop 15 := List.take_of_length_le (by rw [List.length_drop]; omega)
  have key : ∀ k, l.drop k = (l.drop k).take 5 ++ l.drop (k + 5) := fun k => by
    rw [← List.drop_drop]
    exact (List.take_append_drop 5 (l.drop k)).symm
  rw [h3]
  have e10 := key 10
  have e5 := key 5
  have e0 := key 0
  rw [← e10, ← e5]
  exact e0
theorem fmt_all {fuel : Nat} {cs : List Value} {p : List MemPlace} (h : DataW.trod enc Tryd.prog W base sp held fuel 113 cs = some (Rows.laid_radicand_format_formats, p)) : cs = fmtL.map (Value.int .i64) := by
  obtain ⟨xs, m, _, hx, hl, hlen, hf⟩ := DataW.trod_array Tryd.underlying113 h
  have hl20 : cs.length = 20 := hl.trans (by kernel_rfl)
  have c5 : Tryd.prog.cellsOf 69 = 5 := by kernel_rfl
  match xs, hlen, hx, hf with
  | [y0, y1, y2, y3], _, hx, hf =>
    unfold Rows.laid_radicand_format_formats at hx
    simp only [List.map_cons, List.map_nil, Prod.mk.injEq, DataW.agg.injEq, List.cons.injEq] at hx
    obtain ⟨⟨e0, e1, e2, e3, _⟩, _⟩ := hx
    have g0 := hf 0 (by decide)
    have g1 := hf 1 (by decide)
    have g2 := hf 2 (by decide)
    have g3 := hf 3 (by decide)
    rw [c5] at g0 g1 g2 g3
    obtain ⟨a0, b0⟩ := y0
    obtain ⟨a1, b1⟩ := y1
    obtain ⟨a2, b2⟩ := y2
    obtain ⟨a3, b3⟩ := y3
    subst e0 e1 e2 e3
    rw [list20 hl20, fmt_row g0, fmt_row g1, fmt_row g2, fmt_row g3]
    rfl
theorem nam_one {n : Nat} {c : Value} {x : DataW H × List MemPlace} {a : List UInt8} (h : DataW.trod enc Tryd.prog W base sp held n 9 [c] = some x) (hx : x.1 = .lit (.string a)) : c = .string ⟨a.toArray⟩ := by
  obtain ⟨k, e1, e2, _⟩ := DataW.trod_string Tryd.underlying9 h
  simp at e1
  subst e1
  rw [e2] at hx
  simp at hx
  rw [← hx]
theorem list4 {l : List Value} (h : l.length = 4) : ∃ a b c d, l = [a, b, c, d] := by
  match l, h with
  | [a, b, c, d], _ => exact ⟨a, b, c, d, rfl⟩
end

/-- The table of formats lies where the program's own lies. -/
structure FmtG (W : World) : Prop where
  c : ∀ i, i < 20 → W.cell? ⟨0, i, none⟩ = some (.int .i64 (fmtL.getD i 0))
  lt : 0 < W.heap.size
structure NamG (W : World) : Prop where
  c : ∀ i, i < 4 → W.cell? ⟨1, i, none⟩ = some (.string ⟨(namL.getD i []).toArray⟩)
  lt : 1 < W.heap.size
theorem FmtG.below {W W' : World} (h : FmtG W) (hb : Below W.heap.size W W') : FmtG W' :=
  ⟨fun i hi => (hb.cell (p := ⟨0, i, none⟩) h.lt).trans (h.c i hi), Nat.lt_of_lt_of_le h.lt hb.size⟩
theorem NamG.below {W W' : World} (h : NamG W) (hb : Below W.heap.size W W') : NamG W' :=
  ⟨fun i hi => (hb.cell (p := ⟨1, i, none⟩) h.lt).trans (h.c i hi), Nat.lt_of_lt_of_le h.lt hb.size⟩
theorem gFormats : Tryd.prog.globalNamed "radicand/format.formats" = some 0 := by kernel_rfl
theorem tFormats : (Tryd.prog.globals[0]?).map (·.type) = some 113 := by kernel_rfl
theorem cell_lt {W : World} {b i : Nat} {v : Value} (h : W.cell? ⟨b, i, none⟩ = some v) : b < W.heap.size := by
  rcases Nat.lt_or_ge b W.heap.size with h1 | h1
  · exact h1
  · simp [World.cell?, Array.getElem?_eq_none h1] at h

end Go.Proofs.YtidfegilddlglaaDoor

