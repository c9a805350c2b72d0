/- Contracts and laws: TabA. -/
import Derived.Test.YtbngaajhdaciaaaDoorRows
import Derived.Test.YtbngaajhdaciaaaDoorPartAC
import Derived.ProofKit
import Derived.OpenShut
import Derived.ChangeMaps5
import Derived.Lib.SmallJoins
import Derived.Stop.Joined
import Derived.LaidMore
/- What the program's table of rows holds, as the rows lay it. -/
set_option linter.unusedVariables false
set_option linter.unusedSimpArgs false
set_option maxRecDepth 8000
namespace Go.Proofs.YtbngaajhdaciaaaDoor
open Go.RowKit Plain Go.ChangeShapes Go.WideShapes

/-- The table of rows, cell by cell. -/
def tabL : List Int := [12, 3, -5, -13, 14, 4, -6, -15, 15, 4, -6, -16, 16, 4, -7, -18, 18, 5, -8, -20, 19, 5, -8, -21, 20, 5, -9, -23, 22, 6, -10, -25]

section
variable {H : Type} {enc : TypeId × Value → H} {W : World} {base : Nat} {sp : Nat → Bool} {held : Bool}

theorem tab_one {n : Nat} {c : Value} {x : DataW H × List MemPlace} {a : Int} (h : DataW.trod enc Tryd.prog W base sp held n 3 [c] = some x) (hx : x.1 = .lit (.int .i64 a)) : c = .int .i64 a := by
  obtain ⟨k, e1, e2, _⟩ := DataW.trod_int Tryd.underlying3 h
  simp at e1
  subst e1
  rw [e2] at hx
  simp at hx
  rw [hx]
theorem tlist4 {l : List Value} (h : l.length = 4) : ∃ a b c d, l = [a, b, c, d] := by
  match l, h with
  | [a, b, c, d], _ => exact ⟨a, b, c, d, rfl⟩
theorem tab_row {fuel : Nat} {cs : List Value} {p : List MemPlace} {a b c d : Int} (h : DataW.trod enc Tryd.prog W base sp held fuel 74 cs = some (.agg [.lit (.int .i64 a), .lit (.int .i64 b), .lit (.int .i64 c), .lit (.int .i64 d)], p)) :
    cs = [.int .i64 a, .int .i64 b, .int .i64 c, .int .i64 d] := by
  obtain ⟨xs, n, _, hx, hl, hlen, hf⟩ := DataW.trod_array Tryd.underlying74 h
  have hl4 : cs.length = 4 := hl.trans (by kernel_rfl)
  have c1 : Tryd.prog.cellsOf 3 = 1 := by kernel_rfl
  obtain ⟨c0, c1', c2, c3, rfl⟩ := tlist4 hl4
  match xs, hlen, hx, hf with
  | [y0, y1, y2, y3], _, hx, hf =>
    simp only [List.map_cons, List.map_nil, Prod.mk.injEq, DataW.agg.injEq, List.cons.injEq] at hx
    have g0 := hf 0 (by decide)
    have g1 := hf 1 (by decide)
    have g2 := hf 2 (by decide)
    have g3 := hf 3 (by decide)
    rw [c1] at g0 g1 g2 g3
    rw [tab_one g0 hx.1.1.symm, tab_one g1 hx.1.2.1.symm, tab_one g2 hx.1.2.2.1.symm, tab_one g3 hx.1.2.2.2.1.symm]
theorem tlist32 {l : List Value} (h : l.length = 32) : l = (l.drop 0).take 4 ++ ((l.drop 4).take 4 ++ ((l.drop 8).take 4 ++ ((l.drop 12).take 4 ++ ((l.drop 16).take 4 ++ ((l.drop 20).take 4 ++ ((l.drop 24).take 4 ++ (l.drop 28).take 4)))))) := by
  have h3 : (l.drop 28).take 4 = l.drop 28 := List.take_of_length_le (by rw [List.length_drop]; omega)
  have key : ∀ k, l.drop k = (l.drop k).take 4 ++ l.drop (k + 4) := fun k => by
    rw [← List.drop_drop]
    exact (List.take_append_drop 4 (l.drop k)).symm
  rw [h3, ← key 24, ← key 20, ← key 16, ← key 12, ← key 8, ← key 4]
  exact key 0
theorem tab_all {fuel : Nat} {cs : List Value} {p : List MemPlace} (h : DataW.trod enc Tryd.prog W base sp held fuel 117 cs = some (Rows.laid_radicand_table_rows, p)) : cs = tabL.map (Value.int .i64) := by
  obtain ⟨xs, m, _, hx, hl, hlen, hf⟩ := DataW.trod_array Tryd.underlying117 h
  have hl32 : cs.length = 32 := hl.trans (by kernel_rfl)
  have c4 : Tryd.prog.cellsOf 74 = 4 := by kernel_rfl
  match xs, hlen, hx, hf with
  | [y0, y1, y2, y3, y4, y5, y6, y7], _, hx, hf =>
    unfold Rows.laid_radicand_table_rows at hx
    simp only [List.map_cons, List.map_nil, Prod.mk.injEq, DataW.agg.injEq, List.cons.injEq] at hx
    obtain ⟨⟨e0, e1, e2, e3, e4, e5, e6, e7, _⟩, _⟩ := hx
    have g0 := hf 0 (by decide)
    have g1 := hf 1 (by decide)
    have g2 := hf 2 (by decide)
    have g3 := hf 3 (by decide)
    have g4 := hf 4 (by decide)
    have g5 := hf 5 (by decide)
    have g6 := hf 6 (by decide)
    have g7 := hf 7 (by decide)
    rw [c4] at g0 g1 g2 g3 g4 g5 g6 g7
    obtain ⟨a0, b0⟩ := y0
    obtain ⟨a1, b1⟩ := y1
    obtain ⟨a2, b2⟩ := y2
    obtain ⟨a3, b3⟩ := y3
    obtain ⟨a4, b4⟩ := y4
    obtain ⟨a5, b5⟩ := y5
    obtain ⟨a6, b6⟩ := y6
    obtain ⟨a7, b7⟩ := y7
    subst e0 e1 e2 e3 e4 e5 e6 e7
    rw [tlist32 hl32, tab_row g0, tab_row g1, tab_row g2, tab_row g3, tab_row g4, tab_row g5, tab_row g6, tab_row g7]
    rfl
end

/-- The table of rows lies where the program's own lies. -/
structure TabG (W : World) : Prop where
  c : ∀ i, i < 32 → W.cell? ⟨0, i, none⟩ = some (.int .i64 (tabL.getD i 0))
  lt : 0 < W.heap.size
theorem TabG.below {W W' : World} (h : TabG W) (hb : Below W.heap.size W W') : TabG W' :=
  ⟨fun i hi => (hb.cell (p := ⟨0, i, none⟩) h.lt).trans (h.c i hi), Nat.lt_of_lt_of_le h.lt hb.size⟩
theorem gRows : Tryd.prog.globalNamed "radicand/table.rows" = some 0 := by kernel_rfl
theorem tRows : (Tryd.prog.globals[0]?).map (·.type) = some 117 := by kernel_rfl
theorem tcell_lt {W : World} {b i : Nat} {v : Value} (h : W.cell? ⟨b, i, none⟩ = some v) : b < W.heap.size := by
  rcases Nat.lt_or_ge b W.heap.size with h1 | h1
  · exact h1
  · simp [World.cell?, Array.getElem?_eq_none h1] at h
theorem of_laidT {W : World} (h : laidMetH Tryd.prog [("radicand/table.rows", Rows.laid_radicand_table_rows)] W) : TabG W := by
  rw [MakeChecks.laidMetH_plain _ _ _ (by kernel_rfl)] at h
  obtain ⟨ps, ⟨g0, t0, cs0, f0, p0, q0, hg0, ht0, hv0, hd0, _, _⟩, _, _⟩ := h
  obtain rfl := Option.some.inj (gRows.symm.trans hg0)
  obtain rfl := Option.some.inj (tRows.symm.trans ht0)
  have h0 := tab_all hd0
  have k0 : ∀ i, i < 32 → W.cell? ⟨0, i, none⟩ = some (.int .i64 (tabL.getD i 0)) := fun i hi => by
    rw [World.var?_cell hg0 hv0 i, ← Array.getElem?_toList, h0, List.getElem?_map]
    match i, hi with
    | 0, _ | 1, _ | 2, _ | 3, _ | 4, _ | 5, _ | 6, _ | 7, _ | 8, _ | 9, _ | 10, _ | 11, _ | 12, _ | 13, _ | 14, _ | 15, _ | 16, _ | 17, _ | 18, _ | 19, _ | 20, _ | 21, _ | 22, _ | 23, _ | 24, _ | 25, _ | 26, _ | 27, _ | 28, _ | 29, _ | 30, _ | 31, _ => rfl
    | n + 32, hi => omega
  exact ⟨k0, tcell_lt (k0 0 (by decide))⟩
end Go.Proofs.YtbngaajhdaciaaaDoor

