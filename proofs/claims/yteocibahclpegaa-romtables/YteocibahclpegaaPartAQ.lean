/- Contracts and laws: RdxA, RdxC, RdxD, RdxE, RdxF. -/
import Derived.Test.YteocibahclpegaaPartAL
import Derived.Test.YteocibahclpegaaPartAP
import Derived.Test.YteocibahclpegaaPartAO
import Derived.WalkMore
/- Contracts: radix2.restore. -/
set_option linter.unusedVariables false
set_option linter.unusedSimpArgs false
set_option maxRecDepth 8000
namespace Go.Proofs.Yteocibahclpegaa
open Go.RowKit Plain

/-- The three blocks from B on are as they were. -/
structure Kept3 (B : Nat) (w w' : World) : Prop where
  size : w.heap.size ≤ w'.heap.size
  block : ∀ k, B ≤ k → k < B + 3 → w'.heap[k]? = w.heap[k]?
theorem Kept3.cell {B : Nat} {w w' : World} (h : Kept3 B w w') {b i : Nat} (h1 : B ≤ b) (h2 : b < B + 3) : w'.cell? ⟨b, i, none⟩ = w.cell? ⟨b, i, none⟩ := World.cell?_of_block (w := w) (h.block b h1 h2)
theorem Kept3.frozen {B : Nat} {w w' : World} (h : Kept3 B w w') {b i : Nat} (h1 : B ≤ b) (h2 : b < B + 3) : w'.frozen? ⟨b, i, none⟩ = w.frozen? ⟨b, i, none⟩ := World.frozen?_of_block (w := w) (h.block b h1 h2)
theorem Kept3.lies {B : Nat} {w w' : World} (h : Kept3 B w w') {b : Nat} {f : Nat → Nat} (hl : LiesF w b f) (h1 : B ≤ b) (h2 : b < B + 3) : LiesF w' b f :=
  ⟨fun i hi => (h.cell h1 h2).trans (hl.1 i hi), Nat.lt_of_lt_of_le hl.2 h.size⟩
end Go.Proofs.Yteocibahclpegaa

/- Two results in boxes; what a closure may change; radix2.Divide's closure. -/
set_option linter.unusedVariables false
set_option linter.unusedSimpArgs false
set_option maxRecDepth 8000
namespace Go.Proofs.Yteocibahclpegaa
open Go.RowKit Plain

/-- Two results of eight limbs at r1 and r2. -/
structure R2St (r1 r2 x y : Nat) (w W : World) : Prop where
  lx : LiesF W r1 (dgl x)
  fx : ∀ i, W.frozen? ⟨r1, i, none⟩ = false
  ly : LiesF W r2 (dgl y)
  fy : ∀ i, W.frozen? ⟨r2, i, none⟩ = false
  bel : Below w.heap.size w W
  o1 : w.heap.size ≤ r1
  o2 : r1 < r2
section
variable {r1 r2 x y : Nat} {w W W' : World}
theorem R2St.under (h : R2St r1 r2 x y w W) {C : Nat} (hb : Below C W W') (hc : r2 < C) : R2St r1 r2 x y w W' := by
  have h1 := h.o1
  have h2 := h.o2
  exact ⟨lies_box h.lx hb (by omega), fun i => (hb.frozen (p := ⟨r1, i, none⟩) (show r1 < C by omega)).trans (h.fx i), lies_box h.ly hb hc, fun i => (hb.frozen (p := ⟨r2, i, none⟩) hc).trans (h.fy i), h.bel.trans (hb.mono (by omega)), h.o1, h.o2⟩
theorem R2St.below (h : R2St r1 r2 x y w W) (hb : Below W.heap.size W W') : R2St r1 r2 x y w W' := h.under hb h.ly.2
theorem R2St.set1 (h : R2St r1 r2 x y w W) (z : Nat) : R2St r1 r2 z y w ((((((((W.setCell ⟨r1, 0, none⟩ (.int .u64 (dgl z 0 : Nat))).setCell ⟨r1, 1, none⟩ (.int .u64 (dgl z 1 : Nat))).setCell ⟨r1, 2, none⟩ (.int .u64 (dgl z 2 : Nat))).setCell ⟨r1, 3, none⟩ (.int .u64 (dgl z 3 : Nat))).setCell ⟨r1, 4, none⟩ (.int .u64 (dgl z 4 : Nat))).setCell ⟨r1, 5, none⟩ (.int .u64 (dgl z 5 : Nat))).setCell ⟨r1, 6, none⟩ (.int .u64 (dgl z 6 : Nat))).setCell ⟨r1, 7, none⟩ (.int .u64 (dgl z 7 : Nat))) := by
  have h1 := h.o1
  have h2 := h.o2
  exact ⟨set8_same W r1 (dgl z) (dgl x) h.lx, fun i => by simpa [go_sem] using h.fx i, lies_ne h.ly (by omega), fun i => by simpa [go_sem] using h.fy i, below_set8 h.bel _ h1 _ _ _ _ _ _ _ _, h1, h2⟩
end
/-- Only the blocks p and q may have changed. -/
structure Only2 (p q : Nat) (w w' : World) : Prop where
  os : w'.os = w.os
  tape : w'.tape = w.tape
  output : w'.output = w.output
  size : w.heap.size ≤ w'.heap.size
  block : ∀ k, k < w.heap.size → k ≠ p → k ≠ q → w'.heap[k]? = w.heap[k]?
theorem Only2.setp {p q : Nat} {w w' : World} (h : Only2 p q w w') (i : Nat) (u : Value) : Only2 p q w (w'.setCell ⟨p, i, none⟩ u) :=
  ⟨h.os, h.tape, h.output, by simpa [go_sem] using h.size, fun k hk h1 h2 => (Below.heap_setCell _ _ _ _ h1).trans (h.block k hk h1 h2)⟩
theorem Only2.then {p q : Nat} {w w' w2 : World} (h : Only2 p q w w') (hb : Below w'.heap.size w' w2) : Only2 p q w w2 :=
  ⟨hb.os.trans h.os, hb.tape.trans h.tape, hb.output.trans h.output, Nat.le_trans h.size hb.size, fun k hk h1 h2 => (hb.block k (Nat.lt_of_lt_of_le hk h.size)).trans (h.block k hk h1 h2)⟩
theorem Only2.lies {p q : Nat} {w w' : World} (h : Only2 p q w w') {b : Nat} {f : Nat → Nat} (hl : LiesF w b f) (h1 : b ≠ p) (h2 : b ≠ q) : LiesF w' b f :=
  ⟨fun i hi => (World.cell?_of_block (w := w) (h.block b hl.2 h1 h2)).trans (hl.1 i hi), Nat.lt_of_lt_of_le hl.2 h.size⟩
theorem Only2.frozen {p q : Nat} {w w' : World} (h : Only2 p q w w') {b i : Nat} (hl : b < w.heap.size) (h1 : b ≠ p) (h2 : b ≠ q) : w'.frozen? ⟨b, i, none⟩ = w.frozen? ⟨b, i, none⟩ := World.frozen?_of_block (w := w) (h.block b hl h1 h2)
theorem Only2.cell {p q : Nat} {w w' : World} (h : Only2 p q w w') {b i : Nat} (hl : b < w.heap.size) (h1 : b ≠ p) (h2 : b ≠ q) : w'.cell? ⟨b, i, none⟩ = w.cell? ⟨b, i, none⟩ := World.cell?_of_block (w := w) (h.block b hl h1 h2)
theorem Only2.under {p q C : Nat} {w0 w w' : World} (h : Only2 p q w w') (hb : Below C w0 w) (h1 : C ≤ p) (h2 : C ≤ q) (hc : C ≤ w0.heap.size) : Below C w0 w' :=
  ⟨h.os.trans hb.os, h.tape.trans hb.tape, h.output.trans hb.output, Nat.le_trans hb.size h.size, fun k hk => (h.block k (Nat.lt_of_lt_of_le hk (Nat.le_trans hc hb.size)) (by omega) (by omega)).trans (hb.block k hk)⟩
theorem Only2.kept {p q B : Nat} {w w' : World} (h : Only2 p q w w') (h1 : p < B ∨ B + 3 ≤ p) (h2 : q < B ∨ B + 3 ≤ q) (hs : B + 3 ≤ w.heap.size) : Kept3 B w w' :=
  ⟨h.size, fun k h3 h4 => h.block k (by omega) (by omega) (by omega)⟩
theorem Only2.r2 {p q r1 r2 x y : Nat} {w0 w w' : World} (h : Only2 p q w w') (hr : R2St r1 r2 x y w0 w) (hp : r2 < p) (hq : r2 < q) : R2St r1 r2 x y w0 w' := by
  have h1 := hr.o1
  have h2 := hr.o2
  exact ⟨h.lies hr.lx (by omega) (by omega), fun i => (h.frozen hr.lx.2 (by omega) (by omega)).trans (hr.fx i), h.lies hr.ly (by omega) (by omega), fun i => (h.frozen hr.ly.2 (by omega) (by omega)).trans (hr.fy i), h.under hr.bel (by omega) (by omega) (Nat.le_refl _), h1, h2⟩
end Go.Proofs.Yteocibahclpegaa

/- Contracts: the document's quotient and remainder; radix2.May, Divide. -/
set_option linter.unusedVariables false
set_option linter.unusedSimpArgs false
set_option maxRecDepth 8000
namespace Go.Proofs.Yteocibahclpegaa
open Go.RowKit Plain

end Go.Proofs.Yteocibahclpegaa

/- Contracts: radix2.Divide. -/
set_option linter.unusedVariables false
set_option linter.unusedSimpArgs false
set_option maxRecDepth 8000
namespace Go.Proofs.Yteocibahclpegaa
open Go.RowKit Plain

end Go.Proofs.Yteocibahclpegaa

/- Contracts: radicandlaw11's example, and what holds of a quotient and a remainder. -/
set_option linter.unusedVariables false
set_option linter.unusedSimpArgs false
set_option maxRecDepth 8000
namespace Go.Proofs.Yteocibahclpegaa
open Go.RowKit Plain

theorem dgl_high0 {x i : Nat} (hx : x < 18446744073709551616) (hi : 0 < i) : dgl x i = 0 := by
  rw [dgl_lw]
  have h : x < LW ^ i := by
    have h1 : LW ^ 1 ≤ LW ^ i := Nat.pow_le_pow_right lw_pos hi
    have h2 : LW ^ 1 = 18446744073709551616 := by rw [Nat.pow_one]; rfl
    omega
  rw [Nat.div_eq_of_lt h, Nat.zero_mod]
theorem dgl_low0 {x : Nat} (hx : x < 18446744073709551616) : dgl x 0 = x := by
  rw [dgl_lw, Nat.pow_zero, Nat.div_one]
  exact Nat.mod_eq_of_lt hx
end Go.Proofs.Yteocibahclpegaa

