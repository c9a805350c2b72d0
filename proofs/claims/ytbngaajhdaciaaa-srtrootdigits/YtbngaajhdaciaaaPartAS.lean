/- Contracts and laws: RdxA, RdxC, RdxD, RdxE, RdxF, RdxH, RtA. -/
import Derived.Test.YtbngaajhdaciaaaPartAQ
import Derived.Test.YtbngaajhdaciaaaPartAR
import Derived.Test.YtbngaajhdaciaaaPartAL
import Derived.Test.YtbngaajhdaciaaaPartAM
import Derived.WalkMore
/- Contracts: radix2.restore. -/
set_option linter.unusedVariables false
set_option linter.unusedSimpArgs false
set_option maxRecDepth 8000
namespace Go.Proofs.Ytbngaajhdaciaaa
open Go.RowKit Plain

/-- The three blocks from B on are as they were. -/
structure Kept3 (B : Nat) (w w' : World) : Prop where
  size : w.heap.size ≤ w'.heap.size
  block : ∀ k, B ≤ k → k < B + 3 → w'.heap[k]? = w.heap[k]?
theorem Kept3.cell {B : Nat} {w w' : World} (h : Kept3 B w w') {b i : Nat} (h1 : B ≤ b) (h2 : b < B + 3) : w'.cell? ⟨b, i, none⟩ = w.cell? ⟨b, i, none⟩ := World.cell?_of_block (w := w) (h.block b h1 h2)
theorem Kept3.frozen {B : Nat} {w w' : World} (h : Kept3 B w w') {b i : Nat} (h1 : B ≤ b) (h2 : b < B + 3) : w'.frozen? ⟨b, i, none⟩ = w.frozen? ⟨b, i, none⟩ := World.frozen?_of_block (w := w) (h.block b h1 h2)
theorem Kept3.lies {B : Nat} {w w' : World} (h : Kept3 B w w') {b : Nat} {f : Nat → Nat} (hl : LiesF w b f) (h1 : B ≤ b) (h2 : b < B + 3) : LiesF w' b f :=
  ⟨fun i hi => (h.cell h1 h2).trans (hl.1 i hi), Nat.lt_of_lt_of_le hl.2 h.size⟩
end Go.Proofs.Ytbngaajhdaciaaa

/- Two results in boxes; what a closure may change; radix2.Divide's closure. -/
set_option linter.unusedVariables false
set_option linter.unusedSimpArgs false
set_option maxRecDepth 8000
namespace Go.Proofs.Ytbngaajhdaciaaa
open Go.RowKit Plain

/-- Two results of eight limbs at r1 and r2. -/
structure R2St (r1 r2 x y : Nat) (w W : World) : Prop where
  lx : LiesF W r1 (dgl x)
  fx : ∀ i, W.frozen? ⟨r1, i, none⟩ = false
  ly : LiesF W r2 (dgl y)
  fy : ∀ i, W.frozen? ⟨r2, i, none⟩ = false
  bel : Below w.heap.size w W
  o1 : w.heap.size ≤ r1
  o2 : r1 < r2
section
variable {r1 r2 x y : Nat} {w W W' : World}
theorem R2St.under (h : R2St r1 r2 x y w W) {C : Nat} (hb : Below C W W') (hc : r2 < C) : R2St r1 r2 x y w W' := by
  have h1 := h.o1
  have h2 := h.o2
  exact ⟨lies_box h.lx hb (by omega), fun i => (hb.frozen (p := ⟨r1, i, none⟩) (show r1 < C by omega)).trans (h.fx i), lies_box h.ly hb hc, fun i => (hb.frozen (p := ⟨r2, i, none⟩) hc).trans (h.fy i), h.bel.trans (hb.mono (by omega)), h.o1, h.o2⟩
theorem R2St.below (h : R2St r1 r2 x y w W) (hb : Below W.heap.size W W') : R2St r1 r2 x y w W' := h.under hb h.ly.2
theorem R2St.set1 (h : R2St r1 r2 x y w W) (z : Nat) : R2St r1 r2 z y w ((((((((W.setCell ⟨r1, 0, none⟩ (.int .u64 (dgl z 0 : Nat))).setCell ⟨r1, 1, none⟩ (.int .u64 (dgl z 1 : Nat))).setCell ⟨r1, 2, none⟩ (.int .u64 (dgl z 2 : Nat))).setCell ⟨r1, 3, none⟩ (.int .u64 (dgl z 3 : Nat))).setCell ⟨r1, 4, none⟩ (.int .u64 (dgl z 4 : Nat))).setCell ⟨r1, 5, none⟩ (.int .u64 (dgl z 5 : Nat))).setCell ⟨r1, 6, none⟩ (.int .u64 (dgl z 6 : Nat))).setCell ⟨r1, 7, none⟩ (.int .u64 (dgl z 7 : Nat))) := by
  have h1 := h.o1
  have h2 := h.o2
  exact ⟨set8_same W r1 (dgl z) (dgl x) h.lx, fun i => by simpa [go_sem] using h.fx i, lies_ne h.ly (by omega), fun i => by simpa [go_sem] using h.fy i, below_set8 h.bel _ h1 _ _ _ _ _ _ _ _, h1, h2⟩
theorem R2St.set2 (h : R2St r1 r2 x y w W) (z : Nat) : R2St r1 r2 x z w ((((((((W.setCell ⟨r2, 0, none⟩ (.int .u64 (dgl z 0 : Nat))).setCell ⟨r2, 1, none⟩ (.int .u64 (dgl z 1 : Nat))).setCell ⟨r2, 2, none⟩ (.int .u64 (dgl z 2 : Nat))).setCell ⟨r2, 3, none⟩ (.int .u64 (dgl z 3 : Nat))).setCell ⟨r2, 4, none⟩ (.int .u64 (dgl z 4 : Nat))).setCell ⟨r2, 5, none⟩ (.int .u64 (dgl z 5 : Nat))).setCell ⟨r2, 6, none⟩ (.int .u64 (dgl z 6 : Nat))).setCell ⟨r2, 7, none⟩ (.int .u64 (dgl z 7 : Nat))) := by
  have h1 := h.o1
  have h2 := h.o2
  exact ⟨lies_ne h.lx (by omega), fun i => by simpa [go_sem] using h.fx i, set8_same W r2 (dgl z) (dgl y) h.ly, fun i => by simpa [go_sem] using h.fy i, below_set8 h.bel _ (by omega) _ _ _ _ _ _ _ _, h1, h2⟩
end
theorem r2_new (w W : World) (hb : Below w.heap.size w W) (e1 e2 : TypeId) : R2St W.heap.size (W.heap.size + 1) 0 0 w ((W.alloc (.cells #[.int .u64 0, .int .u64 0, .int .u64 0, .int .u64 0, .int .u64 0, .int .u64 0, .int .u64 0, .int .u64 0] e1)).alloc (.cells #[.int .u64 0, .int .u64 0, .int .u64 0, .int .u64 0, .int .u64 0, .int .u64 0, .int .u64 0, .int .u64 0] e2)) := by
  have h1 := liesF_new W (fun _ => 0) e1
  have h2 := liesF_new (W.alloc (.cells #[.int .u64 0, .int .u64 0, .int .u64 0, .int .u64 0, .int .u64 0, .int .u64 0, .int .u64 0, .int .u64 0] e1)) (fun _ => 0) e2
  rw [World.size_alloc] at h2
  refine ⟨?_, fun i => by simp [go_sem], ?_, fun i => by simp [go_sem], below_trans (below_trans hb (below_allocs _ _)) (below_allocs _ _), hb.size, by omega⟩
  · rw [dgl_z]
    exact h1.alloc _
  · rw [dgl_z]
    exact h2

/-- Only the blocks p and q may have changed. -/
structure Only2 (p q : Nat) (w w' : World) : Prop where
  os : w'.os = w.os
  tape : w'.tape = w.tape
  output : w'.output = w.output
  size : w.heap.size ≤ w'.heap.size
  block : ∀ k, k < w.heap.size → k ≠ p → k ≠ q → w'.heap[k]? = w.heap[k]?
theorem Only2.setp {p q : Nat} {w w' : World} (h : Only2 p q w w') (i : Nat) (u : Value) : Only2 p q w (w'.setCell ⟨p, i, none⟩ u) :=
  ⟨h.os, h.tape, h.output, by simpa [go_sem] using h.size, fun k hk h1 h2 => (Below.heap_setCell _ _ _ _ h1).trans (h.block k hk h1 h2)⟩
theorem Only2.setq {p q : Nat} {w w' : World} (h : Only2 p q w w') (i : Nat) (u : Value) : Only2 p q w (w'.setCell ⟨q, i, none⟩ u) :=
  ⟨h.os, h.tape, h.output, by simpa [go_sem] using h.size, fun k hk h1 h2 => (Below.heap_setCell _ _ _ _ h2).trans (h.block k hk h1 h2)⟩
theorem Only2.setp8 {p q : Nat} {w W : World} (h : Only2 p q w W) (f : Nat → Nat) : Only2 p q w ((((((((W.setCell ⟨p, 0, none⟩ (.int .u64 (f 0 : Nat))).setCell ⟨p, 1, none⟩ (.int .u64 (f 1 : Nat))).setCell ⟨p, 2, none⟩ (.int .u64 (f 2 : Nat))).setCell ⟨p, 3, none⟩ (.int .u64 (f 3 : Nat))).setCell ⟨p, 4, none⟩ (.int .u64 (f 4 : Nat))).setCell ⟨p, 5, none⟩ (.int .u64 (f 5 : Nat))).setCell ⟨p, 6, none⟩ (.int .u64 (f 6 : Nat))).setCell ⟨p, 7, none⟩ (.int .u64 (f 7 : Nat))) := (((((((h.setp _ _).setp _ _).setp _ _).setp _ _).setp _ _).setp _ _).setp _ _).setp _ _
theorem Only2.setq8 {p q : Nat} {w W : World} (h : Only2 p q w W) (f : Nat → Nat) : Only2 p q w ((((((((W.setCell ⟨q, 0, none⟩ (.int .u64 (f 0 : Nat))).setCell ⟨q, 1, none⟩ (.int .u64 (f 1 : Nat))).setCell ⟨q, 2, none⟩ (.int .u64 (f 2 : Nat))).setCell ⟨q, 3, none⟩ (.int .u64 (f 3 : Nat))).setCell ⟨q, 4, none⟩ (.int .u64 (f 4 : Nat))).setCell ⟨q, 5, none⟩ (.int .u64 (f 5 : Nat))).setCell ⟨q, 6, none⟩ (.int .u64 (f 6 : Nat))).setCell ⟨q, 7, none⟩ (.int .u64 (f 7 : Nat))) := (((((((h.setq _ _).setq _ _).setq _ _).setq _ _).setq _ _).setq _ _).setq _ _).setq _ _
theorem Only2.then {p q : Nat} {w w' w2 : World} (h : Only2 p q w w') (hb : Below w'.heap.size w' w2) : Only2 p q w w2 :=
  ⟨hb.os.trans h.os, hb.tape.trans h.tape, hb.output.trans h.output, Nat.le_trans h.size hb.size, fun k hk h1 h2 => (hb.block k (Nat.lt_of_lt_of_le hk h.size)).trans (h.block k hk h1 h2)⟩
theorem Only2.lies {p q : Nat} {w w' : World} (h : Only2 p q w w') {b : Nat} {f : Nat → Nat} (hl : LiesF w b f) (h1 : b ≠ p) (h2 : b ≠ q) : LiesF w' b f :=
  ⟨fun i hi => (World.cell?_of_block (w := w) (h.block b hl.2 h1 h2)).trans (hl.1 i hi), Nat.lt_of_lt_of_le hl.2 h.size⟩
theorem Only2.frozen {p q : Nat} {w w' : World} (h : Only2 p q w w') {b i : Nat} (hl : b < w.heap.size) (h1 : b ≠ p) (h2 : b ≠ q) : w'.frozen? ⟨b, i, none⟩ = w.frozen? ⟨b, i, none⟩ := World.frozen?_of_block (w := w) (h.block b hl h1 h2)
theorem Only2.cell {p q : Nat} {w w' : World} (h : Only2 p q w w') {b i : Nat} (hl : b < w.heap.size) (h1 : b ≠ p) (h2 : b ≠ q) : w'.cell? ⟨b, i, none⟩ = w.cell? ⟨b, i, none⟩ := World.cell?_of_block (w := w) (h.block b hl h1 h2)
theorem Only2.under {p q C : Nat} {w0 w w' : World} (h : Only2 p q w w') (hb : Below C w0 w) (h1 : C ≤ p) (h2 : C ≤ q) (hc : C ≤ w0.heap.size) : Below C w0 w' :=
  ⟨h.os.trans hb.os, h.tape.trans hb.tape, h.output.trans hb.output, Nat.le_trans hb.size h.size, fun k hk => (h.block k (Nat.lt_of_lt_of_le hk (Nat.le_trans hc hb.size)) (by omega) (by omega)).trans (hb.block k hk)⟩
theorem Only2.kept {p q B : Nat} {w w' : World} (h : Only2 p q w w') (h1 : p < B ∨ B + 3 ≤ p) (h2 : q < B ∨ B + 3 ≤ q) (hs : B + 3 ≤ w.heap.size) : Kept3 B w w' :=
  ⟨h.size, fun k h3 h4 => h.block k (by omega) (by omega) (by omega)⟩
theorem Only2.r2 {p q r1 r2 x y : Nat} {w0 w w' : World} (h : Only2 p q w w') (hr : R2St r1 r2 x y w0 w) (hp : r2 < p) (hq : r2 < q) : R2St r1 r2 x y w0 w' := by
  have h1 := hr.o1
  have h2 := hr.o2
  exact ⟨h.lies hr.lx (by omega) (by omega), fun i => (h.frozen hr.lx.2 (by omega) (by omega)).trans (hr.fx i), h.lies hr.ly (by omega) (by omega), fun i => (h.frozen hr.ly.2 (by omega) (by omega)).trans (hr.fy i), h.under hr.bel (by omega) (by omega) (Nat.le_refl _), h1, h2⟩
end Go.Proofs.Ytbngaajhdaciaaa

/- Contracts: the document's quotient and remainder; radix2.May, Divide. -/
set_option linter.unusedVariables false
set_option linter.unusedSimpArgs false
set_option maxRecDepth 8000
namespace Go.Proofs.Ytbngaajhdaciaaa
open Go.RowKit Plain

end Go.Proofs.Ytbngaajhdaciaaa

/- Contracts: radix2.Divide. -/
set_option linter.unusedVariables false
set_option linter.unusedSimpArgs false
set_option maxRecDepth 8000
namespace Go.Proofs.Ytbngaajhdaciaaa
open Go.RowKit Plain

end Go.Proofs.Ytbngaajhdaciaaa

/- Contracts: radicandlaw11's example, and what holds of a quotient and a remainder. -/
set_option linter.unusedVariables false
set_option linter.unusedSimpArgs false
set_option maxRecDepth 8000
namespace Go.Proofs.Ytbngaajhdaciaaa
open Go.RowKit Plain

theorem dgl_high0 {x i : Nat} (hx : x < 18446744073709551616) (hi : 0 < i) : dgl x i = 0 := by
  rw [dgl_lw]
  have h : x < LW ^ i := by
    have h1 : LW ^ 1 ≤ LW ^ i := Nat.pow_le_pow_right lw_pos hi
    have h2 : LW ^ 1 = 18446744073709551616 := by rw [Nat.pow_one]; rfl
    omega
  rw [Nat.div_eq_of_lt h, Nat.zero_mod]
theorem dgl_low0 {x : Nat} (hx : x < 18446744073709551616) : dgl x 0 = x := by
  rw [dgl_lw, Nat.pow_zero, Nat.div_one]
  exact Nat.mod_eq_of_lt hx
theorem w8_small (x : Nat) (hx : x < 18446744073709551616) : (#[.int .u64 (dgl (x) 0 : Nat), .int .u64 (dgl (x) 1 : Nat), .int .u64 (dgl (x) 2 : Nat), .int .u64 (dgl (x) 3 : Nat), .int .u64 (dgl (x) 4 : Nat), .int .u64 (dgl (x) 5 : Nat), .int .u64 (dgl (x) 6 : Nat), .int .u64 (dgl (x) 7 : Nat)] : Array Value) = #[.int .u64 (x : Nat), .int .u64 0, .int .u64 0, .int .u64 0, .int .u64 0, .int .u64 0, .int .u64 0, .int .u64 0] := by
  rw [dgl_low0 hx, dgl_high0 hx (show 0 < 1 by decide), dgl_high0 hx (show 0 < 2 by decide), dgl_high0 hx (show 0 < 3 by decide), dgl_high0 hx (show 0 < 4 by decide), dgl_high0 hx (show 0 < 5 by decide), dgl_high0 hx (show 0 < 6 by decide), dgl_high0 hx (show 0 < 7 by decide)]
  rfl
theorem r2_put (w W : World) (x y : Nat) (hb : Below w.heap.size w W) (e1 e2 : TypeId) : R2St W.heap.size (W.heap.size + 1) x y w ((W.alloc (.cells #[.int .u64 (dgl (x) 0 : Nat), .int .u64 (dgl (x) 1 : Nat), .int .u64 (dgl (x) 2 : Nat), .int .u64 (dgl (x) 3 : Nat), .int .u64 (dgl (x) 4 : Nat), .int .u64 (dgl (x) 5 : Nat), .int .u64 (dgl (x) 6 : Nat), .int .u64 (dgl (x) 7 : Nat)] e1)).alloc (.cells #[.int .u64 (dgl (y) 0 : Nat), .int .u64 (dgl (y) 1 : Nat), .int .u64 (dgl (y) 2 : Nat), .int .u64 (dgl (y) 3 : Nat), .int .u64 (dgl (y) 4 : Nat), .int .u64 (dgl (y) 5 : Nat), .int .u64 (dgl (y) 6 : Nat), .int .u64 (dgl (y) 7 : Nat)] e2)) := by
  have h1 := liesF_new W (dgl x) e1
  have h2 := liesF_new (W.alloc (.cells #[.int .u64 (dgl (x) 0 : Nat), .int .u64 (dgl (x) 1 : Nat), .int .u64 (dgl (x) 2 : Nat), .int .u64 (dgl (x) 3 : Nat), .int .u64 (dgl (x) 4 : Nat), .int .u64 (dgl (x) 5 : Nat), .int .u64 (dgl (x) 6 : Nat), .int .u64 (dgl (x) 7 : Nat)] e1)) (dgl y) e2
  rw [World.size_alloc] at h2
  exact ⟨h1.alloc _, fun i => by simp [go_sem], h2, fun i => by simp [go_sem], below_trans (below_trans hb (below_allocs _ _)) (below_allocs _ _), hb.size, by omega⟩
/-- A wide is a small number, written out. -/
theorem wide_lit (x k : Nat) (hx : x < QQ) (hk : k < 18446744073709551616) (w : World) : (Op.equalIn 10000 24 (.agg #[.int .u64 (dgl (x) 0 : Nat), .int .u64 (dgl (x) 1 : Nat), .int .u64 (dgl (x) 2 : Nat), .int .u64 (dgl (x) 3 : Nat), .int .u64 (dgl (x) 4 : Nat), .int .u64 (dgl (x) 5 : Nat), .int .u64 (dgl (x) 6 : Nat), .int .u64 (dgl (x) 7 : Nat)]) (.agg #[.int .u64 (k : Nat), .int .u64 0, .int .u64 0, .int .u64 0, .int .u64 0, .int .u64 0, .int .u64 0, .int .u64 0])).run Try.prog w = .ok (decide (x = k)) w := by
  rw [← w8_small k hk]
  exact wide_eqb hx (ll_lt_qq hk) w

end Go.Proofs.Ytbngaajhdaciaaa

/- Contracts: radix2.Digits. -/
set_option linter.unusedVariables false
set_option linter.unusedSimpArgs false
set_option maxRecDepth 8000
namespace Go.Proofs.Ytbngaajhdaciaaa
open Go.RowKit Plain

/-- A row of the call's own stays, where its block does. -/
theorem owns_of_block {w w' : World} {base : Nat} {e : TypeId} {size n : Nat} {v : Value} {xs : List Value} (h : w.ownsRow base e size v n xs) (hb : ∀ g, v.ownBlock = some g → w'.heap[g]? = w.heap[g]?) : w'.ownsRow base e size v n xs := by
  refine ⟨h.1, ?_⟩
  rcases h.2 with hn | ⟨g, cap, cur, rfl, hb1, hgg, rest⟩
  · exact .inl hn
  · exact .inr ⟨g, cap, cur, rfl, hb1, (hb g rfl).trans hgg, rest⟩
/-- Below base only the block p may have changed. -/
structure But (p base : Nat) (w w' : World) : Prop where
  os : w'.os = w.os
  tape : w'.tape = w.tape
  output : w'.output = w.output
  size : w.heap.size ≤ w'.heap.size
  block : ∀ k, k < base → k ≠ p → w'.heap[k]? = w.heap[k]?

end Go.Proofs.Ytbngaajhdaciaaa

/- Contracts: the document's roots (radicandref12). -/
set_option linter.unusedVariables false
set_option linter.unusedSimpArgs false
set_option maxRecDepth 8000
namespace Go.Proofs.Ytbngaajhdaciaaa
open Go.RowKit Plain

set_option maxHeartbeats 1000000 in
theorem rmay12_walk (n L : Nat) (z : Bool) (HBN : Hid (∀ w, Calls Try.prog 20 #[.agg #[.int .u64 (dgl (n) 0 : Nat), .int .u64 (dgl (n) 1 : Nat), .int .u64 (dgl (n) 2 : Nat), .int .u64 (dgl (n) 3 : Nat), .int .u64 (dgl (n) 4 : Nat), .int .u64 (dgl (n) 5 : Nat), .int .u64 (dgl (n) 6 : Nat), .int .u64 (dgl (n) 7 : Nat)]] w fun e w' => ∃ v, e = .returned v ∧ BigV w' v n 40 ∧ Below w.heap.size w w'))
    (HLN : Hid (∀ v w, BigV w v n 40 → Calls Try.prog 35 #[v] w fun e w' => e = .returned (.int .i64 ((L : Nat) : Int)) ∧ w' = w)) (hz : decide ((L : Int) ≤ 256) = z) (w : World) :
    Calls Try.prog 11 #[.agg #[.int .u64 (dgl (n) 0 : Nat), .int .u64 (dgl (n) 1 : Nat), .int .u64 (dgl (n) 2 : Nat), .int .u64 (dgl (n) 3 : Nat), .int .u64 (dgl (n) 4 : Nat), .int .u64 (dgl (n) 5 : Nat), .int .u64 (dgl (n) 6 : Nat), .int .u64 (dgl (n) 7 : Nat)]] w fun e w' => e = .returned (.bool z) ∧ Below w.heap.size w w' := by
  have HS : Hid (LiesF (w.alloc (.cells #[.int .u64 (dgl (n) 0 : Nat), .int .u64 (dgl (n) 1 : Nat), .int .u64 (dgl (n) 2 : Nat), .int .u64 (dgl (n) 3 : Nat), .int .u64 (dgl (n) 4 : Nat), .int .u64 (dgl (n) 5 : Nat), .int .u64 (dgl (n) 6 : Nat), .int .u64 (dgl (n) 7 : Nat)] 24)) w.heap.size (dgl n) ∧ Below w.heap.size w (w.alloc (.cells #[.int .u64 (dgl (n) 0 : Nat), .int .u64 (dgl (n) 1 : Nat), .int .u64 (dgl (n) 2 : Nat), .int .u64 (dgl (n) 3 : Nat), .int .u64 (dgl (n) 4 : Nat), .int .u64 (dgl (n) 5 : Nat), .int .u64 (dgl (n) 6 : Nat), .int .u64 (dgl (n) 7 : Nat)] 24))) := ⟨liesF_new w (dgl n) _, below_allocs w _⟩
  have HZ := hide hz
  clear hz
  go_enter Try.func11, Try.ntmps11
  have hca := HS.out.1.1
  go_wp2_with fail
  refine (HBN.out _).mono ?_
  rintro e w1 ⟨u, rfl, hu, hb1⟩
  have HB := hide (below_trans HS.out.2 hb1)
  clear HS hb1 hca
  go_wp2_with fail
  refine (HLN.out _ _ hu).mono ?_
  rintro e wl ⟨rfl, hw⟩
  subst wl
  go_wp2
  go_ret
  exact ⟨ret_bool HZ.out, HB.out⟩
theorem rmay12_any (n : Nat) (hn : n < QQ) (w : World) : Calls Try.prog 11 #[.agg #[.int .u64 (dgl (n) 0 : Nat), .int .u64 (dgl (n) 1 : Nat), .int .u64 (dgl (n) 2 : Nat), .int .u64 (dgl (n) 3 : Nat), .int .u64 (dgl (n) 4 : Nat), .int .u64 (dgl (n) 5 : Nat), .int .u64 (dgl (n) 6 : Nat), .int .u64 (dgl (n) 7 : Nat)]] w fun e w' => e = .returned (.bool (decide (n < 2 ^ 256))) ∧ Below w.heap.size w w' := by
  refine rmay12_walk n _ _ (fun w => refBig_any n hn w) (fun v w h => refLen_any n 40 v w h (by decide)) ?_ w
  have h := bitLen_above n 256
  rw [decide_eq_decide]
  generalize 2 ^ 256 = P at *
  omega

set_option maxHeartbeats 1000000 in
theorem refPow_any (b K k : Nat) (u : Value) (hK : K ≤ 300) (hk : k ≤ 3) (w : World) (hu : BigV w u b K) :
    Calls Try.prog 62 #[u, .int .i64 (k : Nat)] w fun e w' => ∃ v, e = .returned v ∧ BigV w' v (b ^ k) (2 + K * 3) ∧ Below w.heap.size w w' := by
  have HU := hide hu
  have HK := hide hK
  have HSM : Hid (∀ w, Calls Try.prog 19 #[.int .u64 1] w fun e w' => ∃ v, e = .returned v ∧ BigV w' v 1 2 ∧ Below w.heap.size w w') := fun w => small_any 1 (by decide) w
  have HMU : Hid (∀ i v w, i ≤ 3 → BigV w v (b ^ i) (2 + K * i) → BigV w u b K → Calls Try.prog 18 #[v, u] w fun e w' => ∃ v, e = .returned v ∧ BigV w' v (b ^ (i + 1)) (2 + K * (i + 1)) ∧ Below w.heap.size w w') := by
    intro i v w hi hv hu
    have h1 : K * i ≤ 300 * 3 := Nat.mul_le_mul hK hi
    refine (refMul_any (b ^ i) b (2 + K * i) K v u w hv hu (by omega) (by omega)).mono ?_
    rintro e w' ⟨v', e1, e2, e3⟩
    exact ⟨v', e1, by rw [Nat.pow_succ]; exact e2.mono (by rw [Nat.mul_add]; omega), e3⟩
  clear hu hK
  go_enter Try.func62, Try.ntmps62
  go_wp2_with fail
  refine (HSM.out _).mono ?_
  rintro e w1 ⟨v1, rfl, hv1, hb1⟩
  have HS0 : Hid (BigV w1 v1 (b ^ 0) (2 + K * 0) ∧ Below w.heap.size w w1) := ⟨hv1, hb1⟩
  clear hv1 hb1
  go_wp2
  go_loopw [5, 6] (fun v i wr => ∃ j : Nat, j ≤ k ∧ i = .int .i64 (j : Nat) ∧ Hid (BigV wr v (b ^ j) (2 + K * j) ∧ Below w.heap.size w wr))
    (fun _ i _ => k - (intOf i).toNat)
  case atStart => exact ⟨0, by omega, rfl, HS0⟩
  case round =>
    clear HS0
    obtain ⟨j, hjk, rfl, HS⟩ := hrel
    by_cases hlt : j < k
    · have hj : (j : Int) < (k : Int) := by omega
      go_wp2_with fail
      refine (HMU.out j _ _ (by omega) HS.out.1 (HU.out.below HS.out.2)).mono ?_
      rintro e w2 ⟨v2, rfl, hv2, hb2⟩
      have HS2 := hide (show BigV w2 v2 (b ^ (j + 1)) (2 + K * (j + 1)) ∧ Below w.heap.size w w2 from ⟨hv2, below_trans HS.out.2 hb2⟩)
      clear hv2 hb2 HS
      have hw1 : IntKind.i64.wrap ((j : Int) + 1) = ((j + 1 : Nat) : Int) := by rw [IntKind.wrap_i64]; omega
      go_wp2
      go_roundw
      case rel => exact ⟨j + 1, by omega, by go_num, HS2⟩
      case measure => simp [intOf]; omega
    · have hk2 : j = k := by omega
      subst hk2
      have hj : ¬ (j : Int) < (j : Int) := by omega
      go_wp2
      go_ret
      exact ⟨_, rfl, HS.out.1.mono (by have : K * j ≤ K * 3 := Nat.mul_le_mul_left _ hk
                                       omega), HS.out.2⟩

/-- A box and two results. -/
theorem rroot_start (a : Nat) (w : World) (e1 e2 e3 : TypeId) :
    LiesF (((w.alloc (.cells #[.int .u64 (dgl (a) 0 : Nat), .int .u64 (dgl (a) 1 : Nat), .int .u64 (dgl (a) 2 : Nat), .int .u64 (dgl (a) 3 : Nat), .int .u64 (dgl (a) 4 : Nat), .int .u64 (dgl (a) 5 : Nat), .int .u64 (dgl (a) 6 : Nat), .int .u64 (dgl (a) 7 : Nat)] e1)).alloc (.cells #[.int .u64 0, .int .u64 0, .int .u64 0, .int .u64 0, .int .u64 0, .int .u64 0, .int .u64 0, .int .u64 0] e2)).alloc (.cells #[.int .u64 0, .int .u64 0, .int .u64 0, .int .u64 0, .int .u64 0, .int .u64 0, .int .u64 0, .int .u64 0] e3)) w.heap.size (dgl a) ∧
    R2St (w.heap.size + 1) (w.heap.size + 2) 0 0 w (((w.alloc (.cells #[.int .u64 (dgl (a) 0 : Nat), .int .u64 (dgl (a) 1 : Nat), .int .u64 (dgl (a) 2 : Nat), .int .u64 (dgl (a) 3 : Nat), .int .u64 (dgl (a) 4 : Nat), .int .u64 (dgl (a) 5 : Nat), .int .u64 (dgl (a) 6 : Nat), .int .u64 (dgl (a) 7 : Nat)] e1)).alloc (.cells #[.int .u64 0, .int .u64 0, .int .u64 0, .int .u64 0, .int .u64 0, .int .u64 0, .int .u64 0, .int .u64 0] e2)).alloc (.cells #[.int .u64 0, .int .u64 0, .int .u64 0, .int .u64 0, .int .u64 0, .int .u64 0, .int .u64 0, .int .u64 0] e3)) := by
  have h2 := r2_new w _ (below_allocs w (.cells #[.int .u64 (dgl (a) 0 : Nat), .int .u64 (dgl (a) 1 : Nat), .int .u64 (dgl (a) 2 : Nat), .int .u64 (dgl (a) 3 : Nat), .int .u64 (dgl (a) 4 : Nat), .int .u64 (dgl (a) 5 : Nat), .int .u64 (dgl (a) 6 : Nat), .int .u64 (dgl (a) 7 : Nat)] e1)) e2 e3
  rw [World.size_alloc] at h2
  exact ⟨((liesF_new w (dgl a) e1).alloc _).alloc _, h2⟩

set_option maxHeartbeats 8000000 in
theorem rroot_walk (n k S pw r : Nat) (hk : k ≤ 3) (b1 b2 : Bool) (HS0 : Hid (hiN S 131 = 0)) (HIF : Hid (∀ c, cmpN ((hiN S (c + 1) + 2 ^ c) ^ k) n ≤ 0 ↔ S / 2 ^ c % 2 = 1))
    (HBN : Hid (∀ w, Calls Try.prog 20 #[.agg #[.int .u64 (dgl (n) 0 : Nat), .int .u64 (dgl (n) 1 : Nat), .int .u64 (dgl (n) 2 : Nat), .int .u64 (dgl (n) 3 : Nat), .int .u64 (dgl (n) 4 : Nat), .int .u64 (dgl (n) 5 : Nat), .int .u64 (dgl (n) 6 : Nat), .int .u64 (dgl (n) 7 : Nat)]] w fun e w' => ∃ v, e = .returned v ∧ BigV w' v n 40 ∧ Below w.heap.size w w'))
    (HWS : Hid (∀ u w, BigV w u (S) 141 → Calls Try.prog 17 #[u] w fun e w' => e = .returned (.tuple #[.agg #[.int .u64 (dgl (S) 0 : Nat), .int .u64 (dgl (S) 1 : Nat), .int .u64 (dgl (S) 2 : Nat), .int .u64 (dgl (S) 3 : Nat), .int .u64 (dgl (S) 4 : Nat), .int .u64 (dgl (S) 5 : Nat), .int .u64 (dgl (S) 6 : Nat), .int .u64 (dgl (S) 7 : Nat)], .bool b1]) ∧ Below w.heap.size w w'))
    (HPK : Hid (∀ u w, BigV w u S 141 → Calls Try.prog 62 #[u, .int .i64 (k : Nat)] w fun e w' => ∃ v, e = .returned v ∧ BigV w' v pw 1000 ∧ Below w.heap.size w w'))
    (HSB : Hid (∀ u v w, BigV w u (n) 40 → BigV w v (pw) 1000 → Calls Try.prog 24 #[u, v] w fun e w' => ∃ v', e = .returned v' ∧ BigV w' v' (r) 1000 ∧ Below w.heap.size w w'))
    (HWR : Hid (∀ u w, BigV w u (r) 1000 → Calls Try.prog 17 #[u] w fun e w' => e = .returned (.tuple #[.agg #[.int .u64 (dgl (r) 0 : Nat), .int .u64 (dgl (r) 1 : Nat), .int .u64 (dgl (r) 2 : Nat), .int .u64 (dgl (r) 3 : Nat), .int .u64 (dgl (r) 4 : Nat), .int .u64 (dgl (r) 5 : Nat), .int .u64 (dgl (r) 6 : Nat), .int .u64 (dgl (r) 7 : Nat)], .bool b2]) ∧ Below w.heap.size w w')) (w : World) :
    Calls Try.prog 33 #[.agg #[.int .u64 (dgl (n) 0 : Nat), .int .u64 (dgl (n) 1 : Nat), .int .u64 (dgl (n) 2 : Nat), .int .u64 (dgl (n) 3 : Nat), .int .u64 (dgl (n) 4 : Nat), .int .u64 (dgl (n) 5 : Nat), .int .u64 (dgl (n) 6 : Nat), .int .u64 (dgl (n) 7 : Nat)], .int .i64 (k : Nat)] w fun e w' => e = .returned (.tuple #[.agg #[.int .u64 (dgl (S) 0 : Nat), .int .u64 (dgl (S) 1 : Nat), .int .u64 (dgl (S) 2 : Nat), .int .u64 (dgl (S) 3 : Nat), .int .u64 (dgl (S) 4 : Nat), .int .u64 (dgl (S) 5 : Nat), .int .u64 (dgl (S) 6 : Nat), .int .u64 (dgl (S) 7 : Nat)], .agg #[.int .u64 (dgl (r) 0 : Nat), .int .u64 (dgl (r) 1 : Nat), .int .u64 (dgl (r) 2 : Nat), .int .u64 (dgl (r) 3 : Nat), .int .u64 (dgl (r) 4 : Nat), .int .u64 (dgl (r) 5 : Nat), .int .u64 (dgl (r) 6 : Nat), .int .u64 (dgl (r) 7 : Nat)]]) ∧ Below w.heap.size w w' := by
  have HST := hide (rroot_start n w 24 24 24)
  have HPW : Hid (∀ i : Nat, i < 131 → ∀ w, Calls Try.prog 21 #[.int .i64 (i : Nat)] w fun e w' => ∃ v, e = .returned v ∧ BigV w' v (2 ^ i) 8 ∧ Below w.heap.size w w') := fun i hi w =>
    (refPower_any i (2 ^ i) (by omega) rfl w).mono fun e w' ⟨v, e1, e2, e3⟩ => ⟨v, e1, e2.mono (by omega), e3⟩
  have HADD : Hid (∀ (a b C : Nat) u v w, C ≤ 200 → 8 ≤ C → BigV w u a C → BigV w v b 8 → Calls Try.prog 22 #[u, v] w fun e w' => ∃ v, e = .returned v ∧ BigV w' v (a + b) (C + 1) ∧ Below w.heap.size w w') := fun a b C u v w hC h8 hu hv =>
    (refAdd_any a b C 8 u v w hu hv (by omega) (by omega)).mono fun e w' ⟨v, e1, e2, e3⟩ => ⟨v, e1, e2.mono (by omega), e3⟩
  have HPO : Hid (∀ (a C : Nat) u w, C ≤ 300 → BigV w u a C → Calls Try.prog 62 #[u, .int .i64 (k : Nat)] w fun e w' => ∃ v, e = .returned v ∧ BigV w' v (a ^ k) 1000 ∧ Below w.heap.size w w') := fun a C u w hC hu =>
    (refPow_any a C k u hC hk w hu).mono fun e w' ⟨v, e1, e2, e3⟩ => ⟨v, e1, e2.mono (by omega), e3⟩
  have HCM : Hid (∀ (a : Nat) u v w, BigV w u a 1000 → BigV w v n 40 → Calls Try.prog 23 #[u, v] w fun e w' => e = .returned (.int .i64 (cmpN a n)) ∧ w' = w) := fun a u v w hu hv => cmp_any a n 1000 40 u v w hu hv
  clear hk
  go_enter Try.func33, Try.ntmps33
  have hca := HST.out.1.1
  go_wp2_with fail
  refine (HBN.out _).mono ?_
  rintro e w1 ⟨ux, rfl, hux, hb1⟩
  have HS := hide (show R2St (w.heap.size + 1) (w.heap.size + 2) 0 0 w w1 ∧ BigV w1 ux n 40 from ⟨HST.out.2.below hb1, hux⟩)
  clear HST hux hb1 hca
  go_wp2
  go_loopw [7, 8] (fun q' i wr => ∃ (c : Nat) (zi : Int) (q : Value), q = q' ∧ c ≤ 131 ∧ Hid (zi = (c : Int) - 1) ∧ i = .int .i64 zi ∧ Hid (R2St (w.heap.size + 1) (w.heap.size + 2) 0 0 w wr ∧ BigV wr ux n 40 ∧ BigV wr q (hiN S c) (141 - c)))
    (fun _ i _ => (intOf i + 1).toNat)
  case atStart =>
    have hbw := below_allocs w1 (.cells #[] 67)
    exact ⟨131, 130, _, rfl, by omega, hide rfl, rfl, ⟨HS.out.1.below (below_allocs _ _), HS.out.2.below (below_allocs _ _), by rw [HS0.out]; exact (mk0_big _ _).mono (by omega)⟩⟩
  case round =>
    clear HS
    obtain ⟨c, zi, q, rfl, hc, hzi, rfl, HS⟩ := hrel
    by_cases hz0 : 0 ≤ zi
    · obtain ⟨p, rfl⟩ : ∃ p : Nat, zi = (p : Int) := ⟨zi.toNat, by omega⟩
      obtain rfl : c = p + 1 := by have := hzi.out; omega
      have hp : p < 131 := hc
      clear hzi hc
      go_wp2_with fail
      refine (HPW.out p hp _).mono ?_
      rintro e w2 ⟨vp, rfl, hvp, hb2⟩
      replace HS := hide (show R2St (w.heap.size + 1) (w.heap.size + 2) 0 0 w w2 ∧ BigV w2 ux n 40 ∧ BigV w2 q (hiN S (p + 1)) (141 - (p + 1)) from ⟨HS.out.1.below hb2, BigV.below HS.out.2.1 hb2, BigV.below HS.out.2.2 hb2⟩)
      clear hb2
      go_wp2_with fail
      refine (HADD.out _ _ _ _ _ _ (by omega) (by omega) HS.out.2.2 hvp).mono ?_
      rintro e w3 ⟨vm, rfl, hvm, hb3⟩
      replace HS := hide (show R2St (w.heap.size + 1) (w.heap.size + 2) 0 0 w w3 ∧ BigV w3 ux n 40 ∧ BigV w3 q (hiN S (p + 1)) (141 - (p + 1)) from ⟨HS.out.1.below hb3, BigV.below HS.out.2.1 hb3, BigV.below HS.out.2.2 hb3⟩)
      clear hb3 hvp
      go_wp2_with fail
      refine (HPO.out _ _ _ _ (by omega) hvm).mono ?_
      rintro e w4 ⟨vx, rfl, hvx, hb4⟩
      replace HS := hide (show R2St (w.heap.size + 1) (w.heap.size + 2) 0 0 w w4 ∧ BigV w4 ux n 40 ∧ BigV w4 q (hiN S (p + 1)) (141 - (p + 1)) from ⟨HS.out.1.below hb4, BigV.below HS.out.2.1 hb4, BigV.below HS.out.2.2 hb4⟩)
      have HVM := hide (BigV.below hvm hb4)
      clear hb4 hvm
      go_wp2_with fail
      refine (HCM.out _ _ _ _ hvx HS.out.2.1).mono ?_
      rintro e wl ⟨rfl, hw⟩
      subst wl
      clear hvx
      have HI := hide (HIF.out p)
      have HON : Hid (S / 2 ^ p % 2 = 1 → hiN S p = hiN S (p + 1) + 2 ^ p) := hiN_on
      have HOF : Hid (S / 2 ^ p % 2 = 0 → hiN S p = hiN S (p + 1)) := hiN_off
      have HBC := hide (bitN_cases S p)
      generalize cmpN ((hiN S (p + 1) + 2 ^ p) ^ k) n = z at *
      have hw : IntKind.i64.wrap ((p : Int) - 1) = (p : Int) - 1 := by rw [IntKind.wrap_i64]; omega
      by_cases hz : z ≤ 0
      · have HE := hide (HON.out (HI.out.1 hz))
        clear HON HOF HI HBC
        go_wp2
        go_roundw
        case rel => exact ⟨p, (p : Int) - 1, _, rfl, by omega, hide rfl, rfl, ⟨HS.out.1, HS.out.2.1, by rw [HE.out]; exact HVM.out.mono (by omega)⟩⟩
        case measure => first | (simp [intOf]; done) | (simp [intOf]; omega)
      · have HE := hide (HOF.out (by rcases HBC.out with h | h; exact h; exact absurd (HI.out.2 h) hz))
        clear HON HOF HI HBC
        go_wp2
        go_roundw
        case rel => exact ⟨p, (p : Int) - 1, _, rfl, by omega, hide rfl, rfl, ⟨HS.out.1, HS.out.2.1, by rw [HE.out]; exact HS.out.2.2.mono (by omega)⟩⟩
        case measure => first | (simp [intOf]; done) | (simp [intOf]; omega)
    · obtain rfl : zi = -1 := by have := hzi.out; omega
      obtain rfl : c = 0 := by have := hzi.out; omega
      rw [hiN_zero] at HS
      clear hzi hc HS0 HIF HPW HADD HPO HCM
      go_wp2_with fail
      refine (HWS.out _ _ HS.out.2.2).mono ?_
      rintro e w2 ⟨rfl, hb2⟩
      replace HS := hide (show R2St (w.heap.size + 1) (w.heap.size + 2) 0 0 w w2 ∧ BigV w2 ux n 40 ∧ BigV w2 q S 141 from ⟨HS.out.1.below hb2, BigV.below HS.out.2.1 hb2, BigV.below HS.out.2.2 hb2⟩)
      clear hb2
      go_upto_region 10 with fail
      have hbw := below_allocs w2 (.cells #[.int .u64 (dgl (S) 0 : Nat), .int .u64 (dgl (S) 1 : Nat), .int .u64 (dgl (S) 2 : Nat), .int .u64 (dgl (S) 3 : Nat), .int .u64 (dgl (S) 4 : Nat), .int .u64 (dgl (S) 5 : Nat), .int .u64 (dgl (S) 6 : Nat), .int .u64 (dgl (S) 7 : Nat)] 24)
      refine wp_gen (fun W => (R2St (w.heap.size + 1) (w.heap.size + 2) 0 0 w W ∧ BigV W ux n 40 ∧ BigV W q S 141) ∧ LiesF W w2.heap.size (dgl S)) ⟨⟨HS.out.1.below hbw, BigV.below HS.out.2.1 hbw, BigV.below HS.out.2.2 hbw⟩, liesF_new _ _ _⟩ ?_
      have HP10 := hide HS.out.1.ly.2
      clear HS hbw
      generalize w2.heap.size = p10 at *
      rintro W3 h3
      have HS := hide h3
      clear h3
      go_wp2_with fail
      refine (HPK.out _ _ HS.out.1.2.2).mono ?_
      rintro e w4 ⟨vx, rfl, hvx, hb4⟩
      replace HS := hide (show R2St (w.heap.size + 1) (w.heap.size + 2) 0 0 w w4 ∧ BigV w4 ux n 40 ∧ LiesF w4 p10 (dgl S) from ⟨HS.out.1.1.below hb4, BigV.below HS.out.1.2.1 hb4, HS.out.2.below hb4⟩)
      clear hb4
      go_wp2_with fail
      refine (HSB.out _ _ _ HS.out.2.1 hvx).mono ?_
      rintro e w5 ⟨vr, rfl, hvr, hb5⟩
      replace HS := hide (show R2St (w.heap.size + 1) (w.heap.size + 2) 0 0 w w5 ∧ LiesF w5 p10 (dgl S) from ⟨HS.out.1.below hb5, HS.out.2.2.below hb5⟩)
      clear hb5 hvx
      go_wp2_with fail
      refine (HWR.out _ _ hvr).mono ?_
      rintro e w6 ⟨rfl, hb6⟩
      replace HS := hide (show R2St (w.heap.size + 1) (w.heap.size + 2) 0 0 w w6 ∧ LiesF w6 p10 (dgl S) from ⟨HS.out.1.below hb6, HS.out.2.below hb6⟩)
      clear hb6 hvr
      go_upto_region 11 with fail
      refine wp_gen (fun W => R2St (w.heap.size + 1) (w.heap.size + 2) 0 0 w W ∧ LiesF W p10 (dgl S) ∧ LiesF W w6.heap.size (dgl r)) ⟨HS.out.1.below (below_allocs _ _), HS.out.2.below (below_allocs _ _), liesF_new _ _ _⟩ ?_
      have HNE := hide (show w.heap.size + 2 < p10 ∧ w.heap.size + 2 < w6.heap.size from ⟨HP10.out, HS.out.1.ly.2⟩)
      clear HS HP10
      generalize w6.heap.size = p12 at *
      rintro W5 h5
      have HS5 := hide h5
      clear h5
      refine wp_region_storeK 4 [2, 3] [46, 47] (fun bs => [(46, .val (.agg #[.int .u64 (dgl (S) 0 : Nat), .int .u64 (dgl (S) 1 : Nat), .int .u64 (dgl (S) 2 : Nat), .int .u64 (dgl (S) 3 : Nat), .int .u64 (dgl (S) 4 : Nat), .int .u64 (dgl (S) 5 : Nat), .int .u64 (dgl (S) 6 : Nat), .int .u64 (dgl (S) 7 : Nat)])), (47, .val (.agg #[.int .u64 (dgl (r) 0 : Nat), .int .u64 (dgl (r) 1 : Nat), .int .u64 (dgl (r) 2 : Nat), .int .u64 (dgl (r) 3 : Nat), .int .u64 (dgl (r) 4 : Nat), .int .u64 (dgl (r) 5 : Nat), .int .u64 (dgl (r) 6 : Nat), .int .u64 (dgl (r) 7 : Nat)]))])
        (fun bs W => (∀ c e, bs.headD false = c → bs.tail.headD false = e → R2St (w.heap.size + 1) (w.heap.size + 2) (bif c then S else 0) (bif e then r else 0) w W) ∧ LiesF W p10 (dgl (S)) ∧ LiesF W p12 (dgl (r))) (fun bs => rfl) mixedOk (by kernel_rfl) (by kernel_rfl) (by kernel_rfl) (⟨fun c e hc he => by subst hc; subst he; exact (HS5.out).1.below (Below.refl _ _).drew, (HS5.out).2.1.below (Below.refl _ _).drew, (HS5.out).2.2.below (Below.refl _ _).drew⟩) (fun bs W W' h hb => ⟨fun c e hc he => (h.1 c e hc he).below hb, h.2.1.below hb, h.2.2.below hb⟩) ?_ ?_
      · refine kSt rfl (fun φ hφ => gStep_run rfl ?_) ?_
        · intro ρ W hC hc hf hL
          have e10 : ρ (.tmp 10) = .pointer (some ⟨p10, 0, none⟩) := hL 10 (by decide +kernel)
          have hl := hC.2.1.1
          simp [go_sem, hc, hf, e10, hl]
          exact ⟨Below.refl _ _, rfl⟩
        refine kSt rfl (fun φ hφ => gStep_run rfl ?_) ?_
        · intro ρ W hC hc hf hL
          have e12 : ρ (.tmp 12) = .pointer (some ⟨p12, 0, none⟩) := hL 12 (by decide +kernel)
          have hl := hC.2.2.1
          simp [go_sem, hc, hf, e12, hl]
          exact ⟨Below.refl _ _, rfl⟩
        refine kStS rfl ⟨rfl, rfl, ?_⟩ ?_
        · intro φ ρ W hφ hC hc hL
          have e4 : ρ (.tmp 4) = .pointer (some ⟨w.heap.size + 1, 0, none⟩) := hL 4 (by decide +kernel)
          have e46 : ρ (.tmp 46) = .agg #[.int .u64 (dgl (S) 0 : Nat), .int .u64 (dgl (S) 1 : Nat), .int .u64 (dgl (S) 2 : Nat), .int .u64 (dgl (S) 3 : Nat), .int .u64 (dgl (S) 4 : Nat), .int .u64 (dgl (S) 5 : Nat), .int .u64 (dgl (S) 6 : Nat), .int .u64 (dgl (S) 7 : Nat)] := hL 46 (by decide +kernel)
          have g : R2St (w.heap.size + 1) (w.heap.size + 2) 0 (bif φ 3 then r else 0) w W := hC.1 false (φ 3) (by simp [hφ]) rfl
          have hz := g.lx.1
          have hzl := g.lx.2
          have hzf := g.fx
          have hne := HNE.out
          refine gUpon_of ((((((((W.setCell ⟨w.heap.size + 1, 0, none⟩ (.int .u64 (dgl (S) 0 : Nat))).setCell ⟨w.heap.size + 1, 1, none⟩ (.int .u64 (dgl (S) 1 : Nat))).setCell ⟨w.heap.size + 1, 2, none⟩ (.int .u64 (dgl (S) 2 : Nat))).setCell ⟨w.heap.size + 1, 3, none⟩ (.int .u64 (dgl (S) 3 : Nat))).setCell ⟨w.heap.size + 1, 4, none⟩ (.int .u64 (dgl (S) 4 : Nat))).setCell ⟨w.heap.size + 1, 5, none⟩ (.int .u64 (dgl (S) 5 : Nat))).setCell ⟨w.heap.size + 1, 6, none⟩ (.int .u64 (dgl (S) 6 : Nat))).setCell ⟨w.heap.size + 1, 7, none⟩ (.int .u64 (dgl (S) 7 : Nat))) ?_ (fun _ => ?_)
          · simp [go_sem, hc, e4, e46, hz, hzl, hzf, gUpon]
          refine ⟨⟨fun c e hc he => ?_, lies_ne hC.2.1 (by omega), lies_ne hC.2.2 (by omega)⟩, fun t => ?_⟩
          · have hc1 : c = true := by rw [← hc]; simp
            have he1 : e = (φ 3) := by rw [← he]; simp
            subst hc1
            subst he1
            exact g.set1 _
          refine (tbl_imp rfl (fun _ => val_imp) (tbl_imp rfl (fun _ => val_imp) tbl_nil_imp))
        refine kStS rfl ⟨rfl, rfl, ?_⟩ ?_
        · intro φ ρ W hφ hC hc hL
          have e5 : ρ (.tmp 5) = .pointer (some ⟨w.heap.size + 2, 0, none⟩) := hL 5 (by decide +kernel)
          have e47 : ρ (.tmp 47) = .agg #[.int .u64 (dgl (r) 0 : Nat), .int .u64 (dgl (r) 1 : Nat), .int .u64 (dgl (r) 2 : Nat), .int .u64 (dgl (r) 3 : Nat), .int .u64 (dgl (r) 4 : Nat), .int .u64 (dgl (r) 5 : Nat), .int .u64 (dgl (r) 6 : Nat), .int .u64 (dgl (r) 7 : Nat)] := hL 47 (by decide +kernel)
          have g : R2St (w.heap.size + 1) (w.heap.size + 2) (bif φ 2 then S else 0) 0 w W := hC.1 (φ 2) false rfl (by simp [hφ])
          have hz := g.ly.1
          have hzl := g.ly.2
          have hzf := g.fy
          have hne := HNE.out
          refine gUpon_of ((((((((W.setCell ⟨w.heap.size + 2, 0, none⟩ (.int .u64 (dgl (r) 0 : Nat))).setCell ⟨w.heap.size + 2, 1, none⟩ (.int .u64 (dgl (r) 1 : Nat))).setCell ⟨w.heap.size + 2, 2, none⟩ (.int .u64 (dgl (r) 2 : Nat))).setCell ⟨w.heap.size + 2, 3, none⟩ (.int .u64 (dgl (r) 3 : Nat))).setCell ⟨w.heap.size + 2, 4, none⟩ (.int .u64 (dgl (r) 4 : Nat))).setCell ⟨w.heap.size + 2, 5, none⟩ (.int .u64 (dgl (r) 5 : Nat))).setCell ⟨w.heap.size + 2, 6, none⟩ (.int .u64 (dgl (r) 6 : Nat))).setCell ⟨w.heap.size + 2, 7, none⟩ (.int .u64 (dgl (r) 7 : Nat))) ?_ (fun _ => ?_)
          · simp [go_sem, hc, e5, e47, hz, hzl, hzf, gUpon]
          refine ⟨⟨fun c e hc he => ?_, lies_ne hC.2.1 (by omega), lies_ne hC.2.2 (by omega)⟩, fun t => ?_⟩
          · have hc1 : c = (φ 2) := by rw [← hc]; simp
            have he1 : e = true := by rw [← he]; simp
            subst hc1
            subst he1
            exact g.set2 _
          refine (tbl_imp rfl (fun _ => val_imp) (tbl_imp rfl (fun _ => val_imp) tbl_nil_imp))
        exact kSt0
      · intro W hC
        refine gFi 46 rfl ?_
        rintro _ rfl
        refine gFi 47 rfl ?_
        rintro _ rfl
        refine gFiN rfl ?_
        refine gFiN rfl ?_
        refine gFi0 ?_
        simp only [List.drop_succ_cons, List.drop_zero, Act.put, List.setIfInBounds_toArray, List.set_cons_succ, List.set_cons_zero]
        have HS := hide (hC.1 true true rfl rfl)
        clear hC
        have hr1 := HS.out.lx.1
        have hrl1 := HS.out.lx.2
        have hrf1 := HS.out.fx
        have hr2 := HS.out.ly.1
        have hrl2 := HS.out.ly.2
        have hrf2 := HS.out.fy
        have HBE := hide HS.out.bel
        have HO1 := hide HS.out.o1
        have HO2 := hide HS.out.o2
        clear HS
        go_wp2
        exact bodyPost_ret (v := .tuple #[.agg #[.int .u64 (dgl (S) 0 : Nat), .int .u64 (dgl (S) 1 : Nat), .int .u64 (dgl (S) 2 : Nat), .int .u64 (dgl (S) 3 : Nat), .int .u64 (dgl (S) 4 : Nat), .int .u64 (dgl (S) 5 : Nat), .int .u64 (dgl (S) 6 : Nat), .int .u64 (dgl (S) 7 : Nat)], .agg #[.int .u64 (dgl (r) 0 : Nat), .int .u64 (dgl (r) 1 : Nat), .int .u64 (dgl (r) 2 : Nat), .int .u64 (dgl (r) 3 : Nat), .int .u64 (dgl (r) 4 : Nat), .int .u64 (dgl (r) 5 : Nat), .int .u64 (dgl (r) 6 : Nat), .int .u64 (dgl (r) 7 : Nat)]]) (by simp [results, Try.results33, go_sem, hr1, hrl1, hr2, hrl2]) rfl ⟨rfl, HBE.out⟩
  

theorem refRoot_any (n k S : Nat) (hn : n < QQ) (hk0 : 0 < k) (hk : k ≤ 3) (hs : ∀ y, y ^ k ≤ n ↔ y ≤ S) (hS : S < 2 ^ 131) (w : World) :
    Calls Try.prog 33 #[.agg #[.int .u64 (dgl (n) 0 : Nat), .int .u64 (dgl (n) 1 : Nat), .int .u64 (dgl (n) 2 : Nat), .int .u64 (dgl (n) 3 : Nat), .int .u64 (dgl (n) 4 : Nat), .int .u64 (dgl (n) 5 : Nat), .int .u64 (dgl (n) 6 : Nat), .int .u64 (dgl (n) 7 : Nat)], .int .i64 (k : Nat)] w fun e w' => e = .returned (.tuple #[.agg #[.int .u64 (dgl (S) 0 : Nat), .int .u64 (dgl (S) 1 : Nat), .int .u64 (dgl (S) 2 : Nat), .int .u64 (dgl (S) 3 : Nat), .int .u64 (dgl (S) 4 : Nat), .int .u64 (dgl (S) 5 : Nat), .int .u64 (dgl (S) 6 : Nat), .int .u64 (dgl (S) 7 : Nat)], .agg #[.int .u64 (dgl (n - S ^ k) 0 : Nat), .int .u64 (dgl (n - S ^ k) 1 : Nat), .int .u64 (dgl (n - S ^ k) 2 : Nat), .int .u64 (dgl (n - S ^ k) 3 : Nat), .int .u64 (dgl (n - S ^ k) 4 : Nat), .int .u64 (dgl (n - S ^ k) 5 : Nat), .int .u64 (dgl (n - S ^ k) 6 : Nat), .int .u64 (dgl (n - S ^ k) 7 : Nat)]]) ∧ Below w.heap.size w w' := by
  have hle : S ^ k ≤ n := (hs S).2 (Nat.le_refl _)
  refine rroot_walk n k S (S ^ k) (n - S ^ k) hk (decide (QQ ≤ S)) (decide (QQ ≤ n - S ^ k)) (hiN_top hS) ?_ (fun w => refBig_any n hn w) (fun u w hu => refWide_any S 141 u w hu)
    (fun u w hu => (refPow_any S 141 k u (by decide) hk w hu).mono fun e w' ⟨v, e1, e2, e3⟩ => ⟨v, e1, e2.mono (by decide), e3⟩)
    (fun u v w hu hv => (refSub_any n (S ^ k) 40 1000 u v w hu hv (by decide) hle).mono fun e w' ⟨v', e1, e2, e3⟩ => ⟨v', e1, e2.mono (by decide), e3⟩) (fun u w hu => refWide_any (n - S ^ k) 1000 u w hu) w
  intro c
  rw [← root_iff hs]
  unfold cmpN
  split
  · omega
  · split <;> omega

end Go.Proofs.Ytbngaajhdaciaaa

