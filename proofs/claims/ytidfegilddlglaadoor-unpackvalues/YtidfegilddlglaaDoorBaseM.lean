/- Contracts and laws: ProdC, ProdD, ProdE, GrowP. -/
import Derived.Test.YtidfegilddlglaaDoorBaseL
import Derived.Test.YtidfegilddlglaaDoorBaseI
/- Contracts: prod.halves, prod.all. -/
set_option linter.unusedVariables false
set_option linter.unusedSimpArgs false
set_option maxRecDepth 8000
namespace Go.Proofs.YtidfegilddlglaaDoor
open Go.RowKit Plain

/-- Sixteen limbs lie in a block. -/
def Lies16 (W : World) (b S : Nat) : Prop := (∀ i, i < 16 → W.cell? ⟨b, i, none⟩ = some (.int .u64 (dgl S i : Nat))) ∧ b < W.heap.size
theorem Lies16.below {W W' : World} {b S : Nat} (h : Lies16 W b S) (hb : Below W.heap.size W W') : Lies16 W' b S :=
  ⟨fun i hi => (hb.cell (p := ⟨b, i, none⟩) h.2).trans (h.1 i hi), Nat.lt_of_lt_of_le h.2 hb.size⟩
theorem lies16_new (w : World) (S : Nat) (e : TypeId) : Lies16 (w.alloc (.cells #[.int .u64 (dgl (S) 0 : Nat), .int .u64 (dgl (S) 1 : Nat), .int .u64 (dgl (S) 2 : Nat), .int .u64 (dgl (S) 3 : Nat), .int .u64 (dgl (S) 4 : Nat), .int .u64 (dgl (S) 5 : Nat), .int .u64 (dgl (S) 6 : Nat), .int .u64 (dgl (S) 7 : Nat), .int .u64 (dgl (S) 8 : Nat), .int .u64 (dgl (S) 9 : Nat), .int .u64 (dgl (S) 10 : Nat), .int .u64 (dgl (S) 11 : Nat), .int .u64 (dgl (S) 12 : Nat), .int .u64 (dgl (S) 13 : Nat), .int .u64 (dgl (S) 14 : Nat), .int .u64 (dgl (S) 15 : Nat)] e)) w.heap.size S := by
  refine ⟨fun i hi => ?_, by simp⟩
  match i, hi with
  | 0, _ => simp [go_sem]
  | 1, _ => simp [go_sem]
  | 2, _ => simp [go_sem]
  | 3, _ => simp [go_sem]
  | 4, _ => simp [go_sem]
  | 5, _ => simp [go_sem]
  | 6, _ => simp [go_sem]
  | 7, _ => simp [go_sem]
  | 8, _ => simp [go_sem]
  | 9, _ => simp [go_sem]
  | 10, _ => simp [go_sem]
  | 11, _ => simp [go_sem]
  | 12, _ => simp [go_sem]
  | 13, _ => simp [go_sem]
  | 14, _ => simp [go_sem]
  | 15, _ => simp [go_sem]
  | n + 16, h => omega

theorem rd_low {W : World} {b S : Nat} (h : Lies16 W b S) : Rd mk64 W (.slice (some ⟨b, 0, none⟩) 8 16) ((List.range 8).map (dgl S)) := by
  refine ⟨_, 16, by simp, by simp, by simp [maxLen], .inr ⟨b, 0, rfl, h.2, fun i hi => ?_⟩⟩
  have hi8 : i < 8 := by simpa using hi
  rw [Nat.zero_add, h.1 i (by omega)]
  have : dg ((List.range 8).map (dgl S)) i = dgl S i := by simp [dg, hi8]
  rw [this]; rfl
theorem rd_part {W : World} {b S p : Nat} (h : Lies16 W b S) (hp : p ≤ 16) : Rd mk64 W (.slice (some ⟨b, p, none⟩) (16 - p : Nat) (16 - p : Nat)) ((List.range (16 - p)).map fun i => dgl S (p + i)) := by
  refine ⟨some ⟨b, p, none⟩, 16 - p, by simp, by simp, by simp [maxLen]; omega, ?_⟩
  by_cases h0 : p = 16
  · exact .inl (by simp; omega)
  refine .inr ⟨b, p, rfl, h.2, fun i hi => ?_⟩
  have hi8 : i < 16 - p := by simpa using hi
  rw [h.1 (p + i) (by omega)]
  have : dg ((List.range (16 - p)).map fun i => dgl S (p + i)) i = dgl S (p + i) := by simp [dg, hi8]
  rw [this]; rfl
theorem of_low (S b : Nat) (W : World) (h : Lies16 W b S) : Calls Tryd.prog 70 #[.slice (some ⟨b, 0, none⟩) 8 16] W fun e w' => e = .returned (.agg #[.int .u64 (dgl (S) 0 : Nat), .int .u64 (dgl (S) 1 : Nat), .int .u64 (dgl (S) 2 : Nat), .int .u64 (dgl (S) 3 : Nat), .int .u64 (dgl (S) 4 : Nat), .int .u64 (dgl (S) 5 : Nat), .int .u64 (dgl (S) 6 : Nat), .int .u64 (dgl (S) 7 : Nat)]) ∧ Below W.heap.size W w' :=
  wideOf_any _ S _ W (rd_low h) (fun i hi => by simp [dg, hi])
theorem of_high (S b : Nat) (W : World) (h : Lies16 W b S) : Calls Tryd.prog 70 #[.slice (some ⟨b, 8, none⟩) 8 8] W fun e w' => e = .returned (.agg #[.int .u64 (dgl (S / QQ) 0 : Nat), .int .u64 (dgl (S / QQ) 1 : Nat), .int .u64 (dgl (S / QQ) 2 : Nat), .int .u64 (dgl (S / QQ) 3 : Nat), .int .u64 (dgl (S / QQ) 4 : Nat), .int .u64 (dgl (S / QQ) 5 : Nat), .int .u64 (dgl (S / QQ) 6 : Nat), .int .u64 (dgl (S / QQ) 7 : Nat)]) ∧ Below W.heap.size W w' :=
  wideOf_any _ (S / QQ) _ W (rd_part (p := 8) h (by omega)) (fun i hi => by rw [← dgl_high]; simp [dg, hi])

structure HalfSt (w : World) (S : Nat) (f1 f2 : Nat → Nat) (W : World) : Prop where
  lp : Lies16 W w.heap.size S
  l1 : LiesF W (w.heap.size + 1) f1
  f1 : ∀ i, W.frozen? ⟨w.heap.size + 1, i, none⟩ = false
  l2 : LiesF W (w.heap.size + 2) f2
  f2 : ∀ i, W.frozen? ⟨w.heap.size + 2, i, none⟩ = false
  bel : Below w.heap.size w W
theorem HalfSt.below {w : World} {S : Nat} {f1 f2 : Nat → Nat} {W W' : World} (h : HalfSt w S f1 f2 W) (hb : Below W.heap.size W W') : HalfSt w S f1 f2 W' :=
  ⟨h.lp.below hb, h.l1.below hb, fun i => (hb.frozen (p := ⟨w.heap.size + 1, i, none⟩) h.l1.2).trans (h.f1 i), h.l2.below hb, fun i => (hb.frozen (p := ⟨w.heap.size + 2, i, none⟩) h.l2.2).trans (h.f2 i), below_trans h.bel hb⟩
theorem lies_ne {W : World} {b B : Nat} {f : Nat → Nat} {x0 x1 x2 x3 x4 x5 x6 x7 : Value} (h : LiesF W b f) (hne : b ≠ B) : LiesF ((((((((W.setCell ⟨B, 0, none⟩ x0).setCell ⟨B, 1, none⟩ x1).setCell ⟨B, 2, none⟩ x2).setCell ⟨B, 3, none⟩ x3).setCell ⟨B, 4, none⟩ x4).setCell ⟨B, 5, none⟩ x5).setCell ⟨B, 6, none⟩ x6).setCell ⟨B, 7, none⟩ x7) b f := by
  refine ⟨fun i hi => ?_, by simpa using h.2⟩
  have := h.1 i hi
  simp [go_sem, this, hne]
theorem lies16_ne {W : World} {b B S : Nat} {x0 x1 x2 x3 x4 x5 x6 x7 : Value} (h : Lies16 W b S) (hne : b ≠ B) : Lies16 ((((((((W.setCell ⟨B, 0, none⟩ x0).setCell ⟨B, 1, none⟩ x1).setCell ⟨B, 2, none⟩ x2).setCell ⟨B, 3, none⟩ x3).setCell ⟨B, 4, none⟩ x4).setCell ⟨B, 5, none⟩ x5).setCell ⟨B, 6, none⟩ x6).setCell ⟨B, 7, none⟩ x7) b S := by
  refine ⟨fun i hi => ?_, by simpa using h.2⟩
  have := h.1 i hi
  simp [go_sem, this, hne]
theorem HalfSt.set1 {w : World} {S : Nat} {f1 f2 g : Nat → Nat} {W : World} (h : HalfSt w S f1 f2 W) : HalfSt w S g f2 ((((((((W.setCell ⟨w.heap.size + 1, 0, none⟩ (.int .u64 (g 0 : Nat))).setCell ⟨w.heap.size + 1, 1, none⟩ (.int .u64 (g 1 : Nat))).setCell ⟨w.heap.size + 1, 2, none⟩ (.int .u64 (g 2 : Nat))).setCell ⟨w.heap.size + 1, 3, none⟩ (.int .u64 (g 3 : Nat))).setCell ⟨w.heap.size + 1, 4, none⟩ (.int .u64 (g 4 : Nat))).setCell ⟨w.heap.size + 1, 5, none⟩ (.int .u64 (g 5 : Nat))).setCell ⟨w.heap.size + 1, 6, none⟩ (.int .u64 (g 6 : Nat))).setCell ⟨w.heap.size + 1, 7, none⟩ (.int .u64 (g 7 : Nat))) :=
  ⟨lies16_ne h.lp (by omega), set8_same W _ g f1 h.l1, fun i => by simpa [go_sem] using h.f1 i, lies_ne h.l2 (by omega), fun i => by simpa [go_sem] using h.f2 i, below_set8 h.bel _ (by omega) _ _ _ _ _ _ _ _⟩
theorem HalfSt.set2 {w : World} {S : Nat} {f1 f2 g : Nat → Nat} {W : World} (h : HalfSt w S f1 f2 W) : HalfSt w S f1 g ((((((((W.setCell ⟨w.heap.size + 2, 0, none⟩ (.int .u64 (g 0 : Nat))).setCell ⟨w.heap.size + 2, 1, none⟩ (.int .u64 (g 1 : Nat))).setCell ⟨w.heap.size + 2, 2, none⟩ (.int .u64 (g 2 : Nat))).setCell ⟨w.heap.size + 2, 3, none⟩ (.int .u64 (g 3 : Nat))).setCell ⟨w.heap.size + 2, 4, none⟩ (.int .u64 (g 4 : Nat))).setCell ⟨w.heap.size + 2, 5, none⟩ (.int .u64 (g 5 : Nat))).setCell ⟨w.heap.size + 2, 6, none⟩ (.int .u64 (g 6 : Nat))).setCell ⟨w.heap.size + 2, 7, none⟩ (.int .u64 (g 7 : Nat))) :=
  ⟨lies16_ne h.lp (by omega), lies_ne h.l1 (by omega), fun i => by simpa [go_sem] using h.f1 i, set8_same W _ g f2 h.l2, fun i => by simpa [go_sem] using h.f2 i, below_set8 h.bel _ (by omega) _ _ _ _ _ _ _ _⟩
end Go.Proofs.YtidfegilddlglaaDoor

/- Contracts: prod.Mul, Square, Small. -/
set_option linter.unusedVariables false
set_option linter.unusedSimpArgs false
set_option maxRecDepth 8000
namespace Go.Proofs.YtidfegilddlglaaDoor
open Go.RowKit Plain

/-- The result's block, and that nothing below has changed. -/
structure ResSt (w : World) (r : Nat) (f : Nat → Nat) (W : World) : Prop where
  lr : LiesF W r f
  fr : ∀ i, W.frozen? ⟨r, i, none⟩ = false
  bel : Below w.heap.size w W
theorem ResSt.below {w : World} {r : Nat} {f : Nat → Nat} {W W' : World} (h : ResSt w r f W) (hb : Below W.heap.size W W') : ResSt w r f W' :=
  ⟨h.lr.below hb, fun i => (hb.frozen (p := ⟨r, i, none⟩) h.lr.2).trans (h.fr i), below_trans h.bel hb⟩
theorem ResSt.set8 {w : World} {r : Nat} {f g : Nat → Nat} {W : World} (h : ResSt w r f W) (hr : w.heap.size ≤ r) : ResSt w r g ((((((((W.setCell ⟨r, 0, none⟩ (.int .u64 (g 0 : Nat))).setCell ⟨r, 1, none⟩ (.int .u64 (g 1 : Nat))).setCell ⟨r, 2, none⟩ (.int .u64 (g 2 : Nat))).setCell ⟨r, 3, none⟩ (.int .u64 (g 3 : Nat))).setCell ⟨r, 4, none⟩ (.int .u64 (g 4 : Nat))).setCell ⟨r, 5, none⟩ (.int .u64 (g 5 : Nat))).setCell ⟨r, 6, none⟩ (.int .u64 (g 6 : Nat))).setCell ⟨r, 7, none⟩ (.int .u64 (g 7 : Nat))) :=
  ⟨set8_same W r g f h.lr, fun i => by simpa [go_sem] using h.fr i, below_set8 h.bel _ hr _ _ _ _ _ _ _ _⟩

theorem dgl_z : (dgl 0) = fun _ => 0 := funext dgl_zero
theorem wide_eqz {a : Nat} (ha : a < QQ) (w : World) : (Op.equalIn 10000 28 (.agg #[.int .u64 (dgl (a) 0 : Nat), .int .u64 (dgl (a) 1 : Nat), .int .u64 (dgl (a) 2 : Nat), .int .u64 (dgl (a) 3 : Nat), .int .u64 (dgl (a) 4 : Nat), .int .u64 (dgl (a) 5 : Nat), .int .u64 (dgl (a) 6 : Nat), .int .u64 (dgl (a) 7 : Nat)]) (.agg #[.int .u64 0, .int .u64 0, .int .u64 0, .int .u64 0, .int .u64 0, .int .u64 0, .int .u64 0, .int .u64 0])).run Tryd.prog w = .ok (decide (a = 0)) w := by
  have h := wide_eqb ha (show 0 < QQ by omega) w
  simp only [dgl_zero] at h
  exact h
theorem qq_mul_lt {a b : Nat} (ha : a < QQ) (hb : b < QQ) : a * b / QQ < QQ := by
  have h : a * b < QQ * QQ := Nat.mul_lt_mul_of_lt_of_lt ha hb
  exact Nat.div_lt_of_lt_mul h
end Go.Proofs.YtidfegilddlglaaDoor

/- Contracts: prod.Square, Small, Sum. -/
set_option linter.unusedVariables false
set_option linter.unusedSimpArgs false
set_option maxRecDepth 8000
namespace Go.Proofs.YtidfegilddlglaaDoor
open Go.RowKit Plain

def SlotIs.rd (l : List Nat) : SlotIs := ⟨fun v w => Rd mk64 w v l, fun v w w' hb h => h.below hb⟩

theorem ll_lt_qq {n : Nat} (h : n < 18446744073709551616) : n < QQ := Nat.lt_of_lt_of_le h (by unfold QQ; exact Nat.le_self_pow (by decide) _)

/-- A slice of wides. -/
def RdW (w : World) (v : Value) (l : List Nat) : Prop :=
  ∃ ao cap, v = .slice ao l.length cap ∧ l.length ≤ cap ∧ cap ≤ maxLen ∧
    (l.length = 0 ∨ ∃ b off, ao = some ⟨b, off, none⟩ ∧ b < w.heap.size ∧ ∀ i j, i < l.length → j < 8 → w.cell? ⟨b, off + i * 8 + j, none⟩ = some (.int .u64 (dgl (dg l i) j : Nat)))
def sumN (l : List Nat) : Nat → Nat
  | 0 => 0
  | k + 1 => sumN l k + dg l k

structure SumLSt (w : World) (s : Nat) (wr : World) : Prop where
  lr : LiesF wr w.heap.size (fun _ => 0)
  fr : ∀ i, wr.frozen? ⟨w.heap.size, i, none⟩ = false
  ls : LiesF wr (w.heap.size + 1) (dgl s)
  fs : ∀ i, wr.frozen? ⟨w.heap.size + 1, i, none⟩ = false
  bel : Below w.heap.size w wr
theorem SumLSt.below {w : World} {s : Nat} {W W' : World} (h : SumLSt w s W) (hb : Below W.heap.size W W') : SumLSt w s W' :=
  ⟨h.lr.below hb, fun i => (hb.frozen (p := ⟨w.heap.size, i, none⟩) h.lr.2).trans (h.fr i), h.ls.below hb, fun i => (hb.frozen (p := ⟨w.heap.size + 1, i, none⟩) h.ls.2).trans (h.fs i), below_trans h.bel hb⟩
theorem SumLSt.set8 {w : World} {s t : Nat} {W : World} (h : SumLSt w s W) : SumLSt w t (((((((((W.setCell ⟨w.heap.size + 1, 0, none⟩ (.int .u64 (dgl t 0 : Nat))).setCell ⟨w.heap.size + 1, 1, none⟩ (.int .u64 (dgl t 1 : Nat))).setCell ⟨w.heap.size + 1, 2, none⟩ (.int .u64 (dgl t 2 : Nat))).setCell ⟨w.heap.size + 1, 3, none⟩ (.int .u64 (dgl t 3 : Nat))).setCell ⟨w.heap.size + 1, 4, none⟩ (.int .u64 (dgl t 4 : Nat))).setCell ⟨w.heap.size + 1, 5, none⟩ (.int .u64 (dgl t 5 : Nat))).setCell ⟨w.heap.size + 1, 6, none⟩ (.int .u64 (dgl t 6 : Nat))).setCell ⟨w.heap.size + 1, 7, none⟩ (.int .u64 (dgl t 7 : Nat)))) :=
  ⟨lies_ne h.lr (by omega), fun i => by simpa [go_sem] using h.fr i, set8_same W _ (dgl t) (dgl s) h.ls, fun i => by simpa [go_sem] using h.fs i, below_set8 h.bel _ (by omega) _ _ _ _ _ _ _ _⟩

end Go.Proofs.YtidfegilddlglaaDoor

/- Picks whose constant stands first; slices of wides across stores. -/
set_option linter.unusedVariables false
set_option linter.unusedSimpArgs false
set_option maxRecDepth 8000
namespace Go.Proofs.YtidfegilddlglaaDoor
open Go.RowKit Plain

section
variable {ops : Array Oper} {a : Act} {T : List (Nat × SlotIs)} {C : World → Prop} {o : Oper}
theorem gRun_pickCT {looks : List Tmp} (c d : Tmp) (x : Value) (y : Operand) (ho : o.op = .pick (.tmp c) (.const x) y) (hd : o.dst = some d) (hcm : c ∈ looks)
    (hT : ∀ v w, tbl a c T v w → v = .bool true) (h : ∀ w, tbl a d T x w) : gRun a T C o looks := by
  intro ρ w hC hc hf hL
  have hr : (execOp ρ o).run Tryd.prog w = .ok (.value x) w := by
    obtain ⟨dst, op, type, pos, after, guard⟩ := o
    simp only at ho; subst ho
    have := hT _ _ (hL c hcm)
    simp [execOp, this, go_sem, hc]
  rw [hr]
  refine ⟨Below.refl _ _, ?_⟩
  rw [hd]
  exact h _
theorem gRun_pickCF {looks : List Tmp} (c y d : Tmp) (x : Operand) (ho : o.op = .pick (.tmp c) x (.tmp y)) (hd : o.dst = some d) (hcm : c ∈ looks) (hym : y ∈ looks)
    (hT : ∀ v w, tbl a c T v w → v = .bool false) (h : ∀ v w, tbl a y T v w → tbl a d T v w) : gRun a T C o looks := by
  intro ρ w hC hc hf hL
  have hr : (execOp ρ o).run Tryd.prog w = .ok (.value (ρ (.tmp y))) w := by
    obtain ⟨dst, op, type, pos, after, guard⟩ := o
    simp only at ho; subst ho
    have := hT _ _ (hL c hcm)
    simp [execOp, this, go_sem]
  rw [hr]
  refine ⟨Below.refl _ _, ?_⟩
  rw [hd]
  exact h _ _ (hL y hym)
end

/-- Only the block r may have changed. -/
def OnlyAt (r : Nat) (w w' : World) : Prop := w.heap.size ≤ w'.heap.size ∧ ∀ b i, b ≠ r → w'.cell? ⟨b, i, none⟩ = w.cell? ⟨b, i, none⟩
theorem onlyAt_set8 (W : World) (r : Nat) (x0 x1 x2 x3 x4 x5 x6 x7 : Value) : OnlyAt r W ((((((((W.setCell ⟨r, 0, none⟩ x0).setCell ⟨r, 1, none⟩ x1).setCell ⟨r, 2, none⟩ x2).setCell ⟨r, 3, none⟩ x3).setCell ⟨r, 4, none⟩ x4).setCell ⟨r, 5, none⟩ x5).setCell ⟨r, 6, none⟩ x6).setCell ⟨r, 7, none⟩ x7) :=
  ⟨by simp, fun b i hne => by simp [go_sem, hne]⟩

/-- A slice of wides of the call's own. -/
def SlotIs.wides (r : Nat) (l : List Nat) : SlotIs :=
  ⟨fun v w => ∃ b, v = .slice (some ⟨b, 0, none⟩) l.length l.length ∧ r < b ∧ b < w.heap.size ∧ ∀ i j, i < l.length → j < 8 → w.cell? ⟨b, i * 8 + j, none⟩ = some (.int .u64 (dgl (dg l i) j : Nat)),
   fun v w w' hb ⟨b, h1, h2, h3, h4⟩ => ⟨b, h1, h2, Nat.lt_of_lt_of_le h3 hb.size, fun i j hi hj => (hb.cell (p := ⟨b, i * 8 + j, none⟩) h3).trans (h4 i j hi hj)⟩⟩
theorem wides_keep {r : Nat} {l : List Nat} {v : Value} {w w' : World} (hg : OnlyAt r w w') (h : (SlotIs.wides r l).R v w) : (SlotIs.wides r l).R v w' := by
  obtain ⟨b, h1, h2, h3, h4⟩ := h
  exact ⟨b, h1, h2, Nat.lt_of_lt_of_le h3 hg.1, fun i j hi hj => (hg.2 b _ (by omega)).trans (h4 i j hi hj)⟩
theorem wides_rd {r : Nat} {l : List Nat} {v : Value} {w : World} (hl : l.length ≤ 1000) (h : (SlotIs.wides r l).R v w) : RdW w v l := by
  obtain ⟨b, h1, h2, h3, h4⟩ := h
  exact ⟨some ⟨b, 0, none⟩, l.length, h1, Nat.le_refl _, by unfold maxLen; omega, .inr ⟨b, 0, rfl, h3, fun i j hi hj => by rw [Nat.zero_add]; exact h4 i j hi hj⟩⟩
theorem wides2_new (W : World) (q s : Nat) (e : TypeId) (i j : Nat) (hi : i < 2) (hj : j < 8) :
    (W.alloc (.cells #[.int .u64 (dgl q 0 : Nat), .int .u64 (dgl q 1 : Nat), .int .u64 (dgl q 2 : Nat), .int .u64 (dgl q 3 : Nat), .int .u64 (dgl q 4 : Nat), .int .u64 (dgl q 5 : Nat), .int .u64 (dgl q 6 : Nat), .int .u64 (dgl q 7 : Nat), .int .u64 (dgl s 0 : Nat), .int .u64 (dgl s 1 : Nat), .int .u64 (dgl s 2 : Nat), .int .u64 (dgl s 3 : Nat), .int .u64 (dgl s 4 : Nat), .int .u64 (dgl s 5 : Nat), .int .u64 (dgl s 6 : Nat), .int .u64 (dgl s 7 : Nat)] e)).cell? ⟨W.heap.size, i * 8 + j, none⟩ = some (.int .u64 (dgl (dg [q, s] i) j : Nat)) := by
  rcases (show i = 0 ∨ i = 1 by omega) with rfl | rfl <;>
  rcases (show j = 0 ∨ j = 1 ∨ j = 2 ∨ j = 3 ∨ j = 4 ∨ j = 5 ∨ j = 6 ∨ j = 7 by omega) with rfl | rfl | rfl | rfl | rfl | rfl | rfl | rfl <;>
  simp [go_sem, dg]

end Go.Proofs.YtidfegilddlglaaDoor

