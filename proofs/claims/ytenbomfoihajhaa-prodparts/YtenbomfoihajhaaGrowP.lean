/- Picks whose constant stands first; slices of wides across stores. -/
import Derived.Test.YtenbomfoihajhaaGrowG
import Derived.Test.YtenbomfoihajhaaProdE
set_option linter.unusedVariables false
set_option linter.unusedSimpArgs false
set_option maxRecDepth 8000
namespace Go.Proofs.Ytenbomfoihajhaa
open Go.RowKit Plain

section
variable {ops : Array Oper} {a : Act} {T : List (Nat × SlotIs)} {C : World → Prop} {o : Oper}
theorem gRun_pickCT {looks : List Tmp} (c d : Tmp) (x : Value) (y : Operand) (ho : o.op = .pick (.tmp c) (.const x) y) (hd : o.dst = some d) (hcm : c ∈ looks)
    (hT : ∀ v w, tbl a c T v w → v = .bool true) (h : ∀ w, tbl a d T x w) : gRun a T C o looks := by
  intro ρ w hC hc hf hL
  have hr : (execOp ρ o).run Try.prog w = .ok (.value x) w := by
    obtain ⟨dst, op, type, pos, after, guard⟩ := o
    simp only at ho; subst ho
    have := hT _ _ (hL c hcm)
    simp [execOp, this, go_sem, hc]
  rw [hr]
  refine ⟨Below.refl _ _, ?_⟩
  rw [hd]
  exact h _
theorem gRun_pickCF {looks : List Tmp} (c y d : Tmp) (x : Operand) (ho : o.op = .pick (.tmp c) x (.tmp y)) (hd : o.dst = some d) (hcm : c ∈ looks) (hym : y ∈ looks)
    (hT : ∀ v w, tbl a c T v w → v = .bool false) (h : ∀ v w, tbl a y T v w → tbl a d T v w) : gRun a T C o looks := by
  intro ρ w hC hc hf hL
  have hr : (execOp ρ o).run Try.prog w = .ok (.value (ρ (.tmp y))) w := by
    obtain ⟨dst, op, type, pos, after, guard⟩ := o
    simp only at ho; subst ho
    have := hT _ _ (hL c hcm)
    simp [execOp, this, go_sem]
  rw [hr]
  refine ⟨Below.refl _ _, ?_⟩
  rw [hd]
  exact h _ _ (hL y hym)
end

/-- Only the block r may have changed. -/
def OnlyAt (r : Nat) (w w' : World) : Prop := w.heap.size ≤ w'.heap.size ∧ ∀ b i, b ≠ r → w'.cell? ⟨b, i, none⟩ = w.cell? ⟨b, i, none⟩
theorem onlyAt_set8 (W : World) (r : Nat) (x0 x1 x2 x3 x4 x5 x6 x7 : Value) : OnlyAt r W ((((((((W.setCell ⟨r, 0, none⟩ x0).setCell ⟨r, 1, none⟩ x1).setCell ⟨r, 2, none⟩ x2).setCell ⟨r, 3, none⟩ x3).setCell ⟨r, 4, none⟩ x4).setCell ⟨r, 5, none⟩ x5).setCell ⟨r, 6, none⟩ x6).setCell ⟨r, 7, none⟩ x7) :=
  ⟨by simp, fun b i hne => by simp [go_sem, hne]⟩

/-- A slice of wides of the call's own. -/
def SlotIs.wides (r : Nat) (l : List Nat) : SlotIs :=
  ⟨fun v w => ∃ b, v = .slice (some ⟨b, 0, none⟩) l.length l.length ∧ r < b ∧ b < w.heap.size ∧ ∀ i j, i < l.length → j < 8 → w.cell? ⟨b, i * 8 + j, none⟩ = some (.int .u64 (dgl (dg l i) j : Nat)),
   fun v w w' hb ⟨b, h1, h2, h3, h4⟩ => ⟨b, h1, h2, Nat.lt_of_lt_of_le h3 hb.size, fun i j hi hj => (hb.cell (p := ⟨b, i * 8 + j, none⟩) h3).trans (h4 i j hi hj)⟩⟩
theorem wides_keep {r : Nat} {l : List Nat} {v : Value} {w w' : World} (hg : OnlyAt r w w') (h : (SlotIs.wides r l).R v w) : (SlotIs.wides r l).R v w' := by
  obtain ⟨b, h1, h2, h3, h4⟩ := h
  exact ⟨b, h1, h2, Nat.lt_of_lt_of_le h3 hg.1, fun i j hi hj => (hg.2 b _ (by omega)).trans (h4 i j hi hj)⟩
theorem wides_rd {r : Nat} {l : List Nat} {v : Value} {w : World} (hl : l.length ≤ 1000) (h : (SlotIs.wides r l).R v w) : RdW w v l := by
  obtain ⟨b, h1, h2, h3, h4⟩ := h
  exact ⟨some ⟨b, 0, none⟩, l.length, h1, Nat.le_refl _, by unfold maxLen; omega, .inr ⟨b, 0, rfl, h3, fun i j hi hj => by rw [Nat.zero_add]; exact h4 i j hi hj⟩⟩
theorem wides2_new (W : World) (q s : Nat) (e : TypeId) (i j : Nat) (hi : i < 2) (hj : j < 8) :
    (W.alloc (.cells #[.int .u64 (dgl q 0 : Nat), .int .u64 (dgl q 1 : Nat), .int .u64 (dgl q 2 : Nat), .int .u64 (dgl q 3 : Nat), .int .u64 (dgl q 4 : Nat), .int .u64 (dgl q 5 : Nat), .int .u64 (dgl q 6 : Nat), .int .u64 (dgl q 7 : Nat), .int .u64 (dgl s 0 : Nat), .int .u64 (dgl s 1 : Nat), .int .u64 (dgl s 2 : Nat), .int .u64 (dgl s 3 : Nat), .int .u64 (dgl s 4 : Nat), .int .u64 (dgl s 5 : Nat), .int .u64 (dgl s 6 : Nat), .int .u64 (dgl s 7 : Nat)] e)).cell? ⟨W.heap.size, i * 8 + j, none⟩ = some (.int .u64 (dgl (dg [q, s] i) j : Nat)) := by
  rcases (show i = 0 ∨ i = 1 by omega) with rfl | rfl <;>
  rcases (show j = 0 ∨ j = 1 ∨ j = 2 ∨ j = 3 ∨ j = 4 ∨ j = 5 ∨ j = 6 ∨ j = 7 by omega) with rfl | rfl | rfl | rfl | rfl | rfl | rfl | rfl <;>
  simp [go_sem, dg]

end Go.Proofs.Ytenbomfoihajhaa
