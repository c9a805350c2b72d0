/- Contracts: limb.Sum. -/
import Derived.Test.YtenbomfoihajhaaLimbE
set_option linter.unusedVariables false
set_option linter.unusedSimpArgs false
set_option maxRecDepth 8000
namespace Go.Proofs.Ytenbomfoihajhaa
open Go.RowKit Plain

theorem app3 (x a b c : Value) : (#[x] ++ #[a, b, c] : Array Value) = #[x, a, b, c] := rfl

/-- What the closure of limb.Sum finds in its boxes behind k places. -/
structure SumInv (n m k B : Nat) (va vb : Value) (w wr : World) : Prop where
  a : wr.cell? ⟨B, 0, none⟩ = some va
  b : wr.cell? ⟨B + 1, 0, none⟩ = some vb
  c : wr.cell? ⟨B + 1 + 1, 0, none⟩ = some (.int .u64 (carry 18446744073709551616 n m k : Nat))
  f : wr.frozen? ⟨B + 1 + 1, 0, none⟩ = false
  bel : Below B w wr

theorem SumInv.below {n m k B : Nat} {va vb : Value} {w wr wr' : World} (h : SumInv n m k B va vb w wr) (hb : Below (B + 1 + 1 + 1) wr wr') : SumInv n m k B va vb w wr' :=
  ⟨(hb.cell (p := ⟨B, 0, none⟩) (show B < B + 1 + 1 + 1 by omega)).trans h.a, (hb.cell (p := ⟨B + 1, 0, none⟩) (show B + 1 < B + 1 + 1 + 1 by omega)).trans h.b,
   (hb.cell (p := ⟨B + 1 + 1, 0, none⟩) (show B + 1 + 1 < B + 1 + 1 + 1 by omega)).trans h.c, (hb.frozen (p := ⟨B + 1 + 1, 0, none⟩) (show B + 1 + 1 < B + 1 + 1 + 1 by omega)).trans h.f, h.bel.trans (hb.mono (by omega))⟩

theorem SumInv.step {n m k B : Nat} {va vb : Value} {w wr : World} (h : SumInv n m k B va vb w wr) (q : Nat) (hlt : B + 1 + 1 < wr.heap.size) :
    SumInv n m (k + 1) B va vb w ((wr.drewN q).setCell ⟨B + 1 + 1, 0, none⟩ (.int .u64 (carry 18446744073709551616 n m (k + 1) : Nat))) := by
  have hb : Below (B + 1 + 1) wr ((wr.drewN q).setCell ⟨B + 1 + 1, 0, none⟩ (.int .u64 (carry 18446744073709551616 n m (k + 1) : Nat))) := Below.setCell (p := ⟨B + 1 + 1, 0, none⟩) (below_drewN' (Below.refl (B + 1 + 1) wr) q) (Nat.le_refl _) _
  refine ⟨(hb.cell (p := ⟨B, 0, none⟩) (show B < B + 1 + 1 by omega)).trans h.a, (hb.cell (p := ⟨B + 1, 0, none⟩) (show B + 1 < B + 1 + 1 by omega)).trans h.b, ?_, ?_, h.bel.trans (hb.mono (by omega))⟩
  · have h1 : (wr.drewN q).cell? ⟨B + 1 + 1, 0, none⟩ = some (.int .u64 (carry 18446744073709551616 n m k : Nat)) := h.c
    exact World.cell?_setCell_same (wr.drewN q) ⟨B + 1 + 1, 0, none⟩ (.int .u64 (carry 18446744073709551616 n m (k + 1) : Nat)) h1
  · have h1 : (wr.drewN q).frozen? ⟨B + 1 + 1, 0, none⟩ = false := h.f
    simp [h1]

theorem SumInv.start (n m : Nat) (w : World) (va vb : Value) :
    SumInv n m 0 w.heap.size va vb w (((w.alloc (Obj.cells #[va] 92)).alloc (Obj.cells #[vb] 92)).alloc (Obj.cells #[Value.int IntKind.u64 0] 22)) := by
  refine ⟨?_, ?_, ?_, ?_, ?_⟩
  · simp [go_sem]
  · simp [go_sem]
  · rw [carry_zero]; simp [go_sem]
  · simp [go_sem]
  · exact Below.alloc (Below.alloc (Below.alloc (Below.refl _ _) (Nat.le_refl _) _) (by simp) _) (by simp; omega) _

end Go.Proofs.Ytenbomfoihajhaa
