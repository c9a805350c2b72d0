/- Contracts: wide.Neg; wide.Shr. -/
import Derived.Test.YtenbomfoihajhaaWideN
set_option linter.unusedVariables false
set_option linter.unusedSimpArgs false
set_option maxRecDepth 8000
namespace Go.Proofs.Ytenbomfoihajhaa
open Go.RowKit Plain

theorem wideSubZ (a : Nat) (ha : a < QQ) (w : World) :
    Calls Try.prog 41 #[.agg #[.int .u64 0, .int .u64 0, .int .u64 0, .int .u64 0, .int .u64 0, .int .u64 0, .int .u64 0, .int .u64 0], .agg #[.int .u64 (dgl (a) 0 : Nat), .int .u64 (dgl (a) 1 : Nat), .int .u64 (dgl (a) 2 : Nat), .int .u64 (dgl (a) 3 : Nat), .int .u64 (dgl (a) 4 : Nat), .int .u64 (dgl (a) 5 : Nat), .int .u64 (dgl (a) 6 : Nat), .int .u64 (dgl (a) 7 : Nat)]] w fun e w' => e = .returned (.tuple #[.agg #[.int .u64 (dgl (subQ 0 a) 0 : Nat), .int .u64 (dgl (subQ 0 a) 1 : Nat), .int .u64 (dgl (subQ 0 a) 2 : Nat), .int .u64 (dgl (subQ 0 a) 3 : Nat), .int .u64 (dgl (subQ 0 a) 4 : Nat), .int .u64 (dgl (subQ 0 a) 5 : Nat), .int .u64 (dgl (subQ 0 a) 6 : Nat), .int .u64 (dgl (subQ 0 a) 7 : Nat)], .bool (decide (0 < a))]) ∧ Below w.heap.size w w' := by
  have h := wideSub_any 0 a (by unfold QQ; exact Nat.pow_pos (by decide)) ha w
  simp only [dgl_zero] at h
  exact h

set_option maxHeartbeats 400000 in
theorem wideNeg_any (a : Nat) (ha : a < QQ) (w : World) :
    Calls Try.prog 35 #[.agg #[.int .u64 (dgl (a) 0 : Nat), .int .u64 (dgl (a) 1 : Nat), .int .u64 (dgl (a) 2 : Nat), .int .u64 (dgl (a) 3 : Nat), .int .u64 (dgl (a) 4 : Nat), .int .u64 (dgl (a) 5 : Nat), .int .u64 (dgl (a) 6 : Nat), .int .u64 (dgl (a) 7 : Nat)]] w fun e w' => e = .returned (.agg #[.int .u64 (dgl (subQ 0 a) 0 : Nat), .int .u64 (dgl (subQ 0 a) 1 : Nat), .int .u64 (dgl (subQ 0 a) 2 : Nat), .int .u64 (dgl (subQ 0 a) 3 : Nat), .int .u64 (dgl (subQ 0 a) 4 : Nat), .int .u64 (dgl (subQ 0 a) 5 : Nat), .int .u64 (dgl (subQ 0 a) 6 : Nat), .int .u64 (dgl (subQ 0 a) 7 : Nat)]) ∧ Below w.heap.size w w' := by
  have HS := hide (fun w => wideSubZ a ha w)
  clear ha
  go_enter Try.func35, Try.ntmps35
  go_wp2_with fail
  refine (HS.out _).mono ?_
  rintro e w1 ⟨rfl, hb1⟩
  obtain ⟨hr, hrf, hl⟩ := res_box hb1
  have HB := hide (below_alloc_then (below_alloc_then hb1))
  simp only [World.size_alloc] at hr hrf hl
  clear hb1
  go_wp2
  exact bodyPost_ret (v := .agg #[.int .u64 (dgl (subQ 0 a) 0 : Nat), .int .u64 (dgl (subQ 0 a) 1 : Nat), .int .u64 (dgl (subQ 0 a) 2 : Nat), .int .u64 (dgl (subQ 0 a) 3 : Nat), .int .u64 (dgl (subQ 0 a) 4 : Nat), .int .u64 (dgl (subQ 0 a) 5 : Nat), .int .u64 (dgl (subQ 0 a) 6 : Nat), .int .u64 (dgl (subQ 0 a) 7 : Nat)]) (by simp [results, Try.results35, go_sem, hr, hl]) rfl ⟨rfl, (below_set8 HB.out _ (by omega) _ _ _ _ _ _ _ _).alloc (by simp; omega) _⟩

end Go.Proofs.Ytenbomfoihajhaa
