/- Contracts and laws: UnpK. -/
import Derived.Test.YtidfegilddlglaaDoorXUnF
/- Small laws: bounds of right numbers; == on words. -/
set_option linter.unusedVariables false
set_option linter.unusedSimpArgs false
set_option maxRecDepth 8000
namespace Go.Proofs.YtidfegilddlglaaDoor
open Go.RowKit Plain

theorem rgtB {z : Int} (h : rgt z = true) : -1048576 ≤ z ∧ z ≤ 1048576 := by
  unfold rgt at h
  rw [Bool.and_eq_true, decide_eq_true_iff, decide_eq_true_iff] at h
  exact h
theorem wordEq {a b : Nat} (ha : a < 2 ^ 128) (hb : b < 2 ^ 128) (w : World) : (Op.equalIn 10000 24 (.agg #[.int .u64 (dgl (a) 1 : Nat), .int .u64 (dgl (a) 0 : Nat)]) (.agg #[.int .u64 (dgl (b) 1 : Nat), .int .u64 (dgl (b) 0 : Nat)])).run Tryd.prog w = .ok (decide (a = b)) w := by
  have u3 := Tryd.underlying22
  have uw := Tryd.underlying24
  have e1 := word_back a ha
  have e2 := word_back b hb
  have hk : a = b ↔ (dgl a 1 = dgl b 1 ∧ dgl a 0 = dgl b 0) := by
    constructor
    · intro h; subst h; exact ⟨rfl, rfl⟩
    · rintro ⟨h1, h2⟩
      rw [← e1, ← e2, h1, h2]
  rw [show decide (a = b) = decide (dgl a 1 = dgl b 1 ∧ dgl a 0 = dgl b 0) from decide_eq_decide.2 hk]
  generalize dgl a 1 = x1
  generalize dgl a 0 = x0
  generalize dgl b 1 = y1
  generalize dgl b 0 = y0
  rw [show (10000 : Nat) = 9999 + 1 from rfl]
  go_simp
  simp only [Int.ofNat_inj]
  by_cases h1 : x1 = y1
  · by_cases h2 : x0 = y0
    · simp [h1, h2]
    · simp [h1, h2]
  · simp [h1]

end Go.Proofs.YtidfegilddlglaaDoor

