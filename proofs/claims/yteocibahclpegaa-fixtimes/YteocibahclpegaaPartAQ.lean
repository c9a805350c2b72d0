/- Contracts and laws: WideLooksWalk, ProdHighWalk. -/
import Derived.Test.YteocibahclpegaaPartAN
import Derived.Test.YteocibahclpegaaPartAM
/- The walk over radicandlaw02.WideLooks. -/
set_option linter.unusedVariables false
set_option linter.unusedSimpArgs false
set_option maxRecDepth 8000
namespace Go.Proofs.Yteocibahclpegaa
open Go.RowKit Plain

end Go.Proofs.Yteocibahclpegaa

/- For all wides and all ints the law radicandlaw03.ProdHigh returns true. -/
set_option linter.unusedVariables false
set_option linter.unusedSimpArgs false
set_option maxRecDepth 8000
namespace Go.Proofs.Yteocibahclpegaa
open Go.RowKit Plain

theorem div_far (P k m q : Nat) (hq : 2 ^ q = QQ) (hm : m = min k 1100) (hq5 : q = 512) (hP : P < QQ * QQ) : P / 2 ^ k = P / 2 ^ m ∧ decide (P / 2 ^ k * 2 ^ k = P) = decide (P / 2 ^ m * 2 ^ m = P) := by
  rcases Nat.lt_or_ge 1100 k with h | h
  · have hm2 : m = 1100 := by omega
    have hlt : P < 2 ^ m := Nat.lt_of_lt_of_le hP (by rw [← hq, ← Nat.pow_add]; exact Nat.pow_le_pow_right (by decide) (by omega))
    have hlt2 : P < 2 ^ k := Nat.lt_of_lt_of_le hlt (Nat.pow_le_pow_right (by decide) (by omega))
    rw [Nat.div_eq_of_lt hlt, Nat.div_eq_of_lt hlt2, Nat.zero_mul, Nat.zero_mul]
    exact ⟨rfl, rfl⟩
  · have : m = k := by omega
    rw [this]
    exact ⟨rfl, rfl⟩

end Go.Proofs.Yteocibahclpegaa

