/- What is lost by a shift that is greater than all. -/
import Derived.Test.YtenbomfoihajhaaWideS
set_option linter.unusedVariables false
set_option linter.unusedSimpArgs false
set_option maxRecDepth 8000
namespace Go.Proofs.Ytenbomfoihajhaa
open Go.RowKit Plain

theorem lost_past (a k r q : Nat) (hr : r = min k q) (hQ : 2 ^ q = QQ) (ha : a < QQ) : decide (a / 2 ^ k * 2 ^ k = a) = decide (a / 2 ^ r * 2 ^ r = a) := by
  rw [decide_eq_decide]
  rcases Nat.lt_or_ge q k with h | h
  · have hrq : r = q := by omega
    subst hrq
    have h2 : a < 2 ^ r := by rw [hQ]; exact ha
    have h3 : 2 ^ r ≤ 2 ^ k := Nat.pow_le_pow_right (by decide) (by omega)
    rw [Nat.div_eq_of_lt h2, Nat.div_eq_of_lt (Nat.lt_of_lt_of_le h2 h3), Nat.zero_mul, Nat.zero_mul]
  · have : r = k := by omega
    rw [this]

end Go.Proofs.Ytenbomfoihajhaa
