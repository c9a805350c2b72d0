/- Contracts: limb.Sum. -/
import Derived.Test.YtenbomfoihajhaaLimbD
import Derived.Test.YtenbomfoihajhaaLimbC
import Derived.StillTailTactics
set_option linter.unusedVariables false
set_option linter.unusedSimpArgs false
set_option maxRecDepth 8000
namespace Go.Proofs.Ytenbomfoihajhaa
open Go.RowKit Plain

theorem mixedOk : Try.prog.follows .mixedOrders = true := by kernel_rfl

theorem carry_lt (n m k : Nat) : carry 18446744073709551616 n m k ≤ 1 := carry_le (by decide)
theorem oneI_carry (n m k : Nat) : oneI (carry 18446744073709551616 n m k : Nat) = (carry 18446744073709551616 n m k : Nat) := by
  have := carry_lt n m k
  unfold oneI
  split <;> omega
theorem sum_lo (n m k : Nat) : lo64 ((dgl n k : Int) + (dgl m k : Int) + oneI (carry 18446744073709551616 n m k : Nat)) = (dgl (n + m) k : Nat) := by
  rw [oneI_carry]
  have h := add_digit (n := n) (m := m) (k := k) (β := 18446744073709551616) (by decide)
  have e : ((dgl (n + m) k : Nat) : Int) = (((carry 18446744073709551616 n m k + dgl n k + dgl m k) % 18446744073709551616 : Nat) : Int) := congrArg _ h.symm
  rw [e]; unfold lo64 M64; omega
theorem sum_hi (n m k : Nat) : hi64 ((dgl n k : Int) + (dgl m k : Int) + oneI (carry 18446744073709551616 n m k : Nat)) = (carry 18446744073709551616 n m (k + 1) : Nat) := by
  rw [oneI_carry]
  have h := add_carry (n := n) (m := m) (k := k) (β := 18446744073709551616) (by decide)
  have e : ((carry 18446744073709551616 n m (k + 1) : Nat) : Int) = (((carry 18446744073709551616 n m k + dgl n k + dgl m k) / 18446744073709551616 : Nat) : Int) := congrArg _ h.symm
  rw [e]; unfold hi64 M64; omega

end Go.Proofs.Ytenbomfoihajhaa
