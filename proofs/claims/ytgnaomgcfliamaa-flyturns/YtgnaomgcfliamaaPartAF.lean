/- Contracts and laws: LimbC. -/
import Derived.Test.YtgnaomgcfliamaaPartAE
import Derived.Shelf.Strconv.Itoa0
import Derived.Laws.MathBits
/- Contracts: bits.Len64, limb.Len. -/
set_option linter.unusedVariables false
set_option linter.unusedSimpArgs false
set_option maxRecDepth 8000
namespace Go.Proofs.Ytgnaomgcfliamaa
open Go.RowKit Plain Go.Shelf

theorem bitLen_half (x : Nat) (h : x ≠ 0) : Go.bitLen x = 1 + Go.bitLen (x / 2) := by
  by_cases h1 : x / 2 = 0
  · have : x = 1 := by omega
    subst this
    decide
  · have := bitLen_shift x 1 (by simpa using h1)
    simpa using this
end Go.Proofs.Ytgnaomgcfliamaa

