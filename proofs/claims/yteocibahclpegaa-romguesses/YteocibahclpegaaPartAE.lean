/- Contracts and laws: LimbB, LimbD. -/
import Derived.Test.YteocibahclpegaaPartAD
import Derived.Shelf.Abstract
/- Contracts of limb: at, list. -/
set_option linter.unusedVariables false
set_option linter.unusedSimpArgs false
set_option maxRecDepth 8000
namespace Go.Proofs.Yteocibahclpegaa
open Go.RowKit Plain

end Go.Proofs.Yteocibahclpegaa

/- Contracts: limb.Less, ref01.Same. -/
set_option linter.unusedVariables false
set_option linter.unusedSimpArgs false
set_option maxRecDepth 8000
namespace Go.Proofs.Yteocibahclpegaa
open Go.RowKit Plain

/-- The digit of 2^(64 k). -/
def dgl (n k : Nat) : Nat := n / 18446744073709551616 ^ k % 18446744073709551616
theorem dgl_lt (n k : Nat) : dgl n k < 18446744073709551616 := Nat.mod_lt _ (by decide)

end Go.Proofs.Yteocibahclpegaa

