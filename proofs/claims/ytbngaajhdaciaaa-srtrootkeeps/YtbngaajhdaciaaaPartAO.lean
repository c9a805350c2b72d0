/- Contracts and laws: TabA. -/
import Derived.Test.YtbngaajhdaciaaaRows
import Derived.Test.YtbngaajhdaciaaaPartAC
import Derived.ProofKit
import Derived.OpenShut
import Derived.ChangeMaps5
import Derived.Lib.SmallJoins
import Derived.Stop.Joined
import Derived.LaidMore
/- What the program's table of rows holds, as the rows lay it. -/
set_option linter.unusedVariables false
set_option linter.unusedSimpArgs false
set_option maxRecDepth 8000
namespace Go.Proofs.Ytbngaajhdaciaaa
open Go.RowKit Plain Go.ChangeShapes Go.WideShapes

section
variable {H : Type} {enc : TypeId × Value → H} {W : World} {base : Nat} {sp : Nat → Bool} {held : Bool}

end

end Go.Proofs.Ytbngaajhdaciaaa

