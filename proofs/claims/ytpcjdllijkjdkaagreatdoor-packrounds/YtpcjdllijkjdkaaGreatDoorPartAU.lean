/- Contracts and laws: WordO. -/
import Derived.Test.YtpcjdllijkjdkaaGreatDoorPartAK
import Derived.Lib.SmallJoins
/- A word that comes as an argument. -/
set_option linter.unusedVariables false
set_option linter.unusedSimpArgs false
set_option maxRecDepth 8000
namespace Go.Proofs.YtpcjdllijkjdkaaGreatDoor
open Go.RowKit Plain

end Go.Proofs.YtpcjdllijkjdkaaGreatDoor

