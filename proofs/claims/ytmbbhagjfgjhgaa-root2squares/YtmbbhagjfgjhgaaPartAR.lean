/- Contracts and laws: WideLooksWalk. -/
import Derived.Test.YtmbbhagjfgjhgaaPartAN
import Derived.Test.YtmbbhagjfgjhgaaPartAM
/- The walk over radicandlaw02.WideLooks. -/
set_option linter.unusedVariables false
set_option linter.unusedSimpArgs false
set_option maxRecDepth 8000
namespace Go.Proofs.Ytmbbhagjfgjhgaa
open Go.RowKit Plain

end Go.Proofs.Ytmbbhagjfgjhgaa

