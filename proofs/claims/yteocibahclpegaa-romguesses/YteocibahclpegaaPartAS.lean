/- Contracts and laws: WideLooksWalk. -/
import Derived.Test.YteocibahclpegaaPartAP
import Derived.Test.YteocibahclpegaaPartAO
/- The walk over radicandlaw02.WideLooks. -/
set_option linter.unusedVariables false
set_option linter.unusedSimpArgs false
set_option maxRecDepth 8000
namespace Go.Proofs.Yteocibahclpegaa
open Go.RowKit Plain

end Go.Proofs.Yteocibahclpegaa

