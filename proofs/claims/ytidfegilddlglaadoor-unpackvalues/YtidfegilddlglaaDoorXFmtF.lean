/- Contracts and laws: FmtF. -/
import Derived.Test.YtidfegilddlglaaDoorXFmtE
/- Contracts: law05.awake. -/
set_option linter.unusedVariables false
set_option linter.unusedSimpArgs false
set_option maxRecDepth 8000
namespace Go.Proofs.YtidfegilddlglaaDoor
open Go.RowKit Plain

theorem dgl_lit {n i x : Nat} (h : dgl n i = x) : (Value.int .u64 ((dgl n i : Nat) : Int)) = .int .u64 (x : Int) := by rw [h]

end Go.Proofs.YtidfegilddlglaaDoor

