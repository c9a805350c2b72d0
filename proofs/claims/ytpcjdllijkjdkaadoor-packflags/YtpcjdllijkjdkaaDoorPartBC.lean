/- Contracts and laws: DigB, DigC. -/
import Derived.Test.YtpcjdllijkjdkaaDoorPartAO
import Derived.Lib.OthersKept
/- Contracts: digits.read. -/
set_option linter.unusedVariables false
set_option linter.unusedSimpArgs false
set_option maxRecDepth 8000
namespace Go.Proofs.YtpcjdllijkjdkaaDoor
open Go.RowKit Plain

end Go.Proofs.YtpcjdllijkjdkaaDoor

/- Contracts: digits.number, ParseHex, ParseDecimal. -/
set_option linter.unusedVariables false
set_option linter.unusedSimpArgs false
set_option maxRecDepth 8000
namespace Go.Proofs.YtpcjdllijkjdkaaDoor
open Go.RowKit Plain

theorem empty_iff (s : ByteArray) : s.toList.isEmpty = decide (s.size = 0) := by
  rw [← decide_eq_emptyBytes, decide_eq_decide]
  constructor
  · intro h; rw [h]; rfl
  · intro h
    cases s with
    | mk data => rw [Array.eq_empty_of_size_eq_zero (show data.size = 0 from h)]; rfl

end Go.Proofs.YtpcjdllijkjdkaaDoor

