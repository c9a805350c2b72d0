/-
  No cell of these rows narrows 'for every input' (looked for: loops, veiled, ifaces, maps, wideKeys, modest, calm, conditions, laid).
  DERIVED. THE GIVEN ROWS OF THIS SEAT. 12 by the template 'for every input the law returns true; each argument reads behind the call as it read before'; 0 by the template 'total and deterministic' (their statements: YtenbomfoihajhaaTotals.lean).
  GIVEN WITH THE SEED: the statements are not yours to turn. If you find one false, say at which input.
  Laid BY PROGRAM, IN A SANDBOX (cutbox-rows.mjs): the forced cells as the released guide's own fill.sh prints them over the translation 21d7715ca09cafd5… (all of the seat's roots in one cut). By AI agents, Wed Nov 11 2026. No macro, syntax, notation, axiom, sorry.
-/
import Derived.Test.YtenbomfoihajhaaChecked
import GoSem.Claim
import GoSem.ClaimJoined
import GoSem.ClaimMapViews
import Derived.JoinedTies
import Derived.KernelRfl
namespace Go.Proofs.Ytenbomfoihajhaa
/- THE CELL 'sum', in the pinned program and in every row, IS THE sha256 OF THE DUMP (.gsa) THAT YtenbomfoihajhaaProg.lean LOADS. Nothing in Lean hashes anything: it is a label: what it is worth is what the hold of that sum in a sandbox is worth. -/
noncomputable def Try.pinned : Pinned := { name := "ytenbomfoihajhaa", sum := "21d7715ca09cafd5ac89b4b7e7c93f2e0d098f835079e293c96097e6e924dccf", checked := Try.checked }
namespace Rows
def none {H : Type} : Left H := { results := [], args := [] }

/-- 'radicandlaw02.WideShifts': WHATEVER THE INPUT: true; the input reads as it did. -/
def wideShiftsSpec : ChangeSpec := { name := "wideShifts", fn := fun _ => fun
  | [d1, d2] => { results := [.lit (.bool true)], args := [d1, d2] }
  | _ => none }
def wideShiftsRow : OpenClaim := { program := "ytenbomfoihajhaa", sum := "21d7715ca09cafd5ac89b4b7e7c93f2e0d098f835079e293c96097e6e924dccf", func := "radicand/radicandlaw02.WideShifts", spec := "wideShifts", inPlace := ["math/bits.Sub64"], unfollowed := true, recurses := true, apart := false }
def WideShiftsSaid : Prop := wideShiftsRow.holds Try.pinned (OpenSpec.ofChange wideShiftsSpec)

/-- ITS FALSE NEIGHBOUR: 'it returns false'. Refute it at one input. -/
def wideShiftsWrong : ChangeSpec := { name := "wideShifts", fn := fun _ => fun
  | [d1, d2] => { results := [.lit (.bool false)], args := [d1, d2] }
  | _ => none }
def WideShiftsWrongFalsely : Prop := wideShiftsRow.holds Try.pinned (OpenSpec.ofChange wideShiftsWrong)

/-- 'radicandlaw02.WideLooks': WHATEVER THE INPUT: true; the input reads as it did. -/
def wideLooksSpec : ChangeSpec := { name := "wideLooks", fn := fun _ => fun
  | [d1, d2, d3] => { results := [.lit (.bool true)], args := [d1, d2, d3] }
  | _ => none }
def wideLooksRow : OpenClaim := { program := "ytenbomfoihajhaa", sum := "21d7715ca09cafd5ac89b4b7e7c93f2e0d098f835079e293c96097e6e924dccf", func := "radicand/radicandlaw02.WideLooks", spec := "wideLooks", inPlace := ["math/bits.Sub64"], unfollowed := true, recurses := true, apart := false }
def WideLooksSaid : Prop := wideLooksRow.holds Try.pinned (OpenSpec.ofChange wideLooksSpec)

/-- ITS FALSE NEIGHBOUR: 'it returns false'. Refute it at one input. -/
def wideLooksWrong : ChangeSpec := { name := "wideLooks", fn := fun _ => fun
  | [d1, d2, d3] => { results := [.lit (.bool false)], args := [d1, d2, d3] }
  | _ => none }
def WideLooksWrongFalsely : Prop := wideLooksRow.holds Try.pinned (OpenSpec.ofChange wideLooksWrong)

/-- 'radicandlaw02.WideRules': WHATEVER THE INPUT: true; the input reads as it did. -/
def wideRulesSpec : ChangeSpec := { name := "wideRules", fn := fun _ => fun
  | [d1, d2, d3] => { results := [.lit (.bool true)], args := [d1, d2, d3] }
  | _ => none }
def wideRulesRow : OpenClaim := { program := "ytenbomfoihajhaa", sum := "21d7715ca09cafd5ac89b4b7e7c93f2e0d098f835079e293c96097e6e924dccf", func := "radicand/radicandlaw02.WideRules", spec := "wideRules", inPlace := ["math/bits.Add64", "math/bits.Sub64"], unfollowed := true, recurses := true, apart := false }
def WideRulesSaid : Prop := wideRulesRow.holds Try.pinned (OpenSpec.ofChange wideRulesSpec)

/-- ITS FALSE NEIGHBOUR: 'it returns false'. Refute it at one input. -/
def wideRulesWrong : ChangeSpec := { name := "wideRules", fn := fun _ => fun
  | [d1, d2, d3] => { results := [.lit (.bool false)], args := [d1, d2, d3] }
  | _ => none }
def WideRulesWrongFalsely : Prop := wideRulesRow.holds Try.pinned (OpenSpec.ofChange wideRulesWrong)

/-- 'radicandlaw03.ProdMuls': WHATEVER THE INPUT: true; the input reads as it did. -/
def prodMulsSpec : ChangeSpec := { name := "prodMuls", fn := fun _ => fun
  | [d1, d2, d3] => { results := [.lit (.bool true)], args := [d1, d2, d3] }
  | _ => none }
def prodMulsRow : OpenClaim := { program := "ytenbomfoihajhaa", sum := "21d7715ca09cafd5ac89b4b7e7c93f2e0d098f835079e293c96097e6e924dccf", func := "radicand/radicandlaw03.ProdMuls", spec := "prodMuls", inPlace := ["math/bits.Add64"], unfollowed := true, recurses := true, apart := false }
def ProdMulsSaid : Prop := prodMulsRow.holds Try.pinned (OpenSpec.ofChange prodMulsSpec)

/-- ITS FALSE NEIGHBOUR: 'it returns false'. Refute it at one input. -/
def prodMulsWrong : ChangeSpec := { name := "prodMuls", fn := fun _ => fun
  | [d1, d2, d3] => { results := [.lit (.bool false)], args := [d1, d2, d3] }
  | _ => none }
def ProdMulsWrongFalsely : Prop := prodMulsRow.holds Try.pinned (OpenSpec.ofChange prodMulsWrong)

/-- 'radicandlaw03.ProdHigh': WHATEVER THE INPUT: true; the input reads as it did. -/
def prodHighSpec : ChangeSpec := { name := "prodHigh", fn := fun _ => fun
  | [d1, d2, d3] => { results := [.lit (.bool true)], args := [d1, d2, d3] }
  | _ => none }
def prodHighRow : OpenClaim := { program := "ytenbomfoihajhaa", sum := "21d7715ca09cafd5ac89b4b7e7c93f2e0d098f835079e293c96097e6e924dccf", func := "radicand/radicandlaw03.ProdHigh", spec := "prodHigh", inPlace := ["math/bits.Add64"], unfollowed := true, recurses := true, apart := false }
def ProdHighSaid : Prop := prodHighRow.holds Try.pinned (OpenSpec.ofChange prodHighSpec)

/-- ITS FALSE NEIGHBOUR: 'it returns false'. Refute it at one input. -/
def prodHighWrong : ChangeSpec := { name := "prodHigh", fn := fun _ => fun
  | [d1, d2, d3] => { results := [.lit (.bool false)], args := [d1, d2, d3] }
  | _ => none }
def ProdHighWrongFalsely : Prop := prodHighRow.holds Try.pinned (OpenSpec.ofChange prodHighWrong)

/-- 'radicandlaw03.ProdParts': WHATEVER THE INPUT: true; the input reads as it did. -/
def prodPartsSpec : ChangeSpec := { name := "prodParts", fn := fun _ => fun
  | [d1, d2, d3] => { results := [.lit (.bool true)], args := [d1, d2, d3] }
  | _ => none }
def prodPartsRow : OpenClaim := { program := "ytenbomfoihajhaa", sum := "21d7715ca09cafd5ac89b4b7e7c93f2e0d098f835079e293c96097e6e924dccf", func := "radicand/radicandlaw03.ProdParts", spec := "prodParts", inPlace := ["math/bits.Add64"], unfollowed := true, recurses := true, apart := false }
def ProdPartsSaid : Prop := prodPartsRow.holds Try.pinned (OpenSpec.ofChange prodPartsSpec)

/-- ITS FALSE NEIGHBOUR: 'it returns false'. Refute it at one input. -/
def prodPartsWrong : ChangeSpec := { name := "prodParts", fn := fun _ => fun
  | [d1, d2, d3] => { results := [.lit (.bool false)], args := [d1, d2, d3] }
  | _ => none }
def ProdPartsWrongFalsely : Prop := prodPartsRow.holds Try.pinned (OpenSpec.ofChange prodPartsWrong)

/-- 'radicandlaw03.ProdSums': WHATEVER THE INPUT: true; the input reads as it did. -/
def prodSumsSpec : ChangeSpec := { name := "prodSums", fn := fun _ => fun
  | [d1, d2, d3] => { results := [.lit (.bool true)], args := [d1, d2, d3] }
  | _ => none }
def prodSumsRow : OpenClaim := { program := "ytenbomfoihajhaa", sum := "21d7715ca09cafd5ac89b4b7e7c93f2e0d098f835079e293c96097e6e924dccf", func := "radicand/radicandlaw03.ProdSums", spec := "prodSums", inPlace := ["math/bits.Add64"], unfollowed := true, recurses := true, apart := false }
def ProdSumsSaid : Prop := prodSumsRow.holds Try.pinned (OpenSpec.ofChange prodSumsSpec)

/-- ITS FALSE NEIGHBOUR: 'it returns false'. Refute it at one input. -/
def prodSumsWrong : ChangeSpec := { name := "prodSums", fn := fun _ => fun
  | [d1, d2, d3] => { results := [.lit (.bool false)], args := [d1, d2, d3] }
  | _ => none }
def ProdSumsWrongFalsely : Prop := prodSumsRow.holds Try.pinned (OpenSpec.ofChange prodSumsWrong)

/-- 'radicandlaw04.DigitsHex': WHATEVER THE INPUT: true; the input reads as it did. -/
def digitsHexSpec : ChangeSpec := { name := "digitsHex", fn := fun _ => fun
  | [d] => { results := [.lit (.bool true)], args := [d] }
  | _ => none }
def digitsHexRow : OpenClaim := { program := "ytenbomfoihajhaa", sum := "21d7715ca09cafd5ac89b4b7e7c93f2e0d098f835079e293c96097e6e924dccf", func := "radicand/radicandlaw04.DigitsHex", spec := "digitsHex", inPlace := ["internal/abi.NoEscape", "math/bits.Add64", "math/bits.Sub64"], unfollowed := true, recurses := true, apart := false }
def DigitsHexSaid : Prop := digitsHexRow.holds Try.pinned (OpenSpec.ofChange digitsHexSpec)

/-- ITS FALSE NEIGHBOUR: 'it returns false'. Refute it at one input. -/
def digitsHexWrong : ChangeSpec := { name := "digitsHex", fn := fun _ => fun
  | [d] => { results := [.lit (.bool false)], args := [d] }
  | _ => none }
def DigitsHexWrongFalsely : Prop := digitsHexRow.holds Try.pinned (OpenSpec.ofChange digitsHexWrong)

/-- 'radicandlaw04.DigitsDecimal': WHATEVER THE INPUT: true; the input reads as it did. -/
def digitsDecimalSpec : ChangeSpec := { name := "digitsDecimal", fn := fun _ => fun
  | [d] => { results := [.lit (.bool true)], args := [d] }
  | _ => none }
def digitsDecimalRow : OpenClaim := { program := "ytenbomfoihajhaa", sum := "21d7715ca09cafd5ac89b4b7e7c93f2e0d098f835079e293c96097e6e924dccf", func := "radicand/radicandlaw04.DigitsDecimal", spec := "digitsDecimal", inPlace := ["math/bits.Add64", "math/bits.Sub64", "internal/abi.NoEscape"], unfollowed := true, recurses := true, apart := false }
def DigitsDecimalSaid : Prop := digitsDecimalRow.holds Try.pinned (OpenSpec.ofChange digitsDecimalSpec)

/-- ITS FALSE NEIGHBOUR: 'it returns false'. Refute it at one input. -/
def digitsDecimalWrong : ChangeSpec := { name := "digitsDecimal", fn := fun _ => fun
  | [d] => { results := [.lit (.bool false)], args := [d] }
  | _ => none }
def DigitsDecimalWrongFalsely : Prop := digitsDecimalRow.holds Try.pinned (OpenSpec.ofChange digitsDecimalWrong)

/-- 'radicandlaw04.DigitsRead': WHATEVER THE INPUT: true; the input reads as it did. -/
def digitsReadSpec : ChangeSpec := { name := "digitsRead", fn := fun _ => fun
  | [d] => { results := [.lit (.bool true)], args := [d] }
  | _ => none }
def digitsReadRow : OpenClaim := { program := "ytenbomfoihajhaa", sum := "21d7715ca09cafd5ac89b4b7e7c93f2e0d098f835079e293c96097e6e924dccf", func := "radicand/radicandlaw04.DigitsRead", spec := "digitsRead", inPlace := ["internal/abi.NoEscape", "math/bits.Add64", "math/bits.Sub64"], unfollowed := true, recurses := true, apart := false }
def DigitsReadSaid : Prop := digitsReadRow.holds Try.pinned (OpenSpec.ofChange digitsReadSpec)

/-- ITS FALSE NEIGHBOUR: 'it returns false'. Refute it at one input. -/
def digitsReadWrong : ChangeSpec := { name := "digitsRead", fn := fun _ => fun
  | [d] => { results := [.lit (.bool false)], args := [d] }
  | _ => none }
def DigitsReadWrongFalsely : Prop := digitsReadRow.holds Try.pinned (OpenSpec.ofChange digitsReadWrong)

/-- 'radicandlaw04.DigitsWords': WHATEVER THE INPUT: true; the input reads as it did. -/
def digitsWordsSpec : ChangeSpec := { name := "digitsWords", fn := fun _ => fun
  | [d1, d2, d3] => { results := [.lit (.bool true)], args := [d1, d2, d3] }
  | _ => none }
def digitsWordsRow : OpenClaim := { program := "ytenbomfoihajhaa", sum := "21d7715ca09cafd5ac89b4b7e7c93f2e0d098f835079e293c96097e6e924dccf", func := "radicand/radicandlaw04.DigitsWords", spec := "digitsWords", inPlace := ["internal/abi.NoEscape", "math/bits.Add64", "math/bits.Sub64"], unfollowed := true, recurses := true, apart := false }
def DigitsWordsSaid : Prop := digitsWordsRow.holds Try.pinned (OpenSpec.ofChange digitsWordsSpec)

/-- ITS FALSE NEIGHBOUR: 'it returns false'. Refute it at one input. -/
def digitsWordsWrong : ChangeSpec := { name := "digitsWords", fn := fun _ => fun
  | [d1, d2, d3] => { results := [.lit (.bool false)], args := [d1, d2, d3] }
  | _ => none }
def DigitsWordsWrongFalsely : Prop := digitsWordsRow.holds Try.pinned (OpenSpec.ofChange digitsWordsWrong)

/-- 'radicandlaw04.DigitsInts': WHATEVER THE INPUT: true; the input reads as it did. -/
def digitsIntsSpec : ChangeSpec := { name := "digitsInts", fn := fun _ => fun
  | [d1, d2] => { results := [.lit (.bool true)], args := [d1, d2] }
  | _ => none }
def digitsIntsRow : OpenClaim := { program := "ytenbomfoihajhaa", sum := "21d7715ca09cafd5ac89b4b7e7c93f2e0d098f835079e293c96097e6e924dccf", func := "radicand/radicandlaw04.DigitsInts", spec := "digitsInts", inPlace := ["internal/abi.NoEscape", "math/bits.Add64", "math/bits.Sub64"], unfollowed := true, recurses := true, apart := false }
def DigitsIntsSaid : Prop := digitsIntsRow.holds Try.pinned (OpenSpec.ofChange digitsIntsSpec)

/-- ITS FALSE NEIGHBOUR: 'it returns false'. Refute it at one input. -/
def digitsIntsWrong : ChangeSpec := { name := "digitsInts", fn := fun _ => fun
  | [d1, d2] => { results := [.lit (.bool false)], args := [d1, d2] }
  | _ => none }
def DigitsIntsWrongFalsely : Prop := digitsIntsRow.holds Try.pinned (OpenSpec.ofChange digitsIntsWrong)

/- THE SECOND FORM. 'bulk': how many values and letters a reading holds, each counted each time it is reached (what is shared counts as often as it is met; a slice's spare places count too). A statement '..UptoSaid' is the law's where the arguments, and the package variables that the reading takes, are together of bulk at most 1048576: NARROWER than '..Said'. Prove '..Said' where nothing that the law and all that it calls make is longer than what came in: it says more and counts as full. Else prove '..UptoSaid'. A law counts once. -/
mutual
def uptoBulk {H : Type} : DataW H → Nat
  | .lit (.string bytes) => bytes.length + 1
  | .lit _ => 1
  | .nil => 1
  | .ptr d => uptoBulk d + 1
  | .slice elems spare => uptoBulkAll elems + uptoBulkAll spare + 1
  | .agg parts => uptoBulkAll parts + 1
  | .iface _ d => uptoBulk d + 1
  | .map entries => uptoBulkEntries entries + 1
  | .held _ => 1
def uptoBulkAll {H : Type} : List (DataW H) → Nat
  | [] => 0
  | d :: r => uptoBulk d + uptoBulkAll r
def uptoBulkEntries {H : Type} : List (Lit × DataW H) → Nat
  | [] => 0
  | x :: r => uptoBulkEntry x + uptoBulkEntries r
def uptoBulkEntry {H : Type} : Lit × DataW H → Nat
  | (.string bytes, d) => bytes.length + uptoBulk d + 1
  | (_, d) => uptoBulk d + 1
 end
def uptoSmall : (H : Type) → List (DataW H) → Bool := fun _ ds => decide (uptoBulkAll ds ≤ 1048576)
def OpenSpec.upto (s : _root_.Go.ChangeSpec) : _root_.Go.OpenSpec := { _root_.Go.OpenSpec.ofChange s with cond := some uptoSmall }

/-- 'radicandlaw02.WideShifts', WHERE WHAT IT READS IS OF BULK AT MOST 1048576: true; the input reads as it did. -/
def wideShiftsUptoRow : OpenClaim := { program := "ytenbomfoihajhaa", sum := "21d7715ca09cafd5ac89b4b7e7c93f2e0d098f835079e293c96097e6e924dccf", func := "radicand/radicandlaw02.WideShifts", spec := "wideShifts", inPlace := ["math/bits.Sub64"], unfollowed := true, recurses := true, apart := false, narrowed := true }
def WideShiftsUptoSaid : Prop := wideShiftsUptoRow.holds Try.pinned (OpenSpec.upto wideShiftsSpec)

/-- 'radicandlaw02.WideLooks', WHERE WHAT IT READS IS OF BULK AT MOST 1048576: true; the input reads as it did. -/
def wideLooksUptoRow : OpenClaim := { program := "ytenbomfoihajhaa", sum := "21d7715ca09cafd5ac89b4b7e7c93f2e0d098f835079e293c96097e6e924dccf", func := "radicand/radicandlaw02.WideLooks", spec := "wideLooks", inPlace := ["math/bits.Sub64"], unfollowed := true, recurses := true, apart := false, narrowed := true }
def WideLooksUptoSaid : Prop := wideLooksUptoRow.holds Try.pinned (OpenSpec.upto wideLooksSpec)

/-- 'radicandlaw02.WideRules', WHERE WHAT IT READS IS OF BULK AT MOST 1048576: true; the input reads as it did. -/
def wideRulesUptoRow : OpenClaim := { program := "ytenbomfoihajhaa", sum := "21d7715ca09cafd5ac89b4b7e7c93f2e0d098f835079e293c96097e6e924dccf", func := "radicand/radicandlaw02.WideRules", spec := "wideRules", inPlace := ["math/bits.Add64", "math/bits.Sub64"], unfollowed := true, recurses := true, apart := false, narrowed := true }
def WideRulesUptoSaid : Prop := wideRulesUptoRow.holds Try.pinned (OpenSpec.upto wideRulesSpec)

/-- 'radicandlaw03.ProdMuls', WHERE WHAT IT READS IS OF BULK AT MOST 1048576: true; the input reads as it did. -/
def prodMulsUptoRow : OpenClaim := { program := "ytenbomfoihajhaa", sum := "21d7715ca09cafd5ac89b4b7e7c93f2e0d098f835079e293c96097e6e924dccf", func := "radicand/radicandlaw03.ProdMuls", spec := "prodMuls", inPlace := ["math/bits.Add64"], unfollowed := true, recurses := true, apart := false, narrowed := true }
def ProdMulsUptoSaid : Prop := prodMulsUptoRow.holds Try.pinned (OpenSpec.upto prodMulsSpec)

/-- 'radicandlaw03.ProdHigh', WHERE WHAT IT READS IS OF BULK AT MOST 1048576: true; the input reads as it did. -/
def prodHighUptoRow : OpenClaim := { program := "ytenbomfoihajhaa", sum := "21d7715ca09cafd5ac89b4b7e7c93f2e0d098f835079e293c96097e6e924dccf", func := "radicand/radicandlaw03.ProdHigh", spec := "prodHigh", inPlace := ["math/bits.Add64"], unfollowed := true, recurses := true, apart := false, narrowed := true }
def ProdHighUptoSaid : Prop := prodHighUptoRow.holds Try.pinned (OpenSpec.upto prodHighSpec)

/-- 'radicandlaw03.ProdParts', WHERE WHAT IT READS IS OF BULK AT MOST 1048576: true; the input reads as it did. -/
def prodPartsUptoRow : OpenClaim := { program := "ytenbomfoihajhaa", sum := "21d7715ca09cafd5ac89b4b7e7c93f2e0d098f835079e293c96097e6e924dccf", func := "radicand/radicandlaw03.ProdParts", spec := "prodParts", inPlace := ["math/bits.Add64"], unfollowed := true, recurses := true, apart := false, narrowed := true }
def ProdPartsUptoSaid : Prop := prodPartsUptoRow.holds Try.pinned (OpenSpec.upto prodPartsSpec)

/-- 'radicandlaw03.ProdSums', WHERE WHAT IT READS IS OF BULK AT MOST 1048576: true; the input reads as it did. -/
def prodSumsUptoRow : OpenClaim := { program := "ytenbomfoihajhaa", sum := "21d7715ca09cafd5ac89b4b7e7c93f2e0d098f835079e293c96097e6e924dccf", func := "radicand/radicandlaw03.ProdSums", spec := "prodSums", inPlace := ["math/bits.Add64"], unfollowed := true, recurses := true, apart := false, narrowed := true }
def ProdSumsUptoSaid : Prop := prodSumsUptoRow.holds Try.pinned (OpenSpec.upto prodSumsSpec)

/-- 'radicandlaw04.DigitsHex', WHERE WHAT IT READS IS OF BULK AT MOST 1048576: true; the input reads as it did. -/
def digitsHexUptoRow : OpenClaim := { program := "ytenbomfoihajhaa", sum := "21d7715ca09cafd5ac89b4b7e7c93f2e0d098f835079e293c96097e6e924dccf", func := "radicand/radicandlaw04.DigitsHex", spec := "digitsHex", inPlace := ["internal/abi.NoEscape", "math/bits.Add64", "math/bits.Sub64"], unfollowed := true, recurses := true, apart := false, narrowed := true }
def DigitsHexUptoSaid : Prop := digitsHexUptoRow.holds Try.pinned (OpenSpec.upto digitsHexSpec)

/-- 'radicandlaw04.DigitsDecimal', WHERE WHAT IT READS IS OF BULK AT MOST 1048576: true; the input reads as it did. -/
def digitsDecimalUptoRow : OpenClaim := { program := "ytenbomfoihajhaa", sum := "21d7715ca09cafd5ac89b4b7e7c93f2e0d098f835079e293c96097e6e924dccf", func := "radicand/radicandlaw04.DigitsDecimal", spec := "digitsDecimal", inPlace := ["math/bits.Add64", "math/bits.Sub64", "internal/abi.NoEscape"], unfollowed := true, recurses := true, apart := false, narrowed := true }
def DigitsDecimalUptoSaid : Prop := digitsDecimalUptoRow.holds Try.pinned (OpenSpec.upto digitsDecimalSpec)

/-- 'radicandlaw04.DigitsRead', WHERE WHAT IT READS IS OF BULK AT MOST 1048576: true; the input reads as it did. -/
def digitsReadUptoRow : OpenClaim := { program := "ytenbomfoihajhaa", sum := "21d7715ca09cafd5ac89b4b7e7c93f2e0d098f835079e293c96097e6e924dccf", func := "radicand/radicandlaw04.DigitsRead", spec := "digitsRead", inPlace := ["internal/abi.NoEscape", "math/bits.Add64", "math/bits.Sub64"], unfollowed := true, recurses := true, apart := false, narrowed := true }
def DigitsReadUptoSaid : Prop := digitsReadUptoRow.holds Try.pinned (OpenSpec.upto digitsReadSpec)

/-- 'radicandlaw04.DigitsWords', WHERE WHAT IT READS IS OF BULK AT MOST 1048576: true; the input reads as it did. -/
def digitsWordsUptoRow : OpenClaim := { program := "ytenbomfoihajhaa", sum := "21d7715ca09cafd5ac89b4b7e7c93f2e0d098f835079e293c96097e6e924dccf", func := "radicand/radicandlaw04.DigitsWords", spec := "digitsWords", inPlace := ["internal/abi.NoEscape", "math/bits.Add64", "math/bits.Sub64"], unfollowed := true, recurses := true, apart := false, narrowed := true }
def DigitsWordsUptoSaid : Prop := digitsWordsUptoRow.holds Try.pinned (OpenSpec.upto digitsWordsSpec)

/-- 'radicandlaw04.DigitsInts', WHERE WHAT IT READS IS OF BULK AT MOST 1048576: true; the input reads as it did. -/
def digitsIntsUptoRow : OpenClaim := { program := "ytenbomfoihajhaa", sum := "21d7715ca09cafd5ac89b4b7e7c93f2e0d098f835079e293c96097e6e924dccf", func := "radicand/radicandlaw04.DigitsInts", spec := "digitsInts", inPlace := ["internal/abi.NoEscape", "math/bits.Add64", "math/bits.Sub64"], unfollowed := true, recurses := true, apart := false, narrowed := true }
def DigitsIntsUptoSaid : Prop := digitsIntsUptoRow.holds Try.pinned (OpenSpec.upto digitsIntsSpec)

end Rows
end Go.Proofs.Ytenbomfoihajhaa
