/-
  No cell of these rows narrows 'for every input' (looked for: loops, veiled, ifaces, maps, wideKeys, modest, calm, conditions, laid).
  DERIVED. THE GIVEN ROWS OF THIS SEAT. 5 by the template 'for every input the law returns true; each argument reads behind the call as it read before'; 0 by the template 'total and deterministic' (their statements: YtjklehlkgccmnaaTotals.lean).
  GIVEN WITH THE SEED: the statements are not yours to turn. If you find one false, say at which input.
  Laid BY PROGRAM, IN A SANDBOX (cutbox-rows.mjs): the forced cells as the released guide's own fill.sh prints them over the translation 9eac7b94a6352793… (all of the seat's roots in one cut). By AI agents, Wed Nov 11 2026. No macro, syntax, notation, axiom, sorry.
-/
import Derived.Test.YtjklehlkgccmnaaChecked
import GoSem.Claim
import GoSem.ClaimJoined
import GoSem.ClaimMapViews
import Derived.JoinedTies
import Derived.KernelRfl
namespace Go.Proofs.Ytjklehlkgccmnaa
/- THE CELL 'sum', in the pinned program and in every row, IS THE sha256 OF THE DUMP (.gsa) THAT YtjklehlkgccmnaaProg.lean LOADS. Nothing in Lean hashes anything: it is a label: what it is worth is what the hold of that sum in a sandbox is worth. -/
noncomputable def Try.pinned : Pinned := { name := "ytjklehlkgccmnaa", sum := "9eac7b94a63527938b628815520e4a8c69b7f58bf3db1a6662498cabab328951", checked := Try.checked }
namespace Rows
def none {H : Type} : Left H := { results := [], args := [] }

/-- 'radicandlaw04.DigitsHex': WHATEVER THE INPUT: true; the input reads as it did. -/
def digitsHexSpec : ChangeSpec := { name := "digitsHex", fn := fun _ => fun
  | [d] => { results := [.lit (.bool true)], args := [d] }
  | _ => none }
def digitsHexRow : OpenClaim := { program := "ytjklehlkgccmnaa", sum := "9eac7b94a63527938b628815520e4a8c69b7f58bf3db1a6662498cabab328951", func := "radicand/radicandlaw04.DigitsHex", spec := "digitsHex", inPlace := ["internal/abi.NoEscape", "math/bits.Add64", "math/bits.Sub64"], unfollowed := true, recurses := true, apart := false }
def DigitsHexSaid : Prop := digitsHexRow.holds Try.pinned (OpenSpec.ofChange digitsHexSpec)

/-- ITS FALSE NEIGHBOUR: 'it returns false'. Refute it at one input. -/
def digitsHexWrong : ChangeSpec := { name := "digitsHex", fn := fun _ => fun
  | [d] => { results := [.lit (.bool false)], args := [d] }
  | _ => none }
def DigitsHexWrongFalsely : Prop := digitsHexRow.holds Try.pinned (OpenSpec.ofChange digitsHexWrong)

/-- 'radicandlaw04.DigitsDecimal': WHATEVER THE INPUT: true; the input reads as it did. -/
def digitsDecimalSpec : ChangeSpec := { name := "digitsDecimal", fn := fun _ => fun
  | [d] => { results := [.lit (.bool true)], args := [d] }
  | _ => none }
def digitsDecimalRow : OpenClaim := { program := "ytjklehlkgccmnaa", sum := "9eac7b94a63527938b628815520e4a8c69b7f58bf3db1a6662498cabab328951", func := "radicand/radicandlaw04.DigitsDecimal", spec := "digitsDecimal", inPlace := ["math/bits.Add64", "math/bits.Sub64", "internal/abi.NoEscape"], unfollowed := true, recurses := true, apart := false }
def DigitsDecimalSaid : Prop := digitsDecimalRow.holds Try.pinned (OpenSpec.ofChange digitsDecimalSpec)

/-- ITS FALSE NEIGHBOUR: 'it returns false'. Refute it at one input. -/
def digitsDecimalWrong : ChangeSpec := { name := "digitsDecimal", fn := fun _ => fun
  | [d] => { results := [.lit (.bool false)], args := [d] }
  | _ => none }
def DigitsDecimalWrongFalsely : Prop := digitsDecimalRow.holds Try.pinned (OpenSpec.ofChange digitsDecimalWrong)

/-- 'radicandlaw04.DigitsRead': WHATEVER THE INPUT: true; the input reads as it did. -/
def digitsReadSpec : ChangeSpec := { name := "digitsRead", fn := fun _ => fun
  | [d] => { results := [.lit (.bool true)], args := [d] }
  | _ => none }
def digitsReadRow : OpenClaim := { program := "ytjklehlkgccmnaa", sum := "9eac7b94a63527938b628815520e4a8c69b7f58bf3db1a6662498cabab328951", func := "radicand/radicandlaw04.DigitsRead", spec := "digitsRead", inPlace := ["internal/abi.NoEscape", "math/bits.Add64", "math/bits.Sub64"], unfollowed := true, recurses := true, apart := false }
def DigitsReadSaid : Prop := digitsReadRow.holds Try.pinned (OpenSpec.ofChange digitsReadSpec)

/-- ITS FALSE NEIGHBOUR: 'it returns false'. Refute it at one input. -/
def digitsReadWrong : ChangeSpec := { name := "digitsRead", fn := fun _ => fun
  | [d] => { results := [.lit (.bool false)], args := [d] }
  | _ => none }
def DigitsReadWrongFalsely : Prop := digitsReadRow.holds Try.pinned (OpenSpec.ofChange digitsReadWrong)

/-- 'radicandlaw04.DigitsWords': WHATEVER THE INPUT: true; the input reads as it did. -/
def digitsWordsSpec : ChangeSpec := { name := "digitsWords", fn := fun _ => fun
  | [d1, d2, d3] => { results := [.lit (.bool true)], args := [d1, d2, d3] }
  | _ => none }
def digitsWordsRow : OpenClaim := { program := "ytjklehlkgccmnaa", sum := "9eac7b94a63527938b628815520e4a8c69b7f58bf3db1a6662498cabab328951", func := "radicand/radicandlaw04.DigitsWords", spec := "digitsWords", inPlace := ["internal/abi.NoEscape", "math/bits.Add64", "math/bits.Sub64"], unfollowed := true, recurses := true, apart := false }
def DigitsWordsSaid : Prop := digitsWordsRow.holds Try.pinned (OpenSpec.ofChange digitsWordsSpec)

/-- ITS FALSE NEIGHBOUR: 'it returns false'. Refute it at one input. -/
def digitsWordsWrong : ChangeSpec := { name := "digitsWords", fn := fun _ => fun
  | [d1, d2, d3] => { results := [.lit (.bool false)], args := [d1, d2, d3] }
  | _ => none }
def DigitsWordsWrongFalsely : Prop := digitsWordsRow.holds Try.pinned (OpenSpec.ofChange digitsWordsWrong)

/-- 'radicandlaw04.DigitsInts': WHATEVER THE INPUT: true; the input reads as it did. -/
def digitsIntsSpec : ChangeSpec := { name := "digitsInts", fn := fun _ => fun
  | [d1, d2] => { results := [.lit (.bool true)], args := [d1, d2] }
  | _ => none }
def digitsIntsRow : OpenClaim := { program := "ytjklehlkgccmnaa", sum := "9eac7b94a63527938b628815520e4a8c69b7f58bf3db1a6662498cabab328951", func := "radicand/radicandlaw04.DigitsInts", spec := "digitsInts", inPlace := ["internal/abi.NoEscape", "math/bits.Add64", "math/bits.Sub64"], unfollowed := true, recurses := true, apart := false }
def DigitsIntsSaid : Prop := digitsIntsRow.holds Try.pinned (OpenSpec.ofChange digitsIntsSpec)

/-- ITS FALSE NEIGHBOUR: 'it returns false'. Refute it at one input. -/
def digitsIntsWrong : ChangeSpec := { name := "digitsInts", fn := fun _ => fun
  | [d1, d2] => { results := [.lit (.bool false)], args := [d1, d2] }
  | _ => none }
def DigitsIntsWrongFalsely : Prop := digitsIntsRow.holds Try.pinned (OpenSpec.ofChange digitsIntsWrong)

/- THE SECOND FORM. 'bulk': how many values and letters a reading holds, each counted each time it is reached (what is shared counts as often as it is met; a slice's spare places count too). A statement '..UptoSaid' is the law's where the arguments, and the package variables that the reading takes, are together of bulk at most 1048576: NARROWER than '..Said'. Prove '..Said' where nothing that the law and all that it calls make is longer than what came in: it says more and counts as full. Else prove '..UptoSaid'. A law counts once. -/
mutual
def uptoBulk {H : Type} : DataW H → Nat
  | .lit (.string bytes) => bytes.length + 1
  | .lit _ => 1
  | .nil => 1
  | .ptr d => uptoBulk d + 1
  | .slice elems spare => uptoBulkAll elems + uptoBulkAll spare + 1
  | .agg parts => uptoBulkAll parts + 1
  | .iface _ d => uptoBulk d + 1
  | .map entries => uptoBulkEntries entries + 1
  | .held _ => 1
def uptoBulkAll {H : Type} : List (DataW H) → Nat
  | [] => 0
  | d :: r => uptoBulk d + uptoBulkAll r
def uptoBulkEntries {H : Type} : List (Lit × DataW H) → Nat
  | [] => 0
  | x :: r => uptoBulkEntry x + uptoBulkEntries r
def uptoBulkEntry {H : Type} : Lit × DataW H → Nat
  | (.string bytes, d) => bytes.length + uptoBulk d + 1
  | (_, d) => uptoBulk d + 1
 end
def uptoSmall : (H : Type) → List (DataW H) → Bool := fun _ ds => decide (uptoBulkAll ds ≤ 1048576)
def OpenSpec.upto (s : _root_.Go.ChangeSpec) : _root_.Go.OpenSpec := { _root_.Go.OpenSpec.ofChange s with cond := some uptoSmall }

/-- 'radicandlaw04.DigitsHex', WHERE WHAT IT READS IS OF BULK AT MOST 1048576: true; the input reads as it did. -/
def digitsHexUptoRow : OpenClaim := { program := "ytjklehlkgccmnaa", sum := "9eac7b94a63527938b628815520e4a8c69b7f58bf3db1a6662498cabab328951", func := "radicand/radicandlaw04.DigitsHex", spec := "digitsHex", inPlace := ["internal/abi.NoEscape", "math/bits.Add64", "math/bits.Sub64"], unfollowed := true, recurses := true, apart := false, narrowed := true }
def DigitsHexUptoSaid : Prop := digitsHexUptoRow.holds Try.pinned (OpenSpec.upto digitsHexSpec)

/-- 'radicandlaw04.DigitsDecimal', WHERE WHAT IT READS IS OF BULK AT MOST 1048576: true; the input reads as it did. -/
def digitsDecimalUptoRow : OpenClaim := { program := "ytjklehlkgccmnaa", sum := "9eac7b94a63527938b628815520e4a8c69b7f58bf3db1a6662498cabab328951", func := "radicand/radicandlaw04.DigitsDecimal", spec := "digitsDecimal", inPlace := ["math/bits.Add64", "math/bits.Sub64", "internal/abi.NoEscape"], unfollowed := true, recurses := true, apart := false, narrowed := true }
def DigitsDecimalUptoSaid : Prop := digitsDecimalUptoRow.holds Try.pinned (OpenSpec.upto digitsDecimalSpec)

/-- 'radicandlaw04.DigitsRead', WHERE WHAT IT READS IS OF BULK AT MOST 1048576: true; the input reads as it did. -/
def digitsReadUptoRow : OpenClaim := { program := "ytjklehlkgccmnaa", sum := "9eac7b94a63527938b628815520e4a8c69b7f58bf3db1a6662498cabab328951", func := "radicand/radicandlaw04.DigitsRead", spec := "digitsRead", inPlace := ["internal/abi.NoEscape", "math/bits.Add64", "math/bits.Sub64"], unfollowed := true, recurses := true, apart := false, narrowed := true }
def DigitsReadUptoSaid : Prop := digitsReadUptoRow.holds Try.pinned (OpenSpec.upto digitsReadSpec)

/-- 'radicandlaw04.DigitsWords', WHERE WHAT IT READS IS OF BULK AT MOST 1048576: true; the input reads as it did. -/
def digitsWordsUptoRow : OpenClaim := { program := "ytjklehlkgccmnaa", sum := "9eac7b94a63527938b628815520e4a8c69b7f58bf3db1a6662498cabab328951", func := "radicand/radicandlaw04.DigitsWords", spec := "digitsWords", inPlace := ["internal/abi.NoEscape", "math/bits.Add64", "math/bits.Sub64"], unfollowed := true, recurses := true, apart := false, narrowed := true }
def DigitsWordsUptoSaid : Prop := digitsWordsUptoRow.holds Try.pinned (OpenSpec.upto digitsWordsSpec)

/-- 'radicandlaw04.DigitsInts', WHERE WHAT IT READS IS OF BULK AT MOST 1048576: true; the input reads as it did. -/
def digitsIntsUptoRow : OpenClaim := { program := "ytjklehlkgccmnaa", sum := "9eac7b94a63527938b628815520e4a8c69b7f58bf3db1a6662498cabab328951", func := "radicand/radicandlaw04.DigitsInts", spec := "digitsInts", inPlace := ["internal/abi.NoEscape", "math/bits.Add64", "math/bits.Sub64"], unfollowed := true, recurses := true, apart := false, narrowed := true }
def DigitsIntsUptoSaid : Prop := digitsIntsUptoRow.holds Try.pinned (OpenSpec.upto digitsIntsSpec)

end Rows
end Go.Proofs.Ytjklehlkgccmnaa
