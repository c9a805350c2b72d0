/-
  No cell of these rows narrows 'for every input' (looked for: loops, veiled, ifaces, maps, wideKeys, modest, calm, conditions, laid).
  DERIVED. THE GIVEN ROWS OF THIS SEAT. 10 by the template 'for every input the law returns true; each argument reads behind the call as it read before'; 0 by the template 'total and deterministic' (their statements: YtmbbhagjfgjhgaaTotals.lean).
  GIVEN WITH THE SEED: the statements are not yours to turn. If you find one false, say at which input.
  Laid BY PROGRAM, IN A SANDBOX (cutbox-rows.mjs): the forced cells as the released guide's own fill.sh prints them over the translation 1659ebcb6f011adf… (all of the seat's roots in one cut). By AI agents, Wed Nov 11 2026. No macro, syntax, notation, axiom, sorry.
-/
import Derived.Test.YtmbbhagjfgjhgaaChecked
import GoSem.Claim
import GoSem.ClaimJoined
import GoSem.ClaimMapViews
import Derived.JoinedTies
import Derived.KernelRfl
namespace Go.Proofs.Ytmbbhagjfgjhgaa
/- THE CELL 'sum', in the pinned program and in every row, IS THE sha256 OF THE DUMP (.gsa) THAT YtmbbhagjfgjhgaaProg.lean LOADS. Nothing in Lean hashes anything: it is a label: what it is worth is what the hold of that sum in a sandbox is worth. -/
noncomputable def Try.pinned : Pinned := { name := "ytmbbhagjfgjhgaa", sum := "1659ebcb6f011adfba2b1711b8724db51edbdb86da96a6606fd58cd1177256ce", checked := Try.checked }
namespace Rows
def none {H : Type} : Left H := { results := [], args := [] }

/-- 'radicandlaw11.Radix2Divides': WHATEVER THE INPUT: true; the input reads as it did. -/
def radix2DividesSpec : ChangeSpec := { name := "radix2Divides", fn := fun _ => fun
  | [d1, d2] => { results := [.lit (.bool true)], args := [d1, d2] }
  | _ => none }
def radix2DividesRow : OpenClaim := { program := "ytmbbhagjfgjhgaa", sum := "1659ebcb6f011adfba2b1711b8724db51edbdb86da96a6606fd58cd1177256ce", func := "radicand/radicandlaw11.Radix2Divides", spec := "radix2Divides", inPlace := ["math/bits.Add64", "math/bits.Sub64"], unfollowed := true, recurses := true, apart := false }
def Radix2DividesSaid : Prop := radix2DividesRow.holds Try.pinned (OpenSpec.ofChange radix2DividesSpec)

/-- ITS FALSE NEIGHBOUR: 'it returns false'. Refute it at one input. -/
def radix2DividesWrong : ChangeSpec := { name := "radix2Divides", fn := fun _ => fun
  | [d1, d2] => { results := [.lit (.bool false)], args := [d1, d2] }
  | _ => none }
def Radix2DividesWrongFalsely : Prop := radix2DividesRow.holds Try.pinned (OpenSpec.ofChange radix2DividesWrong)

/-- 'radicandlaw11.Radix2Digits': WHATEVER THE INPUT: true; the input reads as it did. -/
def radix2DigitsSpec : ChangeSpec := { name := "radix2Digits", fn := fun _ => fun
  | [d1, d2] => { results := [.lit (.bool true)], args := [d1, d2] }
  | _ => none }
def radix2DigitsRow : OpenClaim := { program := "ytmbbhagjfgjhgaa", sum := "1659ebcb6f011adfba2b1711b8724db51edbdb86da96a6606fd58cd1177256ce", func := "radicand/radicandlaw11.Radix2Digits", spec := "radix2Digits", inPlace := ["math/bits.Sub64", "math/bits.Add64"], unfollowed := true, recurses := true, apart := false }
def Radix2DigitsSaid : Prop := radix2DigitsRow.holds Try.pinned (OpenSpec.ofChange radix2DigitsSpec)

/-- ITS FALSE NEIGHBOUR: 'it returns false'. Refute it at one input. -/
def radix2DigitsWrong : ChangeSpec := { name := "radix2Digits", fn := fun _ => fun
  | [d1, d2] => { results := [.lit (.bool false)], args := [d1, d2] }
  | _ => none }
def Radix2DigitsWrongFalsely : Prop := radix2DigitsRow.holds Try.pinned (OpenSpec.ofChange radix2DigitsWrong)

/-- 'radicandlaw11.Radix2Steps': WHATEVER THE INPUT: true; the input reads as it did. -/
def radix2StepsSpec : ChangeSpec := { name := "radix2Steps", fn := fun _ => fun
  | [d1, d2, d3] => { results := [.lit (.bool true)], args := [d1, d2, d3] }
  | _ => none }
def radix2StepsRow : OpenClaim := { program := "ytmbbhagjfgjhgaa", sum := "1659ebcb6f011adfba2b1711b8724db51edbdb86da96a6606fd58cd1177256ce", func := "radicand/radicandlaw11.Radix2Steps", spec := "radix2Steps", inPlace := ["math/bits.Sub64", "math/bits.Add64"], unfollowed := true, recurses := true, apart := false }
def Radix2StepsSaid : Prop := radix2StepsRow.holds Try.pinned (OpenSpec.ofChange radix2StepsSpec)

/-- ITS FALSE NEIGHBOUR: 'it returns false'. Refute it at one input. -/
def radix2StepsWrong : ChangeSpec := { name := "radix2Steps", fn := fun _ => fun
  | [d1, d2, d3] => { results := [.lit (.bool false)], args := [d1, d2, d3] }
  | _ => none }
def Radix2StepsWrongFalsely : Prop := radix2StepsRow.holds Try.pinned (OpenSpec.ofChange radix2StepsWrong)

/-- 'radicandlaw11.Radix2Fractions': WHATEVER THE INPUT: true; the input reads as it did. -/
def radix2FractionsSpec : ChangeSpec := { name := "radix2Fractions", fn := fun _ => fun
  | [d1, d2, d3] => { results := [.lit (.bool true)], args := [d1, d2, d3] }
  | _ => none }
def radix2FractionsRow : OpenClaim := { program := "ytmbbhagjfgjhgaa", sum := "1659ebcb6f011adfba2b1711b8724db51edbdb86da96a6606fd58cd1177256ce", func := "radicand/radicandlaw11.Radix2Fractions", spec := "radix2Fractions", inPlace := ["math/bits.Add64", "math/bits.Sub64"], unfollowed := true, recurses := true, apart := false }
def Radix2FractionsSaid : Prop := radix2FractionsRow.holds Try.pinned (OpenSpec.ofChange radix2FractionsSpec)

/-- ITS FALSE NEIGHBOUR: 'it returns false'. Refute it at one input. -/
def radix2FractionsWrong : ChangeSpec := { name := "radix2Fractions", fn := fun _ => fun
  | [d1, d2, d3] => { results := [.lit (.bool false)], args := [d1, d2, d3] }
  | _ => none }
def Radix2FractionsWrongFalsely : Prop := radix2FractionsRow.holds Try.pinned (OpenSpec.ofChange radix2FractionsWrong)

/-- 'radicandlaw11.Radix2Back': WHATEVER THE INPUT: true; the input reads as it did. -/
def radix2BackSpec : ChangeSpec := { name := "radix2Back", fn := fun _ => fun
  | [d1, d2, d3] => { results := [.lit (.bool true)], args := [d1, d2, d3] }
  | _ => none }
def radix2BackRow : OpenClaim := { program := "ytmbbhagjfgjhgaa", sum := "1659ebcb6f011adfba2b1711b8724db51edbdb86da96a6606fd58cd1177256ce", func := "radicand/radicandlaw11.Radix2Back", spec := "radix2Back", inPlace := ["math/bits.Add64", "math/bits.Sub64"], unfollowed := true, recurses := true, apart := false }
def Radix2BackSaid : Prop := radix2BackRow.holds Try.pinned (OpenSpec.ofChange radix2BackSpec)

/-- ITS FALSE NEIGHBOUR: 'it returns false'. Refute it at one input. -/
def radix2BackWrong : ChangeSpec := { name := "radix2Back", fn := fun _ => fun
  | [d1, d2, d3] => { results := [.lit (.bool false)], args := [d1, d2, d3] }
  | _ => none }
def Radix2BackWrongFalsely : Prop := radix2BackRow.holds Try.pinned (OpenSpec.ofChange radix2BackWrong)

/-- 'radicandlaw12.Root2Roots': WHATEVER THE INPUT: true; the input reads as it did. -/
def root2RootsSpec : ChangeSpec := { name := "root2Roots", fn := fun _ => fun
  | [d] => { results := [.lit (.bool true)], args := [d] }
  | _ => none }
def root2RootsRow : OpenClaim := { program := "ytmbbhagjfgjhgaa", sum := "1659ebcb6f011adfba2b1711b8724db51edbdb86da96a6606fd58cd1177256ce", func := "radicand/radicandlaw12.Root2Roots", spec := "root2Roots", inPlace := ["math/bits.Sub64", "math/bits.Add64"], unfollowed := true, recurses := true, apart := false }
def Root2RootsSaid : Prop := root2RootsRow.holds Try.pinned (OpenSpec.ofChange root2RootsSpec)

/-- ITS FALSE NEIGHBOUR: 'it returns false'. Refute it at one input. -/
def root2RootsWrong : ChangeSpec := { name := "root2Roots", fn := fun _ => fun
  | [d] => { results := [.lit (.bool false)], args := [d] }
  | _ => none }
def Root2RootsWrongFalsely : Prop := root2RootsRow.holds Try.pinned (OpenSpec.ofChange root2RootsWrong)

/-- 'radicandlaw12.Root2Digits': WHATEVER THE INPUT: true; the input reads as it did. -/
def root2DigitsSpec : ChangeSpec := { name := "root2Digits", fn := fun _ => fun
  | [d] => { results := [.lit (.bool true)], args := [d] }
  | _ => none }
def root2DigitsRow : OpenClaim := { program := "ytmbbhagjfgjhgaa", sum := "1659ebcb6f011adfba2b1711b8724db51edbdb86da96a6606fd58cd1177256ce", func := "radicand/radicandlaw12.Root2Digits", spec := "root2Digits", inPlace := ["math/bits.Sub64", "math/bits.Add64"], unfollowed := true, recurses := true, apart := false }
def Root2DigitsSaid : Prop := root2DigitsRow.holds Try.pinned (OpenSpec.ofChange root2DigitsSpec)

/-- ITS FALSE NEIGHBOUR: 'it returns false'. Refute it at one input. -/
def root2DigitsWrong : ChangeSpec := { name := "root2Digits", fn := fun _ => fun
  | [d] => { results := [.lit (.bool false)], args := [d] }
  | _ => none }
def Root2DigitsWrongFalsely : Prop := root2DigitsRow.holds Try.pinned (OpenSpec.ofChange root2DigitsWrong)

/-- 'radicandlaw12.Root2Cubes': WHATEVER THE INPUT: true; the input reads as it did. -/
def root2CubesSpec : ChangeSpec := { name := "root2Cubes", fn := fun _ => fun
  | [d] => { results := [.lit (.bool true)], args := [d] }
  | _ => none }
def root2CubesRow : OpenClaim := { program := "ytmbbhagjfgjhgaa", sum := "1659ebcb6f011adfba2b1711b8724db51edbdb86da96a6606fd58cd1177256ce", func := "radicand/radicandlaw12.Root2Cubes", spec := "root2Cubes", inPlace := ["math/bits.Sub64", "math/bits.Add64"], unfollowed := true, recurses := true, apart := false }
def Root2CubesSaid : Prop := root2CubesRow.holds Try.pinned (OpenSpec.ofChange root2CubesSpec)

/-- ITS FALSE NEIGHBOUR: 'it returns false'. Refute it at one input. -/
def root2CubesWrong : ChangeSpec := { name := "root2Cubes", fn := fun _ => fun
  | [d] => { results := [.lit (.bool false)], args := [d] }
  | _ => none }
def Root2CubesWrongFalsely : Prop := root2CubesRow.holds Try.pinned (OpenSpec.ofChange root2CubesWrong)

/-- 'radicandlaw12.Root2Rounds': WHATEVER THE INPUT: true; the input reads as it did. -/
def root2RoundsSpec : ChangeSpec := { name := "root2Rounds", fn := fun _ => fun
  | [d] => { results := [.lit (.bool true)], args := [d] }
  | _ => none }
def root2RoundsRow : OpenClaim := { program := "ytmbbhagjfgjhgaa", sum := "1659ebcb6f011adfba2b1711b8724db51edbdb86da96a6606fd58cd1177256ce", func := "radicand/radicandlaw12.Root2Rounds", spec := "root2Rounds", inPlace := ["math/bits.Sub64", "math/bits.Add64"], unfollowed := true, recurses := true, apart := false }
def Root2RoundsSaid : Prop := root2RoundsRow.holds Try.pinned (OpenSpec.ofChange root2RoundsSpec)

/-- ITS FALSE NEIGHBOUR: 'it returns false'. Refute it at one input. -/
def root2RoundsWrong : ChangeSpec := { name := "root2Rounds", fn := fun _ => fun
  | [d] => { results := [.lit (.bool false)], args := [d] }
  | _ => none }
def Root2RoundsWrongFalsely : Prop := root2RoundsRow.holds Try.pinned (OpenSpec.ofChange root2RoundsWrong)

/-- 'radicandlaw12.Root2Squares': WHATEVER THE INPUT: true; the input reads as it did. -/
def root2SquaresSpec : ChangeSpec := { name := "root2Squares", fn := fun _ => fun
  | [d1, d2] => { results := [.lit (.bool true)], args := [d1, d2] }
  | _ => none }
def root2SquaresRow : OpenClaim := { program := "ytmbbhagjfgjhgaa", sum := "1659ebcb6f011adfba2b1711b8724db51edbdb86da96a6606fd58cd1177256ce", func := "radicand/radicandlaw12.Root2Squares", spec := "root2Squares", inPlace := ["math/bits.Sub64", "math/bits.Add64"], unfollowed := true, recurses := true, apart := false }
def Root2SquaresSaid : Prop := root2SquaresRow.holds Try.pinned (OpenSpec.ofChange root2SquaresSpec)

/-- ITS FALSE NEIGHBOUR: 'it returns false'. Refute it at one input. -/
def root2SquaresWrong : ChangeSpec := { name := "root2Squares", fn := fun _ => fun
  | [d1, d2] => { results := [.lit (.bool false)], args := [d1, d2] }
  | _ => none }
def Root2SquaresWrongFalsely : Prop := root2SquaresRow.holds Try.pinned (OpenSpec.ofChange root2SquaresWrong)

/- THE SECOND FORM. 'bulk': how many values and letters a reading holds, each counted each time it is reached (what is shared counts as often as it is met; a slice's spare places count too). A statement '..UptoSaid' is the law's where the arguments, and the package variables that the reading takes, are together of bulk at most 1048576: NARROWER than '..Said'. Prove '..Said' where nothing that the law and all that it calls make is longer than what came in: it says more and counts as full. Else prove '..UptoSaid'. A law counts once. -/
mutual
def uptoBulk {H : Type} : DataW H → Nat
  | .lit (.string bytes) => bytes.length + 1
  | .lit _ => 1
  | .nil => 1
  | .ptr d => uptoBulk d + 1
  | .slice elems spare => uptoBulkAll elems + uptoBulkAll spare + 1
  | .agg parts => uptoBulkAll parts + 1
  | .iface _ d => uptoBulk d + 1
  | .map entries => uptoBulkEntries entries + 1
  | .held _ => 1
def uptoBulkAll {H : Type} : List (DataW H) → Nat
  | [] => 0
  | d :: r => uptoBulk d + uptoBulkAll r
def uptoBulkEntries {H : Type} : List (Lit × DataW H) → Nat
  | [] => 0
  | x :: r => uptoBulkEntry x + uptoBulkEntries r
def uptoBulkEntry {H : Type} : Lit × DataW H → Nat
  | (.string bytes, d) => bytes.length + uptoBulk d + 1
  | (_, d) => uptoBulk d + 1
 end
def uptoSmall : (H : Type) → List (DataW H) → Bool := fun _ ds => decide (uptoBulkAll ds ≤ 1048576)
def OpenSpec.upto (s : _root_.Go.ChangeSpec) : _root_.Go.OpenSpec := { _root_.Go.OpenSpec.ofChange s with cond := some uptoSmall }

/-- 'radicandlaw11.Radix2Divides', WHERE WHAT IT READS IS OF BULK AT MOST 1048576: true; the input reads as it did. -/
def radix2DividesUptoRow : OpenClaim := { program := "ytmbbhagjfgjhgaa", sum := "1659ebcb6f011adfba2b1711b8724db51edbdb86da96a6606fd58cd1177256ce", func := "radicand/radicandlaw11.Radix2Divides", spec := "radix2Divides", inPlace := ["math/bits.Add64", "math/bits.Sub64"], unfollowed := true, recurses := true, apart := false, narrowed := true }
def Radix2DividesUptoSaid : Prop := radix2DividesUptoRow.holds Try.pinned (OpenSpec.upto radix2DividesSpec)

/-- 'radicandlaw11.Radix2Digits', WHERE WHAT IT READS IS OF BULK AT MOST 1048576: true; the input reads as it did. -/
def radix2DigitsUptoRow : OpenClaim := { program := "ytmbbhagjfgjhgaa", sum := "1659ebcb6f011adfba2b1711b8724db51edbdb86da96a6606fd58cd1177256ce", func := "radicand/radicandlaw11.Radix2Digits", spec := "radix2Digits", inPlace := ["math/bits.Sub64", "math/bits.Add64"], unfollowed := true, recurses := true, apart := false, narrowed := true }
def Radix2DigitsUptoSaid : Prop := radix2DigitsUptoRow.holds Try.pinned (OpenSpec.upto radix2DigitsSpec)

/-- 'radicandlaw11.Radix2Steps', WHERE WHAT IT READS IS OF BULK AT MOST 1048576: true; the input reads as it did. -/
def radix2StepsUptoRow : OpenClaim := { program := "ytmbbhagjfgjhgaa", sum := "1659ebcb6f011adfba2b1711b8724db51edbdb86da96a6606fd58cd1177256ce", func := "radicand/radicandlaw11.Radix2Steps", spec := "radix2Steps", inPlace := ["math/bits.Sub64", "math/bits.Add64"], unfollowed := true, recurses := true, apart := false, narrowed := true }
def Radix2StepsUptoSaid : Prop := radix2StepsUptoRow.holds Try.pinned (OpenSpec.upto radix2StepsSpec)

/-- 'radicandlaw11.Radix2Fractions', WHERE WHAT IT READS IS OF BULK AT MOST 1048576: true; the input reads as it did. -/
def radix2FractionsUptoRow : OpenClaim := { program := "ytmbbhagjfgjhgaa", sum := "1659ebcb6f011adfba2b1711b8724db51edbdb86da96a6606fd58cd1177256ce", func := "radicand/radicandlaw11.Radix2Fractions", spec := "radix2Fractions", inPlace := ["math/bits.Add64", "math/bits.Sub64"], unfollowed := true, recurses := true, apart := false, narrowed := true }
def Radix2FractionsUptoSaid : Prop := radix2FractionsUptoRow.holds Try.pinned (OpenSpec.upto radix2FractionsSpec)

/-- 'radicandlaw11.Radix2Back', WHERE WHAT IT READS IS OF BULK AT MOST 1048576: true; the input reads as it did. -/
def radix2BackUptoRow : OpenClaim := { program := "ytmbbhagjfgjhgaa", sum := "1659ebcb6f011adfba2b1711b8724db51edbdb86da96a6606fd58cd1177256ce", func := "radicand/radicandlaw11.Radix2Back", spec := "radix2Back", inPlace := ["math/bits.Add64", "math/bits.Sub64"], unfollowed := true, recurses := true, apart := false, narrowed := true }
def Radix2BackUptoSaid : Prop := radix2BackUptoRow.holds Try.pinned (OpenSpec.upto radix2BackSpec)

/-- 'radicandlaw12.Root2Roots', WHERE WHAT IT READS IS OF BULK AT MOST 1048576: true; the input reads as it did. -/
def root2RootsUptoRow : OpenClaim := { program := "ytmbbhagjfgjhgaa", sum := "1659ebcb6f011adfba2b1711b8724db51edbdb86da96a6606fd58cd1177256ce", func := "radicand/radicandlaw12.Root2Roots", spec := "root2Roots", inPlace := ["math/bits.Sub64", "math/bits.Add64"], unfollowed := true, recurses := true, apart := false, narrowed := true }
def Root2RootsUptoSaid : Prop := root2RootsUptoRow.holds Try.pinned (OpenSpec.upto root2RootsSpec)

/-- 'radicandlaw12.Root2Digits', WHERE WHAT IT READS IS OF BULK AT MOST 1048576: true; the input reads as it did. -/
def root2DigitsUptoRow : OpenClaim := { program := "ytmbbhagjfgjhgaa", sum := "1659ebcb6f011adfba2b1711b8724db51edbdb86da96a6606fd58cd1177256ce", func := "radicand/radicandlaw12.Root2Digits", spec := "root2Digits", inPlace := ["math/bits.Sub64", "math/bits.Add64"], unfollowed := true, recurses := true, apart := false, narrowed := true }
def Root2DigitsUptoSaid : Prop := root2DigitsUptoRow.holds Try.pinned (OpenSpec.upto root2DigitsSpec)

/-- 'radicandlaw12.Root2Cubes', WHERE WHAT IT READS IS OF BULK AT MOST 1048576: true; the input reads as it did. -/
def root2CubesUptoRow : OpenClaim := { program := "ytmbbhagjfgjhgaa", sum := "1659ebcb6f011adfba2b1711b8724db51edbdb86da96a6606fd58cd1177256ce", func := "radicand/radicandlaw12.Root2Cubes", spec := "root2Cubes", inPlace := ["math/bits.Sub64", "math/bits.Add64"], unfollowed := true, recurses := true, apart := false, narrowed := true }
def Root2CubesUptoSaid : Prop := root2CubesUptoRow.holds Try.pinned (OpenSpec.upto root2CubesSpec)

/-- 'radicandlaw12.Root2Rounds', WHERE WHAT IT READS IS OF BULK AT MOST 1048576: true; the input reads as it did. -/
def root2RoundsUptoRow : OpenClaim := { program := "ytmbbhagjfgjhgaa", sum := "1659ebcb6f011adfba2b1711b8724db51edbdb86da96a6606fd58cd1177256ce", func := "radicand/radicandlaw12.Root2Rounds", spec := "root2Rounds", inPlace := ["math/bits.Sub64", "math/bits.Add64"], unfollowed := true, recurses := true, apart := false, narrowed := true }
def Root2RoundsUptoSaid : Prop := root2RoundsUptoRow.holds Try.pinned (OpenSpec.upto root2RoundsSpec)

/-- 'radicandlaw12.Root2Squares', WHERE WHAT IT READS IS OF BULK AT MOST 1048576: true; the input reads as it did. -/
def root2SquaresUptoRow : OpenClaim := { program := "ytmbbhagjfgjhgaa", sum := "1659ebcb6f011adfba2b1711b8724db51edbdb86da96a6606fd58cd1177256ce", func := "radicand/radicandlaw12.Root2Squares", spec := "root2Squares", inPlace := ["math/bits.Sub64", "math/bits.Add64"], unfollowed := true, recurses := true, apart := false, narrowed := true }
def Root2SquaresUptoSaid : Prop := root2SquaresUptoRow.holds Try.pinned (OpenSpec.upto root2SquaresSpec)

end Rows
end Go.Proofs.Ytmbbhagjfgjhgaa
