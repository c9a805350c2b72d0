/-
  NARROWER THAN 'FOR EVERY INPUT', by the rows' own cells (each row's printed sentence says how): ClassOf: laid · ClassMakes: laid · ClassCounts: laid · ClassSigns: laid · UnpackValues: laid · UnpackExact: laid · UnpackCmp: laid · UnpackShort: laid · UnpackOrder: laid.
  DERIVED. THE GIVEN ROWS OF THIS SEAT. 9 by the template 'for every input the law returns true; each argument reads behind the call as it read before'; 0 by the template 'total and deterministic' (their statements: YtidfegilddlglaaDoorTotals.lean).
  GIVEN WITH THE SEED: the statements are not yours to turn. If you find one false, say at which input.
  Laid BY PROGRAM, IN A SANDBOX (cutbox-rows.mjs): the forced cells as the released guide's own fill.sh prints them over the translation cfaba4e09e213194… (all of the seat's roots in one cut). By AI agents, Wed Nov 11 2026. No macro, syntax, notation, axiom, sorry.
-/
import Derived.Test.YtidfegilddlglaaDoorChecked
import GoSem.Claim
import GoSem.ClaimJoined
import GoSem.ClaimMapViews
import Derived.JoinedTies
import Derived.KernelRfl
namespace Go.Proofs.YtidfegilddlglaaDoor
/- THE CELL 'sum', in the pinned program and in every row, IS THE sha256 OF THE DUMP (.gsa) THAT YtidfegilddlglaaDoorProg.lean LOADS. Nothing in Lean hashes anything: it is a label: what it is worth is what the hold of that sum in a sandbox is worth. -/
noncomputable def Tryd.pinned : Pinned := { name := "ytidfegilddlglaadoor", sum := "cfaba4e09e213194619ebc078b4b60d63381ddf0c478d1466e3d081393301d6f", checked := Tryd.checked }
namespace Rows
def none {H : Type} : Left H := { results := [], args := [] }

/- WHAT THE LISTED PACKAGE-LEVEL VARIABLES READ AS WHEN THE CALL BEGINS. Each datum BY PROGRAM (the guide's laid-datum.mjs) off the statement by which the dump's own 'gosem.cut.vars' lays the variable. In a bare row this is a premise. The card (YtidfegilddlglaaDoorCards.lean) ties it to the program's text. -/
def laid_radicand_format_formats {H : Type} : DataW H := .agg [.agg [.lit (.int .i64 16), .lit (.int .i64 11), .lit (.int .i64 15), .lit (.int .i64 (-14)), .lit (.int .i64 5)], .agg [.lit (.int .i64 32), .lit (.int .i64 24), .lit (.int .i64 127), .lit (.int .i64 (-126)), .lit (.int .i64 8)], .agg [.lit (.int .i64 64), .lit (.int .i64 53), .lit (.int .i64 1023), .lit (.int .i64 (-1022)), .lit (.int .i64 11)], .agg [.lit (.int .i64 128), .lit (.int .i64 113), .lit (.int .i64 16383), .lit (.int .i64 (-16382)), .lit (.int .i64 15)]]

/-- 'radicandlaw06.ClassOf': WHATEVER THE INPUT: true; the input reads as it did. -/
def classOfSpec : ChangeSpec := { name := "classOf", fn := fun _ => fun
  | [d1, d2] => { results := [.lit (.bool true)], args := [d1, d2] }
  | _ => none }
def classOfRow : OpenClaim := { program := "ytidfegilddlglaadoor", sum := "cfaba4e09e213194619ebc078b4b60d63381ddf0c478d1466e3d081393301d6f", func := "radicand/radicandlaw06.ClassOf", spec := "classOf", inPlace := ["math/bits.Sub64", "math/bits.Add64"], unfollowed := true, recurses := true, named := ["radicand/format.formats"], apart := false, laid := [("radicand/format.formats", laid_radicand_format_formats)] }
def ClassOfSaid : Prop := classOfRow.holds Tryd.pinned (OpenSpec.ofChange classOfSpec)

/-- ITS FALSE NEIGHBOUR: 'it returns false'. Refute it at one input. -/
def classOfWrong : ChangeSpec := { name := "classOf", fn := fun _ => fun
  | [d1, d2] => { results := [.lit (.bool false)], args := [d1, d2] }
  | _ => none }
def ClassOfWrongFalsely : Prop := classOfRow.holds Tryd.pinned (OpenSpec.ofChange classOfWrong)

/-- 'radicandlaw06.ClassMakes': WHATEVER THE INPUT: true; the input reads as it did. -/
def classMakesSpec : ChangeSpec := { name := "classMakes", fn := fun _ => fun
  | [d1, d2] => { results := [.lit (.bool true)], args := [d1, d2] }
  | _ => none }
def classMakesRow : OpenClaim := { program := "ytidfegilddlglaadoor", sum := "cfaba4e09e213194619ebc078b4b60d63381ddf0c478d1466e3d081393301d6f", func := "radicand/radicandlaw06.ClassMakes", spec := "classMakes", inPlace := ["math/bits.Add64", "math/bits.Sub64"], unfollowed := true, recurses := true, named := ["radicand/format.formats"], apart := false, laid := [("radicand/format.formats", laid_radicand_format_formats)] }
def ClassMakesSaid : Prop := classMakesRow.holds Tryd.pinned (OpenSpec.ofChange classMakesSpec)

/-- ITS FALSE NEIGHBOUR: 'it returns false'. Refute it at one input. -/
def classMakesWrong : ChangeSpec := { name := "classMakes", fn := fun _ => fun
  | [d1, d2] => { results := [.lit (.bool false)], args := [d1, d2] }
  | _ => none }
def ClassMakesWrongFalsely : Prop := classMakesRow.holds Tryd.pinned (OpenSpec.ofChange classMakesWrong)

/-- 'radicandlaw06.ClassCounts': WHATEVER THE INPUT: true; the input reads as it did. -/
def classCountsSpec : ChangeSpec := { name := "classCounts", fn := fun _ => fun
  | [d1, d2] => { results := [.lit (.bool true)], args := [d1, d2] }
  | _ => none }
def classCountsRow : OpenClaim := { program := "ytidfegilddlglaadoor", sum := "cfaba4e09e213194619ebc078b4b60d63381ddf0c478d1466e3d081393301d6f", func := "radicand/radicandlaw06.ClassCounts", spec := "classCounts", inPlace := ["math/bits.Sub64"], unfollowed := true, recurses := true, named := ["radicand/format.formats"], apart := false, laid := [("radicand/format.formats", laid_radicand_format_formats)] }
def ClassCountsSaid : Prop := classCountsRow.holds Tryd.pinned (OpenSpec.ofChange classCountsSpec)

/-- ITS FALSE NEIGHBOUR: 'it returns false'. Refute it at one input. -/
def classCountsWrong : ChangeSpec := { name := "classCounts", fn := fun _ => fun
  | [d1, d2] => { results := [.lit (.bool false)], args := [d1, d2] }
  | _ => none }
def ClassCountsWrongFalsely : Prop := classCountsRow.holds Tryd.pinned (OpenSpec.ofChange classCountsWrong)

/-- 'radicandlaw06.ClassSigns': WHATEVER THE INPUT: true; the input reads as it did. -/
def classSignsSpec : ChangeSpec := { name := "classSigns", fn := fun _ => fun
  | [d1, d2] => { results := [.lit (.bool true)], args := [d1, d2] }
  | _ => none }
def classSignsRow : OpenClaim := { program := "ytidfegilddlglaadoor", sum := "cfaba4e09e213194619ebc078b4b60d63381ddf0c478d1466e3d081393301d6f", func := "radicand/radicandlaw06.ClassSigns", spec := "classSigns", inPlace := ["math/bits.Sub64", "math/bits.Add64"], unfollowed := true, recurses := true, named := ["radicand/format.formats"], apart := false, laid := [("radicand/format.formats", laid_radicand_format_formats)] }
def ClassSignsSaid : Prop := classSignsRow.holds Tryd.pinned (OpenSpec.ofChange classSignsSpec)

/-- ITS FALSE NEIGHBOUR: 'it returns false'. Refute it at one input. -/
def classSignsWrong : ChangeSpec := { name := "classSigns", fn := fun _ => fun
  | [d1, d2] => { results := [.lit (.bool false)], args := [d1, d2] }
  | _ => none }
def ClassSignsWrongFalsely : Prop := classSignsRow.holds Tryd.pinned (OpenSpec.ofChange classSignsWrong)

/-- 'radicandlaw07.UnpackValues': WHATEVER THE INPUT: true; the input reads as it did. -/
def unpackValuesSpec : ChangeSpec := { name := "unpackValues", fn := fun _ => fun
  | [d1, d2] => { results := [.lit (.bool true)], args := [d1, d2] }
  | _ => none }
def unpackValuesRow : OpenClaim := { program := "ytidfegilddlglaadoor", sum := "cfaba4e09e213194619ebc078b4b60d63381ddf0c478d1466e3d081393301d6f", func := "radicand/radicandlaw07.UnpackValues", spec := "unpackValues", inPlace := ["math/bits.Sub64", "math/bits.Add64"], unfollowed := true, recurses := true, named := ["radicand/format.formats"], apart := false, laid := [("radicand/format.formats", laid_radicand_format_formats)] }
def UnpackValuesSaid : Prop := unpackValuesRow.holds Tryd.pinned (OpenSpec.ofChange unpackValuesSpec)

/-- ITS FALSE NEIGHBOUR: 'it returns false'. Refute it at one input. -/
def unpackValuesWrong : ChangeSpec := { name := "unpackValues", fn := fun _ => fun
  | [d1, d2] => { results := [.lit (.bool false)], args := [d1, d2] }
  | _ => none }
def UnpackValuesWrongFalsely : Prop := unpackValuesRow.holds Tryd.pinned (OpenSpec.ofChange unpackValuesWrong)

/-- 'radicandlaw07.UnpackExact': WHATEVER THE INPUT: true; the input reads as it did. -/
def unpackExactSpec : ChangeSpec := { name := "unpackExact", fn := fun _ => fun
  | [d1, d2] => { results := [.lit (.bool true)], args := [d1, d2] }
  | _ => none }
def unpackExactRow : OpenClaim := { program := "ytidfegilddlglaadoor", sum := "cfaba4e09e213194619ebc078b4b60d63381ddf0c478d1466e3d081393301d6f", func := "radicand/radicandlaw07.UnpackExact", spec := "unpackExact", inPlace := ["math/bits.Add64", "math/bits.Sub64"], unfollowed := true, recurses := true, named := ["radicand/format.formats"], apart := false, laid := [("radicand/format.formats", laid_radicand_format_formats)] }
def UnpackExactSaid : Prop := unpackExactRow.holds Tryd.pinned (OpenSpec.ofChange unpackExactSpec)

/-- ITS FALSE NEIGHBOUR: 'it returns false'. Refute it at one input. -/
def unpackExactWrong : ChangeSpec := { name := "unpackExact", fn := fun _ => fun
  | [d1, d2] => { results := [.lit (.bool false)], args := [d1, d2] }
  | _ => none }
def UnpackExactWrongFalsely : Prop := unpackExactRow.holds Tryd.pinned (OpenSpec.ofChange unpackExactWrong)

/-- 'radicandlaw07.UnpackCmp': WHATEVER THE INPUT: true; the input reads as it did. -/
def unpackCmpSpec : ChangeSpec := { name := "unpackCmp", fn := fun _ => fun
  | [d1, d2] => { results := [.lit (.bool true)], args := [d1, d2] }
  | _ => none }
def unpackCmpRow : OpenClaim := { program := "ytidfegilddlglaadoor", sum := "cfaba4e09e213194619ebc078b4b60d63381ddf0c478d1466e3d081393301d6f", func := "radicand/radicandlaw07.UnpackCmp", spec := "unpackCmp", inPlace := ["math/bits.Sub64", "math/bits.Add64"], unfollowed := true, recurses := true, named := ["radicand/format.formats"], apart := false, laid := [("radicand/format.formats", laid_radicand_format_formats)] }
def UnpackCmpSaid : Prop := unpackCmpRow.holds Tryd.pinned (OpenSpec.ofChange unpackCmpSpec)

/-- ITS FALSE NEIGHBOUR: 'it returns false'. Refute it at one input. -/
def unpackCmpWrong : ChangeSpec := { name := "unpackCmp", fn := fun _ => fun
  | [d1, d2] => { results := [.lit (.bool false)], args := [d1, d2] }
  | _ => none }
def UnpackCmpWrongFalsely : Prop := unpackCmpRow.holds Tryd.pinned (OpenSpec.ofChange unpackCmpWrong)

/-- 'radicandlaw07.UnpackShort': WHATEVER THE INPUT: true; the input reads as it did. -/
def unpackShortSpec : ChangeSpec := { name := "unpackShort", fn := fun _ => fun
  | [d] => { results := [.lit (.bool true)], args := [d] }
  | _ => none }
def unpackShortRow : OpenClaim := { program := "ytidfegilddlglaadoor", sum := "cfaba4e09e213194619ebc078b4b60d63381ddf0c478d1466e3d081393301d6f", func := "radicand/radicandlaw07.UnpackShort", spec := "unpackShort", inPlace := ["math/bits.Sub64", "math/bits.Add64"], unfollowed := true, recurses := true, named := ["radicand/format.formats"], apart := false, laid := [("radicand/format.formats", laid_radicand_format_formats)] }
def UnpackShortSaid : Prop := unpackShortRow.holds Tryd.pinned (OpenSpec.ofChange unpackShortSpec)

/-- ITS FALSE NEIGHBOUR: 'it returns false'. Refute it at one input. -/
def unpackShortWrong : ChangeSpec := { name := "unpackShort", fn := fun _ => fun
  | [d] => { results := [.lit (.bool false)], args := [d] }
  | _ => none }
def UnpackShortWrongFalsely : Prop := unpackShortRow.holds Tryd.pinned (OpenSpec.ofChange unpackShortWrong)

/-- 'radicandlaw07.UnpackOrder': WHATEVER THE INPUT: true; the input reads as it did. -/
def unpackOrderSpec : ChangeSpec := { name := "unpackOrder", fn := fun _ => fun
  | [d1, d2, d3] => { results := [.lit (.bool true)], args := [d1, d2, d3] }
  | _ => none }
def unpackOrderRow : OpenClaim := { program := "ytidfegilddlglaadoor", sum := "cfaba4e09e213194619ebc078b4b60d63381ddf0c478d1466e3d081393301d6f", func := "radicand/radicandlaw07.UnpackOrder", spec := "unpackOrder", inPlace := ["math/bits.Sub64", "math/bits.Add64"], unfollowed := true, recurses := true, named := ["radicand/format.formats"], apart := false, laid := [("radicand/format.formats", laid_radicand_format_formats)] }
def UnpackOrderSaid : Prop := unpackOrderRow.holds Tryd.pinned (OpenSpec.ofChange unpackOrderSpec)

/-- ITS FALSE NEIGHBOUR: 'it returns false'. Refute it at one input. -/
def unpackOrderWrong : ChangeSpec := { name := "unpackOrder", fn := fun _ => fun
  | [d1, d2, d3] => { results := [.lit (.bool false)], args := [d1, d2, d3] }
  | _ => none }
def UnpackOrderWrongFalsely : Prop := unpackOrderRow.holds Tryd.pinned (OpenSpec.ofChange unpackOrderWrong)

/- THE SECOND FORM. 'bulk': how many values and letters a reading holds, each counted each time it is reached (what is shared counts as often as it is met; a slice's spare places count too). A statement '..UptoSaid' is the law's where the arguments, and the package variables that the reading takes, are together of bulk at most 1048576: NARROWER than '..Said'. Prove '..Said' where nothing that the law and all that it calls make is longer than what came in: it says more and counts as full. Else prove '..UptoSaid'. A law counts once. -/
mutual
def uptoBulk {H : Type} : DataW H → Nat
  | .lit (.string bytes) => bytes.length + 1
  | .lit _ => 1
  | .nil => 1
  | .ptr d => uptoBulk d + 1
  | .slice elems spare => uptoBulkAll elems + uptoBulkAll spare + 1
  | .agg parts => uptoBulkAll parts + 1
  | .iface _ d => uptoBulk d + 1
  | .map entries => uptoBulkEntries entries + 1
  | .held _ => 1
def uptoBulkAll {H : Type} : List (DataW H) → Nat
  | [] => 0
  | d :: r => uptoBulk d + uptoBulkAll r
def uptoBulkEntries {H : Type} : List (Lit × DataW H) → Nat
  | [] => 0
  | x :: r => uptoBulkEntry x + uptoBulkEntries r
def uptoBulkEntry {H : Type} : Lit × DataW H → Nat
  | (.string bytes, d) => bytes.length + uptoBulk d + 1
  | (_, d) => uptoBulk d + 1
 end
def uptoSmall : (H : Type) → List (DataW H) → Bool := fun _ ds => decide (uptoBulkAll ds ≤ 1048576)
def OpenSpec.upto (s : _root_.Go.ChangeSpec) : _root_.Go.OpenSpec := { _root_.Go.OpenSpec.ofChange s with cond := some uptoSmall }

/-- 'radicandlaw06.ClassOf', WHERE WHAT IT READS IS OF BULK AT MOST 1048576: true; the input reads as it did. -/
def classOfUptoRow : OpenClaim := { program := "ytidfegilddlglaadoor", sum := "cfaba4e09e213194619ebc078b4b60d63381ddf0c478d1466e3d081393301d6f", func := "radicand/radicandlaw06.ClassOf", spec := "classOf", inPlace := ["math/bits.Sub64", "math/bits.Add64"], unfollowed := true, recurses := true, named := ["radicand/format.formats"], apart := false, laid := [("radicand/format.formats", laid_radicand_format_formats)], narrowed := true }
def ClassOfUptoSaid : Prop := classOfUptoRow.holds Tryd.pinned (OpenSpec.upto classOfSpec)

/-- 'radicandlaw06.ClassMakes', WHERE WHAT IT READS IS OF BULK AT MOST 1048576: true; the input reads as it did. -/
def classMakesUptoRow : OpenClaim := { program := "ytidfegilddlglaadoor", sum := "cfaba4e09e213194619ebc078b4b60d63381ddf0c478d1466e3d081393301d6f", func := "radicand/radicandlaw06.ClassMakes", spec := "classMakes", inPlace := ["math/bits.Add64", "math/bits.Sub64"], unfollowed := true, recurses := true, named := ["radicand/format.formats"], apart := false, laid := [("radicand/format.formats", laid_radicand_format_formats)], narrowed := true }
def ClassMakesUptoSaid : Prop := classMakesUptoRow.holds Tryd.pinned (OpenSpec.upto classMakesSpec)

/-- 'radicandlaw06.ClassCounts', WHERE WHAT IT READS IS OF BULK AT MOST 1048576: true; the input reads as it did. -/
def classCountsUptoRow : OpenClaim := { program := "ytidfegilddlglaadoor", sum := "cfaba4e09e213194619ebc078b4b60d63381ddf0c478d1466e3d081393301d6f", func := "radicand/radicandlaw06.ClassCounts", spec := "classCounts", inPlace := ["math/bits.Sub64"], unfollowed := true, recurses := true, named := ["radicand/format.formats"], apart := false, laid := [("radicand/format.formats", laid_radicand_format_formats)], narrowed := true }
def ClassCountsUptoSaid : Prop := classCountsUptoRow.holds Tryd.pinned (OpenSpec.upto classCountsSpec)

/-- 'radicandlaw06.ClassSigns', WHERE WHAT IT READS IS OF BULK AT MOST 1048576: true; the input reads as it did. -/
def classSignsUptoRow : OpenClaim := { program := "ytidfegilddlglaadoor", sum := "cfaba4e09e213194619ebc078b4b60d63381ddf0c478d1466e3d081393301d6f", func := "radicand/radicandlaw06.ClassSigns", spec := "classSigns", inPlace := ["math/bits.Sub64", "math/bits.Add64"], unfollowed := true, recurses := true, named := ["radicand/format.formats"], apart := false, laid := [("radicand/format.formats", laid_radicand_format_formats)], narrowed := true }
def ClassSignsUptoSaid : Prop := classSignsUptoRow.holds Tryd.pinned (OpenSpec.upto classSignsSpec)

/-- 'radicandlaw07.UnpackValues', WHERE WHAT IT READS IS OF BULK AT MOST 1048576: true; the input reads as it did. -/
def unpackValuesUptoRow : OpenClaim := { program := "ytidfegilddlglaadoor", sum := "cfaba4e09e213194619ebc078b4b60d63381ddf0c478d1466e3d081393301d6f", func := "radicand/radicandlaw07.UnpackValues", spec := "unpackValues", inPlace := ["math/bits.Sub64", "math/bits.Add64"], unfollowed := true, recurses := true, named := ["radicand/format.formats"], apart := false, laid := [("radicand/format.formats", laid_radicand_format_formats)], narrowed := true }
def UnpackValuesUptoSaid : Prop := unpackValuesUptoRow.holds Tryd.pinned (OpenSpec.upto unpackValuesSpec)

/-- 'radicandlaw07.UnpackExact', WHERE WHAT IT READS IS OF BULK AT MOST 1048576: true; the input reads as it did. -/
def unpackExactUptoRow : OpenClaim := { program := "ytidfegilddlglaadoor", sum := "cfaba4e09e213194619ebc078b4b60d63381ddf0c478d1466e3d081393301d6f", func := "radicand/radicandlaw07.UnpackExact", spec := "unpackExact", inPlace := ["math/bits.Add64", "math/bits.Sub64"], unfollowed := true, recurses := true, named := ["radicand/format.formats"], apart := false, laid := [("radicand/format.formats", laid_radicand_format_formats)], narrowed := true }
def UnpackExactUptoSaid : Prop := unpackExactUptoRow.holds Tryd.pinned (OpenSpec.upto unpackExactSpec)

/-- 'radicandlaw07.UnpackCmp', WHERE WHAT IT READS IS OF BULK AT MOST 1048576: true; the input reads as it did. -/
def unpackCmpUptoRow : OpenClaim := { program := "ytidfegilddlglaadoor", sum := "cfaba4e09e213194619ebc078b4b60d63381ddf0c478d1466e3d081393301d6f", func := "radicand/radicandlaw07.UnpackCmp", spec := "unpackCmp", inPlace := ["math/bits.Sub64", "math/bits.Add64"], unfollowed := true, recurses := true, named := ["radicand/format.formats"], apart := false, laid := [("radicand/format.formats", laid_radicand_format_formats)], narrowed := true }
def UnpackCmpUptoSaid : Prop := unpackCmpUptoRow.holds Tryd.pinned (OpenSpec.upto unpackCmpSpec)

/-- 'radicandlaw07.UnpackShort', WHERE WHAT IT READS IS OF BULK AT MOST 1048576: true; the input reads as it did. -/
def unpackShortUptoRow : OpenClaim := { program := "ytidfegilddlglaadoor", sum := "cfaba4e09e213194619ebc078b4b60d63381ddf0c478d1466e3d081393301d6f", func := "radicand/radicandlaw07.UnpackShort", spec := "unpackShort", inPlace := ["math/bits.Sub64", "math/bits.Add64"], unfollowed := true, recurses := true, named := ["radicand/format.formats"], apart := false, laid := [("radicand/format.formats", laid_radicand_format_formats)], narrowed := true }
def UnpackShortUptoSaid : Prop := unpackShortUptoRow.holds Tryd.pinned (OpenSpec.upto unpackShortSpec)

/-- 'radicandlaw07.UnpackOrder', WHERE WHAT IT READS IS OF BULK AT MOST 1048576: true; the input reads as it did. -/
def unpackOrderUptoRow : OpenClaim := { program := "ytidfegilddlglaadoor", sum := "cfaba4e09e213194619ebc078b4b60d63381ddf0c478d1466e3d081393301d6f", func := "radicand/radicandlaw07.UnpackOrder", spec := "unpackOrder", inPlace := ["math/bits.Sub64", "math/bits.Add64"], unfollowed := true, recurses := true, named := ["radicand/format.formats"], apart := false, laid := [("radicand/format.formats", laid_radicand_format_formats)], narrowed := true }
def UnpackOrderUptoSaid : Prop := unpackOrderUptoRow.holds Tryd.pinned (OpenSpec.upto unpackOrderSpec)

end Rows
end Go.Proofs.YtidfegilddlglaaDoor
