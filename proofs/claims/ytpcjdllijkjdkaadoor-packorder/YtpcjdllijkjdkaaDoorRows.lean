/-
  NARROWER THAN 'FOR EVERY INPUT', by the rows' own cells (each row's printed sentence says how): UnpackExact: laid · PackDigits: laid · PackFlags: laid · PackOwn: laid · PackOrder: laid · NanOf: laid · NanQuiets: laid · NanPayloads: laid.
  DERIVED. THE GIVEN ROWS OF THIS SEAT. 8 by the template 'for every input the law returns true; each argument reads behind the call as it read before'; 0 by the template 'total and deterministic' (their statements: YtpcjdllijkjdkaaDoorTotals.lean).
  GIVEN WITH THE SEED: the statements are not yours to turn. If you find one false, say at which input.
  Laid BY PROGRAM, IN A SANDBOX (cutbox-rows.mjs): the forced cells as the released guide's own fill.sh prints them over the translation 6b81094029e98cd5… (all of the seat's roots in one cut). By AI agents, Wed Nov 11 2026. No macro, syntax, notation, axiom, sorry.
-/
import Derived.Test.YtpcjdllijkjdkaaDoorChecked
import GoSem.Claim
import GoSem.ClaimJoined
import GoSem.ClaimMapViews
import Derived.JoinedTies
import Derived.KernelRfl
namespace Go.Proofs.YtpcjdllijkjdkaaDoor
/- THE CELL 'sum', in the pinned program and in every row, IS THE sha256 OF THE DUMP (.gsa) THAT YtpcjdllijkjdkaaDoorProg.lean LOADS. Nothing in Lean hashes anything: it is a label: what it is worth is what the hold of that sum in a sandbox is worth. -/
noncomputable def Tryd.pinned : Pinned := { name := "ytpcjdllijkjdkaadoor", sum := "6b81094029e98cd5da6fd62c69ef6d286b4b10ab6c007d9bd9a1bb5a3adb8f1a", checked := Tryd.checked }
namespace Rows
def none {H : Type} : Left H := { results := [], args := [] }

/- WHAT THE LISTED PACKAGE-LEVEL VARIABLES READ AS WHEN THE CALL BEGINS. Each datum BY PROGRAM (the guide's laid-datum.mjs) off the statement by which the dump's own 'gosem.cut.vars' lays the variable. In a bare row this is a premise. The card (YtpcjdllijkjdkaaDoorCards.lean) ties it to the program's text. -/
def laid_radicand_format_formats {H : Type} : DataW H := .agg [.agg [.lit (.int .i64 16), .lit (.int .i64 11), .lit (.int .i64 15), .lit (.int .i64 (-14)), .lit (.int .i64 5)], .agg [.lit (.int .i64 32), .lit (.int .i64 24), .lit (.int .i64 127), .lit (.int .i64 (-126)), .lit (.int .i64 8)], .agg [.lit (.int .i64 64), .lit (.int .i64 53), .lit (.int .i64 1023), .lit (.int .i64 (-1022)), .lit (.int .i64 11)], .agg [.lit (.int .i64 128), .lit (.int .i64 113), .lit (.int .i64 16383), .lit (.int .i64 (-16382)), .lit (.int .i64 15)]]
def laid_radicand_pack_letters {H : Type} : DataW H := .agg [.lit (.string [105]), .lit (.string [122]), .lit (.string [111]), .lit (.string [117]), .lit (.string [120])]

/-- 'radicandlaw07.UnpackExact': WHATEVER THE INPUT: true; the input reads as it did. -/
def unpackExactSpec : ChangeSpec := { name := "unpackExact", fn := fun _ => fun
  | [d1, d2] => { results := [.lit (.bool true)], args := [d1, d2] }
  | _ => none }
def unpackExactRow : OpenClaim := { program := "ytpcjdllijkjdkaadoor", sum := "6b81094029e98cd5da6fd62c69ef6d286b4b10ab6c007d9bd9a1bb5a3adb8f1a", func := "radicand/radicandlaw07.UnpackExact", spec := "unpackExact", inPlace := ["math/bits.Add64", "math/bits.Sub64"], unfollowed := true, recurses := true, named := ["radicand/format.formats"], apart := false, laid := [("radicand/format.formats", laid_radicand_format_formats)] }
def UnpackExactSaid : Prop := unpackExactRow.holds Tryd.pinned (OpenSpec.ofChange unpackExactSpec)

/-- ITS FALSE NEIGHBOUR: 'it returns false'. Refute it at one input. -/
def unpackExactWrong : ChangeSpec := { name := "unpackExact", fn := fun _ => fun
  | [d1, d2] => { results := [.lit (.bool false)], args := [d1, d2] }
  | _ => none }
def UnpackExactWrongFalsely : Prop := unpackExactRow.holds Tryd.pinned (OpenSpec.ofChange unpackExactWrong)

/-- 'radicandlaw09.PackDigits': WHATEVER THE INPUT: true; the input reads as it did. -/
def packDigitsSpec : ChangeSpec := { name := "packDigits", fn := fun _ => fun
  | [d1, d2, d3] => { results := [.lit (.bool true)], args := [d1, d2, d3] }
  | _ => none }
def packDigitsRow : OpenClaim := { program := "ytpcjdllijkjdkaadoor", sum := "6b81094029e98cd5da6fd62c69ef6d286b4b10ab6c007d9bd9a1bb5a3adb8f1a", func := "radicand/radicandlaw09.PackDigits", spec := "packDigits", inPlace := ["math/bits.Add64", "math/bits.Sub64"], unfollowed := true, recurses := true, named := ["radicand/format.formats"], apart := false, laid := [("radicand/format.formats", laid_radicand_format_formats)] }
def PackDigitsSaid : Prop := packDigitsRow.holds Tryd.pinned (OpenSpec.ofChange packDigitsSpec)

/-- ITS FALSE NEIGHBOUR: 'it returns false'. Refute it at one input. -/
def packDigitsWrong : ChangeSpec := { name := "packDigits", fn := fun _ => fun
  | [d1, d2, d3] => { results := [.lit (.bool false)], args := [d1, d2, d3] }
  | _ => none }
def PackDigitsWrongFalsely : Prop := packDigitsRow.holds Tryd.pinned (OpenSpec.ofChange packDigitsWrong)

/-- 'radicandlaw09.PackFlags': WHATEVER THE INPUT: true; the input reads as it did. -/
def packFlagsSpec : ChangeSpec := { name := "packFlags", fn := fun _ => fun
  | [d1, d2] => { results := [.lit (.bool true)], args := [d1, d2] }
  | _ => none }
def packFlagsRow : OpenClaim := { program := "ytpcjdllijkjdkaadoor", sum := "6b81094029e98cd5da6fd62c69ef6d286b4b10ab6c007d9bd9a1bb5a3adb8f1a", func := "radicand/radicandlaw09.PackFlags", spec := "packFlags", inPlace := ["math/bits.Add64", "math/bits.Sub64"], unfollowed := true, recurses := true, named := ["radicand/format.formats", "radicand/pack.letters"], apart := false, laid := [("radicand/format.formats", laid_radicand_format_formats), ("radicand/pack.letters", laid_radicand_pack_letters)] }
def PackFlagsSaid : Prop := packFlagsRow.holds Tryd.pinned (OpenSpec.ofChange packFlagsSpec)

/-- ITS FALSE NEIGHBOUR: 'it returns false'. Refute it at one input. -/
def packFlagsWrong : ChangeSpec := { name := "packFlags", fn := fun _ => fun
  | [d1, d2] => { results := [.lit (.bool false)], args := [d1, d2] }
  | _ => none }
def PackFlagsWrongFalsely : Prop := packFlagsRow.holds Tryd.pinned (OpenSpec.ofChange packFlagsWrong)

/-- 'radicandlaw09.PackOwn': WHATEVER THE INPUT: true; the input reads as it did. -/
def packOwnSpec : ChangeSpec := { name := "packOwn", fn := fun _ => fun
  | [d1, d2, d3] => { results := [.lit (.bool true)], args := [d1, d2, d3] }
  | _ => none }
def packOwnRow : OpenClaim := { program := "ytpcjdllijkjdkaadoor", sum := "6b81094029e98cd5da6fd62c69ef6d286b4b10ab6c007d9bd9a1bb5a3adb8f1a", func := "radicand/radicandlaw09.PackOwn", spec := "packOwn", inPlace := ["math/bits.Add64", "math/bits.Sub64"], unfollowed := true, recurses := true, named := ["radicand/format.formats"], apart := false, laid := [("radicand/format.formats", laid_radicand_format_formats)] }
def PackOwnSaid : Prop := packOwnRow.holds Tryd.pinned (OpenSpec.ofChange packOwnSpec)

/-- ITS FALSE NEIGHBOUR: 'it returns false'. Refute it at one input. -/
def packOwnWrong : ChangeSpec := { name := "packOwn", fn := fun _ => fun
  | [d1, d2, d3] => { results := [.lit (.bool false)], args := [d1, d2, d3] }
  | _ => none }
def PackOwnWrongFalsely : Prop := packOwnRow.holds Tryd.pinned (OpenSpec.ofChange packOwnWrong)

/-- 'radicandlaw09.PackOrder': WHATEVER THE INPUT: true; the input reads as it did. -/
def packOrderSpec : ChangeSpec := { name := "packOrder", fn := fun _ => fun
  | [d1, d2, d3] => { results := [.lit (.bool true)], args := [d1, d2, d3] }
  | _ => none }
def packOrderRow : OpenClaim := { program := "ytpcjdllijkjdkaadoor", sum := "6b81094029e98cd5da6fd62c69ef6d286b4b10ab6c007d9bd9a1bb5a3adb8f1a", func := "radicand/radicandlaw09.PackOrder", spec := "packOrder", inPlace := ["math/bits.Add64", "math/bits.Sub64"], unfollowed := true, recurses := true, named := ["radicand/format.formats"], apart := false, laid := [("radicand/format.formats", laid_radicand_format_formats)] }
def PackOrderSaid : Prop := packOrderRow.holds Tryd.pinned (OpenSpec.ofChange packOrderSpec)

/-- ITS FALSE NEIGHBOUR: 'it returns false'. Refute it at one input. -/
def packOrderWrong : ChangeSpec := { name := "packOrder", fn := fun _ => fun
  | [d1, d2, d3] => { results := [.lit (.bool false)], args := [d1, d2, d3] }
  | _ => none }
def PackOrderWrongFalsely : Prop := packOrderRow.holds Tryd.pinned (OpenSpec.ofChange packOrderWrong)

/-- 'radicandlaw10.NanOf': WHATEVER THE INPUT: true; the input reads as it did. -/
def nanOfSpec : ChangeSpec := { name := "nanOf", fn := fun _ => fun
  | [d1, d2] => { results := [.lit (.bool true)], args := [d1, d2] }
  | _ => none }
def nanOfRow : OpenClaim := { program := "ytpcjdllijkjdkaadoor", sum := "6b81094029e98cd5da6fd62c69ef6d286b4b10ab6c007d9bd9a1bb5a3adb8f1a", func := "radicand/radicandlaw10.NanOf", spec := "nanOf", inPlace := ["math/bits.Sub64", "math/bits.Add64"], unfollowed := true, recurses := true, named := ["radicand/format.formats"], apart := false, laid := [("radicand/format.formats", laid_radicand_format_formats)] }
def NanOfSaid : Prop := nanOfRow.holds Tryd.pinned (OpenSpec.ofChange nanOfSpec)

/-- ITS FALSE NEIGHBOUR: 'it returns false'. Refute it at one input. -/
def nanOfWrong : ChangeSpec := { name := "nanOf", fn := fun _ => fun
  | [d1, d2] => { results := [.lit (.bool false)], args := [d1, d2] }
  | _ => none }
def NanOfWrongFalsely : Prop := nanOfRow.holds Tryd.pinned (OpenSpec.ofChange nanOfWrong)

/-- 'radicandlaw10.NanQuiets': WHATEVER THE INPUT: true; the input reads as it did. -/
def nanQuietsSpec : ChangeSpec := { name := "nanQuiets", fn := fun _ => fun
  | [d1, d2] => { results := [.lit (.bool true)], args := [d1, d2] }
  | _ => none }
def nanQuietsRow : OpenClaim := { program := "ytpcjdllijkjdkaadoor", sum := "6b81094029e98cd5da6fd62c69ef6d286b4b10ab6c007d9bd9a1bb5a3adb8f1a", func := "radicand/radicandlaw10.NanQuiets", spec := "nanQuiets", inPlace := ["math/bits.Sub64", "math/bits.Add64"], unfollowed := true, recurses := true, named := ["radicand/format.formats"], apart := false, laid := [("radicand/format.formats", laid_radicand_format_formats)] }
def NanQuietsSaid : Prop := nanQuietsRow.holds Tryd.pinned (OpenSpec.ofChange nanQuietsSpec)

/-- ITS FALSE NEIGHBOUR: 'it returns false'. Refute it at one input. -/
def nanQuietsWrong : ChangeSpec := { name := "nanQuiets", fn := fun _ => fun
  | [d1, d2] => { results := [.lit (.bool false)], args := [d1, d2] }
  | _ => none }
def NanQuietsWrongFalsely : Prop := nanQuietsRow.holds Tryd.pinned (OpenSpec.ofChange nanQuietsWrong)

/-- 'radicandlaw10.NanPayloads': WHATEVER THE INPUT: true; the input reads as it did. -/
def nanPayloadsSpec : ChangeSpec := { name := "nanPayloads", fn := fun _ => fun
  | [d1, d2, d3] => { results := [.lit (.bool true)], args := [d1, d2, d3] }
  | _ => none }
def nanPayloadsRow : OpenClaim := { program := "ytpcjdllijkjdkaadoor", sum := "6b81094029e98cd5da6fd62c69ef6d286b4b10ab6c007d9bd9a1bb5a3adb8f1a", func := "radicand/radicandlaw10.NanPayloads", spec := "nanPayloads", inPlace := ["math/bits.Add64", "math/bits.Sub64"], unfollowed := true, recurses := true, named := ["radicand/format.formats"], apart := false, laid := [("radicand/format.formats", laid_radicand_format_formats)] }
def NanPayloadsSaid : Prop := nanPayloadsRow.holds Tryd.pinned (OpenSpec.ofChange nanPayloadsSpec)

/-- ITS FALSE NEIGHBOUR: 'it returns false'. Refute it at one input. -/
def nanPayloadsWrong : ChangeSpec := { name := "nanPayloads", fn := fun _ => fun
  | [d1, d2, d3] => { results := [.lit (.bool false)], args := [d1, d2, d3] }
  | _ => none }
def NanPayloadsWrongFalsely : Prop := nanPayloadsRow.holds Tryd.pinned (OpenSpec.ofChange nanPayloadsWrong)

/- THE SECOND FORM. 'bulk': how many values and letters a reading holds, each counted each time it is reached (what is shared counts as often as it is met; a slice's spare places count too). A statement '..UptoSaid' is the law's where the arguments, and the package variables that the reading takes, are together of bulk at most 1048576: NARROWER than '..Said'. Prove '..Said' where nothing that the law and all that it calls make is longer than what came in: it says more and counts as full. Else prove '..UptoSaid'. A law counts once. -/
mutual
def uptoBulk {H : Type} : DataW H → Nat
  | .lit (.string bytes) => bytes.length + 1
  | .lit _ => 1
  | .nil => 1
  | .ptr d => uptoBulk d + 1
  | .slice elems spare => uptoBulkAll elems + uptoBulkAll spare + 1
  | .agg parts => uptoBulkAll parts + 1
  | .iface _ d => uptoBulk d + 1
  | .map entries => uptoBulkEntries entries + 1
  | .held _ => 1
def uptoBulkAll {H : Type} : List (DataW H) → Nat
  | [] => 0
  | d :: r => uptoBulk d + uptoBulkAll r
def uptoBulkEntries {H : Type} : List (Lit × DataW H) → Nat
  | [] => 0
  | x :: r => uptoBulkEntry x + uptoBulkEntries r
def uptoBulkEntry {H : Type} : Lit × DataW H → Nat
  | (.string bytes, d) => bytes.length + uptoBulk d + 1
  | (_, d) => uptoBulk d + 1
 end
def uptoSmall : (H : Type) → List (DataW H) → Bool := fun _ ds => decide (uptoBulkAll ds ≤ 1048576)
def OpenSpec.upto (s : _root_.Go.ChangeSpec) : _root_.Go.OpenSpec := { _root_.Go.OpenSpec.ofChange s with cond := some uptoSmall }

/-- 'radicandlaw07.UnpackExact', WHERE WHAT IT READS IS OF BULK AT MOST 1048576: true; the input reads as it did. -/
def unpackExactUptoRow : OpenClaim := { program := "ytpcjdllijkjdkaadoor", sum := "6b81094029e98cd5da6fd62c69ef6d286b4b10ab6c007d9bd9a1bb5a3adb8f1a", func := "radicand/radicandlaw07.UnpackExact", spec := "unpackExact", inPlace := ["math/bits.Add64", "math/bits.Sub64"], unfollowed := true, recurses := true, named := ["radicand/format.formats"], apart := false, laid := [("radicand/format.formats", laid_radicand_format_formats)], narrowed := true }
def UnpackExactUptoSaid : Prop := unpackExactUptoRow.holds Tryd.pinned (OpenSpec.upto unpackExactSpec)

/-- 'radicandlaw09.PackDigits', WHERE WHAT IT READS IS OF BULK AT MOST 1048576: true; the input reads as it did. -/
def packDigitsUptoRow : OpenClaim := { program := "ytpcjdllijkjdkaadoor", sum := "6b81094029e98cd5da6fd62c69ef6d286b4b10ab6c007d9bd9a1bb5a3adb8f1a", func := "radicand/radicandlaw09.PackDigits", spec := "packDigits", inPlace := ["math/bits.Add64", "math/bits.Sub64"], unfollowed := true, recurses := true, named := ["radicand/format.formats"], apart := false, laid := [("radicand/format.formats", laid_radicand_format_formats)], narrowed := true }
def PackDigitsUptoSaid : Prop := packDigitsUptoRow.holds Tryd.pinned (OpenSpec.upto packDigitsSpec)

/-- 'radicandlaw09.PackFlags', WHERE WHAT IT READS IS OF BULK AT MOST 1048576: true; the input reads as it did. -/
def packFlagsUptoRow : OpenClaim := { program := "ytpcjdllijkjdkaadoor", sum := "6b81094029e98cd5da6fd62c69ef6d286b4b10ab6c007d9bd9a1bb5a3adb8f1a", func := "radicand/radicandlaw09.PackFlags", spec := "packFlags", inPlace := ["math/bits.Add64", "math/bits.Sub64"], unfollowed := true, recurses := true, named := ["radicand/format.formats", "radicand/pack.letters"], apart := false, laid := [("radicand/format.formats", laid_radicand_format_formats), ("radicand/pack.letters", laid_radicand_pack_letters)], narrowed := true }
def PackFlagsUptoSaid : Prop := packFlagsUptoRow.holds Tryd.pinned (OpenSpec.upto packFlagsSpec)

/-- 'radicandlaw09.PackOwn', WHERE WHAT IT READS IS OF BULK AT MOST 1048576: true; the input reads as it did. -/
def packOwnUptoRow : OpenClaim := { program := "ytpcjdllijkjdkaadoor", sum := "6b81094029e98cd5da6fd62c69ef6d286b4b10ab6c007d9bd9a1bb5a3adb8f1a", func := "radicand/radicandlaw09.PackOwn", spec := "packOwn", inPlace := ["math/bits.Add64", "math/bits.Sub64"], unfollowed := true, recurses := true, named := ["radicand/format.formats"], apart := false, laid := [("radicand/format.formats", laid_radicand_format_formats)], narrowed := true }
def PackOwnUptoSaid : Prop := packOwnUptoRow.holds Tryd.pinned (OpenSpec.upto packOwnSpec)

/-- 'radicandlaw09.PackOrder', WHERE WHAT IT READS IS OF BULK AT MOST 1048576: true; the input reads as it did. -/
def packOrderUptoRow : OpenClaim := { program := "ytpcjdllijkjdkaadoor", sum := "6b81094029e98cd5da6fd62c69ef6d286b4b10ab6c007d9bd9a1bb5a3adb8f1a", func := "radicand/radicandlaw09.PackOrder", spec := "packOrder", inPlace := ["math/bits.Add64", "math/bits.Sub64"], unfollowed := true, recurses := true, named := ["radicand/format.formats"], apart := false, laid := [("radicand/format.formats", laid_radicand_format_formats)], narrowed := true }
def PackOrderUptoSaid : Prop := packOrderUptoRow.holds Tryd.pinned (OpenSpec.upto packOrderSpec)

/-- 'radicandlaw10.NanOf', WHERE WHAT IT READS IS OF BULK AT MOST 1048576: true; the input reads as it did. -/
def nanOfUptoRow : OpenClaim := { program := "ytpcjdllijkjdkaadoor", sum := "6b81094029e98cd5da6fd62c69ef6d286b4b10ab6c007d9bd9a1bb5a3adb8f1a", func := "radicand/radicandlaw10.NanOf", spec := "nanOf", inPlace := ["math/bits.Sub64", "math/bits.Add64"], unfollowed := true, recurses := true, named := ["radicand/format.formats"], apart := false, laid := [("radicand/format.formats", laid_radicand_format_formats)], narrowed := true }
def NanOfUptoSaid : Prop := nanOfUptoRow.holds Tryd.pinned (OpenSpec.upto nanOfSpec)

/-- 'radicandlaw10.NanQuiets', WHERE WHAT IT READS IS OF BULK AT MOST 1048576: true; the input reads as it did. -/
def nanQuietsUptoRow : OpenClaim := { program := "ytpcjdllijkjdkaadoor", sum := "6b81094029e98cd5da6fd62c69ef6d286b4b10ab6c007d9bd9a1bb5a3adb8f1a", func := "radicand/radicandlaw10.NanQuiets", spec := "nanQuiets", inPlace := ["math/bits.Sub64", "math/bits.Add64"], unfollowed := true, recurses := true, named := ["radicand/format.formats"], apart := false, laid := [("radicand/format.formats", laid_radicand_format_formats)], narrowed := true }
def NanQuietsUptoSaid : Prop := nanQuietsUptoRow.holds Tryd.pinned (OpenSpec.upto nanQuietsSpec)

/-- 'radicandlaw10.NanPayloads', WHERE WHAT IT READS IS OF BULK AT MOST 1048576: true; the input reads as it did. -/
def nanPayloadsUptoRow : OpenClaim := { program := "ytpcjdllijkjdkaadoor", sum := "6b81094029e98cd5da6fd62c69ef6d286b4b10ab6c007d9bd9a1bb5a3adb8f1a", func := "radicand/radicandlaw10.NanPayloads", spec := "nanPayloads", inPlace := ["math/bits.Add64", "math/bits.Sub64"], unfollowed := true, recurses := true, named := ["radicand/format.formats"], apart := false, laid := [("radicand/format.formats", laid_radicand_format_formats)], narrowed := true }
def NanPayloadsUptoSaid : Prop := nanPayloadsUptoRow.holds Tryd.pinned (OpenSpec.upto nanPayloadsSpec)

end Rows
end Go.Proofs.YtpcjdllijkjdkaaDoor
