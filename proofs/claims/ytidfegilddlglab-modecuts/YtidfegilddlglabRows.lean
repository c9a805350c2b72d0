/-
  No cell of these rows narrows 'for every input' (looked for: loops, veiled, ifaces, maps, wideKeys, modest, calm, conditions, laid).
  DERIVED. THE GIVEN ROWS OF THIS SEAT. 3 by the template 'for every input the law returns true; each argument reads behind the call as it read before'; 0 by the template 'total and deterministic' (their statements: YtidfegilddlglabTotals.lean).
  GIVEN WITH THE SEED: the statements are not yours to turn. If you find one false, say at which input.
  Laid BY PROGRAM, IN A SANDBOX (cutbox-rows.mjs): the forced cells as the released guide's own fill.sh prints them over the translation 5431caaed212c89e… (all of the seat's roots in one cut). By AI agents, Wed Nov 11 2026. No macro, syntax, notation, axiom, sorry.
-/
import Derived.Test.YtidfegilddlglabChecked
import GoSem.Claim
import GoSem.ClaimJoined
import GoSem.ClaimMapViews
import Derived.JoinedTies
import Derived.KernelRfl
namespace Go.Proofs.Ytidfegilddlglab
/- THE CELL 'sum', in the pinned program and in every row, IS THE sha256 OF THE DUMP (.gsa) THAT YtidfegilddlglabProg.lean LOADS. Nothing in Lean hashes anything: it is a label: what it is worth is what the hold of that sum in a sandbox is worth. -/
noncomputable def Try.pinned : Pinned := { name := "ytidfegilddlglab", sum := "5431caaed212c89e63370fffff5b8de63e399109fe78032cf750f838d7693002", checked := Try.checked }
namespace Rows
def none {H : Type} : Left H := { results := [], args := [] }

/-- 'radicandlaw08.ModeRests': WHATEVER THE INPUT: true; the input reads as it did. -/
def modeRestsSpec : ChangeSpec := { name := "modeRests", fn := fun _ => fun
  | [d1, d2, d3] => { results := [.lit (.bool true)], args := [d1, d2, d3] }
  | _ => none }
def modeRestsRow : OpenClaim := { program := "ytidfegilddlglab", sum := "5431caaed212c89e63370fffff5b8de63e399109fe78032cf750f838d7693002", func := "radicand/radicandlaw08.ModeRests", spec := "modeRests", inPlace := ["math/bits.Add64"], unfollowed := true, recurses := true, apart := false }
def ModeRestsSaid : Prop := modeRestsRow.holds Try.pinned (OpenSpec.ofChange modeRestsSpec)

/-- ITS FALSE NEIGHBOUR: 'it returns false'. Refute it at one input. -/
def modeRestsWrong : ChangeSpec := { name := "modeRests", fn := fun _ => fun
  | [d1, d2, d3] => { results := [.lit (.bool false)], args := [d1, d2, d3] }
  | _ => none }
def ModeRestsWrongFalsely : Prop := modeRestsRow.holds Try.pinned (OpenSpec.ofChange modeRestsWrong)

/-- 'radicandlaw08.ModeCuts': WHATEVER THE INPUT: true; the input reads as it did. -/
def modeCutsSpec : ChangeSpec := { name := "modeCuts", fn := fun _ => fun
  | [d1, d2, d3] => { results := [.lit (.bool true)], args := [d1, d2, d3] }
  | _ => none }
def modeCutsRow : OpenClaim := { program := "ytidfegilddlglab", sum := "5431caaed212c89e63370fffff5b8de63e399109fe78032cf750f838d7693002", func := "radicand/radicandlaw08.ModeCuts", spec := "modeCuts", inPlace := ["math/bits.Add64"], unfollowed := true, recurses := true, apart := false }
def ModeCutsSaid : Prop := modeCutsRow.holds Try.pinned (OpenSpec.ofChange modeCutsSpec)

/-- ITS FALSE NEIGHBOUR: 'it returns false'. Refute it at one input. -/
def modeCutsWrong : ChangeSpec := { name := "modeCuts", fn := fun _ => fun
  | [d1, d2, d3] => { results := [.lit (.bool false)], args := [d1, d2, d3] }
  | _ => none }
def ModeCutsWrongFalsely : Prop := modeCutsRow.holds Try.pinned (OpenSpec.ofChange modeCutsWrong)

/-- 'radicandlaw08.ModeRules': WHATEVER THE INPUT: true; the input reads as it did. -/
def modeRulesSpec : ChangeSpec := { name := "modeRules", fn := fun _ => fun
  | [d1, d2, d3] => { results := [.lit (.bool true)], args := [d1, d2, d3] }
  | _ => none }
def modeRulesRow : OpenClaim := { program := "ytidfegilddlglab", sum := "5431caaed212c89e63370fffff5b8de63e399109fe78032cf750f838d7693002", func := "radicand/radicandlaw08.ModeRules", spec := "modeRules", inPlace := ["math/bits.Add64"], unfollowed := true, recurses := true, apart := false }
def ModeRulesSaid : Prop := modeRulesRow.holds Try.pinned (OpenSpec.ofChange modeRulesSpec)

/-- ITS FALSE NEIGHBOUR: 'it returns false'. Refute it at one input. -/
def modeRulesWrong : ChangeSpec := { name := "modeRules", fn := fun _ => fun
  | [d1, d2, d3] => { results := [.lit (.bool false)], args := [d1, d2, d3] }
  | _ => none }
def ModeRulesWrongFalsely : Prop := modeRulesRow.holds Try.pinned (OpenSpec.ofChange modeRulesWrong)

/- THE SECOND FORM. 'bulk': how many values and letters a reading holds, each counted each time it is reached (what is shared counts as often as it is met; a slice's spare places count too). A statement '..UptoSaid' is the law's where the arguments, and the package variables that the reading takes, are together of bulk at most 1048576: NARROWER than '..Said'. Prove '..Said' where nothing that the law and all that it calls make is longer than what came in: it says more and counts as full. Else prove '..UptoSaid'. A law counts once. -/
mutual
def uptoBulk {H : Type} : DataW H → Nat
  | .lit (.string bytes) => bytes.length + 1
  | .lit _ => 1
  | .nil => 1
  | .ptr d => uptoBulk d + 1
  | .slice elems spare => uptoBulkAll elems + uptoBulkAll spare + 1
  | .agg parts => uptoBulkAll parts + 1
  | .iface _ d => uptoBulk d + 1
  | .map entries => uptoBulkEntries entries + 1
  | .held _ => 1
def uptoBulkAll {H : Type} : List (DataW H) → Nat
  | [] => 0
  | d :: r => uptoBulk d + uptoBulkAll r
def uptoBulkEntries {H : Type} : List (Lit × DataW H) → Nat
  | [] => 0
  | x :: r => uptoBulkEntry x + uptoBulkEntries r
def uptoBulkEntry {H : Type} : Lit × DataW H → Nat
  | (.string bytes, d) => bytes.length + uptoBulk d + 1
  | (_, d) => uptoBulk d + 1
 end
def uptoSmall : (H : Type) → List (DataW H) → Bool := fun _ ds => decide (uptoBulkAll ds ≤ 1048576)
def OpenSpec.upto (s : _root_.Go.ChangeSpec) : _root_.Go.OpenSpec := { _root_.Go.OpenSpec.ofChange s with cond := some uptoSmall }

/-- 'radicandlaw08.ModeRests', WHERE WHAT IT READS IS OF BULK AT MOST 1048576: true; the input reads as it did. -/
def modeRestsUptoRow : OpenClaim := { program := "ytidfegilddlglab", sum := "5431caaed212c89e63370fffff5b8de63e399109fe78032cf750f838d7693002", func := "radicand/radicandlaw08.ModeRests", spec := "modeRests", inPlace := ["math/bits.Add64"], unfollowed := true, recurses := true, apart := false, narrowed := true }
def ModeRestsUptoSaid : Prop := modeRestsUptoRow.holds Try.pinned (OpenSpec.upto modeRestsSpec)

/-- 'radicandlaw08.ModeCuts', WHERE WHAT IT READS IS OF BULK AT MOST 1048576: true; the input reads as it did. -/
def modeCutsUptoRow : OpenClaim := { program := "ytidfegilddlglab", sum := "5431caaed212c89e63370fffff5b8de63e399109fe78032cf750f838d7693002", func := "radicand/radicandlaw08.ModeCuts", spec := "modeCuts", inPlace := ["math/bits.Add64"], unfollowed := true, recurses := true, apart := false, narrowed := true }
def ModeCutsUptoSaid : Prop := modeCutsUptoRow.holds Try.pinned (OpenSpec.upto modeCutsSpec)

/-- 'radicandlaw08.ModeRules', WHERE WHAT IT READS IS OF BULK AT MOST 1048576: true; the input reads as it did. -/
def modeRulesUptoRow : OpenClaim := { program := "ytidfegilddlglab", sum := "5431caaed212c89e63370fffff5b8de63e399109fe78032cf750f838d7693002", func := "radicand/radicandlaw08.ModeRules", spec := "modeRules", inPlace := ["math/bits.Add64"], unfollowed := true, recurses := true, apart := false, narrowed := true }
def ModeRulesUptoSaid : Prop := modeRulesUptoRow.holds Try.pinned (OpenSpec.upto modeRulesSpec)

end Rows
end Go.Proofs.Ytidfegilddlglab
