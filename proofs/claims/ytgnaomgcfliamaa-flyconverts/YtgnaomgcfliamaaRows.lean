/-
  No cell of these rows narrows 'for every input' (looked for: loops, veiled, ifaces, maps, wideKeys, modest, calm, conditions, laid).
  DERIVED. THE GIVEN ROWS OF THIS SEAT. 4 by the template 'for every input the law returns true; each argument reads behind the call as it read before'; 0 by the template 'total and deterministic' (their statements: YtgnaomgcfliamaaTotals.lean).
  GIVEN WITH THE SEED: the statements are not yours to turn. If you find one false, say at which input.
  Laid BY PROGRAM, IN A SANDBOX (cutbox-rows.mjs): the forced cells as the released guide's own fill.sh prints them over the translation ba1585f767aea2e3… (all of the seat's roots in one cut). By AI agents, Wed Nov 11 2026. No macro, syntax, notation, axiom, sorry.
-/
import Derived.Test.YtgnaomgcfliamaaChecked
import GoSem.Claim
import GoSem.ClaimJoined
import GoSem.ClaimMapViews
import Derived.JoinedTies
import Derived.KernelRfl
namespace Go.Proofs.Ytgnaomgcfliamaa
/- THE CELL 'sum', in the pinned program and in every row, IS THE sha256 OF THE DUMP (.gsa) THAT YtgnaomgcfliamaaProg.lean LOADS. Nothing in Lean hashes anything: it is a label: what it is worth is what the hold of that sum in a sandbox is worth. -/
noncomputable def Try.pinned : Pinned := { name := "ytgnaomgcfliamaa", sum := "ba1585f767aea2e3995869283b6da3d50a4a69fe90f16d13fe7e42a3f70c3784", checked := Try.checked }
namespace Rows
def none {H : Type} : Left H := { results := [], args := [] }

/-- 'radicandlaw13.FlyConverts': WHATEVER THE INPUT: true; the input reads as it did. -/
def flyConvertsSpec : ChangeSpec := { name := "flyConverts", fn := fun _ => fun
  | [d] => { results := [.lit (.bool true)], args := [d] }
  | _ => none }
def flyConvertsRow : OpenClaim := { program := "ytgnaomgcfliamaa", sum := "ba1585f767aea2e3995869283b6da3d50a4a69fe90f16d13fe7e42a3f70c3784", func := "radicand/radicandlaw13.FlyConverts", spec := "flyConverts", inPlace := ["math/bits.Sub64", "math/bits.Add64"], unfollowed := true, recurses := true, apart := false }
def FlyConvertsSaid : Prop := flyConvertsRow.holds Try.pinned (OpenSpec.ofChange flyConvertsSpec)

/-- ITS FALSE NEIGHBOUR: 'it returns false'. Refute it at one input. -/
def flyConvertsWrong : ChangeSpec := { name := "flyConverts", fn := fun _ => fun
  | [d] => { results := [.lit (.bool false)], args := [d] }
  | _ => none }
def FlyConvertsWrongFalsely : Prop := flyConvertsRow.holds Try.pinned (OpenSpec.ofChange flyConvertsWrong)

/-- 'radicandlaw13.FlyNext': WHATEVER THE INPUT: true; the input reads as it did. -/
def flyNextSpec : ChangeSpec := { name := "flyNext", fn := fun _ => fun
  | [d1, d2] => { results := [.lit (.bool true)], args := [d1, d2] }
  | _ => none }
def flyNextRow : OpenClaim := { program := "ytgnaomgcfliamaa", sum := "ba1585f767aea2e3995869283b6da3d50a4a69fe90f16d13fe7e42a3f70c3784", func := "radicand/radicandlaw13.FlyNext", spec := "flyNext", inPlace := ["math/bits.Sub64", "math/bits.Add64"], unfollowed := true, recurses := true, apart := false }
def FlyNextSaid : Prop := flyNextRow.holds Try.pinned (OpenSpec.ofChange flyNextSpec)

/-- ITS FALSE NEIGHBOUR: 'it returns false'. Refute it at one input. -/
def flyNextWrong : ChangeSpec := { name := "flyNext", fn := fun _ => fun
  | [d1, d2] => { results := [.lit (.bool false)], args := [d1, d2] }
  | _ => none }
def FlyNextWrongFalsely : Prop := flyNextRow.holds Try.pinned (OpenSpec.ofChange flyNextWrong)

/-- 'radicandlaw13.FlyRecodes': WHATEVER THE INPUT: true; the input reads as it did. -/
def flyRecodesSpec : ChangeSpec := { name := "flyRecodes", fn := fun _ => fun
  | [d1, d2] => { results := [.lit (.bool true)], args := [d1, d2] }
  | _ => none }
def flyRecodesRow : OpenClaim := { program := "ytgnaomgcfliamaa", sum := "ba1585f767aea2e3995869283b6da3d50a4a69fe90f16d13fe7e42a3f70c3784", func := "radicand/radicandlaw13.FlyRecodes", spec := "flyRecodes", inPlace := ["math/bits.Add64", "math/bits.Sub64"], unfollowed := true, recurses := true, apart := false }
def FlyRecodesSaid : Prop := flyRecodesRow.holds Try.pinned (OpenSpec.ofChange flyRecodesSpec)

/-- ITS FALSE NEIGHBOUR: 'it returns false'. Refute it at one input. -/
def flyRecodesWrong : ChangeSpec := { name := "flyRecodes", fn := fun _ => fun
  | [d1, d2] => { results := [.lit (.bool false)], args := [d1, d2] }
  | _ => none }
def FlyRecodesWrongFalsely : Prop := flyRecodesRow.holds Try.pinned (OpenSpec.ofChange flyRecodesWrong)

/-- 'radicandlaw13.FlyTurns': WHATEVER THE INPUT: true; the input reads as it did. -/
def flyTurnsSpec : ChangeSpec := { name := "flyTurns", fn := fun _ => fun
  | [d] => { results := [.lit (.bool true)], args := [d] }
  | _ => none }
def flyTurnsRow : OpenClaim := { program := "ytgnaomgcfliamaa", sum := "ba1585f767aea2e3995869283b6da3d50a4a69fe90f16d13fe7e42a3f70c3784", func := "radicand/radicandlaw13.FlyTurns", spec := "flyTurns", inPlace := ["math/bits.Sub64", "math/bits.Add64"], unfollowed := true, recurses := true, apart := false }
def FlyTurnsSaid : Prop := flyTurnsRow.holds Try.pinned (OpenSpec.ofChange flyTurnsSpec)

/-- ITS FALSE NEIGHBOUR: 'it returns false'. Refute it at one input. -/
def flyTurnsWrong : ChangeSpec := { name := "flyTurns", fn := fun _ => fun
  | [d] => { results := [.lit (.bool false)], args := [d] }
  | _ => none }
def FlyTurnsWrongFalsely : Prop := flyTurnsRow.holds Try.pinned (OpenSpec.ofChange flyTurnsWrong)

/- THE SECOND FORM. 'bulk': how many values and letters a reading holds, each counted each time it is reached (what is shared counts as often as it is met; a slice's spare places count too). A statement '..UptoSaid' is the law's where the arguments, and the package variables that the reading takes, are together of bulk at most 1048576: NARROWER than '..Said'. Prove '..Said' where nothing that the law and all that it calls make is longer than what came in: it says more and counts as full. Else prove '..UptoSaid'. A law counts once. -/
mutual
def uptoBulk {H : Type} : DataW H → Nat
  | .lit (.string bytes) => bytes.length + 1
  | .lit _ => 1
  | .nil => 1
  | .ptr d => uptoBulk d + 1
  | .slice elems spare => uptoBulkAll elems + uptoBulkAll spare + 1
  | .agg parts => uptoBulkAll parts + 1
  | .iface _ d => uptoBulk d + 1
  | .map entries => uptoBulkEntries entries + 1
  | .held _ => 1
def uptoBulkAll {H : Type} : List (DataW H) → Nat
  | [] => 0
  | d :: r => uptoBulk d + uptoBulkAll r
def uptoBulkEntries {H : Type} : List (Lit × DataW H) → Nat
  | [] => 0
  | x :: r => uptoBulkEntry x + uptoBulkEntries r
def uptoBulkEntry {H : Type} : Lit × DataW H → Nat
  | (.string bytes, d) => bytes.length + uptoBulk d + 1
  | (_, d) => uptoBulk d + 1
 end
def uptoSmall : (H : Type) → List (DataW H) → Bool := fun _ ds => decide (uptoBulkAll ds ≤ 1048576)
def OpenSpec.upto (s : _root_.Go.ChangeSpec) : _root_.Go.OpenSpec := { _root_.Go.OpenSpec.ofChange s with cond := some uptoSmall }

/-- 'radicandlaw13.FlyConverts', WHERE WHAT IT READS IS OF BULK AT MOST 1048576: true; the input reads as it did. -/
def flyConvertsUptoRow : OpenClaim := { program := "ytgnaomgcfliamaa", sum := "ba1585f767aea2e3995869283b6da3d50a4a69fe90f16d13fe7e42a3f70c3784", func := "radicand/radicandlaw13.FlyConverts", spec := "flyConverts", inPlace := ["math/bits.Sub64", "math/bits.Add64"], unfollowed := true, recurses := true, apart := false, narrowed := true }
def FlyConvertsUptoSaid : Prop := flyConvertsUptoRow.holds Try.pinned (OpenSpec.upto flyConvertsSpec)

/-- 'radicandlaw13.FlyNext', WHERE WHAT IT READS IS OF BULK AT MOST 1048576: true; the input reads as it did. -/
def flyNextUptoRow : OpenClaim := { program := "ytgnaomgcfliamaa", sum := "ba1585f767aea2e3995869283b6da3d50a4a69fe90f16d13fe7e42a3f70c3784", func := "radicand/radicandlaw13.FlyNext", spec := "flyNext", inPlace := ["math/bits.Sub64", "math/bits.Add64"], unfollowed := true, recurses := true, apart := false, narrowed := true }
def FlyNextUptoSaid : Prop := flyNextUptoRow.holds Try.pinned (OpenSpec.upto flyNextSpec)

/-- 'radicandlaw13.FlyRecodes', WHERE WHAT IT READS IS OF BULK AT MOST 1048576: true; the input reads as it did. -/
def flyRecodesUptoRow : OpenClaim := { program := "ytgnaomgcfliamaa", sum := "ba1585f767aea2e3995869283b6da3d50a4a69fe90f16d13fe7e42a3f70c3784", func := "radicand/radicandlaw13.FlyRecodes", spec := "flyRecodes", inPlace := ["math/bits.Add64", "math/bits.Sub64"], unfollowed := true, recurses := true, apart := false, narrowed := true }
def FlyRecodesUptoSaid : Prop := flyRecodesUptoRow.holds Try.pinned (OpenSpec.upto flyRecodesSpec)

/-- 'radicandlaw13.FlyTurns', WHERE WHAT IT READS IS OF BULK AT MOST 1048576: true; the input reads as it did. -/
def flyTurnsUptoRow : OpenClaim := { program := "ytgnaomgcfliamaa", sum := "ba1585f767aea2e3995869283b6da3d50a4a69fe90f16d13fe7e42a3f70c3784", func := "radicand/radicandlaw13.FlyTurns", spec := "flyTurns", inPlace := ["math/bits.Sub64", "math/bits.Add64"], unfollowed := true, recurses := true, apart := false, narrowed := true }
def FlyTurnsUptoSaid : Prop := flyTurnsUptoRow.holds Try.pinned (OpenSpec.upto flyTurnsSpec)

end Rows
end Go.Proofs.Ytgnaomgcfliamaa
