/-
  No cell of these rows narrows 'for every input' (looked for: loops, veiled, ifaces, maps, wideKeys, modest, calm, conditions, laid).
  DERIVED. THE GIVEN ROWS OF THIS SEAT. 4 by the template 'for every input the law returns true; each argument reads behind the call as it read before'; 0 by the template 'total and deterministic' (their statements: YtbngaajhdaciaaaTotals.lean).
  GIVEN WITH THE SEED: the statements are not yours to turn. If you find one false, say at which input.
  Laid BY PROGRAM, IN A SANDBOX (cutbox-rows.mjs): the forced cells as the released guide's own fill.sh prints them over the translation e5c5004a632d3cc4… (all of the seat's roots in one cut). By AI agents, Wed Nov 11 2026. No macro, syntax, notation, axiom, sorry.
-/
import Derived.Test.YtbngaajhdaciaaaChecked
import GoSem.Claim
import GoSem.ClaimJoined
import GoSem.ClaimMapViews
import Derived.JoinedTies
import Derived.KernelRfl
namespace Go.Proofs.Ytbngaajhdaciaaa
/- THE CELL 'sum', in the pinned program and in every row, IS THE sha256 OF THE DUMP (.gsa) THAT YtbngaajhdaciaaaProg.lean LOADS. Nothing in Lean hashes anything: it is a label: what it is worth is what the hold of that sum in a sandbox is worth. -/
noncomputable def Try.pinned : Pinned := { name := "ytbngaajhdaciaaa", sum := "e5c5004a632d3cc48816059653768b0d3853cf721c1cc6dd6f6cfbacf752914a", checked := Try.checked }
namespace Rows
def none {H : Type} : Left H := { results := [], args := [] }

/-- 'radicandlaw16.SrtrootRoots': WHATEVER THE INPUT: true; the input reads as it did. -/
def srtrootRootsSpec : ChangeSpec := { name := "srtrootRoots", fn := fun _ => fun
  | [d] => { results := [.lit (.bool true)], args := [d] }
  | _ => none }
def srtrootRootsRow : OpenClaim := { program := "ytbngaajhdaciaaa", sum := "e5c5004a632d3cc48816059653768b0d3853cf721c1cc6dd6f6cfbacf752914a", func := "radicand/radicandlaw16.SrtrootRoots", spec := "srtrootRoots", inPlace := ["math/bits.Sub64", "math/bits.Add64"], unfollowed := true, recurses := true, apart := false }
def SrtrootRootsSaid : Prop := srtrootRootsRow.holds Try.pinned (OpenSpec.ofChange srtrootRootsSpec)

/-- ITS FALSE NEIGHBOUR: 'it returns false'. Refute it at one input. -/
def srtrootRootsWrong : ChangeSpec := { name := "srtrootRoots", fn := fun _ => fun
  | [d] => { results := [.lit (.bool false)], args := [d] }
  | _ => none }
def SrtrootRootsWrongFalsely : Prop := srtrootRootsRow.holds Try.pinned (OpenSpec.ofChange srtrootRootsWrong)

/-- 'radicandlaw16.SrtrootDigits': WHATEVER THE INPUT: true; the input reads as it did. -/
def srtrootDigitsSpec : ChangeSpec := { name := "srtrootDigits", fn := fun _ => fun
  | [d] => { results := [.lit (.bool true)], args := [d] }
  | _ => none }
def srtrootDigitsRow : OpenClaim := { program := "ytbngaajhdaciaaa", sum := "e5c5004a632d3cc48816059653768b0d3853cf721c1cc6dd6f6cfbacf752914a", func := "radicand/radicandlaw16.SrtrootDigits", spec := "srtrootDigits", inPlace := ["math/bits.Sub64", "math/bits.Add64"], unfollowed := true, recurses := true, apart := false }
def SrtrootDigitsSaid : Prop := srtrootDigitsRow.holds Try.pinned (OpenSpec.ofChange srtrootDigitsSpec)

/-- ITS FALSE NEIGHBOUR: 'it returns false'. Refute it at one input. -/
def srtrootDigitsWrong : ChangeSpec := { name := "srtrootDigits", fn := fun _ => fun
  | [d] => { results := [.lit (.bool false)], args := [d] }
  | _ => none }
def SrtrootDigitsWrongFalsely : Prop := srtrootDigitsRow.holds Try.pinned (OpenSpec.ofChange srtrootDigitsWrong)

/-- 'radicandlaw16.SrtrootFar': WHATEVER THE INPUT: true; the input reads as it did. -/
def srtrootFarSpec : ChangeSpec := { name := "srtrootFar", fn := fun _ => fun
  | [d1, d2] => { results := [.lit (.bool true)], args := [d1, d2] }
  | _ => none }
def srtrootFarRow : OpenClaim := { program := "ytbngaajhdaciaaa", sum := "e5c5004a632d3cc48816059653768b0d3853cf721c1cc6dd6f6cfbacf752914a", func := "radicand/radicandlaw16.SrtrootFar", spec := "srtrootFar", inPlace := ["math/bits.Sub64", "math/bits.Add64"], unfollowed := true, recurses := true, apart := false }
def SrtrootFarSaid : Prop := srtrootFarRow.holds Try.pinned (OpenSpec.ofChange srtrootFarSpec)

/-- ITS FALSE NEIGHBOUR: 'it returns false'. Refute it at one input. -/
def srtrootFarWrong : ChangeSpec := { name := "srtrootFar", fn := fun _ => fun
  | [d1, d2] => { results := [.lit (.bool false)], args := [d1, d2] }
  | _ => none }
def SrtrootFarWrongFalsely : Prop := srtrootFarRow.holds Try.pinned (OpenSpec.ofChange srtrootFarWrong)

/-- 'radicandlaw16.SrtrootKeeps': WHATEVER THE INPUT: true; the input reads as it did. -/
def srtrootKeepsSpec : ChangeSpec := { name := "srtrootKeeps", fn := fun _ => fun
  | [d1, d2] => { results := [.lit (.bool true)], args := [d1, d2] }
  | _ => none }
def srtrootKeepsRow : OpenClaim := { program := "ytbngaajhdaciaaa", sum := "e5c5004a632d3cc48816059653768b0d3853cf721c1cc6dd6f6cfbacf752914a", func := "radicand/radicandlaw16.SrtrootKeeps", spec := "srtrootKeeps", inPlace := ["math/bits.Sub64", "math/bits.Add64"], unfollowed := true, recurses := true, apart := false }
def SrtrootKeepsSaid : Prop := srtrootKeepsRow.holds Try.pinned (OpenSpec.ofChange srtrootKeepsSpec)

/-- ITS FALSE NEIGHBOUR: 'it returns false'. Refute it at one input. -/
def srtrootKeepsWrong : ChangeSpec := { name := "srtrootKeeps", fn := fun _ => fun
  | [d1, d2] => { results := [.lit (.bool false)], args := [d1, d2] }
  | _ => none }
def SrtrootKeepsWrongFalsely : Prop := srtrootKeepsRow.holds Try.pinned (OpenSpec.ofChange srtrootKeepsWrong)

/- THE SECOND FORM. 'bulk': how many values and letters a reading holds, each counted each time it is reached (what is shared counts as often as it is met; a slice's spare places count too). A statement '..UptoSaid' is the law's where the arguments, and the package variables that the reading takes, are together of bulk at most 1048576: NARROWER than '..Said'. Prove '..Said' where nothing that the law and all that it calls make is longer than what came in: it says more and counts as full. Else prove '..UptoSaid'. A law counts once. -/
mutual
def uptoBulk {H : Type} : DataW H → Nat
  | .lit (.string bytes) => bytes.length + 1
  | .lit _ => 1
  | .nil => 1
  | .ptr d => uptoBulk d + 1
  | .slice elems spare => uptoBulkAll elems + uptoBulkAll spare + 1
  | .agg parts => uptoBulkAll parts + 1
  | .iface _ d => uptoBulk d + 1
  | .map entries => uptoBulkEntries entries + 1
  | .held _ => 1
def uptoBulkAll {H : Type} : List (DataW H) → Nat
  | [] => 0
  | d :: r => uptoBulk d + uptoBulkAll r
def uptoBulkEntries {H : Type} : List (Lit × DataW H) → Nat
  | [] => 0
  | x :: r => uptoBulkEntry x + uptoBulkEntries r
def uptoBulkEntry {H : Type} : Lit × DataW H → Nat
  | (.string bytes, d) => bytes.length + uptoBulk d + 1
  | (_, d) => uptoBulk d + 1
 end
def uptoSmall : (H : Type) → List (DataW H) → Bool := fun _ ds => decide (uptoBulkAll ds ≤ 1048576)
def OpenSpec.upto (s : _root_.Go.ChangeSpec) : _root_.Go.OpenSpec := { _root_.Go.OpenSpec.ofChange s with cond := some uptoSmall }

/-- 'radicandlaw16.SrtrootRoots', WHERE WHAT IT READS IS OF BULK AT MOST 1048576: true; the input reads as it did. -/
def srtrootRootsUptoRow : OpenClaim := { program := "ytbngaajhdaciaaa", sum := "e5c5004a632d3cc48816059653768b0d3853cf721c1cc6dd6f6cfbacf752914a", func := "radicand/radicandlaw16.SrtrootRoots", spec := "srtrootRoots", inPlace := ["math/bits.Sub64", "math/bits.Add64"], unfollowed := true, recurses := true, apart := false, narrowed := true }
def SrtrootRootsUptoSaid : Prop := srtrootRootsUptoRow.holds Try.pinned (OpenSpec.upto srtrootRootsSpec)

/-- 'radicandlaw16.SrtrootDigits', WHERE WHAT IT READS IS OF BULK AT MOST 1048576: true; the input reads as it did. -/
def srtrootDigitsUptoRow : OpenClaim := { program := "ytbngaajhdaciaaa", sum := "e5c5004a632d3cc48816059653768b0d3853cf721c1cc6dd6f6cfbacf752914a", func := "radicand/radicandlaw16.SrtrootDigits", spec := "srtrootDigits", inPlace := ["math/bits.Sub64", "math/bits.Add64"], unfollowed := true, recurses := true, apart := false, narrowed := true }
def SrtrootDigitsUptoSaid : Prop := srtrootDigitsUptoRow.holds Try.pinned (OpenSpec.upto srtrootDigitsSpec)

/-- 'radicandlaw16.SrtrootFar', WHERE WHAT IT READS IS OF BULK AT MOST 1048576: true; the input reads as it did. -/
def srtrootFarUptoRow : OpenClaim := { program := "ytbngaajhdaciaaa", sum := "e5c5004a632d3cc48816059653768b0d3853cf721c1cc6dd6f6cfbacf752914a", func := "radicand/radicandlaw16.SrtrootFar", spec := "srtrootFar", inPlace := ["math/bits.Sub64", "math/bits.Add64"], unfollowed := true, recurses := true, apart := false, narrowed := true }
def SrtrootFarUptoSaid : Prop := srtrootFarUptoRow.holds Try.pinned (OpenSpec.upto srtrootFarSpec)

/-- 'radicandlaw16.SrtrootKeeps', WHERE WHAT IT READS IS OF BULK AT MOST 1048576: true; the input reads as it did. -/
def srtrootKeepsUptoRow : OpenClaim := { program := "ytbngaajhdaciaaa", sum := "e5c5004a632d3cc48816059653768b0d3853cf721c1cc6dd6f6cfbacf752914a", func := "radicand/radicandlaw16.SrtrootKeeps", spec := "srtrootKeeps", inPlace := ["math/bits.Sub64", "math/bits.Add64"], unfollowed := true, recurses := true, apart := false, narrowed := true }
def SrtrootKeepsUptoSaid : Prop := srtrootKeepsUptoRow.holds Try.pinned (OpenSpec.upto srtrootKeepsSpec)

end Rows
end Go.Proofs.Ytbngaajhdaciaaa
