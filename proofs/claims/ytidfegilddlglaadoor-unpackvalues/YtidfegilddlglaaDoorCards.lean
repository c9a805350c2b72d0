/-
  DERIVED. GIVEN WITH THE SEED: THE CARDS: each row of YtidfegilddlglaaDoorRows.lean that lists a variable, with what it lists TIED to the program's text (the seventh form; the later family's looks); each row that meets fmt, with fmt's text TOLD by the authors' own Lean function (tested against real Go, not proved from fmt's source: count such statements apart). THE CARD IS WHAT COUNTS. Prove the row's statement (the work); the ties are given (YtidfegilddlglaaDoorTie.lean); close each card by the builder's one call (the guide's Derived/Test/ToyasCard.lean, 'card_holds'). Laid BY PROGRAM, IN A SANDBOX (cutbox-door.mjs). By AI agents, Wed Nov 11 2026. No macro, syntax, notation, axiom, sorry.
-/
import Derived.Test.YtidfegilddlglaaDoorRows
import GoSem.ClaimSeven
namespace Go.Proofs.YtidfegilddlglaaDoor
namespace Rows

/-- THE TIED CARD OF 'radicandlaw06.ClassOf'. -/
def classOfCard : Claim7 := { stood := { row := classOfRow, standIns := [], harness := (true, "9d98287acc8507a5882954404ba6dd5c8d1129bdd2c779bce0d65498184581fc"), looks := false }, kinds := [], alts := [], laidByText := true, laidKinds := [.data], laidTests := true, laidLooks := .later }
def ClassOfCardSaid : Prop := Claim7.holds Tryd.pinned (.plain (OpenSpec.ofChange classOfSpec)) classOfCard

/-- THE TIED CARD OF 'radicandlaw06.ClassMakes'. -/
def classMakesCard : Claim7 := { stood := { row := classMakesRow, standIns := [], harness := (true, "9d98287acc8507a5882954404ba6dd5c8d1129bdd2c779bce0d65498184581fc"), looks := false }, kinds := [], alts := [], laidByText := true, laidKinds := [.data], laidTests := true, laidLooks := .later }
def ClassMakesCardSaid : Prop := Claim7.holds Tryd.pinned (.plain (OpenSpec.ofChange classMakesSpec)) classMakesCard

/-- THE TIED CARD OF 'radicandlaw06.ClassCounts'. -/
def classCountsCard : Claim7 := { stood := { row := classCountsRow, standIns := [], harness := (true, "9d98287acc8507a5882954404ba6dd5c8d1129bdd2c779bce0d65498184581fc"), looks := false }, kinds := [], alts := [], laidByText := true, laidKinds := [.data], laidTests := true, laidLooks := .later }
def ClassCountsCardSaid : Prop := Claim7.holds Tryd.pinned (.plain (OpenSpec.ofChange classCountsSpec)) classCountsCard

/-- THE TIED CARD OF 'radicandlaw06.ClassSigns'. -/
def classSignsCard : Claim7 := { stood := { row := classSignsRow, standIns := [], harness := (true, "9d98287acc8507a5882954404ba6dd5c8d1129bdd2c779bce0d65498184581fc"), looks := false }, kinds := [], alts := [], laidByText := true, laidKinds := [.data], laidTests := true, laidLooks := .later }
def ClassSignsCardSaid : Prop := Claim7.holds Tryd.pinned (.plain (OpenSpec.ofChange classSignsSpec)) classSignsCard

/-- THE TIED CARD OF 'radicandlaw07.UnpackValues'. -/
def unpackValuesCard : Claim7 := { stood := { row := unpackValuesRow, standIns := [], harness := (true, "9d98287acc8507a5882954404ba6dd5c8d1129bdd2c779bce0d65498184581fc"), looks := false }, kinds := [], alts := [], laidByText := true, laidKinds := [.data], laidTests := true, laidLooks := .later }
def UnpackValuesCardSaid : Prop := Claim7.holds Tryd.pinned (.plain (OpenSpec.ofChange unpackValuesSpec)) unpackValuesCard

/-- THE TIED CARD OF 'radicandlaw07.UnpackExact'. -/
def unpackExactCard : Claim7 := { stood := { row := unpackExactRow, standIns := [], harness := (true, "9d98287acc8507a5882954404ba6dd5c8d1129bdd2c779bce0d65498184581fc"), looks := false }, kinds := [], alts := [], laidByText := true, laidKinds := [.data], laidTests := true, laidLooks := .later }
def UnpackExactCardSaid : Prop := Claim7.holds Tryd.pinned (.plain (OpenSpec.ofChange unpackExactSpec)) unpackExactCard

/-- THE TIED CARD OF 'radicandlaw07.UnpackCmp'. -/
def unpackCmpCard : Claim7 := { stood := { row := unpackCmpRow, standIns := [], harness := (true, "9d98287acc8507a5882954404ba6dd5c8d1129bdd2c779bce0d65498184581fc"), looks := false }, kinds := [], alts := [], laidByText := true, laidKinds := [.data], laidTests := true, laidLooks := .later }
def UnpackCmpCardSaid : Prop := Claim7.holds Tryd.pinned (.plain (OpenSpec.ofChange unpackCmpSpec)) unpackCmpCard

/-- THE TIED CARD OF 'radicandlaw07.UnpackShort'. -/
def unpackShortCard : Claim7 := { stood := { row := unpackShortRow, standIns := [], harness := (true, "9d98287acc8507a5882954404ba6dd5c8d1129bdd2c779bce0d65498184581fc"), looks := false }, kinds := [], alts := [], laidByText := true, laidKinds := [.data], laidTests := true, laidLooks := .later }
def UnpackShortCardSaid : Prop := Claim7.holds Tryd.pinned (.plain (OpenSpec.ofChange unpackShortSpec)) unpackShortCard

/-- THE TIED CARD OF 'radicandlaw07.UnpackOrder'. -/
def unpackOrderCard : Claim7 := { stood := { row := unpackOrderRow, standIns := [], harness := (true, "9d98287acc8507a5882954404ba6dd5c8d1129bdd2c779bce0d65498184581fc"), looks := false }, kinds := [], alts := [], laidByText := true, laidKinds := [.data], laidTests := true, laidLooks := .later }
def UnpackOrderCardSaid : Prop := Claim7.holds Tryd.pinned (.plain (OpenSpec.ofChange unpackOrderSpec)) unpackOrderCard

/-- THE SECOND FORM's CARD OF 'radicandlaw06.ClassOf'. -/
def classOfUptoCard : Claim7 := { stood := { row := classOfUptoRow, standIns := [], harness := (true, "9d98287acc8507a5882954404ba6dd5c8d1129bdd2c779bce0d65498184581fc"), looks := false }, kinds := [], alts := [], laidByText := true, laidKinds := [.data], laidTests := true, laidLooks := .later }
def ClassOfUptoCardSaid : Prop := Claim7.holds Tryd.pinned (.plain (OpenSpec.upto classOfSpec)) classOfUptoCard

/-- THE SECOND FORM's CARD OF 'radicandlaw06.ClassMakes'. -/
def classMakesUptoCard : Claim7 := { stood := { row := classMakesUptoRow, standIns := [], harness := (true, "9d98287acc8507a5882954404ba6dd5c8d1129bdd2c779bce0d65498184581fc"), looks := false }, kinds := [], alts := [], laidByText := true, laidKinds := [.data], laidTests := true, laidLooks := .later }
def ClassMakesUptoCardSaid : Prop := Claim7.holds Tryd.pinned (.plain (OpenSpec.upto classMakesSpec)) classMakesUptoCard

/-- THE SECOND FORM's CARD OF 'radicandlaw06.ClassCounts'. -/
def classCountsUptoCard : Claim7 := { stood := { row := classCountsUptoRow, standIns := [], harness := (true, "9d98287acc8507a5882954404ba6dd5c8d1129bdd2c779bce0d65498184581fc"), looks := false }, kinds := [], alts := [], laidByText := true, laidKinds := [.data], laidTests := true, laidLooks := .later }
def ClassCountsUptoCardSaid : Prop := Claim7.holds Tryd.pinned (.plain (OpenSpec.upto classCountsSpec)) classCountsUptoCard

/-- THE SECOND FORM's CARD OF 'radicandlaw06.ClassSigns'. -/
def classSignsUptoCard : Claim7 := { stood := { row := classSignsUptoRow, standIns := [], harness := (true, "9d98287acc8507a5882954404ba6dd5c8d1129bdd2c779bce0d65498184581fc"), looks := false }, kinds := [], alts := [], laidByText := true, laidKinds := [.data], laidTests := true, laidLooks := .later }
def ClassSignsUptoCardSaid : Prop := Claim7.holds Tryd.pinned (.plain (OpenSpec.upto classSignsSpec)) classSignsUptoCard

/-- THE SECOND FORM's CARD OF 'radicandlaw07.UnpackValues'. -/
def unpackValuesUptoCard : Claim7 := { stood := { row := unpackValuesUptoRow, standIns := [], harness := (true, "9d98287acc8507a5882954404ba6dd5c8d1129bdd2c779bce0d65498184581fc"), looks := false }, kinds := [], alts := [], laidByText := true, laidKinds := [.data], laidTests := true, laidLooks := .later }
def UnpackValuesUptoCardSaid : Prop := Claim7.holds Tryd.pinned (.plain (OpenSpec.upto unpackValuesSpec)) unpackValuesUptoCard

/-- THE SECOND FORM's CARD OF 'radicandlaw07.UnpackExact'. -/
def unpackExactUptoCard : Claim7 := { stood := { row := unpackExactUptoRow, standIns := [], harness := (true, "9d98287acc8507a5882954404ba6dd5c8d1129bdd2c779bce0d65498184581fc"), looks := false }, kinds := [], alts := [], laidByText := true, laidKinds := [.data], laidTests := true, laidLooks := .later }
def UnpackExactUptoCardSaid : Prop := Claim7.holds Tryd.pinned (.plain (OpenSpec.upto unpackExactSpec)) unpackExactUptoCard

/-- THE SECOND FORM's CARD OF 'radicandlaw07.UnpackCmp'. -/
def unpackCmpUptoCard : Claim7 := { stood := { row := unpackCmpUptoRow, standIns := [], harness := (true, "9d98287acc8507a5882954404ba6dd5c8d1129bdd2c779bce0d65498184581fc"), looks := false }, kinds := [], alts := [], laidByText := true, laidKinds := [.data], laidTests := true, laidLooks := .later }
def UnpackCmpUptoCardSaid : Prop := Claim7.holds Tryd.pinned (.plain (OpenSpec.upto unpackCmpSpec)) unpackCmpUptoCard

/-- THE SECOND FORM's CARD OF 'radicandlaw07.UnpackShort'. -/
def unpackShortUptoCard : Claim7 := { stood := { row := unpackShortUptoRow, standIns := [], harness := (true, "9d98287acc8507a5882954404ba6dd5c8d1129bdd2c779bce0d65498184581fc"), looks := false }, kinds := [], alts := [], laidByText := true, laidKinds := [.data], laidTests := true, laidLooks := .later }
def UnpackShortUptoCardSaid : Prop := Claim7.holds Tryd.pinned (.plain (OpenSpec.upto unpackShortSpec)) unpackShortUptoCard

/-- THE SECOND FORM's CARD OF 'radicandlaw07.UnpackOrder'. -/
def unpackOrderUptoCard : Claim7 := { stood := { row := unpackOrderUptoRow, standIns := [], harness := (true, "9d98287acc8507a5882954404ba6dd5c8d1129bdd2c779bce0d65498184581fc"), looks := false }, kinds := [], alts := [], laidByText := true, laidKinds := [.data], laidTests := true, laidLooks := .later }
def UnpackOrderUptoCardSaid : Prop := Claim7.holds Tryd.pinned (.plain (OpenSpec.upto unpackOrderSpec)) unpackOrderUptoCard
end Rows
end Go.Proofs.YtidfegilddlglaaDoor
