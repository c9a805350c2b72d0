/-
  DERIVED. GIVEN WITH THE SEED: THE CARDS: each row of YtpcjdllijkjdkaaDoorRows.lean that lists a variable, with what it lists TIED to the program's text (the seventh form; the later family's looks); each row that meets fmt, with fmt's text TOLD by the authors' own Lean function (tested against real Go, not proved from fmt's source: count such statements apart). THE CARD IS WHAT COUNTS. Prove the row's statement (the work); the ties are given (YtpcjdllijkjdkaaDoorTie.lean); close each card by the builder's one call (the guide's Derived/Test/ToyasCard.lean, 'card_holds'). Laid BY PROGRAM, IN A SANDBOX (cutbox-door.mjs). By AI agents, Wed Nov 11 2026. No macro, syntax, notation, axiom, sorry.
-/
import Derived.Test.YtpcjdllijkjdkaaDoorRows
import GoSem.ClaimSeven
namespace Go.Proofs.YtpcjdllijkjdkaaDoor
namespace Rows

/-- THE TIED CARD OF 'radicandlaw07.UnpackExact'. -/
def unpackExactCard : Claim7 := { stood := { row := unpackExactRow, standIns := [], harness := (true, "bda7307485677e703060dea11d85374f6d1941a46d5c51f47956e134a69fc123"), looks := false }, kinds := [], alts := [], laidByText := true, laidKinds := [.data], laidTests := true, laidLooks := .later }
def UnpackExactCardSaid : Prop := Claim7.holds Tryd.pinned (.plain (OpenSpec.ofChange unpackExactSpec)) unpackExactCard

/-- THE TIED CARD OF 'radicandlaw09.PackDigits'. -/
def packDigitsCard : Claim7 := { stood := { row := packDigitsRow, standIns := [], harness := (true, "bda7307485677e703060dea11d85374f6d1941a46d5c51f47956e134a69fc123"), looks := false }, kinds := [], alts := [], laidByText := true, laidKinds := [.data], laidTests := true, laidLooks := .later }
def PackDigitsCardSaid : Prop := Claim7.holds Tryd.pinned (.plain (OpenSpec.ofChange packDigitsSpec)) packDigitsCard

/-- THE TIED CARD OF 'radicandlaw09.PackFlags'. -/
def packFlagsCard : Claim7 := { stood := { row := packFlagsRow, standIns := [], harness := (true, "bda7307485677e703060dea11d85374f6d1941a46d5c51f47956e134a69fc123"), looks := false }, kinds := [], alts := [], laidByText := true, laidKinds := [.data, .data], laidTests := true, laidLooks := .later }
def PackFlagsCardSaid : Prop := Claim7.holds Tryd.pinned (.plain (OpenSpec.ofChange packFlagsSpec)) packFlagsCard

/-- THE TIED CARD OF 'radicandlaw09.PackOwn'. -/
def packOwnCard : Claim7 := { stood := { row := packOwnRow, standIns := [], harness := (true, "bda7307485677e703060dea11d85374f6d1941a46d5c51f47956e134a69fc123"), looks := false }, kinds := [], alts := [], laidByText := true, laidKinds := [.data], laidTests := true, laidLooks := .later }
def PackOwnCardSaid : Prop := Claim7.holds Tryd.pinned (.plain (OpenSpec.ofChange packOwnSpec)) packOwnCard

/-- THE TIED CARD OF 'radicandlaw09.PackOrder'. -/
def packOrderCard : Claim7 := { stood := { row := packOrderRow, standIns := [], harness := (true, "bda7307485677e703060dea11d85374f6d1941a46d5c51f47956e134a69fc123"), looks := false }, kinds := [], alts := [], laidByText := true, laidKinds := [.data], laidTests := true, laidLooks := .later }
def PackOrderCardSaid : Prop := Claim7.holds Tryd.pinned (.plain (OpenSpec.ofChange packOrderSpec)) packOrderCard

/-- THE TIED CARD OF 'radicandlaw10.NanOf'. -/
def nanOfCard : Claim7 := { stood := { row := nanOfRow, standIns := [], harness := (true, "bda7307485677e703060dea11d85374f6d1941a46d5c51f47956e134a69fc123"), looks := false }, kinds := [], alts := [], laidByText := true, laidKinds := [.data], laidTests := true, laidLooks := .later }
def NanOfCardSaid : Prop := Claim7.holds Tryd.pinned (.plain (OpenSpec.ofChange nanOfSpec)) nanOfCard

/-- THE TIED CARD OF 'radicandlaw10.NanQuiets'. -/
def nanQuietsCard : Claim7 := { stood := { row := nanQuietsRow, standIns := [], harness := (true, "bda7307485677e703060dea11d85374f6d1941a46d5c51f47956e134a69fc123"), looks := false }, kinds := [], alts := [], laidByText := true, laidKinds := [.data], laidTests := true, laidLooks := .later }
def NanQuietsCardSaid : Prop := Claim7.holds Tryd.pinned (.plain (OpenSpec.ofChange nanQuietsSpec)) nanQuietsCard

/-- THE TIED CARD OF 'radicandlaw10.NanPayloads'. -/
def nanPayloadsCard : Claim7 := { stood := { row := nanPayloadsRow, standIns := [], harness := (true, "bda7307485677e703060dea11d85374f6d1941a46d5c51f47956e134a69fc123"), looks := false }, kinds := [], alts := [], laidByText := true, laidKinds := [.data], laidTests := true, laidLooks := .later }
def NanPayloadsCardSaid : Prop := Claim7.holds Tryd.pinned (.plain (OpenSpec.ofChange nanPayloadsSpec)) nanPayloadsCard

/-- THE SECOND FORM's CARD OF 'radicandlaw07.UnpackExact'. -/
def unpackExactUptoCard : Claim7 := { stood := { row := unpackExactUptoRow, standIns := [], harness := (true, "bda7307485677e703060dea11d85374f6d1941a46d5c51f47956e134a69fc123"), looks := false }, kinds := [], alts := [], laidByText := true, laidKinds := [.data], laidTests := true, laidLooks := .later }
def UnpackExactUptoCardSaid : Prop := Claim7.holds Tryd.pinned (.plain (OpenSpec.upto unpackExactSpec)) unpackExactUptoCard

/-- THE SECOND FORM's CARD OF 'radicandlaw09.PackDigits'. -/
def packDigitsUptoCard : Claim7 := { stood := { row := packDigitsUptoRow, standIns := [], harness := (true, "bda7307485677e703060dea11d85374f6d1941a46d5c51f47956e134a69fc123"), looks := false }, kinds := [], alts := [], laidByText := true, laidKinds := [.data], laidTests := true, laidLooks := .later }
def PackDigitsUptoCardSaid : Prop := Claim7.holds Tryd.pinned (.plain (OpenSpec.upto packDigitsSpec)) packDigitsUptoCard

/-- THE SECOND FORM's CARD OF 'radicandlaw09.PackFlags'. -/
def packFlagsUptoCard : Claim7 := { stood := { row := packFlagsUptoRow, standIns := [], harness := (true, "bda7307485677e703060dea11d85374f6d1941a46d5c51f47956e134a69fc123"), looks := false }, kinds := [], alts := [], laidByText := true, laidKinds := [.data, .data], laidTests := true, laidLooks := .later }
def PackFlagsUptoCardSaid : Prop := Claim7.holds Tryd.pinned (.plain (OpenSpec.upto packFlagsSpec)) packFlagsUptoCard

/-- THE SECOND FORM's CARD OF 'radicandlaw09.PackOwn'. -/
def packOwnUptoCard : Claim7 := { stood := { row := packOwnUptoRow, standIns := [], harness := (true, "bda7307485677e703060dea11d85374f6d1941a46d5c51f47956e134a69fc123"), looks := false }, kinds := [], alts := [], laidByText := true, laidKinds := [.data], laidTests := true, laidLooks := .later }
def PackOwnUptoCardSaid : Prop := Claim7.holds Tryd.pinned (.plain (OpenSpec.upto packOwnSpec)) packOwnUptoCard

/-- THE SECOND FORM's CARD OF 'radicandlaw09.PackOrder'. -/
def packOrderUptoCard : Claim7 := { stood := { row := packOrderUptoRow, standIns := [], harness := (true, "bda7307485677e703060dea11d85374f6d1941a46d5c51f47956e134a69fc123"), looks := false }, kinds := [], alts := [], laidByText := true, laidKinds := [.data], laidTests := true, laidLooks := .later }
def PackOrderUptoCardSaid : Prop := Claim7.holds Tryd.pinned (.plain (OpenSpec.upto packOrderSpec)) packOrderUptoCard

/-- THE SECOND FORM's CARD OF 'radicandlaw10.NanOf'. -/
def nanOfUptoCard : Claim7 := { stood := { row := nanOfUptoRow, standIns := [], harness := (true, "bda7307485677e703060dea11d85374f6d1941a46d5c51f47956e134a69fc123"), looks := false }, kinds := [], alts := [], laidByText := true, laidKinds := [.data], laidTests := true, laidLooks := .later }
def NanOfUptoCardSaid : Prop := Claim7.holds Tryd.pinned (.plain (OpenSpec.upto nanOfSpec)) nanOfUptoCard

/-- THE SECOND FORM's CARD OF 'radicandlaw10.NanQuiets'. -/
def nanQuietsUptoCard : Claim7 := { stood := { row := nanQuietsUptoRow, standIns := [], harness := (true, "bda7307485677e703060dea11d85374f6d1941a46d5c51f47956e134a69fc123"), looks := false }, kinds := [], alts := [], laidByText := true, laidKinds := [.data], laidTests := true, laidLooks := .later }
def NanQuietsUptoCardSaid : Prop := Claim7.holds Tryd.pinned (.plain (OpenSpec.upto nanQuietsSpec)) nanQuietsUptoCard

/-- THE SECOND FORM's CARD OF 'radicandlaw10.NanPayloads'. -/
def nanPayloadsUptoCard : Claim7 := { stood := { row := nanPayloadsUptoRow, standIns := [], harness := (true, "bda7307485677e703060dea11d85374f6d1941a46d5c51f47956e134a69fc123"), looks := false }, kinds := [], alts := [], laidByText := true, laidKinds := [.data], laidTests := true, laidLooks := .later }
def NanPayloadsUptoCardSaid : Prop := Claim7.holds Tryd.pinned (.plain (OpenSpec.upto nanPayloadsSpec)) nanPayloadsUptoCard
end Rows
end Go.Proofs.YtpcjdllijkjdkaaDoor
