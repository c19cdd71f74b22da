/-
  DERIVED. GIVEN WITH THE SEED: THE CARDS: each row of YticghidkbpkefaaDoorRows.lean that lists a variable, with what it lists TIED to the program's text (the seventh form; the later family's looks); each row that meets fmt, with fmt's text TOLD by the authors' own Lean function (tested against real Go, not proved from fmt's source: count such statements apart). THE CARD IS WHAT COUNTS. Prove the row's statement (the work); the ties are given (YticghidkbpkefaaDoorTie.lean); close each card by the builder's one call (the guide's Derived/Test/ToyasCard.lean, 'card_holds'). Laid BY PROGRAM, IN A SANDBOX (cutbox-door.mjs). By AI agents, Wed Nov 11 2026. No macro, syntax, notation, axiom, sorry.
-/
import Derived.Test.YticghidkbpkefaaDoorRows
import GoSem.ClaimSeven
namespace Go.Proofs.YticghidkbpkefaaDoor
namespace Rows

/-- THE TIED CARD OF 'martellolaw01.InputsRunes'. -/
def inputsRunesCard : Claim7 := { stood := { row := inputsRunesRow, standIns := [], harness := (true, "80c4c08a04a507c51d9738a87c4ea0bb791a9aa3993ee8c1568629d6da41c287"), looks := false }, kinds := [], alts := [], laidByText := true, laidKinds := [.data, .pinned], laidTests := true, laidLooks := .later }
def InputsRunesCardSaid : Prop := Claim7.holds Tryd.pinned (.plain (OpenSpec.ofChange inputsRunesSpec)) inputsRunesCard

/-- THE TIED CARD OF 'martellolaw01.InputsPlaces'. -/
def inputsPlacesCard : Claim7 := { stood := { row := inputsPlacesRow, standIns := [], harness := (true, "80c4c08a04a507c51d9738a87c4ea0bb791a9aa3993ee8c1568629d6da41c287"), looks := false }, kinds := [], alts := [], laidByText := true, laidKinds := [.data, .pinned], laidTests := true, laidLooks := .later }
def InputsPlacesCardSaid : Prop := Claim7.holds Tryd.pinned (.plain (OpenSpec.ofChange inputsPlacesSpec)) inputsPlacesCard

/-- THE TIED CARD OF 'martellolaw01.InputsBytes'. -/
def inputsBytesCard : Claim7 := { stood := { row := inputsBytesRow, standIns := [], harness := (true, "80c4c08a04a507c51d9738a87c4ea0bb791a9aa3993ee8c1568629d6da41c287"), looks := false }, kinds := [], alts := [], laidByText := true, laidKinds := [.data, .pinned], laidTests := true, laidLooks := .later }
def InputsBytesCardSaid : Prop := Claim7.holds Tryd.pinned (.plain (OpenSpec.ofChange inputsBytesSpec)) inputsBytesCard

/-- THE TIED CARD OF 'martellolaw01.InputsWhole'. -/
def inputsWholeCard : Claim7 := { stood := { row := inputsWholeRow, standIns := [], harness := (true, "80c4c08a04a507c51d9738a87c4ea0bb791a9aa3993ee8c1568629d6da41c287"), looks := false }, kinds := [], alts := [], laidByText := true, laidKinds := [.data, .pinned], laidTests := true, laidLooks := .later }
def InputsWholeCardSaid : Prop := Claim7.holds Tryd.pinned (.plain (OpenSpec.ofChange inputsWholeSpec)) inputsWholeCard

/-- THE TIED CARD OF 'martellolaw01.InputsTurned'. -/
def inputsTurnedCard : Claim7 := { stood := { row := inputsTurnedRow, standIns := [], harness := (true, "80c4c08a04a507c51d9738a87c4ea0bb791a9aa3993ee8c1568629d6da41c287"), looks := false }, kinds := [], alts := [], laidByText := true, laidKinds := [.data, .pinned], laidTests := true, laidLooks := .later }
def InputsTurnedCardSaid : Prop := Claim7.holds Tryd.pinned (.plain (OpenSpec.ofChange inputsTurnedSpec)) inputsTurnedCard

/-- THE SECOND FORM's CARD OF 'martellolaw01.InputsRunes'. -/
def inputsRunesUptoCard : Claim7 := { stood := { row := inputsRunesUptoRow, standIns := [], harness := (true, "80c4c08a04a507c51d9738a87c4ea0bb791a9aa3993ee8c1568629d6da41c287"), looks := false }, kinds := [], alts := [], laidByText := true, laidKinds := [.data, .pinned], laidTests := true, laidLooks := .later }
def InputsRunesUptoCardSaid : Prop := Claim7.holds Tryd.pinned (.plain (OpenSpec.upto inputsRunesSpec)) inputsRunesUptoCard

/-- THE SECOND FORM's CARD OF 'martellolaw01.InputsPlaces'. -/
def inputsPlacesUptoCard : Claim7 := { stood := { row := inputsPlacesUptoRow, standIns := [], harness := (true, "80c4c08a04a507c51d9738a87c4ea0bb791a9aa3993ee8c1568629d6da41c287"), looks := false }, kinds := [], alts := [], laidByText := true, laidKinds := [.data, .pinned], laidTests := true, laidLooks := .later }
def InputsPlacesUptoCardSaid : Prop := Claim7.holds Tryd.pinned (.plain (OpenSpec.upto inputsPlacesSpec)) inputsPlacesUptoCard

/-- THE SECOND FORM's CARD OF 'martellolaw01.InputsBytes'. -/
def inputsBytesUptoCard : Claim7 := { stood := { row := inputsBytesUptoRow, standIns := [], harness := (true, "80c4c08a04a507c51d9738a87c4ea0bb791a9aa3993ee8c1568629d6da41c287"), looks := false }, kinds := [], alts := [], laidByText := true, laidKinds := [.data, .pinned], laidTests := true, laidLooks := .later }
def InputsBytesUptoCardSaid : Prop := Claim7.holds Tryd.pinned (.plain (OpenSpec.upto inputsBytesSpec)) inputsBytesUptoCard

/-- THE SECOND FORM's CARD OF 'martellolaw01.InputsWhole'. -/
def inputsWholeUptoCard : Claim7 := { stood := { row := inputsWholeUptoRow, standIns := [], harness := (true, "80c4c08a04a507c51d9738a87c4ea0bb791a9aa3993ee8c1568629d6da41c287"), looks := false }, kinds := [], alts := [], laidByText := true, laidKinds := [.data, .pinned], laidTests := true, laidLooks := .later }
def InputsWholeUptoCardSaid : Prop := Claim7.holds Tryd.pinned (.plain (OpenSpec.upto inputsWholeSpec)) inputsWholeUptoCard

/-- THE SECOND FORM's CARD OF 'martellolaw01.InputsTurned'. -/
def inputsTurnedUptoCard : Claim7 := { stood := { row := inputsTurnedUptoRow, standIns := [], harness := (true, "80c4c08a04a507c51d9738a87c4ea0bb791a9aa3993ee8c1568629d6da41c287"), looks := false }, kinds := [], alts := [], laidByText := true, laidKinds := [.data, .pinned], laidTests := true, laidLooks := .later }
def InputsTurnedUptoCardSaid : Prop := Claim7.holds Tryd.pinned (.plain (OpenSpec.upto inputsTurnedSpec)) inputsTurnedUptoCard
end Rows
end Go.Proofs.YticghidkbpkefaaDoor
