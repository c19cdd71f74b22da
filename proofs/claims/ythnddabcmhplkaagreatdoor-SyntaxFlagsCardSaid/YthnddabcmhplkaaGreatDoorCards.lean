/-
  DERIVED. GIVEN WITH THE SEED: THE CARDS: each row of YthnddabcmhplkaaGreatDoorRows.lean that lists a variable, with what it lists TIED to the program's text (the seventh form; the later family's looks); each row that meets fmt, with fmt's text TOLD by the authors' own Lean function (tested against real Go, not proved from fmt's source: count such statements apart). THE CARD IS WHAT COUNTS. Prove the row's statement (the work); the ties are given (YthnddabcmhplkaaGreatDoorTie.lean); close each card by the builder's one call (the guide's Derived/Test/ToyasCard.lean, 'card_holds'). Laid BY PROGRAM, IN A SANDBOX (cutbox-door.mjs). By AI agents, Wed Nov 11 2026. No macro, syntax, notation, axiom, sorry.
-/
import Derived.Test.YthnddabcmhplkaaGreatDoorRows
import GoSem.ClaimSeven
namespace Go.Proofs.YthnddabcmhplkaaGreatDoor
namespace Rows

/-- THE TIED CARD OF 'martellolaw08.SyntaxFlags'. -/
def syntaxFlagsCard : Claim7 := { stood := { row := syntaxFlagsRow, standIns := [], harness := (true, "6d61329b5b72db60830a71f281b8f7cd3c363da5f750379dbf8c3f43f983593d"), looks := true }, kinds := [], alts := [], laidByText := true, laidKinds := [.data, .data, .data, .pinned], laidTests := true, laidLooks := .later }
def SyntaxFlagsCardSaid : Prop := Claim7.holds Tryz.pinned (.plain (OpenSpec.ofChange syntaxFlagsSpec)) syntaxFlagsCard

/-- THE SECOND FORM's CARD OF 'martellolaw08.SyntaxFlags'. -/
def syntaxFlagsUptoCard : Claim7 := { stood := { row := syntaxFlagsUptoRow, standIns := [], harness := (true, "6d61329b5b72db60830a71f281b8f7cd3c363da5f750379dbf8c3f43f983593d"), looks := true }, kinds := [], alts := [], laidByText := true, laidKinds := [.data, .data, .data, .pinned], laidTests := true, laidLooks := .later }
def SyntaxFlagsUptoCardSaid : Prop := Claim7.holds Tryz.pinned (.plain (OpenSpec.upto syntaxFlagsSpec)) syntaxFlagsUptoCard
end Rows
end Go.Proofs.YthnddabcmhplkaaGreatDoor
