/-
  DERIVED. GIVEN WITH THE SEED: THE CARDS: each row of YtaaoamkagppodaaGreatDoorRows.lean that lists a variable, with what it lists TIED to the program's text (the seventh form; the later family's looks); each row that meets fmt, with fmt's text TOLD by the authors' own Lean function (tested against real Go, not proved from fmt's source: count such statements apart). THE CARD IS WHAT COUNTS. Prove the row's statement (the work); the ties are given (YtaaoamkagppodaaGreatDoorTie.lean); close each card by the builder's one call (the guide's Derived/Test/ToyasCard.lean, 'card_holds'). Laid BY PROGRAM, IN A SANDBOX (cutbox-door.mjs). By AI agents, Wed Nov 11 2026. No macro, syntax, notation, axiom, sorry.
-/
import Derived.Test.YtaaoamkagppodaaGreatDoorRows
import GoSem.ClaimSeven
namespace Go.Proofs.YtaaoamkagppodaaGreatDoor
namespace Rows

/-- THE TIED CARD OF 'martellolaw08.SyntaxFlags'. -/
def syntaxFlagsCard : Claim7 := { stood := { row := syntaxFlagsRow, standIns := [], harness := (true, "6eb62153070249267e08bca343522455b3d748c57709b5e8c7a45f962bba636c"), looks := true }, kinds := [], alts := [], laidByText := true, laidKinds := [.data, .data, .data, .pinned], laidTests := true, laidLooks := .later }
def SyntaxFlagsCardSaid : Prop := Claim7.holds Tryz.pinned (.plain (OpenSpec.ofChange syntaxFlagsSpec)) syntaxFlagsCard

/-- THE TIED CARD OF 'martellolaw09.PrinterBack'. -/
def printerBackCard : Claim7 := { stood := { row := printerBackRow, standIns := [], harness := (true, "6eb62153070249267e08bca343522455b3d748c57709b5e8c7a45f962bba636c"), looks := true }, kinds := [], alts := [], laidByText := true, laidKinds := [.data, .data, .data, .pinned], laidTests := true, laidLooks := .later }
def PrinterBackCardSaid : Prop := Claim7.holds Tryz.pinned (.plain (OpenSpec.ofChange printerBackSpec)) printerBackCard

/-- THE TIED CARD OF 'martellolaw09.PrinterTwice'. -/
def printerTwiceCard : Claim7 := { stood := { row := printerTwiceRow, standIns := [], harness := (true, "6eb62153070249267e08bca343522455b3d748c57709b5e8c7a45f962bba636c"), looks := true }, kinds := [], alts := [], laidByText := true, laidKinds := [.data, .data, .data, .pinned], laidTests := true, laidLooks := .later }
def PrinterTwiceCardSaid : Prop := Claim7.holds Tryz.pinned (.plain (OpenSpec.ofChange printerTwiceSpec)) printerTwiceCard

/-- THE TIED CARD OF 'martellolaw09.PrinterRunes'. -/
def printerRunesCard : Claim7 := { stood := { row := printerRunesRow, standIns := [], harness := (true, "6eb62153070249267e08bca343522455b3d748c57709b5e8c7a45f962bba636c"), looks := true }, kinds := [], alts := [], laidByText := true, laidKinds := [.data, .data, .data, .pinned], laidTests := true, laidLooks := .later }
def PrinterRunesCardSaid : Prop := Claim7.holds Tryz.pinned (.plain (OpenSpec.ofChange printerRunesSpec)) printerRunesCard

/-- THE SECOND FORM's CARD OF 'martellolaw08.SyntaxFlags'. -/
def syntaxFlagsUptoCard : Claim7 := { stood := { row := syntaxFlagsUptoRow, standIns := [], harness := (true, "6eb62153070249267e08bca343522455b3d748c57709b5e8c7a45f962bba636c"), looks := true }, kinds := [], alts := [], laidByText := true, laidKinds := [.data, .data, .data, .pinned], laidTests := true, laidLooks := .later }
def SyntaxFlagsUptoCardSaid : Prop := Claim7.holds Tryz.pinned (.plain (OpenSpec.upto syntaxFlagsSpec)) syntaxFlagsUptoCard

/-- THE SECOND FORM's CARD OF 'martellolaw09.PrinterBack'. -/
def printerBackUptoCard : Claim7 := { stood := { row := printerBackUptoRow, standIns := [], harness := (true, "6eb62153070249267e08bca343522455b3d748c57709b5e8c7a45f962bba636c"), looks := true }, kinds := [], alts := [], laidByText := true, laidKinds := [.data, .data, .data, .pinned], laidTests := true, laidLooks := .later }
def PrinterBackUptoCardSaid : Prop := Claim7.holds Tryz.pinned (.plain (OpenSpec.upto printerBackSpec)) printerBackUptoCard

/-- THE SECOND FORM's CARD OF 'martellolaw09.PrinterTwice'. -/
def printerTwiceUptoCard : Claim7 := { stood := { row := printerTwiceUptoRow, standIns := [], harness := (true, "6eb62153070249267e08bca343522455b3d748c57709b5e8c7a45f962bba636c"), looks := true }, kinds := [], alts := [], laidByText := true, laidKinds := [.data, .data, .data, .pinned], laidTests := true, laidLooks := .later }
def PrinterTwiceUptoCardSaid : Prop := Claim7.holds Tryz.pinned (.plain (OpenSpec.upto printerTwiceSpec)) printerTwiceUptoCard

/-- THE SECOND FORM's CARD OF 'martellolaw09.PrinterRunes'. -/
def printerRunesUptoCard : Claim7 := { stood := { row := printerRunesUptoRow, standIns := [], harness := (true, "6eb62153070249267e08bca343522455b3d748c57709b5e8c7a45f962bba636c"), looks := true }, kinds := [], alts := [], laidByText := true, laidKinds := [.data, .data, .data, .pinned], laidTests := true, laidLooks := .later }
def PrinterRunesUptoCardSaid : Prop := Claim7.holds Tryz.pinned (.plain (OpenSpec.upto printerRunesSpec)) printerRunesUptoCard
end Rows
end Go.Proofs.YtaaoamkagppodaaGreatDoor
