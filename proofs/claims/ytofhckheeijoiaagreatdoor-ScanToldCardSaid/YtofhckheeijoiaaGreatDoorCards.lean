/-
  DERIVED. GIVEN WITH THE SEED: THE CARDS: each row of YtofhckheeijoiaaGreatDoorRows.lean that lists a variable, with what it lists TIED to the program's text (the seventh form; the later family's looks); each row that meets fmt, with fmt's text TOLD by the authors' own Lean function (tested against real Go, not proved from fmt's source: count such statements apart). THE CARD IS WHAT COUNTS. Prove the row's statement (the work); the ties are given (YtofhckheeijoiaaGreatDoorTie.lean); close each card by the builder's one call (the guide's Derived/Test/ToyasCard.lean, 'card_holds'). Laid BY PROGRAM, IN A SANDBOX (cutbox-door.mjs). By AI agents, Wed Nov 11 2026. No macro, syntax, notation, axiom, sorry.
-/
import Derived.Test.YtofhckheeijoiaaGreatDoorRows
import GoSem.ClaimSeven
namespace Go.Proofs.YtofhckheeijoiaaGreatDoor
namespace Rows

/-- THE TIED CARD OF 'martellolaw06.ScanTold'. -/
def scanToldCard : Claim7 := { stood := { row := scanToldRow, standIns := [], harness := (true, "2724faf00c73dc19e8229fabda8cded741602d0c0f85b8e7a75b213b32e78f1a"), looks := false }, kinds := [], alts := [], laidByText := true, laidKinds := [.data, .data, .data, .data, .pinned], laidTests := true, laidLooks := .later }
def ScanToldCardSaid : Prop := Claim7.holds Tryz.pinned (.plain (OpenSpec.ofChange scanToldSpec)) scanToldCard

/-- THE SECOND FORM's CARD OF 'martellolaw06.ScanTold'. -/
def scanToldUptoCard : Claim7 := { stood := { row := scanToldUptoRow, standIns := [], harness := (true, "2724faf00c73dc19e8229fabda8cded741602d0c0f85b8e7a75b213b32e78f1a"), looks := false }, kinds := [], alts := [], laidByText := true, laidKinds := [.data, .data, .data, .data, .pinned], laidTests := true, laidLooks := .later }
def ScanToldUptoCardSaid : Prop := Claim7.holds Tryz.pinned (.plain (OpenSpec.upto scanToldSpec)) scanToldUptoCard
end Rows
end Go.Proofs.YtofhckheeijoiaaGreatDoor
