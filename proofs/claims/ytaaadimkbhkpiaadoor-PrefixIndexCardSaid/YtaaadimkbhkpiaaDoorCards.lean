/-
  DERIVED. GIVEN WITH THE SEED: THE CARDS: each row of YtaaadimkbhkpiaaDoorRows.lean that lists a variable, with what it lists TIED to the program's text (the seventh form; the later family's looks); each row that meets fmt, with fmt's text TOLD by the authors' own Lean function (tested against real Go, not proved from fmt's source: count such statements apart). THE CARD IS WHAT COUNTS. Prove the row's statement (the work); the ties are given (YtaaadimkbhkpiaaDoorTie.lean); close each card by the builder's one call (the guide's Derived/Test/ToyasCard.lean, 'card_holds'). Laid BY PROGRAM, IN A SANDBOX (cutbox-door.mjs). By AI agents, Wed Nov 11 2026. No macro, syntax, notation, axiom, sorry.
-/
import Derived.Test.YtaaadimkbhkpiaaDoorRows
import GoSem.ClaimSeven
namespace Go.Proofs.YtaaadimkbhkpiaaDoor
namespace Rows

/-- THE TIED CARD OF 'martellolaw14.PrefixIndex'. -/
def prefixIndexCard : Claim7 := { stood := { row := prefixIndexRow, standIns := [], harness := (true, "3d364fc7d4cd81427d0dfe4755596f8e94faaaa60326744a3f90823c19e38cb6"), looks := false }, kinds := [], alts := [], laidByText := true, laidKinds := [.data, .pinned], laidTests := true, laidLooks := .later }
def PrefixIndexCardSaid : Prop := Claim7.holds Tryd.pinned (.plain (OpenSpec.ofChange prefixIndexSpec)) prefixIndexCard

/-- THE SECOND FORM's CARD OF 'martellolaw14.PrefixIndex'. -/
def prefixIndexUptoCard : Claim7 := { stood := { row := prefixIndexUptoRow, standIns := [], harness := (true, "3d364fc7d4cd81427d0dfe4755596f8e94faaaa60326744a3f90823c19e38cb6"), looks := false }, kinds := [], alts := [], laidByText := true, laidKinds := [.data, .pinned], laidTests := true, laidLooks := .later }
def PrefixIndexUptoCardSaid : Prop := Claim7.holds Tryd.pinned (.plain (OpenSpec.upto prefixIndexSpec)) prefixIndexUptoCard
end Rows
end Go.Proofs.YtaaadimkbhkpiaaDoor
