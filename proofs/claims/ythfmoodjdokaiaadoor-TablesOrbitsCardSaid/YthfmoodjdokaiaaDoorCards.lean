/-
  DERIVED. GIVEN WITH THE SEED: THE CARDS: each row of YthfmoodjdokaiaaDoorRows.lean that lists a variable, with what it lists TIED to the program's text (the seventh form; the later family's looks); each row that meets fmt, with fmt's text TOLD by the authors' own Lean function (tested against real Go, not proved from fmt's source: count such statements apart). THE CARD IS WHAT COUNTS. Prove the row's statement (the work); the ties are given (YthfmoodjdokaiaaDoorTie.lean); close each card by the builder's one call (the guide's Derived/Test/ToyasCard.lean, 'card_holds'). Laid BY PROGRAM, IN A SANDBOX (cutbox-door.mjs). By AI agents, Wed Nov 11 2026. No macro, syntax, notation, axiom, sorry.
-/
import Derived.Test.YthfmoodjdokaiaaDoorRows
import GoSem.ClaimSeven
namespace Go.Proofs.YthfmoodjdokaiaaDoor
namespace Rows

/-- THE TIED CARD OF 'martellolaw03.TablesNames'. -/
def tablesNamesCard : Claim7 := { stood := { row := tablesNamesRow, standIns := [], harness := (true, "84b797e22e52e8e3fdd52b606698db94d36d28a26bfa9b749fb93a95ce63e1f7"), looks := false }, kinds := [], alts := [], laidByText := true, laidKinds := [.data, .data], laidTests := true, laidLooks := .later }
def TablesNamesCardSaid : Prop := Claim7.holds Tryd.pinned (.plain (OpenSpec.ofChange tablesNamesSpec)) tablesNamesCard

/-- THE TIED CARD OF 'martellolaw03.TablesOrbits'. -/
def tablesOrbitsCard : Claim7 := { stood := { row := tablesOrbitsRow, standIns := [], harness := (true, "84b797e22e52e8e3fdd52b606698db94d36d28a26bfa9b749fb93a95ce63e1f7"), looks := false }, kinds := [], alts := [], laidByText := true, laidKinds := [.data, .data], laidTests := true, laidLooks := .later }
def TablesOrbitsCardSaid : Prop := Claim7.holds Tryd.pinned (.plain (OpenSpec.ofChange tablesOrbitsSpec)) tablesOrbitsCard

/-- THE TIED CARD OF 'martellolaw03.TablesFolds'. -/
def tablesFoldsCard : Claim7 := { stood := { row := tablesFoldsRow, standIns := [], harness := (true, "84b797e22e52e8e3fdd52b606698db94d36d28a26bfa9b749fb93a95ce63e1f7"), looks := false }, kinds := [], alts := [], laidByText := true, laidKinds := [.data, .data], laidTests := true, laidLooks := .later }
def TablesFoldsCardSaid : Prop := Claim7.holds Tryd.pinned (.plain (OpenSpec.ofChange tablesFoldsSpec)) tablesFoldsCard

/-- THE TIED CARD OF 'martellolaw03.TablesAlike'. -/
def tablesAlikeCard : Claim7 := { stood := { row := tablesAlikeRow, standIns := [], harness := (true, "84b797e22e52e8e3fdd52b606698db94d36d28a26bfa9b749fb93a95ce63e1f7"), looks := false }, kinds := [], alts := [], laidByText := true, laidKinds := [.data, .data], laidTests := true, laidLooks := .later }
def TablesAlikeCardSaid : Prop := Claim7.holds Tryd.pinned (.plain (OpenSpec.ofChange tablesAlikeSpec)) tablesAlikeCard

/-- THE TIED CARD OF 'martellolaw03.TablesPairs'. -/
def tablesPairsCard : Claim7 := { stood := { row := tablesPairsRow, standIns := [], harness := (true, "84b797e22e52e8e3fdd52b606698db94d36d28a26bfa9b749fb93a95ce63e1f7"), looks := false }, kinds := [], alts := [], laidByText := true, laidKinds := [.data, .data], laidTests := true, laidLooks := .later }
def TablesPairsCardSaid : Prop := Claim7.holds Tryd.pinned (.plain (OpenSpec.ofChange tablesPairsSpec)) tablesPairsCard

/-- THE SECOND FORM's CARD OF 'martellolaw03.TablesNames'. -/
def tablesNamesUptoCard : Claim7 := { stood := { row := tablesNamesUptoRow, standIns := [], harness := (true, "84b797e22e52e8e3fdd52b606698db94d36d28a26bfa9b749fb93a95ce63e1f7"), looks := false }, kinds := [], alts := [], laidByText := true, laidKinds := [.data, .data], laidTests := true, laidLooks := .later }
def TablesNamesUptoCardSaid : Prop := Claim7.holds Tryd.pinned (.plain (OpenSpec.upto tablesNamesSpec)) tablesNamesUptoCard

/-- THE SECOND FORM's CARD OF 'martellolaw03.TablesOrbits'. -/
def tablesOrbitsUptoCard : Claim7 := { stood := { row := tablesOrbitsUptoRow, standIns := [], harness := (true, "84b797e22e52e8e3fdd52b606698db94d36d28a26bfa9b749fb93a95ce63e1f7"), looks := false }, kinds := [], alts := [], laidByText := true, laidKinds := [.data, .data], laidTests := true, laidLooks := .later }
def TablesOrbitsUptoCardSaid : Prop := Claim7.holds Tryd.pinned (.plain (OpenSpec.upto tablesOrbitsSpec)) tablesOrbitsUptoCard

/-- THE SECOND FORM's CARD OF 'martellolaw03.TablesFolds'. -/
def tablesFoldsUptoCard : Claim7 := { stood := { row := tablesFoldsUptoRow, standIns := [], harness := (true, "84b797e22e52e8e3fdd52b606698db94d36d28a26bfa9b749fb93a95ce63e1f7"), looks := false }, kinds := [], alts := [], laidByText := true, laidKinds := [.data, .data], laidTests := true, laidLooks := .later }
def TablesFoldsUptoCardSaid : Prop := Claim7.holds Tryd.pinned (.plain (OpenSpec.upto tablesFoldsSpec)) tablesFoldsUptoCard

/-- THE SECOND FORM's CARD OF 'martellolaw03.TablesAlike'. -/
def tablesAlikeUptoCard : Claim7 := { stood := { row := tablesAlikeUptoRow, standIns := [], harness := (true, "84b797e22e52e8e3fdd52b606698db94d36d28a26bfa9b749fb93a95ce63e1f7"), looks := false }, kinds := [], alts := [], laidByText := true, laidKinds := [.data, .data], laidTests := true, laidLooks := .later }
def TablesAlikeUptoCardSaid : Prop := Claim7.holds Tryd.pinned (.plain (OpenSpec.upto tablesAlikeSpec)) tablesAlikeUptoCard

/-- THE SECOND FORM's CARD OF 'martellolaw03.TablesPairs'. -/
def tablesPairsUptoCard : Claim7 := { stood := { row := tablesPairsUptoRow, standIns := [], harness := (true, "84b797e22e52e8e3fdd52b606698db94d36d28a26bfa9b749fb93a95ce63e1f7"), looks := false }, kinds := [], alts := [], laidByText := true, laidKinds := [.data, .data], laidTests := true, laidLooks := .later }
def TablesPairsUptoCardSaid : Prop := Claim7.holds Tryd.pinned (.plain (OpenSpec.upto tablesPairsSpec)) tablesPairsUptoCard
end Rows
end Go.Proofs.YthfmoodjdokaiaaDoor
