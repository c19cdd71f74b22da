/-
  NARROWER THAN 'FOR EVERY INPUT', by the rows' own cells (each row's printed sentence says how): TablesNames: laid · TablesOrbits: laid · TablesFolds: laid · TablesAlike: laid · TablesPairs: laid.
  DERIVED. THE GIVEN ROWS OF THIS SEAT. 5 by the template 'for every input the law returns true; each argument reads behind the call as it read before'; 0 by the template 'total and deterministic' (their statements: YthfmoodjdokaiaaDoorTotals.lean).
  GIVEN WITH THE SEED: the statements are not yours to turn. If you find one false, say at which input.
  Laid BY PROGRAM, IN A SANDBOX (cutbox-rows.mjs): the forced cells as the released guide's own fill.sh prints them over the translation b4d7b715f3ef5b78… (all of the seat's roots in one cut). By AI agents, Wed Nov 11 2026. No macro, syntax, notation, axiom, sorry.
-/
import Derived.Test.YthfmoodjdokaiaaDoorChecked
import GoSem.Claim
import GoSem.ClaimJoined
import GoSem.ClaimMapViews
import Derived.JoinedTies
import Derived.KernelRfl
namespace Go.Proofs.YthfmoodjdokaiaaDoor
/- THE CELL 'sum', in the pinned program and in every row, IS THE sha256 OF THE DUMP (.gsa) THAT YthfmoodjdokaiaaDoorProg.lean LOADS. Nothing in Lean hashes anything: it is a label: what it is worth is what the hold of that sum in a sandbox is worth. -/
noncomputable def Tryd.pinned : Pinned := { name := "ythfmoodjdokaiaadoor", sum := "b4d7b715f3ef5b786c19cacbf240ae87cc303d1bbeb1e914eaf6dca10cb1c492", checked := Tryd.checked }
namespace Rows
def none {H : Type} : Left H := { results := [], args := [] }

/- WHAT THE LISTED PACKAGE-LEVEL VARIABLES READ AS WHEN THE CALL BEGINS. Each datum BY PROGRAM (the guide's laid-datum.mjs) off the statement by which the dump's own 'gosem.cut.vars' lays the variable. In a bare row this is a premise. The card (YthfmoodjdokaiaaDoorCards.lean) ties it to the program's text. -/
def laid_martello_tables_odd {H : Type} : DataW H := .agg [.agg [.lit (.int .i64 3), .agg [.lit (.int .i32 75), .lit (.int .i32 107), .lit (.int .i32 8490)]], .agg [.lit (.int .i64 3), .agg [.lit (.int .i32 83), .lit (.int .i32 115), .lit (.int .i32 383)]], .agg [.lit (.int .i64 3), .agg [.lit (.int .i32 197), .lit (.int .i32 229), .lit (.int .i32 8491)]], .agg [.lit (.int .i64 3), .agg [.lit (.int .i32 181), .lit (.int .i32 924), .lit (.int .i32 956)]], .agg [.lit (.int .i64 3), .agg [.lit (.int .i32 931), .lit (.int .i32 962), .lit (.int .i32 963)]], .agg [.lit (.int .i64 2), .agg [.lit (.int .i32 223), .lit (.int .i32 7838), .lit (.int .i32 0)]], .agg [.lit (.int .i64 2), .agg [.lit (.int .i32 255), .lit (.int .i32 376), .lit (.int .i32 0)]]]
def laid_martello_tables_great {H : Type} : DataW H := .agg [.agg [.lit (.int .i32 65), .lit (.int .i32 90)], .agg [.lit (.int .i32 192), .lit (.int .i32 214)], .agg [.lit (.int .i32 216), .lit (.int .i32 222)], .agg [.lit (.int .i32 913), .lit (.int .i32 929)], .agg [.lit (.int .i32 932), .lit (.int .i32 937)], .agg [.lit (.int .i32 1040), .lit (.int .i32 1071)]]

/-- 'martellolaw03.TablesNames': WHATEVER THE INPUT: true; the input reads as it did. -/
def tablesNamesSpec : ChangeSpec := { name := "tablesNames", fn := fun _ => fun
  | [d] => { results := [.lit (.bool true)], args := [d] }
  | _ => none }
def tablesNamesRow : OpenClaim := { program := "ythfmoodjdokaiaadoor", sum := "b4d7b715f3ef5b786c19cacbf240ae87cc303d1bbeb1e914eaf6dca10cb1c492", func := "martello/martellolaw03.TablesNames", spec := "tablesNames", unfollowed := true, recurses := true, named := ["martello/tables.odd", "martello/tables.great"], apart := false, laid := [("martello/tables.odd", laid_martello_tables_odd), ("martello/tables.great", laid_martello_tables_great)] }
def TablesNamesSaid : Prop := tablesNamesRow.holds Tryd.pinned (OpenSpec.ofChange tablesNamesSpec)

/-- ITS FALSE NEIGHBOUR: 'it returns false'. Refute it at one input. -/
def tablesNamesWrong : ChangeSpec := { name := "tablesNames", fn := fun _ => fun
  | [d] => { results := [.lit (.bool false)], args := [d] }
  | _ => none }
def TablesNamesWrongFalsely : Prop := tablesNamesRow.holds Tryd.pinned (OpenSpec.ofChange tablesNamesWrong)

/-- 'martellolaw03.TablesOrbits': WHATEVER THE INPUT: true; the input reads as it did. -/
def tablesOrbitsSpec : ChangeSpec := { name := "tablesOrbits", fn := fun _ => fun
  | [d] => { results := [.lit (.bool true)], args := [d] }
  | _ => none }
def tablesOrbitsRow : OpenClaim := { program := "ythfmoodjdokaiaadoor", sum := "b4d7b715f3ef5b786c19cacbf240ae87cc303d1bbeb1e914eaf6dca10cb1c492", func := "martello/martellolaw03.TablesOrbits", spec := "tablesOrbits", unfollowed := true, recurses := true, named := ["martello/tables.odd", "martello/tables.great"], apart := false, laid := [("martello/tables.odd", laid_martello_tables_odd), ("martello/tables.great", laid_martello_tables_great)] }
def TablesOrbitsSaid : Prop := tablesOrbitsRow.holds Tryd.pinned (OpenSpec.ofChange tablesOrbitsSpec)

/-- ITS FALSE NEIGHBOUR: 'it returns false'. Refute it at one input. -/
def tablesOrbitsWrong : ChangeSpec := { name := "tablesOrbits", fn := fun _ => fun
  | [d] => { results := [.lit (.bool false)], args := [d] }
  | _ => none }
def TablesOrbitsWrongFalsely : Prop := tablesOrbitsRow.holds Tryd.pinned (OpenSpec.ofChange tablesOrbitsWrong)

/-- 'martellolaw03.TablesFolds': WHATEVER THE INPUT: true; the input reads as it did. -/
def tablesFoldsSpec : ChangeSpec := { name := "tablesFolds", fn := fun _ => fun
  | [d] => { results := [.lit (.bool true)], args := [d] }
  | _ => none }
def tablesFoldsRow : OpenClaim := { program := "ythfmoodjdokaiaadoor", sum := "b4d7b715f3ef5b786c19cacbf240ae87cc303d1bbeb1e914eaf6dca10cb1c492", func := "martello/martellolaw03.TablesFolds", spec := "tablesFolds", unfollowed := true, recurses := true, named := ["martello/tables.odd", "martello/tables.great"], apart := false, laid := [("martello/tables.odd", laid_martello_tables_odd), ("martello/tables.great", laid_martello_tables_great)] }
def TablesFoldsSaid : Prop := tablesFoldsRow.holds Tryd.pinned (OpenSpec.ofChange tablesFoldsSpec)

/-- ITS FALSE NEIGHBOUR: 'it returns false'. Refute it at one input. -/
def tablesFoldsWrong : ChangeSpec := { name := "tablesFolds", fn := fun _ => fun
  | [d] => { results := [.lit (.bool false)], args := [d] }
  | _ => none }
def TablesFoldsWrongFalsely : Prop := tablesFoldsRow.holds Tryd.pinned (OpenSpec.ofChange tablesFoldsWrong)

/-- 'martellolaw03.TablesAlike': WHATEVER THE INPUT: true; the input reads as it did. -/
def tablesAlikeSpec : ChangeSpec := { name := "tablesAlike", fn := fun _ => fun
  | [d1, d2] => { results := [.lit (.bool true)], args := [d1, d2] }
  | _ => none }
def tablesAlikeRow : OpenClaim := { program := "ythfmoodjdokaiaadoor", sum := "b4d7b715f3ef5b786c19cacbf240ae87cc303d1bbeb1e914eaf6dca10cb1c492", func := "martello/martellolaw03.TablesAlike", spec := "tablesAlike", unfollowed := true, recurses := true, named := ["martello/tables.odd", "martello/tables.great"], apart := false, laid := [("martello/tables.odd", laid_martello_tables_odd), ("martello/tables.great", laid_martello_tables_great)] }
def TablesAlikeSaid : Prop := tablesAlikeRow.holds Tryd.pinned (OpenSpec.ofChange tablesAlikeSpec)

/-- ITS FALSE NEIGHBOUR: 'it returns false'. Refute it at one input. -/
def tablesAlikeWrong : ChangeSpec := { name := "tablesAlike", fn := fun _ => fun
  | [d1, d2] => { results := [.lit (.bool false)], args := [d1, d2] }
  | _ => none }
def TablesAlikeWrongFalsely : Prop := tablesAlikeRow.holds Tryd.pinned (OpenSpec.ofChange tablesAlikeWrong)

/-- 'martellolaw03.TablesPairs': WHATEVER THE INPUT: true; the input reads as it did. -/
def tablesPairsSpec : ChangeSpec := { name := "tablesPairs", fn := fun _ => fun
  | [d] => { results := [.lit (.bool true)], args := [d] }
  | _ => none }
def tablesPairsRow : OpenClaim := { program := "ythfmoodjdokaiaadoor", sum := "b4d7b715f3ef5b786c19cacbf240ae87cc303d1bbeb1e914eaf6dca10cb1c492", func := "martello/martellolaw03.TablesPairs", spec := "tablesPairs", unfollowed := true, recurses := true, named := ["martello/tables.odd", "martello/tables.great"], apart := false, laid := [("martello/tables.odd", laid_martello_tables_odd), ("martello/tables.great", laid_martello_tables_great)] }
def TablesPairsSaid : Prop := tablesPairsRow.holds Tryd.pinned (OpenSpec.ofChange tablesPairsSpec)

/-- ITS FALSE NEIGHBOUR: 'it returns false'. Refute it at one input. -/
def tablesPairsWrong : ChangeSpec := { name := "tablesPairs", fn := fun _ => fun
  | [d] => { results := [.lit (.bool false)], args := [d] }
  | _ => none }
def TablesPairsWrongFalsely : Prop := tablesPairsRow.holds Tryd.pinned (OpenSpec.ofChange tablesPairsWrong)

/- THE SECOND FORM. 'bulk': how many values and letters a reading holds, each counted each time it is reached (what is shared counts as often as it is met; a slice's spare places count too). A statement '..UptoSaid' is the law's where the arguments, and the package variables that the reading takes, are together of bulk at most 1048576: NARROWER than '..Said'. Prove '..Said' where nothing that the law and all that it calls make is longer than what came in: it says more and counts as full. Else prove '..UptoSaid'. A law counts once. -/
mutual
def uptoBulk {H : Type} : DataW H → Nat
  | .lit (.string bytes) => bytes.length + 1
  | .lit _ => 1
  | .nil => 1
  | .ptr d => uptoBulk d + 1
  | .slice elems spare => uptoBulkAll elems + uptoBulkAll spare + 1
  | .agg parts => uptoBulkAll parts + 1
  | .iface _ d => uptoBulk d + 1
  | .map entries => uptoBulkEntries entries + 1
  | .held _ => 1
def uptoBulkAll {H : Type} : List (DataW H) → Nat
  | [] => 0
  | d :: r => uptoBulk d + uptoBulkAll r
def uptoBulkEntries {H : Type} : List (Lit × DataW H) → Nat
  | [] => 0
  | x :: r => uptoBulkEntry x + uptoBulkEntries r
def uptoBulkEntry {H : Type} : Lit × DataW H → Nat
  | (.string bytes, d) => bytes.length + uptoBulk d + 1
  | (_, d) => uptoBulk d + 1
 end
def uptoSmall : (H : Type) → List (DataW H) → Bool := fun _ ds => decide (uptoBulkAll ds ≤ 1048576)
def OpenSpec.upto (s : _root_.Go.ChangeSpec) : _root_.Go.OpenSpec := { _root_.Go.OpenSpec.ofChange s with cond := some uptoSmall }

/-- 'martellolaw03.TablesNames', WHERE WHAT IT READS IS OF BULK AT MOST 1048576: true; the input reads as it did. -/
def tablesNamesUptoRow : OpenClaim := { program := "ythfmoodjdokaiaadoor", sum := "b4d7b715f3ef5b786c19cacbf240ae87cc303d1bbeb1e914eaf6dca10cb1c492", func := "martello/martellolaw03.TablesNames", spec := "tablesNames", unfollowed := true, recurses := true, named := ["martello/tables.odd", "martello/tables.great"], apart := false, laid := [("martello/tables.odd", laid_martello_tables_odd), ("martello/tables.great", laid_martello_tables_great)], narrowed := true }
def TablesNamesUptoSaid : Prop := tablesNamesUptoRow.holds Tryd.pinned (OpenSpec.upto tablesNamesSpec)

/-- 'martellolaw03.TablesOrbits', WHERE WHAT IT READS IS OF BULK AT MOST 1048576: true; the input reads as it did. -/
def tablesOrbitsUptoRow : OpenClaim := { program := "ythfmoodjdokaiaadoor", sum := "b4d7b715f3ef5b786c19cacbf240ae87cc303d1bbeb1e914eaf6dca10cb1c492", func := "martello/martellolaw03.TablesOrbits", spec := "tablesOrbits", unfollowed := true, recurses := true, named := ["martello/tables.odd", "martello/tables.great"], apart := false, laid := [("martello/tables.odd", laid_martello_tables_odd), ("martello/tables.great", laid_martello_tables_great)], narrowed := true }
def TablesOrbitsUptoSaid : Prop := tablesOrbitsUptoRow.holds Tryd.pinned (OpenSpec.upto tablesOrbitsSpec)

/-- 'martellolaw03.TablesFolds', WHERE WHAT IT READS IS OF BULK AT MOST 1048576: true; the input reads as it did. -/
def tablesFoldsUptoRow : OpenClaim := { program := "ythfmoodjdokaiaadoor", sum := "b4d7b715f3ef5b786c19cacbf240ae87cc303d1bbeb1e914eaf6dca10cb1c492", func := "martello/martellolaw03.TablesFolds", spec := "tablesFolds", unfollowed := true, recurses := true, named := ["martello/tables.odd", "martello/tables.great"], apart := false, laid := [("martello/tables.odd", laid_martello_tables_odd), ("martello/tables.great", laid_martello_tables_great)], narrowed := true }
def TablesFoldsUptoSaid : Prop := tablesFoldsUptoRow.holds Tryd.pinned (OpenSpec.upto tablesFoldsSpec)

/-- 'martellolaw03.TablesAlike', WHERE WHAT IT READS IS OF BULK AT MOST 1048576: true; the input reads as it did. -/
def tablesAlikeUptoRow : OpenClaim := { program := "ythfmoodjdokaiaadoor", sum := "b4d7b715f3ef5b786c19cacbf240ae87cc303d1bbeb1e914eaf6dca10cb1c492", func := "martello/martellolaw03.TablesAlike", spec := "tablesAlike", unfollowed := true, recurses := true, named := ["martello/tables.odd", "martello/tables.great"], apart := false, laid := [("martello/tables.odd", laid_martello_tables_odd), ("martello/tables.great", laid_martello_tables_great)], narrowed := true }
def TablesAlikeUptoSaid : Prop := tablesAlikeUptoRow.holds Tryd.pinned (OpenSpec.upto tablesAlikeSpec)

/-- 'martellolaw03.TablesPairs', WHERE WHAT IT READS IS OF BULK AT MOST 1048576: true; the input reads as it did. -/
def tablesPairsUptoRow : OpenClaim := { program := "ythfmoodjdokaiaadoor", sum := "b4d7b715f3ef5b786c19cacbf240ae87cc303d1bbeb1e914eaf6dca10cb1c492", func := "martello/martellolaw03.TablesPairs", spec := "tablesPairs", unfollowed := true, recurses := true, named := ["martello/tables.odd", "martello/tables.great"], apart := false, laid := [("martello/tables.odd", laid_martello_tables_odd), ("martello/tables.great", laid_martello_tables_great)], narrowed := true }
def TablesPairsUptoSaid : Prop := tablesPairsUptoRow.holds Tryd.pinned (OpenSpec.upto tablesPairsSpec)

end Rows
end Go.Proofs.YthfmoodjdokaiaaDoor
