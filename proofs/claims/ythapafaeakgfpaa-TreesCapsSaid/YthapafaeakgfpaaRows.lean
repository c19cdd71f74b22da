/-
  NARROWER THAN 'FOR EVERY INPUT', by the rows' own cells (each row's printed sentence says how): TreesRight: loops · TreesCaps: loops · TreesEmpty: loops · TreesTurned: loops · TreesTwice: loops · TreesShaped: loops · TreesGroups: loops.
  DERIVED. THE GIVEN ROWS OF THIS SEAT. 7 by the template 'for every input the law returns true; each argument reads behind the call as it read before'; 0 by the template 'total and deterministic' (their statements: YthapafaeakgfpaaTotals.lean).
  GIVEN WITH THE SEED: the statements are not yours to turn. If you find one false, say at which input.
  Laid BY PROGRAM, IN A SANDBOX (cutbox-rows.mjs): the forced cells as the released guide's own fill.sh prints them over the translation 035df9f02da98ddf… (all of the seat's roots in one cut). By AI agents, Wed Nov 11 2026. No macro, syntax, notation, axiom, sorry.
-/
import Derived.Test.YthapafaeakgfpaaChecked
import GoSem.Claim
import GoSem.ClaimJoined
import GoSem.ClaimMapViews
import Derived.JoinedTies
import Derived.KernelRfl
namespace Go.Proofs.Ythapafaeakgfpaa
/- THE CELL 'sum', in the pinned program and in every row, IS THE sha256 OF THE DUMP (.gsa) THAT YthapafaeakgfpaaProg.lean LOADS. Nothing in Lean hashes anything: it is a label: what it is worth is what the hold of that sum in a sandbox is worth. -/
noncomputable def Try.pinned : Pinned := { name := "ythapafaeakgfpaa", sum := "035df9f02da98ddf7414580274dca40bc4722c73e4fc4cdc997840564c2c8dae", checked := Try.checked }
namespace Rows
def none {H : Type} : Left H := { results := [], args := [] }

/-- 'martellolaw05.TreesRight': WHATEVER THE INPUT: true; the input reads as it did. -/
def treesRightSpec : ChangeSpec := { name := "treesRight", fn := fun _ => fun
  | [d] => { results := [.lit (.bool true)], args := [d] }
  | _ => none }
def treesRightRow : OpenClaim := { program := "ythapafaeakgfpaa", sum := "035df9f02da98ddf7414580274dca40bc4722c73e4fc4cdc997840564c2c8dae", func := "martello/martellolaw05.TreesRight", spec := "treesRight", unfollowed := true, recurses := true, loops := true, apart := false }
def TreesRightSaid : Prop := treesRightRow.holds Try.pinned (OpenSpec.ofChange treesRightSpec)

/-- ITS FALSE NEIGHBOUR: 'it returns false'. Refute it at one input. -/
def treesRightWrong : ChangeSpec := { name := "treesRight", fn := fun _ => fun
  | [d] => { results := [.lit (.bool false)], args := [d] }
  | _ => none }
def TreesRightWrongFalsely : Prop := treesRightRow.holds Try.pinned (OpenSpec.ofChange treesRightWrong)

/-- 'martellolaw05.TreesCaps': WHATEVER THE INPUT: true; the input reads as it did. -/
def treesCapsSpec : ChangeSpec := { name := "treesCaps", fn := fun _ => fun
  | [d] => { results := [.lit (.bool true)], args := [d] }
  | _ => none }
def treesCapsRow : OpenClaim := { program := "ythapafaeakgfpaa", sum := "035df9f02da98ddf7414580274dca40bc4722c73e4fc4cdc997840564c2c8dae", func := "martello/martellolaw05.TreesCaps", spec := "treesCaps", unfollowed := true, recurses := true, loops := true, apart := false }
def TreesCapsSaid : Prop := treesCapsRow.holds Try.pinned (OpenSpec.ofChange treesCapsSpec)

/-- ITS FALSE NEIGHBOUR: 'it returns false'. Refute it at one input. -/
def treesCapsWrong : ChangeSpec := { name := "treesCaps", fn := fun _ => fun
  | [d] => { results := [.lit (.bool false)], args := [d] }
  | _ => none }
def TreesCapsWrongFalsely : Prop := treesCapsRow.holds Try.pinned (OpenSpec.ofChange treesCapsWrong)

/-- 'martellolaw05.TreesEmpty': WHATEVER THE INPUT: true; the input reads as it did. -/
def treesEmptySpec : ChangeSpec := { name := "treesEmpty", fn := fun _ => fun
  | [d] => { results := [.lit (.bool true)], args := [d] }
  | _ => none }
def treesEmptyRow : OpenClaim := { program := "ythapafaeakgfpaa", sum := "035df9f02da98ddf7414580274dca40bc4722c73e4fc4cdc997840564c2c8dae", func := "martello/martellolaw05.TreesEmpty", spec := "treesEmpty", unfollowed := true, recurses := true, loops := true, apart := false }
def TreesEmptySaid : Prop := treesEmptyRow.holds Try.pinned (OpenSpec.ofChange treesEmptySpec)

/-- ITS FALSE NEIGHBOUR: 'it returns false'. Refute it at one input. -/
def treesEmptyWrong : ChangeSpec := { name := "treesEmpty", fn := fun _ => fun
  | [d] => { results := [.lit (.bool false)], args := [d] }
  | _ => none }
def TreesEmptyWrongFalsely : Prop := treesEmptyRow.holds Try.pinned (OpenSpec.ofChange treesEmptyWrong)

/-- 'martellolaw05.TreesTurned': WHATEVER THE INPUT: true; the input reads as it did. -/
def treesTurnedSpec : ChangeSpec := { name := "treesTurned", fn := fun _ => fun
  | [d] => { results := [.lit (.bool true)], args := [d] }
  | _ => none }
def treesTurnedRow : OpenClaim := { program := "ythapafaeakgfpaa", sum := "035df9f02da98ddf7414580274dca40bc4722c73e4fc4cdc997840564c2c8dae", func := "martello/martellolaw05.TreesTurned", spec := "treesTurned", unfollowed := true, recurses := true, loops := true, apart := false }
def TreesTurnedSaid : Prop := treesTurnedRow.holds Try.pinned (OpenSpec.ofChange treesTurnedSpec)

/-- ITS FALSE NEIGHBOUR: 'it returns false'. Refute it at one input. -/
def treesTurnedWrong : ChangeSpec := { name := "treesTurned", fn := fun _ => fun
  | [d] => { results := [.lit (.bool false)], args := [d] }
  | _ => none }
def TreesTurnedWrongFalsely : Prop := treesTurnedRow.holds Try.pinned (OpenSpec.ofChange treesTurnedWrong)

/-- 'martellolaw05.TreesTwice': WHATEVER THE INPUT: true; the input reads as it did. -/
def treesTwiceSpec : ChangeSpec := { name := "treesTwice", fn := fun _ => fun
  | [d] => { results := [.lit (.bool true)], args := [d] }
  | _ => none }
def treesTwiceRow : OpenClaim := { program := "ythapafaeakgfpaa", sum := "035df9f02da98ddf7414580274dca40bc4722c73e4fc4cdc997840564c2c8dae", func := "martello/martellolaw05.TreesTwice", spec := "treesTwice", unfollowed := true, recurses := true, loops := true, apart := false }
def TreesTwiceSaid : Prop := treesTwiceRow.holds Try.pinned (OpenSpec.ofChange treesTwiceSpec)

/-- ITS FALSE NEIGHBOUR: 'it returns false'. Refute it at one input. -/
def treesTwiceWrong : ChangeSpec := { name := "treesTwice", fn := fun _ => fun
  | [d] => { results := [.lit (.bool false)], args := [d] }
  | _ => none }
def TreesTwiceWrongFalsely : Prop := treesTwiceRow.holds Try.pinned (OpenSpec.ofChange treesTwiceWrong)

/-- 'martellolaw05.TreesShaped': WHATEVER THE INPUT: true; the input reads as it did. -/
def treesShapedSpec : ChangeSpec := { name := "treesShaped", fn := fun _ => fun
  | [d] => { results := [.lit (.bool true)], args := [d] }
  | _ => none }
def treesShapedRow : OpenClaim := { program := "ythapafaeakgfpaa", sum := "035df9f02da98ddf7414580274dca40bc4722c73e4fc4cdc997840564c2c8dae", func := "martello/martellolaw05.TreesShaped", spec := "treesShaped", unfollowed := true, recurses := true, loops := true, apart := false }
def TreesShapedSaid : Prop := treesShapedRow.holds Try.pinned (OpenSpec.ofChange treesShapedSpec)

/-- ITS FALSE NEIGHBOUR: 'it returns false'. Refute it at one input. -/
def treesShapedWrong : ChangeSpec := { name := "treesShaped", fn := fun _ => fun
  | [d] => { results := [.lit (.bool false)], args := [d] }
  | _ => none }
def TreesShapedWrongFalsely : Prop := treesShapedRow.holds Try.pinned (OpenSpec.ofChange treesShapedWrong)

/-- 'martellolaw05.TreesGroups': WHATEVER THE INPUT: true; the input reads as it did. -/
def treesGroupsSpec : ChangeSpec := { name := "treesGroups", fn := fun _ => fun
  | [d] => { results := [.lit (.bool true)], args := [d] }
  | _ => none }
def treesGroupsRow : OpenClaim := { program := "ythapafaeakgfpaa", sum := "035df9f02da98ddf7414580274dca40bc4722c73e4fc4cdc997840564c2c8dae", func := "martello/martellolaw05.TreesGroups", spec := "treesGroups", unfollowed := true, recurses := true, loops := true, apart := false }
def TreesGroupsSaid : Prop := treesGroupsRow.holds Try.pinned (OpenSpec.ofChange treesGroupsSpec)

/-- ITS FALSE NEIGHBOUR: 'it returns false'. Refute it at one input. -/
def treesGroupsWrong : ChangeSpec := { name := "treesGroups", fn := fun _ => fun
  | [d] => { results := [.lit (.bool false)], args := [d] }
  | _ => none }
def TreesGroupsWrongFalsely : Prop := treesGroupsRow.holds Try.pinned (OpenSpec.ofChange treesGroupsWrong)

/- THE SECOND FORM. 'bulk': how many values and letters a reading holds, each counted each time it is reached (what is shared counts as often as it is met; a slice's spare places count too). A statement '..UptoSaid' is the law's where the arguments, and the package variables that the reading takes, are together of bulk at most 1048576: NARROWER than '..Said'. Prove '..Said' where nothing that the law and all that it calls make is longer than what came in: it says more and counts as full. Else prove '..UptoSaid'. A law counts once. -/
mutual
def uptoBulk {H : Type} : DataW H → Nat
  | .lit (.string bytes) => bytes.length + 1
  | .lit _ => 1
  | .nil => 1
  | .ptr d => uptoBulk d + 1
  | .slice elems spare => uptoBulkAll elems + uptoBulkAll spare + 1
  | .agg parts => uptoBulkAll parts + 1
  | .iface _ d => uptoBulk d + 1
  | .map entries => uptoBulkEntries entries + 1
  | .held _ => 1
def uptoBulkAll {H : Type} : List (DataW H) → Nat
  | [] => 0
  | d :: r => uptoBulk d + uptoBulkAll r
def uptoBulkEntries {H : Type} : List (Lit × DataW H) → Nat
  | [] => 0
  | x :: r => uptoBulkEntry x + uptoBulkEntries r
def uptoBulkEntry {H : Type} : Lit × DataW H → Nat
  | (.string bytes, d) => bytes.length + uptoBulk d + 1
  | (_, d) => uptoBulk d + 1
 end
def uptoSmall : (H : Type) → List (DataW H) → Bool := fun _ ds => decide (uptoBulkAll ds ≤ 1048576)
def OpenSpec.upto (s : _root_.Go.ChangeSpec) : _root_.Go.OpenSpec := { _root_.Go.OpenSpec.ofChange s with cond := some uptoSmall }

/-- 'martellolaw05.TreesRight', WHERE WHAT IT READS IS OF BULK AT MOST 1048576: true; the input reads as it did. -/
def treesRightUptoRow : OpenClaim := { program := "ythapafaeakgfpaa", sum := "035df9f02da98ddf7414580274dca40bc4722c73e4fc4cdc997840564c2c8dae", func := "martello/martellolaw05.TreesRight", spec := "treesRight", unfollowed := true, recurses := true, loops := true, apart := false, narrowed := true }
def TreesRightUptoSaid : Prop := treesRightUptoRow.holds Try.pinned (OpenSpec.upto treesRightSpec)

/-- 'martellolaw05.TreesCaps', WHERE WHAT IT READS IS OF BULK AT MOST 1048576: true; the input reads as it did. -/
def treesCapsUptoRow : OpenClaim := { program := "ythapafaeakgfpaa", sum := "035df9f02da98ddf7414580274dca40bc4722c73e4fc4cdc997840564c2c8dae", func := "martello/martellolaw05.TreesCaps", spec := "treesCaps", unfollowed := true, recurses := true, loops := true, apart := false, narrowed := true }
def TreesCapsUptoSaid : Prop := treesCapsUptoRow.holds Try.pinned (OpenSpec.upto treesCapsSpec)

/-- 'martellolaw05.TreesEmpty', WHERE WHAT IT READS IS OF BULK AT MOST 1048576: true; the input reads as it did. -/
def treesEmptyUptoRow : OpenClaim := { program := "ythapafaeakgfpaa", sum := "035df9f02da98ddf7414580274dca40bc4722c73e4fc4cdc997840564c2c8dae", func := "martello/martellolaw05.TreesEmpty", spec := "treesEmpty", unfollowed := true, recurses := true, loops := true, apart := false, narrowed := true }
def TreesEmptyUptoSaid : Prop := treesEmptyUptoRow.holds Try.pinned (OpenSpec.upto treesEmptySpec)

/-- 'martellolaw05.TreesTurned', WHERE WHAT IT READS IS OF BULK AT MOST 1048576: true; the input reads as it did. -/
def treesTurnedUptoRow : OpenClaim := { program := "ythapafaeakgfpaa", sum := "035df9f02da98ddf7414580274dca40bc4722c73e4fc4cdc997840564c2c8dae", func := "martello/martellolaw05.TreesTurned", spec := "treesTurned", unfollowed := true, recurses := true, loops := true, apart := false, narrowed := true }
def TreesTurnedUptoSaid : Prop := treesTurnedUptoRow.holds Try.pinned (OpenSpec.upto treesTurnedSpec)

/-- 'martellolaw05.TreesTwice', WHERE WHAT IT READS IS OF BULK AT MOST 1048576: true; the input reads as it did. -/
def treesTwiceUptoRow : OpenClaim := { program := "ythapafaeakgfpaa", sum := "035df9f02da98ddf7414580274dca40bc4722c73e4fc4cdc997840564c2c8dae", func := "martello/martellolaw05.TreesTwice", spec := "treesTwice", unfollowed := true, recurses := true, loops := true, apart := false, narrowed := true }
def TreesTwiceUptoSaid : Prop := treesTwiceUptoRow.holds Try.pinned (OpenSpec.upto treesTwiceSpec)

/-- 'martellolaw05.TreesShaped', WHERE WHAT IT READS IS OF BULK AT MOST 1048576: true; the input reads as it did. -/
def treesShapedUptoRow : OpenClaim := { program := "ythapafaeakgfpaa", sum := "035df9f02da98ddf7414580274dca40bc4722c73e4fc4cdc997840564c2c8dae", func := "martello/martellolaw05.TreesShaped", spec := "treesShaped", unfollowed := true, recurses := true, loops := true, apart := false, narrowed := true }
def TreesShapedUptoSaid : Prop := treesShapedUptoRow.holds Try.pinned (OpenSpec.upto treesShapedSpec)

/-- 'martellolaw05.TreesGroups', WHERE WHAT IT READS IS OF BULK AT MOST 1048576: true; the input reads as it did. -/
def treesGroupsUptoRow : OpenClaim := { program := "ythapafaeakgfpaa", sum := "035df9f02da98ddf7414580274dca40bc4722c73e4fc4cdc997840564c2c8dae", func := "martello/martellolaw05.TreesGroups", spec := "treesGroups", unfollowed := true, recurses := true, loops := true, apart := false, narrowed := true }
def TreesGroupsUptoSaid : Prop := treesGroupsUptoRow.holds Try.pinned (OpenSpec.upto treesGroupsSpec)

end Rows
end Go.Proofs.Ythapafaeakgfpaa
