/-
  NARROWER THAN 'FOR EVERY INPUT', by the rows' own cells (each row's printed sentence says how): SimplifyPlain: loops · SimplifyAgain: loops.
  DERIVED. THE GIVEN ROWS OF THIS SEAT. 3 by the template 'for every input the law returns true; each argument reads behind the call as it read before'; 0 by the template 'total and deterministic' (their statements: YthnddabcmhplkaaTotals.lean).
  GIVEN WITH THE SEED: the statements are not yours to turn. If you find one false, say at which input.
  Laid BY PROGRAM, IN A SANDBOX (cutbox-rows.mjs): the forced cells as the released guide's own fill.sh prints them over the translation d304ad83cc47e999… (all of the seat's roots in one cut). By AI agents, Wed Nov 11 2026. No macro, syntax, notation, axiom, sorry.
-/
import Derived.Test.YthnddabcmhplkaaChecked
import GoSem.Claim
import GoSem.ClaimJoined
import GoSem.ClaimMapViews
import Derived.JoinedTies
import Derived.KernelRfl
namespace Go.Proofs.Ythnddabcmhplkaa
/- THE CELL 'sum', in the pinned program and in every row, IS THE sha256 OF THE DUMP (.gsa) THAT YthnddabcmhplkaaProg.lean LOADS. Nothing in Lean hashes anything: it is a label: what it is worth is what the hold of that sum in a sandbox is worth. -/
noncomputable def Try.pinned : Pinned := { name := "ythnddabcmhplkaa", sum := "d304ad83cc47e99998a9f0eb63f0787baf4dbe570140059461f4eef72b4e4bc4", checked := Try.checked }
namespace Rows
def none {H : Type} : Left H := { results := [], args := [] }

/-- 'martellolaw10.SimplifyPlain': WHATEVER THE INPUT: true; the input reads as it did. -/
def simplifyPlainSpec : ChangeSpec := { name := "simplifyPlain", fn := fun _ => fun
  | [d] => { results := [.lit (.bool true)], args := [d] }
  | _ => none }
def simplifyPlainRow : OpenClaim := { program := "ythnddabcmhplkaa", sum := "d304ad83cc47e99998a9f0eb63f0787baf4dbe570140059461f4eef72b4e4bc4", func := "martello/martellolaw10.SimplifyPlain", spec := "simplifyPlain", unfollowed := true, recurses := true, loops := true, apart := false }
def SimplifyPlainSaid : Prop := simplifyPlainRow.holds Try.pinned (OpenSpec.ofChange simplifyPlainSpec)

/-- ITS FALSE NEIGHBOUR: 'it returns false'. Refute it at one input. -/
def simplifyPlainWrong : ChangeSpec := { name := "simplifyPlain", fn := fun _ => fun
  | [d] => { results := [.lit (.bool false)], args := [d] }
  | _ => none }
def SimplifyPlainWrongFalsely : Prop := simplifyPlainRow.holds Try.pinned (OpenSpec.ofChange simplifyPlainWrong)

/-- 'martellolaw10.SimplifyCounts': WHATEVER THE INPUT: true; the input reads as it did. -/
def simplifyCountsSpec : ChangeSpec := { name := "simplifyCounts", fn := fun _ => fun
  | [d1, d2, d3, d4] => { results := [.lit (.bool true)], args := [d1, d2, d3, d4] }
  | _ => none }
def simplifyCountsRow : OpenClaim := { program := "ythnddabcmhplkaa", sum := "d304ad83cc47e99998a9f0eb63f0787baf4dbe570140059461f4eef72b4e4bc4", func := "martello/martellolaw10.SimplifyCounts", spec := "simplifyCounts", unfollowed := true, recurses := true, apart := false }
def SimplifyCountsSaid : Prop := simplifyCountsRow.holds Try.pinned (OpenSpec.ofChange simplifyCountsSpec)

/-- ITS FALSE NEIGHBOUR: 'it returns false'. Refute it at one input. -/
def simplifyCountsWrong : ChangeSpec := { name := "simplifyCounts", fn := fun _ => fun
  | [d1, d2, d3, d4] => { results := [.lit (.bool false)], args := [d1, d2, d3, d4] }
  | _ => none }
def SimplifyCountsWrongFalsely : Prop := simplifyCountsRow.holds Try.pinned (OpenSpec.ofChange simplifyCountsWrong)

/-- 'martellolaw10.SimplifyAgain': WHATEVER THE INPUT: true; the input reads as it did. -/
def simplifyAgainSpec : ChangeSpec := { name := "simplifyAgain", fn := fun _ => fun
  | [d] => { results := [.lit (.bool true)], args := [d] }
  | _ => none }
def simplifyAgainRow : OpenClaim := { program := "ythnddabcmhplkaa", sum := "d304ad83cc47e99998a9f0eb63f0787baf4dbe570140059461f4eef72b4e4bc4", func := "martello/martellolaw10.SimplifyAgain", spec := "simplifyAgain", unfollowed := true, recurses := true, loops := true, apart := false }
def SimplifyAgainSaid : Prop := simplifyAgainRow.holds Try.pinned (OpenSpec.ofChange simplifyAgainSpec)

/-- ITS FALSE NEIGHBOUR: 'it returns false'. Refute it at one input. -/
def simplifyAgainWrong : ChangeSpec := { name := "simplifyAgain", fn := fun _ => fun
  | [d] => { results := [.lit (.bool false)], args := [d] }
  | _ => none }
def SimplifyAgainWrongFalsely : Prop := simplifyAgainRow.holds Try.pinned (OpenSpec.ofChange simplifyAgainWrong)

/- THE SECOND FORM. 'bulk': how many values and letters a reading holds, each counted each time it is reached (what is shared counts as often as it is met; a slice's spare places count too). A statement '..UptoSaid' is the law's where the arguments, and the package variables that the reading takes, are together of bulk at most 1048576: NARROWER than '..Said'. Prove '..Said' where nothing that the law and all that it calls make is longer than what came in: it says more and counts as full. Else prove '..UptoSaid'. A law counts once. -/
mutual
def uptoBulk {H : Type} : DataW H → Nat
  | .lit (.string bytes) => bytes.length + 1
  | .lit _ => 1
  | .nil => 1
  | .ptr d => uptoBulk d + 1
  | .slice elems spare => uptoBulkAll elems + uptoBulkAll spare + 1
  | .agg parts => uptoBulkAll parts + 1
  | .iface _ d => uptoBulk d + 1
  | .map entries => uptoBulkEntries entries + 1
  | .held _ => 1
def uptoBulkAll {H : Type} : List (DataW H) → Nat
  | [] => 0
  | d :: r => uptoBulk d + uptoBulkAll r
def uptoBulkEntries {H : Type} : List (Lit × DataW H) → Nat
  | [] => 0
  | x :: r => uptoBulkEntry x + uptoBulkEntries r
def uptoBulkEntry {H : Type} : Lit × DataW H → Nat
  | (.string bytes, d) => bytes.length + uptoBulk d + 1
  | (_, d) => uptoBulk d + 1
 end
def uptoSmall : (H : Type) → List (DataW H) → Bool := fun _ ds => decide (uptoBulkAll ds ≤ 1048576)
def OpenSpec.upto (s : _root_.Go.ChangeSpec) : _root_.Go.OpenSpec := { _root_.Go.OpenSpec.ofChange s with cond := some uptoSmall }

/-- 'martellolaw10.SimplifyPlain', WHERE WHAT IT READS IS OF BULK AT MOST 1048576: true; the input reads as it did. -/
def simplifyPlainUptoRow : OpenClaim := { program := "ythnddabcmhplkaa", sum := "d304ad83cc47e99998a9f0eb63f0787baf4dbe570140059461f4eef72b4e4bc4", func := "martello/martellolaw10.SimplifyPlain", spec := "simplifyPlain", unfollowed := true, recurses := true, loops := true, apart := false, narrowed := true }
def SimplifyPlainUptoSaid : Prop := simplifyPlainUptoRow.holds Try.pinned (OpenSpec.upto simplifyPlainSpec)

/-- 'martellolaw10.SimplifyCounts', WHERE WHAT IT READS IS OF BULK AT MOST 1048576: true; the input reads as it did. -/
def simplifyCountsUptoRow : OpenClaim := { program := "ythnddabcmhplkaa", sum := "d304ad83cc47e99998a9f0eb63f0787baf4dbe570140059461f4eef72b4e4bc4", func := "martello/martellolaw10.SimplifyCounts", spec := "simplifyCounts", unfollowed := true, recurses := true, apart := false, narrowed := true }
def SimplifyCountsUptoSaid : Prop := simplifyCountsUptoRow.holds Try.pinned (OpenSpec.upto simplifyCountsSpec)

/-- 'martellolaw10.SimplifyAgain', WHERE WHAT IT READS IS OF BULK AT MOST 1048576: true; the input reads as it did. -/
def simplifyAgainUptoRow : OpenClaim := { program := "ythnddabcmhplkaa", sum := "d304ad83cc47e99998a9f0eb63f0787baf4dbe570140059461f4eef72b4e4bc4", func := "martello/martellolaw10.SimplifyAgain", spec := "simplifyAgain", unfollowed := true, recurses := true, loops := true, apart := false, narrowed := true }
def SimplifyAgainUptoSaid : Prop := simplifyAgainUptoRow.holds Try.pinned (OpenSpec.upto simplifyAgainSpec)

end Rows
end Go.Proofs.Ythnddabcmhplkaa
