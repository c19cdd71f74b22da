/-
  NARROWER THAN 'FOR EVERY INPUT', by the rows' own cells (each row's printed sentence says how): DenotePlaces: loops · DenoteTurned: loops · DenoteBest: loops · DenoteParts: loops · PrefixMeans: loops.
  DERIVED. THE GIVEN ROWS OF THIS SEAT. 6 by the template 'for every input the law returns true; each argument reads behind the call as it read before'; 0 by the template 'total and deterministic' (their statements: YtnemacejaiifnaaTotals.lean).
  GIVEN WITH THE SEED: the statements are not yours to turn. If you find one false, say at which input.
  Laid BY PROGRAM, IN A SANDBOX (cutbox-rows.mjs): the forced cells as the released guide's own fill.sh prints them over the translation 482f0946e83b5b94… (all of the seat's roots in one cut). By AI agents, Wed Nov 11 2026. No macro, syntax, notation, axiom, sorry.
-/
import Derived.Test.YtnemacejaiifnaaChecked
import GoSem.Claim
import GoSem.ClaimJoined
import GoSem.ClaimMapViews
import Derived.JoinedTies
import Derived.KernelRfl
namespace Go.Proofs.Ytnemacejaiifnaa
/- THE CELL 'sum', in the pinned program and in every row, IS THE sha256 OF THE DUMP (.gsa) THAT YtnemacejaiifnaaProg.lean LOADS. Nothing in Lean hashes anything: it is a label: what it is worth is what the hold of that sum in a sandbox is worth. -/
noncomputable def Try.pinned : Pinned := { name := "ytnemacejaiifnaa", sum := "482f0946e83b5b9416aebc0902dd3f37e5c4fd1dfa4639bbc97fc82612cff8ce", checked := Try.checked }
namespace Rows
def none {H : Type} : Left H := { results := [], args := [] }

/-- 'martellolaw11.DenotePlaces': WHATEVER THE INPUT: true; the input reads as it did. -/
def denotePlacesSpec : ChangeSpec := { name := "denotePlaces", fn := fun _ => fun
  | [d1, d2, d3] => { results := [.lit (.bool true)], args := [d1, d2, d3] }
  | _ => none }
def denotePlacesRow : OpenClaim := { program := "ytnemacejaiifnaa", sum := "482f0946e83b5b9416aebc0902dd3f37e5c4fd1dfa4639bbc97fc82612cff8ce", func := "martello/martellolaw11.DenotePlaces", spec := "denotePlaces", unfollowed := true, recurses := true, loops := true, plainKeys := false, apart := false }
def DenotePlacesSaid : Prop := denotePlacesRow.holds Try.pinned (OpenSpec.ofChange denotePlacesSpec)

/-- ITS FALSE NEIGHBOUR: 'it returns false'. Refute it at one input. -/
def denotePlacesWrong : ChangeSpec := { name := "denotePlaces", fn := fun _ => fun
  | [d1, d2, d3] => { results := [.lit (.bool false)], args := [d1, d2, d3] }
  | _ => none }
def DenotePlacesWrongFalsely : Prop := denotePlacesRow.holds Try.pinned (OpenSpec.ofChange denotePlacesWrong)

/-- 'martellolaw11.DenoteTurned': WHATEVER THE INPUT: true; the input reads as it did. -/
def denoteTurnedSpec : ChangeSpec := { name := "denoteTurned", fn := fun _ => fun
  | [d1, d2] => { results := [.lit (.bool true)], args := [d1, d2] }
  | _ => none }
def denoteTurnedRow : OpenClaim := { program := "ytnemacejaiifnaa", sum := "482f0946e83b5b9416aebc0902dd3f37e5c4fd1dfa4639bbc97fc82612cff8ce", func := "martello/martellolaw11.DenoteTurned", spec := "denoteTurned", unfollowed := true, recurses := true, loops := true, plainKeys := false, apart := false }
def DenoteTurnedSaid : Prop := denoteTurnedRow.holds Try.pinned (OpenSpec.ofChange denoteTurnedSpec)

/-- ITS FALSE NEIGHBOUR: 'it returns false'. Refute it at one input. -/
def denoteTurnedWrong : ChangeSpec := { name := "denoteTurned", fn := fun _ => fun
  | [d1, d2] => { results := [.lit (.bool false)], args := [d1, d2] }
  | _ => none }
def DenoteTurnedWrongFalsely : Prop := denoteTurnedRow.holds Try.pinned (OpenSpec.ofChange denoteTurnedWrong)

/-- 'martellolaw11.DenoteBest': WHATEVER THE INPUT: true; the input reads as it did. -/
def denoteBestSpec : ChangeSpec := { name := "denoteBest", fn := fun _ => fun
  | [d1, d2, d3] => { results := [.lit (.bool true)], args := [d1, d2, d3] }
  | _ => none }
def denoteBestRow : OpenClaim := { program := "ytnemacejaiifnaa", sum := "482f0946e83b5b9416aebc0902dd3f37e5c4fd1dfa4639bbc97fc82612cff8ce", func := "martello/martellolaw11.DenoteBest", spec := "denoteBest", unfollowed := true, recurses := true, loops := true, plainKeys := false, apart := false }
def DenoteBestSaid : Prop := denoteBestRow.holds Try.pinned (OpenSpec.ofChange denoteBestSpec)

/-- ITS FALSE NEIGHBOUR: 'it returns false'. Refute it at one input. -/
def denoteBestWrong : ChangeSpec := { name := "denoteBest", fn := fun _ => fun
  | [d1, d2, d3] => { results := [.lit (.bool false)], args := [d1, d2, d3] }
  | _ => none }
def DenoteBestWrongFalsely : Prop := denoteBestRow.holds Try.pinned (OpenSpec.ofChange denoteBestWrong)

/-- 'martellolaw11.DenoteParts': WHATEVER THE INPUT: true; the input reads as it did. -/
def denotePartsSpec : ChangeSpec := { name := "denoteParts", fn := fun _ => fun
  | [d1, d2, d3, d4] => { results := [.lit (.bool true)], args := [d1, d2, d3, d4] }
  | _ => none }
def denotePartsRow : OpenClaim := { program := "ytnemacejaiifnaa", sum := "482f0946e83b5b9416aebc0902dd3f37e5c4fd1dfa4639bbc97fc82612cff8ce", func := "martello/martellolaw11.DenoteParts", spec := "denoteParts", unfollowed := true, recurses := true, loops := true, plainKeys := false, apart := false }
def DenotePartsSaid : Prop := denotePartsRow.holds Try.pinned (OpenSpec.ofChange denotePartsSpec)

/-- ITS FALSE NEIGHBOUR: 'it returns false'. Refute it at one input. -/
def denotePartsWrong : ChangeSpec := { name := "denoteParts", fn := fun _ => fun
  | [d1, d2, d3, d4] => { results := [.lit (.bool false)], args := [d1, d2, d3, d4] }
  | _ => none }
def DenotePartsWrongFalsely : Prop := denotePartsRow.holds Try.pinned (OpenSpec.ofChange denotePartsWrong)

/-- 'martellolaw14.PrefixMeans': WHATEVER THE INPUT: true; the input reads as it did. -/
def prefixMeansSpec : ChangeSpec := { name := "prefixMeans", fn := fun _ => fun
  | [d1, d2, d3] => { results := [.lit (.bool true)], args := [d1, d2, d3] }
  | _ => none }
def prefixMeansRow : OpenClaim := { program := "ytnemacejaiifnaa", sum := "482f0946e83b5b9416aebc0902dd3f37e5c4fd1dfa4639bbc97fc82612cff8ce", func := "martello/martellolaw14.PrefixMeans", spec := "prefixMeans", unfollowed := true, recurses := true, loops := true, plainKeys := false, apart := false }
def PrefixMeansSaid : Prop := prefixMeansRow.holds Try.pinned (OpenSpec.ofChange prefixMeansSpec)

/-- ITS FALSE NEIGHBOUR: 'it returns false'. Refute it at one input. -/
def prefixMeansWrong : ChangeSpec := { name := "prefixMeans", fn := fun _ => fun
  | [d1, d2, d3] => { results := [.lit (.bool false)], args := [d1, d2, d3] }
  | _ => none }
def PrefixMeansWrongFalsely : Prop := prefixMeansRow.holds Try.pinned (OpenSpec.ofChange prefixMeansWrong)

/-- 'martellolaw15.OnepassAdmits': WHATEVER THE INPUT: true; the input reads as it did. -/
def onepassAdmitsSpec : ChangeSpec := { name := "onepassAdmits", fn := fun _ => fun
  | [d] => { results := [.lit (.bool true)], args := [d] }
  | _ => none }
def onepassAdmitsRow : OpenClaim := { program := "ytnemacejaiifnaa", sum := "482f0946e83b5b9416aebc0902dd3f37e5c4fd1dfa4639bbc97fc82612cff8ce", func := "martello/martellolaw15.OnepassAdmits", spec := "onepassAdmits", unfollowed := true, recurses := true, plainKeys := false, apart := false }
def OnepassAdmitsSaid : Prop := onepassAdmitsRow.holds Try.pinned (OpenSpec.ofChange onepassAdmitsSpec)

/-- ITS FALSE NEIGHBOUR: 'it returns false'. Refute it at one input. -/
def onepassAdmitsWrong : ChangeSpec := { name := "onepassAdmits", fn := fun _ => fun
  | [d] => { results := [.lit (.bool false)], args := [d] }
  | _ => none }
def OnepassAdmitsWrongFalsely : Prop := onepassAdmitsRow.holds Try.pinned (OpenSpec.ofChange onepassAdmitsWrong)

/- THE SECOND FORM. 'bulk': how many values and letters a reading holds, each counted each time it is reached (what is shared counts as often as it is met; a slice's spare places count too). A statement '..UptoSaid' is the law's where the arguments, and the package variables that the reading takes, are together of bulk at most 1048576: NARROWER than '..Said'. Prove '..Said' where nothing that the law and all that it calls make is longer than what came in: it says more and counts as full. Else prove '..UptoSaid'. A law counts once. -/
mutual
def uptoBulk {H : Type} : DataW H → Nat
  | .lit (.string bytes) => bytes.length + 1
  | .lit _ => 1
  | .nil => 1
  | .ptr d => uptoBulk d + 1
  | .slice elems spare => uptoBulkAll elems + uptoBulkAll spare + 1
  | .agg parts => uptoBulkAll parts + 1
  | .iface _ d => uptoBulk d + 1
  | .map entries => uptoBulkEntries entries + 1
  | .held _ => 1
def uptoBulkAll {H : Type} : List (DataW H) → Nat
  | [] => 0
  | d :: r => uptoBulk d + uptoBulkAll r
def uptoBulkEntries {H : Type} : List (Lit × DataW H) → Nat
  | [] => 0
  | x :: r => uptoBulkEntry x + uptoBulkEntries r
def uptoBulkEntry {H : Type} : Lit × DataW H → Nat
  | (.string bytes, d) => bytes.length + uptoBulk d + 1
  | (_, d) => uptoBulk d + 1
 end
def uptoSmall : (H : Type) → List (DataW H) → Bool := fun _ ds => decide (uptoBulkAll ds ≤ 1048576)
def OpenSpec.upto (s : _root_.Go.ChangeSpec) : _root_.Go.OpenSpec := { _root_.Go.OpenSpec.ofChange s with cond := some uptoSmall }

/-- 'martellolaw11.DenotePlaces', WHERE WHAT IT READS IS OF BULK AT MOST 1048576: true; the input reads as it did. -/
def denotePlacesUptoRow : OpenClaim := { program := "ytnemacejaiifnaa", sum := "482f0946e83b5b9416aebc0902dd3f37e5c4fd1dfa4639bbc97fc82612cff8ce", func := "martello/martellolaw11.DenotePlaces", spec := "denotePlaces", unfollowed := true, recurses := true, loops := true, plainKeys := false, apart := false, narrowed := true }
def DenotePlacesUptoSaid : Prop := denotePlacesUptoRow.holds Try.pinned (OpenSpec.upto denotePlacesSpec)

/-- 'martellolaw11.DenoteTurned', WHERE WHAT IT READS IS OF BULK AT MOST 1048576: true; the input reads as it did. -/
def denoteTurnedUptoRow : OpenClaim := { program := "ytnemacejaiifnaa", sum := "482f0946e83b5b9416aebc0902dd3f37e5c4fd1dfa4639bbc97fc82612cff8ce", func := "martello/martellolaw11.DenoteTurned", spec := "denoteTurned", unfollowed := true, recurses := true, loops := true, plainKeys := false, apart := false, narrowed := true }
def DenoteTurnedUptoSaid : Prop := denoteTurnedUptoRow.holds Try.pinned (OpenSpec.upto denoteTurnedSpec)

/-- 'martellolaw11.DenoteBest', WHERE WHAT IT READS IS OF BULK AT MOST 1048576: true; the input reads as it did. -/
def denoteBestUptoRow : OpenClaim := { program := "ytnemacejaiifnaa", sum := "482f0946e83b5b9416aebc0902dd3f37e5c4fd1dfa4639bbc97fc82612cff8ce", func := "martello/martellolaw11.DenoteBest", spec := "denoteBest", unfollowed := true, recurses := true, loops := true, plainKeys := false, apart := false, narrowed := true }
def DenoteBestUptoSaid : Prop := denoteBestUptoRow.holds Try.pinned (OpenSpec.upto denoteBestSpec)

/-- 'martellolaw11.DenoteParts', WHERE WHAT IT READS IS OF BULK AT MOST 1048576: true; the input reads as it did. -/
def denotePartsUptoRow : OpenClaim := { program := "ytnemacejaiifnaa", sum := "482f0946e83b5b9416aebc0902dd3f37e5c4fd1dfa4639bbc97fc82612cff8ce", func := "martello/martellolaw11.DenoteParts", spec := "denoteParts", unfollowed := true, recurses := true, loops := true, plainKeys := false, apart := false, narrowed := true }
def DenotePartsUptoSaid : Prop := denotePartsUptoRow.holds Try.pinned (OpenSpec.upto denotePartsSpec)

/-- 'martellolaw14.PrefixMeans', WHERE WHAT IT READS IS OF BULK AT MOST 1048576: true; the input reads as it did. -/
def prefixMeansUptoRow : OpenClaim := { program := "ytnemacejaiifnaa", sum := "482f0946e83b5b9416aebc0902dd3f37e5c4fd1dfa4639bbc97fc82612cff8ce", func := "martello/martellolaw14.PrefixMeans", spec := "prefixMeans", unfollowed := true, recurses := true, loops := true, plainKeys := false, apart := false, narrowed := true }
def PrefixMeansUptoSaid : Prop := prefixMeansUptoRow.holds Try.pinned (OpenSpec.upto prefixMeansSpec)

/-- 'martellolaw15.OnepassAdmits', WHERE WHAT IT READS IS OF BULK AT MOST 1048576: true; the input reads as it did. -/
def onepassAdmitsUptoRow : OpenClaim := { program := "ytnemacejaiifnaa", sum := "482f0946e83b5b9416aebc0902dd3f37e5c4fd1dfa4639bbc97fc82612cff8ce", func := "martello/martellolaw15.OnepassAdmits", spec := "onepassAdmits", unfollowed := true, recurses := true, plainKeys := false, apart := false, narrowed := true }
def OnepassAdmitsUptoSaid : Prop := onepassAdmitsUptoRow.holds Try.pinned (OpenSpec.upto onepassAdmitsSpec)

end Rows
end Go.Proofs.Ytnemacejaiifnaa
