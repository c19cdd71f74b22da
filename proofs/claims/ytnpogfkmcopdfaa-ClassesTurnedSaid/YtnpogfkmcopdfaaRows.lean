/-
  No cell of these rows narrows 'for every input' (looked for: loops, veiled, ifaces, maps, wideKeys, modest, calm, conditions, laid).
  DERIVED. THE GIVEN ROWS OF THIS SEAT. 5 by the template 'for every input the law returns true; each argument reads behind the call as it read before'; 0 by the template 'total and deterministic' (their statements: YtnpogfkmcopdfaaTotals.lean).
  GIVEN WITH THE SEED: the statements are not yours to turn. If you find one false, say at which input.
  Laid BY PROGRAM, IN A SANDBOX (cutbox-rows.mjs): the forced cells as the released guide's own fill.sh prints them over the translation 7cb188fb9f2add02… (all of the seat's roots in one cut). By AI agents, Wed Nov 11 2026. No macro, syntax, notation, axiom, sorry.
-/
import Derived.Test.YtnpogfkmcopdfaaChecked
import GoSem.Claim
import GoSem.ClaimJoined
import GoSem.ClaimMapViews
import Derived.JoinedTies
import Derived.KernelRfl
namespace Go.Proofs.Ytnpogfkmcopdfaa
/- THE CELL 'sum', in the pinned program and in every row, IS THE sha256 OF THE DUMP (.gsa) THAT YtnpogfkmcopdfaaProg.lean LOADS. Nothing in Lean hashes anything: it is a label: what it is worth is what the hold of that sum in a sandbox is worth. -/
noncomputable def Try.pinned : Pinned := { name := "ytnpogfkmcopdfaa", sum := "7cb188fb9f2add027f0455ee48440114feafa4c527cd5044c9cc4a4dd1ba150c", checked := Try.checked }
namespace Rows
def none {H : Type} : Left H := { results := [], args := [] }

/-- 'martellolaw04.ClassesPerl': WHATEVER THE INPUT: true; the input reads as it did. -/
def classesPerlSpec : ChangeSpec := { name := "classesPerl", fn := fun _ => fun
  | [d] => { results := [.lit (.bool true)], args := [d] }
  | _ => none }
def classesPerlRow : OpenClaim := { program := "ytnpogfkmcopdfaa", sum := "7cb188fb9f2add027f0455ee48440114feafa4c527cd5044c9cc4a4dd1ba150c", func := "martello/martellolaw04.ClassesPerl", spec := "classesPerl", unfollowed := true, recurses := true, apart := false }
def ClassesPerlSaid : Prop := classesPerlRow.holds Try.pinned (OpenSpec.ofChange classesPerlSpec)

/-- ITS FALSE NEIGHBOUR: 'it returns false'. Refute it at one input. -/
def classesPerlWrong : ChangeSpec := { name := "classesPerl", fn := fun _ => fun
  | [d] => { results := [.lit (.bool false)], args := [d] }
  | _ => none }
def ClassesPerlWrongFalsely : Prop := classesPerlRow.holds Try.pinned (OpenSpec.ofChange classesPerlWrong)

/-- 'martellolaw04.ClassesPosix': WHATEVER THE INPUT: true; the input reads as it did. -/
def classesPosixSpec : ChangeSpec := { name := "classesPosix", fn := fun _ => fun
  | [d] => { results := [.lit (.bool true)], args := [d] }
  | _ => none }
def classesPosixRow : OpenClaim := { program := "ytnpogfkmcopdfaa", sum := "7cb188fb9f2add027f0455ee48440114feafa4c527cd5044c9cc4a4dd1ba150c", func := "martello/martellolaw04.ClassesPosix", spec := "classesPosix", unfollowed := true, recurses := true, apart := false }
def ClassesPosixSaid : Prop := classesPosixRow.holds Try.pinned (OpenSpec.ofChange classesPosixSpec)

/-- ITS FALSE NEIGHBOUR: 'it returns false'. Refute it at one input. -/
def classesPosixWrong : ChangeSpec := { name := "classesPosix", fn := fun _ => fun
  | [d] => { results := [.lit (.bool false)], args := [d] }
  | _ => none }
def ClassesPosixWrongFalsely : Prop := classesPosixRow.holds Try.pinned (OpenSpec.ofChange classesPosixWrong)

/-- 'martellolaw04.ClassesProperty': WHATEVER THE INPUT: true; the input reads as it did. -/
def classesPropertySpec : ChangeSpec := { name := "classesProperty", fn := fun _ => fun
  | [d1, d2] => { results := [.lit (.bool true)], args := [d1, d2] }
  | _ => none }
def classesPropertyRow : OpenClaim := { program := "ytnpogfkmcopdfaa", sum := "7cb188fb9f2add027f0455ee48440114feafa4c527cd5044c9cc4a4dd1ba150c", func := "martello/martellolaw04.ClassesProperty", spec := "classesProperty", unfollowed := true, recurses := true, apart := false }
def ClassesPropertySaid : Prop := classesPropertyRow.holds Try.pinned (OpenSpec.ofChange classesPropertySpec)

/-- ITS FALSE NEIGHBOUR: 'it returns false'. Refute it at one input. -/
def classesPropertyWrong : ChangeSpec := { name := "classesProperty", fn := fun _ => fun
  | [d1, d2] => { results := [.lit (.bool false)], args := [d1, d2] }
  | _ => none }
def ClassesPropertyWrongFalsely : Prop := classesPropertyRow.holds Try.pinned (OpenSpec.ofChange classesPropertyWrong)

/-- 'martellolaw04.ClassesTurned': WHATEVER THE INPUT: true; the input reads as it did. -/
def classesTurnedSpec : ChangeSpec := { name := "classesTurned", fn := fun _ => fun
  | [d1, d2, d3] => { results := [.lit (.bool true)], args := [d1, d2, d3] }
  | _ => none }
def classesTurnedRow : OpenClaim := { program := "ytnpogfkmcopdfaa", sum := "7cb188fb9f2add027f0455ee48440114feafa4c527cd5044c9cc4a4dd1ba150c", func := "martello/martellolaw04.ClassesTurned", spec := "classesTurned", unfollowed := true, recurses := true, apart := false }
def ClassesTurnedSaid : Prop := classesTurnedRow.holds Try.pinned (OpenSpec.ofChange classesTurnedSpec)

/-- ITS FALSE NEIGHBOUR: 'it returns false'. Refute it at one input. -/
def classesTurnedWrong : ChangeSpec := { name := "classesTurned", fn := fun _ => fun
  | [d1, d2, d3] => { results := [.lit (.bool false)], args := [d1, d2, d3] }
  | _ => none }
def ClassesTurnedWrongFalsely : Prop := classesTurnedRow.holds Try.pinned (OpenSpec.ofChange classesTurnedWrong)

/-- 'martellolaw04.ClassesAlike': WHATEVER THE INPUT: true; the input reads as it did. -/
def classesAlikeSpec : ChangeSpec := { name := "classesAlike", fn := fun _ => fun
  | [d] => { results := [.lit (.bool true)], args := [d] }
  | _ => none }
def classesAlikeRow : OpenClaim := { program := "ytnpogfkmcopdfaa", sum := "7cb188fb9f2add027f0455ee48440114feafa4c527cd5044c9cc4a4dd1ba150c", func := "martello/martellolaw04.ClassesAlike", spec := "classesAlike", unfollowed := true, recurses := true, apart := false }
def ClassesAlikeSaid : Prop := classesAlikeRow.holds Try.pinned (OpenSpec.ofChange classesAlikeSpec)

/-- ITS FALSE NEIGHBOUR: 'it returns false'. Refute it at one input. -/
def classesAlikeWrong : ChangeSpec := { name := "classesAlike", fn := fun _ => fun
  | [d] => { results := [.lit (.bool false)], args := [d] }
  | _ => none }
def ClassesAlikeWrongFalsely : Prop := classesAlikeRow.holds Try.pinned (OpenSpec.ofChange classesAlikeWrong)

/- THE SECOND FORM. 'bulk': how many values and letters a reading holds, each counted each time it is reached (what is shared counts as often as it is met; a slice's spare places count too). A statement '..UptoSaid' is the law's where the arguments, and the package variables that the reading takes, are together of bulk at most 1048576: NARROWER than '..Said'. Prove '..Said' where nothing that the law and all that it calls make is longer than what came in: it says more and counts as full. Else prove '..UptoSaid'. A law counts once. -/
mutual
def uptoBulk {H : Type} : DataW H → Nat
  | .lit (.string bytes) => bytes.length + 1
  | .lit _ => 1
  | .nil => 1
  | .ptr d => uptoBulk d + 1
  | .slice elems spare => uptoBulkAll elems + uptoBulkAll spare + 1
  | .agg parts => uptoBulkAll parts + 1
  | .iface _ d => uptoBulk d + 1
  | .map entries => uptoBulkEntries entries + 1
  | .held _ => 1
def uptoBulkAll {H : Type} : List (DataW H) → Nat
  | [] => 0
  | d :: r => uptoBulk d + uptoBulkAll r
def uptoBulkEntries {H : Type} : List (Lit × DataW H) → Nat
  | [] => 0
  | x :: r => uptoBulkEntry x + uptoBulkEntries r
def uptoBulkEntry {H : Type} : Lit × DataW H → Nat
  | (.string bytes, d) => bytes.length + uptoBulk d + 1
  | (_, d) => uptoBulk d + 1
 end
def uptoSmall : (H : Type) → List (DataW H) → Bool := fun _ ds => decide (uptoBulkAll ds ≤ 1048576)
def OpenSpec.upto (s : _root_.Go.ChangeSpec) : _root_.Go.OpenSpec := { _root_.Go.OpenSpec.ofChange s with cond := some uptoSmall }

/-- 'martellolaw04.ClassesPerl', WHERE WHAT IT READS IS OF BULK AT MOST 1048576: true; the input reads as it did. -/
def classesPerlUptoRow : OpenClaim := { program := "ytnpogfkmcopdfaa", sum := "7cb188fb9f2add027f0455ee48440114feafa4c527cd5044c9cc4a4dd1ba150c", func := "martello/martellolaw04.ClassesPerl", spec := "classesPerl", unfollowed := true, recurses := true, apart := false, narrowed := true }
def ClassesPerlUptoSaid : Prop := classesPerlUptoRow.holds Try.pinned (OpenSpec.upto classesPerlSpec)

/-- 'martellolaw04.ClassesPosix', WHERE WHAT IT READS IS OF BULK AT MOST 1048576: true; the input reads as it did. -/
def classesPosixUptoRow : OpenClaim := { program := "ytnpogfkmcopdfaa", sum := "7cb188fb9f2add027f0455ee48440114feafa4c527cd5044c9cc4a4dd1ba150c", func := "martello/martellolaw04.ClassesPosix", spec := "classesPosix", unfollowed := true, recurses := true, apart := false, narrowed := true }
def ClassesPosixUptoSaid : Prop := classesPosixUptoRow.holds Try.pinned (OpenSpec.upto classesPosixSpec)

/-- 'martellolaw04.ClassesProperty', WHERE WHAT IT READS IS OF BULK AT MOST 1048576: true; the input reads as it did. -/
def classesPropertyUptoRow : OpenClaim := { program := "ytnpogfkmcopdfaa", sum := "7cb188fb9f2add027f0455ee48440114feafa4c527cd5044c9cc4a4dd1ba150c", func := "martello/martellolaw04.ClassesProperty", spec := "classesProperty", unfollowed := true, recurses := true, apart := false, narrowed := true }
def ClassesPropertyUptoSaid : Prop := classesPropertyUptoRow.holds Try.pinned (OpenSpec.upto classesPropertySpec)

/-- 'martellolaw04.ClassesTurned', WHERE WHAT IT READS IS OF BULK AT MOST 1048576: true; the input reads as it did. -/
def classesTurnedUptoRow : OpenClaim := { program := "ytnpogfkmcopdfaa", sum := "7cb188fb9f2add027f0455ee48440114feafa4c527cd5044c9cc4a4dd1ba150c", func := "martello/martellolaw04.ClassesTurned", spec := "classesTurned", unfollowed := true, recurses := true, apart := false, narrowed := true }
def ClassesTurnedUptoSaid : Prop := classesTurnedUptoRow.holds Try.pinned (OpenSpec.upto classesTurnedSpec)

/-- 'martellolaw04.ClassesAlike', WHERE WHAT IT READS IS OF BULK AT MOST 1048576: true; the input reads as it did. -/
def classesAlikeUptoRow : OpenClaim := { program := "ytnpogfkmcopdfaa", sum := "7cb188fb9f2add027f0455ee48440114feafa4c527cd5044c9cc4a4dd1ba150c", func := "martello/martellolaw04.ClassesAlike", spec := "classesAlike", unfollowed := true, recurses := true, apart := false, narrowed := true }
def ClassesAlikeUptoSaid : Prop := classesAlikeUptoRow.holds Try.pinned (OpenSpec.upto classesAlikeSpec)

end Rows
end Go.Proofs.Ytnpogfkmcopdfaa
