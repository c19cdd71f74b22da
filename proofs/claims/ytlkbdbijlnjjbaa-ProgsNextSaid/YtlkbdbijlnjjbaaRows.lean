/-
  No cell of these rows narrows 'for every input' (looked for: loops, veiled, ifaces, maps, wideKeys, modest, calm, conditions, laid).
  DERIVED. THE GIVEN ROWS OF THIS SEAT. 7 by the template 'for every input the law returns true; each argument reads behind the call as it read before'; 0 by the template 'total and deterministic' (their statements: YtlkbdbijlnjjbaaTotals.lean).
  GIVEN WITH THE SEED: the statements are not yours to turn. If you find one false, say at which input.
  Laid BY PROGRAM, IN A SANDBOX (cutbox-rows.mjs): the forced cells as the released guide's own fill.sh prints them over the translation 6c26ecc62046b41f… (all of the seat's roots in one cut). By AI agents, Wed Nov 11 2026. No macro, syntax, notation, axiom, sorry.
-/
import Derived.Test.YtlkbdbijlnjjbaaChecked
import GoSem.Claim
import GoSem.ClaimJoined
import GoSem.ClaimMapViews
import Derived.JoinedTies
import Derived.KernelRfl
namespace Go.Proofs.Ytlkbdbijlnjjbaa
/- THE CELL 'sum', in the pinned program and in every row, IS THE sha256 OF THE DUMP (.gsa) THAT YtlkbdbijlnjjbaaProg.lean LOADS. Nothing in Lean hashes anything: it is a label: what it is worth is what the hold of that sum in a sandbox is worth. -/
noncomputable def Try.pinned : Pinned := { name := "ytlkbdbijlnjjbaa", sum := "6c26ecc62046b41f0baad2ac8a424824ccc993bbbcbb5cfed14858213e1fcafe", checked := Try.checked }
namespace Rows
def none {H : Type} : Left H := { results := [], args := [] }

/-- 'martellolaw12.ProgsCheck': WHATEVER THE INPUT: true; the input reads as it did. -/
def progsCheckSpec : ChangeSpec := { name := "progsCheck", fn := fun _ => fun
  | [d] => { results := [.lit (.bool true)], args := [d] }
  | _ => none }
def progsCheckRow : OpenClaim := { program := "ytlkbdbijlnjjbaa", sum := "6c26ecc62046b41f0baad2ac8a424824ccc993bbbcbb5cfed14858213e1fcafe", func := "martello/martellolaw12.ProgsCheck", spec := "progsCheck", unfollowed := true, recurses := true, apart := false }
def ProgsCheckSaid : Prop := progsCheckRow.holds Try.pinned (OpenSpec.ofChange progsCheckSpec)

/-- ITS FALSE NEIGHBOUR: 'it returns false'. Refute it at one input. -/
def progsCheckWrong : ChangeSpec := { name := "progsCheck", fn := fun _ => fun
  | [d] => { results := [.lit (.bool false)], args := [d] }
  | _ => none }
def ProgsCheckWrongFalsely : Prop := progsCheckRow.holds Try.pinned (OpenSpec.ofChange progsCheckWrong)

/-- 'martellolaw12.ProgsClosure': WHATEVER THE INPUT: true; the input reads as it did. -/
def progsClosureSpec : ChangeSpec := { name := "progsClosure", fn := fun _ => fun
  | [d1, d2, d3, d4] => { results := [.lit (.bool true)], args := [d1, d2, d3, d4] }
  | _ => none }
def progsClosureRow : OpenClaim := { program := "ytlkbdbijlnjjbaa", sum := "6c26ecc62046b41f0baad2ac8a424824ccc993bbbcbb5cfed14858213e1fcafe", func := "martello/martellolaw12.ProgsClosure", spec := "progsClosure", unfollowed := true, recurses := true, apart := false }
def ProgsClosureSaid : Prop := progsClosureRow.holds Try.pinned (OpenSpec.ofChange progsClosureSpec)

/-- ITS FALSE NEIGHBOUR: 'it returns false'. Refute it at one input. -/
def progsClosureWrong : ChangeSpec := { name := "progsClosure", fn := fun _ => fun
  | [d1, d2, d3, d4] => { results := [.lit (.bool false)], args := [d1, d2, d3, d4] }
  | _ => none }
def ProgsClosureWrongFalsely : Prop := progsClosureRow.holds Try.pinned (OpenSpec.ofChange progsClosureWrong)

/-- 'martellolaw12.ProgsNext': WHATEVER THE INPUT: true; the input reads as it did. -/
def progsNextSpec : ChangeSpec := { name := "progsNext", fn := fun _ => fun
  | [d1, d2, d3] => { results := [.lit (.bool true)], args := [d1, d2, d3] }
  | _ => none }
def progsNextRow : OpenClaim := { program := "ytlkbdbijlnjjbaa", sum := "6c26ecc62046b41f0baad2ac8a424824ccc993bbbcbb5cfed14858213e1fcafe", func := "martello/martellolaw12.ProgsNext", spec := "progsNext", unfollowed := true, recurses := true, apart := false }
def ProgsNextSaid : Prop := progsNextRow.holds Try.pinned (OpenSpec.ofChange progsNextSpec)

/-- ITS FALSE NEIGHBOUR: 'it returns false'. Refute it at one input. -/
def progsNextWrong : ChangeSpec := { name := "progsNext", fn := fun _ => fun
  | [d1, d2, d3] => { results := [.lit (.bool false)], args := [d1, d2, d3] }
  | _ => none }
def ProgsNextWrongFalsely : Prop := progsNextRow.holds Try.pinned (OpenSpec.ofChange progsNextWrong)

/-- 'martellolaw12.ProgsClasses': WHATEVER THE INPUT: true; the input reads as it did. -/
def progsClassesSpec : ChangeSpec := { name := "progsClasses", fn := fun _ => fun
  | [d1, d2, d3] => { results := [.lit (.bool true)], args := [d1, d2, d3] }
  | _ => none }
def progsClassesRow : OpenClaim := { program := "ytlkbdbijlnjjbaa", sum := "6c26ecc62046b41f0baad2ac8a424824ccc993bbbcbb5cfed14858213e1fcafe", func := "martello/martellolaw12.ProgsClasses", spec := "progsClasses", unfollowed := true, recurses := true, apart := false }
def ProgsClassesSaid : Prop := progsClassesRow.holds Try.pinned (OpenSpec.ofChange progsClassesSpec)

/-- ITS FALSE NEIGHBOUR: 'it returns false'. Refute it at one input. -/
def progsClassesWrong : ChangeSpec := { name := "progsClasses", fn := fun _ => fun
  | [d1, d2, d3] => { results := [.lit (.bool false)], args := [d1, d2, d3] }
  | _ => none }
def ProgsClassesWrongFalsely : Prop := progsClassesRow.holds Try.pinned (OpenSpec.ofChange progsClassesWrong)

/-- 'martellolaw12.ProgsAlike': WHATEVER THE INPUT: true; the input reads as it did. -/
def progsAlikeSpec : ChangeSpec := { name := "progsAlike", fn := fun _ => fun
  | [d1, d2, d3] => { results := [.lit (.bool true)], args := [d1, d2, d3] }
  | _ => none }
def progsAlikeRow : OpenClaim := { program := "ytlkbdbijlnjjbaa", sum := "6c26ecc62046b41f0baad2ac8a424824ccc993bbbcbb5cfed14858213e1fcafe", func := "martello/martellolaw12.ProgsAlike", spec := "progsAlike", unfollowed := true, recurses := true, apart := false }
def ProgsAlikeSaid : Prop := progsAlikeRow.holds Try.pinned (OpenSpec.ofChange progsAlikeSpec)

/-- ITS FALSE NEIGHBOUR: 'it returns false'. Refute it at one input. -/
def progsAlikeWrong : ChangeSpec := { name := "progsAlike", fn := fun _ => fun
  | [d1, d2, d3] => { results := [.lit (.bool false)], args := [d1, d2, d3] }
  | _ => none }
def ProgsAlikeWrongFalsely : Prop := progsAlikeRow.holds Try.pinned (OpenSpec.ofChange progsAlikeWrong)

/-- 'martellolaw12.ProgsTwice': WHATEVER THE INPUT: true; the input reads as it did. -/
def progsTwiceSpec : ChangeSpec := { name := "progsTwice", fn := fun _ => fun
  | [d1, d2, d3] => { results := [.lit (.bool true)], args := [d1, d2, d3] }
  | _ => none }
def progsTwiceRow : OpenClaim := { program := "ytlkbdbijlnjjbaa", sum := "6c26ecc62046b41f0baad2ac8a424824ccc993bbbcbb5cfed14858213e1fcafe", func := "martello/martellolaw12.ProgsTwice", spec := "progsTwice", unfollowed := true, recurses := true, apart := false }
def ProgsTwiceSaid : Prop := progsTwiceRow.holds Try.pinned (OpenSpec.ofChange progsTwiceSpec)

/-- ITS FALSE NEIGHBOUR: 'it returns false'. Refute it at one input. -/
def progsTwiceWrong : ChangeSpec := { name := "progsTwice", fn := fun _ => fun
  | [d1, d2, d3] => { results := [.lit (.bool false)], args := [d1, d2, d3] }
  | _ => none }
def ProgsTwiceWrongFalsely : Prop := progsTwiceRow.holds Try.pinned (OpenSpec.ofChange progsTwiceWrong)

/-- 'martellolaw12.ProgsParts': WHATEVER THE INPUT: true; the input reads as it did. -/
def progsPartsSpec : ChangeSpec := { name := "progsParts", fn := fun _ => fun
  | [d1, d2, d3, d4] => { results := [.lit (.bool true)], args := [d1, d2, d3, d4] }
  | _ => none }
def progsPartsRow : OpenClaim := { program := "ytlkbdbijlnjjbaa", sum := "6c26ecc62046b41f0baad2ac8a424824ccc993bbbcbb5cfed14858213e1fcafe", func := "martello/martellolaw12.ProgsParts", spec := "progsParts", unfollowed := true, recurses := true, apart := false }
def ProgsPartsSaid : Prop := progsPartsRow.holds Try.pinned (OpenSpec.ofChange progsPartsSpec)

/-- ITS FALSE NEIGHBOUR: 'it returns false'. Refute it at one input. -/
def progsPartsWrong : ChangeSpec := { name := "progsParts", fn := fun _ => fun
  | [d1, d2, d3, d4] => { results := [.lit (.bool false)], args := [d1, d2, d3, d4] }
  | _ => none }
def ProgsPartsWrongFalsely : Prop := progsPartsRow.holds Try.pinned (OpenSpec.ofChange progsPartsWrong)

/- THE SECOND FORM. 'bulk': how many values and letters a reading holds, each counted each time it is reached (what is shared counts as often as it is met; a slice's spare places count too). A statement '..UptoSaid' is the law's where the arguments, and the package variables that the reading takes, are together of bulk at most 1048576: NARROWER than '..Said'. Prove '..Said' where nothing that the law and all that it calls make is longer than what came in: it says more and counts as full. Else prove '..UptoSaid'. A law counts once. -/
mutual
def uptoBulk {H : Type} : DataW H → Nat
  | .lit (.string bytes) => bytes.length + 1
  | .lit _ => 1
  | .nil => 1
  | .ptr d => uptoBulk d + 1
  | .slice elems spare => uptoBulkAll elems + uptoBulkAll spare + 1
  | .agg parts => uptoBulkAll parts + 1
  | .iface _ d => uptoBulk d + 1
  | .map entries => uptoBulkEntries entries + 1
  | .held _ => 1
def uptoBulkAll {H : Type} : List (DataW H) → Nat
  | [] => 0
  | d :: r => uptoBulk d + uptoBulkAll r
def uptoBulkEntries {H : Type} : List (Lit × DataW H) → Nat
  | [] => 0
  | x :: r => uptoBulkEntry x + uptoBulkEntries r
def uptoBulkEntry {H : Type} : Lit × DataW H → Nat
  | (.string bytes, d) => bytes.length + uptoBulk d + 1
  | (_, d) => uptoBulk d + 1
 end
def uptoSmall : (H : Type) → List (DataW H) → Bool := fun _ ds => decide (uptoBulkAll ds ≤ 1048576)
def OpenSpec.upto (s : _root_.Go.ChangeSpec) : _root_.Go.OpenSpec := { _root_.Go.OpenSpec.ofChange s with cond := some uptoSmall }

/-- 'martellolaw12.ProgsCheck', WHERE WHAT IT READS IS OF BULK AT MOST 1048576: true; the input reads as it did. -/
def progsCheckUptoRow : OpenClaim := { program := "ytlkbdbijlnjjbaa", sum := "6c26ecc62046b41f0baad2ac8a424824ccc993bbbcbb5cfed14858213e1fcafe", func := "martello/martellolaw12.ProgsCheck", spec := "progsCheck", unfollowed := true, recurses := true, apart := false, narrowed := true }
def ProgsCheckUptoSaid : Prop := progsCheckUptoRow.holds Try.pinned (OpenSpec.upto progsCheckSpec)

/-- 'martellolaw12.ProgsClosure', WHERE WHAT IT READS IS OF BULK AT MOST 1048576: true; the input reads as it did. -/
def progsClosureUptoRow : OpenClaim := { program := "ytlkbdbijlnjjbaa", sum := "6c26ecc62046b41f0baad2ac8a424824ccc993bbbcbb5cfed14858213e1fcafe", func := "martello/martellolaw12.ProgsClosure", spec := "progsClosure", unfollowed := true, recurses := true, apart := false, narrowed := true }
def ProgsClosureUptoSaid : Prop := progsClosureUptoRow.holds Try.pinned (OpenSpec.upto progsClosureSpec)

/-- 'martellolaw12.ProgsNext', WHERE WHAT IT READS IS OF BULK AT MOST 1048576: true; the input reads as it did. -/
def progsNextUptoRow : OpenClaim := { program := "ytlkbdbijlnjjbaa", sum := "6c26ecc62046b41f0baad2ac8a424824ccc993bbbcbb5cfed14858213e1fcafe", func := "martello/martellolaw12.ProgsNext", spec := "progsNext", unfollowed := true, recurses := true, apart := false, narrowed := true }
def ProgsNextUptoSaid : Prop := progsNextUptoRow.holds Try.pinned (OpenSpec.upto progsNextSpec)

/-- 'martellolaw12.ProgsClasses', WHERE WHAT IT READS IS OF BULK AT MOST 1048576: true; the input reads as it did. -/
def progsClassesUptoRow : OpenClaim := { program := "ytlkbdbijlnjjbaa", sum := "6c26ecc62046b41f0baad2ac8a424824ccc993bbbcbb5cfed14858213e1fcafe", func := "martello/martellolaw12.ProgsClasses", spec := "progsClasses", unfollowed := true, recurses := true, apart := false, narrowed := true }
def ProgsClassesUptoSaid : Prop := progsClassesUptoRow.holds Try.pinned (OpenSpec.upto progsClassesSpec)

/-- 'martellolaw12.ProgsAlike', WHERE WHAT IT READS IS OF BULK AT MOST 1048576: true; the input reads as it did. -/
def progsAlikeUptoRow : OpenClaim := { program := "ytlkbdbijlnjjbaa", sum := "6c26ecc62046b41f0baad2ac8a424824ccc993bbbcbb5cfed14858213e1fcafe", func := "martello/martellolaw12.ProgsAlike", spec := "progsAlike", unfollowed := true, recurses := true, apart := false, narrowed := true }
def ProgsAlikeUptoSaid : Prop := progsAlikeUptoRow.holds Try.pinned (OpenSpec.upto progsAlikeSpec)

/-- 'martellolaw12.ProgsTwice', WHERE WHAT IT READS IS OF BULK AT MOST 1048576: true; the input reads as it did. -/
def progsTwiceUptoRow : OpenClaim := { program := "ytlkbdbijlnjjbaa", sum := "6c26ecc62046b41f0baad2ac8a424824ccc993bbbcbb5cfed14858213e1fcafe", func := "martello/martellolaw12.ProgsTwice", spec := "progsTwice", unfollowed := true, recurses := true, apart := false, narrowed := true }
def ProgsTwiceUptoSaid : Prop := progsTwiceUptoRow.holds Try.pinned (OpenSpec.upto progsTwiceSpec)

/-- 'martellolaw12.ProgsParts', WHERE WHAT IT READS IS OF BULK AT MOST 1048576: true; the input reads as it did. -/
def progsPartsUptoRow : OpenClaim := { program := "ytlkbdbijlnjjbaa", sum := "6c26ecc62046b41f0baad2ac8a424824ccc993bbbcbb5cfed14858213e1fcafe", func := "martello/martellolaw12.ProgsParts", spec := "progsParts", unfollowed := true, recurses := true, apart := false, narrowed := true }
def ProgsPartsUptoSaid : Prop := progsPartsUptoRow.holds Try.pinned (OpenSpec.upto progsPartsSpec)

end Rows
end Go.Proofs.Ytlkbdbijlnjjbaa
