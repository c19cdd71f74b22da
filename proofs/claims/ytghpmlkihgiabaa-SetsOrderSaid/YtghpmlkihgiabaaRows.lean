/-
  No cell of these rows narrows 'for every input' (looked for: loops, veiled, ifaces, maps, wideKeys, modest, calm, conditions, laid).
  DERIVED. THE GIVEN ROWS OF THIS SEAT. 10 by the template 'for every input the law returns true; each argument reads behind the call as it read before'; 0 by the template 'total and deterministic' (their statements: YtghpmlkihgiabaaTotals.lean).
  GIVEN WITH THE SEED: the statements are not yours to turn. If you find one false, say at which input.
  Laid BY PROGRAM, IN A SANDBOX (cutbox-rows.mjs): the forced cells as the released guide's own fill.sh prints them over the translation 0776fc4f76f7c313… (all of the seat's roots in one cut). By AI agents, Wed Nov 11 2026. No macro, syntax, notation, axiom, sorry.
-/
import Derived.Test.YtghpmlkihgiabaaChecked
import GoSem.Claim
import GoSem.ClaimJoined
import GoSem.ClaimMapViews
import Derived.JoinedTies
import Derived.KernelRfl
namespace Go.Proofs.Ytghpmlkihgiabaa
/- THE CELL 'sum', in the pinned program and in every row, IS THE sha256 OF THE DUMP (.gsa) THAT YtghpmlkihgiabaaProg.lean LOADS. Nothing in Lean hashes anything: it is a label: what it is worth is what the hold of that sum in a sandbox is worth. -/
noncomputable def Try.pinned : Pinned := { name := "ytghpmlkihgiabaa", sum := "0776fc4f76f7c31349b614c6d88bbf4da34bfa0ad379cbe6bf5bc3513f337a12", checked := Try.checked }
namespace Rows
def none {H : Type} : Left H := { results := [], args := [] }

/-- 'martellolaw02.SetsRight': WHATEVER THE INPUT: true; the input reads as it did. -/
def setsRightSpec : ChangeSpec := { name := "setsRight", fn := fun _ => fun
  | [d] => { results := [.lit (.bool true)], args := [d] }
  | _ => none }
def setsRightRow : OpenClaim := { program := "ytghpmlkihgiabaa", sum := "0776fc4f76f7c31349b614c6d88bbf4da34bfa0ad379cbe6bf5bc3513f337a12", func := "martello/martellolaw02.SetsRight", spec := "setsRight", unfollowed := true, recurses := true, apart := false }
def SetsRightSaid : Prop := setsRightRow.holds Try.pinned (OpenSpec.ofChange setsRightSpec)

/-- ITS FALSE NEIGHBOUR: 'it returns false'. Refute it at one input. -/
def setsRightWrong : ChangeSpec := { name := "setsRight", fn := fun _ => fun
  | [d] => { results := [.lit (.bool false)], args := [d] }
  | _ => none }
def SetsRightWrongFalsely : Prop := setsRightRow.holds Try.pinned (OpenSpec.ofChange setsRightWrong)

/-- 'martellolaw02.SetsHas': WHATEVER THE INPUT: true; the input reads as it did. -/
def setsHasSpec : ChangeSpec := { name := "setsHas", fn := fun _ => fun
  | [d1, d2] => { results := [.lit (.bool true)], args := [d1, d2] }
  | _ => none }
def setsHasRow : OpenClaim := { program := "ytghpmlkihgiabaa", sum := "0776fc4f76f7c31349b614c6d88bbf4da34bfa0ad379cbe6bf5bc3513f337a12", func := "martello/martellolaw02.SetsHas", spec := "setsHas", unfollowed := true, recurses := true, apart := false }
def SetsHasSaid : Prop := setsHasRow.holds Try.pinned (OpenSpec.ofChange setsHasSpec)

/-- ITS FALSE NEIGHBOUR: 'it returns false'. Refute it at one input. -/
def setsHasWrong : ChangeSpec := { name := "setsHas", fn := fun _ => fun
  | [d1, d2] => { results := [.lit (.bool false)], args := [d1, d2] }
  | _ => none }
def SetsHasWrongFalsely : Prop := setsHasRow.holds Try.pinned (OpenSpec.ofChange setsHasWrong)

/-- 'martellolaw02.SetsNorm': WHATEVER THE INPUT: true; the input reads as it did. -/
def setsNormSpec : ChangeSpec := { name := "setsNorm", fn := fun _ => fun
  | [d] => { results := [.lit (.bool true)], args := [d] }
  | _ => none }
def setsNormRow : OpenClaim := { program := "ytghpmlkihgiabaa", sum := "0776fc4f76f7c31349b614c6d88bbf4da34bfa0ad379cbe6bf5bc3513f337a12", func := "martello/martellolaw02.SetsNorm", spec := "setsNorm", unfollowed := true, recurses := true, apart := false }
def SetsNormSaid : Prop := setsNormRow.holds Try.pinned (OpenSpec.ofChange setsNormSpec)

/-- ITS FALSE NEIGHBOUR: 'it returns false'. Refute it at one input. -/
def setsNormWrong : ChangeSpec := { name := "setsNorm", fn := fun _ => fun
  | [d] => { results := [.lit (.bool false)], args := [d] }
  | _ => none }
def SetsNormWrongFalsely : Prop := setsNormRow.holds Try.pinned (OpenSpec.ofChange setsNormWrong)

/-- 'martellolaw02.SetsUnion': WHATEVER THE INPUT: true; the input reads as it did. -/
def setsUnionSpec : ChangeSpec := { name := "setsUnion", fn := fun _ => fun
  | [d1, d2] => { results := [.lit (.bool true)], args := [d1, d2] }
  | _ => none }
def setsUnionRow : OpenClaim := { program := "ytghpmlkihgiabaa", sum := "0776fc4f76f7c31349b614c6d88bbf4da34bfa0ad379cbe6bf5bc3513f337a12", func := "martello/martellolaw02.SetsUnion", spec := "setsUnion", unfollowed := true, recurses := true, apart := false }
def SetsUnionSaid : Prop := setsUnionRow.holds Try.pinned (OpenSpec.ofChange setsUnionSpec)

/-- ITS FALSE NEIGHBOUR: 'it returns false'. Refute it at one input. -/
def setsUnionWrong : ChangeSpec := { name := "setsUnion", fn := fun _ => fun
  | [d1, d2] => { results := [.lit (.bool false)], args := [d1, d2] }
  | _ => none }
def SetsUnionWrongFalsely : Prop := setsUnionRow.holds Try.pinned (OpenSpec.ofChange setsUnionWrong)

/-- 'martellolaw02.SetsMeet': WHATEVER THE INPUT: true; the input reads as it did. -/
def setsMeetSpec : ChangeSpec := { name := "setsMeet", fn := fun _ => fun
  | [d1, d2] => { results := [.lit (.bool true)], args := [d1, d2] }
  | _ => none }
def setsMeetRow : OpenClaim := { program := "ytghpmlkihgiabaa", sum := "0776fc4f76f7c31349b614c6d88bbf4da34bfa0ad379cbe6bf5bc3513f337a12", func := "martello/martellolaw02.SetsMeet", spec := "setsMeet", unfollowed := true, recurses := true, apart := false }
def SetsMeetSaid : Prop := setsMeetRow.holds Try.pinned (OpenSpec.ofChange setsMeetSpec)

/-- ITS FALSE NEIGHBOUR: 'it returns false'. Refute it at one input. -/
def setsMeetWrong : ChangeSpec := { name := "setsMeet", fn := fun _ => fun
  | [d1, d2] => { results := [.lit (.bool false)], args := [d1, d2] }
  | _ => none }
def SetsMeetWrongFalsely : Prop := setsMeetRow.holds Try.pinned (OpenSpec.ofChange setsMeetWrong)

/-- 'martellolaw02.SetsNot': WHATEVER THE INPUT: true; the input reads as it did. -/
def setsNotSpec : ChangeSpec := { name := "setsNot", fn := fun _ => fun
  | [d] => { results := [.lit (.bool true)], args := [d] }
  | _ => none }
def setsNotRow : OpenClaim := { program := "ytghpmlkihgiabaa", sum := "0776fc4f76f7c31349b614c6d88bbf4da34bfa0ad379cbe6bf5bc3513f337a12", func := "martello/martellolaw02.SetsNot", spec := "setsNot", unfollowed := true, recurses := true, apart := false }
def SetsNotSaid : Prop := setsNotRow.holds Try.pinned (OpenSpec.ofChange setsNotSpec)

/-- ITS FALSE NEIGHBOUR: 'it returns false'. Refute it at one input. -/
def setsNotWrong : ChangeSpec := { name := "setsNot", fn := fun _ => fun
  | [d] => { results := [.lit (.bool false)], args := [d] }
  | _ => none }
def SetsNotWrongFalsely : Prop := setsNotRow.holds Try.pinned (OpenSpec.ofChange setsNotWrong)

/-- 'martellolaw02.SetsCount': WHATEVER THE INPUT: true; the input reads as it did. -/
def setsCountSpec : ChangeSpec := { name := "setsCount", fn := fun _ => fun
  | [d] => { results := [.lit (.bool true)], args := [d] }
  | _ => none }
def setsCountRow : OpenClaim := { program := "ytghpmlkihgiabaa", sum := "0776fc4f76f7c31349b614c6d88bbf4da34bfa0ad379cbe6bf5bc3513f337a12", func := "martello/martellolaw02.SetsCount", spec := "setsCount", unfollowed := true, recurses := true, apart := false }
def SetsCountSaid : Prop := setsCountRow.holds Try.pinned (OpenSpec.ofChange setsCountSpec)

/-- ITS FALSE NEIGHBOUR: 'it returns false'. Refute it at one input. -/
def setsCountWrong : ChangeSpec := { name := "setsCount", fn := fun _ => fun
  | [d] => { results := [.lit (.bool false)], args := [d] }
  | _ => none }
def SetsCountWrongFalsely : Prop := setsCountRow.holds Try.pinned (OpenSpec.ofChange setsCountWrong)

/-- 'martellolaw02.SetsLaws': WHATEVER THE INPUT: true; the input reads as it did. -/
def setsLawsSpec : ChangeSpec := { name := "setsLaws", fn := fun _ => fun
  | [d1, d2, d3] => { results := [.lit (.bool true)], args := [d1, d2, d3] }
  | _ => none }
def setsLawsRow : OpenClaim := { program := "ytghpmlkihgiabaa", sum := "0776fc4f76f7c31349b614c6d88bbf4da34bfa0ad379cbe6bf5bc3513f337a12", func := "martello/martellolaw02.SetsLaws", spec := "setsLaws", unfollowed := true, recurses := true, apart := false }
def SetsLawsSaid : Prop := setsLawsRow.holds Try.pinned (OpenSpec.ofChange setsLawsSpec)

/-- ITS FALSE NEIGHBOUR: 'it returns false'. Refute it at one input. -/
def setsLawsWrong : ChangeSpec := { name := "setsLaws", fn := fun _ => fun
  | [d1, d2, d3] => { results := [.lit (.bool false)], args := [d1, d2, d3] }
  | _ => none }
def SetsLawsWrongFalsely : Prop := setsLawsRow.holds Try.pinned (OpenSpec.ofChange setsLawsWrong)

/-- 'martellolaw02.SetsOrder': WHATEVER THE INPUT: true; the input reads as it did. -/
def setsOrderSpec : ChangeSpec := { name := "setsOrder", fn := fun _ => fun
  | [d1, d2, d3] => { results := [.lit (.bool true)], args := [d1, d2, d3] }
  | _ => none }
def setsOrderRow : OpenClaim := { program := "ytghpmlkihgiabaa", sum := "0776fc4f76f7c31349b614c6d88bbf4da34bfa0ad379cbe6bf5bc3513f337a12", func := "martello/martellolaw02.SetsOrder", spec := "setsOrder", unfollowed := true, recurses := true, apart := false }
def SetsOrderSaid : Prop := setsOrderRow.holds Try.pinned (OpenSpec.ofChange setsOrderSpec)

/-- ITS FALSE NEIGHBOUR: 'it returns false'. Refute it at one input. -/
def setsOrderWrong : ChangeSpec := { name := "setsOrder", fn := fun _ => fun
  | [d1, d2, d3] => { results := [.lit (.bool false)], args := [d1, d2, d3] }
  | _ => none }
def SetsOrderWrongFalsely : Prop := setsOrderRow.holds Try.pinned (OpenSpec.ofChange setsOrderWrong)

/-- 'martellolaw02.SetsRuns': WHATEVER THE INPUT: true; the input reads as it did. -/
def setsRunsSpec : ChangeSpec := { name := "setsRuns", fn := fun _ => fun
  | [d1, d2, d3] => { results := [.lit (.bool true)], args := [d1, d2, d3] }
  | _ => none }
def setsRunsRow : OpenClaim := { program := "ytghpmlkihgiabaa", sum := "0776fc4f76f7c31349b614c6d88bbf4da34bfa0ad379cbe6bf5bc3513f337a12", func := "martello/martellolaw02.SetsRuns", spec := "setsRuns", unfollowed := true, recurses := true, apart := false }
def SetsRunsSaid : Prop := setsRunsRow.holds Try.pinned (OpenSpec.ofChange setsRunsSpec)

/-- ITS FALSE NEIGHBOUR: 'it returns false'. Refute it at one input. -/
def setsRunsWrong : ChangeSpec := { name := "setsRuns", fn := fun _ => fun
  | [d1, d2, d3] => { results := [.lit (.bool false)], args := [d1, d2, d3] }
  | _ => none }
def SetsRunsWrongFalsely : Prop := setsRunsRow.holds Try.pinned (OpenSpec.ofChange setsRunsWrong)

/- THE SECOND FORM. 'bulk': how many values and letters a reading holds, each counted each time it is reached (what is shared counts as often as it is met; a slice's spare places count too). A statement '..UptoSaid' is the law's where the arguments, and the package variables that the reading takes, are together of bulk at most 1048576: NARROWER than '..Said'. Prove '..Said' where nothing that the law and all that it calls make is longer than what came in: it says more and counts as full. Else prove '..UptoSaid'. A law counts once. -/
mutual
def uptoBulk {H : Type} : DataW H → Nat
  | .lit (.string bytes) => bytes.length + 1
  | .lit _ => 1
  | .nil => 1
  | .ptr d => uptoBulk d + 1
  | .slice elems spare => uptoBulkAll elems + uptoBulkAll spare + 1
  | .agg parts => uptoBulkAll parts + 1
  | .iface _ d => uptoBulk d + 1
  | .map entries => uptoBulkEntries entries + 1
  | .held _ => 1
def uptoBulkAll {H : Type} : List (DataW H) → Nat
  | [] => 0
  | d :: r => uptoBulk d + uptoBulkAll r
def uptoBulkEntries {H : Type} : List (Lit × DataW H) → Nat
  | [] => 0
  | x :: r => uptoBulkEntry x + uptoBulkEntries r
def uptoBulkEntry {H : Type} : Lit × DataW H → Nat
  | (.string bytes, d) => bytes.length + uptoBulk d + 1
  | (_, d) => uptoBulk d + 1
 end
def uptoSmall : (H : Type) → List (DataW H) → Bool := fun _ ds => decide (uptoBulkAll ds ≤ 1048576)
def OpenSpec.upto (s : _root_.Go.ChangeSpec) : _root_.Go.OpenSpec := { _root_.Go.OpenSpec.ofChange s with cond := some uptoSmall }

/-- 'martellolaw02.SetsRight', WHERE WHAT IT READS IS OF BULK AT MOST 1048576: true; the input reads as it did. -/
def setsRightUptoRow : OpenClaim := { program := "ytghpmlkihgiabaa", sum := "0776fc4f76f7c31349b614c6d88bbf4da34bfa0ad379cbe6bf5bc3513f337a12", func := "martello/martellolaw02.SetsRight", spec := "setsRight", unfollowed := true, recurses := true, apart := false, narrowed := true }
def SetsRightUptoSaid : Prop := setsRightUptoRow.holds Try.pinned (OpenSpec.upto setsRightSpec)

/-- 'martellolaw02.SetsHas', WHERE WHAT IT READS IS OF BULK AT MOST 1048576: true; the input reads as it did. -/
def setsHasUptoRow : OpenClaim := { program := "ytghpmlkihgiabaa", sum := "0776fc4f76f7c31349b614c6d88bbf4da34bfa0ad379cbe6bf5bc3513f337a12", func := "martello/martellolaw02.SetsHas", spec := "setsHas", unfollowed := true, recurses := true, apart := false, narrowed := true }
def SetsHasUptoSaid : Prop := setsHasUptoRow.holds Try.pinned (OpenSpec.upto setsHasSpec)

/-- 'martellolaw02.SetsNorm', WHERE WHAT IT READS IS OF BULK AT MOST 1048576: true; the input reads as it did. -/
def setsNormUptoRow : OpenClaim := { program := "ytghpmlkihgiabaa", sum := "0776fc4f76f7c31349b614c6d88bbf4da34bfa0ad379cbe6bf5bc3513f337a12", func := "martello/martellolaw02.SetsNorm", spec := "setsNorm", unfollowed := true, recurses := true, apart := false, narrowed := true }
def SetsNormUptoSaid : Prop := setsNormUptoRow.holds Try.pinned (OpenSpec.upto setsNormSpec)

/-- 'martellolaw02.SetsUnion', WHERE WHAT IT READS IS OF BULK AT MOST 1048576: true; the input reads as it did. -/
def setsUnionUptoRow : OpenClaim := { program := "ytghpmlkihgiabaa", sum := "0776fc4f76f7c31349b614c6d88bbf4da34bfa0ad379cbe6bf5bc3513f337a12", func := "martello/martellolaw02.SetsUnion", spec := "setsUnion", unfollowed := true, recurses := true, apart := false, narrowed := true }
def SetsUnionUptoSaid : Prop := setsUnionUptoRow.holds Try.pinned (OpenSpec.upto setsUnionSpec)

/-- 'martellolaw02.SetsMeet', WHERE WHAT IT READS IS OF BULK AT MOST 1048576: true; the input reads as it did. -/
def setsMeetUptoRow : OpenClaim := { program := "ytghpmlkihgiabaa", sum := "0776fc4f76f7c31349b614c6d88bbf4da34bfa0ad379cbe6bf5bc3513f337a12", func := "martello/martellolaw02.SetsMeet", spec := "setsMeet", unfollowed := true, recurses := true, apart := false, narrowed := true }
def SetsMeetUptoSaid : Prop := setsMeetUptoRow.holds Try.pinned (OpenSpec.upto setsMeetSpec)

/-- 'martellolaw02.SetsNot', WHERE WHAT IT READS IS OF BULK AT MOST 1048576: true; the input reads as it did. -/
def setsNotUptoRow : OpenClaim := { program := "ytghpmlkihgiabaa", sum := "0776fc4f76f7c31349b614c6d88bbf4da34bfa0ad379cbe6bf5bc3513f337a12", func := "martello/martellolaw02.SetsNot", spec := "setsNot", unfollowed := true, recurses := true, apart := false, narrowed := true }
def SetsNotUptoSaid : Prop := setsNotUptoRow.holds Try.pinned (OpenSpec.upto setsNotSpec)

/-- 'martellolaw02.SetsCount', WHERE WHAT IT READS IS OF BULK AT MOST 1048576: true; the input reads as it did. -/
def setsCountUptoRow : OpenClaim := { program := "ytghpmlkihgiabaa", sum := "0776fc4f76f7c31349b614c6d88bbf4da34bfa0ad379cbe6bf5bc3513f337a12", func := "martello/martellolaw02.SetsCount", spec := "setsCount", unfollowed := true, recurses := true, apart := false, narrowed := true }
def SetsCountUptoSaid : Prop := setsCountUptoRow.holds Try.pinned (OpenSpec.upto setsCountSpec)

/-- 'martellolaw02.SetsLaws', WHERE WHAT IT READS IS OF BULK AT MOST 1048576: true; the input reads as it did. -/
def setsLawsUptoRow : OpenClaim := { program := "ytghpmlkihgiabaa", sum := "0776fc4f76f7c31349b614c6d88bbf4da34bfa0ad379cbe6bf5bc3513f337a12", func := "martello/martellolaw02.SetsLaws", spec := "setsLaws", unfollowed := true, recurses := true, apart := false, narrowed := true }
def SetsLawsUptoSaid : Prop := setsLawsUptoRow.holds Try.pinned (OpenSpec.upto setsLawsSpec)

/-- 'martellolaw02.SetsOrder', WHERE WHAT IT READS IS OF BULK AT MOST 1048576: true; the input reads as it did. -/
def setsOrderUptoRow : OpenClaim := { program := "ytghpmlkihgiabaa", sum := "0776fc4f76f7c31349b614c6d88bbf4da34bfa0ad379cbe6bf5bc3513f337a12", func := "martello/martellolaw02.SetsOrder", spec := "setsOrder", unfollowed := true, recurses := true, apart := false, narrowed := true }
def SetsOrderUptoSaid : Prop := setsOrderUptoRow.holds Try.pinned (OpenSpec.upto setsOrderSpec)

/-- 'martellolaw02.SetsRuns', WHERE WHAT IT READS IS OF BULK AT MOST 1048576: true; the input reads as it did. -/
def setsRunsUptoRow : OpenClaim := { program := "ytghpmlkihgiabaa", sum := "0776fc4f76f7c31349b614c6d88bbf4da34bfa0ad379cbe6bf5bc3513f337a12", func := "martello/martellolaw02.SetsRuns", spec := "setsRuns", unfollowed := true, recurses := true, apart := false, narrowed := true }
def SetsRunsUptoSaid : Prop := setsRunsUptoRow.holds Try.pinned (OpenSpec.upto setsRunsSpec)

end Rows
end Go.Proofs.Ytghpmlkihgiabaa
