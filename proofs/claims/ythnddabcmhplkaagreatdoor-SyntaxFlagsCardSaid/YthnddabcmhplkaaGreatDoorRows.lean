/-
  NARROWER THAN 'FOR EVERY INPUT', by the rows' own cells (each row's printed sentence says how): SyntaxFlags: laid.
  DERIVED. THE GIVEN ROWS OF THIS SEAT. 1 by the template 'for every input the law returns true; each argument reads behind the call as it read before'; 0 by the template 'total and deterministic' (their statements: YthnddabcmhplkaaGreatDoorTotals.lean).
  GIVEN WITH THE SEED: the statements are not yours to turn. If you find one false, say at which input.
  Laid BY PROGRAM, IN A SANDBOX (cutbox-rows.mjs): the forced cells as the released guide's own fill.sh prints them over the translation 1eeba3bc1a2c9377… (all of the seat's roots in one cut). By AI agents, Wed Nov 11 2026. No macro, syntax, notation, axiom, sorry.
-/
import Derived.Test.YthnddabcmhplkaaGreatDoorChecked
import GoSem.PinnedTables
import GoSem.Claim
import GoSem.ClaimJoined
import GoSem.ClaimMapViews
import Derived.JoinedTies
import Derived.KernelRfl
namespace Go.Proofs.YthnddabcmhplkaaGreatDoor
/- THE CELL 'sum', in the pinned program and in every row, IS THE sha256 OF THE DUMP (.gsa) THAT YthnddabcmhplkaaGreatDoorProg.lean LOADS. Nothing in Lean hashes anything: it is a label: what it is worth is what the hold of that sum in a sandbox is worth. -/
noncomputable def Tryz.pinned : Pinned := { name := "ythnddabcmhplkaagreatdoor", sum := "1eeba3bc1a2c9377dd3815a5e6d624085636d4b25c1f99732ca177f066c292d8", checked := Tryz.checked }
namespace Rows
def none {H : Type} : Left H := { results := [], args := [] }

/- WHAT THE LISTED PACKAGE-LEVEL VARIABLES READ AS WHEN THE CALL BEGINS. Each datum BY PROGRAM (the guide's laid-datum.mjs) off the statement by which the dump's own 'gosem.cut.vars' lays the variable. In a bare row this is a premise. The card (YthnddabcmhplkaaGreatDoorCards.lean) ties it to the program's text. -/
def laid_unicode_utf8_acceptRanges {H : Type} : DataW H := .agg [.agg [.lit (.int .u8 128), .lit (.int .u8 191)], .agg [.lit (.int .u8 160), .lit (.int .u8 191)], .agg [.lit (.int .u8 128), .lit (.int .u8 159)], .agg [.lit (.int .u8 144), .lit (.int .u8 191)], .agg [.lit (.int .u8 128), .lit (.int .u8 143)], .agg [.lit (.int .u8 0), .lit (.int .u8 0)], .agg [.lit (.int .u8 0), .lit (.int .u8 0)], .agg [.lit (.int .u8 0), .lit (.int .u8 0)], .agg [.lit (.int .u8 0), .lit (.int .u8 0)], .agg [.lit (.int .u8 0), .lit (.int .u8 0)], .agg [.lit (.int .u8 0), .lit (.int .u8 0)], .agg [.lit (.int .u8 0), .lit (.int .u8 0)], .agg [.lit (.int .u8 0), .lit (.int .u8 0)], .agg [.lit (.int .u8 0), .lit (.int .u8 0)], .agg [.lit (.int .u8 0), .lit (.int .u8 0)], .agg [.lit (.int .u8 0), .lit (.int .u8 0)]]
def laid_martello_tables_odd {H : Type} : DataW H := .agg [.agg [.lit (.int .i64 3), .agg [.lit (.int .i32 75), .lit (.int .i32 107), .lit (.int .i32 8490)]], .agg [.lit (.int .i64 3), .agg [.lit (.int .i32 83), .lit (.int .i32 115), .lit (.int .i32 383)]], .agg [.lit (.int .i64 3), .agg [.lit (.int .i32 197), .lit (.int .i32 229), .lit (.int .i32 8491)]], .agg [.lit (.int .i64 3), .agg [.lit (.int .i32 181), .lit (.int .i32 924), .lit (.int .i32 956)]], .agg [.lit (.int .i64 3), .agg [.lit (.int .i32 931), .lit (.int .i32 962), .lit (.int .i32 963)]], .agg [.lit (.int .i64 2), .agg [.lit (.int .i32 223), .lit (.int .i32 7838), .lit (.int .i32 0)]], .agg [.lit (.int .i64 2), .agg [.lit (.int .i32 255), .lit (.int .i32 376), .lit (.int .i32 0)]]]
def laid_martello_tables_great {H : Type} : DataW H := .agg [.agg [.lit (.int .i32 65), .lit (.int .i32 90)], .agg [.lit (.int .i32 192), .lit (.int .i32 214)], .agg [.lit (.int .i32 216), .lit (.int .i32 222)], .agg [.lit (.int .i32 913), .lit (.int .i32 929)], .agg [.lit (.int .i32 932), .lit (.int .i32 937)], .agg [.lit (.int .i32 1040), .lit (.int .i32 1071)]]
/-- One of Go's own tables, pinned by name: the form's constant. -/
def laid_unicode_utf8_first : DataW Unit := Go.Pinned.utf8First

/-- 'martellolaw08.SyntaxFlags': WHATEVER THE INPUT: true; the input reads as it did. -/
def syntaxFlagsSpec : ChangeSpec := { name := "syntaxFlags", fn := fun _ => fun
  | [d1, d2] => { results := [.lit (.bool true)], args := [d1, d2] }
  | _ => none }
def syntaxFlagsRow : OpenClaim := { program := "ythnddabcmhplkaagreatdoor", sum := "1eeba3bc1a2c9377dd3815a5e6d624085636d4b25c1f99732ca177f066c292d8", func := "martello/martellolaw08.SyntaxFlags", spec := "syntaxFlags", inPlace := ["internal/bytealg.IndexByteString", "internal/bytealg.IndexString"], unfollowed := true, recurses := true, named := ["unicode/utf8.first", "unicode/utf8.acceptRanges", "martello/tables.odd", "martello/tables.great", "internal/bytealg.MaxLen"], apart := false, laid := [("unicode/utf8.acceptRanges", laid_unicode_utf8_acceptRanges), ("martello/tables.odd", laid_martello_tables_odd), ("martello/tables.great", laid_martello_tables_great), ("unicode/utf8.first", laid_unicode_utf8_first)] }
def SyntaxFlagsSaid : Prop := syntaxFlagsRow.holds Tryz.pinned (OpenSpec.ofChange syntaxFlagsSpec)

/-- ITS FALSE NEIGHBOUR: 'it returns false'. Refute it at one input. -/
def syntaxFlagsWrong : ChangeSpec := { name := "syntaxFlags", fn := fun _ => fun
  | [d1, d2] => { results := [.lit (.bool false)], args := [d1, d2] }
  | _ => none }
def SyntaxFlagsWrongFalsely : Prop := syntaxFlagsRow.holds Tryz.pinned (OpenSpec.ofChange syntaxFlagsWrong)

/- THE SECOND FORM. 'bulk': how many values and letters a reading holds, each counted each time it is reached (what is shared counts as often as it is met; a slice's spare places count too). A statement '..UptoSaid' is the law's where the arguments, and the package variables that the reading takes, are together of bulk at most 1048576: NARROWER than '..Said'. Prove '..Said' where nothing that the law and all that it calls make is longer than what came in: it says more and counts as full. Else prove '..UptoSaid'. A law counts once. -/
mutual
def uptoBulk {H : Type} : DataW H → Nat
  | .lit (.string bytes) => bytes.length + 1
  | .lit _ => 1
  | .nil => 1
  | .ptr d => uptoBulk d + 1
  | .slice elems spare => uptoBulkAll elems + uptoBulkAll spare + 1
  | .agg parts => uptoBulkAll parts + 1
  | .iface _ d => uptoBulk d + 1
  | .map entries => uptoBulkEntries entries + 1
  | .held _ => 1
def uptoBulkAll {H : Type} : List (DataW H) → Nat
  | [] => 0
  | d :: r => uptoBulk d + uptoBulkAll r
def uptoBulkEntries {H : Type} : List (Lit × DataW H) → Nat
  | [] => 0
  | x :: r => uptoBulkEntry x + uptoBulkEntries r
def uptoBulkEntry {H : Type} : Lit × DataW H → Nat
  | (.string bytes, d) => bytes.length + uptoBulk d + 1
  | (_, d) => uptoBulk d + 1
 end
def uptoSmall : (H : Type) → List (DataW H) → Bool := fun _ ds => decide (uptoBulkAll ds ≤ 1048576)
def OpenSpec.upto (s : _root_.Go.ChangeSpec) : _root_.Go.OpenSpec := { _root_.Go.OpenSpec.ofChange s with cond := some uptoSmall }

/-- 'martellolaw08.SyntaxFlags', WHERE WHAT IT READS IS OF BULK AT MOST 1048576: true; the input reads as it did. -/
def syntaxFlagsUptoRow : OpenClaim := { program := "ythnddabcmhplkaagreatdoor", sum := "1eeba3bc1a2c9377dd3815a5e6d624085636d4b25c1f99732ca177f066c292d8", func := "martello/martellolaw08.SyntaxFlags", spec := "syntaxFlags", inPlace := ["internal/bytealg.IndexByteString", "internal/bytealg.IndexString"], unfollowed := true, recurses := true, named := ["unicode/utf8.first", "unicode/utf8.acceptRanges", "martello/tables.odd", "martello/tables.great", "internal/bytealg.MaxLen"], apart := false, laid := [("unicode/utf8.acceptRanges", laid_unicode_utf8_acceptRanges), ("martello/tables.odd", laid_martello_tables_odd), ("martello/tables.great", laid_martello_tables_great), ("unicode/utf8.first", laid_unicode_utf8_first)], narrowed := true }
def SyntaxFlagsUptoSaid : Prop := syntaxFlagsUptoRow.holds Tryz.pinned (OpenSpec.upto syntaxFlagsSpec)

end Rows
end Go.Proofs.YthnddabcmhplkaaGreatDoor
