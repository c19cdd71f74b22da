/-
  NARROWER THAN 'FOR EVERY INPUT', by the rows' own cells (each row's printed sentence says how): SyntaxQuotes: laid · SyntaxRight: laid · SyntaxTexts: laid · SyntaxFlags: laid · SyntaxRuns: laid · SyntaxDots: laid.
  DERIVED. THE GIVEN ROWS OF THIS SEAT. 6 by the template 'for every input the law returns true; each argument reads behind the call as it read before'; 0 by the template 'total and deterministic' (their statements: YtbclhkogjmmgnaaGreatDoorTotals.lean).
  GIVEN WITH THE SEED: the statements are not yours to turn. If you find one false, say at which input.
  Laid BY PROGRAM, IN A SANDBOX (cutbox-rows.mjs): the forced cells as the released guide's own fill.sh prints them over the translation f33ba42a43c39622… (all of the seat's roots in one cut). By AI agents, Wed Nov 11 2026. No macro, syntax, notation, axiom, sorry.
-/
import Derived.Test.YtbclhkogjmmgnaaGreatDoorChecked
import GoSem.PinnedTables
import GoSem.Claim
import GoSem.ClaimJoined
import GoSem.ClaimMapViews
import Derived.JoinedTies
import Derived.KernelRfl
namespace Go.Proofs.YtbclhkogjmmgnaaGreatDoor
/- THE CELL 'sum', in the pinned program and in every row, IS THE sha256 OF THE DUMP (.gsa) THAT YtbclhkogjmmgnaaGreatDoorProg.lean LOADS. Nothing in Lean hashes anything: it is a label: what it is worth is what the hold of that sum in a sandbox is worth. -/
noncomputable def Tryz.pinned : Pinned := { name := "ytbclhkogjmmgnaagreatdoor", sum := "f33ba42a43c396227203ce28e8789dc8b034c88a4bfebe761be3e976dccba7e0", checked := Tryz.checked }
namespace Rows
def none {H : Type} : Left H := { results := [], args := [] }

/- WHAT THE LISTED PACKAGE-LEVEL VARIABLES READ AS WHEN THE CALL BEGINS. Each datum BY PROGRAM (the guide's laid-datum.mjs) off the statement by which the dump's own 'gosem.cut.vars' lays the variable. In a bare row this is a premise. The card (YtbclhkogjmmgnaaGreatDoorCards.lean) ties it to the program's text. -/
def laid_unicode_utf8_acceptRanges {H : Type} : DataW H := .agg [.agg [.lit (.int .u8 128), .lit (.int .u8 191)], .agg [.lit (.int .u8 160), .lit (.int .u8 191)], .agg [.lit (.int .u8 128), .lit (.int .u8 159)], .agg [.lit (.int .u8 144), .lit (.int .u8 191)], .agg [.lit (.int .u8 128), .lit (.int .u8 143)], .agg [.lit (.int .u8 0), .lit (.int .u8 0)], .agg [.lit (.int .u8 0), .lit (.int .u8 0)], .agg [.lit (.int .u8 0), .lit (.int .u8 0)], .agg [.lit (.int .u8 0), .lit (.int .u8 0)], .agg [.lit (.int .u8 0), .lit (.int .u8 0)], .agg [.lit (.int .u8 0), .lit (.int .u8 0)], .agg [.lit (.int .u8 0), .lit (.int .u8 0)], .agg [.lit (.int .u8 0), .lit (.int .u8 0)], .agg [.lit (.int .u8 0), .lit (.int .u8 0)], .agg [.lit (.int .u8 0), .lit (.int .u8 0)], .agg [.lit (.int .u8 0), .lit (.int .u8 0)]]
def laid_martello_tables_odd {H : Type} : DataW H := .agg [.agg [.lit (.int .i64 3), .agg [.lit (.int .i32 75), .lit (.int .i32 107), .lit (.int .i32 8490)]], .agg [.lit (.int .i64 3), .agg [.lit (.int .i32 83), .lit (.int .i32 115), .lit (.int .i32 383)]], .agg [.lit (.int .i64 3), .agg [.lit (.int .i32 197), .lit (.int .i32 229), .lit (.int .i32 8491)]], .agg [.lit (.int .i64 3), .agg [.lit (.int .i32 181), .lit (.int .i32 924), .lit (.int .i32 956)]], .agg [.lit (.int .i64 3), .agg [.lit (.int .i32 931), .lit (.int .i32 962), .lit (.int .i32 963)]], .agg [.lit (.int .i64 2), .agg [.lit (.int .i32 223), .lit (.int .i32 7838), .lit (.int .i32 0)]], .agg [.lit (.int .i64 2), .agg [.lit (.int .i32 255), .lit (.int .i32 376), .lit (.int .i32 0)]]]
def laid_martello_tables_great {H : Type} : DataW H := .agg [.agg [.lit (.int .i32 65), .lit (.int .i32 90)], .agg [.lit (.int .i32 192), .lit (.int .i32 214)], .agg [.lit (.int .i32 216), .lit (.int .i32 222)], .agg [.lit (.int .i32 913), .lit (.int .i32 929)], .agg [.lit (.int .i32 932), .lit (.int .i32 937)], .agg [.lit (.int .i32 1040), .lit (.int .i32 1071)]]
/-- One of Go's own tables, pinned by name: the form's constant. -/
def laid_unicode_utf8_first : DataW Unit := Go.Pinned.utf8First
def laid_math_bits_deBruijn32tab {H : Type} : DataW H := .agg [.lit (.int .u8 0), .lit (.int .u8 1), .lit (.int .u8 28), .lit (.int .u8 2), .lit (.int .u8 29), .lit (.int .u8 14), .lit (.int .u8 24), .lit (.int .u8 3), .lit (.int .u8 30), .lit (.int .u8 22), .lit (.int .u8 20), .lit (.int .u8 15), .lit (.int .u8 25), .lit (.int .u8 17), .lit (.int .u8 4), .lit (.int .u8 8), .lit (.int .u8 31), .lit (.int .u8 27), .lit (.int .u8 13), .lit (.int .u8 23), .lit (.int .u8 21), .lit (.int .u8 19), .lit (.int .u8 16), .lit (.int .u8 7), .lit (.int .u8 26), .lit (.int .u8 12), .lit (.int .u8 18), .lit (.int .u8 6), .lit (.int .u8 11), .lit (.int .u8 5), .lit (.int .u8 10), .lit (.int .u8 9)]
def laid_math_bits_deBruijn64tab {H : Type} : DataW H := .agg [.lit (.int .u8 0), .lit (.int .u8 1), .lit (.int .u8 56), .lit (.int .u8 2), .lit (.int .u8 57), .lit (.int .u8 49), .lit (.int .u8 28), .lit (.int .u8 3), .lit (.int .u8 61), .lit (.int .u8 58), .lit (.int .u8 42), .lit (.int .u8 50), .lit (.int .u8 38), .lit (.int .u8 29), .lit (.int .u8 17), .lit (.int .u8 4), .lit (.int .u8 62), .lit (.int .u8 47), .lit (.int .u8 59), .lit (.int .u8 36), .lit (.int .u8 45), .lit (.int .u8 43), .lit (.int .u8 51), .lit (.int .u8 22), .lit (.int .u8 53), .lit (.int .u8 39), .lit (.int .u8 33), .lit (.int .u8 30), .lit (.int .u8 24), .lit (.int .u8 18), .lit (.int .u8 12), .lit (.int .u8 5), .lit (.int .u8 63), .lit (.int .u8 55), .lit (.int .u8 48), .lit (.int .u8 27), .lit (.int .u8 60), .lit (.int .u8 41), .lit (.int .u8 37), .lit (.int .u8 16), .lit (.int .u8 46), .lit (.int .u8 35), .lit (.int .u8 44), .lit (.int .u8 21), .lit (.int .u8 52), .lit (.int .u8 32), .lit (.int .u8 23), .lit (.int .u8 11), .lit (.int .u8 54), .lit (.int .u8 26), .lit (.int .u8 40), .lit (.int .u8 15), .lit (.int .u8 34), .lit (.int .u8 20), .lit (.int .u8 31), .lit (.int .u8 10), .lit (.int .u8 25), .lit (.int .u8 14), .lit (.int .u8 19), .lit (.int .u8 9), .lit (.int .u8 13), .lit (.int .u8 8), .lit (.int .u8 7), .lit (.int .u8 6)]
def laid_internal_strconv_uint64pow10 {H : Type} : DataW H := .agg [.lit (.int .u64 1), .lit (.int .u64 10), .lit (.int .u64 100), .lit (.int .u64 1000), .lit (.int .u64 10000), .lit (.int .u64 100000), .lit (.int .u64 1000000), .lit (.int .u64 10000000), .lit (.int .u64 100000000), .lit (.int .u64 1000000000), .lit (.int .u64 10000000000), .lit (.int .u64 100000000000), .lit (.int .u64 1000000000000), .lit (.int .u64 10000000000000), .lit (.int .u64 100000000000000), .lit (.int .u64 1000000000000000), .lit (.int .u64 10000000000000000), .lit (.int .u64 100000000000000000), .lit (.int .u64 1000000000000000000), .lit (.int .u64 10000000000000000000)]

/-- 'martellolaw08.SyntaxQuotes': WHATEVER THE INPUT: true; the input reads as it did. -/
def syntaxQuotesSpec : ChangeSpec := { name := "syntaxQuotes", fn := fun _ => fun
  | [d] => { results := [.lit (.bool true)], args := [d] }
  | _ => none }
def syntaxQuotesRow : OpenClaim := { program := "ytbclhkogjmmgnaagreatdoor", sum := "f33ba42a43c396227203ce28e8789dc8b034c88a4bfebe761be3e976dccba7e0", func := "martello/martellolaw08.SyntaxQuotes", spec := "syntaxQuotes", inPlace := ["internal/bytealg.IndexByteString", "internal/bytealg.IndexString", "internal/abi.NoEscape"], unfollowed := true, recurses := true, named := ["unicode/utf8.first", "unicode/utf8.acceptRanges", "martello/tables.odd", "martello/tables.great", "internal/bytealg.MaxLen"], apart := false, laid := [("unicode/utf8.acceptRanges", laid_unicode_utf8_acceptRanges), ("martello/tables.odd", laid_martello_tables_odd), ("martello/tables.great", laid_martello_tables_great), ("unicode/utf8.first", laid_unicode_utf8_first)] }
def SyntaxQuotesSaid : Prop := syntaxQuotesRow.holds Tryz.pinned (OpenSpec.ofChange syntaxQuotesSpec)

/-- ITS FALSE NEIGHBOUR: 'it returns false'. Refute it at one input. -/
def syntaxQuotesWrong : ChangeSpec := { name := "syntaxQuotes", fn := fun _ => fun
  | [d] => { results := [.lit (.bool false)], args := [d] }
  | _ => none }
def SyntaxQuotesWrongFalsely : Prop := syntaxQuotesRow.holds Tryz.pinned (OpenSpec.ofChange syntaxQuotesWrong)

/-- 'martellolaw08.SyntaxRight': WHATEVER THE INPUT: true; the input reads as it did. -/
def syntaxRightSpec : ChangeSpec := { name := "syntaxRight", fn := fun _ => fun
  | [d1, d2] => { results := [.lit (.bool true)], args := [d1, d2] }
  | _ => none }
def syntaxRightRow : OpenClaim := { program := "ytbclhkogjmmgnaagreatdoor", sum := "f33ba42a43c396227203ce28e8789dc8b034c88a4bfebe761be3e976dccba7e0", func := "martello/martellolaw08.SyntaxRight", spec := "syntaxRight", inPlace := ["internal/bytealg.IndexByteString", "internal/bytealg.IndexString"], unfollowed := true, recurses := true, named := ["unicode/utf8.first", "unicode/utf8.acceptRanges", "martello/tables.odd", "martello/tables.great", "internal/bytealg.MaxLen"], apart := false, laid := [("unicode/utf8.acceptRanges", laid_unicode_utf8_acceptRanges), ("martello/tables.odd", laid_martello_tables_odd), ("martello/tables.great", laid_martello_tables_great), ("unicode/utf8.first", laid_unicode_utf8_first)] }
def SyntaxRightSaid : Prop := syntaxRightRow.holds Tryz.pinned (OpenSpec.ofChange syntaxRightSpec)

/-- ITS FALSE NEIGHBOUR: 'it returns false'. Refute it at one input. -/
def syntaxRightWrong : ChangeSpec := { name := "syntaxRight", fn := fun _ => fun
  | [d1, d2] => { results := [.lit (.bool false)], args := [d1, d2] }
  | _ => none }
def SyntaxRightWrongFalsely : Prop := syntaxRightRow.holds Tryz.pinned (OpenSpec.ofChange syntaxRightWrong)

/-- 'martellolaw08.SyntaxTexts': WHATEVER THE INPUT: true; the input reads as it did. -/
def syntaxTextsSpec : ChangeSpec := { name := "syntaxTexts", fn := fun _ => fun
  | [d1, d2, d3] => { results := [.lit (.bool true)], args := [d1, d2, d3] }
  | _ => none }
def syntaxTextsRow : OpenClaim := { program := "ytbclhkogjmmgnaagreatdoor", sum := "f33ba42a43c396227203ce28e8789dc8b034c88a4bfebe761be3e976dccba7e0", func := "martello/martellolaw08.SyntaxTexts", spec := "syntaxTexts", inPlace := ["internal/bytealg.IndexByteString", "internal/bytealg.IndexString", "internal/abi.NoEscape"], unfollowed := true, recurses := true, named := ["unicode/utf8.first", "unicode/utf8.acceptRanges", "martello/tables.odd", "martello/tables.great", "internal/bytealg.MaxLen"], apart := false, laid := [("unicode/utf8.acceptRanges", laid_unicode_utf8_acceptRanges), ("martello/tables.odd", laid_martello_tables_odd), ("martello/tables.great", laid_martello_tables_great), ("unicode/utf8.first", laid_unicode_utf8_first)] }
def SyntaxTextsSaid : Prop := syntaxTextsRow.holds Tryz.pinned (OpenSpec.ofChange syntaxTextsSpec)

/-- ITS FALSE NEIGHBOUR: 'it returns false'. Refute it at one input. -/
def syntaxTextsWrong : ChangeSpec := { name := "syntaxTexts", fn := fun _ => fun
  | [d1, d2, d3] => { results := [.lit (.bool false)], args := [d1, d2, d3] }
  | _ => none }
def SyntaxTextsWrongFalsely : Prop := syntaxTextsRow.holds Tryz.pinned (OpenSpec.ofChange syntaxTextsWrong)

/-- 'martellolaw08.SyntaxFlags': WHATEVER THE INPUT: true; the input reads as it did. -/
def syntaxFlagsSpec : ChangeSpec := { name := "syntaxFlags", fn := fun _ => fun
  | [d1, d2] => { results := [.lit (.bool true)], args := [d1, d2] }
  | _ => none }
def syntaxFlagsRow : OpenClaim := { program := "ytbclhkogjmmgnaagreatdoor", sum := "f33ba42a43c396227203ce28e8789dc8b034c88a4bfebe761be3e976dccba7e0", func := "martello/martellolaw08.SyntaxFlags", spec := "syntaxFlags", inPlace := ["internal/bytealg.IndexByteString", "internal/bytealg.IndexString"], unfollowed := true, recurses := true, named := ["unicode/utf8.first", "unicode/utf8.acceptRanges", "martello/tables.odd", "martello/tables.great", "internal/bytealg.MaxLen"], apart := false, laid := [("unicode/utf8.acceptRanges", laid_unicode_utf8_acceptRanges), ("martello/tables.odd", laid_martello_tables_odd), ("martello/tables.great", laid_martello_tables_great), ("unicode/utf8.first", laid_unicode_utf8_first)] }
def SyntaxFlagsSaid : Prop := syntaxFlagsRow.holds Tryz.pinned (OpenSpec.ofChange syntaxFlagsSpec)

/-- ITS FALSE NEIGHBOUR: 'it returns false'. Refute it at one input. -/
def syntaxFlagsWrong : ChangeSpec := { name := "syntaxFlags", fn := fun _ => fun
  | [d1, d2] => { results := [.lit (.bool false)], args := [d1, d2] }
  | _ => none }
def SyntaxFlagsWrongFalsely : Prop := syntaxFlagsRow.holds Tryz.pinned (OpenSpec.ofChange syntaxFlagsWrong)

/-- 'martellolaw08.SyntaxRuns': WHATEVER THE INPUT: true; the input reads as it did. -/
def syntaxRunsSpec : ChangeSpec := { name := "syntaxRuns", fn := fun _ => fun
  | [d1, d2, d3, d4] => { results := [.lit (.bool true)], args := [d1, d2, d3, d4] }
  | _ => none }
def syntaxRunsRow : OpenClaim := { program := "ytbclhkogjmmgnaagreatdoor", sum := "f33ba42a43c396227203ce28e8789dc8b034c88a4bfebe761be3e976dccba7e0", func := "martello/martellolaw08.SyntaxRuns", spec := "syntaxRuns", inPlace := ["internal/bytealg.IndexByteString", "internal/bytealg.IndexString"], unfollowed := true, recurses := true, named := ["unicode/utf8.first", "unicode/utf8.acceptRanges", "martello/tables.odd", "martello/tables.great", "internal/bytealg.MaxLen", "internal/strconv.uint64pow10", "math/bits.deBruijn32tab", "math/bits.deBruijn64tab"], apart := false, laid := [("math/bits.deBruijn32tab", laid_math_bits_deBruijn32tab), ("math/bits.deBruijn64tab", laid_math_bits_deBruijn64tab), ("internal/strconv.uint64pow10", laid_internal_strconv_uint64pow10), ("unicode/utf8.acceptRanges", laid_unicode_utf8_acceptRanges), ("martello/tables.odd", laid_martello_tables_odd), ("martello/tables.great", laid_martello_tables_great), ("unicode/utf8.first", laid_unicode_utf8_first)] }
def SyntaxRunsSaid : Prop := syntaxRunsRow.holds Tryz.pinned (OpenSpec.ofChange syntaxRunsSpec)

/-- ITS FALSE NEIGHBOUR: 'it returns false'. Refute it at one input. -/
def syntaxRunsWrong : ChangeSpec := { name := "syntaxRuns", fn := fun _ => fun
  | [d1, d2, d3, d4] => { results := [.lit (.bool false)], args := [d1, d2, d3, d4] }
  | _ => none }
def SyntaxRunsWrongFalsely : Prop := syntaxRunsRow.holds Tryz.pinned (OpenSpec.ofChange syntaxRunsWrong)

/-- 'martellolaw08.SyntaxDots': WHATEVER THE INPUT: true; the input reads as it did. -/
def syntaxDotsSpec : ChangeSpec := { name := "syntaxDots", fn := fun _ => fun
  | [d] => { results := [.lit (.bool true)], args := [d] }
  | _ => none }
def syntaxDotsRow : OpenClaim := { program := "ytbclhkogjmmgnaagreatdoor", sum := "f33ba42a43c396227203ce28e8789dc8b034c88a4bfebe761be3e976dccba7e0", func := "martello/martellolaw08.SyntaxDots", spec := "syntaxDots", inPlace := ["internal/bytealg.IndexByteString", "internal/bytealg.IndexString"], unfollowed := true, recurses := true, named := ["unicode/utf8.first", "unicode/utf8.acceptRanges", "martello/tables.odd", "martello/tables.great", "internal/bytealg.MaxLen"], apart := false, laid := [("unicode/utf8.acceptRanges", laid_unicode_utf8_acceptRanges), ("martello/tables.odd", laid_martello_tables_odd), ("martello/tables.great", laid_martello_tables_great), ("unicode/utf8.first", laid_unicode_utf8_first)] }
def SyntaxDotsSaid : Prop := syntaxDotsRow.holds Tryz.pinned (OpenSpec.ofChange syntaxDotsSpec)

/-- ITS FALSE NEIGHBOUR: 'it returns false'. Refute it at one input. -/
def syntaxDotsWrong : ChangeSpec := { name := "syntaxDots", fn := fun _ => fun
  | [d] => { results := [.lit (.bool false)], args := [d] }
  | _ => none }
def SyntaxDotsWrongFalsely : Prop := syntaxDotsRow.holds Tryz.pinned (OpenSpec.ofChange syntaxDotsWrong)

/- THE SECOND FORM. 'bulk': how many values and letters a reading holds, each counted each time it is reached (what is shared counts as often as it is met; a slice's spare places count too). A statement '..UptoSaid' is the law's where the arguments, and the package variables that the reading takes, are together of bulk at most 1048576: NARROWER than '..Said'. Prove '..Said' where nothing that the law and all that it calls make is longer than what came in: it says more and counts as full. Else prove '..UptoSaid'. A law counts once. -/
mutual
def uptoBulk {H : Type} : DataW H → Nat
  | .lit (.string bytes) => bytes.length + 1
  | .lit _ => 1
  | .nil => 1
  | .ptr d => uptoBulk d + 1
  | .slice elems spare => uptoBulkAll elems + uptoBulkAll spare + 1
  | .agg parts => uptoBulkAll parts + 1
  | .iface _ d => uptoBulk d + 1
  | .map entries => uptoBulkEntries entries + 1
  | .held _ => 1
def uptoBulkAll {H : Type} : List (DataW H) → Nat
  | [] => 0
  | d :: r => uptoBulk d + uptoBulkAll r
def uptoBulkEntries {H : Type} : List (Lit × DataW H) → Nat
  | [] => 0
  | x :: r => uptoBulkEntry x + uptoBulkEntries r
def uptoBulkEntry {H : Type} : Lit × DataW H → Nat
  | (.string bytes, d) => bytes.length + uptoBulk d + 1
  | (_, d) => uptoBulk d + 1
 end
def uptoSmall : (H : Type) → List (DataW H) → Bool := fun _ ds => decide (uptoBulkAll ds ≤ 1048576)
def OpenSpec.upto (s : _root_.Go.ChangeSpec) : _root_.Go.OpenSpec := { _root_.Go.OpenSpec.ofChange s with cond := some uptoSmall }

/-- 'martellolaw08.SyntaxQuotes', WHERE WHAT IT READS IS OF BULK AT MOST 1048576: true; the input reads as it did. -/
def syntaxQuotesUptoRow : OpenClaim := { program := "ytbclhkogjmmgnaagreatdoor", sum := "f33ba42a43c396227203ce28e8789dc8b034c88a4bfebe761be3e976dccba7e0", func := "martello/martellolaw08.SyntaxQuotes", spec := "syntaxQuotes", inPlace := ["internal/bytealg.IndexByteString", "internal/bytealg.IndexString", "internal/abi.NoEscape"], unfollowed := true, recurses := true, named := ["unicode/utf8.first", "unicode/utf8.acceptRanges", "martello/tables.odd", "martello/tables.great", "internal/bytealg.MaxLen"], apart := false, laid := [("unicode/utf8.acceptRanges", laid_unicode_utf8_acceptRanges), ("martello/tables.odd", laid_martello_tables_odd), ("martello/tables.great", laid_martello_tables_great), ("unicode/utf8.first", laid_unicode_utf8_first)], narrowed := true }
def SyntaxQuotesUptoSaid : Prop := syntaxQuotesUptoRow.holds Tryz.pinned (OpenSpec.upto syntaxQuotesSpec)

/-- 'martellolaw08.SyntaxRight', WHERE WHAT IT READS IS OF BULK AT MOST 1048576: true; the input reads as it did. -/
def syntaxRightUptoRow : OpenClaim := { program := "ytbclhkogjmmgnaagreatdoor", sum := "f33ba42a43c396227203ce28e8789dc8b034c88a4bfebe761be3e976dccba7e0", func := "martello/martellolaw08.SyntaxRight", spec := "syntaxRight", inPlace := ["internal/bytealg.IndexByteString", "internal/bytealg.IndexString"], unfollowed := true, recurses := true, named := ["unicode/utf8.first", "unicode/utf8.acceptRanges", "martello/tables.odd", "martello/tables.great", "internal/bytealg.MaxLen"], apart := false, laid := [("unicode/utf8.acceptRanges", laid_unicode_utf8_acceptRanges), ("martello/tables.odd", laid_martello_tables_odd), ("martello/tables.great", laid_martello_tables_great), ("unicode/utf8.first", laid_unicode_utf8_first)], narrowed := true }
def SyntaxRightUptoSaid : Prop := syntaxRightUptoRow.holds Tryz.pinned (OpenSpec.upto syntaxRightSpec)

/-- 'martellolaw08.SyntaxTexts', WHERE WHAT IT READS IS OF BULK AT MOST 1048576: true; the input reads as it did. -/
def syntaxTextsUptoRow : OpenClaim := { program := "ytbclhkogjmmgnaagreatdoor", sum := "f33ba42a43c396227203ce28e8789dc8b034c88a4bfebe761be3e976dccba7e0", func := "martello/martellolaw08.SyntaxTexts", spec := "syntaxTexts", inPlace := ["internal/bytealg.IndexByteString", "internal/bytealg.IndexString", "internal/abi.NoEscape"], unfollowed := true, recurses := true, named := ["unicode/utf8.first", "unicode/utf8.acceptRanges", "martello/tables.odd", "martello/tables.great", "internal/bytealg.MaxLen"], apart := false, laid := [("unicode/utf8.acceptRanges", laid_unicode_utf8_acceptRanges), ("martello/tables.odd", laid_martello_tables_odd), ("martello/tables.great", laid_martello_tables_great), ("unicode/utf8.first", laid_unicode_utf8_first)], narrowed := true }
def SyntaxTextsUptoSaid : Prop := syntaxTextsUptoRow.holds Tryz.pinned (OpenSpec.upto syntaxTextsSpec)

/-- 'martellolaw08.SyntaxFlags', WHERE WHAT IT READS IS OF BULK AT MOST 1048576: true; the input reads as it did. -/
def syntaxFlagsUptoRow : OpenClaim := { program := "ytbclhkogjmmgnaagreatdoor", sum := "f33ba42a43c396227203ce28e8789dc8b034c88a4bfebe761be3e976dccba7e0", func := "martello/martellolaw08.SyntaxFlags", spec := "syntaxFlags", inPlace := ["internal/bytealg.IndexByteString", "internal/bytealg.IndexString"], unfollowed := true, recurses := true, named := ["unicode/utf8.first", "unicode/utf8.acceptRanges", "martello/tables.odd", "martello/tables.great", "internal/bytealg.MaxLen"], apart := false, laid := [("unicode/utf8.acceptRanges", laid_unicode_utf8_acceptRanges), ("martello/tables.odd", laid_martello_tables_odd), ("martello/tables.great", laid_martello_tables_great), ("unicode/utf8.first", laid_unicode_utf8_first)], narrowed := true }
def SyntaxFlagsUptoSaid : Prop := syntaxFlagsUptoRow.holds Tryz.pinned (OpenSpec.upto syntaxFlagsSpec)

/-- 'martellolaw08.SyntaxRuns', WHERE WHAT IT READS IS OF BULK AT MOST 1048576: true; the input reads as it did. -/
def syntaxRunsUptoRow : OpenClaim := { program := "ytbclhkogjmmgnaagreatdoor", sum := "f33ba42a43c396227203ce28e8789dc8b034c88a4bfebe761be3e976dccba7e0", func := "martello/martellolaw08.SyntaxRuns", spec := "syntaxRuns", inPlace := ["internal/bytealg.IndexByteString", "internal/bytealg.IndexString"], unfollowed := true, recurses := true, named := ["unicode/utf8.first", "unicode/utf8.acceptRanges", "martello/tables.odd", "martello/tables.great", "internal/bytealg.MaxLen", "internal/strconv.uint64pow10", "math/bits.deBruijn32tab", "math/bits.deBruijn64tab"], apart := false, laid := [("math/bits.deBruijn32tab", laid_math_bits_deBruijn32tab), ("math/bits.deBruijn64tab", laid_math_bits_deBruijn64tab), ("internal/strconv.uint64pow10", laid_internal_strconv_uint64pow10), ("unicode/utf8.acceptRanges", laid_unicode_utf8_acceptRanges), ("martello/tables.odd", laid_martello_tables_odd), ("martello/tables.great", laid_martello_tables_great), ("unicode/utf8.first", laid_unicode_utf8_first)], narrowed := true }
def SyntaxRunsUptoSaid : Prop := syntaxRunsUptoRow.holds Tryz.pinned (OpenSpec.upto syntaxRunsSpec)

/-- 'martellolaw08.SyntaxDots', WHERE WHAT IT READS IS OF BULK AT MOST 1048576: true; the input reads as it did. -/
def syntaxDotsUptoRow : OpenClaim := { program := "ytbclhkogjmmgnaagreatdoor", sum := "f33ba42a43c396227203ce28e8789dc8b034c88a4bfebe761be3e976dccba7e0", func := "martello/martellolaw08.SyntaxDots", spec := "syntaxDots", inPlace := ["internal/bytealg.IndexByteString", "internal/bytealg.IndexString"], unfollowed := true, recurses := true, named := ["unicode/utf8.first", "unicode/utf8.acceptRanges", "martello/tables.odd", "martello/tables.great", "internal/bytealg.MaxLen"], apart := false, laid := [("unicode/utf8.acceptRanges", laid_unicode_utf8_acceptRanges), ("martello/tables.odd", laid_martello_tables_odd), ("martello/tables.great", laid_martello_tables_great), ("unicode/utf8.first", laid_unicode_utf8_first)], narrowed := true }
def SyntaxDotsUptoSaid : Prop := syntaxDotsUptoRow.holds Tryz.pinned (OpenSpec.upto syntaxDotsSpec)

end Rows
end Go.Proofs.YtbclhkogjmmgnaaGreatDoor
