/- Texts merged by program: BrTabs. No condition. -/
import Derived.Test.YtmaigjdmjmonbaaGreatDoorK41
import Derived.Test.YtmaigjdmjmonbaaGreatDoorK42
import Derived.Test.YtmaigjdmjmonbaaGreatDoorK34
import Derived.Test.YtmaigjdmjmonbaaGreatDoorK7
import Derived.Lib.ItoaNum
import Derived.Lib.LaidTab
set_option linter.unusedVariables false
/- From what the rows of stage 7 list to the library's tables that are read. No condition. -/
namespace Go.Proofs.YtmaigjdmjmonbaaGreatDoor
open Go Go.RowKit Go.Lib

def laidB : List (String × DataW Unit) := [("unicode/utf8.acceptRanges", Rows.laid_unicode_utf8_acceptRanges), ("martello/tables.odd", Rows.laid_martello_tables_odd), ("martello/tables.great", Rows.laid_martello_tables_great), ("unicode/utf8.first", Rows.laid_unicode_utf8_first)]
theorem tabsB_of_laid {W : World} (h : laidMetH Tryz.prog laidB W) : Tabs7 W := by
  rw [MakeChecks.laidMetH_plain _ _ _ (by kernel_rfl)] at h
  exact ⟨tabs_of_reads (accept_eq ▸ Lib.laidMet.reads h (.head _)) (Pinned.utf8First_eq ▸ Lib.laidMet.reads h (.tail _ (.tail _ (.tail _ (.head _))))), tabsT_of_reads (odd_eq ▸ Lib.laidMet.reads h (.tail _ (.head _))) (great_eq ▸ Lib.laidMet.reads h (.tail _ (.tail _ (.head _))))⟩
def laidU : List (String × DataW Unit) := [("math/bits.deBruijn32tab", Rows.laid_math_bits_deBruijn32tab), ("math/bits.deBruijn64tab", Rows.laid_math_bits_deBruijn64tab), ("internal/strconv.uint64pow10", Rows.laid_internal_strconv_uint64pow10), ("unicode/utf8.acceptRanges", Rows.laid_unicode_utf8_acceptRanges), ("martello/tables.odd", Rows.laid_martello_tables_odd), ("martello/tables.great", Rows.laid_martello_tables_great), ("unicode/utf8.first", Rows.laid_unicode_utf8_first)]
def bruijn : List Int := [0, 1, 56, 2, 57, 49, 28, 3, 61, 58, 42, 50, 38, 29, 17, 4, 62, 47, 59, 36, 45, 43, 51, 22, 53, 39, 33, 30, 24, 18, 12, 5, 63, 55, 48, 27, 60, 41, 37, 16, 46, 35, 44, 21, 52, 32, 23, 11, 54, 26, 40, 15, 34, 20, 31, 10, 25, 14, 19, 9, 13, 8, 7, 6]
theorem bruijn_eq : (Rows.laid_math_bits_deBruijn64tab : DataW Unit) = tabData .u8 bruijn := by kernel_rfl
theorem tabsU_of_laid {W : World} (h : laidMetH Tryz.prog laidU W) : Tabs7 W ∧ De64 W := by
  rw [MakeChecks.laidMetH_plain _ _ _ (by kernel_rfl)] at h
  refine ⟨⟨tabs_of_reads (accept_eq ▸ Lib.laidMet.reads h (.tail _ (.tail _ (.tail _ (.head _))))) (Pinned.utf8First_eq ▸ Lib.laidMet.reads h (.tail _ (.tail _ (.tail _ (.tail _ (.tail _ (.tail _ (.head _)))))))), tabsT_of_reads (odd_eq ▸ Lib.laidMet.reads h (.tail _ (.tail _ (.tail _ (.tail _ (.head _)))))) (great_eq ▸ Lib.laidMet.reads h (.tail _ (.tail _ (.tail _ (.tail _ (.tail _ (.head _)))))))⟩, ?_⟩
  have h1 : VarReads Tryz.prog W "math/bits.deBruijn64tab" (tabData .u8 bruijn) := bruijn_eq ▸ Lib.laidMet.reads h (.tail _ (.head _))
  have c1 : Tryz.prog.cellsOf 5 = 1 := by kernel_rfl
  obtain ⟨g, t, cs, fuel, p, hg, hty, hvar, hd⟩ := h1
  obtain rfl := Option.some.inj ((show Tryz.prog.globalNamed "math/bits.deBruijn64tab" = some 6 by kernel_rfl).symm.trans hg)
  obtain rfl := Option.some.inj ((show (Tryz.prog.globals[6]?).map (·.type) = some 181 by kernel_rfl).symm.trans hty)
  have hcs := cells_of_tab Tryz.underlying181 Tryz.underlying5 c1 (by kernel_rfl) hd
  have := World.var?_cell hg hvar 15
  unfold De64
  rw [this, ← Array.getElem?_toList, hcs]
  rfl
end Go.Proofs.YtmaigjdmjmonbaaGreatDoor
