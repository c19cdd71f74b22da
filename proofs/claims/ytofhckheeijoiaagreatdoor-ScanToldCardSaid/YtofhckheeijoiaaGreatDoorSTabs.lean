/- From what ScanTold's row lists to the library's tables that it reads. No condition. -/
import Derived.Test.YtofhckheeijoiaaGreatDoorTabs
import Derived.Lib.ItoaNum
import Derived.Lib.LaidTab
set_option linter.unusedVariables false
namespace Go.Proofs.YtofhckheeijoiaaGreatDoor
open Go Go.RowKit Go.Lib

def laid5 : List (String × DataW Unit) := [("math/bits.deBruijn32tab", Rows.laid_math_bits_deBruijn32tab), ("math/bits.deBruijn64tab", Rows.laid_math_bits_deBruijn64tab), ("internal/strconv.uint64pow10", Rows.laid_internal_strconv_uint64pow10), ("unicode/utf8.acceptRanges", Rows.laid_unicode_utf8_acceptRanges), ("unicode/utf8.first", Rows.laid_unicode_utf8_first)]
theorem pow_eq : (Rows.laid_internal_strconv_uint64pow10 : DataW Unit) = tabData .u64 Lib.pow10Tab := by kernel_rfl
theorem tabs5_of_laid {W : World} (h : laidMetH Tryz.prog laid5 W) : Lib.Utf8Tabs 1 2 W ∧ Lib.TabIs Tryz.prog W "internal/strconv.uint64pow10" .u64 Lib.pow10Tab := by
  rw [MakeChecks.laidMetH_plain _ _ _ (by kernel_rfl)] at h
  refine ⟨tabs_of_reads (accept_eq ▸ Lib.laidMet.reads h (.tail _ (.tail _ (.tail _ (.head _))))) (Pinned.utf8First_eq ▸ Lib.laidMet.reads h (.tail _ (.tail _ (.tail _ (.tail _ (.head _)))))), ?_⟩
  have h1 : VarReads Tryz.prog W "internal/strconv.uint64pow10" (tabData .u64 Lib.pow10Tab) := pow_eq ▸ Lib.laidMet.reads h (.tail _ (.tail _ (.head _)))
  have c1 : Tryz.prog.cellsOf 82 = 1 := by kernel_rfl
  obtain ⟨g, t, cs, fuel, p, hg, hty, hvar, hd⟩ := h1
  obtain rfl := Option.some.inj ((show Tryz.prog.globalNamed "internal/strconv.uint64pow10" = some 0 by kernel_rfl).symm.trans hg)
  obtain rfl := Option.some.inj ((show (Tryz.prog.globals[0]?).map (·.type) = some 102 by kernel_rfl).symm.trans hty)
  have hcs := cells_of_tab Tryz.underlying102 Tryz.underlying82 c1 (by kernel_rfl) hd
  unfold Lib.TabIs
  rw [hvar, ← hcs]
end Go.Proofs.YtofhckheeijoiaaGreatDoor
