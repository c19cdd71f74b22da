/- Texts merged by program: RwTabs. No condition. -/
import Derived.Test.YthnddabcmhplkaaDoorK24
import Derived.Test.YthnddabcmhplkaaDoorRows
import Derived.Shelf.Vars
import Derived.Lay
import Derived.LaidMore
import Derived.ProofKit
import Derived.MakeChecks
import Derived.Lib.LaidU8
import Derived.PinnedBridge
import Derived.Lib.ItoaNum
import Derived.Lib.LaidTab
import Derived.Stop.Joined
import Derived.Deep.DeepHandedRow
set_option linter.unusedVariables false
/- From what PrinterWrites' row lists to the library's tables that are read. No condition. -/
namespace Go.Proofs.YthnddabcmhplkaaDoor
open Go Go.RowKit Go.Lib

def bruijn : List Int := [0, 1, 56, 2, 57, 49, 28, 3, 61, 58, 42, 50, 38, 29, 17, 4, 62, 47, 59, 36, 45, 43, 51, 22, 53, 39, 33, 30, 24, 18, 12, 5, 63, 55, 48, 27, 60, 41, 37, 16, 46, 35, 44, 21, 52, 32, 23, 11, 54, 26, 40, 15, 34, 20, 31, 10, 25, 14, 19, 9, 13, 8, 7, 6]
theorem bruijn_eq : (Rows.laid_math_bits_deBruijn64tab : DataW Unit) = tabData .u8 bruijn := by kernel_rfl
theorem pow_eq : (Rows.laid_internal_strconv_uint64pow10 : DataW Unit) = tabData .u64 Lib.pow10Tab := by kernel_rfl
def laidW : List (String × DataW Unit) := [("math/bits.deBruijn32tab", Rows.laid_math_bits_deBruijn32tab), ("math/bits.deBruijn64tab", Rows.laid_math_bits_deBruijn64tab), ("internal/strconv.uint64pow10", Rows.laid_internal_strconv_uint64pow10)]
theorem tabsW_of_laid {W : World} (h : laidMetH Tryd.prog laidW W) (hs : W.ShapedOpen Tryd.prog) : De64 W ∧ Pow9 W := by
  rw [MakeChecks.laidMetH_plain _ _ _ (by kernel_rfl)] at h
  constructor
  · have h1 : VarReads Tryd.prog W "math/bits.deBruijn64tab" (tabData .u8 bruijn) := bruijn_eq ▸ Lib.laidMet.reads h (.tail _ (.head _))
    have c1 : Tryd.prog.cellsOf 5 = 1 := by kernel_rfl
    obtain ⟨g, t, cs, fuel, p, hg, hty, hvar, hd⟩ := h1
    obtain rfl := Option.some.inj ((show Tryd.prog.globalNamed "math/bits.deBruijn64tab" = some 3 by kernel_rfl).symm.trans hg)
    obtain rfl := Option.some.inj ((show (Tryd.prog.globals[3]?).map (·.type) = some 97 by kernel_rfl).symm.trans hty)
    have hcs := cells_of_tab Tryd.underlying97 Tryd.underlying5 c1 (by kernel_rfl) hd
    have := World.var?_cell hg hvar 15
    unfold De64
    rw [this, ← Array.getElem?_toList, hcs]
    rfl
  · have h1 : VarReads Tryd.prog W "internal/strconv.uint64pow10" (tabData .u64 Lib.pow10Tab) := pow_eq ▸ Lib.laidMet.reads h (.tail _ (.tail _ (.head _)))
    have c1 : Tryd.prog.cellsOf 84 = 1 := by kernel_rfl
    obtain ⟨g, t, cs, fuel, p, hg, hty, hvar, hd⟩ := h1
    obtain rfl := Option.some.inj ((show Tryd.prog.globalNamed "internal/strconv.uint64pow10" = some 1 by kernel_rfl).symm.trans hg)
    obtain rfl := Option.some.inj ((show (Tryd.prog.globals[1]?).map (·.type) = some 90 by kernel_rfl).symm.trans hty)
    have hcs := cells_of_tab Tryd.underlying90 Tryd.underlying84 c1 (by kernel_rfl) hd
    show Lib.TabIs _ _ _ _ _
    unfold Lib.TabIs
    rw [hvar, ← hcs]
/-- An input that fits, at a world written out that is shaped. -/
theorem witness_row8 {H : Type} {enc : TypeId × Value → H} {C : Checked} {os : Os} {f : FuncId} {fn : Func} {s : OpenSpec} {conds : List PathCond} {apart : Bool} {laid : List (String × DataW Unit)} (modest : Bool) (w0 : World) (args : Array Value) (hos : w0.os = os)
    (hsh : (w0.forCall (fun _ _ => 0) ⟨#[], args, []⟩).Shaped C.prog) (hok : Input.okWideB C.prog (w0.forCall (fun _ _ => 0) ⟨#[], args, []⟩) f ⟨#[], args, []⟩ = true)
    (hrow : s.preRow enc C.prog fn conds apart laid (w0.forCall (fun _ _ => 0) ⟨#[], args, []⟩).memory args) :
    ∃ (w : World) (tape : Tape) (i : Input), w.os = os ∧ (w.forCall tape i).Shaped C.prog ∧ i.vars = [] ∧ Input.okWide C.prog (w.forCall tape i) .any w.heap.size f i ∧
      s.preRow enc C.prog fn conds apart laid (w.forCall tape i).memory i.args ∧ ({ modest := modest } : Assume).holds C.prog (lone (Frame.enter C.prog f i.args .normal) [] (w.forCall tape i)) :=
  ⟨w0, fun _ _ => 0, ⟨#[], args, []⟩, hos, hsh, (Input.okWide_of_okWideB (base := 0) hok).1, (Input.okWide_of_okWideB hok).2, hrow, by
    simp only [Assume.holds]
    exact ⟨by simp, by simp, fun _ => Modest.zero, by simp, by simp⟩⟩
end Go.Proofs.YthnddabcmhplkaaDoor
