/- Texts merged by program: TrSame. No condition. -/
import Derived.Test.YthffdmncdoogpaaK5
import Derived.Test.YthffdmncdoogpaaK3
import Derived.Deep.DeepCutAuto
import Derived.StillTailTactics
set_option linter.unusedVariables false
/- Are two trees the same: the document's Same. -/
namespace Go.Proofs.Ythffdmncdoogpaa
open Go Go.RowKit

theorem name_ext {a b : ByteArray} (h : a.toList = b.toList) : a = b := by
  rw [ByteArray.toList_eq, ByteArray.toList_eq] at h
  exact ByteArray.ext (Array.toList_inj.1 h)
theorem tr_ext {a b : Tr} (h0 : a.fld.set = b.fld.set) (h1 : a.fld.op = b.fld.op) (h2 : a.fld.rune = b.fld.rune) (h3 : a.fld.at' = b.fld.at') (h4 : a.fld.cap = b.fld.cap) (h5 : a.fld.name = b.fld.name) (h6 : a.fld.min = b.fld.min) (h7 : a.fld.max = b.fld.max) (h8 : a.fld.lazy = b.fld.lazy) (h9 : a.kids = b.kids) : a = b := by
  obtain ⟨⟨a0, a1, a2, a3, a4, a5, a6, a7, a8⟩, ak⟩ := a
  obtain ⟨⟨b0, b1, b2, b3, b4, b5, b6, b7, b8⟩, bk⟩ := b
  simp only [Tr.fld, Tr.kids] at *
  subst h0 h1 h2 h3 h4 h5 h6 h7 h8 h9
  rfl
end Go.Proofs.Ythffdmncdoogpaa
