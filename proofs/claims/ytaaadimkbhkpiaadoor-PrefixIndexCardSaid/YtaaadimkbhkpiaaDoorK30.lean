/- Texts merged by program: DecAt. No condition. -/
import Derived.WalkKit
import Derived.Lib.Strings
import Derived.Shelf.Unicode.DecodeAny
set_option linter.unusedVariables false
/- What the library decodes at a place of a text is what the model's own decoding gives there; and it does not reach behind the text. -/
namespace Go.Proofs.YtaaadimkbhkpiaaDoor
open Go Go.RowKit

theorem decode_width (s : ByteArray) (i : Nat) (h : i < s.size) : i + (Utf8.decode s i).2 ≤ s.size := by
  rw [Lib.decode_at]
  unfold Lib.decodeN
  repeat' split
  all_goals first | (simp only; omega) | omega

theorem decode_some (s : ByteArray) (i : Nat) (h : i < s.size) : 0 < (Utf8.decode s i).2 := by
  rw [Lib.decode_at]
  unfold Lib.decodeN
  repeat' split
  all_goals first | (simp only; omega) | omega
theorem get_extract (s : ByteArray) (i j : Nat) : (s.extract i s.size).get! j = s.get! (i + j) := by
  have e1 : ∀ (t : ByteArray) (k : Nat), t.get! k = t.data.toList[k]?.getD default := by
    intro t k
    show t.data[k]! = _
    rw [Array.getElem!_eq_getD, Array.getD_eq_getD_getElem?, Array.getElem?_toList]
  rw [e1, e1, Lib.extract_data]
  congr 1
  rw [List.getElem?_take, List.getElem?_drop]
  split
  · rfl
  · rw [List.getElem?_eq_none]
    have : s.data.toList.length = s.size := by simp
    omega

theorem decodeGo_extract (s : ByteArray) (i : Nat) (h : i < s.size) : Lib.decodeGo (s.extract i s.size) = Utf8.decode s i := by
  have hs : (s.extract i s.size).size = s.size - i := by simp
  unfold Lib.decodeGo
  rw [if_neg (by omega), Lib.decode_at, Lib.decode_at, hs, get_extract, get_extract, get_extract, get_extract]
  simp

end Go.Proofs.YtaaadimkbhkpiaaDoor
