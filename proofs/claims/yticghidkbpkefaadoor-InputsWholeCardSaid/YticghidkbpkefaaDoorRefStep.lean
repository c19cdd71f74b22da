/- What the library decodes at a place of a text is what the model's own decoding gives there; and it does not reach behind the text. -/
import Derived.Test.YticghidkbpkefaaDoorText
namespace Go.Proofs.YticghidkbpkefaaDoor
open Go Go.RowKit

theorem decode_width (s : ByteArray) (i : Nat) (h : i < s.size) : i + (Utf8.decode s i).2 ≤ s.size := by
  rw [Lib.decode_at]
  unfold Lib.decodeN
  repeat' split
  all_goals first | (simp only; omega) | omega

theorem get_extract (s : ByteArray) (i j : Nat) : (s.extract i s.size).get! j = s.get! (i + j) := by
  have e1 : ∀ (t : ByteArray) (k : Nat), t.get! k = t.data.toList[k]?.getD default := by
    intro t k
    show t.data[k]! = _
    rw [Array.getElem!_eq_getD, Array.getD_eq_getD_getElem?, Array.getElem?_toList]
  rw [e1, e1, Lib.extract_data]
  congr 1
  rw [List.getElem?_take, List.getElem?_drop]
  split
  · rfl
  · rw [List.getElem?_eq_none]
    have : s.data.toList.length = s.size := by simp
    omega

theorem decodeGo_extract (s : ByteArray) (i : Nat) (h : i < s.size) : Lib.decodeGo (s.extract i s.size) = Utf8.decode s i := by
  have hs : (s.extract i s.size).size = s.size - i := by simp
  unfold Lib.decodeGo
  rw [if_neg (by omega), Lib.decode_at, Lib.decode_at, hs, get_extract, get_extract, get_extract, get_extract]
  simp

/-- The rune at a place, decoded from the rest of the slice. -/
theorem step_at (s : ByteArray) (b off cap : Nat) (w : World) (hT : Lib.Utf8Tabs 0 1 w) (hb : Lib.Bytes w b off s) (i : Nat) (hi : i < s.size) :
    Calls Tryd.prog 36 #[.slice (some ⟨b, off + i, none⟩) (s.size - i) cap] w fun e w' => e = .returned (.tuple #[.int .i32 ((Utf8.decode s i).1 : Nat), .int .i64 ((Utf8.decode s i).2 : Nat)]) ∧ Below w.heap.size w w' := by
  have hs : (s.extract i s.size).size = s.size - i := by simp
  have h := Tryd.utf8_DecodeRune (s.extract i s.size) b (off + i) cap w hT (fun j hj => by
    rw [get_extract, Nat.add_assoc, hb (i + j) (by omega)]
    have : s.get! (i + j) = s[i + j]'(by omega) := by
      have hd : i + j < s.data.size := by show i + j < s.size; omega
      show s.data[i + j]! = s.data[i + j]
      rw [getElem!_pos]
    rw [this])
  rw [hs, decodeGo_extract s i hi] at h
  exact h
end Go.Proofs.YticghidkbpkefaaDoor
