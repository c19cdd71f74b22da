/- Plain mathematics of the fourth statement: the bytes between places that stand behind one another are the text; its runes, written as UTF-8, are it, where it is UTF-8. -/
import Derived.Test.YticghidkbpkefaaDoorPlace
import Derived.Test.YticghidkbpkefaaDoorBytes
import Derived.Test.YticghidkbpkefaaDoorEnc
import Derived.Lib.MapLaws
import Derived.Lib.ValidLaws
namespace Go.Proofs.YticghidkbpkefaaDoor
open Go Go.RowKit

/-- The byte of the place m. -/
def cutAt (s : ByteArray) (m : Nat) : Nat := ((offsOf s).getD m 0).toNat
theorem cut_in (s : ByteArray) (m : Nat) (h : m ≤ (runesOf s).length) : ∃ hm : m < (offsOf s).length, (offsOf s)[m] = (cutAt s m : Int) ∧ cutAt s m ≤ s.size := by
  have hl := length_offsOf s
  have hm : m < (offsOf s).length := by omega
  obtain ⟨u, hu, hu2⟩ := offs_nat s m hm
  refine ⟨hm, ?_⟩
  unfold cutAt
  simp [hm, hu, hu2]
theorem cut_zero (s : ByteArray) : cutAt s 0 = 0 := by
  unfold cutAt offsOf
  by_cases h : 0 < s.size
  · obtain ⟨f, hf⟩ : ∃ f, s.size = f + 1 := ⟨s.size - 1, by omega⟩
    have e : offsFrom s s.size 0 = offsFrom s (f + 1) 0 := by rw [hf]
    rw [e, offsFrom_step s f 0 h]
    simp
  · have h0 : s.size = 0 := by omega
    rw [offsFrom_end s _ 0 h]
    simp [h0]
theorem cut_last (s : ByteArray) : cutAt s (runesOf s).length = s.size := by
  have h : (offsFrom s s.size 0).length = (runesOf s).length := length_offsFrom s _ _
  unfold cutAt offsOf
  rw [← h]
  simp
theorem cut_up (s : ByteArray) (m : Nat) (h : m < (runesOf s).length) : cutAt s m < cutAt s (m + 1) := by
  obtain ⟨h1, e1, _⟩ := cut_in s m (by omega)
  obtain ⟨h2, e2, _⟩ := cut_in s (m + 1) (by omega)
  have := List.pairwise_iff_getElem.1 (offsOf_up s) m (m + 1) h1 h2 (by omega)
  omega
theorem off_cut (s : ByteArray) (m : Nat) (h : m ≤ (runesOf s).length) : offAt (offsOf s) (m : Int) = (cutAt s m : Int) := by
  obtain ⟨h1, e1, _⟩ := cut_in s m h
  rw [offAt_in _ _ h1, e1]
theorem place_cut (s : ByteArray) (m : Nat) (h : m ≤ (runesOf s).length) : placeOf (offsOf s) (cutAt s m : Int) = m := by
  obtain ⟨h1, e1, _⟩ := cut_in s m h
  exact placeOf_at _ (offsOf_up s) m h1 _ e1
theorem bytes_cut (s : ByteArray) (m : Nat) (h : m < (runesOf s).length) : bytesOf s (m : Int) ((m : Int) + 1) = s.extract (cutAt s m) (cutAt s (m + 1)) := by
  have hl := length_offsOf s
  unfold bytesOf
  rw [if_pos ⟨by omega, by omega, by omega⟩]
  rfl
theorem take_cut (s : ByteArray) (m : Nat) (h : m < (runesOf s).length) :
    s.data.toList.take (cutAt s m) ++ (bytesOf s (m : Int) ((m : Int) + 1)).data.toList = s.data.toList.take (cutAt s (m + 1)) := by
  have h1 := cut_up s m h
  rw [bytes_cut s m h]
  have e : (s.extract (cutAt s m) (cutAt s (m + 1))).data.toList = (s.data.toList.take (cutAt s (m + 1))).drop (cutAt s m) := by
    rw [Lib.extract_data, List.drop_take]
  rw [e]
  have h2 : s.data.toList.take (cutAt s m) = (s.data.toList.take (cutAt s (m + 1))).take (cutAt s m) := by rw [List.take_take]; congr 1; omega
  rw [h2, List.take_append_drop]
theorem size_cut (s : ByteArray) (m : Nat) (h : m < (runesOf s).length) : (bytesOf s (m : Int) ((m : Int) + 1)).size = cutAt s (m + 1) - cutAt s m := by
  obtain ⟨_, _, h2⟩ := cut_in s (m + 1) (by omega)
  rw [bytes_cut s m h]
  simp
  omega
theorem take_all (s : ByteArray) : (⟨(s.data.toList.take (cutAt s (runesOf s).length)).toArray⟩ : ByteArray) = s := by
  rw [cut_last]
  apply ByteArray.ext
  have : s.size = s.data.toList.length := by simp
  rw [this, List.take_length]

theorem enc_from (s : ByteArray) : ∀ f pos, s.size ≤ pos + f → Lib.validD (s.data.toList.drop pos) = true → encR (runesFrom s f pos) = s.data.toList.drop pos
  | 0, pos, h, _ => by
    have hl : s.data.toList.length = s.size := by simp
    rw [List.drop_eq_nil_of_le (by omega)]
    rfl
  | f + 1, pos, h, hv => by
    have hl : s.data.toList.length = s.size := by simp
    by_cases hp : pos < s.size
    · obtain ⟨l, hL⟩ : ∃ l, s.data.toList.drop pos = l := ⟨_, rfl⟩
      have hne : l ≠ [] := by
        rw [← hL]
        intro e
        have := congrArg List.length e
        rw [List.length_drop] at this
        simp at this
        omega
      have hd : Utf8.decode s pos = Lib.decodeL l := by
        rw [decode_list s pos l hL]
        exact (decode_list ⟨l.toArray⟩ 0 l (by simp)).symm
      rw [hL] at hv ⊢
      rw [Lib.validD_step l hne] at hv
      have hg : ¬ ((Lib.decodeL l).1 = 65533 ∧ (Lib.decodeL l).2 = 1) := fun e => by rw [if_pos e] at hv; exact Bool.false_ne_true hv
      rw [if_neg hg] at hv
      rw [runesFrom_step s f pos hp, hd]
      have hw : 1 ≤ (Lib.decodeL l).2 := by rw [← hd]; exact Lib.decode_width_pos s pos hp
      have ih := enc_from s f (pos + (Lib.decodeL l).2) (by omega) (by rw [← List.drop_drop, hL]; exact hv)
      have e : encR (((Lib.decodeL l).1 : Int) :: runesFrom s f (pos + (Lib.decodeL l).2)) = Lib.encodeRune ((Lib.decodeL l).1 : Int) ++ encR (runesFrom s f (pos + (Lib.decodeL l).2)) := rfl
      rw [e, ih, Lib.encode_decode l hne hg, ← List.drop_drop, hL, List.take_append_drop]
    · rw [runesFrom_end s _ pos hp, List.drop_eq_nil_of_le (by omega)]
      rfl
theorem enc_valid (s : ByteArray) (h : Lib.validD s.data.toList = true) : (⟨(encR (runesOf s)).toArray⟩ : ByteArray) = s := by
  have h1 := enc_from s s.size 0 (by omega) (by simpa using h)
  rw [List.drop_zero] at h1
  apply ByteArray.ext
  unfold runesOf
  rw [h1]
theorem enc_take (R : List Int) (m : Nat) (h : m < R.length) : encR (R.take (m + 1)) = encR (R.take m) ++ Lib.encodeRune R[m] := by
  rw [List.take_succ_eq_append_getElem h]
  unfold encR
  rw [List.flatMap_append]
  congr 1
  simp
end Go.Proofs.YticghidkbpkefaaDoor
