/- Texts merged by program. No condition. -/
import Derived.Test.YthnddabcmhplkaaGreatDoorK19
set_option maxHeartbeats 800000
set_option linter.unusedVariables false
namespace Go.Proofs.YthnddabcmhplkaaGreatDoor
open Go Go.RowKit
theorem first_of (s : ByteArray) (h : 0 < s.size) : (s.extract 0 1).toList = [s[0]] := by
 rw [Lib.extract_toList,List.drop_zero,← Lib.toList_data]
 have := head_of s h
 cases hl : s.toList with
 | nil => rw [hl] at this;cases this
 | cons x t =>
  rw [hl] at this
  injection this with this
  rw [← this]
  rfl
theorem beq_94 (x : UInt8) : (([x] : List UInt8) == [94]) = decide (x = 94) := by
 by_cases h : x = 94
 ·subst h
  rfl
 ·rw [decide_eq_false h]
  exact beq_eq_false_iff_ne.2 fun e => h (List.head_eq_of_cons_eq e)
def hatB (s : ByteArray) : Bool := s.toList.head? == some 94
theorem hasHat_any (s : ByteArray) (w : World) : Calls Tryz.prog 74 #[.string s,.string { data := #[94] }] w fun e w' => e = .returned (.bool (hatB s)) ∧ w' = w := by
 by_cases h0 : 0 < s.size
 ·have h1 : 1 ≤ s.size := h0
  have hf := first_of s h0
  have hq : ((s.extract 0 1).toList == [94]) = hatB s := by
   rw [hf,beq_94]
   unfold hatB
   rw [head_of s h0]
   by_cases hx : s[0] = 94
   ·rw [hx]
    rfl
   ·rw [decide_eq_false hx]
    exact (beq_eq_false_iff_ne.2 fun e => hx (Option.some.inj e)).symm
  clear hf
  go_enter Tryz.func74,Tryz.ntmps74
  go_wp2_with fail
  go_ret
  exact ⟨rfl,rfl⟩
 ·have hz : s.size = 0 := by omega
  have hq : hatB s = false := by
   unfold hatB
   rw [empty_of s h0]
   rfl
  have HQ := Hd hq
  clear hq
  go_enter Tryz.func74,Tryz.ntmps74
  go_wp2_with fail
  rw [HQ.out]
  go_ret
  exact ⟨rfl,rfl⟩
def CutPost (s : ByteArray) (w : World) (e : Ending) (w' : World) : Prop :=
 w' = w ∧ ((hatB s = true ∧ e = .returned (.tuple #[.string (s.extract 1 s.size),.bool true])) ∨ (hatB s = false ∧ e = .returned (.tuple #[.string s,.bool false])))
theorem cut0_any (s : ByteArray) (w : World) : Calls Tryz.prog 142 #[.string s,.string { data := #[94] }] w (CutPost s w) := by
 have HP := Hd (hasHat_any s w)
 unfold CutPost
 by_cases hh : hatB s = true
 ·have h1 : 1 ≤ s.size := by
   refine Nat.lt_of_not_le fun h => ?_
   unfold hatB at hh
   rw [empty_of s (by omega)] at hh
   cases hh
  rw [hh] at HP ⊢
  clear hh
  go_enter Tryz.func142,Tryz.ntmps142
  go_wp2_with fail
  refine HP.out.mono ?_
  rintro e w1 ⟨rfl,rfl⟩
  go_wp2_with fail
  go_ret2
  exact ⟨rfl,.inl ⟨trivial,rfl⟩⟩
 ·have hh : hatB s = false := by simpa using hh
  rw [hh] at HP ⊢
  clear hh
  go_enter Tryz.func142,Tryz.ntmps142
  go_wp2_with fail
  refine HP.out.mono ?_
  rintro e w1 ⟨rfl,rfl⟩
  go_wp2_with fail
  go_ret2
  exact ⟨rfl,.inr ⟨trivial,rfl⟩⟩
theorem cut_any (s : ByteArray) (w : World) : Calls Tryz.prog 122 #[.string s,.string { data := #[94] }] w (CutPost s w) := by
 have HP := Hd (cut0_any s w)
 unfold CutPost
 go_enter Tryz.func122,Tryz.ntmps122
 go_wp2_with fail
 refine HP.out.mono ?_
 rintro e w1 ⟨rfl,⟨h,rfl⟩ | ⟨h,rfl⟩⟩
 ·have H := Hd h
  clear h
  go_wp2_with fail
  go_ret2
  exact ⟨rfl,.inl ⟨H.out,rfl⟩⟩
 ·have H := Hd h
  clear h
  go_wp2_with fail
  go_ret2
  exact ⟨rfl,.inr ⟨H.out,rfl⟩⟩
end Go.Proofs.YthnddabcmhplkaaGreatDoor
