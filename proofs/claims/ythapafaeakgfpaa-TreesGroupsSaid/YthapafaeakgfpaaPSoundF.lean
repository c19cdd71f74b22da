/- Is all right of a part that can be seen of it alone: the program's sound. -/
import Derived.Test.YthapafaeakgfpaaPBlank
import Derived.Test.YthapafaeakgfpaaTrFine
import Derived.Deep.RegionHeld3
set_option linter.unusedVariables false
namespace Go.Proofs.Ythapafaeakgfpaa
open Go Go.RowKit

/-- Is all right of a part that can be seen of it alone? -/
def SoundF (f : Fld) (n : Nat) : Prop := FieldsOk f ∧ KidsOk f.op n ∧ ¬ (f.op = 6 ∧ f.cap < 1)

theorem len0 {set : List (Int × Int)} {s : Nat} (hs : set.length = s) : set = [] ↔ s = 0 := by rw [← hs]; exact List.length_eq_zero_iff.symm
theorem soundF_1 (rune : Int) (n s : Nat) (set : List (Int × Int)) (at' cap : Int) (name : ByteArray) (mn mx : Int) (lz : Bool) (hs : set.length = s) : SoundF ⟨1, rune, set, at', cap, name, mn, mx, lz⟩ n ↔ (n = 0) ∧ BlankP rune s at' cap name mn mx lz := by
  unfold SoundF FieldsOk KidsOk BlankP
  have h0 := len0 hs
  simp
  grind
theorem soundF_2 (rune : Int) (n s : Nat) (set : List (Int × Int)) (at' cap : Int) (name : ByteArray) (mn mx : Int) (lz : Bool) (hs : set.length = s) : SoundF ⟨2, rune, set, at', cap, name, mn, mx, lz⟩ n ↔ (n = 0) ∧ BlankP rune s at' cap name mn mx lz := by
  unfold SoundF FieldsOk KidsOk BlankP
  have h0 := len0 hs
  simp
  grind
theorem soundF_3 (rune : Int) (n s : Nat) (set : List (Int × Int)) (at' cap : Int) (name : ByteArray) (mn mx : Int) (lz : Bool) (hs : set.length = s) : SoundF ⟨3, rune, set, at', cap, name, mn, mx, lz⟩ n ↔ (n = 0 ∧ 0 ≤ rune ∧ rune ≤ 1114111) ∧ BlankP 0 s at' cap name mn mx lz := by
  unfold SoundF FieldsOk KidsOk BlankP
  have h0 := len0 hs
  simp
  grind
theorem soundF_4 (rune : Int) (n s : Nat) (set : List (Int × Int)) (at' cap : Int) (name : ByteArray) (mn mx : Int) (lz : Bool) (hs : set.length = s) : SoundF ⟨4, rune, set, at', cap, name, mn, mx, lz⟩ n ↔ (n = 0 ∧ 0 < s ∧ RightR set) ∧ BlankP rune 0 at' cap name mn mx lz := by
  unfold SoundF FieldsOk KidsOk BlankP
  have h0 := len0 hs
  simp
  grind
theorem soundF_5 (rune : Int) (n s : Nat) (set : List (Int × Int)) (at' cap : Int) (name : ByteArray) (mn mx : Int) (lz : Bool) (hs : set.length = s) : SoundF ⟨5, rune, set, at', cap, name, mn, mx, lz⟩ n ↔ (n = 0 ∧ (at' = 1 ∨ at' = 2 ∨ at' = 4 ∨ at' = 8 ∨ at' = 16 ∨ at' = 32)) ∧ BlankP rune s 0 cap name mn mx lz := by
  unfold SoundF FieldsOk KidsOk BlankP
  have h0 := len0 hs
  simp
  grind
theorem soundF_6 (rune : Int) (n s : Nat) (set : List (Int × Int)) (at' cap : Int) (name : ByteArray) (mn mx : Int) (lz : Bool) (hs : set.length = s) : SoundF ⟨6, rune, set, at', cap, name, mn, mx, lz⟩ n ↔ (n = 1 ∧ 0 < cap ∧ (name.toList = [] ∨ nameB name.toList = true)) ∧ BlankP rune s at' 0 ⟨#[]⟩ mn mx lz := by
  unfold SoundF FieldsOk KidsOk BlankP
  have h0 := len0 hs
  simp
  grind
theorem soundF_7 (rune : Int) (n s : Nat) (set : List (Int × Int)) (at' cap : Int) (name : ByteArray) (mn mx : Int) (lz : Bool) (hs : set.length = s) : SoundF ⟨7, rune, set, at', cap, name, mn, mx, lz⟩ n ↔ (n = 1) ∧ BlankP rune s at' cap name mn mx false := by
  unfold SoundF FieldsOk KidsOk BlankP
  have h0 := len0 hs
  simp
  grind
theorem soundF_8 (rune : Int) (n s : Nat) (set : List (Int × Int)) (at' cap : Int) (name : ByteArray) (mn mx : Int) (lz : Bool) (hs : set.length = s) : SoundF ⟨8, rune, set, at', cap, name, mn, mx, lz⟩ n ↔ (n = 1) ∧ BlankP rune s at' cap name mn mx false := by
  unfold SoundF FieldsOk KidsOk BlankP
  have h0 := len0 hs
  simp
  grind
theorem soundF_9 (rune : Int) (n s : Nat) (set : List (Int × Int)) (at' cap : Int) (name : ByteArray) (mn mx : Int) (lz : Bool) (hs : set.length = s) : SoundF ⟨9, rune, set, at', cap, name, mn, mx, lz⟩ n ↔ (n = 1) ∧ BlankP rune s at' cap name mn mx false := by
  unfold SoundF FieldsOk KidsOk BlankP
  have h0 := len0 hs
  simp
  grind
theorem soundF_10 (rune : Int) (n s : Nat) (set : List (Int × Int)) (at' cap : Int) (name : ByteArray) (mn mx : Int) (lz : Bool) (hs : set.length = s) : SoundF ⟨10, rune, set, at', cap, name, mn, mx, lz⟩ n ↔ (n = 1 ∧ ((0 ≤ mn ∧ mn ≤ 1000) ∧ (mx = -1 ∨ (mn ≤ mx ∧ mx ≤ 1000)))) ∧ BlankP rune s at' cap name 0 0 false := by
  unfold SoundF FieldsOk KidsOk BlankP
  have h0 := len0 hs
  simp
  grind
theorem soundF_11 (rune : Int) (n s : Nat) (set : List (Int × Int)) (at' cap : Int) (name : ByteArray) (mn mx : Int) (lz : Bool) (hs : set.length = s) : SoundF ⟨11, rune, set, at', cap, name, mn, mx, lz⟩ n ↔ (True) ∧ BlankP rune s at' cap name mn mx lz := by
  unfold SoundF FieldsOk KidsOk BlankP
  have h0 := len0 hs
  simp
  grind
theorem soundF_12 (rune : Int) (n s : Nat) (set : List (Int × Int)) (at' cap : Int) (name : ByteArray) (mn mx : Int) (lz : Bool) (hs : set.length = s) : SoundF ⟨12, rune, set, at', cap, name, mn, mx, lz⟩ n ↔ (0 < n) ∧ BlankP rune s at' cap name mn mx lz := by
  unfold SoundF FieldsOk KidsOk BlankP
  have h0 := len0 hs
  simp
  grind
end Go.Proofs.Ythapafaeakgfpaa
