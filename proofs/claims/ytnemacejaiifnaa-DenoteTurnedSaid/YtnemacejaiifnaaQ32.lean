/- Texts merged by program: TrFieldsA. No condition. -/
import Derived.Test.YtnemacejaiifnaaQ6
import Derived.Test.YtnemacejaiifnaaQ4
set_option linter.unusedVariables false
/- Has a tree just the fields of its Op: the document's fields, at each Op by itself. -/
namespace Go.Proofs.Ytnemacejaiifnaa
open Go Go.RowKit

theorem fields_iff1 (rune : Int) (set : List (Int × Int)) (at' cap : Int) (name : ByteArray) (min max : Int) (lazy : Bool) : FieldsOk ({ op := 1, rune := rune, set := set, at' := at', cap := cap, name := name, min := min, max := max, lazy := lazy } : Fld) ↔ (rune = 0) ∧ (set = []) ∧ (at' = 0) ∧ (cap = 0) ∧ (name.toList = []) ∧ (min = 0) ∧ (max = 0) ∧ (lazy = false) := by
  unfold FieldsOk
  simp only []
  constructor
  · intro h
    obtain ⟨-, -, h3, h4, h5, h6, h10, hl, g3, g4, g5, g6, g10⟩ := h
    refine ⟨h3 (by decide), h4 (by decide), h5 (by decide), (h6 (by decide)).1, (h6 (by decide)).2, (h10 (by decide)).1, (h10 (by decide)).2, (by cases lazy with | false => rfl | true => exact absurd (hl rfl) (by decide))⟩
  · rintro ⟨q0, q1, q2, q3, q4, q5, q6, q7⟩
    refine ⟨by decide, by decide, fun _ => q0, fun _ => q1, fun _ => q2, fun _ => ⟨q3, q4⟩, fun _ => ⟨q5, q6⟩, (fun h => by rw [q7] at h; cases h), fun h => absurd h (by decide), fun h => absurd h (by decide), fun h => absurd h (by decide), fun h => absurd h (by decide), fun h => absurd h (by decide)⟩
theorem fields_iff2 (rune : Int) (set : List (Int × Int)) (at' cap : Int) (name : ByteArray) (min max : Int) (lazy : Bool) : FieldsOk ({ op := 2, rune := rune, set := set, at' := at', cap := cap, name := name, min := min, max := max, lazy := lazy } : Fld) ↔ (rune = 0) ∧ (set = []) ∧ (at' = 0) ∧ (cap = 0) ∧ (name.toList = []) ∧ (min = 0) ∧ (max = 0) ∧ (lazy = false) := by
  unfold FieldsOk
  simp only []
  constructor
  · intro h
    obtain ⟨-, -, h3, h4, h5, h6, h10, hl, g3, g4, g5, g6, g10⟩ := h
    refine ⟨h3 (by decide), h4 (by decide), h5 (by decide), (h6 (by decide)).1, (h6 (by decide)).2, (h10 (by decide)).1, (h10 (by decide)).2, (by cases lazy with | false => rfl | true => exact absurd (hl rfl) (by decide))⟩
  · rintro ⟨q0, q1, q2, q3, q4, q5, q6, q7⟩
    refine ⟨by decide, by decide, fun _ => q0, fun _ => q1, fun _ => q2, fun _ => ⟨q3, q4⟩, fun _ => ⟨q5, q6⟩, (fun h => by rw [q7] at h; cases h), fun h => absurd h (by decide), fun h => absurd h (by decide), fun h => absurd h (by decide), fun h => absurd h (by decide), fun h => absurd h (by decide)⟩
theorem fields_iff3 (rune : Int) (set : List (Int × Int)) (at' cap : Int) (name : ByteArray) (min max : Int) (lazy : Bool) : FieldsOk ({ op := 3, rune := rune, set := set, at' := at', cap := cap, name := name, min := min, max := max, lazy := lazy } : Fld) ↔ (set = []) ∧ (at' = 0) ∧ (cap = 0) ∧ (name.toList = []) ∧ (min = 0) ∧ (max = 0) ∧ (lazy = false) ∧ (0 ≤ rune) ∧ (rune ≤ 1114111) := by
  unfold FieldsOk
  simp only []
  constructor
  · intro h
    obtain ⟨-, -, h3, h4, h5, h6, h10, hl, g3, g4, g5, g6, g10⟩ := h
    refine ⟨h4 (by decide), h5 (by decide), (h6 (by decide)).1, (h6 (by decide)).2, (h10 (by decide)).1, (h10 (by decide)).2, (by cases lazy with | false => rfl | true => exact absurd (hl rfl) (by decide)), (g3 (by first | trivial | rfl)).1, (g3 (by first | trivial | rfl)).2⟩
  · rintro ⟨q0, q1, q2, q3, q4, q5, q6, q7, q8⟩
    refine ⟨by decide, by decide, fun h => absurd rfl h, fun _ => q0, fun _ => q1, fun _ => ⟨q2, q3⟩, fun _ => ⟨q4, q5⟩, (fun h => by rw [q6] at h; cases h), fun _ => ⟨q7, q8⟩, fun h => absurd h (by decide), fun h => absurd h (by decide), fun h => absurd h (by decide), fun h => absurd h (by decide)⟩
theorem fields_iff4 (rune : Int) (set : List (Int × Int)) (at' cap : Int) (name : ByteArray) (min max : Int) (lazy : Bool) : FieldsOk ({ op := 4, rune := rune, set := set, at' := at', cap := cap, name := name, min := min, max := max, lazy := lazy } : Fld) ↔ (rune = 0) ∧ (at' = 0) ∧ (cap = 0) ∧ (name.toList = []) ∧ (min = 0) ∧ (max = 0) ∧ (lazy = false) ∧ (RightR set) ∧ (set ≠ []) := by
  unfold FieldsOk
  simp only []
  constructor
  · intro h
    obtain ⟨-, -, h3, h4, h5, h6, h10, hl, g3, g4, g5, g6, g10⟩ := h
    refine ⟨h3 (by decide), h5 (by decide), (h6 (by decide)).1, (h6 (by decide)).2, (h10 (by decide)).1, (h10 (by decide)).2, (by cases lazy with | false => rfl | true => exact absurd (hl rfl) (by decide)), (g4 (by first | trivial | rfl)).1, (g4 (by first | trivial | rfl)).2⟩
  · rintro ⟨q0, q1, q2, q3, q4, q5, q6, q7, q8⟩
    refine ⟨by decide, by decide, fun _ => q0, fun h => absurd rfl h, fun _ => q1, fun _ => ⟨q2, q3⟩, fun _ => ⟨q4, q5⟩, (fun h => by rw [q6] at h; cases h), fun h => absurd h (by decide), fun _ => ⟨q7, q8⟩, fun h => absurd h (by decide), fun h => absurd h (by decide), fun h => absurd h (by decide)⟩
theorem fields_iff5 (rune : Int) (set : List (Int × Int)) (at' cap : Int) (name : ByteArray) (min max : Int) (lazy : Bool) : FieldsOk ({ op := 5, rune := rune, set := set, at' := at', cap := cap, name := name, min := min, max := max, lazy := lazy } : Fld) ↔ (rune = 0) ∧ (set = []) ∧ (cap = 0) ∧ (name.toList = []) ∧ (min = 0) ∧ (max = 0) ∧ (lazy = false) ∧ (at' = 1 ∨ at' = 2 ∨ at' = 4 ∨ at' = 8 ∨ at' = 16 ∨ at' = 32) := by
  unfold FieldsOk
  simp only []
  constructor
  · intro h
    obtain ⟨-, -, h3, h4, h5, h6, h10, hl, g3, g4, g5, g6, g10⟩ := h
    refine ⟨h3 (by decide), h4 (by decide), (h6 (by decide)).1, (h6 (by decide)).2, (h10 (by decide)).1, (h10 (by decide)).2, (by cases lazy with | false => rfl | true => exact absurd (hl rfl) (by decide)), g5 (by first | trivial | rfl)⟩
  · rintro ⟨q0, q1, q2, q3, q4, q5, q6, q7⟩
    refine ⟨by decide, by decide, fun _ => q0, fun _ => q1, fun h => absurd rfl h, fun _ => ⟨q2, q3⟩, fun _ => ⟨q4, q5⟩, (fun h => by rw [q6] at h; cases h), fun h => absurd h (by decide), fun h => absurd h (by decide), fun _ => q7, fun h => absurd h (by decide), fun h => absurd h (by decide)⟩
theorem fields_iff6 (rune : Int) (set : List (Int × Int)) (at' cap : Int) (name : ByteArray) (min max : Int) (lazy : Bool) : FieldsOk ({ op := 6, rune := rune, set := set, at' := at', cap := cap, name := name, min := min, max := max, lazy := lazy } : Fld) ↔ (rune = 0) ∧ (set = []) ∧ (at' = 0) ∧ (min = 0) ∧ (max = 0) ∧ (lazy = false) ∧ (name.toList = [] ∨ nameB name.toList = true) := by
  unfold FieldsOk
  simp only []
  constructor
  · intro h
    obtain ⟨-, -, h3, h4, h5, h6, h10, hl, g3, g4, g5, g6, g10⟩ := h
    refine ⟨h3 (by decide), h4 (by decide), h5 (by decide), (h10 (by decide)).1, (h10 (by decide)).2, (by cases lazy with | false => rfl | true => exact absurd (hl rfl) (by decide)), g6 (by first | trivial | rfl)⟩
  · rintro ⟨q0, q1, q2, q3, q4, q5, q6⟩
    refine ⟨by decide, by decide, fun _ => q0, fun _ => q1, fun _ => q2, fun h => absurd rfl h, fun _ => ⟨q3, q4⟩, (fun h => by rw [q5] at h; cases h), fun h => absurd h (by decide), fun h => absurd h (by decide), fun h => absurd h (by decide), fun _ => q6, fun h => absurd h (by decide)⟩
end Go.Proofs.Ytnemacejaiifnaa
