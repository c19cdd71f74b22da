/- Texts merged by program: TrFieldsB. No condition. -/
import Derived.Test.YtnemacejaiifnaaQ6
import Derived.Test.YtnemacejaiifnaaQ4
set_option linter.unusedVariables false
/- Has a tree just the fields of its Op: the document's fields, at each Op by itself. -/
namespace Go.Proofs.Ytnemacejaiifnaa
open Go Go.RowKit

theorem fields_iff7 (rune : Int) (set : List (Int × Int)) (at' cap : Int) (name : ByteArray) (min max : Int) (lazy : Bool) : FieldsOk ({ op := 7, rune := rune, set := set, at' := at', cap := cap, name := name, min := min, max := max, lazy := lazy } : Fld) ↔ (rune = 0) ∧ (set = []) ∧ (at' = 0) ∧ (cap = 0) ∧ (name.toList = []) ∧ (min = 0) ∧ (max = 0) := by
  unfold FieldsOk
  simp only []
  constructor
  · intro h
    obtain ⟨-, -, h3, h4, h5, h6, h10, hl, g3, g4, g5, g6, g10⟩ := h
    refine ⟨h3 (by decide), h4 (by decide), h5 (by decide), (h6 (by decide)).1, (h6 (by decide)).2, (h10 (by decide)).1, (h10 (by decide)).2⟩
  · rintro ⟨q0, q1, q2, q3, q4, q5, q6⟩
    refine ⟨by decide, by decide, fun _ => q0, fun _ => q1, fun _ => q2, fun _ => ⟨q3, q4⟩, fun _ => ⟨q5, q6⟩, fun _ => by decide, fun h => absurd h (by decide), fun h => absurd h (by decide), fun h => absurd h (by decide), fun h => absurd h (by decide), fun h => absurd h (by decide)⟩
theorem fields_iff8 (rune : Int) (set : List (Int × Int)) (at' cap : Int) (name : ByteArray) (min max : Int) (lazy : Bool) : FieldsOk ({ op := 8, rune := rune, set := set, at' := at', cap := cap, name := name, min := min, max := max, lazy := lazy } : Fld) ↔ (rune = 0) ∧ (set = []) ∧ (at' = 0) ∧ (cap = 0) ∧ (name.toList = []) ∧ (min = 0) ∧ (max = 0) := by
  unfold FieldsOk
  simp only []
  constructor
  · intro h
    obtain ⟨-, -, h3, h4, h5, h6, h10, hl, g3, g4, g5, g6, g10⟩ := h
    refine ⟨h3 (by decide), h4 (by decide), h5 (by decide), (h6 (by decide)).1, (h6 (by decide)).2, (h10 (by decide)).1, (h10 (by decide)).2⟩
  · rintro ⟨q0, q1, q2, q3, q4, q5, q6⟩
    refine ⟨by decide, by decide, fun _ => q0, fun _ => q1, fun _ => q2, fun _ => ⟨q3, q4⟩, fun _ => ⟨q5, q6⟩, fun _ => by decide, fun h => absurd h (by decide), fun h => absurd h (by decide), fun h => absurd h (by decide), fun h => absurd h (by decide), fun h => absurd h (by decide)⟩
theorem fields_iff9 (rune : Int) (set : List (Int × Int)) (at' cap : Int) (name : ByteArray) (min max : Int) (lazy : Bool) : FieldsOk ({ op := 9, rune := rune, set := set, at' := at', cap := cap, name := name, min := min, max := max, lazy := lazy } : Fld) ↔ (rune = 0) ∧ (set = []) ∧ (at' = 0) ∧ (cap = 0) ∧ (name.toList = []) ∧ (min = 0) ∧ (max = 0) := by
  unfold FieldsOk
  simp only []
  constructor
  · intro h
    obtain ⟨-, -, h3, h4, h5, h6, h10, hl, g3, g4, g5, g6, g10⟩ := h
    refine ⟨h3 (by decide), h4 (by decide), h5 (by decide), (h6 (by decide)).1, (h6 (by decide)).2, (h10 (by decide)).1, (h10 (by decide)).2⟩
  · rintro ⟨q0, q1, q2, q3, q4, q5, q6⟩
    refine ⟨by decide, by decide, fun _ => q0, fun _ => q1, fun _ => q2, fun _ => ⟨q3, q4⟩, fun _ => ⟨q5, q6⟩, fun _ => by decide, fun h => absurd h (by decide), fun h => absurd h (by decide), fun h => absurd h (by decide), fun h => absurd h (by decide), fun h => absurd h (by decide)⟩
theorem fields_iff10 (rune : Int) (set : List (Int × Int)) (at' cap : Int) (name : ByteArray) (min max : Int) (lazy : Bool) : FieldsOk ({ op := 10, rune := rune, set := set, at' := at', cap := cap, name := name, min := min, max := max, lazy := lazy } : Fld) ↔ (rune = 0) ∧ (set = []) ∧ (at' = 0) ∧ (cap = 0) ∧ (name.toList = []) ∧ (0 ≤ min) ∧ (min ≤ 1000) ∧ (max = -1 ∨ (min ≤ max ∧ max ≤ 1000)) := by
  unfold FieldsOk
  simp only []
  constructor
  · intro h
    obtain ⟨-, -, h3, h4, h5, h6, h10, hl, g3, g4, g5, g6, g10⟩ := h
    refine ⟨h3 (by decide), h4 (by decide), h5 (by decide), (h6 (by decide)).1, (h6 (by decide)).2, (g10 (by first | trivial | rfl)).1.1, (g10 (by first | trivial | rfl)).1.2, (g10 (by first | trivial | rfl)).2⟩
  · rintro ⟨q0, q1, q2, q3, q4, q5, q6, q7⟩
    refine ⟨by decide, by decide, fun _ => q0, fun _ => q1, fun _ => q2, fun _ => ⟨q3, q4⟩, fun h => absurd rfl h, fun _ => by decide, fun h => absurd h (by decide), fun h => absurd h (by decide), fun h => absurd h (by decide), fun h => absurd h (by decide), fun _ => ⟨⟨q5, q6⟩, q7⟩⟩
theorem fields_iff11 (rune : Int) (set : List (Int × Int)) (at' cap : Int) (name : ByteArray) (min max : Int) (lazy : Bool) : FieldsOk ({ op := 11, rune := rune, set := set, at' := at', cap := cap, name := name, min := min, max := max, lazy := lazy } : Fld) ↔ (rune = 0) ∧ (set = []) ∧ (at' = 0) ∧ (cap = 0) ∧ (name.toList = []) ∧ (min = 0) ∧ (max = 0) ∧ (lazy = false) := by
  unfold FieldsOk
  simp only []
  constructor
  · intro h
    obtain ⟨-, -, h3, h4, h5, h6, h10, hl, g3, g4, g5, g6, g10⟩ := h
    refine ⟨h3 (by decide), h4 (by decide), h5 (by decide), (h6 (by decide)).1, (h6 (by decide)).2, (h10 (by decide)).1, (h10 (by decide)).2, (by cases lazy with | false => rfl | true => exact absurd (hl rfl) (by decide))⟩
  · rintro ⟨q0, q1, q2, q3, q4, q5, q6, q7⟩
    refine ⟨by decide, by decide, fun _ => q0, fun _ => q1, fun _ => q2, fun _ => ⟨q3, q4⟩, fun _ => ⟨q5, q6⟩, (fun h => by rw [q7] at h; cases h), fun h => absurd h (by decide), fun h => absurd h (by decide), fun h => absurd h (by decide), fun h => absurd h (by decide), fun h => absurd h (by decide)⟩
theorem fields_iff12 (rune : Int) (set : List (Int × Int)) (at' cap : Int) (name : ByteArray) (min max : Int) (lazy : Bool) : FieldsOk ({ op := 12, rune := rune, set := set, at' := at', cap := cap, name := name, min := min, max := max, lazy := lazy } : Fld) ↔ (rune = 0) ∧ (set = []) ∧ (at' = 0) ∧ (cap = 0) ∧ (name.toList = []) ∧ (min = 0) ∧ (max = 0) ∧ (lazy = false) := by
  unfold FieldsOk
  simp only []
  constructor
  · intro h
    obtain ⟨-, -, h3, h4, h5, h6, h10, hl, g3, g4, g5, g6, g10⟩ := h
    refine ⟨h3 (by decide), h4 (by decide), h5 (by decide), (h6 (by decide)).1, (h6 (by decide)).2, (h10 (by decide)).1, (h10 (by decide)).2, (by cases lazy with | false => rfl | true => exact absurd (hl rfl) (by decide))⟩
  · rintro ⟨q0, q1, q2, q3, q4, q5, q6, q7⟩
    refine ⟨by decide, by decide, fun _ => q0, fun _ => q1, fun _ => q2, fun _ => ⟨q3, q4⟩, fun _ => ⟨q5, q6⟩, (fun h => by rw [q7] at h; cases h), fun h => absurd h (by decide), fun h => absurd h (by decide), fun h => absurd h (by decide), fun h => absurd h (by decide), fun h => absurd h (by decide)⟩
end Go.Proofs.Ytnemacejaiifnaa
