/- Texts merged by program: NameB, TrFine, TrKids, TrName, TrFieldsA, TrFieldsB, TrFields, TrShaped. No condition. -/
import Derived.Test.YthffdmncdoogpaaK2
import Derived.Test.YthffdmncdoogpaaK3
import Derived.Test.YthffdmncdoogpaaProg
import Derived.WalkKit
import Derived.Below
import Derived.Lib.Hide
import Derived.Deep.DeepCutAuto
set_option linter.unusedVariables false
/- Is it a name: what one is, and the document's Name. -/
namespace Go.Proofs.Ythffdmncdoogpaa
open Go Go.RowKit

/-- A letter of a name; what a name's byte may be behind the first one. -/
def letterB (c : UInt8) : Bool := (decide (97 ≤ c.toNat) && decide (c.toNat ≤ 122)) || (decide (65 ≤ c.toNat) && decide (c.toNat ≤ 90)) || decide (c.toNat = 95)
def digitB (c : UInt8) : Bool := decide (48 ≤ c.toNat) && decide (c.toNat ≤ 57)
def namedFrom : Nat → List UInt8 → Bool
  | _, [] => true
  | i, c :: l => (letterB c || (decide (0 < i) && digitB c)) && namedFrom (i + 1) l
/-- Is it a name? -/
def nameB (l : List UInt8) : Bool := decide (1 ≤ l.length) && decide (l.length ≤ 32) && namedFrom 0 l
theorem namedFrom_append : ∀ (a : List UInt8) (i : Nat) (b : List UInt8), namedFrom i (a ++ b) = (namedFrom i a && namedFrom (i + a.length) b)
  | [], i, b => by simp [namedFrom]
  | c :: a, i, b => by
    rw [List.cons_append, namedFrom, namedFrom, namedFrom_append a (i + 1) b, Bool.and_assoc, List.length_cons, show i + 1 + a.length = i + (a.length + 1) by omega]
theorem letter_iff (c : UInt8) : letterB c = true ↔ (97 ≤ c.toNat ∧ c.toNat ≤ 122) ∨ (65 ≤ c.toNat ∧ c.toNat ≤ 90) ∨ c.toNat = 95 := by
  unfold letterB
  simp only [Bool.or_eq_true, Bool.and_eq_true, decide_eq_true_eq, or_assoc]
theorem digit_iff (c : UInt8) : digitB c = true ↔ 48 ≤ c.toNat ∧ c.toNat ≤ 57 := by
  unfold digitB
  simp only [Bool.and_eq_true, decide_eq_true_eq]
theorem named_snoc (l : List UInt8) (c : UInt8) : namedFrom 0 (l ++ [c]) = (namedFrom 0 l && (letterB c || (decide (0 < l.length) && digitB c))) := by
  rw [namedFrom_append]
  simp [namedFrom]
theorem named_take {l : List UInt8} {k : Nat} (h : namedFrom 0 l = true) : namedFrom 0 (l.take k) = true := by
  rw [← List.take_append_drop k l, namedFrom_append, Bool.and_eq_true] at h
  exact h.1
theorem take_snoc8 (s : ByteArray) (k : Nat) (h : k < s.size) : s.toList.take (k + 1) = s.toList.take k ++ [s[k]] := by
  rw [ByteArray.toList_eq, List.take_succ_eq_append_getElem (by simpa using h)]
  rfl
def NamePost (P : Prop) (w : World) (e : Ending) (w' : World) : Prop := ∃ B : Bool, e = .returned (.bool B) ∧ (B = true ↔ P) ∧ w' = w
end Go.Proofs.Ythffdmncdoogpaa
/- What makes a tree right but for its groups, as plain statements. No condition. -/
namespace Go.Proofs.Ythffdmncdoogpaa
open Go Go.RowKit

/-- Has a tree just the fields of its Op? -/
def FieldsOk (f : Fld) : Prop :=
  1 ≤ f.op ∧ f.op ≤ 12 ∧ (f.op ≠ 3 → f.rune = 0) ∧ (f.op ≠ 4 → f.set = []) ∧ (f.op ≠ 5 → f.at' = 0) ∧ (f.op ≠ 6 → f.cap = 0 ∧ f.name.toList = []) ∧ (f.op ≠ 10 → f.min = 0 ∧ f.max = 0) ∧ (f.lazy = true → 7 ≤ f.op ∧ f.op ≤ 10) ∧
    (f.op = 3 → 0 ≤ f.rune ∧ f.rune ≤ 1114111) ∧ (f.op = 4 → RightR f.set ∧ f.set ≠ []) ∧ (f.op = 5 → f.at' = 1 ∨ f.at' = 2 ∨ f.at' = 4 ∨ f.at' = 8 ∨ f.at' = 16 ∨ f.at' = 32) ∧
    (f.op = 6 → f.name.toList = [] ∨ nameB f.name.toList = true) ∧ (f.op = 10 → (0 ≤ f.min ∧ f.min ≤ 1000) ∧ (f.max = -1 ∨ (f.min ≤ f.max ∧ f.max ≤ 1000)))
/-- May a tree have as many Kids? -/
def KidsOk (op : Int) (n : Nat) : Prop :=
  (op = 6 ∨ op = 7 ∨ op = 8 ∨ op = 9 ∨ op = 10 → n = 1) ∧ (op = 12 → 1 ≤ n) ∧ (op = 6 ∨ op = 7 ∨ op = 8 ∨ op = 9 ∨ op = 10 ∨ op = 11 ∨ op = 12 ∨ n = 0)
/-- Is all right but for groups, depth and weight? -/
def ShapedP : Tr → Prop := Tr.para fun t l => FieldsOk t.fld ∧ KidsOk t.fld.op t.kids.length ∧ ¬ (t.fld.op = 6 ∧ t.fld.cap < 1) ∧ ∀ p ∈ l, p
theorem shapedP_iff (t : Tr) : ShapedP t ↔ FieldsOk t.fld ∧ KidsOk t.fld.op t.kids.length ∧ ¬ (t.fld.op = 6 ∧ t.fld.cap < 1) ∧ ∀ k ∈ t.kids, ShapedP k := by
  unfold ShapedP
  rw [Tr.para_eq]
  simp only [List.mem_map, forall_exists_index, and_imp, forall_apply_eq_imp_iff₂]
end Go.Proofs.Ythffdmncdoogpaa
/- How many Kids a tree may have: the document's kids. -/
namespace Go.Proofs.Ythffdmncdoogpaa
open Go Go.RowKit

/-- A bool that says P; nothing that lay has turned. -/
def SaysB (P : Prop) (w : World) (e : Ending) (w' : World) : Prop := ∃ B : Bool, e = .returned (.bool B) ∧ (B = true ↔ P) ∧ Below w.heap.size w w'

end Go.Proofs.Ythffdmncdoogpaa
/- Is it a name: the document's Name (NameB has it). -/
/- Has a tree just the fields of its Op: the document's fields, at each Op by itself. -/
namespace Go.Proofs.Ythffdmncdoogpaa
open Go Go.RowKit

theorem fields_iff1 (rune : Int) (set : List (Int × Int)) (at' cap : Int) (name : ByteArray) (min max : Int) (lazy : Bool) : FieldsOk ({ op := 1, rune := rune, set := set, at' := at', cap := cap, name := name, min := min, max := max, lazy := lazy } : Fld) ↔ (rune = 0) ∧ (set = []) ∧ (at' = 0) ∧ (cap = 0) ∧ (name.toList = []) ∧ (min = 0) ∧ (max = 0) ∧ (lazy = false) := by
  unfold FieldsOk
  simp only []
  constructor
  · intro h
    obtain ⟨-, -, h3, h4, h5, h6, h10, hl, g3, g4, g5, g6, g10⟩ := h
    refine ⟨h3 (by decide), h4 (by decide), h5 (by decide), (h6 (by decide)).1, (h6 (by decide)).2, (h10 (by decide)).1, (h10 (by decide)).2, (by cases lazy with | false => rfl | true => exact absurd (hl rfl) (by decide))⟩
  · rintro ⟨q0, q1, q2, q3, q4, q5, q6, q7⟩
    refine ⟨by decide, by decide, fun _ => q0, fun _ => q1, fun _ => q2, fun _ => ⟨q3, q4⟩, fun _ => ⟨q5, q6⟩, (fun h => by rw [q7] at h; cases h), fun h => absurd h (by decide), fun h => absurd h (by decide), fun h => absurd h (by decide), fun h => absurd h (by decide), fun h => absurd h (by decide)⟩
theorem fields_iff2 (rune : Int) (set : List (Int × Int)) (at' cap : Int) (name : ByteArray) (min max : Int) (lazy : Bool) : FieldsOk ({ op := 2, rune := rune, set := set, at' := at', cap := cap, name := name, min := min, max := max, lazy := lazy } : Fld) ↔ (rune = 0) ∧ (set = []) ∧ (at' = 0) ∧ (cap = 0) ∧ (name.toList = []) ∧ (min = 0) ∧ (max = 0) ∧ (lazy = false) := by
  unfold FieldsOk
  simp only []
  constructor
  · intro h
    obtain ⟨-, -, h3, h4, h5, h6, h10, hl, g3, g4, g5, g6, g10⟩ := h
    refine ⟨h3 (by decide), h4 (by decide), h5 (by decide), (h6 (by decide)).1, (h6 (by decide)).2, (h10 (by decide)).1, (h10 (by decide)).2, (by cases lazy with | false => rfl | true => exact absurd (hl rfl) (by decide))⟩
  · rintro ⟨q0, q1, q2, q3, q4, q5, q6, q7⟩
    refine ⟨by decide, by decide, fun _ => q0, fun _ => q1, fun _ => q2, fun _ => ⟨q3, q4⟩, fun _ => ⟨q5, q6⟩, (fun h => by rw [q7] at h; cases h), fun h => absurd h (by decide), fun h => absurd h (by decide), fun h => absurd h (by decide), fun h => absurd h (by decide), fun h => absurd h (by decide)⟩
theorem fields_iff3 (rune : Int) (set : List (Int × Int)) (at' cap : Int) (name : ByteArray) (min max : Int) (lazy : Bool) : FieldsOk ({ op := 3, rune := rune, set := set, at' := at', cap := cap, name := name, min := min, max := max, lazy := lazy } : Fld) ↔ (set = []) ∧ (at' = 0) ∧ (cap = 0) ∧ (name.toList = []) ∧ (min = 0) ∧ (max = 0) ∧ (lazy = false) ∧ (0 ≤ rune) ∧ (rune ≤ 1114111) := by
  unfold FieldsOk
  simp only []
  constructor
  · intro h
    obtain ⟨-, -, h3, h4, h5, h6, h10, hl, g3, g4, g5, g6, g10⟩ := h
    refine ⟨h4 (by decide), h5 (by decide), (h6 (by decide)).1, (h6 (by decide)).2, (h10 (by decide)).1, (h10 (by decide)).2, (by cases lazy with | false => rfl | true => exact absurd (hl rfl) (by decide)), (g3 (by first | trivial | rfl)).1, (g3 (by first | trivial | rfl)).2⟩
  · rintro ⟨q0, q1, q2, q3, q4, q5, q6, q7, q8⟩
    refine ⟨by decide, by decide, fun h => absurd rfl h, fun _ => q0, fun _ => q1, fun _ => ⟨q2, q3⟩, fun _ => ⟨q4, q5⟩, (fun h => by rw [q6] at h; cases h), fun _ => ⟨q7, q8⟩, fun h => absurd h (by decide), fun h => absurd h (by decide), fun h => absurd h (by decide), fun h => absurd h (by decide)⟩
theorem fields_iff4 (rune : Int) (set : List (Int × Int)) (at' cap : Int) (name : ByteArray) (min max : Int) (lazy : Bool) : FieldsOk ({ op := 4, rune := rune, set := set, at' := at', cap := cap, name := name, min := min, max := max, lazy := lazy } : Fld) ↔ (rune = 0) ∧ (at' = 0) ∧ (cap = 0) ∧ (name.toList = []) ∧ (min = 0) ∧ (max = 0) ∧ (lazy = false) ∧ (RightR set) ∧ (set ≠ []) := by
  unfold FieldsOk
  simp only []
  constructor
  · intro h
    obtain ⟨-, -, h3, h4, h5, h6, h10, hl, g3, g4, g5, g6, g10⟩ := h
    refine ⟨h3 (by decide), h5 (by decide), (h6 (by decide)).1, (h6 (by decide)).2, (h10 (by decide)).1, (h10 (by decide)).2, (by cases lazy with | false => rfl | true => exact absurd (hl rfl) (by decide)), (g4 (by first | trivial | rfl)).1, (g4 (by first | trivial | rfl)).2⟩
  · rintro ⟨q0, q1, q2, q3, q4, q5, q6, q7, q8⟩
    refine ⟨by decide, by decide, fun _ => q0, fun h => absurd rfl h, fun _ => q1, fun _ => ⟨q2, q3⟩, fun _ => ⟨q4, q5⟩, (fun h => by rw [q6] at h; cases h), fun h => absurd h (by decide), fun _ => ⟨q7, q8⟩, fun h => absurd h (by decide), fun h => absurd h (by decide), fun h => absurd h (by decide)⟩
theorem fields_iff5 (rune : Int) (set : List (Int × Int)) (at' cap : Int) (name : ByteArray) (min max : Int) (lazy : Bool) : FieldsOk ({ op := 5, rune := rune, set := set, at' := at', cap := cap, name := name, min := min, max := max, lazy := lazy } : Fld) ↔ (rune = 0) ∧ (set = []) ∧ (cap = 0) ∧ (name.toList = []) ∧ (min = 0) ∧ (max = 0) ∧ (lazy = false) ∧ (at' = 1 ∨ at' = 2 ∨ at' = 4 ∨ at' = 8 ∨ at' = 16 ∨ at' = 32) := by
  unfold FieldsOk
  simp only []
  constructor
  · intro h
    obtain ⟨-, -, h3, h4, h5, h6, h10, hl, g3, g4, g5, g6, g10⟩ := h
    refine ⟨h3 (by decide), h4 (by decide), (h6 (by decide)).1, (h6 (by decide)).2, (h10 (by decide)).1, (h10 (by decide)).2, (by cases lazy with | false => rfl | true => exact absurd (hl rfl) (by decide)), g5 (by first | trivial | rfl)⟩
  · rintro ⟨q0, q1, q2, q3, q4, q5, q6, q7⟩
    refine ⟨by decide, by decide, fun _ => q0, fun _ => q1, fun h => absurd rfl h, fun _ => ⟨q2, q3⟩, fun _ => ⟨q4, q5⟩, (fun h => by rw [q6] at h; cases h), fun h => absurd h (by decide), fun h => absurd h (by decide), fun _ => q7, fun h => absurd h (by decide), fun h => absurd h (by decide)⟩
theorem fields_iff6 (rune : Int) (set : List (Int × Int)) (at' cap : Int) (name : ByteArray) (min max : Int) (lazy : Bool) : FieldsOk ({ op := 6, rune := rune, set := set, at' := at', cap := cap, name := name, min := min, max := max, lazy := lazy } : Fld) ↔ (rune = 0) ∧ (set = []) ∧ (at' = 0) ∧ (min = 0) ∧ (max = 0) ∧ (lazy = false) ∧ (name.toList = [] ∨ nameB name.toList = true) := by
  unfold FieldsOk
  simp only []
  constructor
  · intro h
    obtain ⟨-, -, h3, h4, h5, h6, h10, hl, g3, g4, g5, g6, g10⟩ := h
    refine ⟨h3 (by decide), h4 (by decide), h5 (by decide), (h10 (by decide)).1, (h10 (by decide)).2, (by cases lazy with | false => rfl | true => exact absurd (hl rfl) (by decide)), g6 (by first | trivial | rfl)⟩
  · rintro ⟨q0, q1, q2, q3, q4, q5, q6⟩
    refine ⟨by decide, by decide, fun _ => q0, fun _ => q1, fun _ => q2, fun h => absurd rfl h, fun _ => ⟨q3, q4⟩, (fun h => by rw [q5] at h; cases h), fun h => absurd h (by decide), fun h => absurd h (by decide), fun h => absurd h (by decide), fun _ => q6, fun h => absurd h (by decide)⟩
end Go.Proofs.Ythffdmncdoogpaa
/- Has a tree just the fields of its Op: the document's fields, at each Op by itself. -/
namespace Go.Proofs.Ythffdmncdoogpaa
open Go Go.RowKit

theorem fields_iff7 (rune : Int) (set : List (Int × Int)) (at' cap : Int) (name : ByteArray) (min max : Int) (lazy : Bool) : FieldsOk ({ op := 7, rune := rune, set := set, at' := at', cap := cap, name := name, min := min, max := max, lazy := lazy } : Fld) ↔ (rune = 0) ∧ (set = []) ∧ (at' = 0) ∧ (cap = 0) ∧ (name.toList = []) ∧ (min = 0) ∧ (max = 0) := by
  unfold FieldsOk
  simp only []
  constructor
  · intro h
    obtain ⟨-, -, h3, h4, h5, h6, h10, hl, g3, g4, g5, g6, g10⟩ := h
    refine ⟨h3 (by decide), h4 (by decide), h5 (by decide), (h6 (by decide)).1, (h6 (by decide)).2, (h10 (by decide)).1, (h10 (by decide)).2⟩
  · rintro ⟨q0, q1, q2, q3, q4, q5, q6⟩
    refine ⟨by decide, by decide, fun _ => q0, fun _ => q1, fun _ => q2, fun _ => ⟨q3, q4⟩, fun _ => ⟨q5, q6⟩, fun _ => by decide, fun h => absurd h (by decide), fun h => absurd h (by decide), fun h => absurd h (by decide), fun h => absurd h (by decide), fun h => absurd h (by decide)⟩
theorem fields_iff8 (rune : Int) (set : List (Int × Int)) (at' cap : Int) (name : ByteArray) (min max : Int) (lazy : Bool) : FieldsOk ({ op := 8, rune := rune, set := set, at' := at', cap := cap, name := name, min := min, max := max, lazy := lazy } : Fld) ↔ (rune = 0) ∧ (set = []) ∧ (at' = 0) ∧ (cap = 0) ∧ (name.toList = []) ∧ (min = 0) ∧ (max = 0) := by
  unfold FieldsOk
  simp only []
  constructor
  · intro h
    obtain ⟨-, -, h3, h4, h5, h6, h10, hl, g3, g4, g5, g6, g10⟩ := h
    refine ⟨h3 (by decide), h4 (by decide), h5 (by decide), (h6 (by decide)).1, (h6 (by decide)).2, (h10 (by decide)).1, (h10 (by decide)).2⟩
  · rintro ⟨q0, q1, q2, q3, q4, q5, q6⟩
    refine ⟨by decide, by decide, fun _ => q0, fun _ => q1, fun _ => q2, fun _ => ⟨q3, q4⟩, fun _ => ⟨q5, q6⟩, fun _ => by decide, fun h => absurd h (by decide), fun h => absurd h (by decide), fun h => absurd h (by decide), fun h => absurd h (by decide), fun h => absurd h (by decide)⟩
theorem fields_iff9 (rune : Int) (set : List (Int × Int)) (at' cap : Int) (name : ByteArray) (min max : Int) (lazy : Bool) : FieldsOk ({ op := 9, rune := rune, set := set, at' := at', cap := cap, name := name, min := min, max := max, lazy := lazy } : Fld) ↔ (rune = 0) ∧ (set = []) ∧ (at' = 0) ∧ (cap = 0) ∧ (name.toList = []) ∧ (min = 0) ∧ (max = 0) := by
  unfold FieldsOk
  simp only []
  constructor
  · intro h
    obtain ⟨-, -, h3, h4, h5, h6, h10, hl, g3, g4, g5, g6, g10⟩ := h
    refine ⟨h3 (by decide), h4 (by decide), h5 (by decide), (h6 (by decide)).1, (h6 (by decide)).2, (h10 (by decide)).1, (h10 (by decide)).2⟩
  · rintro ⟨q0, q1, q2, q3, q4, q5, q6⟩
    refine ⟨by decide, by decide, fun _ => q0, fun _ => q1, fun _ => q2, fun _ => ⟨q3, q4⟩, fun _ => ⟨q5, q6⟩, fun _ => by decide, fun h => absurd h (by decide), fun h => absurd h (by decide), fun h => absurd h (by decide), fun h => absurd h (by decide), fun h => absurd h (by decide)⟩
theorem fields_iff10 (rune : Int) (set : List (Int × Int)) (at' cap : Int) (name : ByteArray) (min max : Int) (lazy : Bool) : FieldsOk ({ op := 10, rune := rune, set := set, at' := at', cap := cap, name := name, min := min, max := max, lazy := lazy } : Fld) ↔ (rune = 0) ∧ (set = []) ∧ (at' = 0) ∧ (cap = 0) ∧ (name.toList = []) ∧ (0 ≤ min) ∧ (min ≤ 1000) ∧ (max = -1 ∨ (min ≤ max ∧ max ≤ 1000)) := by
  unfold FieldsOk
  simp only []
  constructor
  · intro h
    obtain ⟨-, -, h3, h4, h5, h6, h10, hl, g3, g4, g5, g6, g10⟩ := h
    refine ⟨h3 (by decide), h4 (by decide), h5 (by decide), (h6 (by decide)).1, (h6 (by decide)).2, (g10 (by first | trivial | rfl)).1.1, (g10 (by first | trivial | rfl)).1.2, (g10 (by first | trivial | rfl)).2⟩
  · rintro ⟨q0, q1, q2, q3, q4, q5, q6, q7⟩
    refine ⟨by decide, by decide, fun _ => q0, fun _ => q1, fun _ => q2, fun _ => ⟨q3, q4⟩, fun h => absurd rfl h, fun _ => by decide, fun h => absurd h (by decide), fun h => absurd h (by decide), fun h => absurd h (by decide), fun h => absurd h (by decide), fun _ => ⟨⟨q5, q6⟩, q7⟩⟩
theorem fields_iff11 (rune : Int) (set : List (Int × Int)) (at' cap : Int) (name : ByteArray) (min max : Int) (lazy : Bool) : FieldsOk ({ op := 11, rune := rune, set := set, at' := at', cap := cap, name := name, min := min, max := max, lazy := lazy } : Fld) ↔ (rune = 0) ∧ (set = []) ∧ (at' = 0) ∧ (cap = 0) ∧ (name.toList = []) ∧ (min = 0) ∧ (max = 0) ∧ (lazy = false) := by
  unfold FieldsOk
  simp only []
  constructor
  · intro h
    obtain ⟨-, -, h3, h4, h5, h6, h10, hl, g3, g4, g5, g6, g10⟩ := h
    refine ⟨h3 (by decide), h4 (by decide), h5 (by decide), (h6 (by decide)).1, (h6 (by decide)).2, (h10 (by decide)).1, (h10 (by decide)).2, (by cases lazy with | false => rfl | true => exact absurd (hl rfl) (by decide))⟩
  · rintro ⟨q0, q1, q2, q3, q4, q5, q6, q7⟩
    refine ⟨by decide, by decide, fun _ => q0, fun _ => q1, fun _ => q2, fun _ => ⟨q3, q4⟩, fun _ => ⟨q5, q6⟩, (fun h => by rw [q7] at h; cases h), fun h => absurd h (by decide), fun h => absurd h (by decide), fun h => absurd h (by decide), fun h => absurd h (by decide), fun h => absurd h (by decide)⟩
theorem fields_iff12 (rune : Int) (set : List (Int × Int)) (at' cap : Int) (name : ByteArray) (min max : Int) (lazy : Bool) : FieldsOk ({ op := 12, rune := rune, set := set, at' := at', cap := cap, name := name, min := min, max := max, lazy := lazy } : Fld) ↔ (rune = 0) ∧ (set = []) ∧ (at' = 0) ∧ (cap = 0) ∧ (name.toList = []) ∧ (min = 0) ∧ (max = 0) ∧ (lazy = false) := by
  unfold FieldsOk
  simp only []
  constructor
  · intro h
    obtain ⟨-, -, h3, h4, h5, h6, h10, hl, g3, g4, g5, g6, g10⟩ := h
    refine ⟨h3 (by decide), h4 (by decide), h5 (by decide), (h6 (by decide)).1, (h6 (by decide)).2, (h10 (by decide)).1, (h10 (by decide)).2, (by cases lazy with | false => rfl | true => exact absurd (hl rfl) (by decide))⟩
  · rintro ⟨q0, q1, q2, q3, q4, q5, q6, q7⟩
    refine ⟨by decide, by decide, fun _ => q0, fun _ => q1, fun _ => q2, fun _ => ⟨q3, q4⟩, fun _ => ⟨q5, q6⟩, (fun h => by rw [q7] at h; cases h), fun h => absurd h (by decide), fun h => absurd h (by decide), fun h => absurd h (by decide), fun h => absurd h (by decide), fun h => absurd h (by decide)⟩
end Go.Proofs.Ythffdmncdoogpaa
/- Has a tree just the fields of its Op: the document's fields, at any tree. -/
namespace Go.Proofs.Ythffdmncdoogpaa
open Go Go.RowKit

end Go.Proofs.Ythffdmncdoogpaa
/- Is all that makes a tree right so of it, but for groups, depth and weight: the document's Shaped. -/
namespace Go.Proofs.Ythffdmncdoogpaa
open Go Go.RowKit

end Go.Proofs.Ythffdmncdoogpaa
