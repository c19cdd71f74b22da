/- Texts merged by program: NameB, TrFine, TrKids, TrName. No condition. -/
import Derived.Test.YtaaadimkbhkpiaaDoorK2
import Derived.Test.YtaaadimkbhkpiaaDoorK4
import Derived.Test.YtaaadimkbhkpiaaDoorProg
import Derived.WalkKit
import Derived.Below
import Derived.Lib.Hide
import Derived.Deep.DeepCutAuto
set_option linter.unusedVariables false
/- Is it a name: what one is, and the document's Name. -/
namespace Go.Proofs.YtaaadimkbhkpiaaDoor
open Go Go.RowKit

/-- A letter of a name; what a name's byte may be behind the first one. -/
def letterB (c : UInt8) : Bool := (decide (97 ≤ c.toNat) && decide (c.toNat ≤ 122)) || (decide (65 ≤ c.toNat) && decide (c.toNat ≤ 90)) || decide (c.toNat = 95)
def digitB (c : UInt8) : Bool := decide (48 ≤ c.toNat) && decide (c.toNat ≤ 57)
def namedFrom : Nat → List UInt8 → Bool
  | _, [] => true
  | i, c :: l => (letterB c || (decide (0 < i) && digitB c)) && namedFrom (i + 1) l
/-- Is it a name? -/
def nameB (l : List UInt8) : Bool := decide (1 ≤ l.length) && decide (l.length ≤ 32) && namedFrom 0 l
theorem namedFrom_append : ∀ (a : List UInt8) (i : Nat) (b : List UInt8), namedFrom i (a ++ b) = (namedFrom i a && namedFrom (i + a.length) b)
  | [], i, b => by simp [namedFrom]
  | c :: a, i, b => by
    rw [List.cons_append, namedFrom, namedFrom, namedFrom_append a (i + 1) b, Bool.and_assoc, List.length_cons, show i + 1 + a.length = i + (a.length + 1) by omega]
theorem letter_iff (c : UInt8) : letterB c = true ↔ (97 ≤ c.toNat ∧ c.toNat ≤ 122) ∨ (65 ≤ c.toNat ∧ c.toNat ≤ 90) ∨ c.toNat = 95 := by
  unfold letterB
  simp only [Bool.or_eq_true, Bool.and_eq_true, decide_eq_true_eq, or_assoc]
theorem digit_iff (c : UInt8) : digitB c = true ↔ 48 ≤ c.toNat ∧ c.toNat ≤ 57 := by
  unfold digitB
  simp only [Bool.and_eq_true, decide_eq_true_eq]
theorem named_snoc (l : List UInt8) (c : UInt8) : namedFrom 0 (l ++ [c]) = (namedFrom 0 l && (letterB c || (decide (0 < l.length) && digitB c))) := by
  rw [namedFrom_append]
  simp [namedFrom]
theorem named_take {l : List UInt8} {k : Nat} (h : namedFrom 0 l = true) : namedFrom 0 (l.take k) = true := by
  rw [← List.take_append_drop k l, namedFrom_append, Bool.and_eq_true] at h
  exact h.1
theorem take_snoc8 (s : ByteArray) (k : Nat) (h : k < s.size) : s.toList.take (k + 1) = s.toList.take k ++ [s[k]] := by
  rw [ByteArray.toList_eq, List.take_succ_eq_append_getElem (by simpa using h)]
  rfl
def NamePost (P : Prop) (w : World) (e : Ending) (w' : World) : Prop := ∃ B : Bool, e = .returned (.bool B) ∧ (B = true ↔ P) ∧ w' = w
end Go.Proofs.YtaaadimkbhkpiaaDoor
/- What makes a tree right but for its groups, as plain statements. No condition. -/
namespace Go.Proofs.YtaaadimkbhkpiaaDoor
open Go Go.RowKit

/-- Has a tree just the fields of its Op? -/
def FieldsOk (f : Fld) : Prop :=
  1 ≤ f.op ∧ f.op ≤ 12 ∧ (f.op ≠ 3 → f.rune = 0) ∧ (f.op ≠ 4 → f.set = []) ∧ (f.op ≠ 5 → f.at' = 0) ∧ (f.op ≠ 6 → f.cap = 0 ∧ f.name.toList = []) ∧ (f.op ≠ 10 → f.min = 0 ∧ f.max = 0) ∧ (f.lazy = true → 7 ≤ f.op ∧ f.op ≤ 10) ∧
    (f.op = 3 → 0 ≤ f.rune ∧ f.rune ≤ 1114111) ∧ (f.op = 4 → RightR f.set ∧ f.set ≠ []) ∧ (f.op = 5 → f.at' = 1 ∨ f.at' = 2 ∨ f.at' = 4 ∨ f.at' = 8 ∨ f.at' = 16 ∨ f.at' = 32) ∧
    (f.op = 6 → f.name.toList = [] ∨ nameB f.name.toList = true) ∧ (f.op = 10 → (0 ≤ f.min ∧ f.min ≤ 1000) ∧ (f.max = -1 ∨ (f.min ≤ f.max ∧ f.max ≤ 1000)))
/-- May a tree have as many Kids? -/
def KidsOk (op : Int) (n : Nat) : Prop :=
  (op = 6 ∨ op = 7 ∨ op = 8 ∨ op = 9 ∨ op = 10 → n = 1) ∧ (op = 12 → 1 ≤ n) ∧ (op = 6 ∨ op = 7 ∨ op = 8 ∨ op = 9 ∨ op = 10 ∨ op = 11 ∨ op = 12 ∨ n = 0)
/-- Is all right but for groups, depth and weight? -/
def ShapedP : Tr → Prop := Tr.para fun t l => FieldsOk t.fld ∧ KidsOk t.fld.op t.kids.length ∧ ¬ (t.fld.op = 6 ∧ t.fld.cap < 1) ∧ ∀ p ∈ l, p
theorem shapedP_iff (t : Tr) : ShapedP t ↔ FieldsOk t.fld ∧ KidsOk t.fld.op t.kids.length ∧ ¬ (t.fld.op = 6 ∧ t.fld.cap < 1) ∧ ∀ k ∈ t.kids, ShapedP k := by
  unfold ShapedP
  rw [Tr.para_eq]
  simp only [List.mem_map, forall_exists_index, and_imp, forall_apply_eq_imp_iff₂]
end Go.Proofs.YtaaadimkbhkpiaaDoor
/- How many Kids a tree may have: the document's kids. -/
namespace Go.Proofs.YtaaadimkbhkpiaaDoor
open Go Go.RowKit

/-- A bool that says P; nothing that lay has turned. -/
def SaysB (P : Prop) (w : World) (e : Ending) (w' : World) : Prop := ∃ B : Bool, e = .returned (.bool B) ∧ (B = true ↔ P) ∧ Below w.heap.size w w'

end Go.Proofs.YtaaadimkbhkpiaaDoor
/- Is it a name: the document's Name (NameB has it). -/
