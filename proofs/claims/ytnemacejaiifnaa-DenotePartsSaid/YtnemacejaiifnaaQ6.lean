/- Texts merged by program: NameB, TrFine, TrKids, TrName, TrLits. No condition. -/
import Derived.Test.YtnemacejaiifnaaQ2
import Derived.Test.YtnemacejaiifnaaQ4
import Derived.Test.YtnemacejaiifnaaProg
import Derived.WalkKit
import Derived.Below
import Derived.Lib.Hide
import Derived.Deep.DeepCutAuto
set_option linter.unusedVariables false
/- Is it a name: what one is, and the document's Name. -/
namespace Go.Proofs.Ytnemacejaiifnaa
open Go Go.RowKit

/-- A letter of a name; what a name's byte may be behind the first one. -/
def letterB (c : UInt8) : Bool := (decide (97 ≤ c.toNat) && decide (c.toNat ≤ 122)) || (decide (65 ≤ c.toNat) && decide (c.toNat ≤ 90)) || decide (c.toNat = 95)
def digitB (c : UInt8) : Bool := decide (48 ≤ c.toNat) && decide (c.toNat ≤ 57)
def namedFrom : Nat → List UInt8 → Bool
  | _, [] => true
  | i, c :: l => (letterB c || (decide (0 < i) && digitB c)) && namedFrom (i + 1) l
/-- Is it a name? -/
def nameB (l : List UInt8) : Bool := decide (1 ≤ l.length) && decide (l.length ≤ 32) && namedFrom 0 l
theorem namedFrom_append : ∀ (a : List UInt8) (i : Nat) (b : List UInt8), namedFrom i (a ++ b) = (namedFrom i a && namedFrom (i + a.length) b)
  | [], i, b => by simp [namedFrom]
  | c :: a, i, b => by
    rw [List.cons_append, namedFrom, namedFrom, namedFrom_append a (i + 1) b, Bool.and_assoc, List.length_cons, show i + 1 + a.length = i + (a.length + 1) by omega]
theorem letter_iff (c : UInt8) : letterB c = true ↔ (97 ≤ c.toNat ∧ c.toNat ≤ 122) ∨ (65 ≤ c.toNat ∧ c.toNat ≤ 90) ∨ c.toNat = 95 := by
  unfold letterB
  simp only [Bool.or_eq_true, Bool.and_eq_true, decide_eq_true_eq, or_assoc]
theorem digit_iff (c : UInt8) : digitB c = true ↔ 48 ≤ c.toNat ∧ c.toNat ≤ 57 := by
  unfold digitB
  simp only [Bool.and_eq_true, decide_eq_true_eq]
theorem named_snoc (l : List UInt8) (c : UInt8) : namedFrom 0 (l ++ [c]) = (namedFrom 0 l && (letterB c || (decide (0 < l.length) && digitB c))) := by
  rw [namedFrom_append]
  simp [namedFrom]
theorem named_take {l : List UInt8} {k : Nat} (h : namedFrom 0 l = true) : namedFrom 0 (l.take k) = true := by
  rw [← List.take_append_drop k l, namedFrom_append, Bool.and_eq_true] at h
  exact h.1
theorem take_snoc8 (s : ByteArray) (k : Nat) (h : k < s.size) : s.toList.take (k + 1) = s.toList.take k ++ [s[k]] := by
  rw [ByteArray.toList_eq, List.take_succ_eq_append_getElem (by simpa using h)]
  rfl
def NamePost (P : Prop) (w : World) (e : Ending) (w' : World) : Prop := ∃ B : Bool, e = .returned (.bool B) ∧ (B = true ↔ P) ∧ w' = w
end Go.Proofs.Ytnemacejaiifnaa
/- What makes a tree right but for its groups, as plain statements. No condition. -/
namespace Go.Proofs.Ytnemacejaiifnaa
open Go Go.RowKit

/-- Has a tree just the fields of its Op? -/
def FieldsOk (f : Fld) : Prop :=
  1 ≤ f.op ∧ f.op ≤ 12 ∧ (f.op ≠ 3 → f.rune = 0) ∧ (f.op ≠ 4 → f.set = []) ∧ (f.op ≠ 5 → f.at' = 0) ∧ (f.op ≠ 6 → f.cap = 0 ∧ f.name.toList = []) ∧ (f.op ≠ 10 → f.min = 0 ∧ f.max = 0) ∧ (f.lazy = true → 7 ≤ f.op ∧ f.op ≤ 10) ∧
    (f.op = 3 → 0 ≤ f.rune ∧ f.rune ≤ 1114111) ∧ (f.op = 4 → RightR f.set ∧ f.set ≠ []) ∧ (f.op = 5 → f.at' = 1 ∨ f.at' = 2 ∨ f.at' = 4 ∨ f.at' = 8 ∨ f.at' = 16 ∨ f.at' = 32) ∧
    (f.op = 6 → f.name.toList = [] ∨ nameB f.name.toList = true) ∧ (f.op = 10 → (0 ≤ f.min ∧ f.min ≤ 1000) ∧ (f.max = -1 ∨ (f.min ≤ f.max ∧ f.max ≤ 1000)))
/-- May a tree have as many Kids? -/
def KidsOk (op : Int) (n : Nat) : Prop :=
  (op = 6 ∨ op = 7 ∨ op = 8 ∨ op = 9 ∨ op = 10 → n = 1) ∧ (op = 12 → 1 ≤ n) ∧ (op = 6 ∨ op = 7 ∨ op = 8 ∨ op = 9 ∨ op = 10 ∨ op = 11 ∨ op = 12 ∨ n = 0)
/-- Is all right but for groups, depth and weight? -/
def ShapedP : Tr → Prop := Tr.para fun t l => FieldsOk t.fld ∧ KidsOk t.fld.op t.kids.length ∧ ¬ (t.fld.op = 6 ∧ t.fld.cap < 1) ∧ ∀ p ∈ l, p
theorem shapedP_iff (t : Tr) : ShapedP t ↔ FieldsOk t.fld ∧ KidsOk t.fld.op t.kids.length ∧ ¬ (t.fld.op = 6 ∧ t.fld.cap < 1) ∧ ∀ k ∈ t.kids, ShapedP k := by
  unfold ShapedP
  rw [Tr.para_eq]
  simp only [List.mem_map, forall_exists_index, and_imp, forall_apply_eq_imp_iff₂]
end Go.Proofs.Ytnemacejaiifnaa
/- How many Kids a tree may have: the document's kids. -/
namespace Go.Proofs.Ytnemacejaiifnaa
open Go Go.RowKit

/-- A bool that says P; nothing that lay has turned. -/
def SaysB (P : Prop) (w : World) (e : Ending) (w' : World) : Prop := ∃ B : Bool, e = .returned (.bool B) ∧ (B = true ↔ P) ∧ Below w.heap.size w w'

end Go.Proofs.Ytnemacejaiifnaa
/- Is it a name: the document's Name (NameB has it). -/
/- Trees written out: runes, Ops with Kids; how they lie in memory. No condition. -/
namespace Go.Proofs.Ytnemacejaiifnaa
open Go Go.RowKit

theorem rgs_nilX (w : World) : Rgs w (.slice none 0 0) [] := ⟨none, 0, rfl, Nat.le_refl _, by unfold maxLen; omega, fun _ => rfl, .inl rfl, by simp⟩
/-- The tree of one rune. -/
def runeX (r : Int) : Tr := .mk { op := 3, rune := r, set := [], at' := 0, cap := 0, name := ⟨#[]⟩, min := 0, max := 0, lazy := false } []
theorem runeX_parts (r : Int) : partsR (runeX r) = 1 := by rw [partsR_eq]; simp [runeX, Tr.kids, Tr.fld]
theorem runeX_shaped {r : Int} (h : 0 ≤ r ∧ r ≤ 1114111) : ShapedP (runeX r) := by
  rw [shapedP_iff]
  refine ⟨?_, ?_, ?_, ?_⟩
  · simp [FieldsOk, runeX, Tr.fld]; exact h
  · simp [KidsOk, runeX, Tr.fld, Tr.kids]
  · simp [runeX, Tr.fld]
  · simp [runeX, Tr.kids]
theorem runeX_tre (w : World) {r : Int} (h : 0 ≤ r ∧ r ≤ 1114111) : Tre w (runeX r) (.agg #[.int .i64 3, .slice none 0 0, .int .i32 r, .slice none 0 0, .int .i64 0, .int .i64 0, .string ⟨#[]⟩, .int .i64 0, .int .i64 0, .bool false]) := by
  rw [tre_iff]
  refine ⟨.slice none 0 0, .slice none 0 0, rfl, rgs_nilX w, ?_, none, 0, rfl, by simp [runeX, Tr.kids], by unfold maxLen; omega, by simp [runeX, Tr.kids], fun _ => rfl, .inl rfl⟩
  simp [FldOk, I64, I32, runeX, Tr.fld]
  exact ⟨by omega, by decide⟩

/-- A tree of an Op with Kids, bare but for a group's number. -/
def opX (op cap : Int) (ks : List Tr) : Tr := .mk { op := op, rune := 0, set := [], at' := 0, cap := cap, name := ⟨#[]⟩, min := 0, max := 0, lazy := false } ks
theorem opX_tre {w : World} {op cap : Int} {ks : List Tr} {v : Value} (h : Kds w ks v) (ho : 0 ≤ op ∧ op ≤ 12) (hc : 0 ≤ cap ∧ cap ≤ 1) : Tre w (opX op cap ks) (.agg #[.int .i64 op, v, .int .i32 0, .slice none 0 0, .int .i64 0, .int .i64 cap, .string ⟨#[]⟩, .int .i64 0, .int .i64 0, .bool false]) := by
  rw [tre_iff]
  refine ⟨v, .slice none 0 0, rfl, rgs_nilX w, ?_, h⟩
  simp [FldOk, I64, I32, opX, Tr.fld]
  exact ⟨by omega, by omega, by decide⟩
theorem opX_shaped {op cap : Int} {ks : List Tr} (ho : (op = 6 ∧ cap = 1 ∧ ks.length = 1) ∨ (op = 7 ∧ cap = 0 ∧ ks.length = 1) ∨ (op = 11 ∧ cap = 0)) (h : ∀ k ∈ ks, ShapedP k) : ShapedP (opX op cap ks) := by
  rw [shapedP_iff]
  refine ⟨?_, ?_, ?_, h⟩
  · rcases ho with ⟨rfl, rfl, -⟩ | ⟨rfl, rfl, -⟩ | ⟨rfl, rfl⟩ <;> simp [FieldsOk, opX, Tr.fld] <;> decide
  · rcases ho with ⟨rfl, rfl, hk⟩ | ⟨rfl, rfl, hk⟩ | ⟨rfl, rfl⟩ <;> simp [KidsOk, opX, Tr.fld, Tr.kids] <;> first | exact hk | trivial
  · rcases ho with ⟨rfl, rfl, -⟩ | ⟨rfl, rfl, -⟩ | ⟨rfl, rfl⟩ <;> simp [opX, Tr.fld]
theorem opX_parts (op cap : Int) (ks : List Tr) : partsR (opX op cap ks) = 1 + (ks.map partsR).sum := by rw [partsR_eq]; simp [opX, Tr.kids, Tr.fld]
theorem cellsAt10 {w : World} {b o : Nat} {x0 x1 x2 x3 x4 x5 x6 x7 x8 x9 : Value} (h : ∀ j, j < 10 → w.cell? ⟨b, o + j, none⟩ = #[x0, x1, x2, x3, x4, x5, x6, x7, x8, x9][j]?) : CellsAt w b o #[x0, x1, x2, x3, x4, x5, x6, x7, x8, x9] := fun j hj => by
  rw [h j hj, Array.getElem?_eq_getElem hj]
theorem kds1X {w : World} {b : Nat} {ty : TypeId} {t : Tr} {x0 x1 x2 x3 x4 x5 x6 x7 x8 x9 : Value} (h : Whole w b ty #[x0, x1, x2, x3, x4, x5, x6, x7, x8, x9]) (hT : Tre w t (.agg #[x0, x1, x2, x3, x4, x5, x6, x7, x8, x9])) : Kds w [t] (.slice (some ⟨b, 0, none⟩) 1 1) := by
  refine ⟨_, 1, rfl, Nat.le_refl _, by unfold maxLen; omega, by simp, fun e => (by cases e), .inr ⟨b, 0, rfl, trivial, fun i hi => ?_⟩⟩
  have : i = 0 := by simpa using hi
  subst this
  exact ⟨_, cellsAt10 fun j hj => by rw [h.cell]; simp, hT⟩
theorem kds3X {w : World} {b : Nat} {ty : TypeId} {t u v : Tr} {x0 x1 x2 x3 x4 x5 x6 x7 x8 x9 y0 y1 y2 y3 y4 y5 y6 y7 y8 y9 z0 z1 z2 z3 z4 z5 z6 z7 z8 z9 : Value} (h : Whole w b ty #[x0, x1, x2, x3, x4, x5, x6, x7, x8, x9, y0, y1, y2, y3, y4, y5, y6, y7, y8, y9, z0, z1, z2, z3, z4, z5, z6, z7, z8, z9])
    (hT : Tre w t (.agg #[x0, x1, x2, x3, x4, x5, x6, x7, x8, x9])) (hU : Tre w u (.agg #[y0, y1, y2, y3, y4, y5, y6, y7, y8, y9])) (hV : Tre w v (.agg #[z0, z1, z2, z3, z4, z5, z6, z7, z8, z9])) : Kds w [t, u, v] (.slice (some ⟨b, 0, none⟩) 3 3) := by
  refine ⟨_, 3, rfl, Nat.le_refl _, by unfold maxLen; omega, by simp, fun e => (by cases e), .inr ⟨b, 0, rfl, trivial, fun i hi => ?_⟩⟩
  have : i = 0 ∨ i = 1 ∨ i = 2 := by simp at hi; omega
  have ten : ∀ j, j < 10 → j = 0 ∨ j = 1 ∨ j = 2 ∨ j = 3 ∨ j = 4 ∨ j = 5 ∨ j = 6 ∨ j = 7 ∨ j = 8 ∨ j = 9 := fun j hj => by omega
  rcases this with rfl | rfl | rfl
  · exact ⟨_, cellsAt10 fun j hj => by rw [h.cell]; rcases ten j hj with rfl | rfl | rfl | rfl | rfl | rfl | rfl | rfl | rfl | rfl <;> rfl, hT⟩
  · exact ⟨_, cellsAt10 fun j hj => by rw [h.cell]; rcases ten j hj with rfl | rfl | rfl | rfl | rfl | rfl | rfl | rfl | rfl | rfl <;> rfl, hU⟩
  · exact ⟨_, cellsAt10 fun j hj => by rw [h.cell]; rcases ten j hj with rfl | rfl | rfl | rfl | rfl | rfl | rfl | rfl | rfl | rfl <;> rfl, hV⟩
end Go.Proofs.Ytnemacejaiifnaa
