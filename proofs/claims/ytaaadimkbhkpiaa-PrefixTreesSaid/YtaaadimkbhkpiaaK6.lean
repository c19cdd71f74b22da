/- Texts merged by program: NameB, TrFine, TrKids, TrName, TrFieldsA, TrFieldsB, TrFields, TrShaped. No condition. -/
import Derived.Test.YtaaadimkbhkpiaaK2
import Derived.Test.YtaaadimkbhkpiaaK4
import Derived.Test.YtaaadimkbhkpiaaProg
import Derived.WalkKit
import Derived.Below
import Derived.Lib.Hide
import Derived.Deep.DeepCutAuto
set_option linter.unusedVariables false
/- Is it a name: what one is, and the document's Name. -/
namespace Go.Proofs.Ytaaadimkbhkpiaa
open Go Go.RowKit

/-- A letter of a name; what a name's byte may be behind the first one. -/
def letterB (c : UInt8) : Bool := (decide (97 ≤ c.toNat) && decide (c.toNat ≤ 122)) || (decide (65 ≤ c.toNat) && decide (c.toNat ≤ 90)) || decide (c.toNat = 95)
def digitB (c : UInt8) : Bool := decide (48 ≤ c.toNat) && decide (c.toNat ≤ 57)
def namedFrom : Nat → List UInt8 → Bool
  | _, [] => true
  | i, c :: l => (letterB c || (decide (0 < i) && digitB c)) && namedFrom (i + 1) l
/-- Is it a name? -/
def nameB (l : List UInt8) : Bool := decide (1 ≤ l.length) && decide (l.length ≤ 32) && namedFrom 0 l
theorem namedFrom_append : ∀ (a : List UInt8) (i : Nat) (b : List UInt8), namedFrom i (a ++ b) = (namedFrom i a && namedFrom (i + a.length) b)
  | [], i, b => by simp [namedFrom]
  | c :: a, i, b => by
    rw [List.cons_append, namedFrom, namedFrom, namedFrom_append a (i + 1) b, Bool.and_assoc, List.length_cons, show i + 1 + a.length = i + (a.length + 1) by omega]
theorem letter_iff (c : UInt8) : letterB c = true ↔ (97 ≤ c.toNat ∧ c.toNat ≤ 122) ∨ (65 ≤ c.toNat ∧ c.toNat ≤ 90) ∨ c.toNat = 95 := by
  unfold letterB
  simp only [Bool.or_eq_true, Bool.and_eq_true, decide_eq_true_eq, or_assoc]
theorem digit_iff (c : UInt8) : digitB c = true ↔ 48 ≤ c.toNat ∧ c.toNat ≤ 57 := by
  unfold digitB
  simp only [Bool.and_eq_true, decide_eq_true_eq]
theorem named_snoc (l : List UInt8) (c : UInt8) : namedFrom 0 (l ++ [c]) = (namedFrom 0 l && (letterB c || (decide (0 < l.length) && digitB c))) := by
  rw [namedFrom_append]
  simp [namedFrom]
theorem named_take {l : List UInt8} {k : Nat} (h : namedFrom 0 l = true) : namedFrom 0 (l.take k) = true := by
  rw [← List.take_append_drop k l, namedFrom_append, Bool.and_eq_true] at h
  exact h.1
theorem take_snoc8 (s : ByteArray) (k : Nat) (h : k < s.size) : s.toList.take (k + 1) = s.toList.take k ++ [s[k]] := by
  rw [ByteArray.toList_eq, List.take_succ_eq_append_getElem (by simpa using h)]
  rfl
def NamePost (P : Prop) (w : World) (e : Ending) (w' : World) : Prop := ∃ B : Bool, e = .returned (.bool B) ∧ (B = true ↔ P) ∧ w' = w
set_option maxHeartbeats 1600000 in
set_option maxRecDepth 100000 in
theorem name_any (s : ByteArray) (w : World) : Calls Try.prog 117 #[.string s] w (NamePost (nameB s.toList = true) w) := by
  obtain ⟨P, hP⟩ : ∃ P, (nameB s.toList = true) = P := ⟨_, rfl⟩
  have hl : s.toList.length = s.size := by rw [ByteArray.toList_eq]; simp
  have HP : Hid (P ↔ 1 ≤ s.size ∧ s.size ≤ 32 ∧ namedFrom 0 s.toList = true) := Lib.hid (by rw [← hP]; unfold nameB; rw [hl]; simp only [Bool.and_eq_true, decide_eq_true_eq, and_assoc])
  rw [hP]
  have HL := Lib.hid hl
  clear hP hl
  go_enter Try.func117, Try.ntmps117
  by_cases h1 : s.size < 1
  · go_wp2
    go_ret
    exact ⟨false, rfl, ⟨fun h => (by cases h), fun h => (by have := (HP.out.1 h).1; omega)⟩, rfl⟩
  by_cases h2 : 32 < s.size
  · go_wp2
    go_ret
    exact ⟨false, rfl, ⟨fun h => (by cases h), fun h => (by have := (HP.out.1 h).2.1; omega)⟩, rfl⟩
  go_wp2_with fail
  go_loop [3] (fun i => ∃ k : Nat, k ≤ s.size ∧ i = .int .i64 k ∧ namedFrom 0 (s.toList.take k) = true) (fun i => s.size - (intOf i).toNat)
  case atStart => exact ⟨0, Nat.zero_le _, rfl, rfl⟩
  case round =>
    obtain ⟨k, hk, rfl, hN⟩ := hrel
    have HN := Lib.hid hN
    clear hN
    by_cases hkn : k < s.size
    · have hsn := take_snoc8 s k hkn
      have hnx : namedFrom 0 (s.toList.take (k + 1)) = (letterB s[k] || (decide (0 < k) && digitB s[k])) := by
        rw [hsn, named_snoc, HN.out, List.length_take, HL.out, Nat.min_eq_left hk, Bool.true_and]
      have hbad : letterB s[k] = false → (decide (0 < k) && digitB s[k]) = false → ¬ namedFrom 0 s.toList = true := fun a b h => by
        have := named_take (k := k + 1) h
        rw [hnx, a, b] at this
        cases this
      have hli := letter_iff s[k]
      have hdi := digit_iff s[k]
      obtain ⟨x, hx⟩ : ∃ x : Nat, s[k].toNat = x := ⟨_, rfl⟩
      have hx255 : x < 256 := by rw [← hx]; exact UInt8.toNat_lt _
      rw [hx] at hli hdi
      have HNX := Lib.hid hnx; have HBAD := Lib.hid hbad; have HLI := Lib.hid hli; have HDI := Lib.hid hdi
      clear hsn hnx hbad hli hdi
      have hcase : (97 ≤ x ∧ x ≤ 122) ∨ (122 < x) ∨ (65 ≤ x ∧ x ≤ 90) ∨ (x = 95) ∨ (90 < x ∧ x < 95) ∨ (x = 96) ∨ (57 < x ∧ x < 65) ∨ ((48 ≤ x ∧ x ≤ 57) ∧ 0 < k) ∨ ((48 ≤ x ∧ x ≤ 57) ∧ k = 0) ∨ (x < 48) := by omega
      rcases hcase with hc | hc | hc | hc | hc | hc | hc | hc | hc | hc
      · have f97 : 97 ≤ x := by omega
        have f65 : 65 ≤ x := by omega
        have f48 : 48 ≤ x := by omega
        have f122 : decide ((x : Int) ≤ 122) = true := decide_eq_true (by omega)
        have f90 : decide ((x : Int) ≤ 90) = false := decide_eq_false (by omega)
        have f57 : decide ((x : Int) ≤ 57) = false := decide_eq_false (by omega)
        have f95 : ((x : Int) == 95) = false := beq_eq_false_iff_ne.2 (by omega)
        have hq : namedFrom 0 (s.toList.take (k + 1)) = true := by rw [HNX.out, HLI.out.2 (by omega), Bool.true_or]
        have HQ := Lib.hid hq
        clear hq hc
        go_wp2_with fail
        all_goals
          go_round
          case rel => exact ⟨k + 1, by omega, by go_num, HQ.out⟩
          case measure => simp [intOf]; omega
      · have f97 : 97 ≤ x := by omega
        have f65 : 65 ≤ x := by omega
        have f48 : 48 ≤ x := by omega
        have f122 : decide ((x : Int) ≤ 122) = false := decide_eq_false (by omega)
        have f90 : decide ((x : Int) ≤ 90) = false := decide_eq_false (by omega)
        have f57 : decide ((x : Int) ≤ 57) = false := decide_eq_false (by omega)
        have f95 : ((x : Int) == 95) = false := beq_eq_false_iff_ne.2 (by omega)
        have hnl : letterB s[k] = false := by
          cases h : letterB s[k]
          · rfl
          · have := HLI.out.1 h
            omega
        have hnd : (decide (0 < k) && digitB s[k]) = false := by
          cases h : digitB s[k]
          · simp
          · have := HDI.out.1 h
            omega
        have HQ := Lib.hid (HBAD.out hnl hnd)
        clear hnl hnd hc
        by_cases hkz : 0 < k
        · have hk0 : (0 : Int) < (k : Int) := by omega
          clear hkz
          go_wp2_with fail
          go_ret
          exact ⟨false, rfl, ⟨fun h => (by cases h), fun h => absurd (HP.out.1 h).2.2 HQ.out⟩, rfl⟩
        · obtain rfl : k = 0 := by omega
          clear hkz
          go_wp2_with fail
          go_ret
          exact ⟨false, rfl, ⟨fun h => (by cases h), fun h => absurd (HP.out.1 h).2.2 HQ.out⟩, rfl⟩
      · have f97 : ¬ 97 ≤ x := by omega
        have f65 : 65 ≤ x := by omega
        have f48 : 48 ≤ x := by omega
        have f122 : decide ((x : Int) ≤ 122) = true := decide_eq_true (by omega)
        have f90 : decide ((x : Int) ≤ 90) = true := decide_eq_true (by omega)
        have f57 : decide ((x : Int) ≤ 57) = false := decide_eq_false (by omega)
        have f95 : ((x : Int) == 95) = false := beq_eq_false_iff_ne.2 (by omega)
        have hq : namedFrom 0 (s.toList.take (k + 1)) = true := by rw [HNX.out, HLI.out.2 (by omega), Bool.true_or]
        have HQ := Lib.hid hq
        clear hq hc
        go_wp2_with fail
        all_goals
          go_round
          case rel => exact ⟨k + 1, by omega, by go_num, HQ.out⟩
          case measure => simp [intOf]; omega
      · have f97 : ¬ 97 ≤ x := by omega
        have f65 : 65 ≤ x := by omega
        have f48 : 48 ≤ x := by omega
        have f122 : decide ((x : Int) ≤ 122) = true := decide_eq_true (by omega)
        have f90 : decide ((x : Int) ≤ 90) = false := decide_eq_false (by omega)
        have f57 : decide ((x : Int) ≤ 57) = false := decide_eq_false (by omega)
        have hq : namedFrom 0 (s.toList.take (k + 1)) = true := by rw [HNX.out, HLI.out.2 (by omega), Bool.true_or]
        have HQ := Lib.hid hq
        obtain rfl : x = 95 := hc
        clear hq
        go_wp2_with fail
        all_goals
          go_round
          case rel => exact ⟨k + 1, by omega, by go_num, HQ.out⟩
          case measure => simp [intOf]; omega
      · have f97 : ¬ 97 ≤ x := by omega
        have f65 : 65 ≤ x := by omega
        have f48 : 48 ≤ x := by omega
        have f122 : decide ((x : Int) ≤ 122) = true := decide_eq_true (by omega)
        have f90 : decide ((x : Int) ≤ 90) = false := decide_eq_false (by omega)
        have f57 : decide ((x : Int) ≤ 57) = false := decide_eq_false (by omega)
        have f95 : ((x : Int) == 95) = false := beq_eq_false_iff_ne.2 (by omega)
        have hnl : letterB s[k] = false := by
          cases h : letterB s[k]
          · rfl
          · have := HLI.out.1 h
            omega
        have hnd : (decide (0 < k) && digitB s[k]) = false := by
          cases h : digitB s[k]
          · simp
          · have := HDI.out.1 h
            omega
        have HQ := Lib.hid (HBAD.out hnl hnd)
        clear hnl hnd hc
        by_cases hkz : 0 < k
        · have hk0 : (0 : Int) < (k : Int) := by omega
          clear hkz
          go_wp2_with fail
          go_ret
          exact ⟨false, rfl, ⟨fun h => (by cases h), fun h => absurd (HP.out.1 h).2.2 HQ.out⟩, rfl⟩
        · obtain rfl : k = 0 := by omega
          clear hkz
          go_wp2_with fail
          go_ret
          exact ⟨false, rfl, ⟨fun h => (by cases h), fun h => absurd (HP.out.1 h).2.2 HQ.out⟩, rfl⟩
      · have f97 : ¬ 97 ≤ x := by omega
        have f65 : 65 ≤ x := by omega
        have f48 : 48 ≤ x := by omega
        have f122 : decide ((x : Int) ≤ 122) = true := decide_eq_true (by omega)
        have f90 : decide ((x : Int) ≤ 90) = false := decide_eq_false (by omega)
        have f57 : decide ((x : Int) ≤ 57) = false := decide_eq_false (by omega)
        have f95 : ((x : Int) == 95) = false := beq_eq_false_iff_ne.2 (by omega)
        have hnl : letterB s[k] = false := by
          cases h : letterB s[k]
          · rfl
          · have := HLI.out.1 h
            omega
        have hnd : (decide (0 < k) && digitB s[k]) = false := by
          cases h : digitB s[k]
          · simp
          · have := HDI.out.1 h
            omega
        have HQ := Lib.hid (HBAD.out hnl hnd)
        clear hnl hnd hc
        by_cases hkz : 0 < k
        · have hk0 : (0 : Int) < (k : Int) := by omega
          clear hkz
          go_wp2_with fail
          go_ret
          exact ⟨false, rfl, ⟨fun h => (by cases h), fun h => absurd (HP.out.1 h).2.2 HQ.out⟩, rfl⟩
        · obtain rfl : k = 0 := by omega
          clear hkz
          go_wp2_with fail
          go_ret
          exact ⟨false, rfl, ⟨fun h => (by cases h), fun h => absurd (HP.out.1 h).2.2 HQ.out⟩, rfl⟩
      · have f97 : ¬ 97 ≤ x := by omega
        have f65 : ¬ 65 ≤ x := by omega
        have f48 : 48 ≤ x := by omega
        have f122 : decide ((x : Int) ≤ 122) = true := decide_eq_true (by omega)
        have f90 : decide ((x : Int) ≤ 90) = true := decide_eq_true (by omega)
        have f57 : decide ((x : Int) ≤ 57) = false := decide_eq_false (by omega)
        have f95 : ((x : Int) == 95) = false := beq_eq_false_iff_ne.2 (by omega)
        have hnl : letterB s[k] = false := by
          cases h : letterB s[k]
          · rfl
          · have := HLI.out.1 h
            omega
        have hnd : (decide (0 < k) && digitB s[k]) = false := by
          cases h : digitB s[k]
          · simp
          · have := HDI.out.1 h
            omega
        have HQ := Lib.hid (HBAD.out hnl hnd)
        clear hnl hnd hc
        by_cases hkz : 0 < k
        · have hk0 : (0 : Int) < (k : Int) := by omega
          clear hkz
          go_wp2_with fail
          go_ret
          exact ⟨false, rfl, ⟨fun h => (by cases h), fun h => absurd (HP.out.1 h).2.2 HQ.out⟩, rfl⟩
        · obtain rfl : k = 0 := by omega
          clear hkz
          go_wp2_with fail
          go_ret
          exact ⟨false, rfl, ⟨fun h => (by cases h), fun h => absurd (HP.out.1 h).2.2 HQ.out⟩, rfl⟩
      · have f97 : ¬ 97 ≤ x := by omega
        have f65 : ¬ 65 ≤ x := by omega
        have f48 : 48 ≤ x := by omega
        have f122 : decide ((x : Int) ≤ 122) = true := decide_eq_true (by omega)
        have f90 : decide ((x : Int) ≤ 90) = true := decide_eq_true (by omega)
        have f57 : decide ((x : Int) ≤ 57) = true := decide_eq_true (by omega)
        have f95 : ((x : Int) == 95) = false := beq_eq_false_iff_ne.2 (by omega)
        have hq : namedFrom 0 (s.toList.take (k + 1)) = true := by rw [HNX.out, HDI.out.2 (by omega), decide_eq_true hc.2]; simp
        have HQ := Lib.hid hq
        have hk0 : (0 : Int) < (k : Int) := by omega
        clear hq hc
        go_wp2_with fail
        all_goals
          go_round
          case rel => exact ⟨k + 1, by omega, by go_num, HQ.out⟩
          case measure => simp [intOf]; omega
      · have f97 : ¬ 97 ≤ x := by omega
        have f65 : ¬ 65 ≤ x := by omega
        have f48 : 48 ≤ x := by omega
        have f122 : decide ((x : Int) ≤ 122) = true := decide_eq_true (by omega)
        have f90 : decide ((x : Int) ≤ 90) = true := decide_eq_true (by omega)
        have f57 : decide ((x : Int) ≤ 57) = true := decide_eq_true (by omega)
        have f95 : ((x : Int) == 95) = false := beq_eq_false_iff_ne.2 (by omega)
        have hnl : letterB s[k] = false := by
          cases h : letterB s[k]
          · rfl
          · have := HLI.out.1 h
            omega
        have hk0 : ¬ (0 : Int) < (k : Int) := by omega
        have hnd : (decide (0 < k) && digitB s[k]) = false := by rw [decide_eq_false (by omega)]; rfl
        have HQ := Lib.hid (HBAD.out hnl hnd)
        obtain rfl : k = 0 := hc.2
        clear hnl hnd hc
        go_wp2_with fail
        go_ret
        exact ⟨false, rfl, ⟨fun h => (by cases h), fun h => absurd (HP.out.1 h).2.2 HQ.out⟩, rfl⟩
      · have f97 : ¬ 97 ≤ x := by omega
        have f65 : ¬ 65 ≤ x := by omega
        have f48 : ¬ 48 ≤ x := by omega
        have f122 : decide ((x : Int) ≤ 122) = true := decide_eq_true (by omega)
        have f90 : decide ((x : Int) ≤ 90) = true := decide_eq_true (by omega)
        have f57 : decide ((x : Int) ≤ 57) = true := decide_eq_true (by omega)
        have f95 : ((x : Int) == 95) = false := beq_eq_false_iff_ne.2 (by omega)
        have hnl : letterB s[k] = false := by
          cases h : letterB s[k]
          · rfl
          · have := HLI.out.1 h
            omega
        have hnd : (decide (0 < k) && digitB s[k]) = false := by
          cases h : digitB s[k]
          · simp
          · have := HDI.out.1 h
            omega
        have HQ := Lib.hid (HBAD.out hnl hnd)
        clear hnl hnd hc
        by_cases hkz : 0 < k
        · have hk0 : (0 : Int) < (k : Int) := by omega
          clear hkz
          go_wp2_with fail
          go_ret
          exact ⟨false, rfl, ⟨fun h => (by cases h), fun h => absurd (HP.out.1 h).2.2 HQ.out⟩, rfl⟩
        · obtain rfl : k = 0 := by omega
          clear hkz
          go_wp2_with fail
          go_ret
          exact ⟨false, rfl, ⟨fun h => (by cases h), fun h => absurd (HP.out.1 h).2.2 HQ.out⟩, rfl⟩
    · have hke : s.toList.take k = s.toList := List.take_of_length_le (by rw [HL.out]; omega)
      have hq := HN.out
      rw [hke] at hq
      have HQ := Lib.hid hq
      clear hke hq
      go_wp2_with fail
      go_ret
      exact ⟨true, rfl, ⟨fun _ => HP.out.2 ⟨by omega, by omega, HQ.out⟩, fun _ => rfl⟩, rfl⟩
end Go.Proofs.Ytaaadimkbhkpiaa
/- What makes a tree right but for its groups, as plain statements. No condition. -/
namespace Go.Proofs.Ytaaadimkbhkpiaa
open Go Go.RowKit

/-- Has a tree just the fields of its Op? -/
def FieldsOk (f : Fld) : Prop :=
  1 ≤ f.op ∧ f.op ≤ 12 ∧ (f.op ≠ 3 → f.rune = 0) ∧ (f.op ≠ 4 → f.set = []) ∧ (f.op ≠ 5 → f.at' = 0) ∧ (f.op ≠ 6 → f.cap = 0 ∧ f.name.toList = []) ∧ (f.op ≠ 10 → f.min = 0 ∧ f.max = 0) ∧ (f.lazy = true → 7 ≤ f.op ∧ f.op ≤ 10) ∧
    (f.op = 3 → 0 ≤ f.rune ∧ f.rune ≤ 1114111) ∧ (f.op = 4 → RightR f.set ∧ f.set ≠ []) ∧ (f.op = 5 → f.at' = 1 ∨ f.at' = 2 ∨ f.at' = 4 ∨ f.at' = 8 ∨ f.at' = 16 ∨ f.at' = 32) ∧
    (f.op = 6 → f.name.toList = [] ∨ nameB f.name.toList = true) ∧ (f.op = 10 → (0 ≤ f.min ∧ f.min ≤ 1000) ∧ (f.max = -1 ∨ (f.min ≤ f.max ∧ f.max ≤ 1000)))
/-- May a tree have as many Kids? -/
def KidsOk (op : Int) (n : Nat) : Prop :=
  (op = 6 ∨ op = 7 ∨ op = 8 ∨ op = 9 ∨ op = 10 → n = 1) ∧ (op = 12 → 1 ≤ n) ∧ (op = 6 ∨ op = 7 ∨ op = 8 ∨ op = 9 ∨ op = 10 ∨ op = 11 ∨ op = 12 ∨ n = 0)
/-- Is all right but for groups, depth and weight? -/
def ShapedP : Tr → Prop := Tr.para fun t l => FieldsOk t.fld ∧ KidsOk t.fld.op t.kids.length ∧ ¬ (t.fld.op = 6 ∧ t.fld.cap < 1) ∧ ∀ p ∈ l, p
theorem shapedP_iff (t : Tr) : ShapedP t ↔ FieldsOk t.fld ∧ KidsOk t.fld.op t.kids.length ∧ ¬ (t.fld.op = 6 ∧ t.fld.cap < 1) ∧ ∀ k ∈ t.kids, ShapedP k := by
  unfold ShapedP
  rw [Tr.para_eq]
  simp only [List.mem_map, forall_exists_index, and_imp, forall_apply_eq_imp_iff₂]
end Go.Proofs.Ytaaadimkbhkpiaa
/- How many Kids a tree may have: the document's kids. -/
namespace Go.Proofs.Ytaaadimkbhkpiaa
open Go Go.RowKit

/-- A bool that says P; nothing that lay has turned. -/
def SaysB (P : Prop) (w : World) (e : Ending) (w' : World) : Prop := ∃ B : Bool, e = .returned (.bool B) ∧ (B = true ↔ P) ∧ Below w.heap.size w w'

set_option maxHeartbeats 1600000 in
set_option maxRecDepth 100000 in
theorem kids_walk (op : Int) (A : Option Addr) (n c : Nat) (x2 x3 x4 x5 x6 x7 x8 x9 : Value) (w : World) (hnb : n ≤ 1172812402961) : Calls Try.prog 91 #[.agg #[.int .i64 op, .slice A n c, x2, x3, x4, x5, x6, x7, x8, x9]] w (SaysB (KidsOk op n) w) := by
  obtain ⟨P, hP⟩ : ∃ P, KidsOk op n = P := ⟨_, rfl⟩
  have HP := Lib.hid hP
  rw [hP]
  clear hP
  have HB : Hid (∀ o, Below w.heap.size w (w.alloc o)) := Lib.hid fun o => (Below.refl _ _).alloc (Nat.le_refl _) _
  go_enter Try.func91, Try.ntmps91
  by_cases h1 : op = 6 ∨ op = 7 ∨ op = 8 ∨ op = 9 ∨ op = 10
  · by_cases hn1 : n = 1
    · subst hn1
      rcases h1 with rfl | rfl | rfl | rfl | rfl
      all_goals
        go_wp2
        go_ret
        exact ⟨true, rfl, by rw [← HP.out]; simp [KidsOk], HB.out _⟩
    · have e1 : ((n : Int) == 1) = false := beq_eq_false_iff_ne.2 (by omega)
      have HN1 := Lib.hid hn1
      clear hn1
      rcases h1 with rfl | rfl | rfl | rfl | rfl
      all_goals
        go_wp2
        go_ret
        exact ⟨false, rfl, by have := HN1.out; rw [← HP.out]; simp [KidsOk, this], HB.out _⟩
  have e6 : (op == 6) = false := beq_eq_false_iff_ne.2 (fun h => h1 (.inl h))
  have e7 : (op == 7) = false := beq_eq_false_iff_ne.2 (fun h => h1 (.inr (.inl h)))
  have e8 : (op == 8) = false := beq_eq_false_iff_ne.2 (fun h => h1 (.inr (.inr (.inl h))))
  have e9 : (op == 9) = false := beq_eq_false_iff_ne.2 (fun h => h1 (.inr (.inr (.inr (.inl h)))))
  have e10 : (op == 10) = false := beq_eq_false_iff_ne.2 (fun h => h1 (.inr (.inr (.inr (.inr h)))))
  have H1 := Lib.hid h1
  by_cases h11 : op = 11
  · subst h11
    clear h1 e6 e7 e8 e9 e10
    go_wp2
    go_ret
    exact ⟨true, rfl, by rw [← HP.out]; simp [KidsOk], HB.out _⟩
  by_cases h12 : op = 12
  · subst h12
    clear h1 e6 e7 e8 e9 e10 h11
    by_cases hn1 : 1 ≤ n
    · have hz : (1 : Int) ≤ (n : Int) := by omega
      have HN1 := Lib.hid hn1
      clear hn1
      go_wp2
      go_ret
      exact ⟨true, rfl, by have := HN1.out; rw [← HP.out]; simp [KidsOk, this], HB.out _⟩
    · have hz : ¬ (1 : Int) ≤ (n : Int) := by omega
      have HN1 := Lib.hid hn1
      clear hn1
      go_wp2
      go_ret
      exact ⟨false, rfl, by have := HN1.out; rw [← HP.out]; simp [KidsOk, this], HB.out _⟩
  · have e11 : (op == 11) = false := beq_eq_false_iff_ne.2 h11
    have e12 : (op == 12) = false := beq_eq_false_iff_ne.2 h12
    have H11 := Lib.hid h11; have H12 := Lib.hid h12
    clear h1 h11 h12
    by_cases hn0 : n = 0
    · subst hn0
      go_wp2
      go_ret
      exact ⟨true, rfl, by have q1 := H1.out; have q2 := H12.out; rw [← HP.out]; unfold KidsOk; simp [q1, q2], HB.out _⟩
    · have e0 : ((n : Int) == 0) = false := beq_eq_false_iff_ne.2 (by omega)
      have HN0 := Lib.hid hn0
      clear hn0
      go_wp2
      go_ret
      exact ⟨false, rfl, by have q1 := H1.out; have q2 := H12.out; have q3 := H11.out; have q4 := HN0.out; rw [← HP.out]; unfold KidsOk; simp only [not_or] at q1; simp [q1, q2, q3, q4], HB.out _⟩
theorem kids_any (t : Tr) (v : Value) (w : World) (h : Tre w t v) : Calls Try.prog 91 #[v] w (SaysB (KidsOk t.fld.op t.kids.length) w) := by
  obtain ⟨A, n, c, a2, s, c2, hn, hs, rfl, hnb, -, -, -, -⟩ := h.opened
  rw [hn]
  exact kids_walk _ _ _ _ _ _ _ _ _ _ _ _ _ hnb
end Go.Proofs.Ytaaadimkbhkpiaa
/- Is it a name: the document's Name (NameB has it). -/
/- Has a tree just the fields of its Op: the document's fields, at each Op by itself. -/
namespace Go.Proofs.Ytaaadimkbhkpiaa
open Go Go.RowKit

theorem fields_iff1 (rune : Int) (set : List (Int × Int)) (at' cap : Int) (name : ByteArray) (min max : Int) (lazy : Bool) : FieldsOk ({ op := 1, rune := rune, set := set, at' := at', cap := cap, name := name, min := min, max := max, lazy := lazy } : Fld) ↔ (rune = 0) ∧ (set = []) ∧ (at' = 0) ∧ (cap = 0) ∧ (name.toList = []) ∧ (min = 0) ∧ (max = 0) ∧ (lazy = false) := by
  unfold FieldsOk
  simp only []
  constructor
  · intro h
    obtain ⟨-, -, h3, h4, h5, h6, h10, hl, g3, g4, g5, g6, g10⟩ := h
    refine ⟨h3 (by decide), h4 (by decide), h5 (by decide), (h6 (by decide)).1, (h6 (by decide)).2, (h10 (by decide)).1, (h10 (by decide)).2, (by cases lazy with | false => rfl | true => exact absurd (hl rfl) (by decide))⟩
  · rintro ⟨q0, q1, q2, q3, q4, q5, q6, q7⟩
    refine ⟨by decide, by decide, fun _ => q0, fun _ => q1, fun _ => q2, fun _ => ⟨q3, q4⟩, fun _ => ⟨q5, q6⟩, (fun h => by rw [q7] at h; cases h), fun h => absurd h (by decide), fun h => absurd h (by decide), fun h => absurd h (by decide), fun h => absurd h (by decide), fun h => absurd h (by decide)⟩
set_option maxHeartbeats 1600000 in
set_option maxRecDepth 100000 in
theorem fields_walk1 (x1 : Value) (rune : Int) (a2 : Option Addr) (s c2 : Nat) (set : List (Int × Int)) (at' cap : Int) (name : ByteArray) (min max : Int) (lazy : Bool) (w : World) (hS : Rgs w (.slice a2 s c2) set) (hs : set.length = s) (hsb : s ≤ 17592186044416) (hr : I32 rune) (hmn : I64 min) (hmx : I64 max) : Calls Try.prog 90 #[.agg #[.int .i64 1, x1, .int .i32 rune, .slice a2 s c2, .int .i64 at', .int .i64 cap, .string name, .int .i64 min, .int .i64 max, .bool lazy]] w (SaysB (FieldsOk ({ op := 1, rune := rune, set := set, at' := at', cap := cap, name := name, min := min, max := max, lazy := lazy } : Fld)) w) := by
  obtain ⟨P, hP⟩ : ∃ P, FieldsOk ({ op := 1, rune := rune, set := set, at' := at', cap := cap, name := name, min := min, max := max, lazy := lazy } : Fld) = P := ⟨_, rfl⟩
  have HP : Hid (P ↔ (rune = 0) ∧ (set = []) ∧ (at' = 0) ∧ (cap = 0) ∧ (name.toList = []) ∧ (min = 0) ∧ (max = 0) ∧ (lazy = false)) := Lib.hid (by rw [← hP]; exact fields_iff1 rune set at' cap name min max lazy)
  rw [hP]
  clear hP
  have HB : Hid (∀ o, Below w.heap.size w (w.alloc o)) := Lib.hid fun o => (Below.refl _ _).alloc (Nat.le_refl _) _
  have HS := Lib.hid hS; have HL := Lib.hid hs
  clear hS hs
  go_enter Try.func90, Try.ntmps90
  by_cases b0 : rune = 0
  rotate_left
  · have e1 : (rune == 0) = false := beq_eq_false_iff_ne.2 b0
    have e2 : (rune != 0) = true := bne_iff_ne.2 b0
    have G := Lib.hid b0
    clear b0
    go_wp2
    go_ret
    exact ⟨false, rfl, ⟨fun h => (by cases h), fun h => absurd ((HP.out.1 h).1) G.out⟩, HB.out _⟩
  subst b0
  by_cases b1 : s = 0
  rotate_left
  · have hz : (0 : Int) < (s : Int) := by omega
    have G : Hid (¬ set = []) := Lib.hid fun h => b1 (by rw [← HL.out, h]; rfl)
    clear b1
    go_wp2
    go_ret
    exact ⟨false, rfl, ⟨fun h => (by cases h), fun h => absurd ((HP.out.1 h).2.1) G.out⟩, HB.out _⟩
  subst b1
  have Q1 : Hid (set = []) := Lib.hid (List.eq_nil_of_length_eq_zero HL.out)
  by_cases b2 : at' = 0
  rotate_left
  · have e1 : (at' == 0) = false := beq_eq_false_iff_ne.2 b2
    have e2 : (at' != 0) = true := bne_iff_ne.2 b2
    have G := Lib.hid b2
    clear b2
    go_wp2
    go_ret
    exact ⟨false, rfl, ⟨fun h => (by cases h), fun h => absurd ((HP.out.1 h).2.2.1) G.out⟩, HB.out _⟩
  subst b2
  by_cases b3 : cap = 0
  rotate_left
  · have e1 : (cap == 0) = false := beq_eq_false_iff_ne.2 b3
    have e2 : (cap != 0) = true := bne_iff_ne.2 b3
    have G := Lib.hid b3
    clear b3
    go_wp2
    go_ret
    exact ⟨false, rfl, ⟨fun h => (by cases h), fun h => absurd ((HP.out.1 h).2.2.2.1) G.out⟩, HB.out _⟩
  subst b3
  by_cases b4 : name.toList = []
  rotate_left
  · have e1 : name.toList.isEmpty = false := by simpa using b4
    have G := Lib.hid b4
    clear b4
    go_wp2
    go_ret
    exact ⟨false, rfl, ⟨fun h => (by cases h), fun h => absurd ((HP.out.1 h).2.2.2.2.1) G.out⟩, HB.out _⟩
  have nm1 : name.toList.isEmpty = true := by simpa using b4
  have Q4 := Lib.hid b4
  clear b4
  by_cases b5 : min = 0
  rotate_left
  · have e1 : (min == 0) = false := beq_eq_false_iff_ne.2 b5
    have e2 : (min != 0) = true := bne_iff_ne.2 b5
    have G := Lib.hid b5
    clear b5
    go_wp2
    go_ret
    exact ⟨false, rfl, ⟨fun h => (by cases h), fun h => absurd ((HP.out.1 h).2.2.2.2.2.1) G.out⟩, HB.out _⟩
  subst b5
  by_cases b6 : max = 0
  rotate_left
  · have e1 : (max == 0) = false := beq_eq_false_iff_ne.2 b6
    have e2 : (max != 0) = true := bne_iff_ne.2 b6
    have G := Lib.hid b6
    clear b6
    go_wp2
    go_ret
    exact ⟨false, rfl, ⟨fun h => (by cases h), fun h => absurd ((HP.out.1 h).2.2.2.2.2.2.1) G.out⟩, HB.out _⟩
  subst b6
  cases lazy
  rotate_left
  · go_wp2
    go_ret
    exact ⟨false, rfl, ⟨fun h => (by cases h), fun h => absurd ((HP.out.1 h).2.2.2.2.2.2.2) (by simp)⟩, HB.out _⟩
  go_wp2
  go_ret
  exact ⟨true, rfl, ⟨fun _ => HP.out.2 ⟨(by first | trivial | rfl), Q1.out, (by first | trivial | rfl), (by first | trivial | rfl), Q4.out, (by first | trivial | rfl), (by first | trivial | rfl), (by first | trivial | rfl)⟩, fun _ => rfl⟩, HB.out _⟩
theorem fields_iff2 (rune : Int) (set : List (Int × Int)) (at' cap : Int) (name : ByteArray) (min max : Int) (lazy : Bool) : FieldsOk ({ op := 2, rune := rune, set := set, at' := at', cap := cap, name := name, min := min, max := max, lazy := lazy } : Fld) ↔ (rune = 0) ∧ (set = []) ∧ (at' = 0) ∧ (cap = 0) ∧ (name.toList = []) ∧ (min = 0) ∧ (max = 0) ∧ (lazy = false) := by
  unfold FieldsOk
  simp only []
  constructor
  · intro h
    obtain ⟨-, -, h3, h4, h5, h6, h10, hl, g3, g4, g5, g6, g10⟩ := h
    refine ⟨h3 (by decide), h4 (by decide), h5 (by decide), (h6 (by decide)).1, (h6 (by decide)).2, (h10 (by decide)).1, (h10 (by decide)).2, (by cases lazy with | false => rfl | true => exact absurd (hl rfl) (by decide))⟩
  · rintro ⟨q0, q1, q2, q3, q4, q5, q6, q7⟩
    refine ⟨by decide, by decide, fun _ => q0, fun _ => q1, fun _ => q2, fun _ => ⟨q3, q4⟩, fun _ => ⟨q5, q6⟩, (fun h => by rw [q7] at h; cases h), fun h => absurd h (by decide), fun h => absurd h (by decide), fun h => absurd h (by decide), fun h => absurd h (by decide), fun h => absurd h (by decide)⟩
set_option maxHeartbeats 1600000 in
set_option maxRecDepth 100000 in
theorem fields_walk2 (x1 : Value) (rune : Int) (a2 : Option Addr) (s c2 : Nat) (set : List (Int × Int)) (at' cap : Int) (name : ByteArray) (min max : Int) (lazy : Bool) (w : World) (hS : Rgs w (.slice a2 s c2) set) (hs : set.length = s) (hsb : s ≤ 17592186044416) (hr : I32 rune) (hmn : I64 min) (hmx : I64 max) : Calls Try.prog 90 #[.agg #[.int .i64 2, x1, .int .i32 rune, .slice a2 s c2, .int .i64 at', .int .i64 cap, .string name, .int .i64 min, .int .i64 max, .bool lazy]] w (SaysB (FieldsOk ({ op := 2, rune := rune, set := set, at' := at', cap := cap, name := name, min := min, max := max, lazy := lazy } : Fld)) w) := by
  obtain ⟨P, hP⟩ : ∃ P, FieldsOk ({ op := 2, rune := rune, set := set, at' := at', cap := cap, name := name, min := min, max := max, lazy := lazy } : Fld) = P := ⟨_, rfl⟩
  have HP : Hid (P ↔ (rune = 0) ∧ (set = []) ∧ (at' = 0) ∧ (cap = 0) ∧ (name.toList = []) ∧ (min = 0) ∧ (max = 0) ∧ (lazy = false)) := Lib.hid (by rw [← hP]; exact fields_iff2 rune set at' cap name min max lazy)
  rw [hP]
  clear hP
  have HB : Hid (∀ o, Below w.heap.size w (w.alloc o)) := Lib.hid fun o => (Below.refl _ _).alloc (Nat.le_refl _) _
  have HS := Lib.hid hS; have HL := Lib.hid hs
  clear hS hs
  go_enter Try.func90, Try.ntmps90
  by_cases b0 : rune = 0
  rotate_left
  · have e1 : (rune == 0) = false := beq_eq_false_iff_ne.2 b0
    have e2 : (rune != 0) = true := bne_iff_ne.2 b0
    have G := Lib.hid b0
    clear b0
    go_wp2
    go_ret
    exact ⟨false, rfl, ⟨fun h => (by cases h), fun h => absurd ((HP.out.1 h).1) G.out⟩, HB.out _⟩
  subst b0
  by_cases b1 : s = 0
  rotate_left
  · have hz : (0 : Int) < (s : Int) := by omega
    have G : Hid (¬ set = []) := Lib.hid fun h => b1 (by rw [← HL.out, h]; rfl)
    clear b1
    go_wp2
    go_ret
    exact ⟨false, rfl, ⟨fun h => (by cases h), fun h => absurd ((HP.out.1 h).2.1) G.out⟩, HB.out _⟩
  subst b1
  have Q1 : Hid (set = []) := Lib.hid (List.eq_nil_of_length_eq_zero HL.out)
  by_cases b2 : at' = 0
  rotate_left
  · have e1 : (at' == 0) = false := beq_eq_false_iff_ne.2 b2
    have e2 : (at' != 0) = true := bne_iff_ne.2 b2
    have G := Lib.hid b2
    clear b2
    go_wp2
    go_ret
    exact ⟨false, rfl, ⟨fun h => (by cases h), fun h => absurd ((HP.out.1 h).2.2.1) G.out⟩, HB.out _⟩
  subst b2
  by_cases b3 : cap = 0
  rotate_left
  · have e1 : (cap == 0) = false := beq_eq_false_iff_ne.2 b3
    have e2 : (cap != 0) = true := bne_iff_ne.2 b3
    have G := Lib.hid b3
    clear b3
    go_wp2
    go_ret
    exact ⟨false, rfl, ⟨fun h => (by cases h), fun h => absurd ((HP.out.1 h).2.2.2.1) G.out⟩, HB.out _⟩
  subst b3
  by_cases b4 : name.toList = []
  rotate_left
  · have e1 : name.toList.isEmpty = false := by simpa using b4
    have G := Lib.hid b4
    clear b4
    go_wp2
    go_ret
    exact ⟨false, rfl, ⟨fun h => (by cases h), fun h => absurd ((HP.out.1 h).2.2.2.2.1) G.out⟩, HB.out _⟩
  have nm1 : name.toList.isEmpty = true := by simpa using b4
  have Q4 := Lib.hid b4
  clear b4
  by_cases b5 : min = 0
  rotate_left
  · have e1 : (min == 0) = false := beq_eq_false_iff_ne.2 b5
    have e2 : (min != 0) = true := bne_iff_ne.2 b5
    have G := Lib.hid b5
    clear b5
    go_wp2
    go_ret
    exact ⟨false, rfl, ⟨fun h => (by cases h), fun h => absurd ((HP.out.1 h).2.2.2.2.2.1) G.out⟩, HB.out _⟩
  subst b5
  by_cases b6 : max = 0
  rotate_left
  · have e1 : (max == 0) = false := beq_eq_false_iff_ne.2 b6
    have e2 : (max != 0) = true := bne_iff_ne.2 b6
    have G := Lib.hid b6
    clear b6
    go_wp2
    go_ret
    exact ⟨false, rfl, ⟨fun h => (by cases h), fun h => absurd ((HP.out.1 h).2.2.2.2.2.2.1) G.out⟩, HB.out _⟩
  subst b6
  cases lazy
  rotate_left
  · go_wp2
    go_ret
    exact ⟨false, rfl, ⟨fun h => (by cases h), fun h => absurd ((HP.out.1 h).2.2.2.2.2.2.2) (by simp)⟩, HB.out _⟩
  go_wp2
  go_ret
  exact ⟨true, rfl, ⟨fun _ => HP.out.2 ⟨(by first | trivial | rfl), Q1.out, (by first | trivial | rfl), (by first | trivial | rfl), Q4.out, (by first | trivial | rfl), (by first | trivial | rfl), (by first | trivial | rfl)⟩, fun _ => rfl⟩, HB.out _⟩
theorem fields_iff3 (rune : Int) (set : List (Int × Int)) (at' cap : Int) (name : ByteArray) (min max : Int) (lazy : Bool) : FieldsOk ({ op := 3, rune := rune, set := set, at' := at', cap := cap, name := name, min := min, max := max, lazy := lazy } : Fld) ↔ (set = []) ∧ (at' = 0) ∧ (cap = 0) ∧ (name.toList = []) ∧ (min = 0) ∧ (max = 0) ∧ (lazy = false) ∧ (0 ≤ rune) ∧ (rune ≤ 1114111) := by
  unfold FieldsOk
  simp only []
  constructor
  · intro h
    obtain ⟨-, -, h3, h4, h5, h6, h10, hl, g3, g4, g5, g6, g10⟩ := h
    refine ⟨h4 (by decide), h5 (by decide), (h6 (by decide)).1, (h6 (by decide)).2, (h10 (by decide)).1, (h10 (by decide)).2, (by cases lazy with | false => rfl | true => exact absurd (hl rfl) (by decide)), (g3 (by first | trivial | rfl)).1, (g3 (by first | trivial | rfl)).2⟩
  · rintro ⟨q0, q1, q2, q3, q4, q5, q6, q7, q8⟩
    refine ⟨by decide, by decide, fun h => absurd rfl h, fun _ => q0, fun _ => q1, fun _ => ⟨q2, q3⟩, fun _ => ⟨q4, q5⟩, (fun h => by rw [q6] at h; cases h), fun _ => ⟨q7, q8⟩, fun h => absurd h (by decide), fun h => absurd h (by decide), fun h => absurd h (by decide), fun h => absurd h (by decide)⟩
set_option maxHeartbeats 1600000 in
set_option maxRecDepth 100000 in
theorem fields_walk3 (x1 : Value) (rune : Int) (a2 : Option Addr) (s c2 : Nat) (set : List (Int × Int)) (at' cap : Int) (name : ByteArray) (min max : Int) (lazy : Bool) (w : World) (hS : Rgs w (.slice a2 s c2) set) (hs : set.length = s) (hsb : s ≤ 17592186044416) (hr : I32 rune) (hmn : I64 min) (hmx : I64 max) : Calls Try.prog 90 #[.agg #[.int .i64 3, x1, .int .i32 rune, .slice a2 s c2, .int .i64 at', .int .i64 cap, .string name, .int .i64 min, .int .i64 max, .bool lazy]] w (SaysB (FieldsOk ({ op := 3, rune := rune, set := set, at' := at', cap := cap, name := name, min := min, max := max, lazy := lazy } : Fld)) w) := by
  obtain ⟨P, hP⟩ : ∃ P, FieldsOk ({ op := 3, rune := rune, set := set, at' := at', cap := cap, name := name, min := min, max := max, lazy := lazy } : Fld) = P := ⟨_, rfl⟩
  have HP : Hid (P ↔ (set = []) ∧ (at' = 0) ∧ (cap = 0) ∧ (name.toList = []) ∧ (min = 0) ∧ (max = 0) ∧ (lazy = false) ∧ (0 ≤ rune) ∧ (rune ≤ 1114111)) := Lib.hid (by rw [← hP]; exact fields_iff3 rune set at' cap name min max lazy)
  rw [hP]
  clear hP
  have HB : Hid (∀ o, Below w.heap.size w (w.alloc o)) := Lib.hid fun o => (Below.refl _ _).alloc (Nat.le_refl _) _
  have HS := Lib.hid hS; have HL := Lib.hid hs
  clear hS hs
  go_enter Try.func90, Try.ntmps90
  by_cases b0 : s = 0
  rotate_left
  · have hz : (0 : Int) < (s : Int) := by omega
    have G : Hid (¬ set = []) := Lib.hid fun h => b0 (by rw [← HL.out, h]; rfl)
    clear b0
    go_wp2
    go_ret
    exact ⟨false, rfl, ⟨fun h => (by cases h), fun h => absurd ((HP.out.1 h).1) G.out⟩, HB.out _⟩
  subst b0
  have Q0 : Hid (set = []) := Lib.hid (List.eq_nil_of_length_eq_zero HL.out)
  by_cases b1 : at' = 0
  rotate_left
  · have e1 : (at' == 0) = false := beq_eq_false_iff_ne.2 b1
    have e2 : (at' != 0) = true := bne_iff_ne.2 b1
    have G := Lib.hid b1
    clear b1
    go_wp2
    go_ret
    exact ⟨false, rfl, ⟨fun h => (by cases h), fun h => absurd ((HP.out.1 h).2.1) G.out⟩, HB.out _⟩
  subst b1
  by_cases b2 : cap = 0
  rotate_left
  · have e1 : (cap == 0) = false := beq_eq_false_iff_ne.2 b2
    have e2 : (cap != 0) = true := bne_iff_ne.2 b2
    have G := Lib.hid b2
    clear b2
    go_wp2
    go_ret
    exact ⟨false, rfl, ⟨fun h => (by cases h), fun h => absurd ((HP.out.1 h).2.2.1) G.out⟩, HB.out _⟩
  subst b2
  by_cases b3 : name.toList = []
  rotate_left
  · have e1 : name.toList.isEmpty = false := by simpa using b3
    have G := Lib.hid b3
    clear b3
    go_wp2
    go_ret
    exact ⟨false, rfl, ⟨fun h => (by cases h), fun h => absurd ((HP.out.1 h).2.2.2.1) G.out⟩, HB.out _⟩
  have nm1 : name.toList.isEmpty = true := by simpa using b3
  have Q3 := Lib.hid b3
  clear b3
  by_cases b4 : min = 0
  rotate_left
  · have e1 : (min == 0) = false := beq_eq_false_iff_ne.2 b4
    have e2 : (min != 0) = true := bne_iff_ne.2 b4
    have G := Lib.hid b4
    clear b4
    go_wp2
    go_ret
    exact ⟨false, rfl, ⟨fun h => (by cases h), fun h => absurd ((HP.out.1 h).2.2.2.2.1) G.out⟩, HB.out _⟩
  subst b4
  by_cases b5 : max = 0
  rotate_left
  · have e1 : (max == 0) = false := beq_eq_false_iff_ne.2 b5
    have e2 : (max != 0) = true := bne_iff_ne.2 b5
    have G := Lib.hid b5
    clear b5
    go_wp2
    go_ret
    exact ⟨false, rfl, ⟨fun h => (by cases h), fun h => absurd ((HP.out.1 h).2.2.2.2.2.1) G.out⟩, HB.out _⟩
  subst b5
  cases lazy
  rotate_left
  · go_wp2
    go_ret
    exact ⟨false, rfl, ⟨fun h => (by cases h), fun h => absurd ((HP.out.1 h).2.2.2.2.2.2.1) (by simp)⟩, HB.out _⟩
  by_cases g1 : 0 ≤ rune
  rotate_left
  · have G := Lib.hid g1
    go_wp2
    go_ret
    exact ⟨false, rfl, ⟨fun h => (by cases h), fun h => absurd ((HP.out.1 h).2.2.2.2.2.2.2.1) (by have := G.out; omega)⟩, HB.out _⟩
  by_cases g2 : rune ≤ 1114111
  rotate_left
  · have G := Lib.hid g2
    go_wp2
    go_ret
    exact ⟨false, rfl, ⟨fun h => (by cases h), fun h => absurd ((HP.out.1 h).2.2.2.2.2.2.2.2) (by have := G.out; omega)⟩, HB.out _⟩
  go_wp2
  go_ret
  exact ⟨true, rfl, ⟨fun _ => HP.out.2 ⟨Q0.out, (by first | trivial | rfl), (by first | trivial | rfl), Q3.out, (by first | trivial | rfl), (by first | trivial | rfl), (by first | trivial | rfl), g1, g2⟩, fun _ => rfl⟩, HB.out _⟩
theorem fields_iff4 (rune : Int) (set : List (Int × Int)) (at' cap : Int) (name : ByteArray) (min max : Int) (lazy : Bool) : FieldsOk ({ op := 4, rune := rune, set := set, at' := at', cap := cap, name := name, min := min, max := max, lazy := lazy } : Fld) ↔ (rune = 0) ∧ (at' = 0) ∧ (cap = 0) ∧ (name.toList = []) ∧ (min = 0) ∧ (max = 0) ∧ (lazy = false) ∧ (RightR set) ∧ (set ≠ []) := by
  unfold FieldsOk
  simp only []
  constructor
  · intro h
    obtain ⟨-, -, h3, h4, h5, h6, h10, hl, g3, g4, g5, g6, g10⟩ := h
    refine ⟨h3 (by decide), h5 (by decide), (h6 (by decide)).1, (h6 (by decide)).2, (h10 (by decide)).1, (h10 (by decide)).2, (by cases lazy with | false => rfl | true => exact absurd (hl rfl) (by decide)), (g4 (by first | trivial | rfl)).1, (g4 (by first | trivial | rfl)).2⟩
  · rintro ⟨q0, q1, q2, q3, q4, q5, q6, q7, q8⟩
    refine ⟨by decide, by decide, fun _ => q0, fun h => absurd rfl h, fun _ => q1, fun _ => ⟨q2, q3⟩, fun _ => ⟨q4, q5⟩, (fun h => by rw [q6] at h; cases h), fun h => absurd h (by decide), fun _ => ⟨q7, q8⟩, fun h => absurd h (by decide), fun h => absurd h (by decide), fun h => absurd h (by decide)⟩
set_option maxHeartbeats 1600000 in
set_option maxRecDepth 100000 in
theorem fields_walk4 (x1 : Value) (rune : Int) (a2 : Option Addr) (s c2 : Nat) (set : List (Int × Int)) (at' cap : Int) (name : ByteArray) (min max : Int) (lazy : Bool) (w : World) (hS : Rgs w (.slice a2 s c2) set) (hs : set.length = s) (hsb : s ≤ 17592186044416) (hr : I32 rune) (hmn : I64 min) (hmx : I64 max) : Calls Try.prog 90 #[.agg #[.int .i64 4, x1, .int .i32 rune, .slice a2 s c2, .int .i64 at', .int .i64 cap, .string name, .int .i64 min, .int .i64 max, .bool lazy]] w (SaysB (FieldsOk ({ op := 4, rune := rune, set := set, at' := at', cap := cap, name := name, min := min, max := max, lazy := lazy } : Fld)) w) := by
  obtain ⟨P, hP⟩ : ∃ P, FieldsOk ({ op := 4, rune := rune, set := set, at' := at', cap := cap, name := name, min := min, max := max, lazy := lazy } : Fld) = P := ⟨_, rfl⟩
  have HP : Hid (P ↔ (rune = 0) ∧ (at' = 0) ∧ (cap = 0) ∧ (name.toList = []) ∧ (min = 0) ∧ (max = 0) ∧ (lazy = false) ∧ (RightR set) ∧ (set ≠ [])) := Lib.hid (by rw [← hP]; exact fields_iff4 rune set at' cap name min max lazy)
  rw [hP]
  clear hP
  have HB : Hid (∀ o, Below w.heap.size w (w.alloc o)) := Lib.hid fun o => (Below.refl _ _).alloc (Nat.le_refl _) _
  have HS := Lib.hid hS; have HL := Lib.hid hs
  clear hS hs
  go_enter Try.func90, Try.ntmps90
  by_cases b0 : rune = 0
  rotate_left
  · have e1 : (rune == 0) = false := beq_eq_false_iff_ne.2 b0
    have e2 : (rune != 0) = true := bne_iff_ne.2 b0
    have G := Lib.hid b0
    clear b0
    go_wp2
    go_ret
    exact ⟨false, rfl, ⟨fun h => (by cases h), fun h => absurd ((HP.out.1 h).1) G.out⟩, HB.out _⟩
  subst b0
  by_cases b1 : at' = 0
  rotate_left
  · have e1 : (at' == 0) = false := beq_eq_false_iff_ne.2 b1
    have e2 : (at' != 0) = true := bne_iff_ne.2 b1
    have G := Lib.hid b1
    clear b1
    go_wp2
    go_ret
    exact ⟨false, rfl, ⟨fun h => (by cases h), fun h => absurd ((HP.out.1 h).2.1) G.out⟩, HB.out _⟩
  subst b1
  by_cases b2 : cap = 0
  rotate_left
  · have e1 : (cap == 0) = false := beq_eq_false_iff_ne.2 b2
    have e2 : (cap != 0) = true := bne_iff_ne.2 b2
    have G := Lib.hid b2
    clear b2
    go_wp2
    go_ret
    exact ⟨false, rfl, ⟨fun h => (by cases h), fun h => absurd ((HP.out.1 h).2.2.1) G.out⟩, HB.out _⟩
  subst b2
  by_cases b3 : name.toList = []
  rotate_left
  · have e1 : name.toList.isEmpty = false := by simpa using b3
    have G := Lib.hid b3
    clear b3
    go_wp2
    go_ret
    exact ⟨false, rfl, ⟨fun h => (by cases h), fun h => absurd ((HP.out.1 h).2.2.2.1) G.out⟩, HB.out _⟩
  have nm1 : name.toList.isEmpty = true := by simpa using b3
  have Q3 := Lib.hid b3
  clear b3
  by_cases b4 : min = 0
  rotate_left
  · have e1 : (min == 0) = false := beq_eq_false_iff_ne.2 b4
    have e2 : (min != 0) = true := bne_iff_ne.2 b4
    have G := Lib.hid b4
    clear b4
    go_wp2
    go_ret
    exact ⟨false, rfl, ⟨fun h => (by cases h), fun h => absurd ((HP.out.1 h).2.2.2.2.1) G.out⟩, HB.out _⟩
  subst b4
  by_cases b5 : max = 0
  rotate_left
  · have e1 : (max == 0) = false := beq_eq_false_iff_ne.2 b5
    have e2 : (max != 0) = true := bne_iff_ne.2 b5
    have G := Lib.hid b5
    clear b5
    go_wp2
    go_ret
    exact ⟨false, rfl, ⟨fun h => (by cases h), fun h => absurd ((HP.out.1 h).2.2.2.2.2.1) G.out⟩, HB.out _⟩
  subst b5
  cases lazy
  rotate_left
  · go_wp2
    go_ret
    exact ⟨false, rfl, ⟨fun h => (by cases h), fun h => absurd ((HP.out.1 h).2.2.2.2.2.2.1) (by simp)⟩, HB.out _⟩
  have HRR := Lib.hid (fun W (hb : Below w.heap.size w W) => rright_any (.slice a2 s c2) set W (HS.out.below hb))
  go_wp2_with fail
  refine (HRR.out _ (HB.out _)).mono ?_
  rintro e w2 ⟨B, rfl, hq, dq, rfl⟩
  have HB2 := Lib.hid (below_two (HB.out (.cells #[.int .i64 4, x1, .int .i32 0, .slice a2 s c2, .int .i64 0, .int .i64 0, .string name, .int .i64 0, .int .i64 0, .bool false] 27)) (below_draws _ dq))
  cases B
  · have NR := Lib.hid (show ¬ RightR set from fun h => absurd (hq.2 h) (by simp))
    clear hq
    go_wp2
    go_ret
    exact ⟨false, rfl, ⟨fun h => (by cases h), fun h => absurd (HP.out.1 h).2.2.2.2.2.2.2.1 NR.out⟩, HB2.out⟩
  · have YR := Lib.hid (hq.1 rfl)
    clear hq
    by_cases g2 : s = 0
    · subst g2
      have G : Hid (set = []) := Lib.hid (List.eq_nil_of_length_eq_zero HL.out)
      go_wp2
      go_ret
      exact ⟨false, rfl, ⟨fun h => (by cases h), fun h => absurd G.out (HP.out.1 h).2.2.2.2.2.2.2.2⟩, HB2.out⟩
    · have hz : (0 : Int) < (s : Int) := by omega
      have hz2 : 0 < s := by omega
      have hz3 : decide (0 < s) = true := decide_eq_true hz2
      have G : Hid (¬ set = []) := Lib.hid fun h => g2 (by rw [← HL.out, h]; rfl)
      clear g2
      go_wp2
      go_ret
      exact ⟨true, rfl, ⟨fun _ => HP.out.2 ⟨(by first | trivial | rfl), (by first | trivial | rfl), (by first | trivial | rfl), Q3.out, (by first | trivial | rfl), (by first | trivial | rfl), (by first | trivial | rfl), YR.out, G.out⟩, fun _ => rfl⟩, HB2.out⟩
theorem fields_iff5 (rune : Int) (set : List (Int × Int)) (at' cap : Int) (name : ByteArray) (min max : Int) (lazy : Bool) : FieldsOk ({ op := 5, rune := rune, set := set, at' := at', cap := cap, name := name, min := min, max := max, lazy := lazy } : Fld) ↔ (rune = 0) ∧ (set = []) ∧ (cap = 0) ∧ (name.toList = []) ∧ (min = 0) ∧ (max = 0) ∧ (lazy = false) ∧ (at' = 1 ∨ at' = 2 ∨ at' = 4 ∨ at' = 8 ∨ at' = 16 ∨ at' = 32) := by
  unfold FieldsOk
  simp only []
  constructor
  · intro h
    obtain ⟨-, -, h3, h4, h5, h6, h10, hl, g3, g4, g5, g6, g10⟩ := h
    refine ⟨h3 (by decide), h4 (by decide), (h6 (by decide)).1, (h6 (by decide)).2, (h10 (by decide)).1, (h10 (by decide)).2, (by cases lazy with | false => rfl | true => exact absurd (hl rfl) (by decide)), g5 (by first | trivial | rfl)⟩
  · rintro ⟨q0, q1, q2, q3, q4, q5, q6, q7⟩
    refine ⟨by decide, by decide, fun _ => q0, fun _ => q1, fun h => absurd rfl h, fun _ => ⟨q2, q3⟩, fun _ => ⟨q4, q5⟩, (fun h => by rw [q6] at h; cases h), fun h => absurd h (by decide), fun h => absurd h (by decide), fun _ => q7, fun h => absurd h (by decide), fun h => absurd h (by decide)⟩
set_option maxHeartbeats 1600000 in
set_option maxRecDepth 100000 in
theorem fields_walk5 (x1 : Value) (rune : Int) (a2 : Option Addr) (s c2 : Nat) (set : List (Int × Int)) (at' cap : Int) (name : ByteArray) (min max : Int) (lazy : Bool) (w : World) (hS : Rgs w (.slice a2 s c2) set) (hs : set.length = s) (hsb : s ≤ 17592186044416) (hr : I32 rune) (hmn : I64 min) (hmx : I64 max) : Calls Try.prog 90 #[.agg #[.int .i64 5, x1, .int .i32 rune, .slice a2 s c2, .int .i64 at', .int .i64 cap, .string name, .int .i64 min, .int .i64 max, .bool lazy]] w (SaysB (FieldsOk ({ op := 5, rune := rune, set := set, at' := at', cap := cap, name := name, min := min, max := max, lazy := lazy } : Fld)) w) := by
  obtain ⟨P, hP⟩ : ∃ P, FieldsOk ({ op := 5, rune := rune, set := set, at' := at', cap := cap, name := name, min := min, max := max, lazy := lazy } : Fld) = P := ⟨_, rfl⟩
  have HP : Hid (P ↔ (rune = 0) ∧ (set = []) ∧ (cap = 0) ∧ (name.toList = []) ∧ (min = 0) ∧ (max = 0) ∧ (lazy = false) ∧ (at' = 1 ∨ at' = 2 ∨ at' = 4 ∨ at' = 8 ∨ at' = 16 ∨ at' = 32)) := Lib.hid (by rw [← hP]; exact fields_iff5 rune set at' cap name min max lazy)
  rw [hP]
  clear hP
  have HB : Hid (∀ o, Below w.heap.size w (w.alloc o)) := Lib.hid fun o => (Below.refl _ _).alloc (Nat.le_refl _) _
  have HS := Lib.hid hS; have HL := Lib.hid hs
  clear hS hs
  go_enter Try.func90, Try.ntmps90
  by_cases b0 : rune = 0
  rotate_left
  · have e1 : (rune == 0) = false := beq_eq_false_iff_ne.2 b0
    have e2 : (rune != 0) = true := bne_iff_ne.2 b0
    have G := Lib.hid b0
    clear b0
    go_wp2
    go_ret
    exact ⟨false, rfl, ⟨fun h => (by cases h), fun h => absurd ((HP.out.1 h).1) G.out⟩, HB.out _⟩
  subst b0
  by_cases b1 : s = 0
  rotate_left
  · have hz : (0 : Int) < (s : Int) := by omega
    have G : Hid (¬ set = []) := Lib.hid fun h => b1 (by rw [← HL.out, h]; rfl)
    clear b1
    go_wp2
    go_ret
    exact ⟨false, rfl, ⟨fun h => (by cases h), fun h => absurd ((HP.out.1 h).2.1) G.out⟩, HB.out _⟩
  subst b1
  have Q1 : Hid (set = []) := Lib.hid (List.eq_nil_of_length_eq_zero HL.out)
  by_cases b2 : cap = 0
  rotate_left
  · have e1 : (cap == 0) = false := beq_eq_false_iff_ne.2 b2
    have e2 : (cap != 0) = true := bne_iff_ne.2 b2
    have G := Lib.hid b2
    clear b2
    go_wp2
    go_ret
    exact ⟨false, rfl, ⟨fun h => (by cases h), fun h => absurd ((HP.out.1 h).2.2.1) G.out⟩, HB.out _⟩
  subst b2
  by_cases b3 : name.toList = []
  rotate_left
  · have e1 : name.toList.isEmpty = false := by simpa using b3
    have G := Lib.hid b3
    clear b3
    go_wp2
    go_ret
    exact ⟨false, rfl, ⟨fun h => (by cases h), fun h => absurd ((HP.out.1 h).2.2.2.1) G.out⟩, HB.out _⟩
  have nm1 : name.toList.isEmpty = true := by simpa using b3
  have Q3 := Lib.hid b3
  clear b3
  by_cases b4 : min = 0
  rotate_left
  · have e1 : (min == 0) = false := beq_eq_false_iff_ne.2 b4
    have e2 : (min != 0) = true := bne_iff_ne.2 b4
    have G := Lib.hid b4
    clear b4
    go_wp2
    go_ret
    exact ⟨false, rfl, ⟨fun h => (by cases h), fun h => absurd ((HP.out.1 h).2.2.2.2.1) G.out⟩, HB.out _⟩
  subst b4
  by_cases b5 : max = 0
  rotate_left
  · have e1 : (max == 0) = false := beq_eq_false_iff_ne.2 b5
    have e2 : (max != 0) = true := bne_iff_ne.2 b5
    have G := Lib.hid b5
    clear b5
    go_wp2
    go_ret
    exact ⟨false, rfl, ⟨fun h => (by cases h), fun h => absurd ((HP.out.1 h).2.2.2.2.2.1) G.out⟩, HB.out _⟩
  subst b5
  cases lazy
  rotate_left
  · go_wp2
    go_ret
    exact ⟨false, rfl, ⟨fun h => (by cases h), fun h => absurd ((HP.out.1 h).2.2.2.2.2.2.1) (by simp)⟩, HB.out _⟩
  by_cases g1 : at' = 1
  · subst g1
    go_wp2
    go_ret
    exact ⟨true, rfl, ⟨fun _ => HP.out.2 ⟨(by first | trivial | rfl), Q1.out, (by first | trivial | rfl), Q3.out, (by first | trivial | rfl), (by first | trivial | rfl), (by first | trivial | rfl), (by decide)⟩, fun _ => rfl⟩, HB.out _⟩
  have e1 : (at' == 1) = false := beq_eq_false_iff_ne.2 g1
  by_cases g2 : at' = 2
  · subst g2
    go_wp2
    go_ret
    exact ⟨true, rfl, ⟨fun _ => HP.out.2 ⟨(by first | trivial | rfl), Q1.out, (by first | trivial | rfl), Q3.out, (by first | trivial | rfl), (by first | trivial | rfl), (by first | trivial | rfl), (by decide)⟩, fun _ => rfl⟩, HB.out _⟩
  have e2 : (at' == 2) = false := beq_eq_false_iff_ne.2 g2
  by_cases g4 : at' = 4
  · subst g4
    go_wp2
    go_ret
    exact ⟨true, rfl, ⟨fun _ => HP.out.2 ⟨(by first | trivial | rfl), Q1.out, (by first | trivial | rfl), Q3.out, (by first | trivial | rfl), (by first | trivial | rfl), (by first | trivial | rfl), (by decide)⟩, fun _ => rfl⟩, HB.out _⟩
  have e4 : (at' == 4) = false := beq_eq_false_iff_ne.2 g4
  by_cases g8 : at' = 8
  · subst g8
    go_wp2
    go_ret
    exact ⟨true, rfl, ⟨fun _ => HP.out.2 ⟨(by first | trivial | rfl), Q1.out, (by first | trivial | rfl), Q3.out, (by first | trivial | rfl), (by first | trivial | rfl), (by first | trivial | rfl), (by decide)⟩, fun _ => rfl⟩, HB.out _⟩
  have e8 : (at' == 8) = false := beq_eq_false_iff_ne.2 g8
  by_cases g16 : at' = 16
  · subst g16
    go_wp2
    go_ret
    exact ⟨true, rfl, ⟨fun _ => HP.out.2 ⟨(by first | trivial | rfl), Q1.out, (by first | trivial | rfl), Q3.out, (by first | trivial | rfl), (by first | trivial | rfl), (by first | trivial | rfl), (by decide)⟩, fun _ => rfl⟩, HB.out _⟩
  have e16 : (at' == 16) = false := beq_eq_false_iff_ne.2 g16
  by_cases g32 : at' = 32
  · subst g32
    go_wp2
    go_ret
    exact ⟨true, rfl, ⟨fun _ => HP.out.2 ⟨(by first | trivial | rfl), Q1.out, (by first | trivial | rfl), Q3.out, (by first | trivial | rfl), (by first | trivial | rfl), (by first | trivial | rfl), (by decide)⟩, fun _ => rfl⟩, HB.out _⟩
  have e32 : (at' == 32) = false := beq_eq_false_iff_ne.2 g32
  have G : Hid (¬ (at' = 1 ∨ at' = 2 ∨ at' = 4 ∨ at' = 8 ∨ at' = 16 ∨ at' = 32)) := Lib.hid (by omega)
  clear g1 g2 g4 g8 g16 g32
  go_wp2
  go_ret
  exact ⟨false, rfl, ⟨fun h => (by cases h), fun h => absurd ((HP.out.1 h).2.2.2.2.2.2.2) G.out⟩, HB.out _⟩
theorem fields_iff6 (rune : Int) (set : List (Int × Int)) (at' cap : Int) (name : ByteArray) (min max : Int) (lazy : Bool) : FieldsOk ({ op := 6, rune := rune, set := set, at' := at', cap := cap, name := name, min := min, max := max, lazy := lazy } : Fld) ↔ (rune = 0) ∧ (set = []) ∧ (at' = 0) ∧ (min = 0) ∧ (max = 0) ∧ (lazy = false) ∧ (name.toList = [] ∨ nameB name.toList = true) := by
  unfold FieldsOk
  simp only []
  constructor
  · intro h
    obtain ⟨-, -, h3, h4, h5, h6, h10, hl, g3, g4, g5, g6, g10⟩ := h
    refine ⟨h3 (by decide), h4 (by decide), h5 (by decide), (h10 (by decide)).1, (h10 (by decide)).2, (by cases lazy with | false => rfl | true => exact absurd (hl rfl) (by decide)), g6 (by first | trivial | rfl)⟩
  · rintro ⟨q0, q1, q2, q3, q4, q5, q6⟩
    refine ⟨by decide, by decide, fun _ => q0, fun _ => q1, fun _ => q2, fun h => absurd rfl h, fun _ => ⟨q3, q4⟩, (fun h => by rw [q5] at h; cases h), fun h => absurd h (by decide), fun h => absurd h (by decide), fun h => absurd h (by decide), fun _ => q6, fun h => absurd h (by decide)⟩
set_option maxHeartbeats 1600000 in
set_option maxRecDepth 100000 in
theorem fields_walk6 (x1 : Value) (rune : Int) (a2 : Option Addr) (s c2 : Nat) (set : List (Int × Int)) (at' cap : Int) (name : ByteArray) (min max : Int) (lazy : Bool) (w : World) (hS : Rgs w (.slice a2 s c2) set) (hs : set.length = s) (hsb : s ≤ 17592186044416) (hr : I32 rune) (hmn : I64 min) (hmx : I64 max) : Calls Try.prog 90 #[.agg #[.int .i64 6, x1, .int .i32 rune, .slice a2 s c2, .int .i64 at', .int .i64 cap, .string name, .int .i64 min, .int .i64 max, .bool lazy]] w (SaysB (FieldsOk ({ op := 6, rune := rune, set := set, at' := at', cap := cap, name := name, min := min, max := max, lazy := lazy } : Fld)) w) := by
  obtain ⟨P, hP⟩ : ∃ P, FieldsOk ({ op := 6, rune := rune, set := set, at' := at', cap := cap, name := name, min := min, max := max, lazy := lazy } : Fld) = P := ⟨_, rfl⟩
  have HP : Hid (P ↔ (rune = 0) ∧ (set = []) ∧ (at' = 0) ∧ (min = 0) ∧ (max = 0) ∧ (lazy = false) ∧ (name.toList = [] ∨ nameB name.toList = true)) := Lib.hid (by rw [← hP]; exact fields_iff6 rune set at' cap name min max lazy)
  rw [hP]
  clear hP
  have HB : Hid (∀ o, Below w.heap.size w (w.alloc o)) := Lib.hid fun o => (Below.refl _ _).alloc (Nat.le_refl _) _
  have HS := Lib.hid hS; have HL := Lib.hid hs
  clear hS hs
  go_enter Try.func90, Try.ntmps90
  by_cases b0 : rune = 0
  rotate_left
  · have e1 : (rune == 0) = false := beq_eq_false_iff_ne.2 b0
    have e2 : (rune != 0) = true := bne_iff_ne.2 b0
    have G := Lib.hid b0
    clear b0
    go_wp2
    go_ret
    exact ⟨false, rfl, ⟨fun h => (by cases h), fun h => absurd ((HP.out.1 h).1) G.out⟩, HB.out _⟩
  subst b0
  by_cases b1 : s = 0
  rotate_left
  · have hz : (0 : Int) < (s : Int) := by omega
    have G : Hid (¬ set = []) := Lib.hid fun h => b1 (by rw [← HL.out, h]; rfl)
    clear b1
    go_wp2
    go_ret
    exact ⟨false, rfl, ⟨fun h => (by cases h), fun h => absurd ((HP.out.1 h).2.1) G.out⟩, HB.out _⟩
  subst b1
  have Q1 : Hid (set = []) := Lib.hid (List.eq_nil_of_length_eq_zero HL.out)
  by_cases b2 : at' = 0
  rotate_left
  · have e1 : (at' == 0) = false := beq_eq_false_iff_ne.2 b2
    have e2 : (at' != 0) = true := bne_iff_ne.2 b2
    have G := Lib.hid b2
    clear b2
    go_wp2
    go_ret
    exact ⟨false, rfl, ⟨fun h => (by cases h), fun h => absurd ((HP.out.1 h).2.2.1) G.out⟩, HB.out _⟩
  subst b2
  by_cases b3 : min = 0
  rotate_left
  · have e1 : (min == 0) = false := beq_eq_false_iff_ne.2 b3
    have e2 : (min != 0) = true := bne_iff_ne.2 b3
    have G := Lib.hid b3
    clear b3
    go_wp2
    go_ret
    exact ⟨false, rfl, ⟨fun h => (by cases h), fun h => absurd ((HP.out.1 h).2.2.2.1) G.out⟩, HB.out _⟩
  subst b3
  by_cases b4 : max = 0
  rotate_left
  · have e1 : (max == 0) = false := beq_eq_false_iff_ne.2 b4
    have e2 : (max != 0) = true := bne_iff_ne.2 b4
    have G := Lib.hid b4
    clear b4
    go_wp2
    go_ret
    exact ⟨false, rfl, ⟨fun h => (by cases h), fun h => absurd ((HP.out.1 h).2.2.2.2.1) G.out⟩, HB.out _⟩
  subst b4
  cases lazy
  rotate_left
  · go_wp2
    go_ret
    exact ⟨false, rfl, ⟨fun h => (by cases h), fun h => absurd ((HP.out.1 h).2.2.2.2.2.1) (by simp)⟩, HB.out _⟩
  have HRR := Lib.hid (fun W => name_any name W)
  go_wp2_with fail
  refine (HRR.out _).mono ?_
  rintro e w2 ⟨B, rfl, hq, rfl⟩
  have HNB : Hid (B = false → ¬ nameB name.toList = true) := Lib.hid fun hb h => by rw [hb] at hq; exact absurd (hq.2 h) (by simp)
  have HYB : Hid (B = true → nameB name.toList = true) := Lib.hid hq.1
  clear hq
  by_cases nz : name.toList = []
  · have nm1 : name.toList.isEmpty = true := by simpa using nz
    have NZ := Lib.hid nz
    clear nz HNB HYB
    cases B
    all_goals
      go_wp2
      go_ret
      exact ⟨true, rfl, ⟨fun _ => HP.out.2 ⟨(by first | trivial | rfl), Q1.out, (by first | trivial | rfl), (by first | trivial | rfl), (by first | trivial | rfl), (by first | trivial | rfl), (.inl NZ.out)⟩, fun _ => rfl⟩, HB.out _⟩
  · have nm1 : name.toList.isEmpty = false := by simpa using nz
    have NZ := Lib.hid nz
    clear nz
    cases B
    · have NB := Lib.hid (HNB.out rfl)
      clear HNB HYB
      go_wp2
      go_ret
      exact ⟨false, rfl, ⟨fun h => (by cases h), fun h => absurd ((HP.out.1 h).2.2.2.2.2.2) (fun g => g.elim NZ.out NB.out)⟩, HB.out _⟩
    · have YB := Lib.hid (HYB.out rfl)
      clear HNB HYB
      go_wp2
      go_ret
      exact ⟨true, rfl, ⟨fun _ => HP.out.2 ⟨(by first | trivial | rfl), Q1.out, (by first | trivial | rfl), (by first | trivial | rfl), (by first | trivial | rfl), (by first | trivial | rfl), (.inr YB.out)⟩, fun _ => rfl⟩, HB.out _⟩
end Go.Proofs.Ytaaadimkbhkpiaa
/- Has a tree just the fields of its Op: the document's fields, at each Op by itself. -/
namespace Go.Proofs.Ytaaadimkbhkpiaa
open Go Go.RowKit

theorem fields_iff7 (rune : Int) (set : List (Int × Int)) (at' cap : Int) (name : ByteArray) (min max : Int) (lazy : Bool) : FieldsOk ({ op := 7, rune := rune, set := set, at' := at', cap := cap, name := name, min := min, max := max, lazy := lazy } : Fld) ↔ (rune = 0) ∧ (set = []) ∧ (at' = 0) ∧ (cap = 0) ∧ (name.toList = []) ∧ (min = 0) ∧ (max = 0) := by
  unfold FieldsOk
  simp only []
  constructor
  · intro h
    obtain ⟨-, -, h3, h4, h5, h6, h10, hl, g3, g4, g5, g6, g10⟩ := h
    refine ⟨h3 (by decide), h4 (by decide), h5 (by decide), (h6 (by decide)).1, (h6 (by decide)).2, (h10 (by decide)).1, (h10 (by decide)).2⟩
  · rintro ⟨q0, q1, q2, q3, q4, q5, q6⟩
    refine ⟨by decide, by decide, fun _ => q0, fun _ => q1, fun _ => q2, fun _ => ⟨q3, q4⟩, fun _ => ⟨q5, q6⟩, fun _ => by decide, fun h => absurd h (by decide), fun h => absurd h (by decide), fun h => absurd h (by decide), fun h => absurd h (by decide), fun h => absurd h (by decide)⟩
set_option maxHeartbeats 1600000 in
set_option maxRecDepth 100000 in
theorem fields_walk7 (x1 : Value) (rune : Int) (a2 : Option Addr) (s c2 : Nat) (set : List (Int × Int)) (at' cap : Int) (name : ByteArray) (min max : Int) (lazy : Bool) (w : World) (hS : Rgs w (.slice a2 s c2) set) (hs : set.length = s) (hsb : s ≤ 17592186044416) (hr : I32 rune) (hmn : I64 min) (hmx : I64 max) : Calls Try.prog 90 #[.agg #[.int .i64 7, x1, .int .i32 rune, .slice a2 s c2, .int .i64 at', .int .i64 cap, .string name, .int .i64 min, .int .i64 max, .bool lazy]] w (SaysB (FieldsOk ({ op := 7, rune := rune, set := set, at' := at', cap := cap, name := name, min := min, max := max, lazy := lazy } : Fld)) w) := by
  obtain ⟨P, hP⟩ : ∃ P, FieldsOk ({ op := 7, rune := rune, set := set, at' := at', cap := cap, name := name, min := min, max := max, lazy := lazy } : Fld) = P := ⟨_, rfl⟩
  have HP : Hid (P ↔ (rune = 0) ∧ (set = []) ∧ (at' = 0) ∧ (cap = 0) ∧ (name.toList = []) ∧ (min = 0) ∧ (max = 0)) := Lib.hid (by rw [← hP]; exact fields_iff7 rune set at' cap name min max lazy)
  rw [hP]
  clear hP
  have HB : Hid (∀ o, Below w.heap.size w (w.alloc o)) := Lib.hid fun o => (Below.refl _ _).alloc (Nat.le_refl _) _
  have HS := Lib.hid hS; have HL := Lib.hid hs
  clear hS hs
  go_enter Try.func90, Try.ntmps90
  by_cases b0 : rune = 0
  rotate_left
  · have e1 : (rune == 0) = false := beq_eq_false_iff_ne.2 b0
    have e2 : (rune != 0) = true := bne_iff_ne.2 b0
    have G := Lib.hid b0
    clear b0
    go_wp2
    go_ret
    exact ⟨false, rfl, ⟨fun h => (by cases h), fun h => absurd ((HP.out.1 h).1) G.out⟩, HB.out _⟩
  subst b0
  by_cases b1 : s = 0
  rotate_left
  · have hz : (0 : Int) < (s : Int) := by omega
    have G : Hid (¬ set = []) := Lib.hid fun h => b1 (by rw [← HL.out, h]; rfl)
    clear b1
    go_wp2
    go_ret
    exact ⟨false, rfl, ⟨fun h => (by cases h), fun h => absurd ((HP.out.1 h).2.1) G.out⟩, HB.out _⟩
  subst b1
  have Q1 : Hid (set = []) := Lib.hid (List.eq_nil_of_length_eq_zero HL.out)
  by_cases b2 : at' = 0
  rotate_left
  · have e1 : (at' == 0) = false := beq_eq_false_iff_ne.2 b2
    have e2 : (at' != 0) = true := bne_iff_ne.2 b2
    have G := Lib.hid b2
    clear b2
    go_wp2
    go_ret
    exact ⟨false, rfl, ⟨fun h => (by cases h), fun h => absurd ((HP.out.1 h).2.2.1) G.out⟩, HB.out _⟩
  subst b2
  by_cases b3 : cap = 0
  rotate_left
  · have e1 : (cap == 0) = false := beq_eq_false_iff_ne.2 b3
    have e2 : (cap != 0) = true := bne_iff_ne.2 b3
    have G := Lib.hid b3
    clear b3
    go_wp2
    go_ret
    exact ⟨false, rfl, ⟨fun h => (by cases h), fun h => absurd ((HP.out.1 h).2.2.2.1) G.out⟩, HB.out _⟩
  subst b3
  by_cases b4 : name.toList = []
  rotate_left
  · have e1 : name.toList.isEmpty = false := by simpa using b4
    have G := Lib.hid b4
    clear b4
    go_wp2
    go_ret
    exact ⟨false, rfl, ⟨fun h => (by cases h), fun h => absurd ((HP.out.1 h).2.2.2.2.1) G.out⟩, HB.out _⟩
  have nm1 : name.toList.isEmpty = true := by simpa using b4
  have Q4 := Lib.hid b4
  clear b4
  by_cases b5 : min = 0
  rotate_left
  · have e1 : (min == 0) = false := beq_eq_false_iff_ne.2 b5
    have e2 : (min != 0) = true := bne_iff_ne.2 b5
    have G := Lib.hid b5
    clear b5
    go_wp2
    go_ret
    exact ⟨false, rfl, ⟨fun h => (by cases h), fun h => absurd ((HP.out.1 h).2.2.2.2.2.1) G.out⟩, HB.out _⟩
  subst b5
  by_cases b6 : max = 0
  rotate_left
  · have e1 : (max == 0) = false := beq_eq_false_iff_ne.2 b6
    have e2 : (max != 0) = true := bne_iff_ne.2 b6
    have G := Lib.hid b6
    clear b6
    go_wp2
    go_ret
    exact ⟨false, rfl, ⟨fun h => (by cases h), fun h => absurd ((HP.out.1 h).2.2.2.2.2.2) G.out⟩, HB.out _⟩
  subst b6
  cases lazy
  all_goals
    go_wp2
    go_ret
    exact ⟨true, rfl, ⟨fun _ => HP.out.2 ⟨(by first | trivial | rfl), Q1.out, (by first | trivial | rfl), (by first | trivial | rfl), Q4.out, (by first | trivial | rfl), (by first | trivial | rfl)⟩, fun _ => rfl⟩, HB.out _⟩
theorem fields_iff8 (rune : Int) (set : List (Int × Int)) (at' cap : Int) (name : ByteArray) (min max : Int) (lazy : Bool) : FieldsOk ({ op := 8, rune := rune, set := set, at' := at', cap := cap, name := name, min := min, max := max, lazy := lazy } : Fld) ↔ (rune = 0) ∧ (set = []) ∧ (at' = 0) ∧ (cap = 0) ∧ (name.toList = []) ∧ (min = 0) ∧ (max = 0) := by
  unfold FieldsOk
  simp only []
  constructor
  · intro h
    obtain ⟨-, -, h3, h4, h5, h6, h10, hl, g3, g4, g5, g6, g10⟩ := h
    refine ⟨h3 (by decide), h4 (by decide), h5 (by decide), (h6 (by decide)).1, (h6 (by decide)).2, (h10 (by decide)).1, (h10 (by decide)).2⟩
  · rintro ⟨q0, q1, q2, q3, q4, q5, q6⟩
    refine ⟨by decide, by decide, fun _ => q0, fun _ => q1, fun _ => q2, fun _ => ⟨q3, q4⟩, fun _ => ⟨q5, q6⟩, fun _ => by decide, fun h => absurd h (by decide), fun h => absurd h (by decide), fun h => absurd h (by decide), fun h => absurd h (by decide), fun h => absurd h (by decide)⟩
set_option maxHeartbeats 1600000 in
set_option maxRecDepth 100000 in
theorem fields_walk8 (x1 : Value) (rune : Int) (a2 : Option Addr) (s c2 : Nat) (set : List (Int × Int)) (at' cap : Int) (name : ByteArray) (min max : Int) (lazy : Bool) (w : World) (hS : Rgs w (.slice a2 s c2) set) (hs : set.length = s) (hsb : s ≤ 17592186044416) (hr : I32 rune) (hmn : I64 min) (hmx : I64 max) : Calls Try.prog 90 #[.agg #[.int .i64 8, x1, .int .i32 rune, .slice a2 s c2, .int .i64 at', .int .i64 cap, .string name, .int .i64 min, .int .i64 max, .bool lazy]] w (SaysB (FieldsOk ({ op := 8, rune := rune, set := set, at' := at', cap := cap, name := name, min := min, max := max, lazy := lazy } : Fld)) w) := by
  obtain ⟨P, hP⟩ : ∃ P, FieldsOk ({ op := 8, rune := rune, set := set, at' := at', cap := cap, name := name, min := min, max := max, lazy := lazy } : Fld) = P := ⟨_, rfl⟩
  have HP : Hid (P ↔ (rune = 0) ∧ (set = []) ∧ (at' = 0) ∧ (cap = 0) ∧ (name.toList = []) ∧ (min = 0) ∧ (max = 0)) := Lib.hid (by rw [← hP]; exact fields_iff8 rune set at' cap name min max lazy)
  rw [hP]
  clear hP
  have HB : Hid (∀ o, Below w.heap.size w (w.alloc o)) := Lib.hid fun o => (Below.refl _ _).alloc (Nat.le_refl _) _
  have HS := Lib.hid hS; have HL := Lib.hid hs
  clear hS hs
  go_enter Try.func90, Try.ntmps90
  by_cases b0 : rune = 0
  rotate_left
  · have e1 : (rune == 0) = false := beq_eq_false_iff_ne.2 b0
    have e2 : (rune != 0) = true := bne_iff_ne.2 b0
    have G := Lib.hid b0
    clear b0
    go_wp2
    go_ret
    exact ⟨false, rfl, ⟨fun h => (by cases h), fun h => absurd ((HP.out.1 h).1) G.out⟩, HB.out _⟩
  subst b0
  by_cases b1 : s = 0
  rotate_left
  · have hz : (0 : Int) < (s : Int) := by omega
    have G : Hid (¬ set = []) := Lib.hid fun h => b1 (by rw [← HL.out, h]; rfl)
    clear b1
    go_wp2
    go_ret
    exact ⟨false, rfl, ⟨fun h => (by cases h), fun h => absurd ((HP.out.1 h).2.1) G.out⟩, HB.out _⟩
  subst b1
  have Q1 : Hid (set = []) := Lib.hid (List.eq_nil_of_length_eq_zero HL.out)
  by_cases b2 : at' = 0
  rotate_left
  · have e1 : (at' == 0) = false := beq_eq_false_iff_ne.2 b2
    have e2 : (at' != 0) = true := bne_iff_ne.2 b2
    have G := Lib.hid b2
    clear b2
    go_wp2
    go_ret
    exact ⟨false, rfl, ⟨fun h => (by cases h), fun h => absurd ((HP.out.1 h).2.2.1) G.out⟩, HB.out _⟩
  subst b2
  by_cases b3 : cap = 0
  rotate_left
  · have e1 : (cap == 0) = false := beq_eq_false_iff_ne.2 b3
    have e2 : (cap != 0) = true := bne_iff_ne.2 b3
    have G := Lib.hid b3
    clear b3
    go_wp2
    go_ret
    exact ⟨false, rfl, ⟨fun h => (by cases h), fun h => absurd ((HP.out.1 h).2.2.2.1) G.out⟩, HB.out _⟩
  subst b3
  by_cases b4 : name.toList = []
  rotate_left
  · have e1 : name.toList.isEmpty = false := by simpa using b4
    have G := Lib.hid b4
    clear b4
    go_wp2
    go_ret
    exact ⟨false, rfl, ⟨fun h => (by cases h), fun h => absurd ((HP.out.1 h).2.2.2.2.1) G.out⟩, HB.out _⟩
  have nm1 : name.toList.isEmpty = true := by simpa using b4
  have Q4 := Lib.hid b4
  clear b4
  by_cases b5 : min = 0
  rotate_left
  · have e1 : (min == 0) = false := beq_eq_false_iff_ne.2 b5
    have e2 : (min != 0) = true := bne_iff_ne.2 b5
    have G := Lib.hid b5
    clear b5
    go_wp2
    go_ret
    exact ⟨false, rfl, ⟨fun h => (by cases h), fun h => absurd ((HP.out.1 h).2.2.2.2.2.1) G.out⟩, HB.out _⟩
  subst b5
  by_cases b6 : max = 0
  rotate_left
  · have e1 : (max == 0) = false := beq_eq_false_iff_ne.2 b6
    have e2 : (max != 0) = true := bne_iff_ne.2 b6
    have G := Lib.hid b6
    clear b6
    go_wp2
    go_ret
    exact ⟨false, rfl, ⟨fun h => (by cases h), fun h => absurd ((HP.out.1 h).2.2.2.2.2.2) G.out⟩, HB.out _⟩
  subst b6
  cases lazy
  all_goals
    go_wp2
    go_ret
    exact ⟨true, rfl, ⟨fun _ => HP.out.2 ⟨(by first | trivial | rfl), Q1.out, (by first | trivial | rfl), (by first | trivial | rfl), Q4.out, (by first | trivial | rfl), (by first | trivial | rfl)⟩, fun _ => rfl⟩, HB.out _⟩
theorem fields_iff9 (rune : Int) (set : List (Int × Int)) (at' cap : Int) (name : ByteArray) (min max : Int) (lazy : Bool) : FieldsOk ({ op := 9, rune := rune, set := set, at' := at', cap := cap, name := name, min := min, max := max, lazy := lazy } : Fld) ↔ (rune = 0) ∧ (set = []) ∧ (at' = 0) ∧ (cap = 0) ∧ (name.toList = []) ∧ (min = 0) ∧ (max = 0) := by
  unfold FieldsOk
  simp only []
  constructor
  · intro h
    obtain ⟨-, -, h3, h4, h5, h6, h10, hl, g3, g4, g5, g6, g10⟩ := h
    refine ⟨h3 (by decide), h4 (by decide), h5 (by decide), (h6 (by decide)).1, (h6 (by decide)).2, (h10 (by decide)).1, (h10 (by decide)).2⟩
  · rintro ⟨q0, q1, q2, q3, q4, q5, q6⟩
    refine ⟨by decide, by decide, fun _ => q0, fun _ => q1, fun _ => q2, fun _ => ⟨q3, q4⟩, fun _ => ⟨q5, q6⟩, fun _ => by decide, fun h => absurd h (by decide), fun h => absurd h (by decide), fun h => absurd h (by decide), fun h => absurd h (by decide), fun h => absurd h (by decide)⟩
set_option maxHeartbeats 1600000 in
set_option maxRecDepth 100000 in
theorem fields_walk9 (x1 : Value) (rune : Int) (a2 : Option Addr) (s c2 : Nat) (set : List (Int × Int)) (at' cap : Int) (name : ByteArray) (min max : Int) (lazy : Bool) (w : World) (hS : Rgs w (.slice a2 s c2) set) (hs : set.length = s) (hsb : s ≤ 17592186044416) (hr : I32 rune) (hmn : I64 min) (hmx : I64 max) : Calls Try.prog 90 #[.agg #[.int .i64 9, x1, .int .i32 rune, .slice a2 s c2, .int .i64 at', .int .i64 cap, .string name, .int .i64 min, .int .i64 max, .bool lazy]] w (SaysB (FieldsOk ({ op := 9, rune := rune, set := set, at' := at', cap := cap, name := name, min := min, max := max, lazy := lazy } : Fld)) w) := by
  obtain ⟨P, hP⟩ : ∃ P, FieldsOk ({ op := 9, rune := rune, set := set, at' := at', cap := cap, name := name, min := min, max := max, lazy := lazy } : Fld) = P := ⟨_, rfl⟩
  have HP : Hid (P ↔ (rune = 0) ∧ (set = []) ∧ (at' = 0) ∧ (cap = 0) ∧ (name.toList = []) ∧ (min = 0) ∧ (max = 0)) := Lib.hid (by rw [← hP]; exact fields_iff9 rune set at' cap name min max lazy)
  rw [hP]
  clear hP
  have HB : Hid (∀ o, Below w.heap.size w (w.alloc o)) := Lib.hid fun o => (Below.refl _ _).alloc (Nat.le_refl _) _
  have HS := Lib.hid hS; have HL := Lib.hid hs
  clear hS hs
  go_enter Try.func90, Try.ntmps90
  by_cases b0 : rune = 0
  rotate_left
  · have e1 : (rune == 0) = false := beq_eq_false_iff_ne.2 b0
    have e2 : (rune != 0) = true := bne_iff_ne.2 b0
    have G := Lib.hid b0
    clear b0
    go_wp2
    go_ret
    exact ⟨false, rfl, ⟨fun h => (by cases h), fun h => absurd ((HP.out.1 h).1) G.out⟩, HB.out _⟩
  subst b0
  by_cases b1 : s = 0
  rotate_left
  · have hz : (0 : Int) < (s : Int) := by omega
    have G : Hid (¬ set = []) := Lib.hid fun h => b1 (by rw [← HL.out, h]; rfl)
    clear b1
    go_wp2
    go_ret
    exact ⟨false, rfl, ⟨fun h => (by cases h), fun h => absurd ((HP.out.1 h).2.1) G.out⟩, HB.out _⟩
  subst b1
  have Q1 : Hid (set = []) := Lib.hid (List.eq_nil_of_length_eq_zero HL.out)
  by_cases b2 : at' = 0
  rotate_left
  · have e1 : (at' == 0) = false := beq_eq_false_iff_ne.2 b2
    have e2 : (at' != 0) = true := bne_iff_ne.2 b2
    have G := Lib.hid b2
    clear b2
    go_wp2
    go_ret
    exact ⟨false, rfl, ⟨fun h => (by cases h), fun h => absurd ((HP.out.1 h).2.2.1) G.out⟩, HB.out _⟩
  subst b2
  by_cases b3 : cap = 0
  rotate_left
  · have e1 : (cap == 0) = false := beq_eq_false_iff_ne.2 b3
    have e2 : (cap != 0) = true := bne_iff_ne.2 b3
    have G := Lib.hid b3
    clear b3
    go_wp2
    go_ret
    exact ⟨false, rfl, ⟨fun h => (by cases h), fun h => absurd ((HP.out.1 h).2.2.2.1) G.out⟩, HB.out _⟩
  subst b3
  by_cases b4 : name.toList = []
  rotate_left
  · have e1 : name.toList.isEmpty = false := by simpa using b4
    have G := Lib.hid b4
    clear b4
    go_wp2
    go_ret
    exact ⟨false, rfl, ⟨fun h => (by cases h), fun h => absurd ((HP.out.1 h).2.2.2.2.1) G.out⟩, HB.out _⟩
  have nm1 : name.toList.isEmpty = true := by simpa using b4
  have Q4 := Lib.hid b4
  clear b4
  by_cases b5 : min = 0
  rotate_left
  · have e1 : (min == 0) = false := beq_eq_false_iff_ne.2 b5
    have e2 : (min != 0) = true := bne_iff_ne.2 b5
    have G := Lib.hid b5
    clear b5
    go_wp2
    go_ret
    exact ⟨false, rfl, ⟨fun h => (by cases h), fun h => absurd ((HP.out.1 h).2.2.2.2.2.1) G.out⟩, HB.out _⟩
  subst b5
  by_cases b6 : max = 0
  rotate_left
  · have e1 : (max == 0) = false := beq_eq_false_iff_ne.2 b6
    have e2 : (max != 0) = true := bne_iff_ne.2 b6
    have G := Lib.hid b6
    clear b6
    go_wp2
    go_ret
    exact ⟨false, rfl, ⟨fun h => (by cases h), fun h => absurd ((HP.out.1 h).2.2.2.2.2.2) G.out⟩, HB.out _⟩
  subst b6
  cases lazy
  all_goals
    go_wp2
    go_ret
    exact ⟨true, rfl, ⟨fun _ => HP.out.2 ⟨(by first | trivial | rfl), Q1.out, (by first | trivial | rfl), (by first | trivial | rfl), Q4.out, (by first | trivial | rfl), (by first | trivial | rfl)⟩, fun _ => rfl⟩, HB.out _⟩
theorem fields_iff10 (rune : Int) (set : List (Int × Int)) (at' cap : Int) (name : ByteArray) (min max : Int) (lazy : Bool) : FieldsOk ({ op := 10, rune := rune, set := set, at' := at', cap := cap, name := name, min := min, max := max, lazy := lazy } : Fld) ↔ (rune = 0) ∧ (set = []) ∧ (at' = 0) ∧ (cap = 0) ∧ (name.toList = []) ∧ (0 ≤ min) ∧ (min ≤ 1000) ∧ (max = -1 ∨ (min ≤ max ∧ max ≤ 1000)) := by
  unfold FieldsOk
  simp only []
  constructor
  · intro h
    obtain ⟨-, -, h3, h4, h5, h6, h10, hl, g3, g4, g5, g6, g10⟩ := h
    refine ⟨h3 (by decide), h4 (by decide), h5 (by decide), (h6 (by decide)).1, (h6 (by decide)).2, (g10 (by first | trivial | rfl)).1.1, (g10 (by first | trivial | rfl)).1.2, (g10 (by first | trivial | rfl)).2⟩
  · rintro ⟨q0, q1, q2, q3, q4, q5, q6, q7⟩
    refine ⟨by decide, by decide, fun _ => q0, fun _ => q1, fun _ => q2, fun _ => ⟨q3, q4⟩, fun h => absurd rfl h, fun _ => by decide, fun h => absurd h (by decide), fun h => absurd h (by decide), fun h => absurd h (by decide), fun h => absurd h (by decide), fun _ => ⟨⟨q5, q6⟩, q7⟩⟩
set_option maxHeartbeats 1600000 in
set_option maxRecDepth 100000 in
theorem fields_walk10 (x1 : Value) (rune : Int) (a2 : Option Addr) (s c2 : Nat) (set : List (Int × Int)) (at' cap : Int) (name : ByteArray) (min max : Int) (lazy : Bool) (w : World) (hS : Rgs w (.slice a2 s c2) set) (hs : set.length = s) (hsb : s ≤ 17592186044416) (hr : I32 rune) (hmn : I64 min) (hmx : I64 max) : Calls Try.prog 90 #[.agg #[.int .i64 10, x1, .int .i32 rune, .slice a2 s c2, .int .i64 at', .int .i64 cap, .string name, .int .i64 min, .int .i64 max, .bool lazy]] w (SaysB (FieldsOk ({ op := 10, rune := rune, set := set, at' := at', cap := cap, name := name, min := min, max := max, lazy := lazy } : Fld)) w) := by
  obtain ⟨P, hP⟩ : ∃ P, FieldsOk ({ op := 10, rune := rune, set := set, at' := at', cap := cap, name := name, min := min, max := max, lazy := lazy } : Fld) = P := ⟨_, rfl⟩
  have HP : Hid (P ↔ (rune = 0) ∧ (set = []) ∧ (at' = 0) ∧ (cap = 0) ∧ (name.toList = []) ∧ (0 ≤ min) ∧ (min ≤ 1000) ∧ (max = -1 ∨ (min ≤ max ∧ max ≤ 1000))) := Lib.hid (by rw [← hP]; exact fields_iff10 rune set at' cap name min max lazy)
  rw [hP]
  clear hP
  have HB : Hid (∀ o, Below w.heap.size w (w.alloc o)) := Lib.hid fun o => (Below.refl _ _).alloc (Nat.le_refl _) _
  have HS := Lib.hid hS; have HL := Lib.hid hs
  clear hS hs
  go_enter Try.func90, Try.ntmps90
  by_cases b0 : rune = 0
  rotate_left
  · have e1 : (rune == 0) = false := beq_eq_false_iff_ne.2 b0
    have e2 : (rune != 0) = true := bne_iff_ne.2 b0
    have G := Lib.hid b0
    clear b0
    go_wp2
    go_ret
    exact ⟨false, rfl, ⟨fun h => (by cases h), fun h => absurd ((HP.out.1 h).1) G.out⟩, HB.out _⟩
  subst b0
  by_cases b1 : s = 0
  rotate_left
  · have hz : (0 : Int) < (s : Int) := by omega
    have G : Hid (¬ set = []) := Lib.hid fun h => b1 (by rw [← HL.out, h]; rfl)
    clear b1
    go_wp2
    go_ret
    exact ⟨false, rfl, ⟨fun h => (by cases h), fun h => absurd ((HP.out.1 h).2.1) G.out⟩, HB.out _⟩
  subst b1
  have Q1 : Hid (set = []) := Lib.hid (List.eq_nil_of_length_eq_zero HL.out)
  by_cases b2 : at' = 0
  rotate_left
  · have e1 : (at' == 0) = false := beq_eq_false_iff_ne.2 b2
    have e2 : (at' != 0) = true := bne_iff_ne.2 b2
    have G := Lib.hid b2
    clear b2
    go_wp2
    go_ret
    exact ⟨false, rfl, ⟨fun h => (by cases h), fun h => absurd ((HP.out.1 h).2.2.1) G.out⟩, HB.out _⟩
  subst b2
  by_cases b3 : cap = 0
  rotate_left
  · have e1 : (cap == 0) = false := beq_eq_false_iff_ne.2 b3
    have e2 : (cap != 0) = true := bne_iff_ne.2 b3
    have G := Lib.hid b3
    clear b3
    go_wp2
    go_ret
    exact ⟨false, rfl, ⟨fun h => (by cases h), fun h => absurd ((HP.out.1 h).2.2.2.1) G.out⟩, HB.out _⟩
  subst b3
  by_cases b4 : name.toList = []
  rotate_left
  · have e1 : name.toList.isEmpty = false := by simpa using b4
    have G := Lib.hid b4
    clear b4
    go_wp2
    go_ret
    exact ⟨false, rfl, ⟨fun h => (by cases h), fun h => absurd ((HP.out.1 h).2.2.2.2.1) G.out⟩, HB.out _⟩
  have nm1 : name.toList.isEmpty = true := by simpa using b4
  have Q4 := Lib.hid b4
  clear b4
  cases lazy
  all_goals
    by_cases g1 : 0 ≤ min
    rotate_left
    · have g1' : min < 0 := by omega
      have G := Lib.hid g1
      go_wp2
      go_ret
      exact ⟨false, rfl, ⟨fun h => (by cases h), fun h => absurd ((HP.out.1 h).2.2.2.2.2.1) (by have := G.out; omega)⟩, HB.out _⟩
    by_cases g2 : min ≤ 1000
    rotate_left
    · have g1' : ¬ min < 0 := by omega
      have g2' : 1000 < min := by omega
      have G := Lib.hid g2
      go_wp2
      go_ret
      exact ⟨false, rfl, ⟨fun h => (by cases h), fun h => absurd ((HP.out.1 h).2.2.2.2.2.2.1) (by have := G.out; omega)⟩, HB.out _⟩
    have g1' : ¬ min < 0 := by omega
    have g2' : ¬ 1000 < min := by omega
    by_cases g3 : max = -1
    · subst g3
      go_wp2
      go_ret
      exact ⟨true, rfl, ⟨fun _ => HP.out.2 ⟨(by first | trivial | rfl), Q1.out, (by first | trivial | rfl), (by first | trivial | rfl), Q4.out, g1, g2, (.inl (by first | trivial | rfl))⟩, fun _ => rfl⟩, HB.out _⟩
    have e3 : (max == -1) = false := beq_eq_false_iff_ne.2 g3
    have G3 := Lib.hid g3
    clear g3
    by_cases g4 : min ≤ max
    rotate_left
    · have G := Lib.hid g4
      go_wp2
      go_ret
      exact ⟨false, rfl, ⟨fun h => (by cases h), fun h => absurd ((HP.out.1 h).2.2.2.2.2.2.2) (fun g => g.elim G3.out fun g => (by have := G.out; have := g.1; omega))⟩, HB.out _⟩
    by_cases g5 : max ≤ 1000
    · go_wp2
      go_ret
      exact ⟨true, rfl, ⟨fun _ => HP.out.2 ⟨(by first | trivial | rfl), Q1.out, (by first | trivial | rfl), (by first | trivial | rfl), Q4.out, g1, g2, (.inr ⟨g4, g5⟩)⟩, fun _ => rfl⟩, HB.out _⟩
    · have G := Lib.hid g5
      go_wp2
      go_ret
      exact ⟨false, rfl, ⟨fun h => (by cases h), fun h => absurd ((HP.out.1 h).2.2.2.2.2.2.2) (fun g => g.elim G3.out fun g => (by have := G.out; have := g.2; omega))⟩, HB.out _⟩
theorem fields_iff11 (rune : Int) (set : List (Int × Int)) (at' cap : Int) (name : ByteArray) (min max : Int) (lazy : Bool) : FieldsOk ({ op := 11, rune := rune, set := set, at' := at', cap := cap, name := name, min := min, max := max, lazy := lazy } : Fld) ↔ (rune = 0) ∧ (set = []) ∧ (at' = 0) ∧ (cap = 0) ∧ (name.toList = []) ∧ (min = 0) ∧ (max = 0) ∧ (lazy = false) := by
  unfold FieldsOk
  simp only []
  constructor
  · intro h
    obtain ⟨-, -, h3, h4, h5, h6, h10, hl, g3, g4, g5, g6, g10⟩ := h
    refine ⟨h3 (by decide), h4 (by decide), h5 (by decide), (h6 (by decide)).1, (h6 (by decide)).2, (h10 (by decide)).1, (h10 (by decide)).2, (by cases lazy with | false => rfl | true => exact absurd (hl rfl) (by decide))⟩
  · rintro ⟨q0, q1, q2, q3, q4, q5, q6, q7⟩
    refine ⟨by decide, by decide, fun _ => q0, fun _ => q1, fun _ => q2, fun _ => ⟨q3, q4⟩, fun _ => ⟨q5, q6⟩, (fun h => by rw [q7] at h; cases h), fun h => absurd h (by decide), fun h => absurd h (by decide), fun h => absurd h (by decide), fun h => absurd h (by decide), fun h => absurd h (by decide)⟩
set_option maxHeartbeats 1600000 in
set_option maxRecDepth 100000 in
theorem fields_walk11 (x1 : Value) (rune : Int) (a2 : Option Addr) (s c2 : Nat) (set : List (Int × Int)) (at' cap : Int) (name : ByteArray) (min max : Int) (lazy : Bool) (w : World) (hS : Rgs w (.slice a2 s c2) set) (hs : set.length = s) (hsb : s ≤ 17592186044416) (hr : I32 rune) (hmn : I64 min) (hmx : I64 max) : Calls Try.prog 90 #[.agg #[.int .i64 11, x1, .int .i32 rune, .slice a2 s c2, .int .i64 at', .int .i64 cap, .string name, .int .i64 min, .int .i64 max, .bool lazy]] w (SaysB (FieldsOk ({ op := 11, rune := rune, set := set, at' := at', cap := cap, name := name, min := min, max := max, lazy := lazy } : Fld)) w) := by
  obtain ⟨P, hP⟩ : ∃ P, FieldsOk ({ op := 11, rune := rune, set := set, at' := at', cap := cap, name := name, min := min, max := max, lazy := lazy } : Fld) = P := ⟨_, rfl⟩
  have HP : Hid (P ↔ (rune = 0) ∧ (set = []) ∧ (at' = 0) ∧ (cap = 0) ∧ (name.toList = []) ∧ (min = 0) ∧ (max = 0) ∧ (lazy = false)) := Lib.hid (by rw [← hP]; exact fields_iff11 rune set at' cap name min max lazy)
  rw [hP]
  clear hP
  have HB : Hid (∀ o, Below w.heap.size w (w.alloc o)) := Lib.hid fun o => (Below.refl _ _).alloc (Nat.le_refl _) _
  have HS := Lib.hid hS; have HL := Lib.hid hs
  clear hS hs
  go_enter Try.func90, Try.ntmps90
  by_cases b0 : rune = 0
  rotate_left
  · have e1 : (rune == 0) = false := beq_eq_false_iff_ne.2 b0
    have e2 : (rune != 0) = true := bne_iff_ne.2 b0
    have G := Lib.hid b0
    clear b0
    go_wp2
    go_ret
    exact ⟨false, rfl, ⟨fun h => (by cases h), fun h => absurd ((HP.out.1 h).1) G.out⟩, HB.out _⟩
  subst b0
  by_cases b1 : s = 0
  rotate_left
  · have hz : (0 : Int) < (s : Int) := by omega
    have G : Hid (¬ set = []) := Lib.hid fun h => b1 (by rw [← HL.out, h]; rfl)
    clear b1
    go_wp2
    go_ret
    exact ⟨false, rfl, ⟨fun h => (by cases h), fun h => absurd ((HP.out.1 h).2.1) G.out⟩, HB.out _⟩
  subst b1
  have Q1 : Hid (set = []) := Lib.hid (List.eq_nil_of_length_eq_zero HL.out)
  by_cases b2 : at' = 0
  rotate_left
  · have e1 : (at' == 0) = false := beq_eq_false_iff_ne.2 b2
    have e2 : (at' != 0) = true := bne_iff_ne.2 b2
    have G := Lib.hid b2
    clear b2
    go_wp2
    go_ret
    exact ⟨false, rfl, ⟨fun h => (by cases h), fun h => absurd ((HP.out.1 h).2.2.1) G.out⟩, HB.out _⟩
  subst b2
  by_cases b3 : cap = 0
  rotate_left
  · have e1 : (cap == 0) = false := beq_eq_false_iff_ne.2 b3
    have e2 : (cap != 0) = true := bne_iff_ne.2 b3
    have G := Lib.hid b3
    clear b3
    go_wp2
    go_ret
    exact ⟨false, rfl, ⟨fun h => (by cases h), fun h => absurd ((HP.out.1 h).2.2.2.1) G.out⟩, HB.out _⟩
  subst b3
  by_cases b4 : name.toList = []
  rotate_left
  · have e1 : name.toList.isEmpty = false := by simpa using b4
    have G := Lib.hid b4
    clear b4
    go_wp2
    go_ret
    exact ⟨false, rfl, ⟨fun h => (by cases h), fun h => absurd ((HP.out.1 h).2.2.2.2.1) G.out⟩, HB.out _⟩
  have nm1 : name.toList.isEmpty = true := by simpa using b4
  have Q4 := Lib.hid b4
  clear b4
  by_cases b5 : min = 0
  rotate_left
  · have e1 : (min == 0) = false := beq_eq_false_iff_ne.2 b5
    have e2 : (min != 0) = true := bne_iff_ne.2 b5
    have G := Lib.hid b5
    clear b5
    go_wp2
    go_ret
    exact ⟨false, rfl, ⟨fun h => (by cases h), fun h => absurd ((HP.out.1 h).2.2.2.2.2.1) G.out⟩, HB.out _⟩
  subst b5
  by_cases b6 : max = 0
  rotate_left
  · have e1 : (max == 0) = false := beq_eq_false_iff_ne.2 b6
    have e2 : (max != 0) = true := bne_iff_ne.2 b6
    have G := Lib.hid b6
    clear b6
    go_wp2
    go_ret
    exact ⟨false, rfl, ⟨fun h => (by cases h), fun h => absurd ((HP.out.1 h).2.2.2.2.2.2.1) G.out⟩, HB.out _⟩
  subst b6
  cases lazy
  rotate_left
  · go_wp2
    go_ret
    exact ⟨false, rfl, ⟨fun h => (by cases h), fun h => absurd ((HP.out.1 h).2.2.2.2.2.2.2) (by simp)⟩, HB.out _⟩
  go_wp2
  go_ret
  exact ⟨true, rfl, ⟨fun _ => HP.out.2 ⟨(by first | trivial | rfl), Q1.out, (by first | trivial | rfl), (by first | trivial | rfl), Q4.out, (by first | trivial | rfl), (by first | trivial | rfl), (by first | trivial | rfl)⟩, fun _ => rfl⟩, HB.out _⟩
theorem fields_iff12 (rune : Int) (set : List (Int × Int)) (at' cap : Int) (name : ByteArray) (min max : Int) (lazy : Bool) : FieldsOk ({ op := 12, rune := rune, set := set, at' := at', cap := cap, name := name, min := min, max := max, lazy := lazy } : Fld) ↔ (rune = 0) ∧ (set = []) ∧ (at' = 0) ∧ (cap = 0) ∧ (name.toList = []) ∧ (min = 0) ∧ (max = 0) ∧ (lazy = false) := by
  unfold FieldsOk
  simp only []
  constructor
  · intro h
    obtain ⟨-, -, h3, h4, h5, h6, h10, hl, g3, g4, g5, g6, g10⟩ := h
    refine ⟨h3 (by decide), h4 (by decide), h5 (by decide), (h6 (by decide)).1, (h6 (by decide)).2, (h10 (by decide)).1, (h10 (by decide)).2, (by cases lazy with | false => rfl | true => exact absurd (hl rfl) (by decide))⟩
  · rintro ⟨q0, q1, q2, q3, q4, q5, q6, q7⟩
    refine ⟨by decide, by decide, fun _ => q0, fun _ => q1, fun _ => q2, fun _ => ⟨q3, q4⟩, fun _ => ⟨q5, q6⟩, (fun h => by rw [q7] at h; cases h), fun h => absurd h (by decide), fun h => absurd h (by decide), fun h => absurd h (by decide), fun h => absurd h (by decide), fun h => absurd h (by decide)⟩
set_option maxHeartbeats 1600000 in
set_option maxRecDepth 100000 in
theorem fields_walk12 (x1 : Value) (rune : Int) (a2 : Option Addr) (s c2 : Nat) (set : List (Int × Int)) (at' cap : Int) (name : ByteArray) (min max : Int) (lazy : Bool) (w : World) (hS : Rgs w (.slice a2 s c2) set) (hs : set.length = s) (hsb : s ≤ 17592186044416) (hr : I32 rune) (hmn : I64 min) (hmx : I64 max) : Calls Try.prog 90 #[.agg #[.int .i64 12, x1, .int .i32 rune, .slice a2 s c2, .int .i64 at', .int .i64 cap, .string name, .int .i64 min, .int .i64 max, .bool lazy]] w (SaysB (FieldsOk ({ op := 12, rune := rune, set := set, at' := at', cap := cap, name := name, min := min, max := max, lazy := lazy } : Fld)) w) := by
  obtain ⟨P, hP⟩ : ∃ P, FieldsOk ({ op := 12, rune := rune, set := set, at' := at', cap := cap, name := name, min := min, max := max, lazy := lazy } : Fld) = P := ⟨_, rfl⟩
  have HP : Hid (P ↔ (rune = 0) ∧ (set = []) ∧ (at' = 0) ∧ (cap = 0) ∧ (name.toList = []) ∧ (min = 0) ∧ (max = 0) ∧ (lazy = false)) := Lib.hid (by rw [← hP]; exact fields_iff12 rune set at' cap name min max lazy)
  rw [hP]
  clear hP
  have HB : Hid (∀ o, Below w.heap.size w (w.alloc o)) := Lib.hid fun o => (Below.refl _ _).alloc (Nat.le_refl _) _
  have HS := Lib.hid hS; have HL := Lib.hid hs
  clear hS hs
  go_enter Try.func90, Try.ntmps90
  by_cases b0 : rune = 0
  rotate_left
  · have e1 : (rune == 0) = false := beq_eq_false_iff_ne.2 b0
    have e2 : (rune != 0) = true := bne_iff_ne.2 b0
    have G := Lib.hid b0
    clear b0
    go_wp2
    go_ret
    exact ⟨false, rfl, ⟨fun h => (by cases h), fun h => absurd ((HP.out.1 h).1) G.out⟩, HB.out _⟩
  subst b0
  by_cases b1 : s = 0
  rotate_left
  · have hz : (0 : Int) < (s : Int) := by omega
    have G : Hid (¬ set = []) := Lib.hid fun h => b1 (by rw [← HL.out, h]; rfl)
    clear b1
    go_wp2
    go_ret
    exact ⟨false, rfl, ⟨fun h => (by cases h), fun h => absurd ((HP.out.1 h).2.1) G.out⟩, HB.out _⟩
  subst b1
  have Q1 : Hid (set = []) := Lib.hid (List.eq_nil_of_length_eq_zero HL.out)
  by_cases b2 : at' = 0
  rotate_left
  · have e1 : (at' == 0) = false := beq_eq_false_iff_ne.2 b2
    have e2 : (at' != 0) = true := bne_iff_ne.2 b2
    have G := Lib.hid b2
    clear b2
    go_wp2
    go_ret
    exact ⟨false, rfl, ⟨fun h => (by cases h), fun h => absurd ((HP.out.1 h).2.2.1) G.out⟩, HB.out _⟩
  subst b2
  by_cases b3 : cap = 0
  rotate_left
  · have e1 : (cap == 0) = false := beq_eq_false_iff_ne.2 b3
    have e2 : (cap != 0) = true := bne_iff_ne.2 b3
    have G := Lib.hid b3
    clear b3
    go_wp2
    go_ret
    exact ⟨false, rfl, ⟨fun h => (by cases h), fun h => absurd ((HP.out.1 h).2.2.2.1) G.out⟩, HB.out _⟩
  subst b3
  by_cases b4 : name.toList = []
  rotate_left
  · have e1 : name.toList.isEmpty = false := by simpa using b4
    have G := Lib.hid b4
    clear b4
    go_wp2
    go_ret
    exact ⟨false, rfl, ⟨fun h => (by cases h), fun h => absurd ((HP.out.1 h).2.2.2.2.1) G.out⟩, HB.out _⟩
  have nm1 : name.toList.isEmpty = true := by simpa using b4
  have Q4 := Lib.hid b4
  clear b4
  by_cases b5 : min = 0
  rotate_left
  · have e1 : (min == 0) = false := beq_eq_false_iff_ne.2 b5
    have e2 : (min != 0) = true := bne_iff_ne.2 b5
    have G := Lib.hid b5
    clear b5
    go_wp2
    go_ret
    exact ⟨false, rfl, ⟨fun h => (by cases h), fun h => absurd ((HP.out.1 h).2.2.2.2.2.1) G.out⟩, HB.out _⟩
  subst b5
  by_cases b6 : max = 0
  rotate_left
  · have e1 : (max == 0) = false := beq_eq_false_iff_ne.2 b6
    have e2 : (max != 0) = true := bne_iff_ne.2 b6
    have G := Lib.hid b6
    clear b6
    go_wp2
    go_ret
    exact ⟨false, rfl, ⟨fun h => (by cases h), fun h => absurd ((HP.out.1 h).2.2.2.2.2.2.1) G.out⟩, HB.out _⟩
  subst b6
  cases lazy
  rotate_left
  · go_wp2
    go_ret
    exact ⟨false, rfl, ⟨fun h => (by cases h), fun h => absurd ((HP.out.1 h).2.2.2.2.2.2.2) (by simp)⟩, HB.out _⟩
  go_wp2
  go_ret
  exact ⟨true, rfl, ⟨fun _ => HP.out.2 ⟨(by first | trivial | rfl), Q1.out, (by first | trivial | rfl), (by first | trivial | rfl), Q4.out, (by first | trivial | rfl), (by first | trivial | rfl), (by first | trivial | rfl)⟩, fun _ => rfl⟩, HB.out _⟩
end Go.Proofs.Ytaaadimkbhkpiaa
/- Has a tree just the fields of its Op: the document's fields, at any tree. -/
namespace Go.Proofs.Ytaaadimkbhkpiaa
open Go Go.RowKit

set_option maxHeartbeats 1600000 in
set_option maxRecDepth 100000 in
theorem fields_out (op : Int) (x1 x2 x3 x4 x5 x6 x7 x8 x9 : Value) (w : World) (ho : op < 1 ∨ 12 < op) : Calls Try.prog 90 #[.agg #[.int .i64 op, x1, x2, x3, x4, x5, x6, x7, x8, x9]] w fun e w' => e = .returned (.bool false) ∧ Below w.heap.size w w' := by
  go_enter Try.func90, Try.ntmps90
  by_cases h1 : op < 1
  · clear ho
    go_wp2
    go_ret
    exact ⟨rfl, (Below.refl _ _).alloc (Nat.le_refl _) _⟩
  · have h2 : 12 < op := by omega
    clear ho
    go_wp2
    go_ret
    exact ⟨rfl, (Below.refl _ _).alloc (Nat.le_refl _) _⟩
theorem fields_any (t : Tr) (v : Value) (w : World) (h : Tre w t v) : Calls Try.prog 90 #[v] w (SaysB (FieldsOk t.fld) w) := by
  obtain ⟨A, n, c, a2, s, c2, hn, hs, rfl, hnb, hsb, hK, hS, hF⟩ := h.opened
  obtain ⟨f, hf⟩ : ∃ f, t.fld = f := ⟨_, rfl⟩
  rw [hf] at hs hS hF ⊢
  obtain ⟨op, rune, set, at', cap, name, min, max, lazy⟩ := f
  obtain ⟨ho, hr, ha, hc, hmn, hmx, -, -⟩ := hF
  simp only at hs hS hr hmn hmx ⊢
  by_cases hb : op < 1 ∨ 12 < op
  · exact (fields_out op _ _ _ _ _ _ _ _ _ w hb).mono fun e w' ⟨he, hw⟩ => ⟨false, he, ⟨fun h => (by cases h), fun h => (by have h1 := h.1; have h2 := h.2.1; simp only at h1 h2; omega)⟩, hw⟩
  · have hk : op = 1 ∨ op = 2 ∨ op = 3 ∨ op = 4 ∨ op = 5 ∨ op = 6 ∨ op = 7 ∨ op = 8 ∨ op = 9 ∨ op = 10 ∨ op = 11 ∨ op = 12 := by omega
    rcases hk with rfl | rfl | rfl | rfl | rfl | rfl | rfl | rfl | rfl | rfl | rfl | rfl
    · exact fields_walk1 _ rune a2 s c2 set at' cap name min max lazy w hS hs hsb hr hmn hmx
    · exact fields_walk2 _ rune a2 s c2 set at' cap name min max lazy w hS hs hsb hr hmn hmx
    · exact fields_walk3 _ rune a2 s c2 set at' cap name min max lazy w hS hs hsb hr hmn hmx
    · exact fields_walk4 _ rune a2 s c2 set at' cap name min max lazy w hS hs hsb hr hmn hmx
    · exact fields_walk5 _ rune a2 s c2 set at' cap name min max lazy w hS hs hsb hr hmn hmx
    · exact fields_walk6 _ rune a2 s c2 set at' cap name min max lazy w hS hs hsb hr hmn hmx
    · exact fields_walk7 _ rune a2 s c2 set at' cap name min max lazy w hS hs hsb hr hmn hmx
    · exact fields_walk8 _ rune a2 s c2 set at' cap name min max lazy w hS hs hsb hr hmn hmx
    · exact fields_walk9 _ rune a2 s c2 set at' cap name min max lazy w hS hs hsb hr hmn hmx
    · exact fields_walk10 _ rune a2 s c2 set at' cap name min max lazy w hS hs hsb hr hmn hmx
    · exact fields_walk11 _ rune a2 s c2 set at' cap name min max lazy w hS hs hsb hr hmn hmx
    · exact fields_walk12 _ rune a2 s c2 set at' cap name min max lazy w hS hs hsb hr hmn hmx
end Go.Proofs.Ytaaadimkbhkpiaa
/- Is all that makes a tree right so of it, but for groups, depth and weight: the document's Shaped. -/
namespace Go.Proofs.Ytaaadimkbhkpiaa
open Go Go.RowKit

def ShapedOf (t : Tr) : Prop := ∀ (v : Value) (w : World), Tre w t v → Calls Try.prog 48 #[v] w (SaysB (ShapedP t) w)

set_option maxHeartbeats 1600000 in
set_option maxRecDepth 100000 in
theorem shaped_any (t : Tr) : ShapedOf t := by
  refine Tr.ind (P := ShapedOf) (fun t ih v w h => ?_) t
  have IH := Lib.hid ih
  have H0 := Lib.hid h
  obtain ⟨A, n, c, a2, s, c2, hn, hs, rfl, hnb, hsb, hK, hS, hF⟩ := h.opened
  obtain ⟨w1, hw1⟩ : ∃ w1, w.alloc (.cells #[.int .i64 t.fld.op, .slice A n c, .int .i32 t.fld.rune, .slice a2 s c2, .int .i64 t.fld.at', .int .i64 t.fld.cap, .string t.fld.name, .int .i64 t.fld.min, .int .i64 t.fld.max, .bool t.fld.lazy] 27) = w1 := ⟨_, rfl⟩
  have hb1 : Below w.heap.size w w1 := by rw [← hw1]; exact (Below.refl _ _).alloc (Nat.le_refl _) _
  have hE1 : Box10 w1 w.heap.size (.int .i64 t.fld.op) (.slice A n c) (.int .i32 t.fld.rune) (.slice a2 s c2) (.int .i64 t.fld.at') (.int .i64 t.fld.cap) (.string t.fld.name) (.int .i64 t.fld.min) (.int .i64 t.fld.max) (.bool t.fld.lazy) := by rw [← hw1]; exact box10_new w _ _ _ _ _ _ _ _ _ _ _
  have HB1 := Lib.hid hb1; have HE1 := Lib.hid hE1; have HW1 := Lib.hid hw1; have HK := Lib.hid (hK.below hb1); have HS := Lib.hid (hS.below hb1); have HN := Lib.hid hn; have HSL := Lib.hid hs; have HF := Lib.hid hF
  clear hb1 hE1 hw1 hK hS hn hs hF
  have HP := Lib.hid (shapedP_iff t)
  obtain ⟨P, hP⟩ : ∃ P, ShapedP t = P := ⟨_, rfl⟩
  rw [hP] at HP ⊢
  clear h ih hP
  have HFA := Lib.hid (fields_any t _ w1 (H0.out.below HB1.out))
  obtain ⟨b0, b1, b2, b3, b4, b5, b6, b7, b8, b9⟩ := HE1.out
  go_enter Try.func48, Try.ntmps48
  go_wp2_with fail
  rw [HW1.out]
  go_wp2_with fail
  refine HFA.out.mono ?_
  rintro e w2 ⟨B1, rfl, hq1, hb2⟩
  have HQ1 : Hid (B1 = false → ¬ FieldsOk t.fld) := Lib.hid fun e g => by rw [hq1.2 g] at e; cases e
  have HY1 : Hid (B1 = true → FieldsOk t.fld) := Lib.hid hq1.1
  have HB2 := Lib.hid (below_two HB1.out hb2)
  have HKA := Lib.hid (kids_any t _ w2 (H0.out.below HB2.out))
  clear hq1 b0 b1 b2 b3 b4 b5 b6 b7 b8 b9
  obtain ⟨b0, b1, b2, b3, b4, b5, b6, b7, b8, b9⟩ := HE1.out.below hb2
  have HK2 := Lib.hid (HK.out.below hb2)
  have HE2 := Lib.hid (HE1.out.below hb2)
  clear hb2
  go_wp2_with fail
  refine HKA.out.mono ?_
  rintro e w3 ⟨B2, rfl, hq2, hb3⟩
  have HQ2 : Hid (B2 = false → ¬ KidsOk t.fld.op t.kids.length) := Lib.hid fun e g => by rw [hq2.2 g] at e; cases e
  have HY2 : Hid (B2 = true → KidsOk t.fld.op t.kids.length) := Lib.hid hq2.1
  have HB3 := Lib.hid (below_two HB2.out hb3)
  clear hq2 b0 b1 b2 b3 b4 b5 b6 b7 b8 b9
  obtain ⟨d0, d1, -, -, -, d5, -⟩ := HE2.out.below hb3
  have HK3 := Lib.hid (HK2.out.below hb3)
  have HE3 := Lib.hid (HE2.out.below hb3)
  clear hb3
  cases B1
  · have N1 := Lib.hid (HQ1.out rfl)
    clear HQ1 HY1 HQ2 HY2
    go_wp2_with fail
    go_ret
    exact ⟨false, rfl, ⟨fun h => (by cases h), fun h => absurd (HP.out.1 h).1 N1.out⟩, HB3.out⟩
  have Y1 := Lib.hid (HY1.out rfl)
  clear HQ1 HY1
  cases B2
  · have N2 := Lib.hid (HQ2.out rfl)
    clear HQ2 HY2
    go_wp2_with fail
    go_ret
    exact ⟨false, rfl, ⟨fun h => (by cases h), fun h => absurd (HP.out.1 h).2.1 N2.out⟩, HB3.out⟩
  have Y2 := Lib.hid (HY2.out rfl)
  clear HQ2 HY2
  by_cases h6 : t.fld.op = 6 ∧ t.fld.cap < 1
  · have H6 := Lib.hid h6
    obtain ⟨q1, q2⟩ := h6
    rw [q1] at d0
    clear q1
    go_wp2_with fail
    go_ret
    exact ⟨false, rfl, ⟨fun h => (by cases h), fun h => absurd H6.out (HP.out.1 h).2.2.1⟩, HB3.out⟩
  have N6 := Lib.hid h6
  have hways : (t.fld.op == 6) = false ∨ (t.fld.op = 6 ∧ ¬ t.fld.cap < 1) := by
    by_cases q : t.fld.op = 6
    · exact .inr ⟨q, fun c => h6 ⟨q, c⟩⟩
    · exact .inl (beq_eq_false_iff_ne.2 q)
  have LOOP : Hid (∀ {K : Prop}, K → K) := Lib.hid fun h => h
  clear h6 LOOP
  obtain ⟨op, hop⟩ : ∃ op, t.fld.op = op := ⟨_, rfl⟩
  rw [hop] at d0 hways
  have HOP := Lib.hid hop
  clear hop
  rcases hways with e6 | ⟨rfl, hc1⟩
  all_goals
    go_wp2_with fail
    go_loopw [5] (fun i wr => ∃ k : Nat, k ≤ n ∧ i = .int .i64 k ∧ Below w3.heap.size w3 wr ∧ ∀ q ∈ t.kids.take k, ShapedP q) (fun i _ => n - (intOf i).toNat)
    case atStart => exact ⟨0, Nat.zero_le _, rfl, Below.refl _ _, by simp⟩
    case round =>
      obtain ⟨k, hk, rfl, hB, hQ⟩ := hrel
      have HB := Lib.hid hB; have HQ := Lib.hid hQ
      obtain ⟨-, f1, -⟩ := HE3.out.below hB
      have hKw := HK3.out.below hB
      clear hB hQ
      by_cases hkn : k < n
      · have hkl : k < t.kids.length := by rw [HN.out]; exact hkn
        obtain ⟨b, o, tk, kv, sv, rfl, htk, hm, ⟨c0, c1, c2', c3, c4, c5, c6, c7, c8, c9⟩, hTk⟩ := hKw.kid k hkl
        have HI := Lib.hid (IH.out tk hm _ _ hTk)
        have hts : t.kids.take (k + 1) = t.kids.take k ++ [tk] := by rw [List.take_succ_eq_append_getElem hkl, htk]
        have HTS := Lib.hid hts; have HM := Lib.hid hm
        clear hKw htk hm hTk hts
        go_wp2_with fail
        refine HI.out.mono ?_
        rintro e w4 ⟨B, rfl, hq, hb4⟩
        have HB4 := Lib.hid (below_two HB.out hb4)
        have HNB : Hid (B = false → ¬ ShapedP tk) := Lib.hid fun e g => by rw [hq.2 g] at e; cases e
        have HYB : Hid (B = true → ShapedP tk) := Lib.hid hq.1
        clear hb4 hq c0 c1 c2' c3 c4 c5 c6 c7 c8 c9
        cases B
        · have NB := Lib.hid (HNB.out rfl)
          clear HNB HYB
          go_wp2_with fail
          go_ret
          exact ⟨false, rfl, ⟨fun h => (by cases h), fun h => absurd ((HP.out.1 h).2.2.2 tk HM.out) NB.out⟩, below_two HB3.out HB4.out⟩
        · have YB := Lib.hid (HYB.out rfl)
          clear HNB HYB
          go_wp2_with fail
          go_roundw
          case rel =>
            refine ⟨k + 1, by omega, by go_num, HB4.out, fun q hq => ?_⟩
            rw [HTS.out] at hq
            rcases List.mem_append.1 hq with hq | hq
            · exact HQ.out q hq
            · rw [List.mem_singleton.1 hq]
              exact YB.out
          case measure => simp [intOf]; omega
      · have hk2 : t.kids.take k = t.kids := List.take_of_length_le (by rw [HN.out]; omega)
        have hq := HQ.out
        rw [hk2] at hq
        have HQ2 := Lib.hid hq
        clear hk2 hq hKw
        go_wp2_with fail
        go_ret
        exact ⟨true, rfl, ⟨fun _ => HP.out.2 ⟨Y1.out, Y2.out, N6.out, HQ2.out⟩, fun _ => rfl⟩, below_two HB3.out HB.out⟩
end Go.Proofs.Ytaaadimkbhkpiaa
