/- Texts merged by program: NameB, TrFine, TrKids, TrName, TrFieldsA, TrFieldsB, TrFields, TrShaped. No condition. -/
import Derived.Test.YtofhckheeijoiaaDoorK1
import Derived.Test.YtofhckheeijoiaaDoorK4
import Derived.Test.YtofhckheeijoiaaDoorProg
import Derived.WalkKit
import Derived.Below
import Derived.Lib.Hide
import Derived.Deep.DeepCutAuto
set_option linter.unusedVariables false
/- Is it a name: what one is, and the document's Name. -/
namespace Go.Proofs.YtofhckheeijoiaaDoor
open Go Go.RowKit

/-- A letter of a name; what a name's byte may be behind the first one. -/
def letterB (c : UInt8) : Bool := (decide (97 ≤ c.toNat) && decide (c.toNat ≤ 122)) || (decide (65 ≤ c.toNat) && decide (c.toNat ≤ 90)) || decide (c.toNat = 95)
def digitB (c : UInt8) : Bool := decide (48 ≤ c.toNat) && decide (c.toNat ≤ 57)
def namedFrom : Nat → List UInt8 → Bool
  | _, [] => true
  | i, c :: l => (letterB c || (decide (0 < i) && digitB c)) && namedFrom (i + 1) l
/-- Is it a name? -/
def nameB (l : List UInt8) : Bool := decide (1 ≤ l.length) && decide (l.length ≤ 32) && namedFrom 0 l
theorem namedFrom_append : ∀ (a : List UInt8) (i : Nat) (b : List UInt8), namedFrom i (a ++ b) = (namedFrom i a && namedFrom (i + a.length) b)
  | [], i, b => by simp [namedFrom]
  | c :: a, i, b => by
    rw [List.cons_append, namedFrom, namedFrom, namedFrom_append a (i + 1) b, Bool.and_assoc, List.length_cons, show i + 1 + a.length = i + (a.length + 1) by omega]
theorem letter_iff (c : UInt8) : letterB c = true ↔ (97 ≤ c.toNat ∧ c.toNat ≤ 122) ∨ (65 ≤ c.toNat ∧ c.toNat ≤ 90) ∨ c.toNat = 95 := by
  unfold letterB
  simp only [Bool.or_eq_true, Bool.and_eq_true, decide_eq_true_eq, or_assoc]
theorem digit_iff (c : UInt8) : digitB c = true ↔ 48 ≤ c.toNat ∧ c.toNat ≤ 57 := by
  unfold digitB
  simp only [Bool.and_eq_true, decide_eq_true_eq]
theorem named_snoc (l : List UInt8) (c : UInt8) : namedFrom 0 (l ++ [c]) = (namedFrom 0 l && (letterB c || (decide (0 < l.length) && digitB c))) := by
  rw [namedFrom_append]
  simp [namedFrom]
theorem named_take {l : List UInt8} {k : Nat} (h : namedFrom 0 l = true) : namedFrom 0 (l.take k) = true := by
  rw [← List.take_append_drop k l, namedFrom_append, Bool.and_eq_true] at h
  exact h.1
theorem take_snoc8 (s : ByteArray) (k : Nat) (h : k < s.size) : s.toList.take (k + 1) = s.toList.take k ++ [s[k]] := by
  rw [ByteArray.toList_eq, List.take_succ_eq_append_getElem (by simpa using h)]
  rfl
def NamePost (P : Prop) (w : World) (e : Ending) (w' : World) : Prop := ∃ B : Bool, e = .returned (.bool B) ∧ (B = true ↔ P) ∧ w' = w
set_option maxHeartbeats 1600000 in
set_option maxRecDepth 100000 in
theorem name_any (s : ByteArray) (w : World) : Calls Tryd.prog 40 #[.string s] w (NamePost (nameB s.toList = true) w) := by
  obtain ⟨P, hP⟩ : ∃ P, (nameB s.toList = true) = P := ⟨_, rfl⟩
  have hl : s.toList.length = s.size := by rw [ByteArray.toList_eq]; simp
  have HP : Hid (P ↔ 1 ≤ s.size ∧ s.size ≤ 32 ∧ namedFrom 0 s.toList = true) := Lib.hid (by rw [← hP]; unfold nameB; rw [hl]; simp only [Bool.and_eq_true, decide_eq_true_eq, and_assoc])
  rw [hP]
  have HL := Lib.hid hl
  clear hP hl
  go_enter Tryd.func40, Tryd.ntmps40
  by_cases h1 : s.size < 1
  · go_wp2
    go_ret
    exact ⟨false, rfl, ⟨fun h => (by cases h), fun h => (by have := (HP.out.1 h).1; omega)⟩, rfl⟩
  by_cases h2 : 32 < s.size
  · go_wp2
    go_ret
    exact ⟨false, rfl, ⟨fun h => (by cases h), fun h => (by have := (HP.out.1 h).2.1; omega)⟩, rfl⟩
  go_wp2_with fail
  go_loop [3] (fun i => ∃ k : Nat, k ≤ s.size ∧ i = .int .i64 k ∧ namedFrom 0 (s.toList.take k) = true) (fun i => s.size - (intOf i).toNat)
  case atStart => exact ⟨0, Nat.zero_le _, rfl, rfl⟩
  case round =>
    obtain ⟨k, hk, rfl, hN⟩ := hrel
    have HN := Lib.hid hN
    clear hN
    by_cases hkn : k < s.size
    · have hsn := take_snoc8 s k hkn
      have hnx : namedFrom 0 (s.toList.take (k + 1)) = (letterB s[k] || (decide (0 < k) && digitB s[k])) := by
        rw [hsn, named_snoc, HN.out, List.length_take, HL.out, Nat.min_eq_left hk, Bool.true_and]
      have hbad : letterB s[k] = false → (decide (0 < k) && digitB s[k]) = false → ¬ namedFrom 0 s.toList = true := fun a b h => by
        have := named_take (k := k + 1) h
        rw [hnx, a, b] at this
        cases this
      have hli := letter_iff s[k]
      have hdi := digit_iff s[k]
      obtain ⟨x, hx⟩ : ∃ x : Nat, s[k].toNat = x := ⟨_, rfl⟩
      have hx255 : x < 256 := by rw [← hx]; exact UInt8.toNat_lt _
      rw [hx] at hli hdi
      have HNX := Lib.hid hnx; have HBAD := Lib.hid hbad; have HLI := Lib.hid hli; have HDI := Lib.hid hdi
      clear hsn hnx hbad hli hdi
      have hcase : (97 ≤ x ∧ x ≤ 122) ∨ (122 < x) ∨ (65 ≤ x ∧ x ≤ 90) ∨ (x = 95) ∨ (90 < x ∧ x < 95) ∨ (x = 96) ∨ (57 < x ∧ x < 65) ∨ ((48 ≤ x ∧ x ≤ 57) ∧ 0 < k) ∨ ((48 ≤ x ∧ x ≤ 57) ∧ k = 0) ∨ (x < 48) := by omega
      rcases hcase with hc | hc | hc | hc | hc | hc | hc | hc | hc | hc
      · have f97 : 97 ≤ x := by omega
        have f65 : 65 ≤ x := by omega
        have f48 : 48 ≤ x := by omega
        have f122 : decide ((x : Int) ≤ 122) = true := decide_eq_true (by omega)
        have f90 : decide ((x : Int) ≤ 90) = false := decide_eq_false (by omega)
        have f57 : decide ((x : Int) ≤ 57) = false := decide_eq_false (by omega)
        have f95 : ((x : Int) == 95) = false := beq_eq_false_iff_ne.2 (by omega)
        have hq : namedFrom 0 (s.toList.take (k + 1)) = true := by rw [HNX.out, HLI.out.2 (by omega), Bool.true_or]
        have HQ := Lib.hid hq
        clear hq hc
        go_wp2_with fail
        all_goals
          go_round
          case rel => exact ⟨k + 1, by omega, by go_num, HQ.out⟩
          case measure => simp [intOf]; omega
      · have f97 : 97 ≤ x := by omega
        have f65 : 65 ≤ x := by omega
        have f48 : 48 ≤ x := by omega
        have f122 : decide ((x : Int) ≤ 122) = false := decide_eq_false (by omega)
        have f90 : decide ((x : Int) ≤ 90) = false := decide_eq_false (by omega)
        have f57 : decide ((x : Int) ≤ 57) = false := decide_eq_false (by omega)
        have f95 : ((x : Int) == 95) = false := beq_eq_false_iff_ne.2 (by omega)
        have hnl : letterB s[k] = false := by
          cases h : letterB s[k]
          · rfl
          · have := HLI.out.1 h
            omega
        have hnd : (decide (0 < k) && digitB s[k]) = false := by
          cases h : digitB s[k]
          · simp
          · have := HDI.out.1 h
            omega
        have HQ := Lib.hid (HBAD.out hnl hnd)
        clear hnl hnd hc
        by_cases hkz : 0 < k
        · have hk0 : (0 : Int) < (k : Int) := by omega
          clear hkz
          go_wp2_with fail
          go_ret
          exact ⟨false, rfl, ⟨fun h => (by cases h), fun h => absurd (HP.out.1 h).2.2 HQ.out⟩, rfl⟩
        · obtain rfl : k = 0 := by omega
          clear hkz
          go_wp2_with fail
          go_ret
          exact ⟨false, rfl, ⟨fun h => (by cases h), fun h => absurd (HP.out.1 h).2.2 HQ.out⟩, rfl⟩
      · have f97 : ¬ 97 ≤ x := by omega
        have f65 : 65 ≤ x := by omega
        have f48 : 48 ≤ x := by omega
        have f122 : decide ((x : Int) ≤ 122) = true := decide_eq_true (by omega)
        have f90 : decide ((x : Int) ≤ 90) = true := decide_eq_true (by omega)
        have f57 : decide ((x : Int) ≤ 57) = false := decide_eq_false (by omega)
        have f95 : ((x : Int) == 95) = false := beq_eq_false_iff_ne.2 (by omega)
        have hq : namedFrom 0 (s.toList.take (k + 1)) = true := by rw [HNX.out, HLI.out.2 (by omega), Bool.true_or]
        have HQ := Lib.hid hq
        clear hq hc
        go_wp2_with fail
        all_goals
          go_round
          case rel => exact ⟨k + 1, by omega, by go_num, HQ.out⟩
          case measure => simp [intOf]; omega
      · have f97 : ¬ 97 ≤ x := by omega
        have f65 : 65 ≤ x := by omega
        have f48 : 48 ≤ x := by omega
        have f122 : decide ((x : Int) ≤ 122) = true := decide_eq_true (by omega)
        have f90 : decide ((x : Int) ≤ 90) = false := decide_eq_false (by omega)
        have f57 : decide ((x : Int) ≤ 57) = false := decide_eq_false (by omega)
        have hq : namedFrom 0 (s.toList.take (k + 1)) = true := by rw [HNX.out, HLI.out.2 (by omega), Bool.true_or]
        have HQ := Lib.hid hq
        obtain rfl : x = 95 := hc
        clear hq
        go_wp2_with fail
        all_goals
          go_round
          case rel => exact ⟨k + 1, by omega, by go_num, HQ.out⟩
          case measure => simp [intOf]; omega
      · have f97 : ¬ 97 ≤ x := by omega
        have f65 : 65 ≤ x := by omega
        have f48 : 48 ≤ x := by omega
        have f122 : decide ((x : Int) ≤ 122) = true := decide_eq_true (by omega)
        have f90 : decide ((x : Int) ≤ 90) = false := decide_eq_false (by omega)
        have f57 : decide ((x : Int) ≤ 57) = false := decide_eq_false (by omega)
        have f95 : ((x : Int) == 95) = false := beq_eq_false_iff_ne.2 (by omega)
        have hnl : letterB s[k] = false := by
          cases h : letterB s[k]
          · rfl
          · have := HLI.out.1 h
            omega
        have hnd : (decide (0 < k) && digitB s[k]) = false := by
          cases h : digitB s[k]
          · simp
          · have := HDI.out.1 h
            omega
        have HQ := Lib.hid (HBAD.out hnl hnd)
        clear hnl hnd hc
        by_cases hkz : 0 < k
        · have hk0 : (0 : Int) < (k : Int) := by omega
          clear hkz
          go_wp2_with fail
          go_ret
          exact ⟨false, rfl, ⟨fun h => (by cases h), fun h => absurd (HP.out.1 h).2.2 HQ.out⟩, rfl⟩
        · obtain rfl : k = 0 := by omega
          clear hkz
          go_wp2_with fail
          go_ret
          exact ⟨false, rfl, ⟨fun h => (by cases h), fun h => absurd (HP.out.1 h).2.2 HQ.out⟩, rfl⟩
      · have f97 : ¬ 97 ≤ x := by omega
        have f65 : 65 ≤ x := by omega
        have f48 : 48 ≤ x := by omega
        have f122 : decide ((x : Int) ≤ 122) = true := decide_eq_true (by omega)
        have f90 : decide ((x : Int) ≤ 90) = false := decide_eq_false (by omega)
        have f57 : decide ((x : Int) ≤ 57) = false := decide_eq_false (by omega)
        have f95 : ((x : Int) == 95) = false := beq_eq_false_iff_ne.2 (by omega)
        have hnl : letterB s[k] = false := by
          cases h : letterB s[k]
          · rfl
          · have := HLI.out.1 h
            omega
        have hnd : (decide (0 < k) && digitB s[k]) = false := by
          cases h : digitB s[k]
          · simp
          · have := HDI.out.1 h
            omega
        have HQ := Lib.hid (HBAD.out hnl hnd)
        clear hnl hnd hc
        by_cases hkz : 0 < k
        · have hk0 : (0 : Int) < (k : Int) := by omega
          clear hkz
          go_wp2_with fail
          go_ret
          exact ⟨false, rfl, ⟨fun h => (by cases h), fun h => absurd (HP.out.1 h).2.2 HQ.out⟩, rfl⟩
        · obtain rfl : k = 0 := by omega
          clear hkz
          go_wp2_with fail
          go_ret
          exact ⟨false, rfl, ⟨fun h => (by cases h), fun h => absurd (HP.out.1 h).2.2 HQ.out⟩, rfl⟩
      · have f97 : ¬ 97 ≤ x := by omega
        have f65 : ¬ 65 ≤ x := by omega
        have f48 : 48 ≤ x := by omega
        have f122 : decide ((x : Int) ≤ 122) = true := decide_eq_true (by omega)
        have f90 : decide ((x : Int) ≤ 90) = true := decide_eq_true (by omega)
        have f57 : decide ((x : Int) ≤ 57) = false := decide_eq_false (by omega)
        have f95 : ((x : Int) == 95) = false := beq_eq_false_iff_ne.2 (by omega)
        have hnl : letterB s[k] = false := by
          cases h : letterB s[k]
          · rfl
          · have := HLI.out.1 h
            omega
        have hnd : (decide (0 < k) && digitB s[k]) = false := by
          cases h : digitB s[k]
          · simp
          · have := HDI.out.1 h
            omega
        have HQ := Lib.hid (HBAD.out hnl hnd)
        clear hnl hnd hc
        by_cases hkz : 0 < k
        · have hk0 : (0 : Int) < (k : Int) := by omega
          clear hkz
          go_wp2_with fail
          go_ret
          exact ⟨false, rfl, ⟨fun h => (by cases h), fun h => absurd (HP.out.1 h).2.2 HQ.out⟩, rfl⟩
        · obtain rfl : k = 0 := by omega
          clear hkz
          go_wp2_with fail
          go_ret
          exact ⟨false, rfl, ⟨fun h => (by cases h), fun h => absurd (HP.out.1 h).2.2 HQ.out⟩, rfl⟩
      · have f97 : ¬ 97 ≤ x := by omega
        have f65 : ¬ 65 ≤ x := by omega
        have f48 : 48 ≤ x := by omega
        have f122 : decide ((x : Int) ≤ 122) = true := decide_eq_true (by omega)
        have f90 : decide ((x : Int) ≤ 90) = true := decide_eq_true (by omega)
        have f57 : decide ((x : Int) ≤ 57) = true := decide_eq_true (by omega)
        have f95 : ((x : Int) == 95) = false := beq_eq_false_iff_ne.2 (by omega)
        have hq : namedFrom 0 (s.toList.take (k + 1)) = true := by rw [HNX.out, HDI.out.2 (by omega), decide_eq_true hc.2]; simp
        have HQ := Lib.hid hq
        have hk0 : (0 : Int) < (k : Int) := by omega
        clear hq hc
        go_wp2_with fail
        all_goals
          go_round
          case rel => exact ⟨k + 1, by omega, by go_num, HQ.out⟩
          case measure => simp [intOf]; omega
      · have f97 : ¬ 97 ≤ x := by omega
        have f65 : ¬ 65 ≤ x := by omega
        have f48 : 48 ≤ x := by omega
        have f122 : decide ((x : Int) ≤ 122) = true := decide_eq_true (by omega)
        have f90 : decide ((x : Int) ≤ 90) = true := decide_eq_true (by omega)
        have f57 : decide ((x : Int) ≤ 57) = true := decide_eq_true (by omega)
        have f95 : ((x : Int) == 95) = false := beq_eq_false_iff_ne.2 (by omega)
        have hnl : letterB s[k] = false := by
          cases h : letterB s[k]
          · rfl
          · have := HLI.out.1 h
            omega
        have hk0 : ¬ (0 : Int) < (k : Int) := by omega
        have hnd : (decide (0 < k) && digitB s[k]) = false := by rw [decide_eq_false (by omega)]; rfl
        have HQ := Lib.hid (HBAD.out hnl hnd)
        obtain rfl : k = 0 := hc.2
        clear hnl hnd hc
        go_wp2_with fail
        go_ret
        exact ⟨false, rfl, ⟨fun h => (by cases h), fun h => absurd (HP.out.1 h).2.2 HQ.out⟩, rfl⟩
      · have f97 : ¬ 97 ≤ x := by omega
        have f65 : ¬ 65 ≤ x := by omega
        have f48 : ¬ 48 ≤ x := by omega
        have f122 : decide ((x : Int) ≤ 122) = true := decide_eq_true (by omega)
        have f90 : decide ((x : Int) ≤ 90) = true := decide_eq_true (by omega)
        have f57 : decide ((x : Int) ≤ 57) = true := decide_eq_true (by omega)
        have f95 : ((x : Int) == 95) = false := beq_eq_false_iff_ne.2 (by omega)
        have hnl : letterB s[k] = false := by
          cases h : letterB s[k]
          · rfl
          · have := HLI.out.1 h
            omega
        have hnd : (decide (0 < k) && digitB s[k]) = false := by
          cases h : digitB s[k]
          · simp
          · have := HDI.out.1 h
            omega
        have HQ := Lib.hid (HBAD.out hnl hnd)
        clear hnl hnd hc
        by_cases hkz : 0 < k
        · have hk0 : (0 : Int) < (k : Int) := by omega
          clear hkz
          go_wp2_with fail
          go_ret
          exact ⟨false, rfl, ⟨fun h => (by cases h), fun h => absurd (HP.out.1 h).2.2 HQ.out⟩, rfl⟩
        · obtain rfl : k = 0 := by omega
          clear hkz
          go_wp2_with fail
          go_ret
          exact ⟨false, rfl, ⟨fun h => (by cases h), fun h => absurd (HP.out.1 h).2.2 HQ.out⟩, rfl⟩
    · have hke : s.toList.take k = s.toList := List.take_of_length_le (by rw [HL.out]; omega)
      have hq := HN.out
      rw [hke] at hq
      have HQ := Lib.hid hq
      clear hke hq
      go_wp2_with fail
      go_ret
      exact ⟨true, rfl, ⟨fun _ => HP.out.2 ⟨by omega, by omega, HQ.out⟩, fun _ => rfl⟩, rfl⟩
end Go.Proofs.YtofhckheeijoiaaDoor
/- What makes a tree right but for its groups, as plain statements. No condition. -/
namespace Go.Proofs.YtofhckheeijoiaaDoor
open Go Go.RowKit

/-- Has a tree just the fields of its Op? -/
def FieldsOk (f : Fld) : Prop :=
  1 ≤ f.op ∧ f.op ≤ 12 ∧ (f.op ≠ 3 → f.rune = 0) ∧ (f.op ≠ 4 → f.set = []) ∧ (f.op ≠ 5 → f.at' = 0) ∧ (f.op ≠ 6 → f.cap = 0 ∧ f.name.toList = []) ∧ (f.op ≠ 10 → f.min = 0 ∧ f.max = 0) ∧ (f.lazy = true → 7 ≤ f.op ∧ f.op ≤ 10) ∧
    (f.op = 3 → 0 ≤ f.rune ∧ f.rune ≤ 1114111) ∧ (f.op = 4 → RightR f.set ∧ f.set ≠ []) ∧ (f.op = 5 → f.at' = 1 ∨ f.at' = 2 ∨ f.at' = 4 ∨ f.at' = 8 ∨ f.at' = 16 ∨ f.at' = 32) ∧
    (f.op = 6 → f.name.toList = [] ∨ nameB f.name.toList = true) ∧ (f.op = 10 → (0 ≤ f.min ∧ f.min ≤ 1000) ∧ (f.max = -1 ∨ (f.min ≤ f.max ∧ f.max ≤ 1000)))
/-- May a tree have as many Kids? -/
def KidsOk (op : Int) (n : Nat) : Prop :=
  (op = 6 ∨ op = 7 ∨ op = 8 ∨ op = 9 ∨ op = 10 → n = 1) ∧ (op = 12 → 1 ≤ n) ∧ (op = 6 ∨ op = 7 ∨ op = 8 ∨ op = 9 ∨ op = 10 ∨ op = 11 ∨ op = 12 ∨ n = 0)
/-- Is all right but for groups, depth and weight? -/
def ShapedP : Tr → Prop := Tr.para fun t l => FieldsOk t.fld ∧ KidsOk t.fld.op t.kids.length ∧ ¬ (t.fld.op = 6 ∧ t.fld.cap < 1) ∧ ∀ p ∈ l, p
theorem shapedP_iff (t : Tr) : ShapedP t ↔ FieldsOk t.fld ∧ KidsOk t.fld.op t.kids.length ∧ ¬ (t.fld.op = 6 ∧ t.fld.cap < 1) ∧ ∀ k ∈ t.kids, ShapedP k := by
  unfold ShapedP
  rw [Tr.para_eq]
  simp only [List.mem_map, forall_exists_index, and_imp, forall_apply_eq_imp_iff₂]
end Go.Proofs.YtofhckheeijoiaaDoor
/- How many Kids a tree may have: the document's kids. -/
namespace Go.Proofs.YtofhckheeijoiaaDoor
open Go Go.RowKit

/-- A bool that says P; nothing that lay has turned. -/
def SaysB (P : Prop) (w : World) (e : Ending) (w' : World) : Prop := ∃ B : Bool, e = .returned (.bool B) ∧ (B = true ↔ P) ∧ Below w.heap.size w w'

end Go.Proofs.YtofhckheeijoiaaDoor
/- Is it a name: the document's Name (NameB has it). -/
/- Has a tree just the fields of its Op: the document's fields, at each Op by itself. -/
namespace Go.Proofs.YtofhckheeijoiaaDoor
open Go Go.RowKit

theorem fields_iff1 (rune : Int) (set : List (Int × Int)) (at' cap : Int) (name : ByteArray) (min max : Int) (lazy : Bool) : FieldsOk ({ op := 1, rune := rune, set := set, at' := at', cap := cap, name := name, min := min, max := max, lazy := lazy } : Fld) ↔ (rune = 0) ∧ (set = []) ∧ (at' = 0) ∧ (cap = 0) ∧ (name.toList = []) ∧ (min = 0) ∧ (max = 0) ∧ (lazy = false) := by
  unfold FieldsOk
  simp only []
  constructor
  · intro h
    obtain ⟨-, -, h3, h4, h5, h6, h10, hl, g3, g4, g5, g6, g10⟩ := h
    refine ⟨h3 (by decide), h4 (by decide), h5 (by decide), (h6 (by decide)).1, (h6 (by decide)).2, (h10 (by decide)).1, (h10 (by decide)).2, (by cases lazy with | false => rfl | true => exact absurd (hl rfl) (by decide))⟩
  · rintro ⟨q0, q1, q2, q3, q4, q5, q6, q7⟩
    refine ⟨by decide, by decide, fun _ => q0, fun _ => q1, fun _ => q2, fun _ => ⟨q3, q4⟩, fun _ => ⟨q5, q6⟩, (fun h => by rw [q7] at h; cases h), fun h => absurd h (by decide), fun h => absurd h (by decide), fun h => absurd h (by decide), fun h => absurd h (by decide), fun h => absurd h (by decide)⟩
theorem fields_iff2 (rune : Int) (set : List (Int × Int)) (at' cap : Int) (name : ByteArray) (min max : Int) (lazy : Bool) : FieldsOk ({ op := 2, rune := rune, set := set, at' := at', cap := cap, name := name, min := min, max := max, lazy := lazy } : Fld) ↔ (rune = 0) ∧ (set = []) ∧ (at' = 0) ∧ (cap = 0) ∧ (name.toList = []) ∧ (min = 0) ∧ (max = 0) ∧ (lazy = false) := by
  unfold FieldsOk
  simp only []
  constructor
  · intro h
    obtain ⟨-, -, h3, h4, h5, h6, h10, hl, g3, g4, g5, g6, g10⟩ := h
    refine ⟨h3 (by decide), h4 (by decide), h5 (by decide), (h6 (by decide)).1, (h6 (by decide)).2, (h10 (by decide)).1, (h10 (by decide)).2, (by cases lazy with | false => rfl | true => exact absurd (hl rfl) (by decide))⟩
  · rintro ⟨q0, q1, q2, q3, q4, q5, q6, q7⟩
    refine ⟨by decide, by decide, fun _ => q0, fun _ => q1, fun _ => q2, fun _ => ⟨q3, q4⟩, fun _ => ⟨q5, q6⟩, (fun h => by rw [q7] at h; cases h), fun h => absurd h (by decide), fun h => absurd h (by decide), fun h => absurd h (by decide), fun h => absurd h (by decide), fun h => absurd h (by decide)⟩
theorem fields_iff3 (rune : Int) (set : List (Int × Int)) (at' cap : Int) (name : ByteArray) (min max : Int) (lazy : Bool) : FieldsOk ({ op := 3, rune := rune, set := set, at' := at', cap := cap, name := name, min := min, max := max, lazy := lazy } : Fld) ↔ (set = []) ∧ (at' = 0) ∧ (cap = 0) ∧ (name.toList = []) ∧ (min = 0) ∧ (max = 0) ∧ (lazy = false) ∧ (0 ≤ rune) ∧ (rune ≤ 1114111) := by
  unfold FieldsOk
  simp only []
  constructor
  · intro h
    obtain ⟨-, -, h3, h4, h5, h6, h10, hl, g3, g4, g5, g6, g10⟩ := h
    refine ⟨h4 (by decide), h5 (by decide), (h6 (by decide)).1, (h6 (by decide)).2, (h10 (by decide)).1, (h10 (by decide)).2, (by cases lazy with | false => rfl | true => exact absurd (hl rfl) (by decide)), (g3 (by first | trivial | rfl)).1, (g3 (by first | trivial | rfl)).2⟩
  · rintro ⟨q0, q1, q2, q3, q4, q5, q6, q7, q8⟩
    refine ⟨by decide, by decide, fun h => absurd rfl h, fun _ => q0, fun _ => q1, fun _ => ⟨q2, q3⟩, fun _ => ⟨q4, q5⟩, (fun h => by rw [q6] at h; cases h), fun _ => ⟨q7, q8⟩, fun h => absurd h (by decide), fun h => absurd h (by decide), fun h => absurd h (by decide), fun h => absurd h (by decide)⟩
theorem fields_iff4 (rune : Int) (set : List (Int × Int)) (at' cap : Int) (name : ByteArray) (min max : Int) (lazy : Bool) : FieldsOk ({ op := 4, rune := rune, set := set, at' := at', cap := cap, name := name, min := min, max := max, lazy := lazy } : Fld) ↔ (rune = 0) ∧ (at' = 0) ∧ (cap = 0) ∧ (name.toList = []) ∧ (min = 0) ∧ (max = 0) ∧ (lazy = false) ∧ (RightR set) ∧ (set ≠ []) := by
  unfold FieldsOk
  simp only []
  constructor
  · intro h
    obtain ⟨-, -, h3, h4, h5, h6, h10, hl, g3, g4, g5, g6, g10⟩ := h
    refine ⟨h3 (by decide), h5 (by decide), (h6 (by decide)).1, (h6 (by decide)).2, (h10 (by decide)).1, (h10 (by decide)).2, (by cases lazy with | false => rfl | true => exact absurd (hl rfl) (by decide)), (g4 (by first | trivial | rfl)).1, (g4 (by first | trivial | rfl)).2⟩
  · rintro ⟨q0, q1, q2, q3, q4, q5, q6, q7, q8⟩
    refine ⟨by decide, by decide, fun _ => q0, fun h => absurd rfl h, fun _ => q1, fun _ => ⟨q2, q3⟩, fun _ => ⟨q4, q5⟩, (fun h => by rw [q6] at h; cases h), fun h => absurd h (by decide), fun _ => ⟨q7, q8⟩, fun h => absurd h (by decide), fun h => absurd h (by decide), fun h => absurd h (by decide)⟩
theorem fields_iff5 (rune : Int) (set : List (Int × Int)) (at' cap : Int) (name : ByteArray) (min max : Int) (lazy : Bool) : FieldsOk ({ op := 5, rune := rune, set := set, at' := at', cap := cap, name := name, min := min, max := max, lazy := lazy } : Fld) ↔ (rune = 0) ∧ (set = []) ∧ (cap = 0) ∧ (name.toList = []) ∧ (min = 0) ∧ (max = 0) ∧ (lazy = false) ∧ (at' = 1 ∨ at' = 2 ∨ at' = 4 ∨ at' = 8 ∨ at' = 16 ∨ at' = 32) := by
  unfold FieldsOk
  simp only []
  constructor
  · intro h
    obtain ⟨-, -, h3, h4, h5, h6, h10, hl, g3, g4, g5, g6, g10⟩ := h
    refine ⟨h3 (by decide), h4 (by decide), (h6 (by decide)).1, (h6 (by decide)).2, (h10 (by decide)).1, (h10 (by decide)).2, (by cases lazy with | false => rfl | true => exact absurd (hl rfl) (by decide)), g5 (by first | trivial | rfl)⟩
  · rintro ⟨q0, q1, q2, q3, q4, q5, q6, q7⟩
    refine ⟨by decide, by decide, fun _ => q0, fun _ => q1, fun h => absurd rfl h, fun _ => ⟨q2, q3⟩, fun _ => ⟨q4, q5⟩, (fun h => by rw [q6] at h; cases h), fun h => absurd h (by decide), fun h => absurd h (by decide), fun _ => q7, fun h => absurd h (by decide), fun h => absurd h (by decide)⟩
theorem fields_iff6 (rune : Int) (set : List (Int × Int)) (at' cap : Int) (name : ByteArray) (min max : Int) (lazy : Bool) : FieldsOk ({ op := 6, rune := rune, set := set, at' := at', cap := cap, name := name, min := min, max := max, lazy := lazy } : Fld) ↔ (rune = 0) ∧ (set = []) ∧ (at' = 0) ∧ (min = 0) ∧ (max = 0) ∧ (lazy = false) ∧ (name.toList = [] ∨ nameB name.toList = true) := by
  unfold FieldsOk
  simp only []
  constructor
  · intro h
    obtain ⟨-, -, h3, h4, h5, h6, h10, hl, g3, g4, g5, g6, g10⟩ := h
    refine ⟨h3 (by decide), h4 (by decide), h5 (by decide), (h10 (by decide)).1, (h10 (by decide)).2, (by cases lazy with | false => rfl | true => exact absurd (hl rfl) (by decide)), g6 (by first | trivial | rfl)⟩
  · rintro ⟨q0, q1, q2, q3, q4, q5, q6⟩
    refine ⟨by decide, by decide, fun _ => q0, fun _ => q1, fun _ => q2, fun h => absurd rfl h, fun _ => ⟨q3, q4⟩, (fun h => by rw [q5] at h; cases h), fun h => absurd h (by decide), fun h => absurd h (by decide), fun h => absurd h (by decide), fun _ => q6, fun h => absurd h (by decide)⟩
end Go.Proofs.YtofhckheeijoiaaDoor
/- Has a tree just the fields of its Op: the document's fields, at each Op by itself. -/
namespace Go.Proofs.YtofhckheeijoiaaDoor
open Go Go.RowKit

theorem fields_iff7 (rune : Int) (set : List (Int × Int)) (at' cap : Int) (name : ByteArray) (min max : Int) (lazy : Bool) : FieldsOk ({ op := 7, rune := rune, set := set, at' := at', cap := cap, name := name, min := min, max := max, lazy := lazy } : Fld) ↔ (rune = 0) ∧ (set = []) ∧ (at' = 0) ∧ (cap = 0) ∧ (name.toList = []) ∧ (min = 0) ∧ (max = 0) := by
  unfold FieldsOk
  simp only []
  constructor
  · intro h
    obtain ⟨-, -, h3, h4, h5, h6, h10, hl, g3, g4, g5, g6, g10⟩ := h
    refine ⟨h3 (by decide), h4 (by decide), h5 (by decide), (h6 (by decide)).1, (h6 (by decide)).2, (h10 (by decide)).1, (h10 (by decide)).2⟩
  · rintro ⟨q0, q1, q2, q3, q4, q5, q6⟩
    refine ⟨by decide, by decide, fun _ => q0, fun _ => q1, fun _ => q2, fun _ => ⟨q3, q4⟩, fun _ => ⟨q5, q6⟩, fun _ => by decide, fun h => absurd h (by decide), fun h => absurd h (by decide), fun h => absurd h (by decide), fun h => absurd h (by decide), fun h => absurd h (by decide)⟩
theorem fields_iff8 (rune : Int) (set : List (Int × Int)) (at' cap : Int) (name : ByteArray) (min max : Int) (lazy : Bool) : FieldsOk ({ op := 8, rune := rune, set := set, at' := at', cap := cap, name := name, min := min, max := max, lazy := lazy } : Fld) ↔ (rune = 0) ∧ (set = []) ∧ (at' = 0) ∧ (cap = 0) ∧ (name.toList = []) ∧ (min = 0) ∧ (max = 0) := by
  unfold FieldsOk
  simp only []
  constructor
  · intro h
    obtain ⟨-, -, h3, h4, h5, h6, h10, hl, g3, g4, g5, g6, g10⟩ := h
    refine ⟨h3 (by decide), h4 (by decide), h5 (by decide), (h6 (by decide)).1, (h6 (by decide)).2, (h10 (by decide)).1, (h10 (by decide)).2⟩
  · rintro ⟨q0, q1, q2, q3, q4, q5, q6⟩
    refine ⟨by decide, by decide, fun _ => q0, fun _ => q1, fun _ => q2, fun _ => ⟨q3, q4⟩, fun _ => ⟨q5, q6⟩, fun _ => by decide, fun h => absurd h (by decide), fun h => absurd h (by decide), fun h => absurd h (by decide), fun h => absurd h (by decide), fun h => absurd h (by decide)⟩
theorem fields_iff9 (rune : Int) (set : List (Int × Int)) (at' cap : Int) (name : ByteArray) (min max : Int) (lazy : Bool) : FieldsOk ({ op := 9, rune := rune, set := set, at' := at', cap := cap, name := name, min := min, max := max, lazy := lazy } : Fld) ↔ (rune = 0) ∧ (set = []) ∧ (at' = 0) ∧ (cap = 0) ∧ (name.toList = []) ∧ (min = 0) ∧ (max = 0) := by
  unfold FieldsOk
  simp only []
  constructor
  · intro h
    obtain ⟨-, -, h3, h4, h5, h6, h10, hl, g3, g4, g5, g6, g10⟩ := h
    refine ⟨h3 (by decide), h4 (by decide), h5 (by decide), (h6 (by decide)).1, (h6 (by decide)).2, (h10 (by decide)).1, (h10 (by decide)).2⟩
  · rintro ⟨q0, q1, q2, q3, q4, q5, q6⟩
    refine ⟨by decide, by decide, fun _ => q0, fun _ => q1, fun _ => q2, fun _ => ⟨q3, q4⟩, fun _ => ⟨q5, q6⟩, fun _ => by decide, fun h => absurd h (by decide), fun h => absurd h (by decide), fun h => absurd h (by decide), fun h => absurd h (by decide), fun h => absurd h (by decide)⟩
theorem fields_iff10 (rune : Int) (set : List (Int × Int)) (at' cap : Int) (name : ByteArray) (min max : Int) (lazy : Bool) : FieldsOk ({ op := 10, rune := rune, set := set, at' := at', cap := cap, name := name, min := min, max := max, lazy := lazy } : Fld) ↔ (rune = 0) ∧ (set = []) ∧ (at' = 0) ∧ (cap = 0) ∧ (name.toList = []) ∧ (0 ≤ min) ∧ (min ≤ 1000) ∧ (max = -1 ∨ (min ≤ max ∧ max ≤ 1000)) := by
  unfold FieldsOk
  simp only []
  constructor
  · intro h
    obtain ⟨-, -, h3, h4, h5, h6, h10, hl, g3, g4, g5, g6, g10⟩ := h
    refine ⟨h3 (by decide), h4 (by decide), h5 (by decide), (h6 (by decide)).1, (h6 (by decide)).2, (g10 (by first | trivial | rfl)).1.1, (g10 (by first | trivial | rfl)).1.2, (g10 (by first | trivial | rfl)).2⟩
  · rintro ⟨q0, q1, q2, q3, q4, q5, q6, q7⟩
    refine ⟨by decide, by decide, fun _ => q0, fun _ => q1, fun _ => q2, fun _ => ⟨q3, q4⟩, fun h => absurd rfl h, fun _ => by decide, fun h => absurd h (by decide), fun h => absurd h (by decide), fun h => absurd h (by decide), fun h => absurd h (by decide), fun _ => ⟨⟨q5, q6⟩, q7⟩⟩
theorem fields_iff11 (rune : Int) (set : List (Int × Int)) (at' cap : Int) (name : ByteArray) (min max : Int) (lazy : Bool) : FieldsOk ({ op := 11, rune := rune, set := set, at' := at', cap := cap, name := name, min := min, max := max, lazy := lazy } : Fld) ↔ (rune = 0) ∧ (set = []) ∧ (at' = 0) ∧ (cap = 0) ∧ (name.toList = []) ∧ (min = 0) ∧ (max = 0) ∧ (lazy = false) := by
  unfold FieldsOk
  simp only []
  constructor
  · intro h
    obtain ⟨-, -, h3, h4, h5, h6, h10, hl, g3, g4, g5, g6, g10⟩ := h
    refine ⟨h3 (by decide), h4 (by decide), h5 (by decide), (h6 (by decide)).1, (h6 (by decide)).2, (h10 (by decide)).1, (h10 (by decide)).2, (by cases lazy with | false => rfl | true => exact absurd (hl rfl) (by decide))⟩
  · rintro ⟨q0, q1, q2, q3, q4, q5, q6, q7⟩
    refine ⟨by decide, by decide, fun _ => q0, fun _ => q1, fun _ => q2, fun _ => ⟨q3, q4⟩, fun _ => ⟨q5, q6⟩, (fun h => by rw [q7] at h; cases h), fun h => absurd h (by decide), fun h => absurd h (by decide), fun h => absurd h (by decide), fun h => absurd h (by decide), fun h => absurd h (by decide)⟩
theorem fields_iff12 (rune : Int) (set : List (Int × Int)) (at' cap : Int) (name : ByteArray) (min max : Int) (lazy : Bool) : FieldsOk ({ op := 12, rune := rune, set := set, at' := at', cap := cap, name := name, min := min, max := max, lazy := lazy } : Fld) ↔ (rune = 0) ∧ (set = []) ∧ (at' = 0) ∧ (cap = 0) ∧ (name.toList = []) ∧ (min = 0) ∧ (max = 0) ∧ (lazy = false) := by
  unfold FieldsOk
  simp only []
  constructor
  · intro h
    obtain ⟨-, -, h3, h4, h5, h6, h10, hl, g3, g4, g5, g6, g10⟩ := h
    refine ⟨h3 (by decide), h4 (by decide), h5 (by decide), (h6 (by decide)).1, (h6 (by decide)).2, (h10 (by decide)).1, (h10 (by decide)).2, (by cases lazy with | false => rfl | true => exact absurd (hl rfl) (by decide))⟩
  · rintro ⟨q0, q1, q2, q3, q4, q5, q6, q7⟩
    refine ⟨by decide, by decide, fun _ => q0, fun _ => q1, fun _ => q2, fun _ => ⟨q3, q4⟩, fun _ => ⟨q5, q6⟩, (fun h => by rw [q7] at h; cases h), fun h => absurd h (by decide), fun h => absurd h (by decide), fun h => absurd h (by decide), fun h => absurd h (by decide), fun h => absurd h (by decide)⟩
end Go.Proofs.YtofhckheeijoiaaDoor
/- Has a tree just the fields of its Op: the document's fields, at any tree. -/
namespace Go.Proofs.YtofhckheeijoiaaDoor
open Go Go.RowKit

end Go.Proofs.YtofhckheeijoiaaDoor
/- Is all that makes a tree right so of it, but for groups, depth and weight: the document's Shaped. -/
namespace Go.Proofs.YtofhckheeijoiaaDoor
open Go Go.RowKit

end Go.Proofs.YtofhckheeijoiaaDoor
