/- Is it a name: what one is, and the document's Name. -/
import Derived.Test.YthapafaeakgfpaaBase
import Derived.Test.YthapafaeakgfpaaProg
import Derived.WalkKit
import Derived.Below
import Derived.Lib.Hide
import Derived.Deep.DeepCutAuto
set_option linter.unusedVariables false
namespace Go.Proofs.Ythapafaeakgfpaa
open Go Go.RowKit

/-- A letter of a name; what a name's byte may be behind the first one. -/
def letterB (c : UInt8) : Bool := (decide (97 ≤ c.toNat) && decide (c.toNat ≤ 122)) || (decide (65 ≤ c.toNat) && decide (c.toNat ≤ 90)) || decide (c.toNat = 95)
def digitB (c : UInt8) : Bool := decide (48 ≤ c.toNat) && decide (c.toNat ≤ 57)
def namedFrom : Nat → List UInt8 → Bool
  | _, [] => true
  | i, c :: l => (letterB c || (decide (0 < i) && digitB c)) && namedFrom (i + 1) l
/-- Is it a name? -/
def nameB (l : List UInt8) : Bool := decide (1 ≤ l.length) && decide (l.length ≤ 32) && namedFrom 0 l
theorem namedFrom_append : ∀ (a : List UInt8) (i : Nat) (b : List UInt8), namedFrom i (a ++ b) = (namedFrom i a && namedFrom (i + a.length) b)
  | [], i, b => by simp [namedFrom]
  | c :: a, i, b => by
    rw [List.cons_append, namedFrom, namedFrom, namedFrom_append a (i + 1) b, Bool.and_assoc, List.length_cons, show i + 1 + a.length = i + (a.length + 1) by omega]
theorem letter_iff (c : UInt8) : letterB c = true ↔ (97 ≤ c.toNat ∧ c.toNat ≤ 122) ∨ (65 ≤ c.toNat ∧ c.toNat ≤ 90) ∨ c.toNat = 95 := by
  unfold letterB
  simp only [Bool.or_eq_true, Bool.and_eq_true, decide_eq_true_eq, or_assoc]
theorem digit_iff (c : UInt8) : digitB c = true ↔ 48 ≤ c.toNat ∧ c.toNat ≤ 57 := by
  unfold digitB
  simp only [Bool.and_eq_true, decide_eq_true_eq]
theorem named_snoc (l : List UInt8) (c : UInt8) : namedFrom 0 (l ++ [c]) = (namedFrom 0 l && (letterB c || (decide (0 < l.length) && digitB c))) := by
  rw [namedFrom_append]
  simp [namedFrom]
theorem named_take {l : List UInt8} {k : Nat} (h : namedFrom 0 l = true) : namedFrom 0 (l.take k) = true := by
  rw [← List.take_append_drop k l, namedFrom_append, Bool.and_eq_true] at h
  exact h.1
theorem take_snoc8 (s : ByteArray) (k : Nat) (h : k < s.size) : s.toList.take (k + 1) = s.toList.take k ++ [s[k]] := by
  rw [ByteArray.toList_eq, List.take_succ_eq_append_getElem (by simpa using h)]
  rfl
def NamePost (P : Prop) (w : World) (e : Ending) (w' : World) : Prop := ∃ B : Bool, e = .returned (.bool B) ∧ (B = true ↔ P) ∧ w' = w
set_option maxHeartbeats 1600000 in
set_option maxRecDepth 100000 in
theorem name_any (s : ByteArray) (w : World) : Calls Try.prog 61 #[.string s] w (NamePost (nameB s.toList = true) w) := by
  obtain ⟨P, hP⟩ : ∃ P, (nameB s.toList = true) = P := ⟨_, rfl⟩
  have hl : s.toList.length = s.size := by rw [ByteArray.toList_eq]; simp
  have HP : Hid (P ↔ 1 ≤ s.size ∧ s.size ≤ 32 ∧ namedFrom 0 s.toList = true) := Lib.hid (by rw [← hP]; unfold nameB; rw [hl]; simp only [Bool.and_eq_true, decide_eq_true_eq, and_assoc])
  rw [hP]
  have HL := Lib.hid hl
  clear hP hl
  go_enter Try.func61, Try.ntmps61
  by_cases h1 : s.size < 1
  · go_wp2
    go_ret
    exact ⟨false, rfl, ⟨fun h => (by cases h), fun h => (by have := (HP.out.1 h).1; omega)⟩, rfl⟩
  by_cases h2 : 32 < s.size
  · go_wp2
    go_ret
    exact ⟨false, rfl, ⟨fun h => (by cases h), fun h => (by have := (HP.out.1 h).2.1; omega)⟩, rfl⟩
  go_wp2_with fail
  go_loop [3] (fun i => ∃ k : Nat, k ≤ s.size ∧ i = .int .i64 k ∧ namedFrom 0 (s.toList.take k) = true) (fun i => s.size - (intOf i).toNat)
  case atStart => exact ⟨0, Nat.zero_le _, rfl, rfl⟩
  case round =>
    obtain ⟨k, hk, rfl, hN⟩ := hrel
    have HN := Lib.hid hN
    clear hN
    by_cases hkn : k < s.size
    · have hsn := take_snoc8 s k hkn
      have hnx : namedFrom 0 (s.toList.take (k + 1)) = (letterB s[k] || (decide (0 < k) && digitB s[k])) := by
        rw [hsn, named_snoc, HN.out, List.length_take, HL.out, Nat.min_eq_left hk, Bool.true_and]
      have hbad : letterB s[k] = false → (decide (0 < k) && digitB s[k]) = false → ¬ namedFrom 0 s.toList = true := fun a b h => by
        have := named_take (k := k + 1) h
        rw [hnx, a, b] at this
        cases this
      have hli := letter_iff s[k]
      have hdi := digit_iff s[k]
      obtain ⟨x, hx⟩ : ∃ x : Nat, s[k].toNat = x := ⟨_, rfl⟩
      have hx255 : x < 256 := by rw [← hx]; exact UInt8.toNat_lt _
      rw [hx] at hli hdi
      have HNX := Lib.hid hnx; have HBAD := Lib.hid hbad; have HLI := Lib.hid hli; have HDI := Lib.hid hdi
      clear hsn hnx hbad hli hdi
      have hcase : (97 ≤ x ∧ x ≤ 122) ∨ (122 < x) ∨ (65 ≤ x ∧ x ≤ 90) ∨ (x = 95) ∨ (90 < x ∧ x < 95) ∨ (x = 96) ∨ (57 < x ∧ x < 65) ∨ ((48 ≤ x ∧ x ≤ 57) ∧ 0 < k) ∨ ((48 ≤ x ∧ x ≤ 57) ∧ k = 0) ∨ (x < 48) := by omega
      rcases hcase with hc | hc | hc | hc | hc | hc | hc | hc | hc | hc
      · have f97 : 97 ≤ x := by omega
        have f65 : 65 ≤ x := by omega
        have f48 : 48 ≤ x := by omega
        have f122 : decide ((x : Int) ≤ 122) = true := decide_eq_true (by omega)
        have f90 : decide ((x : Int) ≤ 90) = false := decide_eq_false (by omega)
        have f57 : decide ((x : Int) ≤ 57) = false := decide_eq_false (by omega)
        have f95 : ((x : Int) == 95) = false := beq_eq_false_iff_ne.2 (by omega)
        have hq : namedFrom 0 (s.toList.take (k + 1)) = true := by rw [HNX.out, HLI.out.2 (by omega), Bool.true_or]
        have HQ := Lib.hid hq
        clear hq hc
        go_wp2_with fail
        all_goals
          go_round
          case rel => exact ⟨k + 1, by omega, by go_num, HQ.out⟩
          case measure => simp [intOf]; omega
      · have f97 : 97 ≤ x := by omega
        have f65 : 65 ≤ x := by omega
        have f48 : 48 ≤ x := by omega
        have f122 : decide ((x : Int) ≤ 122) = false := decide_eq_false (by omega)
        have f90 : decide ((x : Int) ≤ 90) = false := decide_eq_false (by omega)
        have f57 : decide ((x : Int) ≤ 57) = false := decide_eq_false (by omega)
        have f95 : ((x : Int) == 95) = false := beq_eq_false_iff_ne.2 (by omega)
        have hnl : letterB s[k] = false := by
          cases h : letterB s[k]
          · rfl
          · have := HLI.out.1 h
            omega
        have hnd : (decide (0 < k) && digitB s[k]) = false := by
          cases h : digitB s[k]
          · simp
          · have := HDI.out.1 h
            omega
        have HQ := Lib.hid (HBAD.out hnl hnd)
        clear hnl hnd hc
        by_cases hkz : 0 < k
        · have hk0 : (0 : Int) < (k : Int) := by omega
          clear hkz
          go_wp2_with fail
          go_ret
          exact ⟨false, rfl, ⟨fun h => (by cases h), fun h => absurd (HP.out.1 h).2.2 HQ.out⟩, rfl⟩
        · obtain rfl : k = 0 := by omega
          clear hkz
          go_wp2_with fail
          go_ret
          exact ⟨false, rfl, ⟨fun h => (by cases h), fun h => absurd (HP.out.1 h).2.2 HQ.out⟩, rfl⟩
      · have f97 : ¬ 97 ≤ x := by omega
        have f65 : 65 ≤ x := by omega
        have f48 : 48 ≤ x := by omega
        have f122 : decide ((x : Int) ≤ 122) = true := decide_eq_true (by omega)
        have f90 : decide ((x : Int) ≤ 90) = true := decide_eq_true (by omega)
        have f57 : decide ((x : Int) ≤ 57) = false := decide_eq_false (by omega)
        have f95 : ((x : Int) == 95) = false := beq_eq_false_iff_ne.2 (by omega)
        have hq : namedFrom 0 (s.toList.take (k + 1)) = true := by rw [HNX.out, HLI.out.2 (by omega), Bool.true_or]
        have HQ := Lib.hid hq
        clear hq hc
        go_wp2_with fail
        all_goals
          go_round
          case rel => exact ⟨k + 1, by omega, by go_num, HQ.out⟩
          case measure => simp [intOf]; omega
      · have f97 : ¬ 97 ≤ x := by omega
        have f65 : 65 ≤ x := by omega
        have f48 : 48 ≤ x := by omega
        have f122 : decide ((x : Int) ≤ 122) = true := decide_eq_true (by omega)
        have f90 : decide ((x : Int) ≤ 90) = false := decide_eq_false (by omega)
        have f57 : decide ((x : Int) ≤ 57) = false := decide_eq_false (by omega)
        have hq : namedFrom 0 (s.toList.take (k + 1)) = true := by rw [HNX.out, HLI.out.2 (by omega), Bool.true_or]
        have HQ := Lib.hid hq
        obtain rfl : x = 95 := hc
        clear hq
        go_wp2_with fail
        all_goals
          go_round
          case rel => exact ⟨k + 1, by omega, by go_num, HQ.out⟩
          case measure => simp [intOf]; omega
      · have f97 : ¬ 97 ≤ x := by omega
        have f65 : 65 ≤ x := by omega
        have f48 : 48 ≤ x := by omega
        have f122 : decide ((x : Int) ≤ 122) = true := decide_eq_true (by omega)
        have f90 : decide ((x : Int) ≤ 90) = false := decide_eq_false (by omega)
        have f57 : decide ((x : Int) ≤ 57) = false := decide_eq_false (by omega)
        have f95 : ((x : Int) == 95) = false := beq_eq_false_iff_ne.2 (by omega)
        have hnl : letterB s[k] = false := by
          cases h : letterB s[k]
          · rfl
          · have := HLI.out.1 h
            omega
        have hnd : (decide (0 < k) && digitB s[k]) = false := by
          cases h : digitB s[k]
          · simp
          · have := HDI.out.1 h
            omega
        have HQ := Lib.hid (HBAD.out hnl hnd)
        clear hnl hnd hc
        by_cases hkz : 0 < k
        · have hk0 : (0 : Int) < (k : Int) := by omega
          clear hkz
          go_wp2_with fail
          go_ret
          exact ⟨false, rfl, ⟨fun h => (by cases h), fun h => absurd (HP.out.1 h).2.2 HQ.out⟩, rfl⟩
        · obtain rfl : k = 0 := by omega
          clear hkz
          go_wp2_with fail
          go_ret
          exact ⟨false, rfl, ⟨fun h => (by cases h), fun h => absurd (HP.out.1 h).2.2 HQ.out⟩, rfl⟩
      · have f97 : ¬ 97 ≤ x := by omega
        have f65 : 65 ≤ x := by omega
        have f48 : 48 ≤ x := by omega
        have f122 : decide ((x : Int) ≤ 122) = true := decide_eq_true (by omega)
        have f90 : decide ((x : Int) ≤ 90) = false := decide_eq_false (by omega)
        have f57 : decide ((x : Int) ≤ 57) = false := decide_eq_false (by omega)
        have f95 : ((x : Int) == 95) = false := beq_eq_false_iff_ne.2 (by omega)
        have hnl : letterB s[k] = false := by
          cases h : letterB s[k]
          · rfl
          · have := HLI.out.1 h
            omega
        have hnd : (decide (0 < k) && digitB s[k]) = false := by
          cases h : digitB s[k]
          · simp
          · have := HDI.out.1 h
            omega
        have HQ := Lib.hid (HBAD.out hnl hnd)
        clear hnl hnd hc
        by_cases hkz : 0 < k
        · have hk0 : (0 : Int) < (k : Int) := by omega
          clear hkz
          go_wp2_with fail
          go_ret
          exact ⟨false, rfl, ⟨fun h => (by cases h), fun h => absurd (HP.out.1 h).2.2 HQ.out⟩, rfl⟩
        · obtain rfl : k = 0 := by omega
          clear hkz
          go_wp2_with fail
          go_ret
          exact ⟨false, rfl, ⟨fun h => (by cases h), fun h => absurd (HP.out.1 h).2.2 HQ.out⟩, rfl⟩
      · have f97 : ¬ 97 ≤ x := by omega
        have f65 : ¬ 65 ≤ x := by omega
        have f48 : 48 ≤ x := by omega
        have f122 : decide ((x : Int) ≤ 122) = true := decide_eq_true (by omega)
        have f90 : decide ((x : Int) ≤ 90) = true := decide_eq_true (by omega)
        have f57 : decide ((x : Int) ≤ 57) = false := decide_eq_false (by omega)
        have f95 : ((x : Int) == 95) = false := beq_eq_false_iff_ne.2 (by omega)
        have hnl : letterB s[k] = false := by
          cases h : letterB s[k]
          · rfl
          · have := HLI.out.1 h
            omega
        have hnd : (decide (0 < k) && digitB s[k]) = false := by
          cases h : digitB s[k]
          · simp
          · have := HDI.out.1 h
            omega
        have HQ := Lib.hid (HBAD.out hnl hnd)
        clear hnl hnd hc
        by_cases hkz : 0 < k
        · have hk0 : (0 : Int) < (k : Int) := by omega
          clear hkz
          go_wp2_with fail
          go_ret
          exact ⟨false, rfl, ⟨fun h => (by cases h), fun h => absurd (HP.out.1 h).2.2 HQ.out⟩, rfl⟩
        · obtain rfl : k = 0 := by omega
          clear hkz
          go_wp2_with fail
          go_ret
          exact ⟨false, rfl, ⟨fun h => (by cases h), fun h => absurd (HP.out.1 h).2.2 HQ.out⟩, rfl⟩
      · have f97 : ¬ 97 ≤ x := by omega
        have f65 : ¬ 65 ≤ x := by omega
        have f48 : 48 ≤ x := by omega
        have f122 : decide ((x : Int) ≤ 122) = true := decide_eq_true (by omega)
        have f90 : decide ((x : Int) ≤ 90) = true := decide_eq_true (by omega)
        have f57 : decide ((x : Int) ≤ 57) = true := decide_eq_true (by omega)
        have f95 : ((x : Int) == 95) = false := beq_eq_false_iff_ne.2 (by omega)
        have hq : namedFrom 0 (s.toList.take (k + 1)) = true := by rw [HNX.out, HDI.out.2 (by omega), decide_eq_true hc.2]; simp
        have HQ := Lib.hid hq
        have hk0 : (0 : Int) < (k : Int) := by omega
        clear hq hc
        go_wp2_with fail
        all_goals
          go_round
          case rel => exact ⟨k + 1, by omega, by go_num, HQ.out⟩
          case measure => simp [intOf]; omega
      · have f97 : ¬ 97 ≤ x := by omega
        have f65 : ¬ 65 ≤ x := by omega
        have f48 : 48 ≤ x := by omega
        have f122 : decide ((x : Int) ≤ 122) = true := decide_eq_true (by omega)
        have f90 : decide ((x : Int) ≤ 90) = true := decide_eq_true (by omega)
        have f57 : decide ((x : Int) ≤ 57) = true := decide_eq_true (by omega)
        have f95 : ((x : Int) == 95) = false := beq_eq_false_iff_ne.2 (by omega)
        have hnl : letterB s[k] = false := by
          cases h : letterB s[k]
          · rfl
          · have := HLI.out.1 h
            omega
        have hk0 : ¬ (0 : Int) < (k : Int) := by omega
        have hnd : (decide (0 < k) && digitB s[k]) = false := by rw [decide_eq_false (by omega)]; rfl
        have HQ := Lib.hid (HBAD.out hnl hnd)
        obtain rfl : k = 0 := hc.2
        clear hnl hnd hc
        go_wp2_with fail
        go_ret
        exact ⟨false, rfl, ⟨fun h => (by cases h), fun h => absurd (HP.out.1 h).2.2 HQ.out⟩, rfl⟩
      · have f97 : ¬ 97 ≤ x := by omega
        have f65 : ¬ 65 ≤ x := by omega
        have f48 : ¬ 48 ≤ x := by omega
        have f122 : decide ((x : Int) ≤ 122) = true := decide_eq_true (by omega)
        have f90 : decide ((x : Int) ≤ 90) = true := decide_eq_true (by omega)
        have f57 : decide ((x : Int) ≤ 57) = true := decide_eq_true (by omega)
        have f95 : ((x : Int) == 95) = false := beq_eq_false_iff_ne.2 (by omega)
        have hnl : letterB s[k] = false := by
          cases h : letterB s[k]
          · rfl
          · have := HLI.out.1 h
            omega
        have hnd : (decide (0 < k) && digitB s[k]) = false := by
          cases h : digitB s[k]
          · simp
          · have := HDI.out.1 h
            omega
        have HQ := Lib.hid (HBAD.out hnl hnd)
        clear hnl hnd hc
        by_cases hkz : 0 < k
        · have hk0 : (0 : Int) < (k : Int) := by omega
          clear hkz
          go_wp2_with fail
          go_ret
          exact ⟨false, rfl, ⟨fun h => (by cases h), fun h => absurd (HP.out.1 h).2.2 HQ.out⟩, rfl⟩
        · obtain rfl : k = 0 := by omega
          clear hkz
          go_wp2_with fail
          go_ret
          exact ⟨false, rfl, ⟨fun h => (by cases h), fun h => absurd (HP.out.1 h).2.2 HQ.out⟩, rfl⟩
    · have hke : s.toList.take k = s.toList := List.take_of_length_le (by rw [HL.out]; omega)
      have hq := HN.out
      rw [hke] at hq
      have HQ := Lib.hid hq
      clear hke hq
      go_wp2_with fail
      go_ret
      exact ⟨true, rfl, ⟨fun _ => HP.out.2 ⟨by omega, by omega, HQ.out⟩, fun _ => rfl⟩, rfl⟩
end Go.Proofs.Ythapafaeakgfpaa
