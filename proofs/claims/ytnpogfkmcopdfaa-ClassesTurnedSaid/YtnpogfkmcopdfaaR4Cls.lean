/- The document's sets with names: what they are. -/
import Derived.Test.YtnpogfkmcopdfaaRNamed
import Derived.Test.YtnpogfkmcopdfaaR4Set
set_option linter.unusedVariables false
namespace Go.Proofs.Ytnpogfkmcopdfaa
open Go Go.RowKit

/-- A set and true, or none and false. -/
def Post2 (o : Option (List (Int × Int))) (w : World) (e : Ending) (w' : World) : Prop :=
  Below w.heap.size w w' ∧ ((o = none ∧ e = .returned (.tuple #[.slice none 0 0, .bool false])) ∨ ∃ v l, o = some l ∧ e = .returned (.tuple #[v, .bool true]) ∧ OwnR w' w.heap.size v l)
/-- What a list does not have. -/
def notR (l : List (Int × Int)) : List (Int × Int) := notFrom 0 l
theorem notR_right {l : List (Int × Int)} (h : RightR l) : RightR (notR l) := not_right l 0 h
theorem notR_has {l : List (Int × Int)} (h : RightR l) (c : Int) : HasR (notR l) c ↔ 0 ≤ c ∧ c ≤ 1114111 ∧ ¬ HasR l c := not_has l 0 c (Int.le_refl _) h
theorem notR_is {l k : List (Int × Int)} (h : RightR l) (hk : RightR k) (hP : ∀ c, HasR k c ↔ (0 ≤ c ∧ c ≤ 1114111 ∧ ¬ HasR l c)) : k = notR l :=
  right_eq _ _ hk (notR_right h) fun c => by rw [hP, notR_has h]
theorem notR_twice {l : List (Int × Int)} (h : RightR l) : notR (notR l) = l :=
  right_eq _ _ (notR_right (notR_right h)) h fun c => by
    rw [notR_has (notR_right h), notR_has h]
    constructor
    · rintro ⟨h0, h1, h2⟩
      exact Classical.byContradiction fun hh => h2 ⟨h0, h1, hh⟩
    · intro hh
      exact ⟨hh.1, hh.2.1, fun x => x.2.2 hh⟩
def dR : List (Int × Int) := [(48, 57)]
def sR : List (Int × Int) := [(9, 10), (12, 13), (32, 32)]
def wR : List (Int × Int) := [(48, 57), (65, 90), (95, 95), (97, 122)]
def perlR (c : Int) : Option (List (Int × Int)) :=
  if c = 100 then some dR else if c = 115 then some sR else if c = 119 then some wR else if c = 68 then some (notR dR) else if c = 83 then some (notR sR) else if c = 87 then some (notR wR) else none
def plainR (b : List UInt8) : Option (List (Int × Int)) :=
  if b = [97, 108, 110, 117, 109] then some [(48, 57), (65, 90), (97, 122)] else
  if b = [97, 108, 112, 104, 97] then some [(65, 90), (97, 122)] else
  if b = [97, 115, 99, 105, 105] then some [(0, 127)] else
  if b = [98, 108, 97, 110, 107] then some [(9, 9), (32, 32)] else
  if b = [99, 110, 116, 114, 108] then some [(0, 31), (127, 127)] else
  if b = [100, 105, 103, 105, 116] then some [(48, 57)] else
  if b = [103, 114, 97, 112, 104] then some [(33, 126)] else
  if b = [108, 111, 119, 101, 114] then some [(97, 122)] else
  if b = [112, 114, 105, 110, 116] then some [(32, 126)] else
  if b = [112, 117, 110, 99, 116] then some [(33, 47), (58, 64), (91, 96), (123, 126)] else
  if b = [115, 112, 97, 99, 101] then some [(9, 13), (32, 32)] else
  if b = [117, 112, 112, 101, 114] then some [(65, 90)] else
  if b = [119, 111, 114, 100] then some [(48, 57), (65, 90), (95, 95), (97, 122)] else
  if b = [120, 100, 105, 103, 105, 116] then some [(48, 57), (65, 70), (97, 102)] else
  none
def posixR (b : List UInt8) : Option (List (Int × Int)) := if b.head? = some 94 then (plainR b.tail).map notR else plainR b
def property1 (b : List UInt8) : Option (List (Int × Int)) := if b = [65, 110, 121] then some (notR []) else nameR b
def property2 (b : List UInt8) (n : Bool) : Option (List (Int × Int)) := if n then (property1 b).map notR else property1 b
def propR (b : List UInt8) (n : Bool) : Option (List (Int × Int)) := if b.head? = some 94 then property2 b.tail (!n) else property2 b n
def dotR (all : Bool) : List (Int × Int) := if all then notR [] else notR [(10, 10)]
theorem plain_right {b : List UInt8} {l : List (Int × Int)} (h : plainR b = some l) : RightR l := by
  unfold plainR at h
  by_cases h0 : b = [97, 108, 110, 117, 109]
  · rw [if_pos h0] at h
    injection h with h
    rw [← h]
    simp [RightR, RightFrom]
  rw [if_neg h0] at h
  by_cases h1 : b = [97, 108, 112, 104, 97]
  · rw [if_pos h1] at h
    injection h with h
    rw [← h]
    simp [RightR, RightFrom]
  rw [if_neg h1] at h
  by_cases h2 : b = [97, 115, 99, 105, 105]
  · rw [if_pos h2] at h
    injection h with h
    rw [← h]
    simp [RightR, RightFrom]
  rw [if_neg h2] at h
  by_cases h3 : b = [98, 108, 97, 110, 107]
  · rw [if_pos h3] at h
    injection h with h
    rw [← h]
    simp [RightR, RightFrom]
  rw [if_neg h3] at h
  by_cases h4 : b = [99, 110, 116, 114, 108]
  · rw [if_pos h4] at h
    injection h with h
    rw [← h]
    simp [RightR, RightFrom]
  rw [if_neg h4] at h
  by_cases h5 : b = [100, 105, 103, 105, 116]
  · rw [if_pos h5] at h
    injection h with h
    rw [← h]
    simp [RightR, RightFrom]
  rw [if_neg h5] at h
  by_cases h6 : b = [103, 114, 97, 112, 104]
  · rw [if_pos h6] at h
    injection h with h
    rw [← h]
    simp [RightR, RightFrom]
  rw [if_neg h6] at h
  by_cases h7 : b = [108, 111, 119, 101, 114]
  · rw [if_pos h7] at h
    injection h with h
    rw [← h]
    simp [RightR, RightFrom]
  rw [if_neg h7] at h
  by_cases h8 : b = [112, 114, 105, 110, 116]
  · rw [if_pos h8] at h
    injection h with h
    rw [← h]
    simp [RightR, RightFrom]
  rw [if_neg h8] at h
  by_cases h9 : b = [112, 117, 110, 99, 116]
  · rw [if_pos h9] at h
    injection h with h
    rw [← h]
    simp [RightR, RightFrom]
  rw [if_neg h9] at h
  by_cases h10 : b = [115, 112, 97, 99, 101]
  · rw [if_pos h10] at h
    injection h with h
    rw [← h]
    simp [RightR, RightFrom]
  rw [if_neg h10] at h
  by_cases h11 : b = [117, 112, 112, 101, 114]
  · rw [if_pos h11] at h
    injection h with h
    rw [← h]
    simp [RightR, RightFrom]
  rw [if_neg h11] at h
  by_cases h12 : b = [119, 111, 114, 100]
  · rw [if_pos h12] at h
    injection h with h
    rw [← h]
    simp [RightR, RightFrom]
  rw [if_neg h12] at h
  by_cases h13 : b = [120, 100, 105, 103, 105, 116]
  · rw [if_pos h13] at h
    injection h with h
    rw [← h]
    simp [RightR, RightFrom]
  rw [if_neg h13] at h
  cases h
theorem name_right {b : List UInt8} {l : List (Int × Int)} (h : nameR b = some l) : RightR l := by
  unfold nameR at h
  by_cases h0 : b = [76, 117]
  · rw [if_pos h0] at h
    injection h with h
    rw [← h]
    simp [RightR, RightFrom]
  rw [if_neg h0] at h
  by_cases h1 : b = [76, 108]
  · rw [if_pos h1] at h
    injection h with h
    rw [← h]
    simp [RightR, RightFrom]
  rw [if_neg h1] at h
  by_cases h2 : b = [76]
  · rw [if_pos h2] at h
    injection h with h
    rw [← h]
    simp [RightR, RightFrom]
  rw [if_neg h2] at h
  by_cases h3 : b = [78, 100]
  · rw [if_pos h3] at h
    injection h with h
    rw [← h]
    simp [RightR, RightFrom]
  rw [if_neg h3] at h
  by_cases h4 : b = [78]
  · rw [if_pos h4] at h
    injection h with h
    rw [← h]
    simp [RightR, RightFrom]
  rw [if_neg h4] at h
  by_cases h5 : b = [80]
  · rw [if_pos h5] at h
    injection h with h
    rw [← h]
    simp [RightR, RightFrom]
  rw [if_neg h5] at h
  by_cases h6 : b = [83]
  · rw [if_pos h6] at h
    injection h with h
    rw [← h]
    simp [RightR, RightFrom]
  rw [if_neg h6] at h
  by_cases h7 : b = [90]
  · rw [if_pos h7] at h
    injection h with h
    rw [← h]
    simp [RightR, RightFrom]
  rw [if_neg h7] at h
  by_cases h8 : b = [67, 99]
  · rw [if_pos h8] at h
    injection h with h
    rw [← h]
    simp [RightR, RightFrom]
  rw [if_neg h8] at h
  by_cases h9 : b = [76, 97, 116, 105, 110]
  · rw [if_pos h9] at h
    injection h with h
    rw [← h]
    simp [RightR, RightFrom]
  rw [if_neg h9] at h
  by_cases h10 : b = [71, 114, 101, 101, 107]
  · rw [if_pos h10] at h
    injection h with h
    rw [← h]
    simp [RightR, RightFrom]
  rw [if_neg h10] at h
  by_cases h11 : b = [67, 121, 114, 105, 108, 108, 105, 99]
  · rw [if_pos h11] at h
    injection h with h
    rw [← h]
    simp [RightR, RightFrom]
  rw [if_neg h11] at h
  by_cases h12 : b = [72, 97, 110]
  · rw [if_pos h12] at h
    injection h with h
    rw [← h]
    simp [RightR, RightFrom]
  rw [if_neg h12] at h
  cases h
theorem nil_right : RightR [] := trivial
theorem property1_right {b : List UInt8} {l : List (Int × Int)} (h : property1 b = some l) : RightR l := by
  unfold property1 at h
  split at h
  · injection h with h
    subst h
    exact notR_right nil_right
  · exact name_right h
theorem property2_right {b : List UInt8} {n : Bool} {l : List (Int × Int)} (h : property2 b n = some l) : RightR l := by
  unfold property2 at h
  split at h
  · obtain ⟨k, hk, rfl⟩ := Option.map_eq_some_iff.1 h
    exact notR_right (property1_right hk)
  · exact property1_right h
theorem prop_right {b : List UInt8} {n : Bool} {l : List (Int × Int)} (h : propR b n = some l) : RightR l := by
  unfold propR at h
  split at h <;> exact property2_right h
theorem posix_right {b : List UInt8} {l : List (Int × Int)} (h : posixR b = some l) : RightR l := by
  unfold posixR at h
  split at h
  · obtain ⟨k, hk, rfl⟩ := Option.map_eq_some_iff.1 h
    exact notR_right (plain_right hk)
  · exact plain_right h
theorem perl_right {c : Int} {l : List (Int × Int)} (h : perlR c = some l) : RightR l := by
  have hd : RightR dR := by simp [dR, RightR, RightFrom]
  have hs : RightR sR := by simp [sR, RightR, RightFrom]
  have hw : RightR wR := by simp [wR, RightR, RightFrom]
  unfold perlR at h
  by_cases e1 : c = 100
  · rw [if_pos e1] at h; injection h with h; rw [← h]; exact hd
  rw [if_neg e1] at h
  by_cases e2 : c = 115
  · rw [if_pos e2] at h; injection h with h; rw [← h]; exact hs
  rw [if_neg e2] at h
  by_cases e3 : c = 119
  · rw [if_pos e3] at h; injection h with h; rw [← h]; exact hw
  rw [if_neg e3] at h
  by_cases e4 : c = 68
  · rw [if_pos e4] at h; injection h with h; rw [← h]; exact notR_right hd
  rw [if_neg e4] at h
  by_cases e5 : c = 83
  · rw [if_pos e5] at h; injection h with h; rw [← h]; exact notR_right hs
  rw [if_neg e5] at h
  by_cases e6 : c = 87
  · rw [if_pos e6] at h; injection h with h; rw [← h]; exact notR_right hw
  rw [if_neg e6] at h
  cases h
theorem property2_turn (b : List UInt8) (n : Bool) : property2 b (!n) = (property2 b n).map notR := by
  cases n
  · simp [property2]
  · simp only [property2, Bool.not_true, Bool.false_eq_true, if_false, if_true]
    rcases hq : property1 b with _ | k
    · rfl
    · simp [notR_twice (property1_right hq)]
theorem prop_turn (b : List UInt8) (n : Bool) : propR b (!n) = (propR b n).map notR := by
  unfold propR
  split <;> exact property2_turn _ _
theorem prop_hat (b : List UInt8) (n : Bool) (h : b.head? ≠ some 94) : propR (94 :: b) n = propR b (!n) := by
  unfold propR
  rw [if_neg h]
  simp
theorem posix_hat (b : List UInt8) (h : b.head? ≠ some 94) : posixR (94 :: b) = (posixR b).map notR := by
  unfold posixR
  rw [if_neg h]
  simp
theorem perl_turn (c : Int) (h0 : 97 ≤ c) (h1 : c ≤ 122) : perlR (c - 32) = (perlR c).map notR := by
  unfold perlR
  by_cases e1 : c = 100
  · subst e1; rfl
  by_cases e2 : c = 115
  · subst e2; rfl
  by_cases e3 : c = 119
  · subst e3; rfl
  rw [if_neg (by omega), if_neg (by omega), if_neg (by omega), if_neg (by omega), if_neg (by omega), if_neg (by omega), if_neg e1, if_neg e2, if_neg e3, if_neg (by omega), if_neg (by omega), if_neg (by omega)]
  rfl
end Go.Proofs.Ytnpogfkmcopdfaa
