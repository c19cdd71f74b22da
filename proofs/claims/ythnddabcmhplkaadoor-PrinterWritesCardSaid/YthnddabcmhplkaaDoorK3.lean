/- Texts merged by program: SBytes, SHex. No condition. -/
import Derived.Test.YthnddabcmhplkaaDoorK2
import Derived.Test.YthnddabcmhplkaaDoorProg
import Derived.WalkKit
import Derived.Lib.Strings
import Derived.IntWalk
import Derived.OwnWalk
import Derived.Lib.Hide
set_option linter.unusedVariables false
/- Texts, byte by byte: what stands at a place is the head of what is left. -/
namespace Go.Proofs.YthnddabcmhplkaaDoor
open Go Go.RowKit

theorem wrap_in (n : Int) (h : -9223372036854775808 ≤ n ∧ n ≤ 9223372036854775807) : IntKind.i64.wrap n = n := (IntWalk.i64_left n).trans (IntWalk.wrap64_in n h)
/-- What is left of a text from a place on. -/
def leftB (s : ByteArray) (i : Nat) : List UInt8 := s.toList.drop i
theorem left_cons (s : ByteArray) (i : Nat) (h : i < s.size) : leftB s i = s[i] :: leftB s (i + 1) := by
  unfold leftB
  have hl : i < s.toList.length := by rw [Lib.toList_data, ← Lib.size_eq]; exact h
  rw [List.drop_eq_getElem_cons hl]
  congr 1
  rw [show s[i] = s.data[i]'h from rfl]
  simp [Lib.toList_data]
theorem left_nil (s : ByteArray) (i : Nat) (h : s.size ≤ i) : leftB s i = [] := by
  unfold leftB
  exact List.drop_eq_nil_of_le (by rw [Lib.toList_data, ← Lib.size_eq]; exact h)
theorem left_drop (s : ByteArray) (i k : Nat) : (leftB s i).drop k = leftB s (i + k) := by
  unfold leftB
  rw [List.drop_drop]
theorem left_length (s : ByteArray) (i : Nat) : (leftB s i).length = s.size - i := by
  unfold leftB
  rw [List.length_drop, Lib.toList_data, ← Lib.size_eq]
/-- The first byte of what is left; -1: there is none. -/
def headI : List UInt8 → Int
  | [] => -1
  | c :: _ => c.toNat
theorem head_at (s : ByteArray) (i : Nat) (h : i < s.size) : headI (leftB s i) = (s[i].toNat : Int) := by rw [left_cons s i h]; rfl
theorem head_end (s : ByteArray) (i : Nat) (h : s.size ≤ i) : headI (leftB s i) = -1 := by rw [left_nil s i h]; rfl
theorem head_in {s : ByteArray} {i : Nat} (h : 0 ≤ headI (leftB s i)) : i < s.size := by
  refine Nat.lt_of_not_le fun hn => ?_
  rw [head_end s i hn] at h
  omega
theorem eq_true_of {a b : Int} (h : a = b) : (a == b) = true := by simpa using h
theorem eq_false_of {a b : Int} (h : ¬ a = b) : (a == b) = false := by simpa using h
theorem ne_false_of {a b : Int} (h : a = b) : (a != b) = false := by rw [bne, eq_true_of h]; rfl
theorem ne_true_of {a b : Int} (h : ¬ a = b) : (a != b) = true := by rw [bne, eq_false_of h]; rfl
def isDig (c : UInt8) : Bool := decide (48 ≤ c.toNat) && decide (c.toNat ≤ 57)
theorem isDig_iff (c : UInt8) : isDig c = true ↔ 48 ≤ c.toNat ∧ c.toNat ≤ 57 := by unfold isDig; rw [Bool.and_eq_true, decide_eq_true_iff, decide_eq_true_iff]
/-- The number of the digits ahead, at most 1001, onto n; and how many there are. -/
def digsFrom : List UInt8 → Int → Int × Nat
  | [], n => (n, 0)
  | c :: t, n => if isDig c then ((digsFrom t (min (10 * n + ((c.toNat : Int) - 48)) 1001)).1, (digsFrom t (min (10 * n + ((c.toNat : Int) - 48)) 1001)).2 + 1) else (n, 0)
theorem digs_fit : ∀ (l : List UInt8) (n : Int), (digsFrom l n).2 ≤ l.length
  | [], n => Nat.le_refl _
  | c :: t, n => by
    unfold digsFrom
    split
    · have := digs_fit t (min (10 * n + ((c.toNat : Int) - 48)) 1001)
      simp only [List.length_cons]
      omega
    · exact Nat.zero_le _
theorem results_tmp4 {fn : Func} {t u v x : Tmp} (h : fn.results = #[.tmp t, .tmp u, .tmp v, .tmp x]) (tmps : Array Value) (P : Program) (w : World) :
    (results fn tmps).run P w = .ok (.tuple #[tmps.getD t undef, tmps.getD u undef, tmps.getD v undef, tmps.getD x undef]) w := by
  simp [results, h]
end Go.Proofs.YthnddabcmhplkaaDoor
/- The document's small tables of signs: hexadecimal digits, signs, letters, places. -/
namespace Go.Proofs.YthnddabcmhplkaaDoor
open Go Go.RowKit

def hexI (c : Int) : Int := if 48 ≤ c ∧ c ≤ 57 then c - 48 else if 97 ≤ c ∧ c ≤ 102 then c - 87 else if 65 ≤ c ∧ c ≤ 70 then c - 55 else -1
theorem hexI_lo (c : Int) : -1 ≤ hexI c := by unfold hexI; repeat' split
                                              all_goals omega
theorem hexI_hi (c : Int) : hexI c ≤ 15 := by unfold hexI; repeat' split
                                              all_goals omega

/-- A sign. -/
def signI (c : Int) : Bool := (decide (33 ≤ c) && decide (c ≤ 47)) || (decide (58 ≤ c) && decide (c ≤ 64)) || (decide (91 ≤ c) && decide (c ≤ 96)) || (decide (123 ≤ c) && decide (c ≤ 126))
def letterI (c : Int) : Int := if c = 97 then 7 else if c = 102 then 12 else if c = 110 then 10 else if c = 114 then 13 else if c = 116 then 9 else if c = 118 then 11 else -1
def placeI (c : Int) : Int := if c = 65 then 1 else if c = 122 then 2 else if c = 98 then 16 else if c = 66 then 32 else 0
end Go.Proofs.YthnddabcmhplkaaDoor
