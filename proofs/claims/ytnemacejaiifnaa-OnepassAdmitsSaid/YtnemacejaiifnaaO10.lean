/- Texts merged by program: Plain. No condition. -/
import Derived.Laws.RangeAny
import Derived.Lib.RuneCount
/- Plain mathematics beside the walks: the runes of a text and where they begin, as lists; what a place is, as a sum. No condition. -/
set_option linter.unusedSimpArgs false
namespace Go.Proofs.Ytnemacejaiifnaa
open Go

/-- The runes from byte pos on, at most fuel of them. -/
def runesFrom (s : ByteArray) : Nat → Nat → List Int
  | 0, _ => []
  | f + 1, pos => if pos < s.size then ((Utf8.decode s pos).1 : Int) :: runesFrom s f (pos + (Utf8.decode s pos).2) else []
/-- Where they begin. -/
def offsFrom (s : ByteArray) : Nat → Nat → List Int
  | 0, _ => []
  | f + 1, pos => if pos < s.size then (pos : Int) :: offsFrom s f (pos + (Utf8.decode s pos).2) else []
def runesOf (s : ByteArray) : List Int := runesFrom s s.size 0
def offsOf (s : ByteArray) : List Int := offsFrom s s.size 0 ++ [(s.size : Int)]

theorem runesFrom_end (s : ByteArray) (f pos : Nat) (h : ¬ pos < s.size) : runesFrom s f pos = [] := by
  cases f <;> simp [runesFrom, h]
theorem offsFrom_end (s : ByteArray) (f pos : Nat) (h : ¬ pos < s.size) : offsFrom s f pos = [] := by
  cases f <;> simp [offsFrom, h]
theorem runesFrom_step (s : ByteArray) (f pos : Nat) (h : pos < s.size) : runesFrom s (f + 1) pos = ((Utf8.decode s pos).1 : Int) :: runesFrom s f (pos + (Utf8.decode s pos).2) := by
  simp [runesFrom, h]
theorem offsFrom_step (s : ByteArray) (f pos : Nat) (h : pos < s.size) : offsFrom s (f + 1) pos = (pos : Int) :: offsFrom s f (pos + (Utf8.decode s pos).2) := by
  simp [offsFrom, h]
theorem length_offsFrom (s : ByteArray) : ∀ f pos, (offsFrom s f pos).length = (runesFrom s f pos).length
  | 0, _ => rfl
  | f + 1, pos => by
    unfold offsFrom runesFrom
    split
    · simp [length_offsFrom s f]
    · rfl
theorem length_runesFrom (s : ByteArray) : ∀ f pos, (runesFrom s f pos).length ≤ f
  | 0, _ => by simp [runesFrom]
  | f + 1, pos => by
    have ih := length_runesFrom s f (pos + (Utf8.decode s pos).2)
    unfold runesFrom
    split <;> simp <;> omega
theorem length_offsOf (s : ByteArray) : (offsOf s).length = (runesOf s).length + 1 := by
  simp [offsOf, runesOf, length_offsFrom]
theorem length_runesOf (s : ByteArray) : (runesOf s).length ≤ s.size := length_runesFrom s _ _

/-- The rune i; -1, if there is none. -/
def runeAt (R : List Int) (i : Int) : Int := if 0 ≤ i ∧ i < R.length then R.getD i.toNat 0 else -1
/-- The byte of the place i; -1, if it is none. -/
def offAt (O : List Int) (i : Int) : Int := if 0 ≤ i ∧ i < O.length then O.getD i.toNat 0 else -1
def wordB (c : Int) : Bool := decide (48 ≤ c ∧ c ≤ 57) || decide (65 ≤ c ∧ c ≤ 90) || decide (97 ≤ c ∧ c ≤ 122) || (c == 95)
/-- The sum of five answers. -/
def sumOf (w f l bl el : Bool) : Int := (if w then 16 else 32) + (if f then 1 else 0) + (if l then 2 else 0) + (if bl then 4 else 0) + (if el then 8 else 0)
/-- What the place i of the runes R is. -/
def atOf (R : List Int) (i : Int) : Int :=
  if 0 ≤ i ∧ i ≤ R.length then
    sumOf (wordB (runeAt R (i - 1)) != wordB (runeAt R i)) (i == 0) (i == R.length) (i == 0 || runeAt R (i - 1) == 10) (i == R.length || runeAt R i == 10)
  else 0
theorem runeAt_in (R : List Int) (k : Nat) (h : k < R.length) : runeAt R k = R[k] := by
  simp [runeAt, h]
theorem runeAt_out (R : List Int) (i : Int) (h : ¬ (0 ≤ i ∧ i < R.length)) : runeAt R i = -1 := by
  simp only [runeAt, if_neg h]
theorem offAt_in (R : List Int) (k : Nat) (h : k < R.length) : offAt R k = R[k] := by
  simp [offAt, h]
theorem offAt_out (R : List Int) (i : Int) (h : ¬ (0 ≤ i ∧ i < R.length)) : offAt R i = -1 := by
  simp only [offAt, if_neg h]
end Go.Proofs.Ytnemacejaiifnaa
