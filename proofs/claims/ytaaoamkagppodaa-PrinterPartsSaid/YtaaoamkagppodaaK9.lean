/- Texts merged by program: SNumber, SHexL, BrHex. No condition. -/
import Derived.Test.YtaaoamkagppodaaK3
import Derived.Test.YtaaoamkagppodaaK8
import Derived.Test.YtaaoamkagppodaaK1
import Derived.Test.YtaaoamkagppodaaK2
import Derived.Deep.DeepCutAuto
import Derived.Deep.QuietTactic
import Derived.BigQuiet
import Derived.Below
import Derived.Laws.IdiomStrings
set_option linter.unusedVariables false
/- The document's number behind \x, and the name behind \p. -/
namespace Go.Proofs.Ytaaoamkagppodaa
open Go Go.RowKit

theorem wrap_in32 (n : Int) (h : -2147483648 ≤ n ∧ n ≤ 2147483647) : IntKind.i32.wrap n = n := (IntWalk.i32_left n).trans (IntWalk.wrap32_in n h)
/-- The number of the hexadecimal digits ahead, at most 1114112, onto n; and how many there are. -/
def hexsFrom : List UInt8 → Int → Int × Nat
  | [], n => (n, 0)
  | c :: t, n => if 0 ≤ hexI c.toNat then ((hexsFrom t (min (16 * n + hexI c.toNat) 1114112)).1, (hexsFrom t (min (16 * n + hexI c.toNat) 1114112)).2 + 1) else (n, 0)
theorem hexs_fit : ∀ (l : List UInt8) (n : Int), (hexsFrom l n).2 ≤ l.length
  | [], n => Nat.le_refl _
  | c :: t, n => by
    unfold hexsFrom
    split
    · have := hexs_fit t (min (16 * n + hexI c.toNat) 1114112)
      simp only [List.length_cons]
      omega
    · exact Nat.zero_le _
theorem hexs_low : ∀ (l : List UInt8) (n : Int), 0 ≤ n → 0 ≤ (hexsFrom l n).1
  | [], n, h => h
  | c :: t, n, h => by
    unfold hexsFrom
    split
    · rename_i hc
      exact hexs_low t _ (by omega)
    · exact h
def numberS (s : ByteArray) (i : Nat) : Option (Int × Nat) :=
  if 0 ≤ hexI (headI (leftB s i)) ∧ 0 ≤ hexI (headI (leftB s (i + 1))) then some (16 * hexI (headI (leftB s i)) + hexI (headI (leftB s (i + 1))), i + 2) else
  if ¬ headI (leftB s i) = 123 then none else
  if (hexsFrom (leftB s (i + 1)) 0).2 = 0 then none else
  if ¬ headI (leftB s (i + 1 + (hexsFrom (leftB s (i + 1)) 0).2)) = 125 then none else
  if 1114111 < (hexsFrom (leftB s (i + 1)) 0).1 then none else some ((hexsFrom (leftB s (i + 1)) 0).1, i + 1 + (hexsFrom (leftB s (i + 1)) 0).2 + 1)
def NumPost (o : Option (Int × Nat)) (w : World) (e : Ending) (w' : World) : Prop :=
  Below w.heap.size w w' ∧ ((o = none ∧ e = .returned (.tuple #[.int .i32 0, .int .i64 0, .bool false])) ∨ ∃ v k, o = some (v, k) ∧ e = .returned (.tuple #[.int .i32 v, .int .i64 (k : Int), .bool true]))
theorem drewN_below (w : World) (n : Nat) : Below w.heap.size w (w.drewN n) := by
  induction n with
  | zero => exact Below.refl _ _
  | succ n ih => exact ih.drew

-- NUMBER
theorem numberS_neg {s : ByteArray} {i : Nat} (h : ¬ (0 ≤ hexI (headI (leftB s i)) ∧ 0 ≤ hexI (headI (leftB s (i + 1))))) : numberS s i =
    if ¬ headI (leftB s i) = 123 then none else
    if (hexsFrom (leftB s (i + 1)) 0).2 = 0 then none else
    if ¬ headI (leftB s (i + 1 + (hexsFrom (leftB s (i + 1)) 0).2)) = 125 then none else
    if 1114111 < (hexsFrom (leftB s (i + 1)) 0).1 then none else some ((hexsFrom (leftB s (i + 1)) 0).1, i + 1 + (hexsFrom (leftB s (i + 1)) 0).2 + 1) := by
  unfold numberS
  rw [if_neg h]
end Go.Proofs.Ytaaoamkagppodaa
/- Hexadecimal numbers written out are read as they are: plain side. -/
namespace Go.Proofs.Ytaaoamkagppodaa
open Go Go.RowKit

def hexD (d : Nat) : UInt8 := UInt8.ofNat (if d < 10 then 48 + d else 87 + d)
def hexL (n : Nat) : List UInt8 := if h : n < 16 then [hexD n] else hexL (n / 16) ++ [hexD (n % 16)]
termination_by n
decreasing_by omega
theorem hex_dig (d : Nat) (h : d < 16) : hexI ((hexD d).toNat : Int) = (d : Int) := by
  rcases (show d = 0 ∨ d = 1 ∨ d = 2 ∨ d = 3 ∨ d = 4 ∨ d = 5 ∨ d = 6 ∨ d = 7 ∨ d = 8 ∨ d = 9 ∨ d = 10 ∨ d = 11 ∨ d = 12 ∨ d = 13 ∨ d = 14 ∨ d = 15 by omega) with rfl | rfl | rfl | rfl | rfl | rfl | rfl | rfl | rfl | rfl | rfl | rfl | rfl | rfl | rfl | rfl <;> rfl
theorem hexs_one (d : Nat) (h : d < 16) (t : List UInt8) (n : Int) : hexsFrom (hexD d :: t) n = ((hexsFrom t (min (16 * n + (d : Int)) 1114112)).1, (hexsFrom t (min (16 * n + (d : Int)) 1114112)).2 + 1) := by
  rw [hexsFrom, hex_dig d h, if_pos (by omega)]
theorem hexs_hex : ∀ (u : Nat), u ≤ 1114111 → ∀ rest : List UInt8, hexsFrom (hexL u ++ rest) 0 = ((hexsFrom rest (u : Int)).1, (hexsFrom rest (u : Int)).2 + (hexL u).length) := by
  intro u
  induction u using Nat.strongRecOn with
  | _ u ih =>
    intro hu rest
    rw [hexL]
    by_cases h : u < 16
    · rw [dif_pos h, List.singleton_append, hexs_one u h, show min (16 * (0 : Int) + (u : Int)) 1114112 = (u : Int) by omega]
      rfl
    · rw [dif_neg h, List.append_assoc, ih (u / 16) (by omega) (by omega), List.singleton_append, hexs_one (u % 16) (by omega), show min (16 * ((u / 16 : Nat) : Int) + ((u % 16 : Nat) : Int)) 1114112 = (u : Int) by omega]
      simp only [List.length_append, List.length_singleton, Prod.mk.injEq, true_and]
      omega
theorem hex_pos (u : Nat) : 0 < (hexL u).length := by
  rw [hexL]
  split
  · exact Nat.zero_lt_one
  · simp
theorem hex_len : ∀ u : Nat, (hexL u).length ≤ u + 1 := by
  intro u
  induction u using Nat.strongRecOn with
  | _ u ih =>
    rw [hexL]
    split
    · simp
    · have := ih (u / 16) (by omega)
      simp only [List.length_append, List.length_singleton]
      omega
theorem hexs_noughts : ∀ (k : Nat) (l : List UInt8), hexsFrom (List.replicate k 48 ++ l) 0 = ((hexsFrom l 0).1, (hexsFrom l 0).2 + k)
  | 0, l => rfl
  | k + 1, l => by
    rw [List.replicate_succ, List.cons_append, show (48 : UInt8) = hexD 0 from rfl, hexs_one 0 (by decide), show min (16 * (0 : Int) + ((0 : Nat) : Int)) 1114112 = 0 by decide, show hexD 0 = (48 : UInt8) from rfl, hexs_noughts k l]
    rfl
end Go.Proofs.Ytaaoamkagppodaa
/- strconv.FormatInt in base 16, of a number of a rune: its hexadecimal digits. -/
namespace Go.Proofs.Ytaaoamkagppodaa
open Go Go.RowKit

theorem and15 (u : Nat) (h : u < 18446744073709551616) : bits .and .u64 (u : Int) 15 = ((u % 16 : Nat) : Int) := by
  show IntKind.u64.wrap ((BitVec.ofInt 64 (u : Int) &&& 15#64).toNat : Int) = _
  rw [BitVec.ofInt_natCast, BitVec.toNat_and, BitVec.toNat_ofNat, show (15#64).toNat = 2 ^ 4 - 1 from rfl, Nat.mod_eq_of_lt h, Nat.and_two_pow_sub_one_eq_mod, IntKind.wrap_u64]
  omega
theorem digit_at (d : Nat) (h : d < 16) (h' : d < (⟨#[48, 49, 50, 51, 52, 53, 54, 55, 56, 57, 97, 98, 99, 100, 101, 102, 103, 104, 105, 106, 107, 108, 109, 110, 111, 112, 113, 114, 115, 116, 117, 118, 119, 120, 121, 122]⟩ : ByteArray).size) : (⟨#[48, 49, 50, 51, 52, 53, 54, 55, 56, 57, 97, 98, 99, 100, 101, 102, 103, 104, 105, 106, 107, 108, 109, 110, 111, 112, 113, 114, 115, 116, 117, 118, 119, 120, 121, 122]⟩ : ByteArray)[d] = hexD d := by
  rcases (show d = 0 ∨ d = 1 ∨ d = 2 ∨ d = 3 ∨ d = 4 ∨ d = 5 ∨ d = 6 ∨ d = 7 ∨ d = 8 ∨ d = 9 ∨ d = 10 ∨ d = 11 ∨ d = 12 ∨ d = 13 ∨ d = 14 ∨ d = 15 by omega) with rfl | rfl | rfl | rfl | rfl | rfl | rfl | rfl | rfl | rfl | rfl | rfl | rfl | rfl | rfl | rfl <;> rfl
theorem hex_short : ∀ (k u : Nat), u < 16 ^ (k + 1) → (hexL u).length ≤ k + 1
  | 0, u, h => by
    rw [hexL, dif_pos (by simpa using h)]
    simp
  | k + 1, u, h => by
    rw [hexL]
    split
    · simp
    · have := hex_short k (u / 16) (by rw [Nat.pow_succ] at h; exact Nat.div_lt_of_lt_mul (by rw [Nat.mul_comm]; exact h))
      simp only [List.length_append, List.length_singleton]
      omega
end Go.Proofs.Ytaaoamkagppodaa
