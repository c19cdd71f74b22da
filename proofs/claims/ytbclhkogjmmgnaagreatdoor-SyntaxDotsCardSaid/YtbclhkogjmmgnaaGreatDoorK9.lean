/- Texts merged by program. No condition. -/
import Derived.Test.YtbclhkogjmmgnaaGreatDoorK8
import Derived.Test.YtbclhkogjmmgnaaGreatDoorK6
set_option linter.unusedVariables false
namespace Go.Proofs.YtbclhkogjmmgnaaGreatDoor
open Go Go.RowKit
theorem decode_width (s : ByteArray) (i : Nat) (h : i < s.size) : i + (Utf8.decode s i).2 ≤ s.size := by
 rw [Lib.decode_at]
 unfold Lib.decodeN
 repeat' split
 all_goals first | (simp only;omega) | omega
theorem decode_some (s : ByteArray) (i : Nat) (h : i < s.size) : 0 < (Utf8.decode s i).2 := by
 rw [Lib.decode_at]
 unfold Lib.decodeN
 repeat' split
 all_goals first | (simp only;omega) | omega
theorem get_extract (s : ByteArray) (i j : Nat) : (s.extract i s.size).get! j = s.get! (i + j) := by
 have e1 : ∀ (t : ByteArray) (k : Nat),t.get! k = t.data.toList[k]?.getD default := by
  intro t k
  show t.data[k]! = _
  rw [Array.getElem!_eq_getD,Array.getD_eq_getD_getElem?,Array.getElem?_toList]
 rw [e1,e1,Lib.extract_data]
 congr 1
 rw [List.getElem?_take,List.getElem?_drop]
 split
 ·rfl
 ·rw [List.getElem?_eq_none]
  have : s.data.toList.length = s.size := by simp
  omega
theorem decodeGo_extract (s : ByteArray) (i : Nat) (h : i < s.size) : Lib.decodeGo (s.extract i s.size) = Utf8.decode s i := by
 have hs : (s.extract i s.size).size = s.size - i := by simp
 unfold Lib.decodeGo
 rw [if_neg (by omega),Lib.decode_at,Lib.decode_at,hs,get_extract,get_extract,get_extract,get_extract]
 simp
theorem wrap_in32 (n : Int) (h : -2147483648 ≤ n ∧ n ≤ 2147483647) : IntKind.i32.wrap n = n := (IntWalk.i32_left n).trans (IntWalk.wrap32_in n h)
def hexsFrom : List UInt8 → Int → Int × Nat
 | [],n => (n,0)
 | c :: t,n => if 0 ≤ hexI c.toNat then ((hexsFrom t (min (16 * n + hexI c.toNat) 1114112)).1,(hexsFrom t (min (16 * n + hexI c.toNat) 1114112)).2 + 1) else (n,0)
theorem hexs_fit : ∀ (l : List UInt8) (n : Int),(hexsFrom l n).2 ≤ l.length
 | [],n => Nat.le_refl _
 | c :: t,n => by
  unfold hexsFrom
  split
  ·have := hexs_fit t (min (16 * n + hexI c.toNat) 1114112)
   simp only [List.length_cons]
   omega
  ·exact Nat.zero_le _
theorem hexs_low : ∀ (l : List UInt8) (n : Int),0 ≤ n → 0 ≤ (hexsFrom l n).1
 | [],n,h => h
 | c :: t,n,h => by
  unfold hexsFrom
  split
  ·rename_i hc
   exact hexs_low t _ (by omega)
  ·exact h
def numberS (s : ByteArray) (i : Nat) : Option (Int × Nat) :=
 if 0 ≤ hexI (headI (leftB s i)) ∧ 0 ≤ hexI (headI (leftB s (i + 1))) then some (16 * hexI (headI (leftB s i)) + hexI (headI (leftB s (i + 1))),i + 2) else
 if ¬ headI (leftB s i) = 123 then none else
 if (hexsFrom (leftB s (i + 1)) 0).2 = 0 then none else
 if ¬ headI (leftB s (i + 1 + (hexsFrom (leftB s (i + 1)) 0).2)) = 125 then none else
 if 1114111 < (hexsFrom (leftB s (i + 1)) 0).1 then none else some ((hexsFrom (leftB s (i + 1)) 0).1,i + 1 + (hexsFrom (leftB s (i + 1)) 0).2 + 1)
theorem drewN_below (w : World) (n : Nat) : Below w.heap.size w (w.drewN n) := by
 induction n with
 | zero => exact Below.refl _ _
 | succ n ih => exact ih.drew
theorem numberS_neg {s : ByteArray} {i : Nat} (h : ¬ (0 ≤ hexI (headI (leftB s i)) ∧ 0 ≤ hexI (headI (leftB s (i + 1))))) : numberS s i =
  if ¬ headI (leftB s i) = 123 then none else
  if (hexsFrom (leftB s (i + 1)) 0).2 = 0 then none else
  if ¬ headI (leftB s (i + 1 + (hexsFrom (leftB s (i + 1)) 0).2)) = 125 then none else
  if 1114111 < (hexsFrom (leftB s (i + 1)) 0).1 then none else some ((hexsFrom (leftB s (i + 1)) 0).1,i + 1 + (hexsFrom (leftB s (i + 1)) 0).2 + 1) := by
 unfold numberS
 rw [if_neg h]
def brN : List UInt8 → Nat
 | [] => 0
 | c :: t => if c.toNat = 125 then 0 else brN t + 1
def propS (s : ByteArray) (i : Nat) : Option (List UInt8 × Nat) :=
 if s.size ≤ i then none else
 if ¬ headI (leftB s i) = 123 then some ((leftB s i).take (Utf8.decode s i).2,i + (Utf8.decode s i).2) else
 if i + 1 + brN (leftB s (i + 1)) < s.size then some ((leftB s (i + 1)).take (brN (leftB s (i + 1))),i + 1 + brN (leftB s (i + 1)) + 1) else none
theorem extract_left6 (s : ByteArray) (a b : Nat) : (s.extract a b).toList = (leftB s a).take (b - a) := by
 unfold leftB
 rw [Lib.extract_toList,← Lib.toList_data]
def digI (c : Int) : Int := if 0 ≤ hexI c then hexI c else 16
theorem digI_is (c : Int) : digI c = if 48 ≤ c ∧ c ≤ 57 then c - 48 else if 97 ≤ c ∧ c ≤ 102 then c - 87 else if 65 ≤ c ∧ c ≤ 70 then c - 55 else 16 := by
 unfold digI hexI
 repeat' split
 all_goals omega
theorem wrap_in8 (n : Int) (h : 0 ≤ n ∧ n ≤ 255) : IntKind.u8.wrap n = n := by
 unfold IntKind.wrap
 simp only [IntKind.signed,IntKind.bits]
 simp
 omega
theorem digI_lo (c : Int) : 0 ≤ digI c := by unfold digI;split <;> omega
theorem digI_hi (c : Int) : digI c ≤ 16 := by unfold digI;have := hexI_hi c;split <;> omega
def numsFrom (base M : Int) : List UInt8 → Nat → Int → Int × Nat
 | [],_,n => (n,0)
 | _ :: _,0,n => (n,0)
 | c :: t,m + 1,n => if digI c.toNat < base then ((numsFrom base M t m (min (n * base + digI c.toNat) M)).1,(numsFrom base M t m (min (n * base + digI c.toNat) M)).2 + 1) else (n,0)
theorem numsFrom_none (base M : Int) (l : List UInt8) (n : Int) : numsFrom base M l 0 n = (n,0) := by cases l <;> rfl
theorem dig_ten (c : UInt8) : digI c.toNat < 10 ↔ isDig c = true := by
 rw [isDig_iff]
 unfold digI hexI
 have := UInt8.toNat_lt c
 split <;> (repeat' split at *) <;> omega
theorem dig_val (c : UInt8) (h : isDig c = true) : digI c.toNat = (c.toNat : Int) - 48 := by
 obtain ⟨h1,h2⟩ := (isDig_iff c).1 h
 unfold digI hexI
 rw [if_pos (c := (48 : Int) ≤ (c.toNat : Int) ∧ (c.toNat : Int) ≤ 57) (by omega)]
 rw [if_pos (by omega)]
theorem nums_digs : ∀ (l : List UInt8) (m : Nat) (n : Int),l.length ≤ m → numsFrom 10 1001 l m n = digsFrom l n
 | [],m,n,_ => rfl
 | c :: t,0,n,h => by simp at h
 | c :: t,m + 1,n,h => by
  unfold numsFrom digsFrom
  by_cases hd : isDig c = true
  ·rw [if_pos ((dig_ten c).2 hd),if_pos hd,dig_val c hd,nums_digs t m _ (by simpa using h),Int.mul_comm n 10]
  ·rw [if_neg (fun e => hd ((dig_ten c).1 e)),if_neg hd]
theorem dig_hex (c : UInt8) : digI c.toNat < 16 ↔ 0 ≤ hexI c.toNat := by
 unfold digI
 have := hexI_hi (c.toNat : Int)
 split <;> omega
theorem nums_hexs : ∀ (l : List UInt8) (m : Nat) (n : Int),l.length ≤ m → numsFrom 16 1114112 l m n = hexsFrom l n
 | [],m,n,_ => rfl
 | c :: t,0,n,h => by simp at h
 | c :: t,m + 1,n,h => by
  unfold numsFrom hexsFrom
  by_cases hd : 0 ≤ hexI c.toNat
  ·have hv : digI c.toNat = hexI c.toNat := by unfold digI;rw [if_pos hd]
   rw [if_pos ((dig_hex c).2 hd),if_pos hd,hv,nums_hexs t m _ (by simpa using h),Int.mul_comm n 16]
  ·rw [if_neg (fun e => hd ((dig_hex c).1 e)),if_neg hd]
theorem nums_two (s : ByteArray) (i : Nat) : numsFrom 16 1114112 (leftB s i) 2 0 =
  if 0 ≤ hexI (headI (leftB s i)) then (if 0 ≤ hexI (headI (leftB s (i + 1))) then (16 * hexI (headI (leftB s i)) + hexI (headI (leftB s (i + 1))),2) else (hexI (headI (leftB s i)),1)) else (0,0) := by
 by_cases h0 : i < s.size
 ·have g0 := head_at s i h0
  rw [g0,left_cons s i h0]
  unfold numsFrom
  by_cases hd : 0 ≤ hexI (s[i].toNat : Int)
  ·have hv : digI (s[i].toNat : Int) = hexI (s[i].toNat : Int) := by unfold digI;rw [if_pos hd]
   have hh := hexI_hi (s[i].toNat : Int)
   rw [if_pos ((dig_hex _).2 hd),if_pos hd,hv]
   by_cases h1 : i + 1 < s.size
   ·have g1 := head_at s (i + 1) h1
    rw [g1,left_cons s (i + 1) h1]
    unfold numsFrom
    by_cases he : 0 ≤ hexI (s[i + 1].toNat : Int)
    ·have hv2 : digI (s[i + 1].toNat : Int) = hexI (s[i + 1].toNat : Int) := by unfold digI;rw [if_pos he]
     have hh2 := hexI_hi (s[i + 1].toNat : Int)
     rw [if_pos ((dig_hex _).2 he),if_pos he,hv2,numsFrom_none]
     refine Prod.ext ?_ ?_ <;> dsimp only <;> omega
    ·rw [if_neg (fun e => he ((dig_hex _).1 e)),if_neg he]
     refine Prod.ext ?_ ?_ <;> dsimp only <;> omega
   ·rw [left_nil s (i + 1) (by omega)]
    rw [show headI [] = -1 from rfl,show hexI (-1) = -1 from rfl,if_neg (by decide)]
    unfold numsFrom
    refine Prod.ext ?_ ?_ <;> dsimp only <;> omega
  ·rw [if_neg (fun e => hd ((dig_hex _).1 e)),if_neg hd]
 ·rw [left_nil s i (by omega)]
  rfl
def toN (c : UInt8) : List UInt8 → Nat
 | [] => 0
 | b :: t => if b = c then 0 else toN c t + 1
theorem toN_le (c : UInt8) : ∀ l : List UInt8,toN c l ≤ l.length
 | [] => Nat.le_refl _
 | b :: t => by
  unfold toN
  have := toN_le c t
  split <;> simp <;> omega
theorem toN_index (c : UInt8) : ∀ l : List UInt8,Lib.indexByte l c = if toN c l < l.length then (toN c l : Int) else -1
 | [] => rfl
 | b :: t => by
  have ih := toN_index c t
  unfold Lib.indexByte toN
  by_cases h : b = c
  ·subst h
   simp
  ·rw [if_neg h,if_neg (by simpa using h),ih]
   have := toN_le c t
   by_cases hl : toN c t < t.length
   ·rw [if_pos hl,if_neg (by simp only [beq_iff_eq];omega),if_pos (by simp only [List.length_cons];omega)]
    omega
   ·rw [if_neg hl,if_pos (by rfl),if_neg (by simp only [List.length_cons];omega)]
theorem toN_gt : ∀ l : List UInt8,gtN l = toN 62 l
 | [] => rfl
 | b :: t => by
  unfold gtN toN
  rw [toN_gt t]
  by_cases h : b = 62
  ·rw [if_pos h,if_pos (by rw [h];rfl)]
  ·rw [if_neg h,if_neg (fun e => h (UInt8.toNat_inj.1 (by rw [e];rfl)))]
theorem toN_br : ∀ l : List UInt8,brN l = toN 125 l
 | [] => rfl
 | b :: t => by
  unfold brN toN
  rw [toN_br t]
  by_cases h : b = 125
  ·rw [if_pos h,if_pos (by rw [h];rfl)]
  ·rw [if_neg h,if_neg (fun e => h (UInt8.toNat_inj.1 (by rw [e];rfl)))]
theorem pre_left (s t : ByteArray) (i : Nat) : Lib.hasPrefix (s.extract i s.size).data.toList t.data.toList = preB t.toList (leftB s i) := by
 rw [← Lib.hasPrefix_of_take,← Lib.toList_data,← Lib.toList_data,Lib.extract_toList,← Lib.toList_data]
 unfold preB leftB
 rw [List.take_of_length_le (l := s.toList.drop i) (by rw [List.length_drop,Lib.toList_data,← Lib.size_eq];exact Nat.le_refl _)]
 cases h : (s.toList.drop i).take t.toList.length == t.toList
 ·rw [Bool.and_false]
 ·rw [Bool.and_true]
  have := congrArg List.length (beq_iff_eq.1 h)
  rw [List.length_take] at this
  exact decide_eq_true (by omega)
theorem extract_whole (s : ByteArray) (i : Nat) : (s.extract i s.size).toList = leftB s i := by
 unfold leftB
 rw [Lib.extract_toList,← Lib.toList_data,List.take_of_length_le (by rw [List.length_drop,Lib.toList_data,← Lib.size_eq];exact Nat.le_refl _)]
theorem pre_one (c : UInt8) (s : ByteArray) (i : Nat) : preB [c] (leftB s i) = decide (headI (leftB s i) = (c.toNat : Int)) := by
 by_cases h : i < s.size
 ·rw [left_cons s i h]
  unfold preB headI
  simp only [List.length_singleton,List.take_succ_cons,List.take_zero]
  by_cases e : s[i] = c
  ·rw [e]
   simp
  ·rw [decide_eq_false (fun h => e (UInt8.toNat_inj.1 (by omega)))]
   exact beq_eq_false_iff_ne.2 fun h => e (List.head_eq_of_cons_eq h)
 ·rw [left_nil s i (by omega)]
  unfold preB
  rw [show headI [] = -1 from rfl,decide_eq_false (by omega)]
  rfl
theorem pre_fits {a l : List UInt8} (h : preB a l = true) : a.length ≤ l.length := by
 unfold preB at h
 have := congrArg List.length (beq_iff_eq.1 h)
 rw [List.length_take] at this
 omega
end Go.Proofs.YtbclhkogjmmgnaaGreatDoor
