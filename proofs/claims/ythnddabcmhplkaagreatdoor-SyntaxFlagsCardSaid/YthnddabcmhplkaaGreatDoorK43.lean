/- Texts merged by program. No condition. -/
import Derived.Test.YthnddabcmhplkaaGreatDoorK21
import Derived.Lib.MapLaws
set_option linter.unusedVariables false
namespace Go.Proofs.YthnddabcmhplkaaGreatDoor
open Go Go.RowKit
def eN : List UInt8 → Nat
 | [] => 0
 | c :: t => if preB [92,69] (c :: t) = true then 0 else eN t + 1
theorem eN_le : ∀ l : List UInt8,eN l ≤ l.length
 | [] => Nat.le_refl _
 | c :: t => by
  unfold eN
  have := eN_le t
  split <;> simp <;> omega
theorem pre_prefix (a l : List UInt8) : preB a l = a.isPrefixOf l := by
 unfold preB
 rw [Bool.eq_iff_iff,beq_iff_eq,List.isPrefixOf_iff_prefix,List.prefix_iff_eq_take]
 exact ⟨fun h => h.symm,fun h => h.symm⟩
theorem eN_index : ∀ l : List UInt8,Lib.index l [92,69] = if eN l < l.length then (eN l : Int) else -1
 | [] => rfl
 | c :: t => by
  have ih := eN_index t
  have hle := eN_le t
  rw [Lib.index,eN,pre_prefix]
  by_cases h : ([92,69] : List UInt8).isPrefixOf (c :: t) = true
  ·have e0 : (if List.isPrefixOf [92,69] (c :: t) = true then 0 else eN t + 1) = 0 := if_pos h
   rw [if_pos h,e0]
   simp
  ·have e0 : (if List.isPrefixOf [92,69] (c :: t) = true then 0 else eN t + 1) = eN t + 1 := if_neg h
   rw [if_neg h,e0,ih,List.length_cons]
   by_cases hl : eN t < t.length
   ·have x1 : ¬ (((eN t : Nat) : Int) == -1) = true := by rw [beq_iff_eq];omega
    have x2 : eN t + 1 < t.length + 1 := by omega
    rw [if_pos hl,if_neg x1,if_pos x2]
    omega
   ·have x2 : ¬ eN t + 1 < t.length + 1 := by omega
    rw [if_neg hl,if_neg x2]
    rfl
theorem eN_at : ∀ l : List UInt8,eN l = l.length ∨ preB [92,69] (l.drop (eN l)) = true
 | [] => .inl rfl
 | c :: t => by
  rw [eN]
  split
  ·rename_i h
   exact .inr h
  ·rcases eN_at t with h | h
   ·exact .inl (by simp [h])
   ·exact .inr (by simpa using h)
theorem eN_before : ∀ (l : List UInt8) (k : Nat),k < eN l → preB [92,69] (l.drop k) = false
 | [],k,h => by simp [eN] at h
 | c :: t,k,h => by
  rw [eN] at h
  split at h
  ·omega
  ·rename_i hp
   cases k with
   | zero => simpa using hp
   | succ k => simpa using eN_before t k (by omega)
theorem eN_drop : ∀ (l : List UInt8) (k : Nat),k ≤ eN l → eN (l.drop k) = eN l - k
 | l,0,_ => by simp
 | [],k + 1,h => by simp [eN] at h
 | c :: t,k + 1,h => by
  rw [eN] at h ⊢
  split at h
  ·omega
  ·rename_i hp
   rw [if_neg hp,List.drop_succ_cons,eN_drop t k (by omega)]
   omega
theorem pre_first {l : List UInt8} (h : preB [92,69] l = true) : ∃ t,l = 92 :: 69 :: t := by
 unfold preB at h
 have h := eq_of_beq h
 match l,h with
 | a :: b :: t,h =>
  simp at h
  exact ⟨t,by rw [h.1,h.2]⟩
 | [a],h => simp at h
 | [],h => simp at h
theorem decode_cut (l : List UInt8) (e : Nat) (he : 0 < e) (hle : e ≤ l.length) (h : e = l.length ∨ (l.getD e 0).toNat < 128) : Lib.decodeL (l.take e) = Lib.decodeL l ∧ (Lib.decodeL l).2 ≤ e := by
 rcases h with h | h
 ·rw [List.take_of_length_le (by omega)]
  refine ⟨rfl,?_⟩
  rw [h]
  exact Lib.decodeL_le l (by rintro rfl;simp at hle;omega)
 rw [Lib.decodeL_N,Lib.decodeL_N]
 have hg : ∀ k,k < e → (l.take e).getD k 0 = l.getD k 0 := fun k hk => by
  simp only [List.getD_eq_getElem?_getD,List.getElem?_take_of_lt hk]
 have hlen : (l.take e).length = e := by rw [List.length_take];omega
 rw [hlen,hg 0 he]
 have hc : ¬ (l.getD e 0).toNat / 64 = 2 := by omega
 by_cases h1 : e = 1
 ·subst h1
  unfold Lib.decodeN
  simp only [Nat.lt_irrefl,hc,false_and,and_false,if_false]
  by_cases hb : (l.getD 0 0).toNat < 128
  ·rw [if_pos hb]
   exact ⟨trivial,Nat.le_refl _⟩
  ·rw [if_neg hb]
   exact ⟨trivial,Nat.le_refl _⟩
 have y1 : 1 < e := by omega
 have z1 : 1 < l.length := by omega
 rw [hg 1 y1]
 by_cases h2 : e = 2
 ·subst h2
  unfold Lib.decodeN
  simp only [Nat.lt_irrefl,hc,y1,z1,true_and,false_and,and_false,if_false]
  split
  ·exact Nat.le_succ 1
  split
  ·split
   ·exact Nat.le_refl _
   ·exact Nat.le_succ 1
  ·exact Nat.le_succ 1
 have y2 : 2 < e := by omega
 have z2 : 2 < l.length := by omega
 rw [hg 2 y2]
 have w1 : (1 : Nat) ≤ e := by omega
 have w2 : (2 : Nat) ≤ e := by omega
 have w3 : (3 : Nat) ≤ e := by omega
 by_cases h3 : e = 3
 ·subst h3
  unfold Lib.decodeN
  simp only [Nat.lt_irrefl,hc,y1,z1,y2,z2,true_and,false_and,and_false,if_false]
  split
  ·exact w1
  split
  ·split
   ·exact w2
   ·exact w1
  split
  ·split
   ·exact w3
   ·exact w1
  ·exact w1
 have y3 : 3 < e := by omega
 have z3 : 3 < l.length := by omega
 have w4 : (4 : Nat) ≤ e := by omega
 rw [hg 3 y3]
 unfold Lib.decodeN
 simp only [y1,z1,y2,z2,y3,z3,true_and]
 split
 ·exact w1
 split
 ·split
  ·exact w2
  ·exact w1
 split
 ·split
  ·exact w3
  ·exact w1
 split
 ·split
  ·exact w4
  ·exact w1
 ·exact w1
def headE (s : ByteArray) (i : Nat) : ByteArray := ⟨((leftB s i).take (eN (leftB s i))).toArray⟩
theorem headE_size (s : ByteArray) (i : Nat) : (headE s i).size = eN (leftB s i) := by
 have := eN_le (leftB s i)
 show ((leftB s i).take (eN (leftB s i))).toArray.size = _
 simp
 omega
theorem headE_decode (s : ByteArray) (i k : Nat) (hk : k < eN (leftB s i)) : Utf8.decode (headE s i) k = Utf8.decode s (i + k) ∧ k + (Utf8.decode s (i + k)).2 ≤ eN (leftB s i) := by
 have hle := eN_le (leftB s i)
 have hd := eN_drop (leftB s i) k (by omega)
 rw [left_drop] at hd
 have h1 : Utf8.decode s (i + k) = Lib.decodeL (leftB s (i + k)) := by
  rw [← Lib.decodeL_drop]
  unfold leftB
  rw [Lib.toList_data]
 have h2 : Utf8.decode (headE s i) k = Lib.decodeL ((leftB s (i + k)).take (eN (leftB s (i + k)))) := by
  rw [← Lib.decodeL_drop,hd]
  congr 1
  show ((leftB s i).take (eN (leftB s i))).drop k = _
  rw [List.drop_take,left_drop]
 have hat := eN_at (leftB s (i + k))
 have hc := decode_cut (leftB s (i + k)) (eN (leftB s (i + k))) (by omega) (eN_le _) (hat.imp id fun h => by
  obtain ⟨t,ht⟩ := pre_first h
  have : (leftB s (i + k)).getD (eN (leftB s (i + k))) 0 = 92 := by
   have h0 : ((leftB s (i + k)).drop (eN (leftB s (i + k))))[0]? = some 92 := by rw [ht];rfl
   rw [List.getElem?_drop,Nat.add_zero] at h0
   rw [List.getD_eq_getElem?_getD,h0]
   rfl
  rw [this]
  decide)
 rw [h2,h1]
 exact ⟨hc.1,by have := hc.2;omega⟩
theorem lit_nil (s : ByteArray) (fold : Bool) (n k : Nat) (h : s.size ≤ k) : litY s fold n k = [] := by
 cases n with
 | zero => rfl
 | succ n => rw [litY,if_pos h]
theorem quoted_head (s : ByteArray) (i : Nat) (fold : Bool) (hi : i ≤ s.size) : ∀ (n m k : Nat),k ≤ eN (leftB s i) → eN (leftB s i) < k + n → eN (leftB s i) ≤ k + m →
  quotedY s fold n (i + k) = (litY (headE s i) fold m k,if i + eN (leftB s i) < s.size then i + eN (leftB s i) + 2 else i + eN (leftB s i))
 | 0,m,k,h1,h2,_ => by omega
 | n + 1,m,k,h1,h2,h3 => by
  have hle := eN_le (leftB s i)
  rw [left_length] at hle
  by_cases hk : k = eN (leftB s i)
  ·rw [lit_nil _ _ _ _ (by rw [headE_size];omega),quotedY]
   rcases eN_at (leftB s i) with h | h
   ·rw [left_length] at h
    rw [if_pos (by omega),if_neg (by omega),hk]
   ·rw [left_drop] at h
    have hlt : i + k < s.size := by
     obtain ⟨t,ht⟩ := pre_first h
     have := congrArg List.length ht
     rw [left_length] at this
     simp at this
     omega
    rw [if_neg (by omega),hk,if_pos h,if_pos (by omega)]
  ·have hlt : k < eN (leftB s i) := by omega
   have hb := eN_before (leftB s i) k hlt
   rw [left_drop] at hb
   obtain ⟨d1,d2⟩ := headE_decode s i k hlt
   have hw := decode_some s (i + k) (by omega)
   obtain ⟨m,rfl⟩ : ∃ m',m = m' + 1 := ⟨m - 1,by omega⟩
   have ih := quoted_head s i fold hi n m (k + (Utf8.decode s (i + k)).2) (by omega) (by omega) (by omega)
   have z : ¬ (headE s i).size ≤ k := by rw [headE_size];omega
   rw [quotedY,if_neg (by omega),hb,if_neg (by decide),Nat.add_assoc,ih,litY,if_neg z,d1]
theorem quoted_all (s : ByteArray) (i : Nat) (fold : Bool) (h0 : 0 < i) (hi : i ≤ s.size) :
  quotedY s fold s.size i = (litY (headE s i) fold (headE s i).size 0,if i + eN (leftB s i) < s.size then i + eN (leftB s i) + 2 else i + eN (leftB s i)) := by
 have hle := eN_le (leftB s i)
 rw [left_length] at hle
 exact quoted_head s i fold hi s.size (headE s i).size 0 (Nat.zero_le _) (by omega) (by rw [headE_size];omega)
end Go.Proofs.YthnddabcmhplkaaGreatDoor
