/- Texts merged by program. No condition. -/
import Derived.Lib.RuneCount
import Derived.Test.YthnddabcmhplkaaGreatDoorK21
import Derived.Lib.ItoaNum
import Derived.Lib.ValidLaws
namespace Go.Proofs.YthnddabcmhplkaaGreatDoor
open Go
def runesFrom (s : ByteArray) : Nat → Nat → List Int
 | 0,_ => []
 | f + 1,pos => if pos < s.size then ((Utf8.decode s pos).1 : Int) :: runesFrom s f (pos + (Utf8.decode s pos).2) else []
def runesOf (s : ByteArray) : List Int := runesFrom s s.size 0
theorem runesFrom_end (s : ByteArray) (f pos : Nat) (h : ¬ pos < s.size) : runesFrom s f pos = [] := by
 cases f <;> simp [runesFrom,h]
theorem runesFrom_step (s : ByteArray) (f pos : Nat) (h : pos < s.size) : runesFrom s (f + 1) pos = ((Utf8.decode s pos).1 : Int) :: runesFrom s f (pos + (Utf8.decode s pos).2) := by
 simp [runesFrom,h]
end Go.Proofs.YthnddabcmhplkaaGreatDoor
namespace Go.Proofs.YthnddabcmhplkaaGreatDoor
open Go Go.Lib
def IsRune (r : Int) : Prop := 0 ≤ r ∧ (r < 55296 ∨ (57343 < r ∧ r ≤ 1114111))
theorem dec1 (n b1 b2 b3 : Nat) (r : Int) (h0 : 0 ≤ r) (h1 : r ≤ 127) : decodeN n r.toNat b1 b2 b3 = (r.toNat,1) := by
 unfold decodeN
 rw [if_pos (by omega)]
theorem dec2 (n b2 b3 : Nat) (r : Int) (hn : 2 ≤ n) (h0 : 128 ≤ r) (h1 : r ≤ 2047) : decodeN n (192 + r / 64).toNat (128 + r % 64).toNat b2 b3 = (r.toNat,2) := by
 unfold decodeN
 rw [if_neg (by omega),if_pos ⟨by omega,by omega,by omega⟩,if_pos (by omega)]
 congr 1
 omega
theorem dec3 (n b3 : Nat) (r : Int) (hn : 3 ≤ n) (h : (2048 ≤ r ∧ r < 55296) ∨ (57343 < r ∧ r ≤ 65535)) : decodeN n (224 + r / 4096).toNat (128 + r / 64 % 64).toNat (128 + r % 64).toNat b3 = (r.toNat,3) := by
 have e : (224 + r / 4096).toNat % 16 * 4096 + (128 + r / 64 % 64).toNat % 64 * 64 + (128 + r % 64).toNat % 64 = r.toNat := by omega
 unfold decodeN
 rw [if_neg (by omega),if_neg (by omega),if_pos ⟨by omega,⟨by omega,by omega⟩,by omega,by omega⟩,e,if_pos (by omega)]
theorem dec4 (n : Nat) (r : Int) (hn : 4 ≤ n) (h0 : 65536 ≤ r) (h1 : r ≤ 1114111) : decodeN n (240 + r / 262144).toNat (128 + r / 4096 % 64).toNat (128 + r / 64 % 64).toNat (128 + r % 64).toNat = (r.toNat,4) := by
 have e : (240 + r / 262144).toNat % 8 * 262144 + (128 + r / 4096 % 64).toNat % 64 * 4096 + (128 + r / 64 % 64).toNat % 64 * 64 + (128 + r % 64).toNat % 64 = r.toNat := by omega
 unfold decodeN
 rw [if_neg (by omega),if_neg (by omega),if_neg (by omega),if_pos ⟨by omega,⟨by omega,by omega⟩,⟨by omega,by omega⟩,by omega,by omega⟩,e,if_pos (by omega)]
theorem get_list (t : ByteArray) (k : Nat) : t.get! k = t.data.toList[k]?.getD default := by
 show t.data[k]! = _
 rw [Array.getElem!_eq_getD,Array.getD_eq_getD_getElem?,Array.getElem?_toList]
def byteN (l : List UInt8) (j : Nat) : Nat := (l[j]?.getD default).toNat
theorem decode_list (T : ByteArray) (p : Nat) (l : List UInt8) (h : T.data.toList.drop p = l) : Utf8.decode T p = decodeN l.length (byteN l 0) (byteN l 1) (byteN l 2) (byteN l 3) := by
 have hl : T.size - p = l.length := by rw [← h,List.length_drop];rfl
 have hg : ∀ j,(T.get! (p + j)).toNat = byteN l j := fun j => by
  unfold byteN
  rw [get_list,← h,List.getElem?_drop]
 rw [decode_at,hl,← hg 0,← hg 1,← hg 2,← hg 3]
 simp
theorem byte_of (x : Int) (h0 : 0 ≤ x) (h1 : x < 256) : (x.toNat.toUInt8).toNat = x.toNat := by
 show x.toNat % 256 = _
 omega
theorem decode_encode (T : ByteArray) (p : Nat) (r : Int) (rest : List UInt8) (hr : IsRune r) (h : T.data.toList.drop p = encodeRune r ++ rest) : Utf8.decode T p = (r.toNat,(encodeRune r).length) := by
 rw [decode_list T p _ h]
 obtain ⟨h0,hr⟩ := hr
 by_cases c1 : r ≤ 127
 ·simp only [encodeRune,encodeRuneZ_one h0 c1,List.map_cons,List.map_nil,List.cons_append,List.nil_append,List.length_cons,List.length_nil]
  have e0 : byteN (r.toNat.toUInt8 :: rest) 0 = r.toNat := byte_of r (by omega) (by omega)
  rw [e0]
  exact dec1 _ _ _ _ r h0 c1
 ·by_cases c2 : r ≤ 2047
  ·simp only [encodeRune,encodeRuneZ_two (show 128 ≤ r by omega) c2,List.map_cons,List.map_nil,List.cons_append,List.nil_append,List.length_cons,List.length_nil]
   have e0 : byteN ((192 + r / 64).toNat.toUInt8 :: (128 + r % 64).toNat.toUInt8 :: rest) 0 = (192 + r / 64).toNat := byte_of _ (by omega) (by omega)
   have e1 : byteN ((192 + r / 64).toNat.toUInt8 :: (128 + r % 64).toNat.toUInt8 :: rest) 1 = (128 + r % 64).toNat := byte_of _ (by omega) (by omega)
   rw [e0,e1]
   exact dec2 _ _ _ r (by omega) (by omega) c2
  ·by_cases c3 : r ≤ 65535
   ·have hc : (2048 ≤ r ∧ r < 55296) ∨ (57343 < r ∧ r ≤ 65535) := by omega
    simp only [encodeRune,encodeRuneZ_three hc,List.map_cons,List.map_nil,List.cons_append,List.nil_append,List.length_cons,List.length_nil]
    have e0 : byteN ((224 + r / 4096).toNat.toUInt8 :: (128 + r / 64 % 64).toNat.toUInt8 :: (128 + r % 64).toNat.toUInt8 :: rest) 0 = (224 + r / 4096).toNat := byte_of _ (by omega) (by omega)
    have e1 : byteN ((224 + r / 4096).toNat.toUInt8 :: (128 + r / 64 % 64).toNat.toUInt8 :: (128 + r % 64).toNat.toUInt8 :: rest) 1 = (128 + r / 64 % 64).toNat := byte_of _ (by omega) (by omega)
    have e2 : byteN ((224 + r / 4096).toNat.toUInt8 :: (128 + r / 64 % 64).toNat.toUInt8 :: (128 + r % 64).toNat.toUInt8 :: rest) 2 = (128 + r % 64).toNat := byte_of _ (by omega) (by omega)
    rw [e0,e1,e2]
    exact dec3 _ _ r (by omega) hc
   ·simp only [encodeRune,encodeRuneZ_four (show 65536 ≤ r by omega) (show r ≤ 1114111 by omega),List.map_cons,List.map_nil,List.cons_append,List.nil_append,List.length_cons,List.length_nil]
    have e0 : byteN ((240 + r / 262144).toNat.toUInt8 :: (128 + r / 4096 % 64).toNat.toUInt8 :: (128 + r / 64 % 64).toNat.toUInt8 :: (128 + r % 64).toNat.toUInt8 :: rest) 0 = (240 + r / 262144).toNat := byte_of _ (by omega) (by omega)
    have e1 : byteN ((240 + r / 262144).toNat.toUInt8 :: (128 + r / 4096 % 64).toNat.toUInt8 :: (128 + r / 64 % 64).toNat.toUInt8 :: (128 + r % 64).toNat.toUInt8 :: rest) 1 = (128 + r / 4096 % 64).toNat := byte_of _ (by omega) (by omega)
    have e2 : byteN ((240 + r / 262144).toNat.toUInt8 :: (128 + r / 4096 % 64).toNat.toUInt8 :: (128 + r / 64 % 64).toNat.toUInt8 :: (128 + r % 64).toNat.toUInt8 :: rest) 2 = (128 + r / 64 % 64).toNat := byte_of _ (by omega) (by omega)
    have e3 : byteN ((240 + r / 262144).toNat.toUInt8 :: (128 + r / 4096 % 64).toNat.toUInt8 :: (128 + r / 64 % 64).toNat.toUInt8 :: (128 + r % 64).toNat.toUInt8 :: rest) 3 = (128 + r % 64).toNat := byte_of _ (by omega) (by omega)
    rw [e0,e1,e2,e3]
    exact dec4 _ r (by omega) (by omega) (by omega)
theorem decode_isRune (s : ByteArray) (i : Nat) : IsRune ((Utf8.decode s i).1 : Nat) := by
 rw [decode_at]
 unfold decodeN IsRune
 repeat' split
 all_goals first | (simp only;omega) | omega
theorem runesFrom_isRune (s : ByteArray) : ∀ f pos,∀ r ∈ runesFrom s f pos,IsRune r
 | 0,_ => by simp [runesFrom]
 | f + 1,pos => by
  intro r hr
  unfold runesFrom at hr
  split at hr
  ·rcases List.mem_cons.1 hr with rfl | hr
   ·exact decode_isRune s pos
   ·exact runesFrom_isRune s f _ r hr
  ·simp at hr
def encR (R : List Int) : List UInt8 := R.flatMap encodeRune
theorem encodeRune_pos (r : Int) : 1 ≤ (encodeRune r).length := by
 unfold encodeRune encodeRuneZ
 repeat' split
 all_goals simp
end Go.Proofs.YthnddabcmhplkaaGreatDoor
set_option linter.unusedVariables false
namespace Go.Proofs.YthnddabcmhplkaaGreatDoor
open Go Go.RowKit
variable {s t : ByteArray} {d : Nat} {z : List UInt8}
def PutR (s t : ByteArray) (d : Nat) (z : List UInt8) (i : Nat) (R R' : PR) : Prop :=
 match R with
 | .ok l i2 f2 ns2 => i ≤ i2 ∧ i2 ≤ s.size ∧ FlagsIn f2 ∧ (R' = .ok l (i2 + d) f2 ns2 ∨ (z ≠ [] ∧ i2 = s.size ∧ ∃ l',R' = .ok l' t.size f2 ns2))
 | .bad _ _ _ => z = [] → ∃ c a b,R' = .bad c a b
theorem put_leaf {i n : Nat} {f : Int} {ns : List (List UInt8)} {l : List Tr} {R' : PR} (h1 : i ≤ n) (h2 : n ≤ s.size) (hf : FlagsIn f) (e : R' = .ok l (n + d) f ns) : PutR s t d z i (.ok l n f ns) R' := ⟨h1,h2,hf,.inl e⟩
theorem PutR.mono {i j : Nat} {R R' : PR} (h : PutR s t d z i R R') (hj : j ≤ i) : PutR s t d z j R R' := by
 unfold PutR at h ⊢
 cases R with
 | bad c a b => exact h
 | ok l i2 f2 ns2 => exact ⟨by omega,h.2⟩
theorem quoted_rest (fold : Bool) (m : Nat) (j : Nat) (hm : 2 ≤ m) (hj : leftB t j = [41,107]) : (quotedY t fold m j).2 = t.size := by
 have hsz : t.size = j + 2 := by
  have := congrArg List.length hj
  rw [left_length] at this
  simp at this
  omega
 have hd : ∀ k,k < t.size → headI (leftB t k) < 128 → (Utf8.decode t k).2 = 1 := fun k hk hl => by
  rw [head_at t k hk] at hl
  have g : t.get! (k + 0) = t[k] := by
   obtain ⟨a⟩ := t
   show a[k + 0]! = a[k]
   exact getElem!_pos a k hk
  rw [decode_q,g]
  unfold decQ
  rw [if_pos (show t[k].toNat < 0x80 by omega)]
 have hj1 : leftB t (j + 1) = [107] := by rw [← left_drop,hj];rfl
 obtain ⟨m,rfl⟩ : ∃ q,m = q + 2 := ⟨m - 2,by omega⟩
 rw [quotedY,if_neg (by omega),if_neg (by rw [hj];decide),hd j (by omega) (by rw [hj];decide)]
 simp only
 rw [quotedY,if_neg (by omega),if_neg (by rw [hj1];decide),hd (j + 1) (by omega) (by rw [hj1];decide)]
 simp only
 cases m with
 | zero => rw [quotedY];simp only;omega
 | succ m => rw [quotedY,if_pos (by omega)];simp only;omega
theorem quoted_put (h : Put s t d z) (fold : Bool) : ∀ (m m' i : Nat),i ≤ s.size → s.size ≤ i + m → t.size ≤ i + d + m' →
  i ≤ (quotedY s fold m i).2 ∧ (quotedY s fold m i).2 ≤ s.size ∧ (quotedY t fold m' (i + d) = ((quotedY s fold m i).1,(quotedY s fold m i).2 + d) ∨ (z ≠ [] ∧ (quotedY s fold m i).2 = s.size ∧ (quotedY t fold m' (i + d)).2 = t.size))
 | m,m',i,hi,hm,hm' => by
  by_cases hs : s.size ≤ i
  ·obtain rfl : i = s.size := by omega
   have e : quotedY s fold m s.size = ([],s.size) := by
    cases m with
    | zero => rw [quotedY]
    | succ m => rw [quotedY,if_pos (Nat.le_refl _)]
   rw [e]
   refine ⟨Nat.le_refl _,Nat.le_refl _,?_⟩
   rcases h.tail with hz | hz
   ·left
    have hts : t.size = s.size + d := by rw [h.size,hz];rfl
    cases m' with
    | zero => rw [quotedY]
    | succ m' => rw [quotedY,if_pos (by omega)]
   ·right
    have hl := h.left s.size (Nat.le_refl _)
    rw [left_nil s s.size (Nat.le_refl _),hz] at hl
    have hts : t.size = s.size + d + 2 := by rw [h.size,hz];rfl
    exact ⟨by rw [hz];simp,rfl,quoted_rest fold m' _ (by omega) (by simpa using hl)⟩
  ·have hlt : i < s.size := by omega
   obtain ⟨m,rfl⟩ : ∃ q,m = q + 1 := ⟨m - 1,by omega⟩
   obtain ⟨m',rfl⟩ : ∃ q,m' = q + 1 := ⟨m' - 1,by have := h.size;omega⟩
   have hts := h.size
   rw [quotedY,quotedY,if_neg hs,if_neg (show ¬ t.size ≤ i + d by omega),h.pre i hi (by decide),h.decode i hlt]
   split
   ·rename_i hp
    have h2 : i + 2 ≤ s.size := by
     unfold preB at hp
     have := congrArg List.length (eq_of_beq hp)
     rw [List.length_take,left_length] at this
     simp at this
     omega
    exact ⟨by omega,h2,.inl (by simp only;congr 1;omega)⟩
   ·have hw := decode_width s i hlt
    have hp := Lib.decode_width_pos s i hlt
    obtain ⟨g1,g2,g3⟩ := quoted_put h fold m m' (i + (Utf8.decode s i).2) hw (by omega) (by omega)
    rw [show i + d + (Utf8.decode s i).2 = i + (Utf8.decode s i).2 + d by omega]
    refine ⟨by simp only;omega,g2,?_⟩
    rcases g3 with g3 | g3
    ·rw [g3]
     exact .inl rfl
    ·exact .inr g3
theorem escaped_put (h : Put s t d z) (i : Nat) (f : Int) (ns : List (List UInt8)) (hi : i < s.size) (hf : FlagsIn f) : PutR s t d z (i + 1) (escapedY s i f ns) (escapedY t (i + d) f ns) := by
 have hk := escS_ok s i (flagY f 32) hi
 unfold escapedY
 cases he : escS s i (flagY f 32) with
 | bad c till =>
  intro hz
  subst hz
  have := escS_shift h.shift i (flagY f 32) (Nat.zero_le _)
  rw [he] at this
  obtain ⟨b,hb⟩ := this
  rw [hb]
  exact ⟨_,_,_,rfl⟩
 | esc k r l a n =>
  rw [he] at hk
  obtain ⟨a1,a2,-⟩ := hk
  rw [escS_put h i _ (by omega) he]
  simp only
  split
  ·exact put_leaf a1 a2 hf rfl
  split
  ·exact put_leaf a1 a2 hf rfl
  split
  ·exact put_leaf a1 a2 hf rfl
  ·have hts := h.size
   obtain ⟨g1,g2,g3⟩ := quoted_put h (flagY f 1) s.size t.size n a2 (by omega) (by omega)
   refine ⟨by omega,g2,hf,?_⟩
   rcases g3 with g3 | ⟨g3,g4,g5⟩
   ·rw [g3]
    exact .inl rfl
   ·rw [g5]
    exact .inr ⟨g3,g4,_,rfl⟩
theorem classed_put (h : Put s t d z) (i : Nat) (f : Int) (ns : List (List UInt8)) (hi : i < s.size) (hf : FlagsIn f) : PutR s t d z (i + 1) (classedY s i f ns) (classedY t (i + d) f ns) := by
 have hk := classS_ok s i (flagY f 32) hi
 unfold classedY
 cases he : classS s i (flagY f 32) with
 | bad c a b =>
  intro hz
  subst hz
  have hb : ∃ c a b,classS t (i + d) (flagY f 32) = .bad c a b := by
   unfold classS at he ⊢
   rw [h.head i hi]
   split at he
   ·rename_i h1
    rw [if_pos h1]
    exact ⟨_,_,_,rfl⟩
   ·rename_i h1
    rw [if_neg h1,not_put h i hi,show i + d + 1 + (if notB s i then 1 else 0) = i + 1 + (if notB s i then 1 else 0) + d by omega]
    have := itemsS_shift h.shift i (i + d) (flagY f 32) (s.size + 1) (t.size + 1) (i + 1 + (if notB s i then 1 else 0)) true [] (Nat.zero_le _) (by omega) (by rw [h.size];omega)
    rw [he] at this
    obtain ⟨x,y,hb⟩ := this
    exact ⟨_,_,_,hb⟩
  obtain ⟨c',a',b',hb⟩ := hb
  rw [hb]
  exact ⟨_,_,_,rfl⟩
 | item all n =>
  rw [he] at hk
  rw [classS_put h i _ (by omega) he,not_put h i hi]
  exact put_leaf hk.1 hk.2 hf rfl
theorem plain_put (h : Put s t d z) (i : Nat) (f : Int) (ns : List (List UInt8)) (hi : i < s.size) (hf : FlagsIn f) : PutR s t d z (i + 1) (plainY s i f ns) (plainY t (i + d) f ns) := by
 have h1 := decode_width s i hi
 have h2 := Lib.decode_width_pos s i hi
 unfold plainY
 simp only
 rw [h.decode i hi,show i + d + (Utf8.decode s i).2 = i + (Utf8.decode s i).2 + d by omega]
 split
 ·exact put_leaf (by omega) h1 hf rfl
 split
 ·exact put_leaf (by omega) h1 hf rfl
 split
 ·exact put_leaf (by omega) h1 hf rfl
 ·exact put_leaf (by omega) h1 hf rfl
def OpenPut (d : Nat) (z : List UInt8) : OpenY → OpenY → Prop
 | .cap nm n,R => R = .cap nm (n + d)
 | .flags g n,R => R = .flags g (n + d)
 | .under g n,R => R = .under g (n + d)
 | .bad _ _ _,R => z = [] → ∃ c a b,R = .bad c a b
theorem name_none (h : Put s t d []) (i : Nat) (hi : i ≤ s.size) (hn : nameS s i = none) : nameS t (i + d) = none := by
 have hl : leftB t (i + d) = leftB s i := by have := h.left i hi;simpa using this
 unfold nameS at hn ⊢
 rw [from_put h i hi]
 cases hf : fromS s i with
 | none => rfl
 | some f =>
  rw [hf] at hn
  simp only [Option.map_some] at hn ⊢
  have hg : endS t (i + d) = endS s i + d := by
   unfold endS
   rw [hl]
   omega
  have hts : t.size = s.size + d := by rw [h.size];rfl
  rw [if_neg]
  rintro ⟨q1,q2,q3⟩
  rw [hg] at q1 q2 q3
  rw [show endS s i + d - (f + d) = endS s i - f by omega] at q3
  have hlf : leftB t (f + d) = leftB s f := by
   have := h.left f (by omega)
   simpa using this
  rw [hlf] at q3
  rw [if_pos ⟨by omega,by omega,q3⟩] at hn
  cases hn
theorem flags_none (h : Put s t d []) (i : Nat) (hi : i ≤ s.size) (f : Int) (hn : (flagsS s i f).1 = none) : (flagsS t (i + d) f).1 = none := by
 have hs := h.shift
 unfold flagsS at hn ⊢
 rw [hs.left i (Nat.zero_le _),hs.at1 i (Nat.zero_le _),hs.plus i 2 (Nat.zero_le _)]
 split
 ·rfl
 split
 ·rfl
 ·rename_i h1 h2
  rw [if_neg h1,if_neg h2] at hn
  exact hn
theorem open_put (h : Put s t d z) (i : Nat) (f : Int) (ns : List (List UInt8)) (hi : i < s.size) (hf : FlagsIn f) : OpenPut d z (openY s i f ns) (openY t (i + d) f ns) := by
 unfold openY
 rw [h.pre i (by omega) (by decide),h.pre i (by omega) (by decide),h.pre i (by omega) (by decide)]
 split
 ·cases hn : nameS s i with
  | none =>
   intro hz
   subst hz
   rw [name_none h i (by omega) hn]
   exact ⟨_,_,_,rfl⟩
  | some q =>
   obtain ⟨nm,k⟩ := q
   rw [name_put h i (by omega) hn]
   simp only
   split
   ·exact fun _ => ⟨_,_,_,rfl⟩
   ·rfl
 split
 ·rcases hn : flagsS s i f with ⟨_ | ⟨g,u⟩,k⟩
  ·intro hz
   subst hz
   have := flags_none h i (by omega) f (by rw [hn])
   rcases hm : flagsS t (i + d) f with ⟨_ | ⟨g,u⟩,k'⟩
   ·exact ⟨_,_,_,rfl⟩
   ·rw [hm] at this
    cases this
  ·rw [flags_put h i (by omega) f hn]
   simp only
   split <;> rfl
 ·show OpenY.cap [] (i + d + 1) = .cap [] (i + 1 + d)
  congr 1
  omega
theorem repeat_put (h : Put s t d z) {i k : Nat} {f c a b : Int} {ns : List (List UInt8)} {l : List Tr} {x : Tr} (hr : repY s i = some (c,a,b,k)) (hf : FlagsIn f) : PutR s t d z (i + 1) (repeatY s i f ns l x c a b k) (repeatY t (i + d) f ns l x c a b (k + d)) := by
 obtain ⟨h1,h2,-⟩ := rep_ok hr
 unfold repeatY
 rw [lazy_put h k h2]
 split
 ·exact fun _ => ⟨_,_,_,rfl⟩
 obtain ⟨k2,hk2⟩ : ∃ k2,(if lazyY s k f = true then k + 1 else k) = k2 := ⟨_,rfl⟩
 have hz : k2 ≤ s.size ∧ k ≤ k2 := by
  rw [← hk2]
  split
  ·rename_i h
   exact ⟨lazy_in h,by omega⟩
  ·exact ⟨h2,Nat.le_refl _⟩
 have hk2' : (if lazyY s k f = true then k + d + 1 else k + d) = k2 + d := by
  rw [← hk2]
  split <;> omega
 simp only [hk2,hk2']
 rw [rep_put h k2 hz.1]
 cases repY s k2 with
 | none => exact put_leaf (by omega) hz.1 hf rfl
 | some q =>
  simp only [Option.map_some]
  split <;> exact fun _ => ⟨_,_,_,rfl⟩
theorem parts_put9 (h : Put s t d z) (n n' i j : Nat) (f f' : Int) (ns ns' : List (List UInt8)) (acc : List Tr)
  (hn' : 3 * (t.size - (i + d)) + 2 ≤ n')
  (hp : PutR s t d z i (partY s n i f ns []) (partY t n' j f' ns' []))
  (ih : ∀ (i2 : Nat) (f2 : Int) (ns2 : List (List UInt8)) (acc2 : List Tr),i < i2 → i2 ≤ s.size → FlagsIn f2 → PutR s t d z i2 (partsY s n i2 f2 ns2 acc2) (partsY t n' (i2 + d) f2 ns2 acc2)) :
  PutR s t d z i (partsY s (n + 1) i f ns acc) (partsY t (n' + 1) j f' ns' acc) := by
 rw [partsY,partsY]
 cases hq : partY s n i f ns [] with
 | bad c a b =>
  rw [hq] at hp
  intro hz
  obtain ⟨c',a',b',hb⟩ := hp hz
  rw [hb]
  exact ⟨_,_,_,rfl⟩
 | ok l i2 f2 ns2 =>
  rw [hq] at hp
  obtain ⟨h1,h2,h3,h4 | ⟨h4,h5,l',h6⟩⟩ := hp
  ·rw [h4]
   simp only
   have h124 := h.is i2 h2 124 (by decide) (by decide)
   by_cases hc : headI (leftB s i2) = 124
   ·rw [if_pos hc,if_pos (h124.2 hc),show i2 + d + 1 = i2 + 1 + d by omega]
    have := head_ge hc (by decide)
    exact (ih (i2 + 1) f2 ns2 _ (by omega) (by omega) h3).mono (by omega)
   ·rw [if_neg hc,if_neg fun e => hc (h124.1 e)]
    exact ⟨h1,h2,h3,.inl rfl⟩
  ·rw [h6]
   simp only
   rw [if_neg (by rw [head_end s i2 (by omega)];decide),if_neg (by rw [head_end t t.size (Nat.le_refl _)];decide)]
   exact ⟨h1,h2,h3,.inr ⟨h4,h5,_,rfl⟩⟩
theorem part_stop (s : ByteArray) (n : Nat) (f : Int) (ns : List (List UInt8)) (l : List Tr) : partY s (n + 1) s.size f ns l = .ok l s.size f ns := by
 rw [partY,if_pos (.inl (Nat.le_refl _))]
theorem read_put (h : Put s t d z) : ∀ n : Nat,
  (∀ (n' i : Nat) (f : Int) (ns : List (List UInt8)) (acc : List Tr),i ≤ s.size → FlagsIn f → 3 * (s.size - i) + 3 ≤ n → 3 * (t.size - (i + d)) + 3 ≤ n' → PutR s t d z i (partsY s n i f ns acc) (partsY t n' (i + d) f ns acc)) ∧
  (∀ (n' i : Nat) (f : Int) (ns : List (List UInt8)) (l : List Tr),i ≤ s.size → FlagsIn f → 3 * (s.size - i) + 2 ≤ n → 3 * (t.size - (i + d)) + 2 ≤ n' → PutR s t d z i (partY s n i f ns l) (partY t n' (i + d) f ns l)) ∧
  (∀ (n' i : Nat) (f : Int) (ns : List (List UInt8)),i < s.size → FlagsIn f → 3 * (s.size - i) + 1 ≤ n → 3 * (t.size - (i + d)) + 1 ≤ n' → PutR s t d z (i + 1) (atomsY s n i f ns) (atomsY t n' (i + d) f ns))
 | 0 => ⟨fun _ _ _ _ _ _ _ h => by omega,fun _ _ _ _ _ _ _ h => by omega,fun _ _ _ _ _ _ h => by omega⟩
 | n + 1 => by
  obtain ⟨ih1,ih2,ih3⟩ := read_put h n
  have hts := h.size
  refine ⟨fun n' i f ns acc hi hf hn hn' => ?_,fun n' i f ns l hi hf hn hn' => ?_,fun n' i f ns hi hf hn hn' => ?_⟩
  ·obtain ⟨n',rfl⟩ : ∃ q,n' = q + 1 := ⟨n' - 1,by omega⟩
   exact parts_put9 h n n' i (i + d) f f ns ns acc (by omega) (ih2 n' i f ns [] hi hf (by omega) (by omega)) fun i2 f2 ns2 acc2 h1 h2 h3 => ih1 n' i2 f2 ns2 acc2 h2 h3 (by omega) (by omega)
  ·obtain ⟨n',rfl⟩ : ∃ q,n' = q + 1 := ⟨n' - 1,by omega⟩
   rw [partY,partY]
   by_cases hst : s.size ≤ i ∨ headI (leftB s i) = 124 ∨ headI (leftB s i) = 41
   ·rw [if_pos hst,if_pos]
    ·exact put_leaf (Nat.le_refl _) hi hf rfl
    ·rcases Nat.lt_or_ge i s.size with hl | hl
     ·rw [h.head i hl]
      exact .inr (hst.resolve_left (by omega))
     ·obtain rfl : i = s.size := by omega
      rcases h.tail with hz | hz
      ·exact .inl (by rw [hts,hz];exact Nat.le_refl _)
      ·refine .inr (.inr ?_)
       rw [h.left s.size (Nat.le_refl _),left_nil s s.size (Nat.le_refl _),hz]
       rfl
   ·have hlt : i < s.size := by
     rcases Nat.lt_or_ge i s.size with hl | hl
     ·exact hl
     ·exact absurd (.inl hl) hst
    rw [if_neg hst,if_neg (by rw [h.head i hlt];exact fun g => hst (g.elim (fun g => by omega) .inr)),rep_put h i hi]
    cases hr : repY s i with
    | some q =>
     obtain ⟨c,a,b,k⟩ := q
     simp only [Option.map_some]
     cases l.getLast? with
     | none => exact fun _ => ⟨_,_,_,rfl⟩
     | some x =>
      simp only
      have hp := repeat_put h (ns := ns) (l := l.dropLast) (x := x) hr hf
      cases hq : repeatY s i f ns l.dropLast x c a b k with
      | bad c' a' b' =>
       rw [hq] at hp
       intro hz
       obtain ⟨c2,a2,b2,hb⟩ := hp hz
       rw [hb]
       exact ⟨_,_,_,rfl⟩
      | ok l2 i2 f2 ns2 =>
       rw [hq] at hp
       obtain ⟨h1,h2,h3,h4 | ⟨h4,h5,l',h6⟩⟩ := hp
       ·rw [h4]
        exact (ih2 n' i2 f2 ns2 l2 h2 h3 (by omega) (by omega)).mono (by omega)
       ·rw [h6]
        simp only
        obtain ⟨m,rfl⟩ : ∃ m,n = m + 1 := ⟨n - 1,by omega⟩
        obtain ⟨m',rfl⟩ : ∃ m,n' = m + 1 := ⟨n' - 1,by omega⟩
        rw [h5,part_stop,part_stop]
        exact ⟨by omega,Nat.le_refl _,h3,.inr ⟨h4,rfl,_,rfl⟩⟩
    | none =>
     simp only [Option.map_none]
     have hp := ih3 n' i f ns hlt hf (by omega) (by omega)
     cases hq : atomsY s n i f ns with
     | bad c' a' b' =>
      rw [hq] at hp
      intro hz
      obtain ⟨c2,a2,b2,hb⟩ := hp hz
      rw [hb]
      exact ⟨_,_,_,rfl⟩
     | ok xs i2 f2 ns2 =>
      rw [hq] at hp
      obtain ⟨h1,h2,h3,h4 | ⟨h4,h5,l',h6⟩⟩ := hp
      ·rw [h4]
       exact (ih2 n' i2 f2 ns2 (l ++ xs) h2 h3 (by omega) (by omega)).mono (by omega)
      ·rw [h6]
       simp only
       obtain ⟨m,rfl⟩ : ∃ m,n = m + 1 := ⟨n - 1,by omega⟩
       obtain ⟨m',rfl⟩ : ∃ m,n' = m + 1 := ⟨n' - 1,by omega⟩
       rw [h5,part_stop,part_stop]
       exact ⟨by omega,Nat.le_refl _,h3,.inr ⟨h4,rfl,_,rfl⟩⟩
  ·obtain ⟨n',rfl⟩ : ∃ q,n' = q + 1 := ⟨n' - 1,by omega⟩
   rw [atomsY,atomsY,h.head i hi]
   split
   ·have ho := open_put h i f ns hi hf
    have hok := open_ok (ns := ns) hi hf
    cases hq : openY s i f ns with
    | bad c a b =>
     rw [hq] at ho
     intro hz
     obtain ⟨c2,a2,b2,hb⟩ := ho hz
     rw [hb]
     exact ⟨_,_,_,rfl⟩
    | flags g k =>
     rw [hq] at ho hok
     obtain ⟨k1,k2,k3⟩ := hok
     rw [show openY t (i + d) f ns = .flags g (k + d) from ho]
     exact put_leaf k1 k2 k3 rfl
    | cap nm k =>
     rw [hq] at ho hok
     obtain ⟨k1,k2,-⟩ := hok
     rw [show openY t (i + d) f ns = .cap nm (k + d) from ho]
     simp only
     have hp := ih1 n' k f (ns ++ [nm]) [] k2 hf (by omega) (by omega)
     cases hr : partsY s n k f (ns ++ [nm]) [] with
     | bad c a b =>
      rw [hr] at hp
      intro hz
      obtain ⟨c2,a2,b2,hb⟩ := hp hz
      rw [hb]
      exact ⟨_,_,_,rfl⟩
     | ok l i2 f2 ns2 =>
      rw [hr] at hp
      obtain ⟨h1,h2,h3,h4⟩ := hp
      simp only
      by_cases h41 : headI (leftB s i2) = 41
      ·have hl2 := head_ge h41 (by decide)
       rcases h4 with h4 | ⟨-,h5,-⟩
       ·rw [if_pos h41,h4]
        simp only
        rw [if_pos (by rw [h.head i2 hl2];exact h41)]
        exact put_leaf (by omega) hl2 hf (by rw [show i2 + d + 1 = i2 + 1 + d by omega])
       ·omega
      ·rw [if_neg h41]
       intro hz
       rcases h4 with h4 | ⟨h4,-⟩
       ·subst hz
        rw [h4]
        simp only
        rw [if_neg (by rw [h.shift.left i2 (Nat.zero_le _)];exact h41)]
        exact ⟨_,_,_,rfl⟩
       ·exact absurd hz h4
    | under g k =>
     rw [hq] at ho hok
     obtain ⟨k1,k2,k3⟩ := hok
     rw [show openY t (i + d) f ns = .under g (k + d) from ho]
     simp only
     have hp := ih1 n' k g ns [] k2 k3 (by omega) (by omega)
     cases hr : partsY s n k g ns [] with
     | bad c a b =>
      rw [hr] at hp
      intro hz
      obtain ⟨c2,a2,b2,hb⟩ := hp hz
      rw [hb]
      exact ⟨_,_,_,rfl⟩
     | ok l i2 f2 ns2 =>
      rw [hr] at hp
      obtain ⟨h1,h2,h3,h4⟩ := hp
      simp only
      by_cases h41 : headI (leftB s i2) = 41
      ·have hl2 := head_ge h41 (by decide)
       rcases h4 with h4 | ⟨-,h5,-⟩
       ·rw [if_pos h41,h4]
        simp only
        rw [if_pos (by rw [h.head i2 hl2];exact h41)]
        exact put_leaf (by omega) hl2 hf (by rw [show i2 + d + 1 = i2 + 1 + d by omega])
       ·omega
      ·rw [if_neg h41]
       intro hz
       rcases h4 with h4 | ⟨h4,-⟩
       ·subst hz
        rw [h4]
        simp only
        rw [if_neg (by rw [h.shift.left i2 (Nat.zero_le _)];exact h41)]
        exact ⟨_,_,_,rfl⟩
       ·exact absurd hz h4
   split
   ·exact classed_put h i f ns hi hf
   split
   ·exact escaped_put h i f ns hi hf
   ·exact plain_put h i f ns hi hf
end Go.Proofs.YthnddabcmhplkaaGreatDoor
namespace Go.Proofs.YthnddabcmhplkaaGreatDoor
open Go Go.RowKit
theorem enc_from8 (s : ByteArray) : ∀ f pos,s.size ≤ pos + f → Lib.validD (s.data.toList.drop pos) = true → encR (runesFrom s f pos) = s.data.toList.drop pos
 | 0,pos,h,_ => by
  have hl : s.data.toList.length = s.size := by simp
  rw [List.drop_eq_nil_of_le (by omega)]
  rfl
 | f + 1,pos,h,hv => by
  have hl : s.data.toList.length = s.size := by simp
  by_cases hp : pos < s.size
  ·obtain ⟨l,hL⟩ : ∃ l,s.data.toList.drop pos = l := ⟨_,rfl⟩
   have hne : l ≠ [] := by
    rw [← hL]
    intro e
    have := congrArg List.length e
    rw [List.length_drop] at this
    simp at this
    omega
   have hd : Utf8.decode s pos = Lib.decodeL l := by
    rw [decode_list s pos l hL]
    exact (decode_list ⟨l.toArray⟩ 0 l (by simp)).symm
   rw [hL] at hv ⊢
   rw [Lib.validD_step l hne] at hv
   have hg : ¬ ((Lib.decodeL l).1 = 65533 ∧ (Lib.decodeL l).2 = 1) := fun e => by rw [if_pos e] at hv;exact Bool.false_ne_true hv
   rw [if_neg hg] at hv
   rw [runesFrom_step s f pos hp,hd]
   have hw : 1 ≤ (Lib.decodeL l).2 := by rw [← hd];exact Lib.decode_width_pos s pos hp
   have ih := enc_from8 s f (pos + (Lib.decodeL l).2) (by omega) (by rw [← List.drop_drop,hL];exact hv)
   have e : encR (((Lib.decodeL l).1 : Int) :: runesFrom s f (pos + (Lib.decodeL l).2)) = Lib.encodeRune ((Lib.decodeL l).1 : Int) ++ encR (runesFrom s f (pos + (Lib.decodeL l).2)) := rfl
   rw [e,ih,Lib.encode_decode l hne hg,← List.drop_drop,hL,List.take_append_drop]
  ·rw [runesFrom_end s _ pos hp,List.drop_eq_nil_of_le (by omega)]
   rfl
theorem runes_enc (s : ByteArray) (h : Lib.validD s.toList = true) : encR (runesOf s) = s.toList := by
 have h1 := enc_from8 s s.size 0 (by omega) (by rw [Lib.toList_data] at h;simpa using h)
 rw [List.drop_zero,← Lib.toList_data] at h1
 exact h1
theorem valid_enc {r : Int} (h : IsRune r) (t : List UInt8) : Lib.validD (Lib.encodeRune r ++ t) = Lib.validD t := by
 have hd := decode_encode ⟨(Lib.encodeRune r ++ t).toArray⟩ 0 r t h (by simp)
 have hp := encodeRune_pos r
 have hL : Lib.decodeL (Lib.encodeRune r ++ t) = (r.toNat,(Lib.encodeRune r).length) := hd
 rw [Lib.validD_step _ (by intro e;have := congrArg List.length e;rw [List.length_append,List.length_nil] at this;omega),hL,if_neg,List.drop_left]
 rintro ⟨h1,h2⟩
 simp only at h1 h2
 have h3 : r = 65533 := by have := h.1;omega
 subst h3
 revert h2
 decide
theorem repY_none {q : ByteArray} {i : Nat} {c : Int} (h : headI (leftB q i) = c) (h0 : c ≠ 42 ∧ c ≠ 43 ∧ c ≠ 63 ∧ c ≠ 123) : repY q i = none := by
 obtain ⟨h1,h2,h3,h4⟩ := h0
 unfold repY
 rw [h,if_neg (by omega)]
 have : countS q i = none := by unfold countS;rw [h,if_pos h4]
 rw [this]
theorem decode_left {q : ByteArray} {i : Nat} {r : Int} {t : List UInt8} (hr : IsRune r) (h : leftB q i = Lib.encodeRune r ++ t) : Utf8.decode q i = (r.toNat,(Lib.encodeRune r).length) :=
 decode_encode q i r t hr (by rw [← Lib.toList_data];exact h)
theorem atom_leaf (r : Int) (fold : Bool) : ∃ d : Fld,atomY r fold = .mk d [] ∧ d.op ≤ 5 := by
 unfold atomY
 split
 ·exact ⟨_,rfl,by show (4 : Int) ≤ 5;decide⟩
 ·exact ⟨_,rfl,by show (3 : Int) ≤ 5;decide⟩
theorem leaf_depth (d : Fld) : depthR (.mk d []) = 1 := by
 rw [depthR_eq]
 rfl
theorem leaf_weight (d : Fld) (h : d.op ≤ 5) : weightR (.mk d []) = 1 := by
 rw [weightR_eq]
 simp only [Tr.kids,Tr.fld]
 unfold weightN
 rw [if_neg (by omega),if_neg (by omega),if_neg (by omega),if_neg (by omega)]
theorem leaf_bound (s : ByteArray) (d : Fld) (h : d.op ≤ 5) : boundY s (.mk d []) = .tree (.mk d []) := by
 unfold boundY
 rw [leaf_depth,leaf_weight d h,if_neg (by decide),if_neg (by decide)]
theorem leaf_sum : ∀ l : List Tr,(∀ x ∈ l,∃ d : Fld,x = .mk d [] ∧ d.op ≤ 5) → (l.map weightR).sum = l.length
 | [],_ => rfl
 | x :: l,h => by
  obtain ⟨d,rfl,hd⟩ := h x (by simp)
  rw [List.map_cons,List.sum_cons,leaf_weight d hd,leaf_sum l (fun y hy => h y (by simp [hy])),List.length_cons,Nat.add_comm]
theorem cat_bound (s : ByteArray) (l : List Tr) (h : ∀ x ∈ l,∃ d : Fld,x = .mk d [] ∧ d.op ≤ 5) (hn : l.length ≤ 1024) : boundY s (catY l) = .tree (catY l) := by
 match l,h,hn with
 | [],h,hn => exact leaf_bound s _ (by show (2 : Int) ≤ 5;decide)
 | [x],h,hn =>
  obtain ⟨d,rfl,hd⟩ := h x (by simp)
  exact leaf_bound s d hd
 | x :: y :: l,h,hn =>
  show boundY s (.mk (fldY 11) (x :: y :: l)) = .tree (.mk (fldY 11) (x :: y :: l))
  have h1 : depthR (.mk (fldY 11) (x :: y :: l)) ≤ 2 := by
   rw [depthR_eq]
   have : maxL ((x :: y :: l).map depthR) ≤ 1 := maxL_le fun k hk => by
    obtain ⟨z,hz,rfl⟩ := List.mem_map.1 hk
    obtain ⟨d,rfl,-⟩ := h z hz
    exact Nat.le_of_eq (leaf_depth d)
   exact Nat.succ_le_succ this
  have h2 : weightR (.mk (fldY 11) (x :: y :: l)) ≤ 1025 := by
   rw [weightR_eq]
   simp only [Tr.kids,Tr.fld,leaf_sum _ h]
   unfold weightN
   rw [if_neg (by decide),if_pos (by decide)]
   unfold clipR
   omega
  unfold boundY
  rw [if_neg (by omega),if_neg (by omega)]
def letB (a b c d : Bool) : List UInt8 := (if a then [105] else []) ++ (if b then [109] else []) ++ (if c then [115] else []) ++ (if d then [85] else [])
def flgB (a b c d : Bool) : Int := 32 + (if a then 1 else 0) + (if b then 4 else 0) + (if c then 8 else 0) + (if d then 16 else 0)
theorem letB_fit (a b c d : Bool) : (letB a b c d).length ≤ 4 := by cases a <;> cases b <;> cases c <;> cases d <;> decide
theorem letB_low (a b c d : Bool) : ∀ x ∈ letB a b c d,x.toNat < 128 := by cases a <;> cases b <;> cases c <;> cases d <;> decide
theorem flgB_in (a b c d : Bool) : FlagsIn (flgB a b c d) := by
 unfold FlagsIn
 cases a <;> cases b <;> cases c <;> cases d <;> decide
theorem flgB_lit (a b c d : Bool) : flagY (flgB a b c d) 2 = false := by cases a <;> cases b <;> cases c <;> cases d <;> kernel_rfl
theorem letB_flags (a b c d : Bool) (r : List UInt8) : flagsFrom (letB a b c d ++ 41 :: r) 32 false false = (some (flgB a b c d,false),(letB a b c d).length + 1) := by
 cases a <;> cases b <;> cases c <;> cases d <;> kernel_rfl
theorem letB_under (a b c d : Bool) (r : List UInt8) : flagsFrom (letB a b c d ++ 58 :: r) 32 false false = (some (flgB a b c d,true),(letB a b c d).length + 1) := by
 cases a <;> cases b <;> cases c <;> cases d <;> kernel_rfl
theorem valid_low9 : ∀ l r : List UInt8,(∀ c ∈ l,c.toNat < 128) → Lib.validD (l ++ r) = Lib.validD r
 | [],r,_ => rfl
 | c :: l,r,h => by
  rw [List.cons_append,Lib.validD_cons _ _ (h c (by simp))]
  exact valid_low9 l r fun d hd => h d (by simp [hd])
theorem valid_encR9 : ∀ R : List Int,(∀ r ∈ R,IsRune r) → ∀ t,Lib.validD (encR R ++ t) = Lib.validD t
 | [],_,t => rfl
 | r :: R,h,t => by
  rw [show encR (r :: R) = Lib.encodeRune r ++ encR R from rfl,List.append_assoc,valid_enc (h r (by simp))]
  exact valid_encR9 R (fun q hq => h q (by simp [hq])) t
theorem valid_behind (s : ByteArray) (h : Lib.validD s.toList = true) : Lib.validD (s.toList ++ [41,107]) = true := by
 rw [← runes_enc s h]
 exact (valid_encR9 (runesOf s) (runesFrom_isRune s s.size 0) _).trans (by kernel_rfl)
def toldR (s : ByteArray) : PR → ParseR
 | .bad c a b => .bad c a b
 | .ok l i _ _ => if i < s.size then .bad 84 0 s.size else boundY s (altY l)
theorem parse_told (s : ByteArray) (f : Int) (h : ¬ (f < 0 ∨ 63 < f)) (hl : flagY f 2 = false) : parseY s f = if 1024 < s.size then .bad 2 0 s.size else if Lib.validD s.toList = false then .bad 81 0 s.size else toldR s (partsY s (roundsY s) 0 f [] []) := by
 unfold parseY
 rw [if_neg h,hl,if_neg Bool.false_ne_true]
 cases partsY s (roundsY s) 0 f [] [] <;> rfl
theorem letter_k (t : ByteArray) (i n : Nat) (ns : List (List UInt8)) (l : List Tr) (h : leftB t i = [107]) : partY t (n + 3) i 32 ns l = .ok (l ++ [runeY 107]) t.size 32 ns := by
 have hsz : t.size = i + 1 := by
  have := congrArg List.length h
  rw [left_length] at this
  simp at this
  omega
 have hh : headI (leftB t i) = 107 := by rw [h];rfl
 have hlt : i < t.size := by omega
 have hr : repY t i = none := repY_none hh (by decide)
 have hd : Utf8.decode t i = (107,1) := decode_left (r := 107) (t := []) (by unfold IsRune;decide) (by rw [h];kernel_rfl)
 have ha : atomsY t (n + 2) i 32 ns = .ok [runeY 107] t.size 32 ns := by
  rw [atomsY,if_neg (by rw [hh];decide),if_neg (by rw [hh];decide),if_neg (by rw [hh];decide)]
  unfold plainY
  rw [hd]
  show (if ((107 : Nat) : Int) = 46 then _ else if ((107 : Nat) : Int) = 94 then _ else if ((107 : Nat) : Int) = 36 then _ else PR.ok [atomY (107 : Nat) (flagY 32 1)] (i + 1) 32 ns) = _
  rw [if_neg (by decide),if_neg (by decide),if_neg (by decide),hsz,show flagY 32 1 = false by kernel_rfl]
  rfl
 rw [partY,if_neg (by rw [hh];omega),hr,ha]
 simp only
 rw [part_stop]
theorem put_flags {s t : ByteArray} {z : List UInt8} (a b c d : Bool) (x : UInt8) (hz : z = [] ∨ z = [41,107]) (h : t.toList = 40 :: 63 :: (letB a b c d ++ x :: (s.toList ++ z))) : Put s t ((letB a b c d).length + 3) z where
 left := fun i hi => by
  have hl : s.toList.length = s.size := by rw [Lib.toList_data,Array.length_toList];rfl
  unfold leftB
  rw [h,show i + ((letB a b c d).length + 3) = (letB a b c d).length + 1 + i + 2 by omega]
  show ((letB a b c d ++ x :: (s.toList ++ z)).drop ((letB a b c d).length + 1 + i)) = _
  rw [List.drop_append,List.drop_eq_nil_of_le (by omega),List.nil_append,show (letB a b c d).length + 1 + i - (letB a b c d).length = i + 1 by omega]
  show (s.toList ++ z).drop i = _
  rw [List.drop_append_of_le_length (by omega)]
 size := by
  have h1 := congrArg List.length h
  have hl : s.toList.length = s.size := by rw [Lib.toList_data,Array.length_toList];rfl
  have ht : t.toList.length = t.size := by rw [Lib.toList_data,Array.length_toList];rfl
  simp only [List.length_cons,List.length_append] at h1
  omega
 tail := hz
theorem heads_flags {s t : ByteArray} {z : List UInt8} (a b c d : Bool) (x : UInt8) (h : t.toList = 40 :: 63 :: (letB a b c d ++ x :: (s.toList ++ z))) (hx : x = 41 ∨ x = 58) :
  headI (leftB t 0) = 40 ∧ flagsS t 0 32 = (some (flgB a b c d,decide (x.toNat = 58)),(letB a b c d).length + 3) ∧ preB [40,63,80,60] (leftB t 0) = false ∧ preB [40,63,60] (leftB t 0) = false ∧ preB [40,63] (leftB t 0) = true := by
 have h0 : leftB t 0 = 40 :: 63 :: (letB a b c d ++ x :: (s.toList ++ z)) := by unfold leftB;rw [List.drop_zero,h]
 have h1 : leftB t (0 + 1) = 63 :: (letB a b c d ++ x :: (s.toList ++ z)) := by rw [← left_drop,h0];rfl
 have h2 : leftB t (0 + 2) = letB a b c d ++ x :: (s.toList ++ z) := by rw [← left_drop,h0];rfl
 refine ⟨by rw [h0];rfl,?_,?_,?_,?_⟩
 ·unfold flagsS
  rw [h0,h1,h2,if_neg (fun g => g rfl),if_neg (fun g => g rfl)]
  rcases hx with rfl | rfl
  ·rw [letB_flags]
   simp only [Prod.mk.injEq]
   exact ⟨rfl,by omega⟩
  ·rw [letB_under]
   simp only [Prod.mk.injEq]
   exact ⟨rfl,by omega⟩
 ·rw [h0]
  rcases hx with rfl | rfl <;> cases a <;> cases b <;> cases c <;> cases d <;> kernel_rfl
 ·rw [h0]
  rcases hx with rfl | rfl <;> cases a <;> cases b <;> cases c <;> cases d <;> kernel_rfl
 ·rw [h0]
  kernel_rfl
theorem rep_open {t : ByteArray} {i : Nat} (h : headI (leftB t i) = 40) : repY t i = none := by
 unfold repY countS
 rw [h]
 rfl
theorem flags_read (s t1 t2 : ByteArray) (a b c d : Bool) (h1 : t1.toList = 40 :: 63 :: (letB a b c d ++ 41 :: (s.toList ++ []))) (h2 : t2.toList = 40 :: 63 :: (letB a b c d ++ 58 :: (s.toList ++ [41,107]))) :
  ((∃ c0 x y,parseY s (flgB a b c d) = .bad c0 x y) → ∃ c0 x y,parseY t1 32 = .bad c0 x y) ∧
  (∀ T,parseY s (flgB a b c d) = .tree T → s.size ≤ 900 → parseY t1 32 = .tree T ∧ ((∃ c0 x y,parseY t2 32 = .bad c0 x y ∧ (c0 = 84 ∨ c0 = 86 ∨ c0 = 87)) ∨ parseY t2 32 = .tree (.mk (fldY 11) [T,runeY 107]))) := by
 have p1 := put_flags a b c d 41 (.inl rfl) h1
 have p2 := put_flags a b c d 58 (.inr rfl) h2
 have q1 := heads_flags a b c d 41 h1 (.inl rfl)
 have q2 := heads_flags a b c d 58 h2 (.inr rfl)
 have hf := flgB_in a b c d
 have hlit := flgB_lit a b c d
 have hfit := letB_fit a b c d
 have hlow := letB_low a b c d
 obtain ⟨G,hG⟩ : ∃ G,flgB a b c d = G := ⟨_,rfl⟩
 obtain ⟨L,hL⟩ : ∃ L,letB a b c d = L := ⟨_,rfl⟩
 obtain ⟨D,hD⟩ : ∃ D,L.length + 3 = D := ⟨_,rfl⟩
 rw [hG] at q1 q2 hf hlit ⊢
 rw [hL] at h1 h2 p1 p2 q1 q2 hfit hlow
 rw [hD] at p1 p2 q1 q2
 clear hG hL
 obtain ⟨f1,f2⟩ : ¬ (G < 0 ∨ 63 < G) ∧ True := ⟨by unfold FlagsIn at hf;omega,trivial⟩
 have hs1 := p1.size
 have hs2 := p2.size
 simp only [List.length_nil,List.length_cons] at hs1 hs2
 have hv1 : Lib.validD t1.toList = Lib.validD s.toList := by
  rw [h1,Lib.validD_cons _ _ (by decide),Lib.validD_cons _ _ (by decide),valid_low9 _ _ hlow,Lib.validD_cons _ _ (by decide),List.append_nil]
 have m1 : ∃ n,roundsY t1 = n + 3 ∧ 3 * (t1.size - (0 + D)) + 2 ≤ n + 2 - 2 := ⟨roundsY t1 - 3,by unfold roundsY;omega,by unfold roundsY;omega⟩
 obtain ⟨n1,e1,e2⟩ := m1
 have o1 : partY t1 (n1 + 2) 0 32 [] [] = partY t1 (n1 + 1) D G [] [] := by
  have ha : atomsY t1 (n1 + 1) 0 32 [] = .ok [] D G [] := by
   rw [atomsY,if_pos q1.1]
   unfold openY
   rw [q1.2.1,q1.2.2.1,q1.2.2.2.1,q1.2.2.2.2]
   rfl
  rw [partY,if_neg (by rw [q1.1];omega),rep_open q1.1,ha]
  rfl
 have w1 : PutR s t1 D [] 0 (partsY s (roundsY s) 0 G [] []) (partsY t1 (roundsY t1) 0 32 [] []) := by
  have hrs : roundsY s = 3 * s.size + 2 + 1 := rfl
  rw [hrs,e1]
  refine parts_put9 p1 (3 * s.size + 2) (n1 + 2) 0 0 G 32 [] [] [] (by omega) ?_ fun i2 f2 ns2 acc2 g1 g2 g3 => (read_put p1 (3 * s.size + 2)).1 (n1 + 2) i2 f2 ns2 acc2 g2 g3 (by omega) (by omega)
  rw [o1]
  have := (read_put p1 (3 * s.size + 2)).2.1 (n1 + 1) 0 G [] [] (Nat.zero_le _) hf (by omega) (by omega)
  rwa [Nat.zero_add] at this
 have hflag : flagY 32 2 = false := by kernel_rfl
 obtain ⟨R,hR⟩ : ∃ R,partsY s (roundsY s) 0 G [] [] = R := ⟨_,rfl⟩
 rw [hR] at w1
 rw [parse_told s G f1 hlit,parse_told t1 32 (by decide) hflag,parse_told t2 32 (by decide) hflag,hv1,hR]
 by_cases c1 : 1024 < s.size
 ·rw [if_pos c1,if_pos (by omega)]
  exact ⟨fun _ => ⟨_,_,_,rfl⟩,fun T h => by cases h⟩
 rw [if_neg c1]
 have NT : ¬ (true = false) := by decide
 cases hv : Lib.validD s.toList
 ·rw [if_pos rfl,if_pos rfl]
  refine ⟨fun _ => ?_,fun T h => by cases h⟩
  split <;> exact ⟨_,_,_,rfl⟩
 rw [if_neg NT,if_neg NT]
 cases R with
 | bad x0 x1 x2 =>
  obtain ⟨y0,y1,y2,hy⟩ := w1 rfl
  rw [hy]
  refine ⟨fun _ => ?_,fun T h => by cases h⟩
  split <;> exact ⟨_,_,_,rfl⟩
 | ok l i f2 ns2 =>
  obtain ⟨g1,g2,g3,g4⟩ := w1
  replace g4 := g4.resolve_right fun q => q.1 rfl
  rw [g4]
  unfold toldR
  simp only
  by_cases hi : i < s.size
  ·rw [if_pos hi]
   refine ⟨fun _ => ?_,fun T h => by cases h⟩
   split
   ·exact ⟨_,_,_,rfl⟩
   ·rw [if_pos (by omega)]
    exact ⟨_,_,_,rfl⟩
  obtain rfl : i = s.size := by omega
  rw [if_neg hi,if_neg (show ¬ s.size + D < t1.size by omega)]
  refine ⟨fun ⟨x0,x1,x2,hx⟩ => ?_,fun T hT h900 => ?_⟩
  ·split
   ·exact ⟨_,_,_,rfl⟩
   ·unfold boundY at hx ⊢
    split
    ·exact ⟨_,_,_,rfl⟩
    split
    ·exact ⟨_,_,_,rfl⟩
    ·rename_i k1 k2
     rw [if_neg k1,if_neg k2] at hx
     cases hx
  ·have hTl : altY l = T := by
    unfold boundY at hT
    split at hT
    ·cases hT
    split at hT
    ·cases hT
    ·cases hT
     rfl
   have hv2 : Lib.validD t2.toList = true := by
    rw [h2,Lib.validD_cons _ _ (by decide),Lib.validD_cons _ _ (by decide),valid_low9 _ _ hlow,Lib.validD_cons _ _ (by decide)]
    exact valid_behind s hv
   refine ⟨?_,?_⟩
   ·rw [if_neg (by omega)]
    unfold boundY at hT ⊢
    split at hT
    ·cases hT
    split at hT
    ·cases hT
    ·rename_i k1 k2
     rw [if_neg k1,if_neg k2]
     exact hT
   ·rw [if_neg (show ¬ 1024 < t2.size by omega),hv2,if_neg (by decide)]
    obtain ⟨n,en,em⟩ : ∃ n,roundsY t2 = n + 6 ∧ 3 * (t2.size - (0 + D)) + 3 ≤ n + 3 := ⟨roundsY t2 - 6,by unfold roundsY;omega,by unfold roundsY;omega⟩
    have w2 := (read_put p2 (roundsY s)).1 (n + 3) 0 G [] [] (Nat.zero_le _) hf (by unfold roundsY;omega) em
    rw [hR,Nat.zero_add] at w2
    obtain ⟨-,-,-,w2⟩ := w2
    have ho : openY t2 0 32 [] = .under G D := by
     unfold openY
     rw [q2.2.1,q2.2.2.1,q2.2.2.2.1,q2.2.2.2.2]
     rfl
    have hl2 : leftB t2 (s.size + D) = [41,107] := by rw [p2.left s.size (Nat.le_refl _),left_nil s s.size (Nat.le_refl _)];rfl
    have hl3 : leftB t2 (s.size + D + 1) = [107] := by rw [← left_drop,hl2];rfl
    rcases w2 with w2 | ⟨-,-,l',w2⟩
    ·have ha : atomsY t2 (n + 4) 0 32 [] = .ok [altY l] (s.size + D + 1) 32 ns2 := by
      rw [atomsY,if_pos q2.1,ho]
      simp only
      rw [w2]
      simp only
      rw [if_pos (by rw [hl2];rfl)]
     have hpp : partsY t2 (roundsY t2) 0 32 [] [] = .ok [catY [altY l,runeY 107]] t2.size 32 ns2 := by
      rw [en,partsY,partY,if_neg (by rw [q2.1];omega),rep_open q2.1,ha]
      simp only
      rw [letter_k t2 _ (n + 1) ns2 _ hl3]
      simp only
      rw [head_end t2 t2.size (Nat.le_refl _),if_neg (by decide)]
      rfl
     have hb : (match partsY t2 (roundsY t2) 0 32 [] [] with
       | PR.bad c a b => ParseR.bad c a b
       | PR.ok l i f ns => if i < t2.size then ParseR.bad 84 0 t2.size else boundY t2 (altY l)) = boundY t2 (.mk (fldY 11) [T,runeY 107]) := by
      rw [hpp]
      simp only
      rw [if_neg (Nat.lt_irrefl _),hTl]
      rfl
     rw [hb]
     unfold boundY
     by_cases k1 : 50 < depthR (.mk (fldY 11) [T,runeY 107])
     ·rw [if_pos k1]
      exact .inl ⟨_,_,_,rfl,.inr (.inl rfl)⟩
     by_cases k2 : 4000 < weightR (.mk (fldY 11) [T,runeY 107])
     ·rw [if_neg k1,if_pos k2]
      exact .inl ⟨_,_,_,rfl,.inr (.inr rfl)⟩
     ·rw [if_neg k1,if_neg k2]
      exact .inr rfl
    ·left
     have ha : atomsY t2 (n + 4) 0 32 [] = .bad 84 0 t2.size := by
      rw [atomsY,if_pos q2.1,ho]
      simp only
      rw [w2]
      simp only
      rw [if_neg (by rw [head_end t2 t2.size (Nat.le_refl _)];decide)]
     have hpp : partsY t2 (roundsY t2) 0 32 [] [] = .bad 84 0 t2.size := by
      rw [en,partsY,partY,if_neg (by rw [q2.1];omega),rep_open q2.1,ha]
     rw [hpp]
     exact ⟨_,_,_,rfl,.inl rfl⟩
end Go.Proofs.YthnddabcmhplkaaGreatDoor
