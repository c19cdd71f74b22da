/- A pattern of letters and digits with a count behind. Plain side. -/
import Derived.Test.YtbclhkogjmmgnaaGreatDoorK56
import Derived.Lib.AppendIntMem
set_option linter.unusedVariables false
namespace Go.Proofs.YtbclhkogjmmgnaaGreatDoor
open Go Go.RowKit
theorem tab10_below8 {w w' : World} (h : Lib.TabIs Tryz.prog w "internal/strconv.uint64pow10" .u64 Lib.pow10Tab) (hb : Below w.heap.size w w') : Lib.TabIs Tryz.prog w' "internal/strconv.uint64pow10" .u64 Lib.pow10Tab := by
 have hgn : Tryz.prog.globalNamed "internal/strconv.uint64pow10" = some 3 := by kernel_rfl
 unfold Lib.TabIs World.var? at h ⊢
 rw [hgn] at h ⊢
 simp only [Option.bind_some] at h ⊢
 have hlt : 3 < w.heap.size := by
  rcases Nat.lt_or_ge 3 w.heap.size with h' | h'
  ·exact h'
  ·rw [Array.getElem?_eq_none h'] at h
   cases h
 rw [hb.block _ hlt]
 exact h
theorem ofNat_toNat8 (n : Nat) (h : n < 256) : (UInt8.ofNat n).toNat = n := by
 rw [UInt8.toNat_ofNat']
 exact Nat.mod_eq_of_lt h
theorem digs_one8 (d : Nat) (hd : d < 10) (t : List UInt8) (n : Int) : digsFrom (UInt8.ofNat (48 + d) :: t) n = ((digsFrom t (min (10 * n + (d : Int)) 1001)).1,(digsFrom t (min (10 * n + (d : Int)) 1001)).2 + 1) := by
 have h1 := ofNat_toNat8 (48 + d) (by omega)
 rw [digsFrom,if_pos ((isDig_iff _).2 (by rw [h1];omega)),h1,show (((48 + d : Nat) : Int) - 48) = (d : Int) by omega]
theorem digs_dec8 : ∀ (u : Nat),u ≤ 1000 → ∀ rest : List UInt8,digsFrom (Lib.decDigits u ++ rest) 0 = ((digsFrom rest (u : Int)).1,(digsFrom rest (u : Int)).2 + (Lib.decDigits u).length) := by
 intro u
 induction u using Nat.strongRecOn with
 | _ u ih =>
  intro hu rest
  rw [Lib.decDigits]
  by_cases h : u < 10
  ·rw [dif_pos h]
   show digsFrom (UInt8.ofNat (48 + u) :: rest) 0 = _
   rw [digs_one8 u h,show min (10 * (0 : Int) + (u : Int)) 1001 = (u : Int) by omega]
   rfl
  ·rw [dif_neg h,List.append_assoc,ih (u / 10) (by omega) (by omega)]
   show ((digsFrom (UInt8.ofNat (48 + u % 10) :: rest) _).1,_) = _
   rw [List.singleton_append,digs_one8 (u % 10) (by omega),show min (10 * ((u / 10 : Nat) : Int) + ((u % 10 : Nat) : Int)) 1001 = (u : Int) by omega]
   simp only [List.length_append,List.length_singleton,Prod.mk.injEq,true_and]
   omega
theorem dec_pos8 (u : Nat) : 0 < (Lib.decDigits u).length := by
 rw [Lib.decDigits]
 split
 ·exact Nat.zero_lt_one
 ·simp
theorem digs_stop8 (c : UInt8) (t : List UInt8) (n : Int) (h : isDig c = false) : digsFrom (c :: t) n = (n,0) := by rw [digsFrom,if_neg (by rw [h];decide)]
theorem itoa_dec8 (n : Nat) : Lib.itoa (n : Int) = Lib.decDigits n := by
 unfold Lib.itoa
 rw [if_neg (by omega)]
 rfl
theorem count_two8 {S : ByteArray} {i A B : Nat} {rest : List UInt8} (hA : A ≤ 1000) (hB : B ≤ 1000) (hl : leftB S i = 123 :: (Lib.decDigits A ++ 44 :: (Lib.decDigits B ++ 125 :: rest))) : countS S i = some ((A : Int),(B : Int),i + 1 + (Lib.decDigits A).length + 1 + (Lib.decDigits B).length + 1) := by
 have h0 : headI (leftB S i) = 123 := by rw [hl];rfl
 have e1 : leftB S (i + 1) = Lib.decDigits A ++ 44 :: (Lib.decDigits B ++ 125 :: rest) := by rw [← left_drop,hl];rfl
 have h1 : digsFrom (leftB S (i + 1)) 0 = ((A : Int),(Lib.decDigits A).length) := by rw [e1,digs_dec8 A hA,digs_stop8 _ _ _ (by decide)];simp
 have e2 : leftB S (i + 1 + (Lib.decDigits A).length) = 44 :: (Lib.decDigits B ++ 125 :: rest) := by rw [← left_drop,e1,List.drop_left]
 have e3 : leftB S (i + 1 + (Lib.decDigits A).length + 1) = Lib.decDigits B ++ 125 :: rest := by rw [← left_drop,e2];rfl
 have h2 : digsFrom (leftB S (i + 1 + (Lib.decDigits A).length + 1)) 0 = ((B : Int),(Lib.decDigits B).length) := by rw [e3,digs_dec8 B hB,digs_stop8 _ _ _ (by decide)];simp
 have e4 : leftB S (i + 1 + (Lib.decDigits A).length + 1 + (Lib.decDigits B).length) = 125 :: rest := by rw [← left_drop,e3,List.drop_left]
 have hd : headI (leftB S (i + 1 + (Lib.decDigits A).length + 1)) ≠ 125 := by
  rw [e3,Lib.decDigits]
  split
  ·rename_i h
   show ((UInt8.ofNat (48 + B)).toNat : Int) ≠ 125
   rw [ofNat_toNat8 _ (by omega)]
   omega
  ·intro h
   have hq := dec_pos8 (B / 10)
   cases hc : Lib.decDigits (B / 10) with
   | nil => rw [hc] at hq;exact absurd hq (by decide)
   | cons x t =>
    have hx := digs_dec8 (B / 10) (by omega) []
    rw [hc] at h hx
    have h125 : x.toNat = 125 := by
     have h' : (x.toNat : Int) = 125 := h
     omega
    have : isDig x = false := by unfold isDig;rw [h125];rfl
    rw [List.cons_append,digs_stop8 _ _ _ this] at hx
    injection hx with _ hx
    simp at hx
 rw [countS_eq h0 h1 rfl h2 rfl,if_neg (by have := dec_pos8 A;omega),e2,if_neg (by show ¬ ((44 : UInt8).toNat : Int) = 125;decide),if_neg (fun h => h rfl),if_neg hd,if_neg (by have := dec_pos8 B;omega),e4,if_pos (show headI (125 :: rest) = 125 from rfl)]
theorem part_on (q : ByteArray) (f : Int) (ns : List (List UInt8)) (t : List UInt8) : ∀ (R : List Int) (n i : Nat) (acc : List Tr),(∀ r ∈ R,IsRune r) → leftB q i = encQ R ++ t → i ≤ q.size →
  ∃ k,k ≤ q.size ∧ leftB q k = t ∧ partY q (n + 1 + R.length) i f ns acc = partY q (n + 1) k f ns (acc ++ R.map fun r => atomY r (flagY f 1))
 | [],n,i,acc,_,h,hi => ⟨i,hi,h,by rw [List.map_nil,List.append_nil];rfl⟩
 | r :: R,n,i,acc,hR,h,hi => by
  rw [encQ_cons,List.append_assoc] at h
  obtain ⟨k,k1,k2,k3,k4,k5,k6,k7⟩ := atom_read f ns (hR r (by simp)) h
  have hi2 : ¬ q.size ≤ i := by omega
  obtain ⟨j,j1,j2,j3⟩ := part_on q f ns t R n k (acc ++ [atomY r (flagY f 1)]) (fun x hx => hR x (by simp [hx])) k3 k2
  refine ⟨j,j1,j2,?_⟩
  rw [List.length_cons,show n + 1 + (R.length + 1) = n + 1 + R.length + 1 from rfl,partY,if_neg (by rintro (e | e | e) <;> contradiction),k6]
  simp only [show n + 1 + R.length = n + R.length + 1 by omega,k7]
  rw [show n + R.length + 1 = n + 1 + R.length by omega,j3,List.append_assoc]
  rfl
def LetterB (c : UInt8) : Prop := (48 ≤ c.toNat ∧ c.toNat ≤ 57) ∨ (65 ≤ c.toNat ∧ c.toNat ≤ 90) ∨ (97 ≤ c.toNat ∧ c.toNat ≤ 122)
def lettersR (l : List UInt8) : List Int := l.map fun c => (c.toNat : Int)
theorem letters_rune {l : List UInt8} (h : ∀ c ∈ l,LetterB c) : ∀ r ∈ lettersR l,IsRune r := fun r hr => by
 obtain ⟨c,hc,rfl⟩ := List.mem_map.1 hr
 have := h c hc
 unfold LetterB at this
 exact ⟨by omega,.inl (by omega)⟩
theorem letters_enc : ∀ l : List UInt8,(∀ c ∈ l,LetterB c) → encQ (lettersR l) = l
 | [],_ => rfl
 | c :: l,h => by
  have hc := h c (by simp)
  have ih := letters_enc l fun d hd => h d (by simp [hd])
  show encQ ((c.toNat : Int) :: lettersR l) = c :: l
  have hn : ¬ signR (c.toNat : Int) = true := by
   intro e
   unfold signR at e
   simp only [List.contains_cons,List.contains_nil,Bool.or_false,Bool.or_eq_true,beq_iff_eq] at e
   unfold LetterB at hc
   omega
  obtain ⟨d,hd,hd2⟩ := enc_low (r := (c.toNat : Int)) (by omega) (by unfold LetterB at hc;omega)
  have : d = c := UInt8.toNat_inj.1 (Int.ofNat.inj hd2)
  rw [encQ_cons,if_neg hn,hd,ih,this]
  rfl
theorem valid_low : ∀ l : List UInt8,(∀ c ∈ l,c.toNat < 128) → Lib.validD l = true
 | [],_ => rfl
 | c :: l,h => by rw [Lib.validD_cons _ _ (h c (by simp))];exact valid_low l fun d hd => h d (by simp [hd])
theorem dec_digit : ∀ u : Nat,∀ c ∈ Lib.decDigits u,48 ≤ c.toNat ∧ c.toNat ≤ 57 := by
 intro u
 induction u using Nat.strongRecOn with
 | _ u ih =>
  rw [Lib.decDigits]
  split
  ·rename_i h
   intro c hc
   have hc' : c = UInt8.ofNat (48 + u) := by simpa using hc
   subst hc'
   rw [ofNat_toNat8 _ (by omega)]
   omega
  ·intro c hc
   rcases List.mem_append.1 hc with hc | hc
   ·exact ih (u / 10) (by omega) c hc
   ·have hc' : c = UInt8.ofNat (48 + u % 10) := by simpa using hc
    subst hc'
    rw [ofNat_toNat8 _ (by omega)]
    omega
theorem dec_short (u : Nat) (h : u < 1000) : (Lib.decDigits u).length ≤ 3 := by
 rw [Lib.decDigits]
 split
 ·simp
 ·rw [List.length_append,Lib.decDigits]
  split
  ·simp
  ·rw [List.length_append,Lib.decDigits,dif_pos (by omega)]
   simp
theorem repeated_weight (n m : Nat) (d : Fld) (hd : d.op ≤ 5) (hm : n ≤ m) (h : m ≤ 510) : weightR (repeatedY 123 n m false (.mk d [])) ≤ 1021 ∧ depthR (repeatedY 123 n m false (.mk d [])) = 2 := by
 constructor
 ·unfold repeatedY
  rw [weightR_eq]
  simp only [Tr.kids,Tr.fld,List.map_cons,List.map_nil,List.sum_cons,List.sum_nil,leaf_weight d hd]
  unfold weightN
  rw [show opY 123 = 10 by decide,if_neg (show ¬ (10 : Int) = 6 by decide),if_neg (show ¬ ((10 : Int) = 7 ∨ (10 : Int) = 8 ∨ (10 : Int) = 9 ∨ (10 : Int) = 11) by decide),if_pos rfl]
  unfold clipR
  rw [show min (1 + 0) 4001 = 1 from rfl,Nat.mul_one]
  simp only [if_true]
  omega
 ·unfold repeatedY
  rw [depthR_eq]
  simp only [Tr.kids,List.map_cons,List.map_nil,leaf_depth]
  rfl
theorem runs_parse (s q : ByteArray) (f : Int) (n m : Nat) (hq : q.toList = s.toList ++ 123 :: (Lib.decDigits n ++ 44 :: (Lib.decDigits m ++ [125]))) (hl : ∀ c ∈ s.toList,LetterB c) (h2 : 2 ≤ s.size) (h3 : s.size ≤ 300)
  (hnm : n ≤ m) (hm : m ≤ 510) (hf : ¬ (f < 0 ∨ 63 < f)) (g1 : flagY f 1 = false) (g2 : flagY f 2 = false) (g16 : flagY f 16 = false) :
  ∃ (L : List Tr) (x : Tr),(lettersR s.toList).map runeY = L ++ [x] ∧ parseY q f = .tree (.mk (fldY 11) (L ++ [repeatedY 123 n m false x])) := by
 have hR := letters_rune hl
 have hE := letters_enc s.toList hl
 have hsl : s.toList.length = s.size := by rw [Lib.toList_data,Array.length_toList];rfl
 have hrl : (lettersR s.toList).length = s.size := by unfold lettersR;rw [List.length_map,hsl]
 have hql : q.toList.length = q.size := by rw [Lib.toList_data,Array.length_toList];rfl
 have hsz : q.size = s.size + (1 + ((Lib.decDigits n).length + (1 + ((Lib.decDigits m).length + 1)))) := by
  rw [← hql,hq,List.length_append,hsl,List.length_cons,List.length_append,List.length_cons,List.length_append]
  simp only [List.length_cons,List.length_nil]
  omega
 have hn3 := dec_short n (by omega)
 have hm3 := dec_short m (by omega)
 have hv : Lib.validD q.toList = true := by
  refine valid_low _ fun c hc => ?_
  rw [hq] at hc
  simp only [List.mem_append,List.mem_cons,List.not_mem_nil,or_false] at hc
  rcases hc with hc | rfl | hc | rfl | hc | rfl
  ·have := hl c hc
   unfold LetterB at this
   omega
  ·decide
  ·have := dec_digit n c hc;omega
  ·decide
  ·have := dec_digit m c hc;omega
  ·decide
 have hat : ∀ r : Int,atomY r (flagY f 1) = runeY r := fun r => by unfold atomY;rw [g1,if_neg (by simp)]
 obtain ⟨k,k1,k2,k3⟩ := part_on q f [] (123 :: (Lib.decDigits n ++ 44 :: (Lib.decDigits m ++ [125]))) (lettersR s.toList) (3 * q.size + 1 - s.size) 0 [] hR (by unfold leftB;rw [List.drop_zero,hE];exact hq) (Nat.zero_le _)
 rw [hrl,show 3 * q.size + 1 - s.size + 1 + s.size = 3 * q.size + 2 by omega,List.nil_append] at k3
 simp only [hat] at k3
 obtain ⟨L,x,hLx⟩ : ∃ L x,(lettersR s.toList).map runeY = L ++ [x] := by
  have : (lettersR s.toList).map runeY ≠ [] := by
   intro e
   have := congrArg List.length e
   rw [List.length_map,hrl,List.length_nil] at this
   omega
  exact ⟨_,_,(List.dropLast_concat_getLast this).symm⟩
 have hleaf : ∀ y ∈ L ++ [x],∃ d : Fld,y = .mk d [] ∧ d.op ≤ 5 := fun y hy => by
  rw [← hLx] at hy
  obtain ⟨r,-,rfl⟩ := List.mem_map.1 hy
  exact ⟨_,rfl,by show (3 : Int) ≤ 5;decide⟩
 have hLl : L.length + 1 = s.size := by
  have := congrArg List.length hLx
  rw [List.length_map,hrl,List.length_append,List.length_singleton] at this
  exact this.symm
 refine ⟨L,x,hLx,?_⟩
 obtain ⟨d,hd,hd5⟩ := hleaf x (by simp)
 have hlk := left_length q k
 rw [k2] at hlk
 simp only [List.length_cons,List.length_append,List.length_nil] at hlk
 have hh : headI (leftB q k) = 123 := by rw [k2];rfl
 have hc := count_two8 (S := q) (i := k) (A := n) (B := m) (rest := []) (by omega) (by omega) k2
 have hkz : k + 1 + (Lib.decDigits n).length + 1 + (Lib.decDigits m).length + 1 = q.size := by omega
 rw [hkz] at hc
 have hrep : repY q k = some (123,(n : Int),(m : Int),q.size) := by
  unfold repY
  rw [hh,if_neg (by decide),hc]
 have hend : headI (leftB q q.size) = -1 := head_end _ _ (Nat.le_refl _)
 have hnone : repY q q.size = none := repY_none hend (by decide)
 have hlz : lazyY q q.size f = false := by unfold lazyY;rw [hend];simp
 have hsized : sizedY 123 (n : Int) (m : Int) = true := by
  unfold sizedY
  simp
  omega
 have hpart : partY q (3 * q.size + 2) 0 f [] [] = .ok (L ++ [repeatedY 123 n m false x]) q.size f [] := by
  rw [k3,hLx]
  have hnn : ∃ z,3 * q.size + 1 - s.size = z + 1 := ⟨3 * q.size - s.size,by omega⟩
  obtain ⟨z,hz⟩ := hnn
  rw [hz,partY,if_neg (by rw [hh];omega),hrep]
  simp only [List.getLast?_append,List.getLast?_singleton,Option.some_or,List.dropLast_concat]
  unfold repeatY
  rw [hsized,if_neg (by decide),hlz]
  simp only [Bool.false_eq_true,if_false,hnone,g16,bne_self_eq_false]
  rw [partY,if_pos (.inl (Nat.le_refl _))]
 have hcat : catY (L ++ [repeatedY 123 n m false x]) = .mk (fldY 11) (L ++ [repeatedY 123 n m false x]) := by
  match L,hLl with
  | [],hLl => exact absurd hLl (by simp;omega)
  | [y],_ => rfl
  | y :: z :: L,_ => rfl
 obtain ⟨hw,hdp⟩ := repeated_weight n m d hd5 hnm hm
 rw [← hd] at hw hdp
 have hbound : boundY q (.mk (fldY 11) (L ++ [repeatedY 123 n m false x])) = .tree (.mk (fldY 11) (L ++ [repeatedY 123 n m false x])) := by
  have b1 : depthR (.mk (fldY 11) (L ++ [repeatedY 123 n m false x])) ≤ 3 := by
   rw [depthR_eq]
   have : maxL ((L ++ [repeatedY 123 n m false x]).map depthR) ≤ 2 := maxL_le fun j hj => by
    obtain ⟨y,hy,rfl⟩ := List.mem_map.1 hj
    rcases List.mem_append.1 hy with hy | hy
    ·obtain ⟨e,rfl,-⟩ := hleaf y (by simp [hy])
     rw [leaf_depth]
     decide
    ·obtain rfl := List.mem_singleton.1 hy
     exact Nat.le_of_eq hdp
   exact Nat.succ_le_succ this
  have b2 : weightR (.mk (fldY 11) (L ++ [repeatedY 123 n m false x])) ≤ 2000 := by
   rw [weightR_eq]
   simp only [Tr.kids,Tr.fld,List.map_append,List.map_cons,List.map_nil,List.sum_append,List.sum_cons,List.sum_nil,leaf_sum L (fun y hy => hleaf y (by simp [hy]))]
   unfold weightN
   rw [if_neg (by decide),if_pos (by decide)]
   unfold clipR
   omega
  unfold boundY
  rw [if_neg (by omega),if_neg (by omega)]
 unfold parseY
 have hp : partsY q (roundsY q) 0 f [] [] = .ok [.mk (fldY 11) (L ++ [repeatedY 123 n m false x])] q.size f [] := by
  rw [show roundsY q = 3 * q.size + 2 + 1 from rfl,partsY,hpart]
  show (if headI (leftB q q.size) = 124 then _ else _) = _
  rw [hend,if_neg (by decide),hcat]
  rfl
 rw [if_neg hf,if_neg (by omega),hv,if_neg (by decide),g2,if_neg (by decide),hp]
 show (if q.size < q.size then _ else boundY _ (altY [_])) = _
 rw [if_neg (Nat.lt_irrefl _)]
 exact hbound
end Go.Proofs.YtbclhkogjmmgnaaGreatDoor
