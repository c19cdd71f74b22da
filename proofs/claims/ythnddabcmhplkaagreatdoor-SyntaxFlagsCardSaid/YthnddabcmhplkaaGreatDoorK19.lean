/- Texts merged by program. No condition. -/
import Derived.Test.YthnddabcmhplkaaGreatDoorK14
import Derived.Lib.TrimU
set_option maxHeartbeats 800000
set_option maxRecDepth 100000
set_option linter.unusedVariables false
namespace Go.Proofs.YthnddabcmhplkaaGreatDoor
open Go Go.RowKit
theorem head_of (s : ByteArray) (h : 0 < s.size) : s.toList.head? = some s[0] := by
 rw [Lib.toList_data]
 obtain ⟨⟨l⟩⟩ := s
 cases l with
 | nil => exact absurd h (by decide)
 | cons x l => rfl
theorem tail_of (s : ByteArray) : (s.extract 1 s.size).toList = s.toList.tail := by
 rw [Lib.extract_toList,Lib.toList_data,Lib.size_eq,List.drop_one]
 exact List.take_of_length_le (by rw [List.length_tail];exact Nat.le_refl _)
theorem empty_of (s : ByteArray) (h : ¬ 0 < s.size) : s.toList = [] := by
 rw [Lib.toList_data]
 exact List.length_eq_zero_iff.1 (by rw [← Lib.size_eq];omega)
inductive EscR where
 | esc (k r : Int) (l : List (Int × Int)) (a : Int) (n : Nat)
 | bad (c : Int) (till : Nat)
def escC (s : ByteArray) (c : Int) (b : Nat) (p : Bool) : EscR :=
 if signI c = true then .esc 1 c [] 0 b else if 0 ≤ letterI c then .esc 1 (letterI c) [] 0 b else
 if c = 120 then (match numberS s b with
  | none => .bad 61 b
  | some (v,k) => .esc 1 v [] 0 k)
 else if c = 112 ∨ c = 80 then (match propS s b with
  | none => .bad 61 b
  | some (nm,k) => match propR nm (decide (c = 80)) with
   | none => .bad 63 k
   | some l => .esc 2 0 l 0 k)
 else match perlsR c with
  | none => .bad 61 b
  | some (k,l,a) => if p = true then .esc k 0 l a b else .bad 61 b
def escS (s : ByteArray) (i : Nat) (p : Bool) : EscR :=
 if ¬ headI (leftB s i) = 92 then .bad 1 i else if i + 1 = s.size then .bad 62 (i + 1) else escC s ((Utf8.decode s (i + 1)).1 : Nat) (i + 1 + (Utf8.decode s (i + 1)).2) p
def EscPost (R : EscR) (i : Nat) (w : World) (e : Ending) (w' : World) : Prop :=
 Below w.heap.size w w' ∧ match R with
  | .esc k r l a n => ∃ v,e = .returned (.tuple #[escV k r v a,.int .i64 (n : Int),wrongV 0 0 0]) ∧ OwnR w' w.heap.size v l
  | .bad c till => e = .returned (.tuple #[escV 0 0 (.slice none 0 0) 0,.int .i64 0,wrongV c i till])
theorem both_whole {W : World} {a b : Nat} {x0 x1 x2 x3 y0 y1 y2 u0 u1 u2 u3 v0 v1 v2 : Value} (hE : Whole W a 115 #[x0,x1,x2,x3]) (hF : Whole W b 32 #[y0,y1,y2]) (hab : a ≠ b) :
  Whole (set3 (set4 W a u0 u1 u2 u3) b v0 v1 v2) a 115 #[u0,u1,u2,u3] ∧ Whole (set3 (set4 W a u0 u1 u2 u3) b v0 v1 v2) b 32 #[v0,v1,v2] :=
 ⟨(set3_other hab _ _ _).trans (set4_whole hE _ _ _ _),set3_whole ((set4_other (Ne.symm hab) _ _ _ _).trans hF) _ _ _⟩
def oneS (s : ByteArray) (i : Nat) (p : Bool) : EscR :=
 if headI (leftB s i) = 92 then escS s i p else .esc 1 ((Utf8.decode s i).1 : Nat) [] 0 (i + (Utf8.decode s i).2)
inductive ItemR where
 | item (l : List (Int × Int)) (n : Nat)
 | bad (c : Int) (a b : Nat)
def rangeS (s : ByteArray) (i : Nat) (r : Int) (n : Nat) (p : Bool) : ItemR :=
 if headI (leftB s n) = 45 ∧ 0 ≤ headI (leftB s (n + 1)) ∧ headI (leftB s (n + 1)) ≠ 93 then
  match oneS s (n + 1) p with
  | .bad c till => .bad c (n + 1) till
  | .esc k r2 _ _ n2 => if k ≠ 1 ∨ r2 < r then .bad 72 i n2 else .item [(r,r2)] n2
 else .item [(r,r)] n
def itemS (s : ByteArray) (i : Nat) (p : Bool) : ItemR :=
 match colS s i with
 | some k => (match posixR ((leftB s (i + 2)).take (k - (i + 2))) with
  | none => .bad 72 i (k + 2)
  | some l => .item l (k + 2))
 | none => match oneS s i p with
  | .bad c till => .bad c i till
  | .esc k r l a n => if k = 2 then .item l n else if k ≠ 1 then .bad 72 i n else rangeS s i r n p
def itemsS (s : ByteArray) (at' : Nat) (p : Bool) : Nat → Nat → Bool → List (Int × Int) → ItemR
 | 0,_,_,_ => .bad 71 at' s.size
 | m + 1,i,first,all =>
  if s.size ≤ i then .bad 71 at' s.size else
  if headI (leftB s i) = 93 ∧ first = false then .item all (i + 1) else
  match itemS s i p with
  | .bad c a b => .bad c a b
  | .item l n => itemsS s at' p m n false (all ++ l)
def notB (s : ByteArray) (i : Nat) : Bool := decide (headI (leftB s (i + 1)) = 94)
def classS (s : ByteArray) (i : Nat) (p : Bool) : ItemR :=
 if ¬ headI (leftB s i) = 91 then .bad 1 i i else itemsS s i p (s.size + 1) (i + 1 + (if notB s i then 1 else 0)) true []
def FoldHas (fold : Bool) (all : List (Int × Int)) (c : Int) : Prop := if fold = true then ∃ d,HasR all d ∧ c ∈ orbR d else HasR all c
def ClassHas (fold not' : Bool) (all : List (Int × Int)) (c : Int) : Prop := if not' = true then 0 ≤ c ∧ c ≤ 1114111 ∧ ¬ FoldHas fold all c else FoldHas fold all c
theorem number_ok {s : ByteArray} {b k : Nat} {v : Int} (h : numberS s b = some (v,k)) : b < k ∧ k ≤ s.size ∧ 0 ≤ v ∧ v ≤ 1114111 := by
 unfold numberS at h
 split at h
 ·rename_i h1
  have h2 : 0 ≤ headI (leftB s (b + 1)) := by
   have := h1.2
   unfold hexI at this
   repeat' split at this
   all_goals omega
  have h3 := head_in h2
  have h4 := hexI_hi (headI (leftB s b))
  have h5 := hexI_hi (headI (leftB s (b + 1)))
  cases h
  omega
 ·split at h
  ·cases h
  ·split at h
   ·cases h
   ·split at h
    ·cases h
    ·split at h
     ·cases h
     ·rename_i h1 h2 h3 h4 h5
      have h6 := hexs_low (leftB s (b + 1)) 0 (by omega)
      have h7 : headI (leftB s (b + 1 + (hexsFrom (leftB s (b + 1)) 0).2)) = 125 := Classical.not_not.1 h4
      have h8 := head_in (s := s) (i := b + 1 + (hexsFrom (leftB s (b + 1)) 0).2) (by omega)
      cases h
      omega
theorem prop_ok {s : ByteArray} {b k : Nat} {nm : List UInt8} (h : propS s b = some (nm,k)) : b < k ∧ k ≤ s.size := by
 unfold propS at h
 split at h
 ·cases h
 ·rename_i h0
  have hb : b < s.size := by omega
  have h1 := decode_width s b hb
  have h2 := decode_some s b hb
  split at h
  ·cases h
   omega
  ·split at h
   ·cases h
    omega
   ·cases h
def EscOk (s : ByteArray) (i : Nat) : EscR → Prop
 | .esc _ r l _ n => i < n ∧ n ≤ s.size ∧ 0 ≤ r ∧ r ≤ 1114111 ∧ RightR l
 | .bad c _ => 0 < c
theorem escC_ok (s : ByteArray) (i : Nat) (c : Int) (b : Nat) (p : Bool) (hi : i < b) (hb : b ≤ s.size) (h0 : 0 ≤ c) (h1 : c ≤ 1114111) : EscOk s i (escC s c b p) := by
 unfold escC
 split
 ·exact ⟨hi,hb,h0,h1,trivial⟩
 split
 ·rename_i hl
  refine ⟨hi,hb,hl,?_,trivial⟩
  unfold letterI
  repeat' split
  all_goals omega
 split
 ·split
  ·exact (by decide : (0 : Int) < 61)
  ·rename_i v k hn
   obtain ⟨a1,a2,a3,a4⟩ := number_ok hn
   exact ⟨by omega,a2,a3,a4,trivial⟩
 split
 ·split
  ·exact (by decide : (0 : Int) < 61)
  ·rename_i nm k hn
   obtain ⟨a1,a2⟩ := prop_ok hn
   split
   ·exact (by decide : (0 : Int) < 63)
   ·rename_i l hl
    exact ⟨by omega,a2,by decide,by decide,prop_right hl⟩
 split
 ·exact (by decide : (0 : Int) < 61)
 ·rename_i k l a hl
  split
  ·refine ⟨hi,hb,by decide,by decide,?_⟩
   unfold perlsR at hl
   split at hl
   ·cases hl;trivial
   split at hl
   ·cases hl;trivial
   split at hl
   ·cases hl
   split at hl
   ·cases hl
   ·rename_i l' hl'
    cases hl
    exact perl_right hl'
  ·exact (by decide : (0 : Int) < 61)
theorem escS_ok (s : ByteArray) (i : Nat) (p : Bool) (h : i < s.size) : EscOk s i (escS s i p) := by
 unfold escS
 split
 ·exact (by decide : (0 : Int) < 1)
 split
 ·exact (by decide : (0 : Int) < 62)
 ·have h1 : i + 1 < s.size := by omega
  have h2 := decode_width s (i + 1) h1
  have h3 := Lib.rune_le s (i + 1)
  exact escC_ok s i _ _ p (by omega) h2 (by omega) (by omega)
theorem oneS_ok (s : ByteArray) (i : Nat) (p : Bool) (h : i < s.size) : EscOk s i (oneS s i p) := by
 unfold oneS
 split
 ·exact escS_ok s i p h
 ·have h2 := decode_width s i h
  have h3 := Lib.rune_le s i
  have h4 := decode_some s i h
  exact ⟨by omega,h2,by omega,by omega,trivial⟩
def ItemOk (s : ByteArray) (i : Nat) : ItemR → Prop
 | .item l n => i < n ∧ n ≤ s.size ∧ RightR l
 | .bad c _ _ => 0 < c
theorem right_one (a b : Int) (h0 : 0 ≤ a) (h1 : a ≤ b) (h2 : b ≤ 1114111) : RightR [(a,b)] := ⟨h0,h1,h2,trivial⟩
theorem rangeS_ok (s : ByteArray) (i : Nat) (r : Int) (n : Nat) (p : Bool) (hi : i < n) (hn : n ≤ s.size) (h0 : 0 ≤ r) (h1 : r ≤ 1114111) : ItemOk s i (rangeS s i r n p) := by
 unfold rangeS
 split
 ·rename_i h
  have hlt := head_in h.2.1
  have hk := oneS_ok s (n + 1) p hlt
  split
  ·rename_i c till he
   rw [he] at hk
   exact hk
  ·rename_i k r2 l a n2 he
   rw [he] at hk
   obtain ⟨a1,a2,a3,a4,-⟩ := hk
   split
   ·exact (by decide : (0 : Int) < 72)
   ·rename_i hr
    exact ⟨by omega,a2,right_one r r2 h0 (by omega) a4⟩
 ·exact ⟨hi,hn,right_one r r h0 (Int.le_refl _) h1⟩
theorem itemS_ok (s : ByteArray) (i : Nat) (p : Bool) (h : i < s.size) : ItemOk s i (itemS s i p) := by
 unfold itemS
 split
 ·rename_i k hk
  have := colS_le hk
  split
  ·exact (by decide : (0 : Int) < 72)
  ·rename_i l hl
   exact ⟨by omega,by omega,posix_right hl⟩
 ·have hk := oneS_ok s i p h
  split
  ·rename_i c till he
   rw [he] at hk
   exact hk
  ·rename_i k r l a n he
   rw [he] at hk
   obtain ⟨a1,a2,a3,a4,a5⟩ := hk
   split
   ·exact ⟨a1,a2,a5⟩
   split
   ·exact (by decide : (0 : Int) < 72)
   ·exact rangeS_ok s i r n p a1 a2 a3 a4
def ClassPost (R : ItemR) (fold not' : Bool) (w : World) (e : Ending) (w' : World) : Prop :=
 Below w.heap.size w w' ∧ match R with
  | .item all n => ∃ v l,e = .returned (.tuple #[v,.int .i64 (n : Int),wrongV 0 0 0]) ∧ OwnR w' w.heap.size v l ∧ RightR l ∧ ∀ c,HasR l c ↔ ClassHas fold not' all c
  | .bad c a b => e = .returned (.tuple #[.slice none 0 0,.int .i64 0,wrongV c a b])
def letL : List UInt8 := [97,98,99,100,101,102,103,104,105,106,107,108,109,110,111,112,113,114,115,116,117,118,119,120,121,122,94]
theorem let_mem (c : UInt8) : letL.contains c = decide ((97 ≤ c.toNat ∧ c.toNat ≤ 122) ∨ c.toNat = 94) := by
 have h : ∀ n : Fin 256,letL.contains (UInt8.ofFin n) = decide ((97 ≤ n.val ∧ n.val ≤ 122) ∨ n.val = 94) := by decide
 exact h c.toFin
theorem trim_letters : ∀ l : List UInt8,(Lib.trimLeftS l letL).length + colN l = l.length
 | [] => rfl
 | c :: t => by
  have h := trim_letters t
  unfold Lib.trimLeftS at h ⊢
  unfold colN
  rw [List.dropWhile_cons,let_mem]
  by_cases hc : (97 ≤ c.toNat ∧ c.toNat ≤ 122) ∨ c.toNat = 94
  ·rw [if_pos hc,decide_eq_true hc,if_pos rfl]
   simp only [List.length_cons]
   omega
  ·rw [if_neg hc,decide_eq_false hc,if_neg (by decide)]
   simp
theorem trim_any (u : ByteArray) (w : World) : Calls Tryz.prog 140 #[.string u,.string ⟨#[97,98,99,100,101,102,103,104,105,106,107,108,109,110,111,112,113,114,115,116,117,118,119,120,121,122,94]⟩] w
  fun e w' => ∃ x : ByteArray,e = .returned (.string x) ∧ x.size + colN u.toList = u.size ∧ Below w.heap.size w w' := by
 refine (Any.strings_TrimLeft_laid Tryz.lays161 (by kernel_rfl) u ⟨#[97,98,99,100,101,102,103,104,105,106,107,108,109,110,111,112,113,114,115,116,117,118,119,120,121,122,94]⟩ w (by decide) (ascii_of_all (by decide))).mono ?_
 rintro e w' ⟨rfl,hb⟩
 refine ⟨_,rfl,?_,hb⟩
 have h := trim_letters u.data.toList
 rw [Lib.toList_data]
 have h2 : (⟨(Lib.trimLeftS u.data.toList letL).toArray⟩ : ByteArray).size = (Lib.trimLeftS u.data.toList letL).length := by simp [ByteArray.size]
 have h3 : u.data.toList.length = u.size := (Lib.size_eq u).symm
 show (⟨(Lib.trimLeftS u.data.toList letL).toArray⟩ : ByteArray).size + colN u.data.toList = u.size
 omega
def SomePost (q : Nat) (t : TypeId) (r : List Value) (s : ByteArray) (i : Nat) (w : World) (e : Ending) (w' : World) : Prop :=
 ∃ x : ByteArray,e = .returned (.string x) ∧ x.toList = (leftB s i).take (colN (leftB s i)) ∧ Took q t r s (i + colN (leftB s i)) w w'
theorem pbSome_any (q : Nat) (t : TypeId) (r : List Value) (s : ByteArray) (i : Nat) (w : World) (hs : s.size ≤ 4503599627370496) (hi : i ≤ s.size) (h : RdIn w q t r s i) :
  Calls Tryz.prog 119 #[.pointer (some ⟨q,0,none⟩),.string ⟨#[97,98,99,100,101,102,103,104,105,106,107,108,109,110,111,112,113,114,115,116,117,118,119,120,121,122,94]⟩] w (SomePost q t r s i w) := by
 have hL := pbLeft_any q t r s i w hi h
 have hn := colN_le (leftB s i)
 have hul := left_length s i
 unfold SomePost
 have hu1 : (s.extract i s.size).toList = leftB s i := extract_whole s i
 obtain ⟨u,hu⟩ : ∃ u,s.extract i s.size = u := ⟨_,rfl⟩
 rw [hu] at hL hu1
 have hus : u.size = s.size - i := by rw [Lib.size_eq,← Lib.toList_data,hu1];exact hul
 have hX := trim_any u
 rw [hu1] at hX
 have hx0 : (u.extract 0 (colN (leftB s i))).toList = (leftB s i).take (colN (leftB s i)) := by
  rw [extract_left6]
  unfold leftB
  rw [List.drop_zero,hu1]
  rfl
 obtain ⟨n,hn'⟩ : ∃ n,colN (leftB s i) = n := ⟨_,rfl⟩
 rw [hn'] at hn hX hx0 ⊢
 rw [hul] at hn
 have HL := Hd hL;have HH := Hd h;have HX := Hd hX;have H0 := Hd hx0
 have hsz : (u.extract 0 n).size = n := by simp;omega
 obtain ⟨z,hz⟩ : ∃ z,u.extract 0 n = z := ⟨_,rfl⟩
 rw [hz] at H0 hsz
 have HZ := Hd hz;have HSZ := Hd hsz;have HUS := Hd hus
 clear h hL hX hx0 hz hu hu1 hul hn' hsz hus
 have y2 : (i : Int) ≤ (s.size : Int) := by omega
 have y3 : IntKind.i64.wrap ((i : Int) + (n : Int)) = (i : Int) + (n : Int) := wrap_in _ (by omega)
 go_enter Tryz.func119,Tryz.ntmps119
 go_wp2_with fail
 refine HL.out.mono ?_
 rintro e w1 ⟨rfl,k,rfl⟩
 go_wp2_with fail
 refine (HX.out _).mono ?_
 rintro e w2 ⟨x,rfl,hxs,hb2⟩
 have HR2 := Hd ((HH.out.drewN k).below hb2);have HG2 := Hd (tk_trans (tk_drewN w k (some q)) (tk_below hb2 _));have c1 := HR2.out.c1;have f1 := HR2.out.f1
 have hus := HUS.out
 have x1 : IntKind.i64.wrap ((u.size : Int) - (x.size : Int)) = (n : Int) := by rw [wrap_in _ (by omega)];omega
 have x2 : (n : Int) ≤ (u.size : Int) := by omega
 clear hb2 hxs hus
 go_upto_region 3 with (fail)
 rw [HZ.out]
 have hsz2 : (z.size : Int) = (n : Int) := by rw [HSZ.out]
 go_wp2
 go_ret
 exact ⟨z,rfl,H0.out,tk_trans HG2.out (tk_set _ _ _ _),HR2.out.put _ _ (by rfl)⟩
def dashB (s : ByteArray) (i : Nat) : Bool := decide (headI (leftB s i) = 45 ∧ 0 ≤ headI (leftB s (i + 1)) ∧ headI (leftB s (i + 1)) ≠ 93)
def DashPost (q : Nat) (t : TypeId) (r : List Value) (s : ByteArray) (i : Nat) (w : World) (e : Ending) (w' : World) : Prop :=
 e = .returned (.bool (dashB s i)) ∧ Took q t r s (if dashB s i = true then i + 1 else i) w w'
theorem cut_dash (s : ByteArray) (i : Nat) (w : World) : Calls Tryz.prog 122 #[.string (s.extract i s.size),.string ⟨#[45]⟩] w
  fun e w' => (∃ x : ByteArray,e = .returned (.tuple #[.string x,.bool (decide (headI (leftB s i) = 45))]) ∧ (headI (leftB s i) = 45 → x.toList = leftB s (i + 1))) ∧ w' = w := by
 refine (Tryz.strings_CutPrefix (s.extract i s.size) ⟨#[45]⟩ w).mono ?_
 rintro e w' ⟨rfl,rfl⟩
 refine ⟨⟨_,by rw [pre_left,show (⟨#[45]⟩ : ByteArray).toList = [45] by kernel_rfl,pre_one];rfl,fun h => ?_⟩,rfl⟩
 have hp : Lib.hasPrefix (s.extract i s.size).data.toList (⟨#[45]⟩ : ByteArray).data.toList = true := by
  rw [pre_left,show (⟨#[45]⟩ : ByteArray).toList = [45] by kernel_rfl,pre_one,h]
  rfl
 unfold Lib.trimPrefix
 rw [if_pos hp,Lib.toList_data]
 show ((s.extract i s.size).data.toList.drop 1) = _
 rw [← Lib.toList_data,extract_whole,left_drop]
theorem pbDash_any (q : Nat) (t : TypeId) (r : List Value) (s : ByteArray) (i : Nat) (w : World) (hs : s.size ≤ 4503599627370496) (hi : i ≤ s.size) (h : RdIn w q t r s i) :
  Calls Tryz.prog 106 #[.pointer (some ⟨q,0,none⟩)] w (DashPost q t r s i w) := by
 have HL := Hd (pbLeft_any q t r s i w hi h);have HH := Hd h
 have HT := Hd (fun W (h : RdIn W q t r s i) => pbTake_any q t r s ⟨#[45]⟩ i W hs (by decide) hi h)
 have HC := Hd (fun W => cut_dash s i W)
 have hD : dashB s i = dashB s i := rfl
 have hh : decide (headI (leftB s i) = 45) = preB [45] (leftB s i) := (pre_one 45 s i).symm
 clear h
 by_cases h45 : headI (leftB s i) = 45
 ·have e1 : decide (headI (leftB s i) = 45) = true := decide_eq_true h45
  have HPR := Hd (show preB (⟨#[45]⟩ : ByteArray).toList (leftB s i) = true by rw [show (⟨#[45]⟩ : ByteArray).toList = [45] by kernel_rfl];exact hh.symm.trans e1)
  have HX := Hd h45
  by_cases hlt : i + 1 < s.size
  ·have g1 := head_at s (i + 1) hlt
   by_cases h93 : (s[i + 1].toNat : Int) = 93
   ·have HF := Hd (hD.symm.trans (decide_eq_false (fun h => h.2.2 (g1.trans h93))))
    have HG := Hd (g1.trans h93)
    rw [e1] at HC
    clear hD hh h45 e1 g1 h93
    go_enter Tryz.func106,Tryz.ntmps106
    go_wp2_with fail
    refine HL.out.mono ?_
    rintro e w1 ⟨rfl,k,rfl⟩
    go_wp2_with fail
    refine (HC.out _).mono ?_
    rintro e w2 ⟨⟨x,rfl,hx⟩,rfl⟩
    have hx := hx HX.out
    have hxs : x.size = s.size - (i + 1) := by rw [Lib.size_eq,← Lib.toList_data,hx];exact left_length s (i + 1)
    have hx0 : 0 < x.size := by omega
    have g2 := head_at x 0 hx0
    have hl0 : leftB x 0 = leftB s (i + 1) := by unfold leftB;rw [List.drop_zero,hx];rfl
    rw [hl0,HG.out] at g2
    have b0 := eq_true_of g2.symm
    have hemp : x.toList.isEmpty = false := by
     cases hxx : x.toList with
     | nil => rw [Lib.size_eq,← Lib.toList_data,hxx] at hx0;simp at hx0
     | cons _ _ => rfl
    clear hx hxs g2 hl0
    go_wp2
    go_ret
    unfold DashPost
    rw [HF.out]
    exact ⟨rfl,tk_drewN _ _ _,HH.out.drewN _⟩
   ·have HF := Hd (hD.symm.trans (decide_eq_true ⟨h45,by rw [g1];omega,by rw [g1];exact h93⟩))
    have HG := Hd g1
    have HN := Hd h93
    rw [e1] at HC
    clear hD hh h45 e1 g1 h93
    go_enter Tryz.func106,Tryz.ntmps106
    go_wp2_with fail
    refine HL.out.mono ?_
    rintro e w1 ⟨rfl,k,rfl⟩
    go_wp2_with fail
    refine (HC.out _).mono ?_
    rintro e w2 ⟨⟨x,rfl,hx⟩,rfl⟩
    have hx := hx HX.out
    have hxs : x.size = s.size - (i + 1) := by rw [Lib.size_eq,← Lib.toList_data,hx];exact left_length s (i + 1)
    have hx0 : 0 < x.size := by omega
    have g2 := head_at x 0 hx0
    have hl0 : leftB x 0 = leftB s (i + 1) := by unfold leftB;rw [List.drop_zero,hx];rfl
    rw [hl0,HG.out] at g2
    have b0 := eq_false_of (fun e => HN.out (g2.trans e))
    have hemp : x.toList.isEmpty = false := by
     cases hxx : x.toList with
     | nil => rw [Lib.size_eq,← Lib.toList_data,hxx] at hx0;simp at hx0
     | cons _ _ => rfl
    clear hx hxs g2 hl0
    go_wp2_with fail
    refine (HT.out _ (HH.out.drewN _)).mono ?_
    rintro e w3 ⟨b,hb,rfl,htk⟩
    have hb2 : b = true := hb.symm.trans HPR.out
    subst hb2
    rw [if_pos rfl] at htk
    have HTK := Hd htk
    clear hb htk
    go_wp2
    go_ret
    unfold DashPost
    rw [HF.out,if_pos rfl]
    exact ⟨rfl,tk_trans (tk_drewN _ _ _) HTK.out.1,HTK.out.2⟩
  ·have HF := Hd (hD.symm.trans (decide_eq_false (fun h => hlt (head_in h.2.1))))
   rw [e1] at HC
   clear hD hh h45 e1
   go_enter Tryz.func106,Tryz.ntmps106
   go_wp2_with fail
   refine HL.out.mono ?_
   rintro e w1 ⟨rfl,k,rfl⟩
   go_wp2_with fail
   refine (HC.out _).mono ?_
   rintro e w2 ⟨⟨x,rfl,hx⟩,rfl⟩
   have hx := hx HX.out
   have hxs : x.size = s.size - (i + 1) := by rw [Lib.size_eq,← Lib.toList_data,hx];exact left_length s (i + 1)
   have hx0 : x = ⟨#[]⟩ := by
    have h0 : x.data.toList.length = 0 := by rw [← Lib.size_eq];omega
    obtain ⟨⟨l⟩⟩ := x
    simp at h0
    subst h0
    rfl
   subst hx0
   clear hx hxs
   go_wp2
   go_ret
   unfold DashPost
   rw [HF.out]
   exact ⟨rfl,tk_drewN _ _ _,HH.out.drewN _⟩
 ·have e1 : decide (headI (leftB s i) = 45) = false := decide_eq_false h45
  have HF := Hd (hD.symm.trans (decide_eq_false (fun h => h45 h.1)))
  rw [e1] at HC
  clear hD hh h45 e1
  go_enter Tryz.func106,Tryz.ntmps106
  go_wp2_with fail
  refine HL.out.mono ?_
  rintro e w1 ⟨rfl,k,rfl⟩
  go_wp2_with fail
  refine (HC.out _).mono ?_
  rintro e w2 ⟨⟨x,rfl,hx⟩,rfl⟩
  clear hx
  go_wp2
  go_ret
  unfold DashPost
  rw [HF.out]
  exact ⟨rfl,tk_drewN _ _ _,HH.out.drewN _⟩
theorem pbRefuse_any (q : Nat) (t : TypeId) (r : List Value) (s : ByteArray) (i b : Nat) (w : World) (h : RdIn w q t r s i) :
  Calls Tryz.prog 107 #[.pointer (some ⟨q,0,none⟩),.int .i64 (b : Int)] w fun e w' => e = thrown (.iface 32 (wrongV 72 b i)) ∧ w' = w := by
 have c1 := h.c1
 clear h
 go_enter Tryz.func107,Tryz.ntmps107
 go_wp2
 exact ⟨rfl,rfl,rfl⟩
theorem i32_of {a : Int} (h0 : 0 ≤ a) (h1 : a ≤ 1114111) : I32 a := ⟨by omega,by omega⟩
theorem not_few : ∀ (l : List (Int × Int)) (f : Int),(notFrom f l).length ≤ l.length + 1
 | [],f => by unfold notFrom;split <;> simp
 | r :: l,f => by
  have h := not_few l (r.2 + 1)
  unfold notFrom
  split <;> simp <;> omega
theorem notR_few {l : List (Int × Int)} {n : Nat} (h : l.length ≤ n) : (notR l).length ≤ n + 1 := Nat.le_trans (not_few l 0) (by omega)
theorem if_few {P : Prop} [Decidable P] {k : List (Int × Int)} {o : Option (List (Int × Int))} {l : List (Int × Int)} {n : Nat} (hk : k.length ≤ n) (ho : o = some l → l.length ≤ n) (h : (if P then some k else o) = some l) : l.length ≤ n := by
 by_cases hP : P
 ·rw [if_pos hP] at h
  cases h
  exact hk
 ·rw [if_neg hP] at h
  exact ho h
theorem some_few {l k : List (Int × Int)} {n : Nat} (hk : k.length ≤ n) (h : some k = some l) : l.length ≤ n := by
 cases h
 exact hk
theorem plain_few {b : List UInt8} {l : List (Int × Int)} (h : plainR b = some l) : l.length ≤ 5 := by
 unfold plainR at h
 revert h
 repeat (refine if_few (by decide) ?_)
 exact fun h => nomatch h
theorem name_few {b : List UInt8} {l : List (Int × Int)} (h : nameR b = some l) : l.length ≤ 15 := by
 unfold nameR at h
 revert h
 repeat (refine if_few (by decide) ?_)
 exact fun h => nomatch h
theorem posix_few {b : List UInt8} {l : List (Int × Int)} (h : posixR b = some l) : l.length ≤ 17 := by
 unfold posixR at h
 split at h
 ·obtain ⟨k,hk,rfl⟩ := Option.map_eq_some_iff.1 h
  exact Nat.le_trans (notR_few (plain_few hk)) (by decide)
 ·exact Nat.le_trans (plain_few h) (by decide)
theorem property1_few {b : List UInt8} {l : List (Int × Int)} (h : property1 b = some l) : l.length ≤ 15 := by
 unfold property1 at h
 split at h
 ·exact some_few (by decide) h
 ·exact name_few h
theorem property2_few {b : List UInt8} {n : Bool} {l : List (Int × Int)} (h : property2 b n = some l) : l.length ≤ 16 := by
 unfold property2 at h
 split at h
 ·obtain ⟨k,hk,rfl⟩ := Option.map_eq_some_iff.1 h
  exact notR_few (property1_few hk)
 ·exact Nat.le_trans (property1_few h) (by decide)
theorem prop_few {b : List UInt8} {n : Bool} {l : List (Int × Int)} (h : propR b n = some l) : l.length ≤ 17 := by
 unfold propR at h
 split at h <;> exact Nat.le_trans (property2_few h) (by decide)
theorem perl_few {c : Int} {l : List (Int × Int)} (h : perlR c = some l) : l.length ≤ 17 := by
 unfold perlR at h
 revert h
 repeat (refine if_few (by decide) ?_)
 exact fun h => nomatch h
theorem perls_few {c k a : Int} {l : List (Int × Int)} (h : perlsR c = some (k,l,a)) : l.length ≤ 17 := by
 unfold perlsR at h
 split at h
 ·cases h;decide
 split at h
 ·cases h;decide
 split at h
 ·cases h
 split at h
 ·cases h
 ·rename_i l' hl'
  cases h
  exact perl_few hl'
theorem escS_few {s : ByteArray} {i n : Nat} {p : Bool} {k r a : Int} {l : List (Int × Int)} (h : escS s i p = .esc k r l a n) : l.length ≤ 17 := by
 unfold escS at h
 split at h
 ·cases h
 split at h
 ·cases h
 unfold escC at h
 split at h
 ·cases h;decide
 split at h
 ·cases h;decide
 split at h
 ·split at h
  ·cases h
  ·cases h;decide
 split at h
 ·split at h
  ·cases h
  ·split at h
   ·cases h
   ·rename_i hl
    cases h
    exact prop_few hl
 split at h
 ·cases h
 ·rename_i hl
  split at h
  ·cases h
   exact perls_few hl
  ·cases h
theorem oneS_few {s : ByteArray} {i n : Nat} {p : Bool} {k r a : Int} {l : List (Int × Int)} (h : oneS s i p = .esc k r l a n) : l.length ≤ 17 := by
 unfold oneS at h
 split at h
 ·exact escS_few h
 ·cases h;decide
theorem rangeS_few {s : ByteArray} {i n m : Nat} {p : Bool} {r : Int} {l : List (Int × Int)} (h : rangeS s i r n p = .item l m) : l.length ≤ 17 := by
 unfold rangeS at h
 split at h
 ·split at h
  ·cases h
  ·split at h
   ·cases h
   ·cases h;exact Nat.le_add_left 1 16
 ·cases h;exact Nat.le_add_left 1 16
theorem itemS_few {s : ByteArray} {i n : Nat} {p : Bool} {l : List (Int × Int)} (h : itemS s i p = .item l n) : l.length ≤ 17 := by
 unfold itemS at h
 split at h
 ·split at h
  ·cases h
  ·rename_i hl
   cases h
   exact posix_few hl
 ·split at h
  ·cases h
  ·rename_i he
   split at h
   ·cases h
    exact oneS_few he
   split at h
   ·cases h
   ·exact rangeS_few h
def flagB (f : Int) (k : Int) : Bool := bits .and .i64 f k != 0
theorem fold_same {l k : List (Int × Int)} (h : ∀ c,HasR k c ↔ HasR l c) (c : Int) : FoldP k c ↔ FoldP l c := exists_congr fun d => and_congr_left fun _ => h d
end Go.Proofs.YthnddabcmhplkaaGreatDoor
namespace Go.Proofs.YthnddabcmhplkaaGreatDoor
open Go Go.RowKit
structure Shift (s t : ByteArray) (d i0 : Nat) : Prop where
 left : ∀ i,i0 ≤ i → leftB t (i + d) = leftB s i
 size : t.size = s.size + d
variable {s t : ByteArray} {d i0 : Nat}
theorem Shift.at1 (h : Shift s t d i0) (i : Nat) (hi : i0 ≤ i) : leftB t (i + d + 1) = leftB s (i + 1) := by
 rw [show i + d + 1 = i + 1 + d by omega]
 exact h.left _ (by omega)
theorem Shift.plus (h : Shift s t d i0) (i k : Nat) (hi : i0 ≤ i) : leftB t (i + d + k) = leftB s (i + k) := by
 rw [show i + d + k = i + k + d by omega]
 exact h.left _ (by omega)
theorem Shift.plus2 (h : Shift s t d i0) (i k j : Nat) (hi : i0 ≤ i) : leftB t (i + d + k + j) = leftB s (i + k + j) := by
 rw [show i + d + k + j = i + k + j + d by omega]
 exact h.left _ (by omega)
theorem bytes_same {a b : ByteArray} (h : a.toList = b.toList) : a = b := by
 rw [Lib.toList_data,Lib.toList_data] at h
 obtain ⟨⟨a⟩⟩ := a
 obtain ⟨⟨b⟩⟩ := b
 simp only at h
 rw [h]
theorem Shift.decode (h : Shift s t d i0) (i : Nat) (hi : i0 ≤ i) (hs : i < s.size) : Utf8.decode t (i + d) = Utf8.decode s i := by
 rw [← decodeGo_extract t (i + d) (by rw [h.size];omega),← decodeGo_extract s i hs]
 congr 1
 refine bytes_same ?_
 rw [extract_left6,extract_left6,h.left i hi,h.size,show s.size + d - (i + d) = s.size - i by omega]
theorem colN_shift (h : Shift s t d i0) (i : Nat) (hi : i0 ≤ i) : colS t (i + d) = (colS s i).map (· + d) := by
 unfold colS
 rw [h.left i hi,h.at1 i hi,h.plus i 2 hi,h.plus2 i 2 _ hi,show i + d + 2 + colN (leftB s (i + 2)) + 1 = i + d + 2 + (colN (leftB s (i + 2)) + 1) by omega,h.plus2 i 2 _ hi]
 rw [show i + 2 + (colN (leftB s (i + 2)) + 1) = i + 2 + colN (leftB s (i + 2)) + 1 by omega]
 split
 ·rfl
 split
 ·simp only [Option.map_some]
  congr 1
  omega
 ·rfl
theorem number_shift (h : Shift s t d i0) (i : Nat) (hi : i0 ≤ i) : numberS t (i + d) = (numberS s i).map (fun q => (q.1,q.2 + d)) := by
 unfold numberS
 rw [h.left i hi,h.at1 i hi]
 rw [show i + d + 1 + (hexsFrom (leftB s (i + 1)) 0).2 = i + d + (1 + (hexsFrom (leftB s (i + 1)) 0).2) by omega,h.plus i _ hi]
 rw [show i + (1 + (hexsFrom (leftB s (i + 1)) 0).2) = i + 1 + (hexsFrom (leftB s (i + 1)) 0).2 by omega]
 split
 ·simp only [Option.map_some]
  congr 2
  omega
 split
 ·rfl
 split
 ·rfl
 split
 ·rfl
 split
 ·rfl
 ·simp only [Option.map_some]
  congr 2
  omega
theorem prop_shift (h : Shift s t d i0) (i : Nat) (hi : i0 ≤ i) : propS t (i + d) = (propS s i).map (fun q => (q.1,q.2 + d)) := by
 unfold propS
 by_cases hs : i < s.size
 ·rw [if_neg (show ¬ t.size ≤ i + d by rw [h.size];omega),if_neg (show ¬ s.size ≤ i by omega),h.left i hi,h.at1 i hi,h.decode i hi hs,h.size]
  split
  ·simp only [Option.map_some]
   congr 2
   omega
  ·by_cases hq : i + 1 + brN (leftB s (i + 1)) < s.size
   ·rw [if_pos (show i + d + 1 + brN (leftB s (i + 1)) < s.size + d by omega),if_pos hq]
    simp only [Option.map_some]
    congr 2
    omega
   ·rw [if_neg (show ¬ i + d + 1 + brN (leftB s (i + 1)) < s.size + d by omega),if_neg hq]
    rfl
 ·rw [if_pos (show t.size ≤ i + d by rw [h.size];omega),if_pos (show s.size ≤ i by omega)]
  rfl
def EscLike (d : Nat) : EscR → EscR → Prop
 | .esc k r l a n,R => R = .esc k r l a (n + d)
 | .bad c _,R => ∃ b,R = .bad c b
theorem escC_shift (h : Shift s t d i0) (c : Int) (b : Nat) (p : Bool) (hb : i0 ≤ b) : EscLike d (escC s c b p) (escC t c (b + d) p) := by
 unfold escC
 split
 ·rfl
 split
 ·rfl
 split
 ·rw [number_shift h b hb]
  cases numberS s b with
  | none => exact ⟨_,rfl⟩
  | some q => rfl
 split
 ·rw [prop_shift h b hb]
  cases propS s b with
  | none => exact ⟨_,rfl⟩
  | some q =>
   simp only [Option.map_some]
   cases propR q.1 (decide (c = 80)) with
   | none => exact ⟨_,rfl⟩
   | some l => rfl
 cases perlsR c with
 | none => exact ⟨_,rfl⟩
 | some q =>
  cases p
  ·exact ⟨_,rfl⟩
  ·rfl
theorem escS_shift (h : Shift s t d i0) (i : Nat) (p : Bool) (hi : i0 ≤ i) : EscLike d (escS s i p) (escS t (i + d) p) := by
 unfold escS
 rw [h.left i hi,h.size]
 by_cases h92 : headI (leftB s i) = 92
 ·have hlt := head_in (s := s) (i := i) (by omega)
  simp only [h92,not_true_eq_false,if_false]
  by_cases he : i + 1 = s.size
  ·rw [if_pos he,if_pos (show i + d + 1 = s.size + d by omega)]
   exact ⟨_,rfl⟩
  ·rw [if_neg he,if_neg (show ¬ i + d + 1 = s.size + d by omega),show i + d + 1 = i + 1 + d by omega,h.decode (i + 1) (by omega) (by omega)]
   rw [show i + 1 + d + (Utf8.decode s (i + 1)).2 = i + 1 + (Utf8.decode s (i + 1)).2 + d by omega]
   exact escC_shift h _ _ p (by omega)
 ·rw [if_pos h92,if_pos h92]
  exact ⟨_,rfl⟩
theorem oneS_shift (h : Shift s t d i0) (i : Nat) (p : Bool) (hi : i0 ≤ i) (hs : i < s.size) : EscLike d (oneS s i p) (oneS t (i + d) p) := by
 unfold oneS
 rw [h.left i hi]
 split
 ·exact escS_shift h i p hi
 ·rw [h.decode i hi hs,show i + d + (Utf8.decode s i).2 = i + (Utf8.decode s i).2 + d by omega]
  rfl
def ItemLike (d : Nat) : ItemR → ItemR → Prop
 | .item l n,R => R = .item l (n + d)
 | .bad c _ _,R => ∃ a b,R = .bad c a b
theorem rangeS_shift (h : Shift s t d i0) (i i' : Nat) (r : Int) (n : Nat) (p : Bool) (hn : i0 ≤ n) : ItemLike d (rangeS s i r n p) (rangeS t i' r (n + d) p) := by
 unfold rangeS
 rw [h.left n hn,h.at1 n hn]
 split
 ·rename_i hc
  have hlt := head_in hc.2.1
  have := oneS_shift h (n + 1) p (by omega) hlt
  rw [show n + 1 + d = n + d + 1 by omega] at this
  revert this
  cases oneS s (n + 1) p with
  | bad c b => rintro ⟨b',hb⟩;rw [hb];exact ⟨_,_,rfl⟩
  | esc k r2 l a n2 =>
   intro hb
   replace hb : oneS t (n + d + 1) p = .esc k r2 l a (n2 + d) := hb
   rw [hb]
   simp only
   split
   ·exact ⟨_,_,rfl⟩
   ·rfl
 ·rfl
theorem itemS_shift (h : Shift s t d i0) (i : Nat) (p : Bool) (hi : i0 ≤ i) (hs : i < s.size) : ItemLike d (itemS s i p) (itemS t (i + d) p) := by
 unfold itemS
 rw [colN_shift h i hi,h.plus i 2 hi]
 cases hk : colS s i with
 | some k =>
  have hk2 := colS_le hk
  simp only [Option.map_some]
  rw [show k + d - (i + d + 2) = k - (i + 2) by omega]
  cases posixR ((leftB s (i + 2)).take (k - (i + 2))) with
  | none => exact ⟨_,_,rfl⟩
  | some l => exact (show ItemR.item l (k + d + 2) = ItemR.item l (k + 2 + d) by congr 1;omega)
 | none =>
  have := oneS_shift h i p hi hs
  have hok := oneS_ok s i p hs
  revert this hok
  simp only [Option.map_none]
  cases oneS s i p with
  | bad c b => rintro ⟨b',hb⟩ -;rw [hb];exact ⟨_,_,rfl⟩
  | esc k r l a n =>
   intro hb hok
   replace hb : oneS t (i + d) p = .esc k r l a (n + d) := hb
   rw [hb]
   simp only
   obtain ⟨h1,-⟩ := hok
   split
   ·rfl
   split
   ·exact ⟨_,_,rfl⟩
   ·exact rangeS_shift h i (i + d) r n p (by omega)
theorem itemsS_shift (h : Shift s t d i0) (a a' : Nat) (p : Bool) : ∀ (m m' i : Nat) (fi : Bool) (all : List (Int × Int)),i0 ≤ i → s.size < i + m → s.size < i + m' → ItemLike d (itemsS s a p m i fi all) (itemsS t a' p m' (i + d) fi all)
 | 0,m',i,fi,all,hi,hm,hm' => by
  have hlt : s.size ≤ i := by omega
  cases m' with
  | zero => exact ⟨_,_,rfl⟩
  | succ m' =>
   rw [itemsS,itemsS,if_pos (show t.size ≤ i + d by rw [h.size];omega)]
   exact ⟨_,_,rfl⟩
 | m + 1,m',i,fi,all,hi,hm,hm' => by
  by_cases hlt : i < s.size
  ·cases m' with
   | zero => omega
   | succ m' =>
    rw [itemsS,itemsS,if_neg (show ¬ s.size ≤ i by omega),if_neg (show ¬ t.size ≤ i + d by rw [h.size];omega),h.left i hi]
    split
    ·exact (show ItemR.item all (i + d + 1) = ItemR.item all (i + 1 + d) by congr 1;omega)
    ·have := itemS_shift h i p hi hlt
     have hok := itemS_ok s i p hlt
     revert this hok
     cases itemS s i p with
     | bad c x y => rintro ⟨x',y',hb⟩ -;rw [hb];exact ⟨_,_,rfl⟩
     | item l n =>
      intro hb hok
      replace hb : itemS t (i + d) p = .item l (n + d) := hb
      rw [hb]
      obtain ⟨h1,-⟩ := hok
      exact itemsS_shift h a a' p m m' n false (all ++ l) (by omega) (by omega) (by omega)
  ·rw [itemsS,if_pos (show s.size ≤ i by omega)]
   cases m' with
   | zero => exact ⟨_,_,rfl⟩
   | succ m' =>
    rw [itemsS,if_pos (show t.size ≤ i + d by rw [h.size];omega)]
    exact ⟨_,_,rfl⟩
end Go.Proofs.YthnddabcmhplkaaGreatDoor
