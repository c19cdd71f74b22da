/- Texts merged by program. No condition. -/
import Derived.Tactics
namespace Go.Proofs.YthnddabcmhplkaaGreatDoor
def HasR (l : List (Int × Int)) (c : Int) : Prop := 0 ≤ c ∧ c ≤ 1114111 ∧ ∃ r ∈ l,r.1 ≤ c ∧ c ≤ r.2
def RightFrom : Int → List (Int × Int) → Prop
 | _,[] => True
 | lo,r :: l => lo ≤ r.1 ∧ r.1 ≤ r.2 ∧ r.2 ≤ 1114111 ∧ RightFrom (r.2 + 2) l
def RightR (l : List (Int × Int)) : Prop := RightFrom 0 l
def endOf : Int → List (Int × Int) → Int
 | lo,[] => lo
 | _,r :: l => endOf (r.2 + 2) l
theorem RightFrom.le {lo lo' : Int} : ∀ {l : List (Int × Int)},RightFrom lo l → lo' ≤ lo → RightFrom lo' l
 | [],_,_ => trivial
 | _ :: _,⟨h1,h2,h3,h4⟩,h => ⟨by omega,h2,h3,h4⟩
theorem right_append : ∀ (a b : List (Int × Int)) (lo : Int),RightFrom lo (a ++ b) ↔ RightFrom lo a ∧ RightFrom (endOf lo a) b
 | [],b,lo => by simp [RightFrom,endOf]
 | r :: a,b,lo => by
  show (_ ∧ _ ∧ _ ∧ RightFrom (r.2 + 2) (a ++ b)) ↔ (_ ∧ _ ∧ _ ∧ RightFrom (r.2 + 2) a) ∧ RightFrom (endOf (r.2 + 2) a) b
  rw [right_append a b (r.2 + 2)]
  constructor
  ·rintro ⟨h1,h2,h3,h4,h5⟩
   exact ⟨⟨h1,h2,h3,h4⟩,h5⟩
  ·rintro ⟨⟨h1,h2,h3,h4⟩,h5⟩
   exact ⟨h1,h2,h3,h4,h5⟩
theorem right_has_lo : ∀ (l : List (Int × Int)) (lo c : Int),RightFrom lo l → HasR l c → lo ≤ c
 | [],_,_,_,h => by
  obtain ⟨_,_,r,hr,_⟩ := h
  simp at hr
 | r :: l,lo,c,⟨h1,h2,_,h4⟩,⟨h5,h6,q,hq,h7,h8⟩ => by
  rcases List.mem_cons.1 hq with rfl | hq
  ·omega
  ·have := right_has_lo l (r.2 + 2) c h4 ⟨h5,h6,q,hq,h7,h8⟩
   omega
theorem has_cons (r : Int × Int) (l : List (Int × Int)) (c : Int) : HasR (r :: l) c ↔ (0 ≤ c ∧ c ≤ 1114111 ∧ r.1 ≤ c ∧ c ≤ r.2) ∨ HasR l c := by
 unfold HasR
 simp only [List.mem_cons,exists_eq_or_imp]
 constructor
 ·rintro ⟨h1,h2,h3 | h3⟩
  ·exact .inl ⟨h1,h2,h3⟩
  ·exact .inr ⟨h1,h2,h3⟩
 ·rintro (⟨h1,h2,h3⟩ | ⟨h1,h2,h3⟩)
  ·exact ⟨h1,h2,.inl h3⟩
  ·exact ⟨h1,h2,.inr h3⟩
theorem has_append (a b : List (Int × Int)) (c : Int) : HasR (a ++ b) c ↔ HasR a c ∨ HasR b c := by
 induction a with
 | nil => simp [HasR]
 | cons r a ih => rw [List.cons_append,has_cons,has_cons,ih,or_assoc]
theorem has_nil (c : Int) : ¬ HasR [] c := by simp [HasR]
theorem right_unique : ∀ (a b : List (Int × Int)) (lo : Int),0 ≤ lo → RightFrom lo a → RightFrom lo b → (∀ c,lo ≤ c → (HasR a c ↔ HasR b c)) → a = b
 | [],[],_,_,_,_,_ => rfl
 | [],r :: b,lo,h0,_,⟨h1,h2,h3,_⟩,h => by
  have := (h r.1 h1).2 ((has_cons _ _ _).2 (.inl ⟨by omega,by omega,by omega,h2⟩))
  exact absurd this (has_nil _)
 | r :: a,[],lo,h0,⟨h1,h2,h3,_⟩,_,h => by
  have := (h r.1 h1).1 ((has_cons _ _ _).2 (.inl ⟨by omega,by omega,by omega,h2⟩))
  exact absurd this (has_nil _)
 | r :: a,q :: b,lo,h0,⟨h1,h2,h3,h4⟩,⟨g1,g2,g3,g4⟩,h => by
  have e1 : r.1 = q.1 := by
   rcases Int.lt_trichotomy r.1 q.1 with hlt | he | hlt
   ·have := (h r.1 h1).1 ((has_cons _ _ _).2 (.inl ⟨by omega,by omega,by omega,h2⟩))
    rcases (has_cons _ _ _).1 this with h5 | h5
    ·omega
    ·have := right_has_lo b _ _ g4 h5
     omega
   ·exact he
   ·have := (h q.1 g1).2 ((has_cons _ _ _).2 (.inl ⟨by omega,by omega,by omega,g2⟩))
    rcases (has_cons _ _ _).1 this with h5 | h5
    ·omega
    ·have := right_has_lo a _ _ h4 h5
     omega
  have e2 : r.2 = q.2 := by
   rcases Int.lt_trichotomy r.2 q.2 with hlt | he | hlt
   ·have := (h (r.2 + 1) (by omega)).2 ((has_cons _ _ _).2 (.inl ⟨by omega,by omega,by omega,by omega⟩))
    rcases (has_cons _ _ _).1 this with h5 | h5
    ·omega
    ·have := right_has_lo a _ _ h4 h5
     omega
   ·exact he
   ·have := (h (q.2 + 1) (by omega)).1 ((has_cons _ _ _).2 (.inl ⟨by omega,by omega,by omega,by omega⟩))
    rcases (has_cons _ _ _).1 this with h5 | h5
    ·omega
    ·have := right_has_lo b _ _ g4 h5
     omega
  have e : r = q := Prod.ext e1 e2
  subst e
  have := right_unique a b (r.2 + 2) (by omega) h4 g4 fun c hc => by
   have := h c (by omega)
   rw [has_cons,has_cons] at this
   constructor
   ·intro h5
    rcases this.1 (.inr h5) with h6 | h6
    ·omega
    ·exact h6
   ·intro h5
    rcases this.2 (.inr h5) with h6 | h6
    ·omega
    ·exact h6
  rw [this]
theorem right_eq (a b : List (Int × Int)) (ha : RightR a) (hb : RightR b) (h : ∀ c,HasR a c ↔ HasR b c) : a = b :=
 right_unique a b 0 (Int.le_refl _) ha hb fun c _ => h c
def notFrom : Int → List (Int × Int) → List (Int × Int)
 | f,[] => if f ≤ 1114111 then [(f,1114111)] else []
 | f,r :: l => (if f < r.1 then [(f,r.1 - 1)] else []) ++ notFrom (r.2 + 1) l
theorem not_right : ∀ (l : List (Int × Int)) (f : Int),RightFrom f l → RightFrom f (notFrom f l)
 | [],f,_ => by
  unfold notFrom
  split
  ·exact ⟨Int.le_refl _,by assumption,Int.le_refl _,trivial⟩
  ·trivial
 | r :: l,f,⟨h1,h2,h3,h4⟩ => by
  have ih := not_right l (r.2 + 1) (h4.le (by omega))
  unfold notFrom
  split
  ·exact ⟨Int.le_refl _,by omega,by omega,ih.le (by show r.1 - 1 + 2 ≤ _;omega)⟩
  ·exact ih.le (by omega)
theorem not_has : ∀ (l : List (Int × Int)) (f c : Int),0 ≤ f → RightFrom f l → (HasR (notFrom f l) c ↔ f ≤ c ∧ c ≤ 1114111 ∧ ¬ HasR l c)
 | [],f,c,h0,_ => by
  unfold notFrom
  split
  ·rw [has_cons]
   have := has_nil c
   constructor
   ·rintro (h | h)
    ·exact ⟨h.2.2.1,h.2.1,this⟩
    ·exact absurd h this
   ·rintro ⟨h1,h2,_⟩
    exact .inl ⟨by omega,h2,h1,h2⟩
  ·constructor
   ·intro h
    exact absurd h (has_nil c)
   ·rintro ⟨h1,h2,_⟩
    omega
 | r :: l,f,c,h0,⟨h1,h2,h3,h4⟩ => by
  have ih := not_has l (r.2 + 1) c (by omega) (h4.le (by omega))
  have hlo : HasR l c → r.2 + 2 ≤ c := right_has_lo l _ _ h4
  unfold notFrom
  rw [has_append,ih,has_cons]
  constructor
  ·rintro (h | ⟨h5,h6,h7⟩)
   ·split at h
    ·rcases (has_cons _ _ _).1 h with h | h
     ·refine ⟨h.2.2.1,h.2.1,?_⟩
      have h8 := h.2.2.2
      simp only at h8
      rintro (h9 | h9)
      ·omega
      ·have := hlo h9
       omega
     ·exact absurd h (has_nil c)
    ·exact absurd h (has_nil c)
   ·refine ⟨by omega,h6,?_⟩
    rintro (h9 | h9)
    ·omega
    ·exact h7 h9
  ·rintro ⟨h5,h6,h7⟩
   have h8 : ¬ (0 ≤ c ∧ c ≤ 1114111 ∧ r.1 ≤ c ∧ c ≤ r.2) := fun h => h7 (.inl h)
   by_cases hc : c < r.1
   ·left
    rw [if_pos (by omega)]
    exact (has_cons _ _ _).2 (.inl ⟨by omega,h6,h5,by show c ≤ r.1 - 1;omega⟩)
   ·right
    exact ⟨by omega,h6,fun h => h7 (.inr h)⟩
theorem right_len : ∀ (l : List (Int × Int)) (f : Int),f ≤ 1114112 → RightFrom f l → (l.length : Int) ≤ 1114112 - f
 | [],f,h,_ => by simp;omega
 | r :: l,f,h,⟨h1,h2,h3,h4⟩ => by
  by_cases hr : r.2 + 2 ≤ 1114112
  ·have ih := right_len l (r.2 + 2) hr h4
   simp only [List.length_cons]
   omega
  ·have : l = [] := by
    rcases l with _ | ⟨q,l⟩
    ·rfl
    ·obtain ⟨g1,g2,g3,_⟩ := h4
     omega
   subst this
   simp
   omega
def Fit (r : Int × Int) : Prop := 0 ≤ r.1 ∧ r.1 ≤ r.2 ∧ r.2 ≤ 1114111
theorem has_one (r : Int × Int) (c : Int) : HasR [r] c ↔ 0 ≤ c ∧ c ≤ 1114111 ∧ r.1 ≤ c ∧ c ≤ r.2 := by
 rw [has_cons]
 exact ⟨fun h => h.resolve_right (has_nil c),.inl⟩
theorem end_append : ∀ (o : List (Int × Int)) (p : Int × Int) (lo : Int),endOf lo (o ++ [p]) = p.2 + 2
 | [],_,_ => rfl
 | r :: o,p,_ => end_append o p (r.2 + 2)
theorem right_fit : ∀ (l : List (Int × Int)) (lo : Int),0 ≤ lo → RightFrom lo l → ∀ r ∈ l,Fit r
 | [],_,_,_,r,hr => by simp at hr
 | q :: l,lo,h0,⟨h1,h2,h3,h4⟩,r,hr => by
  rcases List.mem_cons.1 hr with rfl | hr
  ·exact ⟨by omega,h2,h3⟩
  ·exact right_fit l (q.2 + 2) (by omega) h4 r hr
end Go.Proofs.YthnddabcmhplkaaGreatDoor
namespace Go.Proofs.YthnddabcmhplkaaGreatDoor
def cntR : List (Int × Int) → Int → Int
 | [],_ => 0
 | r :: l,c => (if r.1 ≤ c ∧ c ≤ r.2 then 1 else 0) + cntR l c
def cntE : List (Int × Int) → Int → Int
 | [],_ => 0
 | e :: E,c => (if e.1 ≤ c then e.2 else 0) + cntE E c
def sumE : List (Int × Int) → Int
 | [] => 0
 | e :: E => e.2 + sumE E
def endR (r : Int × Int) : List (Int × Int) := if max r.1 0 ≤ min r.2 1114111 then [(max r.1 0,1),(min r.2 1114111 + 1,-1)] else []
def endsR (l : List (Int × Int)) : List (Int × Int) := l.flatMap endR
def endsL (ls : List (List (Int × Int))) : List (Int × Int) := ls.flatMap endsR
theorem cntE_append : ∀ (a b : List (Int × Int)) (c : Int),cntE (a ++ b) c = cntE a c + cntE b c
 | [],b,c => by simp [cntE]
 | e :: a,b,c => by
  show _ + cntE (a ++ b) c = _ + cntE a c + cntE b c
  rw [cntE_append a b c]
  omega
theorem cntR_append : ∀ (a b : List (Int × Int)) (c : Int),cntR (a ++ b) c = cntR a c + cntR b c
 | [],b,c => by simp [cntR]
 | e :: a,b,c => by
  show _ + cntR (a ++ b) c = _ + cntR a c + cntR b c
  rw [cntR_append a b c]
  omega
theorem cntE_endR (r : Int × Int) (c : Int) (h0 : 0 ≤ c) (h1 : c ≤ 1114111) : cntE (endR r) c = if r.1 ≤ c ∧ c ≤ r.2 then 1 else 0 := by
 unfold endR
 split
 ·simp only [cntE]
  split <;> split <;> split <;> omega
 ·simp only [cntE]
  split <;> omega
theorem cntE_endsR : ∀ (l : List (Int × Int)) (c : Int),0 ≤ c → c ≤ 1114111 → cntE (endsR l) c = cntR l c
 | [],_,_,_ => rfl
 | r :: l,c,h0,h1 => by
  have e : endsR (r :: l) = endR r ++ endsR l := rfl
  rw [e,cntE_append,cntE_endR r c h0 h1,cntE_endsR l c h0 h1]
  rfl
theorem endsL_cons (l : List (Int × Int)) (ls : List (List (Int × Int))) : endsL (l :: ls) = endsR l ++ endsL ls := rfl
theorem endsR_append (a b : List (Int × Int)) : endsR (a ++ b) = endsR a ++ endsR b := by simp [endsR]
theorem endsL_append (a b : List (List (Int × Int))) : endsL (a ++ b) = endsL a ++ endsL b := by simp [endsL]
theorem endR_length (r : Int × Int) : (endR r).length ≤ 2 := by
 unfold endR
 split <;> simp
theorem endsR_length : ∀ l : List (Int × Int),(endsR l).length ≤ 2 * l.length
 | [] => Nat.le_refl _
 | r :: l => by
  have e : endsR (r :: l) = endR r ++ endsR l := rfl
  have h1 := endR_length r
  have h2 := endsR_length l
  rw [e,List.length_append,List.length_cons]
  omega
def EdgeOk (e : Int × Int) : Prop := 0 ≤ e.1 ∧ e.1 ≤ 1114112 ∧ -1 ≤ e.2 ∧ e.2 ≤ 1
theorem endR_ok (r : Int × Int) : ∀ e ∈ endR r,EdgeOk e := by
 intro e he
 unfold endR at he
 split at he
 ·simp at he
  rcases he with rfl | rfl
  ·unfold EdgeOk;simp only;omega
  ·unfold EdgeOk;simp only;omega
 ·simp at he
theorem endsL_ok (ls : List (List (Int × Int))) : ∀ e ∈ endsL ls,EdgeOk e := by
 intro e he
 simp only [endsL,endsR,List.mem_flatMap] at he
 obtain ⟨l,_,r,_,h⟩ := he
 exact endR_ok r e h
theorem has_cnt : ∀ (l : List (Int × Int)) (c : Int),0 ≤ c → c ≤ 1114111 → (HasR l c ↔ 0 < cntR l c)
 | [],c,_,_ => by simp [HasR,cntR]
 | r :: l,c,h0,h1 => by
  have hn : 0 ≤ cntR l c := by
   have hp : ∀ k : List (Int × Int),0 ≤ cntR k c := fun k => by
    induction k with
    | nil => simp [cntR]
    | cons q k ih =>
     show 0 ≤ _ + cntR k c
     split <;> omega
   exact hp l
  rw [has_cons,has_cnt l c h0 h1]
  show _ ↔ 0 < _ + cntR l c
  split <;> omega
theorem cnt_nonneg (k : List (Int × Int)) (c : Int) : 0 ≤ cntR k c := by
 induction k with
 | nil => simp [cntR]
 | cons q k ih =>
  show 0 ≤ _ + cntR k c
  split <;> omega
theorem cnt_right : ∀ (l : List (Int × Int)) (lo c : Int),RightFrom lo l → cntR l c ≤ 1 ∧ (c < lo → cntR l c = 0)
 | [],_,_,_ => by simp [cntR]
 | r :: l,lo,c,⟨h1,h2,_,h4⟩ => by
  have ih := cnt_right l (r.2 + 2) c h4
  have hn := cnt_nonneg l c
  show _ + cntR l c ≤ 1 ∧ (_ → _ + cntR l c = 0)
  by_cases hc : c < r.2 + 2
  ·have := ih.2 hc
   constructor
   ·split <;> omega
   ·intro h
    rw [if_neg (by omega)]
    omega
  ·constructor
   ·rw [if_neg (by omega)]
    omega
   ·intro h
    omega
theorem cntE_perm {a b : List (Int × Int)} (h : a.Perm b) (c : Int) : cntE a c = cntE b c := by
 induction h with
 | nil => rfl
 | cons x _ ih => simp only [cntE];omega
 | swap x y l => simp only [cntE];omega
 | trans _ _ ih1 ih2 => exact ih1.trans ih2
def RiseE (E : List (Int × Int)) : Prop := E.Pairwise fun a b => a.1 ≤ b.1
def RiseS (E : List (Int × Int)) : Prop := E.Pairwise fun a b => a.1 < b.1
def Told (D : List (Int × Int)) (G : List (Int × Int)) (k : Nat) : Prop :=
 k ≤ D.length ∧ RiseS G ∧ (∀ g ∈ G,0 ≤ g.1 ∧ g.1 ≤ 1114112 ∧ -(D.length : Int) ≤ g.2 ∧ g.2 ≤ D.length) ∧ (∀ g ∈ G,∀ e ∈ D.drop k,g.1 < e.1) ∧ (∀ c,cntE G c + cntE (D.drop k) c = cntE D c) ∧ G.length ≤ k
theorem told_start (D : List (Int × Int)) : Told D [] 0 := ⟨Nat.zero_le _,List.Pairwise.nil,by simp,by simp,fun c => by simp [cntE],Nat.le_refl _⟩
def Run (D : List (Int × Int)) (k j : Nat) (a m : Int) : Prop :=
 k ≤ j ∧ j ≤ D.length ∧ (∀ i (h : i < D.length),k ≤ i → i < j → D[i].1 = a) ∧ (∀ c,cntE ((D.drop k).take (j - k)) c = if a ≤ c then m else 0) ∧ -((j - k : Nat) : Int) ≤ m ∧ m ≤ ((j - k : Nat) : Int)
theorem run_start (D : List (Int × Int)) (k : Nat) (a : Int) (h : k ≤ D.length) : Run D k k a 0 :=
 ⟨Nat.le_refl _,h,fun i _ h1 h2 => by omega,fun c => by simp [cntE],by simp,by simp⟩
theorem run_step {D : List (Int × Int)} {k j : Nat} {a m : Int} (h : Run D k j a m) (hj : j < D.length) (ha : D[j].1 = a) (hm : -1 ≤ D[j].2 ∧ D[j].2 ≤ 1) : Run D k (j + 1) a (m + D[j].2) := by
 obtain ⟨h1,h2,h3,h4,h5,h6⟩ := h
 refine ⟨by omega,hj,fun i hi hki hij => ?_,fun c => ?_,by omega,by omega⟩
 ·rcases Nat.lt_or_ge i j with h | h
  ·exact h3 i hi hki h
  ·have : i = j := by omega
   subst this
   exact ha
 ·have e : (D.drop k).take (j + 1 - k) = (D.drop k).take (j - k) ++ [D[j]] := by
   rw [show j + 1 - k = j - k + 1 by omega,List.take_succ_eq_append_getElem (by rw [List.length_drop];omega)]
   congr 2
   rw [List.getElem_drop]
   congr 1
   omega
  rw [e,cntE_append,h4 c]
  simp only [cntE,ha]
  split <;> omega
theorem told_step {D G : List (Int × Int)} {k j : Nat} {a m : Int} (hT : Told D G k) (hR : Run D k j a m) (hk : k < j) (hD : RiseE D) (ho : ∀ e ∈ D,EdgeOk e) (hend : ∀ h : j < D.length,D[j].1 ≠ a) : Told D (G ++ [(a,m)]) j := by
 obtain ⟨t1,t2,t3,t4,t5,t6⟩ := hT
 obtain ⟨r1,r2,r3,r4,r5,r6⟩ := hR
 have hp := List.pairwise_iff_getElem.1 hD
 have hak : D[k].1 = a := r3 k (by omega) (Nat.le_refl _) hk
 have hmem : D[k] ∈ D := List.getElem_mem _
 have hok := ho _ hmem
 rw [EdgeOk,hak] at hok
 refine ⟨r2,?_,?_,?_,?_,?_⟩
 ·unfold RiseS
  rw [List.pairwise_append]
  refine ⟨t2,by simp,fun x hx y hy => ?_⟩
  have : y = (a,m) := by simpa using hy
  subst this
  have := t4 x hx D[k] (List.mem_drop_iff_getElem.2 ⟨0,by omega,by simp⟩)
  show x.1 < a
  rw [hak] at this
  exact this
 ·intro g hg
  rcases List.mem_append.1 hg with hg | hg
  ·exact t3 g hg
  ·have : g = (a,m) := by simpa using hg
   subst this
   simp only
   omega
 ·intro g hg e he
  obtain ⟨i,hi,rfl⟩ := List.mem_iff_getElem.1 he
  rw [List.length_drop] at hi
  rw [List.getElem_drop]
  have hjl : j < D.length := by omega
  have h1 : D[j].1 ≤ D[j + i].1 := by
   rcases Nat.eq_zero_or_pos i with h | h
   ·subst h
    exact Int.le_refl _
   ·exact hp j (j + i) hjl (by omega) (by omega)
  have h2 : a ≤ D[j].1 := by
   rw [← hak]
   exact hp k j (by omega) hjl hk
  have h3 := hend hjl
  rcases List.mem_append.1 hg with hg | hg
  ·have h4 := t4 g hg D[k] (List.mem_drop_iff_getElem.2 ⟨0,by omega,by simp⟩)
   omega
  ·have : g = (a,m) := by simpa using hg
   subst this
   show a < _
   omega
 ·intro c
  have e : D.drop k = (D.drop k).take (j - k) ++ D.drop j := by
   have := (List.take_append_drop (j - k) (D.drop k)).symm
   rw [List.drop_drop,show k + (j - k) = j by omega] at this
   exact this
  have h5 := t5 c
  rw [e,cntE_append,r4 c] at h5
  rw [cntE_append]
  simp only [cntE]
  omega
 ·rw [List.length_append,List.length_singleton]
  omega
def ToldAll (D G : List (Int × Int)) : Prop := RiseS G ∧ (∀ c,cntE G c = cntE D c)
theorem told_all {D G : List (Int × Int)} (h : Told D G D.length) : ToldAll D G := by
 obtain ⟨_,t2,_,_,t5,_⟩ := h
 refine ⟨t2,fun c => ?_⟩
 have := t5 c
 simpa [cntE] using this
structure Held where
 n : Int
 from' : Int
 inn : Bool
 out : List (Int × Int)
def heldStep (p : Int → Bool) (s : Held) (e : Int × Int) : Held :=
 if p (s.n + e.2) = s.inn then { s with n := s.n + e.2 }
 else { n := s.n + e.2,from' := e.1,inn := !s.inn,out := if s.inn = true ∧ s.from' < e.1 then s.out ++ [(s.from',e.1 - 1)] else s.out }
def heldFrom (p : Int → Bool) (G : List (Int × Int)) : Held := G.foldl (heldStep p) { n := 0,from' := 0,inn := p 0,out := [] }
def heldEnd (s : Held) : List (Int × Int) := if s.inn = true ∧ s.from' ≤ 1114111 then s.out ++ [(s.from',1114111)] else s.out
theorem heldFrom_snoc (p : Int → Bool) (G : List (Int × Int)) (e : Int × Int) : heldFrom p (G ++ [e]) = heldStep p (heldFrom p G) e := by simp [heldFrom]
theorem held_n (p : Int → Bool) (G : List (Int × Int)) : ∀ s : Held,(G.foldl (heldStep p) s).n = s.n + sumE G := by
 induction G with
 | nil => intro s;simp [sumE]
 | cons e G ih =>
  intro s
  rw [List.foldl_cons,ih]
  have : (heldStep p s e).n = s.n + e.2 := by
   unfold heldStep
   split <;> rfl
  rw [this]
  simp only [sumE]
  omega
theorem held_len (p : Int → Bool) (G : List (Int × Int)) : ∀ s : Held,(G.foldl (heldStep p) s).out.length ≤ s.out.length + G.length := by
 induction G with
 | nil => intro s;simp
 | cons e G ih =>
  intro s
  rw [List.foldl_cons]
  have h1 := ih (heldStep p s e)
  have : (heldStep p s e).out.length ≤ s.out.length + 1 := by
   unfold heldStep
   split
   ·simp
   ·simp only
    split <;> simp
  rw [List.length_cons]
  omega
theorem sum_bound (N : Int) : ∀ G : List (Int × Int),(∀ g ∈ G,-N ≤ g.2 ∧ g.2 ≤ N) → -(N * G.length) ≤ sumE G ∧ sumE G ≤ N * G.length
 | [],_ => by simp [sumE]
 | g :: G,h => by
  have ih := sum_bound N G fun x hx => h x (List.mem_cons_of_mem _ hx)
  have h0 := h g (List.mem_cons_self ..)
  have e : N * ((g :: G).length : Int) = N * G.length + N := by rw [List.length_cons,Int.natCast_add,Int.mul_add];simp
  rw [e]
  simp only [sumE]
  omega
structure HInv (p : Int → Bool) (G : List (Int × Int)) (s : Held) : Prop where
 inn : s.inn = p s.n
 n : s.n = sumE G
 f0 : 0 ≤ s.from'
 f1 : s.from' ≤ 1114112
 right : RightR s.out
 e1 : endOf 0 s.out ≤ s.from' + 1
 e2 : s.inn = true → endOf 0 s.out ≤ s.from'
 at' : (s.from' = 0 ∧ s.out = []) ∨ ∃ g ∈ G,g.1 = s.from'
 low : ∀ c,0 ≤ c → c ≤ 1114111 → (HasR s.out c ↔ c < s.from' ∧ p (cntE G c) = true)
 high : ∀ c,0 ≤ c → s.from' ≤ c → p (cntE G c) = s.inn
theorem cnt_all : ∀ (G : List (Int × Int)) (c : Int),(∀ g ∈ G,g.1 ≤ c) → cntE G c = sumE G
 | [],_,_ => rfl
 | g :: G,c,h => by
  show (if g.1 ≤ c then g.2 else 0) + cntE G c = g.2 + sumE G
  rw [if_pos (h g (List.mem_cons_self ..)),cnt_all G c fun x hx => h x (List.mem_cons_of_mem _ hx)]
theorem cnt_snoc (G : List (Int × Int)) (e : Int × Int) (c : Int) : cntE (G ++ [e]) c = cntE G c + if e.1 ≤ c then e.2 else 0 := by
 rw [cntE_append]
 simp [cntE]
theorem sum_snoc (G : List (Int × Int)) (e : Int × Int) : sumE (G ++ [e]) = sumE G + e.2 := by
 induction G with
 | nil => simp [sumE]
 | cons g G ih =>
  rw [List.cons_append]
  simp only [sumE,ih]
  omega
theorem hinv_start (p : Int → Bool) : HInv p [] { n := 0,from' := 0,inn := p 0,out := [] } :=
 ⟨rfl,rfl,Int.le_refl _,by show (0 : Int) ≤ 1114112;decide,trivial,by simp [endOf],fun _ => by simp [endOf],.inl ⟨rfl,rfl⟩,fun c h0 _ => ⟨fun h => absurd h (has_nil c),fun h => by have : c < (0 : Int) := h.1;omega⟩,fun c _ _ => rfl⟩
theorem hinv_step (p : Int → Bool) (G : List (Int × Int)) (s : Held) (e : Int × Int) (h : HInv p G s) (hlt : ∀ g ∈ G,g.1 < e.1) (he0 : 0 ≤ e.1) (he1 : e.1 ≤ 1114112) : HInv p (G ++ [e]) (heldStep p s e) := by
 have hf : s.from' < e.1 ∨ (s.from' = 0 ∧ s.out = []) := by
  rcases h.at' with h1 | ⟨g,hg,h1⟩
  ·exact .inr h1
  ·have := hlt g hg
   exact .inl (by omega)
 have hfe : s.from' ≤ e.1 := by
  rcases hf with h1 | ⟨h1,_⟩ <;> omega
 have hge : ∀ c,e.1 ≤ c → cntE (G ++ [e]) c = s.n + e.2 := fun c hc => by
  rw [cnt_snoc,cnt_all G c fun g hg => by have := hlt g hg;omega,if_pos hc,h.n]
 have hls : ∀ c,c < e.1 → cntE (G ++ [e]) c = cntE G c := fun c hc => by
  rw [cnt_snoc,if_neg (by omega)]
  omega
 unfold heldStep
 split
 ·rename_i hp
  refine ⟨hp.symm,by rw [sum_snoc,← h.n],h.f0,h.f1,h.right,h.e1,h.e2,?_,fun c c0 c1 => ?_,fun c c0 c1 => ?_⟩
  ·rcases h.at' with h1 | ⟨g,hg,h1⟩
   ·exact .inl h1
   ·exact .inr ⟨g,List.mem_append_left _ hg,h1⟩
  ·rw [h.low c c0 c1]
   constructor
   ·rintro ⟨h1,h2⟩
    exact ⟨h1,by rw [hls c (by omega)];exact h2⟩
   ·rintro ⟨h1,h2⟩
    exact ⟨h1,by rw [hls c (by have : c < s.from' := h1;omega)] at h2;exact h2⟩
  ·by_cases hc : e.1 ≤ c
   ·rw [hge c hc]
    exact hp
   ·rw [hls c (by omega)]
    exact h.high c c0 c1
 ·rename_i hp
  have hp' : p (s.n + e.2) = !s.inn := by
   cases h1 : p (s.n + e.2) <;> cases h2 : s.inn <;> simp_all
  by_cases hi : s.inn = true ∧ s.from' < e.1
  ·rw [if_pos hi]
   refine ⟨hp'.symm,by rw [sum_snoc,← h.n],he0,he1,?_,?_,?_,.inr ⟨e,by simp,rfl⟩,fun c c0 c1 => ?_,fun c c0 c1 => ?_⟩
   ·exact (right_append _ _ _).2 ⟨h.right,⟨h.e2 hi.1,by show s.from' ≤ e.1 - 1;omega,by show e.1 - 1 ≤ 1114111;omega,trivial⟩⟩
   ·show endOf 0 (s.out ++ [(s.from',e.1 - 1)]) ≤ e.1 + 1
    rw [end_append]
    show e.1 - 1 + 2 ≤ e.1 + 1
    omega
   ·intro h1
    have h1' : (!s.inn) = true := h1
    rw [hi.1] at h1'
    cases h1'
   ·show HasR (s.out ++ [(s.from',e.1 - 1)]) c ↔ c < e.1 ∧ _
    rw [has_append,h.low c c0 c1,has_one]
    constructor
    ·rintro (⟨h1,h2⟩ | ⟨_,_,h3,h4⟩)
     ·exact ⟨by omega,by rw [hls c (by omega)];exact h2⟩
     ·have h3' : s.from' ≤ c := h3
      have h4' : c ≤ e.1 - 1 := h4
      exact ⟨by omega,by rw [hls c (by omega),h.high c c0 h3'];exact hi.1⟩
    ·rintro ⟨h1,h2⟩
     by_cases hc : c < s.from'
     ·exact .inl ⟨hc,by rw [hls c h1] at h2;exact h2⟩
     ·exact .inr ⟨c0,c1,by show s.from' ≤ c;omega,by show c ≤ e.1 - 1;omega⟩
   ·have c1' : e.1 ≤ c := c1
    rw [hge c c1']
    exact hp'
  ·rw [if_neg hi]
   refine ⟨hp'.symm,by rw [sum_snoc,← h.n],he0,he1,h.right,?_,?_,.inr ⟨e,by simp,rfl⟩,fun c c0 c1 => ?_,fun c c0 c1 => ?_⟩
   ·have := h.e1
    show endOf 0 s.out ≤ e.1 + 1
    omega
   ·intro h1
    have h1' : (!s.inn) = true := h1
    show endOf 0 s.out ≤ e.1
    rcases hf with h2 | ⟨_,h2⟩
    ·have := h.e1
     omega
    ·rw [h2]
     exact he0
   ·show HasR s.out c ↔ c < e.1 ∧ _
    rw [h.low c c0 c1]
    constructor
    ·rintro ⟨h1,h2⟩
     exact ⟨by omega,by rw [hls c (by omega)];exact h2⟩
    ·rintro ⟨h1,h2⟩
     rw [hls c h1] at h2
     by_cases hc : c < s.from'
     ·exact ⟨hc,h2⟩
     ·rw [h.high c c0 (by omega)] at h2
      exact absurd ⟨h2,by omega⟩ hi
   ·have c1' : e.1 ≤ c := c1
    rw [hge c c1']
    exact hp'
def TellOk (e : Int × Int) : Prop := 0 ≤ e.1 ∧ e.1 ≤ 1114112
theorem hinv_fold (p : Int → Bool) : ∀ (G pre : List (Int × Int)) (s : Held),HInv p pre s → RiseS (pre ++ G) → (∀ g ∈ G,TellOk g) → HInv p (pre ++ G) (G.foldl (heldStep p) s)
 | [],pre,s,h,_,_ => by simpa using h
 | e :: G,pre,s,h,hr,hb => by
  have e1 : pre ++ e :: G = (pre ++ [e]) ++ G := by simp
  have hr' := hr
  unfold RiseS at hr'
  rw [List.pairwise_append] at hr'
  have hb0 := hb e (List.mem_cons_self ..)
  rw [e1] at hr ⊢
  exact hinv_fold p G (pre ++ [e]) _ (hinv_step p pre s e h (fun g hg => hr'.2.2 g hg e (List.mem_cons_self ..)) hb0.1 hb0.2) hr fun g hg => hb g (List.mem_cons_of_mem _ hg)
theorem hinv_all (p : Int → Bool) (G : List (Int × Int)) (hr : RiseS G) (hb : ∀ g ∈ G,TellOk g) : HInv p G (heldFrom p G) := by
 have := hinv_fold p G [] _ (hinv_start p) (by simpa using hr) hb
 simpa [heldFrom] using this
theorem held_set (p : Int → Bool) (G : List (Int × Int)) (hr : RiseS G) (hb : ∀ g ∈ G,TellOk g) :
  RightR (heldEnd (heldFrom p G)) ∧ ∀ c,HasR (heldEnd (heldFrom p G)) c ↔ 0 ≤ c ∧ c ≤ 1114111 ∧ p (cntE G c) = true := by
 have h := hinv_all p G hr hb
 obtain ⟨s,hs⟩ : ∃ s,heldFrom p G = s := ⟨_,rfl⟩
 rw [hs] at h ⊢
 unfold heldEnd
 have hru : ∀ (l : List (Int × Int)) c,HasR l c → 0 ≤ c ∧ c ≤ 1114111 := fun l c h => ⟨h.1,h.2.1⟩
 by_cases hi : s.inn = true ∧ s.from' ≤ 1114111
 ·rw [if_pos hi]
  refine ⟨(right_append _ _ _).2 ⟨h.right,⟨h.e2 hi.1,hi.2,Int.le_refl _,trivial⟩⟩,fun c => ?_⟩
  rw [has_append,has_one]
  constructor
  ·rintro (h1 | ⟨c0,c1,h3,h4⟩)
   ·obtain ⟨c0,c1⟩ := hru _ _ h1
    exact ⟨c0,c1,((h.low c c0 c1).1 h1).2⟩
   ·exact ⟨c0,c1,by rw [h.high c c0 h3];exact hi.1⟩
  ·rintro ⟨c0,c1,h1⟩
   by_cases hc : c < s.from'
   ·exact .inl ((h.low c c0 c1).2 ⟨hc,h1⟩)
   ·exact .inr ⟨c0,c1,by show s.from' ≤ c;omega,c1⟩
 ·rw [if_neg hi]
  refine ⟨h.right,fun c => ?_⟩
  constructor
  ·intro h1
   obtain ⟨c0,c1⟩ := hru _ _ h1
   exact ⟨c0,c1,((h.low c c0 c1).1 h1).2⟩
  ·rintro ⟨c0,c1,h1⟩
   by_cases hc : c < s.from'
   ·exact (h.low c c0 c1).2 ⟨hc,h1⟩
   ·rw [h.high c c0 (by omega)] at h1
    exact absurd ⟨h1,by omega⟩ hi
end Go.Proofs.YthnddabcmhplkaaGreatDoor
