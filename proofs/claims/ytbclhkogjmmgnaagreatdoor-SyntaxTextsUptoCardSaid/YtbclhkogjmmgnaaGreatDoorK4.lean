/- Texts merged by program. No condition. -/
import Derived.Test.YtbclhkogjmmgnaaGreatDoorSh
import Derived.Test.YtbclhkogjmmgnaaGreatDoorK1
import Derived.Test.YtbclhkogjmmgnaaGreatDoorProg
set_option maxHeartbeats 1600000
set_option maxRecDepth 100000
namespace Go.Proofs.YtbclhkogjmmgnaaGreatDoor
def HasR (l : List (Int × Int)) (c : Int) : Prop := 0 ≤ c ∧ c ≤ 1114111 ∧ ∃ r ∈ l,r.1 ≤ c ∧ c ≤ r.2
def RightFrom : Int → List (Int × Int) → Prop
 | _,[] => True
 | lo,r :: l => lo ≤ r.1 ∧ r.1 ≤ r.2 ∧ r.2 ≤ 1114111 ∧ RightFrom (r.2 + 2) l
def RightR (l : List (Int × Int)) : Prop := RightFrom 0 l
def endOf : Int → List (Int × Int) → Int
 | lo,[] => lo
 | _,r :: l => endOf (r.2 + 2) l
theorem RightFrom.le {lo lo' : Int} : ∀ {l : List (Int × Int)},RightFrom lo l → lo' ≤ lo → RightFrom lo' l
 | [],_,_ => trivial
 | _ :: _,⟨h1,h2,h3,h4⟩,h => ⟨by omega,h2,h3,h4⟩
theorem right_append : ∀ (a b : List (Int × Int)) (lo : Int),RightFrom lo (a ++ b) ↔ RightFrom lo a ∧ RightFrom (endOf lo a) b
 | [],b,lo => by simp [RightFrom,endOf]
 | r :: a,b,lo => by
  show (_ ∧ _ ∧ _ ∧ RightFrom (r.2 + 2) (a ++ b)) ↔ (_ ∧ _ ∧ _ ∧ RightFrom (r.2 + 2) a) ∧ RightFrom (endOf (r.2 + 2) a) b
  rw [right_append a b (r.2 + 2)]
  constructor
  ·rintro ⟨h1,h2,h3,h4,h5⟩
   exact ⟨⟨h1,h2,h3,h4⟩,h5⟩
  ·rintro ⟨⟨h1,h2,h3,h4⟩,h5⟩
   exact ⟨h1,h2,h3,h4,h5⟩
theorem right_has_lo : ∀ (l : List (Int × Int)) (lo c : Int),RightFrom lo l → HasR l c → lo ≤ c
 | [],_,_,_,h => by
  obtain ⟨_,_,r,hr,_⟩ := h
  simp at hr
 | r :: l,lo,c,⟨h1,h2,_,h4⟩,⟨h5,h6,q,hq,h7,h8⟩ => by
  rcases List.mem_cons.1 hq with rfl | hq
  ·omega
  ·have := right_has_lo l (r.2 + 2) c h4 ⟨h5,h6,q,hq,h7,h8⟩
   omega
theorem has_cons (r : Int × Int) (l : List (Int × Int)) (c : Int) : HasR (r :: l) c ↔ (0 ≤ c ∧ c ≤ 1114111 ∧ r.1 ≤ c ∧ c ≤ r.2) ∨ HasR l c := by
 unfold HasR
 simp only [List.mem_cons,exists_eq_or_imp]
 constructor
 ·rintro ⟨h1,h2,h3 | h3⟩
  ·exact .inl ⟨h1,h2,h3⟩
  ·exact .inr ⟨h1,h2,h3⟩
 ·rintro (⟨h1,h2,h3⟩ | ⟨h1,h2,h3⟩)
  ·exact ⟨h1,h2,.inl h3⟩
  ·exact ⟨h1,h2,.inr h3⟩
theorem has_append (a b : List (Int × Int)) (c : Int) : HasR (a ++ b) c ↔ HasR a c ∨ HasR b c := by
 induction a with
 | nil => simp [HasR]
 | cons r a ih => rw [List.cons_append,has_cons,has_cons,ih,or_assoc]
theorem has_nil (c : Int) : ¬ HasR [] c := by simp [HasR]
theorem right_unique : ∀ (a b : List (Int × Int)) (lo : Int),0 ≤ lo → RightFrom lo a → RightFrom lo b → (∀ c,lo ≤ c → (HasR a c ↔ HasR b c)) → a = b
 | [],[],_,_,_,_,_ => rfl
 | [],r :: b,lo,h0,_,⟨h1,h2,h3,_⟩,h => by
  have := (h r.1 h1).2 ((has_cons _ _ _).2 (.inl ⟨by omega,by omega,by omega,h2⟩))
  exact absurd this (has_nil _)
 | r :: a,[],lo,h0,⟨h1,h2,h3,_⟩,_,h => by
  have := (h r.1 h1).1 ((has_cons _ _ _).2 (.inl ⟨by omega,by omega,by omega,h2⟩))
  exact absurd this (has_nil _)
 | r :: a,q :: b,lo,h0,⟨h1,h2,h3,h4⟩,⟨g1,g2,g3,g4⟩,h => by
  have e1 : r.1 = q.1 := by
   rcases Int.lt_trichotomy r.1 q.1 with hlt | he | hlt
   ·have := (h r.1 h1).1 ((has_cons _ _ _).2 (.inl ⟨by omega,by omega,by omega,h2⟩))
    rcases (has_cons _ _ _).1 this with h5 | h5
    ·omega
    ·have := right_has_lo b _ _ g4 h5
     omega
   ·exact he
   ·have := (h q.1 g1).2 ((has_cons _ _ _).2 (.inl ⟨by omega,by omega,by omega,g2⟩))
    rcases (has_cons _ _ _).1 this with h5 | h5
    ·omega
    ·have := right_has_lo a _ _ h4 h5
     omega
  have e2 : r.2 = q.2 := by
   rcases Int.lt_trichotomy r.2 q.2 with hlt | he | hlt
   ·have := (h (r.2 + 1) (by omega)).2 ((has_cons _ _ _).2 (.inl ⟨by omega,by omega,by omega,by omega⟩))
    rcases (has_cons _ _ _).1 this with h5 | h5
    ·omega
    ·have := right_has_lo a _ _ h4 h5
     omega
   ·exact he
   ·have := (h (q.2 + 1) (by omega)).1 ((has_cons _ _ _).2 (.inl ⟨by omega,by omega,by omega,by omega⟩))
    rcases (has_cons _ _ _).1 this with h5 | h5
    ·omega
    ·have := right_has_lo b _ _ g4 h5
     omega
  have e : r = q := Prod.ext e1 e2
  subst e
  have := right_unique a b (r.2 + 2) (by omega) h4 g4 fun c hc => by
   have := h c (by omega)
   rw [has_cons,has_cons] at this
   constructor
   ·intro h5
    rcases this.1 (.inr h5) with h6 | h6
    ·omega
    ·exact h6
   ·intro h5
    rcases this.2 (.inr h5) with h6 | h6
    ·omega
    ·exact h6
  rw [this]
theorem right_eq (a b : List (Int × Int)) (ha : RightR a) (hb : RightR b) (h : ∀ c,HasR a c ↔ HasR b c) : a = b :=
 right_unique a b 0 (Int.le_refl _) ha hb fun c _ => h c
def notFrom : Int → List (Int × Int) → List (Int × Int)
 | f,[] => if f ≤ 1114111 then [(f,1114111)] else []
 | f,r :: l => (if f < r.1 then [(f,r.1 - 1)] else []) ++ notFrom (r.2 + 1) l
theorem not_right : ∀ (l : List (Int × Int)) (f : Int),RightFrom f l → RightFrom f (notFrom f l)
 | [],f,_ => by
  unfold notFrom
  split
  ·exact ⟨Int.le_refl _,by assumption,Int.le_refl _,trivial⟩
  ·trivial
 | r :: l,f,⟨h1,h2,h3,h4⟩ => by
  have ih := not_right l (r.2 + 1) (h4.le (by omega))
  unfold notFrom
  split
  ·exact ⟨Int.le_refl _,by omega,by omega,ih.le (by show r.1 - 1 + 2 ≤ _;omega)⟩
  ·exact ih.le (by omega)
theorem not_has : ∀ (l : List (Int × Int)) (f c : Int),0 ≤ f → RightFrom f l → (HasR (notFrom f l) c ↔ f ≤ c ∧ c ≤ 1114111 ∧ ¬ HasR l c)
 | [],f,c,h0,_ => by
  unfold notFrom
  split
  ·rw [has_cons]
   have := has_nil c
   constructor
   ·rintro (h | h)
    ·exact ⟨h.2.2.1,h.2.1,this⟩
    ·exact absurd h this
   ·rintro ⟨h1,h2,_⟩
    exact .inl ⟨by omega,h2,h1,h2⟩
  ·constructor
   ·intro h
    exact absurd h (has_nil c)
   ·rintro ⟨h1,h2,_⟩
    omega
 | r :: l,f,c,h0,⟨h1,h2,h3,h4⟩ => by
  have ih := not_has l (r.2 + 1) c (by omega) (h4.le (by omega))
  have hlo : HasR l c → r.2 + 2 ≤ c := right_has_lo l _ _ h4
  unfold notFrom
  rw [has_append,ih,has_cons]
  constructor
  ·rintro (h | ⟨h5,h6,h7⟩)
   ·split at h
    ·rcases (has_cons _ _ _).1 h with h | h
     ·refine ⟨h.2.2.1,h.2.1,?_⟩
      have h8 := h.2.2.2
      simp only at h8
      rintro (h9 | h9)
      ·omega
      ·have := hlo h9
       omega
     ·exact absurd h (has_nil c)
    ·exact absurd h (has_nil c)
   ·refine ⟨by omega,h6,?_⟩
    rintro (h9 | h9)
    ·omega
    ·exact h7 h9
  ·rintro ⟨h5,h6,h7⟩
   have h8 : ¬ (0 ≤ c ∧ c ≤ 1114111 ∧ r.1 ≤ c ∧ c ≤ r.2) := fun h => h7 (.inl h)
   by_cases hc : c < r.1
   ·left
    rw [if_pos (by omega)]
    exact (has_cons _ _ _).2 (.inl ⟨by omega,h6,h5,by show c ≤ r.1 - 1;omega⟩)
   ·right
    exact ⟨by omega,h6,fun h => h7 (.inr h)⟩
theorem right_len : ∀ (l : List (Int × Int)) (f : Int),f ≤ 1114112 → RightFrom f l → (l.length : Int) ≤ 1114112 - f
 | [],f,h,_ => by simp;omega
 | r :: l,f,h,⟨h1,h2,h3,h4⟩ => by
  by_cases hr : r.2 + 2 ≤ 1114112
  ·have ih := right_len l (r.2 + 2) hr h4
   simp only [List.length_cons]
   omega
  ·have : l = [] := by
    rcases l with _ | ⟨q,l⟩
    ·rfl
    ·obtain ⟨g1,g2,g3,_⟩ := h4
     omega
   subst this
   simp
   omega
def Fit (r : Int × Int) : Prop := 0 ≤ r.1 ∧ r.1 ≤ r.2 ∧ r.2 ≤ 1114111
theorem has_one (r : Int × Int) (c : Int) : HasR [r] c ↔ 0 ≤ c ∧ c ≤ 1114111 ∧ r.1 ≤ c ∧ c ≤ r.2 := by
 rw [has_cons]
 exact ⟨fun h => h.resolve_right (has_nil c),.inl⟩
theorem end_append : ∀ (o : List (Int × Int)) (p : Int × Int) (lo : Int),endOf lo (o ++ [p]) = p.2 + 2
 | [],_,_ => rfl
 | r :: o,p,_ => end_append o p (r.2 + 2)
theorem right_fit : ∀ (l : List (Int × Int)) (lo : Int),0 ≤ lo → RightFrom lo l → ∀ r ∈ l,Fit r
 | [],_,_,_,r,hr => by simp at hr
 | q :: l,lo,h0,⟨h1,h2,h3,h4⟩,r,hr => by
  rcases List.mem_cons.1 hr with rfl | hr
  ·exact ⟨by omega,h2,h3⟩
  ·exact right_fit l (q.2 + 2) (by omega) h4 r hr
end Go.Proofs.YtbclhkogjmmgnaaGreatDoor
namespace Go.Proofs.YtbclhkogjmmgnaaGreatDoor
def cntR : List (Int × Int) → Int → Int
 | [],_ => 0
 | r :: l,c => (if r.1 ≤ c ∧ c ≤ r.2 then 1 else 0) + cntR l c
def cntE : List (Int × Int) → Int → Int
 | [],_ => 0
 | e :: E,c => (if e.1 ≤ c then e.2 else 0) + cntE E c
def sumE : List (Int × Int) → Int
 | [] => 0
 | e :: E => e.2 + sumE E
def endR (r : Int × Int) : List (Int × Int) := if max r.1 0 ≤ min r.2 1114111 then [(max r.1 0,1),(min r.2 1114111 + 1,-1)] else []
def endsR (l : List (Int × Int)) : List (Int × Int) := l.flatMap endR
def endsL (ls : List (List (Int × Int))) : List (Int × Int) := ls.flatMap endsR
theorem cntE_append : ∀ (a b : List (Int × Int)) (c : Int),cntE (a ++ b) c = cntE a c + cntE b c
 | [],b,c => by simp [cntE]
 | e :: a,b,c => by
  show _ + cntE (a ++ b) c = _ + cntE a c + cntE b c
  rw [cntE_append a b c]
  omega
theorem cntR_append : ∀ (a b : List (Int × Int)) (c : Int),cntR (a ++ b) c = cntR a c + cntR b c
 | [],b,c => by simp [cntR]
 | e :: a,b,c => by
  show _ + cntR (a ++ b) c = _ + cntR a c + cntR b c
  rw [cntR_append a b c]
  omega
theorem cntE_endR (r : Int × Int) (c : Int) (h0 : 0 ≤ c) (h1 : c ≤ 1114111) : cntE (endR r) c = if r.1 ≤ c ∧ c ≤ r.2 then 1 else 0 := by
 unfold endR
 split
 ·simp only [cntE]
  split <;> split <;> split <;> omega
 ·simp only [cntE]
  split <;> omega
theorem cntE_endsR : ∀ (l : List (Int × Int)) (c : Int),0 ≤ c → c ≤ 1114111 → cntE (endsR l) c = cntR l c
 | [],_,_,_ => rfl
 | r :: l,c,h0,h1 => by
  have e : endsR (r :: l) = endR r ++ endsR l := rfl
  rw [e,cntE_append,cntE_endR r c h0 h1,cntE_endsR l c h0 h1]
  rfl
theorem endsL_cons (l : List (Int × Int)) (ls : List (List (Int × Int))) : endsL (l :: ls) = endsR l ++ endsL ls := rfl
theorem endsR_append (a b : List (Int × Int)) : endsR (a ++ b) = endsR a ++ endsR b := by simp [endsR]
theorem endsL_append (a b : List (List (Int × Int))) : endsL (a ++ b) = endsL a ++ endsL b := by simp [endsL]
theorem endR_length (r : Int × Int) : (endR r).length ≤ 2 := by
 unfold endR
 split <;> simp
theorem endsR_length : ∀ l : List (Int × Int),(endsR l).length ≤ 2 * l.length
 | [] => Nat.le_refl _
 | r :: l => by
  have e : endsR (r :: l) = endR r ++ endsR l := rfl
  have h1 := endR_length r
  have h2 := endsR_length l
  rw [e,List.length_append,List.length_cons]
  omega
def EdgeOk (e : Int × Int) : Prop := 0 ≤ e.1 ∧ e.1 ≤ 1114112 ∧ -1 ≤ e.2 ∧ e.2 ≤ 1
theorem endR_ok (r : Int × Int) : ∀ e ∈ endR r,EdgeOk e := by
 intro e he
 unfold endR at he
 split at he
 ·simp at he
  rcases he with rfl | rfl
  ·unfold EdgeOk;simp only;omega
  ·unfold EdgeOk;simp only;omega
 ·simp at he
theorem endsL_ok (ls : List (List (Int × Int))) : ∀ e ∈ endsL ls,EdgeOk e := by
 intro e he
 simp only [endsL,endsR,List.mem_flatMap] at he
 obtain ⟨l,_,r,_,h⟩ := he
 exact endR_ok r e h
theorem has_cnt : ∀ (l : List (Int × Int)) (c : Int),0 ≤ c → c ≤ 1114111 → (HasR l c ↔ 0 < cntR l c)
 | [],c,_,_ => by simp [HasR,cntR]
 | r :: l,c,h0,h1 => by
  have hn : 0 ≤ cntR l c := by
   have hp : ∀ k : List (Int × Int),0 ≤ cntR k c := fun k => by
    induction k with
    | nil => simp [cntR]
    | cons q k ih =>
     show 0 ≤ _ + cntR k c
     split <;> omega
   exact hp l
  rw [has_cons,has_cnt l c h0 h1]
  show _ ↔ 0 < _ + cntR l c
  split <;> omega
theorem cnt_nonneg (k : List (Int × Int)) (c : Int) : 0 ≤ cntR k c := by
 induction k with
 | nil => simp [cntR]
 | cons q k ih =>
  show 0 ≤ _ + cntR k c
  split <;> omega
theorem cnt_right : ∀ (l : List (Int × Int)) (lo c : Int),RightFrom lo l → cntR l c ≤ 1 ∧ (c < lo → cntR l c = 0)
 | [],_,_,_ => by simp [cntR]
 | r :: l,lo,c,⟨h1,h2,_,h4⟩ => by
  have ih := cnt_right l (r.2 + 2) c h4
  have hn := cnt_nonneg l c
  show _ + cntR l c ≤ 1 ∧ (_ → _ + cntR l c = 0)
  by_cases hc : c < r.2 + 2
  ·have := ih.2 hc
   constructor
   ·split <;> omega
   ·intro h
    rw [if_neg (by omega)]
    omega
  ·constructor
   ·rw [if_neg (by omega)]
    omega
   ·intro h
    omega
theorem cntE_perm {a b : List (Int × Int)} (h : a.Perm b) (c : Int) : cntE a c = cntE b c := by
 induction h with
 | nil => rfl
 | cons x _ ih => simp only [cntE];omega
 | swap x y l => simp only [cntE];omega
 | trans _ _ ih1 ih2 => exact ih1.trans ih2
def RiseE (E : List (Int × Int)) : Prop := E.Pairwise fun a b => a.1 ≤ b.1
def RiseS (E : List (Int × Int)) : Prop := E.Pairwise fun a b => a.1 < b.1
def Told (D : List (Int × Int)) (G : List (Int × Int)) (k : Nat) : Prop :=
 k ≤ D.length ∧ RiseS G ∧ (∀ g ∈ G,0 ≤ g.1 ∧ g.1 ≤ 1114112 ∧ -(D.length : Int) ≤ g.2 ∧ g.2 ≤ D.length) ∧ (∀ g ∈ G,∀ e ∈ D.drop k,g.1 < e.1) ∧ (∀ c,cntE G c + cntE (D.drop k) c = cntE D c) ∧ G.length ≤ k
theorem told_start (D : List (Int × Int)) : Told D [] 0 := ⟨Nat.zero_le _,List.Pairwise.nil,by simp,by simp,fun c => by simp [cntE],Nat.le_refl _⟩
def Run (D : List (Int × Int)) (k j : Nat) (a m : Int) : Prop :=
 k ≤ j ∧ j ≤ D.length ∧ (∀ i (h : i < D.length),k ≤ i → i < j → D[i].1 = a) ∧ (∀ c,cntE ((D.drop k).take (j - k)) c = if a ≤ c then m else 0) ∧ -((j - k : Nat) : Int) ≤ m ∧ m ≤ ((j - k : Nat) : Int)
theorem run_start (D : List (Int × Int)) (k : Nat) (a : Int) (h : k ≤ D.length) : Run D k k a 0 :=
 ⟨Nat.le_refl _,h,fun i _ h1 h2 => by omega,fun c => by simp [cntE],by simp,by simp⟩
theorem run_step {D : List (Int × Int)} {k j : Nat} {a m : Int} (h : Run D k j a m) (hj : j < D.length) (ha : D[j].1 = a) (hm : -1 ≤ D[j].2 ∧ D[j].2 ≤ 1) : Run D k (j + 1) a (m + D[j].2) := by
 obtain ⟨h1,h2,h3,h4,h5,h6⟩ := h
 refine ⟨by omega,hj,fun i hi hki hij => ?_,fun c => ?_,by omega,by omega⟩
 ·rcases Nat.lt_or_ge i j with h | h
  ·exact h3 i hi hki h
  ·have : i = j := by omega
   subst this
   exact ha
 ·have e : (D.drop k).take (j + 1 - k) = (D.drop k).take (j - k) ++ [D[j]] := by
   rw [show j + 1 - k = j - k + 1 by omega,List.take_succ_eq_append_getElem (by rw [List.length_drop];omega)]
   congr 2
   rw [List.getElem_drop]
   congr 1
   omega
  rw [e,cntE_append,h4 c]
  simp only [cntE,ha]
  split <;> omega
theorem told_step {D G : List (Int × Int)} {k j : Nat} {a m : Int} (hT : Told D G k) (hR : Run D k j a m) (hk : k < j) (hD : RiseE D) (ho : ∀ e ∈ D,EdgeOk e) (hend : ∀ h : j < D.length,D[j].1 ≠ a) : Told D (G ++ [(a,m)]) j := by
 obtain ⟨t1,t2,t3,t4,t5,t6⟩ := hT
 obtain ⟨r1,r2,r3,r4,r5,r6⟩ := hR
 have hp := List.pairwise_iff_getElem.1 hD
 have hak : D[k].1 = a := r3 k (by omega) (Nat.le_refl _) hk
 have hmem : D[k] ∈ D := List.getElem_mem _
 have hok := ho _ hmem
 rw [EdgeOk,hak] at hok
 refine ⟨r2,?_,?_,?_,?_,?_⟩
 ·unfold RiseS
  rw [List.pairwise_append]
  refine ⟨t2,by simp,fun x hx y hy => ?_⟩
  have : y = (a,m) := by simpa using hy
  subst this
  have := t4 x hx D[k] (List.mem_drop_iff_getElem.2 ⟨0,by omega,by simp⟩)
  show x.1 < a
  rw [hak] at this
  exact this
 ·intro g hg
  rcases List.mem_append.1 hg with hg | hg
  ·exact t3 g hg
  ·have : g = (a,m) := by simpa using hg
   subst this
   simp only
   omega
 ·intro g hg e he
  obtain ⟨i,hi,rfl⟩ := List.mem_iff_getElem.1 he
  rw [List.length_drop] at hi
  rw [List.getElem_drop]
  have hjl : j < D.length := by omega
  have h1 : D[j].1 ≤ D[j + i].1 := by
   rcases Nat.eq_zero_or_pos i with h | h
   ·subst h
    exact Int.le_refl _
   ·exact hp j (j + i) hjl (by omega) (by omega)
  have h2 : a ≤ D[j].1 := by
   rw [← hak]
   exact hp k j (by omega) hjl hk
  have h3 := hend hjl
  rcases List.mem_append.1 hg with hg | hg
  ·have h4 := t4 g hg D[k] (List.mem_drop_iff_getElem.2 ⟨0,by omega,by simp⟩)
   omega
  ·have : g = (a,m) := by simpa using hg
   subst this
   show a < _
   omega
 ·intro c
  have e : D.drop k = (D.drop k).take (j - k) ++ D.drop j := by
   have := (List.take_append_drop (j - k) (D.drop k)).symm
   rw [List.drop_drop,show k + (j - k) = j by omega] at this
   exact this
  have h5 := t5 c
  rw [e,cntE_append,r4 c] at h5
  rw [cntE_append]
  simp only [cntE]
  omega
 ·rw [List.length_append,List.length_singleton]
  omega
def ToldAll (D G : List (Int × Int)) : Prop := RiseS G ∧ (∀ c,cntE G c = cntE D c)
theorem told_all {D G : List (Int × Int)} (h : Told D G D.length) : ToldAll D G := by
 obtain ⟨_,t2,_,_,t5,_⟩ := h
 refine ⟨t2,fun c => ?_⟩
 have := t5 c
 simpa [cntE] using this
structure Held where
 n : Int
 from' : Int
 inn : Bool
 out : List (Int × Int)
def heldStep (p : Int → Bool) (s : Held) (e : Int × Int) : Held :=
 if p (s.n + e.2) = s.inn then { s with n := s.n + e.2 }
 else { n := s.n + e.2,from' := e.1,inn := !s.inn,out := if s.inn = true ∧ s.from' < e.1 then s.out ++ [(s.from',e.1 - 1)] else s.out }
def heldFrom (p : Int → Bool) (G : List (Int × Int)) : Held := G.foldl (heldStep p) { n := 0,from' := 0,inn := p 0,out := [] }
def heldEnd (s : Held) : List (Int × Int) := if s.inn = true ∧ s.from' ≤ 1114111 then s.out ++ [(s.from',1114111)] else s.out
theorem heldFrom_snoc (p : Int → Bool) (G : List (Int × Int)) (e : Int × Int) : heldFrom p (G ++ [e]) = heldStep p (heldFrom p G) e := by simp [heldFrom]
theorem held_n (p : Int → Bool) (G : List (Int × Int)) : ∀ s : Held,(G.foldl (heldStep p) s).n = s.n + sumE G := by
 induction G with
 | nil => intro s;simp [sumE]
 | cons e G ih =>
  intro s
  rw [List.foldl_cons,ih]
  have : (heldStep p s e).n = s.n + e.2 := by
   unfold heldStep
   split <;> rfl
  rw [this]
  simp only [sumE]
  omega
theorem held_len (p : Int → Bool) (G : List (Int × Int)) : ∀ s : Held,(G.foldl (heldStep p) s).out.length ≤ s.out.length + G.length := by
 induction G with
 | nil => intro s;simp
 | cons e G ih =>
  intro s
  rw [List.foldl_cons]
  have h1 := ih (heldStep p s e)
  have : (heldStep p s e).out.length ≤ s.out.length + 1 := by
   unfold heldStep
   split
   ·simp
   ·simp only
    split <;> simp
  rw [List.length_cons]
  omega
theorem sum_bound (N : Int) : ∀ G : List (Int × Int),(∀ g ∈ G,-N ≤ g.2 ∧ g.2 ≤ N) → -(N * G.length) ≤ sumE G ∧ sumE G ≤ N * G.length
 | [],_ => by simp [sumE]
 | g :: G,h => by
  have ih := sum_bound N G fun x hx => h x (List.mem_cons_of_mem _ hx)
  have h0 := h g (List.mem_cons_self ..)
  have e : N * ((g :: G).length : Int) = N * G.length + N := by rw [List.length_cons,Int.natCast_add,Int.mul_add];simp
  rw [e]
  simp only [sumE]
  omega
structure HInv (p : Int → Bool) (G : List (Int × Int)) (s : Held) : Prop where
 inn : s.inn = p s.n
 n : s.n = sumE G
 f0 : 0 ≤ s.from'
 f1 : s.from' ≤ 1114112
 right : RightR s.out
 e1 : endOf 0 s.out ≤ s.from' + 1
 e2 : s.inn = true → endOf 0 s.out ≤ s.from'
 at' : (s.from' = 0 ∧ s.out = []) ∨ ∃ g ∈ G,g.1 = s.from'
 low : ∀ c,0 ≤ c → c ≤ 1114111 → (HasR s.out c ↔ c < s.from' ∧ p (cntE G c) = true)
 high : ∀ c,0 ≤ c → s.from' ≤ c → p (cntE G c) = s.inn
theorem cnt_all : ∀ (G : List (Int × Int)) (c : Int),(∀ g ∈ G,g.1 ≤ c) → cntE G c = sumE G
 | [],_,_ => rfl
 | g :: G,c,h => by
  show (if g.1 ≤ c then g.2 else 0) + cntE G c = g.2 + sumE G
  rw [if_pos (h g (List.mem_cons_self ..)),cnt_all G c fun x hx => h x (List.mem_cons_of_mem _ hx)]
theorem cnt_snoc (G : List (Int × Int)) (e : Int × Int) (c : Int) : cntE (G ++ [e]) c = cntE G c + if e.1 ≤ c then e.2 else 0 := by
 rw [cntE_append]
 simp [cntE]
theorem sum_snoc (G : List (Int × Int)) (e : Int × Int) : sumE (G ++ [e]) = sumE G + e.2 := by
 induction G with
 | nil => simp [sumE]
 | cons g G ih =>
  rw [List.cons_append]
  simp only [sumE,ih]
  omega
theorem hinv_start (p : Int → Bool) : HInv p [] { n := 0,from' := 0,inn := p 0,out := [] } :=
 ⟨rfl,rfl,Int.le_refl _,by show (0 : Int) ≤ 1114112;decide,trivial,by simp [endOf],fun _ => by simp [endOf],.inl ⟨rfl,rfl⟩,fun c h0 _ => ⟨fun h => absurd h (has_nil c),fun h => by have : c < (0 : Int) := h.1;omega⟩,fun c _ _ => rfl⟩
theorem hinv_step (p : Int → Bool) (G : List (Int × Int)) (s : Held) (e : Int × Int) (h : HInv p G s) (hlt : ∀ g ∈ G,g.1 < e.1) (he0 : 0 ≤ e.1) (he1 : e.1 ≤ 1114112) : HInv p (G ++ [e]) (heldStep p s e) := by
 have hf : s.from' < e.1 ∨ (s.from' = 0 ∧ s.out = []) := by
  rcases h.at' with h1 | ⟨g,hg,h1⟩
  ·exact .inr h1
  ·have := hlt g hg
   exact .inl (by omega)
 have hfe : s.from' ≤ e.1 := by
  rcases hf with h1 | ⟨h1,_⟩ <;> omega
 have hge : ∀ c,e.1 ≤ c → cntE (G ++ [e]) c = s.n + e.2 := fun c hc => by
  rw [cnt_snoc,cnt_all G c fun g hg => by have := hlt g hg;omega,if_pos hc,h.n]
 have hls : ∀ c,c < e.1 → cntE (G ++ [e]) c = cntE G c := fun c hc => by
  rw [cnt_snoc,if_neg (by omega)]
  omega
 unfold heldStep
 split
 ·rename_i hp
  refine ⟨hp.symm,by rw [sum_snoc,← h.n],h.f0,h.f1,h.right,h.e1,h.e2,?_,fun c c0 c1 => ?_,fun c c0 c1 => ?_⟩
  ·rcases h.at' with h1 | ⟨g,hg,h1⟩
   ·exact .inl h1
   ·exact .inr ⟨g,List.mem_append_left _ hg,h1⟩
  ·rw [h.low c c0 c1]
   constructor
   ·rintro ⟨h1,h2⟩
    exact ⟨h1,by rw [hls c (by omega)];exact h2⟩
   ·rintro ⟨h1,h2⟩
    exact ⟨h1,by rw [hls c (by have : c < s.from' := h1;omega)] at h2;exact h2⟩
  ·by_cases hc : e.1 ≤ c
   ·rw [hge c hc]
    exact hp
   ·rw [hls c (by omega)]
    exact h.high c c0 c1
 ·rename_i hp
  have hp' : p (s.n + e.2) = !s.inn := by
   cases h1 : p (s.n + e.2) <;> cases h2 : s.inn <;> simp_all
  by_cases hi : s.inn = true ∧ s.from' < e.1
  ·rw [if_pos hi]
   refine ⟨hp'.symm,by rw [sum_snoc,← h.n],he0,he1,?_,?_,?_,.inr ⟨e,by simp,rfl⟩,fun c c0 c1 => ?_,fun c c0 c1 => ?_⟩
   ·exact (right_append _ _ _).2 ⟨h.right,⟨h.e2 hi.1,by show s.from' ≤ e.1 - 1;omega,by show e.1 - 1 ≤ 1114111;omega,trivial⟩⟩
   ·show endOf 0 (s.out ++ [(s.from',e.1 - 1)]) ≤ e.1 + 1
    rw [end_append]
    show e.1 - 1 + 2 ≤ e.1 + 1
    omega
   ·intro h1
    have h1' : (!s.inn) = true := h1
    rw [hi.1] at h1'
    cases h1'
   ·show HasR (s.out ++ [(s.from',e.1 - 1)]) c ↔ c < e.1 ∧ _
    rw [has_append,h.low c c0 c1,has_one]
    constructor
    ·rintro (⟨h1,h2⟩ | ⟨_,_,h3,h4⟩)
     ·exact ⟨by omega,by rw [hls c (by omega)];exact h2⟩
     ·have h3' : s.from' ≤ c := h3
      have h4' : c ≤ e.1 - 1 := h4
      exact ⟨by omega,by rw [hls c (by omega),h.high c c0 h3'];exact hi.1⟩
    ·rintro ⟨h1,h2⟩
     by_cases hc : c < s.from'
     ·exact .inl ⟨hc,by rw [hls c h1] at h2;exact h2⟩
     ·exact .inr ⟨c0,c1,by show s.from' ≤ c;omega,by show c ≤ e.1 - 1;omega⟩
   ·have c1' : e.1 ≤ c := c1
    rw [hge c c1']
    exact hp'
  ·rw [if_neg hi]
   refine ⟨hp'.symm,by rw [sum_snoc,← h.n],he0,he1,h.right,?_,?_,.inr ⟨e,by simp,rfl⟩,fun c c0 c1 => ?_,fun c c0 c1 => ?_⟩
   ·have := h.e1
    show endOf 0 s.out ≤ e.1 + 1
    omega
   ·intro h1
    have h1' : (!s.inn) = true := h1
    show endOf 0 s.out ≤ e.1
    rcases hf with h2 | ⟨_,h2⟩
    ·have := h.e1
     omega
    ·rw [h2]
     exact he0
   ·show HasR s.out c ↔ c < e.1 ∧ _
    rw [h.low c c0 c1]
    constructor
    ·rintro ⟨h1,h2⟩
     exact ⟨by omega,by rw [hls c (by omega)];exact h2⟩
    ·rintro ⟨h1,h2⟩
     rw [hls c h1] at h2
     by_cases hc : c < s.from'
     ·exact ⟨hc,h2⟩
     ·rw [h.high c c0 (by omega)] at h2
      exact absurd ⟨h2,by omega⟩ hi
   ·have c1' : e.1 ≤ c := c1
    rw [hge c c1']
    exact hp'
def TellOk (e : Int × Int) : Prop := 0 ≤ e.1 ∧ e.1 ≤ 1114112
theorem hinv_fold (p : Int → Bool) : ∀ (G pre : List (Int × Int)) (s : Held),HInv p pre s → RiseS (pre ++ G) → (∀ g ∈ G,TellOk g) → HInv p (pre ++ G) (G.foldl (heldStep p) s)
 | [],pre,s,h,_,_ => by simpa using h
 | e :: G,pre,s,h,hr,hb => by
  have e1 : pre ++ e :: G = (pre ++ [e]) ++ G := by simp
  have hr' := hr
  unfold RiseS at hr'
  rw [List.pairwise_append] at hr'
  have hb0 := hb e (List.mem_cons_self ..)
  rw [e1] at hr ⊢
  exact hinv_fold p G (pre ++ [e]) _ (hinv_step p pre s e h (fun g hg => hr'.2.2 g hg e (List.mem_cons_self ..)) hb0.1 hb0.2) hr fun g hg => hb g (List.mem_cons_of_mem _ hg)
theorem hinv_all (p : Int → Bool) (G : List (Int × Int)) (hr : RiseS G) (hb : ∀ g ∈ G,TellOk g) : HInv p G (heldFrom p G) := by
 have := hinv_fold p G [] _ (hinv_start p) (by simpa using hr) hb
 simpa [heldFrom] using this
theorem held_set (p : Int → Bool) (G : List (Int × Int)) (hr : RiseS G) (hb : ∀ g ∈ G,TellOk g) :
  RightR (heldEnd (heldFrom p G)) ∧ ∀ c,HasR (heldEnd (heldFrom p G)) c ↔ 0 ≤ c ∧ c ≤ 1114111 ∧ p (cntE G c) = true := by
 have h := hinv_all p G hr hb
 obtain ⟨s,hs⟩ : ∃ s,heldFrom p G = s := ⟨_,rfl⟩
 rw [hs] at h ⊢
 unfold heldEnd
 have hru : ∀ (l : List (Int × Int)) c,HasR l c → 0 ≤ c ∧ c ≤ 1114111 := fun l c h => ⟨h.1,h.2.1⟩
 by_cases hi : s.inn = true ∧ s.from' ≤ 1114111
 ·rw [if_pos hi]
  refine ⟨(right_append _ _ _).2 ⟨h.right,⟨h.e2 hi.1,hi.2,Int.le_refl _,trivial⟩⟩,fun c => ?_⟩
  rw [has_append,has_one]
  constructor
  ·rintro (h1 | ⟨c0,c1,h3,h4⟩)
   ·obtain ⟨c0,c1⟩ := hru _ _ h1
    exact ⟨c0,c1,((h.low c c0 c1).1 h1).2⟩
   ·exact ⟨c0,c1,by rw [h.high c c0 h3];exact hi.1⟩
  ·rintro ⟨c0,c1,h1⟩
   by_cases hc : c < s.from'
   ·exact .inl ((h.low c c0 c1).2 ⟨hc,h1⟩)
   ·exact .inr ⟨c0,c1,by show s.from' ≤ c;omega,c1⟩
 ·rw [if_neg hi]
  refine ⟨h.right,fun c => ?_⟩
  constructor
  ·intro h1
   obtain ⟨c0,c1⟩ := hru _ _ h1
   exact ⟨c0,c1,((h.low c c0 c1).1 h1).2⟩
  ·rintro ⟨c0,c1,h1⟩
   by_cases hc : c < s.from'
   ·exact (h.low c c0 c1).2 ⟨hc,h1⟩
   ·rw [h.high c c0 (by omega)] at h1
    exact absurd ⟨h1,by omega⟩ hi
end Go.Proofs.YtbclhkogjmmgnaaGreatDoor
set_option linter.unusedVariables false
namespace Go.Proofs.YtbclhkogjmmgnaaGreatDoor
open Go Go.RowKit
def I32 (x : Int) : Prop := -2147483648 ≤ x ∧ x ≤ 2147483647
def Rgs (w : World) (v : Value) (l : List (Int × Int)) : Prop :=
 ∃ a c,v = .slice a l.length c ∧ l.length ≤ c ∧ c ≤ maxLen ∧ (a = none → c = 0) ∧
  (l = [] ∨ ∃ b o,a = some ⟨b,o,none⟩ ∧ ∀ i (h : i < l.length),w.cell? ⟨b,o + i * 2,none⟩ = some (.int .i32 l[i].1) ∧ w.cell? ⟨b,o + i * 2 + 1,none⟩ = some (.int .i32 l[i].2)) ∧
  ∀ r ∈ l,I32 r.1 ∧ I32 r.2
theorem Rgs.below {w w' : World} {v : Value} {l : List (Int × Int)} (h : Rgs w v l) (hb : Below w.heap.size w w') : Rgs w' v l := by
 obtain ⟨a,c,h1,h2,h3,h4,h5,h6⟩ := h
 refine ⟨a,c,h1,h2,h3,h4,?_,h6⟩
 rcases h5 with h5 | ⟨b,o,e,hc⟩
 ·exact .inl h5
 ·exact .inr ⟨b,o,e,fun i hi => ⟨(hb.cell (World.block_lt_of_cell? w _ (hc i hi).1)).trans (hc i hi).1,(hb.cell (World.block_lt_of_cell? w _ (hc i hi).2)).trans (hc i hi).2⟩⟩
theorem below_drewNr {B : Nat} {a w : World} (h : Below B a w) : ∀ q,Below B a (w.drewN q)
 | 0 => h
 | q + 1 => (below_drewNr h q).drew
def Says (P : Prop) (w : World) (e : Ending) (w' : World) : Prop := ∃ B : Bool,e = .returned (.bool B) ∧ (B = true ↔ P) ∧ ∃ q,w' = w.drewN q
theorem right_split (l : List (Int × Int)) (m : Nat) (h : m < l.length) : RightR (l.take (m + 1)) ↔ RightR (l.take m) ∧ (endOf 0 (l.take m) ≤ l[m].1 ∧ l[m].1 ≤ l[m].2 ∧ l[m].2 ≤ 1114111) := by
 rw [List.take_succ_eq_append_getElem h]
 unfold RightR
 rw [right_append]
 simp [RightFrom]
theorem right_part (l : List (Int × Int)) (m : Nat) (h : RightR l) : RightR (l.take m) := by
 rw [← List.take_append_drop m l] at h
 exact ((right_append _ _ _).1 h).1
theorem end_take (l : List (Int × Int)) (m : Nat) (h : m + 1 ≤ l.length) : endOf 0 (l.take (m + 1)) = l[m].2 + 2 := by
 rw [List.take_succ_eq_append_getElem h,end_append]
theorem has_split (l : List (Int × Int)) (m : Nat) (h : m < l.length) (c : Int) : HasR (l.take (m + 1)) c ↔ HasR (l.take m) c ∨ (0 ≤ c ∧ c ≤ 1114111 ∧ l[m].1 ≤ c ∧ c ≤ l[m].2) := by
 rw [List.take_succ_eq_append_getElem h,has_append,has_one]
theorem has_part (l : List (Int × Int)) (m : Nat) (c : Int) (h : HasR (l.take m) c) : HasR l c := by
 rw [← List.take_append_drop m l,has_append]
 exact .inl h
theorem rgs_at {w : World} {b o : Nat} {l : List (Int × Int)} (hc : ∀ i (h : i < l.length),w.cell? ⟨b,o + i * 2,none⟩ = some (.int .i32 l[i].1) ∧ w.cell? ⟨b,o + i * 2 + 1,none⟩ = some (.int .i32 l[i].2)) (m : Nat) (h : m < l.length) :
  ∃ y1 y2,l[m]? = some (y1,y2) ∧ l.take (m + 1) = l.take m ++ [(y1,y2)] ∧ w.cell? ⟨b,o + m * 2,none⟩ = some (.int .i32 y1) ∧ w.cell? ⟨b,o + m * 2 + 1,none⟩ = some (.int .i32 y2) :=
 ⟨l[m].1,l[m].2,by simp [h],List.take_succ_eq_append_getElem h,(hc m h).1,(hc m h).2⟩
structure Fld where
 op : Int
 rune : Int
 set : List (Int × Int)
 at' : Int
 cap : Int
 name : ByteArray
 min : Int
 max : Int
 lazy : Bool
inductive Tr where
 | mk (f : Fld) (ks : List Tr)
def Tr.fld : Tr → Fld
 | .mk f _ => f
def Tr.kids : Tr → List Tr
 | .mk _ ks => ks
theorem Tr.lt {t : Tr} {k : Tr} (h : k ∈ t.kids) : SizeOf.sizeOf k < SizeOf.sizeOf t := by
 cases t with
 | mk f ks =>
  have := List.sizeOf_lt_of_mem (show k ∈ ks from h)
  simp only [Tr.mk.sizeOf_spec]
  omega
theorem Tr.ind {P : Tr → Prop} (h : ∀ t : Tr,(∀ k ∈ t.kids,P k) → P t) (t : Tr) : P t := by
 suffices hs : ∀ n,∀ t : Tr,SizeOf.sizeOf t < n → P t from hs _ t (Nat.lt_succ_self _)
 intro n
 induction n with
 | zero => intro t ht;omega
 | succ n ih => exact fun t ht => h t fun k hk => ih k (by have := Tr.lt hk;omega)
def I64 (x : Int) : Prop := -9223372036854775808 ≤ x ∧ x ≤ 9223372036854775807
def FldOk (f : Fld) : Prop := I64 f.op ∧ I32 f.rune ∧ I64 f.at' ∧ I64 f.cap ∧ I64 f.min ∧ I64 f.max ∧ f.name.size ≤ 4503599627370496 ∧ f.set.length ≤ 17592186044416
def treC (f : Fld) (kv sv : Value) : Array Value := #[.int .i64 f.op,kv,.int .i32 f.rune,sv,.int .i64 f.at',.int .i64 f.cap,.string f.name,.int .i64 f.min,.int .i64 f.max,.bool f.lazy]
theorem treC_size (f : Fld) (kv sv : Value) : (treC f kv sv).size = 10 := rfl
def CellsAt (w : World) (b o : Nat) (cs : Array Value) : Prop := ∀ j (h : j < cs.size),w.cell? ⟨b,o + j,none⟩ = some cs[j]
theorem CellsAt.below {w w' : World} {b o : Nat} {cs : Array Value} (h : CellsAt w b o cs) (hb : Below w.heap.size w w') : CellsAt w' b o cs :=
 fun j hj => (hb.cell (World.block_lt_of_cell? w _ (h j hj))).trans (h j hj)
def Foot (F : Nat → Prop) (v : Value) (l : List (Int × Int)) : Prop := l = [] ∨ ∀ b,v.ownBlock = some b → F b
def TreF (F : Nat → Prop) (w : World) (t : Tr) (v : Value) : Prop :=
 ∃ (A : Option Addr) (c : Nat) (sv : Value),v = .agg (treC t.fld (.slice A t.kids.length c) sv) ∧ (Rgs w sv t.fld.set ∧ Foot F sv t.fld.set) ∧ FldOk t.fld ∧ t.kids.length ≤ c ∧ c ≤ maxLen ∧ t.kids.length ≤ 1172812402961 ∧ (A = none → c = 0) ∧
  (t.kids = [] ∨ ∃ b o,A = some ⟨b,o,none⟩ ∧ F b ∧ ∀ (i : Nat) (h : i < t.kids.length),∃ cs : Array Value,CellsAt w b (o + i * 10) cs ∧ TreF F w (t.kids[i]) (.agg cs))
termination_by SizeOf.sizeOf t
decreasing_by exact Tr.lt (List.getElem_mem h)
def KdsF (F : Nat → Prop) (w : World) (ks : List Tr) (v : Value) : Prop :=
 ∃ (A : Option Addr) (c : Nat),v = .slice A ks.length c ∧ ks.length ≤ c ∧ c ≤ maxLen ∧ ks.length ≤ 1172812402961 ∧ (A = none → c = 0) ∧
  (ks = [] ∨ ∃ b o,A = some ⟨b,o,none⟩ ∧ F b ∧ ∀ (i : Nat) (h : i < ks.length),∃ cs : Array Value,CellsAt w b (o + i * 10) cs ∧ TreF F w (ks[i]) (.agg cs))
theorem treF_iff (F : Nat → Prop) (w : World) (t : Tr) (v : Value) : TreF F w t v ↔ ∃ kv sv,v = .agg (treC t.fld kv sv) ∧ (Rgs w sv t.fld.set ∧ Foot F sv t.fld.set) ∧ FldOk t.fld ∧ KdsF F w t.kids kv := by
 rw [TreF]
 constructor
 ·rintro ⟨A,c,sv,h1,h2,h3,h4,h5,h8,h6,h7⟩
  exact ⟨_,sv,h1,h2,h3,A,c,rfl,h4,h5,h8,h6,h7⟩
 ·rintro ⟨kv,sv,h1,h2,h3,A,c,rfl,h4,h5,h8,h6,h7⟩
  exact ⟨A,c,sv,h1,h2,h3,h4,h5,h8,h6,h7⟩
def SameOn (F : Nat → Prop) (w w' : World) : Prop := ∀ b,F b → b < w.heap.size → w'.heap[b]? = w.heap[b]?
theorem SameOn.cell {F : Nat → Prop} {w w' : World} (h : SameOn F w w') {b o : Nat} {u : Value} (hF : F b) (hc : w.cell? ⟨b,o,none⟩ = some u) : w'.cell? ⟨b,o,none⟩ = some u := by
 have := h b hF (World.block_lt_of_cell? w _ hc)
 rw [← hc]
 simp [World.cell?,this]
theorem CellsAt.same {F : Nat → Prop} {w w' : World} {b o : Nat} {cs : Array Value} (h : CellsAt w b o cs) (hs : SameOn F w w') (hF : F b) : CellsAt w' b o cs := fun j hj => hs.cell hF (h j hj)
theorem rgs_same {F G : Nat → Prop} {w w' : World} {v : Value} {l : List (Int × Int)} (h : Rgs w v l) (hf : Foot F v l) (hs : SameOn F w w') (hFG : ∀ b,F b → b < w.heap.size → G b) : Rgs w' v l ∧ Foot G v l := by
 obtain ⟨a,c,h1,h2,h3,h4,h5,h6⟩ := h
 rcases h5 with h5 | ⟨b,o,e,hc⟩
 ·exact ⟨⟨a,c,h1,h2,h3,h4,.inl h5,h6⟩,.inl h5⟩
 ·by_cases hl : l = []
  ·exact ⟨⟨a,c,h1,h2,h3,h4,.inl hl,h6⟩,.inl hl⟩
  ·have hb : F b := (hf.resolve_left hl) b (by rw [h1,e];rfl)
   have hlt : b < w.heap.size := by
    have h0 : 0 < l.length := List.length_pos_iff.2 hl
    exact World.block_lt_of_cell? w _ (hc 0 h0).1
   refine ⟨⟨a,c,h1,h2,h3,h4,.inr ⟨b,o,e,fun i hi => ⟨hs.cell hb (hc i hi).1,hs.cell hb (hc i hi).2⟩⟩,h6⟩,.inr fun b' hb' => ?_⟩
   rw [h1,e] at hb'
   have : b = b' := by simpa [Value.ownBlock] using hb'
   rw [← this]
   exact hFG b hb hlt
theorem TreF.same' {F G : Nat → Prop} {w w' : World} (hs : SameOn F w w') (hFG : ∀ b,F b → b < w.heap.size → G b) (t : Tr) : ∀ v,TreF F w t v → TreF G w' t v := by
 refine Tr.ind (P := fun t => ∀ v,TreF F w t v → TreF G w' t v) (fun t ih v h => ?_) t
 rw [treF_iff] at h ⊢
 obtain ⟨kv,sv,h1,h2,h3,A,c,k1,k2,k3,k4,k5,k6⟩ := h
 refine ⟨kv,sv,h1,rgs_same h2.1 h2.2 hs hFG,h3,A,c,k1,k2,k3,k4,k5,?_⟩
 by_cases hk : t.kids = []
 ·exact .inl hk
 rcases k6 with k6 | ⟨b,o,e,hF,hc⟩
 ·exact .inl k6
 ·have h0 : 0 < t.kids.length := List.length_pos_iff.2 hk
  have hlt : b < w.heap.size := by
   obtain ⟨cs,q1,q2⟩ := hc 0 h0
   rw [treF_iff] at q2
   obtain ⟨kv',sv',q3,-⟩ := q2
   injection q3 with q3
   subst q3
   exact World.block_lt_of_cell? w _ (q1 0 (Nat.lt_of_lt_of_eq (by omega) (treC_size _ _ _).symm))
  refine .inr ⟨b,o,e,hFG b hF hlt,fun i hi => ?_⟩
  obtain ⟨cs,q1,q2⟩ := hc i hi
  exact ⟨cs,q1.same hs hF,ih _ (List.getElem_mem hi) _ q2⟩
theorem TreF.same {F G : Nat → Prop} {w w' : World} {t : Tr} {v : Value} (h : TreF F w t v) (hs : SameOn F w w') (hFG : ∀ b,F b → b < w.heap.size → G b) : TreF G w' t v := TreF.same' hs hFG t v h
def Tre (w : World) (t : Tr) (v : Value) : Prop := TreF (fun _ => True) w t v
def Kds (w : World) (ks : List Tr) (v : Value) : Prop := KdsF (fun _ => True) w ks v
theorem same_below {F : Nat → Prop} {w w' : World} (hb : Below w.heap.size w w') : SameOn F w w' := fun b _ h => hb.block b h
theorem TreF.tre {F : Nat → Prop} {w : World} {t : Tr} {v : Value} (h : TreF F w t v) : Tre w t v := h.same (fun _ _ _ => rfl) fun _ _ _ => trivial
theorem tre_iff (w : World) (t : Tr) (v : Value) : Tre w t v ↔ ∃ kv sv,v = .agg (treC t.fld kv sv) ∧ Rgs w sv t.fld.set ∧ FldOk t.fld ∧ Kds w t.kids kv := by
 unfold Tre
 rw [treF_iff]
 constructor
 ·rintro ⟨kv,sv,h1,h2,h3,h4⟩
  exact ⟨kv,sv,h1,h2.1,h3,h4⟩
 ·rintro ⟨kv,sv,h1,h2,h3,h4⟩
  exact ⟨kv,sv,h1,⟨h2,.inr fun _ _ => trivial⟩,h3,h4⟩
theorem Tre.below {w w' : World} {t : Tr} {v : Value} (h : Tre w t v) (hb : Below w.heap.size w w') : Tre w' t v := TreF.same h (same_below hb) fun _ _ _ => trivial
theorem KdsF.same {F G : Nat → Prop} {w w' : World} {ks : List Tr} {v : Value} (h : KdsF F w ks v) (hs : SameOn F w w') (hFG : ∀ b,F b → b < w.heap.size → G b) : KdsF G w' ks v := by
 obtain ⟨A,c,k1,k2,k3,k4,k5,k6⟩ := h
 refine ⟨A,c,k1,k2,k3,k4,k5,?_⟩
 by_cases hk : ks = []
 ·exact .inl hk
 rcases k6 with k6 | ⟨b,o,e,hF,hc⟩
 ·exact .inl k6
 ·have h0 : 0 < ks.length := List.length_pos_iff.2 hk
  have hlt : b < w.heap.size := by
   obtain ⟨cs,q1,q2⟩ := hc 0 h0
   rw [treF_iff] at q2
   obtain ⟨kv',sv',q3,-⟩ := q2
   injection q3 with q3
   subst q3
   exact World.block_lt_of_cell? w _ (q1 0 (Nat.lt_of_lt_of_eq (by omega) (treC_size _ _ _).symm))
  refine .inr ⟨b,o,e,hFG b hF hlt,fun i hi => ?_⟩
  obtain ⟨cs,q1,q2⟩ := hc i hi
  exact ⟨cs,q1.same hs hF,q2.same hs hFG⟩
theorem Kds.below {w w' : World} {ks : List Tr} {v : Value} (h : Kds w ks v) (hb : Below w.heap.size w w') : Kds w' ks v := KdsF.same h (same_below hb) fun _ _ _ => trivial
theorem Kds.at' {w : World} {ks : List Tr} {A : Option Addr} {n c : Nat} (h : Kds w ks (.slice A n c)) (i : Nat) (hi : i < ks.length) :
  ∃ b o,A = some ⟨b,o,none⟩ ∧ n = ks.length ∧ ∃ kv sv,CellsAt w b (o + i * 10) (treC (ks[i]).fld kv sv) ∧ Tre w (ks[i]) (.agg (treC (ks[i]).fld kv sv)) := by
 obtain ⟨A',c',e,h2,h3,-,h4,h5⟩ := h
 injection e with e1 e2 e3
 subst e1 e2 e3
 rcases h5 with h5 | ⟨b,o,e,-,hc⟩
 ·rw [h5] at hi
  simp at hi
 ·obtain ⟨cs,k1,k2⟩ := hc i hi
  have k3 : Tre w ks[i] (.agg cs) := k2
  rw [tre_iff] at k3
  obtain ⟨kv,sv,k4,-⟩ := k3
  injection k4 with k4
  subst k4
  exact ⟨b,o,e,rfl,kv,sv,k1,k2⟩
theorem CellsAt.ten {w : World} {b o : Nat} {f : Fld} {kv sv : Value} (h : CellsAt w b o (treC f kv sv)) :
  w.cell? ⟨b,o,none⟩ = some (.int .i64 f.op) ∧ w.cell? ⟨b,o + 1,none⟩ = some kv ∧ w.cell? ⟨b,o + 2,none⟩ = some (.int .i32 f.rune) ∧ w.cell? ⟨b,o + 3,none⟩ = some sv ∧ w.cell? ⟨b,o + 4,none⟩ = some (.int .i64 f.at') ∧
  w.cell? ⟨b,o + 5,none⟩ = some (.int .i64 f.cap) ∧ w.cell? ⟨b,o + 6,none⟩ = some (.string f.name) ∧ w.cell? ⟨b,o + 7,none⟩ = some (.int .i64 f.min) ∧ w.cell? ⟨b,o + 8,none⟩ = some (.int .i64 f.max) ∧ w.cell? ⟨b,o + 9,none⟩ = some (.bool f.lazy) :=
 ⟨h 0 (Nat.lt_of_lt_of_eq (by omega) (treC_size f kv sv).symm),h 1 (Nat.lt_of_lt_of_eq (by omega) (treC_size f kv sv).symm),h 2 (Nat.lt_of_lt_of_eq (by omega) (treC_size f kv sv).symm),h 3 (Nat.lt_of_lt_of_eq (by omega) (treC_size f kv sv).symm),h 4 (Nat.lt_of_lt_of_eq (by omega) (treC_size f kv sv).symm),h 5 (Nat.lt_of_lt_of_eq (by omega) (treC_size f kv sv).symm),h 6 (Nat.lt_of_lt_of_eq (by omega) (treC_size f kv sv).symm),h 7 (Nat.lt_of_lt_of_eq (by omega) (treC_size f kv sv).symm),h 8 (Nat.lt_of_lt_of_eq (by omega) (treC_size f kv sv).symm),h 9 (Nat.lt_of_lt_of_eq (by omega) (treC_size f kv sv).symm)⟩
theorem Tre.parts {w : World} {t : Tr} {v : Value} (h : Tre w t v) : ∃ kv sv,v = .agg (treC t.fld kv sv) ∧ Rgs w sv t.fld.set ∧ FldOk t.fld ∧ Kds w t.kids kv := (tre_iff w t v).1 h
theorem Tre.opened {w : World} {t : Tr} {v : Value} (h : Tre w t v) : ∃ (A : Option Addr) (n c : Nat) (a2 : Option Addr) (s c2 : Nat),t.kids.length = n ∧ t.fld.set.length = s ∧
  v = .agg #[.int .i64 t.fld.op,.slice A n c,.int .i32 t.fld.rune,.slice a2 s c2,.int .i64 t.fld.at',.int .i64 t.fld.cap,.string t.fld.name,.int .i64 t.fld.min,.int .i64 t.fld.max,.bool t.fld.lazy] ∧
  n ≤ 1172812402961 ∧ s ≤ 17592186044416 ∧ Kds w t.kids (.slice A n c) ∧ Rgs w (.slice a2 s c2) t.fld.set ∧ FldOk t.fld := by
 obtain ⟨kv,sv,rfl,hS,hF,hK⟩ := h.parts
 have hS' := hS
 have hK' := hK
 obtain ⟨A,c,rfl,-,-,hk1,-⟩ := hK
 obtain ⟨a2,c2,rfl,-⟩ := hS
 exact ⟨A,_,c,a2,_,c2,rfl,rfl,rfl,hk1,hF.2.2.2.2.2.2.2,hK',hS',hF⟩
theorem cellsAt_new (w : World) (cs : Array Value) (t : TypeId) : CellsAt (w.alloc (.cells cs t)) w.heap.size 0 cs := fun j hj => by
 rw [World.cell?_alloc_at _ _ _ _ rfl,Nat.zero_add,Array.getElem?_eq_getElem hj]
def Box10 (W : World) (b : Nat) (x0 x1 x2 x3 x4 x5 x6 x7 x8 x9 : Value) : Prop :=
 W.cell? ⟨b,0,none⟩ = some x0 ∧ W.cell? ⟨b,1,none⟩ = some x1 ∧ W.cell? ⟨b,2,none⟩ = some x2 ∧ W.cell? ⟨b,3,none⟩ = some x3 ∧ W.cell? ⟨b,4,none⟩ = some x4 ∧
  W.cell? ⟨b,5,none⟩ = some x5 ∧ W.cell? ⟨b,6,none⟩ = some x6 ∧ W.cell? ⟨b,7,none⟩ = some x7 ∧ W.cell? ⟨b,8,none⟩ = some x8 ∧ W.cell? ⟨b,9,none⟩ = some x9
theorem box10_new (w : World) (t : TypeId) (x0 x1 x2 x3 x4 x5 x6 x7 x8 x9 : Value) : Box10 (w.alloc (.cells #[x0,x1,x2,x3,x4,x5,x6,x7,x8,x9] t)) w.heap.size x0 x1 x2 x3 x4 x5 x6 x7 x8 x9 := by
 have h := cellsAt_new w #[x0,x1,x2,x3,x4,x5,x6,x7,x8,x9] t
 have g : ∀ j (hj : j < 10),(w.alloc (.cells #[x0,x1,x2,x3,x4,x5,x6,x7,x8,x9] t)).cell? ⟨w.heap.size,j,none⟩ = #[x0,x1,x2,x3,x4,x5,x6,x7,x8,x9][j]? := fun j hj => by
  have := h j hj
  rw [Nat.zero_add] at this
  rw [this,Array.getElem?_eq_getElem]
 exact ⟨g 0 (by omega),g 1 (by omega),g 2 (by omega),g 3 (by omega),g 4 (by omega),g 5 (by omega),g 6 (by omega),g 7 (by omega),g 8 (by omega),g 9 (by omega)⟩
theorem Box10.below {w w' : World} {b : Nat} {x0 x1 x2 x3 x4 x5 x6 x7 x8 x9 : Value} (h : Box10 w b x0 x1 x2 x3 x4 x5 x6 x7 x8 x9) (hb : Below w.heap.size w w') : Box10 w' b x0 x1 x2 x3 x4 x5 x6 x7 x8 x9 := by
 obtain ⟨h0,h1,h2,h3,h4,h5,h6,h7,h8,h9⟩ := h
 have g : ∀ j u,w.cell? ⟨b,j,none⟩ = some u → w'.cell? ⟨b,j,none⟩ = some u := fun j u hu => (hb.cell (World.block_lt_of_cell? w _ hu)).trans hu
 exact ⟨g 0 _ h0,g 1 _ h1,g 2 _ h2,g 3 _ h3,g 4 _ h4,g 5 _ h5,g 6 _ h6,g 7 _ h7,g 8 _ h8,g 9 _ h9⟩
def Kid10 (W : World) (b o : Nat) (x0 x1 x2 x3 x4 x5 x6 x7 x8 x9 : Value) : Prop :=
 W.cell? ⟨b,o,none⟩ = some x0 ∧ W.cell? ⟨b,o + 1,none⟩ = some x1 ∧ W.cell? ⟨b,o + 2,none⟩ = some x2 ∧ W.cell? ⟨b,o + 3,none⟩ = some x3 ∧ W.cell? ⟨b,o + 4,none⟩ = some x4 ∧
  W.cell? ⟨b,o + 5,none⟩ = some x5 ∧ W.cell? ⟨b,o + 6,none⟩ = some x6 ∧ W.cell? ⟨b,o + 7,none⟩ = some x7 ∧ W.cell? ⟨b,o + 8,none⟩ = some x8 ∧ W.cell? ⟨b,o + 9,none⟩ = some x9
theorem Kds.kid {w : World} {ks : List Tr} {A : Option Addr} {n c : Nat} (h : Kds w ks (.slice A n c)) (k : Nat) (hk : k < ks.length) :
  ∃ (b o : Nat) (tk : Tr) (kv sv : Value),A = some ⟨b,o,none⟩ ∧ ks[k] = tk ∧ tk ∈ ks ∧
   Kid10 w b (o + k * 10) (.int .i64 tk.fld.op) kv (.int .i32 tk.fld.rune) sv (.int .i64 tk.fld.at') (.int .i64 tk.fld.cap) (.string tk.fld.name) (.int .i64 tk.fld.min) (.int .i64 tk.fld.max) (.bool tk.fld.lazy) ∧
   Tre w tk (.agg #[.int .i64 tk.fld.op,kv,.int .i32 tk.fld.rune,sv,.int .i64 tk.fld.at',.int .i64 tk.fld.cap,.string tk.fld.name,.int .i64 tk.fld.min,.int .i64 tk.fld.max,.bool tk.fld.lazy]) := by
 obtain ⟨b,o,hA,-,kv,sv,hC,hT⟩ := h.at' k hk
 exact ⟨b,o,ks[k],kv,sv,hA,rfl,List.getElem_mem hk,hC.ten,hT⟩
theorem below_two {w W W' : World} (h : Below w.heap.size w W) (k : Below W.heap.size W W') : Below w.heap.size w W' := h.trans (k.mono h.size)
def Tr.para {α : Type} (f : Tr → List α → α) (t : Tr) : α := f t (t.kids.attach.map fun k => Tr.para f k.1)
termination_by SizeOf.sizeOf t
decreasing_by exact Tr.lt k.2
theorem Tr.para_eq {α : Type} (f : Tr → List α → α) (t : Tr) : t.para f = f t (t.kids.map (Tr.para f)) := by
 rw [Tr.para]
 congr 1
 exact List.attach_map_val
def partsR : Tr → Nat := Tr.para fun t l => 1 + t.fld.set.length + l.sum
theorem partsR_eq (t : Tr) : partsR t = 1 + t.fld.set.length + (t.kids.map partsR).sum := Tr.para_eq _ t
theorem sum_mem_le : ∀ {l : List Nat} {x : Nat},x ∈ l → x ≤ l.sum
 | y :: l,x,h => by
  rcases List.mem_cons.1 h with rfl | h
  ·simp
  ·have := sum_mem_le h
   simp
   omega
theorem partsR_kid {t k : Tr} (h : k ∈ t.kids) : partsR k < partsR t := by
 rw [partsR_eq t]
 have := sum_mem_le (List.mem_map_of_mem (f := partsR) h)
 omega
def maxL : List Nat → Nat
 | [] => 0
 | x :: l => max x (maxL l)
theorem maxL_append (a b : List Nat) : maxL (a ++ b) = max (maxL a) (maxL b) := by
 induction a with
 | nil => simp [maxL]
 | cons x a ih => rw [List.cons_append,maxL,maxL,ih,Nat.max_assoc]
def depthR : Tr → Nat := Tr.para fun _ l => maxL l + 1
theorem depthR_eq (t : Tr) : depthR t = maxL (t.kids.map depthR) + 1 := Tr.para_eq _ t
theorem maxL_le {l : List Nat} {n : Nat} (h : ∀ x ∈ l,x ≤ n) : maxL l ≤ n := by
 induction l with
 | nil => simp [maxL]
 | cons x l ih =>
  rw [maxL]
  have h1 := h x (by simp)
  have h2 := ih fun y hy => h y (by simp [hy])
  omega
def clipR (n : Nat) : Nat := min n 4001
def weightN (f : Fld) (m n : Nat) : Nat :=
 if f.op = 6 then clipR (2 + n) else if f.op = 7 ∨ f.op = 8 ∨ f.op = 9 ∨ f.op = 11 then clipR (1 + n) else
 if f.op = 10 then clipR ((clipR (max (max f.min f.max) 1).toNat) * n + clipR (max (max f.min f.max) 1).toNat + 1) else if f.op = 12 then clipR (n + clipR m) else 1
def weightR : Tr → Nat := Tr.para fun t l => weightN t.fld t.kids.length (clipR l.sum)
theorem weightR_eq (t : Tr) : weightR t = weightN t.fld t.kids.length (clipR (t.kids.map weightR).sum) := Tr.para_eq _ t
theorem weightN_le (f : Fld) (m n : Nat) : weightN f m n ≤ 4001 := by
 unfold weightN clipR
 split
 ·omega
 ·split
  ·omega
  ·split
   ·exact Nat.min_le_right _ _
   ·split <;> omega
theorem weightR_le (t : Tr) : weightR t ≤ 4001 := by rw [weightR_eq];exact weightN_le _ _ _
def SaysN (n : Nat) (w : World) (e : Ending) (w' : World) : Prop := e = .returned (.int .i64 n) ∧ Below w.heap.size w w'
theorem rhas_any (v : Value) (l : List (Int × Int)) (x : Int) (w : World) (h : Rgs w v l) :
  Calls Tryz.prog 17 #[v,.int .i32 x] w (Says (HasR l x) w) := by
 obtain ⟨a,c,rfl,h2,h3,h4,h5,h6⟩ := h
 have hlen : l.length ≤ 9223372036854775807 := by unfold maxLen at h3;omega
 have H5 := Hd h5
 clear h5 h6 h4 h2 h3
 go_enter Tryz.func17,Tryz.ntmps17
 go_wp2
 go_loopw [5] (fun i wr => ∃ m : Nat,m ≤ l.length ∧ i = .int .i64 m ∧ wr = w ∧ ¬ HasR (l.take m) x) (fun i _ => l.length - (intOf i).toNat)
 case atStart => exact ⟨0,Nat.zero_le _,rfl,rfl,has_nil x⟩
 case round =>
  obtain ⟨m,hm,rfl,rfl,hR⟩ := hrel
  have HR := Hd hR
  clear hR
  by_cases hlt : m < l.length
  ·have hltz : (m : Int) < (l.length : Int) := by omega
   by_cases q0 : 0 ≤ x
   ·by_cases q1 : x ≤ 1114111
    ·rcases H5.out with h5 | ⟨b,o,rfl,hc⟩
     ·rw [h5] at hlt
      simp at hlt
     obtain ⟨c1,c2⟩ := hc m hlt
     have hsp := has_split l m hlt x
     obtain ⟨y,hy⟩ : ∃ y,l[m] = y := ⟨_,rfl⟩
     rw [hy] at c1 c2 hsp
     obtain ⟨y1,y2⟩ := y
     simp only at c1 c2
     have HS := Hd hsp
     clear hsp hc hy
     by_cases q2 : y1 ≤ x
     ·by_cases q3 : x ≤ y2
      ·go_wp2
       go_ret
       exact ⟨true,rfl,by simp;exact has_part l (m + 1) x (HS.out.2 (.inr ⟨q0,q1,q2,q3⟩)),0,rfl⟩
      ·go_wp2
       go_roundw
       case rel => exact ⟨m + 1,by omega,by go_num,by trivial,fun h => (HS.out.1 h).elim HR.out fun h => by have := h.2.2.2;omega⟩
       case measure => simp [intOf];omega
     ·go_wp2
      go_roundw
      case rel => exact ⟨m + 1,by omega,by go_num,by trivial,fun h => (HS.out.1 h).elim HR.out fun h => by have := h.2.2.1;omega⟩
      case measure => simp [intOf];omega
    ·go_wp2
     go_ret
     exact ⟨false,rfl,by simp;exact fun h => by have := h.2.1;omega,0,rfl⟩
   ·go_wp2
    go_ret
    exact ⟨false,rfl,by simp;exact fun h => by have := h.1;omega,0,rfl⟩
  ·have e : l.take m = l := List.take_of_length_le (by omega)
   have hr := HR.out
   rw [e] at hr
   go_wp2
   go_ret
   exact ⟨false,rfl,by simp [hr],0,rfl⟩
theorem rsame_any (v u : Value) (l k : List (Int × Int)) (w : World) (h : Rgs w v l) (g : Rgs w u k) :
  Calls Tryz.prog 28 #[v,u] w (Says (l = k) w) := by
 obtain ⟨a,c,rfl,h2,h3,h4,h5,h6⟩ := h
 obtain ⟨a',c',rfl,g2,g3,g4,g5,g6⟩ := g
 have hlen : l.length ≤ 9223372036854775807 := by unfold maxLen at h3;omega
 have hlen' : k.length ≤ 9223372036854775807 := by unfold maxLen at g3;omega
 have H5 := Hd h5;have G5 := Hd g5
 clear h5 h6 h4 h2 h3 g5 g6 g4 g2 g3
 go_enter Tryz.func28,Tryz.ntmps28
 by_cases hk : l.length = k.length
 ·have HK := Hd hk
  rw [← hk]
  clear hk
  go_wp2
  go_loopw [5] (fun i wr => ∃ m : Nat,m ≤ l.length ∧ i = .int .i64 m ∧ (∃ q,wr = w.drewN q) ∧ l.take m = k.take m) (fun i _ => l.length - (intOf i).toNat)
  case atStart => exact ⟨0,Nat.zero_le _,rfl,⟨0,rfl⟩,rfl⟩
  case round =>
   obtain ⟨m,hm,rfl,⟨q,rfl⟩,hR⟩ := hrel
   have HR := Hd hR
   clear hR
   by_cases hlt : m < l.length
   ·have hltk : m < k.length := by rw [← HK.out];exact hlt
    rcases H5.out with h5 | ⟨b,o,rfl,hc⟩
    ·rw [h5] at hlt
     simp at hlt
    rcases G5.out with g5 | ⟨b',o',rfl,hc'⟩
    ·rw [g5] at hltk
     simp at hltk
    obtain ⟨y1,y2,hy,hsp,c1,c2⟩ := rgs_at hc m hlt
    obtain ⟨z1,z2,hz,hsk,d1,d2⟩ := rgs_at hc' m hltk
    have hne : (y1,y2) ≠ (z1,z2) → l ≠ k := fun h e => h (by rw [e,hz] at hy;exact (Option.some.inj hy).symm)
    have HS := Hd hsp;have HT := Hd hsk;have HN := Hd hne
    clear hsp hsk hne hc hc' hy hz hltk
    have hltz : (m : Int) < (l.length : Int) := by omega
    by_cases q1 : y1 = z1
    ·subst q1
     by_cases q2 : y2 = z2
     ·subst q2
      go_wp2_with fail
      go_big_quiet (fail)
      go_wp2
      go_roundw
      case rel => exact ⟨m + 1,by omega,by go_num,⟨_,by first | with_reducible rfl | exact World.drewN_drewN _ _ _⟩,by rw [HS.out,HT.out,HR.out]⟩
      case measure => simp [intOf];omega
     ·go_wp2_with fail
      go_big_quiet (fail)
      go_wp2
      go_ret
      refine ⟨false,rfl,?_,⟨_,World.drewN_drewN _ _ _⟩⟩
      have := HN.out (by simp [q2])
      simp [this]
    ·go_wp2_with fail
     go_big_quiet (fail)
     go_wp2
     go_ret
     refine ⟨false,rfl,?_,⟨_,World.drewN_drewN _ _ _⟩⟩
     have := HN.out (by simp [q1])
     simp [this]
   ·have e : l.take m = l := List.take_of_length_le (by omega)
    have e' : k.take m = k := List.take_of_length_le (by rw [← HK.out];omega)
    have hr := HR.out
    rw [e,e'] at hr
    have HRR := Hd hr
    clear hr e e'
    go_wp2
    go_ret
    exact ⟨true,rfl,by simp [HRR.out],q,rfl⟩
 ·have hkz : ((l.length : Int) != (k.length : Int)) = true := by simp;omega
  have hkn : (l.length != k.length) = true := by simp;exact hk
  have hkb : (l.length == k.length) = false := by simp;exact hk
  have hkd : decide (l.length = k.length) = false := decide_eq_false hk
  go_wp2
  go_ret
  exact ⟨false,rfl,by simp;intro e;exact hk (by rw [e]),0,rfl⟩
end Go.Proofs.YtbclhkogjmmgnaaGreatDoor
