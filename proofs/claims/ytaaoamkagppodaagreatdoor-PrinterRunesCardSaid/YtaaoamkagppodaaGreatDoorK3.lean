/- Texts merged by program. No condition. -/
import Derived.Test.YtaaoamkagppodaaGreatDoorSq
import Derived.Test.YtaaoamkagppodaaGreatDoorSh
import Derived.WalkSmall
import Derived.BigQuiet
import Derived.Test.YtaaoamkagppodaaGreatDoorProg
set_option maxHeartbeats 1600000
set_option maxRecDepth 100000
namespace Go.Proofs.YtaaoamkagppodaaGreatDoor
def Jan (l:List (Int × Int)) (c:Int):Prop:=0≤c∧c≤1114111∧∃r∈l,r.1≤c∧c≤r.2
def Jav:Int→List (Int × Int)→Prop
 | _,[]=>True
 | lo,r::l=>lo≤r.1∧r.1≤r.2∧r.2≤1114111∧Jav (r.2+2) l
def Jak (l:List (Int × Int)):Prop:=Jav 0 l
def Jcg:Int→List (Int × Int)→Int
 | lo,[]=>lo
 | _,r::l=>Jcg (r.2+2) l
theorem Jav.le {lo lo':Int}:∀ {l:List (Int × Int)},Jav lo l→lo'≤lo→Jav lo' l
 | [],_,_=>trivial
 | _::_,⟨h1,h2,h3,h4⟩,h=>⟨by omega,h2,h3,h4⟩
theorem Jiz:∀(a b:List (Int × Int)) (lo:Int),Jav lo (a++b)↔Jav lo a∧Jav (Jcg lo a) b
 | [],b,lo=>by simp[Jav,Jcg]
 | r::a,b,lo=>by
  show (_∧_∧_∧Jav (r.2+2) (a++b))↔(_∧_∧_∧Jav (r.2+2) a)∧Jav (Jcg (r.2+2) a) b;rw[Jiz a b (r.2+2)]
  constructor
  ·rintro⟨h1,h2,h3,h4,h5⟩;exact⟨⟨h1,h2,h3,h4⟩,h5⟩
  ·rintro⟨⟨h1,h2,h3,h4⟩,h5⟩;exact⟨h1,h2,h3,h4,h5⟩
theorem JhH:∀(l:List (Int × Int)) (lo c:Int),Jav lo l→Jan l c→lo≤c
 | [],_,_,_,h=>by
  obtain⟨_,_,r,hr,_⟩:=h
  simp at hr
 | r::l,lo,c,⟨h1,h2,_,h4⟩,⟨h5,h6,q,hq,h7,h8⟩=>by
  rcases List.mem_cons.1 hq with rfl|hq
  ·omega
  ·have:=JhH l (r.2+2) c h4 ⟨h5,h6,q,hq,h7,h8⟩;omega
theorem JcT (r:Int × Int) (l:List (Int × Int)) (c:Int):Jan (r::l) c↔(0≤c∧c≤1114111∧r.1≤c∧c≤r.2)∨Jan l c:=by
 unfold Jan;simp only[List.mem_cons,exists_eq_or_imp]
 constructor
 ·rintro⟨h1,h2,h3|h3⟩
  ·exact .inl ⟨h1,h2,h3⟩
  ·exact .inr ⟨h1,h2,h3⟩
 ·rintro(⟨h1,h2,h3⟩|⟨h1,h2,h3⟩)
  ·exact⟨h1,h2,.inl h3⟩
  ·exact⟨h1,h2,.inr h3⟩
theorem Jgf (a b:List (Int × Int)) (c:Int):Jan (a++b) c↔Jan a c∨Jan b c:=by
 induction a with
 | nil=>simp[Jan]
 | cons r a ih=>rw[List.cons_append,JcT,JcT,ih,or_assoc]
theorem Jgl (c:Int):¬Jan [] c:=by simp[Jan]
theorem Jo4:∀(a b:List (Int × Int)) (lo:Int),0≤lo→Jav lo a→Jav lo b→(∀c,lo≤c→(Jan a c↔Jan b c))→a=b
 | [],[],_,_,_,_,_=>rfl
 | [],r::b,lo,h0,_,⟨h1,h2,h3,_⟩,h=>by
  have:=(h r.1 h1).2 ((JcT _ _ _).2 (.inl ⟨by omega,by omega,by omega,h2⟩));exact absurd this (Jgl _)
 | r::a,[],lo,h0,⟨h1,h2,h3,_⟩,_,h=>by
  have:=(h r.1 h1).1 ((JcT _ _ _).2 (.inl ⟨by omega,by omega,by omega,h2⟩));exact absurd this (Jgl _)
 | r::a,q::b,lo,h0,⟨h1,h2,h3,h4⟩,⟨g1,g2,g3,g4⟩,h=>by
  have e1:r.1=q.1:=by
   rcases Int.lt_trichotomy r.1 q.1 with hlt|he|hlt
   ·have:=(h r.1 h1).1 ((JcT _ _ _).2 (.inl ⟨by omega,by omega,by omega,h2⟩))
    rcases (JcT _ _ _).1 this with h5|h5
    ·omega
    ·have:=JhH b _ _ g4 h5;omega
   ·exact he
   ·have:=(h q.1 g1).2 ((JcT _ _ _).2 (.inl ⟨by omega,by omega,by omega,g2⟩))
    rcases (JcT _ _ _).1 this with h5|h5
    ·omega
    ·have:=JhH a _ _ h4 h5;omega
  have e2:r.2=q.2:=by
   rcases Int.lt_trichotomy r.2 q.2 with hlt|he|hlt
   ·have:=(h (r.2+1) (by omega)).2 ((JcT _ _ _).2 (.inl ⟨by omega,by omega,by omega,by omega⟩))
    rcases (JcT _ _ _).1 this with h5|h5
    ·omega
    ·have:=JhH a _ _ h4 h5;omega
   ·exact he
   ·have:=(h (q.2+1) (by omega)).1 ((JcT _ _ _).2 (.inl ⟨by omega,by omega,by omega,by omega⟩))
    rcases (JcT _ _ _).1 this with h5|h5
    ·omega
    ·have:=JhH b _ _ g4 h5;omega
  have e:r=q:=Prod.ext e1 e2;subst e;have:=Jo4 a b (r.2+2) (by omega) h4 g4 fun c hc=>by
   have:=h c (by omega);rw[JcT,JcT]at this
   constructor
   ·intro h5
    rcases this.1 (.inr h5)with h6|h6
    ·omega
    ·exact h6
   ·intro h5
    rcases this.2 (.inr h5)with h6|h6
    ·omega
    ·exact h6
  rw[this]
theorem Jl1 (a b:List (Int × Int)) (ha:Jak a) (hb:Jak b) (h:∀c,Jan a c↔Jan b c):a=b:=
 Jo4 a b 0 (Int.le_refl _) ha hb fun c _=>h c
def Je6:Int→List (Int × Int)→List (Int × Int)
 | f,[]=>if f≤1114111 then [(f,1114111)]else []
 | f,r::l=>(if f<r.1 then [(f,r.1-1)]else [])++Je6 (r.2+1) l
theorem JmA:∀(l:List (Int × Int)) (f:Int),Jav f l→Jav f (Je6 f l)
 | [],f,_=>by
  unfold Je6
  split
  ·exact⟨Int.le_refl _,by assumption,Int.le_refl _,trivial⟩
  ·trivial
 | r::l,f,⟨h1,h2,h3,h4⟩=>by
  have ih:=JmA l (r.2+1) (h4.le (by omega));unfold Je6
  split
  ·exact⟨Int.le_refl _,by omega,by omega,ih.le (by show r.1-1+2≤_;omega)⟩
  ·exact ih.le (by omega)
theorem JnY:∀(l:List (Int × Int)) (f c:Int),0≤f→Jav f l→(Jan (Je6 f l) c↔f≤c∧c≤1114111∧¬Jan l c)
 | [],f,c,h0,_=>by
  unfold Je6
  split
  ·rw[JcT];have:=Jgl c
   constructor
   ·rintro(h|h)
    ·exact⟨h.2.2.1,h.2.1,this⟩
    ·exact absurd h this
   ·rintro⟨h1,h2,_⟩;exact .inl ⟨by omega,h2,h1,h2⟩
  ·constructor
   ·intro h;exact absurd h (Jgl c)
   ·rintro⟨h1,h2,_⟩;omega
 | r::l,f,c,h0,⟨h1,h2,h3,h4⟩=>by
  have ih:=JnY l (r.2+1) c (by omega) (h4.le (by omega));have hlo:Jan l c→r.2+2≤c:=JhH l _ _ h4;unfold Je6;rw[Jgf,ih,JcT]
  constructor
  ·rintro(h|⟨h5,h6,h7⟩)
   ·split at h
    ·rcases (JcT _ _ _).1 h with h|h
     ·refine⟨h.2.2.1,h.2.1,?_⟩;have h8:=h.2.2.2;simp only at h8;rintro(h9|h9)
      ·omega
      ·have:=hlo h9;omega
     ·exact absurd h (Jgl c)
    ·exact absurd h (Jgl c)
   ·refine⟨by omega,h6,?_⟩;rintro(h9|h9)
    ·omega
    ·exact h7 h9
  ·rintro⟨h5,h6,h7⟩;have h8:¬(0≤c∧c≤1114111∧r.1≤c∧c≤r.2):=fun h=>h7 (.inl h)
   by_cases hc:c<r.1
   ·left
    rw[if_pos (by omega)];exact(JcT _ _ _).2 (.inl ⟨by omega,h6,h5,by show c≤r.1-1;omega⟩)
   ·right
    exact⟨by omega,h6,fun h=>h7 (.inr h)⟩
theorem Jec:∀(l:List (Int × Int)) (f:Int),f≤1114112→Jav f l→(l.length:Int)≤1114112-f
 | [],f,h,_=>by simp;omega
 | r::l,f,h,⟨h1,h2,h3,h4⟩=>by
  by_cases hr:r.2+2≤1114112
  ·have ih:=Jec l (r.2+2) hr h4;simp only[List.length_cons];omega
  ·have:l=[]:=by
    rcases l with _|⟨q,l⟩
    ·rfl
    ·obtain⟨g1,g2,g3,_⟩:=h4;omega
   subst this
   simp
   omega
def Fit (r:Int × Int):Prop:=0≤r.1∧r.1≤r.2∧r.2≤1114111
theorem JjV (r:Int × Int) (c:Int):Jan [r] c↔0≤c∧c≤1114111∧r.1≤c∧c≤r.2:=by
 rw[JcT];exact⟨fun h=>h.resolve_right (Jgl c),.inl⟩
theorem Jkq:∀(o:List (Int × Int)) (p:Int × Int) (lo:Int),Jcg lo (o++[p])=p.2+2
 | [],_,_=>rfl
 | r::o,p,_=>Jkq o p (r.2+2)
theorem JlA:∀(l:List (Int × Int)) (lo:Int),0≤lo→Jav lo l→∀r∈l,Fit r
 | [],_,_,_,r,hr=>by simp at hr
 | q::l,lo,h0,⟨h1,h2,h3,h4⟩,r,hr=>by
  rcases List.mem_cons.1 hr with rfl|hr
  ·exact⟨by omega,h2,h3⟩
  ·exact JlA l (q.2+2) (by omega) h4 r hr
end Go.Proofs.YtaaoamkagppodaaGreatDoor
namespace Go.Proofs.YtaaoamkagppodaaGreatDoor
def JbV:List (Int × Int)→Int→Int
 | [],_=>0
 | r::l,c=>(if r.1≤c∧c≤r.2 then 1 else 0)+JbV l c
def JaM:List (Int × Int)→Int→Int
 | [],_=>0
 | e::E,c=>(if e.1≤c then e.2 else 0)+JaM E c
def JdA:List (Int × Int)→Int
 | []=>0
 | e::E=>e.2+JdA E
def JeR (r:Int × Int):List (Int × Int):=if max r.1 0≤min r.2 1114111 then [(max r.1 0,1),(min r.2 1114111+1,-1)]else []
def JcI (l:List (Int × Int)):List (Int × Int):=l.flatMap JeR
def JbG (ls:List (List (Int × Int))):List (Int × Int):=ls.flatMap JcI
theorem JhW:∀(a b:List (Int × Int)) (c:Int),JaM (a++b) c=JaM a c+JaM b c
 | [],b,c=>by simp[JaM]
 | e::a,b,c=>by
  show _+JaM (a++b) c=_+JaM a c+JaM b c;rw[JhW a b c];omega
theorem Jk6:∀(a b:List (Int × Int)) (c:Int),JbV (a++b) c=JbV a c+JbV b c
 | [],b,c=>by simp[JbV]
 | e::a,b,c=>by
  show _+JbV (a++b) c=_+JbV a c+JbV b c;rw[Jk6 a b c];omega
theorem Juu (r:Int × Int) (c:Int) (h0:0≤c) (h1:c≤1114111):JaM (JeR r) c=if r.1≤c∧c≤r.2 then 1 else 0:=by
 unfold JeR
 split
 ·simp only[JaM]
  split<;>split<;>split<;>omega
 ·simp only[JaM]
  split<;>omega
theorem JqR:∀(l:List (Int × Int)) (c:Int),0≤c→c≤1114111→JaM (JcI l) c=JbV l c
 | [],_,_,_=>rfl
 | r::l,c,h0,h1=>by
  have e:JcI (r::l)=JeR r++JcI l:=rfl;rw[e,JhW,Juu r c h0 h1,JqR l c h0 h1];rfl
theorem JoN (l:List (Int × Int)) (ls:List (List (Int × Int))):JbG (l::ls)=JcI l++JbG ls:=rfl
theorem Jqi (a b:List (Int × Int)):JcI (a++b)=JcI a++JcI b:=by simp[JcI]
theorem JwG (a b:List (List (Int × Int))):JbG (a++b)=JbG a++JbG b:=by simp[JbG]
theorem Jra (r:Int × Int):(JeR r).length≤2:=by
 unfold JeR
 split<;>simp
theorem Jkr:∀l:List (Int × Int),(JcI l).length≤2*l.length
 | []=>Nat.le_refl _
 | r::l=>by
  have e:JcI (r::l)=JeR r++JcI l:=rfl;have h1:=Jra r;have h2:=Jkr l;rw[e,List.length_append,List.length_cons];omega
def Jg3 (e:Int × Int):Prop:=0≤e.1∧e.1≤1114112 ∧ -1≤e.2∧e.2≤1
theorem Jvt (r:Int × Int):∀e∈JeR r,Jg3 e:=by
 intro e he;unfold JeR at he
 split at he
 ·simp at he
  rcases he with rfl|rfl
  ·unfold Jg3;simp only;omega
  ·unfold Jg3;simp only;omega
 ·simp at he
theorem Jse (ls:List (List (Int × Int))):∀e∈JbG ls,Jg3 e:=by
 intro e he;simp only[JbG,JcI,List.mem_flatMap]at he;obtain⟨l,_,r,_,h⟩:=he;exact Jvt r e h
theorem JfJ:∀(l:List (Int × Int)) (c:Int),0≤c→c≤1114111→(Jan l c↔0<JbV l c)
 | [],c,_,_=>by simp[Jan,JbV]
 | r::l,c,h0,h1=>by
  have hn:0≤JbV l c:=by
   have hp:∀k:List (Int × Int),0≤JbV k c:=fun k=>by
    induction k with
    | nil=>simp[JbV]
    | cons q k ih =>
     show 0≤_+JbV k c
     split<;>omega
   exact hp l
  rw[JcT,JfJ l c h0 h1];show _↔0<_+JbV l c
  split<;>omega
theorem Jny (k:List (Int × Int)) (c:Int):0≤JbV k c:=by
 induction k with
 | nil=>simp[JbV]
 | cons q k ih =>
  show 0≤_+JbV k c
  split<;>omega
theorem Jlh:∀(l:List (Int × Int)) (lo c:Int),Jav lo l→JbV l c≤1∧(c<lo→JbV l c=0)
 | [],_,_,_=>by simp[JbV]
 | r::l,lo,c,⟨h1,h2,_,h4⟩=>by
  have ih:=Jlh l (r.2+2) c h4;have hn:=Jny l c;show _+JbV l c≤1∧(_→_+JbV l c=0)
  by_cases hc:c<r.2+2
  ·have:=ih.2 hc
   constructor
   ·split<;>omega
   ·intro h;rw[if_neg (by omega)];omega
  ·constructor
   ·rw[if_neg (by omega)];omega
   ·intro h;omega
theorem Jw4 {a b:List (Int × Int)} (h:a.Perm b) (c:Int):JaM a c=JaM b c:=by
 induction h with
 | nil=>rfl
 | cons x _ ih=>simp only[JaM];omega
 | swap x y l=>simp only[JaM];omega
 | trans _ _ ih1 ih2=>exact ih1.trans ih2
def Jks (E:List (Int × Int)):Prop:=E.Pairwise fun a b=>a.1≤b.1
def Jf1 (E:List (Int × Int)):Prop:=E.Pairwise fun a b=>a.1<b.1
def Jis (D:List (Int × Int)) (G:List (Int × Int)) (k:Nat):Prop:=
 k≤D.length∧Jf1 G∧(∀g∈G,0≤g.1∧g.1≤1114112 ∧ -(D.length:Int)≤g.2∧g.2≤D.length)∧(∀g∈G,∀e∈D.drop k,g.1<e.1)∧(∀c,JaM G c+JaM (D.drop k) c=JaM D c)∧G.length≤k
theorem JwT (D:List (Int × Int)):Jis D [] 0:=⟨Nat.zero_le _,List.Pairwise.nil,by simp,by simp,fun c=>by simp[JaM],Nat.le_refl _⟩
def Run (D:List (Int × Int)) (k j:Nat) (a m:Int):Prop:=
 k≤j∧j≤D.length∧(∀i (h:i<D.length),k≤i→i<j→D[i].1=a)∧(∀c,JaM ((D.drop k).take (j-k)) c=if a≤c then m else 0) ∧ -((j-k:Nat):Int)≤m∧m≤((j-k:Nat):Int)
theorem JvE (D:List (Int × Int)) (k:Nat) (a:Int) (h:k≤D.length):Run D k k a 0:=
 ⟨Nat.le_refl _,h,fun i _ h1 h2=>by omega,fun c=>by simp[JaM],by simp,by simp⟩
theorem Jrl {D:List (Int × Int)} {k j:Nat} {a m:Int} (h:Run D k j a m) (hj:j<D.length) (ha:D[j].1=a) (hm : -1≤D[j].2∧D[j].2≤1):Run D k (j+1) a (m+D[j].2):=by
 obtain⟨h1,h2,h3,h4,h5,h6⟩:=h;refine⟨by omega,hj,fun i hi hki hij=>?_,fun c=>?_,by omega,by omega⟩
 ·rcases Nat.lt_or_ge i j with h|h
  ·exact h3 i hi hki h
  ·have:i=j:=by omega
   subst this;exact ha
 ·have e:(D.drop k).take (j+1-k)=(D.drop k).take (j-k)++[D[j]]:=by
   rw[show j+1-k=j-k+1 by omega,List.take_succ_eq_append_getElem (by rw[List.length_drop];omega)]
   congr 2
   rw[List.getElem_drop]
   congr 1
   omega
  rw[e,JhW,h4 c];simp only[JaM,ha]
  split<;>omega
theorem Jpf {D G:List (Int × Int)} {k j:Nat} {a m:Int} (hT:Jis D G k) (hR:Run D k j a m) (hk:k<j) (hD:Jks D) (ho:∀e∈D,Jg3 e) (hend:∀h:j<D.length,D[j].1≠a):Jis D (G++[(a,m)]) j:=by
 obtain⟨t1,t2,t3,t4,t5,t6⟩:=hT;obtain⟨r1,r2,r3,r4,r5,r6⟩:=hR;have hp:=List.pairwise_iff_getElem.1 hD;have hak:D[k].1=a:=r3 k (by omega) (Nat.le_refl _) hk;have hmem:D[k]∈D:=List.getElem_mem _;have hok:=ho _ hmem;rw[Jg3,hak]at hok;refine⟨r2,?_,?_,?_,?_,?_⟩
 ·unfold Jf1;rw[List.pairwise_append];refine⟨t2,by simp,fun x hx y hy=>?_⟩;have:y=(a,m):=by simpa using hy
  subst this;have:=t4 x hx D[k] (List.mem_drop_iff_getElem.2 ⟨0,by omega,by simp⟩);show x.1<a;rw[hak]at this;exact this
 ·intro g hg
  rcases List.mem_append.1 hg with hg|hg
  ·exact t3 g hg
  ·have:g=(a,m):=by simpa using hg
   subst this;simp only;omega
 ·intro g hg e he;obtain⟨i,hi,rfl⟩:=List.mem_iff_getElem.1 he;rw[List.length_drop]at hi;rw[List.getElem_drop];have hjl:j<D.length:=by omega
  have h1:D[j].1≤D[j+i].1:=by
   rcases Nat.eq_zero_or_pos i with h|h
   ·subst h;exact Int.le_refl _
   ·exact hp j (j+i) hjl (by omega) (by omega)
  have h2:a≤D[j].1:=by
   rw[←hak];exact hp k j (by omega) hjl hk
  have h3:=hend hjl
  rcases List.mem_append.1 hg with hg|hg
  ·have h4:=t4 g hg D[k] (List.mem_drop_iff_getElem.2 ⟨0,by omega,by simp⟩);omega
  ·have:g=(a,m):=by simpa using hg
   subst this;show a<_;omega
 ·intro c;have e:D.drop k=(D.drop k).take (j-k)++D.drop j:=by
   have:=(List.take_append_drop (j-k) (D.drop k)).symm;rw[List.drop_drop,show k+(j-k)=j by omega]at this;exact this
  have h5:=t5 c;rw[e,JhW,r4 c]at h5;rw[JhW];simp only[JaM];omega
 ·rw[List.length_append,List.length_singleton];omega
def Jx5 (D G:List (Int × Int)):Prop:=Jf1 G∧(∀c,JaM G c=JaM D c)
theorem JwR {D G:List (Int × Int)} (h:Jis D G D.length):Jx5 D G:=by
 obtain⟨_,t2,_,_,t5,_⟩:=h;refine⟨t2,fun c=>?_⟩;have:=t5 c
 simpa [JaM]using this
structure Jfl where
 n:Int
 from':Int
 inn:Bool
 out:List (Int × Int)
def JdP (p:Int→Bool) (s:Jfl) (e:Int × Int):Jfl:=
 if p (s.n+e.2)=s.inn then { s with n:=s.n+e.2 }
 else { n:=s.n+e.2,from':=e.1,inn := !s.inn,out:=if s.inn=true∧s.from'<e.1 then s.out++[(s.from',e.1-1)]else s.out }
def JeL (p:Int→Bool) (G:List (Int × Int)):Jfl:=G.foldl (JdP p) { n:=0,from':=0,inn:=p 0,out:=[] }
def JhO (s:Jfl):List (Int × Int):=if s.inn=true∧s.from'≤1114111 then s.out++[(s.from',1114111)]else s.out
theorem JsG (p:Int→Bool) (G:List (Int × Int)) (e:Int × Int):JeL p (G++[e])=JdP p (JeL p G) e:=by simp[JeL]
theorem Jy9 (p:Int→Bool) (G:List (Int × Int)):∀s:Jfl,(G.foldl (JdP p) s).n=s.n+JdA G:=by
 induction G with
 | nil=>intro s;simp[JdA]
 | cons e G ih =>
  intro s;rw[List.foldl_cons,ih];have:(JdP p s e).n=s.n+e.2:=by
   unfold JdP
   split<;>rfl
  rw[this];simp only[JdA];omega
theorem Jvu (p:Int→Bool) (G:List (Int × Int)):∀s:Jfl,(G.foldl (JdP p) s).out.length≤s.out.length+G.length:=by
 induction G with
 | nil=>intro s;simp
 | cons e G ih =>
  intro s;rw[List.foldl_cons];have h1:=ih (JdP p s e);have:(JdP p s e).out.length≤s.out.length+1:=by
   unfold JdP
   split
   ·simp
   ·simp only
    split<;>simp
  rw[List.length_cons];omega
theorem Jnx (N:Int):∀G:List (Int × Int),(∀g∈G,-N≤g.2∧g.2≤N) → -(N*G.length)≤JdA G∧JdA G≤N*G.length
 | [],_=>by simp[JdA]
 | g::G,h=>by
  have ih:=Jnx N G fun x hx=>h x (List.mem_cons_of_mem _ hx)
  have h0:=h g (List.mem_cons_self ..);have e:N*((g::G).length:Int)=N*G.length+N:=by rw[List.length_cons,Int.natCast_add,Int.mul_add];simp
  rw[e];simp only[JdA];omega
structure JhP (p:Int→Bool) (G:List (Int × Int)) (s:Jfl):Prop where
 inn:s.inn=p s.n
 n:s.n=JdA G
 f0:0≤s.from'
 f1:s.from'≤1114112
 right:Jak s.out
 e1:Jcg 0 s.out≤s.from'+1
 e2:s.inn=true→Jcg 0 s.out≤s.from'
 at':(s.from'=0∧s.out=[])∨∃g∈G,g.1=s.from'
 low:∀c,0≤c→c≤1114111→(Jan s.out c↔c<s.from'∧p (JaM G c)=true)
 high:∀c,0≤c→s.from'≤c→p (JaM G c)=s.inn
theorem Jo7:∀(G:List (Int × Int)) (c:Int),(∀g∈G,g.1≤c)→JaM G c=JdA G
 | [],_,_=>rfl
 | g::G,c,h=>by
  show (if g.1≤c then g.2 else 0)+JaM G c=g.2+JdA G;rw[if_pos (h g (List.mem_cons_self ..)),Jo7 G c fun x hx=>h x (List.mem_cons_of_mem _ hx)]
theorem JoS (G:List (Int × Int)) (e:Int × Int) (c:Int):JaM (G++[e]) c=JaM G c+if e.1≤c then e.2 else 0:=by
 rw[JhW]
 simp[JaM]
theorem Jli (G:List (Int × Int)) (e:Int × Int):JdA (G++[e])=JdA G+e.2:=by
 induction G with
 | nil=>simp[JdA]
 | cons g G ih =>
  rw[List.cons_append];simp only[JdA,ih];omega
theorem Jsc (p:Int→Bool):JhP p [] { n:=0,from':=0,inn:=p 0,out:=[] } :=
 ⟨rfl,rfl,Int.le_refl _,by show (0:Int)≤1114112;decide,trivial,by simp[Jcg],fun _=>by simp[Jcg],.inl ⟨rfl,rfl⟩,fun c h0 _=>⟨fun h=>absurd h (Jgl c),fun h=>by have:c<(0:Int):=h.1;omega⟩,fun c _ _=>rfl⟩
theorem JvH (p:Int→Bool) (G:List (Int × Int)) (s:Jfl) (e:Int × Int) (h:JhP p G s) (hlt:∀g∈G,g.1<e.1) (he0:0≤e.1) (he1:e.1≤1114112):JhP p (G++[e]) (JdP p s e):=by
 have hf:s.from'<e.1∨(s.from'=0∧s.out=[]):=by
  rcases h.at' with h1|⟨g,hg,h1⟩
  ·exact .inr h1
  ·have:=hlt g hg;exact .inl (by omega)
 have hfe:s.from'≤e.1:=by
  rcases hf with h1|⟨h1,_⟩<;>omega
 have hge:∀c,e.1≤c→JaM (G++[e]) c=s.n+e.2:=fun c hc=>by
  rw[JoS,Jo7 G c fun g hg=>by have:=hlt g hg;omega,if_pos hc,h.n]
 have hls:∀c,c<e.1→JaM (G++[e]) c=JaM G c:=fun c hc=>by
  rw[JoS,if_neg (by omega)];omega
 unfold JdP
 split
 ·rename_i hp
  refine⟨hp.symm,by rw[Jli,←h.n],h.f0,h.f1,h.right,h.e1,h.e2,?_,fun c c0 c1=>?_,fun c c0 c1=>?_⟩
  ·rcases h.at' with h1|⟨g,hg,h1⟩
   ·exact .inl h1
   ·exact .inr ⟨g,List.mem_append_left _ hg,h1⟩
  ·rw[h.low c c0 c1]
   constructor
   ·rintro⟨h1,h2⟩;exact⟨h1,by rw[hls c (by omega)];exact h2⟩
   ·rintro⟨h1,h2⟩;exact⟨h1,by rw[hls c (by have:c<s.from':=h1;omega)]at h2;exact h2⟩
  ·by_cases hc:e.1≤c
   ·rw[hge c hc];exact hp
   ·rw[hls c (by omega)];exact h.high c c0 c1
 ·rename_i hp
  have hp':p (s.n+e.2) = !s.inn:=by
   cases h1:p (s.n+e.2)<;>cases h2:s.inn<;>simp_all
  by_cases hi:s.inn=true∧s.from'<e.1
  ·rw[if_pos hi];refine⟨hp'.symm,by rw[Jli,←h.n],he0,he1,?_,?_,?_,.inr ⟨e,by simp,rfl⟩,fun c c0 c1=>?_,fun c c0 c1=>?_⟩
   ·exact(Jiz _ _ _).2 ⟨h.right,⟨h.e2 hi.1,by show s.from'≤e.1-1;omega,by show e.1-1≤1114111;omega,trivial⟩⟩
   ·show Jcg 0 (s.out++[(s.from',e.1-1)])≤e.1+1;rw[Jkq];show e.1-1+2≤e.1+1;omega
   ·intro h1;have h1':(!s.inn)=true:=h1;rw[hi.1]at h1'
    cases h1'
   ·show Jan (s.out++[(s.from',e.1-1)]) c↔c<e.1∧_;rw[Jgf,h.low c c0 c1,JjV]
    constructor
    ·rintro(⟨h1,h2⟩|⟨_,_,h3,h4⟩)
     ·exact⟨by omega,by rw[hls c (by omega)];exact h2⟩
     ·have h3':s.from'≤c:=h3
      have h4':c≤e.1-1:=h4;exact⟨by omega,by rw[hls c (by omega),h.high c c0 h3'];exact hi.1⟩
    ·rintro⟨h1,h2⟩
     by_cases hc:c<s.from'
     ·exact .inl ⟨hc,by rw[hls c h1]at h2;exact h2⟩
     ·exact .inr ⟨c0,c1,by show s.from'≤c;omega,by show c≤e.1-1;omega⟩
   ·have c1':e.1≤c:=c1;rw[hge c c1'];exact hp'
  ·rw[if_neg hi];refine⟨hp'.symm,by rw[Jli,←h.n],he0,he1,h.right,?_,?_,.inr ⟨e,by simp,rfl⟩,fun c c0 c1=>?_,fun c c0 c1=>?_⟩
   ·have:=h.e1;show Jcg 0 s.out≤e.1+1;omega
   ·intro h1;have h1':(!s.inn)=true:=h1;show Jcg 0 s.out≤e.1
    rcases hf with h2|⟨_,h2⟩
    ·have:=h.e1;omega
    ·rw[h2];exact he0
   ·show Jan s.out c↔c<e.1∧_;rw[h.low c c0 c1]
    constructor
    ·rintro⟨h1,h2⟩;exact⟨by omega,by rw[hls c (by omega)];exact h2⟩
    ·rintro⟨h1,h2⟩;rw[hls c h1]at h2
     by_cases hc:c<s.from'
     ·exact⟨hc,h2⟩
     ·rw[h.high c c0 (by omega)]at h2;exact absurd ⟨h2,by omega⟩ hi
   ·have c1':e.1≤c:=c1;rw[hge c c1'];exact hp'
def Jj8 (e:Int × Int):Prop:=0≤e.1∧e.1≤1114112
theorem Jpr (p:Int→Bool):∀(G pre:List (Int × Int)) (s:Jfl),JhP p pre s→Jf1 (pre++G)→(∀g∈G,Jj8 g)→JhP p (pre++G) (G.foldl (JdP p) s)
 | [],pre,s,h,_,_=>by simpa using h
 | e::G,pre,s,h,hr,hb=>by
  have e1:pre++e::G=(pre++[e])++G:=by simp
  have hr':=hr;unfold Jf1 at hr';rw[List.pairwise_append]at hr';have hb0:=hb e (List.mem_cons_self ..);rw[e1]at hr ⊢;exact Jpr p G (pre++[e]) _ (JvH p pre s e h (fun g hg=>hr'.2.2 g hg e (List.mem_cons_self ..)) hb0.1 hb0.2) hr fun g hg=>hb g (List.mem_cons_of_mem _ hg)
theorem Jns (p:Int→Bool) (G:List (Int × Int)) (hr:Jf1 G) (hb:∀g∈G,Jj8 g):JhP p G (JeL p G):=by
 have:=Jpr p G [] _ (Jsc p) (by simpa using hr) hb
 simpa [JeL]using this
theorem Jrh (p:Int→Bool) (G:List (Int × Int)) (hr:Jf1 G) (hb:∀g∈G,Jj8 g) :
  Jak (JhO (JeL p G))∧∀c,Jan (JhO (JeL p G)) c↔0≤c∧c≤1114111∧p (JaM G c)=true:=by
 have h:=Jns p G hr hb;obtain⟨s,hs⟩:∃s,JeL p G=s:=⟨_,rfl⟩;rw[hs]at h ⊢;unfold JhO;have hru:∀(l:List (Int × Int)) c,Jan l c→0≤c∧c≤1114111:=fun l c h=>⟨h.1,h.2.1⟩
 by_cases hi:s.inn=true∧s.from'≤1114111
 ·rw[if_pos hi];refine⟨(Jiz _ _ _).2 ⟨h.right,⟨h.e2 hi.1,hi.2,Int.le_refl _,trivial⟩⟩,fun c=>?_⟩;rw[Jgf,JjV]
  constructor
  ·rintro(h1|⟨c0,c1,h3,h4⟩)
   ·obtain⟨c0,c1⟩:=hru _ _ h1;exact⟨c0,c1,((h.low c c0 c1).1 h1).2⟩
   ·exact⟨c0,c1,by rw[h.high c c0 h3];exact hi.1⟩
  ·rintro⟨c0,c1,h1⟩
   by_cases hc:c<s.from'
   ·exact .inl ((h.low c c0 c1).2 ⟨hc,h1⟩)
   ·exact .inr ⟨c0,c1,by show s.from'≤c;omega,c1⟩
 ·rw[if_neg hi];refine⟨h.right,fun c=>?_⟩
  constructor
  ·intro h1;obtain⟨c0,c1⟩:=hru _ _ h1;exact⟨c0,c1,((h.low c c0 c1).1 h1).2⟩
  ·rintro⟨c0,c1,h1⟩
   by_cases hc:c<s.from'
   ·exact(h.low c c0 c1).2 ⟨hc,h1⟩
   ·rw[h.high c c0 (by omega)]at h1;exact absurd ⟨h1,by omega⟩ hi
end Go.Proofs.YtaaoamkagppodaaGreatDoor
set_option linter.unusedVariables false
namespace Go.Proofs.YtaaoamkagppodaaGreatDoor
open Go Go.RowKit
def Whole (w:World) (g:Nat) (t:TypeId) (cs:Array Value):Prop:=w.heap[g]? = some (.cells cs t (0,0))
section
variable {w w':World} {g:Nat} {t:TypeId} {cs:Array Value}
theorem Whole.lt (h:Whole w g t cs):g<w.heap.size:=(Array.getElem?_eq_some_iff.1 h).1
theorem Whole.cell (h:Whole w g t cs) (i:Nat):w.cell? ⟨g,i,none⟩=cs[i]? := cell_of_row w g i cs t (0,0) h
theorem Whole.free (h:Whole w g t cs) (i:Nat):w.frozen? ⟨g,i,none⟩=false:=by
 unfold Whole at h
 simp[World.frozen?,h]
theorem Whole.alloc (h:Whole w g t cs) (o:Obj):Whole (w.alloc o) g t cs:=(Below.heap_alloc w o g h.lt).trans h
theorem Whole.drew (h:Whole w g t cs):Whole w.drew g t cs:=h
theorem Whole.below {B:Nat} (h:Whole w g t cs) (hb:Below B w w') (hg:g<B):Whole w' g t cs:=(hb.block g hg).trans h
theorem Whole.grown {row:Option Nat} (h:Whole w g t cs) (hb:w.grownBy w' row) (hg:row≠some g):Whole w' g t cs:=(hb.block g h.lt (fun e=>hg e.symm)).trans h
theorem Whole.store (h:Whole w g t cs) (i:Nat) (u:Value):Whole (w.setCell ⟨g,i,none⟩ u) g t (cs.setIfInBounds i u):=by
 unfold Whole at h ⊢
 simp[World.setCell,Array.getElem?_modify,h]
theorem Whole.far (h:Whole w g t cs) {g':Nat} (hne:g≠g') (i:Nat) (u:Value):Whole (w.setCell ⟨g',i,none⟩ u) g t cs:=(Below.heap_setCell w _ u g hne).trans h
theorem Jgj {base:Nat} {e:TypeId} {n:Nat} {v:Value} {xs:List Value} (h:w.ownsRow base e 1 v n xs) (hg:Whole w g t cs) (hne:e≠t):v.ownBlock≠some g:=by
 rcases h.2 with⟨rfl,_⟩|⟨q,cap,cur,rfl,_,hh,_⟩
 ·simp[Value.ownBlock]
 ·intro he;obtain rfl:q=g:=by simpa [Value.ownBlock]using he
  unfold Whole at hg;rw[hg]at hh;injection hh with h1;injection h1 with _ h2;exact hne h2.symm
theorem JjB {base:Nat} {e:TypeId} {n:Nat} {v:Value} {xs:List Value} (h:w.ownsRow base e 1 v n xs):∃a c,v=.slice a n c:=by
 rcases h.2 with⟨rfl,rfl⟩|⟨q,cap,cur,rfl,_⟩
 ·exact⟨_,_,rfl⟩
 ·exact⟨_,_,rfl⟩
theorem JpR {base:Nat} {e:TypeId} {n:Nat} {v:Value} {xs:List Value} (h:w.ownsRow base e 1 v n xs) (hg:Whole w g t cs) (hne:e≠t) (i:Nat) (u:Value):(w.setCell ⟨g,i,none⟩ u).ownsRow base e 1 v n xs:=by
 refine⟨h.1,?_⟩;have hq:=Jgj h hg hne
 rcases h.2 with hn|⟨q,cap,cur,rfl,hb,hh,rest⟩
 ·exact .inl hn
 ·refine .inr ⟨q,cap,cur,rfl,hb,?_,rest⟩;rw[Below.heap_setCell _ _ _ _ (by intro e1;exact hq (by simp[Value.ownBlock,e1]))];exact hh
theorem Jdk (w:World) (n:Nat):Below w.heap.size w (w.drewN n):=_root_.Go.below_drewN (Below.refl _ _) n
end
end Go.Proofs.YtaaoamkagppodaaGreatDoor
namespace Go.Proofs.YtaaoamkagppodaaGreatDoor
open Go Go.RowKit
def Jds (r:Int):Bool:=[92,46,43,42,63,40,41,124,91,93,123,125,94,36].contains r
def I32 (x:Int):Prop := -2147483648≤x∧x≤2147483647
def Rgs (w:World) (v:Value) (l:List (Int × Int)):Prop:=
 ∃a c,v=.slice a l.length c∧l.length≤c∧c≤maxLen∧(a=none→c=0) ∧
  (l=[]∨∃b o,a=some ⟨b,o,none⟩∧∀i (h:i<l.length),w.cell? ⟨b,o+i*2,none⟩=some (.int .i32 l[i].1)∧w.cell? ⟨b,o+i*2+1,none⟩=some (.int .i32 l[i].2)) ∧
  ∀r∈l,I32 r.1∧I32 r.2
theorem Rgs.below {w w':World} {v:Value} {l:List (Int × Int)} (h:Rgs w v l) (hb:Below w.heap.size w w'):Rgs w' v l:=by
 obtain⟨a,c,h1,h2,h3,h4,h5,h6⟩:=h;refine⟨a,c,h1,h2,h3,h4,?_,h6⟩
 rcases h5 with h5|⟨b,o,e,hc⟩
 ·exact .inl h5
 ·exact .inr ⟨b,o,e,fun i hi=>⟨(hb.cell (World.block_lt_of_cell? w _ (hc i hi).1)).trans (hc i hi).1,(hb.cell (World.block_lt_of_cell? w _ (hc i hi).2)).trans (hc i hi).2⟩⟩
theorem JlS {B:Nat} {a w:World} (h:Below B a w):∀q,Below B a (w.drewN q)
 | 0=>h
 | q+1=>(JlS h q).drew
def JyH (P:Prop) (w:World) (e:Ending) (w':World):Prop:=∃B:Bool,e=.returned (.bool B)∧(B=true↔P)∧∃q,w'=w.drewN q
theorem JpL (l:List (Int × Int)) (m:Nat) (h:m<l.length):Jak (l.take (m+1))↔Jak (l.take m)∧(Jcg 0 (l.take m)≤l[m].1∧l[m].1≤l[m].2∧l[m].2≤1114111):=by
 rw[List.take_succ_eq_append_getElem h];unfold Jak;rw[Jiz]
 simp[Jav]
theorem Jpz (l:List (Int × Int)) (m:Nat) (h:Jak l):Jak (l.take m):=by
 rw[←List.take_append_drop m l]at h;exact((Jiz _ _ _).1 h).1
theorem Jqr (l:List (Int × Int)) (m:Nat) (h:m+1≤l.length):Jcg 0 (l.take (m+1))=l[m].2+2:=by
 rw[List.take_succ_eq_append_getElem h,Jkq]
theorem JjE {w:World} {b o:Nat} {l:List (Int × Int)} (hc:∀i (h:i<l.length),w.cell? ⟨b,o+i*2,none⟩=some (.int .i32 l[i].1)∧w.cell? ⟨b,o+i*2+1,none⟩=some (.int .i32 l[i].2)) (m:Nat) (h:m<l.length) :
  ∃y1 y2,l[m]? = some (y1,y2)∧l.take (m+1)=l.take m++[(y1,y2)]∧w.cell? ⟨b,o+m*2,none⟩=some (.int .i32 y1)∧w.cell? ⟨b,o+m*2+1,none⟩=some (.int .i32 y2):=
 ⟨l[m].1,l[m].2,by simp[h],List.take_succ_eq_append_getElem h,(hc m h).1,(hc m h).2⟩
structure Fld where
 op:Int
 rune:Int
 set:List (Int × Int)
 at':Int
 cap:Int
 name:ByteArray
 min:Int
 max:Int
 lazy:Bool
inductive Tr where
 | mk (f:Fld) (ks:List Tr)
def Tr.fld:Tr→Fld
 | .mk f _=>f
def Tr.kids:Tr→List Tr
 | .mk _ ks=>ks
theorem Tr.eta (t:Tr):t=.mk t.fld t.kids:=by cases t;rfl
theorem Tr.lt {t:Tr} {k:Tr} (h:k∈t.kids):SizeOf.sizeOf k<SizeOf.sizeOf t:=by
 cases t with
 | mk f ks =>
  have:=List.sizeOf_lt_of_mem (show k∈ks from h);simp only[Tr.mk.sizeOf_spec];omega
theorem Tr.ind {P:Tr→Prop} (h:∀t:Tr,(∀k∈t.kids,P k)→P t) (t:Tr):P t:=by
 suffices hs:∀n,∀t:Tr,SizeOf.sizeOf t<n→P t from hs _ t (Nat.lt_succ_self _)
 intro n
 induction n with
 | zero=>intro t ht;omega
 | succ n ih=>exact fun t ht=>h t fun k hk=>ih k (by have:=Tr.lt hk;omega)
def I64 (x:Int):Prop := -9223372036854775808≤x∧x≤9223372036854775807
def JcN (f:Fld):Prop:=I64 f.op∧I32 f.rune∧I64 f.at'∧I64 f.cap∧I64 f.min∧I64 f.max∧f.name.size≤4503599627370496∧f.set.length≤17592186044416
def JaW (f:Fld) (kv sv:Value):Array Value:=#[.int .i64 f.op,kv,.int .i32 f.rune,sv,.int .i64 f.at',.int .i64 f.cap,.string f.name,.int .i64 f.min,.int .i64 f.max,.bool f.lazy]
theorem Jez (f:Fld) (kv sv:Value):(JaW f kv sv).size=10:=rfl
def JcU (w:World) (b o:Nat) (cs:Array Value):Prop:=∀j (h:j<cs.size),w.cell? ⟨b,o+j,none⟩=some cs[j]
theorem JcU.below {w w':World} {b o:Nat} {cs:Array Value} (h:JcU w b o cs) (hb:Below w.heap.size w w'):JcU w' b o cs:=
 fun j hj=>(hb.cell (World.block_lt_of_cell? w _ (h j hj))).trans (h j hj)
def JiJ (F:Nat→Prop) (v:Value) (l:List (Int × Int)):Prop:=l=[]∨∀b,v.ownBlock=some b→F b
def Jax (F:Nat→Prop) (w:World) (t:Tr) (v:Value):Prop:=
 ∃(A:Option Addr) (c:Nat) (sv:Value),v=.agg (JaW t.fld (.slice A t.kids.length c) sv)∧(Rgs w sv t.fld.set∧JiJ F sv t.fld.set)∧JcN t.fld∧t.kids.length≤c∧c≤maxLen∧t.kids.length≤1172812402961∧(A=none→c=0) ∧
  (t.kids=[]∨∃b o,A=some ⟨b,o,none⟩∧F b∧∀(i:Nat) (h:i<t.kids.length),∃cs:Array Value,JcU w b (o+i*10) cs∧Jax F w (t.kids[i]) (.agg cs))
termination_by SizeOf.sizeOf t
decreasing_by exact Tr.lt (List.getElem_mem h)
def JdT (F:Nat→Prop) (w:World) (ks:List Tr) (v:Value):Prop:=
 ∃(A:Option Addr) (c:Nat),v=.slice A ks.length c∧ks.length≤c∧c≤maxLen∧ks.length≤1172812402961∧(A=none→c=0) ∧
  (ks=[]∨∃b o,A=some ⟨b,o,none⟩∧F b∧∀(i:Nat) (h:i<ks.length),∃cs:Array Value,JcU w b (o+i*10) cs∧Jax F w (ks[i]) (.agg cs))
theorem JeQ (F:Nat→Prop) (w:World) (t:Tr) (v:Value):Jax F w t v↔∃kv sv,v=.agg (JaW t.fld kv sv)∧(Rgs w sv t.fld.set∧JiJ F sv t.fld.set)∧JcN t.fld∧JdT F w t.kids kv:=by
 rw[Jax]
 constructor
 ·rintro⟨A,c,sv,h1,h2,h3,h4,h5,h8,h6,h7⟩;exact⟨_,sv,h1,h2,h3,A,c,rfl,h4,h5,h8,h6,h7⟩
 ·rintro⟨kv,sv,h1,h2,h3,A,c,rfl,h4,h5,h8,h6,h7⟩;exact⟨A,c,sv,h1,h2,h3,h4,h5,h8,h6,h7⟩
def Jdc (F:Nat→Prop) (w w':World):Prop:=∀b,F b→b<w.heap.size→w'.heap[b]? = w.heap[b]?
theorem Jdc.cell {F:Nat→Prop} {w w':World} (h:Jdc F w w') {b o:Nat} {u:Value} (hF:F b) (hc:w.cell? ⟨b,o,none⟩=some u):w'.cell? ⟨b,o,none⟩=some u:=by
 have:=h b hF (World.block_lt_of_cell? w _ hc);rw[←hc]
 simp[World.cell?,this]
theorem JcU.same {F:Nat→Prop} {w w':World} {b o:Nat} {cs:Array Value} (h:JcU w b o cs) (hs:Jdc F w w') (hF:F b):JcU w' b o cs:=fun j hj=>hs.cell hF (h j hj)
theorem JnW {F G:Nat→Prop} {w w':World} {v:Value} {l:List (Int × Int)} (h:Rgs w v l) (hf:JiJ F v l) (hs:Jdc F w w') (hFG:∀b,F b→b<w.heap.size→G b):Rgs w' v l∧JiJ G v l:=by
 obtain⟨a,c,h1,h2,h3,h4,h5,h6⟩:=h
 rcases h5 with h5|⟨b,o,e,hc⟩
 ·exact⟨⟨a,c,h1,h2,h3,h4,.inl h5,h6⟩,.inl h5⟩
 ·by_cases hl:l=[]
  ·exact⟨⟨a,c,h1,h2,h3,h4,.inl hl,h6⟩,.inl hl⟩
  ·have hb:F b:=(hf.resolve_left hl) b (by rw[h1,e];rfl);have hlt:b<w.heap.size:=by
    have h0:0<l.length:=List.length_pos_iff.2 hl;exact World.block_lt_of_cell? w _ (hc 0 h0).1
   refine⟨⟨a,c,h1,h2,h3,h4,.inr ⟨b,o,e,fun i hi=>⟨hs.cell hb (hc i hi).1,hs.cell hb (hc i hi).2⟩⟩,h6⟩,.inr fun b' hb'=>?_⟩;rw[h1,e]at hb';have:b=b':=by simpa [Value.ownBlock]using hb'
   rw[←this];exact hFG b hb hlt
theorem Jax.same' {F G:Nat→Prop} {w w':World} (hs:Jdc F w w') (hFG:∀b,F b→b<w.heap.size→G b) (t:Tr):∀v,Jax F w t v→Jax G w' t v:=by
 refine Tr.ind (P:=fun t=>∀v,Jax F w t v→Jax G w' t v) (fun t ih v h=>?_) t;rw[JeQ]at h ⊢;obtain⟨kv,sv,h1,h2,h3,A,c,k1,k2,k3,k4,k5,k6⟩:=h;refine⟨kv,sv,h1,JnW h2.1 h2.2 hs hFG,h3,A,c,k1,k2,k3,k4,k5,?_⟩
 by_cases hk:t.kids=[]
 ·exact .inl hk
 rcases k6 with k6|⟨b,o,e,hF,hc⟩
 ·exact .inl k6
 ·have h0:0<t.kids.length:=List.length_pos_iff.2 hk;have hlt:b<w.heap.size:=by
   obtain⟨cs,q1,q2⟩:=hc 0 h0;rw[JeQ]at q2;obtain⟨kv',sv',q3,-⟩:=q2;injection q3 with q3;subst q3;exact World.block_lt_of_cell? w _ (q1 0 (Nat.lt_of_lt_of_eq (by omega) (Jez _ _ _).symm))
  refine .inr ⟨b,o,e,hFG b hF hlt,fun i hi=>?_⟩;obtain⟨cs,q1,q2⟩:=hc i hi;exact⟨cs,q1.same hs hF,ih _ (List.getElem_mem hi) _ q2⟩
theorem Jax.same {F G:Nat→Prop} {w w':World} {t:Tr} {v:Value} (h:Jax F w t v) (hs:Jdc F w w') (hFG:∀b,F b→b<w.heap.size→G b):Jax G w' t v:=Jax.same' hs hFG t v h
def Tre (w:World) (t:Tr) (v:Value):Prop:=Jax (fun _=>True) w t v
def Kds (w:World) (ks:List Tr) (v:Value):Prop:=JdT (fun _=>True) w ks v
theorem Jcw {F:Nat→Prop} {w w':World} (hb:Below w.heap.size w w'):Jdc F w w':=fun b _ h=>hb.block b h
theorem Tre.foot {w:World} {t:Tr} {v:Value} (h:Tre w t v):Jax (fun b=>b<w.heap.size) w t v:=Jax.same h (fun _ _ _=>rfl) fun _ _ h=>h
theorem Jax.tre {F:Nat→Prop} {w:World} {t:Tr} {v:Value} (h:Jax F w t v):Tre w t v:=h.same (fun _ _ _=>rfl) fun _ _ _=>trivial
theorem JdZ (w:World) (t:Tr) (v:Value):Tre w t v↔∃kv sv,v=.agg (JaW t.fld kv sv)∧Rgs w sv t.fld.set∧JcN t.fld∧Kds w t.kids kv:=by
 unfold Tre;rw[JeQ]
 constructor
 ·rintro⟨kv,sv,h1,h2,h3,h4⟩;exact⟨kv,sv,h1,h2.1,h3,h4⟩
 ·rintro⟨kv,sv,h1,h2,h3,h4⟩;exact⟨kv,sv,h1,⟨h2,.inr fun _ _=>trivial⟩,h3,h4⟩
theorem Tre.below {w w':World} {t:Tr} {v:Value} (h:Tre w t v) (hb:Below w.heap.size w w'):Tre w' t v:=Jax.same h (Jcw hb) fun _ _ _=>trivial
theorem JdT.same {F G:Nat→Prop} {w w':World} {ks:List Tr} {v:Value} (h:JdT F w ks v) (hs:Jdc F w w') (hFG:∀b,F b→b<w.heap.size→G b):JdT G w' ks v:=by
 obtain⟨A,c,k1,k2,k3,k4,k5,k6⟩:=h;refine⟨A,c,k1,k2,k3,k4,k5,?_⟩
 by_cases hk:ks=[]
 ·exact .inl hk
 rcases k6 with k6|⟨b,o,e,hF,hc⟩
 ·exact .inl k6
 ·have h0:0<ks.length:=List.length_pos_iff.2 hk;have hlt:b<w.heap.size:=by
   obtain⟨cs,q1,q2⟩:=hc 0 h0;rw[JeQ]at q2;obtain⟨kv',sv',q3,-⟩:=q2;injection q3 with q3;subst q3;exact World.block_lt_of_cell? w _ (q1 0 (Nat.lt_of_lt_of_eq (by omega) (Jez _ _ _).symm))
  refine .inr ⟨b,o,e,hFG b hF hlt,fun i hi=>?_⟩;obtain⟨cs,q1,q2⟩:=hc i hi;exact⟨cs,q1.same hs hF,q2.same hs hFG⟩
theorem Kds.below {w w':World} {ks:List Tr} {v:Value} (h:Kds w ks v) (hb:Below w.heap.size w w'):Kds w' ks v:=JdT.same h (Jcw hb) fun _ _ _=>trivial
theorem Kds.at' {w:World} {ks:List Tr} {A:Option Addr} {n c:Nat} (h:Kds w ks (.slice A n c)) (i:Nat) (hi:i<ks.length) :
  ∃b o,A=some ⟨b,o,none⟩∧n=ks.length∧∃kv sv,JcU w b (o+i*10) (JaW (ks[i]).fld kv sv)∧Tre w (ks[i]) (.agg (JaW (ks[i]).fld kv sv)):=by
 obtain⟨A',c',e,h2,h3,-,h4,h5⟩:=h;injection e with e1 e2 e3;subst e1 e2 e3
 rcases h5 with h5|⟨b,o,e,-,hc⟩
 ·rw[h5]at hi
  simp at hi
 ·obtain⟨cs,k1,k2⟩:=hc i hi;have k3:Tre w ks[i] (.agg cs):=k2;rw[JdZ]at k3;obtain⟨kv,sv,k4,-⟩:=k3;injection k4 with k4;subst k4;exact⟨b,o,e,rfl,kv,sv,k1,k2⟩
theorem JcU.ten {w:World} {b o:Nat} {f:Fld} {kv sv:Value} (h:JcU w b o (JaW f kv sv)) :
  w.cell? ⟨b,o,none⟩=some (.int .i64 f.op)∧w.cell? ⟨b,o+1,none⟩=some kv∧w.cell? ⟨b,o+2,none⟩=some (.int .i32 f.rune)∧w.cell? ⟨b,o+3,none⟩=some sv∧w.cell? ⟨b,o+4,none⟩=some (.int .i64 f.at') ∧
  w.cell? ⟨b,o+5,none⟩=some (.int .i64 f.cap)∧w.cell? ⟨b,o+6,none⟩=some (.string f.name)∧w.cell? ⟨b,o+7,none⟩=some (.int .i64 f.min)∧w.cell? ⟨b,o+8,none⟩=some (.int .i64 f.max)∧w.cell? ⟨b,o+9,none⟩=some (.bool f.lazy):=
 ⟨h 0 (Nat.lt_of_lt_of_eq (by omega) (Jez f kv sv).symm),h 1 (Nat.lt_of_lt_of_eq (by omega) (Jez f kv sv).symm),h 2 (Nat.lt_of_lt_of_eq (by omega) (Jez f kv sv).symm),h 3 (Nat.lt_of_lt_of_eq (by omega) (Jez f kv sv).symm),h 4 (Nat.lt_of_lt_of_eq (by omega) (Jez f kv sv).symm),h 5 (Nat.lt_of_lt_of_eq (by omega) (Jez f kv sv).symm),h 6 (Nat.lt_of_lt_of_eq (by omega) (Jez f kv sv).symm),h 7 (Nat.lt_of_lt_of_eq (by omega) (Jez f kv sv).symm),h 8 (Nat.lt_of_lt_of_eq (by omega) (Jez f kv sv).symm),h 9 (Nat.lt_of_lt_of_eq (by omega) (Jez f kv sv).symm)⟩
theorem Tre.parts {w:World} {t:Tr} {v:Value} (h:Tre w t v):∃kv sv,v=.agg (JaW t.fld kv sv)∧Rgs w sv t.fld.set∧JcN t.fld∧Kds w t.kids kv:=(JdZ w t v).1 h
theorem Tre.opened {w:World} {t:Tr} {v:Value} (h:Tre w t v):∃(A:Option Addr) (n c:Nat) (a2:Option Addr) (s c2:Nat),t.kids.length=n∧t.fld.set.length=s ∧
  v=.agg #[.int .i64 t.fld.op,.slice A n c,.int .i32 t.fld.rune,.slice a2 s c2,.int .i64 t.fld.at',.int .i64 t.fld.cap,.string t.fld.name,.int .i64 t.fld.min,.int .i64 t.fld.max,.bool t.fld.lazy] ∧
  n≤1172812402961∧s≤17592186044416∧Kds w t.kids (.slice A n c)∧Rgs w (.slice a2 s c2) t.fld.set∧JcN t.fld:=by
 obtain⟨kv,sv,rfl,hS,hF,hK⟩:=h.parts;have hS':=hS;have hK':=hK;obtain⟨A,c,rfl,-,-,hk1,-⟩:=hK;obtain⟨a2,c2,rfl,-⟩:=hS;exact⟨A,_,c,a2,_,c2,rfl,rfl,rfl,hk1,hF.2.2.2.2.2.2.2,hK',hS',hF⟩
theorem Ji5 (w:World) (cs:Array Value) (t:TypeId):JcU (w.alloc (.cells cs t)) w.heap.size 0 cs:=fun j hj=>by
 rw[World.cell?_alloc_at _ _ _ _ rfl,Nat.zero_add,Array.getElem?_eq_getElem hj]
def JdH (W:World) (b:Nat) (x0 x1 x2 x3 x4 x5 x6 x7 x8 x9:Value):Prop:=
 W.cell? ⟨b,0,none⟩=some x0∧W.cell? ⟨b,1,none⟩=some x1∧W.cell? ⟨b,2,none⟩=some x2∧W.cell? ⟨b,3,none⟩=some x3∧W.cell? ⟨b,4,none⟩=some x4 ∧
  W.cell? ⟨b,5,none⟩=some x5∧W.cell? ⟨b,6,none⟩=some x6∧W.cell? ⟨b,7,none⟩=some x7∧W.cell? ⟨b,8,none⟩=some x8∧W.cell? ⟨b,9,none⟩=some x9
theorem Jfa (w:World) (t:TypeId) (x0 x1 x2 x3 x4 x5 x6 x7 x8 x9:Value):JdH (w.alloc (.cells #[x0,x1,x2,x3,x4,x5,x6,x7,x8,x9] t)) w.heap.size x0 x1 x2 x3 x4 x5 x6 x7 x8 x9:=by
 have h:=Ji5 w #[x0,x1,x2,x3,x4,x5,x6,x7,x8,x9] t;have g:∀j (hj:j<10),(w.alloc (.cells #[x0,x1,x2,x3,x4,x5,x6,x7,x8,x9] t)).cell? ⟨w.heap.size,j,none⟩=#[x0,x1,x2,x3,x4,x5,x6,x7,x8,x9][j]? := fun j hj=>by
  have:=h j hj;rw[Nat.zero_add]at this;rw[this,Array.getElem?_eq_getElem]
 exact⟨g 0 (by omega),g 1 (by omega),g 2 (by omega),g 3 (by omega),g 4 (by omega),g 5 (by omega),g 6 (by omega),g 7 (by omega),g 8 (by omega),g 9 (by omega)⟩
theorem JdH.below {w w':World} {b:Nat} {x0 x1 x2 x3 x4 x5 x6 x7 x8 x9:Value} (h:JdH w b x0 x1 x2 x3 x4 x5 x6 x7 x8 x9) (hb:Below w.heap.size w w'):JdH w' b x0 x1 x2 x3 x4 x5 x6 x7 x8 x9:=by
 obtain⟨h0,h1,h2,h3,h4,h5,h6,h7,h8,h9⟩:=h;have g:∀j u,w.cell? ⟨b,j,none⟩=some u→w'.cell? ⟨b,j,none⟩=some u:=fun j u hu=>(hb.cell (World.block_lt_of_cell? w _ hu)).trans hu
 exact⟨g 0 _ h0,g 1 _ h1,g 2 _ h2,g 3 _ h3,g 4 _ h4,g 5 _ h5,g 6 _ h6,g 7 _ h7,g 8 _ h8,g 9 _ h9⟩
def Jha (W:World) (b o:Nat) (x0 x1 x2 x3 x4 x5 x6 x7 x8 x9:Value):Prop:=
 W.cell? ⟨b,o,none⟩=some x0∧W.cell? ⟨b,o+1,none⟩=some x1∧W.cell? ⟨b,o+2,none⟩=some x2∧W.cell? ⟨b,o+3,none⟩=some x3∧W.cell? ⟨b,o+4,none⟩=some x4 ∧
  W.cell? ⟨b,o+5,none⟩=some x5∧W.cell? ⟨b,o+6,none⟩=some x6∧W.cell? ⟨b,o+7,none⟩=some x7∧W.cell? ⟨b,o+8,none⟩=some x8∧W.cell? ⟨b,o+9,none⟩=some x9
theorem Kds.kid {w:World} {ks:List Tr} {A:Option Addr} {n c:Nat} (h:Kds w ks (.slice A n c)) (k:Nat) (hk:k<ks.length) :
  ∃(b o:Nat) (tk:Tr) (kv sv:Value),A=some ⟨b,o,none⟩∧ks[k]=tk∧tk∈ks ∧
   Jha w b (o+k*10) (.int .i64 tk.fld.op) kv (.int .i32 tk.fld.rune) sv (.int .i64 tk.fld.at') (.int .i64 tk.fld.cap) (.string tk.fld.name) (.int .i64 tk.fld.min) (.int .i64 tk.fld.max) (.bool tk.fld.lazy) ∧
   Tre w tk (.agg #[.int .i64 tk.fld.op,kv,.int .i32 tk.fld.rune,sv,.int .i64 tk.fld.at',.int .i64 tk.fld.cap,.string tk.fld.name,.int .i64 tk.fld.min,.int .i64 tk.fld.max,.bool tk.fld.lazy]):=by
 obtain⟨b,o,hA,-,kv,sv,hC,hT⟩:=h.at' k hk;exact⟨b,o,ks[k],kv,sv,hA,rfl,List.getElem_mem hk,hC.ten,hT⟩
theorem Jbu {w W W':World} (h:Below w.heap.size w W) (k:Below W.heap.size W W'):Below w.heap.size w W':=h.trans (k.mono h.size)
def Tr.para {α : Type} (f:Tr→List α → α) (t:Tr) : α := f t (t.kids.attach.map fun k=>Tr.para f k.1)
termination_by SizeOf.sizeOf t
decreasing_by exact Tr.lt k.2
theorem Tr.para_eq {α : Type} (f:Tr→List α → α) (t:Tr):t.para f=f t (t.kids.map (Tr.para f)):=by
 rw[Tr.para]
 congr 1
 exact List.attach_map_val
def Jai:Tr→Nat:=Tr.para fun t l=>1+t.fld.set.length+l.sum
theorem Jc9 (t:Tr):Jai t=1+t.fld.set.length+(t.kids.map Jai).sum:=Tr.para_eq _ t
theorem Jkn:∀ {l:List Nat} {x:Nat},x∈l→x≤l.sum
 | y::l,x,h=>by
  rcases List.mem_cons.1 h with rfl|h
  ·simp
  ·have:=Jkn h
   simp
   omega
theorem Jfo {t k:Tr} (h:k∈t.kids):Jai k<Jai t:=by
 rw[Jc9 t];have:=Jkn (List.mem_map_of_mem (f:=Jai) h);omega
def Jbj:List Nat→Nat
 | []=>0
 | x::l=>max x (Jbj l)
theorem Jn6 (a b:List Nat):Jbj (a++b)=max (Jbj a) (Jbj b):=by
 induction a with
 | nil=>simp[Jbj]
 | cons x a ih=>rw[List.cons_append,Jbj,Jbj,ih,Nat.max_assoc]
def JaC:Tr→Nat:=Tr.para fun _ l=>Jbj l+1
theorem Jd8 (t:Tr):JaC t=Jbj (t.kids.map JaC)+1:=Tr.para_eq _ t
theorem Jjn {l:List Nat} {n:Nat} (h:∀x∈l,x≤n):Jbj l≤n:=by
 induction l with
 | nil=>simp[Jbj]
 | cons x l ih =>
  rw[Jbj];have h1:=h x (by simp);have h2:=ih fun y hy=>h y (by simp[hy])
  omega
def Jaz (n:Nat):Nat:=min n 4001
def JcM (f:Fld) (m n:Nat):Nat:=
 if f.op=6 then Jaz (2+n)else if f.op=7∨f.op=8∨f.op=9∨f.op=11 then Jaz (1+n) else
 if f.op=10 then Jaz ((Jaz (max (max f.min f.max) 1).toNat)*n+Jaz (max (max f.min f.max) 1).toNat+1)else if f.op=12 then Jaz (n+Jaz m)else 1
def Ja5:Tr→Nat:=Tr.para fun t l=>JcM t.fld t.kids.length (Jaz l.sum)
theorem Jd7 (t:Tr):Ja5 t=JcM t.fld t.kids.length (Jaz (t.kids.map Ja5).sum):=Tr.para_eq _ t
theorem Jy2 (f:Fld) (m n:Nat):JcM f m n≤4001:=by
 unfold JcM Jaz
 split
 ·omega
 ·split
  ·omega
  ·split
   ·exact Nat.min_le_right _ _
   ·split<;>omega
theorem JoF (t:Tr):Ja5 t≤4001:=by rw[Jd7];exact Jy2 _ _ _
def JsN (m:Nat) (t:Tr) (w:World) (e:Ending) (w':World):Prop:=
 ∃r:Nat,e=.returned (.int .i64 r)∧(Jai t≤m→r=Jai t)∧(m<Jai t→m<r)∧r≤m+1+17592186044416∧Below w.heap.size w w'
theorem JuK {l:List Tr} {k:Nat} (h:k<l.length):((l.take (k+1)).map Jai).sum=((l.take k).map Jai).sum+Jai l[k]:=by
 rw[List.take_succ_eq_append_getElem h,List.map_append,List.sum_append]
 simp
theorem JuS (l:List Tr) (k:Nat):((l.take k).map Jai).sum≤(l.map Jai).sum:=by
 conv=>rhs;rw[←List.take_append_drop k l,List.map_append,List.sum_append]
 omega
theorem Jxn (m:Nat):∀(hm:m≤10000000000) (t:Tr) (v:Value) (w:World) (h:Tre w t v),Calls Tryz.prog 14 #[v,.int .i64 m] w (JsN m t w):=by
 induction m using Nat.strongRecOn with
 | _ m ih =>
 intro hm t v w h;have IH:=Hd ih;obtain⟨kv,sv,rfl,hS,hF,hK⟩:=h.parts;have hsl:t.fld.set.length≤17592186044416:=hF.2.2.2.2.2.2.2;obtain⟨A,c,rfl,-,-,hk1,-⟩:=hK;obtain⟨a2,c2,rfl,-⟩:=hS;have HT:=Hd h;obtain⟨w1,hw1⟩:∃w1,w.alloc (.cells (JaW t.fld (.slice A t.kids.length c) (.slice a2 t.fld.set.length c2)) 29)=w1:=⟨_,rfl⟩;have hb1:Below w.heap.size w w1:=by rw[←hw1];exact(Below.refl _ _).alloc (Nat.le_refl _) _
 have hE1:JcU w1 w.heap.size 0 (JaW t.fld (.slice A t.kids.length c) (.slice a2 t.fld.set.length c2)):=by rw[←hw1];exact Ji5 w _ _
 have HB1:=Hd hb1;have HE1:=Hd hE1;have HW1:=Hd hw1;obtain⟨e0,e1,e2,e3,-⟩:=hE1.ten;simp only[Nat.zero_add]at e1 e3;have hs1:=hb1.size;have he:=Jc9 t;obtain⟨M,hM⟩:∃M,(t.kids.map Jai).sum=M:=⟨_,rfl⟩;rw[hM]at he;have HM:=Hd hM;clear h hb1 hE1 hw1 ih hM;unfold JaW at HW1;obtain⟨s,hs⟩:∃s,t.fld.set.length=s:=⟨_,rfl⟩;obtain⟨n,hn⟩:∃n,t.kids.length=n:=⟨_,rfl⟩;rw[hs]at hsl e3 HW1 HT HE1 he;rw[hn]at hk1 e1 HW1 HT HE1;have HN:=Hd hn;have HSS:=Hd hs;have HE:=Hd he;rw[hs,hn];clear hs hn he;unfold JaW at *
 go_enter Tryz.func14,Tryz.ntmps14
 go_wp2_with fail;rw[HW1.out]
 go_loopw [5,6] (fun nn i wr=>∃k r:Nat,k≤n∧i=.int .i64 k∧nn=.int .i64 r∧Below w1.heap.size w1 wr∧(1+s+((t.kids.take k).map Jai).sum≤m→r=1+s+((t.kids.take k).map Jai).sum)∧(m<1+s+((t.kids.take k).map Jai).sum→m<r)∧1≤r∧r≤m+1+17592186044416) (fun _ i _=>n-(intOf i).toNat)
 case atStart=>exact⟨0,1+s,Nat.zero_le _,rfl,by simp,Below.refl _ _,by simp,by simp,by omega,by omega⟩
 case round =>
  obtain⟨k,r,hk,rfl,rfl,hB,h1,h2,h3,h4⟩:=hrel;have HB:=Hd hB;have d1:=(hB.cell (p:=⟨w.heap.size,1,none⟩) (World.block_lt_of_cell? w1 _ e1)).trans e1;obtain⟨S,hS⟩:∃S,((t.kids.take k).map Jai).sum=S:=⟨_,rfl⟩;rw[hS]at h1 h2;have HSM:=Hd hS;have hSle:S≤M:=by rw[←hS,←HM.out];exact JuS _ _
  have H1:=Hd h1;have H2:=Hd h2;clear hB hS h1 h2
  by_cases hkn:k<n
  ·by_cases hrm:r≤m
   ·have hr1:r=1+s+S:=by
     by_cases h:1+s+S≤m
     ·exact H1.out h
     ·have:=H2.out (by omega);omega
    have hkl:k<t.kids.length:=by rw[HN.out];exact hkn
    have hKw:Kds wr t.kids (.slice A t.kids.length c):=by
     have:=((HT.out.below HB1.out).below HB.out).parts;obtain⟨kv,sv,e,-,-,hK⟩:=this;injection e with e;unfold JaW at e;have e':=congrArg (fun a:Array Value=>a[1]?) e
     simp at e'
     rw[HN.out];rw[←e']at hK;exact hK
    obtain⟨b,o,hA,-,kv,sv,hC,hTk⟩:=hKw.at' k hkl;have ha:=Jfo (List.getElem_mem hkl);have hts:=JuK hkl;obtain⟨tk,htk⟩:∃tk,t.kids[k]=tk:=⟨_,rfl⟩;rw[htk]at hC hTk ha hts;obtain⟨c0,c1,c2',c3,c4,c5,c6,c7,c8,c9⟩:=hC.ten;have HI:=Hd (IH.out (m-r) (by omega) (by omega) tk (.agg (JaW tk.fld kv sv)) wr hTk);unfold JaW at HI;rw[show ((m-r:Nat):Int)=(m:Int)-(r:Int) by omega]at HI;have HA:=Hd hA;have HTS:=Hd hts;have HR1:=Hd hr1;clear hr1 hKw hA hC hTk htk ha hts;rw[HA.out]at d1;clear HT;go_wp2_with fail;refine HI.out.mono ?_;rintro e w2 ⟨r2,rfl,q1,q2,q3,q4⟩;have HB2:=Hd (HB.out.trans (q4.mono HB.out.size));have Q1:=Hd q1;have Q2:=Hd q2;clear q1 q2 q4 c0 c1 c2' c3 c4 c5 c6 c7 c8 c9;go_wp2_with fail
    go_roundw
    case rel =>
     refine⟨k+1,r+r2,by omega,by go_num,by go_num,HB2.out,?_,?_,by omega,by omega⟩
     ·rw[HTS.out,HSM.out];intro h;have hr1:=HR1.out;have:=Q1.out (by omega);omega
     ·rw[HTS.out,HSM.out];intro h;have hr1:=HR1.out;have:=Q2.out (by omega);omega
    case measure=>simp[intOf];omega
   ·have hf:decide ((r:Int)≤(m:Int))=false:=decide_eq_false (by omega);have hnm:¬(r:Int)≤(m:Int):=by omega
    go_wp2_with fail;go_ret;refine⟨r,rfl,fun h=>?_,fun _=>by omega,by omega,HB1.out.trans (HB.out.mono HB1.out.size)⟩
    exfalso
    have e1:=HE.out;have:=H1.out (by omega);omega
  ·have hk2:t.kids.take k=t.kids:=List.take_of_length_le (by rw[HN.out];omega);have hSM:S=M:=by rw[←HSM.out,hk2,HM.out]
   have HQ:=Hd hSM;clear hk2 hSM;go_wp2_with fail;go_ret;refine⟨r,rfl,fun h=>?_,fun h=>?_,by omega,HB1.out.trans (HB.out.mono HB1.out.size)⟩
   ·have e1:=HE.out;have e2:=HQ.out;have:=H1.out (by omega);omega
   ·have e1:=HE.out;have e2:=HQ.out;exact H2.out (by omega)
def Jka (n:Nat) (w:World) (e:Ending) (w':World):Prop:=e=.returned (.int .i64 n)∧Below w.heap.size w w'
end Go.Proofs.YtaaoamkagppodaaGreatDoor
