/- Texts merged by program. No condition. -/
import Derived.Test.YtaaoamkagppodaaGreatDoorK9
import Derived.Lib.ItoaNum
set_option linter.unusedVariables false
namespace Go.Proofs.YtaaoamkagppodaaGreatDoor
open Go Go.RowKit
def Jar:Tr→Tr:=Tr.para fun t l=>if t.fld.op=11∨t.fld.op=12 then (match l with|[x]=>x|_=>t)else t
theorem Jpb (t:Tr):Jar t=if t.fld.op=11∨t.fld.op=12 then (match t.kids.map Jar with|[x]=>x|_=>t)else t:=Tr.para_eq _ t
def JbC (t:Tr):Prop:=(t.fld.op=11∨t.fld.op=12)∧t.kids.length=1
theorem Jf2 {t:Tr} (h:JbC t):∃k,t.kids=[k]:=List.length_eq_one_iff.1 h.2
theorem JhU {t k:Tr} (h:JbC t) (hk:t.kids=[k]):Jar t=Jar k:=by
 rw[Jpb,if_pos h.1,hk];rfl
theorem Jdz {t:Tr} (h:¬JbC t):Jar t=t:=by
 rw[Jpb]
 split
 ·rename_i h1
  split
  ·rename_i x e
   refine absurd ⟨h1,?_⟩ h;have:=congrArg List.length e
   simpa using this
  ·rfl
 ·rfl
theorem Jh8 (t:Tr):¬JbC (Jar t):=by
 refine Tr.ind (P:=fun t=>¬JbC (Jar t)) (fun t ih=>?_) t
 by_cases h:JbC t
 ·obtain⟨k,hk⟩:=Jf2 h;rw[JhU h hk];exact ih k (by rw[hk];simp)
 ·rw[Jdz h];exact h
def JcP (n:Nat):List UInt8:=92::120::123::(JaS n++[125])
def JgH (c:Int):Bool:=(decide (48≤c)&&decide (c≤57)) || ((decide (65≤c)&&decide (c≤90)) || ((decide (97≤c)&&decide (c≤122)) || [32,95,33,34,35,37,38,39,44,45,47,58,59,60,61,62,64,126,96].contains c))
def Jb3 (c:Int):List UInt8:=if JgH c=true then [UInt8.ofNat c.toNat]else if Jds c=true then [92,UInt8.ofNat c.toNat]else JcP c.toNat
def JcE (r:Int × Int):List UInt8:=JcP r.1.toNat++(if r.2=r.1 then []else 45::JcP r.2.toNat)
def Jcs (l:List (Int × Int)):List UInt8:=l.flatMap JcE
def Jb5 (l:List (Int × Int)):List UInt8:=91::(Jcs l++[93])
def Jcf (a:Int):List UInt8:=if a=1 then [92,65]else if a=2 then [92,122]else if a=4 then [40,63,109,58,94,41]else if a=8 then [40,63,109,58,36,41]else if a=16 then [92,98]else [92,66]
def JeI:List UInt8:=[91,94,92,120,123,48,125,45,92,120,123,49,48,102,102,102,102,125,93]
def JdJ:List UInt8:=[40,63,58,41]
def JdD (a b:Int):List UInt8:=123::(Lib.decDigits a.toNat++((if b = -1 then [44]else if b=a then []else 44::Lib.decDigits b.toNat)++[125]))
def Jcl (f:Fld):List UInt8:=(if f.op=7 then [42]else if f.op=8 then [43]else if f.op=9 then [63]else JdD f.min f.max)++(if f.lazy=true then [63]else [])
def JbX (nm:List UInt8):List UInt8:=if nm=[]then [40]else 40::63::80::60::(nm++[62])
def Jc1 (x:List UInt8):List UInt8:=40::63::58::(x++[41])
def Jbg:List (List UInt8)→List UInt8
 | []=>[]
 | [x]=>x
 | x::y::l=>x++124::Jbg (y::l)
def Jfj (k:Tr) (x:List UInt8):List UInt8:=if (Jar k).fld.op=12 then Jc1 x else x
def Jcu (k:Tr):Prop:=((Jar k).fld.op=11∧(Jar k).kids≠[])∨(7≤(Jar k).fld.op∧(Jar k).fld.op≠11)
instance (k:Tr):Decidable (Jcu k):=by
 unfold Jcu;exact instDecidableOr
def Jeh (k:Tr) (x:List UInt8):List UInt8:=if Jcu k then Jc1 x else x
def JeE (t:Tr) (l:List (List UInt8)):List UInt8:=
 if t.fld.op=1 then JeI else if t.fld.op=2 then JdJ else if t.fld.op=3 then Jb3 t.fld.rune else if t.fld.op=4 then Jb5 t.fld.set else if t.fld.op=5 then Jcf t.fld.at' else
 if t.fld.op=6 then JbX t.fld.name.toList++(l.headD []++[41]) else
 if t.fld.op=11 then (match l with|[]=>JdJ|[x]=>x|_=>(List.zipWith Jfj t.kids l).flatten) else
 if t.fld.op=12 then Jbg l else Jeh (t.kids.headD t) (l.headD [])++Jcl t.fld
def Jad:Tr→List UInt8:=Tr.para JeE
theorem Jfn (t:Tr):Jad t=JeE t (t.kids.map Jad):=Tr.para_eq _ t
def JaU (k:Tr):List UInt8:=Jfj k (Jad k)
def Jbf (k:Tr):List UInt8:=Jeh k (Jad k)
theorem Jne (f:Tr→List UInt8→List UInt8) (g:Tr→List UInt8):∀l:List Tr,List.zipWith f l (l.map g)=l.map fun k=>f k (g k)
 | []=>rfl
 | k::l=>by rw[List.map_cons,List.zipWith_cons_cons,Jne f g l,List.map_cons]
theorem JgF {t k:Tr} (h:JbC t) (hk:t.kids=[k]):Jad t=Jad k:=by
 rw[Jfn,hk];unfold JeE
 rcases h.1 with e|e
 ·simp[e]
 ·simp[e,Jbg]
theorem JoC {t k:Tr} (h:JbC t) (hk:t.kids=[k]):JaU t=JaU k:=by
 unfold JaU Jfj;rw[JhU h hk,JgF h hk]
theorem JuJ {t k:Tr} (h:JbC t) (hk:t.kids=[k]):Jcu t↔Jcu k:=by
 unfold Jcu;rw[JhU h hk]
theorem JxY {t k:Tr} (h:JbC t) (hk:t.kids=[k]):Jbf t=Jbf k:=by
 unfold Jbf Jeh;rw[JgF h hk];simp only[JuJ h hk]
theorem Jg4 {t:Tr} (h:t.fld.op=11) (h2:2≤t.kids.length):Jad t=(t.kids.map JaU).flatten:=by
 rw[Jfn];unfold JeE;obtain⟨f,ks⟩:=t;simp only[Tr.fld,Tr.kids]at h h2 ⊢
 match ks,h2 with
 | x::y::l,_ =>
  simp[h]
  rw[Jne];rfl
theorem Jhp {t:Tr} (h:t.fld.op=11) (h2:t.kids=[]):Jad t=JdJ:=by
 rw[Jfn];unfold JeE;rw[h2]
 simp[h]
theorem Jg0 {t:Tr} (h:t.fld.op=12):Jad t=Jbg (t.kids.map Jad):=by
 rw[Jfn];unfold JeE
 simp[h]
theorem Jhc {t k:Tr} (h:t.fld.op=6) (hk:t.kids=[k]):Jad t=JbX t.fld.name.toList++(Jad k++[41]):=by
 rw[Jfn,hk];unfold JeE
 simp[h]
theorem JgD {t k:Tr} (h:t.fld.op=7∨t.fld.op=8∨t.fld.op=9∨t.fld.op=10) (hk:t.kids=[k]):Jad t=Jbf k++Jcl t.fld:=by
 rw[Jfn,hk];unfold JeE Jbf;rw[hk,if_neg (by omega),if_neg (by omega),if_neg (by omega),if_neg (by omega),if_neg (by omega),if_neg (by omega),if_neg (by omega),if_neg (by omega)];rfl
theorem JfS (x:List UInt8) {l:List (List UInt8)} (h:l≠[]):Jbg (x::l)=x++124::Jbg l:=by
 cases l with
 | nil=>exact absurd rfl h
 | cons y l=>rfl
theorem Jnl:∀(a b:List (List UInt8)),a≠[]→b≠[]→Jbg (a++b)=Jbg a++124::Jbg b
 | [x],b,_,hb=>JfS x hb
 | x::y::a,b,_,hb=>by
  rw[List.cons_append,JfS x (by simp),Jnl (y::a) b (by simp) hb,JfS x (by simp),List.append_assoc];rfl
theorem JnZ:∀(L:List (List (List UInt8))),(∀a∈L,a≠[])→Jbg L.flatten=Jbg (L.map Jbg)
 | [],_=>rfl
 | [a],_=>by simp[Jbg]
 | a::b::L,h=>by
  have hb:=h b (by simp);rw[List.flatten_cons,Jnl a _ (h a (by simp)) (by rw[List.flatten_cons];intro e;exact hb (List.append_eq_nil_iff.1 e).1),JnZ (b::L) (fun x hx=>h x (by simp[List.mem_cons.1 hx]))];show _=Jbg (Jbg a::(b::L).map Jbg);rw[JfS _ (by simp)]
theorem JlP {n:Nat} (h:n≤1114111):(JcP n).length≤10:=by
 have e:=Jmv 5 n (by omega);unfold JcP;simp only[List.length_cons,List.length_append,List.length_nil];omega
theorem Jle {c:Int} (h:c≤1114111):(Jb3 c).length≤10:=by
 unfold Jb3
 split
 ·simp
 split
 ·simp
 ·exact JlP (by omega)
theorem Jyy {r:Int × Int} (h1:r.1≤1114111) (h2:r.2≤1114111):(JcE r).length≤21:=by
 have e1:=JlP (n:=r.1.toNat) (by omega);have e2:=JlP (n:=r.2.toNat) (by omega);unfold JcE
 split
 ·simp only[List.length_append,List.length_nil];omega
 ·simp only[List.length_append,List.length_cons];omega
theorem Jit:∀l:List (Int × Int),(∀r∈l,r.1≤1114111∧r.2≤1114111)→(Jcs l).length≤21*l.length
 | [],_=>Nat.zero_le _
 | r::l,h=>by
  have h1:=h r (by simp);have h2:=Jit l fun q hq=>h q (by simp[hq])
  have h3:=Jyy h1.1 h1.2;rw[show Jcs (r::l)=JcE r++Jcs l from rfl,List.length_append,List.length_cons];omega
theorem Jk5:∀(l:List (Int × Int)) (lo:Int),Jav lo l→∀r∈l,lo≤r.1∧r.1≤r.2∧r.2≤1114111
 | x::l,lo,⟨h1,h2,h3,h4⟩,r,hr=>by
  rcases List.mem_cons.1 hr with rfl|hr
  ·exact⟨h1,h2,h3⟩
  ·have:=Jk5 l (x.2+2) h4 r hr;exact⟨by omega,this.2⟩
theorem Jv2 (a:Int):(Jcf a).length≤6:=by
 unfold Jcf
 repeat' split
 all_goals decide
theorem JkT:∀(k u:Nat),u<10 ^ (k+1)→(Lib.decDigits u).length≤k+1
 | 0,u,h=>by
  rw[Lib.decDigits,dif_pos (by simpa using h)];exact Nat.le_refl _
 | k+1,u,h=>by
  rw[Lib.decDigits]
  split
  ·exact Nat.succ_le_succ (Nat.zero_le _)
  ·have:=JkT k (u / 10) (by rw[Nat.pow_succ]at h;exact Nat.div_lt_of_lt_mul (by rw[Nat.mul_comm];exact h));simp only[List.length_append,List.length_singleton];omega
theorem JtV {a b:Int} (h1:a≤1000) (h2:b≤1000):(JdD a b).length≤11:=by
 have e1:=JkT 3 a.toNat (by omega);have e2:=JkT 3 b.toNat (by omega);unfold JdD
 split
 ·simp only[List.length_append,List.length_cons,List.length_nil];omega
 split
 ·simp only[List.length_append,List.length_cons,List.length_nil];omega
 ·simp only[List.length_append,List.length_cons,List.length_nil];omega
theorem Jnf {f:Fld} (h1:f.min≤1000) (h2:f.max≤1000):(Jcl f).length≤12:=by
 have e:=JtV h1 h2;unfold Jcl;rw[List.length_append];have:(if f.lazy=true then [63]else ([]:List UInt8)).length≤1:=by split<;>simp
 repeat' split
 all_goals simp only[List.length_cons,List.length_nil]at *
 all_goals omega
theorem Jvw {nm:List UInt8} (h:nm=[]∨Jbt nm=true):(JbX nm).length≤37:=by
 have:nm.length≤32:=by
  rcases h with rfl|h
  ·exact Nat.zero_le _
  ·unfold Jbt at h;simp only[Bool.and_eq_true,decide_eq_true_eq]at h;exact h.1.2
 unfold JbX
 split
 ·simp
 ·simp only[List.length_append,List.length_cons,List.length_nil];omega
theorem JnJ:∀l:List (List UInt8),(Jbg l).length≤(l.map fun x=>x.length+1).sum
 | []=>Nat.le_refl _
 | [x]=>by simp[Jbg]
 | x::y::l=>by
  have:=JnJ (y::l);rw[JfS x (by simp),List.length_append,List.length_cons,List.map_cons,List.sum_cons];omega
theorem Jjh (x:List UInt8):(Jc1 x).length=x.length+4:=by
 unfold Jc1;simp only[List.length_append,List.length_cons,List.length_nil]
theorem Jxw (k:Tr):(JaU k).length≤(Jad k).length+4:=by
 unfold JaU Jfj
 split
 ·rw[Jjh];omega
 ·omega
theorem Jzu (k:Tr):(Jbf k).length≤(Jad k).length+4:=by
 unfold Jbf Jeh
 split
 ·rw[Jjh];omega
 ·omega
theorem Jp9 {f:Tr→List UInt8} {g:Tr→Nat}:∀l:List Tr,(∀k∈l,(f k).length≤g k)→(l.map f).flatten.length≤(l.map g).sum
 | [],_=>Nat.le_refl _
 | k::l,h=>by
  have h1:=h k (by simp);have h2:=Jp9 l fun q hq=>h q (by simp[hq])
  rw[List.map_cons,List.flatten_cons,List.length_append,List.map_cons,List.sum_cons];omega
theorem Jp8:∀l:List Tr,(l.map fun k=>64*Jai k).sum=64*(l.map Jai).sum
 | []=>rfl
 | k::l=>by rw[List.map_cons,List.sum_cons,Jp8 l,List.map_cons,List.sum_cons];omega
theorem Ji9 {t:Tr} (h:Jay t) (h5:t.fld.op≤5):t.kids=[]:=by
 have h1:=((Jbl t).1 h).2.1.2.2;refine List.eq_nil_of_length_eq_zero ?_;omega
theorem Jdl {t:Tr} (h:Jay t) (h6:t.fld.op=6∨t.fld.op=7∨t.fld.op=8∨t.fld.op=9∨t.fld.op=10):∃k,t.kids=[k]∧Jay k:=by
 have h0:=(Jbl t).1 h;obtain⟨k,hk⟩:=List.length_eq_one_iff.1 (h0.2.1.1 h6);exact⟨k,hk,h0.2.2.2 k (by rw[hk];simp)⟩
theorem JeP {t:Tr} (h:Jay t):(t.fld.op=1∨t.fld.op=2∨t.fld.op=3∨t.fld.op=4∨t.fld.op=5)∨t.fld.op=6∨(t.fld.op=7∨t.fld.op=8∨t.fld.op=9∨t.fld.op=10)∨t.fld.op=11∨t.fld.op=12:=by
 have h1:=((Jbl t).1 h).1;have h2:=h1.1;have h3:=h1.2.1;omega
theorem JgM {t:Tr} (h:t.fld.op=1∨t.fld.op=2∨t.fld.op=3∨t.fld.op=4∨t.fld.op=5):Jad t=if t.fld.op=1 then JeI else if t.fld.op=2 then JdJ else if t.fld.op=3 then Jb3 t.fld.rune else if t.fld.op=4 then Jb5 t.fld.set else Jcf t.fld.at':=by
 rw[Jfn];unfold JeE
 rcases h with h|h|h|h|h<;>simp[h]
theorem Jhe (t:Tr):Jay t→(Jad t).length+4≤64*Jai t:=by
 refine Tr.ind (P:=fun t=>Jay t→(Jad t).length+4≤64*Jai t) (fun t ih hs=>?_) t;obtain⟨hf,hk,-,hkids⟩:=(Jbl t).1 hs
 rcases JeP hs with h|h|h|h|h
 ·rw[JgM h,Jc9];have h4:t.fld.op=4→(Jcs t.fld.set).length≤21*t.fld.set.length:=fun e =>
   Jit _ fun r hr=>by
    have:=Jk5 _ 0 (hf.2.2.2.2.2.2.2.2.2.1 e).1 r hr;omega
  have h3:t.fld.op=3→(Jb3 t.fld.rune).length≤10:=fun e=>Jle (hf.2.2.2.2.2.2.2.2.1 e).2
  have h5:=Jv2 t.fld.at'
  split
  ·rw[show JeI.length=19 from rfl];omega
  split
  ·rw[show JdJ.length=4 from rfl];omega
  split
  ·rename_i e;have:=h3 e;omega
  split
  ·rename_i e
   have:=h4 e;unfold Jb5;simp only[List.length_append,List.length_cons,List.length_nil];omega
  ·omega
 ·obtain⟨k,hkk,hks⟩:=Jdl hs (.inl h);have e:=ih k (by rw[hkk];simp) hks;have e2:=Jvw (hf.2.2.2.2.2.2.2.2.2.2.2.1 h);rw[Jhc h hkk,Jc9,hkk];simp only[List.length_append,List.length_cons,List.length_nil,List.map_cons,List.map_nil,List.sum_cons,List.sum_nil];omega
 ·obtain⟨k,hkk,hks⟩:=Jdl hs (.inr h);have e:=ih k (by rw[hkk];simp) hks;have e1:=Jzu k;have e2:(Jcl t.fld).length≤12:=by
   by_cases h10:t.fld.op=10
   ·have:=hf.2.2.2.2.2.2.2.2.2.2.2.2 h10;exact Jnf this.1.2 (by omega)
   ·have:=hf.2.2.2.2.2.2.1 h10;exact Jnf (by omega) (by omega)
  rw[JgD h hkk,Jc9,hkk];simp only[List.length_append,List.map_cons,List.map_nil,List.sum_cons,List.sum_nil];omega
 ·have hn:t.kids.length=0∨t.kids.length=1∨2≤t.kids.length:=by omega
  rcases hn with hn|hn|hn
  ·rw[Jhp h (List.eq_nil_of_length_eq_zero hn),Jc9];rw[show JdJ.length=4 from rfl];omega
  ·obtain⟨k,hkk⟩:=List.length_eq_one_iff.1 hn;have e:=ih k (by rw[hkk];simp) (hkids k (by rw[hkk];simp));have e2:=Jfo (t:=t) (k:=k) (by rw[hkk];simp);rw[JgF ⟨.inl h,hn⟩ hkk];omega
  ·rw[Jg4 h hn,Jc9];have e:=Jp9 (f:=JaU) (g:=fun k=>64*Jai k) t.kids fun k hk'=>by
    have:=ih k hk' (hkids k hk');have:=Jxw k;omega
   rw[Jp8]at e;omega
 ·rw[Jg0 h,Jc9];have e:=JnJ (t.kids.map Jad);have e2:∀l:List Tr,(∀k∈l,k∈t.kids)→((l.map Jad).map fun x=>x.length+1).sum≤64*(l.map Jai).sum:=by
   intro l
   induction l with
   | nil=>intro _;exact Nat.le_refl _
   | cons k l il =>
    intro hm;have h1:=il fun q hq=>hm q (by simp[hq])
    have h2:=ih k (hm k (by simp)) (hkids k (hm k (by simp)));simp only[List.map_cons,List.sum_cons];omega
  have e3:=e2 t.kids fun _ h=>h
  omega
end Go.Proofs.YtaaoamkagppodaaGreatDoor
