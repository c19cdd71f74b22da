/- Texts merged by program. No condition. -/
import Derived.Test.YtaaoamkagppodaaGreatDoorK19
import Derived.Lib.ValidU
import Derived.Test.YtaaoamkagppodaaGreatDoorK21
set_option maxHeartbeats 800000
set_option linter.unusedVariables false
namespace Go.Proofs.YtaaoamkagppodaaGreatDoor
open Go Go.RowKit
def Jag (f:Int) (k:Int):Bool:=bits .and .i64 f k != 0
def Jbh (op:Int):Fld:=⟨op,0,[],0,0,⟨#[]⟩,0,0,false⟩
def Jap (c:Int):Tr:=.mk ⟨3,c,[],0,0,⟨#[]⟩,0,0,false⟩ []
def JaD (l:List (Int × Int)):Tr:=.mk ⟨4,0,l,0,0,⟨#[]⟩,0,0,false⟩ []
def Jdh (l:List (Int × Int)):Tr:=if l=[]then .mk (Jbh 1) []else JaD l
def atY (a:Int):Tr:=.mk ⟨5,0,[],a,0,⟨#[]⟩,0,0,false⟩ []
def Jb1 (c:Int) (fold:Bool):Tr:=if fold=true∧2≤(JaJ c).length then JaD (setB fun d=>(JaJ c).contains d)else Jap c
def JaQ:List Tr→Tr
 | []=>.mk (Jbh 2) []
 | [x]=>x
 | l=>.mk (Jbh 11) l
def Jao:List Tr→Tr
 | [x]=>x
 | l=>.mk (Jbh 12) l
def JdY (k:Nat) (nm:List UInt8) (x:Tr):Tr:=.mk ⟨6,0,[],0,k,⟨nm.toArray⟩,0,0,false⟩ [x]
def JbB (s:ByteArray) (i:Nat):Option (Int × Int × Int × Nat):=
 if Jac (Jaa s i)=42∨Jac (Jaa s i)=43∨Jac (Jaa s i)=63 then some (Jac (Jaa s i),0,0,i+1) else
 match Jep s i with
 | none=>none
 | some (a,b,k)=>some (123,a,b,k)
def Jb7 (c a b:Int):Bool:=decide (c≠123) || (decide (a≤1000)&&decide (b≤1000)&&(decide (b = -1) || decide (a≤b)))
def Ja6 (s:ByteArray) (i:Nat) (f:Int):Bool:=Jag f 32&&decide (Jac (Jaa s i)=63)
def opY (c:Int):Int:=if c=42 then 7 else if c=43 then 8 else if c=63 then 9 else 10
def Jdd (c a b:Int) (lazy:Bool) (x:Tr):Tr:=.mk ⟨opY c,0,[],0,0,⟨#[]⟩,if c=123 then a else 0,if c=123 then b else 0,lazy⟩ [x]
inductive PR where
 | ok (l:List Tr) (i:Nat) (f:Int) (ns:List (List UInt8))
 | bad (c:Int) (a b:Nat)
def JeT (s:ByteArray) (i:Nat) (f:Int) (ns:List (List UInt8)) (l:List Tr) (x:Tr) (c a b:Int) (k:Nat):PR:=
 if Jb7 c a b=false then .bad 85 i k else
 let k2:=if Ja6 s k f=true then k+1 else k
 match JbB s k2 with
 | none=>.ok (l++[Jdd c a b (Ja6 s k f != Jag f 16) x]) k2 f ns
 | some (c2,a2,b2,n2)=>if Jb7 c2 a2 b2=false then .bad 85 k2 n2 else .bad 83 i (if Ja6 s n2 f=true then n2+1 else n2)
def JbQ (s:ByteArray) (fold:Bool):Nat→Nat→List Tr × Nat
 | 0,i=>([],i)
 | n+1,i=>if s.size≤i then ([],i)else if Jat [92,69] (Jaa s i)=true then ([],i+2) else
  (Jb1 (Utf8.decode s i).1 fold::(JbQ s fold n (i+(Utf8.decode s i).2)).1,(JbQ s fold n (i+(Utf8.decode s i).2)).2)
def Jd2 (s:ByteArray) (i:Nat) (f:Int) (ns:List (List UInt8)):PR:=
 match Jck s i (Jag f 32) with
 | .bad c till=>.bad c i till
 | .esc k r l a n=>if k=1 then .ok [Jb1 r (Jag f 1)] n f ns else if k=2 then .ok [Jdh (if Jag f 1=true then setB (Jes l)else l)] n f ns else
  if k=3 then .ok [atY a] n f ns else .ok (JbQ s (Jag f 1) s.size n).1 (JbQ s (Jag f 1) s.size n).2 f ns
def JiH (fold not':Bool) (all:List (Int × Int)):List (Int × Int):=setB fun c=>(if fold=true then Jes all c else JgE all c) != not'
def Je0 (s:ByteArray) (i:Nat) (f:Int) (ns:List (List UInt8)):PR:=
 match JdG s i (Jag f 32) with
 | .bad c a b=>.bad c a b
 | .item all n=>.ok [Jdh (JiH (Jag f 1) (JcY s i) all)] n f ns
def Jfi (s:ByteArray) (i:Nat) (f:Int) (ns:List (List UInt8)):PR:=
 let c:Int:=(Utf8.decode s i).1;let n:=i+(Utf8.decode s i).2
 if c=46 then .ok [Jdh (Jhr (Jag f 8))] n f ns else
 if c=94 then .ok [atY (if Jag f 4=true then 4 else 1)] n f ns else
 if c=36 then .ok [atY (if Jag f 4=true then 8 else 2)] n f ns else .ok [Jb1 c (Jag f 1)] n f ns
inductive Jl4 where
 | cap (nm:List UInt8) (n:Nat)
 | flags (g:Int) (n:Nat)
 | under (g:Int) (n:Nat)
 | bad (c:Int) (a b:Nat)
def Jdi (s:ByteArray) (i:Nat) (f:Int) (ns:List (List UInt8)):Jl4:=
 if Jag f 32=true∧(Jat [40,63,80,60] (Jaa s i)=true∨Jat [40,63,60] (Jaa s i)=true) then
  match JcA s i with
  | none=>.bad 64 i (min (Jca s i+1) s.size)
  | some (nm,k)=>if nm∈ns then .bad 64 i k else .cap nm k
 else if Jag f 32=true∧Jat [40,63] (Jaa s i)=true then
  match JcC s i f with
  | (none,p)=>.bad 65 i (Jdy s p).toNat
  | (some (g,under),k)=>if under=true then .under g k else .flags g k
 else .cap [] (i+1)
mutual
def JaN (s:ByteArray):Nat→Nat→Int→List (List UInt8)→List Tr→PR
 | 0,_,_,_,_=>.bad 84 0 s.size
 | n+1,i,f,ns,acc =>
  match JaO s n i f ns [] with
  | .bad c a b=>.bad c a b
  | .ok l i2 f2 ns2=>if Jac (Jaa s i2)=124 then JaN s n (i2+1) f2 ns2 (acc++[JaQ l])else .ok (acc++[JaQ l]) i2 f2 ns2
def JaO (s:ByteArray):Nat→Nat→Int→List (List UInt8)→List Tr→PR
 | 0,_,_,_,_=>.bad 84 0 s.size
 | n+1,i,f,ns,l =>
  if s.size≤i∨Jac (Jaa s i)=124∨Jac (Jaa s i)=41 then .ok l i f ns else
  match JbB s i with
  | some (c,a,b,k)=>(match l.getLast? with
   | none=>.bad 82 i k
   | some x=>match JeT s i f ns l.dropLast x c a b k with
    | .bad c a b=>.bad c a b
    | .ok l2 i2 f2 ns2=>JaO s n i2 f2 ns2 l2)
  | none=>match Ja3 s n i f ns with
   | .bad c a b=>.bad c a b
   | .ok xs i2 f2 ns2=>JaO s n i2 f2 ns2 (l++xs)
def Ja3 (s:ByteArray):Nat→Nat→Int→List (List UInt8)→PR
 | 0,_,_,_=>.bad 84 0 s.size
 | n+1,i,f,ns =>
  if Jac (Jaa s i)=40 then
   match Jdi s i f ns with
   | .bad c a b=>.bad c a b
   | .flags g k=>.ok [] k g ns
   | .cap nm k=>(match JaN s n k f (ns++[nm]) [] with
    | .bad c a b=>.bad c a b
    | .ok l i2 _ ns2=>if Jac (Jaa s i2)=41 then .ok [JdY (ns.length+1) nm (Jao l)] (i2+1) f ns2 else .bad 84 0 s.size)
   | .under g k=>(match JaN s n k g ns [] with
    | .bad c a b=>.bad c a b
    | .ok l i2 _ ns2=>if Jac (Jaa s i2)=41 then .ok [Jao l] (i2+1) f ns2 else .bad 84 0 s.size)
  else if Jac (Jaa s i)=91 then Je0 s i f ns
  else if Jac (Jaa s i)=92 then Jd2 s i f ns
  else Jfi s i f ns
end
def Jce (s:ByteArray) (fold:Bool):Nat→Nat→List Tr
 | 0,_=>[]
 | n+1,i=>if s.size≤i then []else Jb1 (Utf8.decode s i).1 fold::Jce s fold n (i+(Utf8.decode s i).2)
inductive JfF where
 | tree (t:Tr)
 | bad (c:Int) (a b:Nat)
def Jc7 (s:ByteArray) (t:Tr):JfF:=if 50<JaC t then .bad 86 0 s.size else if 4000<Ja5 t then .bad 87 0 s.size else .tree t
def JdU (s:ByteArray):Nat:=3*s.size+3
def JdK (s:ByteArray) (f:Int):JfF:=
 if f<0∨63<f then .bad 1 0 s.size else if 1024<s.size then .bad 2 0 s.size else if Lib.validD s.toList=false then .bad 81 0 s.size else
 if Jag f 2=true then Jc7 s (JaQ (Jce s (Jag f 1) s.size 0)) else
 match JaN s (JdU s) 0 f [] [] with
 | .bad c a b=>.bad c a b
 | .ok l i _ _=>if i<s.size then .bad 84 0 s.size else Jc7 s (Jao l)
def gsL (l:List Tr):List Tr:=(l.map JaP).flatten
theorem JkY (a b:List Tr):gsL (a++b)=gsL a++gsL b:=by simp[gsL]
theorem JfU (t:Tr):gsL [t]=JaP t:=by simp[gsL]
theorem Jie (f:Fld) (ks:List Tr):JaP (.mk f ks)=(if f.op=6 then [.mk f ks]else [])++gsL ks:=Jfm _
def JcF (t:Tr):Int × List UInt8:=(t.fld.cap,t.fld.name.toList)
def Jc5 (k:Nat):List (List UInt8)→List (Int × List UInt8)
 | []=>[]
 | n::ns=>((k:Int)+1,n)::Jc5 (k+1) ns
theorem Jlo:∀(a:List (List UInt8)) (k:Nat) (b:List (List UInt8)),Jc5 k (a++b)=Jc5 k a++Jc5 (k+a.length) b
 | [],k,b=>by simp[Jc5]
 | x::a,k,b=>by
  rw[List.cons_append,Jc5,Jc5,Jlo a (k+1) b,List.length_cons,List.cons_append,show k+1+a.length=k+(a.length+1) by omega]
def JbH (k:Nat) (ns:List (List UInt8)) (l:List Tr):Prop:=(∀t∈l,Jay t)∧(gsL l).map JcF=Jc5 k ns
theorem Je4 (k:Nat):JbH k [] []:=⟨fun t h=>(by cases h),rfl⟩
theorem JbH.append {k:Nat} {a b:List (List UInt8)} {l m:List Tr} (h:JbH k a l) (g:JbH (k+a.length) b m):JbH k (a++b) (l++m):=by
 refine⟨fun t ht=>(List.mem_append.1 ht).elim (h.1 t) (g.1 t),?_⟩;rw[JkY,List.map_append,Jlo,h.2,g.2]
theorem JiF {k:Nat} {f:Fld} (hf:Jbv f) (hk:JbK f.op 0) (h6:f.op≠6):JbH k [] [.mk f []]:=by
 refine⟨fun t ht=>?_,?_⟩
 ·have:=List.mem_singleton.1 ht;subst this;exact(Jbl _).2 ⟨hf,hk,fun h=>h6 h.1,fun k hk=>by cases hk⟩
 ·rw[JfU,Jie,if_neg h6];rfl
theorem JnI {k:Nat} {ns:List (List UInt8)} {f:Fld} {l:List Tr} (h:JbH k ns l) (hf:Jbv f) (hk:JbK f.op l.length) (h6:f.op≠6):JbH k ns [.mk f l]:=by
 refine⟨fun t ht=>?_,?_⟩
 ·have:=List.mem_singleton.1 ht;subst this;exact(Jbl _).2 ⟨hf,hk,fun h=>h6 h.1,h.1⟩
 ·rw[JfU,Jie,if_neg h6,List.nil_append];exact h.2
theorem JmK:(⟨#[]⟩:ByteArray).toList=[]:=by kernel_rfl
theorem JiX {op:Int} (h1:1≤op) (h2:op≤12) (h3:op≠3) (h4:op≠4) (h5:op≠5) (h10:op≠10):Jbv (Jbh op):=by
 unfold Jbv Jbh
 simp[h1,h2,h3,h4,h5,h10]
theorem JiW {op:Int} (h:op=1∨op=2∨op=3∨op=4∨op=5):JbK op 0:=by
 unfold JbK;omega
theorem JqI {k:Nat} {ns:List (List UInt8)} {l:List Tr} (h:JbH k ns l):JbH k ns [JaQ l]:=by
 match l,h with
 | [],h =>
  have hn:ns=[]:=by
   cases ns with
   | nil=>rfl
   | cons x ns=>cases h.2
  subst hn;exact JiF (JiX (by decide) (by decide) (by decide) (by decide) (by decide) (by decide)) (JiW (by decide)) (by decide)
 | [x],h=>exact h
 | x::y::l,h =>
  exact JnI h (JiX (by decide) (by decide) (by decide) (by decide) (by decide) (by decide)) ⟨fun h=>(by simp[Jbh]at h),fun h=>(by simp[Jbh]at h),(by simp[Jbh])⟩ (by decide)
theorem Jju {k:Nat} {ns:List (List UInt8)} {l:List Tr} (h:JbH k ns l) (h0:l≠[]):JbH k ns [Jao l]:=by
 match l,h,h0 with
 | [x],h,_=>exact h
 | x::y::l,h,_ =>
  exact JnI h (JiX (by decide) (by decide) (by decide) (by decide) (by decide) (by decide)) ⟨fun h=>(by simp[Jbh]at h),fun _=>(by simp),(by simp[Jbh])⟩ (by decide)
theorem Jsq {k:Nat} {nm:List UInt8} {ns:List (List UInt8)} {x:Tr} (h:JbH (k+1) ns [x]) (hn:nm=[]∨Jbt nm=true):JbH k (nm::ns) [JdY (k+1) nm x]:=by
 have hnm:(⟨nm.toArray⟩:ByteArray).toList=nm:=by rw[Lib.toList_data]
 refine⟨fun t ht=>?_,?_⟩
 ·have:=List.mem_singleton.1 ht;subst this;refine(Jbl _).2 ⟨?_,?_,?_,h.1⟩
  ·show Jbv ⟨6,0,[],0,((k+1:Nat):Int),⟨nm.toArray⟩,0,0,false⟩;unfold Jbv
   simp[hnm,hn]
  ·show JbK 6 1;unfold JbK;omega
  ·show ¬((6:Int)=6∧((k+1:Nat):Int)<1);omega
 ·have e:=h.2;rw[JfU]at e ⊢;show ((JaP (.mk ⟨6,0,[],0,((k+1:Nat):Int),⟨nm.toArray⟩,0,0,false⟩ [x])).map JcF)=_;rw[Jie,if_pos rfl,JfU,List.map_append,e];simp only[List.map_cons,List.map_nil,List.cons_append,List.nil_append,Jc5]
  congr 1
  unfold JcF;simp only[Tr.fld,hnm];rfl
theorem Jxe {c a b:Int} {lz:Bool} {x:Tr} (hx:Jay x) (hc:c=42∨c=43∨c=63∨(c=123∧0≤a∧a≤1000∧(b = -1∨(a≤b∧b≤1000)))):Jay (Jdd c a b lz x):=by
 have hop:opY c=7∨opY c=8∨opY c=9∨(c=123∧opY c=10):=by
  rcases hc with rfl|rfl|rfl|⟨rfl,-⟩<;>decide
 refine(Jbl _).2 ⟨?_,?_,?_,fun t ht=>?_⟩
 ·show Jbv ⟨opY c,0,[],0,0,⟨#[]⟩,if c=123 then a else 0,if c=123 then b else 0,lz⟩;unfold Jbv
  rcases hc with rfl|rfl|rfl|⟨rfl,h0,h1,h2⟩
  ·simp[opY]
  ·simp[opY]
  ·simp[opY]
  ·simp[opY,h0,h1,h2]
 ·show JbK (opY c) 1;unfold JbK;omega
 ·show ¬(opY c=6∧_);omega
 ·rw[show t=x from List.mem_singleton.1 ht];exact hx
theorem Jur (k:Nat) {c:Int} (h0:0≤c) (h1:c≤1114111):JbH k [] [Jap c]:=
 JiF (by unfold Jbv;simp[h0,h1]) (JiW (by simp)) (by simp)
theorem JmJ (k:Nat) {l:List (Int × Int)} (h:Jak l) (h0:l≠[]):JbH k [] [JaD l]:=
 JiF (by unfold Jbv;simp[h,h0]) (JiW (by simp)) (by simp)
theorem Jma (k:Nat) {l:List (Int × Int)} (h:Jak l):JbH k [] [Jdh l]:=by
 unfold Jdh
 split
 ·exact JiF (JiX (by decide) (by decide) (by decide) (by decide) (by decide) (by decide)) (JiW (by decide)) (by decide)
 ·rename_i h0
  exact JmJ k h h0
theorem Jk2 (k:Nat) {a:Int} (h:a=1∨a=2∨a=4∨a=8∨a=16∨a=32):JbH k [] [atY a]:=
 JiF (by unfold Jbv;simp[h]) (JiW (by simp)) (by simp)
theorem Jj3 (k:Nat) {c:Int} (fold:Bool) (h0:0≤c) (h1:c≤1114111):JbH k [] [Jb1 c fold]:=by
 unfold Jb1
 split
 ·refine JmJ k (Jgh _) fun e=>?_
  have h:=(JmH (fun d=>(JaJ c).contains d) c).2 ⟨h0,h1,by simpa using Jia c h0 h1⟩;rw[e]at h;obtain⟨_,_,r,hr,_⟩:=h
  cases hr
 ·exact Jur k h0 h1
theorem JbH.last {k:Nat} {ns:List (List UInt8)} {l:List Tr} {x:Tr} {c a b:Int} {lz:Bool} (h:JbH k ns l) (hx:l.getLast? = some x) (hc:c=42∨c=43∨c=63∨(c=123∧0≤a∧a≤1000∧(b = -1∨(a≤b∧b≤1000)))):JbH k ns (l.dropLast++[Jdd c a b lz x]):=by
 have hl:l=l.dropLast++[x]:=by
  have h0:l≠[]:=by rintro rfl;cases hx
  rw[List.getLast?_eq_some_getLast h0]at hx;rw[←Option.some.inj hx];exact(List.dropLast_concat_getLast h0).symm
 have hxs:Jay x:=h.1 x (by rw[hl];simp);have hg:JaP (Jdd c a b lz x)=JaP x:=by
  unfold Jdd;rw[Jie,JfU,if_neg,List.nil_append];show ¬opY c=6
  rcases hc with rfl|rfl|rfl|⟨rfl,-⟩<;>decide
 have hs:Jay (Jdd c a b lz x):=by
  have e:=Jxe (lz:=lz) hxs hc;exact e
 refine⟨fun t ht=>?_,?_⟩
 ·rcases List.mem_append.1 ht with ht|ht
  ·exact h.1 t (by rw[hl];exact List.mem_append_left _ ht)
  ·rw[List.mem_singleton.1 ht];exact hs
 ·rw[JkY,JfU,hg];have e:=h.2;rw[hl,JkY,JfU]at e;exact e
theorem JkS:∀(l:List UInt8) (n:Int),0≤n→0≤(JaF l n).1
 | [],n,h=>h
 | c::t,n,h=>by
  unfold JaF
  split
  ·rename_i hd
   have hd:=(Jiv c).1 hd;exact JkS t _ (by omega)
  ·exact h
theorem Je3 {s:ByteArray} {i:Nat} {c:Int} (h:Jac (Jaa s i)=c) (hc:0≤c):i<s.size:=Jbo (by omega)
theorem JyI {s:ByteArray} {i k:Nat} {a b:Int} (h:Jep s i=some (a,b,k)):i<k∧k≤s.size∧0≤a∧(b = -1∨0≤b):=by
 by_cases h0:Jac (Jaa s i)=123
 ·obtain⟨⟨x,k1⟩,h1⟩:∃r,JaF (Jaa s (i+1)) 0=r:=⟨_,rfl⟩;obtain⟨j,hj⟩:∃j,i+1+k1=j:=⟨_,rfl⟩;obtain⟨⟨y,l⟩,h2⟩:∃r,JaF (Jaa s (j+1)) 0=r:=⟨_,rfl⟩;obtain⟨m,hm⟩:∃m,j+1+l=m:=⟨_,rfl⟩;rw[Jh7 h0 h1 hj h2 hm]at h;have x0:=JkS (Jaa s (i+1)) 0 (Int.le_refl _);have y0:=JkS (Jaa s (j+1)) 0 (Int.le_refl _);rw[h1]at x0;rw[h2]at y0
  split at h
  ·cases h
  split at h
  ·rename_i e
   have:=Je3 e (by decide)
   cases h
   exact⟨by omega,by omega,x0,.inr x0⟩
  split at h
  ·cases h
  split at h
  ·rename_i e
   have:=Je3 e (by decide)
   cases h
   exact⟨by omega,by omega,x0,.inl rfl⟩
  split at h
  ·cases h
  split at h
  ·rename_i e
   have:=Je3 e (by decide)
   cases h
   exact⟨by omega,by omega,x0,.inr y0⟩
  ·cases h
 ·unfold Jep at h;rw[if_pos h0]at h
  cases h
theorem JgJ {s:ByteArray} {i k:Nat} {c a b:Int} (h:JbB s i=some (c,a,b,k)):i<k∧k≤s.size∧(c=42∨c=43∨c=63∨c=123)∧0≤a∧(b = -1∨0≤b):=by
 unfold JbB at h
 split at h
 ·rename_i h0
  have hlt:=Jbo (s:=s) (i:=i) (by omega)
  cases h
  exact⟨by omega,hlt,by omega,Int.le_refl _,.inr (Int.le_refl _)⟩
 ·split at h
  ·cases h
  ·rename_i hc
   obtain⟨h1,h2,h3,h4⟩:=JyI hc
   cases h
   exact⟨h1,h2,.inr (.inr (.inr rfl)),h3,h4⟩
theorem JhZ {s:ByteArray} {k:Nat} {f:Int} (h:Ja6 s k f=true):k+1≤s.size:=by
 unfold Ja6 at h;rw[Bool.and_eq_true,decide_eq_true_eq]at h;exact Je3 h.2 (by decide)
theorem Joh {c a b:Int} (h:¬Jb7 c a b=false) (hc:c=42∨c=43∨c=63∨c=123) (ha:0≤a) (hb:b = -1∨0≤b):c=42∨c=43∨c=63∨(c=123∧0≤a∧a≤1000∧(b = -1∨(a≤b∧b≤1000))):=by
 unfold Jb7 at h;simp only[Bool.or_eq_false_iff,Bool.and_eq_false_iff,decide_eq_false_iff_not]at h;omega
theorem Jo0 {s:ByteArray} {i k:Nat} {nm:List UInt8} (hi:i≤s.size) (h:JcA s i=some (nm,k)):i<k∧k≤s.size∧Jbt nm=true:=by
 unfold JcA at h
 split at h
 ·cases h
 ·rename_i f hf
  split at h
  ·rename_i g
   cases h
   unfold JfT at hf
   split at hf
   ·cases hf
    exact⟨by omega,by omega,g.2.2⟩
   ·split at hf
    ·cases hf
     exact⟨by omega,by omega,g.2.2⟩
    ·cases hf
  ·cases h
theorem Jv1:∀n:Fin 64,∀k∈([0,1,4,8,16]:List Int),(0≤bits .or .i64 (n.val:Int) k∧bits .or .i64 (n.val:Int) k≤63)∧0≤bits .andNot .i64 (n.val:Int) k∧bits .andNot .i64 (n.val:Int) k≤63:=by decide +kernel
def JaV (f:Int):Prop:=0≤f∧f≤63
theorem JuD (c:Int):JaZ c∈([0,1,4,8,16]:List Int):=by
 unfold JaZ
 repeat' split
 all_goals simp
theorem Ju2 {f:Int} (h:JaV f) (c:Int):JaV (bits .or .i64 f (JaZ c))∧JaV (bits .andNot .i64 f (JaZ c)):=by
 have:=Jv1 ⟨f.toNat,by have:=h.2;have:=h.1;omega⟩ (JaZ c) (JuD c);simp only[Int.toNat_of_nonneg h.1]at this;exact this
theorem Jkv:∀(l:List UInt8) (f:Int) (off more:Bool),(JbT l f off more).2≤l.length∧∀g u,(JbT l f off more).1=some (g,u)→1≤(JbT l f off more).2∧(JaV f→JaV g)
 | [],_,_,_=>⟨Nat.le_refl _,fun _ _ h=>by cases h⟩
 | c::t,f,off,more=>by
  rw[JbT]
  split
  ·have h:=Jkv t (if off then bits .andNot .i64 f (JaZ c.toNat)else bits .or .i64 f (JaZ c.toNat)) off (more || off);refine⟨by simp only[List.length_cons];omega,fun g u e=>⟨by simp only;omega,fun hf=>(h.2 g u e).2 ?_⟩⟩;have hs:=Ju2 hf c.toNat
   split
   ·exact hs.2
   ·exact hs.1
  split
  ·have h:=Jkv t f true more;exact⟨by simp only[List.length_cons];omega,fun g u e=>⟨by simp only;omega,(h.2 g u e).2⟩⟩
  split
  ·refine⟨by simp,fun g u e=>⟨Nat.le_refl _,fun hf=>?_⟩⟩
   cases e
   exact hf
  ·exact⟨Nat.zero_le _,fun _ _ e=>by cases e⟩
theorem JmS {s:ByteArray} {i:Nat} {f:Int} (hi:i≤s.size) :
  (∀p,JcC s i f=(none,p)→i≤(Jdy s p).toNat∧(Jdy s p).toNat≤s.size)∧∀g u k,JcC s i f=(some (g,u),k)→i<k∧k≤s.size∧(JaV f→JaV g):=by
 have hb:∀p,i≤p→i≤(Jdy s p).toNat∧(Jdy s p).toNat≤s.size:=fun p hp=>by
  unfold Jdy
  split
  ·rename_i h
   have:=JeG s p h;omega
  ·omega
 unfold JcC
 split
 ·exact⟨fun p e=>hb p (by cases e;exact Nat.le_refl _),fun g u k e=>by cases e⟩
 split
 ·exact⟨fun p e=>hb p (by cases e;omega),fun g u k e=>by cases e⟩
 ·rename_i h1
  have hl:=Je3 (Classical.not_not.1 h1) (by decide);have h:=Jkv (Jaa s (i+2)) f false false;rw[Jbm]at h;refine⟨fun p e=>hb p ?_,fun g u k e=>?_⟩
  ·have:=congrArg Prod.snd e;simp only at this;omega
  ·have e1:=congrArg Prod.fst e;have e2:=congrArg Prod.snd e;simp only at e1 e2;have:=h.2 g u e1;exact⟨by omega,by omega,this.2⟩
def Jmb (s:ByteArray) (i:Nat):Jfr→Prop
 | .esc k r l a n=>k=3→a=1∨a=2∨a=4∨a=8∨a=16∨a=32
 | .bad c till=>i≤till∧till≤s.size
theorem Jyp {c:Int} (h:¬JeY c=0):JeY c=1∨JeY c=2∨JeY c=4∨JeY c=8∨JeY c=16∨JeY c=32:=by
 unfold JeY at h ⊢
 repeat' split at h
 all_goals simp_all
theorem JvC (s:ByteArray) (i:Nat) (c:Int) (b:Nat) (p:Bool) (hi:i≤b) (hb:b≤s.size):Jmb s i (JdX s c b p):=by
 unfold JdX
 split
 ·exact fun h=>by cases h
 split
 ·exact fun h=>by cases h
 split
 ·split
  ·exact⟨hi,hb⟩
  ·exact fun h=>by cases h
 split
 ·split
  ·exact⟨hi,hb⟩
  ·rename_i nm k hn
   obtain⟨a1,a2⟩:=Jot hn
   split
   ·exact⟨by omega,a2⟩
   ·exact fun h=>by cases h
 split
 ·exact⟨hi,hb⟩
 ·rename_i k l a hl
  split
  ·intro h3;unfold Jen at hl
   split at hl
   ·rename_i h0
    cases hl
    exact Jyp h0
   split at hl
   ·cases hl
    cases h3
   split at hl
   ·cases hl
   split at hl
   ·cases hl
   ·cases hl
    cases h3
  ·exact⟨hi,hb⟩
theorem Jkl (s:ByteArray) (i:Nat) (p:Bool) (h:i<s.size):Jmb s i (Jck s i p):=by
 unfold Jck
 split
 ·exact⟨Nat.le_refl _,Nat.le_of_lt h⟩
 split
 ·exact⟨by omega,by omega⟩
 ·exact JvC s i _ _ p (by omega) (JeG s (i+1) (by omega))
theorem Jo5 (s:ByteArray) (i:Nat) (p:Bool) (h:i<s.size):Jmb s i (Jcj s i p):=by
 unfold Jcj
 split
 ·exact Jkl s i p h
 ·exact fun h=>by cases h
def Jrr (s:ByteArray) (i:Nat):JfI→Prop
 | .item _ _=>True
 | .bad _ a b=>i≤a∧a≤b∧b≤s.size
theorem JrP (s:ByteArray) (i:Nat) (p:Bool) (h:i<s.size):Jrr s i (Jco s i p):=by
 unfold Jco
 split
 ·rename_i k hk
  have:=JkE hk
  split
  ·exact⟨Nat.le_refl _,by omega,this.2⟩
  ·trivial
 ·have hk:=Jhv s i p h;have ht:=Jo5 s i p h
  split
  ·rename_i c till he
   rw[he]at ht;exact⟨Nat.le_refl _,ht.1,ht.2⟩
  ·rename_i k r l a n he
   rw[he]at hk;obtain⟨a1,a2,a3,a4,a5⟩:=hk
   split
   ·trivial
   split
   ·exact⟨Nat.le_refl _,by omega,a2⟩
   ·unfold Jee
    split
    ·rename_i hd
     have hlt:=Jbo hd.2.1;have hk2:=Jhv s (n+1) p hlt;have ht2:=Jo5 s (n+1) p hlt
     split
     ·rename_i c till he2
      rw[he2]at ht2;exact⟨by omega,ht2.1,ht2.2⟩
     ·rename_i k2 r2 l2 a2' n2 he2
      rw[he2]at hk2;obtain⟨b1,b2,-⟩:=hk2
      split
      ·exact⟨Nat.le_refl _,by omega,b2⟩
      ·trivial
    ·trivial
def Jm3 (s:ByteArray) (i:Nat):JfI→Prop
 | .item _ n=>i<n∧n≤s.size
 | .bad c a b=>0<c∧a≤b∧b≤s.size
theorem Jpy (s:ByteArray) (at':Nat) (p:Bool) (ha:at'≤s.size):∀(m i:Nat) (f:Bool) (all:List (Int × Int)),Jm3 s i (Jcz s at' p m i f all)
 | 0,i,f,all=>⟨by decide,ha,Nat.le_refl _⟩
 | m+1,i,f,all=>by
  rw[Jcz]
  split
  ·exact⟨by decide,ha,Nat.le_refl _⟩
  rename_i hlt
  split
  ·exact⟨Nat.lt_succ_self _,by omega⟩
  ·have hk:=Jk7 s i p (by omega);have ht:=JrP s i p (by omega)
   split
   ·rename_i c a b he
    rw[he]at hk ht;exact⟨hk,ht.2.1,ht.2.2⟩
   ·rename_i l n he
    rw[he]at hk;obtain⟨h1,h2,-⟩:=hk;have h:=Jpy s at' p ha m n false (all++l)
    revert h
    cases Jcz s at' p m n false (all++l) with
    | item l2 n2=>exact fun h=>⟨by have:=h.1;omega,h.2⟩
    | bad c a b=>exact fun h=>h
theorem JlH (s:ByteArray) (i:Nat) (p:Bool) (hi:i<s.size):Jm3 s i (JdG s i p):=by
 unfold JdG
 split
 ·exact⟨by decide,Nat.le_refl _,Nat.le_of_lt hi⟩
 ·have h:=Jpy s i p (Nat.le_of_lt hi) (s.size+1) (i+1+(if JcY s i then 1 else 0)) true []
  revert h
  cases Jcz s i p (s.size+1) (i+1+(if JcY s i then 1 else 0)) true [] with
  | item l2 n2=>exact fun h=>⟨by have:=h.1;omega,h.2⟩
  | bad c a b=>exact fun h=>h
theorem Jpm (s:ByteArray) (fold:Bool) (k:Nat):∀(n i:Nat),i≤s.size→i≤(JbQ s fold n i).2∧(JbQ s fold n i).2≤s.size∧JbH k [] (JbQ s fold n i).1
 | 0,i,h=>⟨Nat.le_refl _,h,Je4 k⟩
 | n+1,i,h=>by
  rw[JbQ]
  split
  ·exact⟨Nat.le_refl _,h,Je4 k⟩
  split
  ·rename_i hp
   have:=Jix hp;rw[Jbm]at this;simp only[List.length_cons,List.length_nil]at this;exact⟨by omega,by omega,Je4 k⟩
  ·rename_i hlt _
   have h1:=JeG s i (by omega);have h2:=Lib.rune_le s i;obtain⟨g1,g2,g3⟩:=Jpm s fold k n (i+(Utf8.decode s i).2) h1;exact⟨by omega,g2,(Jj3 k fold (by omega) (by omega)).append (a:=[]) (b:=[]) g3⟩
def Jej (ns:List (List UInt8)):Prop:=(∀x∈ns,x=[]∨Jbt x=true)∧ns.Pairwise fun a b=>a=b→b=[]
theorem Jml:Jej []:=⟨fun x h=>(by cases h),List.Pairwise.nil⟩
theorem JxI {ns:List (List UInt8)} {nm:List UInt8} (h:Jej ns) (hn:nm=[]∨(Jbt nm=true∧nm ∉ ns)):Jej (ns++[nm]):=by
 refine⟨fun x hx=>?_,?_⟩
 ·rcases List.mem_append.1 hx with hx|hx
  ·exact h.1 x hx
  ·rw[List.mem_singleton.1 hx];exact hn.imp id (·.1)
 ·rw[List.pairwise_append];refine⟨h.2,List.pairwise_singleton _ _,fun a ha b hb e=>?_⟩;have:=List.mem_singleton.1 hb;subst this
  rcases hn with hn|hn
  ·exact hn
  ·rw[e]at ha;exact absurd ha hn.2
def Jgg (s:ByteArray) (i:Nat) (base pre:List (List UInt8)) (R:PR):Prop:=
 match R with
 | .ok l i2 f2 ns2=>i≤i2∧i2≤s.size∧JaV f2∧∃new,ns2=base++pre++new∧Jej ns2∧JbH base.length (pre++new) l
 | .bad c a b=>0<c∧a≤b∧b≤s.size
theorem Jft {s:ByteArray} {i n:Nat} {f:Int} {ns:List (List UInt8)} {l:List Tr} (h1:i≤n) (h2:n≤s.size) (hf:JaV f) (hn:Jej ns) (hl:JbH ns.length [] l):Jgg s i ns [] (.ok l n f ns):=
 ⟨h1,h2,hf,[],by simp,hn,by simpa using hl⟩
theorem JlT (all:Bool):Jak (Jhr all):=by
 unfold Jhr
 split
 ·exact JeS (by simp[Jak,Jav])
 ·exact JeS (by simp[Jak,Jav])
theorem JtN {s:ByteArray} {i:Nat} {f:Int} {ns:List (List UInt8)} (hi:i<s.size) (hf:JaV f) (hn:Jej ns):Jgg s i ns [] (Jfi s i f ns):=by
 have h1:=JeG s i hi;have h2:=Lib.rune_le s i;unfold Jfi;simp only
 split
 ·exact Jft (by omega) h1 hf hn (Jma _ (JlT _))
 split
 ·exact Jft (by omega) h1 hf hn (Jk2 _ (by split<;>simp))
 split
 ·exact Jft (by omega) h1 hf hn (Jk2 _ (by split<;>simp))
 ·exact Jft (by omega) h1 hf hn (Jj3 _ _ (by omega) (by omega))
theorem Jzj {s:ByteArray} {i:Nat} {f:Int} {ns:List (List UInt8)} (hi:i<s.size) (hf:JaV f) (hn:Jej ns):Jgg s i ns [] (Jd2 s i f ns):=by
 have hk:=JiU s i (Jag f 32) hi;have ht:=Jkl s i (Jag f 32) hi;unfold Jd2
 split
 ·rename_i c till he
  rw[he]at hk ht;exact⟨hk,ht.1,ht.2⟩
 ·rename_i k r l a n he
  rw[he]at hk ht;obtain⟨a1,a2,a3,a4,a5⟩:=hk
  split
  ·exact Jft (by omega) a2 hf hn (Jj3 _ _ a3 a4)
  split
  ·refine Jft (by omega) a2 hf hn (Jma _ ?_)
   split
   ·exact Jgh _
   ·exact a5
  split
  ·rename_i h3
   exact Jft (by omega) a2 hf hn (Jk2 _ (ht h3))
  ·obtain⟨q1,q2,q3⟩:=Jpm s (Jag f 1) ns.length s.size n a2;exact Jft (by omega) q2 hf hn q3
theorem JyG {s:ByteArray} {i:Nat} {f:Int} {ns:List (List UInt8)} (hi:i<s.size) (hf:JaV f) (hn:Jej ns):Jgg s i ns [] (Je0 s i f ns):=by
 have hk:=JlH s i (Jag f 32) hi;unfold Je0
 split
 ·rename_i c a b he
  rw[he]at hk;exact hk
 ·rename_i all n he
  rw[he]at hk;exact Jft (by have:=hk.1;omega) hk.2 hf hn (Jma _ (Jgh _))
theorem JxB {s:ByteArray} {i k:Nat} {f c a b:Int} {base pre:List (List UInt8)} {l:List Tr} {x:Tr} (hr:JbB s i=some (c,a,b,k)) (hf:JaV f) (hn:Jej (base++pre)) (hl:JbH base.length pre l) (hx:l.getLast? = some x) :
  Jgg s i base pre (JeT s i f (base++pre) l.dropLast x c a b k):=by
 obtain⟨h1,h2,h3,h4,h5⟩:=JgJ hr;have hz:(if Ja6 s k f=true then k+1 else k)≤s.size∧k≤(if Ja6 s k f=true then k+1 else k):=by
  split
  ·rename_i h
   exact⟨JhZ h,by omega⟩
  ·exact⟨h2,Nat.le_refl _⟩
 unfold JeT
 split
 ·exact⟨by decide,Nat.le_of_lt h1,h2⟩
 rename_i hs
 obtain⟨k2,hk2⟩:∃k2,(if Ja6 s k f=true then k+1 else k)=k2:=⟨_,rfl⟩;simp only[hk2]at hz ⊢
 split
 ·refine⟨by omega,hz.1,hf,[],by simp,hn,?_⟩;rw[List.append_nil];exact hl.last hx (Joh hs h3 h4 h5)
 ·rename_i c2 a2 b2 n2 hr2
  obtain⟨g1,g2,-⟩:=JgJ hr2
  split
  ·exact⟨by decide,Nat.le_of_lt g1,g2⟩
  ·refine⟨by decide,?_,?_⟩
   ·split<;>omega
   ·split
    ·rename_i h
     exact JhZ h
    ·exact g2
def Js1 (s:ByteArray) (i:Nat) (f:Int) (ns:List (List UInt8)):Jl4→Prop
 | .cap nm n=>i<n∧n≤s.size∧(nm=[]∨(Jbt nm=true∧nm ∉ ns))
 | .flags g n=>i<n∧n≤s.size∧JaV g
 | .under g n=>i<n∧n≤s.size∧JaV g
 | .bad c a b=>0<c∧a≤b∧b≤s.size
theorem JpU {s:ByteArray} {i:Nat} {f:Int} {ns:List (List UInt8)} (hi:i<s.size) (hf:JaV f):Js1 s i f ns (Jdi s i f ns):=by
 unfold Jdi
 split
 ·split
  ·have h1:=JrE s i (Nat.le_of_lt hi);have h2:i≤Jca s i:=Nat.le_add_right _ _;exact⟨by decide,by omega,by omega⟩
  ·rename_i nm k hk
   obtain⟨h1,h2,h3⟩:=Jo0 (Nat.le_of_lt hi) hk
   split
   ·exact⟨by decide,Nat.le_of_lt h1,h2⟩
   ·rename_i hm
    exact⟨h1,h2,.inr ⟨h3,hm⟩⟩
 split
 ·have h:=JmS (f:=f) (Nat.le_of_lt hi)
  split
  ·rename_i p hp
   have:=h.1 p hp;exact⟨by decide,this.1,this.2⟩
  ·rename_i g u k hk
   have:=h.2 g u k hk
   split
   ·exact⟨this.1,this.2.1,this.2.2 hf⟩
   ·exact⟨this.1,this.2.1,this.2.2 hf⟩
 ·exact⟨Nat.lt_succ_self _,hi,.inl rfl⟩
theorem Jk3 (s:ByteArray):∀n:Nat,
  (∀(i:Nat) (f:Int) (base pre:List (List UInt8)) (acc:List Tr),i≤s.size→JaV f→Jej (base++pre)→JbH base.length pre acc→Jgg s i base pre (JaN s n i f (base++pre) acc)∧∀l i2 f2 ns2,JaN s n i f (base++pre) acc=.ok l i2 f2 ns2→l≠[]) ∧
  (∀(i:Nat) (f:Int) (base pre:List (List UInt8)) (l:List Tr),i≤s.size→JaV f→Jej (base++pre)→JbH base.length pre l→Jgg s i base pre (JaO s n i f (base++pre) l)) ∧
  (∀(i:Nat) (f:Int) (ns:List (List UInt8)),i<s.size→JaV f→Jej ns→Jgg s i ns [] (Ja3 s n i f ns))
 | 0=>by
  refine⟨fun i f base pre acc _ _ _ _=>⟨?_,fun l i2 f2 ns2 h=>?_⟩,fun i f base pre l _ _ _ _=>?_,fun i f ns _ _ _=>?_⟩
  ·rw[JaN];exact⟨by decide,Nat.zero_le _,Nat.le_refl _⟩
  ·rw[JaN]at h
   cases h
  ·rw[JaO];exact⟨by decide,Nat.zero_le _,Nat.le_refl _⟩
  ·rw[Ja3];exact⟨by decide,Nat.zero_le _,Nat.le_refl _⟩
 | n+1=>by
  obtain⟨ih1,ih2,ih3⟩:=Jk3 s n;refine⟨fun i f base pre acc hi hf hn ha=>?_,fun i f base pre l hi hf hn hl=>?_,fun i f ns hi hf hn=>?_⟩
  ·have h:=ih2 i f (base++pre) [] [] hi hf (by rw[List.append_nil];exact hn) (Je4 _);rw[List.append_nil]at h;rw[JaN]
   cases hp:JaO s n i f (base++pre) [] with
   | bad c a b =>
    rw[hp]at h;exact⟨h,fun l i2 f2 ns2 e=>by cases e⟩
   | ok l i2 f2 ns2 =>
    rw[hp]at h;obtain⟨h1,h2,h3,new,h4,h5,h6⟩:=h;rw[List.append_nil]at h4;rw[List.nil_append,List.length_append]at h6;have hacc:JbH base.length (pre++new) (acc++[JaQ l]):=ha.append (JqI h6);simp only;subst h4;rw[List.append_assoc]at h5 ⊢
    split
    ·rename_i h124
     have hlt:=Je3 h124 (by decide);obtain⟨g,g2⟩:=ih1 (i2+1) f2 base (pre++new) (acc++[JaQ l]) hlt h3 h5 hacc;refine⟨?_,g2⟩
     revert g
     cases JaN s n (i2+1) f2 (base++(pre++new)) (acc++[JaQ l]) with
     | bad c a b=>exact fun g=>g
     | ok l3 i3 f3 ns3 =>
      rintro⟨k1,k2,k3,new2,k4,k5,k6⟩;exact⟨by omega,k2,k3,new++new2,by rw[k4];simp,k5,by simpa using k6⟩
    ·exact⟨⟨h1,h2,h3,new,by simp,h5,hacc⟩,fun l i2 f2 ns2 e=>by cases e;simp⟩
  ·rw[JaO]
   split
   ·exact⟨Nat.le_refl _,hi,hf,[],by simp,hn,by simpa using hl⟩
   rename_i hst
   have hlt:i<s.size:=by
    rcases Nat.lt_or_ge i s.size with h|h
    ·exact h
    ·exact absurd (.inl h) hst
   split
   ·rename_i c a b k hr
    split
    ·obtain⟨g1,g2,-⟩:=JgJ hr;exact⟨by decide,Nat.le_of_lt g1,g2⟩
    ·rename_i x hx
     have h:=JxB hr hf hn hl hx
     revert h
     cases JeT s i f (base++pre) l.dropLast x c a b k with
     | bad c a b=>exact fun h=>h
     | ok l2 i2 f2 ns2 =>
      rintro⟨h1,h2,h3,new,h4,h5,h6⟩;subst h4;simp only;rw[List.append_assoc]at h5 ⊢;have g:=ih2 i2 f2 base (pre++new) l2 h2 h3 h5 h6
      revert g
      cases JaO s n i2 f2 (base++(pre++new)) l2 with
      | bad c a b=>exact fun g=>g
      | ok l3 i3 f3 ns3 =>
       rintro⟨k1,k2,k3,new2,k4,k5,k6⟩;exact⟨by omega,k2,k3,new++new2,by rw[k4];simp,k5,by simpa using k6⟩
   ·have h:=ih3 i f (base++pre) hlt hf hn
    revert h
    cases Ja3 s n i f (base++pre) with
    | bad c a b=>exact fun h=>h
    | ok xs i2 f2 ns2 =>
     rintro⟨h1,h2,h3,new,h4,h5,h6⟩;rw[List.append_nil]at h4;rw[List.nil_append,List.length_append]at h6;subst h4;simp only;rw[List.append_assoc]at h5 ⊢;have g:=ih2 i2 f2 base (pre++new) (l++xs) h2 h3 h5 (hl.append h6)
     revert g
     cases JaO s n i2 f2 (base++(pre++new)) (l++xs) with
     | bad c a b=>exact fun g=>g
     | ok l3 i3 f3 ns3 =>
      rintro⟨k1,k2,k3,new2,k4,k5,k6⟩;exact⟨by omega,k2,k3,new++new2,by rw[k4];simp,k5,by simpa using k6⟩
  ·rw[Ja3]
   split
   ·have ho:=JpU (ns:=ns) hi hf
    revert ho
    cases Jdi s i f ns with
    | bad c a b=>exact fun h=>h
    | flags g k =>
     rintro⟨h1,h2,h3⟩;exact Jft (Nat.le_of_lt h1) h2 h3 hn (Je4 _)
    | cap nm k =>
     rintro⟨h1,h2,h3⟩;have hn2:=JxI hn h3;obtain⟨g,g0⟩:=ih1 k f (ns++[nm]) [] [] h2 hf (by rw[List.append_nil];exact hn2) (Je4 _);rw[List.append_nil]at g g0;simp only
     cases hp:JaN s n k f (ns++[nm]) [] with
     | bad c a b =>
      rw[hp]at g;exact g
     | ok l i2 f2 ns2 =>
      rw[hp]at g;obtain⟨k1,k2,k3,new,k4,k5,k6⟩:=g;have hne:=g0 l i2 f2 ns2 hp;rw[List.append_nil]at k4;rw[List.nil_append,List.length_append,List.length_singleton]at k6;simp only
      split
      ·rename_i h41
       have hlt:=Je3 h41 (by decide);refine⟨by omega,hlt,hf,nm::new,by rw[k4];simp,k5,?_⟩;rw[List.nil_append];exact Jsq (Jju k6 hne) (h3.imp id (·.1))
      ·exact⟨by decide,Nat.zero_le _,Nat.le_refl _⟩
    | under g k =>
     rintro⟨h1,h2,h3⟩;obtain⟨g',g0⟩:=ih1 k g ns [] [] h2 h3 (by rw[List.append_nil];exact hn) (Je4 _);rw[List.append_nil]at g' g0;simp only
     cases hp:JaN s n k g ns [] with
     | bad c a b =>
      rw[hp]at g';exact g'
     | ok l i2 f2 ns2 =>
      rw[hp]at g';obtain⟨k1,k2,k3,new,k4,k5,k6⟩:=g';have hne:=g0 l i2 f2 ns2 hp;rw[List.append_nil]at k4;rw[List.nil_append]at k6;simp only
      split
      ·rename_i h41
       have hlt:=Je3 h41 (by decide);refine⟨by omega,hlt,hf,new,by rw[k4];simp,k5,?_⟩;rw[List.nil_append];exact Jju k6 hne
      ·exact⟨by decide,Nat.zero_le _,Nat.le_refl _⟩
   split
   ·exact JyG hi hf hn
   split
   ·exact Jzj hi hf hn
   ·exact JtN hi hf hn
theorem Jpg:∀(ns:List (List UInt8)) (k i:Nat),(Jc5 k ns)[i]? = ns[i]?.map fun n=>(((k+i:Nat):Int)+1,n)
 | [],k,i=>by simp[Jc5]
 | n::ns,k,0=>by simp[Jc5]
 | n::ns,k,i+1=>by
  rw[Jc5,List.getElem?_cons_succ,Jpg ns (k+1) i,List.getElem?_cons_succ,show k+1+i=k+(i+1) by omega]
theorem Jqq {ns:List (List UInt8)} {g:List Tr} (h:g.map JcF=Jc5 0 ns) (hn:Jej ns):Jfu g:=by
 have hat:∀i (hi:i<g.length),∃n,ns[i]? = some n∧JcF g[i]=((i:Int)+1,n):=by
  intro i hi;have e:(g.map JcF)[i]? = some (JcF g[i]):=by rw[List.getElem?_map,List.getElem?_eq_getElem hi];rfl
  rw[h,Jpg,Nat.zero_add]at e
  cases hn':ns[i]? with
  | none=>rw[hn']at e;cases e
  | some n =>
   rw[hn']at e;exact⟨n,rfl,(Option.some.inj e).symm⟩
 intro i hi;obtain⟨n,h1,h2⟩:=hat i hi;have c1:g[i].fld.cap=(i:Int)+1:=congrArg Prod.fst h2;have c2:g[i].fld.name.toList=n:=congrArg Prod.snd h2;refine⟨c1,fun k hk=>?_⟩;obtain⟨m,g1,g2⟩:=hat k (by omega);have d2:(g[k]'(by omega)).fld.name.toList=m:=congrArg Prod.snd g2;rw[c2,d2];rintro⟨e,he⟩;obtain⟨b1,b2⟩:=List.getElem?_eq_some_iff.1 h1;obtain⟨b3,b4⟩:=List.getElem?_eq_some_iff.1 g1;have:=List.pairwise_iff_getElem.1 hn.2 k i b3 b1 hk;rw[b2,b4]at this;exact he (this e)
theorem Jqb (s:ByteArray) (fold:Bool):∀(n i:Nat),JbH 0 [] (Jce s fold n i)
 | 0,i=>Je4 0
 | n+1,i=>by
  rw[Jce]
  split
  ·exact Je4 0
  ·have h2:=Lib.rune_le s i;exact(Jj3 0 fold (by omega) (by omega)).append (a:=[]) (b:=[]) (Jqb s fold n _)
theorem JlM (s:ByteArray) (f:Int):match JdK s f with
  | .tree t=>JbU t
  | .bad c a b=>0<c∧a≤b∧b≤s.size:=by
 have hb:∀t,(Jay t∧Jfu (JaP t))→match Jc7 s t with
   | .tree t=>JbU t
   | .bad c a b=>0<c∧a≤b∧b≤s.size:=fun t ht=>by
  unfold Jc7
  split
  ·rename_i heq
   split at heq
   ·cases heq
   ·split at heq
    ·cases heq
    ·cases heq
     exact⟨by omega,by omega,ht.1,ht.2⟩
  ·rename_i heq
   split at heq
   ·cases heq
    exact⟨by decide,Nat.zero_le _,Nat.le_refl _⟩
   ·split at heq
    ·cases heq
     exact⟨by decide,Nat.zero_le _,Nat.le_refl _⟩
    ·cases heq
 have hw:∀c:Int,0<c→match JfF.bad c 0 s.size with
   | .tree t=>JbU t
   | .bad c a b=>0<c∧a≤b∧b≤s.size:=fun c hc=>⟨hc,Nat.zero_le _,Nat.le_refl _⟩
 unfold JdK
 by_cases h1:f<0∨63<f
 ·rw[if_pos h1];exact hw 1 (by decide)
 rw[if_neg h1]
 by_cases h2:1024<s.size
 ·rw[if_pos h2];exact hw 2 (by decide)
 rw[if_neg h2]
 by_cases h3:Lib.validD s.toList=false
 ·rw[if_pos h3];exact hw 81 (by decide)
 rw[if_neg h3]
 by_cases h4:Jag f 2=true
 ·rw[if_pos h4];have h:=JqI (Jqb s (Jag f 1) s.size 0);refine hb _ ⟨h.1 _ (by simp),Jqq (ns:=[]) ?_ Jml⟩;have:=h.2
  rwa [JfU]at this
 rw[if_neg h4];obtain⟨h,h0⟩:=(Jk3 s (JdU s)).1 0 f [] [] [] (Nat.zero_le _) ⟨by omega,by omega⟩ Jml (Je4 0);simp only[List.append_nil]at h h0
 cases hp:JaN s (JdU s) 0 f [] [] with
 | bad c a b =>
  rw[hp]at h;exact h
 | ok l i f2 ns2 =>
  rw[hp]at h;obtain⟨k1,k2,k3,new,k4,k5,k6⟩:=h;simp only
  by_cases h5:i<s.size
  ·rw[if_pos h5];exact hw 84 (by decide)
  ·rw[if_neg h5];rw[List.nil_append]at k4 k6;have h:=Jju k6 (h0 l i f2 ns2 hp);refine hb _ ⟨h.1 _ (by simp),Jqq (ns:=new) ?_ (by simpa [k4]using k5)⟩;have:=h.2
   rwa [JfU]at this
def Jgu:Value:=.agg #[.int .i64 0,.slice none 0 0,.int .i32 0,.slice none 0 0,.int .i64 0,.int .i64 0,.string ⟨#[]⟩,.int .i64 0,.int .i64 0,.bool false]
def Jiu (R:JfF) (w:World) (e:Ending) (w':World):Prop:=
 Below w.heap.size w w'∧match R with
  | .tree t=>∃v,e=.returned (.tuple #[v,Jbx 0 0 0])∧Tre w' t v
  | .bad c a b=>e=.returned (.tuple #[Jgu,Jbx c a b])
theorem _root_.Go.RowKit.Below.of_drew {w w':World} (h:Below w.drew.heap.size w.drew w'):Below w.heap.size w w':=(Below.refl _ w).drew.trans h
def JaT (W:World) (q:Nat) (f:Int) (s:ByteArray) (j:Nat) (nv:Value):Prop:=Whole W q 50 #[.int .i64 f,.string s,.int .i64 (j:Int),nv]
theorem JaT.cells {W:World} {q:Nat} {f:Int} {s:ByteArray} {j:Nat} {nv:Value} (h:JaT W q f s j nv) :
  W.cell? ⟨q,0,none⟩=some (.int .i64 f)∧W.cell? ⟨q,1,none⟩=some (.string s)∧W.cell? ⟨q,2,none⟩=some (.int .i64 (j:Int))∧W.cell? ⟨q,3,none⟩=some nv:=⟨Whole.cell h 0,Whole.cell h 1,Whole.cell h 2,Whole.cell h 3⟩
theorem JaT.frees {W:World} {q:Nat} {f:Int} {s:ByteArray} {j:Nat} {nv:Value} (h:JaT W q f s j nv) :
  W.frozen? ⟨q,0,none⟩=false∧W.frozen? ⟨q,2,none⟩=false∧W.frozen? ⟨q,3,none⟩=false:=⟨Whole.free h 0,Whole.free h 2,Whole.free h 3⟩
theorem JaT.lt {W:World} {q:Nat} {f:Int} {s:ByteArray} {j:Nat} {nv:Value} (h:JaT W q f s j nv):q<W.heap.size:=Whole.lt h
theorem JaT.below {W W':World} {q:Nat} {f:Int} {s:ByteArray} {j:Nat} {nv:Value} (h:JaT W q f s j nv) (hb:Below W.heap.size W W'):JaT W' q f s j nv:=Whole.below h hb (Whole.lt h)
theorem JaT.putF {W:World} {q:Nat} {f:Int} {s:ByteArray} {j:Nat} {nv:Value} (h:JaT W q f s j nv) (g:Int):JaT (W.setCell ⟨q,0,none⟩ (.int .i64 g)) q g s j nv:=by
 have:=Whole.store h 0 (.int .i64 g)
 simpa [JaT]using this
theorem JaT.putJ {W:World} {q:Nat} {f:Int} {s:ByteArray} {j:Nat} {nv:Value} (h:JaT W q f s j nv) (k:Nat) (x:Int) (hx:x=k):JaT (W.setCell ⟨q,2,none⟩ (.int .i64 x)) q f s k nv:=by
 subst hx;have:=Whole.store h 2 (.int .i64 (k:Int))
 simpa [JaT]using this
theorem JaT.putN {W:World} {q:Nat} {f:Int} {s:ByteArray} {j:Nat} {nv:Value} (h:JaT W q f s j nv) (mv:Value):JaT (W.setCell ⟨q,3,none⟩ mv) q f s j mv:=by
 have:=Whole.store h 3 mv
 simpa [JaT]using this
def Tk (q:Nat) (f:Int) (s:ByteArray) (k:Nat) (nv:Value) (w w':World):Prop:=w.grownBy w' (some q)∧JaT w' q f s k nv
theorem Tk.of_below {q:Nat} {f:Int} {s:ByteArray} {j:Nat} {nv:Value} {w w':World} (h:JaT w q f s j nv) (hb:Below w.heap.size w w'):Tk q f s j nv w w':=⟨Jbk hb _,h.below hb⟩
theorem Tk.refl {q:Nat} {f:Int} {s:ByteArray} {j:Nat} {nv:Value} {w:World} (h:JaT w q f s j nv):Tk q f s j nv w w:=⟨World.grownBy.refl _ _,h⟩
theorem Tk.trans {q:Nat} {f g:Int} {s:ByteArray} {j k:Nat} {nv mv:Value} {w w1 w2:World} (h:Tk q f s j nv w w1) (h2:Tk q g s k mv w1 w2):Tk q g s k mv w w2:=⟨Jaq h.1 h2.1,h2.2⟩
theorem Tk.below {q:Nat} {f:Int} {s:ByteArray} {j:Nat} {nv:Value} {w w1 w2:World} (h:Tk q f s j nv w w1) (hb:Below w1.heap.size w1 w2):Tk q f s j nv w w2:=h.trans (.of_below h.2 hb)
theorem Tk.putJ {q:Nat} {f:Int} {s:ByteArray} {j:Nat} {nv:Value} {w w1:World} (h:Tk q f s j nv w w1) (k:Nat) (x:Int) (hx:x=k):Tk q f s k nv w (w1.setCell ⟨q,2,none⟩ (.int .i64 x)):=⟨Jaq h.1 (JbL _ _ _ _),h.2.putJ k x hx⟩
theorem Tk.putF {q:Nat} {f:Int} {s:ByteArray} {j:Nat} {nv:Value} {w w1:World} (h:Tk q f s j nv w w1) (g:Int):Tk q g s j nv w (w1.setCell ⟨q,0,none⟩ (.int .i64 g)):=⟨Jaq h.1 (JbL _ _ _ _),h.2.putF g⟩
theorem Tk.whole {q:Nat} {f:Int} {s:ByteArray} {j:Nat} {nv:Value} {w w':World} (h:Tk q f s j nv w w') {b:Nat} {u:TypeId} {cs:Array Value} (hb:Whole w b u cs) (hne:b≠q):Whole w' b u cs:=hb.grown h.1 (fun e=>hne (Option.some.inj e).symm)
theorem Tk.size {q:Nat} {f:Int} {s:ByteArray} {j:Nat} {nv:Value} {w w':World} (h:Tk q f s j nv w w'):w.heap.size≤w'.heap.size:=h.1.size
def Jd4 (ns:List (List UInt8)):List ByteArray:=ns.map fun l=>⟨l.toArray⟩
structure JbF (q:Nat) (nv:Value) (w w':World):Prop where
 os:w'.os=w.os
 tape:w'.tape=w.tape
 output:w'.output=w.output
 size:w.heap.size≤w'.heap.size
 block:∀k,k<w.heap.size→k≠q→nv.ownBlock≠some k→w'.heap[k]? = w.heap[k]?
def JeH (w:World) (nv nv':Value):Prop:=nv'.ownBlock=nv.ownBlock∨∃g,nv'.ownBlock=some g∧w.heap.size≤g
def Fr (q:Nat) (nv:Value) (b:Nat):Prop:=b≠q∧nv.ownBlock≠some b
theorem JbF.of_grown {q:Nat} {nv:Value} {w w':World} (h:w.grownBy w' (some q)):JbF q nv w w':=⟨h.os,h.tape,h.output,h.size,fun k hk hq _=>h.block k hk (fun e=>hq (Option.some.inj e))⟩
theorem JbF.of_below {q:Nat} {nv:Value} {w w':World} (h:Below w.heap.size w w'):JbF q nv w w':=.of_grown (Jbk h _)
theorem JeH.refl {w:World} {nv:Value}:JeH w nv nv:=.inl rfl
theorem JeH.fr {w:World} {nv nv':Value} {q b:Nat} (h:JeH w nv nv') (hb:Fr q nv b) (hl:b<w.heap.size):Fr q nv' b:=⟨hb.1,fun e=>by
 rcases h with h|⟨g,h,hg⟩
 ·exact hb.2 (h.symm.trans e)
 ·rw[h]at e;have:=Option.some.inj e
  omega⟩
theorem JeH.trans {w w1:World} {nv nv1 nv2:Value} (h:JeH w nv nv1) (k:JeH w1 nv1 nv2) (hs:w.heap.size≤w1.heap.size):JeH w nv nv2:=by
 rcases k with k|⟨g,k,hg⟩
 ·rcases h with h|⟨g,h,hg⟩
  ·exact .inl (k.trans h)
  ·exact .inr ⟨g,k.trans h,hg⟩
 ·exact .inr ⟨g,k,by omega⟩
theorem JbF.trans {q:Nat} {nv nv1:Value} {w w1 w2:World} (h:JbF q nv w w1) (hp:JeH w nv nv1) (k:JbF q nv1 w1 w2):JbF q nv w w2 where
 os:=k.os.trans h.os
 tape:=k.tape.trans h.tape
 output:=k.output.trans h.output
 size:=Nat.le_trans h.size k.size
 block:=fun b hb hq hn=>(k.block b (Nat.lt_of_lt_of_le hb h.size) hq (hp.fr (q:=q) ⟨hq,hn⟩ hb).2).trans (h.block b hb hq hn)
theorem JbF.below {q B:Nat} {nv:Value} {w0 w w':World} (h:JbF q nv w w') (hb:Below B w0 w) (hB:B≤w.heap.size) (hq:B≤q) (hn:∀b,nv.ownBlock=some b→B≤b):Below B w0 w' :=
 hb.trans ⟨h.os,h.tape,h.output,h.size,fun k hk=>h.block k (by omega) (by omega) (fun e=>by have:=hn k e;omega)⟩
theorem JbF.same {q:Nat} {nv:Value} {w w':World} {G:Nat→Prop} (h:JbF q nv w w') (hG:∀b,G b→b<w.heap.size→Fr q nv b):Jdc G w w':=fun b hb hl=>h.block b hl (hG b hb hl).1 (hG b hb hl).2
theorem JbF.whole {q:Nat} {nv:Value} {w w':World} (h:JbF q nv w w') {b:Nat} {u:TypeId} {cs:Array Value} (hb:Whole w b u cs) (hf:Fr q nv b):Whole w' b u cs:=(h.block b hb.lt hf.1 hf.2).trans hb
structure Jbe (W:World) (B q:Nat) (f:Int) (s:ByteArray) (j:Nat) (nv:Value) (ns:List (List UInt8)):Prop where
 rd:JaT W q f s j nv
 own:JgX W B nv (Jd4 ns)
theorem Jbe.kind {W:World} {B q:Nat} {f:Int} {s:ByteArray} {j:Nat} {nv:Value} {ns:List (List UInt8)} (h:Jbe W B q f s j nv ns):Jcc W q 50:=Whole.kind h.rd
theorem Jbe.apart {W:World} {B q:Nat} {f:Int} {s:ByteArray} {j:Nat} {nv:Value} {ns:List (List UInt8)} (h:Jbe W B q f s j nv ns):nv.ownBlock≠some q:=fun e=>((JaR h.own e).ne h.kind (by decide)) rfl
theorem Jbe.took {W W':World} {B q:Nat} {f g:Int} {s:ByteArray} {j k:Nat} {nv:Value} {ns:List (List UInt8)} (h:Jbe W B q f s j nv ns) (ht:Tk q g s k nv W W'):Jbe W' B q g s k nv ns:=
 ⟨ht.2,JdF h.own fun b hb=>ht.1.block b (JaR h.own hb).lt (fun e=>h.apart (hb.trans e))⟩
theorem Jbe.low {W:World} {B q:Nat} {f:Int} {s:ByteArray} {j:Nat} {nv:Value} {ns:List (List UInt8)} (h:Jbe W B q f s j nv ns):∀b,nv.ownBlock=some b→B≤b:=fun b hb=>by
 rcases h.own.2 with⟨rfl,_⟩|⟨g,cap,cur,rfl,h1,_⟩
 ·simp[Value.ownBlock]at hb
 ·obtain rfl:g=b:=by simpa [Value.ownBlock]using hb
  exact h1
theorem Jbe.fr {W:World} {B q:Nat} {f:Int} {s:ByteArray} {j:Nat} {nv:Value} {ns:List (List UInt8)} (h:Jbe W B q f s j nv ns) {b:Nat} {t:TypeId} (hb:Jcc W b t) (h1:t≠50) (h2:t≠9):Fr q nv b:=
 ⟨hb.ne h.kind h1,fun e=>(hb.ne (JaR h.own e) h2) rfl⟩
theorem Jbe.lt {W:World} {B q:Nat} {f:Int} {s:ByteArray} {j:Nat} {nv:Value} {ns:List (List UInt8)} (h:Jbe W B q f s j nv ns):q<W.heap.size∧∀b,nv.ownBlock=some b→b<W.heap.size:=⟨h.rd.lt,fun b hb=>(JaR h.own hb).lt⟩
theorem Jbe.free {W:World} {B q:Nat} {f:Int} {s:ByteArray} {j:Nat} {nv:Value} {ns:List (List UInt8)} (h:Jbe W B q f s j nv ns) {b:Nat} (hb:W.heap.size≤b):Fr q nv b:=
 ⟨fun e=>by have:=h.lt.1;omega,fun e=>by have:=h.lt.2 b e;omega⟩
theorem JaA.went {W W':World} {B q lo base:Nat} {f:Int} {s:ByteArray} {j:Nat} {nv nv' v:Value} {ns:List (List UInt8)} {T:List Tr} (h:JaA (fun b=>lo≤b∧Fr q nv b) W base v T) (hst:Jbe W B q f s j nv ns) (hs:JbF q nv W W') (hp:JeH W nv nv') :
  JaA (fun b=>lo≤b∧Fr q nv' b) W' base v T:=by
 obtain⟨L,hl,ho,ht⟩:=h;refine⟨L,hl,JdF ho fun b hb=>?_,fun i h h'=>(ht i h h').same (hs.same fun b hb _=>hb.2.2) fun b hb hlt=>⟨hb.1,hb.2.1,hp.fr hb.2.2 hlt⟩⟩;have hf:=hst.fr (JaR ho hb) (by decide) (by decide);exact hs.block b (JaR ho hb).lt hf.1 hf.2
structure Ja2 (B q:Nat) (s:ByteArray) (nv:Value) (w w':World) (f:Int) (j:Nat) (ns:List (List UInt8)) (nv':Value):Prop where
 st:Jbe w' B q f s j nv' ns
 steps:JbF q nv w w'
 spot:JeH w nv nv'
theorem Ja2.of_took {B q:Nat} {s:ByteArray} {nv:Value} {w w':World} {f g:Int} {j k:Nat} {ns:List (List UInt8)} (h:Jbe w B q f s j nv ns) (ht:Tk q g s k nv w w'):Ja2 B q s nv w w' g k ns nv:=⟨h.took ht,.of_grown ht.1,.refl⟩
theorem Ja2.trans {B q:Nat} {s:ByteArray} {nv nv1 nv2:Value} {w w1 w2:World} {f f2:Int} {j j2:Nat} {ns ns2:List (List UInt8)} (h:Ja2 B q s nv w w1 f j ns nv1) (k:Ja2 B q s nv1 w1 w2 f2 j2 ns2 nv2):Ja2 B q s nv w w2 f2 j2 ns2 nv2:=
 ⟨k.st,h.steps.trans h.spot k.steps,h.spot.trans k.spot h.steps.size⟩
theorem Ja2.took {B q:Nat} {s:ByteArray} {nv nv1:Value} {w w1 w2:World} {f f2:Int} {j j2:Nat} {ns:List (List UInt8)} (h:Ja2 B q s nv w w1 f j ns nv1) (ht:Tk q f2 s j2 nv1 w1 w2):Ja2 B q s nv w w2 f2 j2 ns nv1:=h.trans (.of_took h.st ht)
theorem Ja2.below {B q:Nat} {s:ByteArray} {nv nv1:Value} {w w1 w2:World} {f:Int} {j:Nat} {ns:List (List UInt8)} (h:Ja2 B q s nv w w1 f j ns nv1) (hb:Below w1.heap.size w1 w2):Ja2 B q s nv w w2 f j ns nv1:=h.took (.of_below h.st.rd hb)
def Jj7 (s:ByteArray) (c:Int) (a b:Nat) (e:Ending):Prop:=
 e=Jal (.iface 32 (Jbx c a b))∨(a=0∧b=s.size∧e=Jal (.iface 30 (.int .i64 c)))
def Jdw (B q:Nat) (s:ByteArray) (nv:Value) (R:PR) (w:World) (e:Ending) (w':World):Prop:=
 match R with
 | .ok l i f ns=>∃v nv',e=.returned v∧Jeq (fun b=>w.heap.size≤b∧Fr q nv' b) w' l v∧Ja2 B q s nv w w' f i ns nv'
 | .bad c a b=>Jj7 s c a b e∧JbF q nv w w'
def Jb4 (B q:Nat) (s:ByteArray) (nv:Value) (mk:List Tr→Tr) (R:PR) (w:World) (e:Ending) (w':World):Prop:=
 match R with
 | .ok l i f ns=>∃v nv',e=.returned v∧Jax (fun b=>w.heap.size≤b∧Fr q nv' b) w' (mk l) v∧Ja2 B q s nv w w' f i ns nv'
 | .bad c a b=>Jj7 s c a b e∧JbF q nv w w'
theorem Jgm (f k:Int) (w:World):Calls Tryz.prog 22 #[.agg #[.int .i64 f],.int .i64 k] w fun e w'=>e=.returned (.bool (Jag f k))∧Below w.heap.size w w':=by
 go_enter Tryz.func22,Tryz.ntmps22
 go_wp2
 go_ret;exact⟨rfl,(Below.refl _ w).alloc (Nat.le_refl _) _⟩
theorem JoG (q:Nat) (f:Int) (s part:ByteArray) (j:Nat) (nv:Value) (w:World) (hj:j≤s.size) (h:JaT w q f s j nv) :
  Calls Tryz.prog 69 #[.pointer (some ⟨q,0,none⟩),.string part] w fun e w'=>e=.returned (.bool (Jat part.toList (Jaa s j)))∧∃n,w'=w.drewN n:=by
 obtain⟨b,hb⟩:∃b,Jat part.toList (Jaa s j)=b:=⟨_,rfl⟩;have hP:∀W,Calls Tryz.prog 91 #[.string (s.extract j s.size),.string part] W fun e w'=>e=.returned (.bool b)∧w'=W:=fun W=>by
  have:=Tryz.strings_HasPrefix (s.extract j s.size) part W;rw[Jhk,hb]at this;exact this
 rw[hb];obtain⟨c0,c1,c2,c3⟩:=h.cells;have HP:=Hd hP;have y2:(j:Int)≤(s.size:Int):=by omega
 clear h hb hP c0 c3
 go_enter Tryz.func69,Tryz.ntmps69
 go_wp2_with fail
 go_big_quiet (first|(go_at_call 91;with_reducible refine Calls.quiet_of_same (HP.out _)))
 go_wp2
 go_ret;exact⟨rfl,_,rfl⟩
theorem JjN (q:Nat) (f:Int) (s part:ByteArray) (j:Nat) (nv:Value) (w:World) (hs:s.size≤4503599627370496) (hp:part.size≤100) (hj:j≤s.size) (h:JaT w q f s j nv) :
  Calls Tryz.prog 45 #[.pointer (some ⟨q,0,none⟩),.string part] w fun e w'=>e=.returned (.bool (Jat part.toList (Jaa s j)))∧Tk q f s (if Jat part.toList (Jaa s j)=true then j+part.size else j) nv w w':=by
 have HS:=Hd (JoG q f s part j nv w hj h);obtain⟨b,hb⟩:∃b,Jat part.toList (Jaa s j)=b:=⟨_,rfl⟩;rw[hb]at HS ⊢;have HH:=Hd h;have y3:IntKind.i64.wrap ((j:Int)+(part.size:Int))=(j:Int)+(part.size:Int):=JbW _ (by omega);clear h hb
 go_enter Tryz.func45,Tryz.ntmps45
 go_wp2_with fail;refine HS.out.mono ?_;rintro e w1 ⟨rfl,n,rfl⟩;have HR:=Hd (Tk.of_below HH.out (JcZ w n))
 generalize w.drewN n=w1 at HR ⊢
 obtain⟨c0,c1,c2,c3⟩:=HR.out.2.cells;obtain⟨f0,f2,f3⟩:=HR.out.2.frees;clear c0 c1 c3 f0 f3
 cases b
 ·go_wp2
  go_ret;exact⟨rfl,HR.out⟩
 ·go_wp2
  go_ret;exact⟨rfl,HR.out.putJ _ _ (by rfl)⟩
theorem Jkj (q:Nat) (f:Int) (s:ByteArray) (c:UInt8) (j:Nat) (nv:Value) (w:World) (hs:s.size≤4503599627370496) (hj:j≤s.size) (h:JaT w q f s j nv) (hc:Jac (Jaa s j)=(c.toNat:Int)) :
  Calls Tryz.prog 45 #[.pointer (some ⟨q,0,none⟩),.string ⟨#[c]⟩] w fun e w'=>e=.returned (.bool true)∧Tk q f s (j+1) nv w w':=by
 have h1:=JjN q f s ⟨#[c]⟩ j nv w hs (by show 1≤100;decide) hj h;rw[show (⟨#[c]⟩:ByteArray).toList=[c]from by rw[Lib.toList_data],JdW,decide_eq_true hc]at h1;exact h1
theorem Jn4 (q:Nat) (f:Int) (s:ByteArray) (c:UInt8) (j:Nat) (nv:Value) (w:World) (hs:s.size≤4503599627370496) (hj:j≤s.size) (h:JaT w q f s j nv) (hc:¬Jac (Jaa s j)=(c.toNat:Int)) :
  Calls Tryz.prog 45 #[.pointer (some ⟨q,0,none⟩),.string ⟨#[c]⟩] w fun e w'=>e=.returned (.bool false)∧Tk q f s j nv w w':=by
 have h1:=JjN q f s ⟨#[c]⟩ j nv w hs (by show 1≤100;decide) hj h;rw[show (⟨#[c]⟩:ByteArray).toList=[c]from by rw[Lib.toList_data],JdW,decide_eq_false hc]at h1;exact h1
theorem Jj1 (q:Nat) (f:Int) (s:ByteArray) (j k:Nat) (nv:Value) (w:World) (h:JaT w q f s j nv) :
  Calls Tryz.prog 87 #[.pointer (some ⟨q,0,none⟩),.int .i64 (k:Int),.agg #[.int .i64 0,.int .i64 0,.int .i64 0]] w fun e w'=>e=.returned (.tuple #[])∧Tk q f s k nv w w':=by
 obtain⟨w1,hw1⟩:∃w1,w.alloc (.cells #[.int .i64 0,.int .i64 0,.int .i64 0] 32)=w1:=⟨_,rfl⟩;have hb1:Below w.heap.size w w1:=by rw[←hw1];exact(Below.refl _ w).alloc (Nat.le_refl _) _
 have hE1:Whole w1 w.heap.size 32 #[.int .i64 0,.int .i64 0,.int .i64 0]:=by rw[←hw1];exact heap_alloc_new w _
 have HW1:=Hd hw1;have HR:=Hd (Tk.of_below h hb1);obtain⟨e0,e1,e2,g0,g1,g2⟩:=hE1.three;obtain⟨c0,c1,c2,c3⟩:=HR.out.2.cells;obtain⟨f0,f2,f3⟩:=HR.out.2.frees;clear hw1 hb1 hE1 h e1 e2 g0 g1 g2 c0 c1 c3 f0 f3
 go_enter Tryz.func87,Tryz.ntmps87
 go_upto_region 1 with(fail);rw[HW1.out]
 go_wp2
 go_end0
 exact⟨rfl,HR.out.putJ _ _ rfl⟩
theorem JiR (q:Nat) (k c a b:Int) (hc:c≠0) (w:World) :
  Calls Tryz.prog 87 #[.pointer (some ⟨q,0,none⟩),.int .i64 k,.agg #[.int .i64 c,.int .i64 a,.int .i64 b]] w fun e w'=>e=Jal (.iface 32 (.agg #[.int .i64 c,.int .i64 a,.int .i64 b]))∧Below w.heap.size w w':=by
 obtain⟨w1,hw1⟩:∃w1,w.alloc (.cells #[.int .i64 c,.int .i64 a,.int .i64 b] 32)=w1:=⟨_,rfl⟩;have hb1:Below w.heap.size w w1:=by rw[←hw1];exact(Below.refl _ w).alloc (Nat.le_refl _) _
 have hE1:Whole w1 w.heap.size 32 #[.int .i64 c,.int .i64 a,.int .i64 b]:=by rw[←hw1];exact heap_alloc_new w _
 have HW1:=Hd hw1;have HB1:=Hd hb1;obtain⟨e0,e1,e2,g0,g1,g2⟩:=hE1.three;have x0:(c != 0)=true:=Jh9 hc;clear hw1 hb1 hE1 g0 g1 g2 hc
 go_enter Tryz.func87,Tryz.ntmps87
 go_upto_region 1 with(fail);rw[HW1.out]
 go_wp2
 exact⟨rfl,rfl,HB1.out⟩
theorem JqP (q:Nat) (f:Int) (s:ByteArray) (j:Nat) (nv:Value) (c a:Int) (w:World) (h:JaT w q f s j nv) :
  Calls Tryz.prog 84 #[.pointer (some ⟨q,0,none⟩),.int .i64 c,.int .i64 a] w fun e w'=>e=Jal (.iface 32 (.agg #[.int .i64 c,.int .i64 a,.int .i64 (j:Int)]))∧w'=w:=by
 obtain⟨c0,c1,c2,c3⟩:=h.cells;clear c0 c1 c3 h
 go_enter Tryz.func84,Tryz.ntmps84
 go_wp2
 exact⟨rfl,rfl,rfl⟩
def Jct (l:List Tr):Nat:=(l.map Jai).sum
theorem JhV (a b:List Tr):Jct (a++b)=Jct a+Jct b:=by simp[Jct]
theorem Jgb:Jct []=0:=rfl
theorem Jey (t:Tr):Jct [t]=Jai t:=by simp[Jct]
theorem Je5 (f:Fld) (ks:List Tr):Jai (.mk f ks)=1+f.set.length+Jct ks:=Jc9 _
def PK:Nat:=1114120
theorem Jgt:PK=1114120:=rfl
theorem JgP {l:List (Int × Int)} (h:Jak l):l.length≤1114112:=by
 have:=Jec l 0 (by omega) h;omega
theorem Jkf {l:List (Int × Int)} (h:Jak l):Jai (Jdh l)≤1114113:=by
 have:=JgP h;unfold Jdh JaD
 split
 ·rw[Je5];exact Nat.le_trans (Nat.le_of_eq rfl) (by decide:1≤1114113)
 ·rw[Je5];simp only[Jgb];omega
theorem JkQ (c:Int) (fold:Bool):Jai (Jb1 c fold)≤1114113:=by
 unfold Jb1
 split
 ·have:=JgP (Jgh fun d=>(JaJ c).contains d);unfold JaD;rw[Je5,Jgb];simp only;omega
 ·unfold Jap;rw[Je5,Jgb];exact(by decide:1≤1114113)
theorem Jko (a:Int):Jai (atY a)≤1114113:=by
 unfold atY;rw[Je5,Jgb];exact(by decide:1≤1114113)
theorem Jtd (l:List Tr):Jai (JaQ l)≤Jct l+1:=by
 match l with
 | [] =>
  rw[JaQ,Je5];exact Nat.le_refl _
 | [x] =>
  rw[JaQ,Jey];omega
 | x::y::l =>
  rw[show JaQ (x::y::l)=.mk (Jbh 11) (x::y::l)from rfl,Je5];show 1+0+_≤_;omega
theorem Jmj (l:List Tr):Jai (Jao l)≤Jct l+1:=by
 match l with
 | [] =>
  rw[show Jao []=.mk (Jbh 12) []from rfl,Je5];exact Nat.le_refl _
 | [x] =>
  rw[Jao,Jey];omega
 | x::y::l =>
  rw[show Jao (x::y::l)=.mk (Jbh 12) (x::y::l)from rfl,Je5];show 1+0+_≤_;omega
theorem JxT (k:Nat) (nm:List UInt8) (x:Tr):Jai (JdY k nm x)=Jai x+1:=by
 unfold JdY;rw[Je5,Jey];simp only[List.length_nil];omega
theorem JpO (c a b:Int) (lz:Bool) (x:Tr):Jai (Jdd c a b lz x)=Jai x+1:=by
 unfold Jdd;rw[Je5,Jey];simp only[List.length_nil];omega
def Jod (s:ByteArray) (i P N L:Nat) (R:PR):Prop:=
 match R with
 | .ok l i2 f2 ns2=>i≤i2∧i2≤s.size∧JaV f2∧Jct l≤P+(i2-i)*PK∧ns2.length≤N+(i2-i)∧l.length≤L+(i2-i)
 | .bad _ _ _=>True
def Jin (s:ByteArray) (i N:Nat) (R:PR):Prop:=
 match R with
 | .ok l i2 f2 ns2=>i<i2∧i2≤s.size∧JaV f2∧Jct l≤(i2-i)*PK∧ns2.length≤N+(i2-i)∧l.length≤i2-i
 | .bad _ _ _=>True
theorem JgA {s:ByteArray} {i n:Nat} {f:Int} {ns:List (List UInt8)} {t:Tr} (h1:i<n) (h2:n≤s.size) (hf:JaV f) (ht:Jai t≤1114113):Jin s i ns.length (.ok [t] n f ns):=by
 refine⟨h1,h2,hf,?_,by omega,by simp;omega⟩;rw[Jey];rw[Jgt];omega
theorem JsC {s:ByteArray} {i:Nat} {f:Int} {ns:List (List UInt8)} (hi:i<s.size) (hf:JaV f):Jin s i ns.length (Jfi s i f ns):=by
 have h1:=JeG s i hi;have h2:=Jf6 s i hi;unfold Jfi;simp only
 split
 ·exact JgA (by omega) h1 hf (Jkf (JlT _))
 split
 ·exact JgA (by omega) h1 hf (Jko _)
 split
 ·exact JgA (by omega) h1 hf (Jko _)
 ·exact JgA (by omega) h1 hf (JkQ _ _)
theorem JmZ (s:ByteArray) (fold:Bool):∀(n i:Nat),i≤s.size→i≤(JbQ s fold n i).2∧(JbQ s fold n i).2≤s.size∧Jct (JbQ s fold n i).1≤((JbQ s fold n i).2-i)*PK∧(JbQ s fold n i).1.length≤(JbQ s fold n i).2-i
 | 0,i,h=>⟨Nat.le_refl _,h,Nat.zero_le _,Nat.zero_le _⟩
 | n+1,i,h=>by
  rw[JbQ]
  split
  ·exact⟨Nat.le_refl _,h,Nat.zero_le _,Nat.zero_le _⟩
  rename_i hlt
  split
  ·rename_i hp
   have:=Jix hp;rw[Jbm]at this;simp only[List.length_cons,List.length_nil]at this;exact⟨by simp only;omega,by simp only;omega,Nat.zero_le _,Nat.zero_le _⟩
  ·have h1:=JeG s i (by omega);have h2:=Jf6 s i (by omega);obtain⟨a,b,c,d⟩:=JmZ s fold n (i+(Utf8.decode s i).2) h1;have e:Jct (Jb1 (Utf8.decode s i).1 fold::(JbQ s fold n (i+(Utf8.decode s i).2)).1)=Jai (Jb1 (Utf8.decode s i).1 fold)+Jct (JbQ s fold n (i+(Utf8.decode s i).2)).1:=by simp[Jct]
   have g:=JkQ (Utf8.decode s i).1 fold;refine⟨by simp only;omega,b,?_,by simp only[List.length_cons];omega⟩;simp only;rw[e];rw[Jgt]at c ⊢;omega
theorem Jwb {s:ByteArray} {i:Nat} {f:Int} {ns:List (List UInt8)} (hi:i<s.size) (hf:JaV f):Jin s i ns.length (Jd2 s i f ns):=by
 have h:=JiU s i (Jag f 32) hi;unfold Jd2
 revert h
 cases Jck s i (Jag f 32) with
 | bad c till=>exact fun _=>trivial
 | esc k r l a n =>
  rintro⟨h1,h2,h3,h4,h5⟩;simp only
  split
  ·exact JgA h1 h2 hf (JkQ _ _)
  split
  ·refine JgA h1 h2 hf (Jkf ?_)
   split
   ·exact Jgh _
   ·exact h5
  split
  ·exact JgA h1 h2 hf (Jko _)
  ·obtain⟨a1,b1,c1,d1⟩:=JmZ s (Jag f 1) s.size n h2;exact⟨by omega,b1,hf,Nat.le_trans c1 (Nat.mul_le_mul_right _ (by omega)),by omega,by omega⟩
theorem JvG {s:ByteArray} {i:Nat} {f:Int} {ns:List (List UInt8)} (hi:i<s.size) (hf:JaV f):Jin s i ns.length (Je0 s i f ns):=by
 have h:=JlH s i (Jag f 32) hi;unfold Je0
 revert h
 cases JdG s i (Jag f 32) with
 | bad c a b=>exact fun _=>trivial
 | item all n=>exact fun h=>JgA h.1 h.2 hf (Jkf (Jgh _))
def Jwo (s:ByteArray) (i:Nat) (f:Int) (ns:List (List UInt8)) (l:List Tr) (x:Tr):PR→Prop
 | .ok l2 i2 f2 ns2=>i<i2∧i2≤s.size∧JaV f2∧Jct l2≤Jct l+Jai x+1∧ns2=ns∧l2.length=l.length+1
 | .bad _ _ _=>True
theorem Jw9 {s:ByteArray} {i k:Nat} {f c a b:Int} {ns:List (List UInt8)} {l:List Tr} {x:Tr} (hr:JbB s i=some (c,a,b,k)) (hf:JaV f) :
  Jwo s i f ns l x (JeT s i f ns l x c a b k):=by
 obtain⟨g1,g2,-⟩:=JgJ hr;unfold JeT
 split
 ·trivial
 simp only
 split
 ·rename_i h
  split
  ·rename_i hz
   have:=JhZ hz;refine⟨by omega,by omega,hf,?_,rfl,by simp⟩;rw[JhV,Jey,JpO];omega
  ·refine⟨g1,g2,hf,?_,rfl,by simp⟩;rw[JhV,Jey,JpO];omega
 ·split
  ·trivial
  ·trivial
theorem JyD {l:List Tr} {x:Tr} (h:l.getLast? = some x):Jct l.dropLast+Jai x=Jct l∧l.dropLast.length+1=l.length:=by
 have e:l=l.dropLast++[x]:=by
  have hne:l≠[]:=by
   intro e;rw[e]at h
   cases h
  have hx:l.getLast hne=x:=Option.some.inj ((List.getLast?_eq_some_getLast hne).symm.trans h);rw[←hx];exact(List.dropLast_concat_getLast hne).symm
 refine⟨?_,?_⟩
 ·conv=>rhs;rw[e]
  rw[JhV,Jey]
 ·have:=congrArg List.length e
  simpa using this.symm
theorem Jhq (s:ByteArray):∀n:Nat,
  (∀(i:Nat) (f:Int) (ns:List (List UInt8)) (acc:List Tr),i≤s.size→JaV f→Jod s i (Jct acc+1) ns.length (acc.length+1) (JaN s n i f ns acc)) ∧
  (∀(i:Nat) (f:Int) (ns:List (List UInt8)) (l:List Tr),i≤s.size→JaV f→Jod s i (Jct l) ns.length l.length (JaO s n i f ns l)) ∧
  (∀(i:Nat) (f:Int) (ns:List (List UInt8)),i<s.size→JaV f→Jin s i ns.length (Ja3 s n i f ns))
 | 0=>by
  refine⟨fun i f ns acc _ _=>?_,fun i f ns l _ _=>?_,fun i f ns _ _=>?_⟩
  ·rw[JaN];trivial
  ·rw[JaO];trivial
  ·rw[Ja3];trivial
 | n+1=>by
  obtain⟨ih1,ih2,ih3⟩:=Jhq s n;refine⟨fun i f ns acc hi hf=>?_,fun i f ns l hi hf=>?_,fun i f ns hi hf=>?_⟩
  ·have h:=ih2 i f ns [] hi hf;rw[JaN]
   revert h
   cases JaO s n i f ns [] with
   | bad c a b=>exact fun _=>trivial
   | ok l i2 f2 ns2 =>
    rintro⟨h1,h2,h3,h4,h5,h6⟩;simp only;have hc:=Jtd l;rw[Jgb]at h4
    split
    ·rename_i h124
     have hlt:=Je3 h124 (by decide);have g:=ih1 (i2+1) f2 ns2 (acc++[JaQ l]) hlt h3
     revert g
     cases JaN s n (i2+1) f2 ns2 (acc++[JaQ l]) with
     | bad c a b=>exact fun _=>trivial
     | ok l3 i3 f3 ns3 =>
      rintro⟨k1,k2,k3,k4,k5,k6⟩;rw[JhV,Jey]at k4;rw[List.length_append,List.length_singleton]at k6;refine⟨by omega,k2,k3,?_,by omega,by omega⟩;rw[Jgt]at h4 k4 ⊢;omega
    ·refine⟨h1,h2,h3,?_,h5,by rw[List.length_append,List.length_singleton];omega⟩;rw[JhV,Jey];omega
  ·rw[JaO]
   split
   ·exact⟨Nat.le_refl _,hi,hf,by omega,by omega,by omega⟩
   rename_i hst
   have hlt:i<s.size:=by
    rcases Nat.lt_or_ge i s.size with h|h
    ·exact h
    ·exact absurd (.inl h) hst
   split
   ·rename_i c a b k hr
    split
    ·trivial
    ·rename_i x hx
     have h:=Jw9 (ns:=ns) (l:=l.dropLast) (x:=x) hr hf;obtain⟨e1,e2⟩:=JyD hx
     revert h
     cases JeT s i f ns l.dropLast x c a b k with
     | bad c a b=>exact fun _=>trivial
     | ok l2 i2 f2 ns2 =>
      rintro⟨h1,h2,h3,h4,rfl,h6⟩;simp only;have g:=ih2 i2 f2 ns2 l2 h2 h3
      revert g
      cases JaO s n i2 f2 ns2 l2 with
      | bad c a b=>exact fun _=>trivial
      | ok l3 i3 f3 ns3 =>
       rintro⟨k1,k2,k3,k4,k5,k6⟩;refine⟨by omega,k2,k3,?_,by omega,by omega⟩;rw[Jgt]at k4 ⊢;omega
   ·have h:=ih3 i f ns hlt hf
    revert h
    cases Ja3 s n i f ns with
    | bad c a b=>exact fun _=>trivial
    | ok xs i2 f2 ns2 =>
     rintro⟨h1,h2,h3,h4,h5,h6⟩;simp only;have g:=ih2 i2 f2 ns2 (l++xs) h2 h3
     revert g
     cases JaO s n i2 f2 ns2 (l++xs) with
     | bad c a b=>exact fun _=>trivial
     | ok l3 i3 f3 ns3 =>
      rintro⟨k1,k2,k3,k4,k5,k6⟩;rw[JhV]at k4;rw[List.length_append]at k6;refine⟨by omega,k2,k3,?_,by omega,by omega⟩;rw[Jgt]at h4 k4 ⊢;omega
  ·rw[Ja3]
   split
   ·have ho:=JpU (ns:=ns) hi hf
    revert ho
    cases Jdi s i f ns with
    | bad c a b=>exact fun _=>trivial
    | flags g k =>
     rintro⟨h1,h2,h3⟩;exact⟨h1,h2,h3,Nat.zero_le _,by omega,Nat.zero_le _⟩
    | cap nm k =>
     rintro⟨h1,h2,h3⟩;have g:=ih1 k f (ns++[nm]) [] h2 hf;simp only
     revert g
     cases JaN s n k f (ns++[nm]) [] with
     | bad c a b=>exact fun _=>trivial
     | ok l i2 f2 ns2 =>
      rintro⟨k1,k2,k3,k4,k5,k6⟩;simp only
      split
      ·rename_i h41
       have hlt:=Je3 h41 (by decide);have ha:=Jmj l;rw[List.length_append,List.length_singleton]at k5;refine⟨by omega,hlt,hf,?_,by omega,by simp;omega⟩;rw[Jey,JxT];rw[Jgb]at k4;rw[Jgt]at k4 ⊢;omega
      ·trivial
    | under g k =>
     rintro⟨h1,h2,h3⟩;have g':=ih1 k g ns [] h2 h3;simp only
     revert g'
     cases JaN s n k g ns [] with
     | bad c a b=>exact fun _=>trivial
     | ok l i2 f2 ns2 =>
      rintro⟨k1,k2,k3,k4,k5,k6⟩;simp only
      split
      ·rename_i h41
       have hlt:=Je3 h41 (by decide);have ha:=Jmj l;refine⟨by omega,hlt,hf,?_,by omega,by simp;omega⟩;rw[Jey];rw[Jgb]at k4;rw[Jgt]at k4 ⊢;omega
      ·trivial
   split
   ·exact JvG hi hf
   split
   ·exact Jwb hi hf
   ·exact JsC hi hf
theorem Jpl {w:World} {b:Nat} {cs:Array Value} (h:Whole w b 29 cs) (hn:cs.size=10):(loadVar 29 ⟨b,0,none⟩).run Tryz.prog w=.ok (.agg cs) w:=
 run_loadVar_row w b _ _ cs (0,0) _ h Tryz.underlying29 rfl (by rw[hn];kernel_rfl)
theorem JrQ {fn:Func} {p q:Tmp} (h:fn.results=#[.cell p 29,.tmp q]) (tmps:Array Value) {w:World} {a:Nat} {es:Array Value} (ha:tmps.getD p undef=.pointer (some ⟨a,0,none⟩)) (hE:Whole w a 29 es) (he:es.size=10) :
  (results fn tmps).run Tryz.prog w=.ok (.tuple #[.agg es,tmps.getD q undef]) w:=by
 have ha':tmps[p]?.getD undef=.pointer (some ⟨a,0,none⟩):=by simpa using ha
 simp[results,h,ha',asAddr,Jpl hE he]
theorem Jcr {f:Func} {p:Tmp} (hres:f.results=#[.cell p 29]) {post:Ending→World→Prop} {w2:World} {tmps:Array Value} (b:Nat) {x0 x1 x2 x3 x4 x5 x6 x7 x8 x9 y0 y1 y2 y3 y4 y5 y6 y7 y8 y9:Value} (hp:tmps.getD p undef=.pointer (some ⟨b,0,none⟩))
  (hR:Whole w2 b 29 #[y0,y1,y2,y3,y4,y5,y6,y7,y8,y9]) (hpost:post (.returned (.agg #[x0,x1,x2,x3,x4,x5,x6,x7,x8,x9])) (Jbs w2 b x0 x1 x2 x3 x4 x5 x6 x7 x8 x9)):bodyPost Tryz.prog f post Exit.ret { tmps:=tmps,defers:=[] } (Jbs w2 b x0 x1 x2 x3 x4 x5 x6 x7 x8 x9):=
 bodyPost_ret (v:=.agg #[x0,x1,x2,x3,x4,x5,x6,x7,x8,x9]) (results_cell_row hres tmps _ b 29 _ (0,0) _ hp (Jfd hR _ _ _ _ _ _ _ _ _ _) Tryz.underlying29 rfl (by kernel_rfl)) rfl hpost
theorem JcJ {f:Func} {p q:Tmp} (hres:f.results=#[.cell p 29,.tmp q]) {post:Ending→World→Prop} {w2:World} {tmps:Array Value} (b:Nat) (B:Bool) {x0 x1 x2 x3 x4 x5 x6 x7 x8 x9 y0 y1 y2 y3 y4 y5 y6 y7 y8 y9:Value} (hp:tmps.getD p undef=.pointer (some ⟨b,0,none⟩)) (hq:tmps.getD q undef=.bool B)
  (hR:Whole w2 b 29 #[y0,y1,y2,y3,y4,y5,y6,y7,y8,y9]) (hpost:post (.returned (.tuple #[.agg #[x0,x1,x2,x3,x4,x5,x6,x7,x8,x9],.bool B])) (Jbs w2 b x0 x1 x2 x3 x4 x5 x6 x7 x8 x9)):bodyPost Tryz.prog f post Exit.ret { tmps:=tmps,defers:=[] } (Jbs w2 b x0 x1 x2 x3 x4 x5 x6 x7 x8 x9):=by
 refine bodyPost_ret (v:=.tuple #[.agg #[x0,x1,x2,x3,x4,x5,x6,x7,x8,x9],.bool B]) ?_ rfl hpost;have:=JrQ hres tmps hp (Jfd hR x0 x1 x2 x3 x4 x5 x6 x7 x8 x9) rfl
 rwa [hq]at this
theorem JoZ (G:Nat→Prop) (w:World) (d:Fld) (sv:Value) (hS:Rgs w sv d.set) (hG:JiJ G sv d.set) (hF:JcN d):Jax G w (.mk d []) (.agg (JaW d (.slice none 0 0) sv)):=by
 rw[JeQ];exact⟨_,_,rfl,⟨hS,hG⟩,hF,none,0,rfl,Nat.le_refl _,Nat.zero_le _,Nat.zero_le _,fun _=>rfl,.inl rfl⟩
theorem Jp0 (w:World):Rgs w (.slice none 0 0) []:=⟨none,0,rfl,Nat.le_refl _,Nat.zero_le _,fun _=>rfl,.inl rfl,fun _ h=>by cases h⟩
theorem JgW (G:Nat→Prop) (w:World) (d:Fld) (hd:d.set=[]) (hF:JcN d):Jax G w (.mk d []) (.agg (JaW d (.slice none 0 0) (.slice none 0 0))):=
 JoZ G w d _ (by rw[hd];exact Jp0 w) (.inl hd) hF
theorem Jgv {op c a k m M:Int} {l:List (Int × Int)} {nm:ByteArray} {z:Bool} (h1 : -1000≤op∧op≤2000) (h2:I32 c) (h3 : -1000≤a∧a≤2000) (h4 : -1000≤k∧k≤2000) (h5 : -1000≤m∧m≤2000) (h6 : -1000≤M∧M≤2000) (h7:nm.size≤4503599627370496) (h8:l.length≤17592186044416):JcN ⟨op,c,l,a,k,nm,m,M,z⟩:=by
 unfold JcN I64;exact⟨⟨by simp only;omega,by simp only;omega⟩,h2,⟨by simp only;omega,by simp only;omega⟩,⟨by simp only;omega,by simp only;omega⟩,⟨by simp only;omega,by simp only;omega⟩,⟨by simp only;omega,by simp only;omega⟩,h7,h8⟩
theorem JkR {op:Int} (h0:0≤op) (h1:op≤12):JcN (Jbh op):=by
 unfold JcN Jbh I64 I32;refine⟨⟨by simp only;omega,by simp only;omega⟩,by simp only;omega,by simp only;omega,by simp only;omega,by simp only;omega,by simp only;omega,Nat.zero_le _,Nat.zero_le _⟩
theorem JaA.kdsG {F G:Nat→Prop} {w:World} {B:Nat} {v:Value} {T:List Tr} (h:JaA F w B v T) (hn:T.length≤1172812402961) (h1:∀b,v.ownBlock=some b→G b) (h2:∀b,F b→G b):JdT G w T v:=by
 obtain⟨A,c,k1,k2,k3,k4,k5,k6⟩:=(h.kdsE hn).mono (G:=G) fun b hb _=>h2 b hb.2
 refine⟨A,c,k1,k2,k3,k4,k5,k6.imp id ?_⟩;rintro⟨b,o,e,hc⟩;exact⟨b,o,e,h1 b (by rw[k1,e];rfl),hc⟩
def Jii (op:Int):List Tr→Tr
 | []=>.mk (Jbh 2) []
 | [x]=>x
 | l=>.mk (Jbh op) l
theorem JpJ (l:List Tr):Jii 11 l=JaQ l:=by
 match l with
 | []=>rfl
 | [x]=>rfl
 | x::y::l=>rfl
theorem Jv9 {l:List Tr} (h:l≠[]):Jii 12 l=Jao l:=by
 match l,h with
 | [x],_=>rfl
 | x::y::l,_=>rfl
theorem Jku {G:Nat→Prop} {w:World} {d:Fld} {l:List Tr} {kv:Value} (hK:JdT G w l kv) (hd:d.set=[]) (hF:JcN d):Jax G w (.mk d l) (.agg (JaW d kv (.slice none 0 0))):=by
 rw[JeQ];exact⟨_,_,rfl,⟨by show Rgs w _ d.set;rw[hd];exact Jp0 w,.inl hd⟩,hF,hK⟩
theorem Jdf (w:World) (cs:Array Value):Whole (w.alloc (.cells cs 29)) w.heap.size 29 cs∧Below w.heap.size w (w.alloc (.cells cs 29))∧(w.alloc (.cells cs 29)).heap.size=w.heap.size+1:=
 ⟨heap_alloc_new w _,(Below.refl _ w).alloc (Nat.le_refl _) _,by simp⟩
theorem Jiq (w:World) (f:Int) (cs:Array Value):((w.alloc (.cells #[.int .i64 f] 47)).alloc (.cells cs 29)).cell? ⟨w.heap.size,0,none⟩=some (.int .i64 f)∧Whole ((w.alloc (.cells #[.int .i64 f] 47)).alloc (.cells cs 29)) (w.heap.size+1) 29 cs ∧
  Below w.heap.size w ((w.alloc (.cells #[.int .i64 f] 47)).alloc (.cells cs 29))∧((w.alloc (.cells #[.int .i64 f] 47)).alloc (.cells cs 29)).heap.size=w.heap.size+2:=by
 refine⟨?_,?_,((Below.refl _ w).alloc (Nat.le_refl _) _).alloc (by simp) _,by simp⟩
 ·have h:Whole ((w.alloc (.cells #[.int .i64 f] 47)).alloc (.cells cs 29)) w.heap.size 47 #[.int .i64 f]:=Whole.alloc (heap_alloc_new w _) _;exact h.cell 0
 ·have:=heap_alloc_new (w.alloc (.cells #[.int .i64 f] 47)) (.cells cs 29)
  simpa [Whole]using this
theorem Jel {G:Nat→Prop} {w2:World} {t:Tr} {v:Value} {b:Nat} (h:Jax G w2 t v) (hG:∀k,G k→k≠b) (x0 x1 x2 x3 x4 x5 x6 x7 x8 x9:Value):Jax G (Jbs w2 b x0 x1 x2 x3 x4 x5 x6 x7 x8 x9) t v:=
 h.same (fun k hk hl=>JeC _ _ _ _ _ _ _ _ _ _ _ _ k (hG k hk) hl) (fun k hk _=>hk)
end Go.Proofs.YtaaoamkagppodaaGreatDoor
