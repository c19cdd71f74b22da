/- Texts merged by program. No condition. -/
import Derived.Test.YtaaoamkagppodaaGreatDoorK7
import Derived.Test.YtaaoamkagppodaaGreatDoorK8
set_option linter.unusedVariables false
namespace Go.Proofs.YtaaoamkagppodaaGreatDoor
open Go Go.RowKit
theorem JeG (s:ByteArray) (i:Nat) (h:i<s.size):i+(Utf8.decode s i).2≤s.size:=by
 rw[Lib.decode_at];unfold Lib.decodeN
 repeat' split
 all_goals first|(simp only;omega)|omega
theorem Jf6 (s:ByteArray) (i:Nat) (h:i<s.size):0<(Utf8.decode s i).2:=by
 rw[Lib.decode_at];unfold Lib.decodeN
 repeat' split
 all_goals first|(simp only;omega)|omega
theorem Jjz (s:ByteArray) (i j:Nat):(s.extract i s.size).get! j=s.get! (i+j):=by
 have e1:∀(t:ByteArray) (k:Nat),t.get! k=t.data.toList[k]?.getD default:=by
  intro t k;show t.data[k]! = _;rw[Array.getElem!_eq_getD,Array.getD_eq_getD_getElem?,Array.getElem?_toList]
 rw[e1,e1,Lib.extract_data]
 congr 1
 rw[List.getElem?_take,List.getElem?_drop]
 split
 ·rfl
 ·rw[List.getElem?_eq_none];have:s.data.toList.length=s.size:=by simp
  omega
theorem JwD (s:ByteArray) (i:Nat) (h:i<s.size):Lib.decodeGo (s.extract i s.size)=Utf8.decode s i:=by
 have hs:(s.extract i s.size).size=s.size-i:=by simp
 unfold Lib.decodeGo;rw[if_neg (by omega),Lib.decode_at,Lib.decode_at,hs,Jjz,Jjz,Jjz,Jjz]
 simp
theorem Jmw (n:Int) (h : -2147483648≤n∧n≤2147483647):IntKind.i32.wrap n=n:=(IntWalk.i32_left n).trans (IntWalk.wrap32_in n h)
def Jbz:List UInt8→Int→Int × Nat
 | [],n=>(n,0)
 | c::t,n=>if 0≤Jbq c.toNat then ((Jbz t (min (16*n+Jbq c.toNat) 1114112)).1,(Jbz t (min (16*n+Jbq c.toNat) 1114112)).2+1)else (n,0)
theorem Jp1:∀(l:List UInt8) (n:Int),(Jbz l n).2≤l.length
 | [],n=>Nat.le_refl _
 | c::t,n=>by
  unfold Jbz
  split
  ·have:=Jp1 t (min (16*n+Jbq c.toNat) 1114112);simp only[List.length_cons];omega
  ·exact Nat.zero_le _
theorem JlO:∀(l:List UInt8) (n:Int),0≤n→0≤(Jbz l n).1
 | [],n,h=>h
 | c::t,n,h=>by
  unfold Jbz
  split
  ·rename_i hc
   exact JlO t _ (by omega)
  ·exact h
def JeO (s:ByteArray) (i:Nat):Option (Int × Nat):=
 if 0≤Jbq (Jac (Jaa s i))∧0≤Jbq (Jac (Jaa s (i+1)))then some (16*Jbq (Jac (Jaa s i))+Jbq (Jac (Jaa s (i+1))),i+2) else
 if ¬Jac (Jaa s i)=123 then none else
 if (Jbz (Jaa s (i+1)) 0).2=0 then none else
 if ¬Jac (Jaa s (i+1+(Jbz (Jaa s (i+1)) 0).2))=125 then none else
 if 1114111<(Jbz (Jaa s (i+1)) 0).1 then none else some ((Jbz (Jaa s (i+1)) 0).1,i+1+(Jbz (Jaa s (i+1)) 0).2+1)
theorem JcZ (w:World) (n:Nat):Below w.heap.size w (w.drewN n):=by
 induction n with
 | zero=>exact Below.refl _ _
 | succ n ih=>exact ih.drew
theorem JjP {s:ByteArray} {i:Nat} (h:¬(0≤Jbq (Jac (Jaa s i))∧0≤Jbq (Jac (Jaa s (i+1))))):JeO s i =
  if ¬Jac (Jaa s i)=123 then none else
  if (Jbz (Jaa s (i+1)) 0).2=0 then none else
  if ¬Jac (Jaa s (i+1+(Jbz (Jaa s (i+1)) 0).2))=125 then none else
  if 1114111<(Jbz (Jaa s (i+1)) 0).1 then none else some ((Jbz (Jaa s (i+1)) 0).1,i+1+(Jbz (Jaa s (i+1)) 0).2+1):=by
 unfold JeO;rw[if_neg h]
def Jc8 (d:Nat):UInt8:=UInt8.ofNat (if d<10 then 48+d else 87+d)
def JaS (n:Nat):List UInt8:=if h:n<16 then [Jc8 n]else JaS (n / 16)++[Jc8 (n % 16)]
termination_by n
decreasing_by omega
theorem Jwu (d:Nat) (h:d<16):Jbq ((Jc8 d).toNat:Int)=(d:Int):=by
 rcases (show d=0∨d=1∨d=2∨d=3∨d=4∨d=5∨d=6∨d=7∨d=8∨d=9∨d=10∨d=11∨d=12∨d=13∨d=14∨d=15 by omega)with rfl|rfl|rfl|rfl|rfl|rfl|rfl|rfl|rfl|rfl|rfl|rfl|rfl|rfl|rfl|rfl<;>rfl
theorem JpZ (d:Nat) (h:d<16) (t:List UInt8) (n:Int):Jbz (Jc8 d::t) n=((Jbz t (min (16*n+(d:Int)) 1114112)).1,(Jbz t (min (16*n+(d:Int)) 1114112)).2+1):=by
 rw[Jbz,Jwu d h,if_pos (by omega)]
theorem JqY:∀(u:Nat),u≤1114111→∀rest:List UInt8,Jbz (JaS u++rest) 0=((Jbz rest (u:Int)).1,(Jbz rest (u:Int)).2+(JaS u).length):=by
 intro u
 induction u using Nat.strongRecOn with
 | _ u ih =>
  intro hu rest;rw[JaS]
  by_cases h:u<16
  ·rw[dif_pos h,List.singleton_append,JpZ u h,show min (16*(0:Int)+(u:Int)) 1114112=(u:Int) by omega];rfl
  ·rw[dif_neg h,List.append_assoc,ih (u / 16) (by omega) (by omega),List.singleton_append,JpZ (u % 16) (by omega),show min (16*((u / 16:Nat):Int)+((u % 16:Nat):Int)) 1114112=(u:Int) by omega];simp only[List.length_append,List.length_singleton,Prod.mk.injEq,true_and];omega
theorem Jyb (u:Nat):0<(JaS u).length:=by
 rw[JaS]
 split
 ·exact Nat.zero_lt_one
 ·simp
theorem Jmv:∀(k u:Nat),u<16 ^ (k+1)→(JaS u).length≤k+1
 | 0,u,h=>by
  rw[JaS,dif_pos (by simpa using h)]
  simp
 | k+1,u,h=>by
  rw[JaS]
  split
  ·simp
  ·have:=Jmv k (u / 16) (by rw[Nat.pow_succ]at h;exact Nat.div_lt_of_lt_mul (by rw[Nat.mul_comm];exact h));simp only[List.length_append,List.length_singleton];omega
def brN:List UInt8→Nat
 | []=>0
 | c::t=>if c.toNat=125 then 0 else brN t+1
def Jgy (s:ByteArray) (i:Nat):Option (List UInt8 × Nat):=
 if s.size≤i then none else
 if ¬Jac (Jaa s i)=123 then some ((Jaa s i).take (Utf8.decode s i).2,i+(Utf8.decode s i).2) else
 if i+1+brN (Jaa s (i+1))<s.size then some ((Jaa s (i+1)).take (brN (Jaa s (i+1))),i+1+brN (Jaa s (i+1))+1)else none
theorem Jok (s:ByteArray) (a b:Nat):(s.extract a b).toList=(Jaa s a).take (b-a):=by
 unfold Jaa;rw[Lib.extract_toList,←Lib.toList_data]
def JbP (c:Int):Int:=if 0≤Jbq c then Jbq c else 16
theorem Jvb (c:Int):JbP c=if 48≤c∧c≤57 then c-48 else if 97≤c∧c≤102 then c-87 else if 65≤c∧c≤70 then c-55 else 16:=by
 unfold JbP Jbq
 repeat' split
 all_goals omega
theorem JlK (n:Int) (h:0≤n∧n≤255):IntKind.u8.wrap n=n:=by
 unfold IntKind.wrap;simp only[IntKind.signed,IntKind.bits]
 simp
 omega
theorem JuZ (c:Int):0≤JbP c:=by unfold JbP;split<;>omega
theorem JyM (c:Int):JbP c≤16:=by unfold JbP;have:=Jgn c;split<;>omega
def JbM (base M:Int):List UInt8→Nat→Int→Int × Nat
 | [],_,n=>(n,0)
 | _::_,0,n=>(n,0)
 | c::t,m+1,n=>if JbP c.toNat<base then ((JbM base M t m (min (n*base+JbP c.toNat) M)).1,(JbM base M t m (min (n*base+JbP c.toNat) M)).2+1)else (n,0)
theorem Joa (base M:Int) (l:List UInt8) (n:Int):JbM base M l 0 n=(n,0):=by cases l<;>rfl
theorem JpW (c:UInt8):JbP c.toNat<10↔Jfq c=true:=by
 rw[Jiv];unfold JbP Jbq;have:=UInt8.toNat_lt c
 split<;>(repeat' split at *)<;>omega
theorem Jyc (c:UInt8) (h:Jfq c=true):JbP c.toNat=(c.toNat:Int)-48:=by
 obtain⟨h1,h2⟩:=(Jiv c).1 h;unfold JbP Jbq;rw[if_pos (c:=(48:Int)≤(c.toNat:Int)∧(c.toNat:Int)≤57) (by omega)];rw[if_pos (by omega)]
theorem JoO:∀(l:List UInt8) (m:Nat) (n:Int),l.length≤m→JbM 10 1001 l m n=JaF l n
 | [],m,n,_=>rfl
 | c::t,0,n,h=>by simp at h
 | c::t,m+1,n,h=>by
  unfold JbM JaF
  by_cases hd:Jfq c=true
  ·rw[if_pos ((JpW c).2 hd),if_pos hd,Jyc c hd,JoO t m _ (by simpa using h),Int.mul_comm n 10]
  ·rw[if_neg (fun e=>hd ((JpW c).1 e)),if_neg hd]
theorem JhR (c:UInt8):JbP c.toNat<16↔0≤Jbq c.toNat:=by
 unfold JbP;have:=Jgn (c.toNat:Int)
 split<;>omega
theorem Jpv:∀(l:List UInt8) (m:Nat) (n:Int),l.length≤m→JbM 16 1114112 l m n=Jbz l n
 | [],m,n,_=>rfl
 | c::t,0,n,h=>by simp at h
 | c::t,m+1,n,h=>by
  unfold JbM Jbz
  by_cases hd:0≤Jbq c.toNat
  ·have hv:JbP c.toNat=Jbq c.toNat:=by unfold JbP;rw[if_pos hd]
   rw[if_pos ((JhR c).2 hd),if_pos hd,hv,Jpv t m _ (by simpa using h),Int.mul_comm n 16]
  ·rw[if_neg (fun e=>hd ((JhR c).1 e)),if_neg hd]
theorem JtX (s:ByteArray) (i:Nat):JbM 16 1114112 (Jaa s i) 2 0 =
  if 0≤Jbq (Jac (Jaa s i))then (if 0≤Jbq (Jac (Jaa s (i+1)))then (16*Jbq (Jac (Jaa s i))+Jbq (Jac (Jaa s (i+1))),2)else (Jbq (Jac (Jaa s i)),1))else (0,0):=by
 by_cases h0:i<s.size
 ·have g0:=Jdo s i h0;rw[g0,JeM s i h0];unfold JbM
  by_cases hd:0≤Jbq (s[i].toNat:Int)
  ·have hv:JbP (s[i].toNat:Int)=Jbq (s[i].toNat:Int):=by unfold JbP;rw[if_pos hd]
   have hh:=Jgn (s[i].toNat:Int);rw[if_pos ((JhR _).2 hd),if_pos hd,hv]
   by_cases h1:i+1<s.size
   ·have g1:=Jdo s (i+1) h1;rw[g1,JeM s (i+1) h1];unfold JbM
    by_cases he:0≤Jbq (s[i+1].toNat:Int)
    ·have hv2:JbP (s[i+1].toNat:Int)=Jbq (s[i+1].toNat:Int):=by unfold JbP;rw[if_pos he]
     have hh2:=Jgn (s[i+1].toNat:Int);rw[if_pos ((JhR _).2 he),if_pos he,hv2,Joa];refine Prod.ext ?_ ?_<;>dsimp only<;>omega
    ·rw[if_neg (fun e=>he ((JhR _).1 e)),if_neg he];refine Prod.ext ?_ ?_<;>dsimp only<;>omega
   ·rw[Jgw s (i+1) (by omega)];rw[show Jac [] = -1 from rfl,show Jbq (-1) = -1 from rfl,if_neg (by decide)];unfold JbM;refine Prod.ext ?_ ?_<;>dsimp only<;>omega
  ·rw[if_neg (fun e=>hd ((JhR _).1 e)),if_neg hd]
 ·rw[Jgw s i (by omega)];rfl
def toN (c:UInt8):List UInt8→Nat
 | []=>0
 | b::t=>if b=c then 0 else toN c t+1
theorem JkL (c:UInt8):∀l:List UInt8,toN c l≤l.length
 | []=>Nat.le_refl _
 | b::t=>by
  unfold toN;have:=JkL c t
  split<;>simp<;>omega
theorem Jno (c:UInt8):∀l:List UInt8,Lib.indexByte l c=if toN c l<l.length then (toN c l:Int)else -1
 | []=>rfl
 | b::t=>by
  have ih:=Jno c t;unfold Lib.indexByte toN
  by_cases h:b=c
  ·subst h
   simp
  ·rw[if_neg h,if_neg (by simpa using h),ih];have:=JkL c t
   by_cases hl:toN c t<t.length
   ·rw[if_pos hl,if_neg (by simp only[beq_iff_eq];omega),if_pos (by simp only[List.length_cons];omega)];omega
   ·rw[if_neg hl,if_pos (by rfl),if_neg (by simp only[List.length_cons];omega)]
theorem Jke:∀l:List UInt8,gtN l=toN 62 l
 | []=>rfl
 | b::t=>by
  unfold gtN toN;rw[Jke t]
  by_cases h:b=62
  ·rw[if_pos h,if_pos (by rw[h];rfl)]
  ·rw[if_neg h,if_neg (fun e=>h (UInt8.toNat_inj.1 (by rw[e];rfl)))]
theorem JnQ:∀l:List UInt8,brN l=toN 125 l
 | []=>rfl
 | b::t=>by
  unfold brN toN;rw[JnQ t]
  by_cases h:b=125
  ·rw[if_pos h,if_pos (by rw[h];rfl)]
  ·rw[if_neg h,if_neg (fun e=>h (UInt8.toNat_inj.1 (by rw[e];rfl)))]
theorem Jhk (s t:ByteArray) (i:Nat):Lib.hasPrefix (s.extract i s.size).data.toList t.data.toList=Jat t.toList (Jaa s i):=by
 rw[←Lib.hasPrefix_of_take,←Lib.toList_data,←Lib.toList_data,Lib.extract_toList,←Lib.toList_data];unfold Jat Jaa;rw[List.take_of_length_le (l:=s.toList.drop i) (by rw[List.length_drop,Lib.toList_data,←Lib.size_eq];exact Nat.le_refl _)]
 cases h:(s.toList.drop i).take t.toList.length==t.toList
 ·rw[Bool.and_false]
 ·rw[Bool.and_true];have:=congrArg List.length (beq_iff_eq.1 h);rw[List.length_take]at this;exact decide_eq_true (by omega)
theorem JjL (s:ByteArray) (i:Nat):(s.extract i s.size).toList=Jaa s i:=by
 unfold Jaa;rw[Lib.extract_toList,←Lib.toList_data,List.take_of_length_le (by rw[List.length_drop,Lib.toList_data,←Lib.size_eq];exact Nat.le_refl _)]
theorem JdW (c:UInt8) (s:ByteArray) (i:Nat):Jat [c] (Jaa s i)=decide (Jac (Jaa s i)=(c.toNat:Int)):=by
 by_cases h:i<s.size
 ·rw[JeM s i h];unfold Jat Jac;simp only[List.length_singleton,List.take_succ_cons,List.take_zero]
  by_cases e:s[i]=c
  ·rw[e]
   simp
  ·rw[decide_eq_false (fun h=>e (UInt8.toNat_inj.1 (by omega)))];exact beq_eq_false_iff_ne.2 fun h=>e (List.head_eq_of_cons_eq h)
 ·rw[Jgw s i (by omega)];unfold Jat;rw[show Jac [] = -1 from rfl,decide_eq_false (by omega)];rfl
theorem Jix {a l:List UInt8} (h:Jat a l=true):a.length≤l.length:=by
 unfold Jat at h;have:=congrArg List.length (beq_iff_eq.1 h);rw[List.length_take]at this;omega
end Go.Proofs.YtaaoamkagppodaaGreatDoor
