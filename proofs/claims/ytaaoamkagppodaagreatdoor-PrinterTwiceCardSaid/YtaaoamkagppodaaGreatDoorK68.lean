/- Texts merged by program. No condition. -/
import Derived.Test.YtaaoamkagppodaaGreatDoorK21
import Derived.Test.YtaaoamkagppodaaGreatDoorK38
import Derived.Test.YtaaoamkagppodaaGreatDoorK11
import Derived.Deep.RegionHeld3
import Derived.Deep.RegionLaw
set_option linter.unusedVariables false
namespace Go.Proofs.YtaaoamkagppodaaGreatDoor
open Go Go.RowKit
def Jf3:List Value→Nat→List Value→List Value
 | xs,_,[]=>xs
 | xs,o,u::us=>Jf3 (xs.set o u) (o+1) us
theorem Jlj:∀(us a R:List Value) (o:Nat),Jf3 (a++R) (a.length+o) us=a++Jf3 R o us
 | [],_,_,_=>rfl
 | u::us,a,R,o=>by
  rw[Jf3,Jf3,List.set_append_right _ _ (by omega),show a.length+o-a.length=o by omega,show a.length+o+1=a.length+(o+1) by omega,Jlj us]
theorem JpD:∀(us a R:List Value),a.length=us.length→Jf3 (a++R) 0 us=us++R
 | [],[],_,_=>rfl
 | u::us,b::a,R,h=>by
  rw[Jf3,List.cons_append,List.set_cons_zero];have h1:=Jlj us [u] (a++R) 0;simp only[List.length_cons,List.length_nil,Nat.zero_add,Nat.add_zero,List.cons_append,List.nil_append]at h1;rw[h1,JpD us a R (by simpa using h)];rfl
theorem Jp2:∀(L:List (Array Value)) (i:Nat) (cs:Array Value),JgV L→cs.size=10→i<L.length→Jf3 (JbN L) (i*10) cs.toList=JbN (L.set i cs)
 | a::L,0,cs,hL,hcs,_=>by
  have h1:=(hL a (by simp)).1;have e:JbN (a::L)=a.toList++JbN L:=rfl;rw[e,Nat.zero_mul,JpD _ _ _ (by simp[h1,hcs])];rfl
 | a::L,i+1,cs,hL,hcs,hi=>by
  have h1:=(hL a (by simp)).1;have e:JbN (a::L)=a.toList++JbN L:=rfl;rw[e,show (i+1)*10=a.toList.length+i*10 by simp[h1];omega,Jlj,Jp2 L i cs (fun c hc=>hL c (by simp[hc])) hcs (by simpa using hi)];rfl
def Jgd:World→Nat→Nat→List Value→World
 | w,_,_,[]=>w
 | w,g,o,u::us=>Jgd (w.setCell ⟨g,o,none⟩ u) g (o+1) us
theorem Joy {base:Nat} {e:TypeId} {size g n cap:Nat}:∀(us:List Value) (w:World) (o:Nat) (xs:List Value),w.ownsRow base e size (.slice (some ⟨g,0,none⟩) n cap) n xs→(Jgd w g o us).ownsRow base e size (.slice (some ⟨g,0,none⟩) n cap) n (Jf3 xs o us)
 | [],_,_,_,h=>h
 | u::us,w,o,xs,h=>Joy us _ (o+1) _ (h.stored o u).1
theorem JlZ {g:Nat}:∀(us:List Value) (w:World) (o k:Nat),k≠g→(Jgd w g o us).heap[k]? = w.heap[k]?
 | [],_,_,_,_=>rfl
 | u::us,w,o,k,h=>by rw[Jgd,JlZ us _ _ _ h];exact Below.heap_setCell w _ u k h
theorem Jm2 {g:Nat}:∀(us:List Value) (w:World) (o:Nat),w.grownBy (Jgd w g o us) (some g)
 | [],w,_=>World.grownBy.refl w _
 | u::us,w,o=>by
  have h2:=Jm2 (g:=g) us (w.setCell ⟨g,o,none⟩ u) (o+1);exact⟨h2.os,h2.tape,h2.output,by have:=h2.size;rw[show (w.setCell ⟨g,o,none⟩ u).heap.size=w.heap.size by simp[World.setCell]]at this;exact this,fun k hk hn=>(JlZ (u::us) w o k (by intro e;exact hn (by rw[e])))⟩
theorem JxX {F:Nat→Prop} {w:World} {B g n cap:Nat} {T:List Tr} {u:Tr} {cs:Array Value} (h:JaA F w B (.slice (some ⟨g,0,none⟩) n cap) T) (i:Nat) (hi:i<T.length) (hu:Jax (fun b=>Off (.slice (some ⟨g,0,none⟩) n cap) b∧F b) w u (.agg cs)) :
  JaA F (Jgd w g (i*10) cs.toList) B (.slice (some ⟨g,0,none⟩) n cap) (T.set i u):=by
 obtain⟨L,hl,ho,ht⟩:=h;have hA:=Jih hl ht;obtain⟨-,hcs,-⟩:=JiO hu;have hn:n=T.length:=by
  rcases JhS ho with⟨h,-⟩|⟨g',c',h,-⟩
  ·cases h
  ·injection h
 have hsame:Jdc (fun b=>Off (.slice (some ⟨g,0,none⟩) n cap) b∧F b) w (Jgd w g (i*10) cs.toList):=fun b hb _=>JlZ cs.toList w (i*10) b (fun e=>hb.1 (by rw[e];rfl))
 have ho2:=Joy (size:=10) cs.toList w (i*10) _ (hn▸ho);rw[Jp2 L i cs hA hcs (by omega)]at ho2;refine⟨L.set i cs,by simp[hl],by rw[List.length_set,←hn];exact hn▸ho2,fun j hj hj'=>?_⟩
 by_cases hji:j=i
 ·subst hji;rw[List.getElem_set_self,List.getElem_set_self];exact hu.same hsame (fun b h _=>h)
 ·rw[List.getElem_set_ne (fun e=>hji e.symm),List.getElem_set_ne (fun e=>hji e.symm)];exact(ht j (by simpa using hj) (by simpa using hj')).same hsame (fun b h _=>h)
theorem JaA.at' {F:Nat→Prop} {w:World} {B g n cap:Nat} {T:List Tr} (h:JaA F w B (.slice (some ⟨g,0,none⟩) n cap) T) (k:Nat) (hk:k<T.length) :
  ∃(tk:Tr) (x1:Option Addr) (x2 x3:Nat) (y1:Option Addr) (y2 y3:Nat),T[k]=tk ∧
   Jha w g (k*10) (.int .i64 tk.fld.op) (.slice x1 x2 x3) (.int .i32 tk.fld.rune) (.slice y1 y2 y3) (.int .i64 tk.fld.at') (.int .i64 tk.fld.cap) (.string tk.fld.name) (.int .i64 tk.fld.min) (.int .i64 tk.fld.max) (.bool tk.fld.lazy) ∧
   Jax (fun b=>Off (.slice (some ⟨g,0,none⟩) n cap) b∧F b) w tk (.agg #[.int .i64 tk.fld.op,.slice x1 x2 x3,.int .i32 tk.fld.rune,.slice y1 y2 y3,.int .i64 tk.fld.at',.int .i64 tk.fld.cap,.string tk.fld.name,.int .i64 tk.fld.min,.int .i64 tk.fld.max,.bool tk.fld.lazy]):=by
 obtain⟨L,hl,ho,ht⟩:=h;have hA:=Jih hl ht;have hT:=ht k hk (by omega);obtain⟨kv,sv,e,⟨x1,x2,x3,rfl⟩,⟨y1,y2,y3,rfl⟩⟩:=hT.ten;have hn:n=T.length:=by
  rcases JhS ho with⟨h,-⟩|⟨g',c',h,-⟩
  ·cases h
  ·injection h
 have ho':=ho;rw[←hn]at ho';have hc:∀j,j<10→w.cell? ⟨g,k*10+j,none⟩=L[k][j]? := fun j hj=>by
  rw[←JjJ L hA k (by omega) j hj];exact World.ownsRow.cellAt ho' (k*10+j) (by omega)
 injection e with e;rw[e]at hc;refine⟨T[k],x1,x2,x3,y1,y2,y3,rfl,⟨hc 0 (by omega),hc 1 (by omega),hc 2 (by omega),hc 3 (by omega),hc 4 (by omega),hc 5 (by omega),hc 6 (by omega),hc 7 (by omega),hc 8 (by omega),hc 9 (by omega)⟩,?_⟩;rw[←e];exact hT
theorem JaA.free {F:Nat→Prop} {w:World} {B g n cap:Nat} {T:List Tr} (h:JaA F w B (.slice (some ⟨g,0,none⟩) n cap) T) (j:Nat):w.frozen? ⟨g,j,none⟩=false:=by
 obtain⟨L,hl,ho,ht⟩:=h
 rcases ho.2 with⟨h,-⟩|⟨q,c,cur,h,-,hg,-⟩
 ·cases h
 ·injection h with h;injection h with h;injection h with h;subst h;exact frozen_of_row w g j cur _ hg
theorem JaA.len {F:Nat→Prop} {w:World} {B n cap:Nat} {A:Option Addr} {T:List Tr} (h:JaA F w B (.slice A n cap) T):n=T.length:=by
 obtain⟨L,hl,ho,ht⟩:=h
 rcases JhS ho with⟨h,h0⟩|⟨g',c',h,-⟩
 ·injection h;omega
 ·injection h
def Jls (w:World) (g o:Nat) (x0 x1 x2 x3 x4 x5 x6 x7 x8 x9:Value):World:=(((((((((w.setCell ⟨g,o,none⟩ x0).setCell ⟨g,o+1,none⟩ x1).setCell ⟨g,o+2,none⟩ x2).setCell ⟨g,o+3,none⟩ x3).setCell ⟨g,o+4,none⟩ x4).setCell ⟨g,o+5,none⟩ x5).setCell ⟨g,o+6,none⟩ x6).setCell ⟨g,o+7,none⟩ x7).setCell ⟨g,o+8,none⟩ x8).setCell ⟨g,o+9,none⟩ x9
theorem JmV (w:World) (g o:Nat) (x0 x1 x2 x3 x4 x5 x6 x7 x8 x9:Value):Jls w g o x0 x1 x2 x3 x4 x5 x6 x7 x8 x9=Jgd w g o (#[x0,x1,x2,x3,x4,x5,x6,x7,x8,x9]:Array Value).toList:=rfl
end Go.Proofs.YtaaoamkagppodaaGreatDoor
