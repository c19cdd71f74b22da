/- Texts merged by program. No condition. -/
import Derived.Laws.AppendOwnNone
import Derived.Maps.AppendAt
import Derived.Lib.SmallJoins
import Derived.Test.YtaaoamkagppodaaGreatDoorK4
import Derived.Laws.Cover1
set_option maxHeartbeats 1600000
set_option maxRecDepth 100000
set_option linter.unusedVariables false
namespace Go.Proofs.YtaaoamkagppodaaGreatDoor
open Go Go.RowKit
def JbN (L:List (Array Value)):List Value:=L.flatMap (·.toList)
def JgV (L:List (Array Value)):Prop:=∀cs∈L,cs.size=10∧∀u∈cs.toList,u.oneCell'=true
theorem JwM (a b:List (Array Value)):JbN (a++b)=JbN a++JbN b:=by simp[JbN]
theorem JlW:∀(L:List (Array Value)),JgV L→(JbN L).length=L.length*10
 | [],_=>rfl
 | a::L,h=>by
  have h1:=(h a (by simp)).1;have h2:=JlW L fun cs hc=>h cs (by simp[hc])
  have e:JbN (a::L)=a.toList++JbN L:=rfl;rw[e,List.length_append,h2,Array.length_toList,h1,List.length_cons];omega
theorem JjJ:∀(L:List (Array Value)),JgV L→∀(i:Nat) (hi:i<L.length) (j:Nat) (hj:j<10),(JbN L)[i*10+j]? = L[i][j]?
 | a::L,h,0,_,j,hj=>by
  have h1:=(h a (by simp)).1;have e:JbN (a::L)=a.toList++JbN L:=rfl;rw[e,Nat.zero_mul,Nat.zero_add,List.getElem?_append_left (by rw[Array.length_toList,h1];exact hj)]
  simp
 | a::L,h,i+1,hi,j,hj=>by
  have h1:=(h a (by simp)).1;have h2:=JjJ L (fun cs hc=>h cs (by simp[hc])) i (by simpa using hi) j hj;have e:JbN (a::L)=a.toList++JbN L:=rfl;rw[e,List.getElem?_append_right (by rw[Array.length_toList,h1];omega),Array.length_toList,h1,show (i+1)*10+j-10=i*10+j by omega,h2]
  simp
theorem Jv6 {L:List (Array Value)} (h:JgV L):∀u∈JbN L,u.oneCell'=true:=fun u hu=>by
 obtain⟨cs,hcs,hu⟩:=List.mem_flatMap.1 hu;exact(h cs hcs).2 u hu
theorem Jwd {L:List (Array Value)} (h:JgV L) (j:Nat) (u:Value) (hu:(JbN L)[j]? = some u):∃i,∃hi:i<L.length,∃k,k<10∧j=i*10+k∧L[i][k]? = some u:=by
 have hl:=(List.getElem?_eq_some_iff.1 hu).1;rw[JlW L h]at hl;have hi:j / 10<L.length:=by omega
 refine⟨j / 10,hi,j % 10,by omega,by omega,?_⟩;rw[←JjJ L h (j / 10) hi (j % 10) (by omega),show j / 10*10+j % 10=j by omega];exact hu
theorem Jy8 {α : Type} {n:Nat} {P:Nat → α → Prop} (h:∀i,i<n→∃x,P i x):∃L:List α,L.length=n∧∀i (hi:i<L.length),P i L[i]:=by
 induction n with
 | zero=>exact⟨[],rfl,fun i hi=>by simp at hi⟩
 | succ n ih =>
  obtain⟨L,hl,hL⟩:=ih fun i hi=>h i (by omega)
  obtain⟨x,hx⟩:=h n (by omega);refine⟨L++[x],by simp[hl],fun i hi=>?_⟩
  by_cases hin:i<L.length
  ·rw[List.getElem_append_left hin];exact hL i hin
  ·have:i=n:=by simp at hi;omega
   subst this;rw[List.getElem_append_right (by omega)]
   simpa using hx
theorem JuV {F:Nat→Prop} {w:World} {t:Tr} {f:Fld} {kv sv:Value} (h:Jax F w t (.agg (JaW f kv sv))):(JaW f kv sv).size=10∧∀u∈(JaW f kv sv).toList,u.oneCell'=true:=by
 rw[JeQ]at h;obtain⟨kv',sv',e,h2,-,A,c,rfl,-⟩:=h;injection e with e;rw[e];obtain⟨a,c',rfl,-⟩:=h2.1;refine⟨rfl,fun u hu=>?_⟩;simp only[JaW,List.mem_cons,List.not_mem_nil,or_false]at hu
 rcases hu with rfl|rfl|rfl|rfl|rfl|rfl|rfl|rfl|rfl|rfl<;>rfl
theorem JiO {F:Nat→Prop} {w:World} {t:Tr} {cs:Array Value} (h:Jax F w t (.agg cs)):(∃kv sv,cs=JaW t.fld kv sv)∧cs.size=10∧∀u∈cs.toList,u.oneCell'=true:=by
 have h':=h;rw[JeQ]at h;obtain⟨kv,sv,e,-⟩:=h;injection e with e;subst e;exact⟨⟨kv,sv,rfl⟩,JuV h'⟩
abbrev Off (v:Value) (b:Nat):Prop:=v.ownBlock≠some b
def JaA (F:Nat→Prop) (w:World) (B:Nat) (v:Value) (T:List Tr):Prop:=
 ∃L:List (Array Value),L.length=T.length∧w.ownsRow B 29 10 v T.length (JbN L)∧∀(i:Nat) (h:i<T.length) (h':i<L.length),Jax (fun b=>Off v b∧F b) w T[i] (.agg L[i])
def Jeq (F:Nat→Prop) (w:World) (ks:List Tr) (v:Value):Prop:=
 ∃(A:Option Addr) (c:Nat),v=.slice A ks.length c∧ks.length≤c∧c≤maxLen∧ks.length≤1172812402961∧(A=none→c=0) ∧
  (ks=[]∨∃b o,A=some ⟨b,o,none⟩∧∀(i:Nat) (h:i<ks.length),∃cs:Array Value,JcU w b (o+i*10) cs∧Jax F w (ks[i]) (.agg cs))
theorem JhS {w:World} {base:Nat} {e:TypeId} {n:Nat} {v:Value} {xs:List Value} (h:w.ownsRow base e 10 v n xs):(v=.slice none 0 0∧n=0)∨∃g c,v=.slice (some ⟨g,0,none⟩) n c∧n≤c∧c≤maxLen∧base≤g:=by
 rcases h.2 with h|⟨q,cap,cur,rfl,hb,_,hn,hm,_⟩
 ·exact .inl h
 ·exact .inr ⟨_,_,rfl,hn,hm,hb⟩
theorem Jih {F:Nat→Prop} {w:World} {T:List Tr} {L:List (Array Value)} (hl:L.length=T.length) (h:∀(i:Nat) (h:i<T.length) (h':i<L.length),Jax F w T[i] (.agg L[i])):JgV L:=fun cs hcs=>by
 obtain⟨i,hi,rfl⟩:=List.mem_iff_getElem.1 hcs;exact(JiO (h i (by omega) hi)).2
theorem JaA.kdsE {F:Nat→Prop} {w:World} {B:Nat} {v:Value} {T:List Tr} (h:JaA F w B v T) (hn:T.length≤1172812402961):Jeq (fun b=>Off v b∧F b) w T v:=by
 obtain⟨L,hl,ho,ht⟩:=h;have hA:=Jih hl ht
 rcases JhS ho with⟨rfl,h0⟩|⟨g,c,rfl,h1,h2,-⟩
 ·exact⟨none,0,by rw[h0],by omega,Nat.zero_le _,hn,fun _=>rfl,.inl (List.eq_nil_of_length_eq_zero h0)⟩
 ·refine⟨_,c,rfl,h1,h2,hn,fun e=>(by cases e),.inr ⟨g,0,rfl,fun i hi=>⟨L[i],fun j hj=>?_,ht i hi (by omega)⟩⟩⟩;have h10:=(hA L[i] (List.getElem_mem (by omega))).1;have hj':j<10:=by omega
  have hx:=JjJ L hA i (by omega) j hj';rw[Array.getElem?_eq_getElem hj]at hx;have:=ho.cells (g:=g) rfl _ _ hx;rw[show (⟨g,0,none⟩:Addr).add (i*10+j)=⟨g,0+(i*10+j),none⟩ by unfold Addr.add;split<;>simp_all]at this;rw[show 0+i*10+j=0+(i*10+j) by omega];exact this
theorem Jeq.mono {F G:Nat→Prop} {w:World} {ks:List Tr} {v:Value} (h:Jeq F w ks v) (hFG:∀b,F b→b<w.heap.size→G b):Jeq G w ks v:=by
 obtain⟨A,c,h1,h2,h3,h4,h5,h6⟩:=h;refine⟨A,c,h1,h2,h3,h4,h5,h6.imp id ?_⟩;rintro⟨b,o,e,hc⟩;refine⟨b,o,e,fun i hi=>?_⟩;obtain⟨cs,q1,q2⟩:=hc i hi;exact⟨cs,q1,q2.same (fun _ _ _=>rfl) hFG⟩
theorem Jeq.kds {F:Nat→Prop} {w:World} {ks:List Tr} {v:Value} (h:Jeq F w ks v):Kds w ks v:=by
 obtain⟨A,c,h1,h2,h3,h4,h5,h6⟩:=h;refine⟨A,c,h1,h2,h3,h4,h5,h6.imp id ?_⟩;rintro⟨b,o,e,hc⟩;refine⟨b,o,e,trivial,fun i hi=>?_⟩;obtain⟨cs,q1,q2⟩:=hc i hi;exact⟨cs,q1,q2.tre⟩
theorem JaA.kds {F:Nat→Prop} {w:World} {B:Nat} {v:Value} {T:List Tr} (h:JaA F w B v T) (hn:T.length≤1172812402961):Kds w T v:=(h.kdsE hn).kds
theorem JaA.below {F:Nat→Prop} {w w':World} {B:Nat} {v:Value} {T:List Tr} (h:JaA F w B v T) (hb:Below w.heap.size w w'):JaA F w' B v T:=by
 obtain⟨L,hl,ho,ht⟩:=h;exact⟨L,hl,ho.kept (row:=none) ⟨hb.os,hb.tape,hb.output,hb.size,fun k hk _=>hb.block k hk⟩ (by cases v.ownBlock<;>simp),fun i h h'=>(ht i h h').same (Jcw hb) fun _ h _=>h⟩
theorem JaA.mono {F:Nat→Prop} {w:World} {B B':Nat} {v:Value} {T:List Tr} (h:JaA F w B v T) (hb:B'≤B):JaA F w B' v T:=by
 obtain⟨L,hl,ho,ht⟩:=h;exact⟨L,hl,Go.Joins.ownsRow_le ho hb,ht⟩
theorem Ji7 (F:Nat→Prop) (w:World) (B:Nat):JaA F w B (.slice none 0 0) []:=⟨[],rfl,World.ownsRow_nil _ _ _ _,fun i h=>by simp at h⟩
theorem JaA.slice {F:Nat→Prop} {w:World} {B:Nat} {v:Value} {T:List Tr} (h:JaA F w B v T):∃a n c,v=.slice a n c:=by
 obtain⟨L,_,ho,_⟩:=h
 rcases JhS ho with⟨rfl,_⟩|⟨g,c,rfl,-⟩
 ·exact⟨_,_,_,rfl⟩
 ·exact⟨_,_,_,rfl⟩
theorem Jrs:(Tryz.prog.info? 29).map (fun i=>(i.zero,i.size,i.bytes))=some (some (.agg #[.int .i64 0,.slice none 0 0,.int .i32 0,.slice none 0 0,.int .i64 0,.int .i64 0,.string ⟨#[]⟩,.int .i64 0,.int .i64 0,.bool false]),10,120):=by kernel_rfl
theorem Jr4 {F:Nat→Prop} {w w':World} {B:Nat} {v v':Value} {T K:List Tr} {L L2:List (Array Value)} (hl:L.length=T.length) (ht:∀(i:Nat) (h:i<T.length) (h':i<L.length),Jax (fun b=>Off v b∧F b) w T[i] (.agg L[i]))
  (hl2:L2.length=K.length) (hk:∀(i:Nat) (h:i<K.length) (h':i<L2.length),Jax (fun b=>Off v b∧F b) w K[i] (.agg L2[i]))
  (ho:w'.ownsRow B 29 10 v' (T.length+K.length) (JbN L++JbN L2)) (hg:w.grownBy w' v.ownBlock) (hat:v'.ownBlock=v.ownBlock∨v'.ownBlock=some w.heap.size):JaA F w' B v' (T++K):=by
 have hs:Jdc (fun b=>Off v b∧F b) w w':=fun b hb hlt=>hg.block b hlt (fun e=>hb.1 e.symm)
 have hFG:∀b,(Off v b∧F b)→b<w.heap.size→(Off v' b∧F b):=fun b hb hlt=>⟨fun e=>by
  rcases hat with h|h
  ·rw[h]at e;exact hb.1 e
  ·rw[h]at e;have:w.heap.size=b:=Option.some.inj e
   omega,hb.2⟩
 refine⟨L++L2,by simp[hl,hl2],by rw[JwM,List.length_append];exact ho,fun i h h'=>?_⟩
 by_cases hi:i<T.length
 ·rw[List.getElem_append_left hi,List.getElem_append_left (by omega)];exact(ht i hi (by omega)).same hs hFG
 ·have h1:i-T.length<K.length:=by simp at h;omega
  have e1:(L++L2)[i]=L2[i-T.length]'(by omega):=by rw[List.getElem_append_right (by omega)];congr 1;omega
  rw[List.getElem_append_right (by omega),e1];exact(hk (i-T.length) h1 (by omega)).same hs hFG
theorem JhM {w:World} {ops:Array Oper} {rest:List Oper} {o:Oper} {a:Act} {Q:Exit→Act→World→Prop} (hgd:o.guard=none) (x y:Operand)
  (ho:o.op=.call { callee:=.builtin .append,args:=#[x,y],argTypes:=#[25,25] })
  (F:Nat→Prop) (base:Nat) (v:Value) (T:List Tr) (hs:a.eval x=v) (hown:JaA F w base v T)
  (A:Option Addr) (m c:Nat) (K:List Tr) (hx:a.eval y=.slice A m c) (ht:Jeq (fun b=>Off v b∧F b) w K (.slice A m c)) (hn:T.length+K.length≤1172812402961) (hbase:base≤w.heap.size)
  (h:∀v' w',JaA F w' base v' (T++K)→w.grownBy w' v.ownBlock→(v'.ownBlock=v.ownBlock∨v'.ownBlock=some w.heap.size)→wpList Tryz.prog ops Q rest (a.put o.dst v') w'):wpList Tryz.prog ops Q (o::rest) a w:=by
 obtain⟨i,hi,hz,hsize,hby⟩:=info_parts Jrs;obtain⟨L,hl,hro,hT⟩:=hown;obtain⟨A',c',h1,h2,h3,h6,h4,h5⟩:=ht;injection h1 with e1 e2 e3;subst e1 e2 e3;have hAT:=Jih hl hT
 rcases A with _|ad
 ·have hc:=h4 rfl;have h0:K.length=0:=by omega
  have hn0:K=[]:=List.eq_nil_of_length_eq_zero h0;rw[h0,hc]at hx;refine wpList_append_own_none hgd x y 25 ho base 29 i 10 Tryz.underlying25 hi v T.length (JbN L) hs hro hx (h v w ?_ (World.grownBy.refl w _) (.inl rfl));rw[hn0,List.append_nil];exact⟨L,hl,hro,hT⟩
 ·obtain⟨L2,hl2,hL2⟩:∃L2:List (Array Value),L2.length=K.length∧∀i (hi:i<L2.length),(∀j (hj:j<L2[i].size),w.cell? (ad.add (i*10+j))=some L2[i][j])∧∀h:i<K.length,Jax (fun b=>Off v b∧F b) w K[i] (.agg L2[i]):=by
   refine Jy8 (P:=fun i (cs:Array Value)=>(∀j (hj:j<cs.size),w.cell? (ad.add (i*10+j))=some cs[j])∧∀h:i<K.length,Jax (fun b=>Off v b∧F b) w K[i] (.agg cs)) fun i hi=>?_
   rcases h5 with h5|⟨b,off,e,hc⟩
   ·rw[h5]at hi
    simp at hi
   ·injection e with e;subst e;obtain⟨cs,q1,q2⟩:=hc i hi;refine⟨cs,fun j hj=>?_,fun _=>q2⟩;rw[show (⟨b,off,none⟩:Addr).add (i*10+j)=⟨b,off+i*10+j,none⟩ by unfold Addr.add;split<;>simp_all [Nat.add_assoc]];exact q1 j hj
  have hA2:JgV L2:=Jih (T:=K) hl2 fun i h h'=>(hL2 i h').2 h
  refine wpList_append_own_at w hgd x y 25 ho base 29 i _ 10 120 Tryz.underlying25 hi hz hsize hby rfl (by omega) v T.length (JbN L) hs hro ad K.length c (JbN L2) hx (by rw[JlW L2 hA2,hl2]) ?_ (Jv6 hA2) (by unfold maxLen;omega) (by omega) hbase (fun v' w' g1 g2 _ g3=>h v' w' (Jr4 hl hT hl2 (fun i h h'=>(hL2 i h').2 h) g1 g2 g3) g2 g3);intro j u hu;obtain⟨q,hq,k,hk,rfl,hh⟩:=Jwd hA2 j u hu;obtain⟨hks,rfl⟩:=Array.getElem?_eq_some_iff.1 hh;exact(hL2 q hq).1 k hks
theorem JlI {F:Nat→Prop} {w:World} {t:Tr} {kv sv:Value} (h:Jax F w t (.agg (JaW t.fld kv sv))) (G:Nat→Prop) (hFG:∀b,F b→b<w.heap.size→G b):Jeq G (w.alloc (.cells (JaW t.fld kv sv) 29)) [t] (.slice (some ⟨w.heap.size,0,none⟩) 1 1):=by
 refine⟨_,1,rfl,Nat.le_refl _,by unfold maxLen;omega,by simp,fun e=>(by cases e),.inr ⟨w.heap.size,0,rfl,fun i hi=>?_⟩⟩;have:i=0:=by simpa using hi
 subst this;exact⟨JaW t.fld kv sv,by simpa using Ji5 w _ _,h.same (Jcw ((Below.refl _ w).alloc (Nat.le_refl _) _)) hFG⟩
theorem JaA.off {F:Nat→Prop} {w:World} {B:Nat} {v:Value} {T:List Tr} (h:JaA F w B v T) (b:Nat) (hb:w.heap.size≤b):Off v b:=by
 obtain⟨L,_,ho,_⟩:=h
 rcases ho.2 with⟨rfl,_⟩|⟨q,cap,cur,rfl,_,hh,_⟩
 ·simp[Off,Value.ownBlock]
 ·intro e;obtain rfl:q=b:=by simpa [Value.ownBlock]using e
  have:=(Array.getElem?_eq_some_iff.1 hh).1;omega
theorem JaA.base {F:Nat→Prop} {w:World} {B:Nat} {v:Value} {T:List Tr} (h:JaA F w B v T):∀j,v.ownBlock=some j→B≤j:=by
 obtain⟨L,_,ho,_⟩:=h;exact fun j hj=>(ho.lt j hj).1
def Jbs (w2:World) (b:Nat) (x0 x1 x2 x3 x4 x5 x6 x7 x8 x9:Value):World:=(((((((((w2.setCell ⟨b,0,none⟩ x0).setCell ⟨b,1,none⟩ x1).setCell ⟨b,2,none⟩ x2).setCell ⟨b,3,none⟩ x3).setCell ⟨b,4,none⟩ x4).setCell ⟨b,5,none⟩ x5).setCell ⟨b,6,none⟩ x6).setCell ⟨b,7,none⟩ x7).setCell ⟨b,8,none⟩ x8).setCell ⟨b,9,none⟩ x9
theorem Jfd {w:World} {b:Nat} {t:TypeId} {y0 y1 y2 y3 y4 y5 y6 y7 y8 y9:Value} (h:Whole w b t #[y0,y1,y2,y3,y4,y5,y6,y7,y8,y9]) (x0 x1 x2 x3 x4 x5 x6 x7 x8 x9:Value):Whole (Jbs w b x0 x1 x2 x3 x4 x5 x6 x7 x8 x9) b t #[x0,x1,x2,x3,x4,x5,x6,x7,x8,x9]:=by
 have h10:=(((((((((h.store 0 x0).store 1 x1).store 2 x2).store 3 x3).store 4 x4).store 5 x5).store 6 x6).store 7 x7).store 8 x8).store 9 x9;simp only[List.setIfInBounds_toArray,List.set_cons_zero,List.set_cons_succ]at h10;exact h10
theorem JeC (w:World) (b:Nat) (x0 x1 x2 x3 x4 x5 x6 x7 x8 x9:Value):Jdc (fun k=>k≠b) w (Jbs w b x0 x1 x2 x3 x4 x5 x6 x7 x8 x9):=fun k hk _=>by
 unfold Jbs;have h:∀(W:World) (j:Nat) (u:Value),(W.setCell ⟨b,j,none⟩ u).heap[k]? = W.heap[k]? := fun W j u=>Below.heap_setCell W _ u k hk
 simp only[h]
theorem Jmo (w:World) (b:Nat) (x0 x1 x2 x3 x4 x5 x6 x7 x8 x9:Value):(Jbs w b x0 x1 x2 x3 x4 x5 x6 x7 x8 x9).heap.size=w.heap.size:=by
 unfold Jbs
 simp[World.setCell]
theorem Jb2 {B b:Nat} {w0 w:World} (h:Below B w0 w) (hb:B≤b) (x0 x1 x2 x3 x4 x5 x6 x7 x8 x9:Value):Below B w0 (Jbs w b x0 x1 x2 x3 x4 x5 x6 x7 x8 x9):=
 (((((((((h.setCell (p:=⟨b,0,none⟩) hb x0).setCell (p:=⟨b,1,none⟩) hb x1).setCell (p:=⟨b,2,none⟩) hb x2).setCell (p:=⟨b,3,none⟩) hb x3).setCell (p:=⟨b,4,none⟩) hb x4).setCell (p:=⟨b,5,none⟩) hb x5).setCell (p:=⟨b,6,none⟩) hb x6).setCell (p:=⟨b,7,none⟩) hb x7).setCell (p:=⟨b,8,none⟩) hb x8).setCell (p:=⟨b,9,none⟩) hb x9
theorem Jkp {f:Func} (hres:f.results=#[.cell 2 29]) {post:Ending→World→Prop} {w2:World} {tmps:Array Value} (b:Nat) {x0 x1 x2 x3 x4 x5 x6 x7 x8 x9 y0 y1 y2 y3 y4 y5 y6 y7 y8 y9:Value} (hp:tmps.getD 2 undef=.pointer (some ⟨b,0,none⟩))
  (hR:Whole w2 b 29 #[y0,y1,y2,y3,y4,y5,y6,y7,y8,y9]) (hpost:post (.returned (.agg #[x0,x1,x2,x3,x4,x5,x6,x7,x8,x9])) (Jbs w2 b x0 x1 x2 x3 x4 x5 x6 x7 x8 x9)):bodyPost Tryz.prog f post Exit.ret { tmps:=tmps,defers:=[] } (Jbs w2 b x0 x1 x2 x3 x4 x5 x6 x7 x8 x9):=
 bodyPost_ret (v:=.agg #[x0,x1,x2,x3,x4,x5,x6,x7,x8,x9]) (results_cell_row hres tmps _ b 29 _ (0,0) _ hp (Jfd hR _ _ _ _ _ _ _ _ _ _) Tryz.underlying29 rfl (by kernel_rfl)) rfl hpost
theorem Whole.ten {W:World} {b:Nat} {t:TypeId} {x0 x1 x2 x3 x4 x5 x6 x7 x8 x9:Value} (h:Whole W b t #[x0,x1,x2,x3,x4,x5,x6,x7,x8,x9]):JdH W b x0 x1 x2 x3 x4 x5 x6 x7 x8 x9:=
 ⟨h.cell 0,h.cell 1,h.cell 2,h.cell 3,h.cell 4,h.cell 5,h.cell 6,h.cell 7,h.cell 8,h.cell 9⟩
def Jt9 (W:World) (b:Nat):Prop:=W.frozen? ⟨b,0,none⟩=false∧W.frozen? ⟨b,1,none⟩=false∧W.frozen? ⟨b,2,none⟩=false∧W.frozen? ⟨b,3,none⟩=false∧W.frozen? ⟨b,4,none⟩=false∧W.frozen? ⟨b,5,none⟩=false∧W.frozen? ⟨b,6,none⟩=false∧W.frozen? ⟨b,7,none⟩=false∧W.frozen? ⟨b,8,none⟩=false∧W.frozen? ⟨b,9,none⟩=false
theorem Jah {W:World} {b:Nat} {t:TypeId} {cs:Array Value} (h:Whole W b t cs):Jt9 W b:=⟨h.free 0,h.free 1,h.free 2,h.free 3,h.free 4,h.free 5,h.free 6,h.free 7,h.free 8,h.free 9⟩
theorem Jax.ten {F:Nat→Prop} {w:World} {t:Tr} {v:Value} (h:Jax F w t v):∃kv sv,v=.agg #[.int .i64 t.fld.op,kv,.int .i32 t.fld.rune,sv,.int .i64 t.fld.at',.int .i64 t.fld.cap,.string t.fld.name,.int .i64 t.fld.min,.int .i64 t.fld.max,.bool t.fld.lazy]∧(∃a n c,kv=.slice a n c)∧(∃a n c,sv=.slice a n c):=by
 rw[JeQ]at h;obtain⟨kv,sv,rfl,⟨⟨a,c,rfl,-⟩,-⟩,-,A,c',rfl,-⟩:=h;exact⟨_,_,rfl,⟨_,_,_,rfl⟩,⟨_,_,_,rfl⟩⟩
def JaP:Tr→List Tr:=Tr.para fun t l=>(if t.fld.op=6 then [t]else [])++l.flatten
theorem Jfm (t:Tr):JaP t=(if t.fld.op=6 then [t]else [])++(t.kids.map JaP).flatten:=Tr.para_eq _ t
theorem Jl6 {f g:Tr→Nat}:∀(l:List Tr),(∀k∈l,f k≤g k)→(l.map f).sum≤(l.map g).sum
 | [],_=>by simp
 | k::l,h=>by
  have h1:=h k (by simp);have h2:=Jl6 l fun q hq=>h q (by simp[hq])
  simp
  omega
theorem Jg5 (t:Tr):(JaP t).length≤Jai t:=by
 refine Tr.ind (P:=fun t=>(JaP t).length≤Jai t) (fun t ih=>?_) t;rw[Jfm,Jc9,List.length_append,List.length_flatten,List.map_map];have h:=Jl6 (f:=List.length ∘ JaP) (g:=Jai) t.kids ih
 split<;>simp<;>omega
theorem JtW {t:Tr} (k:Nat):(((t.kids.take k).map JaP).flatten).length≤Jai t:=by
 rw[List.length_flatten,List.map_map];have h:=Jl6 (f:=List.length ∘ JaP) (g:=Jai) (t.kids.take k) fun q _=>Jg5 q
 have h2:((t.kids.take k).map Jai).sum≤(t.kids.map Jai).sum:=by
  conv=>rhs;rw[←List.take_append_drop k t.kids,List.map_append,List.sum_append]
  omega
 rw[Jc9];omega
def Jvq (A:Nat→Prop) (T:List Tr) (w:World) (e:Ending) (w':World):Prop:=∃v,e=.returned v∧JaA A w' w.heap.size v T∧Below w.heap.size w w'
def Jmt (t:Tr):Prop:=Jai t≤10000000000→∀(A:Nat→Prop) (v:Value) (w:World),(∀b,A b→b<w.heap.size)→Jax A w t v→Calls Tryz.prog 13 #[v] w (Jvq A (JaP t) w)
theorem Jax.kid {F:Nat→Prop} {w:World} {t:Tr} {v:Value} (h:Jax F w t v) (k:Nat) (hk:k<t.kids.length) :
  ∃(b o:Nat) (c:Nat) (sv:Value) (tk:Tr) (kv' sv':Value),v=.agg (JaW t.fld (.slice (some ⟨b,o,none⟩) t.kids.length c) sv)∧t.kids[k]=tk∧tk∈t.kids ∧
   Jha w b (o+k*10) (.int .i64 tk.fld.op) kv' (.int .i32 tk.fld.rune) sv' (.int .i64 tk.fld.at') (.int .i64 tk.fld.cap) (.string tk.fld.name) (.int .i64 tk.fld.min) (.int .i64 tk.fld.max) (.bool tk.fld.lazy) ∧
   Jax F w tk (.agg #[.int .i64 tk.fld.op,kv',.int .i32 tk.fld.rune,sv',.int .i64 tk.fld.at',.int .i64 tk.fld.cap,.string tk.fld.name,.int .i64 tk.fld.min,.int .i64 tk.fld.max,.bool tk.fld.lazy]):=by
 rw[JeQ]at h;obtain⟨kv,sv,rfl,-,-,A,c,rfl,-,-,-,-,h5⟩:=h
 rcases h5 with h5|⟨b,o,rfl,-,hc⟩
 ·rw[h5]at hk
  simp at hk
 ·obtain⟨cs,k1,k2⟩:=hc k hk;obtain⟨⟨kv',sv',rfl⟩,-⟩:=JiO k2;exact⟨b,o,c,sv,t.kids[k],kv',sv',rfl,rfl,List.getElem_mem hk,k1.ten,k2⟩
theorem JeU {f:Fld} {k1 k2 s1 s2:Value} (h:Value.agg (JaW f k1 s1)=.agg (JaW f k2 s2)):k1=k2∧s1=s2:=by
 injection h with h;have h1:=congrArg (fun a:Array Value=>a[1]?) h;have h2:=congrArg (fun a:Array Value=>a[3]?) h
 simp[JaW]at h1 h2
 exact⟨h1,h2⟩
theorem Jjt (t:Tr):Jmt t:=by
 refine Tr.ind (P:=Jmt) (fun t ih hp AF v w hA h0=>?_) t;have IH:=Hd ih;have H0:=Hd h0;have h:=h0.tre;obtain⟨A,n,c,a2,s,c2,hn,hs,rfl,hnb,hsb,hK,hS,hF⟩:=h.opened;obtain⟨w1,hw1⟩:∃w1,w.alloc (.cells #[.int .i64 t.fld.op,.slice A n c,.int .i32 t.fld.rune,.slice a2 s c2,.int .i64 t.fld.at',.int .i64 t.fld.cap,.string t.fld.name,.int .i64 t.fld.min,.int .i64 t.fld.max,.bool t.fld.lazy] 29)=w1:=⟨_,rfl⟩;have hb1:Below w.heap.size w w1:=by rw[←hw1];exact(Below.refl _ _).alloc (Nat.le_refl _) _
 have hE1:JdH w1 w.heap.size (.int .i64 t.fld.op) (.slice A n c) (.int .i32 t.fld.rune) (.slice a2 s c2) (.int .i64 t.fld.at') (.int .i64 t.fld.cap) (.string t.fld.name) (.int .i64 t.fld.min) (.int .i64 t.fld.max) (.bool t.fld.lazy):=by rw[←hw1];exact Jfa w _ _ _ _ _ _ _ _ _ _ _
 have HB1:=Hd hb1;have HE1:=Hd hE1;have HW1:=Hd hw1;have HK:=Hd (hK.below hb1);have HS:=Hd (hS.below hb1);have HN:=Hd hn;have HSL:=Hd hs;have HF:=Hd hF;clear hb1 hE1 hw1 hK hS hn hs hF;have HAF:=Hd hA;have HGQ:=Hd (Jfm t);have hlen:=fun k=>JtW (t:=t) k
 have HLEN:=Hd hlen;have hsz1:=HB1.out.size;have HT1:=Hd (Jax.same H0.out (Jcw HB1.out) (fun _ h _=>h));clear h h0 ih hA hlen;obtain⟨b0,b1,b2,b3,b4,b5,b6,b7,b8,b9⟩:=HE1.out;obtain⟨G0,hG0⟩:∃G0:List Tr,(if t.fld.op=6 then [t]else [])=G0:=⟨_,rfl⟩;have hG1:G0.length≤1:=by rw[←hG0];split<;>simp
 rw[hG0]at HGQ;have hways:(t.fld.op=6∧G0=[t])∨((t.fld.op==6)=false∧G0=[]):=by
  by_cases q:t.fld.op=6
  ·exact .inl ⟨q,by rw[←hG0,if_pos q]⟩
  ·exact .inr ⟨beq_eq_false_iff_ne.2 q,by rw[←hG0,if_neg q]⟩
 clear hG0
 go_enter Tryz.func13,Tryz.ntmps13
 go_upto_region 2 with(fail);rw[HW1.out]
 rcases hways with⟨h6,hg⟩|⟨e6,hg⟩
 ·have HG:=Hd hg;have H6:=Hd h6;rw[h6]at b0;clear hg h6;have hk1:Jeq (fun b=>Off (.slice none 0 0) b∧AF b) (w1.alloc (.cells (JaW t.fld (.slice A n c) (.slice a2 s c2)) 29)) [t] (.slice (some ⟨w1.heap.size,0,none⟩) 1 1):=JlI HT1.out _ (fun b hb _=>⟨by simp[Off,Value.ownBlock],hb⟩);unfold JaW at hk1;rw[H6.out]at hk1;have HK1:=Hd hk1;clear hk1
  go_wp2_with (at_builtin;refine JhM rfl (.tmp 8) (.tmp 10) rfl AF w1.heap.size (.slice none 0 0) [] rfl (Ji7 _ _ _) (some ⟨w1.heap.size,0,none⟩) 1 1 [t] rfl HK1.out (by simp) (by simp) ?_;intro v2 w2 ho2 hg2 _;obtain⟨y1,y2,y3,rfl⟩:=ho2.slice;have HO2:=Hd ho2;have HB2:=Hd (((Below.refl _ w1).alloc (Nat.le_refl _) _).grown hg2 (by simp) (by simp[Value.ownBlock]));clear ho2 hg2 b0 b1 b2 b3 b4 b5 b6 b7 b8 b9)
  go_loopw [3,4] (fun vv i wr=>∃k:Nat,k≤n∧i=.int .i64 k∧JaA AF wr w1.heap.size vv (G0++((t.kids.take k).map JaP).flatten)∧Below w1.heap.size w1 wr) (fun _ i _=>n-(intOf i).toNat)
  case atStart=>exact⟨0,Nat.zero_le _,rfl,by rw[HG.out];simpa using HO2.out,HB2.out⟩
  case round =>
   obtain⟨k,hk,rfl,hO,hB⟩:=hrel;have HO:=Hd hO;have HB:=Hd hB;obtain⟨-,d1,-⟩:=HE1.out.below hB;have hszr:=hB.size;have hTr:=HT1.out.same (Jcw hB) (fun _ h _=>h);clear hO hB
   by_cases hkn:k<n
   ·have hkl:k<t.kids.length:=by rw[HN.out];exact hkn
    obtain⟨b,o,cc,ss,tk,kv,sv,hv,htk,hm,⟨c0,c1,c2',c3,c4,c5,c6,c7,c8,c9⟩,hTk⟩:=hTr.kid k hkl;rw[HN.out]at hv;obtain⟨hkv,-⟩:=JeU hv;rw[hkv]at d1;have hpk:=Jfo hm;have hl1:=HLEN.out k;have hl2:=Jg5 tk;have hnx:((t.kids.take (k+1)).map JaP).flatten=((t.kids.take k).map JaP).flatten++JaP tk:=by rw[List.take_succ_eq_append_getElem hkl,htk];simp
    have HI:=Hd (IH.out tk hm (by omega) AF _ _ (fun b hb=>by have:=HAF.out b hb;omega) hTk);have HNX:=Hd hnx;clear hTr hv hkv htk hm hTk hnx;go_wp2_with fail;refine HI.out.mono ?_;rintro e w3 ⟨v3,rfl,ho3,hb3⟩;have HB3:=Hd (Jbu HB.out hb3);have HOV:=Hd (HO.out.below hb3);have HK3:Hid (∃a3 n3 c3',v3=.slice a3 n3 c3'∧∀vv,JaA AF w3 w1.heap.size vv (G0++((t.kids.take k).map JaP).flatten)→Jeq (fun b=>Off vv b∧AF b) w3 (JaP tk) (.slice a3 n3 c3')):=by
     obtain⟨a3,n3,c3',rfl⟩:=ho3.slice;refine Hd ⟨a3,n3,c3',rfl,fun vv hvv=>(ho3.kdsE (by omega)).mono fun b hb _=>⟨fun e=>?_,hb.2⟩⟩;have h1:=HAF.out b hb.2;have h2:=hvv.base b e;omega
    have hsz3:=HB3.out.size;clear ho3 hb3 c0 c1 c2' c3 c4 c5 c6 c7 c8 c9;obtain⟨a3,n3,c3',rfl,hK3⟩:=HK3.out;have HKK:=Hd (hK3 _ HOV.out);have hg0:(G0++((t.kids.take k).map JaP).flatten).length≤1+Jai t:=by rw[List.length_append];omega
    clear hK3 HK3
    go_wp2_with (at_builtin;refine JhM rfl (.tmp 19) (.tmp 25) rfl AF w1.heap.size _ (G0++((t.kids.take k).map JaP).flatten) rfl HOV.out a3 n3 c3' (JaP tk) rfl HKK.out (by omega) (by omega) ?_;intro v4 w4 ho4 hg4 _;have HO4:=Hd ho4;have HB4:=Hd (HB3.out.grown hg4 hsz3 (fun j hj=>(by have:=HOV.out.base j hj;omega)));clear ho4 hg4)
    go_roundw
    case rel=>exact⟨k+1,by omega,by go_num,by rw[HNX.out,←List.append_assoc];exact HO4.out,HB4.out⟩
    case measure=>simp[intOf];omega
   ·have hk2:t.kids.take k=t.kids:=List.take_of_length_le (by rw[HN.out];omega);have ho:=HO.out;rw[hk2,←HGQ.out]at ho;have HO5:=Hd ho;clear hk2 ho hTr;go_wp2_with fail;go_ret;exact⟨_,rfl,HO5.out.mono hsz1,Jbu HB1.out HB.out⟩
 ·have HG:=Hd hg;clear hg b1 b2 b3 b4 b5 b6 b7 b8 b9;go_wp2_with fail
  go_loopw [3,4] (fun vv i wr=>∃k:Nat,k≤n∧i=.int .i64 k∧JaA AF wr w1.heap.size vv (G0++((t.kids.take k).map JaP).flatten)∧Below w1.heap.size w1 wr) (fun _ i _=>n-(intOf i).toNat)
  case atStart=>exact⟨0,Nat.zero_le _,rfl,by rw[HG.out];simpa using Ji7 AF w1 w1.heap.size,Below.refl _ _⟩
  case round =>
   obtain⟨k,hk,rfl,hO,hB⟩:=hrel;have HO:=Hd hO;have HB:=Hd hB;obtain⟨-,d1,-⟩:=HE1.out.below hB;have hszr:=hB.size;have hTr:=HT1.out.same (Jcw hB) (fun _ h _=>h);clear hO hB
   by_cases hkn:k<n
   ·have hkl:k<t.kids.length:=by rw[HN.out];exact hkn
    obtain⟨b,o,cc,ss,tk,kv,sv,hv,htk,hm,⟨c0,c1,c2',c3,c4,c5,c6,c7,c8,c9⟩,hTk⟩:=hTr.kid k hkl;rw[HN.out]at hv;obtain⟨hkv,-⟩:=JeU hv;rw[hkv]at d1;have hpk:=Jfo hm;have hl1:=HLEN.out k;have hl2:=Jg5 tk;have hnx:((t.kids.take (k+1)).map JaP).flatten=((t.kids.take k).map JaP).flatten++JaP tk:=by rw[List.take_succ_eq_append_getElem hkl,htk];simp
    have HI:=Hd (IH.out tk hm (by omega) AF _ _ (fun b hb=>by have:=HAF.out b hb;omega) hTk);have HNX:=Hd hnx;clear hTr hv hkv htk hm hTk hnx;go_wp2_with fail;refine HI.out.mono ?_;rintro e w3 ⟨v3,rfl,ho3,hb3⟩;have HB3:=Hd (Jbu HB.out hb3);have HOV:=Hd (HO.out.below hb3);have HK3:Hid (∃a3 n3 c3',v3=.slice a3 n3 c3'∧∀vv,JaA AF w3 w1.heap.size vv (G0++((t.kids.take k).map JaP).flatten)→Jeq (fun b=>Off vv b∧AF b) w3 (JaP tk) (.slice a3 n3 c3')):=by
     obtain⟨a3,n3,c3',rfl⟩:=ho3.slice;refine Hd ⟨a3,n3,c3',rfl,fun vv hvv=>(ho3.kdsE (by omega)).mono fun b hb _=>⟨fun e=>?_,hb.2⟩⟩;have h1:=HAF.out b hb.2;have h2:=hvv.base b e;omega
    have hsz3:=HB3.out.size;clear ho3 hb3 c0 c1 c2' c3 c4 c5 c6 c7 c8 c9;obtain⟨a3,n3,c3',rfl,hK3⟩:=HK3.out;have HKK:=Hd (hK3 _ HOV.out);have hg0:(G0++((t.kids.take k).map JaP).flatten).length≤1+Jai t:=by rw[List.length_append];omega
    clear hK3 HK3
    go_wp2_with (at_builtin;refine JhM rfl (.tmp 19) (.tmp 25) rfl AF w1.heap.size _ (G0++((t.kids.take k).map JaP).flatten) rfl HOV.out a3 n3 c3' (JaP tk) rfl HKK.out (by omega) (by omega) ?_;intro v4 w4 ho4 hg4 _;have HO4:=Hd ho4;have HB4:=Hd (HB3.out.grown hg4 hsz3 (fun j hj=>(by have:=HOV.out.base j hj;omega)));clear ho4 hg4)
    go_roundw
    case rel=>exact⟨k+1,by omega,by go_num,by rw[HNX.out,←List.append_assoc];exact HO4.out,HB4.out⟩
    case measure=>simp[intOf];omega
   ·have hk2:t.kids.take k=t.kids:=List.take_of_length_le (by rw[HN.out];omega);have ho:=HO.out;rw[hk2,←HGQ.out]at ho;have HO5:=Hd ho;clear hk2 ho hTr;go_wp2_with fail;go_ret;exact⟨_,rfl,HO5.out.mono hsz1,Jbu HB1.out HB.out⟩
def Jfu (g:List Tr):Prop:=∀(i:Nat) (h:i<g.length),g[i].fld.cap=(i:Int)+1∧∀(k:Nat) (hk:k<i),¬((g[k]'(by omega)).fld.name.toList=g[i].fld.name.toList∧g[i].fld.name.toList≠[])
def JbU (t:Tr):Prop:=JaC t≤50∧Ja5 t≤4000∧Jay t∧Jfu (JaP t)
theorem Jog:∀(l:List Tr),(∀k∈l,Jai k≤Ja5 k*1114114)→(l.map Jai).sum≤(l.map Ja5).sum*1114114
 | [],_=>Nat.le_refl _
 | k::l,h=>by
  have h1:=h k (by simp);have h2:=Jog l fun q hq=>h q (by simp[hq])
  rw[List.map_cons,List.map_cons,List.sum_cons,List.sum_cons,Nat.add_mul];omega
theorem JtE (t:Tr):Jay t→Ja5 t≤4000→Jai t≤Ja5 t*1114114:=by
 refine Tr.ind (P:=fun t=>Jay t→Ja5 t≤4000→Jai t≤Ja5 t*1114114) (fun t ih=>?_) t;intro hs hw;obtain⟨hf,hk,-,hkids⟩:=(Jbl t).1 hs;have hset:t.fld.set.length≤1114112∧(t.fld.op≠4→t.fld.set.length=0):=by
  refine⟨?_,fun h=>by rw[hf.2.2.2.1 h];rfl⟩
  by_cases h:t.fld.op=4
  ·have hr:=(hf.2.2.2.2.2.2.2.2.2.1 h).1;have:=Jec t.fld.set 0 (by omega) hr;omega
  ·rw[hf.2.2.2.1 h];exact Nat.zero_le _
 have hkid:∀k∈t.kids,Ja5 k≤(t.kids.map Ja5).sum:=fun k hk=>Jkn (List.mem_map_of_mem hk)
 obtain⟨S,hS⟩:∃S,(t.kids.map Ja5).sum=S:=⟨_,rfl⟩;have hsum:S≤4000→(t.kids.map Jai).sum≤S*1114114:=fun h=>by
  rw[←hS];exact Jog _ fun k hk=>ih k hk (hkids k hk) (Nat.le_trans (hkid k hk) (by omega))
 have hwe:=Jd7 t;rw[hS]at hwe;rw[Jc9];unfold JcM at hwe
 by_cases h6:t.fld.op=6
 ·rw[if_pos h6]at hwe;have h0:=hset.2 (by omega);unfold Jaz at hwe;have:=hsum (by omega);omega
 rw[if_neg h6]at hwe
 by_cases h7:t.fld.op=7∨t.fld.op=8∨t.fld.op=9∨t.fld.op=11
 ·rw[if_pos h7]at hwe;have h0:=hset.2 (by omega);unfold Jaz at hwe;have:=hsum (by omega);omega
 rw[if_neg h7]at hwe
 by_cases h10:t.fld.op=10
 ·rw[if_pos h10]at hwe;have h0:=hset.2 (by omega);obtain⟨k,hk⟩:∃k,Jaz (max (max t.fld.min t.fld.max) 1).toNat=k:=⟨_,rfl⟩;have hk1:1≤k:=by
   rw[←hk];unfold Jaz;omega
  rw[hk]at hwe;have hm:Jaz S≤k*Jaz S:=Nat.le_mul_of_pos_left _ hk1;obtain⟨m,hmm⟩:∃m,k*Jaz S=m:=⟨_,rfl⟩;rw[hmm]at hwe hm;unfold Jaz at hwe hm;have:=hsum (by omega);omega
 rw[if_neg h10]at hwe
 by_cases h12:t.fld.op=12
 ·rw[if_pos h12]at hwe;have h0:=hset.2 (by omega);have h1:=hk.2.1 h12;unfold Jaz at hwe;have:=hsum (by omega);omega
 rw[if_neg h12]at hwe;have h0:t.kids.length=0:=by
  have:=hk.2.2;omega
 have h1:t.kids=[]:=List.eq_nil_of_length_eq_zero h0;rw[h1,hwe];have:=hset.1;simp only[List.map_nil,List.sum_nil];omega
theorem Jir {t:Tr} (h:JbU t):Jai t≤10000000000:=by
 have:=JtE t h.2.2.1 h.2.1;have:=h.2.1;omega
def Jhb (l:List ByteArray):List Value:=l.map Value.string
theorem Jxx (a b:List ByteArray):Jhb (a++b)=Jhb a++Jhb b:=by simp[Jhb]
theorem JtP:(Tryz.prog.info? 9).map (fun i=>(i.zero,i.size,i.bytes))=some (some (.string ⟨#[]⟩),1,16):=by kernel_rfl
theorem Jyf {w:World} {base:Nat} {e:TypeId} {n:Nat} {v:Value} {xs:List Value} (h:w.ownsRow base e 1 v n xs):(v=.slice none 0 0∧n=0)∨∃g c,v=.slice (some ⟨g,0,none⟩) n c∧n≤c∧c≤maxLen∧base≤g:=by
 rcases h.2 with h|⟨q,cap,cur,rfl,hb,_,hn,hm,_⟩
 ·exact .inl h
 ·exact .inr ⟨_,_,rfl,hn,hm,hb⟩
def JgX (w:World) (B:Nat) (v:Value) (l:List ByteArray):Prop:=w.ownsRow B 9 1 v l.length (Jhb l)
def Srs (w:World) (v:Value) (l:List ByteArray):Prop:=∃a c,v=.slice a l.length c∧l.length≤c∧c≤maxLen∧(l=[]∨∃b,a=some ⟨b,0,none⟩∧∀i (h:i<l.length),w.cell? ⟨b,i,none⟩=some (.string l[i]))
theorem JgX.srs {w:World} {B:Nat} {v:Value} {l:List ByteArray} (h:JgX w B v l):Srs w v l:=by
 have h':=h
 rcases Jyf h with⟨rfl,hn⟩|⟨g,c,rfl,h1,h2,-⟩
 ·exact⟨none,0,by rw[hn],by omega,Nat.zero_le _,.inl (List.eq_nil_of_length_eq_zero hn)⟩
 ·refine⟨_,c,rfl,h1,h2,.inr ⟨g,rfl,fun i hi=>?_⟩⟩;have:=World.ownsRow.cells h' (g:=g) rfl i (.string l[i]) (by simp[Jhb,hi]);rw[show (⟨g,0,none⟩:Addr).add i=⟨g,0+i,none⟩ by unfold Addr.add;split<;>simp_all,Nat.zero_add]at this;exact this
end Go.Proofs.YtaaoamkagppodaaGreatDoor
