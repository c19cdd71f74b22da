/- Texts merged by program. No condition. -/
import Derived.Test.YtaaoamkagppodaaGreatDoorK28
import Derived.Lib.AppendIntMem
set_option maxHeartbeats 1600000
set_option maxRecDepth 100000
set_option linter.unusedVariables false
namespace Go.Proofs.YtaaoamkagppodaaGreatDoor
open Go Go.RowKit
def Jex:Tr:=.mk (Jbh 2) []
def Jgp (t:Tr) (l:List (List Tr × List Tr)):List Tr × List Tr:=
 if t.fld.op=11 then (match l with|[]=>([Jex],[Jex])|[x]=>x|_=>((l.map Prod.fst).flatten,[JaQ (l.map Prod.fst).flatten])) else
 if t.fld.op=12 then (match l with|[x]=>x|_=>([Jao (l.map Prod.snd).flatten],(l.map Prod.snd).flatten)) else
 if t.fld.op≤5 then ([.mk t.fld []],[.mk t.fld []])else ([.mk t.fld [Jao (l.headD ([],[])).2]],[.mk t.fld [Jao (l.headD ([],[])).2]])
def Jde:Tr→List Tr × List Tr:=Tr.para Jgp
theorem Jhi (t:Tr):Jde t=Jgp t (t.kids.map Jde):=Tr.para_eq _ t
def Jaj (t:Tr):List Tr:=(Jde t).1
def Jaf (t:Tr):List Tr:=(Jde t).2
theorem JgZ {t k:Tr} (h:JbC t) (hk:t.kids=[k]):Jde t=Jde k:=by
 rw[Jhi,hk];unfold Jgp
 rcases h.1 with e|e<;>simp[e]
theorem Jhs {t:Tr} (h:t.fld.op≤5):Jde t=([.mk t.fld []],[.mk t.fld []]):=by
 rw[Jhi];unfold Jgp;rw[if_neg (by omega),if_neg (by omega),if_pos h]
theorem Jeu {t k:Tr} (h:t.fld.op=6∨t.fld.op=7∨t.fld.op=8∨t.fld.op=9∨t.fld.op=10) (hk:t.kids=[k]):Jde t=([.mk t.fld [Jao (Jaf k)]],[.mk t.fld [Jao (Jaf k)]]):=by
 rw[Jhi,hk];unfold Jgp;rw[if_neg (by omega),if_neg (by omega),if_neg (by omega)];rfl
theorem JhJ {t:Tr} (h:t.fld.op=11) (hk:t.kids=[]):Jde t=([Jex],[Jex]):=by
 rw[Jhi,hk];unfold Jgp
 simp[h]
theorem Jfg {t:Tr} (h:t.fld.op=11) (h2:2≤t.kids.length):Jde t=((t.kids.map Jaj).flatten,[JaQ (t.kids.map Jaj).flatten]):=by
 rw[Jhi];unfold Jgp;rw[if_pos h];obtain⟨f,ks⟩:=t;simp only[Tr.fld,Tr.kids]at h h2 ⊢
 match ks,h2 with
 | x::y::l,_ =>
  simp only[List.map_cons,List.map_map];rfl
theorem Je7 {t:Tr} (h:t.fld.op=12) (h2:2≤t.kids.length):Jde t=([Jao (t.kids.map Jaf).flatten],(t.kids.map Jaf).flatten):=by
 rw[Jhi];unfold Jgp;rw[if_neg (by omega),if_pos h];obtain⟨f,ks⟩:=t;simp only[Tr.fld,Tr.kids]at h h2 ⊢
 match ks,h2 with
 | x::y::l,_ =>
  simp only[List.map_cons,List.map_map];rfl
def Jux (x:Tr):Prop:=¬JbC x∧x.fld.op≠11
def Jsr (x:Tr):Prop:=¬JbC x∧x.fld.op≠12
def Jg2 (t:Tr):Prop:=
 (Jaj t≠[]∧∀x∈Jaj t,Jux x)∧(Jaf t≠[]∧∀x∈Jaf t,Jsr x) ∧
 ((Jar t).fld.op≠12→Jaf t=[JaQ (Jaj t)])∧((Jar t).fld.op=12→Jaj t=[Jao (Jaf t)]∧2≤(Jaf t).length) ∧
 ((Jar t).fld.op=11∧(Jar t).kids≠[]→2≤(Jaj t).length)∧(¬((Jar t).fld.op=11∧(Jar t).kids≠[])→(Jar t).fld.op≠12→∃x,Jaj t=[x]∧Jaf t=[x]∧(x.fld=(Jar t).fld∨((Jar t).fld.op=11∧x=Jex)))
theorem JjT {l:List Tr} (h:2≤l.length):JaQ l=.mk (Jbh 11) l:=by
 match l,h with
 | x::y::l,_=>rfl
theorem JiL {l:List Tr} (h:2≤l.length):Jao l=.mk (Jbh 12) l:=by
 match l,h with
 | x::y::l,_=>rfl
theorem Jgq {f:Tr→List Tr}:∀ {l:List Tr},2≤l.length→(∀k∈l,f k≠[])→2≤(l.map f).flatten.length
 | a::b::l,_,h=>by
  have h1:=List.length_pos_iff.2 (h a (by simp));have h2:=List.length_pos_iff.2 (h b (by simp));simp only[List.map_cons,List.flatten_cons,List.length_append];omega
theorem JfX {l:List Tr} (h:2≤l.length):l≠[]:=fun e=>by rw[e]at h;simp at h
theorem Jid {x:Tr} (h:x.fld.op≠11) (h':x.fld.op≠12):¬JbC x:=fun e=>e.1.elim h h'
theorem Jjo {t x:Tr} (hx:Jde t=([x],[x])) (hs:¬JbC t) (h1:x.fld.op≠11) (h2:x.fld.op≠12) (h3:¬(t.fld.op=11∧t.kids≠[])) (h4:t.fld.op≠12) (h5:x.fld=t.fld∨(t.fld.op=11∧x=Jex)):Jg2 t:=by
 have e1:Jaj t=[x]:=by unfold Jaj;rw[hx]
 have e2:Jaf t=[x]:=by unfold Jaf;rw[hx]
 unfold Jg2;rw[e1,e2,Jdz hs];refine⟨⟨by simp,fun y hy=>?_⟩,⟨by simp,fun y hy=>?_⟩,fun _=>rfl,fun e=>absurd e h4,fun e=>absurd e h3,fun _ _=>⟨x,rfl,rfl,h5⟩⟩
 ·rw[List.mem_singleton.1 hy];exact⟨Jid h1 h2,h1⟩
 ·rw[List.mem_singleton.1 hy];exact⟨Jid h1 h2,h2⟩
theorem Je2 (t:Tr):Jay t→Jg2 t:=by
 refine Tr.ind (P:=fun t=>Jay t→Jg2 t) (fun t ih hs=>?_) t;obtain⟨hf,hk,-,hkids⟩:=(Jbl t).1 hs
 by_cases hl:JbC t
 ·obtain⟨k,hkk⟩:=Jf2 hl;have e:=ih k (by rw[hkk];simp) (hkids k (by rw[hkk];simp));unfold Jg2 Jaj Jaf at e ⊢;rw[JgZ hl hkk,JhU hl hkk];exact e
 rcases JeP hs with h|h|h|h|h
 ·exact Jjo (Jhs (by omega)) hl (by show t.fld.op≠11;omega) (by show t.fld.op≠12;omega) (by omega) (by omega) (.inl rfl)
 ·obtain⟨k,hkk,hks⟩:=Jdl hs (.inl h);exact Jjo (Jeu (.inl h) hkk) hl (by show t.fld.op≠11;omega) (by show t.fld.op≠12;omega) (by omega) (by omega) (.inl rfl)
 ·obtain⟨k,hkk,hks⟩:=Jdl hs (.inr h);exact Jjo (Jeu (.inr h) hkk) hl (by show t.fld.op≠11;omega) (by show t.fld.op≠12;omega) (by omega) (by omega) (.inl rfl)
 ·by_cases h0:t.kids=[]
  ·exact Jjo (JhJ h h0) hl (by decide) (by decide) (fun e=>e.2 h0) (by omega) (.inr ⟨h,rfl⟩)
  ·have h2:2≤t.kids.length:=by
    have h3:=List.length_pos_iff.2 h0;have h4:t.kids.length≠1:=fun e=>hl ⟨.inl h,e⟩
    omega
   have hA:=fun k hk=>ih k hk (hkids k hk)
   have e1:Jaj t=(t.kids.map Jaj).flatten:=by unfold Jaj;rw[Jfg h h2];rfl
   have e2:Jaf t=[JaQ (t.kids.map Jaj).flatten]:=by unfold Jaf;rw[Jfg h h2]
   have h4:=Jgq (f:=Jaj) h2 fun k hk=>(hA k hk).1.1
   unfold Jg2;rw[e2,e1,Jdz hl];refine⟨⟨JfX h4,fun x hx=>?_⟩,⟨by simp,fun x hx=>?_⟩,fun _=>rfl,fun e=>absurd e (by omega),fun _=>h4,fun e=>absurd ⟨h,h0⟩ e⟩
   ·obtain⟨l,hl',hx⟩:=List.mem_flatten.1 hx;obtain⟨k,hk,rfl⟩:=List.mem_map.1 hl';exact(hA k hk).1.2 x hx
   ·rw[List.mem_singleton.1 hx,JjT h4];exact⟨fun e=>absurd e.2 (by show ¬(t.kids.map Jaj).flatten.length=1;omega),by show (11:Int)≠12;decide⟩
 ·have h2:2≤t.kids.length:=by
   have h3:=hk.2.1 h;have h4:t.kids.length≠1:=fun e=>hl ⟨.inr h,e⟩
   omega
  have hA:=fun k hk=>ih k hk (hkids k hk)
  have e1:Jaj t=[Jao (t.kids.map Jaf).flatten]:=by unfold Jaj;rw[Je7 h h2]
  have e2:Jaf t=(t.kids.map Jaf).flatten:=by unfold Jaf;rw[Je7 h h2];rfl
  have h4:=Jgq (f:=Jaf) h2 fun k hk=>(hA k hk).2.1.1
  unfold Jg2;rw[e2,e1,Jdz hl];refine⟨⟨by simp,fun x hx=>?_⟩,⟨JfX h4,fun x hx=>?_⟩,fun e=>absurd h e,fun _=>⟨rfl,h4⟩,fun e=>absurd e.1 (by omega),fun _ e=>absurd h e⟩
  ·rw[List.mem_singleton.1 hx,JiL h4];exact⟨fun e=>absurd e.2 (by show ¬(t.kids.map Jaf).flatten.length=1;omega),by show (12:Int)≠11;decide⟩
  ·obtain⟨l,hl',hx⟩:=List.mem_flatten.1 hx;obtain⟨k,hk,rfl⟩:=List.mem_map.1 hl';exact(hA k hk).2.1.2 x hx
theorem JjF {p:List Tr} (h:p≠[]):Jad (Jao p)=Jbg (p.map Jad):=by
 match p,h with
 | [x],_=>rfl
 | x::y::l,_=>exact Jg0 (t:=.mk (Jbh 12) (x::y::l)) rfl
theorem JwO {p:List Tr} (h:2≤p.length):Jad (JaQ p)=(p.map JaU).flatten:=by
 rw[JjT h];exact Jg4 rfl h
theorem JqV {f:Tr→List Tr} {g:Tr→List UInt8}:∀l:List Tr,((l.map f).flatten.map g).flatten=(l.map fun k=>((f k).map g).flatten).flatten
 | []=>rfl
 | k::l=>by
  rw[List.map_cons,List.flatten_cons,List.map_append,List.flatten_append,JqV l];rfl
theorem Jja {x:Tr} (h:x.fld.op≠12) (h':¬JbC x):JaU x=Jad x:=by
 unfold JaU Jfj;rw[Jdz h',if_neg h]
theorem JxM (t:Tr):Jay t→((Jaj t).map JaU).flatten=JaU t∧Jbg ((Jaf t).map Jad)=Jad t:=by
 refine Tr.ind (P:=fun t=>Jay t→((Jaj t).map JaU).flatten=JaU t∧Jbg ((Jaf t).map Jad)=Jad t) (fun t ih hs=>?_) t;obtain⟨hf,hk,-,hkids⟩:=(Jbl t).1 hs
 by_cases hl:JbC t
 ·obtain⟨k,hkk⟩:=Jf2 hl;have e:=ih k (by rw[hkk];simp) (hkids k (by rw[hkk];simp));unfold Jaj Jaf at e ⊢;rw[JgZ hl hkk,JoC hl hkk,JgF hl hkk];exact e
 have one:∀x:Tr,Jde t=([x],[x])→Jad x=Jad t→x.fld.op≠12→¬JbC x→t.fld.op≠12→((Jaj t).map JaU).flatten=JaU t∧Jbg ((Jaf t).map Jad)=Jad t:=by
  intro x hx ht h1 h2 h3;unfold Jaj Jaf;rw[hx];simp only[List.map_cons,List.map_nil,List.flatten_cons,List.flatten_nil,List.append_nil,Jbg];rw[Jja h1 h2,Jja h3 hl,ht];exact⟨rfl,rfl⟩
 rcases JeP hs with h|h|h|h|h
 ·have e:Tr.mk t.fld []=t:=by rw[←Ji9 hs (by omega)];exact t.eta.symm
  refine one _ (Jhs (by omega)) (by rw[e]) ?_ ?_ (by omega)
  ·show t.fld.op≠12;omega
  ·rw[e];exact hl
 ·obtain⟨k,hkk,hks⟩:=Jdl hs (.inl h);have F:=Je2 k hks;have e:=ih k (by rw[hkk];simp) hks;refine one _ (Jeu (.inl h) hkk) ?_ (by show t.fld.op≠12;omega) (Jid (by show t.fld.op≠11;omega) (by show t.fld.op≠12;omega)) (by omega);rw[Jhc (t:=.mk t.fld [Jao (Jaf k)]) h rfl,Jhc h hkk,JjF F.2.1.1,e.2];rfl
 ·obtain⟨k,hkk,hks⟩:=Jdl hs (.inr h);have F:=Je2 k hks;have e:=ih k (by rw[hkk];simp) hks;refine one _ (Jeu (.inr h) hkk) ?_ (by show t.fld.op≠12;omega) (Jid (by show t.fld.op≠11;omega) (by show t.fld.op≠12;omega)) (by omega);rw[JgD (t:=.mk t.fld [Jao (Jaf k)]) h rfl,JgD h hkk];have ht:Jad (Jao (Jaf k))=Jad k:=by rw[JjF F.2.1.1,e.2]
  have hh:Jcu (Jao (Jaf k))↔Jcu k:=by
   obtain⟨f1,f2,f3,f4,f5,f6⟩:=F
   by_cases h12:(Jar k).fld.op=12
   ·have h2:=(f4 h12).2;have hn:¬JbC (Jao (Jaf k)):=by rw[JiL h2];exact fun e=>absurd e.2 (by show ¬(Jaf k).length=1;omega)
    refine⟨fun _=>.inr ⟨by omega,by omega⟩,fun _=>.inr ?_⟩;rw[Jdz hn,JiL h2];show (7:Int)≤12∧(12:Int)≠11
    decide
   ·by_cases h11:(Jar k).fld.op=11∧(Jar k).kids≠[]
    ·have h2:=f5 h11;rw[f3 h12];have hn:¬JbC (JaQ (Jaj k)):=by rw[JjT h2];exact fun e=>absurd e.2 (by show ¬(Jaj k).length=1;omega)
     refine⟨fun _=>.inl h11,fun _=>.inl ?_⟩;rw[show Jao [JaQ (Jaj k)]=JaQ (Jaj k)from rfl,Jdz hn,JjT h2];exact⟨rfl,JfX h2⟩
    ·obtain⟨x,hx1,hx2,hx3⟩:=f6 h11 h12;rw[hx2,show Jao [x]=x from rfl];have hxn:=f2.2 x (by rw[hx2];simp);unfold Jcu;rw[Jdz hxn.1]
     rcases hx3 with hx3|⟨hx3,rfl⟩
     ·have hx11:x.fld.op≠11:=(f1.2 x (by rw[hx1];simp)).2;rw[←hx3];exact⟨fun e=>e.elim (fun e=>absurd e.1 hx11) .inr,fun e=>e.elim (fun e=>absurd e.1 hx11) .inr⟩
     ·refine⟨fun e=>?_,fun e=>?_⟩
      ·rcases e with e|e
       ·exact absurd e.1 (by decide)
       ·exact absurd e.1 (by decide)
      ·rcases e with e|e
       ·exact absurd e h11
       ·exact absurd hx3 e.2
  unfold Jbf Jeh;rw[ht];simp only[hh];rfl
 ·by_cases h0:t.kids=[]
  ·exact one _ (JhJ h h0) (by rw[Jhp h h0];exact JgM (t:=Jex) (by decide)) (by decide) (Jid (by decide) (by decide)) (by omega)
  ·have h2:2≤t.kids.length:=by
    have h3:=List.length_pos_iff.2 h0;have h4:t.kids.length≠1:=fun e=>hl ⟨.inl h,e⟩
    omega
   have e1:Jaj t=(t.kids.map Jaj).flatten:=by unfold Jaj;rw[Jfg h h2];rfl
   have e2:Jaf t=[JaQ (t.kids.map Jaj).flatten]:=by unfold Jaf;rw[Jfg h h2]
   have h4:=Jgq (f:=Jaj) h2 fun k hk=>(Je2 k (hkids k hk)).1.1
   have e3:((t.kids.map Jaj).flatten.map JaU).flatten=Jad t:=by
    rw[JqV,Jg4 h h2]
    congr 1
    exact List.map_congr_left fun k hk=>(ih k hk (hkids k hk)).1
   rw[e1,e2,Jja (by omega) hl];refine⟨e3,?_⟩;simp only[List.map_cons,List.map_nil,Jbg];rw[JwO h4,e3]
 ·have h2:2≤t.kids.length:=by
   have h3:=hk.2.1 h;have h4:t.kids.length≠1:=fun e=>hl ⟨.inr h,e⟩
   omega
  have e1:Jaj t=[Jao (t.kids.map Jaf).flatten]:=by unfold Jaj;rw[Je7 h h2]
  have e2:Jaf t=(t.kids.map Jaf).flatten:=by unfold Jaf;rw[Je7 h h2];rfl
  have h4:=Jgq (f:=Jaf) h2 fun k hk=>(Je2 k (hkids k hk)).2.1.1
  have e3:Jbg ((t.kids.map Jaf).flatten.map Jad)=Jad t:=by
   rw[Jg0 h,List.map_flatten,List.map_map,JnZ,List.map_map]
   ·congr 1
    exact List.map_congr_left fun k hk=>(ih k hk (hkids k hk)).2
   ·intro a ha;obtain⟨k,hk,rfl⟩:=List.mem_map.1 ha
    simpa using(Je2 k (hkids k hk)).2.1.1
  rw[e1,e2];refine⟨?_,e3⟩;simp only[List.map_cons,List.map_nil,List.flatten_cons,List.flatten_nil,List.append_nil];have hn:¬JbC (Jao (t.kids.map Jaf).flatten):=by rw[JiL h4];exact fun e=>absurd e.2 (by show ¬(t.kids.map Jaf).flatten.length=1;omega)
  unfold JaU Jfj;rw[Jdz hn,Jdz hl,JjF (JfX h4),e3,JiL h4,h];rfl
def Ja0 (t:Tr):List (Int × List UInt8):=(JaP t).map JcF
def Jby (l:List Tr):List (Int × List UInt8):=(l.map Ja0).flatten
theorem JfQ (f:Fld) (ks:List Tr):Ja0 (.mk f ks)=(if f.op=6 then [(f.cap,f.name.toList)]else [])++Jby ks:=by
 unfold Ja0 Jby;rw[Jie,List.map_append,gsL,List.map_flatten,List.map_map]
 split<;>rfl
theorem JyL (a b:List Tr):Jby (a++b)=Jby a++Jby b:=by simp[Jby]
theorem Jek (t:Tr):Jby [t]=Ja0 t:=by simp[Jby]
theorem Jud (l:List Tr):Ja0 (JaQ l)=Jby l:=by
 match l with
 | []=>exact JfQ _ _
 | [x]=>exact(Jek x).symm
 | x::y::l=>exact JfQ _ _
theorem JkI (l:List Tr):Ja0 (Jao l)=Jby l:=by
 match l with
 | []=>exact JfQ _ _
 | [x]=>exact(Jek x).symm
 | x::y::l=>exact JfQ _ _
theorem JlB {f:Tr→List Tr}:∀l:List Tr,(∀k∈l,Jby (f k)=Ja0 k)→Jby (l.map f).flatten=Jby l
 | [],_=>rfl
 | k::l,h=>by
  rw[List.map_cons,List.flatten_cons,JyL,h k (by simp),JlB l (fun q hq=>h q (by simp[hq]))];rfl
theorem JfY (t:Tr) (h:t.fld.op≠6):Ja0 t=Jby t.kids:=by
 have:=JfQ t.fld t.kids
 rwa [if_neg h,List.nil_append,←t.eta]at this
theorem Jwh (t:Tr):Jay t→Jby (Jaj t)=Ja0 t∧Jby (Jaf t)=Ja0 t:=by
 refine Tr.ind (P:=fun t=>Jay t→Jby (Jaj t)=Ja0 t∧Jby (Jaf t)=Ja0 t) (fun t ih hs=>?_) t;obtain⟨hf,hk,-,hkids⟩:=(Jbl t).1 hs
 by_cases hl:JbC t
 ·obtain⟨k,hkk⟩:=Jf2 hl;have e:=ih k (by rw[hkk];simp) (hkids k (by rw[hkk];simp));unfold Jaj Jaf at e ⊢;rw[JgZ hl hkk,JfY t (by have:=hl.1;omega),hkk,Jek];exact e
 have one:∀x:Tr,Jde t=([x],[x])→Ja0 x=Ja0 t→Jby (Jaj t)=Ja0 t∧Jby (Jaf t)=Ja0 t:=by
  intro x hx ht;unfold Jaj Jaf;rw[hx,Jek,ht];exact⟨rfl,rfl⟩
 have node:∀k,t.kids=[k]→Jay k→Ja0 (.mk t.fld [Jao (Jaf k)])=Ja0 t:=by
  intro k hkk hks;have e:=ih k (by rw[hkk];simp) hks
  conv=>rhs;rw[t.eta,hkk]
  rw[JfQ,JfQ,Jek,Jek,JkI,e.2]
 rcases JeP hs with h|h|h|h|h
 ·exact one _ (Jhs (by omega)) (by rw[show Tr.mk t.fld []=t by rw[←Ji9 hs (by omega)];exact t.eta.symm])
 ·obtain⟨k,hkk,hks⟩:=Jdl hs (.inl h);exact one _ (Jeu (.inl h) hkk) (node k hkk hks)
 ·obtain⟨k,hkk,hks⟩:=Jdl hs (.inr h);exact one _ (Jeu (.inr h) hkk) (node k hkk hks)
 ·by_cases h0:t.kids=[]
  ·refine one _ (JhJ h h0) ?_;rw[JfY t (by omega),h0];exact JfQ _ _
  ·have h2:2≤t.kids.length:=by
    have h3:=List.length_pos_iff.2 h0;have h4:t.kids.length≠1:=fun e=>hl ⟨.inl h,e⟩
    omega
   have e1:Jaj t=(t.kids.map Jaj).flatten:=by unfold Jaj;rw[Jfg h h2];rfl
   have e2:Jaf t=[JaQ (t.kids.map Jaj).flatten]:=by unfold Jaf;rw[Jfg h h2]
   have e3:=JlB (f:=Jaj) t.kids fun k hk=>(ih k hk (hkids k hk)).1
   rw[e1,e2,Jek,Jud,e3,JfY t (by omega)];exact⟨rfl,rfl⟩
 ·have h2:2≤t.kids.length:=by
   have h3:=hk.2.1 h;have h4:t.kids.length≠1:=fun e=>hl ⟨.inr h,e⟩
   omega
  have e1:Jaj t=[Jao (t.kids.map Jaf).flatten]:=by unfold Jaj;rw[Je7 h h2]
  have e2:Jaf t=(t.kids.map Jaf).flatten:=by unfold Jaf;rw[Je7 h h2];rfl
  have e3:=JlB (f:=Jaf) t.kids fun k hk=>(ih k hk (hkids k hk)).2
  rw[e1,e2,Jek,JkI,e3,JfY t (by omega)];exact⟨rfl,rfl⟩
theorem Jik (f:Fld) (ks:List Tr):JaC (.mk f ks)=Jbj (ks.map JaC)+1:=Jd8 _
theorem Jo8:∀ {l:List Nat} {x:Nat},x∈l→x≤Jbj l
 | y::l,x,h=>by
  rw[Jbj]
  rcases List.mem_cons.1 h with rfl|h
  ·exact Nat.le_max_left _ _
  ·exact Nat.le_trans (Jo8 h) (Nat.le_max_right _ _)
theorem Jj0 {t k:Tr} (h:k∈t.kids):JaC k+1≤JaC t:=by
 rw[Jd8 t];exact Nat.succ_le_succ (Jo8 (List.mem_map_of_mem h))
theorem Jtf {l:List Tr} {n:Nat} (h:∀x∈l,JaC x≤n) (h0:l≠[]):JaC (Jao l)≤n+1:=by
 match l,h,h0 with
 | [x],h,_=>exact Nat.le_succ_of_le (h x (by simp))
 | x::y::l,h,_ =>
  rw[show Jao (x::y::l)=.mk (Jbh 12) (x::y::l)from rfl,Jik];exact Nat.succ_le_succ (Jjn fun d hd=>by obtain⟨k,hk,rfl⟩:=List.mem_map.1 hd;exact h k hk)
theorem Jtg {l:List Tr} {n:Nat} (h:∀x∈l,JaC x≤n) (h0:l≠[]):JaC (JaQ l)≤n+1:=by
 match l,h,h0 with
 | [x],h,_=>exact Nat.le_succ_of_le (h x (by simp))
 | x::y::l,h,_ =>
  rw[show JaQ (x::y::l)=.mk (Jbh 11) (x::y::l)from rfl,Jik];exact Nat.succ_le_succ (Jjn fun d hd=>by obtain⟨k,hk,rfl⟩:=List.mem_map.1 hd;exact h k hk)
theorem Ji3 (t:Tr):1≤JaC t:=by rw[Jd8];omega
theorem Jx9 (t:Tr):Jay t→(∀x∈Jaj t,JaC x≤JaC t)∧(∀x∈Jaf t,JaC x≤JaC t)∧JaC (Jao (Jaf t))≤JaC t:=by
 refine Tr.ind (P:=fun t=>Jay t→(∀x∈Jaj t,JaC x≤JaC t)∧(∀x∈Jaf t,JaC x≤JaC t)∧JaC (Jao (Jaf t))≤JaC t) (fun t ih hs=>?_) t;obtain⟨hf,hk,-,hkids⟩:=(Jbl t).1 hs
 by_cases hl:JbC t
 ·obtain⟨k,hkk⟩:=Jf2 hl;have e:=ih k (by rw[hkk];simp) (hkids k (by rw[hkk];simp));have hd:=Jj0 (t:=t) (k:=k) (by rw[hkk];simp);unfold Jaj Jaf at e ⊢;rw[JgZ hl hkk];exact⟨fun x hx=>by have:=e.1 x hx;omega,fun x hx=>by have:=e.2.1 x hx;omega,by have:=e.2.2;omega⟩
 have one:∀x:Tr,Jde t=([x],[x])→JaC x≤JaC t→(∀x∈Jaj t,JaC x≤JaC t)∧(∀x∈Jaf t,JaC x≤JaC t)∧JaC (Jao (Jaf t))≤JaC t:=by
  intro x hx ht;unfold Jaj Jaf;rw[hx];exact⟨fun y hy=>by rw[List.mem_singleton.1 hy];exact ht,fun y hy=>by rw[List.mem_singleton.1 hy];exact ht,ht⟩
 have node:∀k,t.kids=[k]→Jay k→JaC (.mk t.fld [Jao (Jaf k)])≤JaC t:=by
  intro k hkk hks;have e:=(ih k (by rw[hkk];simp) hks).2.2;have hd:=Jj0 (t:=t) (k:=k) (by rw[hkk];simp);rw[Jik];simp only[List.map_cons,List.map_nil,Jbj];omega
 rcases JeP hs with h|h|h|h|h
 ·exact one _ (Jhs (by omega)) (by rw[Jik];exact Ji3 t)
 ·obtain⟨k,hkk,hks⟩:=Jdl hs (.inl h);exact one _ (Jeu (.inl h) hkk) (node k hkk hks)
 ·obtain⟨k,hkk,hks⟩:=Jdl hs (.inr h);exact one _ (Jeu (.inr h) hkk) (node k hkk hks)
 ·by_cases h0:t.kids=[]
  ·exact one _ (JhJ h h0) (by unfold Jex;rw[Jik];exact Ji3 t)
  ·have h2:2≤t.kids.length:=by
    have h3:=List.length_pos_iff.2 h0;have h4:t.kids.length≠1:=fun e=>hl ⟨.inl h,e⟩
    omega
   have e1:Jaj t=(t.kids.map Jaj).flatten:=by unfold Jaj;rw[Jfg h h2];rfl
   have e2:Jaf t=[JaQ (t.kids.map Jaj).flatten]:=by unfold Jaf;rw[Jfg h h2]
   have h4:=Jgq (f:=Jaj) h2 fun k hk=>(Je2 k (hkids k hk)).1.1
   have h5:∀x∈(t.kids.map Jaj).flatten,JaC x+1≤JaC t:=by
    intro x hx;obtain⟨l,hl',hx⟩:=List.mem_flatten.1 hx;obtain⟨k,hk,rfl⟩:=List.mem_map.1 hl';have h6:=(ih k hk (hkids k hk)).1 x hx;have h7:=Jj0 hk;omega
   have h6:=Jtg (n:=JaC t-1) (fun x hx=>by have:=h5 x hx;omega) (JfX h4);have h7:=Ji3 t;rw[e1,e2];refine⟨fun x hx=>by have:=h5 x hx;omega,fun x hx=>?_,?_⟩
   ·rw[List.mem_singleton.1 hx];omega
   ·show JaC (JaQ _)≤_;omega
 ·have h2:2≤t.kids.length:=by
   have h3:=hk.2.1 h;have h4:t.kids.length≠1:=fun e=>hl ⟨.inr h,e⟩
   omega
  have e1:Jaj t=[Jao (t.kids.map Jaf).flatten]:=by unfold Jaj;rw[Je7 h h2]
  have e2:Jaf t=(t.kids.map Jaf).flatten:=by unfold Jaf;rw[Je7 h h2];rfl
  have h4:=Jgq (f:=Jaf) h2 fun k hk=>(Je2 k (hkids k hk)).2.1.1
  have h5:∀x∈(t.kids.map Jaf).flatten,JaC x+1≤JaC t:=by
   intro x hx;obtain⟨l,hl',hx⟩:=List.mem_flatten.1 hx;obtain⟨k,hk,rfl⟩:=List.mem_map.1 hl';have h6:=(ih k hk (hkids k hk)).2.1 x hx;have h7:=Jj0 hk;omega
  have h6:=Jtf (n:=JaC t-1) (fun x hx=>by have:=h5 x hx;omega) (JfX h4);have h7:=Ji3 t;rw[e1,e2];refine⟨fun x hx=>?_,fun x hx=>by have:=h5 x hx;omega,by omega⟩;rw[List.mem_singleton.1 hx];omega
def Jea (f:Fld) (m n:Nat):Nat:=
 if f.op=6 then 2+n else if f.op=7∨f.op=8∨f.op=9∨f.op=11 then 1+n else
 if f.op=10 then (max (max f.min f.max) 1).toNat*n+(max (max f.min f.max) 1).toNat+1 else if f.op=12 then n+m else 1
def Ja7:Tr→Nat:=Tr.para fun t l=>Jea t.fld t.kids.length l.sum
theorem JhG (t:Tr):Ja7 t=Jea t.fld t.kids.length (t.kids.map Ja7).sum:=Tr.para_eq _ t
theorem Jpj:∀l:List Nat,Jaz (l.map Jaz).sum=Jaz l.sum
 | []=>rfl
 | x::l=>by
  have:=Jpj l;rw[List.map_cons,List.sum_cons,List.sum_cons];unfold Jaz at this ⊢;omega
theorem Jxs (c n:Nat) (h:1≤c) (h2:c≤4001):Jaz (Jaz c*Jaz n+Jaz c+1)=Jaz (c*n+c+1):=by
 have e:Jaz c=c:=by unfold Jaz;omega
 rw[e]
 by_cases hn:n≤4001
 ·rw[show Jaz n=n by unfold Jaz;omega]
 ·rw[show Jaz n=4001 by unfold Jaz;omega];have h3:1*4001≤c*4001:=Nat.mul_le_mul_right _ h;have h4:1*n≤c*n:=Nat.mul_le_mul_right _ h;unfold Jaz;omega
theorem Jqc (t:Tr):Jay t→Ja5 t=Jaz (Ja7 t):=by
 refine Tr.ind (P:=fun t=>Jay t→Ja5 t=Jaz (Ja7 t)) (fun t ih hs=>?_) t;obtain⟨hf,hk,-,hkids⟩:=(Jbl t).1 hs;have e:Jaz (t.kids.map Ja5).sum=Jaz (t.kids.map Ja7).sum:=by
  rw[show t.kids.map Ja5=(t.kids.map Ja7).map Jaz by rw[List.map_map];exact List.map_congr_left fun k hk'=>ih k hk' (hkids k hk'),Jpj]
 rw[Jd7,JhG,e]
 generalize (t.kids.map Ja7).sum=n
 generalize t.kids.length=m
 unfold JcM Jea
 split
 ·unfold Jaz;omega
 split
 ·unfold Jaz;omega
 split
 ·rename_i h10
  have:=hf.2.2.2.2.2.2.2.2.2.2.2.2 h10;exact Jxs _ n (by omega) (by omega)
 split
 ·unfold Jaz;omega
 ·rfl
def Jbw (l:List Tr):Nat:=(l.map Ja7).sum
theorem JoQ (a b:List Tr):Jbw (a++b)=Jbw a+Jbw b:=by simp[Jbw]
theorem Jig (f:Fld) (ks:List Tr):Ja7 (.mk f ks)=Jea f ks.length (Jbw ks):=JhG _
theorem JtQ {l:List Tr} (h:l≠[]):Ja7 (JaQ l)≤Jbw l+1:=by
 match l,h with
 | [x],_=>simp[JaQ,Jbw]
 | x::y::l,_ =>
  rw[show JaQ (x::y::l)=.mk (Jbh 11) (x::y::l)from rfl,Jig];unfold Jea Jbh
  simp
  omega
theorem Jsn {l:List Tr} (h:l≠[]):Ja7 (Jao l)≤Jbw l+l.length:=by
 match l,h with
 | [x],_=>simp[Jao,Jbw]
 | x::y::l,_ =>
  rw[show Jao (x::y::l)=.mk (Jbh 12) (x::y::l)from rfl,Jig];unfold Jea Jbh
  simp
theorem JpA {f:Tr→List Tr}:∀l:List Tr,(∀k∈l,Jbw (f k)≤Ja7 k)→Jbw (l.map f).flatten≤Jbw l
 | [],_=>Nat.le_refl _
 | k::l,h=>by
  have h1:=h k (by simp);have h2:=JpA l fun q hq=>h q (by simp[hq])
  rw[List.map_cons,List.flatten_cons,JoQ];show _≤(List.map Ja7 (k::l)).sum;rw[List.map_cons,List.sum_cons];unfold Jbw at h1 h2 ⊢;omega
theorem JmN {f:Tr→List Tr}:∀l:List Tr,(∀k∈l,Jbw (f k)+(f k).length≤Ja7 k+1)→Jbw (l.map f).flatten+(l.map f).flatten.length≤Jbw l+l.length
 | [],_=>Nat.le_refl _
 | k::l,h=>by
  have h1:=h k (by simp);have h2:=JmN l fun q hq=>h q (by simp[hq])
  rw[List.map_cons,List.flatten_cons,JoQ,List.length_append,List.length_cons];show _≤(List.map Ja7 (k::l)).sum+_;rw[List.map_cons,List.sum_cons];unfold Jbw at h1 h2 ⊢;omega
theorem JwP {f:Fld} {m n n':Nat} (h:n≤n'):Jea f m n≤Jea f m n':=by
 unfold Jea
 split
 ·omega
 split
 ·omega
 split
 ·have:=Nat.mul_le_mul_left (max (max f.min f.max) 1).toNat h;omega
 split
 ·omega
 ·omega
theorem JxH {t k:Tr} (hl:JbC t) (hk:t.kids=[k]):Ja7 t=Ja7 k+1:=by
 rw[JhG,hk];unfold Jea
 rcases hl.1 with e|e
 ·rw[e];simp;omega
 ·rw[e];simp
theorem Jxq (t:Tr):Jay t→Jbw (Jaj t)≤Ja7 t∧Jbw (Jaf t)+(Jaf t).length≤Ja7 t+1∧Ja7 (Jao (Jaf t))≤Ja7 t:=by
 refine Tr.ind (P:=fun t=>Jay t→Jbw (Jaj t)≤Ja7 t∧Jbw (Jaf t)+(Jaf t).length≤Ja7 t+1∧Ja7 (Jao (Jaf t))≤Ja7 t) (fun t ih hs=>?_) t;obtain⟨hf,hk,-,hkids⟩:=(Jbl t).1 hs
 by_cases hl:JbC t
 ·obtain⟨k,hkk⟩:=Jf2 hl;have e:=ih k (by rw[hkk];simp) (hkids k (by rw[hkk];simp));have hd:=JxH hl hkk;unfold Jaj Jaf at e ⊢;rw[JgZ hl hkk];omega
 have one:∀x:Tr,Jde t=([x],[x])→Ja7 x≤Ja7 t→Jbw (Jaj t)≤Ja7 t∧Jbw (Jaf t)+(Jaf t).length≤Ja7 t+1∧Ja7 (Jao (Jaf t))≤Ja7 t:=by
  intro x hx ht;unfold Jaj Jaf;rw[hx];have:Jbw [x]=Ja7 x:=by simp[Jbw]
  refine⟨?_,?_,ht⟩
  ·show Jbw [x]≤_;omega
  ·show Jbw [x]+1≤_;omega
 have node:∀k,t.kids=[k]→Jay k→Ja7 (.mk t.fld [Jao (Jaf k)])≤Ja7 t:=by
  intro k hkk hks;have e:=(ih k (by rw[hkk];simp) hks).2.2
  conv=>rhs;rw[t.eta,hkk]
  rw[Jig,Jig];refine JwP ?_
  simpa [Jbw]using e
 rcases JeP hs with h|h|h|h|h
 ·exact one _ (Jhs (by omega)) (by rw[show Tr.mk t.fld []=t by rw[←Ji9 hs (by omega)];exact t.eta.symm];exact Nat.le_refl _)
 ·obtain⟨k,hkk,hks⟩:=Jdl hs (.inl h);exact one _ (Jeu (.inl h) hkk) (node k hkk hks)
 ·obtain⟨k,hkk,hks⟩:=Jdl hs (.inr h);exact one _ (Jeu (.inr h) hkk) (node k hkk hks)
 ·by_cases h0:t.kids=[]
  ·refine one _ (JhJ h h0) ?_;have e1:Ja7 Jex=1:=by unfold Jex;rw[Jig];rfl
   have e2:Ja7 t=1:=by rw[JhG,h0];unfold Jea;rw[h];rfl
   omega
  ·have h2:2≤t.kids.length:=by
    have h3:=List.length_pos_iff.2 h0;have h4:t.kids.length≠1:=fun e=>hl ⟨.inl h,e⟩
    omega
   have e1:Jaj t=(t.kids.map Jaj).flatten:=by unfold Jaj;rw[Jfg h h2];rfl
   have e2:Jaf t=[JaQ (t.kids.map Jaj).flatten]:=by unfold Jaf;rw[Jfg h h2]
   have h4:=Jgq (f:=Jaj) h2 fun k hk=>(Je2 k (hkids k hk)).1.1
   have h5:=JpA (f:=Jaj) t.kids fun k hk=>(ih k hk (hkids k hk)).1
   have h6:=JtQ (JfX h4);have h7:Ja7 t=1+Jbw t.kids:=by rw[JhG];unfold Jea;rw[h];rfl
   rw[e1,e2];have h8:Jbw [JaQ (t.kids.map Jaj).flatten]=Ja7 (JaQ (t.kids.map Jaj).flatten):=by simp[Jbw]
   refine⟨by omega,?_,?_⟩
   ·rw[h8];show _+1≤_;omega
   ·show Ja7 (JaQ _)≤_;omega
 ·have h2:2≤t.kids.length:=by
   have h3:=hk.2.1 h;have h4:t.kids.length≠1:=fun e=>hl ⟨.inr h,e⟩
   omega
  have e1:Jaj t=[Jao (t.kids.map Jaf).flatten]:=by unfold Jaj;rw[Je7 h h2]
  have e2:Jaf t=(t.kids.map Jaf).flatten:=by unfold Jaf;rw[Je7 h h2];rfl
  have h4:=Jgq (f:=Jaf) h2 fun k hk=>(Je2 k (hkids k hk)).2.1.1
  have h5:=JmN (f:=Jaf) t.kids fun k hk=>(ih k hk (hkids k hk)).2.1
  have h6:=Jsn (JfX h4);have h7:Ja7 t=Jbw t.kids+t.kids.length:=by rw[JhG];unfold Jea;rw[h];rfl
  rw[e1,e2];have h8:Jbw [Jao (t.kids.map Jaf).flatten]=Ja7 (Jao (t.kids.map Jaf).flatten):=by simp[Jbw]
  exact⟨by omega,by omega,by omega⟩
theorem Jt6 {T U:List Tr} (he:T.map JcF=U.map JcF) (i:Nat) (h:i<T.length) (h':i<U.length):T[i].fld.name=U[i].fld.name∧T[i].fld.cap=U[i].fld.cap:=by
 have h1:(T.map JcF)[i]? = (U.map JcF)[i]? := by rw[he]
 rw[List.getElem?_map,List.getElem?_map,List.getElem?_eq_getElem h,List.getElem?_eq_getElem h']at h1;have h2:JcF T[i]=JcF U[i]:=Option.some.inj h1;have h3:T[i].fld.name.toList=U[i].fld.name.toList:=congrArg Prod.snd h2;refine⟨?_,congrArg Prod.fst h2⟩;rw[Lib.toList_data,Lib.toList_data]at h3;exact ByteArray.ext (Array.toList_inj.1 h3)
theorem JqX (T U:List Tr) (he:T.map JcF=U.map JcF) (va vb:Value) (w:World) (ha:Kds w T va) (hb:Kds w U vb):Calls Tryz.prog 12 #[va,vb] w fun e w'=>e=.returned (.bool true)∧Below w.heap.size w w':=by
 have HA:=Hd ha;have HB:=Hd hb;have hl:T.length=U.length:=by simpa using congrArg List.length he
 obtain⟨A,c,rfl,-,-,hn,-,-⟩:=ha;obtain⟨B,d,rfl,-,-,-,-,-⟩:=hb;obtain⟨n,hN⟩:∃n,T.length=n:=⟨_,rfl⟩;have hM:U.length=n:=by omega
 rw[hN]at hn;rw[hN,hM];rw[hN]at HA;rw[hM]at HB;have HN:=Hd hN;have HM:=Hd hM;have HE:=Hd (Jt6 he);clear hN hM hl he
 go_enter Tryz.func12,Tryz.ntmps12
 go_wp2_with fail
 go_loopw [5] (fun i wr=>∃k:Nat,k≤n∧i=.int .i64 k∧Below w.heap.size w wr) (fun i _=>n-(intOf i).toNat)
 case atStart=>exact⟨0,Nat.zero_le _,rfl,Below.refl _ _⟩
 case round =>
  obtain⟨k,hk,rfl,hB⟩:=hrel;have HZ:=Hd hB;have hKa:=HA.out.below hB;have hKb:=HB.out.below hB;clear hB
  by_cases hkn:k<n
  ·have hka:k<T.length:=by rw[HN.out];exact hkn
   have hkb:k<U.length:=by rw[HM.out];exact hkn
   obtain⟨e1,e2⟩:=HE.out k hka hkb;obtain⟨b,o,tk,kv,sv,rfl,htk,-,⟨c0,c1,c2',c3,c4,c5,c6,c7,c8,c9⟩,-⟩:=hKa.kid k hka;obtain⟨b2,o2,tk2,kv2,sv2,rfl,htk2,-,⟨q0,q1,q2',q3,q4,q5,q6,q7,q8,q9⟩,-⟩:=hKb.kid k hkb;rw[htk,htk2]at e1 e2;rw[e1]at c6;rw[e2]at c5;have z1:(k:Int)<(n:Int):=by omega
   clear hKa hKb htk htk2 e1 e2 hka hkb c0 c1 c2' c3 c4 c7 c8 c9 q0 q1 q2' q3 q4 q7 q8 q9;go_upto_region 6 with(fail)
   go_big_quiet (fail)
   clear c5 c6 q5 q6;go_wp2_with fail
   go_roundw
   case rel=>exact⟨k+1,by omega,by go_num,JlS HZ.out _⟩
   case measure=>simp[intOf];omega
  ·clear hKa hKb;have z1:¬(k:Int)<(n:Int):=by omega
   go_wp2_with fail;go_ret;exact⟨rfl,HZ.out⟩
theorem Jky {s:ByteArray} {i c:Nat} (h:Jac (Jaa s i)=(c:Int)) (hc:c<128):Utf8.decode s i=(c,1):=by
 have hlt:i<s.size:=Jbo (by omega);have h1:s[i].toNat=c:=by
  have:=(Jdo s i hlt).symm.trans h;omega
 rw[Lib.decode_at];have h2:(s.get! i).toNat=c:=by
  rw[←h1];have hd:i<s.data.size:=hlt;show (s.data[i]!).toNat=(s.data[i]).toNat;rw[getElem!_pos s.data i hd]
 rw[h2];exact Lib.decodeN_ascii _ _ _ _ _ hc
theorem JbI {s:ByteArray} {i:Nat} {c:UInt8} {t:List UInt8} (h:Jaa s i=c::t):Jaa s (i+1)=t:=by rw[←JdC,h];rfl
theorem Jj4 {S:ByteArray} {i n:Nat} {rest:List UInt8} (p:Bool) (hn:n≤1114111) (hl:Jaa S i=92::120::123::(JaS n++125::rest)) :
  Jck S i p=.esc 1 n [] 0 (i+3+(JaS n).length+1)∧Jaa S (i+3+(JaS n).length+1)=rest:=by
 have h0:Jac (Jaa S i)=92:=by rw[hl];rfl
 have e1:=JbI hl;have e2:=JbI e1;have e3:=JbI e2;have h1:Jac (Jaa S (i+1))=((120:Nat):Int):=by rw[e1];rfl
 have h2:=Jbo (s:=S) (i:=i+1) (by omega);have hx:Jbz (Jaa S (i+1+1+1)) 0=((n:Int),(JaS n).length):=by
  rw[e3,JqY n hn,Jbz,if_neg (by decide)]
  simp
 have e4:Jaa S (i+1+1+1+(JaS n).length)=125::rest:=by
  rw[←JdC,e3,List.drop_left]
 have hns:JeO S (i+1+1)=some ((n:Int),i+3+(JaS n).length+1):=by
  rw[JjP (fun h=>by have:=h.1;rw[e2]at this;exact absurd this (by show ¬(0≤Jbq ((123:UInt8).toNat:Int));decide)),e2,if_neg (fun h=>h rfl),hx];simp only[];rw[if_neg (by have:=Jyb n;omega),e4,if_neg (fun h=>h rfl),if_neg (by omega)]
 refine⟨?_,?_⟩
 ·unfold Jck;rw[if_neg (fun h=>h h0),if_neg (by omega),Jky h1 (by decide)];show JdX S ((120:Nat):Int) (i+1+1) p=_;unfold JdX;rw[if_neg (by decide),if_neg (by decide),if_pos (show ((120:Nat):Int)=120 from rfl),hns]
 ·have:=JbI e4;rw[show i+3+(JaS n).length+1=i+1+1+1+(JaS n).length+1 by omega];exact this
def JhL (r:Int × Int):List UInt8:=92::120::123::(JaS r.1.toNat++125::45::92::120::123::(JaS r.2.toNat++[125]))
theorem Jte {S:ByteArray} {i:Nat} {a b:Int} {rest:List UInt8} (p:Bool) (h0:0≤a) (h1:a≤b) (h2:b≤1114111) (hl:Jaa S i=JhL (a,b)++rest) :
  Jco S i p=.item [(a,b)] (i+(JhL (a,b)).length):=by
 have hl1:Jaa S i=92::120::123::(JaS a.toNat++125::(45::92::120::123::(JaS b.toNat++125::rest))):=by rw[hl];simp[JhL]
 obtain⟨c1,c2⟩:=Jj4 p (by omega) hl1;have c3:=JbI c2;obtain⟨d1,d2⟩:=Jj4 p (by omega) c3;have hh:Jac (Jaa S i)=92:=by rw[hl1];rfl
 have hc:Jdr S i=none:=by unfold Jdr;rw[if_pos (fun h=>by omega)]
 have o1:Jcj S i p=.esc 1 (a.toNat:Int) [] 0 (i+3+(JaS a.toNat).length+1):=by unfold Jcj;rw[if_pos hh,c1]
 have o2:Jcj S (i+3+(JaS a.toNat).length+1+1) p=.esc 1 (b.toNat:Int) [] 0 (i+3+(JaS a.toNat).length+1+1+3+(JaS b.toNat).length+1):=by unfold Jcj;rw[if_pos (by rw[c3];rfl),d1]
 unfold Jco;rw[hc];simp only[o1];rw[if_neg (by decide),if_neg (by decide)];unfold Jee;have h3:Jac (Jaa S (i+3+(JaS a.toNat).length+1+1))=92:=by rw[c3];rfl
 rw[if_pos ⟨by rw[c2];rfl,by omega,by omega⟩,o2];simp only;rw[if_neg (fun q=>q.elim (fun q=>q rfl) (by omega)),show (a.toNat:Int)=a by omega,show (b.toNat:Int)=b by omega]
 congr 1
 simp[JhL]
 omega
def Jlu (l:List (Int × Int)):Prop:=∀r∈l,0≤r.1∧r.1≤r.2∧r.2≤1114111
theorem JnH:∀(l:List (Int × Int)) (lo:Int),0≤lo→Jav lo l→∀r∈l,lo≤r.1∧r.1≤r.2∧r.2≤1114111
 | x::l,lo,h0,⟨h1,h2,h3,h4⟩,r,hr=>by
  rcases List.mem_cons.1 hr with rfl|hr
  ·exact⟨h1,h2,h3⟩
  ·have:=JnH l (x.2+2) (by omega) h4 r hr;exact⟨by omega,this.2⟩
theorem Jr6 {l:List (Int × Int)} (h:Jak l):Jlu l:=JnH l 0 (Int.le_refl _) h
theorem Jhd (n:Nat) (h:n<256):(UInt8.ofNat n).toNat=n:=by
 rw[UInt8.toNat_ofNat'];exact Nat.mod_eq_of_lt h
theorem JpB (d:Nat) (hd:d<10) (t:List UInt8) (n:Int):JaF (UInt8.ofNat (48+d)::t) n=((JaF t (min (10*n+(d:Int)) 1001)).1,(JaF t (min (10*n+(d:Int)) 1001)).2+1):=by
 have h1:=Jhd (48+d) (by omega);rw[JaF,if_pos ((Jiv _).2 (by rw[h1];omega)),h1,show (((48+d:Nat):Int)-48)=(d:Int) by omega]
theorem Jlq:∀(u:Nat),u≤1000→∀rest:List UInt8,JaF (Lib.decDigits u++rest) 0=((JaF rest (u:Int)).1,(JaF rest (u:Int)).2+(Lib.decDigits u).length):=by
 intro u
 induction u using Nat.strongRecOn with
 | _ u ih =>
  intro hu rest;rw[Lib.decDigits]
  by_cases h:u<10
  ·rw[dif_pos h];show JaF (UInt8.ofNat (48+u)::rest) 0=_;rw[JpB u h,show min (10*(0:Int)+(u:Int)) 1001=(u:Int) by omega];rfl
  ·rw[dif_neg h,List.append_assoc,ih (u / 10) (by omega) (by omega)];show ((JaF (UInt8.ofNat (48+u % 10)::rest) _).1,_)=_;rw[List.singleton_append,JpB (u % 10) (by omega),show min (10*((u / 10:Nat):Int)+((u % 10:Nat):Int)) 1001=(u:Int) by omega];simp only[List.length_append,List.length_singleton,Prod.mk.injEq,true_and];omega
theorem Jkw (u:Nat):0<(Lib.decDigits u).length:=by
 rw[Lib.decDigits]
 split
 ·exact Nat.zero_lt_one
 ·simp
theorem Jhw (c:UInt8) (t:List UInt8) (n:Int) (h:Jfq c=false):JaF (c::t) n=(n,0):=by rw[JaF,if_neg (by rw[h];decide)]
theorem JdN {s:ByteArray} {i:Nat} {a b:List UInt8} (h:Jaa s i=a++b):Jaa s (i+a.length)=b:=by rw[←JdC,h,List.drop_left]
theorem JkM {s:ByteArray} {i:Nat} {c:UInt8} {t:List UInt8} (h:Jaa s i=c::t):i<s.size:=Jbo (by rw[h];exact Int.natCast_nonneg _)
theorem JfD {s:ByteArray} {i:Nat} {c:UInt8} {t:List UInt8} (h:Jaa s i=c::t):Jac (Jaa s i)=(c.toNat:Int):=by rw[h];rfl
def Jfk (s:ByteArray) (i:Nat) (f:Int) (y:List UInt8) (ns ns2:List (List UInt8)) (t:Tr):Prop:=∀n,3*y.length≤n+1→Ja3 s n i f ns=.ok [t] (i+y.length) f ns2
theorem JmX {c:Int} (h0:0≤c) (h1:c≤127):JeW c∧Lib.encodeRune c=[UInt8.ofNat c.toNat]:=by
 refine⟨?_,?_⟩
 ·unfold JeW;omega
 ·obtain⟨d,hd,hc⟩:=Jmm h0 h1;rw[hd]
  congr 1
  rw[show c.toNat=d.toNat by omega]
  simp
theorem JjS {c:Int} (h:JgH c=true):32≤c∧c≤126∧Jds c=false:=by
 have h1:32≤c∧c≤126:=by
  unfold JgH at h;simp only[Bool.or_eq_true,Bool.and_eq_true,decide_eq_true_eq,List.contains_cons,List.contains_nil,Bool.or_false,beq_iff_eq]at h;omega
 refine⟨h1.1,h1.2,?_⟩;have ha:(List.range 127).all (fun n => !(JgH (n:Int)) || !(Jds (n:Int)))=true:=by kernel_rfl
 have h2:=List.all_eq_true.1 ha c.toNat (List.mem_range.2 (by omega));rw[show ((c.toNat:Nat):Int)=c by omega,h]at h2
 simpa using h2
theorem Jnb (c:Int) {f:Int} (h:Jag f 1=false):Jb1 c (Jag f 1)=Jap c:=by
 unfold Jb1;rw[h,if_neg (by simp)]
theorem Jpx {s:ByteArray} {i:Nat} {c f:Int} {rest:List UInt8} (ns:List (List UInt8)) (h0:0≤c) (h1:c≤1114111) (hf:Jag f 1=false) (hl:Jaa s i=Jb3 c++rest):Jfk s i f (Jb3 c) ns ns (Jap c):=by
 intro n hn;have go:∀y:List UInt8,y=(if Jds c=true then 92::Lib.encodeRune c else Lib.encodeRune c)→JeW c→3*y.length≤n+1→Jaa s i=y++rest→Ja3 s n i f ns=.ok [Jap c] (i+y.length) f ns:=by
  intro y hy hr hn' hl';obtain⟨k,k1,k2,k3,-,-,-,k7⟩:=Jzx (t:=rest) f ns hr (by rw[←hy];exact hl');have hk:k=i+y.length:=by
   have e1:=Jbm s i;have e2:=Jbm s k;rw[hl',List.length_append]at e1;rw[k3]at e2;omega
  obtain⟨m,rfl⟩:∃m,n=m+1:=by
   refine⟨n-1,?_⟩;have:1≤y.length:=by
    have hp:=JqN c;rw[hy]
    split
    ·simp
    ·omega
   omega
  rw[k7,Jnb c hf,hk]
 unfold Jb3 at hl hn ⊢
 split at hl
 ·rename_i hs
  obtain⟨a1,a2,a3⟩:=JjS hs;obtain⟨b1,b2⟩:=JmX (c:=c) (by omega) (by omega);rw[if_pos hs]at hn ⊢;exact go _ (by rw[a3,if_neg (by decide),b2]) b1 hn hl
 ·rename_i hs
  rw[if_neg hs]at hn ⊢
  split at hl
  ·rename_i hg
   obtain⟨a1,a2⟩:=Jmk hg;obtain⟨b1,b2⟩:=JmX (c:=c) (by omega) (by omega);rw[if_pos hg]at hn ⊢;exact go _ (by rw[if_pos hg,b2]) b1 hn hl
  ·rename_i hg
   rw[if_neg hg]at hn ⊢;have hl2:Jaa s i=92::120::123::(JaS c.toNat++125::rest):=by rw[hl];simp[JcP]
   obtain⟨c1,c2⟩:=Jj4 (Jag f 32) (n:=c.toNat) (by omega) hl2;obtain⟨m,rfl⟩:∃m,n=m+1:=⟨n-1,by unfold JcP at hn;simp only[List.length_cons]at hn;omega⟩;rw[Ja3,JfD hl2,if_neg (by decide),if_neg (by decide),if_pos (by decide)];unfold Jd2;rw[c1];simp only;rw[if_pos trivial,Jnb _ hf,show ((c.toNat:Nat):Int)=c by omega]
   congr 1
   unfold JcP;simp only[List.length_cons,List.length_append,List.length_nil];omega
theorem Jy1 {S:ByteArray} {i:Nat} {r:Int × Int} {rest:List UInt8} (p:Bool) (h0:0≤r.1) (h1:r.1≤r.2) (h2:r.2≤1114111) (hl:Jaa S i=JcE r++rest) (h45:Jac rest≠45) :
  Jco S i p=.item [r] (i+(JcE r).length):=by
 obtain⟨a,b⟩:=r;simp only at h0 h1 h2
 by_cases hab:b=a
 ·subst hab;have e:JcE (b,b)=JcP b.toNat:=by unfold JcE;rw[if_pos rfl,List.append_nil]
  rw[e]at hl ⊢;have hl1:Jaa S i=92::120::123::(JaS b.toNat++125::rest):=by rw[hl];simp[JcP]
  obtain⟨c1,c2⟩:=Jj4 p (n:=b.toNat) (by omega) hl1;have hh:Jac (Jaa S i)=92:=by rw[hl1];rfl
  have hc:Jdr S i=none:=by unfold Jdr;rw[if_pos (fun h=>by omega)]
  have o1:Jcj S i p=.esc 1 (b.toNat:Int) [] 0 (i+3+(JaS b.toNat).length+1):=by unfold Jcj;rw[if_pos hh,c1]
  unfold Jco;rw[hc];simp only[o1];rw[if_neg (by decide),if_neg (by decide)];unfold Jee;rw[if_neg (fun q=>h45 (by rw[←c2];exact q.1)),show ((b.toNat:Nat):Int)=b by omega]
  congr 1
  unfold JcP;simp only[List.length_cons,List.length_append,List.length_nil];omega
 ·have e:JcE (a,b)=JhL (a,b):=by
   unfold JcE JhL JcP;rw[if_neg hab]
   simp
  rw[e]at hl ⊢;exact Jte p h0 h1 h2 hl
theorem Jp7 (r:Int × Int):∃t,JcE r=92::t:=⟨_,rfl⟩
theorem Jlb {S:ByteArray} (at':Nat) (p:Bool):∀(l:List (Int × Int)) (m i:Nat) (fi:Bool) (all:List (Int × Int)) (rest:List UInt8),Jlu l→Jaa S i=Jcs l++93::rest→(l=[]→fi=false)→l.length<m →
  Jcz S at' p m i fi all=.item (all++l) (i+(Jcs l).length+1)
 | [],m,i,fi,all,rest,hr,hl,hfi,hm=>by
  obtain⟨m,rfl⟩:∃q,m=q+1:=⟨m-1,by simp at hm;omega⟩;have h93:Jac (Jaa S i)=93:=by rw[hl];rfl
  have hlt:=Jbo (s:=S) (i:=i) (by omega);rw[Jcz,if_neg (by omega),if_pos ⟨h93,hfi rfl⟩,List.append_nil];rfl
 | r::l,m,i,fi,all,rest,hr,hl,hfi,hm=>by
  obtain⟨m,rfl⟩:∃q,m=q+1:=⟨m-1,by simp at hm;omega⟩;obtain⟨h1,h2,h3⟩:=hr r (by simp);have hl1:Jaa S i=JcE r++(Jcs l++93::rest):=by rw[hl,←List.append_assoc];rfl
  obtain⟨t,ht⟩:=Jp7 r;have h92:Jac (Jaa S i)=92:=by rw[hl1,ht];rfl
  have hlt:=Jbo (s:=S) (i:=i) (by omega);have hl2:=JdN hl1;have h45:Jac (Jcs l++93::rest)≠45:=by
   cases l with
   | nil=>show ((93:UInt8).toNat:Int)≠45;decide
   | cons q l=>show ((92:UInt8).toNat:Int)≠45;decide
  rw[Jcz,if_neg (by omega),if_neg (fun q=>by omega),Jy1 p h1 h2 h3 hl1 h45];simp only;rw[Jlb at' p l m _ false (all++[r]) rest (fun q hq=>hr q (by simp[hq])) hl2 (fun _=>rfl) (by simp at hm;omega),List.append_assoc,List.singleton_append]
  congr 1
  rw[show Jcs (r::l)=JcE r++Jcs l from rfl,List.length_append];omega
theorem Jn0:∀l:List (Int × Int),l.length≤(Jcs l).length
 | []=>Nat.zero_le _
 | r::l=>by
  have h1:=Jn0 l;obtain⟨t,ht⟩:=Jp7 r;have h2:1≤(JcE r).length:=by rw[ht];simp
  rw[show Jcs (r::l)=JcE r++Jcs l from rfl,List.length_append,List.length_cons];omega
theorem Ju1 {l:List (Int × Int)} (h:Jak l):JiH false false l=l:=by
 refine(JiD h fun c=>?_).symm;simp only[Bool.false_eq_true,if_false,Bool.bne_false];rw[Jh6];refine⟨fun q=>⟨q.1,q.2.1,q⟩,fun q=>q.2.2⟩
theorem Jqd {s:ByteArray} {i:Nat} {f:Int} {l:List (Int × Int)} {rest:List UInt8} (ns:List (List UInt8)) (h:Jak l) (h0:l≠[]) (hf:Jag f 1=false) (hl:Jaa s i=Jb5 l++rest):Jfk s i f (Jb5 l) ns ns (JaD l):=by
 intro n hn;have hl1:Jaa s i=91::(Jcs l++93::rest):=by rw[hl];simp[Jb5]
 have hl2:=JbI hl1;obtain⟨m,rfl⟩:∃m,n=m+1:=⟨n-1,by unfold Jb5 at hn;simp only[List.length_cons]at hn;omega⟩;have hnb:JcY s i=false:=by
  unfold JcY;rw[hl2]
  cases l with
  | nil=>exact absurd rfl h0
  | cons r l=>exact decide_eq_false (by show ¬((92:UInt8).toNat:Int)=94;decide)
 have hsz:=Jbm s (i+1);rw[hl2,List.length_append]at hsz;have hc:JdG s i (Jag f 32)=.item l (i+1+(Jcs l).length+1):=by
  unfold JdG;rw[if_neg (fun e=>e (by rw[hl1];rfl)),hnb,if_neg (by decide),Nat.add_zero];have:=Jn0 l;rw[Jlb i (Jag f 32) l (s.size+1) (i+1) true [] rest (Jr6 h) hl2 (fun e=>absurd e h0) (by omega),List.nil_append]
 rw[Ja3,JfD hl1,if_neg (by decide),if_pos (by decide)];unfold Je0;rw[hc];simp only;rw[hnb,hf,Ju1 h];unfold Jdh Jb5;rw[if_neg h0]
 congr 1
 simp only[List.length_cons,List.length_append,List.length_nil];omega
theorem JrD:JaS 0=[48]:=by rw[JaS,dif_pos (by decide)];rfl
theorem Jsf:JaS 1114111=[49,48,102,102,102,102]:=by
 rw[JaS,dif_neg (by decide),JaS,dif_neg (by decide),JaS,dif_neg (by decide),JaS,dif_neg (by decide),JaS,dif_neg (by decide),JaS,dif_pos (by decide)];rfl
theorem JnK:JeI=91::94::(JcE (0,1114111)++[93]):=by
 unfold JcE JcP;simp only[show (0:Int).toNat=0 from rfl,show (1114111:Int).toNat=1114111 from rfl,JrD,Jsf];rfl
theorem JuG:JiH false true [((0:Int),(1114111:Int))]=[]:=by
 refine(JiD (l:=[]) trivial fun c=>?_).symm;simp only[Bool.false_eq_true,if_false,Bool.bne_true]
 constructor
 ·rintro⟨_,_,r,hr,_⟩
  cases hr
 ·rintro⟨a,b,e⟩;have:JgE [((0:Int),(1114111:Int))] c=true:=(Jh6 _ c).2 ⟨a,b,_,List.mem_singleton.2 rfl,a,b⟩;rw[this]at e
  cases e
theorem JxW {s:ByteArray} {i:Nat} {f:Int} {rest:List UInt8} (ns:List (List UInt8)) (hf:Jag f 1=false) (hl:Jaa s i=JeI++rest):Jfk s i f JeI ns ns (.mk (Jbh 1) []):=by
 intro n hn;have hl1:Jaa s i=91::94::(Jcs [(0,1114111)]++93::rest):=by rw[hl,JnK];simp[Jcs]
 have hl2:=JbI hl1;have hl3:=JbI hl2;obtain⟨m,rfl⟩:∃m,n=m+1:=⟨n-1,by rw[show JeI.length=19 from rfl]at hn;omega⟩;have hnb:JcY s i=true:=by
  unfold JcY;rw[hl2];exact decide_eq_true rfl
 have hsz:=Jbm s (i+1+1);rw[hl3,List.length_append,List.length_cons]at hsz;have hfit:Jlu [((0:Int),(1114111:Int))]:=fun r hr=>by rw[List.mem_singleton.1 hr];decide
 have hlen:(Jcs [((0:Int),(1114111:Int))]).length=16:=by
  have:=congrArg List.length JnK;simp only[List.length_cons,List.length_append,List.length_nil]at this;rw[show JeI.length=19 from rfl]at this;simp only[Jcs,List.flatMap_cons,List.flatMap_nil,List.append_nil];omega
 have hc:JdG s i (Jag f 32)=.item [((0:Int),(1114111:Int))] (i+1+1+16+1):=by
  unfold JdG;rw[if_neg (fun e=>e (by rw[hl1];rfl)),hnb,if_pos rfl];rw[Jlb i (Jag f 32) [((0:Int),(1114111:Int))] (s.size+1) (i+1+1) true [] rest hfit hl3 (fun e=>by cases e) (by rw[hlen]at hsz;simp;omega),List.nil_append,hlen]
 rw[Ja3,JfD hl1,if_neg (by decide),if_pos (by decide)];unfold Je0;rw[hc];simp only;rw[hnb,hf,JuG];rfl
theorem Jop {s:ByteArray} {i:Nat} (ns:List (List UInt8)) {t:List UInt8} {c:UInt8} (hc:c.toNat=58∨c.toNat=109) (hl:Jaa s i=40::63::c::t) :
  Jdi s i 32 ns=(match JcC s i 32 with
  | (none,p)=>.bad 65 i (Jdy s p).toNat
  | (some (g,under),k)=>if under=true then .under g k else .flags g k):=by
 have h1:Jat [40,63,80,60] (Jaa s i)=false:=by
  unfold Jat;rw[hl];simp only[List.length_cons,List.length_nil,List.take_succ_cons,beq_eq_false_iff_ne,ne_eq,List.cons.injEq,true_and];rintro⟨e,-⟩;rw[e]at hc;exact absurd hc (by decide)
 have h2:Jat [40,63,60] (Jaa s i)=false:=by
  unfold Jat;rw[hl];simp only[List.length_cons,List.length_nil,List.take_succ_cons,beq_eq_false_iff_ne,ne_eq,List.cons.injEq,true_and,List.take_zero,and_true];intro e;rw[e]at hc;exact absurd hc (by decide)
 have h3:Jat [40,63] (Jaa s i)=true:=by unfold Jat;rw[hl];rfl
 unfold Jdi;rw[if_neg (by rw[h1,h2];simp),if_pos ⟨by kernel_rfl,h3⟩];rfl
theorem JpM {s:ByteArray} {i:Nat} (ns:List (List UInt8)) {t:List UInt8} (hl:Jaa s i=40::63::58::t):Jdi s i 32 ns=.under 32 (i+3):=by
 rw[Jop ns (c:=58) (.inl rfl) hl];have e1:=JbI hl;have e2:=JbI e1;have:JcC s i 32=(some (32,true),i+3):=by
  unfold JcC;rw[if_neg (fun e=>e (by rw[hl];rfl)),if_neg (fun e=>e (by rw[e1];rfl)),show i+2=i+1+1 from rfl,e2];rfl
 rw[this];rfl
theorem JwB {s:ByteArray} {i:Nat} (ns:List (List UInt8)) {t:List UInt8} (hl:Jaa s i=40::63::109::58::t):Jdi s i 32 ns=.under 36 (i+4):=by
 rw[Jop ns (c:=109) (.inr rfl) hl];have e1:=JbI hl;have e2:=JbI e1;have:JcC s i 32=(some (36,true),i+4):=by
  unfold JcC;rw[if_neg (fun e=>e (by rw[hl];rfl)),if_neg (fun e=>e (by rw[e1];rfl)),show i+2=i+1+1 from rfl,e2];rfl
 rw[this];rfl
theorem Jjc {s:ByteArray} {i n:Nat} {f:Int} {ns:List (List UInt8)} {l:List Tr} (h:Jac (Jaa s i) = -1∨Jac (Jaa s i)=124∨Jac (Jaa s i)=41):JaO s (n+1) i f ns l=.ok l i f ns:=by
 rw[JaO,if_pos]
 rcases h with h|h|h
 ·refine .inl (Nat.le_of_not_lt fun hlt=>?_);rw[Jdo s i hlt]at h;omega
 ·exact .inr (.inl h)
 ·exact .inr (.inr h)
theorem Jm7 {s:ByteArray} {i:Nat} {rest:List UInt8} (ns:List (List UInt8)) (hl:Jaa s i=JdJ++rest):Jfk s i 32 JdJ ns ns Jex:=by
 intro n hn;have hl1:Jaa s i=40::63::58::41::rest:=hl;have e3:=JbI (JbI (JbI hl1));obtain⟨m,rfl⟩:∃m,n=m+3:=⟨n-3,by rw[show JdJ.length=4 from rfl]at hn;omega⟩;have h41:Jac (Jaa s (i+3))=41:=by rw[show i+3=i+1+1+1 from rfl,e3];rfl
 rw[Ja3,JfD hl1,if_pos (by decide),JpM ns hl1];simp only;rw[JaN,Jjc (.inr (.inr h41))];simp only;rw[if_neg (by rw[h41];decide)];simp only;rw[if_pos h41];rfl
theorem JiZ {s:ByteArray} {i:Nat} {c:UInt8} {a:Int} {rest:List UInt8} (ns:List (List UInt8)) (hl:Jaa s i=92::c::rest) (hc:(c.toNat=65∧a=1)∨(c.toNat=122∧a=2)∨(c.toNat=98∧a=16)∨(c.toNat=66∧a=32)) :
  ∀n,1≤n→Ja3 s n i 32 ns=.ok [atY a] (i+2) 32 ns:=by
 intro n hn;obtain⟨m,rfl⟩:∃m,n=m+1:=⟨n-1,by omega⟩;have e1:=JbI hl;have hlt:=JkM e1;have hd:Utf8.decode s (i+1)=(c.toNat,1):=Jky (JfD e1) (by omega);have hesc:Jck s i (Jag 32 32)=.esc 3 0 [] a (i+1+1):=by
  unfold Jck;rw[if_neg (fun e=>e (by rw[hl];rfl)),if_neg (by omega),hd,show Jag 32 32=true by kernel_rfl]
  rcases hc with⟨h,rfl⟩|⟨h,rfl⟩|⟨h,rfl⟩|⟨h,rfl⟩<;>rw[h]<;>rfl
 rw[Ja3,JfD hl,if_neg (by decide),if_neg (by decide),if_pos (by decide)];unfold Jd2;rw[hesc];rfl
theorem Jm9 {s:ByteArray} {i:Nat} {c:UInt8} {a:Int} {rest:List UInt8} (ns:List (List UInt8)) (hl:Jaa s i=40::63::109::58::c::41::rest) (hc:(c.toNat=94∧a=4)∨(c.toNat=36∧a=8)) :
  ∀n,5≤n→Ja3 s n i 32 ns=.ok [atY a] (i+6) 32 ns:=by
 intro n hn;obtain⟨m,rfl⟩:∃m,n=m+5:=⟨n-5,by omega⟩;have e4:=JbI (JbI (JbI (JbI hl)));have e5:=JbI e4;have h41:Jac (Jaa s (i+5))=41:=by rw[show i+5=i+1+1+1+1+1 from rfl,e5];rfl
 have hlt:=JkM e4;have hc4:Jac (Jaa s (i+4))=(c.toNat:Int):=JfD e4;have hd:Utf8.decode s (i+4)=(c.toNat,1):=Jky hc4 (by omega);have hp:Jfi s (i+4) 36 ns=.ok [atY a] (i+5) 36 ns:=by
  unfold Jfi;rw[hd]
  rcases hc with⟨h,rfl⟩|⟨h,rfl⟩<;>rw[h]<;>rfl
 have hr:JbB s (i+4)=none:=Jim hc4 (by omega);rw[Ja3,JfD hl,if_pos (by decide),JwB ns hl];simp only;rw[JaN,JaO,if_neg (by rw[hc4];omega),hr];simp only;rw[Ja3,hc4,if_neg (by omega),if_neg (by omega),if_neg (by omega),hp];simp only;rw[Jjc (.inr (.inr h41))];simp only;rw[if_neg (by rw[h41];decide)];simp only;rw[if_pos h41];rfl
theorem Jtl {s:ByteArray} {i:Nat} {a:Int} {rest:List UInt8} (ns:List (List UInt8)) (ha:a=1∨a=2∨a=4∨a=8∨a=16∨a=32) (hl:Jaa s i=Jcf a++rest):Jfk s i 32 (Jcf a) ns ns (atY a):=by
 intro n hn
 rcases ha with rfl|rfl|rfl|rfl|rfl|rfl
 ·exact JiZ ns hl (by decide) n (by have:(Jcf 1).length=2:=rfl;omega)
 ·exact JiZ ns hl (by decide) n (by have:(Jcf 2).length=2:=rfl;omega)
 ·exact Jm9 ns hl (by decide) n (by have:(Jcf 4).length=6:=rfl;omega)
 ·exact Jm9 ns hl (by decide) n (by have:(Jcf 8).length=6:=rfl;omega)
 ·exact JiZ ns hl (by decide) n (by have:(Jcf 16).length=2:=rfl;omega)
 ·exact JiZ ns hl (by decide) n (by have:(Jcf 32).length=2:=rfl;omega)
theorem Jln (s:ByteArray):∀n:Nat,
  (∀i f ns acc l i2 f2 ns2,JaN s n i f ns acc=.ok l i2 f2 ns2→JaN s (n+1) i f ns acc=.ok l i2 f2 ns2) ∧
  (∀i f ns acc l i2 f2 ns2,JaO s n i f ns acc=.ok l i2 f2 ns2→JaO s (n+1) i f ns acc=.ok l i2 f2 ns2) ∧
  (∀i f ns l i2 f2 ns2,Ja3 s n i f ns=.ok l i2 f2 ns2→Ja3 s (n+1) i f ns=.ok l i2 f2 ns2)
 | 0=>by
  refine⟨fun i f ns acc l i2 f2 ns2 h=>?_,fun i f ns acc l i2 f2 ns2 h=>?_,fun i f ns l i2 f2 ns2 h=>?_⟩
  ·rw[JaN]at h;cases h
  ·rw[JaO]at h;cases h
  ·rw[Ja3]at h;cases h
 | n+1=>by
  obtain⟨m1,m2,m3⟩:=Jln s n;refine⟨fun i f ns acc l i2 f2 ns2 h=>?_,fun i f ns acc l i2 f2 ns2 h=>?_,fun i f ns l i2 f2 ns2 h=>?_⟩
  ·rw[JaN]at h ⊢
   cases hp:JaO s n i f ns [] with
   | bad c a b=>rw[hp]at h;cases h
   | ok l3 i3 f3 ns3 =>
    rw[hp]at h;rw[m2 _ _ _ _ _ _ _ _ hp];simp only at h ⊢
    split at h
    ·rename_i h1
     rw[if_pos h1];exact m1 _ _ _ _ _ _ _ _ h
    ·rename_i h1
     rw[if_neg h1];exact h
  ·rw[JaO]at h ⊢
   split at h
   ·rename_i h1
    rw[if_pos h1];exact h
   rename_i h1
   rw[if_neg h1]
   cases hr:JbB s i with
   | some q =>
    obtain⟨c,a,b,k⟩:=q;rw[hr]at h;simp only at h ⊢
    cases hx:acc.getLast? with
    | none=>rw[hx]at h;cases h
    | some x =>
     rw[hx]at h;simp only at h ⊢
     cases hq:JeT s i f ns acc.dropLast x c a b k with
     | bad c a b=>rw[hq]at h;cases h
     | ok l3 i3 f3 ns3 =>
      rw[hq]at h;simp only at h ⊢;exact m2 _ _ _ _ _ _ _ _ h
   | none =>
    rw[hr]at h;simp only at h ⊢
    cases ha:Ja3 s n i f ns with
    | bad c a b=>rw[ha]at h;cases h
    | ok l3 i3 f3 ns3 =>
     rw[ha]at h;rw[m3 _ _ _ _ _ _ _ ha];simp only at h ⊢;exact m2 _ _ _ _ _ _ _ _ h
  ·rw[Ja3]at h ⊢
   split at h
   ·rename_i h1
    rw[if_pos h1]
    cases ho:Jdi s i f ns with
    | bad c a b=>rw[ho]at h;cases h
    | flags g k=>rw[ho]at h;exact h
    | cap nm k =>
     rw[ho]at h;simp only at h ⊢
     cases hp:JaN s n k f (ns++[nm]) [] with
     | bad c a b=>rw[hp]at h;cases h
     | ok l3 i3 f3 ns3 =>
      rw[hp]at h;rw[m1 _ _ _ _ _ _ _ _ hp];exact h
    | under g k =>
     rw[ho]at h;simp only at h ⊢
     cases hp:JaN s n k g ns [] with
     | bad c a b=>rw[hp]at h;cases h
     | ok l3 i3 f3 ns3 =>
      rw[hp]at h;rw[m1 _ _ _ _ _ _ _ _ hp];exact h
   ·rename_i h1
    rw[if_neg h1];exact h
theorem Jif {s:ByteArray} {n m i i2:Nat} {f f2:Int} {ns ns2:List (List UInt8)} {acc l:List Tr} (hnm:n≤m) (h:JaN s n i f ns acc=.ok l i2 f2 ns2):JaN s m i f ns acc=.ok l i2 f2 ns2:=by
 induction hnm with
 | refl=>exact h
 | step _ ih=>exact(Jln s _).1 _ _ _ _ _ _ _ _ ih
theorem Ji2 {s:ByteArray} {n m i i2:Nat} {f f2:Int} {ns ns2:List (List UInt8)} {acc l:List Tr} (hnm:n≤m) (h:JaO s n i f ns acc=.ok l i2 f2 ns2):JaO s m i f ns acc=.ok l i2 f2 ns2:=by
 induction hnm with
 | refl=>exact h
 | step _ ih=>exact(Jln s _).2.1 _ _ _ _ _ _ _ _ ih
def Jfy (s:ByteArray) (n j:Nat) (f:Int) (ns:List (List UInt8)) (acc:List Tr):PR:=if Jac (Jaa s j)=124 then JaN s n (j+1) f ns acc else .ok acc j f ns
theorem JxS {s:ByteArray} {n m j i2:Nat} {f f2:Int} {ns ns2:List (List UInt8)} {acc l:List Tr} (hnm:n≤m) (h:Jfy s n j f ns acc=.ok l i2 f2 ns2):Jfy s m j f ns acc=.ok l i2 f2 ns2:=by
 unfold Jfy at h ⊢
 split at h
 ·rename_i h1
  rw[if_pos h1];exact Jif hnm h
 ·rename_i h1
  rw[if_neg h1];exact h
theorem JrH {s:ByteArray} {n i j:Nat} {f f2:Int} {ns ns2:List (List UInt8)} {acc l:List Tr} (h:JaO s n i f ns []=.ok l j f2 ns2):JaN s (n+1) i f ns acc=Jfy s n j f2 ns2 (acc++[JaQ l]):=by
 rw[JaN,h];rfl
def JbA (c:Int):Prop:=c≠42∧c≠43∧c≠63∧c≠123∧c≠124∧c≠41∧0≤c
def Jhg (c:Int):Prop:=c≠42∧c≠43∧c≠63∧c≠123
def JhN (c:Int):Prop:=c = -1∨c=124∨c=41
theorem JbA.no {c:Int} (h:JbA c):Jhg c:=⟨h.1,h.2.1,h.2.2.1,h.2.2.2.1⟩
theorem JhN.no {c:Int} (h:JhN c):Jhg c:=by unfold JhN at h;unfold Jhg;omega
theorem Jl8 {s:ByteArray} {n i i2:Nat} {f f2:Int} {ns ns2:List (List UInt8)} {l xs:List Tr} (hg:JbA (Jac (Jaa s i))) (ha:Ja3 s n i f ns=.ok xs i2 f2 ns2):JaO s (n+1) i f ns l=JaO s n i2 f2 ns2 (l++xs):=by
 obtain⟨g1,g2,g3,g4,g5,g6,g7⟩:=hg;rw[JaO,if_neg (by rintro(h|h|h);exact absurd (Jbo g7) (by omega);exact g5 h;exact g6 h),Jim rfl ⟨g1,g2,g3,g4⟩,ha]
theorem JyA {x:List UInt8} {l:List (List UInt8)} {rest:List UInt8} (h:x≠[]):Jac (Jbg (x::l)++rest)=Jac x:=by
 cases x with
 | nil=>exact absurd rfl h
 | cons c x =>
  cases l with
  | nil=>rfl
  | cons y l=>rfl
theorem JjQ {x rest:List UInt8} (h:x≠[]):Jac (x++rest)=Jac x:=by
 cases x with
 | nil=>exact absurd rfl h
 | cons c x=>rfl
theorem Jvx {c:Int} (h:JgH c=true):JbA c:=by
 obtain⟨h1,h2,h3⟩:=JjS h;have n:∀x:Int,Jds x=true→c≠x:=fun x hx e=>by rw[e,hx]at h3;cases h3
 exact⟨n 42 rfl,n 43 rfl,n 63 rfl,n 123 rfl,n 124 rfl,n 41 rfl,by omega⟩
theorem JqG {c:Int} (rest:List UInt8):JbA (Jac (Jb3 c++rest))∧Jb3 c≠[]:=by
 unfold Jb3
 split
 ·rename_i h
  obtain⟨h1,h2,-⟩:=JjS h;refine⟨?_,by simp⟩;show JbA (((UInt8.ofNat c.toNat).toNat:Nat):Int);rw[Jhd _ (by omega),show ((c.toNat:Nat):Int)=c by omega];exact Jvx h
 split
 ·exact⟨by show JbA ((92:UInt8).toNat:Int);unfold JbA;decide,by simp⟩
 ·exact⟨by show JbA ((92:UInt8).toNat:Int);unfold JbA;decide,by unfold JcP;simp⟩
theorem JxZ {a:Int} (rest:List UInt8):JbA (Jac (Jcf a++rest))∧Jcf a≠[]:=by
 unfold Jcf
 repeat' split
 all_goals exact⟨by first|(show JbA ((92:UInt8).toNat:Int);unfold JbA;decide)|(show JbA ((40:UInt8).toNat:Int);unfold JbA;decide),by simp⟩
theorem Jh1:JbA ((40:UInt8).toNat:Int):=by unfold JbA;decide
theorem Jqw (nm:List UInt8):∃t,JbX nm=40::t:=by
 unfold JbX
 split
 ·exact⟨_,rfl⟩
 ·exact⟨_,rfl⟩
theorem Jjv (t:Tr):Jay t→(JbA (Jac (Jad t))∧Jad t≠[])∧(JbA (Jac (JaU t))∧JaU t≠[])∧(JbA (Jac (Jbf t))∧Jbf t≠[]):=by
 refine Tr.ind (P:=fun t=>Jay t→(JbA (Jac (Jad t))∧Jad t≠[])∧(JbA (Jac (JaU t))∧JaU t≠[])∧(JbA (Jac (Jbf t))∧Jbf t≠[])) (fun t ih hs=>?_) t
 suffices hh:JbA (Jac (Jad t))∧Jad t≠[] by
  refine⟨hh,?_,?_⟩
  ·unfold JaU Jfj
   split
   ·exact⟨Jh1,by unfold Jc1;simp⟩
   ·exact hh
  ·unfold Jbf Jeh
   split
   ·exact⟨Jh1,by unfold Jc1;simp⟩
   ·exact hh
 obtain⟨hf,hk,-,hkids⟩:=(Jbl t).1 hs
 rcases JeP hs with h|h|h|h|h
 ·rw[JgM h]
  split
  ·exact⟨by show JbA ((91:UInt8).toNat:Int);unfold JbA;decide,by unfold JeI;simp⟩
  split
  ·exact⟨Jh1,by unfold JdJ;simp⟩
  split
  ·have:=JqG (c:=t.fld.rune) []
   rwa [List.append_nil]at this
  split
  ·exact⟨by show JbA ((91:UInt8).toNat:Int);unfold JbA;decide,by unfold Jb5;simp⟩
  ·have:=JxZ (a:=t.fld.at') []
   rwa [List.append_nil]at this
 ·obtain⟨k,hkk,hks⟩:=Jdl hs (.inl h);obtain⟨r,hr⟩:=Jqw t.fld.name.toList;rw[Jhc h hkk,hr];exact⟨Jh1,by simp⟩
 ·obtain⟨k,hkk,hks⟩:=Jdl hs (.inr h);have e:=(ih k (by rw[hkk];simp) hks).2.2;rw[JgD h hkk,JjQ e.2];exact⟨e.1,by simp[e.2]⟩
 ·have hn:t.kids.length=0∨t.kids.length=1∨2≤t.kids.length:=by omega
  rcases hn with hn|hn|hn
  ·rw[Jhp h (List.eq_nil_of_length_eq_zero hn)];exact⟨Jh1,by unfold JdJ;simp⟩
  ·obtain⟨k,hkk⟩:=List.length_eq_one_iff.1 hn;rw[JgF ⟨.inl h,hn⟩ hkk];exact(ih k (by rw[hkk];simp) (hkids k (by rw[hkk];simp))).1
  ·rw[Jg4 h hn];obtain⟨k,l,hkl⟩:∃k l,t.kids=k::l:=by
    cases hc:t.kids with
    | nil=>rw[hc]at hn;simp at hn
    | cons k l=>exact⟨k,l,rfl⟩
   have e:=(ih k (by rw[hkl];simp) (hkids k (by rw[hkl];simp))).2.1;rw[hkl,List.map_cons,List.flatten_cons,JjQ e.2];exact⟨e.1,by simp[e.2]⟩
 ·rw[Jg0 h];obtain⟨k,l,hkl⟩:∃k l,t.kids=k::l:=by
   cases hc:t.kids with
   | nil=>have:=hk.2.1 h;rw[hc]at this;simp at this
   | cons k l=>exact⟨k,l,rfl⟩
  have e:=(ih k (by rw[hkl];simp) (hkids k (by rw[hkl];simp))).1;have e2:=JyA (l:=l.map Jad) (rest:=[]) e.2;rw[List.append_nil]at e2;rw[hkl,List.map_cons,e2];refine⟨e.1,fun e3=>e.2 ?_⟩
  cases hl:l.map Jad with
  | nil=>rw[hl]at e3;exact e3
  | cons y m=>rw[hl,JfS _ (by simp)]at e3;simp at e3
theorem Jnw {s:ByteArray} {i:Nat} {x rest:List UInt8} (h:Jaa s i=x++rest) (hx:x≠[]):Jac (Jaa s i)=Jac x:=by rw[h,JjQ hx]
def Jgz:List (List UInt8)→List (List UInt8)→Prop
 | _,[]=>True
 | ns,nm::r=>(nm=[]∨nm ∉ ns)∧Jgz (ns++[nm]) r
theorem JpV:∀(a ns b:List (List UInt8)),Jgz ns (a++b)↔Jgz ns a∧Jgz (ns++a) b
 | [],ns,b=>by simp[Jgz]
 | x::a,ns,b=>by
  rw[List.cons_append,Jgz,Jgz,JpV a,and_assoc,List.append_assoc];rfl
def JdO (ns:List (List UInt8)) (L:List (Int × List UInt8)):Prop:=L=Jc5 ns.length (L.map Prod.snd)∧Jgz ns (L.map Prod.snd)
theorem JoI:∀(l:List (List UInt8)) (k:Nat),(Jc5 k l).length=l.length
 | [],_=>rfl
 | x::l,k=>by rw[Jc5,List.length_cons,JoI l,List.length_cons]
theorem Jk8 {ns:List (List UInt8)} {a b:List (Int × List UInt8)} (h:JdO ns (a++b)):JdO ns a∧JdO (ns++a.map Prod.snd) b:=by
 obtain⟨h1,h2⟩:=h;rw[List.map_append]at h1 h2;rw[Jlo]at h1;rw[JpV]at h2;obtain⟨e1,e2⟩:=List.append_inj h1 (by rw[JoI,List.length_map]);refine⟨⟨e1,h2.1⟩,?_,h2.2⟩;rw[List.length_append,←e2]
def Jbr (t:Tr):List (List UInt8):=(Ja0 t).map Prod.snd
def JdQ (l:List Tr):List (List UInt8):=(Jby l).map Prod.snd
def Jgo (t:Tr):Prop:=∀(s:ByteArray) (i:Nat) (ns:List (List UInt8)) (rest:List UInt8),JdO ns (Ja0 t)→Jaa s i=Jbf t++rest→Jfk s i 32 (Jbf t) ns (ns++Jbr t) (Jao (Jaf t))
def Jfp (t:Tr):Prop:=∀(s:ByteArray) (i:Nat) (ns:List (List UInt8)) (rest:List UInt8),JdO ns (Ja0 t)→Jaa s i=JaU t++rest→Jhg (Jac rest) →
 ∀(m:Nat) (l l2:List Tr) (i2:Nat) (f2:Int) (ns2:List (List UInt8)),JaO s m (i+(JaU t).length) 32 (ns++Jbr t) (l++Jaj t)=.ok l2 i2 f2 ns2→JaO s (m+3*(JaU t).length) i 32 ns l=.ok l2 i2 f2 ns2
def JfC (t:Tr):Prop:=∀(s:ByteArray) (i:Nat) (ns:List (List UInt8)) (rest:List UInt8),JdO ns (Ja0 t)→Jaa s i=Jad t++rest→JhN (Jac rest) →
 ∀(m:Nat) (acc l2:List Tr) (i2:Nat) (f2:Int) (ns2:List (List UInt8)),Jfy s m (i+(Jad t).length) 32 (ns++Jbr t) (acc++Jaf t)=.ok l2 i2 f2 ns2→JaN s (m+3*(Jad t).length+2) i 32 ns acc=.ok l2 i2 f2 ns2
theorem JqM {t x:Tr} (h:Jaj t=[x]) (h':Jaf t=[x]):Jaj t=[Jao (Jaf t)]:=by rw[h,h'];rfl
theorem JpS {t:Tr} (hs:Jay t) (hk:Jgo t) (hc:JaU t=Jbf t) (ha:Jaj t=[Jao (Jaf t)]):Jfp t:=by
 intro s i ns rest hg hl hn m l l2 i2 f2 ns2 h;obtain⟨-,-,gd,ne⟩:=Jjv t hs;rw[hc]at hl h ⊢;have hp:=List.length_pos_iff.2 ne;have:=hk s i ns rest hg hl (m+3*(Jbf t).length-1) (by omega);obtain⟨q,hq⟩:∃q,m+3*(Jbf t).length=q+1:=⟨m+3*(Jbf t).length-1,by omega⟩;rw[hq]at this ⊢;rw[Nat.add_sub_cancel]at this;rw[Jl8 (by rw[Jnw hl ne];exact gd) this,←ha];exact Ji2 (by omega) h
theorem Jk1 {t:Tr} (hs:Jay t) (hc:Jfp t) (hx:JaU t=Jad t) (hp:Jaf t=[JaQ (Jaj t)]):JfC t:=by
 intro s i ns rest hg hl hn m acc l2 i2 f2 ns2 h;have hl2:=JdN hl;have hend:JhN (Jac (Jaa s (i+(Jad t).length))):=by rw[hl2];exact hn
 have h1:=hc s i ns rest hg (by rw[hx];exact hl) hn.no 1 [] (Jaj t) (i+(Jad t).length) 32 (ns++Jbr t) (by rw[hx,List.nil_append];exact Jjc hend);rw[hx]at h1;rw[JrH (Ji2 (show 1+3*(Jad t).length≤m+3*(Jad t).length+1 by omega) h1),←hp];exact JxS (by omega) h
theorem JxK {t:Tr} (hq:JfC t) {s:ByteArray} {i:Nat} {ns:List (List UInt8)} {rest:List UInt8} (hg:JdO ns (Ja0 t)) (hl:Jaa s i=Jc1 (Jad t)++rest):Jfk s i 32 (Jc1 (Jad t)) ns (ns++Jbr t) (Jao (Jaf t)):=by
 intro n hn;rw[Jjh]at hn ⊢;have hl1:Jaa s i=40::63::58::(Jad t++41::rest):=by rw[hl];simp[Jc1]
 have e3:=JbI (JbI (JbI hl1));have e4:=JdN e3;have h41:Jac (Jaa s (i+3+(Jad t).length))=41:=by rw[show i+3=i+1+1+1 from rfl,e4];rfl
 obtain⟨m,rfl⟩:∃m,n=m+1:=⟨n-1,by omega⟩;have h1:=hq s (i+3) ns (41::rest) hg e3 (.inr (.inr rfl)) 0 [] (Jaf t) (i+3+(Jad t).length) 32 (ns++Jbr t) (by unfold Jfy;rw[if_neg (by rw[h41];decide),List.nil_append]);rw[Ja3,JfD hl1,if_pos (by decide),JpM ns hl1];simp only;rw[Jif (show 0+3*(Jad t).length+2≤m by omega) h1];simp only;rw[if_pos h41]
 congr 1
 omega
theorem JlQ {t:Tr} (hq:JfC t) (h:Jcu t):Jgo t:=by
 intro s i ns rest hg hl;have e:Jbf t=Jc1 (Jad t):=by unfold Jbf Jeh;rw[if_pos h]
 rw[e]at hl ⊢;exact JxK hq hg hl
theorem JwK {t k:Tr} (h:JbC t) (hk:t.kids=[k]):Ja0 t=Ja0 k:=by rw[JfY t (by have:=h.1;omega),hk,Jek]
theorem JoX {t:Tr}:∀(ks:List Tr),(∀k∈ks,Jay k∧Jfp k)→∀(s:ByteArray) (i:Nat) (ns:List (List UInt8)) (rest:List UInt8),JdO ns (Jby ks)→Jaa s i=(ks.map JaU).flatten++rest→Jhg (Jac rest) →
  ∀(m:Nat) (l l2:List Tr) (i2:Nat) (f2:Int) (ns2:List (List UInt8)),JaO s m (i+(ks.map JaU).flatten.length) 32 (ns++JdQ ks) (l++(ks.map Jaj).flatten)=.ok l2 i2 f2 ns2→JaO s (m+3*(ks.map JaU).flatten.length) i 32 ns l=.ok l2 i2 f2 ns2
 | [],_,s,i,ns,rest,_,_,_,m,l,l2,i2,f2,ns2,h=>by
  simp only[List.map_nil,List.flatten_nil,List.length_nil,Nat.add_zero,List.append_nil,JdQ,Jby]at h ⊢
  simpa using h
 | k::ks,hk,s,i,ns,rest,hg,hl,hn,m,l,l2,i2,f2,ns2,h=>by
  obtain⟨k1,k2⟩:=hk k (by simp);have hg2:JdO ns (Ja0 k++Jby ks):=hg;obtain⟨g1,g2⟩:=Jk8 hg2;rw[List.map_cons,List.flatten_cons,List.append_assoc]at hl;have e1:=JdN hl;have hn2:Jhg (Jac ((ks.map JaU).flatten++rest)):=by
   cases ks with
   | nil=>exact hn
   | cons q qs =>
    obtain⟨-,⟨gd,ne⟩,-⟩:=Jjv q (hk q (by simp)).1;rw[List.map_cons,List.flatten_cons,List.append_assoc,JjQ ne];exact gd.no
  have h2:=JoX (t:=t) ks (fun q hq=>hk q (by simp[hq])) s (i+(JaU k).length) (ns++Jbr k) rest g2 e1 hn m (l++Jaj k) l2 i2 f2 ns2 (by
   have e:JdQ (k::ks)=Jbr k++JdQ ks:=by unfold JdQ Jbr;rw[show Jby (k::ks)=Ja0 k++Jby ks from rfl,List.map_append]
   rw[e]at h;simp only[List.map_cons,List.flatten_cons,List.length_append]at h;rw[List.append_assoc,List.append_assoc,show i+(JaU k).length+(ks.map JaU).flatten.length=i+((JaU k).length+(ks.map JaU).flatten.length) by omega];exact h)
  have h3:=k2 s i ns ((ks.map JaU).flatten++rest) g1 hl hn2 _ l l2 i2 f2 ns2 h2;simp only[List.map_cons,List.flatten_cons,List.length_append];exact Ji2 (by omega) h3
theorem Jm0:∀(ks:List Tr),ks≠[]→(∀k∈ks,Jay k∧JfC k)→∀(s:ByteArray) (i:Nat) (ns:List (List UInt8)) (rest:List UInt8),JdO ns (Jby ks)→Jaa s i=Jbg (ks.map Jad)++rest→JhN (Jac rest) →
  ∀(m:Nat) (acc l2:List Tr) (i2:Nat) (f2:Int) (ns2:List (List UInt8)),Jfy s m (i+(Jbg (ks.map Jad)).length) 32 (ns++JdQ ks) (acc++(ks.map Jaf).flatten)=.ok l2 i2 f2 ns2→JaN s (m+3*(Jbg (ks.map Jad)).length+2) i 32 ns acc=.ok l2 i2 f2 ns2
 | [k],_,hk,s,i,ns,rest,hg,hl,hn,m,acc,l2,i2,f2,ns2,h=>by
  have hg2:JdO ns (Ja0 k):=by rw[←Jek];exact hg
  have e:JdQ [k]=Jbr k:=by unfold JdQ Jbr;rw[Jek]
  rw[e]at h;simp only[List.map_cons,List.map_nil,List.flatten_cons,List.flatten_nil,List.append_nil,Jbg]at h hl ⊢;exact(hk k (by simp)).2 s i ns rest hg2 hl hn m acc l2 i2 f2 ns2 h
 | k::q::ks,_,hk,s,i,ns,rest,hg,hl,hn,m,acc,l2,i2,f2,ns2,h=>by
  obtain⟨k1,k2⟩:=hk k (by simp);have hg2:JdO ns (Ja0 k++Jby (q::ks)):=hg;obtain⟨g1,g2⟩:=Jk8 hg2;have ej:Jbg ((k::q::ks).map Jad)=Jad k++124::Jbg ((q::ks).map Jad):=by rw[List.map_cons,JfS _ (by simp)]
  rw[ej]at hl h ⊢;rw[List.append_assoc]at hl;have e1:=JdN hl;have e2:=JbI (c:=124) (t:=Jbg ((q::ks).map Jad)++rest) e1;have h124:Jac (Jaa s (i+(Jad k).length))=124:=by rw[e1];rfl
  have h2:=Jm0 (q::ks) (by simp) (fun x hx=>hk x (by simp[List.mem_cons.1 hx])) s (i+(Jad k).length+1) (ns++Jbr k) rest g2 e2 hn m (acc++Jaf k) l2 i2 f2 ns2 (by
   have e:JdQ (k::q::ks)=Jbr k++JdQ (q::ks):=by unfold JdQ Jbr;rw[show Jby (k::q::ks)=Ja0 k++Jby (q::ks)from rfl,List.map_append]
   rw[e,List.length_append,List.length_cons]at h;rw[List.append_assoc,List.append_assoc,show i+(Jad k).length+1+(Jbg ((q::ks).map Jad)).length=i+((Jad k).length+((Jbg ((q::ks).map Jad)).length+1)) by omega];exact h)
  have h3:=k2 s i ns _ g1 hl (.inr (.inl rfl)) _ acc l2 i2 f2 ns2 (by unfold Jfy;rw[if_pos h124];exact h2);refine Jif ?_ h3;rw[List.length_append,List.length_cons];omega
theorem Juf {n:Nat} (h:n≤1000) (rest:List UInt8):Jac (Lib.decDigits n++rest)≠125:=by
 intro e;have hp:=Jkw n
 cases hc:Lib.decDigits n with
 | nil=>rw[hc]at hp;exact absurd hp (by decide)
 | cons x t =>
  have hx:=Jlq n h [];rw[hc]at e hx;have h125:x.toNat=125:=by
   have h':(x.toNat:Int)=125:=e;omega
  have:Jfq x=false:=by unfold Jfq;rw[h125];rfl
  rw[List.cons_append,Jhw _ _ _ this]at hx;injection hx with _ hx
  simp at hx
theorem JvQ {s:ByteArray} {j:Nat} {a b:Int} {rest:List UInt8} (h0:0≤a) (h1:a≤1000) (hb:b = -1∨(a≤b∧b≤1000)) (hl:Jaa s j=JdD a b++rest):Jep s j=some (a,b,j+(JdD a b).length):=by
 have hz:((a.toNat:Nat):Int)=a:=by omega
 have h123:Jac (Jaa s j)=123:=by rw[hl];rfl
 unfold JdD at hl ⊢;have hpa:=Jkw a.toNat;have hd:=Jlq a.toNat (by omega)
 by_cases hb1:b = -1
 ·rw[if_pos hb1]at hl ⊢;have hl1:Jaa s j=123::(Lib.decDigits a.toNat++44::125::rest):=by rw[hl];simp
  have e1:=JbI hl1;have g1:JaF (Jaa s (j+1)) 0=(a,(Lib.decDigits a.toNat).length):=by rw[e1,hd,Jhw _ _ _ (by decide)];simp[hz]
  have e2:=JdN e1;have e3:=JbI e2;have g2:JaF (Jaa s (j+1+(Lib.decDigits a.toNat).length+1)) 0=(0,0):=by rw[e3,Jhw _ _ _ (by decide)]
  rw[Jh7 h123 g1 rfl g2 rfl,if_neg (by omega),e2,if_neg (by show ¬((44:UInt8).toNat:Int)=125;decide),if_neg (fun h=>h rfl),e3,if_pos (show Jac (125::rest)=125 from rfl),hb1]
  congr 3
  simp only[List.length_cons,List.length_append,List.length_nil];omega
 rw[if_neg hb1]at hl ⊢
 by_cases hab:b=a
 ·rw[if_pos hab]at hl ⊢;have hl1:Jaa s j=123::(Lib.decDigits a.toNat++125::rest):=by rw[hl];simp
  have e1:=JbI hl1;have g1:JaF (Jaa s (j+1)) 0=(a,(Lib.decDigits a.toNat).length):=by rw[e1,hd,Jhw _ _ _ (by decide)];simp[hz]
  have e2:=JdN e1;rw[Jh7 h123 g1 rfl rfl rfl,if_neg (by omega),e2,if_pos (show Jac (125::rest)=125 from rfl),hab]
  congr 3
  simp only[List.length_cons,List.length_append,List.length_nil];omega
 ·rw[if_neg hab]at hl ⊢;have hzb:((b.toNat:Nat):Int)=b:=by omega
  have hpb:=Jkw b.toNat;have hdb:=Jlq b.toNat (by omega);have hl1:Jaa s j=123::(Lib.decDigits a.toNat++44::(Lib.decDigits b.toNat++125::rest)):=by rw[hl];simp
  have e1:=JbI hl1;have g1:JaF (Jaa s (j+1)) 0=(a,(Lib.decDigits a.toNat).length):=by rw[e1,hd,Jhw _ _ _ (by decide)];simp[hz]
  have e2:=JdN e1;have e3:=JbI e2;have g2:JaF (Jaa s (j+1+(Lib.decDigits a.toNat).length+1)) 0=(b,(Lib.decDigits b.toNat).length):=by rw[e3,hdb,Jhw _ _ _ (by decide)];simp[hzb]
  have e4:=JdN e3;have hnd:=Juf (n:=b.toNat) (by omega) (125::rest);rw[Jh7 h123 g1 rfl g2 rfl,if_neg (by omega),e2,if_neg (by show ¬((44:UInt8).toNat:Int)=125;decide),if_neg (fun h=>h rfl),e3,if_neg hnd,if_neg (by omega),e4,if_pos (show Jac (125::rest)=125 from rfl)]
  congr 3
  simp only[List.length_cons,List.length_append,List.length_nil];omega
theorem JwX {s:ByteArray} {j:Nat} {f:Fld} {rest:List UInt8} (hf:Jbv f) (h:f.op=7∨f.op=8∨f.op=9∨f.op=10) (hl:Jaa s j=Jcl f++rest) (hn:Jhg (Jac rest)) (x:Tr) (l:List Tr) (ns:List (List UInt8)) :
  ∃c a b k,JbB s j=some (c,a,b,k)∧JeT s j 32 ns l x c a b k=.ok (l++[.mk f [x]]) (j+(Jcl f).length) 32 ns:=by
 obtain⟨o1,o2,o3,o4,o5,o6,o10,ol,-,-,-,-,o10'⟩:=hf;obtain⟨c,hc,hcc⟩:∃(c:Int),opY c=f.op∧(c=42∨c=43∨c=63∨c=123):=by
  rcases h with h|h|h|h
  ·exact⟨42,by rw[h];rfl,by omega⟩
  ·exact⟨43,by rw[h];rfl,by omega⟩
  ·exact⟨63,by rw[h];rfl,by omega⟩
  ·exact⟨123,by rw[h];rfl,by omega⟩
 obtain⟨y,hy⟩:∃y,(if f.op=7 then ([42]:List UInt8)else if f.op=8 then [43]else if f.op=9 then [63]else JdD f.min f.max)=y:=⟨_,rfl⟩;obtain⟨z,hz⟩:∃z,(if f.lazy=true then ([63]:List UInt8)else [])=z:=⟨_,rfl⟩;have hsg:Jcl f=y++z:=by unfold Jcl;rw[hy,hz]
 rw[hsg,List.append_assoc]at hl;have e1:=JdN hl;have hrep:JbB s j=some (c,if c=123 then f.min else 0,if c=123 then f.max else 0,j+y.length):=by
  unfold JbB
  rcases h with h|h|h|h
  ·have:c=42:=by rw[h]at hc;unfold opY at hc;rcases hcc with rfl|rfl|rfl|rfl<;>first|rfl|exact absurd hc (by decide)
   subst this;rw[h]at hy;subst hy;rw[show Jac (Jaa s j)=42 by rw[hl];rfl];rfl
  ·have:c=43:=by rw[h]at hc;unfold opY at hc;rcases hcc with rfl|rfl|rfl|rfl<;>first|rfl|exact absurd hc (by decide)
   subst this;rw[h]at hy;subst hy;rw[show Jac (Jaa s j)=43 by rw[hl];rfl];rfl
  ·have:c=63:=by rw[h]at hc;unfold opY at hc;rcases hcc with rfl|rfl|rfl|rfl<;>first|rfl|exact absurd hc (by decide)
   subst this;rw[h]at hy;subst hy;rw[show Jac (Jaa s j)=63 by rw[hl];rfl];rfl
  ·have:c=123:=by rw[h]at hc;unfold opY at hc;rcases hcc with rfl|rfl|rfl|rfl<;>first|rfl|exact absurd hc (by decide)
   subst this;have hmm:=o10' h;rw[h]at hy;have hy':JdD f.min f.max=y:=hy;subst hy';rw[if_neg (by rw[hl];show ¬(((123:UInt8).toNat:Int)=42∨((123:UInt8).toNat:Int)=43∨((123:UInt8).toNat:Int)=63);decide),JvQ hmm.1.1 hmm.1.2 hmm.2 hl];rfl
 refine⟨c,_,_,_,hrep,?_⟩;have hmin:(if c=123 then f.min else 0)=f.min∧(if c=123 then f.max else 0)=f.max:=by
  by_cases h10:f.op=10
  ·have:c=123:=by rw[h10]at hc;unfold opY at hc;rcases hcc with rfl|rfl|rfl|rfl<;>first|rfl|exact absurd hc (by decide)
   rw[if_pos this,if_pos this];exact⟨rfl,rfl⟩
  ·have hh:=o10 h10;rw[hh.1,hh.2];exact⟨by split<;>rfl,by split<;>rfl⟩
 have hsz:Jb7 c (if c=123 then f.min else 0) (if c=123 then f.max else 0)=true:=by
  rw[hmin.1,hmin.2];unfold Jb7
  by_cases h10:f.op=10
  ·have hh:=o10' h10
   rcases hh.2 with q|q
   ·simp[q,hh.1.2]
   ·simp[hh.1.2,q.1,q.2]
  ·have hh:=o10 h10;rw[hh.1,hh.2]
   simp
 have hlz:Ja6 s (j+y.length) 32=f.lazy:=by
  unfold Ja6;rw[show Jag 32 32=true by kernel_rfl,e1,←hz,Bool.true_and]
  cases f.lazy with
  | true=>rfl
  | false=>exact decide_eq_false hn.2.2.1
 have hk2:(if Ja6 s (j+y.length) 32=true then j+y.length+1 else j+y.length)=j+(Jcl f).length:=by
  rw[hlz,hsg,List.length_append,←hz]
  cases f.lazy with
  | true=>simp;omega
  | false=>simp
 have hnone:JbB s (j+(Jcl f).length)=none:=by
  have e2:Jaa s (j+(Jcl f).length)=rest:=by
   have:=JdN (a:=y++z) (b:=rest) (by rw[hl];simp:Jaa s j=(y++z)++rest);rw[hsg];exact this
  exact Jim (c:=Jac rest) (by rw[e2]) hn
 unfold JeT;rw[if_neg (by rw[hsz];decide)];simp only[hk2,hnone]
 congr 3
 have hf2:f=⟨opY c,0,[],0,0,⟨#[]⟩,f.min,f.max,f.lazy⟩:=by
  have hnm:f.name=⟨#[]⟩:=JkP (by rw[(o6 (by omega)).2];exact JmK.symm);have q3:=o3 (by omega);have q4:=o4 (by omega);have q5:=o5 (by omega);have q6:=(o6 (by omega)).1;clear hl e1 hrep hmin hsz hlz hk2 hnone hy hz hsg;obtain⟨p1,p2,p3,p4,p5,p6,p7,p8,p9⟩:=f;simp only at hc q3 q4 q5 q6 hnm ⊢;rw[hc,q3,q4,q5,q6,hnm]
 unfold Jdd;rw[hlz,hmin.1,hmin.2,show Jag 32 16=false by kernel_rfl]
 conv=>rhs;rw[hf2]
 simp only[Tr.mk.injEq,Fld.mk.injEq,true_and,and_true,Bool.bne_false];exact⟨by split<;>first|rfl|(rename_i h;have:=hmin.1;rw[if_neg h]at this;exact this),by split<;>first|rfl|(rename_i h;have:=hmin.2;rw[if_neg h]at this;exact this)⟩
theorem Jqu:∀(l rest:List UInt8),(∀c∈l,c.toNat≠62)→gtN (l++62::rest)=l.length
 | [],rest,_=>rfl
 | c::t,rest,h=>by
  rw[List.cons_append,gtN,if_neg (h c (List.mem_cons_self ..)),Jqu t rest (fun x hx=>h x (List.mem_cons_of_mem _ hx))];rfl
theorem JqS {nm:List UInt8} (h:Jbt nm=true):∀c∈nm,c.toNat≠62∧c.toNat<128:=by
 unfold Jbt at h;simp only[Bool.and_eq_true,decide_eq_true_eq]at h;have key:∀(l:List UInt8) (i:Nat),Jci i l=true→∀c∈l,c.toNat≠62∧c.toNat<128:=by
  intro l
  induction l with
  | nil=>intro _ _ c hc;cases hc
  | cons d l il =>
   intro i hn c hc;rw[Jci,Bool.and_eq_true]at hn
   rcases List.mem_cons.1 hc with rfl|hc
   ·have h1:=hn.1;simp only[Bool.or_eq_true,Bool.and_eq_true]at h1
    rcases h1 with h1|h1
    ·have:=(Jmf c).1 h1;omega
    ·have:=(JkZ c).1 h1.2;omega
   ·exact il (i+1) hn.2 c hc
 exact key nm 0 h.2
theorem Ju9 {s:ByteArray} {i:Nat} {ns:List (List UInt8)} {nm x rest:List UInt8} (hnb:nm=[]∨Jbt nm=true) (hnew:nm=[]∨nm ∉ ns) (hl:Jaa s i=JbX nm++(x++rest)) (hx:JbA (Jac x)∧x≠[]):Jdi s i 32 ns=.cap nm (i+(JbX nm).length):=by
 by_cases h0:nm=[]
 ·subst h0;have hb:JbX []=[40]:=rfl;rw[hb]at hl ⊢;have hl1:Jaa s i=40::(x++rest):=hl;obtain⟨c,y,rfl⟩:∃c y,x=c::y:=by
   cases x with
   | nil=>exact absurd rfl hx.2
   | cons c y=>exact⟨c,y,rfl⟩
  have hc:c≠63:=fun e=>by
   have:=hx.1.2.2.1;rw[e]at this;exact this rfl
  have p1:Jat [40,63,80,60] (Jaa s i)=false:=by
   unfold Jat;rw[hl1]
   cases y<;>simp[hc]
  have p2:Jat [40,63,60] (Jaa s i)=false:=by
   unfold Jat;rw[hl1]
   simp[hc]
  have p3:Jat [40,63] (Jaa s i)=false:=by
   unfold Jat;rw[hl1]
   simp[hc]
  unfold Jdi;rw[p1,p2,p3];rfl
 ·have hn:=hnb.resolve_left h0;have hnew:=hnew.resolve_left h0;have hb:JbX nm=40::63::80::60::(nm++[62]):=by unfold JbX;rw[if_neg h0]
  rw[hb]at hl ⊢;have hl1:Jaa s i=[40,63,80,60]++(nm++62::(x++rest)):=by rw[hl];simp
  have p1:Jat [40,63,80,60] (Jaa s i)=true:=by unfold Jat;rw[hl1];rfl
  have e4:=JdN hl1;have hE:Jca s i=i+4+nm.length:=by
   unfold Jca;rw[hl1,←List.append_assoc,Jqu ([40,63,80,60]++nm) _ (fun c hc=>(List.mem_append.1 hc).elim (fun h=>by simp at h;rcases h with rfl|rfl|rfl|rfl<;>decide) (fun h=>(JqS hn c h).1))]
   simp
   omega
  have hz:=Jbm s i;rw[hl1]at hz;simp only[List.length_append,List.length_cons,List.length_nil]at hz;have hq:(Jaa s (i+4)).take (i+4+nm.length-(i+4))=nm:=by
   rw[show i+4=i+[40,63,80,(60:UInt8)].length from rfl,e4,show i+[40,63,80,(60:UInt8)].length+nm.length-(i+[40,63,80,(60:UInt8)].length)=nm.length by omega,List.take_left]
  have hname:JcA s i=some (nm,i+4+nm.length+1):=by
   unfold JcA JfT;rw[if_pos p1];simp only[hE,hq];rw[if_pos ⟨by omega,by omega,hn⟩]
  unfold Jdi;rw[if_pos ⟨by kernel_rfl,.inl p1⟩,hname];simp only;rw[if_neg hnew]
  congr 1
  simp only[List.length_cons,List.length_append,List.length_nil];omega
theorem Jtx (t:Tr):Jay t→Jgo t∧Jfp t∧JfC t:=by
 refine Tr.ind (P:=fun t=>Jay t→Jgo t∧Jfp t∧JfC t) (fun t ih hs=>?_) t;obtain⟨hf,hk,-,hkids⟩:=(Jbl t).1 hs
 by_cases hl:JbC t
 ·obtain⟨k,hkk⟩:=Jf2 hl;have e:=ih k (by rw[hkk];simp) (hkids k (by rw[hkk];simp));have e1:=JwK hl hkk;have e2:Jbr t=Jbr k:=by unfold Jbr;rw[e1]
  have e3:Jaj t=Jaj k:=by unfold Jaj;rw[JgZ hl hkk]
  have e4:Jaf t=Jaf k:=by unfold Jaf;rw[JgZ hl hkk]
  unfold Jgo Jfp JfC at e ⊢;rw[e1,e2,e3,e4,JxY hl hkk,JoC hl hkk,JgF hl hkk];exact e
 have F:=Je2 t hs;obtain⟨f1,f2,f3,f4,f5,f6⟩:=F;rw[Jdz hl]at f3 f4 f5 f6;have hrepT:¬Jcu t→Jbf t=Jad t:=fun h=>by unfold Jbf Jeh;rw[if_neg h]
 have hchT:t.fld.op≠12→JaU t=Jad t:=fun h=>Jja h hl
 have hheld:Jcu t↔(t.fld.op=11∧t.kids≠[])∨(7≤t.fld.op∧t.fld.op≠11):=by unfold Jcu;rw[Jdz hl]
 have leaf:t.fld.op≠12→¬Jcu t→Jaj t=[Jao (Jaf t)]→(∀(s:ByteArray) (i:Nat) (ns:List (List UInt8)) (rest:List UInt8),JdO ns (Ja0 t)→Jaa s i=Jad t++rest→Jfk s i 32 (Jad t) ns (ns++Jbr t) (Jao (Jaf t)))→Jgo t∧Jfp t∧JfC t:=by
  intro h12 hh ha hr;have hK:Jgo t:=by
   intro s i ns rest hg hl;rw[hrepT hh]at hl ⊢;exact hr s i ns rest hg hl
  have hC:=JpS hs hK (by rw[hchT h12,hrepT hh]) ha;exact⟨hK,hC,Jk1 hs hC (hchT h12) (f3 h12)⟩
 have plain:∀x:Tr,Jde t=([x],[x])→t.fld.op≠12→¬Jcu t→Ja0 t=[]→(∀(s:ByteArray) (i:Nat) (ns:List (List UInt8)) (rest:List UInt8),Jaa s i=Jad t++rest→Jfk s i 32 (Jad t) ns ns x)→Jgo t∧Jfp t∧JfC t:=by
  intro x hx h12 hh ht hr;have e1:Jaj t=[x]:=by unfold Jaj;rw[hx]
  have e2:Jaf t=[x]:=by unfold Jaf;rw[hx]
  refine leaf h12 hh (JqM e1 e2) fun s i ns rest hg hl=>?_
  have:=hr s i ns rest hl;rw[e2,show Jbr t=[] by unfold Jbr;rw[ht];rfl,List.append_nil];exact this
 have hnol:t.kids=[]→t.fld.op≠6→Ja0 t=[]:=fun h h6=>by rw[JfY t h6,h];rfl
 rcases JeP hs with h|h|h|h|h
 ·have hkk:=Ji9 hs (by omega);have hT:=JgM h;refine plain _ (Jhs (by omega)) (by omega) (by rw[hheld];omega) (hnol hkk (by omega)) fun s i ns rest hl=>?_
  obtain⟨o1,o2,o3,o4,o5,o6,o10,ol,o3',o4',o5',o6',o10'⟩:=hf;have hnm:t.fld.name=⟨#[]⟩:=JkP (by rw[(o6 (by omega)).2];exact JmK.symm);have hlz:t.fld.lazy=false:=by
   cases hz:t.fld.lazy with
   | false=>rfl
   | true=>have:=ol hz;omega
  have hfl:t.fld=⟨t.fld.op,t.fld.rune,t.fld.set,t.fld.at',0,⟨#[]⟩,0,0,false⟩:=by
   have a1:=(o6 (by omega)).1;have a2:=o10 (by omega)
   generalize t.fld=g at *
   obtain⟨p1,p2,p3,p4,p5,p6,p7,p8,p9⟩:=g;simp only at a1 a2 hnm hlz ⊢;rw[a1,a2.1,a2.2,hnm,hlz]
  rw[hT]at hl ⊢
  rcases h with h|h|h|h|h
  ·rw[h,o3 (by omega),o4 (by omega),o5 (by omega)]at hfl;have e:Tr.mk t.fld []=.mk (Jbh 1) []:=congrArg (Tr.mk · []) hfl;rw[e];rw[if_pos h]at hl ⊢;exact JxW ns (by kernel_rfl) hl
  ·rw[h,o3 (by omega),o4 (by omega),o5 (by omega)]at hfl;have e:Tr.mk t.fld []=Jex:=congrArg (Tr.mk · []) hfl;rw[e];rw[if_neg (by omega),if_pos h]at hl ⊢;exact Jm7 ns hl
  ·rw[h,o4 (by omega),o5 (by omega)]at hfl;have e:Tr.mk t.fld []=Jap t.fld.rune:=by unfold Jap;rw[←hfl]
   rw[e];rw[if_neg (by omega),if_neg (by omega),if_pos h]at hl ⊢;exact Jpx ns (o3' h).1 (o3' h).2 (by kernel_rfl) hl
  ·rw[h,o3 (by omega),o5 (by omega)]at hfl;have e:Tr.mk t.fld []=JaD t.fld.set:=by unfold JaD;rw[←hfl]
   rw[e];rw[if_neg (by omega),if_neg (by omega),if_neg (by omega),if_pos h]at hl ⊢;exact Jqd ns (o4' h).1 (o4' h).2 (by kernel_rfl) hl
  ·rw[h,o3 (by omega),o4 (by omega)]at hfl;have e:Tr.mk t.fld []=atY t.fld.at':=by unfold atY;rw[←hfl]
   rw[e];rw[if_neg (by omega),if_neg (by omega),if_neg (by omega),if_neg (by omega)]at hl ⊢;exact Jtl ns (o5' h) hl
 ·obtain⟨k,hkk,hks⟩:=Jdl hs (.inl h);obtain⟨-,-,q⟩:=ih k (by rw[hkk];simp) hks;have e1:Jaj t=[.mk t.fld [Jao (Jaf k)]]:=by unfold Jaj;rw[Jeu (.inl h) hkk]
  have e2:Jaf t=[.mk t.fld [Jao (Jaf k)]]:=by show (Jde t).2=_;rw[Jeu (.inl h) hkk]
  refine leaf (by omega) (by rw[hheld];omega) (JqM e1 e2) fun s i ns rest hg hl n hn=>?_
  rw[Jhc h hkk]at hl hn ⊢;have htag:Ja0 t=(t.fld.cap,t.fld.name.toList)::Ja0 k:=by
   conv=>lhs;rw[t.eta,hkk]
   rw[JfQ,if_pos h,Jek];rfl
  have hg0:=hg;rw[htag]at hg0;obtain⟨g1,g2⟩:=Jk8 (a:=[(t.fld.cap,t.fld.name.toList)]) hg0;have hcap:t.fld.cap=((ns.length:Nat):Int)+1:=congrArg Prod.fst (List.cons.inj g1.1).1;have hnew:t.fld.name.toList=[]∨t.fld.name.toList ∉ ns:=g1.2.1;have hnb:=hf.2.2.2.2.2.2.2.2.2.2.2.1 h;obtain⟨m,rfl⟩:∃m,n=m+1:=⟨n-1,by simp only[List.length_append,List.length_cons,List.length_nil]at hn;omega⟩;have hl0:Jaa s i=JbX t.fld.name.toList++(Jad k++41::rest):=by rw[hl];simp
  have hb1:=JdN hl0;have hb2:=JdN hb1;have h41:Jac (Jaa s (i+(JbX t.fld.name.toList).length+(Jad k).length))=41:=by rw[hb2];rfl
  have hopen:Jdi s i 32 ns=.cap t.fld.name.toList (i+(JbX t.fld.name.toList).length):=by
   obtain⟨nm,hnm⟩:∃nm,t.fld.name.toList=nm:=⟨_,rfl⟩;rw[hnm]at hl0 hnew hnb hb1 ⊢;exact Ju9 hnb hnew hl0 (Jjv k hks).1
  have h1:=q s (i+(JbX t.fld.name.toList).length) (ns++[t.fld.name.toList]) (41::rest) g2 hb1 (.inr (.inr rfl)) 0 [] (Jaf k) (i+(JbX t.fld.name.toList).length+(Jad k).length) 32 (ns++[t.fld.name.toList]++Jbr k) (by unfold Jfy;rw[if_neg (by rw[h41];decide),List.nil_append]);obtain⟨r,hr⟩:=Jqw t.fld.name.toList;have hblen:1≤(JbX t.fld.name.toList).length:=by rw[hr];simp
  rw[Ja3,show Jac (Jaa s i)=40 by rw[hl0,hr];rfl,if_pos rfl,hopen];simp only;simp only[List.length_append,List.length_cons,List.length_nil]at hn ⊢;rw[Jif (show 0+3*(Jad k).length+2≤m by omega) h1];simp only;rw[if_pos h41,e2];obtain⟨o1,o2,o3,o4,o5,o6,o10,ol,o3',o4',o5',o6',o10'⟩:=hf;have hlz:t.fld.lazy=false:=by
   cases hz:t.fld.lazy with
   | false=>rfl
   | true=>have:=ol hz;omega
  have hfl:t.fld=⟨6,0,[],0,((ns.length+1:Nat):Int),⟨t.fld.name.toList.toArray⟩,0,0,false⟩:=by
   have a3:=o3 (by omega);have a4:=o4 (by omega);have a5:=o5 (by omega);have a2:=o10 (by omega);have hnm:t.fld.name=⟨t.fld.name.toList.toArray⟩:=JkP (by rw[Lib.toList_data (⟨t.fld.name.toList.toArray⟩:ByteArray)])
   generalize t.fld=g at h a2 a3 a4 a5 hcap hnm hlz ⊢
   obtain⟨p1,p2,p3,p4,p5,p6,p7,p8,p9⟩:=g;simp only at h a2 a3 a4 a5 hcap hnm hlz ⊢;rw[h,a3,a4,a5,a2.1,a2.2,hlz,hcap,←hnm];rfl
  have hcp:JdY (ns.length+1) t.fld.name.toList (Jao (Jaf k))=.mk t.fld [Jao (Jaf k)]:=by
   unfold JdY;rw[←hfl]
  rw[hcp];have hnames:ns++Jbr t=ns++[t.fld.name.toList]++Jbr k:=by unfold Jbr;rw[htag,List.append_assoc];rfl
  rw[hnames];show PR.ok _ _ _ _=PR.ok [Jao [_]] _ _ _
  congr 1
  omega
 ·obtain⟨k,hkk,hks⟩:=Jdl hs (.inr h);obtain⟨kk,-,-⟩:=ih k (by rw[hkk];simp) hks;have e1:Jaj t=[.mk t.fld [Jao (Jaf k)]]:=by unfold Jaj;rw[Jeu (.inr h) hkk]
  have htag:Ja0 t=Ja0 k:=by rw[JfY t (by omega),hkk,Jek]
  have hC:Jfp t:=by
   intro s i ns rest hg hl hn m l l2 i2 f2 ns2 hp;rw[hchT (by omega),JgD h hkk]at hl hp ⊢;rw[htag]at hg;rw[List.append_assoc]at hl;have hnm:Jbr t=Jbr k:=by unfold Jbr;rw[htag]
   rw[hnm,e1]at hp;have hb1:=JdN hl;obtain⟨-,-,gd,ne⟩:=Jjv k hks;have hpos:=List.length_pos_iff.2 ne;obtain⟨c,a,b,k2,hr1,hr2⟩:=JwX hf h hb1 hn (Jao (Jaf k)) l (ns++Jbr k);have hsg:1≤(Jcl t.fld).length:=by
    unfold Jcl;rw[List.length_append];have:1≤(if t.fld.op=7 then ([42]:List UInt8)else if t.fld.op=8 then [43]else if t.fld.op=9 then [63]else JdD t.fld.min t.fld.max).length:=by
     repeat' split
     all_goals first|exact Nat.le_refl _|(unfold JdD;simp)
    omega
   rw[List.length_append]at hp ⊢;obtain⟨q,hq⟩:∃q,m+3*((Jbf k).length+(Jcl t.fld).length)=q+2:=⟨m+3*((Jbf k).length+(Jcl t.fld).length)-2,by omega⟩;rw[hq,Jl8 (by rw[Jnw hl ne];exact gd) (kk s i ns (Jcl t.fld++rest) hg hl (q+1) (by omega)),JaO];have hst:¬(s.size≤i+(Jbf k).length∨Jac (Jaa s (i+(Jbf k).length))=124∨Jac (Jaa s (i+(Jbf k).length))=41):=by
    have hh:∃(c:UInt8) (t':List UInt8),Jcl t.fld=c::t'∧c.toNat≠124∧c.toNat≠41:=by
     unfold Jcl JdD
     repeat' split
     all_goals exact⟨_,_,rfl,by decide,by decide⟩
    obtain⟨d,t',hd,d1,d2⟩:=hh;rw[hd]at hb1;have z1:=JkM hb1;have z2:=JfD hb1;omega
   rw[if_neg hst,hr1];simp only[List.getLast?_append,List.getLast?_singleton,Option.some_or,List.dropLast_concat,hr2];rw[Nat.add_assoc];exact Ji2 (by omega) hp
  have hQ:=Jk1 hs hC (hchT (by omega)) (f3 (by omega));exact⟨JlQ hQ (by rw[hheld];omega),hC,hQ⟩
 ·by_cases h0:t.kids=[]
  ·have hT:=Jhp h h0;refine plain _ (JhJ h h0) (by omega) (by rw[hheld];rintro(e|e);exact e.2 h0;omega) (hnol h0 (by omega)) fun s i ns rest hl=>?_
   rw[hT]at hl ⊢;exact Jm7 ns hl
  ·have h2:2≤t.kids.length:=by
    have h3:=List.length_pos_iff.2 h0;have h4:t.kids.length≠1:=fun e=>hl ⟨.inl h,e⟩
    omega
   have e1:Jaj t=(t.kids.map Jaj).flatten:=by unfold Jaj;rw[Jfg h h2];rfl
   have htag:Ja0 t=Jby t.kids:=JfY t (by omega);have hC:Jfp t:=by
    intro s i ns rest hg hl hn m l l2 i2 f2 ns2 hp;rw[hchT (by omega),Jg4 h h2]at hl hp ⊢;rw[htag]at hg;rw[show Jbr t=JdQ t.kids by unfold Jbr JdQ;rw[htag],e1]at hp;exact JoX (t:=t) t.kids (fun k hk=>⟨hkids k hk,(ih k hk (hkids k hk)).2.1⟩) s i ns rest hg hl hn m l l2 i2 f2 ns2 hp
   have hQ:=Jk1 hs hC (hchT (by omega)) (f3 (by omega));exact⟨JlQ hQ (by rw[hheld];exact .inl ⟨h,h0⟩),hC,hQ⟩
 ·have h2:2≤t.kids.length:=by
   have h3:=hk.2.1 h;have h4:t.kids.length≠1:=fun e=>hl ⟨.inr h,e⟩
   omega
  have e2:Jaf t=(t.kids.map Jaf).flatten:=by unfold Jaf;rw[Je7 h h2];rfl
  have htag:Ja0 t=Jby t.kids:=JfY t (by omega);have hQ:JfC t:=by
   intro s i ns rest hg hl hn m acc l2 i2 f2 ns2 hp;rw[Jg0 h]at hl hp ⊢;rw[htag]at hg;rw[show Jbr t=JdQ t.kids by unfold Jbr JdQ;rw[htag],e2]at hp;exact Jm0 t.kids (JfX h2) (fun k hk=>⟨hkids k hk,(ih k hk (hkids k hk)).2.2⟩) s i ns rest hg hl hn m acc l2 i2 f2 ns2 hp
  have hheld':Jcu t:=by rw[hheld];omega
  have hK:=JlQ hQ hheld';refine⟨hK,JpS hs hK ?_ (f4 h).1,hQ⟩;unfold JaU Jfj Jbf Jeh;rw[Jdz hl,if_pos h,if_pos hheld']
def JbO (l:List UInt8):Prop:=∀c∈l,c.toNat<128
theorem Jdx {a b:List UInt8} (ha:JbO a) (hb:JbO b):JbO (a++b):=fun c hc=>(List.mem_append.1 hc).elim (ha c) (hb c)
theorem Jb6 {c:UInt8} {a:List UInt8} (hc:c.toNat<128) (ha:JbO a):JbO (c::a):=fun d hd=>by
 rcases List.mem_cons.1 hd with rfl|hd
 ·exact hc
 ·exact ha d hd
theorem Jet:JbO []:=fun c hc=>by cases hc
theorem Jm6 (d:Nat) (h:d<16):(Jc8 d).toNat<128:=by
 unfold Jc8;rw[Jhd _ (by split<;>omega)]
 split<;>omega
theorem JtA:∀n:Nat,JbO (JaS n):=by
 intro n
 induction n using Nat.strongRecOn with
 | _ n ih =>
  rw[JaS]
  split
  ·rename_i h
   exact Jb6 (Jm6 n h) Jet
  ·rename_i h
   exact Jdx (ih (n / 16) (by omega)) (Jb6 (Jm6 _ (by omega)) Jet)
theorem Jqv:∀n:Nat,JbO (Lib.decDigits n):=by
 intro n
 induction n using Nat.strongRecOn with
 | _ n ih =>
  rw[Lib.decDigits]
  split
  ·rename_i h
   exact Jb6 (by rw[Jhd _ (by omega)];omega) Jet
  ·rename_i h
   exact Jdx (ih (n / 10) (by omega)) (Jb6 (by rw[Jhd _ (by omega)];omega) Jet)
theorem Jkd (n:Nat):JbO (JcP n):=Jb6 (by decide) (Jb6 (by decide) (Jb6 (by decide) (Jdx (JtA n) (Jb6 (by decide) Jet))))
theorem JpQ (c:Int):JbO (Jb3 c):=by
 unfold Jb3
 split
 ·rename_i h
  obtain⟨h1,h2,-⟩:=JjS h;exact Jb6 (by rw[Jhd _ (by omega)];omega) Jet
 split
 ·rename_i h
  have:=Jmk h;exact Jb6 (by decide) (Jb6 (by rw[Jhd _ (by omega)];omega) Jet)
 ·exact Jkd _
theorem Jyu (r:Int × Int):JbO (JcE r):=by
 unfold JcE;refine Jdx (Jkd _) ?_
 split
 ·exact Jet
 ·exact Jb6 (by decide) (Jkd _)
theorem Jlv:∀l:List (Int × Int),JbO (Jcs l)
 | []=>Jet
 | r::l=>Jdx (Jyu r) (Jlv l)
theorem JdM {l:List UInt8} (h:l.all (fun c=>decide (c.toNat<128))=true):JbO l:=fun c hc=>of_decide_eq_true (List.all_eq_true.1 h c hc)
theorem JtO (a:Int):JbO (Jcf a):=by
 unfold Jcf
 repeat' split
 all_goals exact JdM (by decide)
theorem JsW (f:Fld):JbO (Jcl f):=by
 unfold Jcl JdD;refine Jdx ?_ (by split;exact JdM (by decide);exact Jet)
 split
 ·exact JdM (by decide)
 split
 ·exact JdM (by decide)
 split
 ·exact JdM (by decide)
 ·refine Jb6 (by decide) (Jdx (Jqv _) (Jdx ?_ (JdM (by decide))))
  split
  ·exact JdM (by decide)
  split
  ·exact Jet
  ·exact Jb6 (by decide) (Jqv _)
theorem JtB {nm:List UInt8} (h:nm=[]∨Jbt nm=true):JbO (JbX nm):=by
 unfold JbX
 split
 ·exact JdM (by decide)
 ·rename_i h0
  exact Jb6 (by decide) (Jb6 (by decide) (Jb6 (by decide) (Jb6 (by decide) (Jdx (fun c hc=>(JqS (h.resolve_left h0) c hc).2) (JdM (by decide))))))
theorem JnA {x:List UInt8} (h:JbO x):JbO (Jc1 x):=Jb6 (by decide) (Jb6 (by decide) (Jb6 (by decide) (Jdx h (JdM (by decide)))))
theorem Jtm {k:Tr} (h:JbO (Jad k)):JbO (JaU k):=by
 unfold JaU Jfj
 split
 ·exact JnA h
 ·exact h
theorem Jru {k:Tr} (h:JbO (Jad k)):JbO (Jbf k):=by
 unfold Jbf Jeh
 split
 ·exact JnA h
 ·exact h
theorem JoH:∀l:List (List UInt8),(∀x∈l,JbO x)→JbO (Jbg l)
 | [],_=>Jet
 | [x],h=>h x (by simp)
 | x::y::l,h=>by
  rw[JfS x (by simp)];exact Jdx (h x (by simp)) (Jb6 (by decide) (JoH (y::l) fun z hz=>h z (by simp[List.mem_cons.1 hz])))
theorem Jy7 (t:Tr):Jay t→JbO (Jad t):=by
 refine Tr.ind (P:=fun t=>Jay t→JbO (Jad t)) (fun t ih hs=>?_) t;obtain⟨hf,hk,-,hkids⟩:=(Jbl t).1 hs
 rcases JeP hs with h|h|h|h|h
 ·rw[JgM h]
  split
  ·exact JdM (by decide)
  split
  ·exact JdM (by decide)
  split
  ·exact JpQ _
  split
  ·exact Jb6 (by decide) (Jdx (Jlv _) (JdM (by decide)))
  ·exact JtO _
 ·obtain⟨k,hkk,hks⟩:=Jdl hs (.inl h);rw[Jhc h hkk];exact Jdx (JtB (hf.2.2.2.2.2.2.2.2.2.2.2.1 h)) (Jdx (ih k (by rw[hkk];simp) hks) (JdM (by decide)))
 ·obtain⟨k,hkk,hks⟩:=Jdl hs (.inr h);rw[JgD h hkk];exact Jdx (Jru (ih k (by rw[hkk];simp) hks)) (JsW _)
 ·have hn:t.kids.length=0∨t.kids.length=1∨2≤t.kids.length:=by omega
  rcases hn with hn|hn|hn
  ·rw[Jhp h (List.eq_nil_of_length_eq_zero hn)];exact JdM (by decide)
  ·obtain⟨k,hkk⟩:=List.length_eq_one_iff.1 hn;rw[JgF ⟨.inl h,hn⟩ hkk];exact ih k (by rw[hkk];simp) (hkids k (by rw[hkk];simp))
  ·rw[Jg4 h hn];intro c hc;obtain⟨l,hl,hc⟩:=List.mem_flatten.1 hc;obtain⟨k,hk',rfl⟩:=List.mem_map.1 hl;exact Jtm (ih k hk' (hkids k hk')) c hc
 ·rw[Jg0 h];refine JoH _ fun x hx=>?_
  obtain⟨k,hk',rfl⟩:=List.mem_map.1 hx;exact ih k hk' (hkids k hk')
theorem JkO:∀l:List UInt8,JbO l→Lib.validD l=true
 | [],_=>rfl
 | c::l,h=>by
  rw[Lib.validD_cons _ _ (h c (by simp))];exact JkO l fun d hd=>h d (by simp[hd])
theorem Jmu:∀(L:List (Int × List UInt8)) (ns:List (List UInt8)),(∀(i:Nat) (h:i<L.length),L[i].1=((ns.length+i:Nat):Int)+1∧(L[i].2=[]∨(L[i].2 ∉ ns∧∀(k:Nat) (hk:k<i),(L[k]'(by omega)).2≠L[i].2)))→JdO ns L
 | [],ns,_=>⟨rfl,trivial⟩
 | x::L,ns,h=>by
  have h0:=h 0 (by simp);simp only[List.getElem_cons_zero,Nat.add_zero]at h0;have ih:=Jmu L (ns++[x.2]) fun i hi=>by
   have hi':=h (i+1) (by simp;omega);simp only[List.getElem_cons_succ]at hi';refine⟨by rw[hi'.1,List.length_append,List.length_singleton];omega,?_⟩
   rcases hi'.2 with e|⟨e1,e2⟩
   ·exact .inl e
   ·refine .inr ⟨fun hm=>?_,fun k hk=>?_⟩
    ·rcases List.mem_append.1 hm with hm|hm
     ·exact e1 hm
     ·have:=e2 0 (by omega);simp only[List.getElem_cons_zero]at this;exact this (List.mem_singleton.1 hm).symm
    ·have:=e2 (k+1) (by omega)
     simpa only[List.getElem_cons_succ]using this
  refine⟨?_,?_,ih.2⟩
  ·rw[List.map_cons,Jc5];have e:=ih.1;rw[List.length_append,List.length_singleton]at e;rw[←e,←h0.1]
  ·exact h0.2.imp id (·.1)
theorem Jtt {t:Tr} (h:Jfu (JaP t)):JdO [] (Ja0 t):=by
 refine Jmu _ _ fun i hi=>?_
 unfold Ja0 at hi ⊢;rw[List.length_map]at hi;obtain⟨h1,h2⟩:=h i hi;simp only[List.getElem_map];refine⟨by simpa [JcF]using h1,?_⟩
 by_cases he:(JaP t)[i].fld.name.toList=[]
 ·exact .inl he
 ·exact .inr ⟨by simp,fun k hk e=>h2 k hk ⟨e,he⟩⟩
theorem JmW {t:Tr} (h:JbU t) {s:ByteArray} (hs:s.toList=Jad t) :
  (1024<s.size→JdK s 32=.bad 2 0 s.size)∧(s.size≤1024→∃u,JdK s 32=.tree u∧Ja0 u=Ja0 t∧Jad u=Jad t):=by
 obtain⟨hd,hw,hsh,hc⟩:=h;have h0:¬((32:Int)<0∨(63:Int)<32):=by decide
 refine⟨fun hb=>?_,fun hb=>?_⟩
 ·unfold JdK;rw[if_neg h0,if_pos hb]
 obtain⟨-,-,q⟩:=Jtx t hsh;have F:=Je2 t hsh;have hlen:s.size=(Jad t).length:=by rw[Jnk,hs]
 have hl:Jaa s 0=Jad t++[]:=by unfold Jaa;rw[List.drop_zero,hs,List.append_nil]
 have hend:Jac (Jaa s s.size) = -1:=Jil s _ (Nat.le_refl _);have h1:=q s 0 [] [] (Jtt hc) hl (.inl rfl) 0 [] (Jaf t) s.size 32 (Jbr t) (by
  unfold Jfy;rw[Nat.zero_add,←hlen,if_neg (by rw[hend];decide),List.nil_append,List.nil_append])
 have h2:JaN s (JdU s) 0 32 [] []=.ok (Jaf t) s.size 32 (Jbr t):=Jif (by unfold JdU;omega) h1;have e1:=Jx9 t hsh;have e2:=Jxq t hsh;have e3:=Jwh t hsh;have e4:=JxM t hsh;have hu:Jay (Jao (Jaf t)):=by
  have hr:=(Jk3 s (JdU s)).1 0 32 [] [] [] (Nat.zero_le _) (by unfold JaV;decide) Jml (Je4 _);rw[List.nil_append,h2]at hr;obtain⟨-,-,-,new,-,-,hfine⟩:=hr.1;have:=Jju hfine F.2.1.1;exact this.1 _ (by simp)
 refine⟨Jao (Jaf t),?_,by rw[JkI,e3.2],by rw[JjF F.2.1.1,e4.2]⟩;unfold JdK;rw[if_neg h0,if_neg (by omega),hs,JkO _ (Jy7 t hsh),if_neg (by decide),show Jag 32 2=false by kernel_rfl,if_neg (by decide),h2];simp only;rw[if_neg (Nat.lt_irrefl _)];unfold Jc7;rw[if_neg (by omega),if_neg];rw[Jqc _ hu];have e5:=Jqc t hsh;have e6:=e2.2.2;unfold Jaz at e5 ⊢;omega
end Go.Proofs.YtaaoamkagppodaaGreatDoor
