/- Texts merged by program. No condition. -/
import Derived.Test.YtaaoamkagppodaaGreatDoorK17
import Derived.Test.YtaaoamkagppodaaGreatDoorK12
import Derived.Test.YtaaoamkagppodaaGreatDoorK50
import Derived.Lib.TrimU
set_option maxHeartbeats 800000
set_option maxRecDepth 100000
set_option linter.unusedVariables false
namespace Go.Proofs.YtaaoamkagppodaaGreatDoor
open Go Go.RowKit
def Jcc (w:World) (b:Nat) (t:TypeId):Prop:=∃cs f,w.heap[b]? = some (.cells cs t f)
theorem Whole.kind {w:World} {b:Nat} {t:TypeId} {cs:Array Value} (h:Whole w b t cs):Jcc w b t:=⟨cs,_,h⟩
theorem Jcc.ne {w:World} {a b:Nat} {t u:TypeId} (h:Jcc w a t) (k:Jcc w b u) (hne:t≠u):a≠b:=by
 rintro rfl;obtain⟨c1,f1,h1⟩:=h;obtain⟨c2,f2,h2⟩:=k;rw[h1]at h2;injection h2 with h2;injection h2 with _ h2;exact hne h2
theorem Jcc.lt {w:World} {b:Nat} {t:TypeId} (h:Jcc w b t):b<w.heap.size:=by
 obtain⟨c,f,h⟩:=h;exact(Array.getElem?_eq_some_iff.1 h).1
structure JaX (q:Option Nat) (v:Value) (n:Nat) (w w':World):Prop where
 os:w'.os=w.os
 tape:w'.tape=w.tape
 output:w'.output=w.output
 size:w.heap.size≤w'.heap.size
 block:∀k,k<w.heap.size→q≠some k→v.ownBlock≠some k→w'.heap[k]? = w.heap[k]?
 row:∀b,v.ownBlock=some b→b<w.heap.size→q≠some b→∀i,i<n*2→w'.cell? ⟨b,i,none⟩=w.cell? ⟨b,i,none⟩
 kind:∀b t,Jcc w b t→q≠some b→Jcc w' b t
theorem JaX.of_grown {q:Option Nat} {v:Value} {n:Nat} {w w':World} (h:w.grownBy w' q):JaX q v n w w' where
 os:=h.os
 tape:=h.tape
 output:=h.output
 size:=h.size
 block:=fun k hk hq _=>h.block k hk (fun e=>hq e.symm)
 row:=fun b hb hl hq i hi=>World.cell?_of_block (h.block b hl (fun e=>hq e.symm))
 kind:=fun b t hk hq=>by
  obtain⟨c,f,hk'⟩:=hk;exact⟨c,f,(h.block b (Array.getElem?_eq_some_iff.1 hk').1 (fun e=>hq e.symm)).trans hk'⟩
theorem JaX.of_none {q:Option Nat} {v:Value} {n:Nat} {w w':World} (h:JaX none v n w w'):JaX q v n w w' :=
 ⟨h.os,h.tape,h.output,h.size,fun k hk _ hv=>h.block k hk (by simp) hv,fun b hb hl _=>h.row b hb hl (by simp),fun b t hk _=>h.kind b t hk (by simp)⟩
theorem JaX.trans {q:Option Nat} {v:Value} {n:Nat} {w w1 w2:World} (h:JaX q v n w w1) (k:JaX q v n w1 w2):JaX q v n w w2 where
 os:=k.os.trans h.os
 tape:=k.tape.trans h.tape
 output:=k.output.trans h.output
 size:=Nat.le_trans h.size k.size
 block:=fun b hb hq hv=>(k.block b (Nat.lt_of_lt_of_le hb h.size) hq hv).trans (h.block b hb hq hv)
 row:=fun b hb hl hq i hi=>(k.row b hb (Nat.lt_of_lt_of_le hl h.size) hq i hi).trans (h.row b hb hl hq i hi)
 kind:=fun b t hb hq=>k.kind b t (h.kind b t hb hq) hq
theorem JaX.below {q:Option Nat} {v:Value} {n B:Nat} {w0 w w':World} (h:JaX q v n w w') (hb:Below B w0 w) (hB:B≤w.heap.size) (hq:∀b,q=some b→B≤b) (hv:∀b,v.ownBlock=some b→B≤b):Below B w0 w' :=
 hb.trans ⟨h.os,h.tape,h.output,h.size,fun k hk=>h.block k (by omega) (fun e=>by have:=hq k e;omega) (fun e=>by have:=hv k e;omega)⟩
theorem JaX.whole {q:Option Nat} {v:Value} {n:Nat} {w w':World} (h:JaX q v n w w') {b:Nat} {u:TypeId} {cs:Array Value} (hb:Whole w b u cs) (hq:q≠some b) (hv:v.ownBlock≠some b):Whole w' b u cs:=(h.block b hb.lt hq hv).trans hb
theorem JaR {w:World} {B:Nat} {e:TypeId} {sz n b:Nat} {v:Value} {xs:List Value} (h:w.ownsRow B e sz v n xs) (hb:v.ownBlock=some b):Jcc w b e:=by
 rcases h.2 with⟨rfl,_⟩|⟨g,cap,cur,rfl,_,hh,_⟩
 ·simp[Value.ownBlock]at hb
 ·obtain rfl:g=b:=by simpa [Value.ownBlock]using hb
  exact⟨_,_,hh⟩
theorem JdF {w w':World} {B:Nat} {e:TypeId} {sz n:Nat} {v:Value} {xs:List Value} (h:w.ownsRow B e sz v n xs) (hk:∀b,v.ownBlock=some b→w'.heap[b]? = w.heap[b]?):w'.ownsRow B e sz v n xs:=by
 refine⟨h.1,?_⟩
 rcases h.2 with h2|⟨g,cap,cur,rfl,h3,hh,h4⟩
 ·exact .inl h2
 ·exact .inr ⟨g,cap,cur,rfl,h3,(hk g (by simp[Value.ownBlock])).trans hh,h4⟩
theorem Jsw (w:World) (B:Nat) (v:Value) (O:List (Int × Int)) (ty:TypeId) (hown:Jae w B v O) (a:Addr) (c:Nat) (x1 x2:Int) (ht:Rgs w (.slice (some a) 1 c) [(x1,x2)]) (hn:O.length≤8796093022208) (hB:B≤w.heap.size) :
  ∃v' w',(Builtin.append_ #[26,26] ty #[v,.slice (some a) 1 c]).run Tryz.prog w=.ok v' w'∧Jae w' B v' (O++[(x1,x2)])∧JaX none v O.length w w'∧(∃g c',v'=.slice (some ⟨g,0,none⟩) (O.length+1) c'∧(v.ownBlock=some g∨g=w.heap.size)):=by
 obtain⟨i,hi,hz,hsize,hby⟩:=info_parts Jgs;obtain⟨a',c',h1,h2,h3,h4,h5,h6⟩:=ht;injection h1 with e1 e2 e3;subst e1 e3;have hall:JaY (O++[(x1,x2)]):=fun r hr=>(List.mem_append.1 hr).elim (hown.2 r) (h6 r)
 have hnews:∀j u,(JaB [(x1,x2)])[j]? = some u→w.cell? (a.add j)=some u:=by
  intro j u hu;obtain⟨q,hq,hh⟩:=Jhx [(x1,x2)] j u hu
  rcases h5 with h5|⟨b,off,e,hc⟩
  ·cases h5
  ·have e:=Option.some.inj e;subst e;have hadd:(⟨b,off,none⟩:Addr).add j=⟨b,off+j,none⟩:=by unfold Addr.add;split<;>simp_all
   rw[hadd]
   rcases hh with⟨rfl,rfl⟩|⟨rfl,rfl⟩
   ·exact(hc q hq).1
   ·have:=(hc q hq).2;rw[show off+(q*2+1)=off+q*2+1 by omega];exact this
 have hl:(JaB [(x1,x2)]).length=1*i.size:=by rw[hsize];rfl
 have hx:∀W V,W.ownsRow B 44 2 V (O.length+1) (JaB O++JaB [(x1,x2)])→Jae W B V (O++[(x1,x2)]):=by
  intro W V hW;refine⟨?_,hall⟩;rw[JgT,List.length_append];exact hW
 have hfresh:∀o:Obj,JaX none v O.length w (w.drew.alloc o):=fun o=>JaX.of_grown ⟨rfl,rfl,rfl,by simp,fun k hk _=>Below.heap_alloc w.drew _ k hk⟩
 have hO:=hown.1;obtain⟨hO1,hO2⟩:=hO;have hlen2:(JaB O++JaB [(x1,x2)]).length=(O.length+1)*2:=by rw[List.length_append,hO1,show (JaB [(x1,x2)]).length=2 from rfl];omega
 rcases hO2 with⟨rfl,h0⟩|⟨g,cap,cur,rfl,hbg,hg,hnc,hcm,hcs,htake⟩
 ·have hnil:O=[]:=List.eq_nil_of_length_eq_zero h0;subst hnil;have hr:=run_append_nil (P:=Tryz.prog) w 26 ty 44 i (.agg #[.int .i32 0,.int .i32 0]) Tryz.underlying26 hi hz a 1 c (JaB [(x1,x2)]) hl hnews (by decide) (by decide) (by rw[hby];decide);refine⟨_,_,hr,hx _ _ ?_,hfresh _,w.heap.size,_,rfl,.inr rfl⟩;have hge:=grownCap_ge w 1 0 44;refine⟨by simp[JaB],.inr ⟨w.heap.size,_,_,rfl,hB,heap_alloc_new w.drew _,by simpa using hge,grownCap_le_maxLen w 1 0 _ (by decide),?_,?_⟩⟩
  ·simp only[Array.size_append,List.size_toArray,size_zeroCells];have:(JaB [(x1,x2)]).length=2:=rfl;have h2:(Value.agg #[.int .i32 0,.int .i32 0]).cells.size=2:=rfl;rw[this,h2];omega
  ·simp only[Array.toList_append];exact List.take_left (l₁:=JaB [(x1,x2)])
 ·by_cases hroom:O.length+1≤cap
  ·have hfit:O.length*i.size+(JaB [(x1,x2)]).length≤cur.size:=by rw[hl,hcs,hsize,←Nat.add_mul];exact Nat.mul_le_mul_right _ hroom
   have hr:=run_append_room (P:=Tryz.prog) w 26 ty 44 i Tryz.underlying26 hi g O.length cap cur hg a 1 c (JaB [(x1,x2)]) hl hnews (JiG _) hroom hfit;refine⟨_,_,hr,hx _ _ ?_,?_,g,cap,rfl,.inl rfl⟩
   ·refine⟨by rw[List.length_append,hO1,hl,hsize,←Nat.add_mul],.inr ⟨g,cap,_,rfl,hbg,setRow_heap w g cur _ _ _ hg,hroom,hcm,?_,?_⟩⟩
    ·simp only[List.size_toArray,List.length_append,List.length_take,List.length_drop,Array.length_toList];have:=hl;rw[hsize]at this hfit;rw[hsize];omega
    ·have e1:cur.toList.take (O.length*i.size)=JaB O:=by rw[hsize];exact htake
     rw[e1,show (O.length+1)*2=(JaB O++JaB [(x1,x2)]).length from hlen2.symm];exact List.take_left
   ·have hset:=setRow_heap w g cur (cur.toList.take (O.length*i.size)++JaB [(x1,x2)]++cur.toList.drop (O.length*i.size+(JaB [(x1,x2)]).length)).toArray _ _ hg;refine⟨rfl,rfl,rfl,by simp,fun k _ _ hk=>setRow_other w g k _ (fun e=>hk (by simp[Value.ownBlock,e])),?_,?_⟩
    ·intro b hb _ _ j hj;obtain rfl:g=b:=by simpa [Value.ownBlock]using hb
     rw[cell_of_row _ _ _ _ _ _ hset,cell_of_row _ _ _ _ _ _ hg];have hj2:j<O.length*2:=hj;have hjl:j<cur.size:=by omega
     rw[List.getElem?_toArray,List.append_assoc,List.getElem?_append_left (by rw[List.length_take,hsize,Array.length_toList (xs:=cur)];omega),List.getElem?_take_of_lt (by rw[hsize];omega),Array.getElem?_toList]
    ·intro b t hb _
     by_cases e:b=g
     ·subst e;obtain⟨c1,f1,h1⟩:=hb;rw[hg]at h1;injection h1 with h1;injection h1 with _ h1;subst h1;exact⟨_,_,hset⟩
     ·obtain⟨c1,f1,h1⟩:=hb;exact⟨c1,f1,(setRow_other w g b _ (by first|exact e|exact fun x=>e x.symm)).trans h1⟩
  ·have holds:∀j u,(JaB O)[j]? = some u→w.cell? ((⟨g,0,none⟩:Addr).add j)=some u:=World.ownsRow.cells (g:=g) hown.1 rfl;have hr:=run_append_grow (P:=Tryz.prog) w 26 ty 44 i (.agg #[.int .i32 0,.int .i32 0]) Tryz.underlying26 hi hz ⟨g,0,none⟩ O.length cap (JaB O) (by rw[hsize];exact hO1) holds a 1 c (JaB [(x1,x2)]) hl hnews (by omega) (by omega) (growslice_fits (by omega) (by rw[hby];omega));refine⟨_,_,hr,hx _ _ ?_,hfresh _,w.heap.size,_,rfl,.inr rfl⟩;have hge:=grownCap_ge w (O.length+1) cap 44;refine⟨by rw[List.length_append,hO1,hl,hsize,←Nat.add_mul],.inr ⟨w.heap.size,_,_,rfl,hB,heap_alloc_new w.drew _,hge,grownCap_le_maxLen w _ _ _ (by unfold maxLen;omega),?_,?_⟩⟩
   ·simp only[Array.size_append,List.size_toArray,size_zeroCells];have h1:(JaB [(x1,x2)]).length=2:=rfl;have h2:(Value.agg #[.int .i32 0,.int .i32 0]).cells.size=2:=rfl;rw[h1,h2,hO1];omega
   ·simp only[Array.toList_append];rw[show (O.length+1)*2=(JaB O++JaB [(x1,x2)]).length from hlen2.symm];exact List.take_left
def Jcm (w:World) (v:Value) (l:List (Int × Int)) (sp:Value) (n:Nat):Prop:=
 Rgs w v l∧(l=[]∨∃b o c,v=.slice (some ⟨b,o,none⟩) l.length c∧Jcc w b 44∧(sp.ownBlock=some b→o+l.length*2≤n*2))
theorem Jcm.keeps {q:Nat} {t:TypeId} {w w':World} {v sp sp':Value} {l:List (Int × Int)} {n n':Nat} (h:Jcm w v l sp n) (hk:JaX (some q) sp n w w') (hq:Jcc w q t) (hne:t≠44)
  (hsp:sp'.ownBlock=sp.ownBlock∨∃g,sp'.ownBlock=some g∧w.heap.size≤g) (hn:n≤n'):Jcm w' v l sp' n':=by
 obtain⟨⟨a,c,h1,h2,h3,h4,h5,h6⟩,h7⟩:=h
 rcases h7 with h7|⟨b,o,c2,h8,h9,h10⟩
 ·exact⟨⟨a,c,h1,h2,h3,h4,.inl h7,h6⟩,.inl h7⟩
 ·have hbq:some q≠some b:=fun e=>(hq.ne h9 hne) (Option.some.inj e)
  rw[h8]at h1;injection h1 with e1 e2 e3;subst e1 e3;refine⟨⟨_,c2,h8,h2,h3,h4,?_,h6⟩,.inr ⟨b,o,c2,h8,hk.kind b _ h9 hbq,?_⟩⟩
  ·rcases h5 with h5|⟨b2,o2,e,hc⟩
   ·exact .inl h5
   ·injection e with e;injection e with e1 e2;subst e1 e2;refine .inr ⟨b,o,rfl,fun i hi=>?_⟩
    by_cases hs:sp.ownBlock=some b
    ·have h11:=h10 hs;exact⟨(hk.row b hs h9.lt hbq _ (by omega)).trans (hc i hi).1,(hk.row b hs h9.lt hbq _ (by omega)).trans (hc i hi).2⟩
    ·have h11:=hk.block b h9.lt hbq hs;exact⟨(World.cell?_of_block h11).trans (hc i hi).1,(World.cell?_of_block h11).trans (hc i hi).2⟩
  ·intro hs
   rcases hsp with hsp|⟨g,hg,hl⟩
   ·have:=h10 (hsp.symm.trans hs);omega
   ·rw[hg]at hs;have:=Option.some.inj hs;have:=h9.lt;omega
theorem Jcm.rgs {w:World} {v sp:Value} {l:List (Int × Int)} {n:Nat} (h:Jcm w v l sp n):Rgs w v l:=h.1
theorem Jcm.own {w:World} {B:Nat} {v sp:Value} {l:List (Int × Int)} {n:Nat} (h:Jae w B v l) (hs:∀b,sp.ownBlock=some b→b<B):Jcm w v l sp n:=by
 refine⟨h.rgs,?_⟩
 rcases h.1.2 with⟨_,h0⟩|⟨g,cap,cur,hv,hbg,hg,_⟩
 ·exact .inl (List.eq_nil_of_length_eq_zero h0)
 ·exact .inr ⟨g,0,cap,hv,⟨_,_,hg⟩,fun e=>by have:=hs g e;omega⟩
theorem Jcm.grown {w w':World} {v sp:Value} {l:List (Int × Int)} {n:Nat} (h:Jcm w v l sp n) {row:Option Nat} {t:TypeId} (hg:w.grownBy w' row) (hr:∀b,row=some b→Jcc w b t) (hne:t≠44):Jcm w' v l sp n:=by
 obtain⟨⟨a,c,h1,h2,h3,h4,h5,h6⟩,h7⟩:=h
 rcases h7 with h7|⟨b,o,c2,h8,h9,h10⟩
 ·exact⟨⟨a,c,h1,h2,h3,h4,.inl h7,h6⟩,.inl h7⟩
 ·have hb:w'.heap[b]? = w.heap[b]? := hg.block b h9.lt (fun e=>((hr b e.symm).ne h9 hne) rfl);obtain⟨cs,f,h9'⟩:=h9;refine⟨⟨a,c,h1,h2,h3,h4,?_,h6⟩,.inr ⟨b,o,c2,h8,⟨cs,f,hb.trans h9'⟩,h10⟩⟩
  rcases h5 with h5|⟨b2,o2,e,hc⟩
  ·exact .inl h5
  ·rw[h8]at h1;injection h1 with e1;rw[e]at e1;injection e1 with e1;injection e1 with e1;subst e1;exact .inr ⟨b,o2,e,fun i hi=>⟨(World.cell?_of_block hb).trans (hc i hi).1,(World.cell?_of_block hb).trans (hc i hi).2⟩⟩
theorem JuH (s:ByteArray) (i:Nat) (w:World) (hs:s.size≤4503599627370496) (hi:i≤s.size):Calls Tryz.prog 113 #[.string s,.int .i64 i] w fun e w'=>e=.returned (.agg #[.string s,.int .i64 i])∧Below w.heap.size w w':=by
 have x1:¬(i:Int)<0:=by omega
 have x2:¬(s.size:Int)<(i:Int):=by omega
 go_enter Tryz.func113,Tryz.ntmps113
 go_wp2
 have hW:Whole (w.alloc (.cells #[.string s,.int .i64 i] 147)) w.heap.size 147 #[.string s,.int .i64 i]:=heap_alloc_new w _;refine bodyPost_ret (results_cell_row Tryz.results113 _ _ w.heap.size 147 _ (0,0) _ rfl hW Tryz.underlying147 rfl (by kernel_rfl)) rfl ?_;exact⟨rfl,(Below.refl _ w).alloc (Nat.le_refl _) _⟩
theorem JiN (q:Nat) (t:TypeId) (r:List Value) (s:ByteArray) (i:Nat) (w:World) (hi:i≤s.size) (h:Jas w q t r s i) :
  Calls Tryz.prog 135 #[.pointer (some ⟨q,0,none⟩)] w fun e w'=>e=.returned (.string (s.extract i s.size))∧∃n,w'=w.drewN n:=by
 have c0:=h.c0;have c1:=h.c1;have y2:(i:Int)≤(s.size:Int):=by omega
 clear h
 go_enter Tryz.func135,Tryz.ntmps135
 go_wp2_with fail
 go_big_quiet (fail)
 go_wp2
 go_ret;exact⟨rfl,_,rfl⟩
theorem JjU (q:Nat) (t:TypeId) (r:List Value) (s part:ByteArray) (i:Nat) (w:World) (hs:s.size≤4503599627370496) (hp:part.size≤100) (hi:i≤s.size) (h:Jas w q t r s i) :
  Calls Tryz.prog 114 #[.pointer (some ⟨q,0,none⟩),.string part] w (JhE q t r s part i w):=by
 obtain⟨b,hb⟩:∃b,Jat part.toList (Jaa s i)=b:=⟨_,rfl⟩;have hP:∀W,Calls Tryz.prog 91 #[.string (s.extract i s.size),.string part] W fun e w'=>e=.returned (.bool b)∧w'=W:=fun W=>by
  have:=Tryz.strings_HasPrefix (s.extract i s.size) part W;rw[Jhk,hb]at this;exact this
 have HL:=Hd (JiN q t r s i w hi h);have HH:=Hd h;have HB:=Hd hb;have HP:=Hd hP;have y2:(i:Int)≤(s.size:Int):=by omega
 have y3:IntKind.i64.wrap ((i:Int)+(part.size:Int))=(i:Int)+(part.size:Int):=JbW _ (by omega);clear h hb hP;unfold JhE
 go_enter Tryz.func114,Tryz.ntmps114
 go_wp2_with fail;refine HL.out.mono ?_;rintro e w1 ⟨rfl,n,rfl⟩;have HR:=Hd (HH.out.drewN n);have HG:=Hd (Jcd w n (some q))
 generalize w.drewN n=w1 at HR HG ⊢
 have c1:=HR.out.c1;have f1:=HR.out.f1;go_wp2_with fail;refine(HP.out _).mono ?_;rintro e w2 ⟨rfl,rfl⟩
 cases b
 ·go_wp2
  go_ret;exact⟨false,HB.out,rfl,HG.out,HR.out⟩
 ·go_wp2
  go_ret;exact⟨true,HB.out,rfl,Jaq HG.out (JbL _ _ _ _),HR.out.put _ _ (by rfl)⟩
def JfO:Value:=.iface 145 (.agg #[])
def Jal (v:Value):Ending:=.panicked [{ v:=v,recovered:=false }]
def JoJ (q:Nat) (t:TypeId) (r:List Value) (s:ByteArray) (i:Nat) (w:World) (e:Ending) (w':World):Prop:=
 JaG q t r s (i+(Jbb s i).2) w w'∧e=if i<s.size then .returned (.int .i32 ((Jbb s i).1:Int))else Jal JfO
theorem Jsb (q:Nat) (t:TypeId) (r:List Value) (s:ByteArray) (i:Nat) (w:World) (hs:s.size≤4503599627370496) (hi:i≤s.size) (h:Jas w q t r s i) (hT:Lib.Utf8Tabs 0 1 w) :
  Calls Tryz.prog 172 #[.pointer (some ⟨q,0,none⟩)] w (JoJ q t r s i w):=by
 have hL:=JiN q t r s i w hi h;have hf:=Ji6 hi;have hp0:i<s.size→0<(Jbb s i).2:=fun hlt=>by
  unfold Jbb;rw[if_pos hlt];have:=Jf6 s i hlt;omega
 have hp1:¬i<s.size→(Jbb s i).2=0:=fun hlt=>by
  unfold Jbb;rw[if_neg hlt]
 unfold JoJ;have hD:=fun k=>JkV s i (w.drewN k) hi (Utf8Tabs_below hT (JcZ w k))
 obtain⟨⟨c,n⟩,hr⟩:∃x,Jbb s i=x:=⟨_,rfl⟩;rw[hr]at hD hf hp0 hp1 ⊢;simp only at hD hf hp0 hp1 ⊢;obtain⟨E,hE⟩:∃E,(if i<s.size then .returned (.int .i32 (c:Int))else Jal JfO)=E:=⟨_,rfl⟩;rw[hE];have HL:=Hd hL;have HD:=Hd hD;have HH:=Hd h;have y2:(i:Int)≤(s.size:Int):=by omega
 have y3:IntKind.i64.wrap ((i:Int)+(n:Int))=(i:Int)+(n:Int):=JbW _ (by omega);clear h hD hL hr hT
 by_cases hlt:i<s.size
 ·have b0:((n:Int)==0)=false:=beq_eq_false_iff_ne.2 (by have:=hp0 hlt;omega);have HE:=Hd ((if_pos hlt).symm.trans hE);clear hp0 hp1 hlt hE
  go_enter Tryz.func172,Tryz.ntmps172
  go_wp2_with fail;refine HL.out.mono ?_;rintro e w1 ⟨rfl,k,rfl⟩;go_wp2_with fail;refine(HD.out k).mono ?_;rintro e w2 ⟨rfl,hb2⟩;have HR2:=Hd ((HH.out.drewN k).below hb2);have HG2:=Hd (Jaq (Jcd w k (some q)) (Jbk hb2 _));have c1:=HR2.out.c1;have f1:=HR2.out.f1;clear hb2
  go_wp2
  go_ret;exact⟨⟨Jaq HG2.out (JbL _ _ _ _),HR2.out.put _ _ (by rfl)⟩,HE.out⟩
 ·have b0:((n:Int)==0)=true:=beq_iff_eq.2 (by have:=hp1 hlt;omega);have HE:=Hd ((if_neg hlt).symm.trans hE);have HN:=Hd (hp1 hlt);clear hp0 hp1 hlt hE
  go_enter Tryz.func172,Tryz.ntmps172
  go_wp2_with fail;refine HL.out.mono ?_;rintro e w1 ⟨rfl,k,rfl⟩;go_wp2_with fail;refine(HD.out k).mono ?_;rintro e w2 ⟨rfl,hb2⟩;have HR2:=Hd ((HH.out.drewN k).below hb2);have HG2:=Hd (Jaq (Jcd w k (some q)) (Jbk hb2 _));clear hb2
  go_wp2
  refine⟨rfl,⟨HG2.out,?_⟩,HE.out⟩;rw[HN.out];exact HR2.out
inductive Jfr where
 | esc (k r:Int) (l:List (Int × Int)) (a:Int) (n:Nat)
 | bad (c:Int) (till:Nat)
def JdX (s:ByteArray) (c:Int) (b:Nat) (p:Bool):Jfr:=
 if JbS c=true then .esc 1 c [] 0 b else if 0≤Jfx c then .esc 1 (Jfx c) [] 0 b else
 if c=120 then (match JeO s b with
  | none=>.bad 61 b
  | some (v,k)=>.esc 1 v [] 0 k)
 else if c=112∨c=80 then (match Jgy s b with
  | none=>.bad 61 b
  | some (nm,k)=>match Jfh nm (decide (c=80)) with
   | none=>.bad 63 k
   | some l=>.esc 2 0 l 0 k)
 else match Jen c with
  | none=>.bad 61 b
  | some (k,l,a)=>if p=true then .esc k 0 l a b else .bad 61 b
def Jck (s:ByteArray) (i:Nat) (p:Bool):Jfr:=
 if ¬Jac (Jaa s i)=92 then .bad 1 i else if i+1=s.size then .bad 62 (i+1)else JdX s ((Utf8.decode s (i+1)).1:Nat) (i+1+(Utf8.decode s (i+1)).2) p
def Jd3 (R:Jfr) (i:Nat) (w:World) (e:Ending) (w':World):Prop:=
 Below w.heap.size w w'∧match R with
  | .esc k r l a n=>∃v,e=.returned (.tuple #[Jdn k r v a,.int .i64 (n:Int),Jbx 0 0 0])∧Jae w' w.heap.size v l
  | .bad c till=>e=.returned (.tuple #[Jdn 0 0 (.slice none 0 0) 0,.int .i64 0,Jbx c i till])
theorem JeB {W:World} {a b:Nat} {x0 x1 x2 x3 y0 y1 y2 u0 u1 u2 u3 v0 v1 v2:Value} (hE:Whole W a 155 #[x0,x1,x2,x3]) (hF:Whole W b 32 #[y0,y1,y2]) (hab:a≠b) :
  Whole (Jaw (JaK W a u0 u1 u2 u3) b v0 v1 v2) a 155 #[u0,u1,u2,u3]∧Whole (Jaw (JaK W a u0 u1 u2 u3) b v0 v1 v2) b 32 #[v0,v1,v2]:=
 ⟨(Jcv hab _ _ _).trans (Jbn hE _ _ _ _),JaL ((Jcn (Ne.symm hab) _ _ _ _).trans hF) _ _ _⟩
def Jcj (s:ByteArray) (i:Nat) (p:Bool):Jfr:=
 if Jac (Jaa s i)=92 then Jck s i p else .esc 1 ((Utf8.decode s i).1:Nat) [] 0 (i+(Utf8.decode s i).2)
inductive JfI where
 | item (l:List (Int × Int)) (n:Nat)
 | bad (c:Int) (a b:Nat)
def Jee (s:ByteArray) (i:Nat) (r:Int) (n:Nat) (p:Bool):JfI:=
 if Jac (Jaa s n)=45∧0≤Jac (Jaa s (n+1))∧Jac (Jaa s (n+1))≠93 then
  match Jcj s (n+1) p with
  | .bad c till=>.bad c (n+1) till
  | .esc k r2 _ _ n2=>if k≠1∨r2<r then .bad 72 i n2 else .item [(r,r2)] n2
 else .item [(r,r)] n
def Jco (s:ByteArray) (i:Nat) (p:Bool):JfI:=
 match Jdr s i with
 | some k=>(match JfK ((Jaa s (i+2)).take (k-(i+2))) with
  | none=>.bad 72 i (k+2)
  | some l=>.item l (k+2))
 | none=>match Jcj s i p with
  | .bad c till=>.bad c i till
  | .esc k r l a n=>if k=2 then .item l n else if k≠1 then .bad 72 i n else Jee s i r n p
def Jcz (s:ByteArray) (at':Nat) (p:Bool):Nat→Nat→Bool→List (Int × Int)→JfI
 | 0,_,_,_=>.bad 71 at' s.size
 | m+1,i,first,all =>
  if s.size≤i then .bad 71 at' s.size else
  if Jac (Jaa s i)=93∧first=false then .item all (i+1) else
  match Jco s i p with
  | .bad c a b=>.bad c a b
  | .item l n=>Jcz s at' p m n false (all++l)
def JcY (s:ByteArray) (i:Nat):Bool:=decide (Jac (Jaa s (i+1))=94)
def JdG (s:ByteArray) (i:Nat) (p:Bool):JfI:=
 if ¬Jac (Jaa s i)=91 then .bad 1 i i else Jcz s i p (s.size+1) (i+1+(if JcY s i then 1 else 0)) true []
def Jfs (fold:Bool) (all:List (Int × Int)) (c:Int):Prop:=if fold=true then ∃d,Jan all d∧c∈JaJ d else Jan all c
def Jgk (fold not':Bool) (all:List (Int × Int)) (c:Int):Prop:=if not'=true then 0≤c∧c≤1114111∧¬Jfs fold all c else Jfs fold all c
theorem JtU {s:ByteArray} {b k:Nat} {v:Int} (h:JeO s b=some (v,k)):b<k∧k≤s.size∧0≤v∧v≤1114111:=by
 unfold JeO at h
 split at h
 ·rename_i h1
  have h2:0≤Jac (Jaa s (b+1)):=by
   have:=h1.2;unfold Jbq at this
   repeat' split at this
   all_goals omega
  have h3:=Jbo h2;have h4:=Jgn (Jac (Jaa s b));have h5:=Jgn (Jac (Jaa s (b+1)))
  cases h
  omega
 ·split at h
  ·cases h
  ·split at h
   ·cases h
   ·split at h
    ·cases h
    ·split at h
     ·cases h
     ·rename_i h1 h2 h3 h4 h5
      have h6:=JlO (Jaa s (b+1)) 0 (by omega);have h7:Jac (Jaa s (b+1+(Jbz (Jaa s (b+1)) 0).2))=125:=Classical.not_not.1 h4;have h8:=Jbo (s:=s) (i:=b+1+(Jbz (Jaa s (b+1)) 0).2) (by omega)
      cases h
      omega
theorem Jot {s:ByteArray} {b k:Nat} {nm:List UInt8} (h:Jgy s b=some (nm,k)):b<k∧k≤s.size:=by
 unfold Jgy at h
 split at h
 ·cases h
 ·rename_i h0
  have hb:b<s.size:=by omega
  have h1:=JeG s b hb;have h2:=Jf6 s b hb
  split at h
  ·cases h
   omega
  ·split at h
   ·cases h
    omega
   ·cases h
def JkG (s:ByteArray) (i:Nat):Jfr→Prop
 | .esc _ r l _ n=>i<n∧n≤s.size∧0≤r∧r≤1114111∧Jak l
 | .bad c _=>0<c
theorem JyW (s:ByteArray) (i:Nat) (c:Int) (b:Nat) (p:Bool) (hi:i<b) (hb:b≤s.size) (h0:0≤c) (h1:c≤1114111):JkG s i (JdX s c b p):=by
 unfold JdX
 split
 ·exact⟨hi,hb,h0,h1,trivial⟩
 split
 ·rename_i hl
  refine⟨hi,hb,hl,?_,trivial⟩;unfold Jfx
  repeat' split
  all_goals omega
 split
 ·split
  ·exact(by decide:(0:Int)<61)
  ·rename_i v k hn
   obtain⟨a1,a2,a3,a4⟩:=JtU hn;exact⟨by omega,a2,a3,a4,trivial⟩
 split
 ·split
  ·exact(by decide:(0:Int)<61)
  ·rename_i nm k hn
   obtain⟨a1,a2⟩:=Jot hn
   split
   ·exact(by decide:(0:Int)<63)
   ·rename_i l hl
    exact⟨by omega,a2,by decide,by decide,Jnv hl⟩
 split
 ·exact(by decide:(0:Int)<61)
 ·rename_i k l a hl
  split
  ·refine⟨hi,hb,by decide,by decide,?_⟩;unfold Jen at hl
   split at hl
   ·cases hl;trivial
   split at hl
   ·cases hl;trivial
   split at hl
   ·cases hl
   split at hl
   ·cases hl
   ·rename_i l' hl'
    cases hl
    exact JsF hl'
  ·exact(by decide:(0:Int)<61)
theorem JiU (s:ByteArray) (i:Nat) (p:Bool) (h:i<s.size):JkG s i (Jck s i p):=by
 unfold Jck
 split
 ·exact(by decide:(0:Int)<1)
 split
 ·exact(by decide:(0:Int)<62)
 ·have h1:i+1<s.size:=by omega
  have h2:=JeG s (i+1) h1;have h3:=Lib.rune_le s (i+1);exact JyW s i _ _ p (by omega) h2 (by omega) (by omega)
theorem Jhv (s:ByteArray) (i:Nat) (p:Bool) (h:i<s.size):JkG s i (Jcj s i p):=by
 unfold Jcj
 split
 ·exact JiU s i p h
 ·have h2:=JeG s i h;have h3:=Lib.rune_le s i;have h4:=Jf6 s i h;exact⟨by omega,h2,by omega,by omega,trivial⟩
def JnU (s:ByteArray) (i:Nat):JfI→Prop
 | .item l n=>i<n∧n≤s.size∧Jak l
 | .bad c _ _=>0<c
theorem JmD (a b:Int) (h0:0≤a) (h1:a≤b) (h2:b≤1114111):Jak [(a,b)]:=⟨h0,h1,h2,trivial⟩
theorem JsD (s:ByteArray) (i:Nat) (r:Int) (n:Nat) (p:Bool) (hi:i<n) (hn:n≤s.size) (h0:0≤r) (h1:r≤1114111):JnU s i (Jee s i r n p):=by
 unfold Jee
 split
 ·rename_i h
  have hlt:=Jbo h.2.1;have hk:=Jhv s (n+1) p hlt
  split
  ·rename_i c till he
   rw[he]at hk;exact hk
  ·rename_i k r2 l a n2 he
   rw[he]at hk;obtain⟨a1,a2,a3,a4,-⟩:=hk
   split
   ·exact(by decide:(0:Int)<72)
   ·rename_i hr
    exact⟨by omega,a2,JmD r r2 h0 (by omega) a4⟩
 ·exact⟨hi,hn,JmD r r h0 (Int.le_refl _) h1⟩
theorem Jk7 (s:ByteArray) (i:Nat) (p:Bool) (h:i<s.size):JnU s i (Jco s i p):=by
 unfold Jco
 split
 ·rename_i k hk
  have:=JkE hk
  split
  ·exact(by decide:(0:Int)<72)
  ·rename_i l hl
   exact⟨by omega,by omega,Jtb hl⟩
 ·have hk:=Jhv s i p h
  split
  ·rename_i c till he
   rw[he]at hk;exact hk
  ·rename_i k r l a n he
   rw[he]at hk;obtain⟨a1,a2,a3,a4,a5⟩:=hk
   split
   ·exact⟨a1,a2,a5⟩
   split
   ·exact(by decide:(0:Int)<72)
   ·exact JsD s i r n p a1 a2 a3 a4
def JfN (R:JfI) (fold not':Bool) (w:World) (e:Ending) (w':World):Prop:=
 Below w.heap.size w w'∧match R with
  | .item all n=>∃v l,e=.returned (.tuple #[v,.int .i64 (n:Int),Jbx 0 0 0])∧Jae w' w.heap.size v l∧Jak l∧∀c,Jan l c↔Jgk fold not' all c
  | .bad c a b=>e=.returned (.tuple #[.slice none 0 0,.int .i64 0,Jbx c a b])
end Go.Proofs.YtaaoamkagppodaaGreatDoor
namespace Go.Proofs.YtaaoamkagppodaaGreatDoor
open Go Go.RowKit
variable {s t:ByteArray} {d i0:Nat}
theorem JkP {a b:ByteArray} (h:a.toList=b.toList):a=b:=by
 rw[Lib.toList_data,Lib.toList_data]at h;obtain⟨⟨a⟩⟩:=a;obtain⟨⟨b⟩⟩:=b;simp only at h;rw[h]
end Go.Proofs.YtaaoamkagppodaaGreatDoor
namespace Go.Proofs.YtaaoamkagppodaaGreatDoor
open Go Go.RowKit
theorem Jj2 {a:Int} (h0:0≤a) (h1:a≤1114111):I32 a:=⟨by omega,by omega⟩
def Jgx (f:Int) (k:Int):Bool:=bits .and .i64 f k != 0
theorem Jqy {l k:List (Int × Int)} (h:∀c,Jan k c↔Jan l c) (c:Int):JfA k c↔JfA l c:=exists_congr fun d=>and_congr_left fun _=>h d
theorem Jnk (b:ByteArray):b.size=b.toList.length:=by rw[Lib.toList_data,←Lib.size_eq]
def Jhn:List UInt8:=[97,98,99,100,101,102,103,104,105,106,107,108,109,110,111,112,113,114,115,116,117,118,119,120,121,122,94]
theorem JvI (c:UInt8):Jhn.contains c=decide ((97≤c.toNat∧c.toNat≤122)∨c.toNat=94):=by
 have h:∀n:Fin 256,Jhn.contains (UInt8.ofFin n)=decide ((97≤n.val∧n.val≤122)∨n.val=94):=by decide
 exact h c.toFin
theorem JqC:∀l:List UInt8,(Lib.trimLeftS l Jhn).length+JcK l=l.length
 | []=>rfl
 | c::t=>by
  have h:=JqC t;unfold Lib.trimLeftS at h ⊢;unfold JcK;rw[List.dropWhile_cons,JvI]
  by_cases hc:(97≤c.toNat∧c.toNat≤122)∨c.toNat=94
  ·rw[if_pos hc,decide_eq_true hc,if_pos rfl];simp only[List.length_cons];omega
  ·rw[if_neg hc,decide_eq_false hc,if_neg (by decide)]
   simp
theorem Jwk (u:ByteArray) (w:World):Calls Tryz.prog 190 #[.string u,.string ⟨#[97,98,99,100,101,102,103,104,105,106,107,108,109,110,111,112,113,114,115,116,117,118,119,120,121,122,94]⟩] w
  fun e w'=>∃x:ByteArray,e=.returned (.string x)∧x.size+JcK u.toList=u.size∧Below w.heap.size w w':=by
 refine(Any.strings_TrimLeft_laid Tryz.lays161 (by kernel_rfl) u ⟨#[97,98,99,100,101,102,103,104,105,106,107,108,109,110,111,112,113,114,115,116,117,118,119,120,121,122,94]⟩ w (by decide) (ascii_of_all (by decide))).mono ?_;rintro e w' ⟨rfl,hb⟩;refine⟨_,rfl,?_,hb⟩;have h:=JqC u.data.toList;rw[Lib.toList_data];have h2:(⟨(Lib.trimLeftS u.data.toList Jhn).toArray⟩:ByteArray).size=(Lib.trimLeftS u.data.toList Jhn).length:=by simp[ByteArray.size]
 have h3:u.data.toList.length=u.size:=(Lib.size_eq u).symm;show (⟨(Lib.trimLeftS u.data.toList Jhn).toArray⟩:ByteArray).size+JcK u.data.toList=u.size;omega
def JlX (q:Nat) (t:TypeId) (r:List Value) (s:ByteArray) (i:Nat) (w:World) (e:Ending) (w':World):Prop:=
 ∃x:ByteArray,e=.returned (.string x)∧x.toList=(Jaa s i).take (JcK (Jaa s i))∧JaG q t r s (i+JcK (Jaa s i)) w w'
theorem Jr3 (q:Nat) (t:TypeId) (r:List Value) (s:ByteArray) (i:Nat) (w:World) (hs:s.size≤4503599627370496) (hi:i≤s.size) (h:Jas w q t r s i) :
  Calls Tryz.prog 170 #[.pointer (some ⟨q,0,none⟩),.string ⟨#[97,98,99,100,101,102,103,104,105,106,107,108,109,110,111,112,113,114,115,116,117,118,119,120,121,122,94]⟩] w (JlX q t r s i w):=by
 have hL:=JiN q t r s i w hi h;have hn:=JlC (Jaa s i);have hul:=Jbm s i;unfold JlX;have hu1:(s.extract i s.size).toList=Jaa s i:=JjL s i;obtain⟨u,hu⟩:∃u,s.extract i s.size=u:=⟨_,rfl⟩;rw[hu]at hL hu1;have hus:u.size=s.size-i:=by rw[Lib.size_eq,←Lib.toList_data,hu1];exact hul
 have hX:=Jwk u;rw[hu1]at hX;have hx0:(u.extract 0 (JcK (Jaa s i))).toList=(Jaa s i).take (JcK (Jaa s i)):=by
  rw[Jok];unfold Jaa;rw[List.drop_zero,hu1];rfl
 obtain⟨n,hn'⟩:∃n,JcK (Jaa s i)=n:=⟨_,rfl⟩;rw[hn']at hn hX hx0 ⊢;rw[hul]at hn;have HL:=Hd hL;have HH:=Hd h;have HX:=Hd hX;have H0:=Hd hx0;have hsz:(u.extract 0 n).size=n:=by simp;omega
 obtain⟨z,hz⟩:∃z,u.extract 0 n=z:=⟨_,rfl⟩;rw[hz]at H0 hsz;have HZ:=Hd hz;have HSZ:=Hd hsz;have HUS:=Hd hus;clear h hL hX hx0 hz hu hu1 hul hn' hsz hus;have y2:(i:Int)≤(s.size:Int):=by omega
 have y3:IntKind.i64.wrap ((i:Int)+(n:Int))=(i:Int)+(n:Int):=JbW _ (by omega)
 go_enter Tryz.func170,Tryz.ntmps170
 go_wp2_with fail;refine HL.out.mono ?_;rintro e w1 ⟨rfl,k,rfl⟩;go_wp2_with fail;refine(HX.out _).mono ?_;rintro e w2 ⟨x,rfl,hxs,hb2⟩;have HR2:=Hd ((HH.out.drewN k).below hb2);have HG2:=Hd (Jaq (Jcd w k (some q)) (Jbk hb2 _));have c1:=HR2.out.c1;have f1:=HR2.out.f1;have hus:=HUS.out;have x1:IntKind.i64.wrap ((u.size:Int)-(x.size:Int))=(n:Int):=by rw[JbW _ (by omega)];omega
 have x2:(n:Int)≤(u.size:Int):=by omega
 clear hb2 hxs hus;go_upto_region 3 with(fail);rw[HZ.out];have hsz2:(z.size:Int)=(n:Int):=by rw[HSZ.out]
 go_wp2
 go_ret;exact⟨z,rfl,H0.out,Jaq HG2.out (JbL _ _ _ _),HR2.out.put _ _ (by rfl)⟩
def Jfv (s:ByteArray) (i:Nat):Bool:=decide (Jac (Jaa s i)=45∧0≤Jac (Jaa s (i+1))∧Jac (Jaa s (i+1))≠93)
def JfH (q:Nat) (t:TypeId) (r:List Value) (s:ByteArray) (i:Nat) (w:World) (e:Ending) (w':World):Prop:=
 e=.returned (.bool (Jfv s i))∧JaG q t r s (if Jfv s i=true then i+1 else i) w w'
theorem JyK (s:ByteArray) (i:Nat) (w:World):Calls Tryz.prog 173 #[.string (s.extract i s.size),.string ⟨#[45]⟩] w
  fun e w'=>(∃x:ByteArray,e=.returned (.tuple #[.string x,.bool (decide (Jac (Jaa s i)=45))])∧(Jac (Jaa s i)=45→x.toList=Jaa s (i+1)))∧w'=w:=by
 refine(Tryz.strings_CutPrefix (s.extract i s.size) ⟨#[45]⟩ w).mono ?_;rintro e w' ⟨rfl,rfl⟩;refine⟨⟨_,by rw[Jhk,show (⟨#[45]⟩:ByteArray).toList=[45] by kernel_rfl,JdW];rfl,fun h=>?_⟩,rfl⟩;have hp:Lib.hasPrefix (s.extract i s.size).data.toList (⟨#[45]⟩:ByteArray).data.toList=true:=by
  rw[Jhk,show (⟨#[45]⟩:ByteArray).toList=[45] by kernel_rfl,JdW,h];rfl
 unfold Lib.trimPrefix;rw[if_pos hp,Lib.toList_data];show ((s.extract i s.size).data.toList.drop 1)=_;rw[←Lib.toList_data,JjL,JdC]
theorem Jtv (q:Nat) (t:TypeId) (r:List Value) (s:ByteArray) (i:Nat) (w:World) (hs:s.size≤4503599627370496) (hi:i≤s.size) (h:Jas w q t r s i) :
  Calls Tryz.prog 158 #[.pointer (some ⟨q,0,none⟩)] w (JfH q t r s i w):=by
 have HL:=Hd (JiN q t r s i w hi h);have HH:=Hd h;have HT:=Hd (fun W (h:Jas W q t r s i)=>JjU q t r s ⟨#[45]⟩ i W hs (by decide) hi h);have HC:=Hd (fun W=>JyK s i W);have hD:Jfv s i=Jfv s i:=rfl;have hh:decide (Jac (Jaa s i)=45)=Jat [45] (Jaa s i):=(JdW 45 s i).symm;clear h
 by_cases h45:Jac (Jaa s i)=45
 ·have e1:decide (Jac (Jaa s i)=45)=true:=decide_eq_true h45;have HPR:=Hd (show Jat (⟨#[45]⟩:ByteArray).toList (Jaa s i)=true by rw[show (⟨#[45]⟩:ByteArray).toList=[45] by kernel_rfl];exact hh.symm.trans e1);have HX:=Hd h45
  by_cases hlt:i+1<s.size
  ·have g1:=Jdo s (i+1) hlt
   by_cases h93:(s[i+1].toNat:Int)=93
   ·have HF:=Hd (hD.symm.trans (decide_eq_false (fun h=>h.2.2 (g1.trans h93))));have HG:=Hd (g1.trans h93);rw[e1]at HC;clear hD hh h45 e1 g1 h93
    go_enter Tryz.func158,Tryz.ntmps158
    go_wp2_with fail;refine HL.out.mono ?_;rintro e w1 ⟨rfl,k,rfl⟩;go_wp2_with fail;refine(HC.out _).mono ?_;rintro e w2 ⟨⟨x,rfl,hx⟩,rfl⟩;have hx:=hx HX.out;have hxs:x.size=s.size-(i+1):=by rw[Lib.size_eq,←Lib.toList_data,hx];exact Jbm s (i+1)
    have hx0:0<x.size:=by omega
    have g2:=Jdo x 0 hx0;have hl0:Jaa x 0=Jaa s (i+1):=by unfold Jaa;rw[List.drop_zero,hx];rfl
    rw[hl0,HG.out]at g2;have b0:=JfR g2.symm;have hemp:x.toList.isEmpty=false:=by
     cases hxx:x.toList with
     | nil=>rw[Lib.size_eq,←Lib.toList_data,hxx]at hx0;simp at hx0
     | cons _ _=>rfl
    clear hx hxs g2 hl0
    go_wp2
    go_ret;unfold JfH;rw[HF.out];exact⟨rfl,Jcd _ _ _,HH.out.drewN _⟩
   ·have HF:=Hd (hD.symm.trans (decide_eq_true ⟨h45,by rw[g1];omega,by rw[g1];exact h93⟩));have HG:=Hd g1;have HN:=Hd h93;rw[e1]at HC;clear hD hh h45 e1 g1 h93
    go_enter Tryz.func158,Tryz.ntmps158
    go_wp2_with fail;refine HL.out.mono ?_;rintro e w1 ⟨rfl,k,rfl⟩;go_wp2_with fail;refine(HC.out _).mono ?_;rintro e w2 ⟨⟨x,rfl,hx⟩,rfl⟩;have hx:=hx HX.out;have hxs:x.size=s.size-(i+1):=by rw[Lib.size_eq,←Lib.toList_data,hx];exact Jbm s (i+1)
    have hx0:0<x.size:=by omega
    have g2:=Jdo x 0 hx0;have hl0:Jaa x 0=Jaa s (i+1):=by unfold Jaa;rw[List.drop_zero,hx];rfl
    rw[hl0,HG.out]at g2;have b0:=Jbp (fun e=>HN.out (g2.trans e));have hemp:x.toList.isEmpty=false:=by
     cases hxx:x.toList with
     | nil=>rw[Lib.size_eq,←Lib.toList_data,hxx]at hx0;simp at hx0
     | cons _ _=>rfl
    clear hx hxs g2 hl0;go_wp2_with fail;refine(HT.out _ (HH.out.drewN _)).mono ?_;rintro e w3 ⟨b,hb,rfl,htk⟩;have hb2:b=true:=hb.symm.trans HPR.out;subst hb2;rw[if_pos rfl]at htk;have HTK:=Hd htk;clear hb htk
    go_wp2
    go_ret;unfold JfH;rw[HF.out,if_pos rfl];exact⟨rfl,Jaq (Jcd _ _ _) HTK.out.1,HTK.out.2⟩
  ·have HF:=Hd (hD.symm.trans (decide_eq_false (fun h=>hlt (Jbo h.2.1))));rw[e1]at HC;clear hD hh h45 e1
   go_enter Tryz.func158,Tryz.ntmps158
   go_wp2_with fail;refine HL.out.mono ?_;rintro e w1 ⟨rfl,k,rfl⟩;go_wp2_with fail;refine(HC.out _).mono ?_;rintro e w2 ⟨⟨x,rfl,hx⟩,rfl⟩;have hx:=hx HX.out;have hxs:x.size=s.size-(i+1):=by rw[Lib.size_eq,←Lib.toList_data,hx];exact Jbm s (i+1)
   have hx0:x=⟨#[]⟩:=by
    have h0:x.data.toList.length=0:=by rw[←Lib.size_eq];omega
    obtain⟨⟨l⟩⟩:=x
    simp at h0
    subst h0;rfl
   subst hx0;clear hx hxs
   go_wp2
   go_ret;unfold JfH;rw[HF.out];exact⟨rfl,Jcd _ _ _,HH.out.drewN _⟩
 ·have e1:decide (Jac (Jaa s i)=45)=false:=decide_eq_false h45;have HF:=Hd (hD.symm.trans (decide_eq_false (fun h=>h45 h.1)));rw[e1]at HC;clear hD hh h45 e1
  go_enter Tryz.func158,Tryz.ntmps158
  go_wp2_with fail;refine HL.out.mono ?_;rintro e w1 ⟨rfl,k,rfl⟩;go_wp2_with fail;refine(HC.out _).mono ?_;rintro e w2 ⟨⟨x,rfl,hx⟩,rfl⟩;clear hx
  go_wp2
  go_ret;unfold JfH;rw[HF.out];exact⟨rfl,Jcd _ _ _,HH.out.drewN _⟩
theorem Jji (q:Nat) (t:TypeId) (r:List Value) (s:ByteArray) (i b:Nat) (w:World) (h:Jas w q t r s i) :
  Calls Tryz.prog 159 #[.pointer (some ⟨q,0,none⟩),.int .i64 (b:Int)] w fun e w'=>e=Jal (.iface 32 (Jbx 72 b i))∧w'=w:=by
 have c1:=h.c1;clear h
 go_enter Tryz.func159,Tryz.ntmps159
 go_wp2
 exact⟨rfl,rfl,rfl⟩
theorem JqK:∀(l:List (Int × Int)) (f:Int),(Je6 f l).length≤l.length+1
 | [],f=>by unfold Je6;split<;>simp
 | r::l,f=>by
  have h:=JqK l (r.2+1);unfold Je6
  split<;>simp<;>omega
theorem Jph {l:List (Int × Int)} {n:Nat} (h:l.length≤n):(JcD l).length≤n+1:=Nat.le_trans (JqK l 0) (by omega)
theorem Jmg {P:Prop} [Decidable P] {k:List (Int × Int)} {o:Option (List (Int × Int))} {l:List (Int × Int)} {n:Nat} (hk:k.length≤n) (ho:o=some l→l.length≤n) (h:(if P then some k else o)=some l):l.length≤n:=by
 by_cases hP:P
 ·rw[if_pos hP]at h
  cases h
  exact hk
 ·rw[if_neg hP]at h;exact ho h
theorem Jti {l k:List (Int × Int)} {n:Nat} (hk:k.length≤n) (h:some k=some l):l.length≤n:=by
 cases h
 exact hk
theorem JqE {b:List UInt8} {l:List (Int × Int)} (h:Jfc b=some l):l.length≤5:=by
 unfold Jfc at h
 revert h
 repeat (refine Jmg (by decide) ?_)
 exact fun h=>nomatch h
theorem Jup {b:List UInt8} {l:List (Int × Int)} (h:Jfe b=some l):l.length≤15:=by
 unfold Jfe at h
 revert h
 repeat (refine Jmg (by decide) ?_)
 exact fun h=>nomatch h
theorem JwN {b:List UInt8} {l:List (Int × Int)} (h:JfK b=some l):l.length≤17:=by
 unfold JfK at h
 split at h
 ·obtain⟨k,hk,rfl⟩:=Option.map_eq_some_iff.1 h;exact Nat.le_trans (Jph (JqE hk)) (by decide)
 ·exact Nat.le_trans (JqE h) (by decide)
theorem Jqx {b:List UInt8} {l:List (Int × Int)} (h:Jdt b=some l):l.length≤15:=by
 unfold Jdt at h
 split at h
 ·exact Jti (by decide) h
 ·exact Jup h
theorem JxV {b:List UInt8} {n:Bool} {l:List (Int × Int)} (h:Jg8 b n=some l):l.length≤16:=by
 unfold Jg8 at h
 split at h
 ·obtain⟨k,hk,rfl⟩:=Option.map_eq_some_iff.1 h;exact Jph (Jqx hk)
 ·exact Nat.le_trans (Jqx h) (by decide)
theorem JuC {b:List UInt8} {n:Bool} {l:List (Int × Int)} (h:Jfh b n=some l):l.length≤17:=by
 unfold Jfh at h
 split at h<;>exact Nat.le_trans (JxV h) (by decide)
theorem Jsx {c:Int} {l:List (Int × Int)} (h:Jc0 c=some l):l.length≤17:=by
 unfold Jc0 at h
 revert h
 repeat (refine Jmg (by decide) ?_)
 exact fun h=>nomatch h
theorem Jq3 {c k a:Int} {l:List (Int × Int)} (h:Jen c=some (k,l,a)):l.length≤17:=by
 unfold Jen at h
 split at h
 ·cases h;decide
 split at h
 ·cases h;decide
 split at h
 ·cases h
 split at h
 ·cases h
 ·rename_i l' hl'
  cases h
  exact Jsx hl'
theorem Jzp {s:ByteArray} {i n:Nat} {p:Bool} {k r a:Int} {l:List (Int × Int)} (h:Jck s i p=.esc k r l a n):l.length≤17:=by
 unfold Jck at h
 split at h
 ·cases h
 split at h
 ·cases h
 unfold JdX at h
 split at h
 ·cases h;decide
 split at h
 ·cases h;decide
 split at h
 ·split at h
  ·cases h
  ·cases h;decide
 split at h
 ·split at h
  ·cases h
  ·split at h
   ·cases h
   ·rename_i hl
    cases h
    exact JuC hl
 split at h
 ·cases h
 ·rename_i hl
  split at h
  ·cases h
   exact Jq3 hl
  ·cases h
theorem Jxh {s:ByteArray} {i n:Nat} {p:Bool} {k r a:Int} {l:List (Int × Int)} (h:Jcj s i p=.esc k r l a n):l.length≤17:=by
 unfold Jcj at h
 split at h
 ·exact Jzp h
 ·cases h;decide
theorem Jyl {s:ByteArray} {i n m:Nat} {p:Bool} {r:Int} {l:List (Int × Int)} (h:Jee s i r n p=.item l m):l.length≤17:=by
 unfold Jee at h
 split at h
 ·split at h
  ·cases h
  ·split at h
   ·cases h
   ·cases h;exact Nat.le_add_left 1 16
 ·cases h;exact Nat.le_add_left 1 16
theorem Jqe {s:ByteArray} {i n:Nat} {p:Bool} {l:List (Int × Int)} (h:Jco s i p=.item l n):l.length≤17:=by
 unfold Jco at h
 split at h
 ·split at h
  ·cases h
  ·rename_i hl
   cases h
   exact JwN hl
 ·split at h
  ·cases h
  ·rename_i he
   split at h
   ·cases h
    exact Jxh he
   split at h
   ·cases h
   ·exact Jyl h
end Go.Proofs.YtaaoamkagppodaaGreatDoor
