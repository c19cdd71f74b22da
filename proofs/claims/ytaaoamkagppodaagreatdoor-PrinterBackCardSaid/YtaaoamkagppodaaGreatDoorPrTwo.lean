/- PrinterBack: the text of a tree that was read is read, as one with the same groups, and printed as it is. Written by gen9twice.py. -/
import Derived.Test.YtaaoamkagppodaaGreatDoorPrTwice
set_option maxHeartbeats 3200000
set_option maxRecDepth 100000
set_option linter.unusedVariables false
namespace Go.Proofs.YtaaoamkagppodaaGreatDoor
open Go Go.RowKit
theorem Jl0 {w:World} {b i:Nat} {ty:TypeId} {cs:Array Value} {v:Value} (h:Whole w b ty cs) (hi:i<cs.size) (hv:cs[i]=v):w.setCell ⟨b,i,none⟩ v=w:=by
 have hset:cs.setIfInBounds i v=cs:=by
  apply Array.ext
  ·simp
  ·intro j h1 h2;rw[Array.getElem_setIfInBounds]
   split
   ·rename_i e
    subst e;exact hv.symm
   ·rfl
 have hh:(w.setCell ⟨b,i,none⟩ v).heap=w.heap:=by
  apply Array.ext_getElem?
  intro k
  by_cases e:k=b
  ·subst e;have:=h.store i v;rw[hset]at this;exact this.trans h.symm
  ·exact Below.heap_setCell w _ v k e
 show ({w with heap:=(w.setCell ⟨b,i,none⟩ v).heap}:World)=w;rw[hh]
theorem Jxa (w:World) (s:ByteArray) (f:Int) (hs:s.size≤140737488355328) (hT:Jcy w):Calls Tryz.prog 4 #[.string s,.int .i64 f] w fun e w'=>e=.returned (.bool true)∧Below w.heap.size w w':=by
 have HT0:=Hd hT;have HSZ:=Hd hs;clear hT hs
 go_enter Tryz.func4,Tryz.ntmps4
 go_wp2_with fail;refine(JkF w).mono ?_;rintro e w1 ⟨rfl,hb⟩;have HT:=Hd hb;have HTT:=Hd (HT0.out.below hb);clear hb HT0;have hok:=JlM s f;have hpp:=JhK s f w1 (by have:=HSZ.out;omega) HTT.out;obtain⟨R,hR⟩:∃R,JdK s f=R:=⟨_,rfl⟩;rw[hR]at hok hpp;have HP:=Hd hpp;clear hpp hR HSZ
 rcases R with t|⟨c,a,b⟩
 rotate_left
 ·have hc:0<c:=hok.1;clear hok;have x0:¬(c=0):=by omega
  clear hc;go_wp2_with fail;refine HP.out.mono ?_;rintro e w2 ⟨hb,he⟩;replace he:e=.returned (.tuple #[.agg #[.int .i64 0,.slice none 0 0,.int .i32 0,.slice none 0 0,.int .i64 0,.int .i64 0,.string ⟨#[]⟩,.int .i64 0,.int .i64 0,.bool false],.agg #[.int .i64 c,.int .i64 a,.int .i64 b]]):=he;subst he;obtain⟨w3,hw3⟩:∃w3,(w2.alloc (.cells #[.int .i64 0,.slice none 0 0,.int .i32 0,.slice none 0 0,.int .i64 0,.int .i64 0,.string ⟨#[]⟩,.int .i64 0,.int .i64 0,.bool false] 29)).alloc (.cells #[.int .i64 c,.int .i64 a,.int .i64 b] 32)=w3:=⟨_,rfl⟩;obtain⟨n1,n2,n3,n4⟩:=JgN w2 #[.int .i64 0,.slice none 0 0,.int .i32 0,.slice none 0 0,.int .i64 0,.int .i64 0,.string ⟨#[]⟩,.int .i64 0,.int .i64 0,.bool false] #[.int .i64 c,.int .i64 a,.int .i64 b];rw[hw3]at n1 n2 n3 n4;have HW3:=Hd hw3;have HB3:=Hd (HT.out.trans ((hb.trans (n3.mono hb.size)).mono HT.out.size));have z0:w3.cell? ⟨w2.heap.size+1,0,none⟩=some (.int .i64 c):=n2.cell 0;clear hw3 n1 n2 n3 n4 hb HP;go_upto_region 3 with(fail);rw[HW3.out];go_wp2_with fail;go_ret;exact⟨rfl,HB3.out⟩
 have hr:JbU t:=hok;have HR:=Hd hr;have HPT:=Hd (Jir hr);clear hok hr;go_wp2_with fail;refine HP.out.mono ?_;rintro e w2 ⟨hb,vt,he,ht⟩;have ht0:=ht;obtain⟨A,n,c,a2,s2,c2,hn,hs,rfl,-,-,-,-,-⟩:=ht.opened;replace he:e=.returned (.tuple #[.agg #[.int .i64 t.fld.op,.slice A n c,.int .i32 t.fld.rune,.slice a2 s2 c2,.int .i64 t.fld.at',.int .i64 t.fld.cap,.string t.fld.name,.int .i64 t.fld.min,.int .i64 t.fld.max,.bool t.fld.lazy],.agg #[.int .i64 0,.int .i64 0,.int .i64 0]]):=he;subst he;obtain⟨w3,hw3⟩:∃w3,(w2.alloc (.cells #[.int .i64 t.fld.op,.slice A n c,.int .i32 t.fld.rune,.slice a2 s2 c2,.int .i64 t.fld.at',.int .i64 t.fld.cap,.string t.fld.name,.int .i64 t.fld.min,.int .i64 t.fld.max,.bool t.fld.lazy] 29)).alloc (.cells #[.int .i64 0,.int .i64 0,.int .i64 0] 32)=w3:=⟨_,rfl⟩;obtain⟨n1,n2,n3,n4⟩:=JgN w2 #[.int .i64 t.fld.op,.slice A n c,.int .i32 t.fld.rune,.slice a2 s2 c2,.int .i64 t.fld.at',.int .i64 t.fld.cap,.string t.fld.name,.int .i64 t.fld.min,.int .i64 t.fld.max,.bool t.fld.lazy] #[.int .i64 0,.int .i64 0,.int .i64 0];rw[hw3]at n1 n2 n3 n4;have H0:=Hd (ht0.below n3);have HE:=Hd n1;have HEW:=Hd n2;have HW3:=Hd hw3;have HB:=Hd (hb.trans (n3.mono hb.size));replace HTT:=Hd (HTT.out.below HB.out);replace HT:=Hd (HT.out.trans (HB.out.mono HT.out.size));clear hw3 n1 n2 n3 n4 ht ht0 hn hs HP hb HB;go_upto_region 3 with(fail);rw[HW3.out];clear HW3;obtain⟨p0,p1,p2,p3,p4,p5,p6,p7,p8,p9⟩:=HE.out.ten;have z0:=HEW.out.cell 0;replace z0:w3.cell? ⟨w2.heap.size+1,0,none⟩=some (.int .i64 0):=z0;go_wp2_with fail;refine(JgL t HPT.out _ w3 H0.out).mono ?_;rintro e w4 ⟨hb,⟨-,rfl⟩|⟨h1,-⟩⟩
 case' inr=>exact absurd HR.out h1
 replace H0:=Hd (H0.out.below hb);replace HE:=Hd (HE.out.below hb HE.out.lt);replace HEW:=Hd (HEW.out.below hb HEW.out.lt);replace HTT:=Hd (HTT.out.below hb);replace HT:=Hd (HT.out.trans (hb.mono HT.out.size));clear hb;clear p0 p1 p2 p3 p4 p5 p6 p7 p8 p9 z0;have hlen:=Jhe t HR.out.2.2.1;have hpb:=JmW HR.out (s:=Jau (Jad t)) (by rw[Jcx]);have hzs:(Jau (Jad t)).size≤640000000000:=by
  have:=HPT.out;rw[Jjd];omega
 obtain⟨S,hS⟩:∃S,Jau (Jad t)=S:=⟨_,rfl⟩;have HP:=Hd (JhK S 32 w4 (by rw[←hS];omega) HTT.out);rw[hS]at hpb ⊢;have HS:=Hd hS;clear hS hlen hzs
 by_cases hb0:1024<S.size
 ·clear hpb HP;have x0:(1024:Int)<(S.size:Int):=by omega
  clear hb0;go_wp2_with fail;go_ret;exact⟨rfl,HT.out⟩
 have x0:¬(1024:Int)<(S.size:Int):=by omega
 have x1:decide ((1024:Int)<(S.size:Int))=false:=decide_eq_false x0;obtain⟨u,hu,htg,htx⟩:=hpb.2 (by omega);have hru:JbU u:=by
  have:=JlM S 32;rw[hu]at this;exact this
 rw[hu]at HP;have HRU:=Hd hru;have HPU:=Hd (Jir hru);have HTG:Hid ((JaP t).map JcF=(JaP u).map JcF):=Hd htg.symm;have HTX:Hid (S=Jau (Jad u)):=Hd (by rw[htx];exact HS.out.symm);clear hpb hb0 hu htg htx hru;go_wp2_with fail;refine HP.out.mono ?_;rintro e w5 ⟨hb,vu,he,hut⟩;clear x0 x1;have hut0:=hut;obtain⟨B,m,d,b2,r,d2,hm,hr,rfl,-,-,-,-,-⟩:=hut.opened;replace he:e=.returned (.tuple #[.agg #[.int .i64 u.fld.op,.slice B m d,.int .i32 u.fld.rune,.slice b2 r d2,.int .i64 u.fld.at',.int .i64 u.fld.cap,.string u.fld.name,.int .i64 u.fld.min,.int .i64 u.fld.max,.bool u.fld.lazy],.agg #[.int .i64 0,.int .i64 0,.int .i64 0]]):=he;subst he;have h5:=HEW.out.below hb HEW.out.lt;have z0:∀o,(w5.alloc o).cell? ⟨w2.heap.size+1,0,none⟩=some (.int .i64 0):=fun o=>(h5.alloc o).cell 0
 have z1:∀o,(w5.alloc o).cell? ⟨w2.heap.size+1,1,none⟩=some (.int .i64 0):=fun o=>(h5.alloc o).cell 1
 have z2:∀o,(w5.alloc o).cell? ⟨w2.heap.size+1,2,none⟩=some (.int .i64 0):=fun o=>(h5.alloc o).cell 2
 have f0:∀o,(w5.alloc o).frozen? ⟨w2.heap.size+1,0,none⟩=false:=fun o=>(h5.alloc o).free 0
 have f1:∀o,(w5.alloc o).frozen? ⟨w2.heap.size+1,1,none⟩=false:=fun o=>(h5.alloc o).free 1
 have f2:∀o,(w5.alloc o).frozen? ⟨w2.heap.size+1,2,none⟩=false:=fun o=>(h5.alloc o).free 2
 have k0:∀o,(w5.alloc o).setCell ⟨w2.heap.size+1,0,none⟩ (.int .i64 0)=w5.alloc o:=fun o=>Jl0 (h5.alloc o) (i:=0) (by decide) rfl
 have k1:∀o,(w5.alloc o).setCell ⟨w2.heap.size+1,1,none⟩ (.int .i64 0)=w5.alloc o:=fun o=>Jl0 (h5.alloc o) (i:=1) (by decide) rfl
 have k2:∀o,(w5.alloc o).setCell ⟨w2.heap.size+1,2,none⟩ (.int .i64 0)=w5.alloc o:=fun o=>Jl0 (h5.alloc o) (i:=2) (by decide) rfl
 clear h5;have hbn:Below w5.heap.size w5 (w5.alloc (.cells #[.int .i64 u.fld.op,.slice B m d,.int .i32 u.fld.rune,.slice b2 r d2,.int .i64 u.fld.at',.int .i64 u.fld.cap,.string u.fld.name,.int .i64 u.fld.min,.int .i64 u.fld.max,.bool u.fld.lazy] 29)):=(Below.refl _ _).alloc (Nat.le_refl _) _;replace hb:=hb.trans (hbn.mono hb.size);obtain⟨w6,hw6⟩:∃w6,w5.alloc (.cells #[.int .i64 u.fld.op,.slice B m d,.int .i32 u.fld.rune,.slice b2 r d2,.int .i64 u.fld.at',.int .i64 u.fld.cap,.string u.fld.name,.int .i64 u.fld.min,.int .i64 u.fld.max,.bool u.fld.lazy] 29)=w6:=⟨_,rfl⟩;have hE6:Whole w6 w5.heap.size 29 #[.int .i64 u.fld.op,.slice B m d,.int .i32 u.fld.rune,.slice b2 r d2,.int .i64 u.fld.at',.int .i64 u.fld.cap,.string u.fld.name,.int .i64 u.fld.min,.int .i64 u.fld.max,.bool u.fld.lazy]:=by rw[←hw6];exact heap_alloc_new w5 _
 rw[hw6]at hb hbn;have HU:=Hd (hut0.below hbn);have HEU:=Hd hE6;have HW6:=Hd hw6;replace H0:=Hd (H0.out.below hb);replace HE:=Hd (HE.out.below hb HE.out.lt);replace HEW:=Hd (HEW.out.below hb HEW.out.lt);replace HTT:=Hd (HTT.out.below hb);replace HT:=Hd (HT.out.trans (hb.mono HT.out.size));clear hb;clear hw6 hbn hE6 hut hut0 hm hr HP;go_upto_region 11 with(fail);clear z0 z1 z2 f0 f1 f2 k0 k1 k2;rw[HW6.out];clear HW6;obtain⟨q0,q1,q2,q3,q4,q5,q6,q7,q8,q9⟩:=HEU.out.ten;go_wp2_with fail;refine(JgL u HPU.out _ w6 HU.out).mono ?_;rintro e w7 ⟨hb,⟨-,rfl⟩|⟨h1,-⟩⟩
 case' inr=>exact absurd HRU.out h1
 rw[←HTX.out];replace HU:=Hd (HU.out.below hb);replace HEU:=Hd (HEU.out.below hb HEU.out.lt);clear q0 q1 q2 q3 q4 q5 q6 q7 q8 q9;replace H0:=Hd (H0.out.below hb);replace HE:=Hd (HE.out.below hb HE.out.lt);replace HEW:=Hd (HEW.out.below hb HEW.out.lt);replace HTT:=Hd (HTT.out.below hb);replace HT:=Hd (HT.out.trans (hb.mono HT.out.size));clear hb;have HG1:=Hd fun W (hW:Below w7.heap.size w7 W)=>Jjt t HPT.out _ _ W (fun b h=>h) (H0.out.below hW).foot
 have HG2:=Hd fun W (hW:Below w7.heap.size w7 W)=>Jjt u HPU.out _ _ W (fun b h=>h) (HU.out.below hW).foot
 obtain⟨p0,p1,p2,p3,p4,p5,p6,p7,p8,p9⟩:=HE.out.ten;obtain⟨q0,q1,q2,q3,q4,q5,q6,q7,q8,q9⟩:=HEU.out.ten;have z0:=HEW.out.cell 0;replace z0:w7.cell? ⟨w2.heap.size+1,0,none⟩=some (.int .i64 0):=z0;have HB0:=Hd (Jdk w7 1);have KP:Hid (∀W,Below w7.heap.size w7 W→W.cell? ⟨w2.heap.size,0,none⟩=some (.int .i64 t.fld.op)∧W.cell? ⟨w2.heap.size,1,none⟩=some (.slice A n c)∧W.cell? ⟨w2.heap.size,2,none⟩=some (.int .i32 t.fld.rune)∧W.cell? ⟨w2.heap.size,3,none⟩=some (.slice a2 s2 c2)∧W.cell? ⟨w2.heap.size,4,none⟩=some (.int .i64 t.fld.at')∧W.cell? ⟨w2.heap.size,5,none⟩=some (.int .i64 t.fld.cap)∧W.cell? ⟨w2.heap.size,6,none⟩=some (.string t.fld.name)∧W.cell? ⟨w2.heap.size,7,none⟩=some (.int .i64 t.fld.min)∧W.cell? ⟨w2.heap.size,8,none⟩=some (.int .i64 t.fld.max)∧W.cell? ⟨w2.heap.size,9,none⟩=some (.bool t.fld.lazy)∧W.cell? ⟨w5.heap.size,0,none⟩=some (.int .i64 u.fld.op)∧W.cell? ⟨w5.heap.size,1,none⟩=some (.slice B m d)∧W.cell? ⟨w5.heap.size,2,none⟩=some (.int .i32 u.fld.rune)∧W.cell? ⟨w5.heap.size,3,none⟩=some (.slice b2 r d2)∧W.cell? ⟨w5.heap.size,4,none⟩=some (.int .i64 u.fld.at')∧W.cell? ⟨w5.heap.size,5,none⟩=some (.int .i64 u.fld.cap)∧W.cell? ⟨w5.heap.size,6,none⟩=some (.string u.fld.name)∧W.cell? ⟨w5.heap.size,7,none⟩=some (.int .i64 u.fld.min)∧W.cell? ⟨w5.heap.size,8,none⟩=some (.int .i64 u.fld.max)∧W.cell? ⟨w5.heap.size,9,none⟩=some (.bool u.fld.lazy)∧W.cell? ⟨w2.heap.size+1,0,none⟩=some (.int .i64 0)):=Hd fun W hb=>⟨(hb.cell (World.block_lt_of_cell? w7 _ p0)).trans p0,(hb.cell (World.block_lt_of_cell? w7 _ p1)).trans p1,(hb.cell (World.block_lt_of_cell? w7 _ p2)).trans p2,(hb.cell (World.block_lt_of_cell? w7 _ p3)).trans p3,(hb.cell (World.block_lt_of_cell? w7 _ p4)).trans p4,(hb.cell (World.block_lt_of_cell? w7 _ p5)).trans p5,(hb.cell (World.block_lt_of_cell? w7 _ p6)).trans p6,(hb.cell (World.block_lt_of_cell? w7 _ p7)).trans p7,(hb.cell (World.block_lt_of_cell? w7 _ p8)).trans p8,(hb.cell (World.block_lt_of_cell? w7 _ p9)).trans p9,(hb.cell (World.block_lt_of_cell? w7 _ q0)).trans q0,(hb.cell (World.block_lt_of_cell? w7 _ q1)).trans q1,(hb.cell (World.block_lt_of_cell? w7 _ q2)).trans q2,(hb.cell (World.block_lt_of_cell? w7 _ q3)).trans q3,(hb.cell (World.block_lt_of_cell? w7 _ q4)).trans q4,(hb.cell (World.block_lt_of_cell? w7 _ q5)).trans q5,(hb.cell (World.block_lt_of_cell? w7 _ q6)).trans q6,(hb.cell (World.block_lt_of_cell? w7 _ q7)).trans q7,(hb.cell (World.block_lt_of_cell? w7 _ q8)).trans q8,(hb.cell (World.block_lt_of_cell? w7 _ q9)).trans q9,(hb.cell (World.block_lt_of_cell? w7 _ z0)).trans z0⟩
 go_upto_region 12 with(fail);refine wp_region_held_drew (S:=(fun w'=>w'.cell? ⟨w2.heap.size,0,none⟩=some (.int .i64 t.fld.op)∧w'.cell? ⟨w2.heap.size,1,none⟩=some (.slice A n c)∧w'.cell? ⟨w2.heap.size,2,none⟩=some (.int .i32 t.fld.rune)∧w'.cell? ⟨w2.heap.size,3,none⟩=some (.slice a2 s2 c2)∧w'.cell? ⟨w2.heap.size,4,none⟩=some (.int .i64 t.fld.at')∧w'.cell? ⟨w2.heap.size,5,none⟩=some (.int .i64 t.fld.cap)∧w'.cell? ⟨w2.heap.size,6,none⟩=some (.string t.fld.name)∧w'.cell? ⟨w2.heap.size,7,none⟩=some (.int .i64 t.fld.min)∧w'.cell? ⟨w2.heap.size,8,none⟩=some (.int .i64 t.fld.max)∧w'.cell? ⟨w2.heap.size,9,none⟩=some (.bool t.fld.lazy)∧w'.cell? ⟨w5.heap.size,0,none⟩=some (.int .i64 u.fld.op)∧w'.cell? ⟨w5.heap.size,1,none⟩=some (.slice B m d)∧w'.cell? ⟨w5.heap.size,2,none⟩=some (.int .i32 u.fld.rune)∧w'.cell? ⟨w5.heap.size,3,none⟩=some (.slice b2 r d2)∧w'.cell? ⟨w5.heap.size,4,none⟩=some (.int .i64 u.fld.at')∧w'.cell? ⟨w5.heap.size,5,none⟩=some (.int .i64 u.fld.cap)∧w'.cell? ⟨w5.heap.size,6,none⟩=some (.string u.fld.name)∧w'.cell? ⟨w5.heap.size,7,none⟩=some (.int .i64 u.fld.min)∧w'.cell? ⟨w5.heap.size,8,none⟩=some (.int .i64 u.fld.max)∧w'.cell? ⟨w5.heap.size,9,none⟩=some (.bool u.fld.lazy)∧w'.cell? ⟨w2.heap.size+1,0,none⟩=some (.int .i64 0))) (by kernel_rfl) (KP.out _ HB0.out) (fun hHeld=>?_);refine wpAnyH_take (i:=0) (oi:=_) (v:=?_) rfl (by kernel_rfl) (by kernel_rfl) (by kernel_rfl) (fun _ _ _ h=>h) (Or.inl ⟨by rfl,?_⟩) (by assumption) ?_
 rotate_left 1
 ·(intro w hSw;(try dsimp only at hSw);go_simp;(try with_reducible rfl))
 try simp only[Jab]
 refine wpAnyH_take (i:=2) (oi:=_) (v:=?_) rfl (by kernel_rfl) (by kernel_rfl) (by kernel_rfl) (fun _ _ _ h=>h) (Or.inl ⟨by rfl,?_⟩) (by assumption) ?_
 rotate_left 1
 ·(intro w hSw;(try dsimp only at hSw);go_simp;(try with_reducible rfl))
 try simp only[Jab]
 refine wpAnyH_ready (rs:=[1]) (by kernel_rfl) (by simp) ?_;refine AllReadyH.cons (o:=_) rfl (fun K hK=>?_) ?_
 ·go_simp;refine(HG1.out _ HB0.out).mono ?_;rintro e u1 ⟨ga,rfl,hoA,hb⟩;have HB4:=Hd (HB0.out.trans (hb.mono HB0.out.size));have HKA:=Hd (hoA.kds (by have:=Jg5 t;have:=HPT.out;omega));clear hb hoA;go_wp2_with fail;refine hK.out _ _ (KP.out _ HB4.out) (fun hHeld=>?_);clear hK K
  try simp only[Jab]
  refine wpAnyH_ready (rs:=[3]) (by kernel_rfl) (by simp) ?_;refine AllReadyH.cons (o:=_) rfl (fun K hK=>?_) ?_
  ·go_simp;refine(HG2.out _ HB4.out).mono ?_;rintro e u2 ⟨gb,rfl,hoB,hb⟩;have HB5:=Hd (HB4.out.trans (hb.mono HB4.out.size));have HKA2:=Hd (HKA.out.below hb);have HKB:=Hd (hoB.kds (by have:=Jg5 u;have:=HPU.out;omega));clear hb hoB;go_wp2_with fail;refine hK.out _ _ (KP.out _ HB5.out) (fun hHeld=>?_);clear hK K
   try simp only[Jab]
   refine wpAnyH_ready (rs:=[4]) (by kernel_rfl) (by simp) ?_;refine AllReadyH.cons (o:=_) rfl (fun K hK=>?_) ?_
   ·go_simp;refine(JqX _ _ HTG.out _ _ _ HKA2.out HKB.out).mono ?_;rintro e u3 ⟨rfl,hb⟩;have HB6:=Hd (HB5.out.trans (hb.mono HB5.out.size));have HB7:=Hd (HT.out.trans (HB6.out.mono HT.out.size));have hE:=(KP.out _ HB6.out);clear hb;go_wp2_with fail;refine hK.out _ _ (KP.out _ HB6.out) (fun hHeld=>?_);clear hK K
    try simp only[Jab]
    refine wpAnyH_take (i:=5) (oi:=_) (v:=?_) rfl (by kernel_rfl) (by kernel_rfl) (by kernel_rfl) (fun _ _ _ h=>h) (Or.inl ⟨by rfl,?_⟩) (by assumption) ?_
    rotate_left 1
    ·(intro w hSw;(try dsimp only at hSw);go_simp;(try with_reducible rfl))
    try simp only[Jab]
    refine wpAnyH_done (by kernel_rfl) ?_ _;obtain⟨y0,y1,y2,y3,y4,y5,y6,y7,y8,y9,y10,y11,y12,y13,y14,y15,y16,y17,y18,y19,y20⟩:=hE;go_wp2_with fail;go_ret;exact⟨rfl,HB7.out⟩
   exact AllReadyH.nil
  exact AllReadyH.nil
 exact AllReadyH.nil
end Go.Proofs.YtaaoamkagppodaaGreatDoor
