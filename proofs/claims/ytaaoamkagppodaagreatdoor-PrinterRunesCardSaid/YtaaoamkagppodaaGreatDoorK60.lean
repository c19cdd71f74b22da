/- Texts merged by program. No condition. -/
import Derived.Test.YtaaoamkagppodaaGreatDoorK52
import Derived.Deep.RegionLaw
import Derived.Laws.EntriesVeiled
set_option maxHeartbeats 1600000
set_option maxRecDepth 100000
set_option linter.unusedVariables false
namespace Go.Proofs.YtaaoamkagppodaaGreatDoor
open Go Go.RowKit
theorem Jwp {w:World} {ops:Array Oper} {o:Oper} {a:Act} {Kk:Act→World→Prop} {Q:Exit→Act→World→Prop} {E:Prop} (hgd:o.guard=none) (x y:Operand)
  (ho:o.op=.call { callee:=.builtin .append,args:=#[x,y],argTypes:=#[26,26] })
  (base:Nat) (v:Value) (O:List (Int × Int)) (hs:a.eval x=v) (hown:Jae w base v O)
  (g:Nat) (x1 x2:Int) (hx:a.eval y=.slice (some ⟨g,0,none⟩) 1 1) (ht:Rgs w (.slice (some ⟨g,0,none⟩) 1 1) [(x1,x2)]) (hn:O.length+1≤17592186044416) (hbase:base≤w.heap.size)
  (h:∀v' w',Jae w' base v' (O++[(x1,x2)])→w.grownBy w' v.ownBlock→(v'.ownBlock=v.ownBlock∨v'.ownBlock=some w.heap.size)→Kk (a.put o.dst v') w') :
  if Region.wanted o (yielded ops a.tmps)=true then Oper.wp Tryz.prog o a w Kk Q else E:=by
 have hw:Region.wanted o (yielded ops a.tmps)=true:=by
  unfold Region.wanted;rw[hgd]
 rw[if_pos hw];obtain⟨i,hi,hz,hsize,hby⟩:=info_parts Jgs;obtain⟨A',c',h1,h2,h3,h4,h5,h6⟩:=ht;have hall:JaY (O++[(x1,x2)]):=fun r hr=>(List.mem_append.1 hr).elim (hown.2 r) (h6 r)
 injection h1 with e1 e2 e3;subst e1 e3;obtain⟨v',w',hr,g1,g2,-,g3⟩:=run_append_own_at (P:=Tryz.prog) w base 26 o.type 44 i (.agg #[.int .i32 0,.int .i32 0]) 2 8 Tryz.underlying26 hi hz hsize hby rfl (by omega) v O.length (JaB O) hown.1 ⟨g,0,none⟩ 1 1 (JaB [(x1,x2)]) (by rw[JhT];rfl) (by
  intro j u hu;obtain⟨q,hq,hh⟩:=Jhx [(x1,x2)] j u hu
  rcases h5 with h5|⟨b,off,e,hc⟩
  ·cases h5
  ·have e1:=congrArg Addr.block (Option.some.inj e);have e2:=congrArg Addr.off (Option.some.inj e);simp only at e1 e2;subst e1 e2;rw[JkN]
   rcases hh with⟨rfl,rfl⟩|⟨rfl,rfl⟩
   ·exact(hc q hq).1
   ·have:=(hc q hq).2;rw[show 0+(q*2+1)=0+q*2+1 by omega];exact this) (JiG _) (by unfold maxLen;omega) (by omega) hbase
 unfold Oper.wp execOp;simp only[ho,resolve,invoke,builtin,Sem.run_bind,Sem.run_pure,Result.andThen_ok,List.map_toArray,List.map_cons,List.map_nil,hs,hx,hr];refine h v' w' ⟨?_,hall⟩ g2 g3;rw[JgT,List.length_append];exact g1
theorem Jwm {s q:Nat} {W w2 w3:World} {vs v1:Value} {O O':List (Int × Int)} {x y:Int} {tmp:Obj} (h1:Boxed W q 26 vs) (h2:Jae W s vs O) (hs:s≤q) (hsz:s≤W.heap.size) (hB:Below W.heap.size W w2)
  (hE:Whole w2 W.heap.size 132 #[.int .i32 x,.int .i32 y]) (ho:Jae w3 s v1 O') (hg:(w2.alloc tmp).grownBy w3 vs.ownBlock) (hat:v1.ownBlock=vs.ownBlock∨v1.ownBlock=some (w2.alloc tmp).heap.size) :
  JhD s q W vs O' (.returned (.tuple #[])) (w3.setCell ⟨q,0,none⟩ v1)∧w3.cell? ⟨q,0,none⟩=some vs∧w3.frozen? ⟨q,0,none⟩=false∧w3.cell? ⟨W.heap.size,0,none⟩=some (.int .i32 x)∧w3.cell? ⟨W.heap.size,1,none⟩=some (.int .i32 y):=by
 have b2:Boxed w2 q 26 vs:=(hB.block _ h1.lt).trans h1;have o2:Jae w2 s vs O:=h2.below hB;obtain⟨hu,⟨v',k1,k2,k3⟩,k4⟩:=Joi b2 o2 hs ho hg hat (.tuple #[]);have hX:=(b2.appended (by decide) o2.1 (Nat.le_trans hsz hB.size) hs ho.1 hg).1;have hE3:Whole w3 W.heap.size 132 #[.int .i32 x,.int .i32 y]:=Whole.grown (Whole.alloc hE _) hg (own_lt h2 _ (Nat.le_refl _));exact⟨⟨hu,⟨v',k1,k2,(Gr.below vs hsz hB).trans k3⟩,(JbY.below hB).trans k4⟩,hX.cell,hX.frozen,hE3.cell 0,hE3.cell 1⟩
theorem Jlg (s q:Nat) (vs:Value) (O:List (Int × Int)) (x y:Int) (W:World) (hx:I32 x) (hy:I32 y) (hO:O.length≤1099511627776) (hs:s≤q) (h1:Boxed W q 26 vs) (h2:Jae W s vs O):Calls Tryz.prog 104 #[.agg #[.int .i32 x,.int .i32 y],.pointer (some ⟨q,0,none⟩)] W (JhD s q W vs (O++[(x,y)])):=by
 have hsz:s≤W.heap.size:=by have:=h1.lt;omega
 have H1:=Hd h1;have H2:=Hd h2;have c1:=h1.cell;clear h1 h2;have hl1:O.length+1≤17592186044416:=by omega
 obtain⟨W1,hW1⟩:∃W1,W.alloc (.cells #[.int .i32 x,.int .i32 y] 132)=W1:=⟨_,rfl⟩;have hb1:Below W.heap.size W W1:=by rw[←hW1];exact(Below.refl _ W).alloc (Nat.le_refl _) _
 have hE:Whole W1 W.heap.size 132 #[.int .i32 x,.int .i32 y]:=by rw[←hW1];exact heap_alloc_new W _
 have c1:=(hb1.cell (p:=⟨q,0,none⟩) H1.out.lt).trans c1;have r0:=hE.cell 0;have r1:=hE.cell 1
 simp at r0 r1
 have HB1:=Hd hb1;have HE:=Hd hE;have HW1:=Hd hW1;clear hb1 hE hW1
 go_enter Tryz.func104,Tryz.ntmps104
 go_upto_region 1 with(fail);rw[HW1.out]
 go_region_law (first|((go_simp;refine(JpN x y _).mono ?_;rintro e w2 ⟨rfl,hb⟩;have HB2:=Hd (HB1.out.drew.trans (hb.mono HB1.out.size));have HE2:=Hd ((hb.block _ HE.out.lt).trans HE.out);have k0:w2.cell? ⟨q,0,none⟩=some vs:=(hb.cell (p:=⟨q,0,none⟩) (World.block_lt_of_cell? W1 _ c1)).trans c1;have k1:w2.cell? ⟨W.heap.size,0,none⟩=some (.int .i32 x):=(hb.cell (p:=⟨W.heap.size,0,none⟩) HE.out.lt).trans r0;have k2:w2.cell? ⟨W.heap.size,1,none⟩=some (.int .i32 y):=(hb.cell (p:=⟨W.heap.size,1,none⟩) HE.out.lt).trans r1;have hz2:=HB2.out.size;have k0a:∀ob,(w2.alloc ob).cell? ⟨q,0,none⟩=some vs:=(fun ob=>(((Below.refl _ w2).alloc (Nat.le_refl _) ob).cell (p:=⟨q,0,none⟩) (Nat.lt_of_lt_of_le H1.out.lt hz2)).trans k0);have hz3:∀ob,s≤(w2.alloc ob).heap.size:=(fun ob=>by simp;omega);clear hb))|((refine Jwp rfl (.tmp 3) (.tmp 6) rfl s vs O rfl (H2.out.below (HB2.out.alloc hz2 _)) w2.heap.size x y rfl (JhA w2 x y hx hy) hl1 (hz3 _) ?_;intro v1 w3 ho1 hg1 hat;obtain⟨n1,m1,c1',rfl⟩:=ho1.slice;have HQ:=Jwm H1.out H2.out hs hsz HB2.out HE2.out ho1 hg1 hat;have HR:=Hd HQ.1;have k0:=HQ.2.1;have kf:=HQ.2.2.1;have k1:=HQ.2.2.2.1;have k2:=HQ.2.2.2.2;clear ho1 hg1 hat HQ)))
 all_goals go_end0
 all_goals exact HR.out
def Je9 (q:Nat):Value:=.func (.func 104) #[] #[.pointer (some ⟨q,0,none⟩)]
theorem Jvl (s q q2:Nat) (vs:Value) (O:List (Int × Int)) (x:Int) (W:World) (hx:I32 x) (hO:O.length≤1099511627776) (hs:s≤q) (h1:Boxed W q 26 vs) (h2:Jae W s vs O) (h3:Boxed W q2 138 (Je9 q)):Calls Tryz.prog 106 #[.int .i32 x,.pointer (some ⟨q2,0,none⟩)] W (JhD s q W vs (O++[(x,x)])):=by
 have c3:=h3.cell;unfold Je9 at c3;have HA:=Hd (Jlg s q vs O x x W hx hx hO hs h1 h2);clear h1 h2 h3
 go_enter Tryz.func106,Tryz.ntmps106
 go_wp2_with fail;refine HA.out.mono ?_;rintro e w1 ⟨⟨u,rfl⟩,h4,h5⟩;have HR:=Hd (show JhD s q W vs (O++[(x,x)]) (.returned (.tuple #[])) w1 from⟨⟨_,rfl⟩,h4,h5⟩);clear h4 h5
 go_wp2
 go_end0
 exact HR.out
theorem Gr.box {s q b:Nat} {W W':World} {vs vs' u:Value} {t:TypeId} {O:List (Int × Int)} (h:Gr s q W vs W' vs') (hb:Boxed W b t u) (hq:b≠q) (hr:Jae W s vs O) (ht:t≠44):Boxed W' b t u:=
 ((h.2 b hb.lt hq (fun e=>hb.not_row ht hr.1 e.symm)).1).trans hb
theorem JvS (s q q2:Nat) (vs:Value) (O:List (Int × Int)) (S:List Int) (W:World) (h3:S.length≤3) (hS:∀x∈S,I32 x) (hO:O.length≤1099511627000) (hs:s≤q) (hq:q2≠q) (h1:Boxed W q 26 vs) (h2:Jae W s vs O) (hf:Boxed W q2 138 (Je9 q)) :
  Calls Tryz.prog 77 #[Jg7 S,.func (.func 106) #[] #[.pointer (some ⟨q2,0,none⟩)]] W fun e W'=>(∃u,e=.returned u)∧∃vs',Boxed W' q 26 vs'∧Jae W' s vs' (O++S.map fun c=>(c,c))∧Gr s q W vs W' vs':=by
 refine(Jkz _ _ (enters_of Tryz.func106 (by kernel_rfl) rfl) S h3 (fun pre W'=>∃vs',Boxed W' q 26 vs'∧Jae W' s vs' (O++pre.map fun c=>(c,c))∧Gr s q W vs W' vs') ?_ ?_ W ⟨vs,h1,by simpa using h2,Gr.refl _ _ _ _⟩)
 ·rintro pre W1 ob ⟨v1,k1,k2,k3⟩;have hsz:s≤W1.heap.size:=by have:=k1.lt;omega
  have hb:=(Below.refl W1.heap.size W1).alloc (Nat.le_refl _) ob;exact⟨v1,k1.alloc ob,k2.below hb,k3.trans (Gr.below v1 hsz hb)⟩
 ·rintro pre x W1 hp ⟨v1,k1,k2,k3⟩;have hx:x∈S:=hp.subset (by simp);have hl:=hp.length_le;rw[List.length_append,List.length_singleton]at hl;refine(Jvl s q q2 v1 _ x W1 (hS x hx) (by rw[List.length_append,List.length_map];omega) hs k1 k2 (k3.box hf hq h2 (by decide))).mono ?_;rintro e W2 ⟨hu,⟨v2,j1,j2,j3⟩,hk⟩;exact⟨hu,⟨v2,j1,by simpa using j2,k3.trans j3⟩,hk⟩
def Jfb (m:Nat):List (Int × Int):=(JbD.take m).flatten.map fun c=>(c,c)
def JgK (s:Int × Int):List (Int × Int):=[s,(s.1+32,s.2+32)]
def Jf8:List (Int × Int):=Jfb 7++Ja8.flatMap JgK
theorem JwC {m:Nat} {g:List Int} (h:JbD[m]? = some g):Jfb (m+1)=Jfb m++g.map fun c=>(c,c):=by
 unfold Jfb;rw[Jn2 h]
 simp
theorem JyX {k:Nat} {x y:Int} (h:Ja8[k]? = some (x,y)):(Ja8.take (k+1)).flatMap JgK=(Ja8.take k).flatMap JgK++[(x,y)]++[(x+32,y+32)]:=by
 rw[Joj h,List.flatMap_append]
 simp[JgK]
theorem Jon (m:Nat):(Jfb m).length≤100:=by
 unfold Jfb;rw[List.length_map];have h:m=0∨m=1∨m=2∨m=3∨m=4∨m=5∨m=6∨7≤m:=by omega
 rcases h with rfl|rfl|rfl|rfl|rfl|rfl|rfl|h
 all_goals first|decide|(rw[List.take_of_length_le (by show 7≤m;exact h)];decide)
theorem JqZ (k:Nat):((Ja8.take k).flatMap JgK).length≤100:=by
 have h:k=0∨k=1∨k=2∨k=3∨k=4∨k=5∨6≤k:=by omega
 rcases h with rfl|rfl|rfl|rfl|rfl|rfl|h
 all_goals first|decide|(rw[List.take_of_length_le (by show 6≤k;exact h)];decide)
theorem Jkm {x y:Int} (h:(x,y)∈Ja8):0≤x∧x≤2000∧0≤y∧y≤2000:=by
 unfold Ja8 at h;simp only[List.mem_cons,Prod.mk.injEq,List.not_mem_nil,or_false]at h;omega
theorem Jsv {m:Nat} {g:List Int} (h:JbD[m]? = some g):∀x∈g,I32 x:=fun x hx=>by
 have:=JiE (List.mem_of_getElem? h) hx;unfold InG at this;unfold I32;omega
def Jyj (w:World) (e:Ending) (w':World):Prop:=∃v,e=.returned v∧Jae w' w.heap.size v Jf8∧Below w.heap.size w w'
theorem JtC (w:World) (hT:JdS w):Calls Tryz.prog 82 #[] w (Jyj w):=by
 obtain⟨OA,hOA⟩:∃OA:Array Value,(Jff.map Jic).flatten.toArray=OA:=⟨_,rfl⟩;obtain⟨GA,hGA⟩:∃GA:Array Value,(Ja8.map JiA).flatten.toArray=GA:=⟨_,rfl⟩;have hodd:=Jo9;have hgreat:=Jp5;have hOs:OA.size=28:=by rw[←hOA];rfl
 have hGs:GA.size=12:=by rw[←hGA];rfl
 obtain⟨⟨t1,fr1,g1⟩,t2,fr2,g2⟩:=hT;rw[hOA]at hodd g1;rw[hGA]at hgreat g2;have HODD:=Hd hodd;have HGREAT:=Hd hgreat;have G1:=Hd g1;have G2:=Hd g2;have HOS:=Hd hOs;have HGS:=Hd hGs;clear hOA hGA hodd hgreat g1 g2 hOs hGs;obtain⟨w1,hw1⟩:∃w1,(w.alloc (.cells #[.slice none 0 0] 26)).alloc (.cells #[Je9 w.heap.size] 138)=w1:=⟨_,rfl⟩;have hb1:Below w.heap.size w w1:=by rw[←hw1];exact((Below.refl _ w).alloc (Nat.le_refl _) _).alloc (by simp) _
 have hBq:Boxed w1 w.heap.size 26 (.slice none 0 0):=by rw[←hw1];exact(Boxed.new w _ _).alloc _
 have hBf:Boxed w1 (w.heap.size+1) 138 (Je9 w.heap.size):=by
  rw[←hw1];have:=Boxed.new (w.alloc (.cells #[.slice none 0 0] 26)) 138 (Je9 w.heap.size)
  simpa using this
 have HB1:=Hd hb1;have HBQ:=Hd hBq;have HBF:=Hd hBf;have HW1:=Hd hw1;unfold Je9 at HW1;clear hb1 hBq hBf hw1;have hlt1:2<w.heap.size:=(Array.getElem?_eq_some_iff.1 G1.out).1;have hlt2:3<w.heap.size:=(Array.getElem?_eq_some_iff.1 G2.out).1
 go_enter Tryz.func82,Tryz.ntmps82
 go_wp2_with (refine wpList_load_row rfl 130 (.global 2) rfl 2 rfl t1 OA fr1 _ (by rw[HW1.out];exact(HB1.out.block _ hlt1).trans G1.out) Tryz.underlying130 rfl (by rw[HOS.out];kernel_rfl) ?_)
 rw[HW1.out]
 go_loopw [9] (fun i wr=>∃m:Nat,m≤7∧i=.int .i64 m∧∃vs,Boxed wr w.heap.size 26 vs∧Jae wr w.heap.size vs (Jfb m)∧Boxed wr (w.heap.size+1) 138 (Je9 w.heap.size)∧Below w.heap.size w wr) (fun i _=>7-(intOf i).toNat)
 case atStart=>exact⟨0,Nat.zero_le _,rfl,_,HBQ.out,JdR _ _,HBF.out,HB1.out⟩
 case round =>
  obtain⟨m,hm,rfl,vs,k1,k2,k3,k4⟩:=hrel;have K1:=Hd k1;have K2:=Hd k2;have K3:=Hd k3;have K4:=Hd k4;have hsz:=k4.size;clear k1 k2 k3 k4
  by_cases hlt:m<7
  ·obtain⟨n,x,y,z,hi,hg,hn,ho⟩:=HODD.out m hlt;have hlO:=Jon m;have hba:∀ob,Below wr.heap.size wr (wr.alloc ob):=fun ob=>(Below.refl _ _).alloc (Nat.le_refl _) _
   have hc:=fun ob=>JvS w.heap.size w.heap.size (w.heap.size+1) vs (Jfb m) ([x,y,z].take n) (wr.alloc ob) (by rw[List.length_take];omega) (Jsv hg) (by omega) (Nat.le_refl _) (by omega) (K1.out.alloc ob) (K2.out.below (hba ob)) (K3.out.alloc ob)
   rw[ho]at hc;have HG:=Hd hg;have HC:=Hd hc;have hmz:(m:Int)<7:=by omega
   clear hg ho hc hba;go_wp2_with fail;refine(HC.out _).mono ?_;rintro e w2 ⟨⟨u,rfl⟩,v2,j1,j2,j3⟩;rw[←JwC HG.out]at j2;have J1:=Hd j1;have J2:=Hd j2;have J3:=Hd (j3.box (K3.out.alloc _) (by omega) (K2.out.below ((Below.refl _ _).alloc (Nat.le_refl _) _)) (by decide));have J4:=Hd (K4.out.trans ((((Below.refl _ _).alloc (Nat.le_refl _) _:Below wr.heap.size wr _).mono hsz).trans j3.1));clear j1 j2 j3;go_wp2_with fail
   go_roundw
   case rel=>exact⟨m+1,hlt,by go_num,v2,J1.out,J2.out,J3.out,J4.out⟩
   case measure=>simp[intOf];omega
  ·have hm7:m=7:=by omega
   subst hm7;have hmz:¬((7:Nat):Int)<7:=by omega
   go_wp2_with (refine wpList_load_row rfl 133 (.global 3) rfl 3 rfl t2 GA fr2 _ ((K4.out.block _ hlt2).trans G2.out) Tryz.underlying133 rfl (by rw[HGS.out];kernel_rfl) ?_)
   go_loopw [17] (fun i wy=>∃k:Nat,k≤6∧i=.int .i64 k∧∃vs,Boxed wy w.heap.size 26 vs∧Jae wy w.heap.size vs (Jfb 7++(Ja8.take k).flatMap JgK)∧Boxed wy (w.heap.size+1) 138 (Je9 w.heap.size)∧Below w.heap.size w wy) (fun i _=>6-(intOf i).toNat)
   case atStart=>exact⟨0,Nat.zero_le _,rfl,_,K1.out,by simpa using K2.out,K3.out,K4.out⟩
   case round =>
    obtain⟨k,hk,rfl,vy,y1,y2,y3,y4⟩:=hrel;have Y1:=Hd y1;have Y2:=Hd y2;have Y3:=Hd y3;have Y4:=Hd y4;have hszy:=y4.size;have c1:=y1.cell;have c3:=y3.cell;unfold Je9 at c3;clear y1 y2 y3 y4
    by_cases hkl:k<6
    ·obtain⟨x,y,hi,hg⟩:=HGREAT.out k hkl;have hgb:=Jkm (List.mem_of_getElem? hg);have hl1:=Jon 7;have hl2:=JqZ k;have hx32:I32 x:=by unfold I32;omega
     have hy32:I32 y:=by unfold I32;omega
     have hx32':I32 (x+32):=by unfold I32;omega
     have hy32':I32 (y+32):=by unfold I32;omega
     have HG:=Hd hg;have hkz:(k:Int)<6:=by omega
     have hbb:∀ob,Below wr.heap.size wr (wr.alloc ob):=fun ob=>(Below.refl _ _).alloc (Nat.le_refl _) _
     have hA:=fun ob=>Jlg w.heap.size w.heap.size vy _ x y (wr.alloc ob) hx32 hy32 (by rw[List.length_append];omega) (Nat.le_refl _) (Y1.out.alloc ob) (Y2.out.below (hbb ob))
     have c3b:∀ob,(wr.alloc ob).cell? ⟨w.heap.size+1,0,none⟩=some (.func (.func 104) #[] #[.pointer (some ⟨w.heap.size,0,none⟩)]):=fun ob=>(Y3.out.alloc ob).cell
     have HBB:=Hd hbb;have HA:=Hd hA;clear hbb hA hg c1 c3;go_wp2_with fail;refine(HA.out _).mono ?_;rintro e w2 ⟨⟨u,rfl⟩,⟨v2,j1,j2,j3⟩,-⟩;have hE:Whole w2 wr.heap.size 132 #[.int .i32 x,.int .i32 y]:=j3.whole (heap_alloc_new wr _) (by have:=Y1.out.lt;omega) (own_lt Y2.out _ (Nat.le_refl _));have b3:=j3.box (Y3.out.alloc _) (by omega) (Y2.out.below (HBB.out _)) (by decide);have hA:=Jlg w.heap.size w.heap.size v2 _ (x+32) (y+32) w2 hx32' hy32' (by rw[List.length_append,List.length_append,List.length_singleton];omega) (Nat.le_refl _) j1 j2;have c3:=b3.cell;unfold Je9 at c3;have r0:=hE.cell 0;have r1:=hE.cell 1
     simp at r0 r1
     have B3:=Hd b3;have HA2:=Hd hA;have J4:=Hd (Y4.out.trans (((HBB.out _).mono hszy).trans j3.1));have J2:=Hd j2;clear hE b3 hA j1 j2 j3 c3b;go_wp2_with fail;refine HA2.out.mono ?_;rintro e w3 ⟨⟨u3,rfl⟩,⟨v3,j1,j2,j3⟩,-⟩;have J5:=Hd (J4.out.trans j3.1);have J3:=Hd (j3.box B3.out (by omega) J2.out (by decide));have hnx:=JyX HG.out;rw[List.append_assoc]at hnx;rw[List.append_assoc,List.append_assoc,←hnx]at j2;clear hnx;have J1:=Hd j1;have J6:=Hd j2;clear j1 j2 j3;go_wp2_with fail
     go_roundw
     case rel=>exact⟨k+1,hkl,by go_num,v3,J1.out,J6.out,J3.out,J5.out⟩
     case measure=>simp[intOf];omega
    ·have hk6:k=6:=by omega
     subst hk6;have hkz:¬((6:Nat):Int)<6:=by omega
     have e:Jfb 7++(Ja8.take 6).flatMap JgK=Jf8:=rfl;rw[e]at Y2;clear e c3;go_wp2_with fail;go_ret;exact⟨_,rfl,Y2.out,Y4.out⟩
end Go.Proofs.YtaaoamkagppodaaGreatDoor
