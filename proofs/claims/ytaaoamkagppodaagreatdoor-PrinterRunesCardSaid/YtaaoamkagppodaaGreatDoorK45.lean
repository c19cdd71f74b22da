/- Texts merged by program. No condition. -/
import Derived.Test.YtaaoamkagppodaaGreatDoorK37
import Derived.Test.YtaaoamkagppodaaGreatDoorK44
set_option maxHeartbeats 1600000
set_option maxRecDepth 100000
set_option linter.unusedVariables false
namespace Go.Proofs.YtaaoamkagppodaaGreatDoor
open Go Go.RowKit
def Jld (t:Tr) (w:World) (e:Ending) (w':World):Prop:=
 Below w.heap.size w w'∧((JbU t∧e=.returned (.tuple #[.string (Jau (Jad t)),.int .i64 0]))∨(¬JbU t∧e=.returned (.tuple #[.string ⟨#[]⟩,.int .i64 51])))
theorem JgL (t:Tr) (hp:Jai t≤10000000000) (v:Value) (w:World) (h:Tre w t v):Calls Tryz.prog 11 #[v] w (Jld t w):=by
 obtain⟨A,n,c,a2,s,c2,hn,hs,rfl,hnb,hsb,hK,hS,hFl⟩:=h.opened;obtain⟨w1,hw1⟩:∃w1,w.alloc (.cells #[.int .i64 t.fld.op,.slice A n c,.int .i32 t.fld.rune,.slice a2 s c2,.int .i64 t.fld.at',.int .i64 t.fld.cap,.string t.fld.name,.int .i64 t.fld.min,.int .i64 t.fld.max,.bool t.fld.lazy] 29)=w1:=⟨_,rfl⟩;have hb1:Below w.heap.size w w1:=by rw[←hw1];exact(Below.refl _ w).alloc (Nat.le_refl _) _
 have hE1:Whole w1 w.heap.size 29 #[.int .i64 t.fld.op,.slice A n c,.int .i32 t.fld.rune,.slice a2 s c2,.int .i64 t.fld.at',.int .i64 t.fld.cap,.string t.fld.name,.int .i64 t.fld.min,.int .i64 t.fld.max,.bool t.fld.lazy]:=by rw[←hw1];exact heap_alloc_new w _
 have HR:=Hd (Jn7 t hp _ w1 (h.below hb1));have HT:=Hd (h.below hb1);have HW1:=Hd hw1;have HB1:=Hd hb1;have HE1:=Hd hE1;obtain⟨g0,g1,g2,g3,g4,g5,g6,g7,g8,g9⟩:=hE1.ten;unfold Jld;obtain⟨R,hR⟩:∃R,JbU t=R:=⟨_,rfl⟩;rw[hR]at HR ⊢;have HRI:=Hd hR;clear h hn hs hnb hsb hK hS hFl hw1 hb1 hE1 hR
 go_enter Tryz.func11,Tryz.ntmps11
 go_upto_region 1 with(fail);rw[HW1.out];go_wp2_with fail;refine HR.out.mono ?_;rintro e w2 ⟨B,rfl,hq,hb2⟩;have HQ:=Hd hq;have HB2:=Hd (HB1.out.trans (hb2.mono HB1.out.size));have hE2:=HE1.out.below hb2 HE1.out.lt;have HT2:=Hd (HT.out.below hb2);clear hq hb2 g0 g1 g2 g3 g4 g5 g6 g7 g8 g9;obtain⟨g0,g1,g2,g3,g4,g5,g6,g7,g8,g9⟩:=hE2.ten;clear hE2
 cases B
 ·have HN:Hid (¬R):=Hd fun r=>(by have:=HQ.out.2 r;cases this)
  clear HQ;go_wp2_with fail
  go_ret2
  exact⟨HB2.out,.inr ⟨HN.out,rfl⟩⟩
 ·have hr:JbU t:=by rw[HRI.out];exact HQ.out.1 rfl
  have HX:=Hd (Jo6 _ t (Nat.lt_succ_self _) hp hr.2.2.1 _ w2 HT2.out);have HY:Hid R:=Hd (HQ.out.1 rfl);clear hr HQ;go_wp2_with fail;refine HX.out.mono ?_;rintro e w3 ⟨rfl,hb3⟩;have HB3:=Hd (HB2.out.trans (hb3.mono HB2.out.size));clear hb3;go_wp2_with fail
  go_ret2
  exact⟨HB3.out,.inl ⟨HY.out,rfl⟩⟩
def Jcb:Tr:=.mk ⟨3,97,[],0,0,⟨#[]⟩,0,0,false⟩ []
def JcR:Tr:=.mk ⟨7,0,[],0,0,⟨#[]⟩,0,0,false⟩ [Jcb]
def JfB:Tr:=.mk ⟨0,0,[],0,0,⟨#[]⟩,0,0,false⟩ []
theorem JrT:Jai JcR≤10000000000:=by rw[Jc9];simp[JcR,Tr.kids,Tr.fld,Jc9,Jcb]
theorem JsT:Jai JfB≤10000000000:=by rw[Jc9];simp[JfB,Tr.kids,Tr.fld]
theorem Jwj:JaC JcR=2:=by rw[Jd8];simp[JcR,Tr.kids,Jd8,Jcb,Jbj]
theorem Jwx:Ja5 JcR=2:=by rw[Jd7];simp[JcR,Tr.kids,Tr.fld,Jd7,Jcb,JcM,Jaz]
theorem JrJ:JaP JcR=[]:=by rw[Jfm];simp[JcR,Tr.kids,Tr.fld,Jfm,Jcb]
theorem JuL:JbU JcR:=by
 refine⟨by rw[Jwj];omega,by rw[Jwx];omega,?_,?_⟩
 ·rw[Jbl];refine⟨?_,?_,?_,?_⟩
  ·simp[Jbv,JcR,Tr.fld]
  ·simp[JbK,JcR,Tr.fld,Tr.kids]
  ·simp[JcR,Tr.fld]
  ·intro k hk;have:k=Jcb:=by simpa [JcR,Tr.kids]using hk
   subst this;rw[Jbl];refine⟨?_,?_,?_,?_⟩
   ·simp[Jbv,Jcb,Tr.fld]
   ·simp[JbK,Jcb,Tr.fld,Tr.kids]
   ·simp[Jcb,Tr.fld]
   ·simp[Jcb,Tr.kids]
 ·rw[JrJ];intro i hi
  simp at hi
theorem Jtc:¬JbU JfB:=fun h=>by
 have h1:=((Jbl _).1 h.2.2.1).1.1
 simp[JfB,Tr.fld]at h1
theorem Jv8:Jad Jcb=[97]:=by
 rw[Jfn];unfold JeE
 simp[Jcb,Tr.fld]
 decide
theorem Jxu:Jau (Jad JcR)=⟨#[97,42]⟩:=by
 have hn:¬Jcu Jcb:=by
  unfold Jcu;rw[Jdz (by unfold JbC;simp[Jcb,Tr.fld])]
  simp[Jcb,Tr.fld,Tr.kids]
 rw[JgD (k:=Jcb) (.inl rfl) rfl];unfold Jbf Jeh;rw[Jv8,if_neg hn];rfl
theorem JlL (w:World):Rgs w (.slice none 0 0) []:=⟨none,0,rfl,by simp,by unfold maxLen;omega,by simp,.inl rfl,by simp⟩
theorem Js3 (w:World):Tre w Jcb (.agg (JaW Jcb.fld (.slice none 0 0) (.slice none 0 0))):=by
 rw[JdZ];exact⟨_,_,rfl,JlL w,by simp[JcN,I64,I32,Jcb,Tr.fld];decide,none,0,rfl,by simp[Jcb,Tr.kids],by unfold maxLen;omega,by simp[Jcb,Tr.kids],by simp,.inl rfl⟩
theorem Jui (w:World):Tre w JfB (.agg (JaW JfB.fld (.slice none 0 0) (.slice none 0 0))):=by
 rw[JdZ];exact⟨_,_,rfl,JlL w,by simp[JcN,I64,I32,JfB,Tr.fld];decide,none,0,rfl,by simp[JfB,Tr.kids],by unfold maxLen;omega,by simp[JfB,Tr.kids],by simp,.inl rfl⟩
theorem JxJ {w:World} {b:Nat} (h:JcU w b 0 (JaW Jcb.fld (.slice none 0 0) (.slice none 0 0))):Tre w JcR (.agg (JaW JcR.fld (.slice (some ⟨b,0,none⟩) 1 1) (.slice none 0 0))):=by
 rw[JdZ];refine⟨_,_,rfl,JlL w,by simp[JcN,I64,I32,JcR,Tr.fld];decide,some ⟨b,0,none⟩,1,rfl,by simp[JcR,Tr.kids],by unfold maxLen;omega,by simp[JcR,Tr.kids],by simp,.inr ⟨b,0,rfl,trivial,fun i hi=>?_⟩⟩;have hi':i<1:=hi;obtain rfl:i=0:=by omega
 exact⟨_,by simpa using h,Js3 w⟩
theorem JkF (w:World):Calls Tryz.prog 10 #[] w fun e w'=>e=.returned (.bool true)∧Below w.heap.size w w':=by
 have hb1:Below w.heap.size w (w.alloc (.cells #[.int .i64 3,.slice none 0 0,.int .i32 97,.slice none 0 0,.int .i64 0,.int .i64 0,.string ⟨#[]⟩,.int .i64 0,.int .i64 0,.bool false] 29)):=(Below.refl _ _).alloc (Nat.le_refl _) _;have hc1:JcU (w.alloc (.cells #[.int .i64 3,.slice none 0 0,.int .i32 97,.slice none 0 0,.int .i64 0,.int .i64 0,.string ⟨#[]⟩,.int .i64 0,.int .i64 0,.bool false] 29)) w.heap.size 0 (JaW Jcb.fld (.slice none 0 0) (.slice none 0 0)):=Ji5 w (JaW Jcb.fld (.slice none 0 0) (.slice none 0 0)) _;have HX:=Hd (JgL JcR JrT _ _ (JxJ hc1));have HB1:=Hd hb1;clear hb1 hc1
 go_enter Tryz.func10,Tryz.ntmps10
 go_wp2_with fail;refine HX.out.mono ?_;rintro e w2 ⟨hb2,⟨-,rfl⟩|⟨hn,-⟩⟩
 rotate_left
 ·exact absurd JuL hn
 rw[Jxu];have HB2:=Hd (HB1.out.trans (hb2.mono HB1.out.size));clear hb2 HX HB1;have HY:=Hd (JgL JfB JsT _ w2 (Jui w2));go_wp2_with fail;refine HY.out.mono ?_;rintro e w3 ⟨hb3,⟨hn,-⟩|⟨-,rfl⟩⟩
 ·exact absurd hn Jtc
 have HB3:=Hd (HB2.out.trans (hb3.mono HB2.out.size));clear hb3 HY HB2;go_wp2_with fail;go_ret;exact⟨rfl,HB3.out⟩
end Go.Proofs.YtaaoamkagppodaaGreatDoor
