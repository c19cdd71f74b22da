/- Texts merged by program. No condition. -/
import Derived.Test.YtaaoamkagppodaaGreatDoorK34
import Derived.Test.YtaaoamkagppodaaGreatDoorK33
import Derived.Test.YtaaoamkagppodaaGreatDoorK32
set_option maxHeartbeats 40000000
set_option maxRecDepth 100000
set_option linter.unusedVariables false
namespace Go.Proofs.YtaaoamkagppodaaGreatDoor
open Go Go.RowKit
theorem JxE (a:Int) (w:World):Calls Tryz.prog 33 #[.int .i64 a] w fun e w'=>e=.returned (.string (Jau (Jcf a)))∧w'=w:=by
 have step:∀(k:Int),(a==k)=decide (a=k):=fun k=>by by_cases h:a=k<;>simp[h]
 obtain⟨O,hO⟩:∃O,Jcf a=O:=⟨_,rfl⟩;rw[hO];have HO:=Hd hO;clear hO;unfold Jcf at HO
 go_enter Tryz.func33,Tryz.ntmps33
 by_cases h1:a=1
 ·subst h1;go_wp2_with fail;go_ret;exact⟨by rw[←HO.out];rfl,rfl⟩
 by_cases h2:a=2
 ·subst h2;go_wp2_with fail;go_ret;exact⟨by rw[←HO.out];rfl,rfl⟩
 by_cases h4:a=4
 ·subst h4;go_wp2_with fail;go_ret;exact⟨by rw[←HO.out];rfl,rfl⟩
 by_cases h8:a=8
 ·subst h8;go_wp2_with fail;go_ret;exact⟨by rw[←HO.out];rfl,rfl⟩
 by_cases h16:a=16
 ·subst h16;go_wp2_with fail;go_ret;exact⟨by rw[←HO.out];rfl,rfl⟩
 ·have e1:(a==1)=false:=by simpa using h1
  have e2:(a==2)=false:=by simpa using h2
  have e4:(a==4)=false:=by simpa using h4
  have e8:(a==8)=false:=by simpa using h8
  have e16:(a==16)=false:=by simpa using h16
  have HF:=Hd (show O=[92,66] by rw[←HO.out,if_neg h1,if_neg h2,if_neg h4,if_neg h8,if_neg h16]);clear h1 h2 h4 h8 h16 step;go_wp2_with fail;go_ret;exact⟨by rw[HF.out];rfl,rfl⟩
theorem JwU (nm:ByteArray) (w:World) (hn:nm.size≤1000000):Calls Tryz.prog 35 #[.string nm] w fun e w'=>e=.returned (.string (Jau (JbX nm.toList)))∧Below w.heap.size w w':=by
 have hz:nm.toList.length=nm.size:=by rw[Lib.toList_data,←Lib.size_eq]
 by_cases h0:nm.toList=[]
 ·have q1:nm.toList.isEmpty=true:=by rw[h0];rfl
  have q2:(nm.toList==[])=true:=by rw[h0];rfl
  have HB:=Hd (show JbX nm.toList=[40] by unfold JbX;rw[if_pos h0]);rw[HB.out];clear h0 hz
  go_enter Tryz.func35,Tryz.ntmps35
  go_wp2_with fail;go_ret;exact⟨rfl,Below.refl _ _⟩
 ·have q1:nm.toList.isEmpty=false:=by simpa using h0
  have q2:(nm.toList==[])=false:=by simpa using h0
  have HB:=Hd (show JbX nm.toList=40::63::80::60::(nm.toList++[62]) by unfold JbX;rw[if_neg h0]);rw[HB.out];have HJ:=Hd (Jf7 [⟨#[40,63,80,60]⟩,nm,⟨#[62]⟩] w 3 _ rfl rfl 9 (by decide) (by
   simp[Ja4,show (⟨#[40,63,80,60]⟩:ByteArray).toList=[40,63,80,60] by kernel_rfl,show (⟨#[62]⟩:ByteArray).toList=[62] by kernel_rfl];omega))
  clear h0 hz
  go_enter Tryz.func35,Tryz.ntmps35
  go_wp2_with fail;refine HJ.out.mono ?_;rintro e w1 ⟨rfl,hb⟩;go_wp2_with fail;go_ret;refine⟨?_,hb⟩
  simp[Ja4,show (⟨#[40,63,80,60]⟩:ByteArray).toList=[40,63,80,60] by kernel_rfl,show (⟨#[62]⟩:ByteArray).toList=[62] by kernel_rfl]
theorem JvD (a b:Int) (w:World) (h0:0≤a) (h1:a≤1000) (hb:b = -1∨(a≤b∧b≤1000)):Calls Tryz.prog 59 #[.int .i64 a,.int .i64 b] w fun e w'=>e=.returned (.string (Jau (JdD a b)))∧Below w.heap.size w w':=by
 obtain⟨n,rfl⟩:∃n:Nat,a=n:=⟨a.toNat,by omega⟩;have HA:=Hd fun W=>Jmi n 10 W (by decide) (by decide) (by omega)
 rw[Jjg]at HA;have la:(Lib.decDigits n).length≤22:=by rw[←Jjg];exact Nat.le_trans (Jh3 10 (by decide) 20 n (by omega)) (by decide)
 have L1:(⟨#[123]⟩:ByteArray).toList=[123]:=by kernel_rfl
 have L2:(⟨#[125]⟩:ByteArray).toList=[125]:=by kernel_rfl
 have L3:(⟨#[44,125]⟩:ByteArray).toList=[44,125]:=by kernel_rfl
 have L4:(⟨#[44]⟩:ByteArray).toList=[44]:=by kernel_rfl
 have hc:JdD (n:Int) b=123::(Lib.decDigits n++((if b = -1 then [44]else if b=n then []else 44::Lib.decDigits b.toNat)++[125])):=rfl
 by_cases hbn:b=n
 ·subst hbn;rw[if_neg (by omega),if_pos rfl]at hc;rw[hc];obtain⟨D,hD⟩:∃D,Lib.decDigits n=D:=⟨_,rfl⟩;rw[hD]at HA la ⊢;clear hc hD hb;have HJ:=Hd fun W=>Jf7 [⟨#[123]⟩,Jau D,⟨#[125]⟩] W 3 _ rfl rfl 9 (by decide) (by simp[Ja4,Jcx,L1,L2];omega)
  have HE:=Hd (show Ja4 [⟨#[123]⟩,Jau D,⟨#[125]⟩]=123::(D++([]++[125])) by simp[Ja4,Jcx,L1,L2]);clear L1 L2 L3 L4
  go_enter Tryz.func59,Tryz.ntmps59
  go_wp2_with fail;refine(HA.out _).mono ?_;rintro e w1 ⟨rfl,hb1⟩;have HB1:=Hd hb1;clear hb1;go_wp2_with fail;refine(HJ.out _).mono ?_;rintro e w2 ⟨rfl,hb2⟩;have HB2:=Hd (HB1.out.trans (hb2.mono HB1.out.size));clear hb2;go_wp2_with fail;go_ret;exact⟨by rw[HE.out];try rfl,HB2.out⟩
 have e1:(b==(n:Int))=false:=by simpa using hbn
 by_cases hm:b = -1
 ·subst hm;rw[if_pos rfl]at hc;rw[hc];obtain⟨D,hD⟩:∃D,Lib.decDigits n=D:=⟨_,rfl⟩;rw[hD]at HA la ⊢;clear hc hD hb hbn;have HJ:=Hd fun W=>Jf7 [⟨#[123]⟩,Jau D,⟨#[44,125]⟩] W 3 _ rfl rfl 9 (by decide) (by simp[Ja4,Jcx,L1,L3];omega)
  have HE:=Hd (show Ja4 [⟨#[123]⟩,Jau D,⟨#[44,125]⟩]=123::(D++([44]++[125])) by simp[Ja4,Jcx,L1,L3]);clear L1 L2 L3 L4
  go_enter Tryz.func59,Tryz.ntmps59
  go_wp2_with fail;refine(HA.out _).mono ?_;rintro e w1 ⟨rfl,hb1⟩;have HB1:=Hd hb1;clear hb1;go_wp2_with fail;refine(HJ.out _).mono ?_;rintro e w2 ⟨rfl,hb2⟩;have HB2:=Hd (HB1.out.trans (hb2.mono HB1.out.size));clear hb2;go_wp2_with fail;go_ret;exact⟨by rw[HE.out];try rfl,HB2.out⟩
 ·obtain⟨m,rfl⟩:∃m:Nat,b=m:=⟨b.toNat,by omega⟩;have HM:=Hd fun W=>Jmi m 10 W (by decide) (by decide) (by omega)
  rw[Jjg]at HM;have lm:(Lib.decDigits m).length≤22:=by rw[←Jjg];exact Nat.le_trans (Jh3 10 (by decide) 20 m (by omega)) (by decide)
  have e2:((m:Int) == -1)=false:=by simp
  rw[if_neg hm,if_neg hbn]at hc;rw[hc,show ((m:Int)).toNat=m from rfl];obtain⟨D,hD⟩:∃D,Lib.decDigits n=D:=⟨_,rfl⟩;obtain⟨M,hM⟩:∃M,Lib.decDigits m=M:=⟨_,rfl⟩;rw[hD]at HA la ⊢;rw[hM]at HM lm ⊢;clear hc hD hM hb hbn hm;have HJ:=Hd fun W=>Jf7 [⟨#[123]⟩,Jau D,⟨#[44]⟩,Jau M,⟨#[125]⟩] W 5 _ rfl rfl 9 (by decide) (by simp[Ja4,Jcx,L1,L2,L4];omega)
  have HE:=Hd (show Ja4 [⟨#[123]⟩,Jau D,⟨#[44]⟩,Jau M,⟨#[125]⟩]=123::(D++(44::M++[125])) by simp[Ja4,Jcx,L1,L2,L4]);clear L1 L2 L3 L4
  go_enter Tryz.func59,Tryz.ntmps59
  go_wp2_with fail;refine(HA.out _).mono ?_;rintro e w1 ⟨rfl,hb1⟩;have HB1:=Hd hb1;clear hb1;go_wp2_with fail;refine(HM.out _).mono ?_;rintro e w2 ⟨rfl,hb2⟩;have HB2:=Hd (HB1.out.trans (hb2.mono HB1.out.size));clear hb2;go_wp2_with fail;refine(HJ.out _).mono ?_;rintro e w3 ⟨rfl,hb3⟩;have HB3:=Hd (HB2.out.trans (hb3.mono HB2.out.size));clear hb3;go_wp2_with fail;go_ret;exact⟨by rw[HE.out];try rfl,HB3.out⟩
def Jio (f:Fld):List UInt8:=if f.op=7 then [42]else if f.op=8 then [43]else if f.op=9 then [63]else JdD f.min f.max
def JiK (f:Fld):List UInt8:=if f.lazy=true then [63]else []
theorem Jr0 (t:Tr) (v:Value) (w:World) (h:Tre w t v) (hf:Jbv t.fld) (hop:t.fld.op=7∨t.fld.op=8∨t.fld.op=9∨t.fld.op=10):Calls Tryz.prog 37 #[v] w fun e w'=>e=.returned (.string (Jau (Jio t.fld)))∧Below w.heap.size w w':=by
 obtain⟨A,n,c,a2,s,c2,hn,hs,rfl,hnb,hsb,hK,hS,hFl⟩:=h.opened;obtain⟨w1,hw1⟩:∃w1,w.alloc (.cells #[.int .i64 t.fld.op,.slice A n c,.int .i32 t.fld.rune,.slice a2 s c2,.int .i64 t.fld.at',.int .i64 t.fld.cap,.string t.fld.name,.int .i64 t.fld.min,.int .i64 t.fld.max,.bool t.fld.lazy] 29)=w1:=⟨_,rfl⟩;have hb1:Below w.heap.size w w1:=by rw[←hw1];exact(Below.refl _ w).alloc (Nat.le_refl _) _
 have hE1:Whole w1 w.heap.size 29 #[.int .i64 t.fld.op,.slice A n c,.int .i32 t.fld.rune,.slice a2 s c2,.int .i64 t.fld.at',.int .i64 t.fld.cap,.string t.fld.name,.int .i64 t.fld.min,.int .i64 t.fld.max,.bool t.fld.lazy]:=by rw[←hw1];exact heap_alloc_new w _
 obtain⟨g0,g1,g2,g3,g4,g5,g6,g7,g8,g9⟩:=hE1.ten;have HC:Hid (t.fld.op=10→∀W,Calls Tryz.prog 59 #[.int .i64 t.fld.min,.int .i64 t.fld.max] W fun e w'=>e=.returned (.string (Jau (JdD t.fld.min t.fld.max)))∧Below W.heap.size W w'):=Hd (fun e W=>by
  have q:=hf.2.2.2.2.2.2.2.2.2.2.2.2 e;exact JvD _ _ W q.1.1 q.1.2 q.2)
 have HW1:=Hd hw1;have HB1:=Hd hb1;obtain⟨O,hO⟩:∃O,Jio t.fld=O:=⟨_,rfl⟩;rw[hO];unfold Jio at hO;clear h hn hs hnb hsb hK hS hFl hw1 hb1 hE1 hf;obtain⟨op,ho⟩:∃op,t.fld.op=op:=⟨_,rfl⟩;rw[ho]at hop g0 HC hO;have HO:=Hd hO;have HP:=Hd ho;clear ho hO
 go_enter Tryz.func37,Tryz.ntmps37
 go_upto_region 1 with(fail);rw[HW1.out]
 rcases hop with rfl|rfl|rfl|rfl
 ·go_wp2_with fail;go_ret;exact⟨by rw[←HO.out];rfl,HB1.out⟩
 ·go_wp2_with fail;go_ret;exact⟨by rw[←HO.out];rfl,HB1.out⟩
 ·go_wp2_with fail;go_ret;exact⟨by rw[←HO.out];rfl,HB1.out⟩
 ·have HC2:=Hd (HC.out rfl);clear HC;go_wp2_with fail;refine(HC2.out _).mono ?_;rintro e w2 ⟨rfl,hb2⟩;have HB2:=Hd (HB1.out.trans (hb2.mono HB1.out.size));clear hb2;go_wp2_with fail;go_ret;exact⟨by rw[←HO.out];rfl,HB2.out⟩
theorem Jv7 (t:Tr) (v:Value) (w:World) (h:Tre w t v):Calls Tryz.prog 38 #[v] w fun e w'=>e=.returned (.string (Jau (JiK t.fld)))∧Below w.heap.size w w':=by
 obtain⟨A,n,c,a2,s,c2,hn,hs,rfl,hnb,hsb,hK,hS,hFl⟩:=h.opened;obtain⟨w1,hw1⟩:∃w1,w.alloc (.cells #[.int .i64 t.fld.op,.slice A n c,.int .i32 t.fld.rune,.slice a2 s c2,.int .i64 t.fld.at',.int .i64 t.fld.cap,.string t.fld.name,.int .i64 t.fld.min,.int .i64 t.fld.max,.bool t.fld.lazy] 29)=w1:=⟨_,rfl⟩;have hb1:Below w.heap.size w w1:=by rw[←hw1];exact(Below.refl _ w).alloc (Nat.le_refl _) _
 have hE1:Whole w1 w.heap.size 29 #[.int .i64 t.fld.op,.slice A n c,.int .i32 t.fld.rune,.slice a2 s c2,.int .i64 t.fld.at',.int .i64 t.fld.cap,.string t.fld.name,.int .i64 t.fld.min,.int .i64 t.fld.max,.bool t.fld.lazy]:=by rw[←hw1];exact heap_alloc_new w _
 obtain⟨g0,g1,g2,g3,g4,g5,g6,g7,g8,g9⟩:=hE1.ten;have HW1:=Hd hw1;have HB1:=Hd hb1;obtain⟨O,hO⟩:∃O,JiK t.fld=O:=⟨_,rfl⟩;rw[hO];unfold JiK at hO;clear h hn hs hnb hsb hK hS hFl hw1 hb1 hE1;obtain⟨lz,hl⟩:∃lz,t.fld.lazy=lz:=⟨_,rfl⟩;rw[hl]at hO g9;have HO:=Hd hO;have HP:=Hd hl;clear hO hl
 go_enter Tryz.func38,Tryz.ntmps38
 go_upto_region 1 with(fail);rw[HW1.out]
 cases lz
 ·go_wp2_with fail;go_ret;exact⟨by rw[←HO.out];rfl,HB1.out⟩
 ·go_wp2_with fail;go_ret;exact⟨by rw[←HO.out];rfl,HB1.out⟩
theorem JxG (c:Int) (w:World):Calls Tryz.prog 54 #[.int .i32 c] w fun e w'=>e=.returned (.bool ((decide (65≤c)&&decide (c≤90)) || (decide (97≤c)&&decide (c≤122))))∧w'=w:=by
 obtain⟨B,hB⟩:∃B,((decide (65≤c)&&decide (c≤90)) || (decide (97≤c)&&decide (c≤122)))=B:=⟨_,rfl⟩;rw[hB];have HB:=Hd hB;clear hB
 go_enter Tryz.func54,Tryz.ntmps54
 go_wp2_with fail
 all_goals
  go_ret;refine⟨congrArg (fun b=>Ending.returned (Value.bool b)) ?_,rfl⟩;rw[←HB.out,Bool.eq_iff_iff]
  simp
  try omega
theorem Jsk (c:Int) (w:World):Calls Tryz.prog 55 #[.int .i32 c] w fun e w'=>e=.returned (.bool (decide (48≤c)&&decide (c≤57)))∧w'=w:=by
 obtain⟨B,hB⟩:∃B,(decide (48≤c)&&decide (c≤57))=B:=⟨_,rfl⟩;rw[hB];have HB:=Hd hB;clear hB
 go_enter Tryz.func55,Tryz.ntmps55
 go_wp2_with fail
 all_goals
  go_ret;refine⟨congrArg (fun b=>Ending.returned (Value.bool b)) ?_,rfl⟩;rw[←HB.out,Bool.eq_iff_iff]
  simp
  try omega
theorem JkK (c:Int):∀l:List UInt8,(l.any fun x=>decide ((x.toNat:Int)=c))=(l.map fun x=>(x.toNat:Int)).contains c
 | []=>rfl
 | x::l=>by
  rw[List.any_cons,JkK c l,List.map_cons,List.contains_cons]
  congr 1
  by_cases h:(x.toNat:Int)=c
  ·rw[decide_eq_true h,h];exact(beq_self_eq_true c).symm
  ·rw[decide_eq_false h];exact(beq_eq_false_iff_ne.2 fun e=>h e.symm).symm
def JhX:ByteArray:=⟨#[32,95,33,34,35,37,38,39,44,45,47,58,59,60,61,62,64,126,96]⟩
def JhF:ByteArray:=⟨#[92,46,43,42,63,40,41,124,91,93,123,125,94,36]⟩
theorem JnD:JhX.toList=[32,95,33,34,35,37,38,39,44,45,47,58,59,60,61,62,64,126,96]:=by kernel_rfl
theorem Jpa:JhF.toList=[92,46,43,42,63,40,41,124,91,93,123,125,94,36]:=by kernel_rfl
theorem Ju3:Jjy JhX:=⟨by show 4≤19;decide,by show 19≤100;decide,by rw[JnD];decide⟩
theorem JxF:Jjy JhF:=⟨by show 4≤14;decide,by show 14≤100;decide,by rw[Jpa];decide⟩
theorem Jw5 (c:Int):(JhX.toList.any fun x=>decide ((x.toNat:Int)=c))=[32,95,33,34,35,37,38,39,44,45,47,58,59,60,61,62,64,126,96].contains c:=by
 rw[JnD,JkK];rfl
theorem JxR (c:Int):(JhF.toList.any fun x=>decide ((x.toNat:Int)=c))=Jds c:=by
 unfold Jds;rw[Jpa,JkK];rfl
theorem Jx3 (c:Int) (h0:0≤c) (h1:c≤127):Utf8.encode c=Jau [UInt8.ofNat c.toNat]:=by
 have hr:JeW c:=by unfold JeW;omega
 have hl:=JqW c hr;obtain⟨d,hd,hc⟩:∃d:UInt8,Lib.encodeRune c=[d]∧(d.toNat:Int)=c:=by
  unfold Lib.encodeRune;rw[Lib.encodeRuneZ_one h0 h1];exact⟨_,rfl,by rw[JdL c h0 (by omega)];omega⟩
 rw[←Jye (Utf8.encode c),hl,hd,show c.toNat=d.toNat by omega]
 simp
theorem Jsi (c:Int) (w:World) (h0:0≤c) (h1:c≤1114111):Calls Tryz.prog 31 #[.int .i32 c] w fun e w'=>e=.returned (.string (Jau (Jb3 c)))∧Below w.heap.size w w':=by
 have HL:=Hd fun W=>JxG c W
 have HD:=Hd fun W=>Jsk c W
 have HI:=Hd fun W=>Jmy JhX c W Ju3 h0 h1
 have HS:=Hd fun W=>Jmy JhF c W JxF h0 h1
 obtain⟨n,hn⟩:∃n:Nat,c=n:=⟨c.toNat,by omega⟩;have HN:=Hd fun W=>Jla n W (by omega)
 rw[←hn]at HN;unfold JhX at HI;unfold JhF at HS;obtain⟨bL,hL⟩:∃b,((decide (65≤c)&&decide (c≤90)) || (decide (97≤c)&&decide (c≤122)))=b:=⟨_,rfl⟩;obtain⟨bD,hD⟩:∃b,(decide (48≤c)&&decide (c≤57))=b:=⟨_,rfl⟩;obtain⟨bI,hI⟩:∃b,[32,95,33,34,35,37,38,39,44,45,47,58,59,60,61,62,64,126,96].contains c=b:=⟨_,rfl⟩;obtain⟨bS,hS⟩:∃b,Jds c=b:=⟨_,rfl⟩;have hself:JgH c=(bL || bD || bI):=by
  unfold JgH;rw[←hL,←hD,←hI]
  generalize [32,95,33,34,35,37,38,39,44,45,47,58,59,60,61,62,64,126,96].contains c=x
  generalize (decide (48≤c)&&decide (c≤57))=y
  generalize (decide (65≤c)&&decide (c≤90))=z
  generalize (decide (97≤c)&&decide (c≤122))=u
  cases x<;>cases y<;>cases z<;>cases u<;>rfl
 have eI:=Jw5 c;have eS:=JxR c;unfold JhX at eI;unfold JhF at eS;rw[hL]at HL;rw[hD]at HD;rw[eI,hI]at HI;rw[eS,hS]at HS;have hP:Jb3 c=if (bL || bD || bI)=true then [UInt8.ofNat c.toNat]else if bS=true then [92,UInt8.ofNat c.toNat]else 92::120::123::(JaS n++[125]):=by
  unfold Jb3 JcP;rw[hself,hS,hn];rfl
 have hlow:(bL || bD || bI)=true∨bS=true→Utf8.encode c=Jau [UInt8.ofNat c.toNat]:=fun h=>by
  refine Jx3 c h0 ?_
  rcases h with h|h
  ·rw[←hself]at h;unfold JgH at h;simp only[Bool.or_eq_true,Bool.and_eq_true,decide_eq_true_eq,List.contains_cons,List.contains_nil,Bool.or_false,beq_iff_eq]at h;omega
  ·rw[←hS]at h;unfold Jds at h;simp only[List.contains_cons,List.contains_nil,Bool.or_false,Bool.or_eq_true,beq_iff_eq]at h;omega
 have hcv:∀E,Utf8.encode c=E→∀W,(convert 21 9 (.int .i32 c)).run Tryz.prog W=.ok (.string E) W:=fun E hE W=>by
  rw[←hE];exact run_convert_int_string W _ _ .i32 c (by rw[Tryz.underlying21];rfl) Tryz.underlying9
 obtain⟨O,hO⟩:∃O,Jb3 c=O:=⟨_,rfl⟩;rw[hO]at hP ⊢;obtain⟨E,hE⟩:∃E,Utf8.encode c=E:=⟨_,rfl⟩;replace hcv:=hcv E hE;rw[hE]at hlow;have HLOW:=Hd hlow;have HP:=Hd hP;clear hlow hP hself eI eS hL hD hI hS hn hE hO;have jE:∀(b:UInt8) (w1:World),Below w.heap.size w w1→E=Jau [b]→Calls Tryz.prog 34 #[.slice (some ⟨w1.heap.size,0,none⟩) 2 2] (w1.alloc (.cells #[.string ⟨#[92]⟩,.string E] 9)) fun e w'=>e=.returned (.string (Jau [92,b]))∧Below w.heap.size w w':=fun b w1 hw he=>by
  refine(Jf7 [⟨#[92]⟩,E] w1 2 _ rfl rfl 9 (by decide) ?_).mono fun e w' ⟨h1,h2⟩=>⟨?_,hw.trans (h2.mono hw.size)⟩
  ·rw[he]
   simp[Ja4,Jcx,show (⟨#[92]⟩:ByteArray).toList=[92] by kernel_rfl]
  ·rw[h1,he]
   simp[Ja4,Jcx,show (⟨#[92]⟩:ByteArray).toList=[92] by kernel_rfl]
 have JE:=Hd jE;clear jE
 go_enter Tryz.func31,Tryz.ntmps31
 go_wp2_with fail;refine(HL.out _).mono ?_;rintro e w1 ⟨rfl,rfl⟩
 cases bL with
 | true =>
  go_wp2_with fail;go_ret;exact⟨by rw[HP.out,HLOW.out (.inl rfl)];rfl,Below.refl _ _⟩
 | false =>
  go_wp2_with fail;refine(HD.out _).mono ?_;rintro e w2 ⟨rfl,rfl⟩
  cases bD with
  | true =>
   go_wp2_with fail;go_ret;exact⟨by rw[HP.out,HLOW.out (.inl rfl)];rfl,Below.refl _ _⟩
  | false =>
   go_wp2_with fail;refine(HI.out _).mono ?_;rintro e w3 ⟨rfl,hb3⟩;have HB3:=Hd hb3;clear hb3
   cases bI with
   | true =>
    go_wp2_with fail;go_ret;exact⟨by rw[HP.out,HLOW.out (.inl rfl)];rfl,HB3.out⟩
   | false =>
    go_wp2_with fail;refine(HS.out _).mono ?_;rintro e w4 ⟨rfl,hb4⟩;have HB4:=Hd (HB3.out.trans (hb4.mono HB3.out.size));clear hb4
    cases bS with
    | true =>
     have HJ:=Hd (JE.out _ w4 HB4.out (HLOW.out (.inr rfl)));go_wp2_with fail;refine HJ.out.mono ?_;rintro e w5 ⟨rfl,hb5⟩;have HB5:=Hd hb5;clear hb5;go_wp2_with fail;go_ret;exact⟨by rw[HP.out];rfl,HB5.out⟩
    | false =>
     go_wp2_with fail;refine(HN.out _).mono ?_;rintro e w5 ⟨rfl,hb5⟩;have HB5:=Hd (HB4.out.trans (hb5.mono HB4.out.size));clear hb5;go_wp2_with fail;go_ret;exact⟨by rw[HP.out];rfl,HB5.out⟩
theorem Jf0 (t:Tr):Jay t→Jay (Jar t)∧Jai (Jar t)≤Jai t∧Jad (Jar t)=Jad t:=by
 refine Tr.ind (P:=fun t=>Jay t→Jay (Jar t)∧Jai (Jar t)≤Jai t∧Jad (Jar t)=Jad t) (fun t ih hs=>?_) t
 by_cases hl:JbC t
 ·obtain⟨k,hkk⟩:=Jf2 hl;have e:=ih k (by rw[hkk];simp) (((Jbl t).1 hs).2.2.2 k (by rw[hkk];simp));have hp:=Jfo (t:=t) (k:=k) (by rw[hkk];simp);rw[JhU hl hkk,JgF hl hkk];exact⟨e.1,by omega,e.2.2⟩
 ·rw[Jdz hl];exact⟨hs,Nat.le_refl _,rfl⟩
def Jda (t:Tr):Prop:=∀(v:Value) (w:World),Tre w t v→Calls Tryz.prog 20 #[v] w (Jh5 (Jad t) w)
theorem Jm4 (l:List UInt8):Ja4 [⟨#[40,63,58]⟩,Jau l,⟨#[41]⟩]=Jc1 l:=by simp[Ja4,Jcx,Jc1]
theorem JpX {t:Tr} (hC:Jda t) (hl:(Jad t).length≤100000000000000) (v:Value) (w:World) (h:Tre w t v):Calls Tryz.prog 58 #[v] w (Jh5 (Jc1 (Jad t)) w):=by
 obtain⟨A,n,c,a2,s,c2,hn,hs,rfl,hnb,hsb,hK,hS,hFl⟩:=h.opened;obtain⟨w1,hw1⟩:∃w1,w.alloc (.cells #[.int .i64 t.fld.op,.slice A n c,.int .i32 t.fld.rune,.slice a2 s c2,.int .i64 t.fld.at',.int .i64 t.fld.cap,.string t.fld.name,.int .i64 t.fld.min,.int .i64 t.fld.max,.bool t.fld.lazy] 29)=w1:=⟨_,rfl⟩;have hb1:Below w.heap.size w w1:=by rw[←hw1];exact(Below.refl _ w).alloc (Nat.le_refl _) _
 have hE1:Whole w1 w.heap.size 29 #[.int .i64 t.fld.op,.slice A n c,.int .i32 t.fld.rune,.slice a2 s c2,.int .i64 t.fld.at',.int .i64 t.fld.cap,.string t.fld.name,.int .i64 t.fld.min,.int .i64 t.fld.max,.bool t.fld.lazy]:=by rw[←hw1];exact heap_alloc_new w _
 have HA:=Hd (hC _ w1 (h.below hb1));have HW1:=Hd hw1;have HB1:=Hd hb1;obtain⟨g0,g1,g2,g3,g4,g5,g6,g7,g8,g9⟩:=hE1.ten;obtain⟨x,hx⟩:∃x,Jad t=x:=⟨_,rfl⟩;rw[hx]at HA hl ⊢;have HJ:=Hd fun W=>Jf7 [⟨#[40,63,58]⟩,Jau x,⟨#[41]⟩] W 3 _ rfl rfl 9 (by decide) (by rw[Jm4,Jjh];omega)
 rw[Jm4]at HJ;obtain⟨Y,hY⟩:∃Y,Jc1 x=Y:=⟨_,rfl⟩;rw[hY]at HJ ⊢;clear h hn hs hnb hsb hK hS hFl hw1 hb1 hE1 hx hY hl
 go_enter Tryz.func58,Tryz.ntmps58
 go_upto_region 1 with(fail);rw[HW1.out];go_wp2_with fail;refine HA.out.mono ?_;rintro e w2 ⟨rfl,hb2⟩;have HB2:=Hd (HB1.out.trans (hb2.mono HB1.out.size));clear hb2;go_wp2_with fail;refine(HJ.out _).mono ?_;rintro e w3 ⟨rfl,hb3⟩;have HB3:=Hd (HB2.out.trans (hb3.mono HB2.out.size));clear hb3;go_wp2_with fail;go_ret;exact⟨rfl,HB3.out⟩
theorem JtS {k:Tr} (hs0:Jay k) (hp:Jai k≤10000000000) (hC:Jda (Jar k)) (v:Value) (w:World) (h:Tre w k v):Calls Tryz.prog 36 #[v] w (Jh5 (Jbf k) w):=by
 have q1:=Jf0 k hs0;have hlen:=Jhe (Jar k) q1.1;have HI:=Hd (JpX hC (by omega));have HT:=Hd hC;have hops:=JeP q1.1;have hnl:=Jh8 k;have HX:Hid (Jad (Jar k)=Jad k):=Hd q1.2.2;clear hlen hC q1;obtain⟨O,hO⟩:∃O,Jbf k=O:=⟨_,rfl⟩;rw[hO];have HO:=Hd hO;clear hO hs0;have hF:=h.foot;obtain⟨u,hu⟩:∃u,Jar k=u:=⟨_,rfl⟩;have HU:=Hd hu;clear hu;obtain⟨A,n,c,a2,s,c2,hn,hs,rfl,hnb,hsb,hK,hS,hFl⟩:=h.opened;obtain⟨w1,hw1⟩:∃w1,w.alloc (.cells #[.int .i64 k.fld.op,.slice A n c,.int .i32 k.fld.rune,.slice a2 s c2,.int .i64 k.fld.at',.int .i64 k.fld.cap,.string k.fld.name,.int .i64 k.fld.min,.int .i64 k.fld.max,.bool k.fld.lazy] 29)=w1:=⟨_,rfl⟩;have hb1:Below w.heap.size w w1:=by rw[←hw1];exact(Below.refl _ w).alloc (Nat.le_refl _) _
 have hE1:Whole w1 w.heap.size 29 #[.int .i64 k.fld.op,.slice A n c,.int .i32 k.fld.rune,.slice a2 s c2,.int .i64 k.fld.at',.int .i64 k.fld.cap,.string k.fld.name,.int .i64 k.fld.min,.int .i64 k.fld.max,.bool k.fld.lazy]:=by rw[←hw1];exact heap_alloc_new w _
 have HA:=Hd (JiB (fun b=>b<w.heap.size) k _ w1 (fun b hb=>Nat.lt_of_lt_of_le hb hb1.size) (hF.same (Jcw hb1) (fun _ h _=>h)) hp);have HW1:=Hd hw1;have HB1:=Hd hb1;have HE1:=Hd hE1;obtain⟨g0,g1,g2,g3,g4,g5,g6,g7,g8,g9⟩:=hE1.ten;clear h hF hn hs hnb hsb hK hS hFl hw1 hb1 hE1
 go_enter Tryz.func36,Tryz.ntmps36
 go_upto_region 1 with(fail);rw[HW1.out];go_wp2_with fail;refine HA.out.mono ?_;rintro e w2 ⟨v2,rfl,ht2,hb2⟩;rw[HU.out]at ht2;obtain⟨kv2,sv2,rfl,⟨x1,x2,x3,rfl⟩,⟨y1,y2,y3,rfl⟩⟩:=ht2.ten;have hE2:Whole w2 w.heap.size 29 #[.int .i64 k.fld.op,.slice A n c,.int .i32 k.fld.rune,.slice a2 s c2,.int .i64 k.fld.at',.int .i64 k.fld.cap,.string k.fld.name,.int .i64 k.fld.min,.int .i64 k.fld.max,.bool k.fld.lazy]:=HE1.out.below hb2 HE1.out.lt;obtain⟨w3,hw3⟩:∃w3,Jbs w2 w.heap.size (.int .i64 u.fld.op) (.slice x1 x2 x3) (.int .i32 u.fld.rune) (.slice y1 y2 y3) (.int .i64 u.fld.at') (.int .i64 u.fld.cap) (.string u.fld.name) (.int .i64 u.fld.min) (.int .i64 u.fld.max) (.bool u.fld.lazy)=w3:=⟨_,rfl⟩;have hE3:Whole w3 w.heap.size 29 #[.int .i64 u.fld.op,.slice x1 x2 x3,.int .i32 u.fld.rune,.slice y1 y2 y3,.int .i64 u.fld.at',.int .i64 u.fld.cap,.string u.fld.name,.int .i64 u.fld.min,.int .i64 u.fld.max,.bool u.fld.lazy]:=by rw[←hw3];exact Jfd hE2 _ _ _ _ _ _ _ _ _ _
 have hsame:Jdc (fun k=>k≠w.heap.size) w2 w3:=by rw[←hw3];exact JeC _ _ _ _ _ _ _ _ _ _ _ _
 have hT3:Tre w3 u (.agg #[.int .i64 u.fld.op,.slice x1 x2 x3,.int .i32 u.fld.rune,.slice y1 y2 y3,.int .i64 u.fld.at',.int .i64 u.fld.cap,.string u.fld.name,.int .i64 u.fld.min,.int .i64 u.fld.max,.bool u.fld.lazy]):=ht2.same (fun b hb hl=>hsame b (by have:b<w.heap.size:=hb;omega) hl) (fun _ _ _=>trivial);have hB3:Below w.heap.size w w3:=by rw[←hw3];exact Jb2 (HB1.out.trans (hb2.mono HB1.out.size)) (Nat.le_refl _) _ _ _ _ _ _ _ _ _ _
 clear g0 g1 g2 g3 g4 g5 g6 g7 g8 g9;obtain⟨g0,g1,g2,g3,g4,g5,g6,g7,g8,g9⟩:=hE2.ten;obtain⟨z0,z1,z2,z3,z4,z5,z6,z7,z8,z9⟩:=Jah hE2;unfold Jbs at hw3;have HW3:=Hd hw3;have HE3:=Hd hE3;have HT3:=Hd hT3;have HB3:=Hd hB3;clear ht2 hb2 hE2 hw3 hE3 hsame hT3 hB3 HA HE1 HB1 HW1;go_upto_region 2 with(fail);rw[HW3.out];clear g0 g1 g2 g3 g4 g5 g6 g7 g8 g9 z0 z1 z2 z3 z4 z5 z6 z7 z8 z9;obtain⟨r0,r1,r2,r3,r4,r5,r6,r7,r8,r9⟩:=HE3.out.ten;rw[HU.out]at HI HT HX hops hnl;have HXX:=Hd (HX.out);have HK:Hid (u.kids.length=x2):=Hd (by
  have:=HT3.out;unfold Tre at this;rw[JeQ]at this;obtain⟨kv',sv',e,-,-,A',c',rfl,-⟩:=this;have:=(JeU (f:=u.fld) (k1:=.slice x1 x2 x3) (s1:=.slice y1 y2 y3) e).1;injection this with _ q _;exact q.symm)
 have hd:Jcu k↔(u.fld.op=11∧u.kids≠[])∨(7≤u.fld.op∧u.fld.op≠11):=by unfold Jcu;rw[HU.out]
 have hy:Jcu k→O=Jc1 (Jad u):=fun hh=>by
  rw[←HO.out,HX.out];unfold Jbf Jeh;rw[if_pos hh]
 have hno:¬Jcu k→O=Jad u:=fun hh=>by
  rw[←HO.out,HX.out];unfold Jbf Jeh;rw[if_neg hh]
 rw[hd]at hy hno;have hcase:(u.fld.op=11∧0<x2∧O=Jc1 (Jad u))∨(u.fld.op=11∧¬0<x2∧O=Jad u)∨((u.fld.op=12∨u.fld.op=7∨u.fld.op=8∨u.fld.op=9∨u.fld.op=10)∧O=Jc1 (Jad u))∨((u.fld.op≠11∧u.fld.op≠12∧u.fld.op≠7∧u.fld.op≠8∧u.fld.op≠9∧u.fld.op≠10)∧O=Jad u):=by
  have hk:=HK.out
  by_cases h11:u.fld.op=11
  ·by_cases hz:0<x2
   ·exact .inl ⟨h11,hz,hy (.inl ⟨h11,fun e=>by rw[e]at hk;simp at hk;omega⟩)⟩
   ·exact .inr (.inl ⟨h11,hz,hno (by rintro(e|e);exact e.2 (List.eq_nil_of_length_eq_zero (by omega));exact e.2 h11)⟩)
  ·by_cases h6:7≤u.fld.op
   ·exact .inr (.inr (.inl ⟨by omega,hy (.inr ⟨h6,h11⟩)⟩))
   ·exact .inr (.inr (.inr ⟨by omega,hno (by rintro(e|e);exact h11 e.1;exact h6 e.1)⟩))
 clear hd hy hno hops hnl;obtain⟨op,hop⟩:∃op,u.fld.op=op:=⟨_,rfl⟩;rw[hop]at hcase r0 HT3
 rcases hcase with⟨rfl,hz,hO⟩|⟨rfl,hz,hO⟩|⟨hq,hO⟩|⟨hq,hO⟩
 ·have hzz:(0:Int)<(x2:Int):=by omega
  have HO2:=Hd hO;clear hO hop;go_wp2_with fail;refine(HI.out _ _ (HT3.out)).mono ?_;rintro e w4 ⟨rfl,hb4⟩;have HB4:=Hd (HB3.out.trans (hb4.mono HB3.out.size));clear hb4;go_wp2_with fail;go_ret;exact⟨by rw[HO2.out];try rfl,HB4.out⟩
 ·have hzz:¬(0:Int)<(x2:Int):=by omega
  have hz0:x2=0:=by omega
  subst hz0;have HO2:=Hd hO;clear hO hop;go_wp2_with fail;refine(HT.out _ _ (HT3.out)).mono ?_;rintro e w4 ⟨rfl,hb4⟩;have HB4:=Hd (HB3.out.trans (hb4.mono HB3.out.size));clear hb4;go_wp2_with fail;go_ret;exact⟨by rw[HO2.out];try rfl,HB4.out⟩
 ·have HO2:=Hd hO;clear hO hop
  rcases hq with rfl|rfl|rfl|rfl|rfl
  all_goals
   go_wp2_with fail;refine(HI.out _ _ (HT3.out)).mono ?_;rintro e w4 ⟨rfl,hb4⟩;have HB4:=Hd (HB3.out.trans (hb4.mono HB3.out.size));clear hb4;go_wp2_with fail;go_ret;exact⟨by rw[HO2.out];try rfl,HB4.out⟩
 ·have HO2:=Hd hO;clear hO hop;obtain⟨h1,h2,h3,h4,h5,h6⟩:=hq;have e11:(op==11)=false:=by simpa using h1
  have e12:(op==12)=false:=by simpa using h2
  have e7:(op==7)=false:=by simpa using h3
  have e8:(op==8)=false:=by simpa using h4
  have e9:(op==9)=false:=by simpa using h5
  have e10:(op==10)=false:=by simpa using h6
  clear h1 h2 h3 h4 h5 h6;go_wp2_with fail;refine(HT.out _ _ (HT3.out)).mono ?_;rintro e w4 ⟨rfl,hb4⟩;have HB4:=Hd (HB3.out.trans (hb4.mono HB3.out.size));clear hb4;go_wp2_with fail;go_ret;exact⟨by rw[HO2.out];try rfl,HB4.out⟩
theorem Jwr {k:Tr} (hs0:Jay k) (hp:Jai k≤10000000000) (hC:Jda (Jar k)) (v:Value) (w:World) (h:Tre w k v):Calls Tryz.prog 40 #[v] w (Jh5 (JaU k) w):=by
 have q1:=Jf0 k hs0;have hlen:=Jhe (Jar k) q1.1;have HI:=Hd (JpX hC (by omega));have HT:=Hd hC;have hops:=JeP q1.1;have hnl:=Jh8 k;have HX:Hid (Jad (Jar k)=Jad k):=Hd q1.2.2;clear hlen hC q1;obtain⟨O,hO⟩:∃O,JaU k=O:=⟨_,rfl⟩;rw[hO];have HO:=Hd hO;clear hO hs0;have hF:=h.foot;obtain⟨u,hu⟩:∃u,Jar k=u:=⟨_,rfl⟩;have HU:=Hd hu;clear hu;obtain⟨A,n,c,a2,s,c2,hn,hs,rfl,hnb,hsb,hK,hS,hFl⟩:=h.opened;obtain⟨w1,hw1⟩:∃w1,w.alloc (.cells #[.int .i64 k.fld.op,.slice A n c,.int .i32 k.fld.rune,.slice a2 s c2,.int .i64 k.fld.at',.int .i64 k.fld.cap,.string k.fld.name,.int .i64 k.fld.min,.int .i64 k.fld.max,.bool k.fld.lazy] 29)=w1:=⟨_,rfl⟩;have hb1:Below w.heap.size w w1:=by rw[←hw1];exact(Below.refl _ w).alloc (Nat.le_refl _) _
 have hE1:Whole w1 w.heap.size 29 #[.int .i64 k.fld.op,.slice A n c,.int .i32 k.fld.rune,.slice a2 s c2,.int .i64 k.fld.at',.int .i64 k.fld.cap,.string k.fld.name,.int .i64 k.fld.min,.int .i64 k.fld.max,.bool k.fld.lazy]:=by rw[←hw1];exact heap_alloc_new w _
 have HA:=Hd (JiB (fun b=>b<w.heap.size) k _ w1 (fun b hb=>Nat.lt_of_lt_of_le hb hb1.size) (hF.same (Jcw hb1) (fun _ h _=>h)) hp);have HW1:=Hd hw1;have HB1:=Hd hb1;have HE1:=Hd hE1;obtain⟨g0,g1,g2,g3,g4,g5,g6,g7,g8,g9⟩:=hE1.ten;clear h hF hn hs hnb hsb hK hS hFl hw1 hb1 hE1
 go_enter Tryz.func40,Tryz.ntmps40
 go_upto_region 1 with(fail);rw[HW1.out];go_wp2_with fail;refine HA.out.mono ?_;rintro e w2 ⟨v2,rfl,ht2,hb2⟩;rw[HU.out]at ht2;obtain⟨kv2,sv2,rfl,⟨x1,x2,x3,rfl⟩,⟨y1,y2,y3,rfl⟩⟩:=ht2.ten;have hE2:Whole w2 w.heap.size 29 #[.int .i64 k.fld.op,.slice A n c,.int .i32 k.fld.rune,.slice a2 s c2,.int .i64 k.fld.at',.int .i64 k.fld.cap,.string k.fld.name,.int .i64 k.fld.min,.int .i64 k.fld.max,.bool k.fld.lazy]:=HE1.out.below hb2 HE1.out.lt;obtain⟨w3,hw3⟩:∃w3,Jbs w2 w.heap.size (.int .i64 u.fld.op) (.slice x1 x2 x3) (.int .i32 u.fld.rune) (.slice y1 y2 y3) (.int .i64 u.fld.at') (.int .i64 u.fld.cap) (.string u.fld.name) (.int .i64 u.fld.min) (.int .i64 u.fld.max) (.bool u.fld.lazy)=w3:=⟨_,rfl⟩;have hE3:Whole w3 w.heap.size 29 #[.int .i64 u.fld.op,.slice x1 x2 x3,.int .i32 u.fld.rune,.slice y1 y2 y3,.int .i64 u.fld.at',.int .i64 u.fld.cap,.string u.fld.name,.int .i64 u.fld.min,.int .i64 u.fld.max,.bool u.fld.lazy]:=by rw[←hw3];exact Jfd hE2 _ _ _ _ _ _ _ _ _ _
 have hsame:Jdc (fun k=>k≠w.heap.size) w2 w3:=by rw[←hw3];exact JeC _ _ _ _ _ _ _ _ _ _ _ _
 have hT3:Tre w3 u (.agg #[.int .i64 u.fld.op,.slice x1 x2 x3,.int .i32 u.fld.rune,.slice y1 y2 y3,.int .i64 u.fld.at',.int .i64 u.fld.cap,.string u.fld.name,.int .i64 u.fld.min,.int .i64 u.fld.max,.bool u.fld.lazy]):=ht2.same (fun b hb hl=>hsame b (by have:b<w.heap.size:=hb;omega) hl) (fun _ _ _=>trivial);have hB3:Below w.heap.size w w3:=by rw[←hw3];exact Jb2 (HB1.out.trans (hb2.mono HB1.out.size)) (Nat.le_refl _) _ _ _ _ _ _ _ _ _ _
 clear g0 g1 g2 g3 g4 g5 g6 g7 g8 g9;obtain⟨g0,g1,g2,g3,g4,g5,g6,g7,g8,g9⟩:=hE2.ten;obtain⟨z0,z1,z2,z3,z4,z5,z6,z7,z8,z9⟩:=Jah hE2;unfold Jbs at hw3;have HW3:=Hd hw3;have HE3:=Hd hE3;have HT3:=Hd hT3;have HB3:=Hd hB3;clear ht2 hb2 hE2 hw3 hE3 hsame hT3 hB3 HA HE1 HB1 HW1;go_upto_region 2 with(fail);rw[HW3.out];clear g0 g1 g2 g3 g4 g5 g6 g7 g8 g9 z0 z1 z2 z3 z4 z5 z6 z7 z8 z9;obtain⟨r0,r1,r2,r3,r4,r5,r6,r7,r8,r9⟩:=HE3.out.ten;rw[HU.out]at HI HT HX hops hnl;have HXX:=Hd (HX.out);have hcase:(u.fld.op=12∧O=Jc1 (Jad u))∨(u.fld.op≠12∧O=Jad u):=by
  rw[←HO.out];unfold JaU Jfj;rw[HU.out,HX.out]
  by_cases h12:u.fld.op=12
  ·exact .inl ⟨h12,if_pos h12⟩
  ·exact .inr ⟨h12,if_neg h12⟩
 clear hops hnl;obtain⟨op,hop⟩:∃op,u.fld.op=op:=⟨_,rfl⟩;rw[hop]at hcase r0 HT3
 rcases hcase with⟨rfl,hO⟩|⟨hq,hO⟩
 ·have HO2:=Hd hO;clear hO hop;go_wp2_with fail;refine(HI.out _ _ (HT3.out)).mono ?_;rintro e w4 ⟨rfl,hb4⟩;have HB4:=Hd (HB3.out.trans (hb4.mono HB3.out.size));clear hb4;go_wp2_with fail;go_ret;exact⟨by rw[HO2.out];try rfl,HB4.out⟩
 ·have HO2:=Hd hO;have e12:(op==12)=false:=by simpa using hq
  clear hO hop hq;go_wp2_with fail;refine(HT.out _ _ (HT3.out)).mono ?_;rintro e w4 ⟨rfl,hb4⟩;have HB4:=Hd (HB3.out.trans (hb4.mono HB3.out.size));clear hb4;go_wp2_with fail;go_ret;exact⟨by rw[HO2.out];try rfl,HB4.out⟩
theorem Jov:∀(x:List UInt8) (r:List (List UInt8)),Lib.join (x::r) [124]=Jbg (x::r)
 | x,[]=>Lib.join_one x [124]
 | x,y::r=>by
  rw[Lib.join_cons,JfS x (by simp),←Jov y r,Lib.join_cons]
  simp[Lib.joinTail]
theorem JgR {t:Tr} (hk:(Jar t).fld.op=1∨(Jar t).fld.op=2∨(Jar t).fld.op=3∨(Jar t).fld.op=4∨(Jar t).fld.op=5∨(Jar t).fld.op=11∨(Jar t).fld.op=12) (hs0:Jay t) (hp:Jai t≤10000000000) (hC:∀k,Jai k<Jai t→Jay k→Jda k):Jda t:=by
 intro v w h;have q1:=Jf0 t hs0;have hlen:=Jhe (Jar t) q1.1;have hkids:∀k∈(Jar t).kids,Jay k∧Jai k<Jai t∧Jda k∧Jda (Jar k):=fun k hk=>by
  have h1:=((Jbl _).1 q1.1).2.2.2 k hk;have h2:=Jfo hk;have h3:=Jf0 k h1;exact⟨h1,by omega,hC k (by omega) h1,hC _ (by omega) h3.1⟩
 have HKI:=Hd hk;clear hk;have hflds:=((Jbl _).1 q1.1).1;have hnum:=((Jbl _).1 q1.1).2.1;have hnl:=Jh8 t;have hplen:(Jad (Jar t)).length≤100000000000000:=by omega
 have hpu:Jai (Jar t)≤10000000000:=by omega
 rw[←q1.2.2];clear hlen hC hs0 q1;have hF:=h.foot;obtain⟨u,hu⟩:∃u,Jar t=u:=⟨_,rfl⟩;rw[hu]at hkids HKI hflds hnum hnl hplen hpu ⊢;have HU:=Hd hu;clear hu;have HKD:=Hd hkids;have HFL:=Hd hflds;have HNUM:=Hd hnum;have HNL:=Hd hnl;clear hkids hflds hnum hnl;obtain⟨O,hO⟩:∃O,Jad u=O:=⟨_,rfl⟩;rw[hO]at hplen ⊢;have HO:=Hd hO;clear hO;obtain⟨A,n,c,a2,s,c2,hn,hs,rfl,hnb,hsb,hK,hS,hFl⟩:=h.opened;obtain⟨w1,hw1⟩:∃w1,w.alloc (.cells #[.int .i64 t.fld.op,.slice A n c,.int .i32 t.fld.rune,.slice a2 s c2,.int .i64 t.fld.at',.int .i64 t.fld.cap,.string t.fld.name,.int .i64 t.fld.min,.int .i64 t.fld.max,.bool t.fld.lazy] 29)=w1:=⟨_,rfl⟩;have hb1:Below w.heap.size w w1:=by rw[←hw1];exact(Below.refl _ w).alloc (Nat.le_refl _) _
 have hE1:Whole w1 w.heap.size 29 #[.int .i64 t.fld.op,.slice A n c,.int .i32 t.fld.rune,.slice a2 s c2,.int .i64 t.fld.at',.int .i64 t.fld.cap,.string t.fld.name,.int .i64 t.fld.min,.int .i64 t.fld.max,.bool t.fld.lazy]:=by rw[←hw1];exact heap_alloc_new w _
 have HA:=Hd (JiB (fun b=>b<w.heap.size) t _ w1 (fun b hb=>Nat.lt_of_lt_of_le hb hb1.size) (hF.same (Jcw hb1) (fun _ h _=>h)) hp);have HW1:=Hd hw1;have HB1:=Hd hb1;have HE1:=Hd hE1;obtain⟨g0,g1,g2,g3,g4,g5,g6,g7,g8,g9⟩:=hE1.ten;clear h hF hn hs hnb hsb hK hS hFl hw1 hb1 hE1
 go_enter Tryz.func20,Tryz.ntmps20
 go_upto_region 1 with(fail);rw[HW1.out];go_wp2_with fail;refine HA.out.mono ?_;rintro e w2 ⟨v2,rfl,ht2,hb2⟩;rw[HU.out]at ht2;obtain⟨kv2,sv2,rfl,⟨x1,x2,x3,rfl⟩,⟨y1,y2,y3,rfl⟩⟩:=ht2.ten;have hE2:Whole w2 w.heap.size 29 #[.int .i64 t.fld.op,.slice A n c,.int .i32 t.fld.rune,.slice a2 s c2,.int .i64 t.fld.at',.int .i64 t.fld.cap,.string t.fld.name,.int .i64 t.fld.min,.int .i64 t.fld.max,.bool t.fld.lazy]:=HE1.out.below hb2 HE1.out.lt;obtain⟨w3,hw3⟩:∃w3,Jbs w2 w.heap.size (.int .i64 u.fld.op) (.slice x1 x2 x3) (.int .i32 u.fld.rune) (.slice y1 y2 y3) (.int .i64 u.fld.at') (.int .i64 u.fld.cap) (.string u.fld.name) (.int .i64 u.fld.min) (.int .i64 u.fld.max) (.bool u.fld.lazy)=w3:=⟨_,rfl⟩;have hE3:Whole w3 w.heap.size 29 #[.int .i64 u.fld.op,.slice x1 x2 x3,.int .i32 u.fld.rune,.slice y1 y2 y3,.int .i64 u.fld.at',.int .i64 u.fld.cap,.string u.fld.name,.int .i64 u.fld.min,.int .i64 u.fld.max,.bool u.fld.lazy]:=by rw[←hw3];exact Jfd hE2 _ _ _ _ _ _ _ _ _ _
 have hsame:Jdc (fun k=>k≠w.heap.size) w2 w3:=by rw[←hw3];exact JeC _ _ _ _ _ _ _ _ _ _ _ _
 have hT3:Tre w3 u (.agg #[.int .i64 u.fld.op,.slice x1 x2 x3,.int .i32 u.fld.rune,.slice y1 y2 y3,.int .i64 u.fld.at',.int .i64 u.fld.cap,.string u.fld.name,.int .i64 u.fld.min,.int .i64 u.fld.max,.bool u.fld.lazy]):=ht2.same (fun b hb hl=>hsame b (by have:b<w.heap.size:=hb;omega) hl) (fun _ _ _=>trivial);have hB3:Below w.heap.size w w3:=by rw[←hw3];exact Jb2 (HB1.out.trans (hb2.mono HB1.out.size)) (Nat.le_refl _) _ _ _ _ _ _ _ _ _ _
 clear g0 g1 g2 g3 g4 g5 g6 g7 g8 g9;obtain⟨g0,g1,g2,g3,g4,g5,g6,g7,g8,g9⟩:=hE2.ten;obtain⟨z0,z1,z2,z3,z4,z5,z6,z7,z8,z9⟩:=Jah hE2;unfold Jbs at hw3;have HW3:=Hd hw3;have HE3:=Hd hE3;have HT3:=Hd hT3;have HB3:=Hd hB3;clear ht2 hb2 hE2 hw3 hE3 hsame hT3 hB3 HA HE1 HB1 HW1;go_upto_region 2 with(fail);rw[HW3.out];clear g0 g1 g2 g3 g4 g5 g6 g7 g8 g9 z0 z1 z2 z3 z4 z5 z6 z7 z8 z9;obtain⟨r0,r1,r2,r3,r4,r5,r6,r7,r8,r9⟩:=HE3.out.ten;have HX2:Hid (u.kids.length=x2∧Kds w3 u.kids (.slice x1 x2 x3)∧Rgs w3 (.slice y1 y2 y3) u.fld.set):=Hd (by
  have h1:=HT3.out;rw[JdZ]at h1;obtain⟨kv',sv',e,hS,-,hK⟩:=h1;obtain⟨rfl,rfl⟩:=JeU (f:=u.fld) (k1:=.slice x1 x2 x3) (s1:=.slice y1 y2 y3) e;refine⟨?_,hK,hS⟩;obtain⟨A',c',e2,-⟩:=hK;injection e2 with _ q _;exact q.symm)
 obtain⟨op,hop⟩:∃op,u.fld.op=op:=⟨_,rfl⟩;have hkinds:=HKI.out;rw[hop]at hkinds r0;have HOP:=Hd hop;clear hop HKI;have LF:Hid ((op=1∨op=2∨op=3∨op=4∨op=5)→O=if op=1 then JeI else if op=2 then JdJ else if op=3 then Jb3 u.fld.rune else if op=4 then Jb5 u.fld.set else Jcf u.fld.at'):=Hd (fun h=>by rw[←HO.out,←HOP.out];exact JgM (by rw[HOP.out];exact h))
 rcases hkinds with rfl|rfl|rfl|rfl|rfl|rfl|rfl
 ·as_aux_lemma =>
   have HL:=Hd (LF.out (by omega));clear LF;go_wp2_with fail;go_ret;exact⟨by rw[HL.out];rfl,HB3.out⟩
 ·as_aux_lemma =>
   have HL:=Hd (LF.out (by omega));clear LF;go_wp2_with fail;go_ret;exact⟨by rw[HL.out];rfl,HB3.out⟩
 ·as_aux_lemma =>
   have HL:=Hd (LF.out (by omega));clear LF;go_wp2_with fail;refine(Jsi _ _ ((HFL.out.2.2.2.2.2.2.2.2.1 HOP.out)).1 ((HFL.out.2.2.2.2.2.2.2.2.1 HOP.out)).2).mono ?_;rintro e w4 ⟨rfl,hb4⟩;have HB4:=Hd (HB3.out.trans (hb4.mono HB3.out.size));clear hb4;go_wp2_with fail;go_ret;exact⟨by rw[HL.out];rfl,HB4.out⟩
 ·as_aux_lemma =>
   have HL:=Hd (LF.out (by omega));clear LF;go_wp2_with fail;refine(JtT _ _ _ HX2.out.2.2 (HFL.out.2.2.2.2.2.2.2.2.2.1 HOP.out).1).mono ?_;rintro e w4 ⟨rfl,hb4⟩;have HB4:=Hd (HB3.out.trans (hb4.mono HB3.out.size));clear hb4;go_wp2_with fail;go_ret;exact⟨by rw[HL.out];rfl,HB4.out⟩
 ·as_aux_lemma =>
   have HL:=Hd (LF.out (by omega));clear LF;go_wp2_with fail;refine(JxE _ _).mono ?_;rintro e w4 ⟨rfl,rfl⟩;go_wp2_with fail;go_ret;exact⟨by rw[HL.out];rfl,HB3.out⟩
 ·as_aux_lemma =>
   by_cases hz:0<x2
   ·have hz0:u.kids≠[]:=fun e=>by have h1:=HX2.out.1;rw[e]at h1;simp at h1;omega
    have h2:2≤u.kids.length:=by
     have h3:=List.length_pos_iff.2 hz0;have h4:u.kids.length≠1:=fun e=>HNL.out ⟨.inl HOP.out,e⟩
     omega
    have HO2:Hid (O=(u.kids.map JaU).flatten):=Hd (by rw[←HO.out];exact Jg4 HOP.out h2);have HE:=Hd (Jnt u.kids _ JaU 40 w3 (enters_of Tryz.func40 (by kernel_rfl) rfl) (fun k hk v W hv=>by
     have h5:=HKD.out k hk;exact Jwr h5.1 (by omega) h5.2.2.2 v W hv) HX2.out.2.1 hz0)
    have hzz:(0:Int)<(x2:Int):=by omega
    obtain⟨L,hL⟩:∃L,u.kids.map JaU=L:=⟨_,rfl⟩;rw[hL]at HE HO2;have HLL:=Hd (show L.length=u.kids.length by rw[←hL,List.length_map]);have HK40:=Hd (show u.kids.length≤1172812402961 by obtain⟨_,_,_,_,_,h,_⟩:=HX2.out.2.1;exact h);have HFB:Hid (Ja4 (L.map Jau)=O):=Hd (by
     rw[HO2.out];unfold Ja4;rw[List.map_map]
     congr 1
     conv=>rhs;rw[←List.map_id L]
     exact List.map_congr_left fun x _=>Jcx x)
    clear LF hz hz0 h2 hL;go_wp2_with fail;refine HE.out.mono ?_;rintro e w4 ⟨b,rfl,ht,hb,hb4⟩;have HB4:=Hd (HB3.out.trans (hb4.mono HB3.out.size));have HJ:=Hd (Jlp b 0 (L.map Jau).length (L.map Jau) w4 ht hb (by rw[List.length_map,HLL.out];exact HK40.out) (Nat.le_refl _) (by rw[HFB.out];omega));rw[HFB.out,List.length_map]at HJ;clear ht hb hb4;go_wp2_with fail;refine HJ.out.mono ?_;rintro e w5 ⟨rfl,hb5⟩;have HB5:=Hd (HB4.out.trans (hb5.mono HB4.out.size));clear hb5;go_wp2_with fail;go_ret;exact⟨rfl,HB5.out⟩
   ·have hz0:x2=0:=by omega
    subst hz0;have HO2:Hid (O=JdJ):=Hd (by rw[←HO.out];exact Jhp HOP.out (List.eq_nil_of_length_eq_zero HX2.out.1));clear LF hz;go_wp2_with fail;go_ret;exact⟨by rw[HO2.out];rfl,HB3.out⟩
 ·as_aux_lemma =>
   have hz:1≤x2:=by rw[←HX2.out.1];exact HNUM.out.2.1 HOP.out
   have hz0:u.kids≠[]:=fun e=>by have h1:=HX2.out.1;rw[e]at h1;simp at h1;omega
   have HO2:Hid (O=Jbg (u.kids.map Jad)):=Hd (by rw[←HO.out];exact Jg0 HOP.out);have HE:=Hd (Jnt u.kids _ Jad 20 w3 (enters_of Tryz.func20 (by kernel_rfl) rfl) (fun k hk v W hv=>(HKD.out k hk).2.2.1 v W hv) HX2.out.2.1 hz0);obtain⟨L,hL⟩:∃L,u.kids.map Jad=L:=⟨_,rfl⟩;rw[hL]at HE HO2;have HLL:=Hd (show L.length=u.kids.length by rw[←hL,List.length_map]);have HK40:=Hd (show u.kids.length≤1172812402961 by obtain⟨_,_,_,_,_,h,_⟩:=HX2.out.2.1;exact h);have HFB:Hid (Lib.join ((L.map Jau).map (·.toList)) (⟨#[124]⟩:ByteArray).toList=O):=Hd (by
    rw[HO2.out,show (⟨#[124]⟩:ByteArray).toList=[124] by kernel_rfl,List.map_map];have:L.map ((·.toList) ∘ Jau)=L:=by
     conv=>rhs;rw[←List.map_id L]
     exact List.map_congr_left fun x _=>Jcx x
    rw[this]
    cases L with
    | nil=>have h1:=HLL.out;rw[HX2.out.1]at h1;simp at h1;omega
    | cons x r=>exact Jov x r)
   clear LF hz hz0 hL;go_wp2_with fail;refine HE.out.mono ?_;rintro e w4 ⟨b,rfl,ht,hb,hb4⟩;have HB4:=Hd (HB3.out.trans (hb4.mono HB3.out.size));have HJ:=Hd (Jmr b 0 (L.map Jau).length (L.map Jau) ⟨#[124]⟩ w4 ht hb (by rw[List.length_map,HLL.out];exact HK40.out) (Nat.le_refl _) (by rw[HFB.out];omega));rw[HFB.out,List.length_map]at HJ;clear ht hb hb4;go_wp2_with fail;refine HJ.out.mono ?_;rintro e w5 ⟨rfl,hb5⟩;have HB5:=Hd (HB4.out.trans (hb5.mono HB4.out.size));clear hb5;go_wp2_with fail;go_ret;exact⟨rfl,HB5.out⟩
theorem Jya {t:Tr} (hk:(Jar t).fld.op=6) (hs0:Jay t) (hp:Jai t≤10000000000) (hC:∀k,Jai k<Jai t→Jay k→Jda k):Jda t:=by
 intro v w h;have q1:=Jf0 t hs0;have hlen:=Jhe (Jar t) q1.1;have hkids:∀k∈(Jar t).kids,Jay k∧Jai k<Jai t∧Jda k∧Jda (Jar k):=fun k hk=>by
  have h1:=((Jbl _).1 q1.1).2.2.2 k hk;have h2:=Jfo hk;have h3:=Jf0 k h1;exact⟨h1,by omega,hC k (by omega) h1,hC _ (by omega) h3.1⟩
 have HKI:=Hd hk;clear hk;have hflds:=((Jbl _).1 q1.1).1;have hnum:=((Jbl _).1 q1.1).2.1;have hnl:=Jh8 t;have hplen:(Jad (Jar t)).length≤100000000000000:=by omega
 have hpu:Jai (Jar t)≤10000000000:=by omega
 rw[←q1.2.2];clear hlen hC hs0 q1;have hF:=h.foot;obtain⟨u,hu⟩:∃u,Jar t=u:=⟨_,rfl⟩;rw[hu]at hkids HKI hflds hnum hnl hplen hpu ⊢;have HU:=Hd hu;clear hu;have HKD:=Hd hkids;have HFL:=Hd hflds;have HNUM:=Hd hnum;have HNL:=Hd hnl;clear hkids hflds hnum hnl;obtain⟨O,hO⟩:∃O,Jad u=O:=⟨_,rfl⟩;rw[hO]at hplen ⊢;have HO:=Hd hO;clear hO;obtain⟨A,n,c,a2,s,c2,hn,hs,rfl,hnb,hsb,hK,hS,hFl⟩:=h.opened;obtain⟨w1,hw1⟩:∃w1,w.alloc (.cells #[.int .i64 t.fld.op,.slice A n c,.int .i32 t.fld.rune,.slice a2 s c2,.int .i64 t.fld.at',.int .i64 t.fld.cap,.string t.fld.name,.int .i64 t.fld.min,.int .i64 t.fld.max,.bool t.fld.lazy] 29)=w1:=⟨_,rfl⟩;have hb1:Below w.heap.size w w1:=by rw[←hw1];exact(Below.refl _ w).alloc (Nat.le_refl _) _
 have hE1:Whole w1 w.heap.size 29 #[.int .i64 t.fld.op,.slice A n c,.int .i32 t.fld.rune,.slice a2 s c2,.int .i64 t.fld.at',.int .i64 t.fld.cap,.string t.fld.name,.int .i64 t.fld.min,.int .i64 t.fld.max,.bool t.fld.lazy]:=by rw[←hw1];exact heap_alloc_new w _
 have HA:=Hd (JiB (fun b=>b<w.heap.size) t _ w1 (fun b hb=>Nat.lt_of_lt_of_le hb hb1.size) (hF.same (Jcw hb1) (fun _ h _=>h)) hp);have HW1:=Hd hw1;have HB1:=Hd hb1;have HE1:=Hd hE1;obtain⟨g0,g1,g2,g3,g4,g5,g6,g7,g8,g9⟩:=hE1.ten;clear h hF hn hs hnb hsb hK hS hFl hw1 hb1 hE1
 go_enter Tryz.func20,Tryz.ntmps20
 go_upto_region 1 with(fail);rw[HW1.out];go_wp2_with fail;refine HA.out.mono ?_;rintro e w2 ⟨v2,rfl,ht2,hb2⟩;rw[HU.out]at ht2;obtain⟨kv2,sv2,rfl,⟨x1,x2,x3,rfl⟩,⟨y1,y2,y3,rfl⟩⟩:=ht2.ten;have hE2:Whole w2 w.heap.size 29 #[.int .i64 t.fld.op,.slice A n c,.int .i32 t.fld.rune,.slice a2 s c2,.int .i64 t.fld.at',.int .i64 t.fld.cap,.string t.fld.name,.int .i64 t.fld.min,.int .i64 t.fld.max,.bool t.fld.lazy]:=HE1.out.below hb2 HE1.out.lt;obtain⟨w3,hw3⟩:∃w3,Jbs w2 w.heap.size (.int .i64 u.fld.op) (.slice x1 x2 x3) (.int .i32 u.fld.rune) (.slice y1 y2 y3) (.int .i64 u.fld.at') (.int .i64 u.fld.cap) (.string u.fld.name) (.int .i64 u.fld.min) (.int .i64 u.fld.max) (.bool u.fld.lazy)=w3:=⟨_,rfl⟩;have hE3:Whole w3 w.heap.size 29 #[.int .i64 u.fld.op,.slice x1 x2 x3,.int .i32 u.fld.rune,.slice y1 y2 y3,.int .i64 u.fld.at',.int .i64 u.fld.cap,.string u.fld.name,.int .i64 u.fld.min,.int .i64 u.fld.max,.bool u.fld.lazy]:=by rw[←hw3];exact Jfd hE2 _ _ _ _ _ _ _ _ _ _
 have hsame:Jdc (fun k=>k≠w.heap.size) w2 w3:=by rw[←hw3];exact JeC _ _ _ _ _ _ _ _ _ _ _ _
 have hT3:Tre w3 u (.agg #[.int .i64 u.fld.op,.slice x1 x2 x3,.int .i32 u.fld.rune,.slice y1 y2 y3,.int .i64 u.fld.at',.int .i64 u.fld.cap,.string u.fld.name,.int .i64 u.fld.min,.int .i64 u.fld.max,.bool u.fld.lazy]):=ht2.same (fun b hb hl=>hsame b (by have:b<w.heap.size:=hb;omega) hl) (fun _ _ _=>trivial);have hB3:Below w.heap.size w w3:=by rw[←hw3];exact Jb2 (HB1.out.trans (hb2.mono HB1.out.size)) (Nat.le_refl _) _ _ _ _ _ _ _ _ _ _
 clear g0 g1 g2 g3 g4 g5 g6 g7 g8 g9;obtain⟨g0,g1,g2,g3,g4,g5,g6,g7,g8,g9⟩:=hE2.ten;obtain⟨z0,z1,z2,z3,z4,z5,z6,z7,z8,z9⟩:=Jah hE2;unfold Jbs at hw3;have HW3:=Hd hw3;have HE3:=Hd hE3;have HT3:=Hd hT3;have HB3:=Hd hB3;clear ht2 hb2 hE2 hw3 hE3 hsame hT3 hB3 HA HE1 HB1 HW1;go_upto_region 2 with(fail);rw[HW3.out];clear g0 g1 g2 g3 g4 g5 g6 g7 g8 g9 z0 z1 z2 z3 z4 z5 z6 z7 z8 z9;obtain⟨r0,r1,r2,r3,r4,r5,r6,r7,r8,r9⟩:=HE3.out.ten;have HX2:Hid (u.kids.length=x2∧Kds w3 u.kids (.slice x1 x2 x3)∧Rgs w3 (.slice y1 y2 y3) u.fld.set):=Hd (by
  have h1:=HT3.out;rw[JdZ]at h1;obtain⟨kv',sv',e,hS,-,hK⟩:=h1;obtain⟨rfl,rfl⟩:=JeU (f:=u.fld) (k1:=.slice x1 x2 x3) (s1:=.slice y1 y2 y3) e;refine⟨?_,hK,hS⟩;obtain⟨A',c',e2,-⟩:=hK;injection e2 with _ q _;exact q.symm)
 obtain⟨op,hop⟩:∃op,u.fld.op=op:=⟨_,rfl⟩;have hkinds:=HKI.out;rw[hop]at hkinds r0;have HOP:=Hd hop;clear hop HKI;have LF:Hid ((op=1∨op=2∨op=3∨op=4∨op=5)→O=if op=1 then JeI else if op=2 then JdJ else if op=3 then Jb3 u.fld.rune else if op=4 then Jb5 u.fld.set else Jcf u.fld.at'):=Hd (fun h=>by rw[←HO.out,←HOP.out];exact JgM (by rw[HOP.out];exact h));subst hkinds;have h1k:x2=1:=by rw[←HX2.out.1];exact HNUM.out.1 (by have:=HOP.out;omega)
 subst h1k;obtain⟨kb,ko,tk,kv',sv',hA,htk,hm,⟨d0,d1,d2,d3,d4,d5,d6,d7,d8,d9⟩,hTk⟩:=HX2.out.2.1.kid 0 (by rw[HX2.out.1];exact Nat.zero_lt_one);subst hA;obtain⟨kx,sx,hv2,⟨m1,m2,m3,rfl⟩,⟨p1,p2,p3,rfl⟩⟩:=hTk.ten;obtain⟨rfl,rfl⟩:=JeU (f:=tk.fld) (k1:=kv') (s1:=sv') hv2;rw[Nat.zero_mul,Nat.add_zero]at d0 d1 d2 d3 d4 d5 d6 d7 d8 d9;have hkk:u.kids=[tk]:=by
  obtain⟨k,hk⟩:=List.length_eq_one_iff.1 HX2.out.1;have:tk=k:=by rw[←htk];simp[hk]
  rw[hk,this]
 have HKK:=Hd hkk;have HTK:=Hd hTk;have HKT:=Hd (HKD.out tk hm);clear hkk hTk htk hm hv2 LF;have HNM:Hid (u.fld.name.size≤1000000):=Hd (by
  have h1:=HFL.out.2.2.2.2.2.2.2.2.2.2.2.1 HOP.out;have h2:u.fld.name.toList.length=u.fld.name.size:=by rw[Lib.toList_data,←Lib.size_eq]
  rcases h1 with h1|h1
  ·rw[h1]at h2;simp at h2;omega
  ·unfold Jbt at h1;simp only[Bool.and_eq_true,decide_eq_true_eq]at h1
   omega)
 have HO2:Hid (O=JbX u.fld.name.toList++(Jad tk++[41])):=Hd (by rw[←HO.out];exact Jhc HOP.out HKK.out);obtain⟨X,hX⟩:∃X,Jad tk=X:=⟨_,rfl⟩;obtain⟨Y,hY⟩:∃Y,JbX u.fld.name.toList=Y:=⟨_,rfl⟩;have HBG:=Hd fun W=>JwU u.fld.name W HNM.out
 have HTX:=Hd fun W (hW:Below w3.heap.size w3 W)=>HKT.out.2.2.1 _ W (HTK.out.below hW)
 rw[hX]at HTX HO2;rw[hY]at HBG HO2;have HJ:=Hd fun W=>Jf7 [Jau Y,Jau X,⟨#[41]⟩] W 3 _ rfl rfl 9 (by decide) (by
  have:=congrArg List.length HO2.out;simp only[List.length_append,List.length_singleton]at this
  simp[Ja4,Jcx];omega)
 have HFB:Hid (Ja4 [Jau Y,Jau X,⟨#[41]⟩]=Y++(X++[41])):=Hd (by simp[Ja4,Jcx]);rw[HFB.out]at HJ;rw[←HO2.out]at HJ;have HB0:=Hd (Jdk w3 1);have KP:Hid (∀W,Below w3.heap.size w3 W→W.cell? ⟨w.heap.size,1,none⟩=some (.slice (some ⟨kb,ko,none⟩) 1 x3)∧W.cell? ⟨w.heap.size,6,none⟩=some (.string u.fld.name)∧W.cell? ⟨kb,ko,none⟩=some (.int .i64 tk.fld.op)∧W.cell? ⟨kb,ko+1,none⟩=some (.slice m1 m2 m3)∧W.cell? ⟨kb,ko+2,none⟩=some (.int .i32 tk.fld.rune)∧W.cell? ⟨kb,ko+3,none⟩=some (.slice p1 p2 p3)∧W.cell? ⟨kb,ko+4,none⟩=some (.int .i64 tk.fld.at')∧W.cell? ⟨kb,ko+5,none⟩=some (.int .i64 tk.fld.cap)∧W.cell? ⟨kb,ko+6,none⟩=some (.string tk.fld.name)∧W.cell? ⟨kb,ko+7,none⟩=some (.int .i64 tk.fld.min)∧W.cell? ⟨kb,ko+8,none⟩=some (.int .i64 tk.fld.max)∧W.cell? ⟨kb,ko+9,none⟩=some (.bool tk.fld.lazy)):=Hd fun W hb=>⟨(hb.cell (World.block_lt_of_cell? w3 _ r1)).trans r1,(hb.cell (World.block_lt_of_cell? w3 _ r6)).trans r6,(hb.cell (World.block_lt_of_cell? w3 _ d0)).trans d0,(hb.cell (World.block_lt_of_cell? w3 _ d1)).trans d1,(hb.cell (World.block_lt_of_cell? w3 _ d2)).trans d2,(hb.cell (World.block_lt_of_cell? w3 _ d3)).trans d3,(hb.cell (World.block_lt_of_cell? w3 _ d4)).trans d4,(hb.cell (World.block_lt_of_cell? w3 _ d5)).trans d5,(hb.cell (World.block_lt_of_cell? w3 _ d6)).trans d6,(hb.cell (World.block_lt_of_cell? w3 _ d7)).trans d7,(hb.cell (World.block_lt_of_cell? w3 _ d8)).trans d8,(hb.cell (World.block_lt_of_cell? w3 _ d9)).trans d9⟩
 clear hX hY HKT HNM;go_upto_region 12 with(fail);refine wp_region_held_drew (S:=(fun w'=>w'.cell? ⟨w.heap.size,1,none⟩=some (.slice (some ⟨kb,ko,none⟩) 1 x3)∧w'.cell? ⟨w.heap.size,6,none⟩=some (.string u.fld.name)∧w'.cell? ⟨kb,ko,none⟩=some (.int .i64 tk.fld.op)∧w'.cell? ⟨kb,ko+1,none⟩=some (.slice m1 m2 m3)∧w'.cell? ⟨kb,ko+2,none⟩=some (.int .i32 tk.fld.rune)∧w'.cell? ⟨kb,ko+3,none⟩=some (.slice p1 p2 p3)∧w'.cell? ⟨kb,ko+4,none⟩=some (.int .i64 tk.fld.at')∧w'.cell? ⟨kb,ko+5,none⟩=some (.int .i64 tk.fld.cap)∧w'.cell? ⟨kb,ko+6,none⟩=some (.string tk.fld.name)∧w'.cell? ⟨kb,ko+7,none⟩=some (.int .i64 tk.fld.min)∧w'.cell? ⟨kb,ko+8,none⟩=some (.int .i64 tk.fld.max)∧w'.cell? ⟨kb,ko+9,none⟩=some (.bool tk.fld.lazy))) (by kernel_rfl) (KP.out _ HB0.out) (fun hHeld=>?_);refine wpAnyH_take (i:=0) (oi:=_) (v:=?_) rfl (by kernel_rfl) (by kernel_rfl) (by kernel_rfl) (fun _ _ _ h=>h) (Or.inl ⟨by rfl,?_⟩) (by assumption) ?_
 rotate_left 1
 ·(intro w hSw;(try dsimp only at hSw);go_simp;(try with_reducible rfl))
 try simp only[Jab]
 refine wpAnyH_take (i:=1) (oi:=_) (v:=?_) rfl (by kernel_rfl) (by kernel_rfl) (by kernel_rfl) (fun _ _ _ h=>h) (Or.inl ⟨by rfl,?_⟩) (by assumption) ?_
 rotate_left 1
 ·(intro w hSw;(try dsimp only at hSw);go_simp;(try with_reducible rfl))
 try simp only[Jab]
 refine wpAnyH_take (i:=3) (oi:=_) (v:=?_) rfl (by kernel_rfl) (by kernel_rfl) (by kernel_rfl) (fun _ _ _ h=>h) (Or.inl ⟨by rfl,?_⟩) (by assumption) ?_
 rotate_left 1
 ·(intro w hSw;(try dsimp only at hSw);go_simp;(try with_reducible rfl))
 try simp only[Jab]
 refine wpAnyH_take (i:=4) (oi:=_) (v:=?_) rfl (by kernel_rfl) (by kernel_rfl) (by kernel_rfl) (fun _ _ _ h=>h) (Or.inl ⟨by rfl,?_⟩) (by assumption) ?_
 rotate_left 1
 ·(intro w hSw;(try dsimp only at hSw);go_simp;(try with_reducible rfl))
 try simp only[Jab]
 refine wpAnyH_take (i:=5) (oi:=_) (v:=?_) rfl (by kernel_rfl) (by kernel_rfl) (by kernel_rfl) (fun _ _ _ h=>h) (Or.inl ⟨by rfl,?_⟩) (by assumption) ?_
 rotate_left 1
 ·(intro w hSw;(try dsimp only at hSw);go_simp;(try with_reducible rfl))
 try simp only[Jab]
 refine wpAnyH_take (i:=6) (oi:=_) (v:=?_) rfl (by kernel_rfl) (by kernel_rfl) (by kernel_rfl) (fun _ _ _ h=>h) (Or.inl ⟨by rfl,?_⟩) (by assumption) ?_
 rotate_left 1
 ·(intro w hSw;(try dsimp only at hSw);go_simp;(try with_reducible rfl))
 try simp only[Jab]
 refine wpAnyH_ready (rs:=[2]) (by kernel_rfl) (by simp) ?_;refine AllReadyH.cons (o:=_) rfl (fun K hK=>?_) ?_
 ·go_simp;refine(HBG.out _).mono ?_;rintro e u4 ⟨rfl,hb⟩;have HB4:=Hd (HB0.out.trans (hb.mono HB0.out.size));clear hb;go_wp2_with fail;refine hK.out _ _ (KP.out _ HB4.out) (fun hHeld=>?_);clear hK K
  try simp only[Jab]
  refine wpAnyH_ready (rs:=[7]) (by kernel_rfl) (by simp) ?_;refine AllReadyH.cons (o:=_) rfl (fun K hK=>?_) ?_
  ·go_simp;refine(HTX.out _ HB4.out).mono ?_;rintro e u5 ⟨rfl,hb⟩;have HB5:=Hd (HB4.out.trans (hb.mono HB4.out.size));clear hb;go_wp2_with fail;refine hK.out _ _ (KP.out _ HB5.out) (fun hHeld=>?_);clear hK K
   try simp only[Jab]
   refine wpAnyH_ready (rs:=[8]) (by kernel_rfl) (by simp) ?_;refine AllReadyH.cons (o:=_) rfl (fun K hK=>?_) ?_
   ·go_simp;refine hK.out _ _ (KP.out _ (HB5.out.alloc HB5.out.size _)) (fun hHeld=>?_);clear hK K
    try simp only[Jab]
    refine wpAnyH_ready (rs:=[9]) (by kernel_rfl) (by simp) ?_;refine AllReadyH.cons (o:=_) rfl (fun K hK=>?_) ?_
    ·go_simp;refine(HJ.out _).mono ?_;rintro e u7 ⟨rfl,hb⟩;have HB6:=Hd (HB5.out.trans (hb.mono HB5.out.size));have HB7:=Hd (HB3.out.trans (HB6.out.mono HB3.out.size));clear hb;go_wp2_with fail;refine hK.out _ _ (KP.out _ HB6.out) (fun hHeld=>?_);clear hK K
     try simp only[Jab]
     refine wpAnyH_take (i:=10) (oi:=_) (v:=?_) rfl (by kernel_rfl) (by kernel_rfl) (by kernel_rfl) (fun _ _ _ h=>h) (Or.inl ⟨by rfl,?_⟩) (by assumption) ?_
     rotate_left 1
     ·(intro w hSw;(try dsimp only at hSw);go_simp;(try with_reducible rfl))
     try simp only[Jab]
     refine wpAnyH_done (by kernel_rfl) ?_ _;go_wp2_with fail;go_ret;exact⟨by rw[HO2.out];try rfl,HB7.out⟩
    exact AllReadyH.nil
   exact AllReadyH.nil
  exact AllReadyH.nil
 exact AllReadyH.nil
theorem Jvy {t:Tr} (hk:(Jar t).fld.op=7∨(Jar t).fld.op=8∨(Jar t).fld.op=9∨(Jar t).fld.op=10) (hs0:Jay t) (hp:Jai t≤10000000000) (hC:∀k,Jai k<Jai t→Jay k→Jda k):Jda t:=by
 intro v w h;have q1:=Jf0 t hs0;have hlen:=Jhe (Jar t) q1.1;have hkids:∀k∈(Jar t).kids,Jay k∧Jai k<Jai t∧Jda k∧Jda (Jar k):=fun k hk=>by
  have h1:=((Jbl _).1 q1.1).2.2.2 k hk;have h2:=Jfo hk;have h3:=Jf0 k h1;exact⟨h1,by omega,hC k (by omega) h1,hC _ (by omega) h3.1⟩
 have HKI:=Hd hk;clear hk;have hflds:=((Jbl _).1 q1.1).1;have hnum:=((Jbl _).1 q1.1).2.1;have hnl:=Jh8 t;have hplen:(Jad (Jar t)).length≤100000000000000:=by omega
 have hpu:Jai (Jar t)≤10000000000:=by omega
 rw[←q1.2.2];clear hlen hC hs0 q1;have hF:=h.foot;obtain⟨u,hu⟩:∃u,Jar t=u:=⟨_,rfl⟩;rw[hu]at hkids HKI hflds hnum hnl hplen hpu ⊢;have HU:=Hd hu;clear hu;have HKD:=Hd hkids;have HFL:=Hd hflds;have HNUM:=Hd hnum;have HNL:=Hd hnl;clear hkids hflds hnum hnl;obtain⟨O,hO⟩:∃O,Jad u=O:=⟨_,rfl⟩;rw[hO]at hplen ⊢;have HO:=Hd hO;clear hO;obtain⟨A,n,c,a2,s,c2,hn,hs,rfl,hnb,hsb,hK,hS,hFl⟩:=h.opened;obtain⟨w1,hw1⟩:∃w1,w.alloc (.cells #[.int .i64 t.fld.op,.slice A n c,.int .i32 t.fld.rune,.slice a2 s c2,.int .i64 t.fld.at',.int .i64 t.fld.cap,.string t.fld.name,.int .i64 t.fld.min,.int .i64 t.fld.max,.bool t.fld.lazy] 29)=w1:=⟨_,rfl⟩;have hb1:Below w.heap.size w w1:=by rw[←hw1];exact(Below.refl _ w).alloc (Nat.le_refl _) _
 have hE1:Whole w1 w.heap.size 29 #[.int .i64 t.fld.op,.slice A n c,.int .i32 t.fld.rune,.slice a2 s c2,.int .i64 t.fld.at',.int .i64 t.fld.cap,.string t.fld.name,.int .i64 t.fld.min,.int .i64 t.fld.max,.bool t.fld.lazy]:=by rw[←hw1];exact heap_alloc_new w _
 have HA:=Hd (JiB (fun b=>b<w.heap.size) t _ w1 (fun b hb=>Nat.lt_of_lt_of_le hb hb1.size) (hF.same (Jcw hb1) (fun _ h _=>h)) hp);have HW1:=Hd hw1;have HB1:=Hd hb1;have HE1:=Hd hE1;obtain⟨g0,g1,g2,g3,g4,g5,g6,g7,g8,g9⟩:=hE1.ten;clear h hF hn hs hnb hsb hK hS hFl hw1 hb1 hE1
 go_enter Tryz.func20,Tryz.ntmps20
 go_upto_region 1 with(fail);rw[HW1.out];go_wp2_with fail;refine HA.out.mono ?_;rintro e w2 ⟨v2,rfl,ht2,hb2⟩;rw[HU.out]at ht2;obtain⟨kv2,sv2,rfl,⟨x1,x2,x3,rfl⟩,⟨y1,y2,y3,rfl⟩⟩:=ht2.ten;have hE2:Whole w2 w.heap.size 29 #[.int .i64 t.fld.op,.slice A n c,.int .i32 t.fld.rune,.slice a2 s c2,.int .i64 t.fld.at',.int .i64 t.fld.cap,.string t.fld.name,.int .i64 t.fld.min,.int .i64 t.fld.max,.bool t.fld.lazy]:=HE1.out.below hb2 HE1.out.lt;obtain⟨w3,hw3⟩:∃w3,Jbs w2 w.heap.size (.int .i64 u.fld.op) (.slice x1 x2 x3) (.int .i32 u.fld.rune) (.slice y1 y2 y3) (.int .i64 u.fld.at') (.int .i64 u.fld.cap) (.string u.fld.name) (.int .i64 u.fld.min) (.int .i64 u.fld.max) (.bool u.fld.lazy)=w3:=⟨_,rfl⟩;have hE3:Whole w3 w.heap.size 29 #[.int .i64 u.fld.op,.slice x1 x2 x3,.int .i32 u.fld.rune,.slice y1 y2 y3,.int .i64 u.fld.at',.int .i64 u.fld.cap,.string u.fld.name,.int .i64 u.fld.min,.int .i64 u.fld.max,.bool u.fld.lazy]:=by rw[←hw3];exact Jfd hE2 _ _ _ _ _ _ _ _ _ _
 have hsame:Jdc (fun k=>k≠w.heap.size) w2 w3:=by rw[←hw3];exact JeC _ _ _ _ _ _ _ _ _ _ _ _
 have hT3:Tre w3 u (.agg #[.int .i64 u.fld.op,.slice x1 x2 x3,.int .i32 u.fld.rune,.slice y1 y2 y3,.int .i64 u.fld.at',.int .i64 u.fld.cap,.string u.fld.name,.int .i64 u.fld.min,.int .i64 u.fld.max,.bool u.fld.lazy]):=ht2.same (fun b hb hl=>hsame b (by have:b<w.heap.size:=hb;omega) hl) (fun _ _ _=>trivial);have hB3:Below w.heap.size w w3:=by rw[←hw3];exact Jb2 (HB1.out.trans (hb2.mono HB1.out.size)) (Nat.le_refl _) _ _ _ _ _ _ _ _ _ _
 clear g0 g1 g2 g3 g4 g5 g6 g7 g8 g9;obtain⟨g0,g1,g2,g3,g4,g5,g6,g7,g8,g9⟩:=hE2.ten;obtain⟨z0,z1,z2,z3,z4,z5,z6,z7,z8,z9⟩:=Jah hE2;unfold Jbs at hw3;have HW3:=Hd hw3;have HE3:=Hd hE3;have HT3:=Hd hT3;have HB3:=Hd hB3;clear ht2 hb2 hE2 hw3 hE3 hsame hT3 hB3 HA HE1 HB1 HW1;go_upto_region 2 with(fail);rw[HW3.out];clear g0 g1 g2 g3 g4 g5 g6 g7 g8 g9 z0 z1 z2 z3 z4 z5 z6 z7 z8 z9;obtain⟨r0,r1,r2,r3,r4,r5,r6,r7,r8,r9⟩:=HE3.out.ten;have HX2:Hid (u.kids.length=x2∧Kds w3 u.kids (.slice x1 x2 x3)∧Rgs w3 (.slice y1 y2 y3) u.fld.set):=Hd (by
  have h1:=HT3.out;rw[JdZ]at h1;obtain⟨kv',sv',e,hS,-,hK⟩:=h1;obtain⟨rfl,rfl⟩:=JeU (f:=u.fld) (k1:=.slice x1 x2 x3) (s1:=.slice y1 y2 y3) e;refine⟨?_,hK,hS⟩;obtain⟨A',c',e2,-⟩:=hK;injection e2 with _ q _;exact q.symm)
 obtain⟨op,hop⟩:∃op,u.fld.op=op:=⟨_,rfl⟩;have hkinds:=HKI.out;rw[hop]at hkinds r0;have HOP:=Hd hop;clear hop HKI;have LF:Hid ((op=1∨op=2∨op=3∨op=4∨op=5)→O=if op=1 then JeI else if op=2 then JdJ else if op=3 then Jb3 u.fld.rune else if op=4 then Jb5 u.fld.set else Jcf u.fld.at'):=Hd (fun h=>by rw[←HO.out,←HOP.out];exact JgM (by rw[HOP.out];exact h));have hrep:=hkinds;have hways:(op==7)=true∨((op==7)=false∧(op==8)=true)∨((op==7)=false∧(op==8)=false∧(op==9)=true)∨((op==7)=false∧(op==8)=false∧(op==9)=false∧(op==10)=true):=by
  rcases hkinds with rfl|rfl|rfl|rfl<;>decide
 have e1:(op==1)=false:=by rw[beq_eq_false_iff_ne];omega
 have e3:(op==3)=false:=by rw[beq_eq_false_iff_ne];omega
 have e4:(op==4)=false:=by rw[beq_eq_false_iff_ne];omega
 have e5:(op==5)=false:=by rw[beq_eq_false_iff_ne];omega
 have e6:(op==6)=false:=by rw[beq_eq_false_iff_ne];omega
 have h1k:x2=1:=by rw[←HX2.out.1];exact HNUM.out.1 (by have:=HOP.out;omega)
 subst h1k;obtain⟨kb,ko,tk,kv',sv',hA,htk,hm,⟨d0,d1,d2,d3,d4,d5,d6,d7,d8,d9⟩,hTk⟩:=HX2.out.2.1.kid 0 (by rw[HX2.out.1];exact Nat.zero_lt_one);subst hA;obtain⟨kx,sx,hv2,⟨m1,m2,m3,rfl⟩,⟨p1,p2,p3,rfl⟩⟩:=hTk.ten;obtain⟨rfl,rfl⟩:=JeU (f:=tk.fld) (k1:=kv') (s1:=sv') hv2;rw[Nat.zero_mul,Nat.add_zero]at d0 d1 d2 d3 d4 d5 d6 d7 d8 d9;have hkk:u.kids=[tk]:=by
  obtain⟨k,hk⟩:=List.length_eq_one_iff.1 HX2.out.1;have:tk=k:=by rw[←htk];simp[hk]
  rw[hk,this]
 have HKK:=Hd hkk;have HTK:=Hd hTk;have HKT:=Hd (HKD.out tk hm);clear hkk hTk htk hm hv2 LF;have HO2:Hid (O=Jbf tk++Jcl u.fld):=Hd (by rw[←HO.out];exact JgD (by rw[HOP.out];exact hrep) HKK.out);have hsg:Jcl u.fld=Jio u.fld++JiK u.fld:=rfl;obtain⟨X,hX⟩:∃X,Jbf tk=X:=⟨_,rfl⟩;obtain⟨Y,hY⟩:∃Y,Jio u.fld=Y:=⟨_,rfl⟩;obtain⟨Z,hZ⟩:∃Z,JiK u.fld=Z:=⟨_,rfl⟩;have hpk:Jai tk≤10000000000:=by have:=HKT.out.2.1;omega
 have HRP:=Hd fun W (hW:Below w3.heap.size w3 W)=>JtS HKT.out.1 hpk HKT.out.2.2.2 _ W (HTK.out.below hW)
 have HTM:=Hd fun W (hW:Below w3.heap.size w3 W)=>Jr0 u _ W (HT3.out.below hW) HFL.out (by rw[HOP.out];exact hrep)
 have HLZ:=Hd fun W (hW:Below w3.heap.size w3 W)=>Jv7 u _ W (HT3.out.below hW)
 rw[hsg]at HO2;rw[hX]at HRP HO2;rw[hY]at HTM HO2;rw[hZ]at HLZ HO2;rw[HOP.out]at HTM HLZ;have HJ:=Hd fun W=>Jf7 [Jau X,Jau Y,Jau Z] W 3 _ rfl rfl 9 (by decide) (by
  have:=congrArg List.length HO2.out;simp only[List.length_append]at this
  simp[Ja4,Jcx];omega)
 have HFB:Hid (Ja4 [Jau X,Jau Y,Jau Z]=X++(Y++Z)):=Hd (by simp[Ja4,Jcx]);rw[HFB.out,←HO2.out]at HJ;have HB0:=Hd (Jdk w3 1);have KP:Hid (∀W,Below w3.heap.size w3 W→W.cell? ⟨w.heap.size,0,none⟩=some (.int .i64 op)∧W.cell? ⟨w.heap.size,1,none⟩=some (.slice (some ⟨kb,ko,none⟩) 1 x3)∧W.cell? ⟨w.heap.size,2,none⟩=some (.int .i32 u.fld.rune)∧W.cell? ⟨w.heap.size,3,none⟩=some (.slice y1 y2 y3)∧W.cell? ⟨w.heap.size,4,none⟩=some (.int .i64 u.fld.at')∧W.cell? ⟨w.heap.size,5,none⟩=some (.int .i64 u.fld.cap)∧W.cell? ⟨w.heap.size,6,none⟩=some (.string u.fld.name)∧W.cell? ⟨w.heap.size,7,none⟩=some (.int .i64 u.fld.min)∧W.cell? ⟨w.heap.size,8,none⟩=some (.int .i64 u.fld.max)∧W.cell? ⟨w.heap.size,9,none⟩=some (.bool u.fld.lazy)∧W.cell? ⟨kb,ko,none⟩=some (.int .i64 tk.fld.op)∧W.cell? ⟨kb,ko+1,none⟩=some (.slice m1 m2 m3)∧W.cell? ⟨kb,ko+2,none⟩=some (.int .i32 tk.fld.rune)∧W.cell? ⟨kb,ko+3,none⟩=some (.slice p1 p2 p3)∧W.cell? ⟨kb,ko+4,none⟩=some (.int .i64 tk.fld.at')∧W.cell? ⟨kb,ko+5,none⟩=some (.int .i64 tk.fld.cap)∧W.cell? ⟨kb,ko+6,none⟩=some (.string tk.fld.name)∧W.cell? ⟨kb,ko+7,none⟩=some (.int .i64 tk.fld.min)∧W.cell? ⟨kb,ko+8,none⟩=some (.int .i64 tk.fld.max)∧W.cell? ⟨kb,ko+9,none⟩=some (.bool tk.fld.lazy)):=Hd fun W hb=>⟨(hb.cell (World.block_lt_of_cell? w3 _ r0)).trans r0,(hb.cell (World.block_lt_of_cell? w3 _ r1)).trans r1,(hb.cell (World.block_lt_of_cell? w3 _ r2)).trans r2,(hb.cell (World.block_lt_of_cell? w3 _ r3)).trans r3,(hb.cell (World.block_lt_of_cell? w3 _ r4)).trans r4,(hb.cell (World.block_lt_of_cell? w3 _ r5)).trans r5,(hb.cell (World.block_lt_of_cell? w3 _ r6)).trans r6,(hb.cell (World.block_lt_of_cell? w3 _ r7)).trans r7,(hb.cell (World.block_lt_of_cell? w3 _ r8)).trans r8,(hb.cell (World.block_lt_of_cell? w3 _ r9)).trans r9,(hb.cell (World.block_lt_of_cell? w3 _ d0)).trans d0,(hb.cell (World.block_lt_of_cell? w3 _ d1)).trans d1,(hb.cell (World.block_lt_of_cell? w3 _ d2)).trans d2,(hb.cell (World.block_lt_of_cell? w3 _ d3)).trans d3,(hb.cell (World.block_lt_of_cell? w3 _ d4)).trans d4,(hb.cell (World.block_lt_of_cell? w3 _ d5)).trans d5,(hb.cell (World.block_lt_of_cell? w3 _ d6)).trans d6,(hb.cell (World.block_lt_of_cell? w3 _ d7)).trans d7,(hb.cell (World.block_lt_of_cell? w3 _ d8)).trans d8,(hb.cell (World.block_lt_of_cell? w3 _ d9)).trans d9⟩
 clear hX hY hZ HKT hpk hsg;clear hrep hkinds
 rcases hways with h7|⟨h7,h8⟩|⟨h7,h8,h9⟩|⟨h7,h8,h9,h10⟩
 all_goals
  go_upto_region 17 with(fail);refine wp_region_held_drew (S:=(fun w'=>w'.cell? ⟨w.heap.size,0,none⟩=some (.int .i64 op)∧w'.cell? ⟨w.heap.size,1,none⟩=some (.slice (some ⟨kb,ko,none⟩) 1 x3)∧w'.cell? ⟨w.heap.size,2,none⟩=some (.int .i32 u.fld.rune)∧w'.cell? ⟨w.heap.size,3,none⟩=some (.slice y1 y2 y3)∧w'.cell? ⟨w.heap.size,4,none⟩=some (.int .i64 u.fld.at')∧w'.cell? ⟨w.heap.size,5,none⟩=some (.int .i64 u.fld.cap)∧w'.cell? ⟨w.heap.size,6,none⟩=some (.string u.fld.name)∧w'.cell? ⟨w.heap.size,7,none⟩=some (.int .i64 u.fld.min)∧w'.cell? ⟨w.heap.size,8,none⟩=some (.int .i64 u.fld.max)∧w'.cell? ⟨w.heap.size,9,none⟩=some (.bool u.fld.lazy)∧w'.cell? ⟨kb,ko,none⟩=some (.int .i64 tk.fld.op)∧w'.cell? ⟨kb,ko+1,none⟩=some (.slice m1 m2 m3)∧w'.cell? ⟨kb,ko+2,none⟩=some (.int .i32 tk.fld.rune)∧w'.cell? ⟨kb,ko+3,none⟩=some (.slice p1 p2 p3)∧w'.cell? ⟨kb,ko+4,none⟩=some (.int .i64 tk.fld.at')∧w'.cell? ⟨kb,ko+5,none⟩=some (.int .i64 tk.fld.cap)∧w'.cell? ⟨kb,ko+6,none⟩=some (.string tk.fld.name)∧w'.cell? ⟨kb,ko+7,none⟩=some (.int .i64 tk.fld.min)∧w'.cell? ⟨kb,ko+8,none⟩=some (.int .i64 tk.fld.max)∧w'.cell? ⟨kb,ko+9,none⟩=some (.bool tk.fld.lazy))) (by kernel_rfl) (KP.out _ HB0.out) (fun hHeld=>?_);refine wpAnyH_take (i:=0) (oi:=_) (v:=?_) rfl (by kernel_rfl) (by kernel_rfl) (by kernel_rfl) (fun _ _ _ h=>h) (Or.inl ⟨by rfl,?_⟩) (by assumption) ?_
  rotate_left 1
  ·(intro w hSw;(try dsimp only at hSw);go_simp;(try with_reducible rfl))
  try simp only[Jab]
  refine wpAnyH_take (i:=1) (oi:=_) (v:=?_) rfl (by kernel_rfl) (by kernel_rfl) (by kernel_rfl) (fun _ _ _ h=>h) (Or.inl ⟨by rfl,?_⟩) (by assumption) ?_
  rotate_left 1
  ·(intro w hSw;(try dsimp only at hSw);go_simp;(try with_reducible rfl))
  try simp only[Jab]
  refine wpAnyH_take (i:=2) (oi:=_) (v:=?_) rfl (by kernel_rfl) (by kernel_rfl) (by kernel_rfl) (fun _ _ _ h=>h) (Or.inl ⟨by rfl,?_⟩) (by assumption) ?_
  rotate_left 1
  ·(intro w hSw;(try dsimp only at hSw);go_simp;(try with_reducible rfl))
  try simp only[Jab]
  refine wpAnyH_take (i:=3) (oi:=_) (v:=?_) rfl (by kernel_rfl) (by kernel_rfl) (by kernel_rfl) (fun _ _ _ h=>h) (Or.inl ⟨by rfl,?_⟩) (by assumption) ?_
  rotate_left 1
  ·(intro w hSw;(try dsimp only at hSw);go_simp;(try with_reducible rfl))
  try simp only[Jab]
  refine wpAnyH_take (i:=5) (oi:=_) (v:=?_) rfl (by kernel_rfl) (by kernel_rfl) (by kernel_rfl) (fun _ _ _ h=>h) (Or.inl ⟨by rfl,?_⟩) (by assumption) ?_
  rotate_left 1
  ·(intro w hSw;(try dsimp only at hSw);go_simp;(try with_reducible rfl))
  try simp only[Jab]
  refine wpAnyH_take (i:=7) (oi:=_) (v:=?_) rfl (by kernel_rfl) (by kernel_rfl) (by kernel_rfl) (fun _ _ _ h=>h) (Or.inl ⟨by rfl,?_⟩) (by assumption) ?_
  rotate_left 1
  ·(intro w hSw;(try dsimp only at hSw);go_simp;(try with_reducible rfl))
  try simp only[Jab]
  refine wpAnyH_ready (rs:=[4]) (by kernel_rfl) (by simp) ?_;refine AllReadyH.cons (o:=_) rfl (fun K hK=>?_) ?_
  ·go_simp;refine(HRP.out _ HB0.out).mono ?_;rintro e u4 ⟨rfl,hb⟩;have HB4:=Hd (HB0.out.trans (hb.mono HB0.out.size));clear hb;go_wp2_with fail;refine hK.out _ _ (KP.out _ HB4.out) (fun hHeld=>?_);clear hK K
   try simp only[Jab]
   refine wpAnyH_ready (rs:=[6]) (by kernel_rfl) (by simp) ?_;refine AllReadyH.cons (o:=_) rfl (fun K hK=>?_) ?_
   ·go_simp;refine(HTM.out _ HB4.out).mono ?_;rintro e u5 ⟨rfl,hb⟩;have HB5:=Hd (HB4.out.trans (hb.mono HB4.out.size));clear hb;go_wp2_with fail;refine hK.out _ _ (KP.out _ HB5.out) (fun hHeld=>?_);clear hK K
    try simp only[Jab]
    refine wpAnyH_ready (rs:=[8]) (by kernel_rfl) (by simp) ?_;refine AllReadyH.cons (o:=_) rfl (fun K hK=>?_) ?_
    ·go_simp;refine(HLZ.out _ HB5.out).mono ?_;rintro e u6 ⟨rfl,hb⟩;have HB8:=Hd (HB5.out.trans (hb.mono HB5.out.size));clear hb;go_wp2_with fail;refine hK.out _ _ (KP.out _ HB8.out) (fun hHeld=>?_);clear hK K
     try simp only[Jab]
     refine wpAnyH_ready (rs:=[9]) (by kernel_rfl) (by simp) ?_;refine AllReadyH.cons (o:=_) rfl (fun K hK=>?_) ?_
     ·go_simp;refine hK.out _ _ (KP.out _ (HB8.out.alloc HB8.out.size _)) (fun hHeld=>?_);clear hK K
      try simp only[Jab]
      refine wpAnyH_ready (rs:=[10]) (by kernel_rfl) (by simp) ?_;refine AllReadyH.cons (o:=_) rfl (fun K hK=>?_) ?_
      ·go_simp;refine(HJ.out _).mono ?_;rintro e u7 ⟨rfl,hb⟩;have HB6:=Hd (HB8.out.trans (hb.mono HB8.out.size));have HB7:=Hd (HB3.out.trans (HB6.out.mono HB3.out.size));clear hb;go_wp2_with fail;refine hK.out _ _ (KP.out _ HB6.out) (fun hHeld=>?_);clear hK K
       try simp only[Jab]
       refine wpAnyH_take (i:=11) (oi:=_) (v:=?_) rfl (by kernel_rfl) (by kernel_rfl) (by kernel_rfl) (fun _ _ _ h=>h) (Or.inl ⟨by rfl,?_⟩) (by assumption) ?_
       rotate_left 1
       ·(intro w hSw;(try dsimp only at hSw);go_simp;(try with_reducible rfl))
       try simp only[Jab]
       refine wpAnyH_done (by kernel_rfl) ?_ _;go_wp2_with fail;go_ret;exact⟨by rw[HO2.out];try rfl,HB7.out⟩
      exact AllReadyH.nil
     exact AllReadyH.nil
    exact AllReadyH.nil
   exact AllReadyH.nil
  exact AllReadyH.nil
theorem JrS {t:Tr} (hs0:Jay t) (hp:Jai t≤10000000000) (hC:∀k,Jai k<Jai t→Jay k→Jda k):Jda t:=by
 rcases JeP (Jf0 t hs0).1 with(h|h|h|h|h)|h|h|h|h
 ·exact JgR (by omega) hs0 hp hC
 ·exact JgR (by omega) hs0 hp hC
 ·exact JgR (by omega) hs0 hp hC
 ·exact JgR (by omega) hs0 hp hC
 ·exact JgR (by omega) hs0 hp hC
 ·exact Jya h hs0 hp hC
 ·exact Jvy h hs0 hp hC
 ·exact JgR (by omega) hs0 hp hC
 ·exact JgR (by omega) hs0 hp hC
theorem Jo6:∀(n:Nat) (t:Tr),Jai t<n→Jai t≤10000000000→Jay t→Jda t
 | 0,t,h,_,_=>absurd h (Nat.not_lt_zero _)
 | n+1,t,h,hp,hs=>JrS hs hp fun k hk hks=>Jo6 n k (by omega) (by omega) hks
end Go.Proofs.YtaaoamkagppodaaGreatDoor
