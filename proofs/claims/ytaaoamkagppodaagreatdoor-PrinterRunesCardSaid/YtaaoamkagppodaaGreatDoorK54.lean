/- Texts merged by program. No condition. -/
import Derived.Test.YtaaoamkagppodaaGreatDoorK49
import Derived.Test.YtaaoamkagppodaaGreatDoorK50
import Derived.Test.YtaaoamkagppodaaGreatDoorK53
set_option maxHeartbeats 1600000
set_option linter.unusedVariables false
namespace Go.Proofs.YtaaoamkagppodaaGreatDoor
open Go Go.RowKit
theorem JlF {l:List (Int × Int)} (h:Jak l):l.length≤134217728:=by have:=Jec l 0 (by omega) h;omega
theorem JrU (s:ByteArray) (w:World):Calls Tryz.prog 191 #[.string s] w (Jc6 (Jfc s.toList) w):=by
 have HS:=Hd (JwS s w);have hne:=fun(W:World) (a:Option Addr) (n c:Nat)=>run_neq_slice_nil_any (P:=Tryz.prog) W 26 44 a n c 0 0 Tryz.underlying26
 unfold Jc6
 go_enter Tryz.func191,Tryz.ntmps191
 go_wp2_with fail;refine HS.out.mono ?_;rintro e w1 ⟨hb,⟨hn,rfl⟩|⟨v,l,hn,hl0,rfl,ho⟩⟩
 ·have HB:=Hd hb;have HN:=Hd hn;clear hb hn;go_wp2_with fail
  go_ret2
  exact⟨HB.out,.inl ⟨HN.out,rfl⟩⟩
 ·have HB:=Hd hb;have HN:=Hd hn;have HO:=Hd ho;have hl:l.length≠0:=fun h=>hl0 (List.eq_nil_of_length_eq_zero h)
  obtain⟨g,c,rfl⟩:∃g c,v=.slice (some ⟨g,0,none⟩) l.length c:=by
   rcases Jj9 ho.1 with⟨-,h⟩|⟨g,c,rfl,-⟩
   ·exact absurd h hl
   ·exact⟨g,c,rfl⟩
  clear hb hn ho hl hl0;go_wp2_with fail
  go_ret2
  exact⟨HB.out,.inr ⟨_,l,HN.out,rfl,HO.out⟩⟩
theorem Jw7 (s:ByteArray) (w:World):Calls Tryz.prog 163 #[.string s] w (Jc6 (Jdt s.toList) w):=by
 have HS:=Hd (JtG s w);have HW:=Hd (Job w);unfold Jc6
 by_cases ha:s.toList=[65,110,121]
 ·have q1:(s.toList==[65,110,121])=true:=by rw[ha];rfl
  have HQ:=Hd (show Jdt s.toList=some (JcD []) by unfold Jdt;rw[if_pos ha]);clear ha
  go_enter Tryz.func163,Tryz.ntmps163
  go_wp2_with fail;refine HW.out.mono ?_;rintro e w1 ⟨v,rfl,ho,hb⟩;have HB:=Hd hb;have HO:=Hd ho;clear ho hb;go_wp2_with fail
  go_ret2
  exact⟨HB.out,.inr ⟨v,_,HQ.out,rfl,HO.out⟩⟩
 ·have q1:(s.toList==[65,110,121])=false:=by simpa using ha
  have HQ:=Hd (show Jdt s.toList=Jfe s.toList by unfold Jdt;rw[if_neg ha]);clear ha
  go_enter Tryz.func163,Tryz.ntmps163
  go_wp2_with fail;refine HS.out.mono ?_;rintro e w1 ⟨hb,⟨hn,rfl⟩|⟨v,l,hn,rfl,ho⟩⟩
  ·have HB:=Hd hb;have HN:=Hd hn;clear hb hn;go_wp2_with fail
   go_ret2
   exact⟨HB.out,.inl ⟨by rw[HQ.out];exact HN.out,rfl⟩⟩
  ·have HB:=Hd hb;have HN:=Hd hn;have HO:=Hd ho;clear hb hn ho;go_wp2_with fail
   go_ret2
   exact⟨HB.out,.inr ⟨v,l,by rw[HQ.out];exact HN.out,rfl,HO.out⟩⟩
def Jf4 (P:List UInt8→Option (List (Int × Int))) (b:List UInt8):Option (List (Int × Int)):=if b.head? = some 94 then (P b.tail).map JcD else P b
theorem JoK (g:Nat) (P:List UInt8→Option (List (Int × Int))) (eg:∀args w,(callFunc g args).run Tryz.prog w=.ok (.enter g args) w)
  (hp:∀(s:ByteArray) (w:World),Calls Tryz.prog g #[.string s] w (Jc6 (P s.toList) w)) (hr:∀b l,P b=some l→Jak l)
  (s:ByteArray) (q:Nat) (w:World) (hc:w.cell? ⟨q,0,none⟩=some (.func (.func g) #[] #[])) :
  Calls Tryz.prog 175 #[.string s,.pointer (some ⟨q,0,none⟩)] w (Jc6 (Jf4 P s.toList) w):=by
 have HR:=Hd hr;have HC:=Hd (JuO s w);unfold Jc6;clear hr
 go_enter Tryz.func175,Tryz.ntmps175
 go_wp2_with fail;refine HC.out.mono ?_;rintro e w1 ⟨rfl,⟨h,rfl⟩|⟨h,rfl⟩⟩
 ·have HT:=Hd (show Jf4 P s.toList=(P (s.extract 1 s.size).toList).map JcD by
   unfold Jf4;rw[Juy];unfold JeV at h;rw[if_pos (eq_of_beq h)])
  clear h HC;have HP:=Hd (hp (s.extract 1 s.size) w1);clear hp;go_wp2_with fail;refine HP.out.mono ?_;rintro e w2 ⟨hb,⟨hn,rfl⟩|⟨v,l,hn,rfl,ho⟩⟩
  ·have HB:=Hd hb;have HN:=Hd hn;clear hb hn;go_wp2_with fail
   go_ret2
   exact⟨HB.out,.inl ⟨by rw[HT.out,HN.out];rfl,rfl⟩⟩
  ·have HB:=Hd hb;have HN:=Hd hn;have HV:=Hd (JjC v l w2 ho.rgs (HR.out _ _ hn) (JlF (HR.out _ _ hn)));clear hb hn ho;go_wp2_with fail;refine HV.out.mono ?_;rintro e w3 ⟨v3,rfl,ho,hb⟩;have HB3:=Hd (HB.out.trans (hb.mono HB.out.size));have HO3:=Hd (ho.mono HB.out.size);clear ho hb;go_wp2_with fail
   go_ret2
   exact⟨HB3.out,.inr ⟨v3,_,by rw[HT.out,HN.out];rfl,rfl,HO3.out⟩⟩
 ·have HT:=Hd (show Jf4 P s.toList=P s.toList by
   unfold Jf4;unfold JeV at h;rw[if_neg (fun e=>by rw[e]at h;cases h)])
  clear h HC;have HP:=Hd (hp s w1);clear hp;go_wp2_with fail;refine HP.out.mono ?_;rintro e w2 ⟨hb,⟨hn,rfl⟩|⟨v,l,hn,rfl,ho⟩⟩
  ·have HB:=Hd hb;have HN:=Hd hn;clear hb hn;go_wp2_with fail
   go_ret2
   exact⟨HB.out,.inl ⟨by rw[HT.out,HN.out],rfl⟩⟩
  ·have HB:=Hd hb;have HN:=Hd hn;have HO:=Hd ho;clear hb hn ho;go_wp2_with fail
   go_ret2
   exact⟨HB.out,.inr ⟨v,l,by rw[HT.out,HN.out],rfl,HO.out⟩⟩
theorem JmB (g:Nat) (w:World):Calls Tryz.prog 162 #[.func (.func g) #[] #[]] w fun e w'=>e=.returned (.func (.func 175) #[] #[.pointer (some ⟨w.heap.size,0,none⟩)])∧w'=w.alloc (.cells #[.func (.func g) #[] #[]] 212):=by
 go_enter Tryz.func162,Tryz.ntmps162
 go_wp2
 go_ret;exact⟨rfl,rfl⟩
theorem Jnr {o:Option (List (Int × Int))} {w0 w:World} {e:Ending} {w':World} (h:Jc6 o w e w') (hb:Below w0.heap.size w0 w):Jc6 o w0 e w':=by
 obtain⟨h1,h2⟩:=h;refine⟨hb.trans (h1.mono hb.size),?_⟩
 rcases h2 with h2|⟨v,l,h3,h4,h5⟩
 ·exact .inl h2
 ·exact .inr ⟨v,l,h3,h4,h5.mono hb.size⟩
theorem JmO (w:World) (v:Value) (t:TypeId):(w.alloc (.cells #[v] t)).cell? ⟨w.heap.size,0,none⟩=some v:=by
 rw[cell_of_row _ _ _ _ _ _ (heap_alloc_new w _)];rfl
theorem Jq1 (s:ByteArray) (w:World):Calls Tryz.prog 171 #[.string s] w (Jc6 (JfK s.toList) w):=by
 have HT:=Hd (JmB 191 w);have HP:=Hd (JoK 191 Jfc (enters_of Tryz.func191 (by kernel_rfl) rfl) JrU (fun _ _ h=>Jk9 h) s w.heap.size (w.alloc (.cells #[.func (.func 191) #[] #[]] 212)) (JmO w _ _));have HB:=Hd ((Below.refl _ w).alloc (Nat.le_refl _) (.cells #[.func (.func 191) #[] #[]] 212))
 go_enter Tryz.func171,Tryz.ntmps171
 go_wp2_with fail;refine HT.out.mono ?_;rintro e w1 ⟨rfl,rfl⟩;go_wp2_with fail;refine HP.out.mono ?_;intro e w2 hp;have hp:=Jnr hp HB.out;obtain⟨hb,⟨hn,rfl⟩|⟨v,l,hn,rfl,ho⟩⟩:=hp
 ·have HN:=Hd hn;have HB2:=Hd hb;clear hn hb;go_wp2_with fail
  go_ret2
  exact⟨HB2.out,.inl ⟨HN.out,rfl⟩⟩
 ·have HN:=Hd hn;have HB2:=Hd hb;have HO:=Hd ho;clear hn hb ho;go_wp2_with fail
  go_ret2
  exact⟨HB2.out,.inr ⟨v,l,HN.out,rfl,HO.out⟩⟩
theorem JpF (b:List UInt8) (n:Bool):Jfh b n=if n then (Jf4 Jdt b).map JcD else Jf4 Jdt b:=by
 unfold Jfh Jf4
 by_cases h:b.head? = some 94
 ·rw[if_pos h,if_pos h]
  cases n
  ·rfl
  ·simp only[Jg8,Bool.not_true,Bool.false_eq_true,if_false,if_true]
   cases hp:Jdt b.tail with
   | none=>rfl
   | some l=>simp only[Option.map_some,JrY (Jjb hp)]
 ·rw[if_neg h,if_neg h];rfl
theorem JnV {b:List UInt8} {l:List (Int × Int)} (h:Jf4 Jdt b=some l):Jak l:=by
 have:=JpF b false;rw[if_neg (by decide)]at this;exact Jnv (this.trans h)
theorem Jpo (s:ByteArray) (n:Bool) (w:World):Calls Tryz.prog 141 #[.string s,.bool n] w (Jc6 (Jfh s.toList n) w):=by
 rw[JpF];have HT:=Hd (JmB 163 w);have HP:=Hd (JoK 163 Jdt (enters_of Tryz.func163 (by kernel_rfl) rfl) Jw7 (fun _ _ h=>Jjb h) s w.heap.size (w.alloc (.cells #[.func (.func 163) #[] #[]] 212)) (JmO w _ _));have HB:=Hd ((Below.refl _ w).alloc (Nat.le_refl _) (.cells #[.func (.func 163) #[] #[]] 212));unfold Jc6
 go_enter Tryz.func141,Tryz.ntmps141
 go_wp2_with fail;refine HT.out.mono ?_;rintro e w1 ⟨rfl,rfl⟩;go_wp2_with fail;refine HP.out.mono ?_;intro e w2 hp;have hp:=Jnr hp HB.out;obtain⟨hb,⟨hn,rfl⟩|⟨v,l,hn,rfl,ho⟩⟩:=hp
 ·have HN:=Hd hn;have HB2:=Hd hb;clear hn hb
  cases n
  ·go_wp2_with fail
   go_ret2
   exact⟨HB2.out,.inl ⟨HN.out,rfl⟩⟩
  ·go_wp2_with fail
   go_ret2
   exact⟨HB2.out,.inl ⟨by simp[HN.out],rfl⟩⟩
 ·have HN:=Hd hn;have HB2:=Hd hb;have HO:=Hd ho;have HV:=Hd (JjC v l w2 ho.rgs (JnV hn) (JlF (JnV hn)));clear hn hb ho
  cases n
  ·go_wp2_with fail
   go_ret2
   exact⟨HB2.out,.inr ⟨v,l,HN.out,rfl,HO.out⟩⟩
  ·go_wp2_with fail;refine HV.out.mono ?_;rintro e w3 ⟨v3,rfl,ho,hb⟩;have HB3:=Hd (HB2.out.trans (hb.mono HB2.out.size));have HO3:=Hd (ho.mono HB2.out.size);clear ho hb;go_wp2_with fail
   go_ret2
   exact⟨HB3.out,.inr ⟨v3,_,by simp[HN.out],rfl,HO3.out⟩⟩
theorem Juq (all:Bool) (w:World):Calls Tryz.prog 122 #[.bool all] w fun e w'=>∃v',e=.returned v'∧Jae w' w.heap.size v' (Jhr all)∧Below w.heap.size w w':=by
 cases all
 ·go_enter Tryz.func122,Tryz.ntmps122
  go_wp2_with fail;refine(Jc2 _ [(10,10)] _ (JcW w _ _ _ rfl rfl (by unfold JaY I32;decide)) (by decide)).mono ?_;rintro e w1 ⟨v1,rfl,ho,hb⟩;have HB:=Hd ((((Below.refl _ w).alloc (Nat.le_refl _) _).trans (hb.mono (by simp))));have HV:=Hd (JjC v1 [(10,10)] w1 ho.rgs (by simp[Jak,Jav]) (by decide));clear ho hb;go_wp2_with fail;refine HV.out.mono ?_;rintro e w3 ⟨v3,rfl,ho,hb⟩;have HB3:=Hd (HB.out.trans (hb.mono HB.out.size));have HO3:=Hd (ho.mono HB.out.size);clear ho hb;go_wp2_with fail;go_ret;exact⟨v3,rfl,HO3.out,HB3.out⟩
 ·have HW:=Hd (Job w)
  go_enter Tryz.func122,Tryz.ntmps122
  go_wp2_with fail;refine HW.out.mono ?_;rintro e w1 ⟨v,rfl,ho,hb⟩;have HB:=Hd hb;have HO:=Hd ho;clear ho hb;go_wp2_with fail;go_ret;exact⟨v,rfl,HO.out,HB.out⟩
theorem Jki (c:Int) (l:List (Int × Int)) (w:World) (hc:(c=100∧l=dR)∨(c=115∧l=sR)∨(c=119∧l=wR)):Calls Tryz.prog 178 #[.int .u8 c] w (Jc6 (Jc0 c) w):=by
 have HL:=Hd (show Jc0 c=some l by rcases hc with⟨rfl,rfl⟩|⟨rfl,rfl⟩|⟨rfl,rfl⟩<;>rfl);have HP:=Hd (Jof c l w hc);unfold Jc6
 rcases hc with⟨rfl,-⟩|⟨rfl,-⟩|⟨rfl,-⟩ <;>
 ·go_enter Tryz.func178,Tryz.ntmps178
  go_wp2_with fail;refine HP.out.mono ?_;rintro e w1 ⟨v,rfl,ho,hb⟩;have HB:=Hd hb;have HO:=Hd ho;clear ho hb;go_wp2_with fail
  go_ret2
  exact⟨HB.out,.inr ⟨v,_,HL.out,rfl,HO.out⟩⟩
theorem JlY (c d:Int) (l:List (Int × Int)) (w:World) (hc:(c=68∧d=100∧l=dR)∨(c=83∧d=115∧l=sR)∨(c=87∧d=119∧l=wR)):Calls Tryz.prog 178 #[.int .u8 c] w (Jc6 (Jc0 c) w):=by
 have HL:=Hd (show Jc0 c=some (JcD l) by rcases hc with⟨rfl,rfl,rfl⟩|⟨rfl,rfl,rfl⟩|⟨rfl,rfl,rfl⟩<;>rfl);have HP:=Hd (Jof d l w (by rcases hc with⟨rfl,h1,h2⟩|⟨rfl,h1,h2⟩|⟨rfl,h1,h2⟩<;>simp[h1,h2]));have HR:=Hd (show Jak l by rcases hc with⟨-,-,rfl⟩|⟨-,-,rfl⟩|⟨-,-,rfl⟩<;>simp[Jak,Jav,dR,sR,wR]);unfold Jc6
 rcases hc with⟨rfl,rfl,-⟩|⟨rfl,rfl,-⟩|⟨rfl,rfl,-⟩ <;>
 ·go_enter Tryz.func178,Tryz.ntmps178
  go_wp2_with fail;refine HP.out.mono ?_;rintro e w1 ⟨v,rfl,ho,hb⟩;have HB:=Hd hb;have HV:=Hd (JjC v l w1 ho.rgs HR.out (JlF HR.out));clear ho hb;go_wp2_with fail;refine HV.out.mono ?_;rintro e w3 ⟨v3,rfl,ho,hb⟩;have HB3:=Hd (HB.out.trans (hb.mono HB.out.size));have HO3:=Hd (ho.mono HB.out.size);clear ho hb;go_wp2_with fail
  go_ret2
  exact⟨HB3.out,.inr ⟨v3,_,HL.out,rfl,HO3.out⟩⟩
theorem Jhl (c:Int) (w:World):Calls Tryz.prog 178 #[.int .u8 c] w (Jc6 (Jc0 c) w):=by
 by_cases h1:c=100
 ·exact Jki c dR w (.inl ⟨h1,rfl⟩)
 by_cases h2:c=115
 ·exact Jki c sR w (.inr (.inl ⟨h2,rfl⟩))
 by_cases h3:c=119
 ·exact Jki c wR w (.inr (.inr ⟨h3,rfl⟩))
 by_cases h4:c=68
 ·exact JlY c 100 dR w (.inl ⟨h4,rfl,rfl⟩)
 by_cases h5:c=83
 ·exact JlY c 115 sR w (.inr (.inl ⟨h5,rfl,rfl⟩))
 by_cases h6:c=87
 ·exact JlY c 119 wR w (.inr (.inr ⟨h6,rfl,rfl⟩))
 have HL:=Hd (show Jc0 c=none by unfold Jc0;rw[if_neg h1,if_neg h2,if_neg h3,if_neg h4,if_neg h5,if_neg h6]);have q1:(c==100)=false:=by simpa using h1
 have q2:(c==115)=false:=by simpa using h2
 have q3:(c==119)=false:=by simpa using h3
 have q4:(c==68)=false:=by simpa using h4
 have q5:(c==83)=false:=by simpa using h5
 have q6:(c==87)=false:=by simpa using h6
 clear h1 h2 h3 h4 h5 h6;unfold Jc6
 go_enter Tryz.func178,Tryz.ntmps178
 go_wp2_with fail
 go_ret2
 exact⟨Below.refl _ _,.inl ⟨HL.out,rfl⟩⟩
end Go.Proofs.YtaaoamkagppodaaGreatDoor
