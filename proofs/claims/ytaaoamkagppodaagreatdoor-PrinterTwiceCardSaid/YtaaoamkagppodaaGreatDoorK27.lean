/- Texts merged by program. No condition. -/
import Derived.Lib.RuneCount
import Derived.Lib.RuneBytes
import Derived.Lib.DecodeN
import Derived.Test.YtaaoamkagppodaaGreatDoorK5
namespace Go.Proofs.YtaaoamkagppodaaGreatDoor
open Go Go.Lib
def JeW (r:Int):Prop:=0≤r∧(r<55296∨(57343<r∧r≤1114111))
theorem JsH (n b1 b2 b3:Nat) (r:Int) (h0:0≤r) (h1:r≤127):decodeN n r.toNat b1 b2 b3=(r.toNat,1):=by
 unfold decodeN;rw[if_pos (by omega)]
theorem Jsz (n b2 b3:Nat) (r:Int) (hn:2≤n) (h0:128≤r) (h1:r≤2047):decodeN n (192+r / 64).toNat (128+r % 64).toNat b2 b3=(r.toNat,2):=by
 unfold decodeN;rw[if_neg (by omega),if_pos ⟨by omega,by omega,by omega⟩,if_pos (by omega)]
 congr 1
 omega
theorem Jxv (n b3:Nat) (r:Int) (hn:3≤n) (h:(2048≤r∧r<55296)∨(57343<r∧r≤65535)):decodeN n (224+r / 4096).toNat (128+r / 64 % 64).toNat (128+r % 64).toNat b3=(r.toNat,3):=by
 have e:(224+r / 4096).toNat % 16*4096+(128+r / 64 % 64).toNat % 64*64+(128+r % 64).toNat % 64=r.toNat:=by omega
 unfold decodeN;rw[if_neg (by omega),if_neg (by omega),if_pos ⟨by omega,⟨by omega,by omega⟩,by omega,by omega⟩,e,if_pos (by omega)]
theorem JtY (n:Nat) (r:Int) (hn:4≤n) (h0:65536≤r) (h1:r≤1114111):decodeN n (240+r / 262144).toNat (128+r / 4096 % 64).toNat (128+r / 64 % 64).toNat (128+r % 64).toNat=(r.toNat,4):=by
 have e:(240+r / 262144).toNat % 8*262144+(128+r / 4096 % 64).toNat % 64*4096+(128+r / 64 % 64).toNat % 64*64+(128+r % 64).toNat % 64=r.toNat:=by omega
 unfold decodeN;rw[if_neg (by omega),if_neg (by omega),if_neg (by omega),if_pos ⟨by omega,⟨by omega,by omega⟩,⟨by omega,by omega⟩,by omega,by omega⟩,e,if_pos (by omega)]
theorem Jw3 (t:ByteArray) (k:Nat):t.get! k=t.data.toList[k]?.getD default:=by
 show t.data[k]! = _;rw[Array.getElem!_eq_getD,Array.getD_eq_getD_getElem?,Array.getElem?_toList]
def Jdq (l:List UInt8) (j:Nat):Nat:=(l[j]?.getD default).toNat
theorem Jrm (T:ByteArray) (p:Nat) (l:List UInt8) (h:T.data.toList.drop p=l):Utf8.decode T p=decodeN l.length (Jdq l 0) (Jdq l 1) (Jdq l 2) (Jdq l 3):=by
 have hl:T.size-p=l.length:=by rw[←h,List.length_drop];rfl
 have hg:∀j,(T.get! (p+j)).toNat=Jdq l j:=fun j=>by
  unfold Jdq;rw[Jw3,←h,List.getElem?_drop]
 rw[decode_at,hl,←hg 0,←hg 1,←hg 2,←hg 3]
 simp
theorem JdL (x:Int) (h0:0≤x) (h1:x<256):(x.toNat.toUInt8).toNat=x.toNat:=by
 show x.toNat % 256=_;omega
theorem Jt7 (T:ByteArray) (p:Nat) (r:Int) (rest:List UInt8) (hr:JeW r) (h:T.data.toList.drop p=encodeRune r++rest):Utf8.decode T p=(r.toNat,(encodeRune r).length):=by
 rw[Jrm T p _ h];obtain⟨h0,hr⟩:=hr
 by_cases c1:r≤127
 ·simp only[encodeRune,encodeRuneZ_one h0 c1,List.map_cons,List.map_nil,List.cons_append,List.nil_append,List.length_cons,List.length_nil];have e0:Jdq (r.toNat.toUInt8::rest) 0=r.toNat:=JdL r (by omega) (by omega);rw[e0];exact JsH _ _ _ _ r h0 c1
 ·by_cases c2:r≤2047
  ·simp only[encodeRune,encodeRuneZ_two (show 128≤r by omega) c2,List.map_cons,List.map_nil,List.cons_append,List.nil_append,List.length_cons,List.length_nil];have e0:Jdq ((192+r / 64).toNat.toUInt8::(128+r % 64).toNat.toUInt8::rest) 0=(192+r / 64).toNat:=JdL _ (by omega) (by omega);have e1:Jdq ((192+r / 64).toNat.toUInt8::(128+r % 64).toNat.toUInt8::rest) 1=(128+r % 64).toNat:=JdL _ (by omega) (by omega);rw[e0,e1];exact Jsz _ _ _ r (by omega) (by omega) c2
  ·by_cases c3:r≤65535
   ·have hc:(2048≤r∧r<55296)∨(57343<r∧r≤65535):=by omega
    simp only[encodeRune,encodeRuneZ_three hc,List.map_cons,List.map_nil,List.cons_append,List.nil_append,List.length_cons,List.length_nil];have e0:Jdq ((224+r / 4096).toNat.toUInt8::(128+r / 64 % 64).toNat.toUInt8::(128+r % 64).toNat.toUInt8::rest) 0=(224+r / 4096).toNat:=JdL _ (by omega) (by omega);have e1:Jdq ((224+r / 4096).toNat.toUInt8::(128+r / 64 % 64).toNat.toUInt8::(128+r % 64).toNat.toUInt8::rest) 1=(128+r / 64 % 64).toNat:=JdL _ (by omega) (by omega);have e2:Jdq ((224+r / 4096).toNat.toUInt8::(128+r / 64 % 64).toNat.toUInt8::(128+r % 64).toNat.toUInt8::rest) 2=(128+r % 64).toNat:=JdL _ (by omega) (by omega);rw[e0,e1,e2];exact Jxv _ _ r (by omega) hc
   ·simp only[encodeRune,encodeRuneZ_four (show 65536≤r by omega) (show r≤1114111 by omega),List.map_cons,List.map_nil,List.cons_append,List.nil_append,List.length_cons,List.length_nil];have e0:Jdq ((240+r / 262144).toNat.toUInt8::(128+r / 4096 % 64).toNat.toUInt8::(128+r / 64 % 64).toNat.toUInt8::(128+r % 64).toNat.toUInt8::rest) 0=(240+r / 262144).toNat:=JdL _ (by omega) (by omega);have e1:Jdq ((240+r / 262144).toNat.toUInt8::(128+r / 4096 % 64).toNat.toUInt8::(128+r / 64 % 64).toNat.toUInt8::(128+r % 64).toNat.toUInt8::rest) 1=(128+r / 4096 % 64).toNat:=JdL _ (by omega) (by omega);have e2:Jdq ((240+r / 262144).toNat.toUInt8::(128+r / 4096 % 64).toNat.toUInt8::(128+r / 64 % 64).toNat.toUInt8::(128+r % 64).toNat.toUInt8::rest) 2=(128+r / 64 % 64).toNat:=JdL _ (by omega) (by omega);have e3:Jdq ((240+r / 262144).toNat.toUInt8::(128+r / 4096 % 64).toNat.toUInt8::(128+r / 64 % 64).toNat.toUInt8::(128+r % 64).toNat.toUInt8::rest) 3=(128+r % 64).toNat:=JdL _ (by omega) (by omega);rw[e0,e1,e2,e3];exact JtY _ r (by omega) (by omega) (by omega)
theorem JqN (r:Int):1≤(encodeRune r).length:=by
 unfold encodeRune encodeRuneZ
 repeat' split
 all_goals simp
end Go.Proofs.YtaaoamkagppodaaGreatDoor
set_option linter.unusedVariables false
namespace Go.Proofs.YtaaoamkagppodaaGreatDoor
open Go Go.RowKit
theorem JqW (r:Int) (h:JeW r):(Utf8.encode r).toList=Lib.encodeRune r:=by
 obtain⟨h0,h1⟩:=h;have hv:Utf8.valid r=true:=by unfold Utf8.valid;simp;omega
 rw[Lib.toList_data];unfold Utf8.encode Lib.encodeRune;simp only[hv,if_true]
 by_cases c1:r≤127
 ·rw[Lib.encodeRuneZ_one h0 c1,if_pos (by omega)];rfl
 rw[if_neg (by omega)]
 by_cases c2:r≤2047
 ·rw[Lib.encodeRuneZ_two (by omega) c2,if_pos (by omega)];simp only[List.map_cons,List.map_nil];rw[show (192+r / 64).toNat=192+r.toNat / 64 by omega,show (128+r % 64).toNat=128+r.toNat % 64 by omega]
  try rfl
 rw[if_neg (by omega)]
 by_cases c3:r≤65535
 ·rw[Lib.encodeRuneZ_three (by omega),if_pos (by omega)];simp only[List.map_cons,List.map_nil];rw[show (224+r / 4096).toNat=224+r.toNat / 4096 by omega,show (128+r / 64 % 64).toNat=128+r.toNat / 64 % 64 by omega,show (128+r % 64).toNat=128+r.toNat % 64 by omega]
  try rfl
 rw[if_neg (by omega),Lib.encodeRuneZ_four (by omega) (by omega)];simp only[List.map_cons,List.map_nil];rw[show (240+r / 262144).toNat=240+r.toNat / 262144 by omega,show (128+r / 4096 % 64).toNat=128+r.toNat / 4096 % 64 by omega,show (128+r / 64 % 64).toNat=128+r.toNat / 64 % 64 by omega,show (128+r % 64).toNat=128+r.toNat % 64 by omega]
 try rfl
theorem JoY {r:Int} (h:JeW r) (h2:127<r):∀c∈Lib.encodeRune r,128≤c.toNat:=by
 obtain⟨h0,h1⟩:=h;unfold Lib.encodeRune
 by_cases c2:r≤2047
 ·rw[Lib.encodeRuneZ_two (by omega) c2];intro c hc;simp only[List.map_cons,List.map_nil,List.mem_cons,List.not_mem_nil,or_false]at hc
  rcases hc with rfl|rfl<;>rw[JdL _ (by omega) (by omega)]<;>omega
 by_cases c3:r≤65535
 ·rw[Lib.encodeRuneZ_three (by omega)];intro c hc;simp only[List.map_cons,List.map_nil,List.mem_cons,List.not_mem_nil,or_false]at hc
  rcases hc with rfl|rfl|rfl<;>rw[JdL _ (by omega) (by omega)]<;>omega
 rw[Lib.encodeRuneZ_four (by omega) (by omega)];intro c hc;simp only[List.map_cons,List.map_nil,List.mem_cons,List.not_mem_nil,or_false]at hc
 rcases hc with rfl|rfl|rfl|rfl<;>rw[JdL _ (by omega) (by omega)]<;>omega
theorem Jmm {r:Int} (h0:0≤r) (h1:r≤127):∃c:UInt8,Lib.encodeRune r=[c]∧(c.toNat:Int)=r:=by
 unfold Lib.encodeRune;rw[Lib.encodeRuneZ_one h0 h1];exact⟨_,rfl,by rw[JdL r h0 (by omega)];omega⟩
end Go.Proofs.YtaaoamkagppodaaGreatDoor
