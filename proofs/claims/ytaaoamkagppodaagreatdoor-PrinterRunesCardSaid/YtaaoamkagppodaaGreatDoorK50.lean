/- Texts merged by program. No condition. -/
import Derived.Test.YtaaoamkagppodaaGreatDoorSh
import Derived.WalkKit
import Derived.Lib.Strings
import Derived.Test.YtaaoamkagppodaaGreatDoorProg
set_option maxHeartbeats 800000
set_option linter.unusedVariables false
namespace Go.Proofs.YtaaoamkagppodaaGreatDoor
open Go Go.RowKit
theorem Jpt (s:ByteArray) (h:0<s.size):s.toList.head? = some s[0]:=by
 rw[Lib.toList_data];obtain⟨⟨l⟩⟩:=s
 cases l with
 | nil=>exact absurd h (by decide)
 | cons x l=>rfl
theorem Juy (s:ByteArray):(s.extract 1 s.size).toList=s.toList.tail:=by
 rw[Lib.extract_toList,Lib.toList_data,Lib.size_eq,List.drop_one];exact List.take_of_length_le (by rw[List.length_tail];exact Nat.le_refl _)
theorem JoW (s:ByteArray) (h:¬0<s.size):s.toList=[]:=by
 rw[Lib.toList_data];exact List.length_eq_zero_iff.1 (by rw[←Lib.size_eq];omega)
theorem JrN (s:ByteArray) (h:0<s.size):(s.extract 0 1).toList=[s[0]]:=by
 rw[Lib.extract_toList,List.drop_zero,←Lib.toList_data];have:=Jpt s h
 cases hl:s.toList with
 | nil=>rw[hl]at this;cases this
 | cons x t =>
  rw[hl]at this;injection this with this;rw[←this];rfl
theorem Jt4 (x:UInt8):(([x]:List UInt8)==[94])=decide (x=94):=by
 by_cases h:x=94
 ·subst h;rfl
 ·rw[decide_eq_false h];exact beq_eq_false_iff_ne.2 fun e=>h (List.head_eq_of_cons_eq e)
def JeV (s:ByteArray):Bool:=s.toList.head? == some 94
theorem JuA (s:ByteArray) (w:World):Calls Tryz.prog 124 #[.string s,.string { data:=#[94] }] w fun e w'=>e=.returned (.bool (JeV s))∧w'=w:=by
 by_cases h0:0<s.size
 ·have h1:1≤s.size:=h0;have hf:=JrN s h0;have hq:((s.extract 0 1).toList==[94])=JeV s:=by
   rw[hf,Jt4];unfold JeV;rw[Jpt s h0]
   by_cases hx:s[0]=94
   ·rw[hx];rfl
   ·rw[decide_eq_false hx];exact(beq_eq_false_iff_ne.2 fun e=>hx (Option.some.inj e)).symm
  clear hf
  go_enter Tryz.func124,Tryz.ntmps124
  go_wp2_with fail;go_ret;exact⟨rfl,rfl⟩
 ·have hz:s.size=0:=by omega
  have hq:JeV s=false:=by
   unfold JeV;rw[JoW s h0];rfl
  have HQ:=Hd hq;clear hq
  go_enter Tryz.func124,Tryz.ntmps124
  go_wp2_with fail;rw[HQ.out];go_ret;exact⟨rfl,rfl⟩
def Jjr (s:ByteArray) (w:World) (e:Ending) (w':World):Prop:=
 w'=w∧((JeV s=true∧e=.returned (.tuple #[.string (s.extract 1 s.size),.bool true]))∨(JeV s=false∧e=.returned (.tuple #[.string s,.bool false])))
theorem JsZ (s:ByteArray) (w:World):Calls Tryz.prog 192 #[.string s,.string { data:=#[94] }] w (Jjr s w):=by
 have HP:=Hd (JuA s w);unfold Jjr
 by_cases hh:JeV s=true
 ·have h1:1≤s.size:=by
   refine Nat.lt_of_not_le fun h=>?_
   unfold JeV at hh;rw[JoW s (by omega)]at hh
   cases hh
  rw[hh]at HP ⊢;clear hh
  go_enter Tryz.func192,Tryz.ntmps192
  go_wp2_with fail;refine HP.out.mono ?_;rintro e w1 ⟨rfl,rfl⟩;go_wp2_with fail
  go_ret2
  exact⟨rfl,.inl ⟨trivial,rfl⟩⟩
 ·have hh:JeV s=false:=by simpa using hh
  rw[hh]at HP ⊢;clear hh
  go_enter Tryz.func192,Tryz.ntmps192
  go_wp2_with fail;refine HP.out.mono ?_;rintro e w1 ⟨rfl,rfl⟩;go_wp2_with fail
  go_ret2
  exact⟨rfl,.inr ⟨trivial,rfl⟩⟩
theorem JuO (s:ByteArray) (w:World):Calls Tryz.prog 173 #[.string s,.string { data:=#[94] }] w (Jjr s w):=by
 have HP:=Hd (JsZ s w);unfold Jjr
 go_enter Tryz.func173,Tryz.ntmps173
 go_wp2_with fail;refine HP.out.mono ?_;rintro e w1 ⟨rfl,⟨h,rfl⟩|⟨h,rfl⟩⟩
 ·have H:=Hd h;clear h;go_wp2_with fail
  go_ret2
  exact⟨rfl,.inl ⟨H.out,rfl⟩⟩
 ·have H:=Hd h;clear h;go_wp2_with fail
  go_ret2
  exact⟨rfl,.inr ⟨H.out,rfl⟩⟩
end Go.Proofs.YtaaoamkagppodaaGreatDoor
