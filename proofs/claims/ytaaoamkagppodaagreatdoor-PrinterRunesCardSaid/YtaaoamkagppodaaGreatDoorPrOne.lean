/- A rune's text, and that of a set of one range, are read as just that. Plain side. -/
import Derived.Test.YtaaoamkagppodaaGreatDoorK29
set_option linter.unusedVariables false
namespace Go.Proofs.YtaaoamkagppodaaGreatDoor
open Go Go.RowKit
theorem Jor {s:ByteArray} {f:Int} {y:List UInt8} {t:Tr} (hs:s.toList=y) (hy:JbO y) (hf:f=0∨f=32) (hlen:y.length≤1024) (ha:Jfk s 0 f y [] [] t) (hg:JbA (Jac y)) (hd:JaC t≤50) (hw:Ja5 t≤4000):JdK s f=.tree t:=by
 have hsz:s.size=y.length:=by rw[Jnk,hs]
 have h0:¬(f<0∨63<f):=by omega
 have hl:Jaa s 0=y:=by unfold Jaa;rw[List.drop_zero,hs]
 have hend:Jac (Jaa s s.size) = -1:=Jil s _ (Nat.le_refl _);have h1:JaO s (3*s.size+2) 0 f [] []=.ok [t] s.size f []:=by
  rw[show 3*s.size+2=(3*s.size+1)+1 from rfl,Jl8 (by rw[hl];exact hg) (ha (3*s.size+1) (by omega)),Nat.zero_add,←hsz];exact Jjc (.inl hend)
 have h2:JaN s (JdU s) 0 f [] []=.ok [t] s.size f []:=by
  unfold JdU;rw[show 3*s.size+3=(3*s.size+2)+1 from rfl,JaN,h1];simp only;rw[if_neg (by rw[hend];decide)];rfl
 have hf2:Jag f 2=false:=by rcases hf with rfl|rfl<;>kernel_rfl
 unfold JdK;rw[if_neg h0,if_neg (by omega),hs,JkO _ hy,if_neg (by decide),hf2,if_neg (by decide),h2];simp only;rw[if_neg (Nat.lt_irrefl _)];show Jc7 s t=_;unfold Jc7;rw[if_neg (by omega),if_neg (by omega)]
theorem Jm1 {c f:Int} (h0:0≤c) (h1:c≤1114111) (hf:f=0∨f=32) {s:ByteArray} (hs:s.toList=Jb3 c):JdK s f=.tree (Jap c):=by
 have hl:Jaa s 0=Jb3 c++[]:=by unfold Jaa;rw[List.drop_zero,hs,List.append_nil]
 have hh:=(JqG (c:=c) []).1;rw[List.append_nil]at hh;refine Jor hs (JpQ c) hf (by have:=Jle h1;omega) (Jpx [] h0 h1 (by rcases hf with rfl|rfl<;>kernel_rfl) hl) hh ?_ ?_
 ·rw[Jd8];simp[Jap,Tr.kids,Jbj]
 ·rw[Jd7];simp[Jap,Tr.fld,JcM]
theorem Jpe {a b:Int} (h0:0≤a) (h1:a≤b) (h2:b≤1114111):Jak [(a,b)]:=by
 unfold Jak;exact⟨h0,h1,h2,trivial⟩
theorem Jzs {a b:Int} (h0:0≤a) (h1:a≤b) (h2:b≤1114111) {s:ByteArray} (hs:s.toList=Jb5 [(a,b)]):JdK s 0=.tree (JaD [(a,b)]):=by
 have hl:Jaa s 0=Jb5 [(a,b)]++[]:=by unfold Jaa;rw[List.drop_zero,hs,List.append_nil]
 have hy:JbO (Jb5 [(a,b)]):=Jb6 (by decide) (Jdx (Jlv _) (Jb6 (by decide) Jet));have hlen:(Jb5 [(a,b)]).length≤1024:=by
  have:=Jit [(a,b)] (fun r hr=>by
   have:r=(a,b):=by simpa using hr
   subst this;exact⟨by show a≤_;omega,h2⟩)
  unfold Jb5;simp only[List.length_cons,List.length_append,List.length_nil]at this ⊢;omega
 refine Jor hs hy (.inl rfl) hlen (Jqd [] (Jpe h0 h1 h2) (by simp) (by kernel_rfl) hl) ?_ ?_ ?_
 ·show JbA ((91:UInt8).toNat:Int);unfold JbA
  decide
 ·rw[Jd8];simp[JaD,Tr.kids,Jbj]
 ·rw[Jd7];simp[JaD,Tr.fld,JcM]
theorem JoM {c:Int} (h0:0≤c) (h1:c≤1114111):JbU (Jap c):=by
 refine⟨by rw[Jd8];simp[Jap,Tr.kids,Jbj],by rw[Jd7];simp[Jap,Tr.fld,JcM],?_,?_⟩
 ·rw[Jbl];refine⟨?_,by simp[JbK,Jap,Tr.fld,Tr.kids],by simp[Jap,Tr.fld],by simp[Jap,Tr.kids]⟩
  simp[Jbv,Jap,Tr.fld,h0,h1]
 ·rw[show JaP (Jap c)=[] by rw[Jfm];simp[Jap,Tr.kids,Tr.fld]];intro i hi
  simp at hi
theorem Jnc {a b:Int} (h0:0≤a) (h1:a≤b) (h2:b≤1114111):JbU (JaD [(a,b)]):=by
 refine⟨by rw[Jd8];simp[JaD,Tr.kids,Jbj],by rw[Jd7];simp[JaD,Tr.fld,JcM],?_,?_⟩
 ·rw[Jbl];refine⟨?_,by simp[JbK,JaD,Tr.fld,Tr.kids],by simp[JaD,Tr.fld],by simp[JaD,Tr.kids]⟩
  simp[Jbv,JaD,Tr.fld,Jpe h0 h1 h2]
 ·rw[show JaP (JaD [(a,b)])=[] by rw[Jfm];simp[JaD,Tr.kids,Tr.fld]];intro i hi
  simp at hi
theorem Jth (c:Int):Jad (Jap c)=Jb3 c:=by
 rw[Jfn];unfold JeE
 simp[Jap,Tr.fld]
theorem JvA (l:List (Int × Int)):Jad (JaD l)=Jb5 l:=by
 rw[Jfn];unfold JeE
 simp[JaD,Tr.fld]
end Go.Proofs.YtaaoamkagppodaaGreatDoor
