/- Texts merged by program. No condition. -/
import Derived.Test.YtaaoamkagppodaaGreatDoorK3
import Derived.Lib.Strings
set_option linter.unusedVariables false
namespace Go.Proofs.YtaaoamkagppodaaGreatDoor
open Go Go.RowKit
theorem JbW (n:Int) (h : -9223372036854775808≤n∧n≤9223372036854775807):IntKind.i64.wrap n=n:=(IntWalk.i64_left n).trans (IntWalk.wrap64_in n h)
def Jaa (s:ByteArray) (i:Nat):List UInt8:=s.toList.drop i
theorem JeM (s:ByteArray) (i:Nat) (h:i<s.size):Jaa s i=s[i]::Jaa s (i+1):=by
 unfold Jaa;have hl:i<s.toList.length:=by rw[Lib.toList_data,←Lib.size_eq];exact h
 rw[List.drop_eq_getElem_cons hl]
 congr 1
 rw[show s[i]=s.data[i]'h from rfl]
 simp[Lib.toList_data]
theorem Jgw (s:ByteArray) (i:Nat) (h:s.size≤i):Jaa s i=[]:=by
 unfold Jaa;exact List.drop_eq_nil_of_le (by rw[Lib.toList_data,←Lib.size_eq];exact h)
theorem JdC (s:ByteArray) (i k:Nat):(Jaa s i).drop k=Jaa s (i+k):=by
 unfold Jaa;rw[List.drop_drop]
theorem Jbm (s:ByteArray) (i:Nat):(Jaa s i).length=s.size-i:=by
 unfold Jaa;rw[List.length_drop,Lib.toList_data,←Lib.size_eq]
def Jac:List UInt8→Int
 | [] => -1
 | c::_=>c.toNat
theorem Jdo (s:ByteArray) (i:Nat) (h:i<s.size):Jac (Jaa s i)=(s[i].toNat:Int):=by rw[JeM s i h];rfl
theorem Jil (s:ByteArray) (i:Nat) (h:s.size≤i):Jac (Jaa s i) = -1:=by rw[Jgw s i h];rfl
theorem Jbo {s:ByteArray} {i:Nat} (h:0≤Jac (Jaa s i)):i<s.size:=by
 refine Nat.lt_of_not_le fun hn=>?_
 rw[Jil s i hn]at h;omega
theorem JfR {a b:Int} (h:a=b):(a==b)=true:=by simpa using h
theorem Jbp {a b:Int} (h:¬a=b):(a==b)=false:=by simpa using h
theorem Jq8 {a b:Int} (h:a=b):(a != b)=false:=by rw[bne,JfR h];rfl
theorem Jh9 {a b:Int} (h:¬a=b):(a != b)=true:=by rw[bne,Jbp h];rfl
def Jfq (c:UInt8):Bool:=decide (48≤c.toNat)&&decide (c.toNat≤57)
theorem Jiv (c:UInt8):Jfq c=true↔48≤c.toNat∧c.toNat≤57:=by unfold Jfq;rw[Bool.and_eq_true,decide_eq_true_iff,decide_eq_true_iff]
def JaF:List UInt8→Int→Int × Nat
 | [],n=>(n,0)
 | c::t,n=>if Jfq c then ((JaF t (min (10*n+((c.toNat:Int)-48)) 1001)).1,(JaF t (min (10*n+((c.toNat:Int)-48)) 1001)).2+1)else (n,0)
theorem Jlr:∀(l:List UInt8) (n:Int),(JaF l n).2≤l.length
 | [],n=>Nat.le_refl _
 | c::t,n=>by
  unfold JaF
  split
  ·have:=Jlr t (min (10*n+((c.toNat:Int)-48)) 1001);simp only[List.length_cons];omega
  ·exact Nat.zero_le _
theorem Jf9 {fn:Func} {t u v x:Tmp} (h:fn.results=#[.tmp t,.tmp u,.tmp v,.tmp x]) (tmps:Array Value) (P:Program) (w:World) :
  (results fn tmps).run P w=.ok (.tuple #[tmps.getD t undef,tmps.getD u undef,tmps.getD v undef,tmps.getD x undef]) w:=by
 simp[results,h]
def Jbq (c:Int):Int:=if 48≤c∧c≤57 then c-48 else if 97≤c∧c≤102 then c-87 else if 65≤c∧c≤70 then c-55 else -1
theorem Jgn (c:Int):Jbq c≤15:=by unfold Jbq;repeat' split;all_goals omega
def JbS (c:Int):Bool:=(decide (33≤c)&&decide (c≤47)) || (decide (58≤c)&&decide (c≤64)) || (decide (91≤c)&&decide (c≤96)) || (decide (123≤c)&&decide (c≤126))
def Jfx (c:Int):Int:=if c=97 then 7 else if c=102 then 12 else if c=110 then 10 else if c=114 then 13 else if c=116 then 9 else if c=118 then 11 else -1
def JeY (c:Int):Int:=if c=65 then 1 else if c=122 then 2 else if c=98 then 16 else if c=66 then 32 else 0
def JcK:List UInt8→Nat
 | []=>0
 | c::t=>if (97≤c.toNat∧c.toNat≤122)∨c.toNat=94 then JcK t+1 else 0
theorem JlC:∀l:List UInt8,JcK l≤l.length
 | []=>Nat.le_refl _
 | c::t=>by
  unfold JcK;have:=JlC t
  split<;>simp<;>omega
def Jdr (s:ByteArray) (i:Nat):Option Nat:=
 if ¬(Jac (Jaa s i)=91∧Jac (Jaa s (i+1))=58)then none else
 if Jac (Jaa s (i+2+JcK (Jaa s (i+2))))=58∧Jac (Jaa s (i+2+JcK (Jaa s (i+2))+1))=93 then some (i+2+JcK (Jaa s (i+2)))else none
theorem JkE {s:ByteArray} {i k:Nat} (h:Jdr s i=some k):i+2≤k∧k+2≤s.size:=by
 unfold Jdr at h
 split at h
 ·cases h
 ·split at h
  ·rename_i h2
   have:=Jbo (s:=s) (i:=i+2+JcK (Jaa s (i+2))+1) (by omega)
   cases h
   omega
  ·cases h
def Jbx (e a b:Int):Value:=.agg #[.int .i64 e,.int .i64 a,.int .i64 b]
def Jaw (w:World) (b:Nat) (x0 x1 x2:Value):World:=((w.setCell ⟨b,0,none⟩ x0).setCell ⟨b,1,none⟩ x1).setCell ⟨b,2,none⟩ x2
theorem JaL {w:World} {b:Nat} {t:TypeId} {y0 y1 y2:Value} (h:Whole w b t #[y0,y1,y2]) (x0 x1 x2:Value):Whole (Jaw w b x0 x1 x2) b t #[x0,x1,x2]:=by
 have h10:=((h.store 0 x0).store 1 x1).store 2 x2;simp only[List.setIfInBounds_toArray,List.set_cons_zero,List.set_cons_succ]at h10;exact h10
theorem Jcv {w:World} {b k:Nat} (hk:k≠b) (x0 x1 x2:Value):(Jaw w b x0 x1 x2).heap[k]? = w.heap[k]? := by
 unfold Jaw;have h:∀(W:World) (j:Nat) (u:Value),(W.setCell ⟨b,j,none⟩ u).heap[k]? = W.heap[k]? := fun W j u=>Below.heap_setCell W _ u k hk
 simp only[h]
theorem JaH {B b:Nat} {w0 w:World} (h:Below B w0 w) (hb:B≤b) (x0 x1 x2:Value):Below B w0 (Jaw w b x0 x1 x2):=
 ((h.setCell (p:=⟨b,0,none⟩) hb x0).setCell (p:=⟨b,1,none⟩) hb x1).setCell (p:=⟨b,2,none⟩) hb x2
theorem JcX (w:World) (b:Nat) (x0 x1 x2:Value):(Jaw w b x0 x1 x2).heap.size=w.heap.size:=by
 unfold Jaw
 simp[World.setCell]
def JaK (w:World) (b:Nat) (x0 x1 x2 x3:Value):World:=(((w.setCell ⟨b,0,none⟩ x0).setCell ⟨b,1,none⟩ x1).setCell ⟨b,2,none⟩ x2).setCell ⟨b,3,none⟩ x3
theorem Jbn {w:World} {b:Nat} {t:TypeId} {y0 y1 y2 y3:Value} (h:Whole w b t #[y0,y1,y2,y3]) (x0 x1 x2 x3:Value):Whole (JaK w b x0 x1 x2 x3) b t #[x0,x1,x2,x3]:=by
 have h10:=(((h.store 0 x0).store 1 x1).store 2 x2).store 3 x3;simp only[List.setIfInBounds_toArray,List.set_cons_zero,List.set_cons_succ]at h10;exact h10
theorem Jcn {w:World} {b k:Nat} (hk:k≠b) (x0 x1 x2 x3:Value):(JaK w b x0 x1 x2 x3).heap[k]? = w.heap[k]? := by
 unfold JaK;have h:∀(W:World) (j:Nat) (u:Value),(W.setCell ⟨b,j,none⟩ u).heap[k]? = W.heap[k]? := fun W j u=>Below.heap_setCell W _ u k hk
 simp only[h]
theorem Ja9 {B b:Nat} {w0 w:World} (h:Below B w0 w) (hb:B≤b) (x0 x1 x2 x3:Value):Below B w0 (JaK w b x0 x1 x2 x3):=
 (((h.setCell (p:=⟨b,0,none⟩) hb x0).setCell (p:=⟨b,1,none⟩) hb x1).setCell (p:=⟨b,2,none⟩) hb x2).setCell (p:=⟨b,3,none⟩) hb x3
theorem Jew (w:World) (b:Nat) (x0 x1 x2 x3:Value):(JaK w b x0 x1 x2 x3).heap.size=w.heap.size:=by
 unfold JaK
 simp[World.setCell]
def Jrn (W:World) (b:Nat) (x0 x1 x2:Value):Prop:=W.cell? ⟨b,0,none⟩=some x0∧W.cell? ⟨b,1,none⟩=some x1∧W.cell? ⟨b,2,none⟩=some x2∧W.frozen? ⟨b,0,none⟩=false∧W.frozen? ⟨b,1,none⟩=false∧W.frozen? ⟨b,2,none⟩=false
theorem Whole.three {W:World} {b:Nat} {t:TypeId} {x0 x1 x2:Value} (h:Whole W b t #[x0,x1,x2]):Jrn W b x0 x1 x2:=⟨h.cell 0,h.cell 1,h.cell 2,h.free 0,h.free 1,h.free 2⟩
def JsX (W:World) (b:Nat) (x0 x1 x2 x3:Value):Prop:=W.cell? ⟨b,0,none⟩=some x0∧W.cell? ⟨b,1,none⟩=some x1∧W.cell? ⟨b,2,none⟩=some x2∧W.cell? ⟨b,3,none⟩=some x3∧W.frozen? ⟨b,0,none⟩=false∧W.frozen? ⟨b,1,none⟩=false∧W.frozen? ⟨b,2,none⟩=false∧W.frozen? ⟨b,3,none⟩=false
theorem Whole.four {W:World} {b:Nat} {t:TypeId} {x0 x1 x2 x3:Value} (h:Whole W b t #[x0,x1,x2,x3]):JsX W b x0 x1 x2 x3:=⟨h.cell 0,h.cell 1,h.cell 2,h.cell 3,h.free 0,h.free 1,h.free 2,h.free 3⟩
theorem Jkc {w:World} {b:Nat} {cs:Array Value} (h:Whole w b 32 cs) (hn:cs.size=3):(loadVar 32 ⟨b,0,none⟩).run Tryz.prog w=.ok (.agg cs) w:=
 run_loadVar_row w b _ _ cs (0,0) _ h Tryz.underlying32 rfl (by rw[hn];kernel_rfl)
theorem Jll {w:World} {b:Nat} {cs:Array Value} (h:Whole w b 155 cs) (hn:cs.size=4):(loadVar 155 ⟨b,0,none⟩).run Tryz.prog w=.ok (.agg cs) w:=
 run_loadVar_row w b _ _ cs (0,0) _ h Tryz.underlying155 rfl (by rw[hn];kernel_rfl)
theorem Jd6 {fn:Func} {p q r:Tmp} (h:fn.results=#[.tmp p,.tmp q,.cell r 32]) (tmps:Array Value) {w:World} {b:Nat} {cs:Array Value} (hp:tmps.getD r undef=.pointer (some ⟨b,0,none⟩)) (hW:Whole w b 32 cs) (hn:cs.size=3) :
  (results fn tmps).run Tryz.prog w=.ok (.tuple #[tmps.getD p undef,tmps.getD q undef,.agg cs]) w:=by
 have hp':tmps[r]?.getD undef=.pointer (some ⟨b,0,none⟩):=by simpa using hp
 simp[results,h,hp',asAddr,Jkc hW hn]
theorem JfP {fn:Func} {p q u r:Tmp} (h:fn.results=#[.tmp p,.tmp q,.tmp u,.cell r 32]) (tmps:Array Value) {w:World} {b:Nat} {cs:Array Value} (hp:tmps.getD r undef=.pointer (some ⟨b,0,none⟩)) (hW:Whole w b 32 cs) (hn:cs.size=3) :
  (results fn tmps).run Tryz.prog w=.ok (.tuple #[tmps.getD p undef,tmps.getD q undef,tmps.getD u undef,.agg cs]) w:=by
 have hp':tmps[r]?.getD undef=.pointer (some ⟨b,0,none⟩):=by simpa using hp
 simp[results,h,hp',asAddr,Jkc hW hn]
theorem JeX {fn:Func} {p q r:Tmp} (h:fn.results=#[.cell p 155,.tmp q,.cell r 32]) (tmps:Array Value) {w:World} {a b:Nat} {es cs:Array Value} (ha:tmps.getD p undef=.pointer (some ⟨a,0,none⟩)) (hE:Whole w a 155 es) (he:es.size=4) (hp:tmps.getD r undef=.pointer (some ⟨b,0,none⟩)) (hW:Whole w b 32 cs) (hn:cs.size=3) :
  (results fn tmps).run Tryz.prog w=.ok (.tuple #[.agg es,tmps.getD q undef,.agg cs]) w:=by
 have ha':tmps[p]?.getD undef=.pointer (some ⟨a,0,none⟩):=by simpa using ha
 have hp':tmps[r]?.getD undef=.pointer (some ⟨b,0,none⟩):=by simpa using hp
 simp[results,h,ha',hp',asAddr,Jkc hW hn,Jll hE he]
def Jep (s:ByteArray) (i:Nat):Option (Int × Int × Nat):=
 if ¬Jac (Jaa s i)=123 then none else
 if (JaF (Jaa s (i+1)) 0).2=0 then none else
 if Jac (Jaa s (i+1+(JaF (Jaa s (i+1)) 0).2))=125 then some ((JaF (Jaa s (i+1)) 0).1,(JaF (Jaa s (i+1)) 0).1,i+1+(JaF (Jaa s (i+1)) 0).2+1) else
 if ¬Jac (Jaa s (i+1+(JaF (Jaa s (i+1)) 0).2))=44 then none else
 if Jac (Jaa s (i+1+(JaF (Jaa s (i+1)) 0).2+1))=125 then some ((JaF (Jaa s (i+1)) 0).1,-1,i+1+(JaF (Jaa s (i+1)) 0).2+2) else
 if (JaF (Jaa s (i+1+(JaF (Jaa s (i+1)) 0).2+1)) 0).2=0 then none else
 if Jac (Jaa s (i+1+(JaF (Jaa s (i+1)) 0).2+1+(JaF (Jaa s (i+1+(JaF (Jaa s (i+1)) 0).2+1)) 0).2))=125 then some ((JaF (Jaa s (i+1)) 0).1,(JaF (Jaa s (i+1+(JaF (Jaa s (i+1)) 0).2+1)) 0).1,i+1+(JaF (Jaa s (i+1)) 0).2+1+(JaF (Jaa s (i+1+(JaF (Jaa s (i+1)) 0).2+1)) 0).2+1)else none
theorem Jh7 {s:ByteArray} {i j m:Nat} {a b:Int} {k l:Nat} (h0:Jac (Jaa s i)=123) (h1:JaF (Jaa s (i+1)) 0=(a,k)) (hj:i+1+k=j) (h2:JaF (Jaa s (j+1)) 0=(b,l)) (hm:j+1+l=m) :
  Jep s i=if k=0 then none else if Jac (Jaa s j)=125 then some (a,a,j+1)else if ¬Jac (Jaa s j)=44 then none else if Jac (Jaa s (j+1))=125 then some (a,-1,j+2)else if l=0 then none else if Jac (Jaa s m)=125 then some (a,b,m+1)else none:=by
 unfold Jep;rw[if_neg (by omega),h1];simp only[hj,h2,hm]
def JlD (o:Option (Int × Int × Nat)) (w:World) (e:Ending) (w':World):Prop:=
 Below w.heap.size w w'∧((o=none∧e=.returned (.tuple #[.int .i64 0,.int .i64 0,.int .i64 0,.bool false]))∨∃a b k,o=some (a,b,k)∧e=.returned (.tuple #[.int .i64 a,.int .i64 b,.int .i64 (k:Int),.bool true]))
def Jat (a l:List UInt8):Bool:=l.take a.length==a
def JaZ (c:Int):Int:=if c=105 then 1 else if c=109 then 4 else if c=115 then 8 else if c=85 then 16 else 0
end Go.Proofs.YtaaoamkagppodaaGreatDoor
