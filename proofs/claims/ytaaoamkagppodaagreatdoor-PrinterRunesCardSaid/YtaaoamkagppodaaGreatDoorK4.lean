/- Texts merged by program. No condition. -/
import Derived.Test.YtaaoamkagppodaaGreatDoorK3
import Derived.Deep.DeepCutAuto
set_option linter.unusedVariables false
namespace Go.Proofs.YtaaoamkagppodaaGreatDoor
open Go Go.RowKit
def JeA (c:UInt8):Bool:=(decide (97≤c.toNat)&&decide (c.toNat≤122)) || (decide (65≤c.toNat)&&decide (c.toNat≤90)) || decide (c.toNat=95)
def JeK (c:UInt8):Bool:=decide (48≤c.toNat)&&decide (c.toNat≤57)
def Jci:Nat→List UInt8→Bool
 | _,[]=>true
 | i,c::l=>(JeA c || (decide (0<i)&&JeK c))&&Jci (i+1) l
def Jbt (l:List UInt8):Bool:=decide (1≤l.length)&&decide (l.length≤32)&&Jci 0 l
theorem Jk4:∀(a:List UInt8) (i:Nat) (b:List UInt8),Jci i (a++b)=(Jci i a&&Jci (i+a.length) b)
 | [],i,b=>by simp[Jci]
 | c::a,i,b=>by
  rw[List.cons_append,Jci,Jci,Jk4 a (i+1) b,Bool.and_assoc,List.length_cons,show i+1+a.length=i+(a.length+1) by omega]
theorem Jmf (c:UInt8):JeA c=true↔(97≤c.toNat∧c.toNat≤122)∨(65≤c.toNat∧c.toNat≤90)∨c.toNat=95:=by
 unfold JeA;simp only[Bool.or_eq_true,Bool.and_eq_true,decide_eq_true_eq,or_assoc]
theorem JkZ (c:UInt8):JeK c=true↔48≤c.toNat∧c.toNat≤57:=by
 unfold JeK;simp only[Bool.and_eq_true,decide_eq_true_eq]
theorem Jre (l:List UInt8) (c:UInt8):Jci 0 (l++[c])=(Jci 0 l&&(JeA c || (decide (0<l.length)&&JeK c))):=by
 rw[Jk4]
 simp[Jci]
theorem JnO {l:List UInt8} {k:Nat} (h:Jci 0 l=true):Jci 0 (l.take k)=true:=by
 rw[←List.take_append_drop k l,Jk4,Bool.and_eq_true]at h;exact h.1
theorem Jo1 (s:ByteArray) (k:Nat) (h:k<s.size):s.toList.take (k+1)=s.toList.take k++[s[k]]:=by
 rw[ByteArray.toList_eq,List.take_succ_eq_append_getElem (by simpa using h)];rfl
def JmM (P:Prop) (w:World) (e:Ending) (w':World):Prop:=∃B:Bool,e=.returned (.bool B)∧(B=true↔P)∧w'=w
def Jbv (f:Fld):Prop:=
 1≤f.op∧f.op≤12∧(f.op≠3→f.rune=0)∧(f.op≠4→f.set=[])∧(f.op≠5→f.at'=0)∧(f.op≠6→f.cap=0∧f.name.toList=[])∧(f.op≠10→f.min=0∧f.max=0)∧(f.lazy=true→7≤f.op∧f.op≤10) ∧
  (f.op=3→0≤f.rune∧f.rune≤1114111)∧(f.op=4→Jak f.set∧f.set≠[])∧(f.op=5→f.at'=1∨f.at'=2∨f.at'=4∨f.at'=8∨f.at'=16∨f.at'=32) ∧
  (f.op=6→f.name.toList=[]∨Jbt f.name.toList=true)∧(f.op=10→(0≤f.min∧f.min≤1000)∧(f.max = -1∨(f.min≤f.max∧f.max≤1000)))
def JbK (op:Int) (n:Nat):Prop:=
 (op=6∨op=7∨op=8∨op=9∨op=10→n=1)∧(op=12→1≤n)∧(op=6∨op=7∨op=8∨op=9∨op=10∨op=11∨op=12∨n=0)
def Jay:Tr→Prop:=Tr.para fun t l=>Jbv t.fld∧JbK t.fld.op t.kids.length∧¬(t.fld.op=6∧t.fld.cap<1)∧∀p∈l,p
theorem Jbl (t:Tr):Jay t↔Jbv t.fld∧JbK t.fld.op t.kids.length∧¬(t.fld.op=6∧t.fld.cap<1)∧∀k∈t.kids,Jay k:=by
 unfold Jay;rw[Tr.para_eq];simp only[List.mem_map,forall_exists_index,and_imp,forall_apply_eq_imp_iff₂]
def Jc4 (P:Prop) (w:World) (e:Ending) (w':World):Prop:=∃B:Bool,e=.returned (.bool B)∧(B=true↔P)∧Below w.heap.size w w'
end Go.Proofs.YtaaoamkagppodaaGreatDoor
