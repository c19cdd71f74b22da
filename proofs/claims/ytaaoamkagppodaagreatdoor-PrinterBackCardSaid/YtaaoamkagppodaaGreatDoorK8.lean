/- Texts merged by program. No condition. -/
import Derived.Test.YtaaoamkagppodaaGreatDoorK5
import Derived.Test.YtaaoamkagppodaaGreatDoorK4
set_option linter.unusedVariables false
namespace Go.Proofs.YtaaoamkagppodaaGreatDoor
open Go Go.RowKit
def gtN:List UInt8→Nat
 | []=>0
 | c::t=>if c.toNat=62 then 0 else gtN t+1
theorem Jn8:∀l:List UInt8,gtN l≤l.length
 | []=>Nat.le_refl _
 | c::t=>by
  unfold gtN;have:=Jn8 t
  split<;>simp<;>omega
def Jca (s:ByteArray) (i:Nat):Nat:=i+gtN (Jaa s i)
theorem JrE (s:ByteArray) (i:Nat) (h:i≤s.size):Jca s i≤s.size:=by
 have:=Jn8 (Jaa s i);rw[Jbm]at this;unfold Jca;omega
def JfT (s:ByteArray) (i:Nat):Option Nat:=if Jat [40,63,80,60] (Jaa s i)=true then some (i+4)else if Jat [40,63,60] (Jaa s i)=true then some (i+3)else none
def JcA (s:ByteArray) (i:Nat):Option (List UInt8 × Nat):=
 match JfT s i with
 | none=>none
 | some f=>if Jca s i<s.size∧f≤Jca s i∧Jbt ((Jaa s f).take (Jca s i-f))=true then some ((Jaa s f).take (Jca s i-f),Jca s i+1)else none
def JnC (s:ByteArray) (i:Nat) (w:World) (e:Ending) (w':World):Prop:=
 Below w.heap.size w w'∧((JcA s i=none∧e=.returned (.tuple #[.string ⟨#[]⟩,.int .i64 0,Jbx 64 i (min ((Jca s i:Int)+1) s.size)]))∨∃n k b,JcA s i=some (n,k)∧b.toList=n∧e=.returned (.tuple #[.string b,.int .i64 (k:Int),Jbx 0 0 0]))
end Go.Proofs.YtaaoamkagppodaaGreatDoor
