/- Texts merged by program. No condition. -/
import Derived.Test.YtaaoamkagppodaaGreatDoorK7
import Derived.Test.YtaaoamkagppodaaGreatDoorK5
set_option maxHeartbeats 800000
set_option linter.unusedVariables false
namespace Go.Proofs.YtaaoamkagppodaaGreatDoor
open Go Go.RowKit
def JhC (w:World) (b o:Nat) (xs:List ByteArray):Prop:=∀(j:Nat) x,xs[j]? = some x→w.cell? ⟨b,o+j,none⟩=some (.string x)
def Ja4 (xs:List ByteArray):List UInt8:=(xs.map (·.toList)).flatten
def Jau (l:List UInt8):ByteArray:=⟨l.toArray⟩
theorem Jcx (l:List UInt8):(Jau l).toList=l:=by rw[Lib.toList_data];rfl
theorem Jjd (l:List UInt8):(Jau l).size=l.length:=rfl
theorem Jye (b:ByteArray):Jau b.toList=b:=by
 rw[Lib.toList_data];obtain⟨⟨l⟩⟩:=b;rfl
theorem Jx7 (xs:List ByteArray):xs.map (·.data.toList)=xs.map (·.toList):=List.map_congr_left fun b _=>(Lib.toList_data b).symm
theorem JyS (xs:List (List UInt8)):Lib.join xs []=xs.flatten:=by
 cases xs with
 | nil=>rfl
 | cons x r=>rw[Lib.join_cons];unfold Lib.joinTail;simp
theorem Jmr (bk o c:Nat) (xs:List ByteArray) (sep:ByteArray) (w:World) (h:JhC w bk o xs) (hbk:bk<w.heap.size) (hN:xs.length≤1172812402961) (hcap:xs.length≤c) (hlen:(Lib.join (xs.map (·.toList)) sep.toList).length≤140737488355328) :
  Calls Tryz.prog 41 #[.slice (some ⟨bk,o,none⟩) xs.length c,.string sep] w fun e w'=>e=.returned (.string (Jau (Lib.join (xs.map (·.toList)) sep.toList)))∧Below w.heap.size w w':=by
 rw[←Jx7,Lib.toList_data]at hlen ⊢;exact Tryz.strings_Join bk o c xs sep w h hbk (by omega) hcap hlen
theorem Jlp (bk o c:Nat) (xs:List ByteArray) (w:World) (h:JhC w bk o xs) (hbk:bk<w.heap.size) (hN:xs.length≤1172812402961) (hcap:xs.length≤c) (hlen:(Ja4 xs).length≤140737488355328) :
  Calls Tryz.prog 34 #[.slice (some ⟨bk,o,none⟩) xs.length c] w fun e w'=>e=.returned (.string (Jau (Ja4 xs)))∧Below w.heap.size w w':=by
 have e0:Lib.join (xs.map (·.toList)) (⟨#[]⟩:ByteArray).toList=Ja4 xs:=by rw[show (⟨#[]⟩:ByteArray).toList=[] by kernel_rfl];exact JyS _
 have HJ:=Hd (Jmr bk o c xs ⟨#[]⟩ w h hbk hN hcap (by rw[e0];exact hlen));rw[e0]at HJ;clear h hlen
 generalize xs.length=n at *
 go_enter Tryz.func34,Tryz.ntmps34
 go_wp2_with fail;refine HJ.out.mono ?_;rintro e w' ⟨rfl,hb⟩;go_wp2_with fail;go_ret;exact⟨rfl,hb⟩
theorem Jfz (w:World) (o:Obj):(w.alloc o).heap.size=w.heap.size+1:=Array.size_push _
theorem Jjm (w:World) (xs:List ByteArray) (cs:Array Value) (hc:cs=(xs.map Value.string).toArray) (t:TypeId):JhC (w.alloc (.cells cs t)) w.heap.size 0 xs:=by
 intro j x hx;rw[World.cell?_alloc_at _ _ _ _ rfl,Nat.zero_add,hc]
 simp[hx]
theorem Jf7 (xs:List ByteArray) (w:World) (n:Nat) (cs:Array Value) (hn:xs.length=n) (hc:cs=(xs.map Value.string).toArray) (t:TypeId) (hN:n≤1172812402961) (hlen:(Ja4 xs).length≤140737488355328) :
  Calls Tryz.prog 34 #[.slice (some ⟨w.heap.size,0,none⟩) n n] (w.alloc (.cells cs t)) fun e w'=>e=.returned (.string (Jau (Ja4 xs)))∧Below w.heap.size w w':=by
 subst hn;refine(Jlp w.heap.size 0 xs.length xs _ (Jjm w xs cs hc t) (by rw[Jfz];exact Nat.lt_succ_self _) hN (Nat.le_refl _) hlen).mono fun e w' ⟨he,hb⟩=>⟨he,?_⟩
 exact((Below.refl _ w).alloc (Nat.le_refl _) _).trans (hb.mono (by rw[Jfz];exact Nat.le_succ _))
end Go.Proofs.YtaaoamkagppodaaGreatDoor
