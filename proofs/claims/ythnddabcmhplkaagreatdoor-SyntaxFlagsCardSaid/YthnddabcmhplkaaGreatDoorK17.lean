/- Texts merged by program. No condition. -/
import Derived.Test.YthnddabcmhplkaaGreatDoorK15
import Derived.Test.YthnddabcmhplkaaGreatDoorK5
import Derived.Laws.Cover1
set_option linter.unusedVariables false
namespace Go.Proofs.YthnddabcmhplkaaGreatDoor
open Go Go.RowKit
def groupsT : Tr → List Tr := Tr.para fun t l => (if t.fld.op = 6 then [t] else []) ++ l.flatten
theorem groupsT_eq (t : Tr) : groupsT t = (if t.fld.op = 6 then [t] else []) ++ (t.kids.map groupsT).flatten := Tr.para_eq _ t
def CapsFine (g : List Tr) : Prop := ∀ (i : Nat) (h : i < g.length),g[i].fld.cap = (i : Int) + 1 ∧ ∀ (k : Nat) (hk : k < i),¬ ((g[k]'(by omega)).fld.name.toList = g[i].fld.name.toList ∧ g[i].fld.name.toList ≠ [])
def RightT (t : Tr) : Prop := depthR t ≤ 50 ∧ weightR t ≤ 4000 ∧ ShapedP t ∧ CapsFine (groupsT t)
def litsS (l : List ByteArray) : List Value := l.map Value.string
theorem litsS_append (a b : List ByteArray) : litsS (a ++ b) = litsS a ++ litsS b := by simp [litsS]
theorem info_str : (Tryz.prog.info? 9).map (fun i => (i.zero,i.size,i.bytes)) = some (some (.string ⟨#[]⟩),1,16) := by kernel_rfl
theorem own_slice1s {w : World} {base : Nat} {e : TypeId} {n : Nat} {v : Value} {xs : List Value} (h : w.ownsRow base e 1 v n xs) : (v = .slice none 0 0 ∧ n = 0) ∨ ∃ g c,v = .slice (some ⟨g,0,none⟩) n c ∧ n ≤ c ∧ c ≤ maxLen ∧ base ≤ g := by
 rcases h.2 with h | ⟨q,cap,cur,rfl,hb,_,hn,hm,_⟩
 ·exact .inl h
 ·exact .inr ⟨_,_,rfl,hn,hm,hb⟩
def OwnS (w : World) (B : Nat) (v : Value) (l : List ByteArray) : Prop := w.ownsRow B 9 1 v l.length (litsS l)
def Srs (w : World) (v : Value) (l : List ByteArray) : Prop := ∃ a c,v = .slice a l.length c ∧ l.length ≤ c ∧ c ≤ maxLen ∧ (l = [] ∨ ∃ b,a = some ⟨b,0,none⟩ ∧ ∀ i (h : i < l.length),w.cell? ⟨b,i,none⟩ = some (.string l[i]))
theorem OwnS.srs {w : World} {B : Nat} {v : Value} {l : List ByteArray} (h : OwnS w B v l) : Srs w v l := by
 have h' := h
 rcases own_slice1s h with ⟨rfl,hn⟩ | ⟨g,c,rfl,h1,h2,-⟩
 ·exact ⟨none,0,by rw [hn],by omega,Nat.zero_le _,.inl (List.eq_nil_of_length_eq_zero hn)⟩
 ·refine ⟨_,c,rfl,h1,h2,.inr ⟨g,rfl,fun i hi => ?_⟩⟩
  have := World.ownsRow.cells h' (g := g) rfl i (.string l[i]) (by simp [litsS,hi])
  rw [show (⟨g,0,none⟩ : Addr).add i = ⟨g,0 + i,none⟩ by unfold Addr.add;split <;> simp_all,Nat.zero_add] at this
  exact this
end Go.Proofs.YthnddabcmhplkaaGreatDoor
