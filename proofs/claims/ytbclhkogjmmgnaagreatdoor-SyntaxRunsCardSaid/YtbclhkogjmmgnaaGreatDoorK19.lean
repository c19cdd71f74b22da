/- Texts merged by program. No condition. -/
import Derived.Test.YtbclhkogjmmgnaaGreatDoorK16
import Derived.Test.YtbclhkogjmmgnaaGreatDoorK5
import Derived.Test.YtbclhkogjmmgnaaGreatDoorK17
set_option linter.unusedVariables false
namespace Go.Proofs.YtbclhkogjmmgnaaGreatDoor
open Go Go.RowKit
def groupsT : Tr → List Tr := Tr.para fun t l => (if t.fld.op = 6 then [t] else []) ++ l.flatten
theorem groupsT_eq (t : Tr) : groupsT t = (if t.fld.op = 6 then [t] else []) ++ (t.kids.map groupsT).flatten := Tr.para_eq _ t
def CapsFine (g : List Tr) : Prop := ∀ (i : Nat) (h : i < g.length),g[i].fld.cap = (i : Int) + 1 ∧ ∀ (k : Nat) (hk : k < i),¬ ((g[k]'(by omega)).fld.name.toList = g[i].fld.name.toList ∧ g[i].fld.name.toList ≠ [])
def RightT (t : Tr) : Prop := depthR t ≤ 50 ∧ weightR t ≤ 4000 ∧ ShapedP t ∧ CapsFine (groupsT t)
def litsS (l : List ByteArray) : List Value := l.map Value.string
theorem litsS_append (a b : List ByteArray) : litsS (a ++ b) = litsS a ++ litsS b := by simp [litsS]
theorem info_str : (Tryz.prog.info? 9).map (fun i => (i.zero,i.size,i.bytes)) = some (some (.string ⟨#[]⟩),1,16) := by kernel_rfl
theorem own_slice1s {w : World} {base : Nat} {e : TypeId} {n : Nat} {v : Value} {xs : List Value} (h : w.ownsRow base e 1 v n xs) : (v = .slice none 0 0 ∧ n = 0) ∨ ∃ g c,v = .slice (some ⟨g,0,none⟩) n c ∧ n ≤ c ∧ c ≤ maxLen ∧ base ≤ g := by
 rcases h.2 with h | ⟨q,cap,cur,rfl,hb,_,hn,hm,_⟩
 ·exact .inl h
 ·exact .inr ⟨_,_,rfl,hn,hm,hb⟩
def OwnS (w : World) (B : Nat) (v : Value) (l : List ByteArray) : Prop := w.ownsRow B 9 1 v l.length (litsS l)
def Srs (w : World) (v : Value) (l : List ByteArray) : Prop := ∃ a c,v = .slice a l.length c ∧ l.length ≤ c ∧ c ≤ maxLen ∧ (l = [] ∨ ∃ b,a = some ⟨b,0,none⟩ ∧ ∀ i (h : i < l.length),w.cell? ⟨b,i,none⟩ = some (.string l[i]))
theorem OwnS.srs {w : World} {B : Nat} {v : Value} {l : List ByteArray} (h : OwnS w B v l) : Srs w v l := by
 have h' := h
 rcases own_slice1s h with ⟨rfl,hn⟩ | ⟨g,c,rfl,h1,h2,-⟩
 ·exact ⟨none,0,by rw [hn],by omega,Nat.zero_le _,.inl (List.eq_nil_of_length_eq_zero hn)⟩
 ·refine ⟨_,c,rfl,h1,h2,.inr ⟨g,rfl,fun i hi => ?_⟩⟩
  have := World.ownsRow.cells h' (g := g) rfl i (.string l[i]) (by simp [litsS,hi])
  rw [show (⟨g,0,none⟩ : Addr).add i = ⟨g,0 + i,none⟩ by unfold Addr.add;split <;> simp_all,Nat.zero_add] at this
  exact this
theorem sum_parts : ∀ (l : List Tr),(∀ k ∈ l,partsR k ≤ weightR k * 1114114) → (l.map partsR).sum ≤ (l.map weightR).sum * 1114114
 | [],_ => Nat.le_refl _
 | k :: l,h => by
  have h1 := h k (by simp)
  have h2 := sum_parts l fun q hq => h q (by simp [hq])
  rw [List.map_cons,List.map_cons,List.sum_cons,List.sum_cons,Nat.add_mul]
  omega
theorem parts_weight (t : Tr) : ShapedP t → weightR t ≤ 4000 → partsR t ≤ weightR t * 1114114 := by
 refine Tr.ind (P := fun t => ShapedP t → weightR t ≤ 4000 → partsR t ≤ weightR t * 1114114) (fun t ih => ?_) t
 intro hs hw
 obtain ⟨hf,hk,-,hkids⟩ := (shapedP_iff t).1 hs
 have hset : t.fld.set.length ≤ 1114112 ∧ (t.fld.op ≠ 4 → t.fld.set.length = 0) := by
  refine ⟨?_,fun h => by rw [hf.2.2.2.1 h];rfl⟩
  by_cases h : t.fld.op = 4
  ·have hr := (hf.2.2.2.2.2.2.2.2.2.1 h).1
   have := right_len t.fld.set 0 (by omega) hr
   omega
  ·rw [hf.2.2.2.1 h]
   exact Nat.zero_le _
 have hkid : ∀ k ∈ t.kids,weightR k ≤ (t.kids.map weightR).sum := fun k hk => sum_mem_le (List.mem_map_of_mem hk)
 obtain ⟨S,hS⟩ : ∃ S,(t.kids.map weightR).sum = S := ⟨_,rfl⟩
 have hsum : S ≤ 4000 → (t.kids.map partsR).sum ≤ S * 1114114 := fun h => by
  rw [← hS]
  exact sum_parts _ fun k hk => ih k hk (hkids k hk) (Nat.le_trans (hkid k hk) (by omega))
 have hwe := weightR_eq t
 rw [hS] at hwe
 rw [partsR_eq]
 unfold weightN at hwe
 by_cases h6 : t.fld.op = 6
 ·rw [if_pos h6] at hwe
  have h0 := hset.2 (by omega)
  unfold clipR at hwe
  have := hsum (by omega)
  omega
 rw [if_neg h6] at hwe
 by_cases h7 : t.fld.op = 7 ∨ t.fld.op = 8 ∨ t.fld.op = 9 ∨ t.fld.op = 11
 ·rw [if_pos h7] at hwe
  have h0 := hset.2 (by omega)
  unfold clipR at hwe
  have := hsum (by omega)
  omega
 rw [if_neg h7] at hwe
 by_cases h10 : t.fld.op = 10
 ·rw [if_pos h10] at hwe
  have h0 := hset.2 (by omega)
  obtain ⟨k,hk⟩ : ∃ k,clipR (max (max t.fld.min t.fld.max) 1).toNat = k := ⟨_,rfl⟩
  have hk1 : 1 ≤ k := by
   rw [← hk]
   unfold clipR
   omega
  rw [hk] at hwe
  have hm : clipR S ≤ k * clipR S := Nat.le_mul_of_pos_left _ hk1
  obtain ⟨m,hmm⟩ : ∃ m,k * clipR S = m := ⟨_,rfl⟩
  rw [hmm] at hwe hm
  unfold clipR at hwe hm
  have := hsum (by omega)
  omega
 rw [if_neg h10] at hwe
 by_cases h12 : t.fld.op = 12
 ·rw [if_pos h12] at hwe
  have h0 := hset.2 (by omega)
  have h1 := hk.2.1 h12
  unfold clipR at hwe
  have := hsum (by omega)
  omega
 rw [if_neg h12] at hwe
 have h0 : t.kids.length = 0 := by
  have := hk.2.2
  omega
 have h1 : t.kids = [] := List.eq_nil_of_length_eq_zero h0
 rw [h1,hwe]
 have := hset.1
 simp only [List.map_nil,List.sum_nil]
 omega
theorem right_few {t : Tr} (h : RightT t) : partsR t ≤ 10000000000 := by
 have := parts_weight t h.2.2.1 h.2.1
 have := h.2.1
 omega
end Go.Proofs.YtbclhkogjmmgnaaGreatDoor
