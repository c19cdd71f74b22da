/- Texts merged by program: TrRight, SyParts. No condition. -/
import Derived.Test.YtaaoamkagppodaaK7
import Derived.Test.YtaaoamkagppodaaK25
import Derived.Test.YtaaoamkagppodaaK12
set_option linter.unusedVariables false
/- Is a tree right: the document's Right. -/
namespace Go.Proofs.Ytaaoamkagppodaa
open Go Go.RowKit

/-- Groups are numbered in order, and no name stands twice. -/
def CapsFine (g : List Tr) : Prop := ∀ (i : Nat) (h : i < g.length), g[i].fld.cap = (i : Int) + 1 ∧ ∀ (k : Nat) (hk : k < i), ¬ ((g[k]'(by omega)).fld.name.toList = g[i].fld.name.toList ∧ g[i].fld.name.toList ≠ [])
/-- A right tree. -/
def RightT (t : Tr) : Prop := depthR t ≤ 50 ∧ weightR t ≤ 4000 ∧ ShapedP t ∧ CapsFine (groupsT t)
end Go.Proofs.Ytaaoamkagppodaa
/- A right tree has not too many parts. No condition. -/
namespace Go.Proofs.Ytaaoamkagppodaa
open Go Go.RowKit

theorem sum_parts : ∀ (l : List Tr), (∀ k ∈ l, partsR k ≤ weightR k * 1114114) → (l.map partsR).sum ≤ (l.map weightR).sum * 1114114
  | [], _ => Nat.le_refl _
  | k :: l, h => by
    have h1 := h k (by simp)
    have h2 := sum_parts l fun q hq => h q (by simp [hq])
    rw [List.map_cons, List.map_cons, List.sum_cons, List.sum_cons, Nat.add_mul]
    omega
theorem parts_weight (t : Tr) : ShapedP t → weightR t ≤ 4000 → partsR t ≤ weightR t * 1114114 := by
  refine Tr.ind (P := fun t => ShapedP t → weightR t ≤ 4000 → partsR t ≤ weightR t * 1114114) (fun t ih => ?_) t
  intro hs hw
  obtain ⟨hf, hk, -, hkids⟩ := (shapedP_iff t).1 hs
  have hset : t.fld.set.length ≤ 1114112 ∧ (t.fld.op ≠ 4 → t.fld.set.length = 0) := by
    refine ⟨?_, fun h => by rw [hf.2.2.2.1 h]; rfl⟩
    by_cases h : t.fld.op = 4
    · have hr := (hf.2.2.2.2.2.2.2.2.2.1 h).1
      have := right_len t.fld.set 0 (by omega) hr
      omega
    · rw [hf.2.2.2.1 h]
      exact Nat.zero_le _
  have hkid : ∀ k ∈ t.kids, weightR k ≤ (t.kids.map weightR).sum := fun k hk => sum_mem_le (List.mem_map_of_mem hk)
  obtain ⟨S, hS⟩ : ∃ S, (t.kids.map weightR).sum = S := ⟨_, rfl⟩
  have hsum : S ≤ 4000 → (t.kids.map partsR).sum ≤ S * 1114114 := fun h => by
    rw [← hS]
    exact sum_parts _ fun k hk => ih k hk (hkids k hk) (Nat.le_trans (hkid k hk) (by omega))
  have hwe := weightR_eq t
  rw [hS] at hwe
  rw [partsR_eq]
  unfold weightN at hwe
  by_cases h6 : t.fld.op = 6
  · rw [if_pos h6] at hwe
    have h0 := hset.2 (by omega)
    unfold clipR at hwe
    have := hsum (by omega)
    omega
  rw [if_neg h6] at hwe
  by_cases h7 : t.fld.op = 7 ∨ t.fld.op = 8 ∨ t.fld.op = 9 ∨ t.fld.op = 11
  · rw [if_pos h7] at hwe
    have h0 := hset.2 (by omega)
    unfold clipR at hwe
    have := hsum (by omega)
    omega
  rw [if_neg h7] at hwe
  by_cases h10 : t.fld.op = 10
  · rw [if_pos h10] at hwe
    have h0 := hset.2 (by omega)
    obtain ⟨k, hk⟩ : ∃ k, clipR (max (max t.fld.min t.fld.max) 1).toNat = k := ⟨_, rfl⟩
    have hk1 : 1 ≤ k := by
      rw [← hk]
      unfold clipR
      omega
    rw [hk] at hwe
    have hm : clipR S ≤ k * clipR S := Nat.le_mul_of_pos_left _ hk1
    obtain ⟨m, hmm⟩ : ∃ m, k * clipR S = m := ⟨_, rfl⟩
    rw [hmm] at hwe hm
    unfold clipR at hwe hm
    have := hsum (by omega)
    omega
  rw [if_neg h10] at hwe
  by_cases h12 : t.fld.op = 12
  · rw [if_pos h12] at hwe
    have h0 := hset.2 (by omega)
    have h1 := hk.2.1 h12
    unfold clipR at hwe
    have := hsum (by omega)
    omega
  rw [if_neg h12] at hwe
  have h0 : t.kids.length = 0 := by
    have := hk.2.2
    omega
  have h1 : t.kids = [] := List.eq_nil_of_length_eq_zero h0
  rw [h1, hwe]
  have := hset.1
  simp only [List.map_nil, List.sum_nil]
  omega
theorem right_few {t : Tr} (h : RightT t) : partsR t ≤ 10000000000 := by
  have := parts_weight t h.2.2.1 h.2.1
  have := h.2.1
  omega
end Go.Proofs.Ytaaoamkagppodaa
