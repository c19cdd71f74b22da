/- What the document says of trees, as plain functions. No condition. -/
import Derived.Test.YthapafaeakgfpaaTr
set_option linter.unusedVariables false
namespace Go.Proofs.Ythapafaeakgfpaa
open Go Go.RowKit

/-- Recursion over a tree: what f makes of it and of what it made of the Kids. -/
def Tr.para {α : Type} (f : Tr → List α → α) (t : Tr) : α := f t (t.kids.attach.map fun k => Tr.para f k.1)
termination_by SizeOf.sizeOf t
decreasing_by exact Tr.lt k.2
theorem Tr.para_eq {α : Type} (f : Tr → List α → α) (t : Tr) : t.para f = f t (t.kids.map (Tr.para f)) := by
  rw [Tr.para]
  congr 1
  exact List.attach_map_val

/-- How many parts a tree has: nodes, and ranges. -/
def partsR : Tr → Nat := Tr.para fun t l => 1 + t.fld.set.length + l.sum
theorem partsR_eq (t : Tr) : partsR t = 1 + t.fld.set.length + (t.kids.map partsR).sum := Tr.para_eq _ t
theorem sum_mem_le : ∀ {l : List Nat} {x : Nat}, x ∈ l → x ≤ l.sum
  | y :: l, x, h => by
    rcases List.mem_cons.1 h with rfl | h
    · simp
    · have := sum_mem_le h
      simp
      omega
theorem partsR_kid {t k : Tr} (h : k ∈ t.kids) : partsR k < partsR t := by
  rw [partsR_eq t]
  have := sum_mem_le (List.mem_map_of_mem (f := partsR) h)
  omega
theorem partsR_pos (t : Tr) : 1 ≤ partsR t := by rw [partsR_eq]; omega
theorem length_le_sum (l : List Tr) : l.length ≤ (l.map partsR).sum := by
  induction l with
  | nil => simp
  | cons k l ih =>
    have := partsR_pos k
    simp
    omega
theorem partsR_kids (t : Tr) : t.kids.length < partsR t := by
  have := length_le_sum t.kids
  rw [partsR_eq]
  omega
def maxL : List Nat → Nat
  | [] => 0
  | x :: l => max x (maxL l)
theorem maxL_append (a b : List Nat) : maxL (a ++ b) = max (maxL a) (maxL b) := by
  induction a with
  | nil => simp [maxL]
  | cons x a ih => rw [List.cons_append, maxL, maxL, ih, Nat.max_assoc]
/-- How deep a tree is. -/
def depthR : Tr → Nat := Tr.para fun _ l => maxL l + 1
theorem depthR_eq (t : Tr) : depthR t = maxL (t.kids.map depthR) + 1 := Tr.para_eq _ t
theorem maxL_le {l : List Nat} {n : Nat} (h : ∀ x ∈ l, x ≤ n) : maxL l ≤ n := by
  induction l with
  | nil => simp [maxL]
  | cons x l ih =>
    rw [maxL]
    have h1 := h x (by simp)
    have h2 := ih fun y hy => h y (by simp [hy])
    omega
theorem depthR_parts (t : Tr) : depthR t ≤ partsR t := by
  refine Tr.ind (P := fun t => depthR t ≤ partsR t) (fun t ih => ?_) t
  rw [depthR_eq]
  have := partsR_pos t
  have hm : maxL (t.kids.map depthR) ≤ partsR t - 1 := maxL_le fun x hx => by
    obtain ⟨k, hk, rfl⟩ := List.mem_map.1 hx
    have h1 := ih k hk
    have h2 := partsR_kid hk
    omega
  omega
/-- At most 4001. -/
def clipR (n : Nat) : Nat := min n 4001
/-- How heavy a tree is. -/
def weightN (f : Fld) (m n : Nat) : Nat :=
  if f.op = 6 then clipR (2 + n) else if f.op = 7 ∨ f.op = 8 ∨ f.op = 9 ∨ f.op = 11 then clipR (1 + n) else
  if f.op = 10 then clipR ((clipR (max (max f.min f.max) 1).toNat) * n + clipR (max (max f.min f.max) 1).toNat + 1) else if f.op = 12 then clipR (n + clipR m) else 1
def weightR : Tr → Nat := Tr.para fun t l => weightN t.fld t.kids.length (clipR l.sum)
theorem weightR_eq (t : Tr) : weightR t = weightN t.fld t.kids.length (clipR (t.kids.map weightR).sum) := Tr.para_eq _ t
theorem clipR_add (a b : Nat) : clipR (clipR a + b) = clipR (a + b) := by unfold clipR; omega
theorem weightN_le (f : Fld) (m n : Nat) : weightN f m n ≤ 4001 := by
  unfold weightN clipR
  split
  · omega
  · split
    · omega
    · split
      · exact Nat.min_le_right _ _
      · split <;> omega
theorem weightR_le (t : Tr) : weightR t ≤ 4001 := by rw [weightR_eq]; exact weightN_le _ _ _
end Go.Proofs.Ythapafaeakgfpaa
