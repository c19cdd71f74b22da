/- Which trees are right, by their parts in order; what names were met, as a map reads. No condition. -/
import Derived.Test.YthapafaeakgfpaaPShaped
import Derived.Test.YthapafaeakgfpaaTrRight
import Derived.Maps.OwnIn
import Derived.Maps.Views
set_option linter.unusedVariables false
namespace Go.Proofs.Ythapafaeakgfpaa
open Go Go.RowKit

/-- The groups among parts. -/
def capsOf (L : List (Tr × Nat)) : List Tr := (L.filter fun q => decide (q.1.fld.op = 6)).map (·.1)
theorem capsOf_append (a b : List (Tr × Nat)) : capsOf (a ++ b) = capsOf a ++ capsOf b := by simp [capsOf]
theorem capsOf_parts (t : Tr) : ∀ d, capsOf (partsT t d) = groupsT t := by
  refine Tr.ind (P := fun t => ∀ d, capsOf (partsT t d) = groupsT t) (fun t ih d => ?_) t
  rw [partsT_eq, groupsT_eq]
  have h : ∀ (l : List Tr), (∀ k ∈ l, ∀ d, capsOf (partsT k d) = groupsT k) → capsOf ((l.map fun k => partsT k (d + 1)).flatten) = (l.map groupsT).flatten := fun l => by
    induction l with
    | nil => intro _; rfl
    | cons k l ihl =>
      intro hl
      rw [List.map_cons, List.flatten_cons, capsOf_append, List.map_cons, List.flatten_cons, hl k (by simp), ihl fun q hq => hl q (by simp [hq])]
  rw [show ((t, d) :: (t.kids.map fun k => partsT k (d + 1)).flatten) = [(t, d)] ++ (t.kids.map fun k => partsT k (d + 1)).flatten from rfl, capsOf_append, h t.kids ih]
  congr 1
  by_cases h6 : t.fld.op = 6 <;> simp [capsOf, h6]
/-- Are parts, in order, right? -/
def GoodP (L : List (Tr × Nat)) : Prop := (∀ q ∈ L, q.2 ≤ 50 ∧ SoundF q.1.fld q.1.kids.length) ∧ CapsFine (capsOf L)
theorem capsFine_pre {a b : List Tr} (h : CapsFine (a ++ b)) : CapsFine a := fun i hi => by
  have h1 := h i (by simp; omega)
  rw [List.getElem_append_left hi] at h1
  refine ⟨h1.1, fun k hk => ?_⟩
  have h2 := h1.2 k hk
  rw [List.getElem_append_left (by omega)] at h2
  exact h2
theorem goodP_pre {a b : List (Tr × Nat)} (h : GoodP (a ++ b)) : GoodP a := ⟨fun q hq => h.1 q (List.mem_append.2 (.inl hq)), capsFine_pre (by rw [← capsOf_append]; exact h.2)⟩
theorem goodP_prefix {a b : List (Tr × Nat)} (h : GoodP b) (hp : a <+: b) : GoodP a := by obtain ⟨c, rfl⟩ := hp; exact goodP_pre h
theorem capsFine_snoc {g : List Tr} {x : Tr} : CapsFine (g ++ [x]) ↔ CapsFine g ∧ x.fld.cap = (g.length : Int) + 1 ∧ ¬ (x.fld.name.toList ∈ g.map (fun q => q.fld.name.toList) ∧ x.fld.name.toList ≠ []) := by
  constructor
  · intro h
    refine ⟨capsFine_pre h, ?_⟩
    have h1 := h g.length (by simp)
    rw [List.getElem_append_right (Nat.le_refl _)] at h1
    simp only [Nat.sub_self, List.getElem_cons_zero] at h1
    refine ⟨h1.1, fun ⟨hm, hne⟩ => ?_⟩
    obtain ⟨q, hq, he⟩ := List.mem_map.1 hm
    obtain ⟨k, hk, rfl⟩ := List.mem_iff_getElem.1 hq
    have h2 := h1.2 k hk
    rw [List.getElem_append_left hk] at h2
    exact h2 ⟨he, hne⟩
  · rintro ⟨h1, h2, h3⟩ i hi
    by_cases hig : i < g.length
    · have h4 := h1 i hig
      rw [List.getElem_append_left hig]
      refine ⟨h4.1, fun k hk => ?_⟩
      rw [List.getElem_append_left (by omega)]
      exact h4.2 k hk
    · have hie : i = g.length := by simp at hi; omega
      subst hie
      rw [List.getElem_append_right (Nat.le_refl _)]
      simp only [Nat.sub_self, List.getElem_cons_zero]
      refine ⟨h2, fun k hk hh => h3 ⟨?_, hh.2⟩⟩
      rw [List.getElem_append_left hk] at hh
      exact List.mem_map.2 ⟨g[k], List.getElem_mem hk, hh.1⟩
theorem depth_iff (t : Tr) : depthR t ≤ 50 ↔ ∀ q ∈ partsT t 1, q.2 ≤ 50 := by
  have h : maxL ((partsT t 1).map Prod.snd) + 1 = 1 + depthR t := maxL_depths t 1
  constructor
  · intro hd q hq
    have h1 : ∀ (l : List Nat) (x : Nat), x ∈ l → x ≤ maxL l := fun l => by
      induction l with
      | nil => simp
      | cons y l ih =>
        intro x hx
        rw [maxL]
        rcases List.mem_cons.1 hx with rfl | hx
        · omega
        · have := ih x hx; omega
    have := h1 ((partsT t 1).map Prod.snd) q.2 (List.mem_map.2 ⟨q, hq, rfl⟩)
    omega
  · intro hq
    have : maxL ((partsT t 1).map Prod.snd) ≤ 50 := maxL_le fun x hx => by
      obtain ⟨q, hm, rfl⟩ := List.mem_map.1 hx
      exact hq q hm
    omega
theorem right_parts (t : Tr) : RightT t ↔ weightR t ≤ 4000 ∧ GoodP (partsT t 1) := by
  unfold RightT GoodP
  rw [depth_iff t, shaped_parts t 1, capsOf_parts t 1]
  constructor
  · rintro ⟨h1, h2, h3, h4⟩
    exact ⟨h2, fun q hq => ⟨h1 q hq, h3 q hq⟩, h4⟩
  · rintro ⟨h2, h1, h4⟩
    exact ⟨fun q hq => (h1 q hq).1, h2, fun q hq => (h1 q hq).2, h4⟩

/-- The names of groups that have one. -/
def namesOf (L : List (Tr × Nat)) : List (List UInt8) := ((capsOf L).map fun g => g.fld.name.toList).filter fun l => !l.isEmpty
theorem namesOf_append (a b : List (Tr × Nat)) : namesOf (a ++ b) = namesOf a ++ namesOf b := by simp [namesOf, capsOf_append]
theorem mem_namesOf {L : List (Tr × Nat)} {l : List UInt8} : l ∈ namesOf L ↔ l ∈ (capsOf L).map (fun g => g.fld.name.toList) ∧ l ≠ [] := by
  unfold namesOf
  simp [List.mem_filter]
/-- A map that tells of each name whether it is among N. -/
def SeenN (D : DataW Unit) (N : List (List UInt8)) : Prop := Maps.IsMap D ∧ ∀ l : List UInt8, ∃ c : Int, D.atKey (.string l) (.lit (.int .i64 0)) = .lit (.int .i64 c) ∧ (0 < c ↔ l ∈ N)
theorem seenN_none : SeenN (.map []) [] := ⟨Maps.isMap_empty, fun l => ⟨0, rfl, by simp⟩⟩
theorem seenN_put {D : DataW Unit} {N : List (List UInt8)} (h : SeenN D N) (l : List UInt8) (c : Int) (hc : 0 < c) : SeenN (D.put (.string l) (.lit (.int .i64 c))) (N ++ [l]) := by
  refine ⟨h.1.put _ _, fun k => ?_⟩
  by_cases hk : k = l
  · subst hk
    exact ⟨c, Maps.atKey_put_same h.1 (show WideAt.IsKeyLit (.string k) from trivial) _ _, by simp [hc]⟩
  · obtain ⟨d, h1, h2⟩ := h.2 k
    refine ⟨d, ?_, by rw [h2]; simp [hk]⟩
    rw [Maps.atKey_put_other (by intro e; injection e with e; exact hk e)]
    exact h1
end Go.Proofs.Ythapafaeakgfpaa
