/- What the program's operations share: edges of lists, sets told later, lists of lists of one and of two. -/
import Derived.Test.YtnpogfkmcopdfaaHeld
set_option linter.unusedVariables false
namespace Go.Proofs.Ytnpogfkmcopdfaa
open Go Go.RowKit

theorem endsL_flat : ∀ ls : List (List (Int × Int)), endsL ls = endsR ls.flatten
  | [] => rfl
  | l :: ls => by rw [endsL_cons, List.flatten_cons, endsR_append, endsL_flat ls]
theorem cntE_endsL (ls : List (List (Int × Int))) (c : Int) (h0 : 0 ≤ c) (h1 : c ≤ 1114111) : cntE (endsL ls) c = cntR ls.flatten c := by
  rw [endsL_flat, cntE_endsR _ c h0 h1]
theorem SetPost.iff {P Q : Int → Prop} {w : World} {e : Ending} {w' : World} (h : SetPost P w e w') (hpq : ∀ c, P c ↔ Q c) : SetPost Q w e w' := by
  obtain ⟨v, k, h1, h2, h3, h4, h5⟩ := h
  exact ⟨v, k, h1, h2, h3, fun c => (h4 c).trans (hpq c), h5⟩
theorem SetPost.later {P : Int → Prop} {w0 w : World} {e : Ending} {w' : World} (h : SetPost P w e w') (hb : Below w0.heap.size w0 w) : SetPost P w0 e w' := by
  obtain ⟨v, k, h1, h2, h3, h4, h5⟩ := h
  exact ⟨v, k, h1, h2.mono hb.size, h3, h4, hb.trans (h5.mono hb.size)⟩
theorem addr_add (g j : Nat) : (⟨g, 0, none⟩ : Addr).add j = ⟨g, j, none⟩ := by unfold Addr.add; split <;> simp_all
theorem lss_one {w : World} {u : Value} {l : List (Int × Int)} (h : Rgs w u l) (t : TypeId) : Lss (w.alloc (.cells #[u] t)) (.slice (some ⟨w.heap.size, 0, none⟩) 1 1) [l] := by
  have hb : Below w.heap.size w (w.alloc (.cells #[u] t)) := (Below.refl _ _).alloc (Nat.le_refl _) _
  refine ⟨w.heap.size, 0, 1, rfl, by simp, by unfold maxLen; omega, fun i hi => ?_⟩
  have : i = 0 := by simpa using hi
  subst this
  exact ⟨u, by simp, h.below hb⟩
theorem lss_two {w : World} {u v : Value} {l k : List (Int × Int)} (h : Rgs w u l) (g : Rgs w v k) (t : TypeId) : Lss (w.alloc (.cells #[u, v] t)) (.slice (some ⟨w.heap.size, 0, none⟩) 2 2) [l, k] := by
  have hb : Below w.heap.size w (w.alloc (.cells #[u, v] t)) := (Below.refl _ _).alloc (Nat.le_refl _) _
  refine ⟨w.heap.size, 0, 2, rfl, by simp, by unfold maxLen; omega, fun i hi => ?_⟩
  have : i = 0 ∨ i = 1 := by simp at hi; omega
  rcases this with rfl | rfl
  · exact ⟨u, by simp, h.below hb⟩
  · exact ⟨v, by simp, g.below hb⟩

end Go.Proofs.Ytnpogfkmcopdfaa
