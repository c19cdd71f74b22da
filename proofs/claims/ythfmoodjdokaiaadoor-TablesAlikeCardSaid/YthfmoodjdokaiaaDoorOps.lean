/- The program's united and Norm: a fresh row of the set of the runes of lists. -/
import Derived.Test.YthfmoodjdokaiaaDoorHeld
set_option linter.unusedVariables false
namespace Go.Proofs.YthfmoodjdokaiaaDoor
open Go Go.RowKit


set_option maxHeartbeats 400000 in
theorem pos_any (n : Int) (W : World) : Calls Tryd.prog 40 #[.int .i64 n] W fun e w' => e = .returned (.bool (decide (0 < n))) ∧ w' = W := by
  go_enter Tryd.func40, Tryd.ntmps40
  by_cases h : 0 < n
  · rw [decide_eq_true h]
    go_wp2
    go_ret
    exact ⟨rfl, rfl⟩
  · rw [decide_eq_false h]
    go_wp2
    go_ret
    exact ⟨rfl, rfl⟩
theorem endsL_flat : ∀ ls : List (List (Int × Int)), endsL ls = endsR ls.flatten
  | [] => rfl
  | l :: ls => by rw [endsL_cons, List.flatten_cons, endsR_append, endsL_flat ls]
theorem cntE_endsL (ls : List (List (Int × Int))) (c : Int) (h0 : 0 ≤ c) (h1 : c ≤ 1114111) : cntE (endsL ls) c = cntR ls.flatten c := by
  rw [endsL_flat, cntE_endsR _ c h0 h1]
theorem SetPost.iff {P Q : Int → Prop} {w : World} {e : Ending} {w' : World} (h : SetPost P w e w') (hpq : ∀ c, P c ↔ Q c) : SetPost Q w e w' := by
  obtain ⟨v, k, h1, h2, h3, h4, h5⟩ := h
  exact ⟨v, k, h1, h2, h3, fun c => (h4 c).trans (hpq c), h5⟩
theorem SetPost.later {P : Int → Prop} {w0 w : World} {e : Ending} {w' : World} (h : SetPost P w e w') (hb : Below w0.heap.size w0 w) : SetPost P w0 e w' := by
  obtain ⟨v, k, h1, h2, h3, h4, h5⟩ := h
  exact ⟨v, k, h1, h2.mono hb.size, h3, h4, hb.trans (h5.mono hb.size)⟩
theorem addr_add (g j : Nat) : (⟨g, 0, none⟩ : Addr).add j = ⟨g, j, none⟩ := by unfold Addr.add; split <;> simp_all
theorem lss_one {w : World} {u : Value} {l : List (Int × Int)} (h : Rgs w u l) (t : TypeId) : Lss (w.alloc (.cells #[u] t)) (.slice (some ⟨w.heap.size, 0, none⟩) 1 1) [l] := by
  have hb : Below w.heap.size w (w.alloc (.cells #[u] t)) := (Below.refl _ _).alloc (Nat.le_refl _) _
  refine ⟨w.heap.size, 0, 1, rfl, by simp, by unfold maxLen; omega, fun i hi => ?_⟩
  have : i = 0 := by simpa using hi
  subst this
  exact ⟨u, by simp, h.below hb⟩
theorem lss_two {w : World} {u v : Value} {l k : List (Int × Int)} (h : Rgs w u l) (g : Rgs w v k) (t : TypeId) : Lss (w.alloc (.cells #[u, v] t)) (.slice (some ⟨w.heap.size, 0, none⟩) 2 2) [l, k] := by
  have hb : Below w.heap.size w (w.alloc (.cells #[u, v] t)) := (Below.refl _ _).alloc (Nat.le_refl _) _
  refine ⟨w.heap.size, 0, 2, rfl, by simp, by unfold maxLen; omega, fun i hi => ?_⟩
  have : i = 0 ∨ i = 1 := by simp at hi; omega
  rcases this with rfl | rfl
  · exact ⟨u, by simp, h.below hb⟩
  · exact ⟨v, by simp, g.below hb⟩

set_option maxHeartbeats 800000 in
set_option maxRecDepth 100000 in
theorem united_any (v : Value) (ls : List (List (Int × Int))) (w : World) (h : Lss w v ls) (htot : totL ls ≤ 536870912) :
    Calls Tryd.prog 35 #[v] w (SetPost (HasR ls.flatten) w) := by
  have hh := held_any 40 (fun n => decide (0 < n)) (enters_of Tryd.func40 (by kernel_rfl) rfl) pos_any v ls w h htot
  have hq : ∀ c, (0 ≤ c ∧ c ≤ 1114111 ∧ (fun n => decide (0 < n)) (cntE (endsL ls) c) = true) ↔ HasR ls.flatten c := fun c => by
    constructor
    · rintro ⟨h0, h1, h2⟩
      rw [cntE_endsL ls c h0 h1] at h2
      exact (has_cnt _ c h0 h1).2 (of_decide_eq_true h2)
    · intro hc
      have h0 := hc.1
      have h1 := hc.2.1
      refine ⟨h0, h1, ?_⟩
      rw [cntE_endsL ls c h0 h1]
      exact decide_eq_true ((has_cnt _ c h0 h1).1 hc)
  obtain ⟨b, o, c, rfl, -⟩ := h
  go_enter Tryd.func35, Tryd.ntmps35
  go_wp2_with (go_at_call 36; refine hh.mono ?_; rintro e w' hp; obtain ⟨v2, k, rfl, hO, hR, hP, hB⟩ := hp)
  go_ret
  exact ⟨v2, k, rfl, hO, hR, fun c => (hP c).trans (hq c), hB⟩

set_option maxHeartbeats 800000 in
set_option maxRecDepth 100000 in
theorem norm_any (v : Value) (l : List (Int × Int)) (w : World) (h : Rgs w v l) (hn : l.length ≤ 134217728) :
    Calls Tryd.prog 27 #[v] w (SetPost (HasR l) w) := by
  have hl := lss_one h 23
  have hu := united_any _ [l] _ hl (by simp [totL]; omega)
  have hb : Below w.heap.size w (w.alloc (.cells #[v] 23)) := (Below.refl _ _).alloc (Nat.le_refl _) _
  have HU := Lib.hid hu; have HB := Lib.hid hb
  obtain ⟨a, c, rfl, -⟩ := h
  clear hu hb hl
  go_enter Tryd.func27, Tryd.ntmps27
  go_wp2_with (go_at_call 35; refine HU.out.mono ?_; rintro e w' hp; have hp := (hp.later HB.out).iff (Q := HasR l) (fun c => by simp); obtain ⟨v2, k, rfl, hO, hR, hP, hB⟩ := hp)
  go_ret
  exact ⟨v2, k, rfl, hO, hR, hP, hB⟩

end Go.Proofs.YthfmoodjdokaiaaDoor
