/- How many Kids a tree may have: the document's kids. -/
import Derived.Test.YthapafaeakgfpaaTrFine
import Derived.Test.YthapafaeakgfpaaTrDepth
set_option linter.unusedVariables false
namespace Go.Proofs.Ythapafaeakgfpaa
open Go Go.RowKit

/-- A bool that says P; nothing that lay has turned. -/
def SaysB (P : Prop) (w : World) (e : Ending) (w' : World) : Prop := ∃ B : Bool, e = .returned (.bool B) ∧ (B = true ↔ P) ∧ Below w.heap.size w w'

set_option maxHeartbeats 1600000 in
set_option maxRecDepth 100000 in
theorem kids_walk (op : Int) (A : Option Addr) (n c : Nat) (x2 x3 x4 x5 x6 x7 x8 x9 : Value) (w : World) (hnb : n ≤ 1172812402961) : Calls Try.prog 44 #[.agg #[.int .i64 op, .slice A n c, x2, x3, x4, x5, x6, x7, x8, x9]] w (SaysB (KidsOk op n) w) := by
  obtain ⟨P, hP⟩ : ∃ P, KidsOk op n = P := ⟨_, rfl⟩
  have HP := Lib.hid hP
  rw [hP]
  clear hP
  have HB : Hid (∀ o, Below w.heap.size w (w.alloc o)) := Lib.hid fun o => (Below.refl _ _).alloc (Nat.le_refl _) _
  go_enter Try.func44, Try.ntmps44
  by_cases h1 : op = 6 ∨ op = 7 ∨ op = 8 ∨ op = 9 ∨ op = 10
  · by_cases hn1 : n = 1
    · subst hn1
      rcases h1 with rfl | rfl | rfl | rfl | rfl
      all_goals
        go_wp2
        go_ret
        exact ⟨true, rfl, by rw [← HP.out]; simp [KidsOk], HB.out _⟩
    · have e1 : ((n : Int) == 1) = false := beq_eq_false_iff_ne.2 (by omega)
      have HN1 := Lib.hid hn1
      clear hn1
      rcases h1 with rfl | rfl | rfl | rfl | rfl
      all_goals
        go_wp2
        go_ret
        exact ⟨false, rfl, by have := HN1.out; rw [← HP.out]; simp [KidsOk, this], HB.out _⟩
  have e6 : (op == 6) = false := beq_eq_false_iff_ne.2 (fun h => h1 (.inl h))
  have e7 : (op == 7) = false := beq_eq_false_iff_ne.2 (fun h => h1 (.inr (.inl h)))
  have e8 : (op == 8) = false := beq_eq_false_iff_ne.2 (fun h => h1 (.inr (.inr (.inl h))))
  have e9 : (op == 9) = false := beq_eq_false_iff_ne.2 (fun h => h1 (.inr (.inr (.inr (.inl h)))))
  have e10 : (op == 10) = false := beq_eq_false_iff_ne.2 (fun h => h1 (.inr (.inr (.inr (.inr h)))))
  have H1 := Lib.hid h1
  by_cases h11 : op = 11
  · subst h11
    clear h1 e6 e7 e8 e9 e10
    go_wp2
    go_ret
    exact ⟨true, rfl, by rw [← HP.out]; simp [KidsOk], HB.out _⟩
  by_cases h12 : op = 12
  · subst h12
    clear h1 e6 e7 e8 e9 e10 h11
    by_cases hn1 : 1 ≤ n
    · have hz : (1 : Int) ≤ (n : Int) := by omega
      have HN1 := Lib.hid hn1
      clear hn1
      go_wp2
      go_ret
      exact ⟨true, rfl, by have := HN1.out; rw [← HP.out]; simp [KidsOk, this], HB.out _⟩
    · have hz : ¬ (1 : Int) ≤ (n : Int) := by omega
      have HN1 := Lib.hid hn1
      clear hn1
      go_wp2
      go_ret
      exact ⟨false, rfl, by have := HN1.out; rw [← HP.out]; simp [KidsOk, this], HB.out _⟩
  · have e11 : (op == 11) = false := beq_eq_false_iff_ne.2 h11
    have e12 : (op == 12) = false := beq_eq_false_iff_ne.2 h12
    have H11 := Lib.hid h11; have H12 := Lib.hid h12
    clear h1 h11 h12
    by_cases hn0 : n = 0
    · subst hn0
      go_wp2
      go_ret
      exact ⟨true, rfl, by have q1 := H1.out; have q2 := H12.out; rw [← HP.out]; unfold KidsOk; simp [q1, q2], HB.out _⟩
    · have e0 : ((n : Int) == 0) = false := beq_eq_false_iff_ne.2 (by omega)
      have HN0 := Lib.hid hn0
      clear hn0
      go_wp2
      go_ret
      exact ⟨false, rfl, by have q1 := H1.out; have q2 := H12.out; have q3 := H11.out; have q4 := HN0.out; rw [← HP.out]; unfold KidsOk; simp only [not_or] at q1; simp [q1, q2, q3, q4], HB.out _⟩
theorem kids_any (t : Tr) (v : Value) (w : World) (h : Tre w t v) : Calls Try.prog 44 #[v] w (SaysB (KidsOk t.fld.op t.kids.length) w) := by
  obtain ⟨A, n, c, a2, s, c2, hn, hs, rfl, hnb, -, -, -, -⟩ := h.opened
  rw [hn]
  exact kids_walk _ _ _ _ _ _ _ _ _ _ _ _ _ hnb
end Go.Proofs.Ythapafaeakgfpaa
