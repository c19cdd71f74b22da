/- The program's Not: a fresh row of the set of the runes that a list does not have. -/
import Derived.Test.YtnpogfkmcopdfaaOps0
set_option linter.unusedVariables false
namespace Go.Proofs.Ytnpogfkmcopdfaa
open Go Go.RowKit

set_option maxHeartbeats 400000 in
theorem nil_any (n : Int) (W : World) : Calls Try.prog 32 #[.int .i64 n] W fun e w' => e = .returned (.bool (n == 0)) ∧ w' = W := by
  go_enter Try.func32, Try.ntmps32
  go_wp2
  go_ret
  exact ⟨rfl, rfl⟩

set_option maxHeartbeats 800000 in
set_option maxRecDepth 100000 in
theorem not_any (v : Value) (l : List (Int × Int)) (w : World) (h : Rgs w v l) (hn : l.length ≤ 134217728) :
    Calls Try.prog 21 #[v] w (SetPost (fun c => 0 ≤ c ∧ c ≤ 1114111 ∧ ¬ HasR l c) w) := by
  have hl := lss_one h 23
  have hu := held_any 32 (fun n => n == 0) (enters_of Try.func32 (by kernel_rfl) rfl) nil_any _ [l] _ hl (by simp [totL]; omega)
  have hb : Below w.heap.size w (w.alloc (.cells #[v] 23)) := (Below.refl _ _).alloc (Nat.le_refl _) _
  have hq : ∀ c, (0 ≤ c ∧ c ≤ 1114111 ∧ (fun n : Int => n == 0) (cntE (endsL [l]) c) = true) ↔ 0 ≤ c ∧ c ≤ 1114111 ∧ ¬ HasR l c := fun c => by
    constructor
    · rintro ⟨h0, h1, h2⟩
      rw [cntE_endsL _ c h0 h1] at h2
      simp only [List.flatten_cons, List.flatten_nil, List.append_nil, beq_iff_eq] at h2
      refine ⟨h0, h1, fun h => ?_⟩
      have := (has_cnt _ c h0 h1).1 h
      omega
    · rintro ⟨h0, h1, h2⟩
      refine ⟨h0, h1, ?_⟩
      rw [cntE_endsL _ c h0 h1]
      simp only [List.flatten_cons, List.flatten_nil, List.append_nil, beq_iff_eq]
      have h3 := cnt_nonneg l c
      have h4 : ¬ 0 < cntR l c := fun h => h2 ((has_cnt _ c h0 h1).2 h)
      omega
  have HU := Lib.hid hu; have HB := Lib.hid hb; have HQ := Lib.hid hq
  obtain ⟨a, c, rfl, -⟩ := h
  clear hu hb hl hq
  go_enter Try.func21, Try.ntmps21
  go_wp2_with (go_at_call 31; refine HU.out.mono ?_; rintro e w' hp; have hp := (SetPost.later hp HB.out).iff HQ.out; obtain ⟨v2, k, rfl, hO, hR, hP, hB⟩ := hp)
  go_ret
  exact ⟨v2, k, rfl, hO, hR, hP, hB⟩

end Go.Proofs.Ytnpogfkmcopdfaa
