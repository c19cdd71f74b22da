/- The program's small questions: is it an instruction's place, is it just one of what a place may be, are all of some places. -/
import Derived.Test.YtlkbdbijlnjjbaaPgIn
import Derived.Deep.DeepCutAuto
import Derived.Deep.RegionHeld3
import Derived.Deep.RegionWith
set_option linter.unusedVariables false
namespace Go.Proofs.Ytlkbdbijlnjjbaa
open Go Go.RowKit

set_option maxHeartbeats 1600000 in
set_option maxRecDepth 100000 in
theorem pplace_any (p : Pg) (v : Value) (x : Int) (w : World) (h : PgV w p v) : Calls Try.prog 32 #[v, .int .i64 x] w (SaysG (PlaceI p.ins.length x) w) := by
  obtain ⟨A, n, c, hn, rfl, hI, hs, hc, hnb⟩ := h.opened
  obtain ⟨w1, hw1⟩ : ∃ w1, w.alloc (.cells #[.slice A n c, .int .i64 p.start, .int .i64 p.caps] 24) = w1 := ⟨_, rfl⟩
  obtain ⟨hb1, e0, e1, e2, hz1⟩ := box3_new w _ _ _ _ hw1
  have HB1 := Lib.hid hb1; have HW1 := Lib.hid hw1
  rw [hn]
  clear h hw1 hb1 hI hs hc hz1 hn
  go_enter Try.func32, Try.ntmps32
  go_upto_region 1 with (fail)
  rw [HW1.out]
  by_cases q0 : 0 ≤ x
  · have d0 : decide (0 ≤ x) = true := decide_eq_true q0
    by_cases q1 : x < n
    · have d1 : decide (x < n) = true := decide_eq_true q1
      go_wp2_with fail
      go_ret
      exact ⟨true, rfl, by simp [PlaceI, q0, q1], HB1.out⟩
    · have d1 : decide (x < n) = false := decide_eq_false q1
      go_wp2_with fail
      go_ret
      exact ⟨false, rfl, by simp [PlaceI, q1], HB1.out⟩
  · have d0 : decide (0 ≤ x) = false := decide_eq_false q0
    go_wp2_with fail
    go_ret
    exact ⟨false, rfl, ⟨fun h => (by cases h), fun h => (by have := h.1; omega)⟩, HB1.out⟩
set_option maxHeartbeats 1600000 in
set_option maxRecDepth 100000 in
theorem pisAt_any (x : Int) (w : World) : Calls Try.prog 51 #[.int .i64 x] w fun e w' => ∃ B : Bool, e = .returned (.bool B) ∧ (B = true ↔ AtOk x) ∧ w' = w := by
  go_enter Try.func51, Try.ntmps51
  by_cases q1 : x = 1
  · subst q1
    go_wp2
    go_ret
    exact ⟨true, rfl, by simp [AtOk], rfl⟩
  by_cases q2 : x = 2
  · subst q2
    go_wp2
    go_ret
    exact ⟨true, rfl, by simp [AtOk], rfl⟩
  by_cases q3 : x = 4
  · subst q3
    go_wp2
    go_ret
    exact ⟨true, rfl, by simp [AtOk], rfl⟩
  by_cases q4 : x = 8
  · subst q4
    go_wp2
    go_ret
    exact ⟨true, rfl, by simp [AtOk], rfl⟩
  by_cases q5 : x = 16
  · subst q5
    go_wp2
    go_ret
    exact ⟨true, rfl, by simp [AtOk], rfl⟩
  by_cases q6 : x = 32
  · subst q6
    go_wp2
    go_ret
    exact ⟨true, rfl, by simp [AtOk], rfl⟩
  have hno : ¬ AtOk x := by simp [AtOk, q1, q2, q3, q4, q5, q6]
  have HNO := Lib.hid hno
  have b1 : (x == 1) = false := beq_eq_false_iff_ne.2 q1
  have b2 : (x == 2) = false := beq_eq_false_iff_ne.2 q2
  have b3 : (x == 4) = false := beq_eq_false_iff_ne.2 q3
  have b4 : (x == 8) = false := beq_eq_false_iff_ne.2 q4
  have b5 : (x == 16) = false := beq_eq_false_iff_ne.2 q5
  have b6 : (x == 32) = false := beq_eq_false_iff_ne.2 q6
  clear hno q1 q2 q3 q4 q5 q6
  go_wp2
  go_ret
  exact ⟨false, rfl, by simp [HNO.out], rfl⟩
end Go.Proofs.Ytlkbdbijlnjjbaa
