/- The document's Right: is a list a set? -/
import Derived.Test.YtlkbdbijlnjjbaaRgs
set_option linter.unusedVariables false
namespace Go.Proofs.Ytlkbdbijlnjjbaa
open Go Go.RowKit

set_option maxHeartbeats 1600000 in
set_option maxRecDepth 100000 in
theorem rright_any (v : Value) (l : List (Int × Int)) (w : World) (h : Rgs w v l) :
    Calls Try.prog 41 #[v] w (Says (RightR l) w) := by
  obtain ⟨a, c, rfl, h2, h3, h4, h5, h6⟩ := h
  have hlen : l.length ≤ 9223372036854775807 := by unfold maxLen at h3; omega
  have H5 := Lib.hid h5; have H6 := Lib.hid h6
  clear h5 h6 h4 h2 h3
  go_enter Try.func41, Try.ntmps41
  go_wp2
  go_loopw [3] (fun i wr => ∃ m : Nat, m ≤ l.length ∧ i = .int .i64 m ∧ (∃ q, wr = w.drewN q) ∧ RightR (l.take m)) (fun i _ => l.length - (intOf i).toNat)
  case atStart => exact ⟨0, Nat.zero_le _, rfl, ⟨0, rfl⟩, by simp [RightR, RightFrom]⟩
  case round =>
    obtain ⟨m, hm, rfl, ⟨q, rfl⟩, hR⟩ := hrel
    have HR := Lib.hid hR
    clear hR
    by_cases hlt : m < l.length
    · rcases H5.out with h5 | ⟨b, o, rfl, hc⟩
      · rw [h5] at hlt
        simp at hlt
      have hltz : (m : Int) < (l.length : Int) := by omega
      obtain ⟨c1, c2⟩ := hc m hlt
      obtain ⟨x, hx⟩ : ∃ x, l[m] = x := ⟨_, rfl⟩
      have hi := H6.out _ (List.getElem_mem hlt)
      rw [hx] at c1 c2 hi
      obtain ⟨x1, x2⟩ := x
      simp only at c1 c2 hi
      unfold I32 at hi
      have hsp := right_split l m hlt
      rw [hx] at hsp
      have HS := Lib.hid hsp; have HC := Lib.hid hc
      clear hsp hc hx
      have bad : ¬ (endOf 0 (l.take m) ≤ x1 ∧ x1 ≤ x2 ∧ x2 ≤ 1114111) → ¬ RightR l := fun hb hr => hb (HS.out.1 (right_part l (m + 1) hr)).2
      by_cases q0 : x1 < 0
      · have d0 : decide (x1 < 0) = true := decide_eq_true q0
        go_wp2_with fail
        go_big_quiet (fail)
        go_wp2
        go_ret
        refine ⟨false, rfl, ?_, ⟨_, World.drewN_drewN _ _ _⟩⟩
        have := bad (by intro h; have := end_nonneg (l.take m) 0 (by omega) HR.out; omega)
        simp [this]
      · have d0 : decide (x1 < 0) = false := decide_eq_false q0
        by_cases q1 : 1114111 < x2
        · have d1 : decide (1114111 < x2) = true := decide_eq_true q1
          go_wp2_with fail
          go_big_quiet (fail)
          go_wp2
          go_ret
          refine ⟨false, rfl, ?_, ⟨_, World.drewN_drewN _ _ _⟩⟩
          have := bad (by omega)
          simp [this]
        · have d1 : decide (1114111 < x2) = false := decide_eq_false q1
          by_cases q2 : x2 < x1
          · have d2 : decide (x2 < x1) = true := decide_eq_true q2
            go_wp2_with fail
            go_big_quiet (fail)
            go_wp2
            go_ret
            refine ⟨false, rfl, ?_, ⟨_, World.drewN_drewN _ _ _⟩⟩
            have := bad (by omega)
            simp [this]
          · have d2 : decide (x2 < x1) = false := decide_eq_false q2
            by_cases hm0 : m = 0
            · subst hm0
              rw [Nat.zero_mul, Nat.add_zero] at c1 c2
              go_wp2_with fail
              go_big_quiet (fail)
              go_wp2_with fail
              go_big_quiet (fail)
              go_wp2
              go_roundw
              case rel => exact ⟨1, by omega, rfl, ⟨_, by first | with_reducible rfl | exact World.drewN_drewN _ _ _ | (rw [World.drewN_drewN]; exact World.drewN_drewN _ _ _)⟩, HS.out.2 ⟨HR.out, by simp [endOf]; omega, by omega, by omega⟩⟩
              case measure => simp [intOf]; omega
            · obtain ⟨p, rfl⟩ : ∃ p, m = p + 1 := ⟨m - 1, by omega⟩
              have hp : p < l.length := by omega
              obtain ⟨e1, e2⟩ := HC.out p hp
              have hE := end_take l p (by omega)
              have hF := right_fit _ 0 (by omega) HR.out l[p] (List.mem_iff_getElem.2 ⟨p, by rw [List.length_take]; omega, by rw [List.getElem_take]⟩)
              obtain ⟨y, hy⟩ : ∃ y, l[p] = y := ⟨_, rfl⟩
              rw [hy] at e1 e2 hE hF
              obtain ⟨y1, y2⟩ := y
              unfold Fit at hF
              simp only at e1 e2 hE hF
              have HE := Lib.hid hE
              clear hy hE
              have hpz : (0 : Int) < (p : Int) + 1 := by omega
              have dp : decide ((0 : Int) < (p : Int) + 1) = true := decide_eq_true hpz
              by_cases q3 : x1 ≤ y2
              · have d3 : decide (x1 ≤ y2) = true := decide_eq_true q3
                go_wp2_with fail
                go_big_quiet (fail)
                go_wp2_with fail
                go_big_quiet (fail)
                go_wp2
                go_ret
                refine ⟨false, rfl, ?_, ⟨_, by first | with_reducible rfl | exact World.drewN_drewN _ _ _ | (rw [World.drewN_drewN]; exact World.drewN_drewN _ _ _)⟩⟩
                have := bad (by rw [HE.out]; omega)
                simp [this]
              · have d3 : decide (x1 ≤ y2) = false := decide_eq_false q3
                by_cases q4 : x1 - y2 < 2
                · have d4 : decide (x1 - y2 < 2) = true := decide_eq_true q4
                  go_wp2_with fail
                  go_big_quiet (fail)
                  go_wp2_with fail
                  go_big_quiet (fail)
                  go_wp2
                  go_ret
                  refine ⟨false, rfl, ?_, ⟨_, by first | with_reducible rfl | exact World.drewN_drewN _ _ _ | (rw [World.drewN_drewN]; exact World.drewN_drewN _ _ _)⟩⟩
                  have := bad (by rw [HE.out]; omega)
                  simp [this]
                · have d4 : decide (x1 - y2 < 2) = false := decide_eq_false q4
                  go_wp2_with fail
                  go_big_quiet (fail)
                  go_wp2_with fail
                  go_big_quiet (fail)
                  go_wp2
                  go_roundw
                  case rel => exact ⟨p + 2, by omega, by go_num, ⟨_, by first | with_reducible rfl | exact World.drewN_drewN _ _ _ | (rw [World.drewN_drewN]; exact World.drewN_drewN _ _ _)⟩, HS.out.2 ⟨HR.out, by rw [HE.out]; omega, by omega, by omega⟩⟩
                  case measure => simp [intOf]; omega
    · have e : l.take m = l := List.take_of_length_le (by omega)
      have hr := HR.out
      rw [e] at hr
      go_wp2
      go_ret
      exact ⟨true, rfl, by simp [hr], q, rfl⟩

end Go.Proofs.Ytlkbdbijlnjjbaa
