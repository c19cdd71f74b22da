/- The program's Right and Has: what the document asks, at any list. -/
import Derived.Test.YtlkbdbijlnjjbaaPgIn
set_option linter.unusedVariables false
namespace Go.Proofs.Ytlkbdbijlnjjbaa
open Go Go.RowKit

set_option maxHeartbeats 1600000 in
set_option maxRecDepth 100000 in
theorem gright_any (v : Value) (l : List (Int × Int)) (w : World) (h : Rgs w v l) :
    Calls Try.prog 50 #[v] w (SaysG (RightR l) w) := by
  have HR := Lib.hid h
  obtain ⟨a, c, rfl, h2, h3, h4, h5, h6⟩ := h
  have hlen : l.length ≤ 9223372036854775807 := by unfold maxLen at h3; omega
  have H6 := Lib.hid h6
  clear h5 h6 h4 h2 h3
  go_enter Try.func50, Try.ntmps50
  go_wp2
  go_loopw [3, 8] (fun u i wr => ∃ m : Nat, m ≤ l.length ∧ i = .int .i64 m ∧ u = .int .i32 (endOf 0 (l.take m)) ∧ Below w.heap.size w wr ∧ RightR (l.take m)) (fun _ i _ => l.length - (intOf i).toNat)
  case atStart => exact ⟨0, Nat.zero_le _, rfl, rfl, Below.refl _ _, by simp [RightR, RightFrom]⟩
  case round =>
    obtain ⟨m, hm, rfl, rfl, hB, hR⟩ := hrel
    have HRT := Lib.hid hR; have HB := Lib.hid hB
    clear hR hB
    by_cases hlt : m < l.length
    · obtain ⟨a', c', e, q2, q3, q4, q5, q6⟩ := HR.out.below HB.out
      injection e with e1 e2 e3
      subst e1 e3
      rcases q5 with q5 | ⟨b, o, rfl, hc⟩
      · rw [q5] at hlt
        simp at hlt
      obtain ⟨c1, c2⟩ := hc m hlt
      have hE := end_take l m (by omega)
      have hi := H6.out _ (List.getElem_mem hlt)
      have hsp := right_split l m hlt
      obtain ⟨x, hx⟩ : ∃ x, l[m] = x := ⟨_, rfl⟩
      rw [hx] at c1 c2 hsp hE hi
      obtain ⟨x1, x2⟩ := x
      obtain ⟨ee, hee⟩ : ∃ ee, endOf 0 (l.take m) = ee := ⟨_, rfl⟩
      rw [hee] at hsp ⊢
      simp only at c1 c2 hsp hE hi
      unfold I32 at hi
      have HS := Lib.hid hsp; have HEE := Lib.hid hee; have HE := Lib.hid hE
      have hB1 : Below w.heap.size w (wr.alloc (.cells #[.int .i32 x1, .int .i32 x2] 53)) := HB.out.alloc HB.out.size _
      have HB1 := Lib.hid hB1
      clear hsp hc hx hee hE hB1 q6
      have bad : ¬ (ee ≤ x1 ∧ x1 ≤ x2 ∧ x2 ≤ 1114111) → ¬ RightR l := fun hb hr => hb (HS.out.1 (right_part l (m + 1) hr)).2
      by_cases q0 : x1 < ee
      · go_wp2
        go_ret
        have hno : ¬ RightR l := bad (by omega)
        exact ⟨false, rfl, ⟨fun h => (by cases h), fun h => (by first | exact h.elim | exact absurd h hno)⟩, HB1.out⟩
      · by_cases q1 : x2 < x1
        · go_wp2
          go_ret
          have hno : ¬ RightR l := bad (by omega)
          exact ⟨false, rfl, ⟨fun h => (by cases h), fun h => (by first | exact h.elim | exact absurd h hno)⟩, HB1.out⟩
        · by_cases q2 : 1114111 < x2
          · go_wp2
            go_ret
            have hno : ¬ RightR l := bad (by omega)
            exact ⟨false, rfl, ⟨fun h => (by cases h), fun h => (by first | exact h.elim | exact absurd h hno)⟩, HB1.out⟩
          · go_wp2
            go_roundw
            case rel => exact ⟨m + 1, by omega, by go_num, by rw [HE.out], HB1.out, HS.out.2 ⟨HRT.out, by omega⟩⟩
            case measure => simp [intOf]; omega
    · have e : l.take m = l := List.take_of_length_le (by omega)
      have hr := HRT.out
      rw [e] at hr
      have HRR := Lib.hid hr
      clear hr e
      go_wp2
      go_ret
      exact ⟨true, rfl, by simp [HRR.out], HB.out⟩

set_option maxHeartbeats 1600000 in
set_option maxRecDepth 100000 in
theorem ghas_any (v : Value) (l : List (Int × Int)) (x : Int) (w : World) (h : Rgs w v l) :
    Calls Try.prog 33 #[v, .int .i32 x] w (SaysG (HasR l x) w) := by
  have HR := Lib.hid h
  obtain ⟨a, c, rfl, h2, h3, h4, h5, h6⟩ := h
  have hlen : l.length ≤ 9223372036854775807 := by unfold maxLen at h3; omega
  clear h5 h6 h4 h2 h3
  go_enter Try.func33, Try.ntmps33
  by_cases q0 : x < 0
  · go_wp2
    go_ret
    exact ⟨false, rfl, by simp; exact fun h => by have := h.1; omega, Below.refl _ _⟩
  · by_cases q1 : 1114111 < x
    · go_wp2
      go_ret
      exact ⟨false, rfl, by simp; exact fun h => by have := h.2.1; omega, Below.refl _ _⟩
    · go_wp2
      go_loopw [15] (fun i wr => ∃ m : Nat, m ≤ l.length ∧ i = .int .i64 m ∧ Below w.heap.size w wr ∧ ¬ HasR (l.take m) x) (fun i _ => l.length - (intOf i).toNat)
      case atStart => exact ⟨0, Nat.zero_le _, rfl, Below.refl _ _, has_nil x⟩
      case round =>
        obtain ⟨m, hm, rfl, hB, hN⟩ := hrel
        have HN := Lib.hid hN; have HB := Lib.hid hB
        clear hN hB
        by_cases hlt : m < l.length
        · obtain ⟨a', c', e, q2, q3, q4, q5, q6⟩ := HR.out.below HB.out
          injection e with e1 e2 e3
          subst e1 e3
          rcases q5 with q5 | ⟨b, o, rfl, hc⟩
          · rw [q5] at hlt
            simp at hlt
          obtain ⟨c1, c2⟩ := hc m hlt
          have hsp := has_split l m hlt x
          obtain ⟨y, hy⟩ : ∃ y, l[m] = y := ⟨_, rfl⟩
          rw [hy] at c1 c2 hsp
          obtain ⟨y1, y2⟩ := y
          simp only at c1 c2
          have HS := Lib.hid hsp
          have hB1 : Below w.heap.size w (wr.alloc (.cells #[.int .i32 y1, .int .i32 y2] 53)) := HB.out.alloc HB.out.size _
          have HB1 := Lib.hid hB1
          clear hsp hc hy hB1 q6
          by_cases q2 : y1 ≤ x
          · by_cases q3 : x ≤ y2
            · go_wp2
              go_ret
              exact ⟨true, rfl, by simp; exact has_part l (m + 1) x (HS.out.2 (.inr ⟨by omega, by omega, q2, q3⟩)), HB1.out⟩
            · go_wp2
              go_roundw
              case rel => exact ⟨m + 1, by omega, by go_num, HB1.out, fun h => (HS.out.1 h).elim HN.out fun h => by have : x ≤ y2 := h.2.2.2; omega⟩
              case measure => simp [intOf]; omega
          · go_wp2
            go_roundw
            case rel => exact ⟨m + 1, by omega, by go_num, HB1.out, fun h => (HS.out.1 h).elim HN.out fun h => by have : y1 ≤ x := h.2.2.1; omega⟩
            case measure => simp [intOf]; omega
        · have e : l.take m = l := List.take_of_length_le (by omega)
          have hr := HN.out
          rw [e] at hr
          have HRR := Lib.hid hr
          clear hr e
          go_wp2
          go_ret
          exact ⟨false, rfl, by simp [HRR.out], HB.out⟩

end Go.Proofs.Ytlkbdbijlnjjbaa
