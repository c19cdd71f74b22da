/- The document's Has: has a list a rune? -/
import Derived.Test.YtlkbdbijlnjjbaaRgs
set_option linter.unusedVariables false
namespace Go.Proofs.Ytlkbdbijlnjjbaa
open Go Go.RowKit

set_option maxHeartbeats 1600000 in
set_option maxRecDepth 100000 in
theorem rhas_any (v : Value) (l : List (Int × Int)) (x : Int) (w : World) (h : Rgs w v l) :
    Calls Try.prog 24 #[v, .int .i32 x] w (Says (HasR l x) w) := by
  obtain ⟨a, c, rfl, h2, h3, h4, h5, h6⟩ := h
  have hlen : l.length ≤ 9223372036854775807 := by unfold maxLen at h3; omega
  have H5 := Lib.hid h5
  clear h5 h6 h4 h2 h3
  go_enter Try.func24, Try.ntmps24
  go_wp2
  go_loopw [5] (fun i wr => ∃ m : Nat, m ≤ l.length ∧ i = .int .i64 m ∧ wr = w ∧ ¬ HasR (l.take m) x) (fun i _ => l.length - (intOf i).toNat)
  case atStart => exact ⟨0, Nat.zero_le _, rfl, rfl, has_nil x⟩
  case round =>
    obtain ⟨m, hm, rfl, rfl, hR⟩ := hrel
    have HR := Lib.hid hR
    clear hR
    by_cases hlt : m < l.length
    · have hltz : (m : Int) < (l.length : Int) := by omega
      by_cases q0 : 0 ≤ x
      · by_cases q1 : x ≤ 1114111
        · rcases H5.out with h5 | ⟨b, o, rfl, hc⟩
          · rw [h5] at hlt
            simp at hlt
          obtain ⟨c1, c2⟩ := hc m hlt
          have hsp := has_split l m hlt x
          obtain ⟨y, hy⟩ : ∃ y, l[m] = y := ⟨_, rfl⟩
          rw [hy] at c1 c2 hsp
          obtain ⟨y1, y2⟩ := y
          simp only at c1 c2
          have HS := Lib.hid hsp
          clear hsp hc hy
          by_cases q2 : y1 ≤ x
          · by_cases q3 : x ≤ y2
            · go_wp2
              go_ret
              exact ⟨true, rfl, by simp; exact has_part l (m + 1) x (HS.out.2 (.inr ⟨q0, q1, q2, q3⟩)), 0, rfl⟩
            · go_wp2
              go_roundw
              case rel => exact ⟨m + 1, by omega, by go_num, by trivial, fun h => (HS.out.1 h).elim HR.out fun h => by have := h.2.2.2; omega⟩
              case measure => simp [intOf]; omega
          · go_wp2
            go_roundw
            case rel => exact ⟨m + 1, by omega, by go_num, by trivial, fun h => (HS.out.1 h).elim HR.out fun h => by have := h.2.2.1; omega⟩
            case measure => simp [intOf]; omega
        · go_wp2
          go_ret
          exact ⟨false, rfl, by simp; exact fun h => by have := h.2.1; omega, 0, rfl⟩
      · go_wp2
        go_ret
        exact ⟨false, rfl, by simp; exact fun h => by have := h.1; omega, 0, rfl⟩
    · have e : l.take m = l := List.take_of_length_le (by omega)
      have hr := HR.out
      rw [e] at hr
      go_wp2
      go_ret
      exact ⟨false, rfl, by simp [hr], 0, rfl⟩

end Go.Proofs.Ytlkbdbijlnjjbaa
