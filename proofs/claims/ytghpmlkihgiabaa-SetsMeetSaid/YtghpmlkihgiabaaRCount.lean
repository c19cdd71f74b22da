/- The document's Count: how many runes any list has, each once. -/
import Derived.Test.YtghpmlkihgiabaaUnion
set_option linter.unusedVariables false
namespace Go.Proofs.Ytghpmlkihgiabaa
open Go Go.RowKit

/-- The number of the runes of the set K that has the runes of l. -/
def CountPost (l : List (Int × Int)) (w : World) (e : Ending) (w' : World) : Prop :=
  ∃ K, RightR K ∧ (∀ c, HasR K c ↔ HasR l c) ∧ e = .returned (.int .i64 (countR K)) ∧ Below w.heap.size w w'
theorem count_take (K : List (Int × Int)) (k : Nat) (x : Int × Int) (h : K.take (k + 1) = K.take k ++ [x]) : countR (K.take (k + 1)) = countR (K.take k) + (x.2 - x.1 + 1) := by
  rw [h, count_append]
  simp [countR]

set_option maxHeartbeats 1600000 in
set_option maxRecDepth 100000 in
theorem rcount_any (v : Value) (l : List (Int × Int)) (w : World) (h : Rgs w v l) (hn : l.length ≤ 1099511627776) :
    Calls Try.prog 29 #[v] w (CountPost l w) := by
  have HN := Lib.hid (rnorm_any v l w h hn)
  go_enter Try.func29, Try.ntmps29
  go_wp2_with fail
  refine HN.out.mono ?_
  rintro e w1 ⟨v1, K, rfl, hO, hR, hP, hB⟩
  have HO := Lib.hid hO; have HR := Lib.hid hR; have HP := Lib.hid hP; have HB := Lib.hid hB
  have hKl := right_len K 0 (by omega) hR
  clear hO hR hP hB h
  have HRG := Lib.hid HO.out.rgs
  obtain ⟨A, cA, hv1, hc1, hc2, -⟩ := HO.out.rgs
  subst hv1
  go_wp2_with fail
  go_loopw [3, 5] (fun vn i wz => ∃ k : Nat, k ≤ K.length ∧ i = .int .i64 k ∧ vn = .int .i64 (countR (K.take k)) ∧ Below w1.heap.size w1 wz) (fun _ i _ => K.length - (intOf i).toNat)
  case atStart => exact ⟨0, Nat.zero_le _, rfl, rfl, Below.refl _ _⟩
  case round =>
    obtain ⟨k, hk, rfl, rfl, hBz⟩ := hrel
    have HBZ := Lib.hid hBz
    clear hBz
    by_cases hkl : k < K.length
    · obtain ⟨a1, cq, e, q2, q3, q4, q5, q6⟩ := HRG.out.below HBZ.out
      injection e with e1 e2 e3
      subst e1 e3
      rcases q5 with q5 | ⟨b, o, rfl, hc⟩
      · rw [q5] at hkl
        simp at hkl
      obtain ⟨x1, x2, hx, hsp, c1, c2⟩ := rgs_at hc k hkl
      have hct := count_take K k (x1, x2) hsp
      simp only at hct
      have hf := right_fit K 0 (Int.le_refl _) HR.out (x1, x2) (List.mem_of_getElem? hx)
      unfold Fit at hf
      simp only at hf
      obtain ⟨n, hnn⟩ : ∃ n, countR (K.take k) = n := ⟨_, rfl⟩
      have hbd := count_bound (K.take k) 0 (by omega) (right_part K k HR.out)
      rw [hnn] at hct hbd
      rw [hnn]
      have HCT := Lib.hid hct; have HNN := Lib.hid hnn
      clear hx hsp hc hct hnn q6
      go_wp2_with fail
      go_big_quiet (fail)
      go_wp2
      go_roundw
      case rel => exact ⟨k + 1, by omega, by go_num, by rw [HCT.out]; congr 1; omega, below_drewNr HBZ.out nq⟩
      case measure => simp [intOf]; omega
    · have hkn : K.take k = K := List.take_of_length_le (by omega)
      have HK := Lib.hid hkn
      rw [hkn]
      clear hkn
      go_wp2
      go_ret
      exact ⟨K, HR.out, HP.out, rfl, HB.out.trans (HBZ.out.mono HB.out.size)⟩
end Go.Proofs.Ytghpmlkihgiabaa
