/- Texts merged by program: PxMoved. No condition. -/
import Derived.Test.YtnemacejaiifnaaQ8
import Derived.Test.YtnemacejaiifnaaQ55
set_option linter.unusedVariables false
/- How far the last rune may be moved: Index's closure; what Index is to tell. No condition. -/
namespace Go.Proofs.Ytnemacejaiifnaa
open Go Go.RowKit

/-- r is how far l's last rune may be moved, where c stands at its place. -/
def MovedIs (l : List Int) (c : Int) (r : Nat) : Prop := r ≤ l.length ∧ (1 ≤ l.length → 1 ≤ r) ∧ ∀ d, 1 ≤ d → d < r → d < l.length → l.getD (l.length - 1 - d) 0 ≠ c
/-- The runes l stand wholly in R at i. -/
def Lies (R l : List Int) (i : Nat) : Prop := i + l.length ≤ R.length ∧ Stands R l i
/-- What Index tells: the least place not below from at which l stands in R. -/
def IndexIs (R l : List Int) (from' : Int) (r : Int) : Prop := (r = -1 ∧ ∀ i : Nat, from' ≤ (i : Int) → ¬ Lies R l i) ∨ ∃ i : Nat, r = (i : Int) ∧ from' ≤ (i : Int) ∧ Lies R l i ∧ ∀ j : Nat, from' ≤ (j : Int) → j < i → ¬ Lies R l j
theorem IndexIs.eq {R l : List Int} {f r s : Int} (h : IndexIs R l f r) (k : IndexIs R l f s) : r = s := by
  rcases h with ⟨rfl, h⟩ | ⟨i, rfl, h1, h2, h3⟩ <;> rcases k with ⟨rfl, k⟩ | ⟨j, rfl, k1, k2, k3⟩
  · rfl
  · exact absurd k2 (h j k1)
  · exact absurd h2 (k i h1)
  · by_cases e : i < j
    · exact absurd h2 (k3 i h1 e)
    · by_cases e2 : j < i
      · exact absurd k2 (h3 j k1 e2)
      · omega
/-- Where l does not stand at i, it stands nowhere up to where its last rune may be moved. -/
theorem moved_far {R l : List Int} {i r : Nat} (hm : MovedIs l (runeAt R ((i + l.length : Nat) - 1 : Int)) r) (hi : ¬ Lies R l i) : ∀ j, i ≤ j → j < i + r → ¬ Lies R l j := by
  intro j h1 h2 hj
  by_cases e : j = i
  · subst e; exact hi hj
  have hr := hm.1
  have h3 := hm.2.2 (j - i) (by omega) (by omega) (by omega)
  apply h3
  have h4 := hj.2 (l.length - 1 - (j - i)) (by omega)
  rw [← h4]
  congr 1
  omega

set_option maxHeartbeats 1600000 in
set_option maxRecDepth 100000 in
theorem moved_any (l : List Int) (hlen : l.length ≤ 8000000000000000) (c : Int) (w : World) (lb bb : Nat) (v : Value) (h1 : w.cell? ⟨lb, 0, none⟩ = some (.int .i64 ((l.length : Int) - 1))) (h2 : w.cell? ⟨bb, 0, none⟩ = some v) (hR : Rns w v l) :
    Calls Try.prog 48 #[.int .i32 c, .pointer (some ⟨lb, 0, none⟩), .pointer (some ⟨bb, 0, none⟩)] w fun e w' => ∃ r : Nat, e = .returned (.int .i64 r) ∧ w' = w ∧ MovedIs l c r := by
  obtain ⟨A, cc, rfl, hlc, hcm, -, hrow, -⟩ := hR
  have HROW := Lib.hid hrow
  obtain ⟨N, hN⟩ : ∃ N, l.length = N := ⟨_, rfl⟩
  have HN := Lib.hid hN
  rw [hN] at h1 h2 hlen hlc
  obtain ⟨L, hL⟩ : ∃ L : Int, (N : Int) - 1 = L := ⟨_, rfl⟩
  rw [hL] at h1
  clear hrow hN
  go_enter Try.func48, Try.ntmps48
  go_wp2_with fail
  go_loopw [5] (fun i wr => ∃ k : Nat, 1 ≤ k ∧ (k ≤ N ∨ k = 1) ∧ i = .int .i64 (k : Int) ∧ wr = w ∧ ∀ d, 1 ≤ d → d < k → l.getD (l.length - 1 - d) 0 ≠ c) (fun i _ => N + 1 - (intOf i).toNat)
  case atStart => exact ⟨1, by omega, by omega, rfl, rfl, fun d h1 h2 => by omega⟩
  case round =>
    obtain ⟨k, hk1, hk2, rfl, rfl, hd⟩ := hrel
    have HD := Lib.hid hd
    clear hd
    by_cases hkn : (k : Int) ≤ L
    · have hde : decide ((k : Int) ≤ L) = true := decide_eq_true hkn
      have hm : N - 1 - k < l.length := by rw [HN.out]; omega
      rcases HROW.out with h | ⟨b, o, rfl, hc⟩
      · rw [h] at hm; simp at hm
      have c1 := hc _ hm
      obtain ⟨y, hy⟩ : ∃ y, l[N - 1 - k] = y := ⟨_, rfl⟩
      have HY := Lib.hid (show l.getD (l.length - 1 - k) 0 = y by rw [HN.out, ← hy]; simp [List.getD, hm])
      rw [hy] at c1
      have hme : N - 1 - k = L.toNat - k := by omega
      rw [hme] at c1
      have hmN : L.toNat - k < N := by omega
      clear hc hy hm hme
      by_cases hyc : y = c
      · subst hyc
        go_wp2_with fail
        go_ret
        refine ⟨k, rfl, rfl, by rw [HN.out]; omega, fun _ => hk1, fun d h1 h2 _ => HD.out d h1 h2⟩
      · have hye : (y == c) = false := beq_eq_false_iff_ne.2 hyc
        go_wp2_with fail
        go_roundw
        case rel => exact ⟨k + 1, by omega, by omega, by go_num, by first | rfl | trivial, fun d h1 h2 => by
          by_cases e : d = k
          · subst e; rw [HY.out]; exact hyc
          · exact HD.out d h1 (by omega)⟩
        case measure => simp [intOf]; omega
    · have hde : decide ((k : Int) ≤ L) = false := decide_eq_false hkn
      go_wp2_with fail
      go_ret
      refine ⟨N, rfl, rfl, by rw [HN.out]; omega, fun _ => by have := HN.out; omega, fun d h1 h2 h3 => HD.out d h1 (by omega)⟩
end Go.Proofs.Ytnemacejaiifnaa
