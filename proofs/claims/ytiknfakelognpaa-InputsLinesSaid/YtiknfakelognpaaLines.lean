/- The walks of InputsLines: whatever kind, whatever text that can be read: true, and what lay lies as it lay. -/
import Derived.Test.YtiknfakelognpaaHead
import Derived.Test.YtiknfakelognpaaRow
namespace Go.Proofs.Ytiknfakelognpaa
open Go Go.RowKit

set_option maxHeartbeats 400000 in
set_option maxRecDepth 100000 in
theorem lines_bad (k : Int) (h1 : (k == 1) = false) (h2 : (k == 2) = false) (h3 : (k == 3) = false) (A : Option Addr) (n c : Nat) (w : World) :
    Calls Try.prog 4 #[.int .i64 k, .slice A n c] w (HeadPost w) := by
  go_enter Try.func4, Try.ntmps4
  go_wp2_with fail
  refine (head_any w).mono ?_
  rintro e w1 ⟨rfl, hB⟩
  have HB := Lib.hid hB; clear hB
  go_wp2_with fail
  refine (new_bad k h1 h2 h3 A n c w1).mono ?_
  rintro e w2 ⟨rfl, rfl⟩
  go_wp2
  go_ret
  exact ⟨rfl, HB.out⟩
set_option maxHeartbeats 400000 in
set_option maxRecDepth 100000 in
theorem lines_long (k : Int) (hk : k = 1 ∨ k = 2 ∨ k = 3) (A : Option Addr) (n c : Nat) (w : World) (hs : (65536 : Int) < n) :
    Calls Try.prog 4 #[.int .i64 k, .slice A n c] w (HeadPost w) := by
  have HK := Lib.hid hk; clear hk
  go_enter Try.func4, Try.ntmps4
  go_wp2_with fail
  refine (head_any w).mono ?_
  rintro e w1 ⟨rfl, hB⟩
  have HB := Lib.hid hB; clear hB
  go_wp2_with fail
  refine (new_long k HK.out A n c w1 hs).mono ?_
  rintro e w2 ⟨rfl, rfl⟩
  go_wp2
  go_ret
  exact ⟨rfl, HB.out⟩
set_option maxHeartbeats 1000000 in
set_option maxRecDepth 100000 in
theorem lines_ok (k : Int) (hk : k = 1 ∨ k = 2 ∨ k = 3) (A : Option Addr) (c : Nat) (s : ByteArray) (w : World) (hs : (s.size : Int) ≤ 65536)
    (hconv : ∀ W, Below w.heap.size w W → (convert 22 9 (.slice A s.size c)).run Try.prog W = .ok (.string s) W) :
    Calls Try.prog 4 #[.int .i64 k, .slice A s.size c] w (HeadPost w) := by
  have HK := Lib.hid hk; have HC := Lib.hid hconv; clear hk hconv
  go_enter Try.func4, Try.ntmps4
  go_wp2_with fail
  refine (head_any w).mono ?_
  rintro e w1 ⟨rfl, hB⟩
  have HB := Lib.hid hB; clear hB
  go_wp2_with fail
  refine (new_one k HK.out A c s w1 hs (HC.out w1 HB.out)).mono ?_
  rintro e w2 ⟨b, rfl, hb, hI, hB2⟩
  have HB2 := Lib.hid (HB.out.trans (hB2.mono HB.out.size)); have HI := Lib.hid hI; clear hb hI hB2
  obtain ⟨n, hn⟩ : ∃ n : Nat, n = (runesOf s).length := ⟨_, rfl⟩
  have cl := len_any HI.out
  have hl : n ≤ s.size := by rw [hn]; exact length_runesOf s
  rw [← hn] at cl
  have HL := Lib.hid cl; have HN := Lib.hid hn; clear cl hn
  go_wp2_with fail
  go_loop [8] (fun i => ∃ m : Nat, m ≤ n + 1 ∧ i = .int .i64 m) (fun i => n + 1 - (intOf i).toNat)
  case atStart => exact ⟨0, by omega, rfl⟩
  case round =>
    obtain ⟨m, hm, rfl⟩ := hrel
    by_cases hlt : m ≤ n
    · obtain ⟨x, hx⟩ : ∃ x, x = runeAt (runesOf s) ((m : Int) - 1) := ⟨_, rfl⟩
      obtain ⟨y, hy⟩ : ∃ y, y = runeAt (runesOf s) (m : Int) := ⟨_, rfl⟩
      obtain ⟨z, hz⟩ : ∃ z, z = atOf (runesOf s) (m : Int) := ⟨_, rfl⟩
      have cx := rune_any HI.out ((m : Int) - 1)
      have cy := rune_any HI.out (m : Int)
      have ca := at_in HI.out (m : Int) (by omega) (by have := HN.out; omega)
      rw [← hx] at cx
      rw [← hy] at cy
      rw [← hz] at ca
      obtain ⟨W, hW⟩ : ∃ W, z = sumOf W ((m : Int) == 0) ((m : Int) == (n : Int)) ((m : Int) == 0 || x == 10) ((m : Int) == (n : Int) || y == 10) :=
        ⟨wordB x != wordB y, by rw [hz]; unfold atOf; rw [if_pos ⟨by omega, by have := HN.out; omega⟩, ← hx, ← hy, ← HN.out]⟩
      obtain ⟨F, hF⟩ : ∃ F, ((m : Int) == 0) = F := ⟨_, rfl⟩
      obtain ⟨L, hL⟩ : ∃ L, ((m : Int) == (n : Int)) = L := ⟨_, rfl⟩
      obtain ⟨X, hX⟩ : ∃ X, (x == 10) = X := ⟨_, rfl⟩
      obtain ⟨Y, hY⟩ : ∃ Y, (y == 10) = Y := ⟨_, rfl⟩
      rw [hF, hL, hX, hY] at hW
      have b1 := bit1 W F L (F || X) (L || Y)
      have b2 := bit2 W F L (F || X) (L || Y)
      have b4 := bit4 W F L (F || X) (L || Y)
      have b8 := bit8 W F L (F || X) (L || Y)
      have b16 := bit16 W F L (F || X) (L || Y)
      have b32 := bit32 W F L (F || X) (L || Y)
      rw [← hW] at b1 b2 b4 b8 b16 b32
      have HX := Lib.hid cx; have HY := Lib.hid cy; have HA := Lib.hid ca
      clear hx hy hz cx cy ca hW
      go_wp2_with (first
        | (go_at_call 7; refine HL.out.mono ?_; rintro e w' ⟨rfl, rfl⟩)
        | (go_at_call 10; refine HA.out.mono ?_; rintro e w' ⟨rfl, rfl⟩)
        | (go_at_call 8; ((with_reducible refine HX.out.mono ?_); rintro e w' ⟨rfl, rfl⟩))
        | (go_at_call 8; ((with_reducible refine HY.out.mono ?_); rintro e w' ⟨rfl, rfl⟩)))
      all_goals
        go_round
        case rel => exact ⟨m + 1, by omega, by go_num⟩
        case measure => simp [intOf]; omega
    · go_wp2_with (first
        | (go_at_call 7; refine HL.out.mono ?_; rintro e w' ⟨rfl, rfl⟩))
      go_ret
      exact ⟨rfl, HB2.out⟩

theorem lines_any (k : Int) (A : Option Addr) (n c : Nat) (zs : List Int) (w : World) (h : IsRow .u8 w A n c zs) :
    Calls Try.prog 4 #[.int .i64 k, .slice A n c] w (HeadPost w) := by
  by_cases hk : k = 1 ∨ k = 2 ∨ k = 3
  · by_cases hs : (65536 : Int) < n
    · exact lines_long k hk A n c w hs
    · obtain ⟨s, rfl, hconv⟩ := conv_row h
      exact lines_ok k hk A c s w (by omega) hconv
  · exact lines_bad k (by simp; omega) (by simp; omega) (by simp; omega) A n c w
end Go.Proofs.Ytiknfakelognpaa
