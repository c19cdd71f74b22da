/- What the questions asked of an input answer: how many runes, a rune, its byte, what a place is: whatever number is asked of. -/
import Derived.Test.YticghidkbpkefaaDoorNew
namespace Go.Proofs.YticghidkbpkefaaDoor
open Go Go.RowKit

set_option maxHeartbeats 400000 in
set_option maxRecDepth 100000 in
theorem len_cell (b : Nat) (w : World) (a : Option Addr) (n c : Nat) (h2 : w.cell? ⟨b, 2, none⟩ = some (.slice a n c)) :
    Calls Tryd.prog 11 #[.pointer (some ⟨b, 1, none⟩)] w fun e w' => e = .returned (.int .i64 n) ∧ w = w' := by
  go_enter Tryd.func11, Tryd.ntmps11
  go_wp2
  go_ret
  exact ⟨rfl, rfl⟩
set_option maxHeartbeats 400000 in
set_option maxRecDepth 100000 in
theorem rune_in (b g : Nat) (w : World) (n c k : Nat) (x : Int) (hk : k < n) (_hn : n ≤ 9223372036854775807) (h2 : w.cell? ⟨b, 2, none⟩ = some (.slice (some ⟨g, 0, none⟩) n c)) (hx : w.cell? ⟨g, k, none⟩ = some (.int .i32 x)) :
    Calls Tryd.prog 13 #[.pointer (some ⟨b, 1, none⟩), .int .i64 k] w fun e w' => e = .returned (.int .i32 x) ∧ w = w' := by
  go_enter Tryd.func13, Tryd.ntmps13
  go_wp2
  go_ret
  exact ⟨rfl, rfl⟩
set_option maxHeartbeats 400000 in
set_option maxRecDepth 100000 in
theorem rune_neg (b : Nat) (w : World) (a : Option Addr) (n c : Nat) (i : Int) (hi : i < 0) (_h2 : w.cell? ⟨b, 2, none⟩ = some (.slice a n c)) :
    Calls Tryd.prog 13 #[.pointer (some ⟨b, 1, none⟩), .int .i64 i] w fun e w' => e = .returned (.int .i32 (-1)) ∧ w = w' := by
  go_enter Tryd.func13, Tryd.ntmps13
  go_wp2
  go_ret
  exact ⟨rfl, rfl⟩
set_option maxHeartbeats 400000 in
set_option maxRecDepth 100000 in
theorem rune_far (b : Nat) (w : World) (a : Option Addr) (n c : Nat) (i : Int) (h0 : 0 ≤ i) (hi : (n : Int) ≤ i) (h2 : w.cell? ⟨b, 2, none⟩ = some (.slice a n c)) :
    Calls Tryd.prog 13 #[.pointer (some ⟨b, 1, none⟩), .int .i64 i] w fun e w' => e = .returned (.int .i32 (-1)) ∧ w = w' := by
  go_enter Tryd.func13, Tryd.ntmps13
  go_wp2
  go_ret
  exact ⟨rfl, rfl⟩
set_option maxHeartbeats 400000 in
set_option maxRecDepth 100000 in
theorem off_in (b g : Nat) (w : World) (n c k : Nat) (x : Int) (hk : k < n) (_hn : n ≤ 9223372036854775807) (h3 : w.cell? ⟨b, 3, none⟩ = some (.slice (some ⟨g, 0, none⟩) n c)) (hx : w.cell? ⟨g, k, none⟩ = some (.int .i64 x)) :
    Calls Tryd.prog 15 #[.pointer (some ⟨b, 1, none⟩), .int .i64 k] w fun e w' => e = .returned (.int .i64 x) ∧ w = w' := by
  go_enter Tryd.func15, Tryd.ntmps15
  go_wp2
  go_ret
  exact ⟨rfl, rfl⟩
set_option maxHeartbeats 400000 in
set_option maxRecDepth 100000 in
theorem off_neg (b : Nat) (w : World) (a : Option Addr) (n c : Nat) (i : Int) (hi : i < 0) (_h3 : w.cell? ⟨b, 3, none⟩ = some (.slice a n c)) :
    Calls Tryd.prog 15 #[.pointer (some ⟨b, 1, none⟩), .int .i64 i] w fun e w' => e = .returned (.int .i64 (-1)) ∧ w = w' := by
  go_enter Tryd.func15, Tryd.ntmps15
  go_wp2
  go_ret
  exact ⟨rfl, rfl⟩
set_option maxHeartbeats 400000 in
set_option maxRecDepth 100000 in
theorem off_far (b : Nat) (w : World) (a : Option Addr) (n c : Nat) (i : Int) (h0 : 0 ≤ i) (hi : decide (i < (n : Int)) = false) (h3 : w.cell? ⟨b, 3, none⟩ = some (.slice a n c)) :
    Calls Tryd.prog 15 #[.pointer (some ⟨b, 1, none⟩), .int .i64 i] w fun e w' => e = .returned (.int .i64 (-1)) ∧ w = w' := by
  go_enter Tryd.func15, Tryd.ntmps15
  go_wp2
  go_ret
  exact ⟨rfl, rfl⟩

theorem ret_bool {a b : Bool} (h : a = b) : Ending.returned (.bool a) = .returned (.bool b) := by rw [h]
theorem ret_int {k : IntKind} {a b : Int} (h : a = b) : Ending.returned (.int k a) = .returned (.int k b) := by rw [h]
theorem len_any {B : Nat} {k : Int} {s : ByteArray} {b : Nat} {w : World} (h : In w B k s b) :
    Calls Tryd.prog 11 #[.pointer (some ⟨b, 1, none⟩)] w fun e w' => e = .returned (.int .i64 ((runesOf s).length : Nat)) ∧ w = w' := by
  obtain ⟨_, _, a, c, a', c', h1, _, _⟩ := h
  have h2 := h1.cell 2
  simp at h2
  exact len_cell b w a _ c h2
theorem rune_any {B : Nat} {k : Int} {s : ByteArray} {b : Nat} {w : World} (h : In w B k s b) (i : Int) :
    Calls Tryd.prog 13 #[.pointer (some ⟨b, 1, none⟩), .int .i64 i] w fun e w' => e = .returned (.int .i32 (runeAt (runesOf s) i)) ∧ w = w' := by
  obtain ⟨h0, _, a, c, a', c', h1, h3, _⟩ := h
  have h2 := h1.cell 2
  simp at h2
  have hl := length_runesOf s
  by_cases hi : i < 0
  · rw [runeAt_out _ _ (by omega)]
    exact rune_neg b w a _ c i hi h2
  · by_cases hi2 : ((runesOf s).length : Int) ≤ i
    · rw [runeAt_out _ _ (by omega)]
      exact rune_far b w a _ c i (by omega) hi2 h2
    · obtain ⟨k, rfl⟩ : ∃ k : Nat, i = k := ⟨i.toNat, by omega⟩
      have hk : k < (runesOf s).length := by omega
      rw [runeAt_in _ k hk]
      obtain ⟨g, rfl, _, hc⟩ := h3 k hk
      exact rune_in b g w _ c k _ hk (by omega) h2 hc
theorem off_any {B : Nat} {k : Int} {s : ByteArray} {b : Nat} {w : World} (h : In w B k s b) (i : Int) :
    Calls Tryd.prog 15 #[.pointer (some ⟨b, 1, none⟩), .int .i64 i] w fun e w' => e = .returned (.int .i64 (offAt (offsOf s) i)) ∧ w = w' := by
  obtain ⟨h0, _, a, c, a', c', h1, _, h3⟩ := h
  have h2 := h1.cell 3
  simp at h2
  have hl := length_runesOf s
  have hl2 := length_offsOf s
  by_cases hi : i < 0
  · rw [offAt_out _ _ (by omega)]
    exact off_neg b w a' _ c' i hi h2
  · by_cases hi2 : ((offsOf s).length : Int) ≤ i
    · rw [offAt_out _ _ (by omega)]
      exact off_far b w a' _ c' i (by omega) (by simpa using hi2) h2
    · obtain ⟨k, rfl⟩ : ∃ k : Nat, i = k := ⟨i.toNat, by omega⟩
      have hk : k < (offsOf s).length := by omega
      rw [offAt_in _ k hk]
      obtain ⟨g, rfl, _, hc⟩ := h3 k hk
      exact off_in b g w _ c' k _ hk (by omega) h2 hc

set_option maxHeartbeats 400000 in
set_option maxRecDepth 100000 in
theorem word_any (x : Int) (w : World) :
    Calls Tryd.prog 31 #[.int .i32 x] w fun e w' => e = .returned (.bool (wordB x)) ∧ w = w' := by
  go_enter Tryd.func31, Tryd.ntmps31
  go_wp2
  all_goals
    go_ret
    refine ⟨ret_bool ?_, rfl⟩
    unfold wordB
    rw [Bool.eq_iff_iff]
    simp
    omega

set_option maxHeartbeats 400000 in
set_option maxRecDepth 100000 in
theorem place_yes (b : Nat) (w : World) (a : Option Addr) (n c : Nat) (i : Int) (h0 : 0 ≤ i) (hi : i < (n : Int)) (h3 : w.cell? ⟨b, 3, none⟩ = some (.slice a n c)) :
    Calls Tryd.prog 29 #[.pointer (some ⟨b, 1, none⟩), .int .i64 i] w fun e w' => e = .returned (.bool true) ∧ w = w' := by
  go_enter Tryd.func29, Tryd.ntmps29
  go_wp2
  go_ret
  exact ⟨rfl, rfl⟩
set_option maxHeartbeats 400000 in
set_option maxRecDepth 100000 in
/-- At a place: the five answers decided one by one. -/
theorem at_in {B : Nat} {k : Int} {s : ByteArray} {b : Nat} {w : World} (h : In w B k s b) (i : Int) (h0 : 0 ≤ i) (h1 : i ≤ (runesOf s).length) :
    Calls Tryd.prog 19 #[.pointer (some ⟨b, 1, none⟩), .int .i64 i] w fun e w' => e = .returned (.int .i64 (atOf (runesOf s) i)) ∧ w = w' := by
  obtain ⟨x, hx⟩ : ∃ x, x = runeAt (runesOf s) (i - 1) := ⟨_, rfl⟩
  obtain ⟨y, hy⟩ : ∃ y, y = runeAt (runesOf s) i := ⟨_, rfl⟩
  obtain ⟨n, hn⟩ : ∃ n : Nat, n = (runesOf s).length := ⟨_, rfl⟩
  have cl := len_any h
  have cx := rune_any h (i - 1)
  have cy := rune_any h i
  rw [← hx] at cx
  rw [← hy] at cy
  rw [← hn] at cl
  have e : atOf (runesOf s) i = sumOf (wordB x != wordB y) (i == 0) (i == n) (i == 0 || x == 10) (i == n || y == 10) := by
    unfold atOf
    rw [if_pos ⟨h0, h1⟩, ← hx, ← hy, ← hn]
  rw [e]
  have hpl : n + 1 = (offsOf s).length := by rw [length_offsOf, hn]
  obtain ⟨hsz, _, a, c, a', c', hW, _, _⟩ := h
  have h3 := hW.cell 3
  simp only [List.getElem?_toArray, List.getElem?_cons_succ, List.getElem?_cons_zero] at h3
  rw [← hpl] at h3
  have hl := length_runesOf s
  rw [← hn] at hl h1
  have HL := Lib.hid cl; have HX := Lib.hid cx; have HY := Lib.hid cy
  clear cl cx cy hx hy hn e hpl hW
  go_enter Tryd.func19, Tryd.ntmps19
  go_wp2_with fail
  refine (place_yes b w a' (n + 1) c' i h0 (by omega) h3).mono ?_
  rintro e w' ⟨rfl, rfl⟩
  go_wp2_with fail
  refine HL.out.mono ?_
  rintro e w' ⟨rfl, rfl⟩
  go_wp2_with fail
  refine HX.out.mono ?_
  rintro e w' ⟨rfl, rfl⟩
  go_wp2_with fail
  refine HY.out.mono ?_
  rintro e w' ⟨rfl, rfl⟩
  go_wp2_with fail
  refine (word_any x w).mono ?_
  rintro e w' ⟨rfl, rfl⟩
  go_wp2_with fail
  refine (word_any y w).mono ?_
  rintro e w' ⟨rfl, rfl⟩
  go_wp2
  all_goals
    go_ret
    refine ⟨ret_int ?_, rfl⟩
    simp [sumOf, bne, *]
end Go.Proofs.YticghidkbpkefaaDoor
