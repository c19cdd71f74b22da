/- What the questions asked of the document's input answer, and those of the program's that the first texts leave: whatever number is asked of. -/
import Derived.Test.YticghidkbpkefaaDoorRefNew
import Derived.Test.YticghidkbpkefaaDoorAsk
namespace Go.Proofs.YticghidkbpkefaaDoor
open Go Go.RowKit

set_option maxHeartbeats 400000 in
set_option maxRecDepth 100000 in
theorem rrune_in (d g : Nat) (w : World) (n c k : Nat) (x : Int) (hk : k < n) (_hn : n ≤ 9223372036854775807) (h2 : w.cell? ⟨d, 2, none⟩ = some (.slice (some ⟨g, 0, none⟩) n c)) (hx : w.cell? ⟨g, k, none⟩ = some (.int .i32 x)) :
    Calls Tryd.prog 14 #[.pointer (some ⟨d, 0, none⟩), .int .i64 k] w fun e w' => e = .returned (.int .i32 x) ∧ w = w' := by
  go_enter Tryd.func14, Tryd.ntmps14
  go_wp2
  go_ret
  exact ⟨rfl, rfl⟩
set_option maxHeartbeats 400000 in
set_option maxRecDepth 100000 in
theorem rrune_neg (d : Nat) (w : World) (a : Option Addr) (n c : Nat) (i : Int) (hi : i < 0) (_h2 : w.cell? ⟨d, 2, none⟩ = some (.slice a n c)) :
    Calls Tryd.prog 14 #[.pointer (some ⟨d, 0, none⟩), .int .i64 i] w fun e w' => e = .returned (.int .i32 (-1)) ∧ w = w' := by
  go_enter Tryd.func14, Tryd.ntmps14
  go_wp2
  go_ret
  exact ⟨rfl, rfl⟩
set_option maxHeartbeats 400000 in
set_option maxRecDepth 100000 in
theorem rrune_far (d : Nat) (w : World) (a : Option Addr) (n c : Nat) (i : Int) (h0 : 0 ≤ i) (hi : (n : Int) ≤ i) (h2 : w.cell? ⟨d, 2, none⟩ = some (.slice a n c)) :
    Calls Tryd.prog 14 #[.pointer (some ⟨d, 0, none⟩), .int .i64 i] w fun e w' => e = .returned (.int .i32 (-1)) ∧ w = w' := by
  go_enter Tryd.func14, Tryd.ntmps14
  go_wp2
  go_ret
  exact ⟨rfl, rfl⟩
set_option maxHeartbeats 400000 in
set_option maxRecDepth 100000 in
theorem roff_in (d g : Nat) (w : World) (n c k : Nat) (x : Int) (hk : k < n) (_hn : n ≤ 9223372036854775807) (h2 : w.cell? ⟨d, 3, none⟩ = some (.slice (some ⟨g, 0, none⟩) n c)) (hx : w.cell? ⟨g, k, none⟩ = some (.int .i64 x)) :
    Calls Tryd.prog 16 #[.pointer (some ⟨d, 0, none⟩), .int .i64 k] w fun e w' => e = .returned (.int .i64 x) ∧ w = w' := by
  go_enter Tryd.func16, Tryd.ntmps16
  go_wp2
  go_ret
  exact ⟨rfl, rfl⟩
set_option maxHeartbeats 400000 in
set_option maxRecDepth 100000 in
theorem roff_neg (d : Nat) (w : World) (a : Option Addr) (n c : Nat) (i : Int) (hi : i < 0) (_h2 : w.cell? ⟨d, 3, none⟩ = some (.slice a n c)) :
    Calls Tryd.prog 16 #[.pointer (some ⟨d, 0, none⟩), .int .i64 i] w fun e w' => e = .returned (.int .i64 (-1)) ∧ w = w' := by
  go_enter Tryd.func16, Tryd.ntmps16
  go_wp2
  go_ret
  exact ⟨rfl, rfl⟩
set_option maxHeartbeats 400000 in
set_option maxRecDepth 100000 in
theorem roff_far (d : Nat) (w : World) (a : Option Addr) (n c : Nat) (i : Int) (h0 : 0 ≤ i) (hi : (n : Int) ≤ i) (h2 : w.cell? ⟨d, 3, none⟩ = some (.slice a n c)) :
    Calls Tryd.prog 16 #[.pointer (some ⟨d, 0, none⟩), .int .i64 i] w fun e w' => e = .returned (.int .i64 (-1)) ∧ w = w' := by
  go_enter Tryd.func16, Tryd.ntmps16
  go_wp2
  go_ret
  exact ⟨rfl, rfl⟩
set_option maxHeartbeats 400000 in
set_option maxRecDepth 100000 in
theorem rlen_cell (d : Nat) (w : World) (a : Option Addr) (n c : Nat) (h2 : w.cell? ⟨d, 2, none⟩ = some (.slice a n c)) :
    Calls Tryd.prog 12 #[.pointer (some ⟨d, 0, none⟩)] w fun e w' => e = .returned (.int .i64 n) ∧ w = w' := by
  go_enter Tryd.func12, Tryd.ntmps12
  go_wp2
  go_ret
  exact ⟨rfl, rfl⟩
theorem rlen_any {B : Nat} {k : Int} {s : ByteArray} {d : Nat} {w : World} (h : RefIn w B k s d) :
    Calls Tryd.prog 12 #[.pointer (some ⟨d, 0, none⟩)] w fun e w' => e = .returned (.int .i64 ((runesOf s).length : Nat)) ∧ w = w' := by
  obtain ⟨_, _, g, cg, a, c, a', c', h1, _, _, _⟩ := h
  have h2 := h1.cell 2
  simp at h2
  exact rlen_cell d w a _ c h2
theorem rrune_any {B : Nat} {k : Int} {s : ByteArray} {d : Nat} {w : World} (h : RefIn w B k s d) (i : Int) :
    Calls Tryd.prog 14 #[.pointer (some ⟨d, 0, none⟩), .int .i64 i] w fun e w' => e = .returned (.int .i32 (runeAt (runesOf s) i)) ∧ w = w' := by
  obtain ⟨h0, _, g, cg, a, c, a', c', h1, _, h3, _⟩ := h
  have h2 := h1.cell 2
  simp at h2
  have hl := length_runesOf s
  by_cases hi : i < 0
  · rw [runeAt_out _ _ (by omega)]
    exact rrune_neg d w a _ c i hi h2
  · by_cases hi2 : ((runesOf s).length : Int) ≤ i
    · rw [runeAt_out _ _ (by omega)]
      exact rrune_far d w a _ c i (by omega) hi2 h2
    · obtain ⟨k, rfl⟩ : ∃ k : Nat, i = k := ⟨i.toNat, by omega⟩
      have hk : k < (runesOf s).length := by omega
      rw [runeAt_in _ k hk]
      obtain ⟨g, rfl, _, hc⟩ := h3 k hk
      exact rrune_in d g w _ c k _ hk (by omega) h2 hc
theorem roff_any {B : Nat} {k : Int} {s : ByteArray} {d : Nat} {w : World} (h : RefIn w B k s d) (i : Int) :
    Calls Tryd.prog 16 #[.pointer (some ⟨d, 0, none⟩), .int .i64 i] w fun e w' => e = .returned (.int .i64 (offAt (offsOf s) i)) ∧ w = w' := by
  obtain ⟨h0, _, g, cg, a, c, a', c', h1, _, _, h3, _⟩ := h
  have h2 := h1.cell 3
  simp at h2
  have hl := length_runesOf s
  have hl2 := length_offsOf s
  by_cases hi : i < 0
  · rw [offAt_out _ _ (by omega)]
    exact roff_neg d w a' _ c' i hi h2
  · by_cases hi2 : ((offsOf s).length : Int) ≤ i
    · rw [offAt_out _ _ (by omega)]
      exact roff_far d w a' _ c' i (by omega) hi2 h2
    · obtain ⟨k, rfl⟩ : ∃ k : Nat, i = k := ⟨i.toNat, by omega⟩
      have hk : k < (offsOf s).length := by omega
      rw [offAt_in _ k hk]
      obtain ⟨g, rfl, _, hc⟩ := h3 k hk
      exact roff_in d g w _ c' k _ hk (by omega) h2 hc
set_option maxHeartbeats 400000 in
set_option maxRecDepth 100000 in
theorem rword_any (x : Int) (w : World) :
    Calls Tryd.prog 32 #[.int .i32 x] w fun e w' => e = .returned (.bool (wordB x)) ∧ w = w' := by
  go_enter Tryd.func32, Tryd.ntmps32
  go_wp2
  all_goals
    go_ret
    refine ⟨ret_bool ?_, rfl⟩
    unfold wordB
    rw [Bool.eq_iff_iff]
    simp
    omega
set_option maxHeartbeats 400000 in
set_option maxRecDepth 100000 in
theorem rat_in {B : Nat} {k : Int} {s : ByteArray} {d : Nat} {w : World} (h : RefIn w B k s d) (i : Int) (h0 : 0 ≤ i) (h1 : i ≤ (runesOf s).length) :
    Calls Tryd.prog 20 #[.pointer (some ⟨d, 0, none⟩), .int .i64 i] w fun e w' => e = .returned (.int .i64 (atOf (runesOf s) i)) ∧ w = w' := by
  obtain ⟨x, hx⟩ : ∃ x, x = runeAt (runesOf s) (i - 1) := ⟨_, rfl⟩
  obtain ⟨y, hy⟩ : ∃ y, y = runeAt (runesOf s) i := ⟨_, rfl⟩
  obtain ⟨n, hn⟩ : ∃ n : Nat, n = (runesOf s).length := ⟨_, rfl⟩
  have cx := rrune_any h (i - 1)
  have cy := rrune_any h i
  rw [← hx] at cx
  rw [← hy] at cy
  have e : atOf (runesOf s) i = sumOf (wordB x != wordB y) (i == 0) (i == n) (i == 0 || x == 10) (i == n || y == 10) := by
    unfold atOf
    rw [if_pos ⟨h0, h1⟩, ← hx, ← hy, ← hn]
  rw [e]
  obtain ⟨hsz, _, g, cg, a, c, a', c', hW, _, _, _⟩ := h
  have h3 := hW.cell 2
  simp only [List.getElem?_toArray, List.getElem?_cons_succ, List.getElem?_cons_zero] at h3
  have hl := length_runesOf s
  rw [← hn] at hl h1 h3
  have hd : decide ((n : Int) < i) = false := by simpa using h1
  have HX := Lib.hid cx; have HY := Lib.hid cy
  clear cx cy hx hy hn e hW
  go_enter Tryd.func20, Tryd.ntmps20
  go_wp2_with fail
  refine HX.out.mono ?_
  rintro e w' ⟨rfl, rfl⟩
  go_wp2_with fail
  refine HY.out.mono ?_
  rintro e w' ⟨rfl, rfl⟩
  go_wp2_with (first
    | (go_at_call 32; ((with_reducible refine (rword_any x w).mono ?_); rintro e w' ⟨rfl, rfl⟩))
    | (go_at_call 32; ((with_reducible refine (rword_any y w).mono ?_); rintro e w' ⟨rfl, rfl⟩)))
  all_goals
    go_ret
    refine ⟨ret_int ?_, rfl⟩
    simp [sumOf, bne, *]
set_option maxHeartbeats 400000 in
set_option maxRecDepth 100000 in
theorem rat_out {B : Nat} {k : Int} {s : ByteArray} {d : Nat} {w : World} (h : RefIn w B k s d) (i : Int) (h0 : i < 0 ∨ (runesOf s).length < i) :
    Calls Tryd.prog 20 #[.pointer (some ⟨d, 0, none⟩), .int .i64 i] w fun e w' => e = .returned (.int .i64 (atOf (runesOf s) i)) ∧ w = w' := by
  obtain ⟨n, hn⟩ : ∃ n : Nat, n = (runesOf s).length := ⟨_, rfl⟩
  have e : atOf (runesOf s) i = 0 := by
    unfold atOf
    rw [if_neg (by omega)]
  rw [e]
  obtain ⟨hsz, _, g, cg, a, c, a', c', hW, _, _, _⟩ := h
  have h3 := hW.cell 2
  simp only [List.getElem?_toArray, List.getElem?_cons_succ, List.getElem?_cons_zero] at h3
  rw [← hn] at h0 h3
  clear hn e hW
  rcases h0 with h0 | h0
  · go_enter Tryd.func20, Tryd.ntmps20
    go_wp2
    go_ret
    exact ⟨rfl, rfl⟩
  · have h1 : ¬ i < 0 := by omega
    go_enter Tryd.func20, Tryd.ntmps20
    go_wp2
    go_ret
    exact ⟨rfl, rfl⟩
set_option maxHeartbeats 400000 in
set_option maxRecDepth 100000 in
theorem at_out {B : Nat} {k : Int} {s : ByteArray} {b : Nat} {w : World} (h : In w B k s b) (i : Int) (h0 : i < 0 ∨ (runesOf s).length < i) :
    Calls Tryd.prog 19 #[.pointer (some ⟨b, 1, none⟩), .int .i64 i] w fun e w' => e = .returned (.int .i64 (atOf (runesOf s) i)) ∧ w = w' := by
  obtain ⟨n, hn⟩ : ∃ n : Nat, n = (runesOf s).length := ⟨_, rfl⟩
  have e : atOf (runesOf s) i = 0 := by
    unfold atOf
    rw [if_neg (by omega)]
  rw [e]
  have hpl : n + 1 = (offsOf s).length := by rw [length_offsOf, hn]
  obtain ⟨hsz, _, a, c, a', c', hW, _, _⟩ := h
  have h3 := hW.cell 3
  simp only [List.getElem?_toArray, List.getElem?_cons_succ, List.getElem?_cons_zero] at h3
  rw [← hn] at h0
  rw [← hpl] at h3
  clear hn e hW hpl
  rcases h0 with h0 | h0
  · go_enter Tryd.func19, Tryd.ntmps19
    go_wp2
    go_ret
    exact ⟨rfl, rfl⟩
  · have h1 : ¬ i < 0 := by omega
    have hd : decide (i < (n : Int) + 1) = false := by simp; omega
    go_enter Tryd.func19, Tryd.ntmps19
    go_wp2
    go_ret
    exact ⟨rfl, rfl⟩
theorem at_any {B : Nat} {k : Int} {s : ByteArray} {b : Nat} {w : World} (h : In w B k s b) (i : Int) :
    Calls Tryd.prog 19 #[.pointer (some ⟨b, 1, none⟩), .int .i64 i] w fun e w' => e = .returned (.int .i64 (atOf (runesOf s) i)) ∧ w = w' := by
  by_cases h0 : 0 ≤ i ∧ i ≤ (runesOf s).length
  · exact at_in h i h0.1 h0.2
  · exact at_out h i (by omega)
theorem rat_any {B : Nat} {k : Int} {s : ByteArray} {d : Nat} {w : World} (h : RefIn w B k s d) (i : Int) :
    Calls Tryd.prog 20 #[.pointer (some ⟨d, 0, none⟩), .int .i64 i] w fun e w' => e = .returned (.int .i64 (atOf (runesOf s) i)) ∧ w = w' := by
  by_cases h0 : 0 ≤ i ∧ i ≤ (runesOf s).length
  · exact rat_in h i h0.1 h0.2
  · exact rat_out h i (by omega)
end Go.Proofs.YticghidkbpkefaaDoor
