/- Texts merged by program: EncL. No condition. -/
import Derived.Test.YthnddabcmhplkaaDoorK16
import Derived.Test.YthnddabcmhplkaaDoorK3
set_option linter.unusedVariables false
/- A rune written as UTF-8, byte by byte. Plain side. -/
namespace Go.Proofs.YthnddabcmhplkaaDoor
open Go Go.RowKit

theorem encode_list (r : Int) (h : IsRune r) : (Utf8.encode r).toList = Lib.encodeRune r := by
  obtain ⟨h0, h1⟩ := h
  have hv : Utf8.valid r = true := by unfold Utf8.valid; simp; omega
  rw [Lib.toList_data]
  unfold Utf8.encode Lib.encodeRune
  simp only [hv, if_true]
  by_cases c1 : r ≤ 127
  · rw [Lib.encodeRuneZ_one h0 c1, if_pos (by omega)]
    rfl
  rw [if_neg (by omega)]
  by_cases c2 : r ≤ 2047
  · rw [Lib.encodeRuneZ_two (by omega) c2, if_pos (by omega)]
    simp only [List.map_cons, List.map_nil]
    rw [show (192 + r / 64).toNat = 192 + r.toNat / 64 by omega, show (128 + r % 64).toNat = 128 + r.toNat % 64 by omega]
    try rfl
  rw [if_neg (by omega)]
  by_cases c3 : r ≤ 65535
  · rw [Lib.encodeRuneZ_three (by omega), if_pos (by omega)]
    simp only [List.map_cons, List.map_nil]
    rw [show (224 + r / 4096).toNat = 224 + r.toNat / 4096 by omega, show (128 + r / 64 % 64).toNat = 128 + r.toNat / 64 % 64 by omega, show (128 + r % 64).toNat = 128 + r.toNat % 64 by omega]
    try rfl
  rw [if_neg (by omega), Lib.encodeRuneZ_four (by omega) (by omega)]
  simp only [List.map_cons, List.map_nil]
  rw [show (240 + r / 262144).toNat = 240 + r.toNat / 262144 by omega, show (128 + r / 4096 % 64).toNat = 128 + r.toNat / 4096 % 64 by omega, show (128 + r / 64 % 64).toNat = 128 + r.toNat / 64 % 64 by omega, show (128 + r % 64).toNat = 128 + r.toNat % 64 by omega]
  try rfl
theorem enc_high {r : Int} (h : IsRune r) (h2 : 127 < r) : ∀ c ∈ Lib.encodeRune r, 128 ≤ c.toNat := by
  obtain ⟨h0, h1⟩ := h
  unfold Lib.encodeRune
  by_cases c2 : r ≤ 2047
  · rw [Lib.encodeRuneZ_two (by omega) c2]
    intro c hc
    simp only [List.map_cons, List.map_nil, List.mem_cons, List.not_mem_nil, or_false] at hc
    rcases hc with rfl | rfl <;> rw [byte_of _ (by omega) (by omega)] <;> omega
  by_cases c3 : r ≤ 65535
  · rw [Lib.encodeRuneZ_three (by omega)]
    intro c hc
    simp only [List.map_cons, List.map_nil, List.mem_cons, List.not_mem_nil, or_false] at hc
    rcases hc with rfl | rfl | rfl <;> rw [byte_of _ (by omega) (by omega)] <;> omega
  rw [Lib.encodeRuneZ_four (by omega) (by omega)]
  intro c hc
  simp only [List.map_cons, List.map_nil, List.mem_cons, List.not_mem_nil, or_false] at hc
  rcases hc with rfl | rfl | rfl | rfl <;> rw [byte_of _ (by omega) (by omega)] <;> omega
theorem enc_low {r : Int} (h0 : 0 ≤ r) (h1 : r ≤ 127) : ∃ c : UInt8, Lib.encodeRune r = [c] ∧ (c.toNat : Int) = r := by
  unfold Lib.encodeRune
  rw [Lib.encodeRuneZ_one h0 h1]
  exact ⟨_, rfl, by rw [byte_of r h0 (by omega)]; omega⟩
end Go.Proofs.YthnddabcmhplkaaDoor
