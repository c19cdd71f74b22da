/- Texts merged by program: BrRead. No condition. -/
import Derived.Test.YtmaigjdmjmonbaaGreatDoorK15
import Derived.Test.YtmaigjdmjmonbaaGreatDoorK36
set_option linter.unusedVariables false
/- What a class of two runes with a - between is read as. Plain side. -/
namespace Go.Proofs.YtmaigjdmjmonbaaGreatDoor
open Go Go.RowKit

theorem encode_list (r : Int) (h : IsRune r) : (Utf8.encode r).toList = Lib.encodeRune r := by
  obtain ⟨h0, h1⟩ := h
  have hv : Utf8.valid r = true := by unfold Utf8.valid; simp; omega
  rw [Lib.toList_data]
  unfold Utf8.encode Lib.encodeRune
  simp only [hv, if_true]
  by_cases c1 : r ≤ 127
  · rw [Lib.encodeRuneZ_one h0 c1, if_pos (by omega)]
    rfl
  rw [if_neg (by omega)]
  by_cases c2 : r ≤ 2047
  · rw [Lib.encodeRuneZ_two (by omega) c2, if_pos (by omega)]
    simp only [List.map_cons, List.map_nil]
    rw [show (192 + r / 64).toNat = 192 + r.toNat / 64 by omega, show (128 + r % 64).toNat = 128 + r.toNat % 64 by omega]
    try rfl
  rw [if_neg (by omega)]
  by_cases c3 : r ≤ 65535
  · rw [Lib.encodeRuneZ_three (by omega), if_pos (by omega)]
    simp only [List.map_cons, List.map_nil]
    rw [show (224 + r / 4096).toNat = 224 + r.toNat / 4096 by omega, show (128 + r / 64 % 64).toNat = 128 + r.toNat / 64 % 64 by omega, show (128 + r % 64).toNat = 128 + r.toNat % 64 by omega]
    try rfl
  rw [if_neg (by omega), Lib.encodeRuneZ_four (by omega) (by omega)]
  simp only [List.map_cons, List.map_nil]
  rw [show (240 + r / 262144).toNat = 240 + r.toNat / 262144 by omega, show (128 + r / 4096 % 64).toNat = 128 + r.toNat / 4096 % 64 by omega, show (128 + r / 64 % 64).toNat = 128 + r.toNat / 64 % 64 by omega, show (128 + r % 64).toNat = 128 + r.toNat % 64 by omega]
  try rfl
theorem encode_head (r : Int) (h : IsRune r) : ∃ c t, Lib.encodeRune r = c :: t ∧ ((r ≤ 127 ∧ (c.toNat : Int) = r) ∨ (127 < r ∧ 192 ≤ c.toNat)) := by
  obtain ⟨h0, h1⟩ := h
  unfold Lib.encodeRune
  by_cases c1 : r ≤ 127
  · rw [Lib.encodeRuneZ_one h0 c1]
    exact ⟨_, _, rfl, .inl ⟨c1, by rw [byte_of r h0 (by omega)]; omega⟩⟩
  by_cases c2 : r ≤ 2047
  · rw [Lib.encodeRuneZ_two (by omega) c2]
    exact ⟨_, _, rfl, .inr ⟨by omega, by rw [byte_of _ (by omega) (by omega)]; omega⟩⟩
  by_cases c3 : r ≤ 65535
  · rw [Lib.encodeRuneZ_three (by omega)]
    exact ⟨_, _, rfl, .inr ⟨by omega, by rw [byte_of _ (by omega) (by omega)]; omega⟩⟩
  rw [Lib.encodeRuneZ_four (by omega) (by omega)]
  exact ⟨_, _, rfl, .inr ⟨by omega, by rw [byte_of _ (by omega) (by omega)]; omega⟩⟩
/-- A rune that is just itself in a class. -/
def PlainI (c : Int) : Prop := 32 < c ∧ c ≠ 92 ∧ c ≠ 93 ∧ c ≠ 91 ∧ c ≠ 65533 ∧ (c < 55296 ∨ 57343 < c) ∧ c ≤ 1114111
theorem PlainI.rune {c : Int} (h : PlainI c) : IsRune c := ⟨by have := h.1; omega, by obtain ⟨h1, -, -, -, -, h2, h3⟩ := h; omega⟩
theorem one_plain {S : ByteArray} {i : Nat} {r : Int} {rest : List UInt8} (p : Bool) (hr : PlainI r) (hl : leftB S i = Lib.encodeRune r ++ rest) :
    i < S.size ∧ 0 ≤ headI (leftB S i) ∧ headI (leftB S i) ≠ 91 ∧ headI (leftB S i) ≠ 93 ∧ (r ≠ 94 → headI (leftB S i) ≠ 94) ∧ oneS S i p = .esc 1 r [] 0 (i + (Lib.encodeRune r).length) ∧ leftB S (i + (Lib.encodeRune r).length) = rest := by
  obtain ⟨c, t, hc, hcc⟩ := encode_head r hr.rune
  have hh : headI (leftB S i) = (c.toNat : Int) := by rw [hl, hc]; rfl
  have hd : Utf8.decode S i = (r.toNat, (Lib.encodeRune r).length) := decode_encode S i r rest hr.rune (by rw [← Lib.toList_data]; exact hl)
  obtain ⟨g1, g2, g3, g4, g5, g6, g7⟩ := hr
  refine ⟨head_in (by omega), by omega, by omega, by omega, fun h => by omega, ?_, ?_⟩
  · unfold oneS
    rw [if_neg (by omega), hd]
    simp only
    congr 1
    omega
  · rw [← left_drop, hl, List.drop_left]
theorem item_plain {S : ByteArray} {i : Nat} {a b : Int} {rest : List UInt8} (p : Bool) (ha : PlainI a) (hb : PlainI b) (hl : leftB S i = Lib.encodeRune a ++ 45 :: (Lib.encodeRune b ++ rest)) :
    (a ≤ b → itemS S i p = .item [(a, b)] (i + (Lib.encodeRune a).length + 1 + (Lib.encodeRune b).length)) ∧ (b < a → ∃ n, itemS S i p = .bad 72 i n) := by
  obtain ⟨h1, h2, h3, h4, -, h6, h7⟩ := one_plain p ha hl
  have h8 : leftB S (i + (Lib.encodeRune a).length + 1) = Lib.encodeRune b ++ rest := by rw [← left_drop, h7]; rfl
  obtain ⟨k1, k2, k3, k4, -, k6, k7⟩ := one_plain p hb h8
  have hc : colS S i = none := by unfold colS; rw [if_pos (fun h => h3 h.1)]
  have hi : itemS S i p = rangeS S i a (i + (Lib.encodeRune a).length) p := by
    unfold itemS
    rw [hc]
    simp only [h6]
    rw [if_neg (by decide), if_neg (by decide)]
  have hr : rangeS S i a (i + (Lib.encodeRune a).length) p = if (1 : Int) ≠ 1 ∨ b < a then .bad 72 i (i + (Lib.encodeRune a).length + 1 + (Lib.encodeRune b).length) else .item [(a, b)] (i + (Lib.encodeRune a).length + 1 + (Lib.encodeRune b).length) := by
    unfold rangeS
    rw [if_pos ⟨by rw [h7]; rfl, k2, k4⟩, k6]
  refine ⟨fun h => ?_, fun h => ⟨i + (Lib.encodeRune a).length + 1 + (Lib.encodeRune b).length, ?_⟩⟩
  · rw [hi, hr, if_neg (fun q => q.elim (fun q => q rfl) (by omega))]
  · rw [hi, hr, if_pos (.inr h)]
theorem runs_read {S : ByteArray} {a b : Int} (p : Bool) (ha : PlainI a) (hn : a ≠ 94) (hb : PlainI b) (hl : S.toList = 91 :: (Lib.encodeRune a ++ 45 :: (Lib.encodeRune b ++ [93]))) :
    notB S 0 = false ∧ S.size ≤ 900000 ∧ (a ≤ b → ∃ n, classS S 0 p = .item [(a, b)] n) ∧ (b < a → ∃ n, classS S 0 p = .bad 72 1 n) := by
  have l0 : leftB S 0 = 91 :: (Lib.encodeRune a ++ 45 :: (Lib.encodeRune b ++ [93])) := by unfold leftB; rw [hl]; rfl
  have l1 : leftB S (0 + 1) = Lib.encodeRune a ++ 45 :: (Lib.encodeRune b ++ [93]) := by rw [← left_drop, l0]; rfl
  obtain ⟨h1, h2, h3, h4, h5, h6, h7⟩ := one_plain p ha l1
  have h8 : leftB S (0 + 1 + (Lib.encodeRune a).length + 1) = Lib.encodeRune b ++ [93] := by rw [← left_drop, h7]; rfl
  obtain ⟨k1, k2, k3, k4, -, k6, k7⟩ := one_plain p hb h8
  obtain ⟨i1, i2⟩ := item_plain p ha hb l1
  have hnb : notB S 0 = false := decide_eq_false (h5 hn)
  have hend : 0 + 1 + (Lib.encodeRune a).length + 1 + (Lib.encodeRune b).length < S.size := head_in (by rw [k7]; decide)
  have hsz : S.size ≤ 900000 := by
    have e : S.size = S.toList.length := size_list7 S
    have la : (Lib.encodeRune a).length ≤ 4 := by unfold Lib.encodeRune; rw [List.length_map]; exact (Lib.encodeRuneZ_length a).2
    have lb : (Lib.encodeRune b).length ≤ 4 := by unfold Lib.encodeRune; rw [List.length_map]; exact (Lib.encodeRuneZ_length b).2
    rw [e, hl]
    simp only [List.length_cons, List.length_append, List.length_nil]
    omega
  have hcl : classS S 0 p = itemsS S 0 p (S.size + 1) (0 + 1) true [] := by
    unfold classS
    rw [if_neg (fun q => q (by rw [l0]; rfl)), hnb, if_neg (by decide)]
  refine ⟨hnb, hsz, fun hab => ?_, fun hba => ?_⟩
  · refine ⟨0 + 1 + (Lib.encodeRune a).length + 1 + (Lib.encodeRune b).length + 1, ?_⟩
    rw [hcl, itemsS, if_neg (by omega), if_neg (fun q => by cases q.2), i1 hab]
    simp only
    obtain ⟨m, hm⟩ : ∃ m, S.size = m + 1 := ⟨S.size - 1, by omega⟩
    rw [show itemsS S 0 p S.size = itemsS S 0 p (m + 1) by rw [← hm], itemsS, if_neg (by omega), if_pos ⟨by rw [k7]; rfl, rfl⟩]
    rfl
  · obtain ⟨n, hn2⟩ := i2 hba
    exact ⟨n, by rw [hcl, itemsS, if_neg (by omega), if_neg (fun q => by cases q.2), hn2]⟩
end Go.Proofs.YtmaigjdmjmonbaaGreatDoor
