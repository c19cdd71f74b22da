/- Has a tree just the fields of its Op: the document's fields, at any tree. -/
import Derived.Test.YthapafaeakgfpaaTrFieldsA
import Derived.Test.YthapafaeakgfpaaTrFieldsB
set_option linter.unusedVariables false
namespace Go.Proofs.Ythapafaeakgfpaa
open Go Go.RowKit

set_option maxHeartbeats 1600000 in
set_option maxRecDepth 100000 in
theorem fields_out (op : Int) (x1 x2 x3 x4 x5 x6 x7 x8 x9 : Value) (w : World) (ho : op < 1 ∨ 12 < op) : Calls Try.prog 43 #[.agg #[.int .i64 op, x1, x2, x3, x4, x5, x6, x7, x8, x9]] w fun e w' => e = .returned (.bool false) ∧ Below w.heap.size w w' := by
  go_enter Try.func43, Try.ntmps43
  by_cases h1 : op < 1
  · clear ho
    go_wp2
    go_ret
    exact ⟨rfl, (Below.refl _ _).alloc (Nat.le_refl _) _⟩
  · have h2 : 12 < op := by omega
    clear ho
    go_wp2
    go_ret
    exact ⟨rfl, (Below.refl _ _).alloc (Nat.le_refl _) _⟩
theorem fields_any (t : Tr) (v : Value) (w : World) (h : Tre w t v) : Calls Try.prog 43 #[v] w (SaysB (FieldsOk t.fld) w) := by
  obtain ⟨A, n, c, a2, s, c2, hn, hs, rfl, hnb, hsb, hK, hS, hF⟩ := h.opened
  obtain ⟨f, hf⟩ : ∃ f, t.fld = f := ⟨_, rfl⟩
  rw [hf] at hs hS hF ⊢
  obtain ⟨op, rune, set, at', cap, name, min, max, lazy⟩ := f
  obtain ⟨ho, hr, ha, hc, hmn, hmx, -, -⟩ := hF
  simp only at hs hS hr hmn hmx ⊢
  by_cases hb : op < 1 ∨ 12 < op
  · exact (fields_out op _ _ _ _ _ _ _ _ _ w hb).mono fun e w' ⟨he, hw⟩ => ⟨false, he, ⟨fun h => (by cases h), fun h => (by have h1 := h.1; have h2 := h.2.1; simp only at h1 h2; omega)⟩, hw⟩
  · have hk : op = 1 ∨ op = 2 ∨ op = 3 ∨ op = 4 ∨ op = 5 ∨ op = 6 ∨ op = 7 ∨ op = 8 ∨ op = 9 ∨ op = 10 ∨ op = 11 ∨ op = 12 := by omega
    rcases hk with rfl | rfl | rfl | rfl | rfl | rfl | rfl | rfl | rfl | rfl | rfl | rfl
    · exact fields_walk1 _ rune a2 s c2 set at' cap name min max lazy w hS hs hsb hr hmn hmx
    · exact fields_walk2 _ rune a2 s c2 set at' cap name min max lazy w hS hs hsb hr hmn hmx
    · exact fields_walk3 _ rune a2 s c2 set at' cap name min max lazy w hS hs hsb hr hmn hmx
    · exact fields_walk4 _ rune a2 s c2 set at' cap name min max lazy w hS hs hsb hr hmn hmx
    · exact fields_walk5 _ rune a2 s c2 set at' cap name min max lazy w hS hs hsb hr hmn hmx
    · exact fields_walk6 _ rune a2 s c2 set at' cap name min max lazy w hS hs hsb hr hmn hmx
    · exact fields_walk7 _ rune a2 s c2 set at' cap name min max lazy w hS hs hsb hr hmn hmx
    · exact fields_walk8 _ rune a2 s c2 set at' cap name min max lazy w hS hs hsb hr hmn hmx
    · exact fields_walk9 _ rune a2 s c2 set at' cap name min max lazy w hS hs hsb hr hmn hmx
    · exact fields_walk10 _ rune a2 s c2 set at' cap name min max lazy w hS hs hsb hr hmn hmx
    · exact fields_walk11 _ rune a2 s c2 set at' cap name min max lazy w hS hs hsb hr hmn hmx
    · exact fields_walk12 _ rune a2 s c2 set at' cap name min max lazy w hS hs hsb hr hmn hmx
end Go.Proofs.Ythapafaeakgfpaa
