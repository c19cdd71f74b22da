/- Has a tree too many parts: the law's great. -/
import Derived.Test.YthapafaeakgfpaaTrParts
import Derived.Test.YthapafaeakgfpaaTrKids
set_option linter.unusedVariables false
namespace Go.Proofs.Ythapafaeakgfpaa
open Go Go.RowKit

set_option maxHeartbeats 1600000 in
set_option maxRecDepth 100000 in
theorem great_any (t : Tr) (v : Value) (w : World) (h : Tre w t v) : Calls Try.prog 11 #[v] w (SaysB (20000 < partsR t) w) := by
  have H0 := Lib.hid h
  obtain ⟨A, n, c, a2, s, c2, hn, hs, rfl, hnb, hsb, hK, hS, hF⟩ := h.opened
  obtain ⟨w1, hw1⟩ : ∃ w1, w.alloc (.cells #[.int .i64 t.fld.op, .slice A n c, .int .i32 t.fld.rune, .slice a2 s c2, .int .i64 t.fld.at', .int .i64 t.fld.cap, .string t.fld.name, .int .i64 t.fld.min, .int .i64 t.fld.max, .bool t.fld.lazy] 27) = w1 := ⟨_, rfl⟩
  have hb1 : Below w.heap.size w w1 := by rw [← hw1]; exact (Below.refl _ _).alloc (Nat.le_refl _) _
  have hE1 : Box10 w1 w.heap.size (.int .i64 t.fld.op) (.slice A n c) (.int .i32 t.fld.rune) (.slice a2 s c2) (.int .i64 t.fld.at') (.int .i64 t.fld.cap) (.string t.fld.name) (.int .i64 t.fld.min) (.int .i64 t.fld.max) (.bool t.fld.lazy) := by rw [← hw1]; exact box10_new w _ _ _ _ _ _ _ _ _ _ _
  have HB1 := Lib.hid hb1; have HE1 := Lib.hid hE1; have HW1 := Lib.hid hw1; have HK := Lib.hid (hK.below hb1); have HS := Lib.hid (hS.below hb1); have HN := Lib.hid hn; have HSL := Lib.hid hs; have HF := Lib.hid hF
  clear hb1 hE1 hw1 hK hS hn hs hF
  have HD := Lib.hid (parts_any 20000 (by omega) t _ w1 (H0.out.below HB1.out))
  obtain ⟨P, hP⟩ : ∃ P, (20000 < partsR t) = P := ⟨_, rfl⟩
  have HP := Lib.hid hP
  rw [hP]
  clear h hP
  obtain ⟨b0, b1, b2, b3, b4, b5, b6, b7, b8, b9⟩ := HE1.out
  go_enter Try.func11, Try.ntmps11
  go_wp2_with fail
  rw [HW1.out]
  go_wp2_with fail
  refine HD.out.mono ?_
  rintro e w2 ⟨r, rfl, q1, q2, q3, hb2⟩
  have HB2 := Lib.hid (below_two HB1.out hb2)
  have HQ : Hid (20000 < r ↔ P) := Lib.hid (by rw [← HP.out]; constructor <;> intro h <;> omega)
  clear hb2 q1 q2 HD
  by_cases hr : 20000 < r
  · have hz : (20000 : Int) < (r : Int) := by omega
    go_wp2_with fail
    go_ret
    exact ⟨true, rfl, ⟨fun _ => HQ.out.1 hr, fun _ => rfl⟩, HB2.out⟩
  · have hz : ¬ (20000 : Int) < (r : Int) := by omega
    have hz2 : decide ((20000 : Int) < (r : Int)) = false := decide_eq_false hz
    go_wp2_with fail
    go_ret
    exact ⟨false, rfl, ⟨fun h => (by cases h), fun h => absurd (HQ.out.2 h) hr⟩, HB2.out⟩
end Go.Proofs.Ythapafaeakgfpaa
