/- TreesRight. -/
import Derived.Test.YthapafaeakgfpaaTrHead
import Derived.Deep.RegionHeld3
import Derived.Deep.RegionLaw
set_option linter.unusedVariables false
namespace Go.Proofs.Ythapafaeakgfpaa
open Go Go.RowKit

set_option maxHeartbeats 1600000 in
set_option maxRecDepth 100000 in
theorem treesRight_any (w : World) (v : Value) (t : Tr) (h : Tre w t v) : Calls Try.prog 3 #[v] w fun e w' => e = .returned (.bool true) ∧ Below w.heap.size w w' := by
  have h0 := h
  obtain ⟨A, n, c, a2, s, c2, hn, hs, rfl, hnb, hsb, hK, hS, hF⟩ := h.opened
  obtain ⟨w1, hw1⟩ : ∃ w1, w.alloc (.cells #[.int .i64 t.fld.op, .slice A n c, .int .i32 t.fld.rune, .slice a2 s c2, .int .i64 t.fld.at', .int .i64 t.fld.cap, .string t.fld.name, .int .i64 t.fld.min, .int .i64 t.fld.max, .bool t.fld.lazy] 27) = w1 := ⟨_, rfl⟩
  have hb1 : Below w.heap.size w w1 := by rw [← hw1]; exact (Below.refl _ _).alloc (Nat.le_refl _) _
  have hE1 : Box10 w1 w.heap.size (.int .i64 t.fld.op) (.slice A n c) (.int .i32 t.fld.rune) (.slice a2 s c2) (.int .i64 t.fld.at') (.int .i64 t.fld.cap) (.string t.fld.name) (.int .i64 t.fld.min) (.int .i64 t.fld.max) (.bool t.fld.lazy) := by rw [← hw1]; exact box10_new w _ _ _ _ _ _ _ _ _ _ _
  have HW1 := Lib.hid hw1; have HT := Lib.hid hb1; have HE := Lib.hid hE1; have H0 := Lib.hid (h0.below hb1)
  clear hb1 hE1 hw1 hK hS hn hs hF h h0
  obtain ⟨v, hv⟩ : ∃ v, Value.agg #[.int .i64 t.fld.op, .slice A n c, .int .i32 t.fld.rune, .slice a2 s c2, .int .i64 t.fld.at', .int .i64 t.fld.cap, .string t.fld.name, .int .i64 t.fld.min, .int .i64 t.fld.max, .bool t.fld.lazy] = v := ⟨_, rfl⟩
  rw [hv] at H0
  have HV := Lib.hid hv
  clear hv
  go_enter Try.func3, Try.ntmps3
  go_wp2_with fail
  rw [HW1.out]
  clear HW1
  go_wp2_with fail
  refine (thead_any w1).mono ?_
  rintro e w2 ⟨rfl, hb⟩
  replace H0 := Lib.hid (H0.out.below hb); replace HE := Lib.hid (HE.out.below hb)
  replace HT := Lib.hid (HT.out.trans (hb.mono HT.out.size))
  clear hb
  have hd := (Below.refl w2.heap.size w2).drew
  replace H0 := Lib.hid (H0.out.below hd); replace HE := Lib.hid (HE.out.below hd); replace HT := Lib.hid (HT.out.trans (hd.mono HT.out.size))
  rw [← HV.out] at H0
  clear hd HV
  obtain ⟨b0, b1, b2, b3, b4, b5, b6, b7, b8, b9⟩ := HE.out
  by_cases hgr : 20000 < partsR t
  · have HGR := Lib.hid hgr
    clear hgr
    go_upto_region 2 with (fail)
    go_region_with (go_at_call 11; refine (great_any t _ _ H0.out).mono ?_; rintro e w' ⟨B, rfl, hq, hb⟩; obtain rfl := (show true = B from (hq.2 HGR.out).symm); clear hq; replace H0 := Lib.hid (H0.out.below hb); replace HE := Lib.hid (HE.out.below hb); replace HT := Lib.hid (HT.out.trans (hb.mono HT.out.size)); clear hb b0 b1 b2 b3 b4 b5 b6 b7 b8 b9; obtain ⟨b0, b1, b2, b3, b4, b5, b6, b7, b8, b9⟩ := HE.out)
    all_goals
      go_wp2_with fail
      go_ret
      exact ⟨rfl, HT.out⟩
  · have HGR := Lib.hid hgr
    have HP : Hid (partsR t ≤ 1000000) := Lib.hid (by omega)
    clear hgr
    obtain ⟨RB, hRB⟩ : ∃ B : Bool, (B = true ↔ RightT t) := ⟨@decide (RightT t) (Classical.propDecidable _), by simp⟩
    have HRB := Lib.hid hRB
    clear hRB
    go_upto_region 2 with (fail)
    go_region_held3 (fun w' => w'.cell? ⟨w.heap.size, 0, none⟩ = some (.int .i64 t.fld.op) ∧ w'.cell? ⟨w.heap.size, 1, none⟩ = some (.slice A n c) ∧ w'.cell? ⟨w.heap.size, 2, none⟩ = some (.int .i32 t.fld.rune) ∧ w'.cell? ⟨w.heap.size, 3, none⟩ = some (.slice a2 s c2) ∧ w'.cell? ⟨w.heap.size, 4, none⟩ = some (.int .i64 t.fld.at') ∧ w'.cell? ⟨w.heap.size, 5, none⟩ = some (.int .i64 t.fld.cap) ∧ w'.cell? ⟨w.heap.size, 6, none⟩ = some (.string t.fld.name) ∧ w'.cell? ⟨w.heap.size, 7, none⟩ = some (.int .i64 t.fld.min) ∧ w'.cell? ⟨w.heap.size, 8, none⟩ = some (.int .i64 t.fld.max) ∧ w'.cell? ⟨w.heap.size, 9, none⟩ = some (.bool t.fld.lazy)) (first | assumption | go_keep)
      (first | (go_at_call 11; refine (great_any t _ _ H0.out).mono ?_; rintro e w' ⟨B, rfl, hq, hb⟩; obtain rfl := (show false = B by cases B; rfl; exact absurd (hq.1 rfl) HGR.out); clear hq; replace H0 := Lib.hid (H0.out.below hb); replace HE := Lib.hid (HE.out.below hb); replace HT := Lib.hid (HT.out.trans (hb.mono HT.out.size)); clear hb b0 b1 b2 b3 b4 b5 b6 b7 b8 b9; obtain ⟨b0, b1, b2, b3, b4, b5, b6, b7, b8, b9⟩ := HE.out) | (go_at_call 12; refine (pright_any t HP.out _ _ H0.out).mono ?_; rintro e w' ⟨B, rfl, hq, hb⟩; obtain rfl := (show RB = B from Bool.eq_iff_iff.2 (HRB.out.trans hq.symm)); clear hq; replace H0 := Lib.hid (H0.out.below hb); replace HE := Lib.hid (HE.out.below hb); replace HT := Lib.hid (HT.out.trans (hb.mono HT.out.size)); clear hb b0 b1 b2 b3 b4 b5 b6 b7 b8 b9; obtain ⟨b0, b1, b2, b3, b4, b5, b6, b7, b8, b9⟩ := HE.out) | (go_at_call 13; refine (right_any t HP.out _ _ H0.out).mono ?_; rintro e w' ⟨B, rfl, hq, hb⟩; obtain rfl := (show RB = B from Bool.eq_iff_iff.2 (HRB.out.trans hq.symm)); clear hq; replace H0 := Lib.hid (H0.out.below hb); replace HE := Lib.hid (HE.out.below hb); replace HT := Lib.hid (HT.out.trans (hb.mono HT.out.size)); clear hb b0 b1 b2 b3 b4 b5 b6 b7 b8 b9; obtain ⟨b0, b1, b2, b3, b4, b5, b6, b7, b8, b9⟩ := HE.out))
    all_goals
      go_wp2_with fail
      go_ret
      exact ⟨rfl, HT.out⟩
end Go.Proofs.Ythapafaeakgfpaa
