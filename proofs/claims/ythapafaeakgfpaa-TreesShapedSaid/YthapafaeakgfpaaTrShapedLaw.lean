/- TreesShaped. -/
import Derived.Test.YthapafaeakgfpaaTrHead
set_option linter.unusedVariables false
namespace Go.Proofs.Ythapafaeakgfpaa
open Go Go.RowKit

set_option maxHeartbeats 1600000 in
set_option maxRecDepth 100000 in
theorem treesShaped_any (w : World) (v : Value) (t : Tr) (h : Tre w t v) : Calls Try.prog 8 #[v] w fun e w' => e = .returned (.bool true) ∧ Below w.heap.size w w' := by
  have h0 := h
  obtain ⟨A, n, c, a2, s, c2, hn, hs, rfl, hnb, hsb, hK, hS, hF⟩ := h.opened
  obtain ⟨w1, hw1⟩ : ∃ w1, w.alloc (.cells #[.int .i64 t.fld.op, .slice A n c, .int .i32 t.fld.rune, .slice a2 s c2, .int .i64 t.fld.at', .int .i64 t.fld.cap, .string t.fld.name, .int .i64 t.fld.min, .int .i64 t.fld.max, .bool t.fld.lazy] 27) = w1 := ⟨_, rfl⟩
  have hb1 : Below w.heap.size w w1 := by rw [← hw1]; exact (Below.refl _ _).alloc (Nat.le_refl _) _
  have hE1 : Box10 w1 w.heap.size (.int .i64 t.fld.op) (.slice A n c) (.int .i32 t.fld.rune) (.slice a2 s c2) (.int .i64 t.fld.at') (.int .i64 t.fld.cap) (.string t.fld.name) (.int .i64 t.fld.min) (.int .i64 t.fld.max) (.bool t.fld.lazy) := by rw [← hw1]; exact box10_new w _ _ _ _ _ _ _ _ _ _ _
  have HW1 := Lib.hid hw1; have HT := Lib.hid hb1; have HE := Lib.hid hE1; have H0 := Lib.hid (h0.below hb1)
  clear hb1 hE1 hw1 hK hS hn hs hF h h0
  obtain ⟨v, hv⟩ : ∃ v, Value.agg #[.int .i64 t.fld.op, .slice A n c, .int .i32 t.fld.rune, .slice a2 s c2, .int .i64 t.fld.at', .int .i64 t.fld.cap, .string t.fld.name, .int .i64 t.fld.min, .int .i64 t.fld.max, .bool t.fld.lazy] = v := ⟨_, rfl⟩
  rw [hv] at H0
  have HV := Lib.hid hv
  clear hv
  go_enter Try.func8, Try.ntmps8
  go_wp2_with fail
  rw [HW1.out]
  clear HW1
  go_wp2_with fail
  refine (thead_any w1).mono ?_
  rintro e w2 ⟨rfl, hb⟩
  replace H0 := Lib.hid (H0.out.below hb); replace HE := Lib.hid (HE.out.below hb)
  replace HT := Lib.hid (HT.out.trans (hb.mono HT.out.size))
  clear hb
  obtain ⟨b0, b1, b2, b3, b4, b5, b6, b7, b8, b9⟩ := HE.out
  go_wp2_with fail
  rw [HV.out]
  refine (great_any t _ w2 H0.out).mono ?_
  rintro e w3 ⟨G, rfl, hg, hb⟩
  replace H0 := Lib.hid (H0.out.below hb); replace HE := Lib.hid (HE.out.below hb)
  replace HT := Lib.hid (HT.out.trans (hb.mono HT.out.size))
  clear hb b0 b1 b2 b3 b4 b5 b6 b7 b8 b9
  have HG := Lib.hid hg
  clear hg
  rcases G with _ | _
  rotate_left
  · clear HG
    go_wp2_with fail
    go_ret
    exact ⟨rfl, HT.out⟩
  have hp : partsR t ≤ 1000000 := by
    have := mt HG.out.2 (by decide)
    omega
  clear HG
  obtain ⟨b0, b1, b2, b3, b4, b5, b6, b7, b8, b9⟩ := HE.out
  go_wp2_with fail
  rw [HV.out]
  refine (pshaped_any t hp _ w3 H0.out).mono ?_
  rintro e w4 ⟨B, rfl, hq, hb⟩
  replace H0 := Lib.hid (H0.out.below hb); replace HE := Lib.hid (HE.out.below hb)
  replace HT := Lib.hid (HT.out.trans (hb.mono HT.out.size))
  clear hb b0 b1 b2 b3 b4 b5 b6 b7 b8 b9
  have HQ := Lib.hid hq
  clear hq
  obtain ⟨b0, b1, b2, b3, b4, b5, b6, b7, b8, b9⟩ := HE.out
  go_wp2_with fail
  rw [HV.out]
  refine (shaped_any t _ w4 H0.out).mono ?_
  rintro e w5 ⟨B2, rfl, hq, hb⟩
  replace H0 := Lib.hid (H0.out.below hb); replace HE := Lib.hid (HE.out.below hb)
  replace HT := Lib.hid (HT.out.trans (hb.mono HT.out.size))
  clear hb b0 b1 b2 b3 b4 b5 b6 b7 b8 b9
  obtain rfl : B = B2 := Bool.eq_iff_iff.2 (HQ.out.trans hq.symm)
  clear hq
  have hbi : (B == B) = true := by cases B <;> rfl
  rcases B with _ | _
  · have hn : ¬ RightT t := fun h => by have := HQ.out.2 h.2.2.1; cases this
    have HN := Lib.hid hn
    clear hn HQ
    obtain ⟨b0, b1, b2, b3, b4, b5, b6, b7, b8, b9⟩ := HE.out
    go_wp2_with fail
    rw [HV.out]
    refine (pright_any t hp _ w5 H0.out).mono ?_
    rintro e w6 ⟨B, rfl, hq, hb⟩
    replace H0 := Lib.hid (H0.out.below hb); replace HE := Lib.hid (HE.out.below hb)
    replace HT := Lib.hid (HT.out.trans (hb.mono HT.out.size))
    clear hb b0 b1 b2 b3 b4 b5 b6 b7 b8 b9
    obtain rfl : B = false := by cases B; rfl; exact absurd (hq.1 rfl) HN.out
    clear hq HN
    go_wp2_with fail
    go_ret
    exact ⟨rfl, HT.out⟩
  · clear HQ
    go_wp2_with fail
    go_ret
    exact ⟨rfl, HT.out⟩
end Go.Proofs.Ythapafaeakgfpaa
