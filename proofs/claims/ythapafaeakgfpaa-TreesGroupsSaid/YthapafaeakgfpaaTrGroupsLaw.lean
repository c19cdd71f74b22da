/- TreesGroups. -/
import Derived.Test.YthapafaeakgfpaaTrHead
import Derived.Test.YthapafaeakgfpaaTrNamed
set_option linter.unusedVariables false
namespace Go.Proofs.Ythapafaeakgfpaa
open Go Go.RowKit

theorem wrap_nat5 (n : Nat) (h : n < 9223372036854775808) : IntKind.i64.wrap (n : Int) = (n : Int) := by
  have hm : (n : Int) % 18446744073709551616 = n := by omega
  unfold IntKind.wrap
  simp [IntKind.bits, IntKind.signed, hm]
  omega
theorem named_right {t : Tr} (h : RightT t) : NamedT t (capsNames t) := fun g hg => by
  obtain ⟨i, hi, rfl⟩ := List.getElem_of_mem hg
  obtain ⟨h1, -⟩ := h.2.2.2 i hi
  exact ⟨i + 1, by rw [h1]; omega, by omega, by unfold capsNames; simp; exact hi, by unfold capsNames; simp⟩

set_option maxHeartbeats 1600000 in
set_option maxRecDepth 100000 in
theorem treesGroups_any (w : World) (v : Value) (t : Tr) (h : Tre w t v) : Calls Try.prog 9 #[v] w fun e w' => e = .returned (.bool true) ∧ Below w.heap.size w w' := by
  have h0 := h
  obtain ⟨A, n, c, a2, s, c2, hn, hs, rfl, hnb, hsb, hK, hS, hF⟩ := h.opened
  obtain ⟨w1, hw1⟩ : ∃ w1, w.alloc (.cells #[.int .i64 t.fld.op, .slice A n c, .int .i32 t.fld.rune, .slice a2 s c2, .int .i64 t.fld.at', .int .i64 t.fld.cap, .string t.fld.name, .int .i64 t.fld.min, .int .i64 t.fld.max, .bool t.fld.lazy] 27) = w1 := ⟨_, rfl⟩
  have hb1 : Below w.heap.size w w1 := by rw [← hw1]; exact (Below.refl _ _).alloc (Nat.le_refl _) _
  have hE1 : Box10 w1 w.heap.size (.int .i64 t.fld.op) (.slice A n c) (.int .i32 t.fld.rune) (.slice a2 s c2) (.int .i64 t.fld.at') (.int .i64 t.fld.cap) (.string t.fld.name) (.int .i64 t.fld.min) (.int .i64 t.fld.max) (.bool t.fld.lazy) := by rw [← hw1]; exact box10_new w _ _ _ _ _ _ _ _ _ _ _
  have HW1 := Lib.hid hw1; have HT := Lib.hid hb1; have HE := Lib.hid hE1; have H0 := Lib.hid (h0.below hb1)
  clear hb1 hE1 hw1 hK hS hn hs hF h h0
  obtain ⟨v, hv⟩ : ∃ v, Value.agg #[.int .i64 t.fld.op, .slice A n c, .int .i32 t.fld.rune, .slice a2 s c2, .int .i64 t.fld.at', .int .i64 t.fld.cap, .string t.fld.name, .int .i64 t.fld.min, .int .i64 t.fld.max, .bool t.fld.lazy] = v := ⟨_, rfl⟩
  rw [hv] at H0
  have HV := Lib.hid hv
  clear hv
  go_enter Try.func9, Try.ntmps9
  go_wp2_with fail
  rw [HW1.out]
  clear HW1
  go_wp2_with fail
  refine (thead_any w1).mono ?_
  rintro e w2 ⟨rfl, hb⟩
  replace H0 := Lib.hid (H0.out.below hb); replace HE := Lib.hid (HE.out.below hb)
  replace HT := Lib.hid (HT.out.trans (hb.mono HT.out.size))
  clear hb
  obtain ⟨b0, b1, b2, b3, b4, b5, b6, b7, b8, b9⟩ := HE.out
  go_wp2_with fail
  rw [HV.out]
  refine (great_any t _ w2 H0.out).mono ?_
  rintro e w3 ⟨G, rfl, hg, hb⟩
  replace H0 := Lib.hid (H0.out.below hb); replace HE := Lib.hid (HE.out.below hb)
  replace HT := Lib.hid (HT.out.trans (hb.mono HT.out.size))
  clear hb b0 b1 b2 b3 b4 b5 b6 b7 b8 b9
  have HG := Lib.hid hg
  clear hg
  rcases G with _ | _
  rotate_left
  · clear HG
    go_wp2_with fail
    go_ret
    exact ⟨rfl, HT.out⟩
  have hp : partsR t ≤ 1000000 := by
    have := mt HG.out.2 (by decide)
    omega
  clear HG
  obtain ⟨b0, b1, b2, b3, b4, b5, b6, b7, b8, b9⟩ := HE.out
  go_wp2_with fail
  rw [HV.out]
  refine (pright_any t hp _ w3 H0.out).mono ?_
  rintro e w4 ⟨B, rfl, hq, hb⟩
  replace H0 := Lib.hid (H0.out.below hb); replace HE := Lib.hid (HE.out.below hb)
  replace HT := Lib.hid (HT.out.trans (hb.mono HT.out.size))
  clear hb b0 b1 b2 b3 b4 b5 b6 b7 b8 b9
  have HQ := Lib.hid hq
  clear hq
  rcases B with _ | _
  · clear HQ
    go_wp2_with fail
    go_ret
    exact ⟨rfl, HT.out⟩
  have HR := Lib.hid (HQ.out.1 rfl)
  clear HQ
  obtain ⟨b0, b1, b2, b3, b4, b5, b6, b7, b8, b9⟩ := HE.out
  go_wp2_with fail
  rw [HV.out]
  refine (pcaps_any t hp _ w4 H0.out).mono ?_
  intro e w5 hpost
  obtain ⟨hb, ⟨hn, rfl⟩ | ⟨-, v5, rfl, ho⟩⟩ := hpost
  · exact absurd HR.out hn
  have hr := ho.srs
  have hgl := groupsT_len t
  clear ho
  replace H0 := Lib.hid (H0.out.below hb); replace HE := Lib.hid (HE.out.below hb)
  replace HT := Lib.hid (HT.out.trans (hb.mono HT.out.size))
  clear hb b0 b1 b2 b3 b4 b5 b6 b7 b8 b9
  have RA := Lib.hid hr
  clear hr
  have hcl : (capsNames t).length = (groupsT t).length + 1 := by unfold capsNames; simp
  have HNM := Lib.hid (named_right HR.out)
  obtain ⟨l, hl⟩ : ∃ l, capsNames t = l := ⟨_, rfl⟩
  obtain ⟨g, hg⟩ : ∃ g, (groupsT t).length = g := ⟨_, rfl⟩
  rw [hl] at RA hcl HNM
  rw [hg] at hcl hgl
  have HG := Lib.hid hg; have HCL := Lib.hid hcl
  clear hl hg hcl HR
  obtain ⟨ua, uc, rfl, -, -, -⟩ := RA.out
  obtain ⟨b0, b1, b2, b3, b4, b5, b6, b7, b8, b9⟩ := HE.out
  go_wp2_with fail
  rw [HV.out]
  refine (caps_any t hp _ w5 H0.out).mono ?_
  rintro e w6 ⟨rfl, hb⟩
  replace H0 := Lib.hid (H0.out.below hb); replace HE := Lib.hid (HE.out.below hb)
  replace RA := Lib.hid (RA.out.below hb)
  replace HT := Lib.hid (HT.out.trans (hb.mono HT.out.size))
  clear hb b0 b1 b2 b3 b4 b5 b6 b7 b8 b9
  rw [HG.out, HCL.out]
  have hz : IntKind.i64.wrap (((g + 1 : Nat) : Int) - 1) = (g : Int) := by rw [show ((g + 1 : Nat) : Int) - 1 = (g : Int) by omega]; exact wrap_nat5 g (by omega)
  obtain ⟨b0, b1, b2, b3, b4, b5, b6, b7, b8, b9⟩ := HE.out
  go_wp2_with fail
  rw [HV.out]
  refine (named_any l (by rw [HCL.out]; omega) t HNM.out _ _ w6 H0.out (HCL.out ▸ RA.out)).mono ?_
  rintro e w7 ⟨rfl, hb⟩
  replace H0 := Lib.hid (H0.out.below hb); replace HE := Lib.hid (HE.out.below hb)
  replace HT := Lib.hid (HT.out.trans (hb.mono HT.out.size))
  clear hb b0 b1 b2 b3 b4 b5 b6 b7 b8 b9
  go_wp2_with fail
  go_ret
  exact ⟨rfl, HT.out⟩
end Go.Proofs.Ythapafaeakgfpaa
