/- Texts merged by program: RwPrint, RwLaw. No condition. -/
import Derived.Test.YthnddabcmhplkaaDoorK27
import Derived.Test.YthnddabcmhplkaaDoorK35
import Derived.Test.YthnddabcmhplkaaDoorK28
import Derived.Test.YthnddabcmhplkaaDoorK6
import Derived.Deep.DeepCutAuto
set_option linter.unusedVariables false
/- The document's Print: the text of a right tree. Written by gen9wlaw.py. -/
namespace Go.Proofs.YthnddabcmhplkaaDoor
open Go Go.RowKit

set_option maxHeartbeats 1600000 in
set_option maxRecDepth 100000 in
theorem rprint9_any (t : Tr) (hp : partsR t ≤ 10000000000) (v : Value) (w : World) (h : Tre w t v) (hD : De64 w) (hP : Pow9 w) : Calls Tryd.prog 7 #[v] w (PrintPost t w) := by
  obtain ⟨A, n, c, a2, s, c2, hn, hs, rfl, hnb, hsb, hK, hS, hFl⟩ := h.opened
  obtain ⟨w1, hw1⟩ : ∃ w1, w.alloc (.cells #[.int .i64 t.fld.op, .slice A n c, .int .i32 t.fld.rune, .slice a2 s c2, .int .i64 t.fld.at', .int .i64 t.fld.cap, .string t.fld.name, .int .i64 t.fld.min, .int .i64 t.fld.max, .bool t.fld.lazy] 27) = w1 := ⟨_, rfl⟩
  have hb1 : Below w.heap.size w w1 := by rw [← hw1]; exact (Below.refl _ w).alloc (Nat.le_refl _) _
  have hE1 : Whole w1 w.heap.size 27 #[.int .i64 t.fld.op, .slice A n c, .int .i32 t.fld.rune, .slice a2 s c2, .int .i64 t.fld.at', .int .i64 t.fld.cap, .string t.fld.name, .int .i64 t.fld.min, .int .i64 t.fld.max, .bool t.fld.lazy] := by rw [← hw1]; exact heap_alloc_new w _
  have HDD := Lib.hid hD; have HPW := Lib.hid hP
  clear hD hP
  have HR := Lib.hid (right_any t hp _ w1 (h.below hb1))
  have HT := Lib.hid (h.below hb1)
  have HW1 := Lib.hid hw1; have HB1 := Lib.hid hb1; have HE1 := Lib.hid hE1
  obtain ⟨g0, g1, g2, g3, g4, g5, g6, g7, g8, g9⟩ := hE1.ten
  unfold PrintPost
  obtain ⟨R, hR⟩ : ∃ R, RightT t = R := ⟨_, rfl⟩
  rw [hR] at HR ⊢
  have HRI := Lib.hid hR
  clear h hn hs hnb hsb hK hS hFl hw1 hb1 hE1 hR
  go_enter Tryd.func7, Tryd.ntmps7
  go_upto_region 1 with (fail)
  rw [HW1.out]
  go_wp2_with fail
  refine HR.out.mono ?_
  rintro e w2 ⟨B, rfl, hq, hb2⟩
  have HQ := Lib.hid hq
  have HB2 := Lib.hid (HB1.out.trans (hb2.mono HB1.out.size))
  have hE2 := HE1.out.below hb2 HE1.out.lt
  have HT2 := Lib.hid (HT.out.below hb2)
  clear hq hb2 g0 g1 g2 g3 g4 g5 g6 g7 g8 g9
  obtain ⟨g0, g1, g2, g3, g4, g5, g6, g7, g8, g9⟩ := hE2.ten
  clear hE2
  cases B
  · have HN : Hid (¬ R) := Lib.hid fun r => (by have := HQ.out.2 r; cases this)
    clear HQ
    go_wp2_with fail
    go_ret2
    exact ⟨HB2.out, .inr ⟨HN.out, rfl⟩⟩
  · have hr : RightT t := by rw [HRI.out]; exact HQ.out.1 rfl
    have HX := Lib.hid (text9_any _ t (Nat.lt_succ_self _) hp hr.2.2.1 _ w2 HT2.out (HDD.out.below HB2.out) (HPW.out.below HB2.out))
    have HY : Hid R := Lib.hid (HQ.out.1 rfl)
    clear hr HQ
    go_wp2_with fail
    refine HX.out.mono ?_
    rintro e w3 ⟨rfl, hb3⟩
    have HB3 := Lib.hid (HB2.out.trans (hb3.mono HB2.out.size))
    clear hb3
    go_wp2_with fail
    go_ret2
    exact ⟨HB3.out, .inl ⟨HY.out, rfl⟩⟩
end Go.Proofs.YthnddabcmhplkaaDoor
/- PrinterWrites. Written by gen9wlaw.py. -/
namespace Go.Proofs.YthnddabcmhplkaaDoor
open Go Go.RowKit

theorem print_duo {t : Tr} {w : World} {e : Ending} {w' : World} (h : PrintPost t w e w') : ∃ (S : ByteArray) (E : Int), e = .returned (.tuple #[.string S, .int .i64 E]) ∧ Below w.heap.size w w' ∧ ((RightT t ∧ S = textB (textT t) ∧ E = 0) ∨ (¬ RightT t ∧ S = ⟨#[]⟩ ∧ E = 51)) := by
  obtain ⟨hb, ⟨h1, rfl⟩ | ⟨h1, rfl⟩⟩ := h
  · exact ⟨_, _, rfl, hb, .inl ⟨h1, rfl, rfl⟩⟩
  · exact ⟨_, _, rfl, hb, .inr ⟨h1, rfl, rfl⟩⟩

set_option maxHeartbeats 3200000 in
set_option maxRecDepth 100000 in
theorem printerWrites_any (w : World) (v : Value) (t : Tr) (h : Tre w t v) (hD : De64 w) (hP : Pow9 w) : Calls Tryd.prog 3 #[v] w fun e w' => e = .returned (.bool true) ∧ Below w.heap.size w w' := by
  have h0 := h
  obtain ⟨A, n, c, a2, s, c2, hn, hs, rfl, -, -, -, -, -⟩ := h.opened
  obtain ⟨w1, hw1⟩ : ∃ w1, w.alloc (.cells #[.int .i64 t.fld.op, .slice A n c, .int .i32 t.fld.rune, .slice a2 s c2, .int .i64 t.fld.at', .int .i64 t.fld.cap, .string t.fld.name, .int .i64 t.fld.min, .int .i64 t.fld.max, .bool t.fld.lazy] 27) = w1 := ⟨_, rfl⟩
  have hb1 : Below w.heap.size w w1 := by rw [← hw1]; exact (Below.refl _ _).alloc (Nat.le_refl _) _
  have hE1 : Whole w1 w.heap.size 27 #[.int .i64 t.fld.op, .slice A n c, .int .i32 t.fld.rune, .slice a2 s c2, .int .i64 t.fld.at', .int .i64 t.fld.cap, .string t.fld.name, .int .i64 t.fld.min, .int .i64 t.fld.max, .bool t.fld.lazy] := by rw [← hw1]; exact heap_alloc_new w _
  have HW1 := Lib.hid hw1; have HT := Lib.hid hb1; have HE := Lib.hid hE1; have H0 := Lib.hid (h0.below hb1); have HDD := Lib.hid (hD.below hb1); have HPW := Lib.hid (hP.below hb1)
  clear hb1 hE1 hw1 hn hs h h0 hD hP
  go_enter Tryd.func3, Tryd.ntmps3
  go_upto_region 1 with (fail)
  rw [HW1.out]
  go_wp2_with fail
  refine (phead_any w1).mono ?_
  rintro e w2 ⟨rfl, hb⟩
  replace H0 := Lib.hid (H0.out.below hb); replace HE := Lib.hid (HE.out.below hb HE.out.lt); replace HDD := Lib.hid (HDD.out.below hb); replace HPW := Lib.hid (HPW.out.below hb); replace HT := Lib.hid (HT.out.trans (hb.mono HT.out.size))
  clear hb
  clear HW1
  obtain ⟨p0, p1, p2, p3, p4, p5, p6, p7, p8, p9⟩ := HE.out.ten
  go_wp2_with fail
  refine (parts_any 20000 (by omega) t _ w2 H0.out).mono ?_
  rintro e w3 ⟨k, rfl, k1, k2, k3, hb⟩
  replace H0 := Lib.hid (H0.out.below hb); replace HE := Lib.hid (HE.out.below hb HE.out.lt); replace HDD := Lib.hid (HDD.out.below hb); replace HPW := Lib.hid (HPW.out.below hb); replace HT := Lib.hid (HT.out.trans (hb.mono HT.out.size))
  clear hb
  clear p0 p1 p2 p3 p4 p5 p6 p7 p8 p9
  by_cases hk : 20000 < k
  · clear k1 k2
    have hz : (20000 : Int) < (k : Int) := by omega
    clear hk k3
    go_wp2_with fail
    go_ret
    exact ⟨rfl, HT.out⟩
  have HPT : Hid (partsR t ≤ 20000) := Lib.hid (by omega)
  have hz : ¬ (20000 : Int) < (k : Int) := by omega
  have hz2 : decide ((20000 : Int) < (k : Int)) = false := decide_eq_false hz
  clear hk k1 k2 k3
  obtain ⟨p0, p1, p2, p3, p4, p5, p6, p7, p8, p9⟩ := HE.out.ten
  go_wp2_with fail
  refine (pprint_any t (by have := HPT.out; omega) _ w3 H0.out).mono ?_
  intro e w4 hpost
  obtain ⟨S, E, rfl, hb, hS⟩ := print_duo hpost
  clear hpost hz hz2
  replace H0 := Lib.hid (H0.out.below hb); replace HE := Lib.hid (HE.out.below hb HE.out.lt); replace HDD := Lib.hid (HDD.out.below hb); replace HPW := Lib.hid (HPW.out.below hb); replace HT := Lib.hid (HT.out.trans (hb.mono HT.out.size))
  clear hb
  clear p0 p1 p2 p3 p4 p5 p6 p7 p8 p9
  obtain ⟨p0, p1, p2, p3, p4, p5, p6, p7, p8, p9⟩ := HE.out.ten
  have HS := Lib.hid hS
  clear hS
  go_wp2_with fail
  refine (rprint9_any t (by have := HPT.out; omega) _ w4 H0.out HDD.out HPW.out).mono ?_
  intro e w5 hpost
  obtain ⟨S2, E2, rfl, hb, hS2⟩ := print_duo hpost
  have heq : S = S2 ∧ E = E2 := by
    rcases HS.out with ⟨h1, h2, h3⟩ | ⟨h1, h2, h3⟩ <;> rcases hS2 with ⟨g1, g2, g3⟩ | ⟨g1, g2, g3⟩
    · exact ⟨by rw [h2, g2], by rw [h3, g3]⟩
    · exact absurd h1 g1
    · exact absurd g1 h1
    · exact ⟨by rw [h2, g2], by rw [h3, g3]⟩
  obtain ⟨rfl, rfl⟩ := heq
  replace HT := Lib.hid (HT.out.trans (hb.mono HT.out.size))
  have hss : (S.toList == S.toList) = true := by simp
  clear hb hpost hS2 HS p0 p1 p2 p3 p4 p5 p6 p7 p8 p9
  go_wp2_with fail
  go_ret
  exact ⟨rfl, HT.out⟩
end Go.Proofs.YthnddabcmhplkaaDoor
