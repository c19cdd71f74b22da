/- TreesTwice. -/
import Derived.Test.YthapafaeakgfpaaTrHead
import Derived.Test.YthapafaeakgfpaaTrProg
import Derived.Test.YthapafaeakgfpaaTrSame
import Derived.Test.YthapafaeakgfpaaTrBare
import Derived.Deep.RegionHeld3
set_option linter.unusedVariables false
namespace Go.Proofs.Ythapafaeakgfpaa
open Go Go.RowKit

set_option maxHeartbeats 1600000 in
set_option maxRecDepth 100000 in
theorem treesTwice_any (w : World) (v : Value) (t : Tr) (h : Tre w t v) : Calls Try.prog 7 #[v] w fun e w' => e = .returned (.bool true) ∧ Below w.heap.size w w' := by
  have h0 := h
  obtain ⟨A, n, c, a2, s, c2, hn, hs, rfl, hnb, hsb, hK, hS, hF⟩ := h.opened
  obtain ⟨w1, hw1⟩ : ∃ w1, w.alloc (.cells #[.int .i64 t.fld.op, .slice A n c, .int .i32 t.fld.rune, .slice a2 s c2, .int .i64 t.fld.at', .int .i64 t.fld.cap, .string t.fld.name, .int .i64 t.fld.min, .int .i64 t.fld.max, .bool t.fld.lazy] 27) = w1 := ⟨_, rfl⟩
  have hb1 : Below w.heap.size w w1 := by rw [← hw1]; exact (Below.refl _ _).alloc (Nat.le_refl _) _
  have hE1 : Box10 w1 w.heap.size (.int .i64 t.fld.op) (.slice A n c) (.int .i32 t.fld.rune) (.slice a2 s c2) (.int .i64 t.fld.at') (.int .i64 t.fld.cap) (.string t.fld.name) (.int .i64 t.fld.min) (.int .i64 t.fld.max) (.bool t.fld.lazy) := by rw [← hw1]; exact box10_new w _ _ _ _ _ _ _ _ _ _ _
  have HW1 := Lib.hid hw1; have HT := Lib.hid hb1; have HE := Lib.hid hE1; have H0 := Lib.hid (h0.below hb1)
  clear hb1 hE1 hw1 hK hS hn hs hF h h0
  obtain ⟨v, hv⟩ : ∃ v, Value.agg #[.int .i64 t.fld.op, .slice A n c, .int .i32 t.fld.rune, .slice a2 s c2, .int .i64 t.fld.at', .int .i64 t.fld.cap, .string t.fld.name, .int .i64 t.fld.min, .int .i64 t.fld.max, .bool t.fld.lazy] = v := ⟨_, rfl⟩
  rw [hv] at H0
  have HV := Lib.hid hv
  clear hv
  go_enter Try.func7, Try.ntmps7
  go_wp2_with fail
  rw [HW1.out]
  clear HW1
  go_wp2_with fail
  refine (thead_any w1).mono ?_
  rintro e w2 ⟨rfl, hb⟩
  replace H0 := Lib.hid (H0.out.below hb); replace HE := Lib.hid (HE.out.below hb)
  replace HT := Lib.hid (HT.out.trans (hb.mono HT.out.size))
  clear hb
  obtain ⟨b0, b1, b2, b3, b4, b5, b6, b7, b8, b9⟩ := HE.out
  go_wp2_with fail
  rw [HV.out]
  refine (great_any t _ w2 H0.out).mono ?_
  rintro e w3 ⟨G, rfl, hg, hb⟩
  replace H0 := Lib.hid (H0.out.below hb); replace HE := Lib.hid (HE.out.below hb)
  replace HT := Lib.hid (HT.out.trans (hb.mono HT.out.size))
  clear hb b0 b1 b2 b3 b4 b5 b6 b7 b8 b9
  have HG := Lib.hid hg
  clear hg
  rcases G with _ | _
  rotate_left
  · clear HG
    go_wp2_with fail
    go_ret
    exact ⟨rfl, HT.out⟩
  have hp : partsR t ≤ 1000000 := by
    have := mt HG.out.2 (by decide)
    omega
  clear HG
  obtain ⟨b0, b1, b2, b3, b4, b5, b6, b7, b8, b9⟩ := HE.out
  go_wp2_with fail
  rw [HV.out]
  refine (pright_any t hp _ w3 H0.out).mono ?_
  rintro e w4 ⟨B, rfl, hq, hb⟩
  replace H0 := Lib.hid (H0.out.below hb); replace HE := Lib.hid (HE.out.below hb)
  replace HT := Lib.hid (HT.out.trans (hb.mono HT.out.size))
  clear hb b0 b1 b2 b3 b4 b5 b6 b7 b8 b9
  have HQ := Lib.hid hq
  clear hq
  rcases B with _ | _
  · clear HQ
    go_wp2_with fail
    go_ret
    exact ⟨rfl, HT.out⟩
  have HR := Lib.hid (HQ.out.1 rfl)
  clear HQ
  have HP := Lib.hid hp; have HSH := Lib.hid HR.out.2.2.1
  obtain ⟨UA, hUA⟩ : ∃ UA, turnedT t = UA := ⟨_, rfl⟩
  have HRA : Hid (RightT UA) := Lib.hid (hUA ▸ right_turned HR.out)
  have HPA : Hid (partsR UA ≤ 1000000) := Lib.hid (Nat.le_trans (hUA ▸ parts_turned t HSH.out) hp)
  obtain ⟨UB, hUB⟩ : ∃ UB, turnedT UA = UB := ⟨_, rfl⟩
  have HBT : Hid (UB = bareT t) := Lib.hid (by rw [← hUB, ← hUA]; exact turned_twice t HSH.out)
  obtain ⟨EB, hEB⟩ : ∃ B : Bool, (B = true ↔ EmptyP t) := ⟨@decide (EmptyP t) (Classical.propDecidable _), by simp⟩
  obtain ⟨SB, hSB⟩ : ∃ B : Bool, (B = true ↔ StillP t) := ⟨@decide (StillP t) (Classical.propDecidable _), by simp⟩
  have HE0 : Hid (EB = true ↔ RightT t ∧ EmptyP t) := Lib.hid (hEB.trans ⟨fun h => ⟨HR.out, h⟩, fun h => h.2⟩)
  have HEA : Hid (EB = true ↔ RightT UA ∧ EmptyP UA) := Lib.hid (hEB.trans (by rw [← hUA, empty_turned t HSH.out]; exact ⟨fun h => ⟨right_turned HR.out, h⟩, fun h => h.2⟩))
  have HS0 : Hid (SB = true ↔ RightT t ∧ StillP t) := Lib.hid (hSB.trans ⟨fun h => ⟨HR.out, h⟩, fun h => h.2⟩)
  have HSA : Hid (SB = true ↔ RightT UA ∧ StillP UA) := Lib.hid (hSB.trans (by rw [← hUA, still_turned t HSH.out]; exact ⟨fun h => ⟨right_turned HR.out, h⟩, fun h => h.2⟩))
  have HTA : Hid (∀ T, TopOf t T → T = UA) := Lib.hid fun T h => h.one (.inl ⟨HR.out, hUA.symm⟩)
  have HTB : Hid (∀ T, TopOf UA T → T = UB) := Lib.hid fun T h => h.one (.inl ⟨HRA.out, hUB.symm⟩)
  have hbe : (EB == EB) = true := by cases EB <;> rfl
  have hbs : (SB == SB) = true := by cases SB <;> rfl
  clear hUA hUB hEB hSB hp
  obtain ⟨b0, b1, b2, b3, b4, b5, b6, b7, b8, b9⟩ := HE.out
  go_wp2_with fail
  rw [HV.out]
  refine (pturned_any t HP.out _ _ w4 (fun b h => h) H0.out.foot).mono ?_
  rintro e w5 ⟨va, T1, rfl, hT, ht, hb⟩
  replace H0 := Lib.hid (H0.out.below hb); replace HE := Lib.hid (HE.out.below hb)
  replace HT := Lib.hid (HT.out.trans (hb.mono HT.out.size))
  clear hb b0 b1 b2 b3 b4 b5 b6 b7 b8 b9
  have e1 := (HTA.out _ hT).symm
  subst e1
  obtain ⟨kvo, svo, rfl, ⟨p1, p2, p3, rfl⟩, ⟨r1, r2, r3, rfl⟩⟩ := ht.ten
  have HA := Lib.hid ht.tre
  clear ht hT
  obtain ⟨w6, hw6⟩ : ∃ w6, w5.alloc (.cells #[.int .i64 UA.fld.op, .slice p1 p2 p3, .int .i32 UA.fld.rune, .slice r1 r2 r3, .int .i64 UA.fld.at', .int .i64 UA.fld.cap, .string UA.fld.name, .int .i64 UA.fld.min, .int .i64 UA.fld.max, .bool UA.fld.lazy] 27) = w6 := ⟨_, rfl⟩
  have hb : Below w5.heap.size w5 w6 := by rw [← hw6]; exact (Below.refl _ _).alloc (Nat.le_refl _) _
  have hHD : Box10 w6 w5.heap.size (.int .i64 UA.fld.op) (.slice p1 p2 p3) (.int .i32 UA.fld.rune) (.slice r1 r2 r3) (.int .i64 UA.fld.at') (.int .i64 UA.fld.cap) (.string UA.fld.name) (.int .i64 UA.fld.min) (.int .i64 UA.fld.max) (.bool UA.fld.lazy) := by rw [← hw6]; exact box10_new w5 _ _ _ _ _ _ _ _ _ _ _
  have HWw6 := Lib.hid hw6; have HD := Lib.hid hHD
  replace H0 := Lib.hid (H0.out.below hb); replace HA := Lib.hid (HA.out.below hb); replace HE := Lib.hid (HE.out.below hb); replace HT := Lib.hid (HT.out.trans (hb.mono HT.out.size))
  clear hb hw6 hHD
  go_upto_region 5 with (fail)
  rw [HWw6.out]
  obtain ⟨d0, d1, d2, d3, d4, d5, d6, d7, d8, d9⟩ := HD.out
  go_wp2_with fail
  refine (pturned_any UA HPA.out _ _ w6 (fun b h => h) HA.out.foot).mono ?_
  rintro e w7 ⟨vb, T2, rfl, hT, ht, hb⟩
  have e2 := (HTB.out _ hT).symm
  subst e2
  obtain ⟨kvo, svo, rfl, ⟨x1, x2, x3, rfl⟩, ⟨y1, y2, y3, rfl⟩⟩ := ht.ten
  have HB := Lib.hid ht.tre
  replace H0 := Lib.hid (H0.out.below hb); replace HA := Lib.hid (HA.out.below hb); replace HE := Lib.hid (HE.out.below hb); replace HD := Lib.hid (HD.out.below hb); replace HT := Lib.hid (HT.out.trans (hb.mono HT.out.size))
  clear hb ht hT d0 d1 d2 d3 d4 d5 d6 d7 d8 d9
  obtain ⟨w8, hw8⟩ : ∃ w8, w7.alloc (.cells #[.int .i64 UB.fld.op, .slice x1 x2 x3, .int .i32 UB.fld.rune, .slice y1 y2 y3, .int .i64 UB.fld.at', .int .i64 UB.fld.cap, .string UB.fld.name, .int .i64 UB.fld.min, .int .i64 UB.fld.max, .bool UB.fld.lazy] 27) = w8 := ⟨_, rfl⟩
  have hb : Below w7.heap.size w7 w8 := by rw [← hw8]; exact (Below.refl _ _).alloc (Nat.le_refl _) _
  have hHF : Box10 w8 w7.heap.size (.int .i64 UB.fld.op) (.slice x1 x2 x3) (.int .i32 UB.fld.rune) (.slice y1 y2 y3) (.int .i64 UB.fld.at') (.int .i64 UB.fld.cap) (.string UB.fld.name) (.int .i64 UB.fld.min) (.int .i64 UB.fld.max) (.bool UB.fld.lazy) := by rw [← hw8]; exact box10_new w7 _ _ _ _ _ _ _ _ _ _ _
  have HWw8 := Lib.hid hw8; have HF := Lib.hid hHF
  replace H0 := Lib.hid (H0.out.below hb); replace HA := Lib.hid (HA.out.below hb); replace HB := Lib.hid (HB.out.below hb); replace HE := Lib.hid (HE.out.below hb); replace HD := Lib.hid (HD.out.below hb); replace HT := Lib.hid (HT.out.trans (hb.mono HT.out.size))
  clear hb hw8 hHF
  go_upto_region 6 with (fail)
  rw [HWw8.out]
  have hb := (Below.refl w8.heap.size w8).drew
  replace H0 := Lib.hid (H0.out.below hb); replace HA := Lib.hid (HA.out.below hb); replace HB := Lib.hid (HB.out.below hb); replace HE := Lib.hid (HE.out.below hb); replace HD := Lib.hid (HD.out.below hb); replace HF := Lib.hid (HF.out.below hb); replace HT := Lib.hid (HT.out.trans (hb.mono HT.out.size))
  rw [← HV.out] at H0
  clear hb HV HWw6 HWw8
  obtain ⟨b0, b1, b2, b3, b4, b5, b6, b7, b8, b9⟩ := HE.out
  obtain ⟨d0, d1, d2, d3, d4, d5, d6, d7, d8, d9⟩ := HD.out
  obtain ⟨f0, f1, f2, f3, f4, f5, f6, f7, f8, f9⟩ := HF.out
  go_region_held3 (fun w' => w'.cell? ⟨w.heap.size, 0, none⟩ = some (.int .i64 t.fld.op) ∧ w'.cell? ⟨w.heap.size, 1, none⟩ = some (.slice A n c) ∧ w'.cell? ⟨w.heap.size, 2, none⟩ = some (.int .i32 t.fld.rune) ∧ w'.cell? ⟨w.heap.size, 3, none⟩ = some (.slice a2 s c2) ∧ w'.cell? ⟨w.heap.size, 4, none⟩ = some (.int .i64 t.fld.at') ∧ w'.cell? ⟨w.heap.size, 5, none⟩ = some (.int .i64 t.fld.cap) ∧ w'.cell? ⟨w.heap.size, 6, none⟩ = some (.string t.fld.name) ∧ w'.cell? ⟨w.heap.size, 7, none⟩ = some (.int .i64 t.fld.min) ∧ w'.cell? ⟨w.heap.size, 8, none⟩ = some (.int .i64 t.fld.max) ∧ w'.cell? ⟨w.heap.size, 9, none⟩ = some (.bool t.fld.lazy) ∧ w'.cell? ⟨w5.heap.size, 0, none⟩ = some (.int .i64 UA.fld.op) ∧ w'.cell? ⟨w5.heap.size, 1, none⟩ = some (.slice p1 p2 p3) ∧ w'.cell? ⟨w5.heap.size, 2, none⟩ = some (.int .i32 UA.fld.rune) ∧ w'.cell? ⟨w5.heap.size, 3, none⟩ = some (.slice r1 r2 r3) ∧ w'.cell? ⟨w5.heap.size, 4, none⟩ = some (.int .i64 UA.fld.at') ∧ w'.cell? ⟨w5.heap.size, 5, none⟩ = some (.int .i64 UA.fld.cap) ∧ w'.cell? ⟨w5.heap.size, 6, none⟩ = some (.string UA.fld.name) ∧ w'.cell? ⟨w5.heap.size, 7, none⟩ = some (.int .i64 UA.fld.min) ∧ w'.cell? ⟨w5.heap.size, 8, none⟩ = some (.int .i64 UA.fld.max) ∧ w'.cell? ⟨w5.heap.size, 9, none⟩ = some (.bool UA.fld.lazy) ∧ w'.cell? ⟨w7.heap.size, 0, none⟩ = some (.int .i64 UB.fld.op) ∧ w'.cell? ⟨w7.heap.size, 1, none⟩ = some (.slice x1 x2 x3) ∧ w'.cell? ⟨w7.heap.size, 2, none⟩ = some (.int .i32 UB.fld.rune) ∧ w'.cell? ⟨w7.heap.size, 3, none⟩ = some (.slice y1 y2 y3) ∧ w'.cell? ⟨w7.heap.size, 4, none⟩ = some (.int .i64 UB.fld.at') ∧ w'.cell? ⟨w7.heap.size, 5, none⟩ = some (.int .i64 UB.fld.cap) ∧ w'.cell? ⟨w7.heap.size, 6, none⟩ = some (.string UB.fld.name) ∧ w'.cell? ⟨w7.heap.size, 7, none⟩ = some (.int .i64 UB.fld.min) ∧ w'.cell? ⟨w7.heap.size, 8, none⟩ = some (.int .i64 UB.fld.max) ∧ w'.cell? ⟨w7.heap.size, 9, none⟩ = some (.bool UB.fld.lazy)) (first | assumption | go_keep)
    (first | (go_at_call 12; refine (pright_any UA HPA.out _ _ HA.out).mono ?_; rintro e w' ⟨B, rfl, hq, hb⟩; obtain rfl := (show true = B from (hq.2 HRA.out).symm); clear hq; replace H0 := Lib.hid (H0.out.below hb); replace HA := Lib.hid (HA.out.below hb); replace HB := Lib.hid (HB.out.below hb); replace HE := Lib.hid (HE.out.below hb); replace HD := Lib.hid (HD.out.below hb); replace HF := Lib.hid (HF.out.below hb); replace HT := Lib.hid (HT.out.trans (hb.mono HT.out.size)); (try replace HC := Lib.hid (HC.out.below hb)); clear hb b0 b1 b2 b3 b4 b5 b6 b7 b8 b9 d0 d1 d2 d3 d4 d5 d6 d7 d8 d9 f0 f1 f2 f3 f4 f5 f6 f7 f8 f9; obtain ⟨b0, b1, b2, b3, b4, b5, b6, b7, b8, b9⟩ := HE.out; obtain ⟨d0, d1, d2, d3, d4, d5, d6, d7, d8, d9⟩ := HD.out; obtain ⟨f0, f1, f2, f3, f4, f5, f6, f7, f8, f9⟩ := HF.out) | (go_at_call 24; refine (bare_any t HSH.out HP.out _ _ _ (fun b h => h) H0.out.foot).mono ?_; rintro e w' ⟨vc, rfl, ht, hb⟩; have HC' := ht.tre; replace H0 := Lib.hid (H0.out.below hb); replace HA := Lib.hid (HA.out.below hb); replace HB := Lib.hid (HB.out.below hb); replace HE := Lib.hid (HE.out.below hb); replace HD := Lib.hid (HD.out.below hb); replace HF := Lib.hid (HF.out.below hb); replace HT := Lib.hid (HT.out.trans (hb.mono HT.out.size)); (try replace HC := Lib.hid (HC.out.below hb)); clear hb b0 b1 b2 b3 b4 b5 b6 b7 b8 b9 d0 d1 d2 d3 d4 d5 d6 d7 d8 d9 f0 f1 f2 f3 f4 f5 f6 f7 f8 f9; obtain ⟨b0, b1, b2, b3, b4, b5, b6, b7, b8, b9⟩ := HE.out; obtain ⟨d0, d1, d2, d3, d4, d5, d6, d7, d8, d9⟩ := HD.out; obtain ⟨f0, f1, f2, f3, f4, f5, f6, f7, f8, f9⟩ := HF.out; have HC := Lib.hid HC'; clear HC' ht) | (go_at_call 21; refine (same_any _ _ _ _ _ HB.out HC.out).mono ?_; rintro e w' ⟨B, rfl, hq, hb⟩; obtain rfl := (show true = B from (hq.2 HBT.out).symm); clear hq; replace H0 := Lib.hid (H0.out.below hb); replace HA := Lib.hid (HA.out.below hb); replace HB := Lib.hid (HB.out.below hb); replace HE := Lib.hid (HE.out.below hb); replace HD := Lib.hid (HD.out.below hb); replace HF := Lib.hid (HF.out.below hb); replace HT := Lib.hid (HT.out.trans (hb.mono HT.out.size)); (try replace HC := Lib.hid (HC.out.below hb)); clear hb b0 b1 b2 b3 b4 b5 b6 b7 b8 b9 d0 d1 d2 d3 d4 d5 d6 d7 d8 d9 f0 f1 f2 f3 f4 f5 f6 f7 f8 f9; obtain ⟨b0, b1, b2, b3, b4, b5, b6, b7, b8, b9⟩ := HE.out; obtain ⟨d0, d1, d2, d3, d4, d5, d6, d7, d8, d9⟩ := HD.out; obtain ⟨f0, f1, f2, f3, f4, f5, f6, f7, f8, f9⟩ := HF.out) | (go_at_call 16; (with_reducible show Calls _ _ #[.agg #[.int .i64 UA.fld.op, _, _, _, _, _, _, _, _, _]] _ _); refine (pempty_any UA HPA.out _ _ HA.out).mono ?_; rintro e w' ⟨B, rfl, hq, hb⟩; obtain rfl := (show EB = B from Bool.eq_iff_iff.2 (HEA.out.trans hq.symm)); clear hq; replace H0 := Lib.hid (H0.out.below hb); replace HA := Lib.hid (HA.out.below hb); replace HB := Lib.hid (HB.out.below hb); replace HE := Lib.hid (HE.out.below hb); replace HD := Lib.hid (HD.out.below hb); replace HF := Lib.hid (HF.out.below hb); replace HT := Lib.hid (HT.out.trans (hb.mono HT.out.size)); (try replace HC := Lib.hid (HC.out.below hb)); clear hb b0 b1 b2 b3 b4 b5 b6 b7 b8 b9 d0 d1 d2 d3 d4 d5 d6 d7 d8 d9 f0 f1 f2 f3 f4 f5 f6 f7 f8 f9; obtain ⟨b0, b1, b2, b3, b4, b5, b6, b7, b8, b9⟩ := HE.out; obtain ⟨d0, d1, d2, d3, d4, d5, d6, d7, d8, d9⟩ := HD.out; obtain ⟨f0, f1, f2, f3, f4, f5, f6, f7, f8, f9⟩ := HF.out) | (go_at_call 16; (with_reducible show Calls _ _ #[.agg #[.int .i64 t.fld.op, _, _, _, _, _, _, _, _, _]] _ _); refine (pempty_any t HP.out _ _ H0.out).mono ?_; rintro e w' ⟨B, rfl, hq, hb⟩; obtain rfl := (show EB = B from Bool.eq_iff_iff.2 (HE0.out.trans hq.symm)); clear hq; replace H0 := Lib.hid (H0.out.below hb); replace HA := Lib.hid (HA.out.below hb); replace HB := Lib.hid (HB.out.below hb); replace HE := Lib.hid (HE.out.below hb); replace HD := Lib.hid (HD.out.below hb); replace HF := Lib.hid (HF.out.below hb); replace HT := Lib.hid (HT.out.trans (hb.mono HT.out.size)); (try replace HC := Lib.hid (HC.out.below hb)); clear hb b0 b1 b2 b3 b4 b5 b6 b7 b8 b9 d0 d1 d2 d3 d4 d5 d6 d7 d8 d9 f0 f1 f2 f3 f4 f5 f6 f7 f8 f9; obtain ⟨b0, b1, b2, b3, b4, b5, b6, b7, b8, b9⟩ := HE.out; obtain ⟨d0, d1, d2, d3, d4, d5, d6, d7, d8, d9⟩ := HD.out; obtain ⟨f0, f1, f2, f3, f4, f5, f6, f7, f8, f9⟩ := HF.out) | (go_at_call 18; (with_reducible show Calls _ _ #[.agg #[.int .i64 UA.fld.op, _, _, _, _, _, _, _, _, _]] _ _); refine (pstill_any UA HPA.out _ _ HA.out).mono ?_; rintro e w' ⟨B, rfl, hq, hb⟩; obtain rfl := (show SB = B from Bool.eq_iff_iff.2 (HSA.out.trans hq.symm)); clear hq; replace H0 := Lib.hid (H0.out.below hb); replace HA := Lib.hid (HA.out.below hb); replace HB := Lib.hid (HB.out.below hb); replace HE := Lib.hid (HE.out.below hb); replace HD := Lib.hid (HD.out.below hb); replace HF := Lib.hid (HF.out.below hb); replace HT := Lib.hid (HT.out.trans (hb.mono HT.out.size)); (try replace HC := Lib.hid (HC.out.below hb)); clear hb b0 b1 b2 b3 b4 b5 b6 b7 b8 b9 d0 d1 d2 d3 d4 d5 d6 d7 d8 d9 f0 f1 f2 f3 f4 f5 f6 f7 f8 f9; obtain ⟨b0, b1, b2, b3, b4, b5, b6, b7, b8, b9⟩ := HE.out; obtain ⟨d0, d1, d2, d3, d4, d5, d6, d7, d8, d9⟩ := HD.out; obtain ⟨f0, f1, f2, f3, f4, f5, f6, f7, f8, f9⟩ := HF.out) | (go_at_call 18; (with_reducible show Calls _ _ #[.agg #[.int .i64 t.fld.op, _, _, _, _, _, _, _, _, _]] _ _); refine (pstill_any t HP.out _ _ H0.out).mono ?_; rintro e w' ⟨B, rfl, hq, hb⟩; obtain rfl := (show SB = B from Bool.eq_iff_iff.2 (HS0.out.trans hq.symm)); clear hq; replace H0 := Lib.hid (H0.out.below hb); replace HA := Lib.hid (HA.out.below hb); replace HB := Lib.hid (HB.out.below hb); replace HE := Lib.hid (HE.out.below hb); replace HD := Lib.hid (HD.out.below hb); replace HF := Lib.hid (HF.out.below hb); replace HT := Lib.hid (HT.out.trans (hb.mono HT.out.size)); (try replace HC := Lib.hid (HC.out.below hb)); clear hb b0 b1 b2 b3 b4 b5 b6 b7 b8 b9 d0 d1 d2 d3 d4 d5 d6 d7 d8 d9 f0 f1 f2 f3 f4 f5 f6 f7 f8 f9; obtain ⟨b0, b1, b2, b3, b4, b5, b6, b7, b8, b9⟩ := HE.out; obtain ⟨d0, d1, d2, d3, d4, d5, d6, d7, d8, d9⟩ := HD.out; obtain ⟨f0, f1, f2, f3, f4, f5, f6, f7, f8, f9⟩ := HF.out))
  all_goals
    go_wp2_with fail
    go_ret
    exact ⟨rfl, HT.out⟩
end Go.Proofs.Ythapafaeakgfpaa
