/- TreesTurned. -/
import Derived.Test.YthapafaeakgfpaaTrHead
import Derived.Test.YthapafaeakgfpaaTrProg
import Derived.Test.YthapafaeakgfpaaTrSame
import Derived.Test.YthapafaeakgfpaaTrCopied
import Derived.Deep.RegionHeld3
set_option linter.unusedVariables false
namespace Go.Proofs.Ythapafaeakgfpaa
open Go Go.RowKit

set_option maxHeartbeats 1600000 in
set_option maxRecDepth 100000 in
theorem treesTurned_any (w : World) (v : Value) (t : Tr) (h : Tre w t v) : Calls Try.prog 6 #[v] w fun e w' => e = .returned (.bool true) ∧ Below w.heap.size w w' := by
  have h0 := h
  obtain ⟨A, n, c, a2, s, c2, hn, hs, rfl, hnb, hsb, hK, hS, hF⟩ := h.opened
  obtain ⟨w1, hw1⟩ : ∃ w1, w.alloc (.cells #[.int .i64 t.fld.op, .slice A n c, .int .i32 t.fld.rune, .slice a2 s c2, .int .i64 t.fld.at', .int .i64 t.fld.cap, .string t.fld.name, .int .i64 t.fld.min, .int .i64 t.fld.max, .bool t.fld.lazy] 27) = w1 := ⟨_, rfl⟩
  have hb1 : Below w.heap.size w w1 := by rw [← hw1]; exact (Below.refl _ _).alloc (Nat.le_refl _) _
  have hE1 : Box10 w1 w.heap.size (.int .i64 t.fld.op) (.slice A n c) (.int .i32 t.fld.rune) (.slice a2 s c2) (.int .i64 t.fld.at') (.int .i64 t.fld.cap) (.string t.fld.name) (.int .i64 t.fld.min) (.int .i64 t.fld.max) (.bool t.fld.lazy) := by rw [← hw1]; exact box10_new w _ _ _ _ _ _ _ _ _ _ _
  have HW1 := Lib.hid hw1; have HT := Lib.hid hb1; have HE := Lib.hid hE1; have H0 := Lib.hid (h0.below hb1)
  clear hb1 hE1 hw1 hK hS hn hs hF h h0
  obtain ⟨v, hv⟩ : ∃ v, Value.agg #[.int .i64 t.fld.op, .slice A n c, .int .i32 t.fld.rune, .slice a2 s c2, .int .i64 t.fld.at', .int .i64 t.fld.cap, .string t.fld.name, .int .i64 t.fld.min, .int .i64 t.fld.max, .bool t.fld.lazy] = v := ⟨_, rfl⟩
  rw [hv] at H0
  have HV := Lib.hid hv
  clear hv
  go_enter Try.func6, Try.ntmps6
  go_wp2_with fail
  rw [HW1.out]
  clear HW1
  go_wp2_with fail
  refine (thead_any w1).mono ?_
  rintro e w2 ⟨rfl, hb⟩
  replace H0 := Lib.hid (H0.out.below hb); replace HE := Lib.hid (HE.out.below hb)
  replace HT := Lib.hid (HT.out.trans (hb.mono HT.out.size))
  clear hb
  obtain ⟨b0, b1, b2, b3, b4, b5, b6, b7, b8, b9⟩ := HE.out
  go_wp2_with fail
  rw [HV.out]
  refine (great_any t _ w2 H0.out).mono ?_
  rintro e w3 ⟨G, rfl, hg, hb⟩
  replace H0 := Lib.hid (H0.out.below hb); replace HE := Lib.hid (HE.out.below hb)
  replace HT := Lib.hid (HT.out.trans (hb.mono HT.out.size))
  clear hb b0 b1 b2 b3 b4 b5 b6 b7 b8 b9
  have HG := Lib.hid hg
  clear hg
  rcases G with _ | _
  rotate_left
  · clear HG
    go_wp2_with fail
    go_ret
    exact ⟨rfl, HT.out⟩
  have hp : partsR t ≤ 1000000 := by
    have := mt HG.out.2 (by decide)
    omega
  clear HG
  obtain ⟨b0, b1, b2, b3, b4, b5, b6, b7, b8, b9⟩ := HE.out
  go_wp2_with fail
  rw [HV.out]
  refine (copied_any t hp _ w3 H0.out).mono ?_
  rintro e w4 ⟨vo, rfl, hto, hb⟩
  replace H0 := Lib.hid (H0.out.below hb); replace HE := Lib.hid (HE.out.below hb)
  replace HT := Lib.hid (HT.out.trans (hb.mono HT.out.size))
  clear hb b0 b1 b2 b3 b4 b5 b6 b7 b8 b9
  obtain ⟨kvo, svo, rfl, ⟨p1, p2, p3, rfl⟩, ⟨r1, r2, r3, rfl⟩⟩ := hto.ten
  have HO := Lib.hid hto.tre
  clear hto
  rw [← HV.out] at H0
  clear HV
  obtain ⟨w5, hw5⟩ : ∃ w5, w4.alloc (.cells #[.int .i64 t.fld.op, .slice p1 p2 p3, .int .i32 t.fld.rune, .slice r1 r2 r3, .int .i64 t.fld.at', .int .i64 t.fld.cap, .string t.fld.name, .int .i64 t.fld.min, .int .i64 t.fld.max, .bool t.fld.lazy] 27) = w5 := ⟨_, rfl⟩
  have hb : Below w4.heap.size w4 w5 := by rw [← hw5]; exact (Below.refl _ _).alloc (Nat.le_refl _) _
  have hD : Box10 w5 w4.heap.size (.int .i64 t.fld.op) (.slice p1 p2 p3) (.int .i32 t.fld.rune) (.slice r1 r2 r3) (.int .i64 t.fld.at') (.int .i64 t.fld.cap) (.string t.fld.name) (.int .i64 t.fld.min) (.int .i64 t.fld.max) (.bool t.fld.lazy) := by rw [← hw5]; exact box10_new w4 _ _ _ _ _ _ _ _ _ _ _
  have HW5 := Lib.hid hw5; have HD := Lib.hid hD
  replace H0 := Lib.hid (H0.out.below hb); replace HO := Lib.hid (HO.out.below hb); replace HE := Lib.hid (HE.out.below hb); replace HT := Lib.hid (HT.out.trans (hb.mono HT.out.size))
  clear hb hD hw5
  go_upto_region 5 with (fail)
  rw [HW5.out]
  obtain ⟨U, hU⟩ : ∃ U, TopOf t U := by
    by_cases h : RightT t
    · exact ⟨_, .inl ⟨h, rfl⟩⟩
    · exact ⟨_, .inr ⟨h, rfl⟩⟩
  have HU := Lib.hid hU; have HP := Lib.hid hp
  have hb := (Below.refl w5.heap.size w5).drew
  replace H0 := Lib.hid (H0.out.below hb); replace HO := Lib.hid (HO.out.below hb); replace HE := Lib.hid (HE.out.below hb); replace HD := Lib.hid (HD.out.below hb); replace HT := Lib.hid (HT.out.trans (hb.mono HT.out.size))
  clear hb hU HW5 hp
  obtain ⟨b0, b1, b2, b3, b4, b5, b6, b7, b8, b9⟩ := HE.out
  obtain ⟨d0, d1, d2, d3, d4, d5, d6, d7, d8, d9⟩ := HD.out
  go_region_held3 (fun w' => w'.cell? ⟨w.heap.size, 0, none⟩ = some (.int .i64 t.fld.op) ∧ w'.cell? ⟨w.heap.size, 1, none⟩ = some (.slice A n c) ∧ w'.cell? ⟨w.heap.size, 2, none⟩ = some (.int .i32 t.fld.rune) ∧ w'.cell? ⟨w.heap.size, 3, none⟩ = some (.slice a2 s c2) ∧ w'.cell? ⟨w.heap.size, 4, none⟩ = some (.int .i64 t.fld.at') ∧ w'.cell? ⟨w.heap.size, 5, none⟩ = some (.int .i64 t.fld.cap) ∧ w'.cell? ⟨w.heap.size, 6, none⟩ = some (.string t.fld.name) ∧ w'.cell? ⟨w.heap.size, 7, none⟩ = some (.int .i64 t.fld.min) ∧ w'.cell? ⟨w.heap.size, 8, none⟩ = some (.int .i64 t.fld.max) ∧ w'.cell? ⟨w.heap.size, 9, none⟩ = some (.bool t.fld.lazy) ∧ w'.cell? ⟨w4.heap.size, 0, none⟩ = some (.int .i64 t.fld.op) ∧ w'.cell? ⟨w4.heap.size, 1, none⟩ = some (.slice p1 p2 p3) ∧ w'.cell? ⟨w4.heap.size, 2, none⟩ = some (.int .i32 t.fld.rune) ∧ w'.cell? ⟨w4.heap.size, 3, none⟩ = some (.slice r1 r2 r3) ∧ w'.cell? ⟨w4.heap.size, 4, none⟩ = some (.int .i64 t.fld.at') ∧ w'.cell? ⟨w4.heap.size, 5, none⟩ = some (.int .i64 t.fld.cap) ∧ w'.cell? ⟨w4.heap.size, 6, none⟩ = some (.string t.fld.name) ∧ w'.cell? ⟨w4.heap.size, 7, none⟩ = some (.int .i64 t.fld.min) ∧ w'.cell? ⟨w4.heap.size, 8, none⟩ = some (.int .i64 t.fld.max) ∧ w'.cell? ⟨w4.heap.size, 9, none⟩ = some (.bool t.fld.lazy)) (first | assumption | go_keep)
    (first | (go_at_call 22; refine (pturned_any t HP.out _ _ _ (fun b h => h) HO.out.foot).mono ?_; rintro e w' ⟨va, T1, rfl, hT, ht, hb⟩; obtain rfl := hT.one HU.out; have HA' := ht.tre; replace H0 := Lib.hid (H0.out.below hb); replace HO := Lib.hid (HO.out.below hb); replace HE := Lib.hid (HE.out.below hb); replace HD := Lib.hid (HD.out.below hb); replace HT := Lib.hid (HT.out.trans (hb.mono HT.out.size)); (try replace HA := Lib.hid (HA.out.below hb)); (try replace HC := Lib.hid (HC.out.below hb)); clear hb b0 b1 b2 b3 b4 b5 b6 b7 b8 b9 d0 d1 d2 d3 d4 d5 d6 d7 d8 d9; obtain ⟨b0, b1, b2, b3, b4, b5, b6, b7, b8, b9⟩ := HE.out; obtain ⟨d0, d1, d2, d3, d4, d5, d6, d7, d8, d9⟩ := HD.out; have HA := Lib.hid HA'; clear HA' ht hT) | (go_at_call 23; refine (rturned_any t HP.out _ _ _ (fun b h => h) H0.out.foot).mono ?_; rintro e w' ⟨vb, T1, rfl, hT, ht, hb⟩; obtain rfl := hT.one HU.out; have HC' := ht.tre; replace H0 := Lib.hid (H0.out.below hb); replace HO := Lib.hid (HO.out.below hb); replace HE := Lib.hid (HE.out.below hb); replace HD := Lib.hid (HD.out.below hb); replace HT := Lib.hid (HT.out.trans (hb.mono HT.out.size)); (try replace HA := Lib.hid (HA.out.below hb)); (try replace HC := Lib.hid (HC.out.below hb)); clear hb b0 b1 b2 b3 b4 b5 b6 b7 b8 b9 d0 d1 d2 d3 d4 d5 d6 d7 d8 d9; obtain ⟨b0, b1, b2, b3, b4, b5, b6, b7, b8, b9⟩ := HE.out; obtain ⟨d0, d1, d2, d3, d4, d5, d6, d7, d8, d9⟩ := HD.out; have HC := Lib.hid HC'; clear HC' ht hT) | (go_at_call 21; refine (same_any _ _ _ _ _ HA.out HC.out).mono ?_; rintro e w' ⟨B, rfl, hq, hb⟩; obtain rfl := (show true = B from (hq.2 rfl).symm); clear hq; replace H0 := Lib.hid (H0.out.below hb); replace HO := Lib.hid (HO.out.below hb); replace HE := Lib.hid (HE.out.below hb); replace HD := Lib.hid (HD.out.below hb); replace HT := Lib.hid (HT.out.trans (hb.mono HT.out.size)); (try replace HA := Lib.hid (HA.out.below hb)); (try replace HC := Lib.hid (HC.out.below hb)); clear hb b0 b1 b2 b3 b4 b5 b6 b7 b8 b9 d0 d1 d2 d3 d4 d5 d6 d7 d8 d9; obtain ⟨b0, b1, b2, b3, b4, b5, b6, b7, b8, b9⟩ := HE.out; obtain ⟨d0, d1, d2, d3, d4, d5, d6, d7, d8, d9⟩ := HD.out))
  all_goals
    go_wp2_with fail
    refine (same_any t t _ _ _ HO.out H0.out).mono ?_
    rintro e w' ⟨B, rfl, hq, hb⟩
    obtain rfl := (show true = B from (hq.2 rfl).symm)
    replace HT := Lib.hid (HT.out.trans (hb.mono HT.out.size))
    clear hq hb
    go_wp2_with fail
    go_ret
    exact ⟨rfl, HT.out⟩
end Go.Proofs.Ythapafaeakgfpaa
