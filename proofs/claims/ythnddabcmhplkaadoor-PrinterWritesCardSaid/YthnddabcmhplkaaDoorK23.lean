/- Texts merged by program: PwRep, RwSmall, RwOne, RwSet, PwTextA, PwTextB, PwTextC, PwText. No condition. -/
import Derived.Test.YthnddabcmhplkaaDoorK14
import Derived.Test.YthnddabcmhplkaaDoorK21
import Derived.Test.YthnddabcmhplkaaDoorK20
import Derived.Test.YthnddabcmhplkaaDoorK22
import Derived.Test.YthnddabcmhplkaaDoorK9
import Derived.Test.YthnddabcmhplkaaDoorK1
import Derived.Deep.RegionHeld3
import Derived.Lib.ItoaNum
import Derived.BigQuiet
import Derived.Deep.QuietTactic
set_option linter.unusedVariables false
/- The program's text of a shaped tree: repeated, chained, within and text itself, by recursion over the tree. -/
namespace Go.Proofs.YthnddabcmhplkaaDoor
open Go Go.RowKit

theorem sole_all (t : Tr) : ShapedP t → ShapedP (soleT t) ∧ partsR (soleT t) ≤ partsR t ∧ textT (soleT t) = textT t := by
  refine Tr.ind (P := fun t => ShapedP t → ShapedP (soleT t) ∧ partsR (soleT t) ≤ partsR t ∧ textT (soleT t) = textT t) (fun t ih hs => ?_) t
  by_cases hl : Lone t
  · obtain ⟨k, hkk⟩ := lone_kid hl
    have e := ih k (by rw [hkk]; simp) (((shapedP_iff t).1 hs).2.2.2 k (by rw [hkk]; simp))
    have hp := partsR_kid (t := t) (k := k) (by rw [hkk]; simp)
    rw [sole_lone hl hkk, text_lone hl hkk]
    exact ⟨e.1, by omega, e.2.2⟩
  · rw [sole_self hl]
    exact ⟨hs, Nat.le_refl _, rfl⟩
def TextC (t : Tr) : Prop := ∀ (v : Value) (w : World), Tre w t v → Calls Tryd.prog 9 #[v] w (TextZ (textT t) w)
theorem L_open : (⟨#[40, 63, 58]⟩ : ByteArray).toList = [40, 63, 58] := by kernel_rfl
theorem L_close : (⟨#[41]⟩ : ByteArray).toList = [41] := by kernel_rfl
theorem flat_wrap (l : List UInt8) : flatB [⟨#[40, 63, 58]⟩, textB l, ⟨#[41]⟩] = wrapP l := by simp [flatB, textB_list, wrapP]

set_option maxHeartbeats 3200000 in
set_option maxRecDepth 100000 in
theorem within_of {t : Tr} (hC : TextC t) (hl : (textT t).length ≤ 100000000000000) (v : Value) (w : World) (h : Tre w t v) : Calls Tryd.prog 48 #[v] w (TextZ (wrapP (textT t)) w) := by
  obtain ⟨A, n, c, a2, s, c2, hn, hs, rfl, hnb, hsb, hK, hS, hFl⟩ := h.opened
  obtain ⟨w1, hw1⟩ : ∃ w1, w.alloc (.cells #[.int .i64 t.fld.op, .slice A n c, .int .i32 t.fld.rune, .slice a2 s c2, .int .i64 t.fld.at', .int .i64 t.fld.cap, .string t.fld.name, .int .i64 t.fld.min, .int .i64 t.fld.max, .bool t.fld.lazy] 27) = w1 := ⟨_, rfl⟩
  have hb1 : Below w.heap.size w w1 := by rw [← hw1]; exact (Below.refl _ w).alloc (Nat.le_refl _) _
  have hE1 : Whole w1 w.heap.size 27 #[.int .i64 t.fld.op, .slice A n c, .int .i32 t.fld.rune, .slice a2 s c2, .int .i64 t.fld.at', .int .i64 t.fld.cap, .string t.fld.name, .int .i64 t.fld.min, .int .i64 t.fld.max, .bool t.fld.lazy] := by rw [← hw1]; exact heap_alloc_new w _
  have HA := Lib.hid (hC _ w1 (h.below hb1))
  have HW1 := Lib.hid hw1; have HB1 := Lib.hid hb1
  obtain ⟨g0, g1, g2, g3, g4, g5, g6, g7, g8, g9⟩ := hE1.ten
  obtain ⟨x, hx⟩ : ∃ x, textT t = x := ⟨_, rfl⟩
  rw [hx] at HA hl ⊢
  have HJ := Lib.hid fun W => joined_new [⟨#[40, 63, 58]⟩, textB x, ⟨#[41]⟩] W 3 _ rfl rfl 9 (by decide) (by rw [flat_wrap, wrap_len]; omega)
  rw [flat_wrap] at HJ
  obtain ⟨Y, hY⟩ : ∃ Y, wrapP x = Y := ⟨_, rfl⟩
  rw [hY] at HJ ⊢
  clear h hn hs hnb hsb hK hS hFl hw1 hb1 hE1 hx hY hl
  go_enter Tryd.func48, Tryd.ntmps48
  go_upto_region 1 with (fail)
  rw [HW1.out]
  go_wp2_with fail
  refine HA.out.mono ?_
  rintro e w2 ⟨rfl, hb2⟩
  have HB2 := Lib.hid (HB1.out.trans (hb2.mono HB1.out.size))
  clear hb2
  go_wp2_with fail
  refine (HJ.out _).mono ?_
  rintro e w3 ⟨rfl, hb3⟩
  have HB3 := Lib.hid (HB2.out.trans (hb3.mono HB2.out.size))
  clear hb3
  go_wp2_with fail
  go_ret
  exact ⟨rfl, HB3.out⟩
set_option maxHeartbeats 6400000 in
set_option maxRecDepth 100000 in
theorem repeated_of {k : Tr} (hs0 : ShapedP k) (hp : partsR k ≤ 10000000000) (hC : TextC (soleT k)) (v : Value) (w : World) (h : Tre w k v) : Calls Tryd.prog 21 #[v] w (TextZ (repT k) w) := by
  have q1 := sole_all k hs0
  have hlen := text_len (soleT k) q1.1
  have HI := Lib.hid (within_of hC (by omega))
  have HT := Lib.hid hC
  have hops := shaped_kinds q1.1
  have hnl := sole_not k
  have HX : Hid (textT (soleT k) = textT k) := Lib.hid q1.2.2
  clear hlen hC q1
  obtain ⟨O, hO⟩ : ∃ O, repT k = O := ⟨_, rfl⟩
  rw [hO]
  have HO := Lib.hid hO
  clear hO hs0
  have hF := h.foot
  obtain ⟨u, hu⟩ : ∃ u, soleT k = u := ⟨_, rfl⟩
  have HU := Lib.hid hu
  clear hu
  obtain ⟨A, n, c, a2, s, c2, hn, hs, rfl, hnb, hsb, hK, hS, hFl⟩ := h.opened
  obtain ⟨w1, hw1⟩ : ∃ w1, w.alloc (.cells #[.int .i64 k.fld.op, .slice A n c, .int .i32 k.fld.rune, .slice a2 s c2, .int .i64 k.fld.at', .int .i64 k.fld.cap, .string k.fld.name, .int .i64 k.fld.min, .int .i64 k.fld.max, .bool k.fld.lazy] 27) = w1 := ⟨_, rfl⟩
  have hb1 : Below w.heap.size w w1 := by rw [← hw1]; exact (Below.refl _ w).alloc (Nat.le_refl _) _
  have hE1 : Whole w1 w.heap.size 27 #[.int .i64 k.fld.op, .slice A n c, .int .i32 k.fld.rune, .slice a2 s c2, .int .i64 k.fld.at', .int .i64 k.fld.cap, .string k.fld.name, .int .i64 k.fld.min, .int .i64 k.fld.max, .bool k.fld.lazy] := by rw [← hw1]; exact heap_alloc_new w _
  have HA := Lib.hid (alone_any (fun b => b < w.heap.size) k _ w1 (fun b hb => Nat.lt_of_lt_of_le hb hb1.size) (hF.same (same_below hb1) (fun _ h _ => h)) hp)
  have HW1 := Lib.hid hw1; have HB1 := Lib.hid hb1; have HE1 := Lib.hid hE1
  obtain ⟨g0, g1, g2, g3, g4, g5, g6, g7, g8, g9⟩ := hE1.ten
  clear h hF hn hs hnb hsb hK hS hFl hw1 hb1 hE1
  go_enter Tryd.func21, Tryd.ntmps21
  go_upto_region 1 with (fail)
  rw [HW1.out]
  go_wp2_with fail
  refine HA.out.mono ?_
  rintro e w2 ⟨v2, rfl, ht2, hb2⟩
  rw [HU.out] at ht2
  obtain ⟨kv2, sv2, rfl, ⟨x1, x2, x3, rfl⟩, ⟨y1, y2, y3, rfl⟩⟩ := ht2.ten
  have hE2 : Whole w2 w.heap.size 27 #[.int .i64 k.fld.op, .slice A n c, .int .i32 k.fld.rune, .slice a2 s c2, .int .i64 k.fld.at', .int .i64 k.fld.cap, .string k.fld.name, .int .i64 k.fld.min, .int .i64 k.fld.max, .bool k.fld.lazy] := HE1.out.below hb2 HE1.out.lt
  obtain ⟨w3, hw3⟩ : ∃ w3, set10 w2 w.heap.size (.int .i64 u.fld.op) (.slice x1 x2 x3) (.int .i32 u.fld.rune) (.slice y1 y2 y3) (.int .i64 u.fld.at') (.int .i64 u.fld.cap) (.string u.fld.name) (.int .i64 u.fld.min) (.int .i64 u.fld.max) (.bool u.fld.lazy) = w3 := ⟨_, rfl⟩
  have hE3 : Whole w3 w.heap.size 27 #[.int .i64 u.fld.op, .slice x1 x2 x3, .int .i32 u.fld.rune, .slice y1 y2 y3, .int .i64 u.fld.at', .int .i64 u.fld.cap, .string u.fld.name, .int .i64 u.fld.min, .int .i64 u.fld.max, .bool u.fld.lazy] := by rw [← hw3]; exact set10_whole hE2 _ _ _ _ _ _ _ _ _ _
  have hsame : SameOn (fun k => k ≠ w.heap.size) w2 w3 := by rw [← hw3]; exact set10_same _ _ _ _ _ _ _ _ _ _ _ _
  have hT3 : Tre w3 u (.agg #[.int .i64 u.fld.op, .slice x1 x2 x3, .int .i32 u.fld.rune, .slice y1 y2 y3, .int .i64 u.fld.at', .int .i64 u.fld.cap, .string u.fld.name, .int .i64 u.fld.min, .int .i64 u.fld.max, .bool u.fld.lazy]) := ht2.same (fun b hb hl => hsame b (by have : b < w.heap.size := hb; omega) hl) (fun _ _ _ => trivial)
  have hB3 : Below w.heap.size w w3 := by rw [← hw3]; exact set10_below (HB1.out.trans (hb2.mono HB1.out.size)) (Nat.le_refl _) _ _ _ _ _ _ _ _ _ _
  clear g0 g1 g2 g3 g4 g5 g6 g7 g8 g9
  obtain ⟨g0, g1, g2, g3, g4, g5, g6, g7, g8, g9⟩ := hE2.ten
  obtain ⟨z0, z1, z2, z3, z4, z5, z6, z7, z8, z9⟩ := whole_free hE2
  unfold set10 at hw3
  have HW3 := Lib.hid hw3; have HE3 := Lib.hid hE3; have HT3 := Lib.hid hT3; have HB3 := Lib.hid hB3
  clear ht2 hb2 hE2 hw3 hE3 hsame hT3 hB3 HA HE1 HB1 HW1
  go_upto_region 2 with (fail)
  rw [HW3.out]
  clear g0 g1 g2 g3 g4 g5 g6 g7 g8 g9 z0 z1 z2 z3 z4 z5 z6 z7 z8 z9
  obtain ⟨r0, r1, r2, r3, r4, r5, r6, r7, r8, r9⟩ := HE3.out.ten
  rw [HU.out] at HI HT HX hops hnl
  have HXX := Lib.hid (HX.out)
  have HK : Hid (u.kids.length = x2) := Lib.hid (by
    have := HT3.out
    unfold Tre at this
    rw [treF_iff] at this
    obtain ⟨kv', sv', e, -, -, A', c', rfl, -⟩ := this
    have := (treC_inj (f := u.fld) (k1 := .slice x1 x2 x3) (s1 := .slice y1 y2 y3) e).1
    injection this with _ q _
    exact q.symm)
  have hd : HeldZ k ↔ (u.fld.op = 11 ∧ u.kids ≠ []) ∨ (7 ≤ u.fld.op ∧ u.fld.op ≠ 11) := by unfold HeldZ; rw [HU.out]
  have hy : HeldZ k → O = wrapP (textT u) := fun hh => by
    rw [← HO.out, HX.out]
    unfold repT repP
    rw [if_pos hh]
  have hno : ¬ HeldZ k → O = textT u := fun hh => by
    rw [← HO.out, HX.out]
    unfold repT repP
    rw [if_neg hh]
  rw [hd] at hy hno
  have hcase : (u.fld.op = 11 ∧ 0 < x2 ∧ O = wrapP (textT u)) ∨ (u.fld.op = 11 ∧ ¬ 0 < x2 ∧ O = textT u) ∨ ((u.fld.op = 12 ∨ u.fld.op = 7 ∨ u.fld.op = 8 ∨ u.fld.op = 9 ∨ u.fld.op = 10) ∧ O = wrapP (textT u)) ∨ ((u.fld.op ≠ 11 ∧ u.fld.op ≠ 12 ∧ u.fld.op ≠ 7 ∧ u.fld.op ≠ 8 ∧ u.fld.op ≠ 9 ∧ u.fld.op ≠ 10) ∧ O = textT u) := by
    have hk := HK.out
    by_cases h11 : u.fld.op = 11
    · by_cases hz : 0 < x2
      · exact .inl ⟨h11, hz, hy (.inl ⟨h11, fun e => by rw [e] at hk; simp at hk; omega⟩)⟩
      · exact .inr (.inl ⟨h11, hz, hno (by rintro (e | e); exact e.2 (List.eq_nil_of_length_eq_zero (by omega)); exact e.2 h11)⟩)
    · by_cases h6 : 7 ≤ u.fld.op
      · exact .inr (.inr (.inl ⟨by omega, hy (.inr ⟨h6, h11⟩)⟩))
      · exact .inr (.inr (.inr ⟨by omega, hno (by rintro (e | e); exact h11 e.1; exact h6 e.1)⟩))
  clear hd hy hno hops hnl
  obtain ⟨op, hop⟩ : ∃ op, u.fld.op = op := ⟨_, rfl⟩
  rw [hop] at hcase r0 HT3
  rcases hcase with ⟨rfl, hz, hO⟩ | ⟨rfl, hz, hO⟩ | ⟨hq, hO⟩ | ⟨hq, hO⟩
  · have hzz : (0 : Int) < (x2 : Int) := by omega
    have HO2 := Lib.hid hO
    clear hO hop
    go_wp2_with fail
    refine (HI.out _ _ (HT3.out)).mono ?_
    rintro e w4 ⟨rfl, hb4⟩
    have HB4 := Lib.hid (HB3.out.trans (hb4.mono HB3.out.size))
    clear hb4
    go_wp2_with fail
    go_ret
    exact ⟨by rw [HO2.out]; try rfl, HB4.out⟩
  · have hzz : ¬ (0 : Int) < (x2 : Int) := by omega
    have hz0 : x2 = 0 := by omega
    subst hz0
    have HO2 := Lib.hid hO
    clear hO hop
    go_wp2_with fail
    refine (HT.out _ _ (HT3.out)).mono ?_
    rintro e w4 ⟨rfl, hb4⟩
    have HB4 := Lib.hid (HB3.out.trans (hb4.mono HB3.out.size))
    clear hb4
    go_wp2_with fail
    go_ret
    exact ⟨by rw [HO2.out]; try rfl, HB4.out⟩
  · have HO2 := Lib.hid hO
    clear hO hop
    rcases hq with rfl | rfl | rfl | rfl | rfl
    all_goals
      go_wp2_with fail
      refine (HI.out _ _ (HT3.out)).mono ?_
      rintro e w4 ⟨rfl, hb4⟩
      have HB4 := Lib.hid (HB3.out.trans (hb4.mono HB3.out.size))
      clear hb4
      go_wp2_with fail
      go_ret
      exact ⟨by rw [HO2.out]; try rfl, HB4.out⟩
  · have HO2 := Lib.hid hO
    clear hO hop
    obtain ⟨h1, h2, h3, h4, h5, h6⟩ := hq
    have e11 : (op == 11) = false := by simpa using h1
    have e12 : (op == 12) = false := by simpa using h2
    have e7 : (op == 7) = false := by simpa using h3
    have e8 : (op == 8) = false := by simpa using h4
    have e9 : (op == 9) = false := by simpa using h5
    have e10 : (op == 10) = false := by simpa using h6
    clear h1 h2 h3 h4 h5 h6
    go_wp2_with fail
    refine (HT.out _ _ (HT3.out)).mono ?_
    rintro e w4 ⟨rfl, hb4⟩
    have HB4 := Lib.hid (HB3.out.trans (hb4.mono HB3.out.size))
    clear hb4
    go_wp2_with fail
    go_ret
    exact ⟨by rw [HO2.out]; try rfl, HB4.out⟩
set_option maxHeartbeats 6400000 in
set_option maxRecDepth 100000 in
theorem chained_of {k : Tr} (hs0 : ShapedP k) (hp : partsR k ≤ 10000000000) (hC : TextC (soleT k)) (v : Value) (w : World) (h : Tre w k v) : Calls Tryd.prog 25 #[v] w (TextZ (chainT k) w) := by
  have q1 := sole_all k hs0
  have hlen := text_len (soleT k) q1.1
  have HI := Lib.hid (within_of hC (by omega))
  have HT := Lib.hid hC
  have hops := shaped_kinds q1.1
  have hnl := sole_not k
  have HX : Hid (textT (soleT k) = textT k) := Lib.hid q1.2.2
  clear hlen hC q1
  obtain ⟨O, hO⟩ : ∃ O, chainT k = O := ⟨_, rfl⟩
  rw [hO]
  have HO := Lib.hid hO
  clear hO hs0
  have hF := h.foot
  obtain ⟨u, hu⟩ : ∃ u, soleT k = u := ⟨_, rfl⟩
  have HU := Lib.hid hu
  clear hu
  obtain ⟨A, n, c, a2, s, c2, hn, hs, rfl, hnb, hsb, hK, hS, hFl⟩ := h.opened
  obtain ⟨w1, hw1⟩ : ∃ w1, w.alloc (.cells #[.int .i64 k.fld.op, .slice A n c, .int .i32 k.fld.rune, .slice a2 s c2, .int .i64 k.fld.at', .int .i64 k.fld.cap, .string k.fld.name, .int .i64 k.fld.min, .int .i64 k.fld.max, .bool k.fld.lazy] 27) = w1 := ⟨_, rfl⟩
  have hb1 : Below w.heap.size w w1 := by rw [← hw1]; exact (Below.refl _ w).alloc (Nat.le_refl _) _
  have hE1 : Whole w1 w.heap.size 27 #[.int .i64 k.fld.op, .slice A n c, .int .i32 k.fld.rune, .slice a2 s c2, .int .i64 k.fld.at', .int .i64 k.fld.cap, .string k.fld.name, .int .i64 k.fld.min, .int .i64 k.fld.max, .bool k.fld.lazy] := by rw [← hw1]; exact heap_alloc_new w _
  have HA := Lib.hid (alone_any (fun b => b < w.heap.size) k _ w1 (fun b hb => Nat.lt_of_lt_of_le hb hb1.size) (hF.same (same_below hb1) (fun _ h _ => h)) hp)
  have HW1 := Lib.hid hw1; have HB1 := Lib.hid hb1; have HE1 := Lib.hid hE1
  obtain ⟨g0, g1, g2, g3, g4, g5, g6, g7, g8, g9⟩ := hE1.ten
  clear h hF hn hs hnb hsb hK hS hFl hw1 hb1 hE1
  go_enter Tryd.func25, Tryd.ntmps25
  go_upto_region 1 with (fail)
  rw [HW1.out]
  go_wp2_with fail
  refine HA.out.mono ?_
  rintro e w2 ⟨v2, rfl, ht2, hb2⟩
  rw [HU.out] at ht2
  obtain ⟨kv2, sv2, rfl, ⟨x1, x2, x3, rfl⟩, ⟨y1, y2, y3, rfl⟩⟩ := ht2.ten
  have hE2 : Whole w2 w.heap.size 27 #[.int .i64 k.fld.op, .slice A n c, .int .i32 k.fld.rune, .slice a2 s c2, .int .i64 k.fld.at', .int .i64 k.fld.cap, .string k.fld.name, .int .i64 k.fld.min, .int .i64 k.fld.max, .bool k.fld.lazy] := HE1.out.below hb2 HE1.out.lt
  obtain ⟨w3, hw3⟩ : ∃ w3, set10 w2 w.heap.size (.int .i64 u.fld.op) (.slice x1 x2 x3) (.int .i32 u.fld.rune) (.slice y1 y2 y3) (.int .i64 u.fld.at') (.int .i64 u.fld.cap) (.string u.fld.name) (.int .i64 u.fld.min) (.int .i64 u.fld.max) (.bool u.fld.lazy) = w3 := ⟨_, rfl⟩
  have hE3 : Whole w3 w.heap.size 27 #[.int .i64 u.fld.op, .slice x1 x2 x3, .int .i32 u.fld.rune, .slice y1 y2 y3, .int .i64 u.fld.at', .int .i64 u.fld.cap, .string u.fld.name, .int .i64 u.fld.min, .int .i64 u.fld.max, .bool u.fld.lazy] := by rw [← hw3]; exact set10_whole hE2 _ _ _ _ _ _ _ _ _ _
  have hsame : SameOn (fun k => k ≠ w.heap.size) w2 w3 := by rw [← hw3]; exact set10_same _ _ _ _ _ _ _ _ _ _ _ _
  have hT3 : Tre w3 u (.agg #[.int .i64 u.fld.op, .slice x1 x2 x3, .int .i32 u.fld.rune, .slice y1 y2 y3, .int .i64 u.fld.at', .int .i64 u.fld.cap, .string u.fld.name, .int .i64 u.fld.min, .int .i64 u.fld.max, .bool u.fld.lazy]) := ht2.same (fun b hb hl => hsame b (by have : b < w.heap.size := hb; omega) hl) (fun _ _ _ => trivial)
  have hB3 : Below w.heap.size w w3 := by rw [← hw3]; exact set10_below (HB1.out.trans (hb2.mono HB1.out.size)) (Nat.le_refl _) _ _ _ _ _ _ _ _ _ _
  clear g0 g1 g2 g3 g4 g5 g6 g7 g8 g9
  obtain ⟨g0, g1, g2, g3, g4, g5, g6, g7, g8, g9⟩ := hE2.ten
  obtain ⟨z0, z1, z2, z3, z4, z5, z6, z7, z8, z9⟩ := whole_free hE2
  unfold set10 at hw3
  have HW3 := Lib.hid hw3; have HE3 := Lib.hid hE3; have HT3 := Lib.hid hT3; have HB3 := Lib.hid hB3
  clear ht2 hb2 hE2 hw3 hE3 hsame hT3 hB3 HA HE1 HB1 HW1
  go_upto_region 2 with (fail)
  rw [HW3.out]
  clear g0 g1 g2 g3 g4 g5 g6 g7 g8 g9 z0 z1 z2 z3 z4 z5 z6 z7 z8 z9
  obtain ⟨r0, r1, r2, r3, r4, r5, r6, r7, r8, r9⟩ := HE3.out.ten
  rw [HU.out] at HI HT HX hops hnl
  have HXX := Lib.hid (HX.out)
  have hcase : (u.fld.op = 12 ∧ O = wrapP (textT u)) ∨ (u.fld.op ≠ 12 ∧ O = textT u) := by
    rw [← HO.out]
    unfold chainT chainP
    rw [HU.out, HX.out]
    by_cases h12 : u.fld.op = 12
    · exact .inl ⟨h12, if_pos h12⟩
    · exact .inr ⟨h12, if_neg h12⟩
  clear hops hnl
  obtain ⟨op, hop⟩ : ∃ op, u.fld.op = op := ⟨_, rfl⟩
  rw [hop] at hcase r0 HT3
  rcases hcase with ⟨rfl, hO⟩ | ⟨hq, hO⟩
  · have HO2 := Lib.hid hO
    clear hO hop
    go_wp2_with fail
    refine (HI.out _ _ (HT3.out)).mono ?_
    rintro e w4 ⟨rfl, hb4⟩
    have HB4 := Lib.hid (HB3.out.trans (hb4.mono HB3.out.size))
    clear hb4
    go_wp2_with fail
    go_ret
    exact ⟨by rw [HO2.out]; try rfl, HB4.out⟩
  · have HO2 := Lib.hid hO
    have e12 : (op == 12) = false := by simpa using hq
    clear hO hop hq
    go_wp2_with fail
    refine (HT.out _ _ (HT3.out)).mono ?_
    rintro e w4 ⟨rfl, hb4⟩
    have HB4 := Lib.hid (HB3.out.trans (hb4.mono HB3.out.size))
    clear hb4
    go_wp2_with fail
    go_ret
    exact ⟨by rw [HO2.out]; try rfl, HB4.out⟩
theorem join_pipe : ∀ (x : List UInt8) (r : List (List UInt8)), Lib.join (x :: r) [124] = joinP (x :: r)
  | x, [] => Lib.join_one x [124]
  | x, y :: r => by
    rw [Lib.join_cons, joinP_cons x (by simp), ← join_pipe y r, Lib.join_cons]
    simp [Lib.joinTail]
end Go.Proofs.YthnddabcmhplkaaDoor
/- The document's small texts: of a code, a rune, a place, a repeat's sign. -/
namespace Go.Proofs.YthnddabcmhplkaaDoor
open Go Go.RowKit

theorem textB_app9 (a b : List UInt8) : textB a ++ textB b = textB (a ++ b) := by
  apply ByteArray.ext
  rw [ByteArray.data_append]
  simp [textB]
theorem cat9w (a b : ByteArray) (h : a.size + b.size ≤ 9223372036854775807) (W : World) : (Op.stringOp .add a b).run Tryd.prog W = .ok (.string (a ++ b)) W := run_string_add_sum W a b h
/-- Does a text have a byte? -/
def anyC (s : ByteArray) (c : Int) (k : Nat) : Bool := (s.toList.drop k).any fun x => decide ((x.toNat : Int) = c)
set_option maxHeartbeats 800000 in
set_option maxRecDepth 100000 in
theorem has9_any (s : ByteArray) (c : Int) (w : World) (hs : s.size ≤ 100) : Calls Tryd.prog 56 #[.string s, .int .i32 c] w fun e w' => e = .returned (.bool (s.toList.any fun x => decide ((x.toNat : Int) = c))) ∧ w' = w := by
  have hsl : s.toList.length = s.size := by rw [Lib.toList_data, ← Lib.size_eq]
  have h0 : (s.toList.any fun x => decide ((x.toNat : Int) = c)) = anyC s c 0 := by unfold anyC; rw [List.drop_zero]
  have hstep : ∀ k (h : k < s.size), anyC s c k = (decide (((s[k]).toNat : Int) = c) || anyC s c (k + 1)) := fun k h => by
    unfold anyC
    rw [List.drop_eq_getElem_cons (by rw [hsl]; exact h), List.any_cons]
    congr 3
    congr 1
    simp [Lib.toList_data]
    rfl
  have hend : ∀ k, s.size ≤ k → anyC s c k = false := fun k h => by
    unfold anyC
    rw [List.drop_eq_nil_of_le (by omega)]
    rfl
  obtain ⟨G, hG⟩ : ∃ G, anyC s c = G := ⟨_, rfl⟩
  rw [h0]
  rw [hG] at hstep hend ⊢
  have HS := Lib.hid hstep; have HE := Lib.hid hend
  clear h0 hstep hend hG hsl
  go_enter Tryd.func56, Tryd.ntmps56
  go_wp2_with fail
  go_loopw [5] (fun i wr => ∃ k : Nat, k ≤ s.size ∧ i = .int .i64 k ∧ G k = G 0 ∧ wr = w) (fun i _ => s.size - (intOf i).toNat)
  case atStart => exact ⟨0, Nat.zero_le _, rfl, rfl, rfl⟩
  case round =>
    obtain ⟨k, hk, rfl, hq, rfl⟩ := hrel
    have HQ := Lib.hid hq
    clear hq
    by_cases hkn : k < s.size
    · have hst := HS.out k hkn
      have hc : IntKind.i32.wrap ((s[k].toNat : Int)) = (s[k].toNat : Int) := by
        have := s[k].toNat_lt
        have hm : (s[k].toNat : Int) % 4294967296 = s[k].toNat := by omega
        unfold IntKind.wrap
        simp [IntKind.bits, IntKind.signed, hm]
        omega
      have z1 : (k : Int) < (s.size : Int) := by omega
      by_cases he : ((s[k].toNat : Int) = c)
      · have hh : (((s[k]).toNat : Int) == c) = true := by rw [he]; exact beq_self_eq_true c
        have HZ : Hid (G 0 = true) := Lib.hid (by rw [← HQ.out, hst, decide_eq_true he]; rfl)
        have hcw : wrap32 c = c := by rw [← he]; exact IntWalk.wrap32_in _ (by have := s[k].toNat_lt; omega)
        clear hst
        go_wp2_with fail
        go_ret
        exact ⟨by rw [HZ.out]; rfl, rfl⟩
      · have hh : (((s[k]).toNat : Int) == c) = false := beq_eq_false_iff_ne.2 he
        have HZ : Hid (G (k + 1) = G 0) := Lib.hid (by rw [← HQ.out, hst, decide_eq_false he]; rfl)
        clear hst
        go_wp2_with fail
        go_roundw
        case rel => exact ⟨k + 1, by omega, by go_num, HZ.out, trivial⟩
        case measure => simp [intOf]; omega
    · have z1 : ¬ (k : Int) < (s.size : Int) := by omega
      have HZ : Hid (G 0 = false) := Lib.hid (by rw [← HQ.out, HE.out k (by omega)])
      go_wp2_with fail
      go_ret
      exact ⟨by rw [HZ.out]; rfl, rfl⟩
set_option maxHeartbeats 800000 in
theorem code9_any (c : Int) (w : World) (h0 : 0 ≤ c) (h1 : c ≤ 1114111) (hD : De64 w) : Calls Tryd.prog 57 #[.int .i32 c] w fun e w' => e = .returned (.string (textB (codeP c.toNat))) ∧ Below w.heap.size w w' := by
  obtain ⟨n, rfl⟩ : ∃ n : Nat, c = (n : Int) := ⟨c.toNat, by omega⟩
  have HX := Lib.hid (hexfmt_any n w (by omega) hD)
  have hl := hex_short 5 n (by omega)
  have hw : wrap64 (n : Int) = (n : Int) := IntWalk.wrap64_in _ (by omega)
  rw [Int.toNat_natCast]
  obtain ⟨O, hO⟩ : ∃ O, textB (codeP n) = O := ⟨_, rfl⟩
  have hO2 : O = (⟨#[92, 120, 123]⟩ ++ textB (hexL n)) ++ ⟨#[125]⟩ := by
    rw [← hO]
    show _ = textB [92, 120, 123] ++ textB (hexL n) ++ textB [125]
    rw [textB_app9, textB_app9]
    unfold codeP
    simp
  rw [hO]
  have HL := Lib.hid hl; have HO := Lib.hid hO2
  clear hl hO hO2
  go_enter Tryd.func57, Tryd.ntmps57
  go_wp2_with fail
  refine HX.out.mono ?_
  rintro e w2 ⟨b, rfl, hb, hB⟩
  have HB := Lib.hid hB
  obtain rfl : b = textB (hexL n) := by rw [← hb, textB_of]
  obtain ⟨X, hX⟩ : ∃ X, textB (hexL n) = X := ⟨_, rfl⟩
  have hz : X.size ≤ 6 := by rw [← hX, textB_size]; have := HL.out; omega
  rw [hX] at HO
  rw [hX]
  have p1 := cat9w ⟨#[92, 120, 123]⟩ X (by show 3 + X.size ≤ _; omega)
  have p2 := cat9w (⟨#[92, 120, 123]⟩ ++ X) ⟨#[125]⟩ (by rw [ByteArray.size_append]; show 3 + X.size + 1 ≤ _; omega)
  clear hb hB hX HX hz
  go_wp2_with fail
  go_ret
  exact ⟨by rw [HO.out]; rfl, HB.out⟩
end Go.Proofs.YthnddabcmhplkaaDoor
/- The document's text of a rune. Written by gen9one.py. -/
namespace Go.Proofs.YthnddabcmhplkaaDoor
open Go Go.RowKit

def Word9 (c : Int) : Prop := (48 ≤ c ∧ c ≤ 57) ∨ (65 ≤ c ∧ c ≤ 90) ∨ (97 ≤ c ∧ c ≤ 122) ∨ c = 95 ∨ c = 32
theorem self_word {c : Int} (h : Word9 c) : selfI c = true := by
  unfold selfI
  rcases h with ⟨h1, h2⟩ | ⟨h1, h2⟩ | ⟨h1, h2⟩ | rfl | rfl
  · simp [h1, h2]
  · simp [h1, h2]
  · simp [h1, h2]
  · decide
  · decide
theorem self_other {c : Int} (h : ¬ Word9 c) : selfI c = [33, 34, 35, 37, 38, 39, 44, 45, 47, 58, 59, 60, 61, 62, 64, 126, 96].contains c := by
  unfold Word9 at h
  unfold selfI
  have h1 : (decide (48 ≤ c) && decide (c ≤ 57)) = false := by rw [← Bool.decide_and]; exact decide_eq_false (by omega)
  have h2 : (decide (65 ≤ c) && decide (c ≤ 90)) = false := by rw [← Bool.decide_and]; exact decide_eq_false (by omega)
  have h3 : (decide (97 ≤ c) && decide (c ≤ 122)) = false := by rw [← Bool.decide_and]; exact decide_eq_false (by omega)
  have h4 : (c == 32) = false := beq_eq_false_iff_ne.2 (by omega)
  have h5 : (c == 95) = false := beq_eq_false_iff_ne.2 (by omega)
  rw [h1, h2, h3, List.contains_cons, List.contains_cons, h4, h5]
  simp only [Bool.false_or]
def lessB : ByteArray := ⟨#[33, 34, 35, 37, 38, 39, 44, 45, 47, 58, 59, 60, 61, 62, 64, 126, 96]⟩
theorem lessB_any (c : Int) : (lessB.toList.any fun x => decide ((x.toNat : Int) = c)) = [33, 34, 35, 37, 38, 39, 44, 45, 47, 58, 59, 60, 61, 62, 64, 126, 96].contains c := by
  rw [show lessB.toList = [33, 34, 35, 37, 38, 39, 44, 45, 47, 58, 59, 60, 61, 62, 64, 126, 96] by kernel_rfl, any_map]
  rfl
set_option maxHeartbeats 3200000 in
set_option maxRecDepth 100000 in
theorem one9_any (c : Int) (w : World) (h0 : 0 ≤ c) (h1 : c ≤ 1114111) (hD : De64 w) : Calls Tryd.prog 32 #[.int .i32 c] w fun e w' => e = .returned (.string (textB (oneZ c))) ∧ Below w.heap.size w w' := by
  have HI := Lib.hid (has9_any lessB c w (by decide))
  have HS := Lib.hid (has9_any signsB c w (by decide))
  have HC := Lib.hid (code9_any c w h0 h1 hD)
  have eI := lessB_any c; have eS := signsB_any c
  obtain ⟨bI, hI⟩ : ∃ b, [33, 34, 35, 37, 38, 39, 44, 45, 47, 58, 59, 60, 61, 62, 64, 126, 96].contains c = b := ⟨_, rfl⟩
  obtain ⟨bS, hS⟩ : ∃ b, signR c = b := ⟨_, rfl⟩
  rw [eI, hI] at HI
  rw [eS, hS] at HS
  have hlow : selfI c = true ∨ bS = true → Utf8.encode c = textB [UInt8.ofNat c.toNat] := fun h => by
    refine low_conv c h0 ?_
    rcases h with h | h
    · unfold selfI at h
      simp only [Bool.or_eq_true, Bool.and_eq_true, decide_eq_true_eq, List.contains_cons, List.contains_nil, Bool.or_false, beq_iff_eq] at h
      omega
    · rw [← hS] at h
      unfold signR at h
      simp only [List.contains_cons, List.contains_nil, Bool.or_false, Bool.or_eq_true, beq_iff_eq] at h
      omega
  obtain ⟨O, hO⟩ : ∃ O, textB (oneZ c) = O := ⟨_, rfl⟩
  obtain ⟨E, hE⟩ : ∃ E, Utf8.encode c = E := ⟨_, rfl⟩
  have hcv : ∀ W, (convert 21 9 (.int .i32 c)).run Tryd.prog W = .ok (.string E) W := fun W => by
    rw [← hE]
    exact run_convert_int_string W _ _ .i32 c (by rw [Tryd.underlying21]; rfl) Tryd.underlying9
  rw [hE] at hlow
  have k1 : selfI c = true → O = E := fun h => by
    rw [hlow (.inl h), ← hO]
    unfold oneZ
    rw [if_pos h]
  have k2 : selfI c = false → bS = true → O = ⟨#[92]⟩ ++ E ∧ E.size = 1 := fun h h' => by
    rw [hlow (.inr h'), ← hO]
    unfold oneZ
    rw [if_neg (by rw [h]; decide), hS, if_pos h']
    refine ⟨?_, rfl⟩
    show _ = textB [92] ++ textB _
    rw [textB_app9]
    rfl
  have k3 : selfI c = false → bS = false → O = textB (codeP c.toNat) := fun h h' => by
    rw [← hO]
    unfold oneZ
    rw [if_neg (by rw [h]; decide), hS, if_neg (by rw [h']; decide)]
  have HW : Hid (Word9 c → O = E) := Lib.hid fun h => k1 (self_word h)
  have H1 : Hid (¬ Word9 c → bI = true → O = E) := Lib.hid fun h h' => k1 (by rw [self_other h, hI, h'])
  have H2 : Hid (¬ Word9 c → bI = false → bS = true → O = ⟨#[92]⟩ ++ E ∧ E.size = 1) := Lib.hid fun h h' => k2 (by rw [self_other h, hI, h'])
  have H3 : Hid (¬ Word9 c → bI = false → bS = false → O = textB (codeP c.toNat)) := Lib.hid fun h h' => k3 (by rw [self_other h, hI, h'])
  rw [hO]
  unfold lessB at HI
  unfold signsB at HS
  clear k1 k2 k3 hlow eI eS hI hS hO hE
  go_enter Tryd.func32, Tryd.ntmps32
  by_cases b0 : c ≤ 31
  · have f0 : decide (48 ≤ c) = false := decide_eq_false (by omega)
    have f1 : decide (c ≤ 57) = true := decide_eq_true (by omega)
    have f2 : decide (65 ≤ c) = false := decide_eq_false (by omega)
    have f3 : decide (c ≤ 90) = true := decide_eq_true (by omega)
    have f4 : decide (97 ≤ c) = false := decide_eq_false (by omega)
    have f5 : decide (c ≤ 122) = true := decide_eq_true (by omega)
    have g1 : (c == 95) = false := beq_eq_false_iff_ne.2 (by omega)
    have g2 : (c == 32) = false := beq_eq_false_iff_ne.2 (by omega)
    have nw : ¬ Word9 c := by unfold Word9; omega
    have J1 := Lib.hid (H1.out nw); have J2 := Lib.hid (H2.out nw); have J3 := Lib.hid (H3.out nw)
    clear nw H1 H2 H3 HW b0
    go_wp2_with fail
    refine HI.out.mono ?_
    rintro e w1 ⟨rfl, rfl⟩
    cases bI with
    | true =>
      go_wp2_with fail
      go_ret
      exact ⟨by rw [J1.out (by trivial)]; try rfl, Below.refl _ _⟩
    | false =>
      go_wp2_with fail
      refine HS.out.mono ?_
      rintro e w2 ⟨rfl, rfl⟩
      cases bS with
      | true =>
        obtain ⟨hz, he⟩ := J2.out (by trivial) (by trivial)
        have HZ := Lib.hid hz
        have p1 := cat9w ⟨#[92]⟩ E (by rw [he]; decide)
        clear hz he
        go_wp2_with fail
        go_ret
        exact ⟨by rw [HZ.out]; try rfl, Below.refl _ _⟩
      | false =>
        have HZ := Lib.hid (J3.out (by trivial) (by trivial))
        go_wp2_with fail
        refine HC.out.mono ?_
        rintro e w3 ⟨rfl, hb⟩
        have HB := Lib.hid hb
        clear hb
        go_wp2_with fail
        go_ret
        exact ⟨by rw [HZ.out]; try rfl, HB.out⟩
  by_cases b1 : c ≤ 32
  · obtain rfl : c = 32 := by omega
    have HZ := Lib.hid (HW.out (by unfold Word9; omega))
    clear HI HS HC H1 H2 H3 HW
    go_wp2_with fail
    go_ret
    exact ⟨by rw [HZ.out]; try rfl, Below.refl _ _⟩
  by_cases b2 : c ≤ 47
  · have f0 : decide (48 ≤ c) = false := decide_eq_false (by omega)
    have f1 : decide (c ≤ 57) = true := decide_eq_true (by omega)
    have f2 : decide (65 ≤ c) = false := decide_eq_false (by omega)
    have f3 : decide (c ≤ 90) = true := decide_eq_true (by omega)
    have f4 : decide (97 ≤ c) = false := decide_eq_false (by omega)
    have f5 : decide (c ≤ 122) = true := decide_eq_true (by omega)
    have g1 : (c == 95) = false := beq_eq_false_iff_ne.2 (by omega)
    have g2 : (c == 32) = false := beq_eq_false_iff_ne.2 (by omega)
    have nw : ¬ Word9 c := by unfold Word9; omega
    have J1 := Lib.hid (H1.out nw); have J2 := Lib.hid (H2.out nw); have J3 := Lib.hid (H3.out nw)
    clear nw H1 H2 H3 HW b0 b1 b2
    go_wp2_with fail
    refine HI.out.mono ?_
    rintro e w1 ⟨rfl, rfl⟩
    cases bI with
    | true =>
      go_wp2_with fail
      go_ret
      exact ⟨by rw [J1.out (by trivial)]; try rfl, Below.refl _ _⟩
    | false =>
      go_wp2_with fail
      refine HS.out.mono ?_
      rintro e w2 ⟨rfl, rfl⟩
      cases bS with
      | true =>
        obtain ⟨hz, he⟩ := J2.out (by trivial) (by trivial)
        have HZ := Lib.hid hz
        have p1 := cat9w ⟨#[92]⟩ E (by rw [he]; decide)
        clear hz he
        go_wp2_with fail
        go_ret
        exact ⟨by rw [HZ.out]; try rfl, Below.refl _ _⟩
      | false =>
        have HZ := Lib.hid (J3.out (by trivial) (by trivial))
        go_wp2_with fail
        refine HC.out.mono ?_
        rintro e w3 ⟨rfl, hb⟩
        have HB := Lib.hid hb
        clear hb
        go_wp2_with fail
        go_ret
        exact ⟨by rw [HZ.out]; try rfl, HB.out⟩
  by_cases b3 : c ≤ 57
  · have f0 : decide (48 ≤ c) = true := decide_eq_true (by omega)
    have f1 : decide (c ≤ 57) = true := decide_eq_true (by omega)
    have f2 : decide (65 ≤ c) = false := decide_eq_false (by omega)
    have f3 : decide (c ≤ 90) = true := decide_eq_true (by omega)
    have f4 : decide (97 ≤ c) = false := decide_eq_false (by omega)
    have f5 : decide (c ≤ 122) = true := decide_eq_true (by omega)
    have g1 : (c == 95) = false := beq_eq_false_iff_ne.2 (by omega)
    have g2 : (c == 32) = false := beq_eq_false_iff_ne.2 (by omega)
    have HZ := Lib.hid (HW.out (by unfold Word9; omega))
    clear HI HS HC H1 H2 H3 HW b0 b1 b2 b3
    go_wp2_with fail
    go_ret
    exact ⟨by rw [HZ.out]; try rfl, Below.refl _ _⟩
  by_cases b4 : c ≤ 64
  · have f0 : decide (48 ≤ c) = true := decide_eq_true (by omega)
    have f1 : decide (c ≤ 57) = false := decide_eq_false (by omega)
    have f2 : decide (65 ≤ c) = false := decide_eq_false (by omega)
    have f3 : decide (c ≤ 90) = true := decide_eq_true (by omega)
    have f4 : decide (97 ≤ c) = false := decide_eq_false (by omega)
    have f5 : decide (c ≤ 122) = true := decide_eq_true (by omega)
    have g1 : (c == 95) = false := beq_eq_false_iff_ne.2 (by omega)
    have g2 : (c == 32) = false := beq_eq_false_iff_ne.2 (by omega)
    have nw : ¬ Word9 c := by unfold Word9; omega
    have J1 := Lib.hid (H1.out nw); have J2 := Lib.hid (H2.out nw); have J3 := Lib.hid (H3.out nw)
    clear nw H1 H2 H3 HW b0 b1 b2 b3 b4
    go_wp2_with fail
    refine HI.out.mono ?_
    rintro e w1 ⟨rfl, rfl⟩
    cases bI with
    | true =>
      go_wp2_with fail
      go_ret
      exact ⟨by rw [J1.out (by trivial)]; try rfl, Below.refl _ _⟩
    | false =>
      go_wp2_with fail
      refine HS.out.mono ?_
      rintro e w2 ⟨rfl, rfl⟩
      cases bS with
      | true =>
        obtain ⟨hz, he⟩ := J2.out (by trivial) (by trivial)
        have HZ := Lib.hid hz
        have p1 := cat9w ⟨#[92]⟩ E (by rw [he]; decide)
        clear hz he
        go_wp2_with fail
        go_ret
        exact ⟨by rw [HZ.out]; try rfl, Below.refl _ _⟩
      | false =>
        have HZ := Lib.hid (J3.out (by trivial) (by trivial))
        go_wp2_with fail
        refine HC.out.mono ?_
        rintro e w3 ⟨rfl, hb⟩
        have HB := Lib.hid hb
        clear hb
        go_wp2_with fail
        go_ret
        exact ⟨by rw [HZ.out]; try rfl, HB.out⟩
  by_cases b5 : c ≤ 90
  · have f0 : decide (48 ≤ c) = true := decide_eq_true (by omega)
    have f1 : decide (c ≤ 57) = false := decide_eq_false (by omega)
    have f2 : decide (65 ≤ c) = true := decide_eq_true (by omega)
    have f3 : decide (c ≤ 90) = true := decide_eq_true (by omega)
    have f4 : decide (97 ≤ c) = false := decide_eq_false (by omega)
    have f5 : decide (c ≤ 122) = true := decide_eq_true (by omega)
    have g1 : (c == 95) = false := beq_eq_false_iff_ne.2 (by omega)
    have g2 : (c == 32) = false := beq_eq_false_iff_ne.2 (by omega)
    have HZ := Lib.hid (HW.out (by unfold Word9; omega))
    clear HI HS HC H1 H2 H3 HW b0 b1 b2 b3 b4 b5
    go_wp2_with fail
    go_ret
    exact ⟨by rw [HZ.out]; try rfl, Below.refl _ _⟩
  by_cases b6 : c ≤ 94
  · have f0 : decide (48 ≤ c) = true := decide_eq_true (by omega)
    have f1 : decide (c ≤ 57) = false := decide_eq_false (by omega)
    have f2 : decide (65 ≤ c) = true := decide_eq_true (by omega)
    have f3 : decide (c ≤ 90) = false := decide_eq_false (by omega)
    have f4 : decide (97 ≤ c) = false := decide_eq_false (by omega)
    have f5 : decide (c ≤ 122) = true := decide_eq_true (by omega)
    have g1 : (c == 95) = false := beq_eq_false_iff_ne.2 (by omega)
    have g2 : (c == 32) = false := beq_eq_false_iff_ne.2 (by omega)
    have nw : ¬ Word9 c := by unfold Word9; omega
    have J1 := Lib.hid (H1.out nw); have J2 := Lib.hid (H2.out nw); have J3 := Lib.hid (H3.out nw)
    clear nw H1 H2 H3 HW b0 b1 b2 b3 b4 b5 b6
    go_wp2_with fail
    refine HI.out.mono ?_
    rintro e w1 ⟨rfl, rfl⟩
    cases bI with
    | true =>
      go_wp2_with fail
      go_ret
      exact ⟨by rw [J1.out (by trivial)]; try rfl, Below.refl _ _⟩
    | false =>
      go_wp2_with fail
      refine HS.out.mono ?_
      rintro e w2 ⟨rfl, rfl⟩
      cases bS with
      | true =>
        obtain ⟨hz, he⟩ := J2.out (by trivial) (by trivial)
        have HZ := Lib.hid hz
        have p1 := cat9w ⟨#[92]⟩ E (by rw [he]; decide)
        clear hz he
        go_wp2_with fail
        go_ret
        exact ⟨by rw [HZ.out]; try rfl, Below.refl _ _⟩
      | false =>
        have HZ := Lib.hid (J3.out (by trivial) (by trivial))
        go_wp2_with fail
        refine HC.out.mono ?_
        rintro e w3 ⟨rfl, hb⟩
        have HB := Lib.hid hb
        clear hb
        go_wp2_with fail
        go_ret
        exact ⟨by rw [HZ.out]; try rfl, HB.out⟩
  by_cases b7 : c ≤ 95
  · obtain rfl : c = 95 := by omega
    have HZ := Lib.hid (HW.out (by unfold Word9; omega))
    clear HI HS HC H1 H2 H3 HW
    go_wp2_with fail
    go_ret
    exact ⟨by rw [HZ.out]; try rfl, Below.refl _ _⟩
  by_cases b8 : c ≤ 96
  · have f0 : decide (48 ≤ c) = true := decide_eq_true (by omega)
    have f1 : decide (c ≤ 57) = false := decide_eq_false (by omega)
    have f2 : decide (65 ≤ c) = true := decide_eq_true (by omega)
    have f3 : decide (c ≤ 90) = false := decide_eq_false (by omega)
    have f4 : decide (97 ≤ c) = false := decide_eq_false (by omega)
    have f5 : decide (c ≤ 122) = true := decide_eq_true (by omega)
    have g1 : (c == 95) = false := beq_eq_false_iff_ne.2 (by omega)
    have g2 : (c == 32) = false := beq_eq_false_iff_ne.2 (by omega)
    have nw : ¬ Word9 c := by unfold Word9; omega
    have J1 := Lib.hid (H1.out nw); have J2 := Lib.hid (H2.out nw); have J3 := Lib.hid (H3.out nw)
    clear nw H1 H2 H3 HW b0 b1 b2 b3 b4 b5 b6 b7 b8
    go_wp2_with fail
    refine HI.out.mono ?_
    rintro e w1 ⟨rfl, rfl⟩
    cases bI with
    | true =>
      go_wp2_with fail
      go_ret
      exact ⟨by rw [J1.out (by trivial)]; try rfl, Below.refl _ _⟩
    | false =>
      go_wp2_with fail
      refine HS.out.mono ?_
      rintro e w2 ⟨rfl, rfl⟩
      cases bS with
      | true =>
        obtain ⟨hz, he⟩ := J2.out (by trivial) (by trivial)
        have HZ := Lib.hid hz
        have p1 := cat9w ⟨#[92]⟩ E (by rw [he]; decide)
        clear hz he
        go_wp2_with fail
        go_ret
        exact ⟨by rw [HZ.out]; try rfl, Below.refl _ _⟩
      | false =>
        have HZ := Lib.hid (J3.out (by trivial) (by trivial))
        go_wp2_with fail
        refine HC.out.mono ?_
        rintro e w3 ⟨rfl, hb⟩
        have HB := Lib.hid hb
        clear hb
        go_wp2_with fail
        go_ret
        exact ⟨by rw [HZ.out]; try rfl, HB.out⟩
  by_cases b9 : c ≤ 122
  · have f0 : decide (48 ≤ c) = true := decide_eq_true (by omega)
    have f1 : decide (c ≤ 57) = false := decide_eq_false (by omega)
    have f2 : decide (65 ≤ c) = true := decide_eq_true (by omega)
    have f3 : decide (c ≤ 90) = false := decide_eq_false (by omega)
    have f4 : decide (97 ≤ c) = true := decide_eq_true (by omega)
    have f5 : decide (c ≤ 122) = true := decide_eq_true (by omega)
    have g1 : (c == 95) = false := beq_eq_false_iff_ne.2 (by omega)
    have g2 : (c == 32) = false := beq_eq_false_iff_ne.2 (by omega)
    have HZ := Lib.hid (HW.out (by unfold Word9; omega))
    clear HI HS HC H1 H2 H3 HW b0 b1 b2 b3 b4 b5 b6 b7 b8 b9
    go_wp2_with fail
    go_ret
    exact ⟨by rw [HZ.out]; try rfl, Below.refl _ _⟩
  have f0 : decide (48 ≤ c) = true := decide_eq_true (by omega)
  have f1 : decide (c ≤ 57) = false := decide_eq_false (by omega)
  have f2 : decide (65 ≤ c) = true := decide_eq_true (by omega)
  have f3 : decide (c ≤ 90) = false := decide_eq_false (by omega)
  have f4 : decide (97 ≤ c) = true := decide_eq_true (by omega)
  have f5 : decide (c ≤ 122) = false := decide_eq_false (by omega)
  have g1 : (c == 95) = false := beq_eq_false_iff_ne.2 (by omega)
  have g2 : (c == 32) = false := beq_eq_false_iff_ne.2 (by omega)
  have nw : ¬ Word9 c := by unfold Word9; omega
  have J1 := Lib.hid (H1.out nw); have J2 := Lib.hid (H2.out nw); have J3 := Lib.hid (H3.out nw)
  clear nw H1 H2 H3 HW b0 b1 b2 b3 b4 b5 b6 b7 b8 b9
  go_wp2_with fail
  refine HI.out.mono ?_
  rintro e w1 ⟨rfl, rfl⟩
  cases bI with
  | true =>
    go_wp2_with fail
    go_ret
    exact ⟨by rw [J1.out (by trivial)]; try rfl, Below.refl _ _⟩
  | false =>
    go_wp2_with fail
    refine HS.out.mono ?_
    rintro e w2 ⟨rfl, rfl⟩
    cases bS with
    | true =>
      obtain ⟨hz, he⟩ := J2.out (by trivial) (by trivial)
      have HZ := Lib.hid hz
      have p1 := cat9w ⟨#[92]⟩ E (by rw [he]; decide)
      clear hz he
      go_wp2_with fail
      go_ret
      exact ⟨by rw [HZ.out]; try rfl, Below.refl _ _⟩
    | false =>
      have HZ := Lib.hid (J3.out (by trivial) (by trivial))
      go_wp2_with fail
      refine HC.out.mono ?_
      rintro e w3 ⟨rfl, hb⟩
      have HB := Lib.hid hb
      clear hb
      go_wp2_with fail
      go_ret
      exact ⟨by rw [HZ.out]; try rfl, HB.out⟩
end Go.Proofs.YthnddabcmhplkaaDoor
/- The document's texts of a place, a set, a repeat's sign. -/
namespace Go.Proofs.YthnddabcmhplkaaDoor
open Go Go.RowKit

set_option maxHeartbeats 1600000 in
theorem place9_any (a : Int) (w : World) : Calls Tryd.prog 34 #[.int .i64 a] w fun e w' => e = .returned (.string (textB (placeP a))) ∧ w' = w := by
  have step : ∀ (k : Int), (a == k) = decide (a = k) := fun k => by by_cases h : a = k <;> simp [h]
  obtain ⟨O, hO⟩ : ∃ O, placeP a = O := ⟨_, rfl⟩
  rw [hO]
  have HO := Lib.hid hO
  clear hO
  unfold placeP at HO
  go_enter Tryd.func34, Tryd.ntmps34
  by_cases h1 : a = 1
  · subst h1
    go_wp2_with fail
    go_ret
    exact ⟨by rw [← HO.out]; rfl, rfl⟩
  by_cases h2 : a = 2
  · subst h2
    go_wp2_with fail
    go_ret
    exact ⟨by rw [← HO.out]; rfl, rfl⟩
  by_cases h4 : a = 4
  · subst h4
    go_wp2_with fail
    go_ret
    exact ⟨by rw [← HO.out]; rfl, rfl⟩
  by_cases h8 : a = 8
  · subst h8
    go_wp2_with fail
    go_ret
    exact ⟨by rw [← HO.out]; rfl, rfl⟩
  by_cases h16 : a = 16
  · subst h16
    go_wp2_with fail
    go_ret
    exact ⟨by rw [← HO.out]; rfl, rfl⟩
  · have e1 : (a == 1) = false := by simpa using h1
    have e2 : (a == 2) = false := by simpa using h2
    have e4 : (a == 4) = false := by simpa using h4
    have e8 : (a == 8) = false := by simpa using h8
    have e16 : (a == 16) = false := by simpa using h16
    have HF := Lib.hid (show O = [92, 66] by rw [← HO.out, if_neg h1, if_neg h2, if_neg h4, if_neg h8, if_neg h16])
    clear h1 h2 h4 h8 h16 step
    go_wp2_with fail
    go_ret
    exact ⟨by rw [HF.out]; rfl, rfl⟩

theorem ranges_take (l : List (Int × Int)) (k : Nat) (h : k < l.length) : rangesP (l.take (k + 1)) = rangesP (l.take k) ++ rangeP l[k] := by
  unfold rangesP
  rw [List.take_succ_eq_append_getElem h, List.flatMap_append]
  simp
set_option maxHeartbeats 1600000 in
set_option maxRecDepth 100000 in
theorem set9_any (v : Value) (l : List (Int × Int)) (w : World) (h : Rgs w v l) (hr : RightR l) (hD : De64 w) : Calls Tryd.prog 33 #[v] w fun e w' => e = .returned (.string (textB (setP l))) ∧ Below w.heap.size w w' := by
  obtain ⟨a, c, rfl, h2, h3, h4, h5, h6⟩ := h
  have hlen : l.length ≤ 1114112 := by have := right_len l 0 (by omega) hr; omega
  have HTOP := Lib.hid (right_tops l 0 hr)
  have H5 := Lib.hid h5; have HD := Lib.hid hD
  have hfit : ∀ k, (rangesP (l.take k)).length ≤ 30000000 := fun k => by
    have h1 := ranges_le (l.take k) (fun r hq => by
      have := right_tops l 0 hr r (List.mem_of_mem_take hq)
      omega)
    have h2 : (l.take k).length ≤ l.length := by rw [List.length_take]; exact Nat.min_le_right _ _
    omega
  have HFIT := Lib.hid hfit
  obtain ⟨O, hO⟩ : ∃ O, textB (setP l) = O := ⟨_, rfl⟩
  have hO2 : O = textB (91 :: rangesP (l.take l.length)) ++ ⟨#[93]⟩ := by
    rw [← hO, List.take_length]
    show _ = textB _ ++ textB [93]
    rw [textB_app9]
    rfl
  rw [hO]
  obtain ⟨n, hn⟩ : ∃ n, l.length = n := ⟨_, rfl⟩
  rw [hn] at h2 hlen hO2 ⊢
  have HN := Lib.hid hn; have HO := Lib.hid hO2
  clear h5 h6 h4 hr hn hD hfit hO hO2
  go_enter Tryd.func33, Tryd.ntmps33
  go_wp2_with fail
  go_loopw [3, 4] (fun s i wr => ∃ k : Nat, k ≤ n ∧ i = .int .i64 k ∧ s = .string (textB (91 :: rangesP (l.take k))) ∧ Below w.heap.size w wr) (fun _ i _ => n - (intOf i).toNat)
  case atStart => exact ⟨0, Nat.zero_le _, rfl, rfl, Below.refl _ _⟩
  case round =>
    obtain ⟨k, hk, rfl, rfl, hB⟩ := hrel
    have HB := Lib.hid hB
    have hz0 : (textB (91 :: rangesP (l.take k))).size ≤ 30000001 := by rw [textB_size, List.length_cons]; have := HFIT.out k; omega
    clear hB
    by_cases hkn : k < n
    · have hkl : k < l.length := by rw [HN.out]; exact hkn
      rcases H5.out with h5 | ⟨q, o, rfl, hc⟩
      · rw [h5] at hkl; simp at hkl
      obtain ⟨c1, c2⟩ := hc k hkl
      have htop := HTOP.out l[k] (List.getElem_mem hkl)
      have hat := ranges_take l k hkl
      obtain ⟨y, hy⟩ : ∃ y, l[k] = y := ⟨_, rfl⟩
      rw [hy] at c1 c2 htop hat
      obtain ⟨y1, y2⟩ := y
      simp only at c1 c2 htop
      have d1 := (HB.out.cell (p := ⟨q, o + k * 2, none⟩) (World.block_lt_of_cell? w _ c1)).trans c1
      have d2 := (HB.out.cell (p := ⟨q, o + k * 2 + 1, none⟩) (World.block_lt_of_cell? w _ c2)).trans c2
      have HC1 := Lib.hid (code9_any y1 wr (by omega) (by omega) (HD.out.below HB.out))
      have hX2 : y2 ≠ y1 → textB (91 :: rangesP (l.take (k + 1))) = ((textB (91 :: rangesP (l.take k)) ++ textB (codeP y1.toNat)) ++ ⟨#[45]⟩) ++ textB (codeP y2.toNat) := fun hne => by
        rw [hat]
        show _ = ((textB _ ++ textB _) ++ textB [45]) ++ textB _
        rw [textB_app9, textB_app9, textB_app9]
        unfold rangeP
        rw [if_neg hne]
        simp
      have hX1 : y2 = y1 → textB (91 :: rangesP (l.take (k + 1))) = textB (91 :: rangesP (l.take k)) ++ textB (codeP y1.toNat) := fun he => by
        rw [hat, textB_app9]
        unfold rangeP
        rw [if_pos he]
        simp
      have y0 : 0 ≤ y1 := htop.1
      have y3 : y1 ≤ 1114111 := by omega
      have y4 : 0 ≤ y2 ∧ y2 ≤ 1114111 := by omega
      obtain ⟨X, hX⟩ : ∃ X, textB (91 :: rangesP (l.take k)) = X := ⟨_, rfl⟩
      obtain ⟨P, hP⟩ : ∃ P, textB (codeP y1.toNat) = P := ⟨_, rfl⟩
      obtain ⟨R, hR⟩ : ∃ R, textB (codeP y2.toNat) = R := ⟨_, rfl⟩
      obtain ⟨Z, hZ⟩ : ∃ Z, textB (91 :: rangesP (l.take (k + 1))) = Z := ⟨_, rfl⟩
      have zP : P.size ≤ 10 := by rw [← hP, textB_size]; exact code_le (by omega)
      have zR : R.size ≤ 10 := by rw [← hR, textB_size]; exact code_le (by omega)
      rw [hP] at HC1
      rw [hX, hP, hR, hZ] at hX2
      rw [hX, hP, hZ] at hX1
      rw [hX] at hz0 ⊢
      have p1 := cat9w X P (by omega)
      have p2 := cat9w (X ++ P) ⟨#[45]⟩ (by rw [ByteArray.size_append]; show X.size + P.size + 1 ≤ _; omega)
      have p3 := cat9w (X ++ P ++ ⟨#[45]⟩) R (by rw [ByteArray.size_append, ByteArray.size_append]; show X.size + P.size + 1 + R.size ≤ _; omega)
      have HX1 := Lib.hid hX1; have HX2 := Lib.hid hX2; have HRR := Lib.hid hR; have HZ := Lib.hid hZ; have HY := Lib.hid y4
      clear c1 c2 hat hy hc htop hX1 hX2 hX hP hR hZ y4
      go_wp2_with fail
      refine HC1.out.mono ?_
      rintro e w2 ⟨rfl, hb⟩
      have e1 := (hb.cell (p := ⟨q, o + k * 2, none⟩) (World.block_lt_of_cell? wr _ d1)).trans d1
      have e2 := (hb.cell (p := ⟨q, o + k * 2 + 1, none⟩) (World.block_lt_of_cell? wr _ d2)).trans d2
      have HB2 := Lib.hid (HB.out.trans (hb.mono HB.out.size))
      have HC2 := Lib.hid fun W (hW : Below w.heap.size w W) => code9_any y2 W HY.out.1 HY.out.2 (HD.out.below hW)
      rw [HRR.out] at HC2
      clear d1 d2 hb HB
      by_cases he : y2 = y1
      · subst he
        have HZZ := Lib.hid (HX1.out rfl)
        clear HX1 HX2 p2 p3
        go_upto_region 6 with (fail)
        go_big_quiet (fail)
        clear e1 e2
        go_wp2_with fail
        go_roundw
        case rel => exact ⟨k + 1, by omega, by go_num, by rw [HZ.out, HZZ.out], below_drewNr HB2.out _⟩
        case measure => simp [intOf]; omega
      · have hq : (y2 == y1) = false := beq_eq_false_iff_ne.2 he
        have HZZ := Lib.hid (HX2.out he)
        clear HX1 HX2
        go_upto_region 6 with (fail)
        go_big_quiet (fail)
        go_wp2_with fail
        refine (HC2.out _ (below_drewNr HB2.out _)).mono ?_
        rintro e w3 ⟨rfl, hb⟩
        have HB3 := Lib.hid ((below_drewNr HB2.out _).trans (hb.mono (below_drewNr HB2.out _).size))
        clear hb e1 e2
        go_wp2_with fail
        go_roundw
        case rel => exact ⟨k + 1, by omega, by go_num, by rw [HZ.out, HZZ.out], HB3.out⟩
        case measure => simp [intOf]; omega
    · have HZ : Hid (O = textB (91 :: rangesP (l.take k)) ++ ⟨#[93]⟩) := Lib.hid (by rw [HO.out, show k = n by omega])
      obtain ⟨X, hX⟩ : ∃ X, textB (91 :: rangesP (l.take k)) = X := ⟨_, rfl⟩
      rw [hX] at hz0 HZ ⊢
      have p1 := cat9w X ⟨#[93]⟩ (by show X.size + 1 ≤ _; omega)
      have z1 : ¬ (k : Int) < (n : Int) := by omega
      clear hX
      go_wp2_with fail
      go_ret
      exact ⟨by rw [HZ.out]; rfl, HB.out⟩
end Go.Proofs.YthnddabcmhplkaaDoor
/- The program's text of a tree, by what it is but for lone nodes: A. -/
namespace Go.Proofs.YthnddabcmhplkaaDoor
open Go Go.RowKit

set_option maxHeartbeats 40000000 in
set_option maxRecDepth 100000 in
theorem text_most {t : Tr} (hk : (soleT t).fld.op = 1 ∨ (soleT t).fld.op = 2 ∨ (soleT t).fld.op = 3 ∨ (soleT t).fld.op = 4 ∨ (soleT t).fld.op = 5 ∨ (soleT t).fld.op = 11 ∨ (soleT t).fld.op = 12) (hs0 : ShapedP t) (hp : partsR t ≤ 10000000000) (hC : ∀ k, partsR k < partsR t → ShapedP k → TextC k) : TextC t := by
  intro v w h
  have q1 := sole_all t hs0
  have hlen := text_len (soleT t) q1.1
  have hkids : ∀ k ∈ (soleT t).kids, ShapedP k ∧ partsR k < partsR t ∧ TextC k ∧ TextC (soleT k) := fun k hk => by
    have h1 := ((shapedP_iff _).1 q1.1).2.2.2 k hk
    have h2 := partsR_kid hk
    have h3 := sole_all k h1
    exact ⟨h1, by omega, hC k (by omega) h1, hC _ (by omega) h3.1⟩
  have HKI := Lib.hid hk
  clear hk
  have hflds := ((shapedP_iff _).1 q1.1).1
  have hnum := ((shapedP_iff _).1 q1.1).2.1
  have hnl := sole_not t
  have hplen : (textT (soleT t)).length ≤ 100000000000000 := by omega
  have hpu : partsR (soleT t) ≤ 10000000000 := by omega
  rw [← q1.2.2]
  clear hlen hC hs0 q1
  have hF := h.foot
  obtain ⟨u, hu⟩ : ∃ u, soleT t = u := ⟨_, rfl⟩
  rw [hu] at hkids HKI hflds hnum hnl hplen hpu ⊢
  have HU := Lib.hid hu
  clear hu
  have HKD := Lib.hid hkids; have HFL := Lib.hid hflds; have HNUM := Lib.hid hnum; have HNL := Lib.hid hnl
  clear hkids hflds hnum hnl
  obtain ⟨O, hO⟩ : ∃ O, textT u = O := ⟨_, rfl⟩
  rw [hO] at hplen ⊢
  have HO := Lib.hid hO
  clear hO
  obtain ⟨A, n, c, a2, s, c2, hn, hs, rfl, hnb, hsb, hK, hS, hFl⟩ := h.opened
  obtain ⟨w1, hw1⟩ : ∃ w1, w.alloc (.cells #[.int .i64 t.fld.op, .slice A n c, .int .i32 t.fld.rune, .slice a2 s c2, .int .i64 t.fld.at', .int .i64 t.fld.cap, .string t.fld.name, .int .i64 t.fld.min, .int .i64 t.fld.max, .bool t.fld.lazy] 27) = w1 := ⟨_, rfl⟩
  have hb1 : Below w.heap.size w w1 := by rw [← hw1]; exact (Below.refl _ w).alloc (Nat.le_refl _) _
  have hE1 : Whole w1 w.heap.size 27 #[.int .i64 t.fld.op, .slice A n c, .int .i32 t.fld.rune, .slice a2 s c2, .int .i64 t.fld.at', .int .i64 t.fld.cap, .string t.fld.name, .int .i64 t.fld.min, .int .i64 t.fld.max, .bool t.fld.lazy] := by rw [← hw1]; exact heap_alloc_new w _
  have HA := Lib.hid (alone_any (fun b => b < w.heap.size) t _ w1 (fun b hb => Nat.lt_of_lt_of_le hb hb1.size) (hF.same (same_below hb1) (fun _ h _ => h)) hp)
  have HW1 := Lib.hid hw1; have HB1 := Lib.hid hb1; have HE1 := Lib.hid hE1
  obtain ⟨g0, g1, g2, g3, g4, g5, g6, g7, g8, g9⟩ := hE1.ten
  clear h hF hn hs hnb hsb hK hS hFl hw1 hb1 hE1
  go_enter Tryd.func9, Tryd.ntmps9
  go_upto_region 1 with (fail)
  rw [HW1.out]
  go_wp2_with fail
  refine HA.out.mono ?_
  rintro e w2 ⟨v2, rfl, ht2, hb2⟩
  rw [HU.out] at ht2
  obtain ⟨kv2, sv2, rfl, ⟨x1, x2, x3, rfl⟩, ⟨y1, y2, y3, rfl⟩⟩ := ht2.ten
  have hE2 : Whole w2 w.heap.size 27 #[.int .i64 t.fld.op, .slice A n c, .int .i32 t.fld.rune, .slice a2 s c2, .int .i64 t.fld.at', .int .i64 t.fld.cap, .string t.fld.name, .int .i64 t.fld.min, .int .i64 t.fld.max, .bool t.fld.lazy] := HE1.out.below hb2 HE1.out.lt
  obtain ⟨w3, hw3⟩ : ∃ w3, set10 w2 w.heap.size (.int .i64 u.fld.op) (.slice x1 x2 x3) (.int .i32 u.fld.rune) (.slice y1 y2 y3) (.int .i64 u.fld.at') (.int .i64 u.fld.cap) (.string u.fld.name) (.int .i64 u.fld.min) (.int .i64 u.fld.max) (.bool u.fld.lazy) = w3 := ⟨_, rfl⟩
  have hE3 : Whole w3 w.heap.size 27 #[.int .i64 u.fld.op, .slice x1 x2 x3, .int .i32 u.fld.rune, .slice y1 y2 y3, .int .i64 u.fld.at', .int .i64 u.fld.cap, .string u.fld.name, .int .i64 u.fld.min, .int .i64 u.fld.max, .bool u.fld.lazy] := by rw [← hw3]; exact set10_whole hE2 _ _ _ _ _ _ _ _ _ _
  have hsame : SameOn (fun k => k ≠ w.heap.size) w2 w3 := by rw [← hw3]; exact set10_same _ _ _ _ _ _ _ _ _ _ _ _
  have hT3 : Tre w3 u (.agg #[.int .i64 u.fld.op, .slice x1 x2 x3, .int .i32 u.fld.rune, .slice y1 y2 y3, .int .i64 u.fld.at', .int .i64 u.fld.cap, .string u.fld.name, .int .i64 u.fld.min, .int .i64 u.fld.max, .bool u.fld.lazy]) := ht2.same (fun b hb hl => hsame b (by have : b < w.heap.size := hb; omega) hl) (fun _ _ _ => trivial)
  have hB3 : Below w.heap.size w w3 := by rw [← hw3]; exact set10_below (HB1.out.trans (hb2.mono HB1.out.size)) (Nat.le_refl _) _ _ _ _ _ _ _ _ _ _
  clear g0 g1 g2 g3 g4 g5 g6 g7 g8 g9
  obtain ⟨g0, g1, g2, g3, g4, g5, g6, g7, g8, g9⟩ := hE2.ten
  obtain ⟨z0, z1, z2, z3, z4, z5, z6, z7, z8, z9⟩ := whole_free hE2
  unfold set10 at hw3
  have HW3 := Lib.hid hw3; have HE3 := Lib.hid hE3; have HT3 := Lib.hid hT3; have HB3 := Lib.hid hB3
  clear ht2 hb2 hE2 hw3 hE3 hsame hT3 hB3 HA HE1 HB1 HW1
  go_upto_region 2 with (fail)
  rw [HW3.out]
  clear g0 g1 g2 g3 g4 g5 g6 g7 g8 g9 z0 z1 z2 z3 z4 z5 z6 z7 z8 z9
  obtain ⟨r0, r1, r2, r3, r4, r5, r6, r7, r8, r9⟩ := HE3.out.ten
  have HX2 : Hid (u.kids.length = x2 ∧ Kds w3 u.kids (.slice x1 x2 x3) ∧ Rgs w3 (.slice y1 y2 y3) u.fld.set) := Lib.hid (by
    have h1 := HT3.out
    rw [tre_iff] at h1
    obtain ⟨kv', sv', e, hS, -, hK⟩ := h1
    obtain ⟨rfl, rfl⟩ := treC_inj (f := u.fld) (k1 := .slice x1 x2 x3) (s1 := .slice y1 y2 y3) e
    refine ⟨?_, hK, hS⟩
    obtain ⟨A', c', e2, -⟩ := hK
    injection e2 with _ q _
    exact q.symm)
  obtain ⟨op, hop⟩ : ∃ op, u.fld.op = op := ⟨_, rfl⟩
  have hkinds := HKI.out
  rw [hop] at hkinds r0
  have HOP := Lib.hid hop
  clear hop HKI
  have LF : Hid ((op = 1 ∨ op = 2 ∨ op = 3 ∨ op = 4 ∨ op = 5) → O = if op = 1 then noneP else if op = 2 then emptyP else if op = 3 then oneZ u.fld.rune else if op = 4 then setP u.fld.set else placeP u.fld.at') := Lib.hid (fun h => by rw [← HO.out, ← HOP.out]; exact text_leaf (by rw [HOP.out]; exact h))
  rcases hkinds with rfl | rfl | rfl | rfl | rfl | rfl | rfl
  · as_aux_lemma =>
      have HL := Lib.hid (LF.out (by omega))
      clear LF
      go_wp2_with fail
      go_ret
      exact ⟨by rw [HL.out]; rfl, HB3.out⟩
  · as_aux_lemma =>
      have HL := Lib.hid (LF.out (by omega))
      clear LF
      go_wp2_with fail
      go_ret
      exact ⟨by rw [HL.out]; rfl, HB3.out⟩
  · as_aux_lemma =>
      have HL := Lib.hid (LF.out (by omega))
      clear LF
      go_wp2_with fail
      refine (ofRune_any _ _ ((HFL.out.2.2.2.2.2.2.2.2.1 HOP.out)).1 ((HFL.out.2.2.2.2.2.2.2.2.1 HOP.out)).2).mono ?_
      rintro e w4 ⟨rfl, hb4⟩
      have HB4 := Lib.hid (HB3.out.trans (hb4.mono HB3.out.size))
      clear hb4
      go_wp2_with fail
      go_ret
      exact ⟨by rw [HL.out]; rfl, HB4.out⟩
  · as_aux_lemma =>
      have HL := Lib.hid (LF.out (by omega))
      clear LF
      go_wp2_with fail
      refine (ofSet_any _ _ _ HX2.out.2.2 (HFL.out.2.2.2.2.2.2.2.2.2.1 HOP.out).1).mono ?_
      rintro e w4 ⟨rfl, hb4⟩
      have HB4 := Lib.hid (HB3.out.trans (hb4.mono HB3.out.size))
      clear hb4
      go_wp2_with fail
      go_ret
      exact ⟨by rw [HL.out]; rfl, HB4.out⟩
  · as_aux_lemma =>
      have HL := Lib.hid (LF.out (by omega))
      clear LF
      go_wp2_with fail
      refine (ofAt_any _ _).mono ?_
      rintro e w4 ⟨rfl, rfl⟩
      go_wp2_with fail
      go_ret
      exact ⟨by rw [HL.out]; rfl, HB3.out⟩
  · as_aux_lemma =>
      by_cases hz : 0 < x2
      · have hz0 : u.kids ≠ [] := fun e => by have h1 := HX2.out.1; rw [e] at h1; simp at h1; omega
        have h2 : 2 ≤ u.kids.length := by
          have h3 := List.length_pos_iff.2 hz0
          have h4 : u.kids.length ≠ 1 := fun e => HNL.out ⟨.inl HOP.out, e⟩
          omega
        have HO2 : Hid (O = (u.kids.map chainT).flatten) := Lib.hid (by rw [← HO.out]; exact text_cat HOP.out h2)
        have HE := Lib.hid (eachZ_any u.kids _ chainT 25 w3 (enters_of Tryd.func25 (by kernel_rfl) rfl) (fun k hk v W hv => by
          have h5 := HKD.out k hk
          exact chained_of h5.1 (by omega) h5.2.2.2 v W hv) HX2.out.2.1 hz0)
        have hzz : (0 : Int) < (x2 : Int) := by omega
        obtain ⟨L, hL⟩ : ∃ L, u.kids.map chainT = L := ⟨_, rfl⟩
        rw [hL] at HE HO2
        have HLL := Lib.hid (show L.length = u.kids.length by rw [← hL, List.length_map])
        have HK40 := Lib.hid (show u.kids.length ≤ 1172812402961 by obtain ⟨_, _, _, _, _, h, _⟩ := HX2.out.2.1; exact h)
        have HFB : Hid (flatB (L.map textB) = O) := Lib.hid (by
          rw [HO2.out]
          unfold flatB
          rw [List.map_map]
          congr 1
          conv => rhs; rw [← List.map_id L]
          exact List.map_congr_left fun x _ => textB_list x)
        clear LF hz hz0 h2 hL
        go_wp2_with fail
        refine HE.out.mono ?_
        rintro e w4 ⟨b, rfl, ht, hb, hb4⟩
        have HB4 := Lib.hid (HB3.out.trans (hb4.mono HB3.out.size))
        have HJ := Lib.hid (joined_any b 0 (L.map textB).length (L.map textB) w4 ht hb (by rw [List.length_map, HLL.out]; exact HK40.out) (Nat.le_refl _) (by rw [HFB.out]; omega))
        rw [HFB.out, List.length_map] at HJ
        clear ht hb hb4
        go_wp2_with fail
        refine HJ.out.mono ?_
        rintro e w5 ⟨rfl, hb5⟩
        have HB5 := Lib.hid (HB4.out.trans (hb5.mono HB4.out.size))
        clear hb5
        go_wp2_with fail
        go_ret
        exact ⟨rfl, HB5.out⟩
      · have hz0 : x2 = 0 := by omega
        subst hz0
        have HO2 : Hid (O = emptyP) := Lib.hid (by rw [← HO.out]; exact text_cat0 HOP.out (List.eq_nil_of_length_eq_zero HX2.out.1))
        clear LF hz
        go_wp2_with fail
        go_ret
        exact ⟨by rw [HO2.out]; rfl, HB3.out⟩
  · as_aux_lemma =>
      have hz : 1 ≤ x2 := by rw [← HX2.out.1]; exact HNUM.out.2.1 HOP.out
      have hz0 : u.kids ≠ [] := fun e => by have h1 := HX2.out.1; rw [e] at h1; simp at h1; omega
      have HO2 : Hid (O = joinP (u.kids.map textT)) := Lib.hid (by rw [← HO.out]; exact text_alt HOP.out)
      have HE := Lib.hid (eachZ_any u.kids _ textT 9 w3 (enters_of Tryd.func9 (by kernel_rfl) rfl) (fun k hk v W hv => (HKD.out k hk).2.2.1 v W hv) HX2.out.2.1 hz0)
      obtain ⟨L, hL⟩ : ∃ L, u.kids.map textT = L := ⟨_, rfl⟩
      rw [hL] at HE HO2
      have HLL := Lib.hid (show L.length = u.kids.length by rw [← hL, List.length_map])
      have HK40 := Lib.hid (show u.kids.length ≤ 1172812402961 by obtain ⟨_, _, _, _, _, h, _⟩ := HX2.out.2.1; exact h)
      have HFB : Hid (Lib.join ((L.map textB).map (·.toList)) (⟨#[124]⟩ : ByteArray).toList = O) := Lib.hid (by
        rw [HO2.out, show (⟨#[124]⟩ : ByteArray).toList = [124] by kernel_rfl, List.map_map]
        have : L.map ((·.toList) ∘ textB) = L := by
          conv => rhs; rw [← List.map_id L]
          exact List.map_congr_left fun x _ => textB_list x
        rw [this]
        cases L with
        | nil => have h1 := HLL.out; rw [HX2.out.1] at h1; simp at h1; omega
        | cons x r => exact join_pipe x r)
      clear LF hz hz0 hL
      go_wp2_with fail
      refine HE.out.mono ?_
      rintro e w4 ⟨b, rfl, ht, hb, hb4⟩
      have HB4 := Lib.hid (HB3.out.trans (hb4.mono HB3.out.size))
      have HJ := Lib.hid (pjoin_any b 0 (L.map textB).length (L.map textB) ⟨#[124]⟩ w4 ht hb (by rw [List.length_map, HLL.out]; exact HK40.out) (Nat.le_refl _) (by rw [HFB.out]; omega))
      rw [HFB.out, List.length_map] at HJ
      clear ht hb hb4
      go_wp2_with fail
      refine HJ.out.mono ?_
      rintro e w5 ⟨rfl, hb5⟩
      have HB5 := Lib.hid (HB4.out.trans (hb5.mono HB4.out.size))
      clear hb5
      go_wp2_with fail
      go_ret
      exact ⟨rfl, HB5.out⟩
end Go.Proofs.YthnddabcmhplkaaDoor
/- The program's text of a tree, by what it is but for lone nodes: B. -/
namespace Go.Proofs.YthnddabcmhplkaaDoor
open Go Go.RowKit

set_option maxHeartbeats 40000000 in
set_option maxRecDepth 100000 in
theorem text_six {t : Tr} (hk : (soleT t).fld.op = 6) (hs0 : ShapedP t) (hp : partsR t ≤ 10000000000) (hC : ∀ k, partsR k < partsR t → ShapedP k → TextC k) : TextC t := by
  intro v w h
  have q1 := sole_all t hs0
  have hlen := text_len (soleT t) q1.1
  have hkids : ∀ k ∈ (soleT t).kids, ShapedP k ∧ partsR k < partsR t ∧ TextC k ∧ TextC (soleT k) := fun k hk => by
    have h1 := ((shapedP_iff _).1 q1.1).2.2.2 k hk
    have h2 := partsR_kid hk
    have h3 := sole_all k h1
    exact ⟨h1, by omega, hC k (by omega) h1, hC _ (by omega) h3.1⟩
  have HKI := Lib.hid hk
  clear hk
  have hflds := ((shapedP_iff _).1 q1.1).1
  have hnum := ((shapedP_iff _).1 q1.1).2.1
  have hnl := sole_not t
  have hplen : (textT (soleT t)).length ≤ 100000000000000 := by omega
  have hpu : partsR (soleT t) ≤ 10000000000 := by omega
  rw [← q1.2.2]
  clear hlen hC hs0 q1
  have hF := h.foot
  obtain ⟨u, hu⟩ : ∃ u, soleT t = u := ⟨_, rfl⟩
  rw [hu] at hkids HKI hflds hnum hnl hplen hpu ⊢
  have HU := Lib.hid hu
  clear hu
  have HKD := Lib.hid hkids; have HFL := Lib.hid hflds; have HNUM := Lib.hid hnum; have HNL := Lib.hid hnl
  clear hkids hflds hnum hnl
  obtain ⟨O, hO⟩ : ∃ O, textT u = O := ⟨_, rfl⟩
  rw [hO] at hplen ⊢
  have HO := Lib.hid hO
  clear hO
  obtain ⟨A, n, c, a2, s, c2, hn, hs, rfl, hnb, hsb, hK, hS, hFl⟩ := h.opened
  obtain ⟨w1, hw1⟩ : ∃ w1, w.alloc (.cells #[.int .i64 t.fld.op, .slice A n c, .int .i32 t.fld.rune, .slice a2 s c2, .int .i64 t.fld.at', .int .i64 t.fld.cap, .string t.fld.name, .int .i64 t.fld.min, .int .i64 t.fld.max, .bool t.fld.lazy] 27) = w1 := ⟨_, rfl⟩
  have hb1 : Below w.heap.size w w1 := by rw [← hw1]; exact (Below.refl _ w).alloc (Nat.le_refl _) _
  have hE1 : Whole w1 w.heap.size 27 #[.int .i64 t.fld.op, .slice A n c, .int .i32 t.fld.rune, .slice a2 s c2, .int .i64 t.fld.at', .int .i64 t.fld.cap, .string t.fld.name, .int .i64 t.fld.min, .int .i64 t.fld.max, .bool t.fld.lazy] := by rw [← hw1]; exact heap_alloc_new w _
  have HA := Lib.hid (alone_any (fun b => b < w.heap.size) t _ w1 (fun b hb => Nat.lt_of_lt_of_le hb hb1.size) (hF.same (same_below hb1) (fun _ h _ => h)) hp)
  have HW1 := Lib.hid hw1; have HB1 := Lib.hid hb1; have HE1 := Lib.hid hE1
  obtain ⟨g0, g1, g2, g3, g4, g5, g6, g7, g8, g9⟩ := hE1.ten
  clear h hF hn hs hnb hsb hK hS hFl hw1 hb1 hE1
  go_enter Tryd.func9, Tryd.ntmps9
  go_upto_region 1 with (fail)
  rw [HW1.out]
  go_wp2_with fail
  refine HA.out.mono ?_
  rintro e w2 ⟨v2, rfl, ht2, hb2⟩
  rw [HU.out] at ht2
  obtain ⟨kv2, sv2, rfl, ⟨x1, x2, x3, rfl⟩, ⟨y1, y2, y3, rfl⟩⟩ := ht2.ten
  have hE2 : Whole w2 w.heap.size 27 #[.int .i64 t.fld.op, .slice A n c, .int .i32 t.fld.rune, .slice a2 s c2, .int .i64 t.fld.at', .int .i64 t.fld.cap, .string t.fld.name, .int .i64 t.fld.min, .int .i64 t.fld.max, .bool t.fld.lazy] := HE1.out.below hb2 HE1.out.lt
  obtain ⟨w3, hw3⟩ : ∃ w3, set10 w2 w.heap.size (.int .i64 u.fld.op) (.slice x1 x2 x3) (.int .i32 u.fld.rune) (.slice y1 y2 y3) (.int .i64 u.fld.at') (.int .i64 u.fld.cap) (.string u.fld.name) (.int .i64 u.fld.min) (.int .i64 u.fld.max) (.bool u.fld.lazy) = w3 := ⟨_, rfl⟩
  have hE3 : Whole w3 w.heap.size 27 #[.int .i64 u.fld.op, .slice x1 x2 x3, .int .i32 u.fld.rune, .slice y1 y2 y3, .int .i64 u.fld.at', .int .i64 u.fld.cap, .string u.fld.name, .int .i64 u.fld.min, .int .i64 u.fld.max, .bool u.fld.lazy] := by rw [← hw3]; exact set10_whole hE2 _ _ _ _ _ _ _ _ _ _
  have hsame : SameOn (fun k => k ≠ w.heap.size) w2 w3 := by rw [← hw3]; exact set10_same _ _ _ _ _ _ _ _ _ _ _ _
  have hT3 : Tre w3 u (.agg #[.int .i64 u.fld.op, .slice x1 x2 x3, .int .i32 u.fld.rune, .slice y1 y2 y3, .int .i64 u.fld.at', .int .i64 u.fld.cap, .string u.fld.name, .int .i64 u.fld.min, .int .i64 u.fld.max, .bool u.fld.lazy]) := ht2.same (fun b hb hl => hsame b (by have : b < w.heap.size := hb; omega) hl) (fun _ _ _ => trivial)
  have hB3 : Below w.heap.size w w3 := by rw [← hw3]; exact set10_below (HB1.out.trans (hb2.mono HB1.out.size)) (Nat.le_refl _) _ _ _ _ _ _ _ _ _ _
  clear g0 g1 g2 g3 g4 g5 g6 g7 g8 g9
  obtain ⟨g0, g1, g2, g3, g4, g5, g6, g7, g8, g9⟩ := hE2.ten
  obtain ⟨z0, z1, z2, z3, z4, z5, z6, z7, z8, z9⟩ := whole_free hE2
  unfold set10 at hw3
  have HW3 := Lib.hid hw3; have HE3 := Lib.hid hE3; have HT3 := Lib.hid hT3; have HB3 := Lib.hid hB3
  clear ht2 hb2 hE2 hw3 hE3 hsame hT3 hB3 HA HE1 HB1 HW1
  go_upto_region 2 with (fail)
  rw [HW3.out]
  clear g0 g1 g2 g3 g4 g5 g6 g7 g8 g9 z0 z1 z2 z3 z4 z5 z6 z7 z8 z9
  obtain ⟨r0, r1, r2, r3, r4, r5, r6, r7, r8, r9⟩ := HE3.out.ten
  have HX2 : Hid (u.kids.length = x2 ∧ Kds w3 u.kids (.slice x1 x2 x3) ∧ Rgs w3 (.slice y1 y2 y3) u.fld.set) := Lib.hid (by
    have h1 := HT3.out
    rw [tre_iff] at h1
    obtain ⟨kv', sv', e, hS, -, hK⟩ := h1
    obtain ⟨rfl, rfl⟩ := treC_inj (f := u.fld) (k1 := .slice x1 x2 x3) (s1 := .slice y1 y2 y3) e
    refine ⟨?_, hK, hS⟩
    obtain ⟨A', c', e2, -⟩ := hK
    injection e2 with _ q _
    exact q.symm)
  obtain ⟨op, hop⟩ : ∃ op, u.fld.op = op := ⟨_, rfl⟩
  have hkinds := HKI.out
  rw [hop] at hkinds r0
  have HOP := Lib.hid hop
  clear hop HKI
  have LF : Hid ((op = 1 ∨ op = 2 ∨ op = 3 ∨ op = 4 ∨ op = 5) → O = if op = 1 then noneP else if op = 2 then emptyP else if op = 3 then oneZ u.fld.rune else if op = 4 then setP u.fld.set else placeP u.fld.at') := Lib.hid (fun h => by rw [← HO.out, ← HOP.out]; exact text_leaf (by rw [HOP.out]; exact h))
  subst hkinds
  have h1k : x2 = 1 := by rw [← HX2.out.1]; exact HNUM.out.1 (by have := HOP.out; omega)
  subst h1k
  obtain ⟨kb, ko, tk, kv', sv', hA, htk, hm, ⟨d0, d1, d2, d3, d4, d5, d6, d7, d8, d9⟩, hTk⟩ := HX2.out.2.1.kid 0 (by rw [HX2.out.1]; exact Nat.zero_lt_one)
  subst hA
  obtain ⟨kx, sx, hv2, ⟨m1, m2, m3, rfl⟩, ⟨p1, p2, p3, rfl⟩⟩ := hTk.ten
  obtain ⟨rfl, rfl⟩ := treC_inj (f := tk.fld) (k1 := kv') (s1 := sv') hv2
  rw [Nat.zero_mul, Nat.add_zero] at d0 d1 d2 d3 d4 d5 d6 d7 d8 d9
  have hkk : u.kids = [tk] := by
    obtain ⟨k, hk⟩ := List.length_eq_one_iff.1 HX2.out.1
    have : tk = k := by rw [← htk]; simp [hk]
    rw [hk, this]
  have HKK := Lib.hid hkk; have HTK := Lib.hid hTk; have HKT := Lib.hid (HKD.out tk hm)
  clear hkk hTk htk hm hv2 LF
  have HNM : Hid (u.fld.name.size ≤ 1000000) := Lib.hid (by
    have h1 := HFL.out.2.2.2.2.2.2.2.2.2.2.2.1 HOP.out
    have h2 : u.fld.name.toList.length = u.fld.name.size := by rw [Lib.toList_data, ← Lib.size_eq]
    rcases h1 with h1 | h1
    · rw [h1] at h2; simp at h2; omega
    · unfold nameB at h1
      simp only [Bool.and_eq_true, decide_eq_true_eq] at h1
      omega)
  have HO2 : Hid (O = beginP u.fld.name.toList ++ (textT tk ++ [41])) := Lib.hid (by rw [← HO.out]; exact text_cap HOP.out HKK.out)
  obtain ⟨X, hX⟩ : ∃ X, textT tk = X := ⟨_, rfl⟩
  obtain ⟨Y, hY⟩ : ∃ Y, beginP u.fld.name.toList = Y := ⟨_, rfl⟩
  have HBG := Lib.hid fun W => begin_any u.fld.name W HNM.out
  have HTX := Lib.hid fun W (hW : Below w3.heap.size w3 W) => HKT.out.2.2.1 _ W (HTK.out.below hW)
  rw [hX] at HTX HO2
  rw [hY] at HBG HO2
  have HJ := Lib.hid fun W => joined_new [textB Y, textB X, ⟨#[41]⟩] W 3 _ rfl rfl 9 (by decide) (by
    have := congrArg List.length HO2.out
    simp only [List.length_append, List.length_singleton] at this
    simp [flatB, textB_list]; omega)
  have HFB : Hid (flatB [textB Y, textB X, ⟨#[41]⟩] = Y ++ (X ++ [41])) := Lib.hid (by simp [flatB, textB_list])
  rw [HFB.out] at HJ
  rw [← HO2.out] at HJ
  have HB0 := Lib.hid (below_draws w3 1)
  have KP : Hid (∀ W, Below w3.heap.size w3 W → W.cell? ⟨w.heap.size, 1, none⟩ = some (.slice (some ⟨kb, ko, none⟩) 1 x3) ∧ W.cell? ⟨w.heap.size, 6, none⟩ = some (.string u.fld.name) ∧ W.cell? ⟨kb, ko, none⟩ = some (.int .i64 tk.fld.op) ∧ W.cell? ⟨kb, ko + 1, none⟩ = some (.slice m1 m2 m3) ∧ W.cell? ⟨kb, ko + 2, none⟩ = some (.int .i32 tk.fld.rune) ∧ W.cell? ⟨kb, ko + 3, none⟩ = some (.slice p1 p2 p3) ∧ W.cell? ⟨kb, ko + 4, none⟩ = some (.int .i64 tk.fld.at') ∧ W.cell? ⟨kb, ko + 5, none⟩ = some (.int .i64 tk.fld.cap) ∧ W.cell? ⟨kb, ko + 6, none⟩ = some (.string tk.fld.name) ∧ W.cell? ⟨kb, ko + 7, none⟩ = some (.int .i64 tk.fld.min) ∧ W.cell? ⟨kb, ko + 8, none⟩ = some (.int .i64 tk.fld.max) ∧ W.cell? ⟨kb, ko + 9, none⟩ = some (.bool tk.fld.lazy)) := Lib.hid fun W hb => ⟨(hb.cell (World.block_lt_of_cell? w3 _ r1)).trans r1, (hb.cell (World.block_lt_of_cell? w3 _ r6)).trans r6, (hb.cell (World.block_lt_of_cell? w3 _ d0)).trans d0, (hb.cell (World.block_lt_of_cell? w3 _ d1)).trans d1, (hb.cell (World.block_lt_of_cell? w3 _ d2)).trans d2, (hb.cell (World.block_lt_of_cell? w3 _ d3)).trans d3, (hb.cell (World.block_lt_of_cell? w3 _ d4)).trans d4, (hb.cell (World.block_lt_of_cell? w3 _ d5)).trans d5, (hb.cell (World.block_lt_of_cell? w3 _ d6)).trans d6, (hb.cell (World.block_lt_of_cell? w3 _ d7)).trans d7, (hb.cell (World.block_lt_of_cell? w3 _ d8)).trans d8, (hb.cell (World.block_lt_of_cell? w3 _ d9)).trans d9⟩
  clear hX hY HKT HNM
  go_upto_region 12 with (fail)
  refine wp_region_held_drew (S := (fun w' => w'.cell? ⟨w.heap.size, 1, none⟩ = some (.slice (some ⟨kb, ko, none⟩) 1 x3) ∧ w'.cell? ⟨w.heap.size, 6, none⟩ = some (.string u.fld.name) ∧ w'.cell? ⟨kb, ko, none⟩ = some (.int .i64 tk.fld.op) ∧ w'.cell? ⟨kb, ko + 1, none⟩ = some (.slice m1 m2 m3) ∧ w'.cell? ⟨kb, ko + 2, none⟩ = some (.int .i32 tk.fld.rune) ∧ w'.cell? ⟨kb, ko + 3, none⟩ = some (.slice p1 p2 p3) ∧ w'.cell? ⟨kb, ko + 4, none⟩ = some (.int .i64 tk.fld.at') ∧ w'.cell? ⟨kb, ko + 5, none⟩ = some (.int .i64 tk.fld.cap) ∧ w'.cell? ⟨kb, ko + 6, none⟩ = some (.string tk.fld.name) ∧ w'.cell? ⟨kb, ko + 7, none⟩ = some (.int .i64 tk.fld.min) ∧ w'.cell? ⟨kb, ko + 8, none⟩ = some (.int .i64 tk.fld.max) ∧ w'.cell? ⟨kb, ko + 9, none⟩ = some (.bool tk.fld.lazy))) (by kernel_rfl) (KP.out _ HB0.out) (fun hHeld => ?_)
  refine wpAnyH_take (i := 0) (oi := _) (v := ?_) rfl (by kernel_rfl) (by kernel_rfl) (by kernel_rfl) (fun _ _ _ h => h) (Or.inl ⟨by rfl, ?_⟩) (by assumption) ?_
  rotate_left 1
  · (intro w hSw; (try dsimp only at hSw); go_simp; (try with_reducible rfl))
  try simp only [List.getElem_toArray, List.getElem_cons_zero, Act.put, List.setIfInBounds_toArray, List.set_cons_zero, List.set_cons_succ]
  refine wpAnyH_take (i := 1) (oi := _) (v := ?_) rfl (by kernel_rfl) (by kernel_rfl) (by kernel_rfl) (fun _ _ _ h => h) (Or.inl ⟨by rfl, ?_⟩) (by assumption) ?_
  rotate_left 1
  · (intro w hSw; (try dsimp only at hSw); go_simp; (try with_reducible rfl))
  try simp only [List.getElem_toArray, List.getElem_cons_zero, List.getElem_cons_succ, Act.put, List.setIfInBounds_toArray, List.set_cons_zero, List.set_cons_succ]
  refine wpAnyH_take (i := 3) (oi := _) (v := ?_) rfl (by kernel_rfl) (by kernel_rfl) (by kernel_rfl) (fun _ _ _ h => h) (Or.inl ⟨by rfl, ?_⟩) (by assumption) ?_
  rotate_left 1
  · (intro w hSw; (try dsimp only at hSw); go_simp; (try with_reducible rfl))
  try simp only [List.getElem_toArray, List.getElem_cons_zero, List.getElem_cons_succ, Act.put, List.setIfInBounds_toArray, List.set_cons_zero, List.set_cons_succ]
  refine wpAnyH_take (i := 4) (oi := _) (v := ?_) rfl (by kernel_rfl) (by kernel_rfl) (by kernel_rfl) (fun _ _ _ h => h) (Or.inl ⟨by rfl, ?_⟩) (by assumption) ?_
  rotate_left 1
  · (intro w hSw; (try dsimp only at hSw); go_simp; (try with_reducible rfl))
  try simp only [List.getElem_toArray, List.getElem_cons_zero, List.getElem_cons_succ, Act.put, List.setIfInBounds_toArray, List.set_cons_zero, List.set_cons_succ]
  refine wpAnyH_take (i := 5) (oi := _) (v := ?_) rfl (by kernel_rfl) (by kernel_rfl) (by kernel_rfl) (fun _ _ _ h => h) (Or.inl ⟨by rfl, ?_⟩) (by assumption) ?_
  rotate_left 1
  · (intro w hSw; (try dsimp only at hSw); go_simp; (try with_reducible rfl))
  try simp only [List.getElem_toArray, List.getElem_cons_zero, List.getElem_cons_succ, Act.put, List.setIfInBounds_toArray, List.set_cons_zero, List.set_cons_succ]
  refine wpAnyH_take (i := 6) (oi := _) (v := ?_) rfl (by kernel_rfl) (by kernel_rfl) (by kernel_rfl) (fun _ _ _ h => h) (Or.inl ⟨by rfl, ?_⟩) (by assumption) ?_
  rotate_left 1
  · (intro w hSw; (try dsimp only at hSw); go_simp; (try with_reducible rfl))
  try simp only [List.getElem_toArray, List.getElem_cons_zero, List.getElem_cons_succ, Act.put, List.setIfInBounds_toArray, List.set_cons_zero, List.set_cons_succ]
  refine wpAnyH_ready (rs := [2]) (by kernel_rfl) (by simp) ?_
  refine AllReadyH.cons (o := _) rfl (fun K hK => ?_) ?_
  · go_simp
    refine (HBG.out _).mono ?_
    rintro e u4 ⟨rfl, hb⟩
    have HB4 := Lib.hid (HB0.out.trans (hb.mono HB0.out.size))
    clear hb
    go_wp2_with fail
    refine hK.out _ _ (KP.out _ HB4.out) (fun hHeld => ?_)
    clear hK K
    try simp only [List.getElem_toArray, List.getElem_cons_zero, List.getElem_cons_succ, Act.put, List.setIfInBounds_toArray, List.set_cons_zero, List.set_cons_succ]
    refine wpAnyH_ready (rs := [7]) (by kernel_rfl) (by simp) ?_
    refine AllReadyH.cons (o := _) rfl (fun K hK => ?_) ?_
    · go_simp
      refine (HTX.out _ HB4.out).mono ?_
      rintro e u5 ⟨rfl, hb⟩
      have HB5 := Lib.hid (HB4.out.trans (hb.mono HB4.out.size))
      clear hb
      go_wp2_with fail
      refine hK.out _ _ (KP.out _ HB5.out) (fun hHeld => ?_)
      clear hK K
      try simp only [List.getElem_toArray, List.getElem_cons_zero, List.getElem_cons_succ, Act.put, List.setIfInBounds_toArray, List.set_cons_zero, List.set_cons_succ]
      refine wpAnyH_ready (rs := [8]) (by kernel_rfl) (by simp) ?_
      refine AllReadyH.cons (o := _) rfl (fun K hK => ?_) ?_
      · go_simp
        refine hK.out _ _ (KP.out _ (HB5.out.alloc HB5.out.size _)) (fun hHeld => ?_)
        clear hK K
        try simp only [List.getElem_toArray, List.getElem_cons_zero, List.getElem_cons_succ, Act.put, List.setIfInBounds_toArray, List.set_cons_zero, List.set_cons_succ]
        refine wpAnyH_ready (rs := [9]) (by kernel_rfl) (by simp) ?_
        refine AllReadyH.cons (o := _) rfl (fun K hK => ?_) ?_
        · go_simp
          refine (HJ.out _).mono ?_
          rintro e u7 ⟨rfl, hb⟩
          have HB6 := Lib.hid (HB5.out.trans (hb.mono HB5.out.size)); have HB7 := Lib.hid (HB3.out.trans (HB6.out.mono HB3.out.size))
          clear hb
          go_wp2_with fail
          refine hK.out _ _ (KP.out _ HB6.out) (fun hHeld => ?_)
          clear hK K
          try simp only [List.getElem_toArray, List.getElem_cons_zero, List.getElem_cons_succ, Act.put, List.setIfInBounds_toArray, List.set_cons_zero, List.set_cons_succ]
          refine wpAnyH_take (i := 10) (oi := _) (v := ?_) rfl (by kernel_rfl) (by kernel_rfl) (by kernel_rfl) (fun _ _ _ h => h) (Or.inl ⟨by rfl, ?_⟩) (by assumption) ?_
          rotate_left 1
          · (intro w hSw; (try dsimp only at hSw); go_simp; (try with_reducible rfl))
          try simp only [List.getElem_toArray, List.getElem_cons_zero, List.getElem_cons_succ, Act.put, List.setIfInBounds_toArray, List.set_cons_zero, List.set_cons_succ]
          refine wpAnyH_done (by kernel_rfl) ?_ _
          go_wp2_with fail
          go_ret
          exact ⟨by rw [HO2.out]; try rfl, HB7.out⟩
        exact AllReadyH.nil
      exact AllReadyH.nil
    exact AllReadyH.nil
  exact AllReadyH.nil
end Go.Proofs.YthnddabcmhplkaaDoor
/- The program's text of a tree, by what it is but for lone nodes: C. -/
namespace Go.Proofs.YthnddabcmhplkaaDoor
open Go Go.RowKit

set_option maxHeartbeats 40000000 in
set_option maxRecDepth 100000 in
theorem text_rept {t : Tr} (hk : (soleT t).fld.op = 7 ∨ (soleT t).fld.op = 8 ∨ (soleT t).fld.op = 9 ∨ (soleT t).fld.op = 10) (hs0 : ShapedP t) (hp : partsR t ≤ 10000000000) (hC : ∀ k, partsR k < partsR t → ShapedP k → TextC k) : TextC t := by
  intro v w h
  have q1 := sole_all t hs0
  have hlen := text_len (soleT t) q1.1
  have hkids : ∀ k ∈ (soleT t).kids, ShapedP k ∧ partsR k < partsR t ∧ TextC k ∧ TextC (soleT k) := fun k hk => by
    have h1 := ((shapedP_iff _).1 q1.1).2.2.2 k hk
    have h2 := partsR_kid hk
    have h3 := sole_all k h1
    exact ⟨h1, by omega, hC k (by omega) h1, hC _ (by omega) h3.1⟩
  have HKI := Lib.hid hk
  clear hk
  have hflds := ((shapedP_iff _).1 q1.1).1
  have hnum := ((shapedP_iff _).1 q1.1).2.1
  have hnl := sole_not t
  have hplen : (textT (soleT t)).length ≤ 100000000000000 := by omega
  have hpu : partsR (soleT t) ≤ 10000000000 := by omega
  rw [← q1.2.2]
  clear hlen hC hs0 q1
  have hF := h.foot
  obtain ⟨u, hu⟩ : ∃ u, soleT t = u := ⟨_, rfl⟩
  rw [hu] at hkids HKI hflds hnum hnl hplen hpu ⊢
  have HU := Lib.hid hu
  clear hu
  have HKD := Lib.hid hkids; have HFL := Lib.hid hflds; have HNUM := Lib.hid hnum; have HNL := Lib.hid hnl
  clear hkids hflds hnum hnl
  obtain ⟨O, hO⟩ : ∃ O, textT u = O := ⟨_, rfl⟩
  rw [hO] at hplen ⊢
  have HO := Lib.hid hO
  clear hO
  obtain ⟨A, n, c, a2, s, c2, hn, hs, rfl, hnb, hsb, hK, hS, hFl⟩ := h.opened
  obtain ⟨w1, hw1⟩ : ∃ w1, w.alloc (.cells #[.int .i64 t.fld.op, .slice A n c, .int .i32 t.fld.rune, .slice a2 s c2, .int .i64 t.fld.at', .int .i64 t.fld.cap, .string t.fld.name, .int .i64 t.fld.min, .int .i64 t.fld.max, .bool t.fld.lazy] 27) = w1 := ⟨_, rfl⟩
  have hb1 : Below w.heap.size w w1 := by rw [← hw1]; exact (Below.refl _ w).alloc (Nat.le_refl _) _
  have hE1 : Whole w1 w.heap.size 27 #[.int .i64 t.fld.op, .slice A n c, .int .i32 t.fld.rune, .slice a2 s c2, .int .i64 t.fld.at', .int .i64 t.fld.cap, .string t.fld.name, .int .i64 t.fld.min, .int .i64 t.fld.max, .bool t.fld.lazy] := by rw [← hw1]; exact heap_alloc_new w _
  have HA := Lib.hid (alone_any (fun b => b < w.heap.size) t _ w1 (fun b hb => Nat.lt_of_lt_of_le hb hb1.size) (hF.same (same_below hb1) (fun _ h _ => h)) hp)
  have HW1 := Lib.hid hw1; have HB1 := Lib.hid hb1; have HE1 := Lib.hid hE1
  obtain ⟨g0, g1, g2, g3, g4, g5, g6, g7, g8, g9⟩ := hE1.ten
  clear h hF hn hs hnb hsb hK hS hFl hw1 hb1 hE1
  go_enter Tryd.func9, Tryd.ntmps9
  go_upto_region 1 with (fail)
  rw [HW1.out]
  go_wp2_with fail
  refine HA.out.mono ?_
  rintro e w2 ⟨v2, rfl, ht2, hb2⟩
  rw [HU.out] at ht2
  obtain ⟨kv2, sv2, rfl, ⟨x1, x2, x3, rfl⟩, ⟨y1, y2, y3, rfl⟩⟩ := ht2.ten
  have hE2 : Whole w2 w.heap.size 27 #[.int .i64 t.fld.op, .slice A n c, .int .i32 t.fld.rune, .slice a2 s c2, .int .i64 t.fld.at', .int .i64 t.fld.cap, .string t.fld.name, .int .i64 t.fld.min, .int .i64 t.fld.max, .bool t.fld.lazy] := HE1.out.below hb2 HE1.out.lt
  obtain ⟨w3, hw3⟩ : ∃ w3, set10 w2 w.heap.size (.int .i64 u.fld.op) (.slice x1 x2 x3) (.int .i32 u.fld.rune) (.slice y1 y2 y3) (.int .i64 u.fld.at') (.int .i64 u.fld.cap) (.string u.fld.name) (.int .i64 u.fld.min) (.int .i64 u.fld.max) (.bool u.fld.lazy) = w3 := ⟨_, rfl⟩
  have hE3 : Whole w3 w.heap.size 27 #[.int .i64 u.fld.op, .slice x1 x2 x3, .int .i32 u.fld.rune, .slice y1 y2 y3, .int .i64 u.fld.at', .int .i64 u.fld.cap, .string u.fld.name, .int .i64 u.fld.min, .int .i64 u.fld.max, .bool u.fld.lazy] := by rw [← hw3]; exact set10_whole hE2 _ _ _ _ _ _ _ _ _ _
  have hsame : SameOn (fun k => k ≠ w.heap.size) w2 w3 := by rw [← hw3]; exact set10_same _ _ _ _ _ _ _ _ _ _ _ _
  have hT3 : Tre w3 u (.agg #[.int .i64 u.fld.op, .slice x1 x2 x3, .int .i32 u.fld.rune, .slice y1 y2 y3, .int .i64 u.fld.at', .int .i64 u.fld.cap, .string u.fld.name, .int .i64 u.fld.min, .int .i64 u.fld.max, .bool u.fld.lazy]) := ht2.same (fun b hb hl => hsame b (by have : b < w.heap.size := hb; omega) hl) (fun _ _ _ => trivial)
  have hB3 : Below w.heap.size w w3 := by rw [← hw3]; exact set10_below (HB1.out.trans (hb2.mono HB1.out.size)) (Nat.le_refl _) _ _ _ _ _ _ _ _ _ _
  clear g0 g1 g2 g3 g4 g5 g6 g7 g8 g9
  obtain ⟨g0, g1, g2, g3, g4, g5, g6, g7, g8, g9⟩ := hE2.ten
  obtain ⟨z0, z1, z2, z3, z4, z5, z6, z7, z8, z9⟩ := whole_free hE2
  unfold set10 at hw3
  have HW3 := Lib.hid hw3; have HE3 := Lib.hid hE3; have HT3 := Lib.hid hT3; have HB3 := Lib.hid hB3
  clear ht2 hb2 hE2 hw3 hE3 hsame hT3 hB3 HA HE1 HB1 HW1
  go_upto_region 2 with (fail)
  rw [HW3.out]
  clear g0 g1 g2 g3 g4 g5 g6 g7 g8 g9 z0 z1 z2 z3 z4 z5 z6 z7 z8 z9
  obtain ⟨r0, r1, r2, r3, r4, r5, r6, r7, r8, r9⟩ := HE3.out.ten
  have HX2 : Hid (u.kids.length = x2 ∧ Kds w3 u.kids (.slice x1 x2 x3) ∧ Rgs w3 (.slice y1 y2 y3) u.fld.set) := Lib.hid (by
    have h1 := HT3.out
    rw [tre_iff] at h1
    obtain ⟨kv', sv', e, hS, -, hK⟩ := h1
    obtain ⟨rfl, rfl⟩ := treC_inj (f := u.fld) (k1 := .slice x1 x2 x3) (s1 := .slice y1 y2 y3) e
    refine ⟨?_, hK, hS⟩
    obtain ⟨A', c', e2, -⟩ := hK
    injection e2 with _ q _
    exact q.symm)
  obtain ⟨op, hop⟩ : ∃ op, u.fld.op = op := ⟨_, rfl⟩
  have hkinds := HKI.out
  rw [hop] at hkinds r0
  have HOP := Lib.hid hop
  clear hop HKI
  have LF : Hid ((op = 1 ∨ op = 2 ∨ op = 3 ∨ op = 4 ∨ op = 5) → O = if op = 1 then noneP else if op = 2 then emptyP else if op = 3 then oneZ u.fld.rune else if op = 4 then setP u.fld.set else placeP u.fld.at') := Lib.hid (fun h => by rw [← HO.out, ← HOP.out]; exact text_leaf (by rw [HOP.out]; exact h))
  have hrep := hkinds
  have hways : (op == 7) = true ∨ ((op == 7) = false ∧ (op == 8) = true) ∨ ((op == 7) = false ∧ (op == 8) = false ∧ (op == 9) = true) ∨ ((op == 7) = false ∧ (op == 8) = false ∧ (op == 9) = false ∧ (op == 10) = true) := by
    rcases hkinds with rfl | rfl | rfl | rfl <;> decide
  have e1 : (op == 1) = false := by rw [beq_eq_false_iff_ne]; omega
  have e3 : (op == 3) = false := by rw [beq_eq_false_iff_ne]; omega
  have e4 : (op == 4) = false := by rw [beq_eq_false_iff_ne]; omega
  have e5 : (op == 5) = false := by rw [beq_eq_false_iff_ne]; omega
  have e6 : (op == 6) = false := by rw [beq_eq_false_iff_ne]; omega
  have h1k : x2 = 1 := by rw [← HX2.out.1]; exact HNUM.out.1 (by have := HOP.out; omega)
  subst h1k
  obtain ⟨kb, ko, tk, kv', sv', hA, htk, hm, ⟨d0, d1, d2, d3, d4, d5, d6, d7, d8, d9⟩, hTk⟩ := HX2.out.2.1.kid 0 (by rw [HX2.out.1]; exact Nat.zero_lt_one)
  subst hA
  obtain ⟨kx, sx, hv2, ⟨m1, m2, m3, rfl⟩, ⟨p1, p2, p3, rfl⟩⟩ := hTk.ten
  obtain ⟨rfl, rfl⟩ := treC_inj (f := tk.fld) (k1 := kv') (s1 := sv') hv2
  rw [Nat.zero_mul, Nat.add_zero] at d0 d1 d2 d3 d4 d5 d6 d7 d8 d9
  have hkk : u.kids = [tk] := by
    obtain ⟨k, hk⟩ := List.length_eq_one_iff.1 HX2.out.1
    have : tk = k := by rw [← htk]; simp [hk]
    rw [hk, this]
  have HKK := Lib.hid hkk; have HTK := Lib.hid hTk; have HKT := Lib.hid (HKD.out tk hm)
  clear hkk hTk htk hm hv2 LF
  have HO2 : Hid (O = repT tk ++ signP u.fld) := Lib.hid (by rw [← HO.out]; exact text_rep (by rw [HOP.out]; exact hrep) HKK.out)
  have hsg : signP u.fld = timesP u.fld ++ lazyP u.fld := rfl
  obtain ⟨X, hX⟩ : ∃ X, repT tk = X := ⟨_, rfl⟩
  obtain ⟨Y, hY⟩ : ∃ Y, timesP u.fld = Y := ⟨_, rfl⟩
  obtain ⟨Z, hZ⟩ : ∃ Z, lazyP u.fld = Z := ⟨_, rfl⟩
  have hpk : partsR tk ≤ 10000000000 := by have := HKT.out.2.1; omega
  have HRP := Lib.hid fun W (hW : Below w3.heap.size w3 W) => repeated_of HKT.out.1 hpk HKT.out.2.2.2 _ W (HTK.out.below hW)
  have HTM := Lib.hid fun W (hW : Below w3.heap.size w3 W) => times_any u _ W (HT3.out.below hW) HFL.out (by rw [HOP.out]; exact hrep)
  have HLZ := Lib.hid fun W (hW : Below w3.heap.size w3 W) => lazy_any u _ W (HT3.out.below hW)
  rw [hsg] at HO2
  rw [hX] at HRP HO2
  rw [hY] at HTM HO2
  rw [hZ] at HLZ HO2
  rw [HOP.out] at HTM HLZ
  have HJ := Lib.hid fun W => joined_new [textB X, textB Y, textB Z] W 3 _ rfl rfl 9 (by decide) (by
    have := congrArg List.length HO2.out
    simp only [List.length_append] at this
    simp [flatB, textB_list]; omega)
  have HFB : Hid (flatB [textB X, textB Y, textB Z] = X ++ (Y ++ Z)) := Lib.hid (by simp [flatB, textB_list])
  rw [HFB.out, ← HO2.out] at HJ
  have HB0 := Lib.hid (below_draws w3 1)
  have KP : Hid (∀ W, Below w3.heap.size w3 W → W.cell? ⟨w.heap.size, 0, none⟩ = some (.int .i64 op) ∧ W.cell? ⟨w.heap.size, 1, none⟩ = some (.slice (some ⟨kb, ko, none⟩) 1 x3) ∧ W.cell? ⟨w.heap.size, 2, none⟩ = some (.int .i32 u.fld.rune) ∧ W.cell? ⟨w.heap.size, 3, none⟩ = some (.slice y1 y2 y3) ∧ W.cell? ⟨w.heap.size, 4, none⟩ = some (.int .i64 u.fld.at') ∧ W.cell? ⟨w.heap.size, 5, none⟩ = some (.int .i64 u.fld.cap) ∧ W.cell? ⟨w.heap.size, 6, none⟩ = some (.string u.fld.name) ∧ W.cell? ⟨w.heap.size, 7, none⟩ = some (.int .i64 u.fld.min) ∧ W.cell? ⟨w.heap.size, 8, none⟩ = some (.int .i64 u.fld.max) ∧ W.cell? ⟨w.heap.size, 9, none⟩ = some (.bool u.fld.lazy) ∧ W.cell? ⟨kb, ko, none⟩ = some (.int .i64 tk.fld.op) ∧ W.cell? ⟨kb, ko + 1, none⟩ = some (.slice m1 m2 m3) ∧ W.cell? ⟨kb, ko + 2, none⟩ = some (.int .i32 tk.fld.rune) ∧ W.cell? ⟨kb, ko + 3, none⟩ = some (.slice p1 p2 p3) ∧ W.cell? ⟨kb, ko + 4, none⟩ = some (.int .i64 tk.fld.at') ∧ W.cell? ⟨kb, ko + 5, none⟩ = some (.int .i64 tk.fld.cap) ∧ W.cell? ⟨kb, ko + 6, none⟩ = some (.string tk.fld.name) ∧ W.cell? ⟨kb, ko + 7, none⟩ = some (.int .i64 tk.fld.min) ∧ W.cell? ⟨kb, ko + 8, none⟩ = some (.int .i64 tk.fld.max) ∧ W.cell? ⟨kb, ko + 9, none⟩ = some (.bool tk.fld.lazy)) := Lib.hid fun W hb => ⟨(hb.cell (World.block_lt_of_cell? w3 _ r0)).trans r0, (hb.cell (World.block_lt_of_cell? w3 _ r1)).trans r1, (hb.cell (World.block_lt_of_cell? w3 _ r2)).trans r2, (hb.cell (World.block_lt_of_cell? w3 _ r3)).trans r3, (hb.cell (World.block_lt_of_cell? w3 _ r4)).trans r4, (hb.cell (World.block_lt_of_cell? w3 _ r5)).trans r5, (hb.cell (World.block_lt_of_cell? w3 _ r6)).trans r6, (hb.cell (World.block_lt_of_cell? w3 _ r7)).trans r7, (hb.cell (World.block_lt_of_cell? w3 _ r8)).trans r8, (hb.cell (World.block_lt_of_cell? w3 _ r9)).trans r9, (hb.cell (World.block_lt_of_cell? w3 _ d0)).trans d0, (hb.cell (World.block_lt_of_cell? w3 _ d1)).trans d1, (hb.cell (World.block_lt_of_cell? w3 _ d2)).trans d2, (hb.cell (World.block_lt_of_cell? w3 _ d3)).trans d3, (hb.cell (World.block_lt_of_cell? w3 _ d4)).trans d4, (hb.cell (World.block_lt_of_cell? w3 _ d5)).trans d5, (hb.cell (World.block_lt_of_cell? w3 _ d6)).trans d6, (hb.cell (World.block_lt_of_cell? w3 _ d7)).trans d7, (hb.cell (World.block_lt_of_cell? w3 _ d8)).trans d8, (hb.cell (World.block_lt_of_cell? w3 _ d9)).trans d9⟩
  clear hX hY hZ HKT hpk hsg
  clear hrep hkinds
  rcases hways with h7 | ⟨h7, h8⟩ | ⟨h7, h8, h9⟩ | ⟨h7, h8, h9, h10⟩
  all_goals
    go_upto_region 17 with (fail)
    refine wp_region_held_drew (S := (fun w' => w'.cell? ⟨w.heap.size, 0, none⟩ = some (.int .i64 op) ∧ w'.cell? ⟨w.heap.size, 1, none⟩ = some (.slice (some ⟨kb, ko, none⟩) 1 x3) ∧ w'.cell? ⟨w.heap.size, 2, none⟩ = some (.int .i32 u.fld.rune) ∧ w'.cell? ⟨w.heap.size, 3, none⟩ = some (.slice y1 y2 y3) ∧ w'.cell? ⟨w.heap.size, 4, none⟩ = some (.int .i64 u.fld.at') ∧ w'.cell? ⟨w.heap.size, 5, none⟩ = some (.int .i64 u.fld.cap) ∧ w'.cell? ⟨w.heap.size, 6, none⟩ = some (.string u.fld.name) ∧ w'.cell? ⟨w.heap.size, 7, none⟩ = some (.int .i64 u.fld.min) ∧ w'.cell? ⟨w.heap.size, 8, none⟩ = some (.int .i64 u.fld.max) ∧ w'.cell? ⟨w.heap.size, 9, none⟩ = some (.bool u.fld.lazy) ∧ w'.cell? ⟨kb, ko, none⟩ = some (.int .i64 tk.fld.op) ∧ w'.cell? ⟨kb, ko + 1, none⟩ = some (.slice m1 m2 m3) ∧ w'.cell? ⟨kb, ko + 2, none⟩ = some (.int .i32 tk.fld.rune) ∧ w'.cell? ⟨kb, ko + 3, none⟩ = some (.slice p1 p2 p3) ∧ w'.cell? ⟨kb, ko + 4, none⟩ = some (.int .i64 tk.fld.at') ∧ w'.cell? ⟨kb, ko + 5, none⟩ = some (.int .i64 tk.fld.cap) ∧ w'.cell? ⟨kb, ko + 6, none⟩ = some (.string tk.fld.name) ∧ w'.cell? ⟨kb, ko + 7, none⟩ = some (.int .i64 tk.fld.min) ∧ w'.cell? ⟨kb, ko + 8, none⟩ = some (.int .i64 tk.fld.max) ∧ w'.cell? ⟨kb, ko + 9, none⟩ = some (.bool tk.fld.lazy))) (by kernel_rfl) (KP.out _ HB0.out) (fun hHeld => ?_)
    refine wpAnyH_take (i := 0) (oi := _) (v := ?_) rfl (by kernel_rfl) (by kernel_rfl) (by kernel_rfl) (fun _ _ _ h => h) (Or.inl ⟨by rfl, ?_⟩) (by assumption) ?_
    rotate_left 1
    · (intro w hSw; (try dsimp only at hSw); go_simp; (try with_reducible rfl))
    try simp only [List.getElem_toArray, List.getElem_cons_zero, Act.put, List.setIfInBounds_toArray, List.set_cons_zero, List.set_cons_succ]
    refine wpAnyH_take (i := 1) (oi := _) (v := ?_) rfl (by kernel_rfl) (by kernel_rfl) (by kernel_rfl) (fun _ _ _ h => h) (Or.inl ⟨by rfl, ?_⟩) (by assumption) ?_
    rotate_left 1
    · (intro w hSw; (try dsimp only at hSw); go_simp; (try with_reducible rfl))
    try simp only [List.getElem_toArray, List.getElem_cons_zero, List.getElem_cons_succ, Act.put, List.setIfInBounds_toArray, List.set_cons_zero, List.set_cons_succ]
    refine wpAnyH_take (i := 2) (oi := _) (v := ?_) rfl (by kernel_rfl) (by kernel_rfl) (by kernel_rfl) (fun _ _ _ h => h) (Or.inl ⟨by rfl, ?_⟩) (by assumption) ?_
    rotate_left 1
    · (intro w hSw; (try dsimp only at hSw); go_simp; (try with_reducible rfl))
    try simp only [List.getElem_toArray, List.getElem_cons_zero, List.getElem_cons_succ, Act.put, List.setIfInBounds_toArray, List.set_cons_zero, List.set_cons_succ]
    refine wpAnyH_take (i := 3) (oi := _) (v := ?_) rfl (by kernel_rfl) (by kernel_rfl) (by kernel_rfl) (fun _ _ _ h => h) (Or.inl ⟨by rfl, ?_⟩) (by assumption) ?_
    rotate_left 1
    · (intro w hSw; (try dsimp only at hSw); go_simp; (try with_reducible rfl))
    try simp only [List.getElem_toArray, List.getElem_cons_zero, List.getElem_cons_succ, Act.put, List.setIfInBounds_toArray, List.set_cons_zero, List.set_cons_succ]
    refine wpAnyH_take (i := 5) (oi := _) (v := ?_) rfl (by kernel_rfl) (by kernel_rfl) (by kernel_rfl) (fun _ _ _ h => h) (Or.inl ⟨by rfl, ?_⟩) (by assumption) ?_
    rotate_left 1
    · (intro w hSw; (try dsimp only at hSw); go_simp; (try with_reducible rfl))
    try simp only [List.getElem_toArray, List.getElem_cons_zero, List.getElem_cons_succ, Act.put, List.setIfInBounds_toArray, List.set_cons_zero, List.set_cons_succ]
    refine wpAnyH_take (i := 7) (oi := _) (v := ?_) rfl (by kernel_rfl) (by kernel_rfl) (by kernel_rfl) (fun _ _ _ h => h) (Or.inl ⟨by rfl, ?_⟩) (by assumption) ?_
    rotate_left 1
    · (intro w hSw; (try dsimp only at hSw); go_simp; (try with_reducible rfl))
    try simp only [List.getElem_toArray, List.getElem_cons_zero, List.getElem_cons_succ, Act.put, List.setIfInBounds_toArray, List.set_cons_zero, List.set_cons_succ]
    refine wpAnyH_ready (rs := [4]) (by kernel_rfl) (by simp) ?_
    refine AllReadyH.cons (o := _) rfl (fun K hK => ?_) ?_
    · go_simp
      refine (HRP.out _ HB0.out).mono ?_
      rintro e u4 ⟨rfl, hb⟩
      have HB4 := Lib.hid (HB0.out.trans (hb.mono HB0.out.size))
      clear hb
      go_wp2_with fail
      refine hK.out _ _ (KP.out _ HB4.out) (fun hHeld => ?_)
      clear hK K
      try simp only [List.getElem_toArray, List.getElem_cons_zero, List.getElem_cons_succ, Act.put, List.setIfInBounds_toArray, List.set_cons_zero, List.set_cons_succ]
      refine wpAnyH_ready (rs := [6]) (by kernel_rfl) (by simp) ?_
      refine AllReadyH.cons (o := _) rfl (fun K hK => ?_) ?_
      · go_simp
        refine (HTM.out _ HB4.out).mono ?_
        rintro e u5 ⟨rfl, hb⟩
        have HB5 := Lib.hid (HB4.out.trans (hb.mono HB4.out.size))
        clear hb
        go_wp2_with fail
        refine hK.out _ _ (KP.out _ HB5.out) (fun hHeld => ?_)
        clear hK K
        try simp only [List.getElem_toArray, List.getElem_cons_zero, List.getElem_cons_succ, Act.put, List.setIfInBounds_toArray, List.set_cons_zero, List.set_cons_succ]
        refine wpAnyH_ready (rs := [8]) (by kernel_rfl) (by simp) ?_
        refine AllReadyH.cons (o := _) rfl (fun K hK => ?_) ?_
        · go_simp
          refine (HLZ.out _ HB5.out).mono ?_
          rintro e u6 ⟨rfl, hb⟩
          have HB8 := Lib.hid (HB5.out.trans (hb.mono HB5.out.size))
          clear hb
          go_wp2_with fail
          refine hK.out _ _ (KP.out _ HB8.out) (fun hHeld => ?_)
          clear hK K
          try simp only [List.getElem_toArray, List.getElem_cons_zero, List.getElem_cons_succ, Act.put, List.setIfInBounds_toArray, List.set_cons_zero, List.set_cons_succ]
          refine wpAnyH_ready (rs := [9]) (by kernel_rfl) (by simp) ?_
          refine AllReadyH.cons (o := _) rfl (fun K hK => ?_) ?_
          · go_simp
            refine hK.out _ _ (KP.out _ (HB8.out.alloc HB8.out.size _)) (fun hHeld => ?_)
            clear hK K
            try simp only [List.getElem_toArray, List.getElem_cons_zero, List.getElem_cons_succ, Act.put, List.setIfInBounds_toArray, List.set_cons_zero, List.set_cons_succ]
            refine wpAnyH_ready (rs := [10]) (by kernel_rfl) (by simp) ?_
            refine AllReadyH.cons (o := _) rfl (fun K hK => ?_) ?_
            · go_simp
              refine (HJ.out _).mono ?_
              rintro e u7 ⟨rfl, hb⟩
              have HB6 := Lib.hid (HB8.out.trans (hb.mono HB8.out.size)); have HB7 := Lib.hid (HB3.out.trans (HB6.out.mono HB3.out.size))
              clear hb
              go_wp2_with fail
              refine hK.out _ _ (KP.out _ HB6.out) (fun hHeld => ?_)
              clear hK K
              try simp only [List.getElem_toArray, List.getElem_cons_zero, List.getElem_cons_succ, Act.put, List.setIfInBounds_toArray, List.set_cons_zero, List.set_cons_succ]
              refine wpAnyH_take (i := 11) (oi := _) (v := ?_) rfl (by kernel_rfl) (by kernel_rfl) (by kernel_rfl) (fun _ _ _ h => h) (Or.inl ⟨by rfl, ?_⟩) (by assumption) ?_
              rotate_left 1
              · (intro w hSw; (try dsimp only at hSw); go_simp; (try with_reducible rfl))
              try simp only [List.getElem_toArray, List.getElem_cons_zero, List.getElem_cons_succ, Act.put, List.setIfInBounds_toArray, List.set_cons_zero, List.set_cons_succ]
              refine wpAnyH_done (by kernel_rfl) ?_ _
              go_wp2_with fail
              go_ret
              exact ⟨by rw [HO2.out]; try rfl, HB7.out⟩
            exact AllReadyH.nil
          exact AllReadyH.nil
        exact AllReadyH.nil
      exact AllReadyH.nil
    exact AllReadyH.nil
end Go.Proofs.YthnddabcmhplkaaDoor
/- The program's text of every shaped tree. -/
namespace Go.Proofs.YthnddabcmhplkaaDoor
open Go Go.RowKit

theorem text_step {t : Tr} (hs0 : ShapedP t) (hp : partsR t ≤ 10000000000) (hC : ∀ k, partsR k < partsR t → ShapedP k → TextC k) : TextC t := by
  rcases shaped_kinds (sole_all t hs0).1 with (h | h | h | h | h) | h | h | h | h
  · exact text_most (by omega) hs0 hp hC
  · exact text_most (by omega) hs0 hp hC
  · exact text_most (by omega) hs0 hp hC
  · exact text_most (by omega) hs0 hp hC
  · exact text_most (by omega) hs0 hp hC
  · exact text_six h hs0 hp hC
  · exact text_rept h hs0 hp hC
  · exact text_most (by omega) hs0 hp hC
  · exact text_most (by omega) hs0 hp hC
theorem text_any : ∀ (n : Nat) (t : Tr), partsR t < n → partsR t ≤ 10000000000 → ShapedP t → TextC t
  | 0, t, h, _, _ => absurd h (Nat.not_lt_zero _)
  | n + 1, t, h, hp, hs => text_step hs hp fun k hk hks => text_any n k (by omega) (by omega) hks
end Go.Proofs.YthnddabcmhplkaaDoor
