/- Texts merged by program: PwRep, PwTextA, PwTextB, PwTextC, PwText. No condition. -/
import Derived.Test.YtaaoamkagppodaaK15
import Derived.Test.YtaaoamkagppodaaK22
import Derived.Test.YtaaoamkagppodaaK21
import Derived.Test.YtaaoamkagppodaaK23
import Derived.Deep.RegionHeld3
set_option linter.unusedVariables false
/- The program's text of a shaped tree: repeated, chained, within and text itself, by recursion over the tree. -/
namespace Go.Proofs.Ytaaoamkagppodaa
open Go Go.RowKit

theorem sole_all (t : Tr) : ShapedP t → ShapedP (soleT t) ∧ partsR (soleT t) ≤ partsR t ∧ textT (soleT t) = textT t := by
  refine Tr.ind (P := fun t => ShapedP t → ShapedP (soleT t) ∧ partsR (soleT t) ≤ partsR t ∧ textT (soleT t) = textT t) (fun t ih hs => ?_) t
  by_cases hl : Lone t
  · obtain ⟨k, hkk⟩ := lone_kid hl
    have e := ih k (by rw [hkk]; simp) (((shapedP_iff t).1 hs).2.2.2 k (by rw [hkk]; simp))
    have hp := partsR_kid (t := t) (k := k) (by rw [hkk]; simp)
    rw [sole_lone hl hkk, text_lone hl hkk]
    exact ⟨e.1, by omega, e.2.2⟩
  · rw [sole_self hl]
    exact ⟨hs, Nat.le_refl _, rfl⟩
def TextC (t : Tr) : Prop := ∀ (v : Value) (w : World), Tre w t v → Calls Try.prog 9 #[v] w (TextPost (textT t) w)
theorem L_open : (⟨#[40, 63, 58]⟩ : ByteArray).toList = [40, 63, 58] := by kernel_rfl
theorem L_close : (⟨#[41]⟩ : ByteArray).toList = [41] := by kernel_rfl
theorem flat_wrap (l : List UInt8) : flatB [⟨#[40, 63, 58]⟩, textB l, ⟨#[41]⟩] = wrapP l := by simp [flatB, textB_list, wrapP]

set_option maxHeartbeats 3200000 in
set_option maxRecDepth 100000 in
theorem within_of {t : Tr} (hC : TextC t) (hl : (textT t).length ≤ 100000000000000) (v : Value) (w : World) (h : Tre w t v) : Calls Try.prog 37 #[v] w (TextPost (wrapP (textT t)) w) := by
  obtain ⟨A, n, c, a2, s, c2, hn, hs, rfl, hnb, hsb, hK, hS, hFl⟩ := h.opened
  obtain ⟨w1, hw1⟩ : ∃ w1, w.alloc (.cells #[.int .i64 t.fld.op, .slice A n c, .int .i32 t.fld.rune, .slice a2 s c2, .int .i64 t.fld.at', .int .i64 t.fld.cap, .string t.fld.name, .int .i64 t.fld.min, .int .i64 t.fld.max, .bool t.fld.lazy] 27) = w1 := ⟨_, rfl⟩
  have hb1 : Below w.heap.size w w1 := by rw [← hw1]; exact (Below.refl _ w).alloc (Nat.le_refl _) _
  have hE1 : Whole w1 w.heap.size 27 #[.int .i64 t.fld.op, .slice A n c, .int .i32 t.fld.rune, .slice a2 s c2, .int .i64 t.fld.at', .int .i64 t.fld.cap, .string t.fld.name, .int .i64 t.fld.min, .int .i64 t.fld.max, .bool t.fld.lazy] := by rw [← hw1]; exact heap_alloc_new w _
  have HA := Lib.hid (hC _ w1 (h.below hb1))
  have HW1 := Lib.hid hw1; have HB1 := Lib.hid hb1
  obtain ⟨g0, g1, g2, g3, g4, g5, g6, g7, g8, g9⟩ := hE1.ten
  obtain ⟨x, hx⟩ : ∃ x, textT t = x := ⟨_, rfl⟩
  rw [hx] at HA hl ⊢
  have HJ := Lib.hid fun W => joined_new [⟨#[40, 63, 58]⟩, textB x, ⟨#[41]⟩] W 3 _ rfl rfl 9 (by decide) (by rw [flat_wrap, wrap_len]; omega)
  rw [flat_wrap] at HJ
  obtain ⟨Y, hY⟩ : ∃ Y, wrapP x = Y := ⟨_, rfl⟩
  rw [hY] at HJ ⊢
  clear h hn hs hnb hsb hK hS hFl hw1 hb1 hE1 hx hY hl
  go_enter Try.func37, Try.ntmps37
  go_upto_region 1 with (fail)
  rw [HW1.out]
  go_wp2_with fail
  refine HA.out.mono ?_
  rintro e w2 ⟨rfl, hb2⟩
  have HB2 := Lib.hid (HB1.out.trans (hb2.mono HB1.out.size))
  clear hb2
  go_wp2_with fail
  refine (HJ.out _).mono ?_
  rintro e w3 ⟨rfl, hb3⟩
  have HB3 := Lib.hid (HB2.out.trans (hb3.mono HB2.out.size))
  clear hb3
  go_wp2_with fail
  go_ret
  exact ⟨rfl, HB3.out⟩
set_option maxHeartbeats 6400000 in
set_option maxRecDepth 100000 in
theorem repeated_of {k : Tr} (hs0 : ShapedP k) (hp : partsR k ≤ 10000000000) (hC : TextC (soleT k)) (v : Value) (w : World) (h : Tre w k v) : Calls Try.prog 19 #[v] w (TextPost (repT k) w) := by
  have q1 := sole_all k hs0
  have hlen := text_len (soleT k) q1.1
  have HI := Lib.hid (within_of hC (by omega))
  have HT := Lib.hid hC
  have hops := shaped_kinds q1.1
  have hnl := sole_not k
  have HX : Hid (textT (soleT k) = textT k) := Lib.hid q1.2.2
  clear hlen hC q1
  obtain ⟨O, hO⟩ : ∃ O, repT k = O := ⟨_, rfl⟩
  rw [hO]
  have HO := Lib.hid hO
  clear hO hs0
  have hF := h.foot
  obtain ⟨u, hu⟩ : ∃ u, soleT k = u := ⟨_, rfl⟩
  have HU := Lib.hid hu
  clear hu
  obtain ⟨A, n, c, a2, s, c2, hn, hs, rfl, hnb, hsb, hK, hS, hFl⟩ := h.opened
  obtain ⟨w1, hw1⟩ : ∃ w1, w.alloc (.cells #[.int .i64 k.fld.op, .slice A n c, .int .i32 k.fld.rune, .slice a2 s c2, .int .i64 k.fld.at', .int .i64 k.fld.cap, .string k.fld.name, .int .i64 k.fld.min, .int .i64 k.fld.max, .bool k.fld.lazy] 27) = w1 := ⟨_, rfl⟩
  have hb1 : Below w.heap.size w w1 := by rw [← hw1]; exact (Below.refl _ w).alloc (Nat.le_refl _) _
  have hE1 : Whole w1 w.heap.size 27 #[.int .i64 k.fld.op, .slice A n c, .int .i32 k.fld.rune, .slice a2 s c2, .int .i64 k.fld.at', .int .i64 k.fld.cap, .string k.fld.name, .int .i64 k.fld.min, .int .i64 k.fld.max, .bool k.fld.lazy] := by rw [← hw1]; exact heap_alloc_new w _
  have HA := Lib.hid (alone_any (fun b => b < w.heap.size) k _ w1 (fun b hb => Nat.lt_of_lt_of_le hb hb1.size) (hF.same (same_below hb1) (fun _ h _ => h)) hp)
  have HW1 := Lib.hid hw1; have HB1 := Lib.hid hb1; have HE1 := Lib.hid hE1
  obtain ⟨g0, g1, g2, g3, g4, g5, g6, g7, g8, g9⟩ := hE1.ten
  clear h hF hn hs hnb hsb hK hS hFl hw1 hb1 hE1
  go_enter Try.func19, Try.ntmps19
  go_upto_region 1 with (fail)
  rw [HW1.out]
  go_wp2_with fail
  refine HA.out.mono ?_
  rintro e w2 ⟨v2, rfl, ht2, hb2⟩
  rw [HU.out] at ht2
  obtain ⟨kv2, sv2, rfl, ⟨x1, x2, x3, rfl⟩, ⟨y1, y2, y3, rfl⟩⟩ := ht2.ten
  have hE2 : Whole w2 w.heap.size 27 #[.int .i64 k.fld.op, .slice A n c, .int .i32 k.fld.rune, .slice a2 s c2, .int .i64 k.fld.at', .int .i64 k.fld.cap, .string k.fld.name, .int .i64 k.fld.min, .int .i64 k.fld.max, .bool k.fld.lazy] := HE1.out.below hb2 HE1.out.lt
  obtain ⟨w3, hw3⟩ : ∃ w3, set10 w2 w.heap.size (.int .i64 u.fld.op) (.slice x1 x2 x3) (.int .i32 u.fld.rune) (.slice y1 y2 y3) (.int .i64 u.fld.at') (.int .i64 u.fld.cap) (.string u.fld.name) (.int .i64 u.fld.min) (.int .i64 u.fld.max) (.bool u.fld.lazy) = w3 := ⟨_, rfl⟩
  have hE3 : Whole w3 w.heap.size 27 #[.int .i64 u.fld.op, .slice x1 x2 x3, .int .i32 u.fld.rune, .slice y1 y2 y3, .int .i64 u.fld.at', .int .i64 u.fld.cap, .string u.fld.name, .int .i64 u.fld.min, .int .i64 u.fld.max, .bool u.fld.lazy] := by rw [← hw3]; exact set10_whole hE2 _ _ _ _ _ _ _ _ _ _
  have hsame : SameOn (fun k => k ≠ w.heap.size) w2 w3 := by rw [← hw3]; exact set10_same _ _ _ _ _ _ _ _ _ _ _ _
  have hT3 : Tre w3 u (.agg #[.int .i64 u.fld.op, .slice x1 x2 x3, .int .i32 u.fld.rune, .slice y1 y2 y3, .int .i64 u.fld.at', .int .i64 u.fld.cap, .string u.fld.name, .int .i64 u.fld.min, .int .i64 u.fld.max, .bool u.fld.lazy]) := ht2.same (fun b hb hl => hsame b (by have : b < w.heap.size := hb; omega) hl) (fun _ _ _ => trivial)
  have hB3 : Below w.heap.size w w3 := by rw [← hw3]; exact set10_below (HB1.out.trans (hb2.mono HB1.out.size)) (Nat.le_refl _) _ _ _ _ _ _ _ _ _ _
  clear g0 g1 g2 g3 g4 g5 g6 g7 g8 g9
  obtain ⟨g0, g1, g2, g3, g4, g5, g6, g7, g8, g9⟩ := hE2.ten
  obtain ⟨z0, z1, z2, z3, z4, z5, z6, z7, z8, z9⟩ := whole_free hE2
  unfold set10 at hw3
  have HW3 := Lib.hid hw3; have HE3 := Lib.hid hE3; have HT3 := Lib.hid hT3; have HB3 := Lib.hid hB3
  clear ht2 hb2 hE2 hw3 hE3 hsame hT3 hB3 HA HE1 HB1 HW1
  go_upto_region 2 with (fail)
  rw [HW3.out]
  clear g0 g1 g2 g3 g4 g5 g6 g7 g8 g9 z0 z1 z2 z3 z4 z5 z6 z7 z8 z9
  obtain ⟨r0, r1, r2, r3, r4, r5, r6, r7, r8, r9⟩ := HE3.out.ten
  rw [HU.out] at HI HT HX hops hnl
  have HXX := Lib.hid (HX.out)
  have HK : Hid (u.kids.length = x2) := Lib.hid (by
    have := HT3.out
    unfold Tre at this
    rw [treF_iff] at this
    obtain ⟨kv', sv', e, -, -, A', c', rfl, -⟩ := this
    have := (treC_inj (f := u.fld) (k1 := .slice x1 x2 x3) (s1 := .slice y1 y2 y3) e).1
    injection this with _ q _
    exact q.symm)
  have hd : Held k ↔ (u.fld.op = 11 ∧ u.kids ≠ []) ∨ (7 ≤ u.fld.op ∧ u.fld.op ≠ 11) := by unfold Held; rw [HU.out]
  have hy : Held k → O = wrapP (textT u) := fun hh => by
    rw [← HO.out, HX.out]
    unfold repT repP
    rw [if_pos hh]
  have hno : ¬ Held k → O = textT u := fun hh => by
    rw [← HO.out, HX.out]
    unfold repT repP
    rw [if_neg hh]
  rw [hd] at hy hno
  have hcase : (u.fld.op = 11 ∧ 0 < x2 ∧ O = wrapP (textT u)) ∨ (u.fld.op = 11 ∧ ¬ 0 < x2 ∧ O = textT u) ∨ ((u.fld.op = 12 ∨ u.fld.op = 7 ∨ u.fld.op = 8 ∨ u.fld.op = 9 ∨ u.fld.op = 10) ∧ O = wrapP (textT u)) ∨ ((u.fld.op ≠ 11 ∧ u.fld.op ≠ 12 ∧ u.fld.op ≠ 7 ∧ u.fld.op ≠ 8 ∧ u.fld.op ≠ 9 ∧ u.fld.op ≠ 10) ∧ O = textT u) := by
    have hk := HK.out
    by_cases h11 : u.fld.op = 11
    · by_cases hz : 0 < x2
      · exact .inl ⟨h11, hz, hy (.inl ⟨h11, fun e => by rw [e] at hk; simp at hk; omega⟩)⟩
      · exact .inr (.inl ⟨h11, hz, hno (by rintro (e | e); exact e.2 (List.eq_nil_of_length_eq_zero (by omega)); exact e.2 h11)⟩)
    · by_cases h6 : 7 ≤ u.fld.op
      · exact .inr (.inr (.inl ⟨by omega, hy (.inr ⟨h6, h11⟩)⟩))
      · exact .inr (.inr (.inr ⟨by omega, hno (by rintro (e | e); exact h11 e.1; exact h6 e.1)⟩))
  clear hd hy hno hops hnl
  obtain ⟨op, hop⟩ : ∃ op, u.fld.op = op := ⟨_, rfl⟩
  rw [hop] at hcase r0 HT3
  rcases hcase with ⟨rfl, hz, hO⟩ | ⟨rfl, hz, hO⟩ | ⟨hq, hO⟩ | ⟨hq, hO⟩
  · have hzz : (0 : Int) < (x2 : Int) := by omega
    have HO2 := Lib.hid hO
    clear hO hop
    go_wp2_with fail
    refine (HI.out _ _ (HT3.out)).mono ?_
    rintro e w4 ⟨rfl, hb4⟩
    have HB4 := Lib.hid (HB3.out.trans (hb4.mono HB3.out.size))
    clear hb4
    go_wp2_with fail
    go_ret
    exact ⟨by rw [HO2.out]; try rfl, HB4.out⟩
  · have hzz : ¬ (0 : Int) < (x2 : Int) := by omega
    have hz0 : x2 = 0 := by omega
    subst hz0
    have HO2 := Lib.hid hO
    clear hO hop
    go_wp2_with fail
    refine (HT.out _ _ (HT3.out)).mono ?_
    rintro e w4 ⟨rfl, hb4⟩
    have HB4 := Lib.hid (HB3.out.trans (hb4.mono HB3.out.size))
    clear hb4
    go_wp2_with fail
    go_ret
    exact ⟨by rw [HO2.out]; try rfl, HB4.out⟩
  · have HO2 := Lib.hid hO
    clear hO hop
    rcases hq with rfl | rfl | rfl | rfl | rfl
    all_goals
      go_wp2_with fail
      refine (HI.out _ _ (HT3.out)).mono ?_
      rintro e w4 ⟨rfl, hb4⟩
      have HB4 := Lib.hid (HB3.out.trans (hb4.mono HB3.out.size))
      clear hb4
      go_wp2_with fail
      go_ret
      exact ⟨by rw [HO2.out]; try rfl, HB4.out⟩
  · have HO2 := Lib.hid hO
    clear hO hop
    obtain ⟨h1, h2, h3, h4, h5, h6⟩ := hq
    have e11 : (op == 11) = false := by simpa using h1
    have e12 : (op == 12) = false := by simpa using h2
    have e7 : (op == 7) = false := by simpa using h3
    have e8 : (op == 8) = false := by simpa using h4
    have e9 : (op == 9) = false := by simpa using h5
    have e10 : (op == 10) = false := by simpa using h6
    clear h1 h2 h3 h4 h5 h6
    go_wp2_with fail
    refine (HT.out _ _ (HT3.out)).mono ?_
    rintro e w4 ⟨rfl, hb4⟩
    have HB4 := Lib.hid (HB3.out.trans (hb4.mono HB3.out.size))
    clear hb4
    go_wp2_with fail
    go_ret
    exact ⟨by rw [HO2.out]; try rfl, HB4.out⟩
set_option maxHeartbeats 6400000 in
set_option maxRecDepth 100000 in
theorem chained_of {k : Tr} (hs0 : ShapedP k) (hp : partsR k ≤ 10000000000) (hC : TextC (soleT k)) (v : Value) (w : World) (h : Tre w k v) : Calls Try.prog 23 #[v] w (TextPost (chainT k) w) := by
  have q1 := sole_all k hs0
  have hlen := text_len (soleT k) q1.1
  have HI := Lib.hid (within_of hC (by omega))
  have HT := Lib.hid hC
  have hops := shaped_kinds q1.1
  have hnl := sole_not k
  have HX : Hid (textT (soleT k) = textT k) := Lib.hid q1.2.2
  clear hlen hC q1
  obtain ⟨O, hO⟩ : ∃ O, chainT k = O := ⟨_, rfl⟩
  rw [hO]
  have HO := Lib.hid hO
  clear hO hs0
  have hF := h.foot
  obtain ⟨u, hu⟩ : ∃ u, soleT k = u := ⟨_, rfl⟩
  have HU := Lib.hid hu
  clear hu
  obtain ⟨A, n, c, a2, s, c2, hn, hs, rfl, hnb, hsb, hK, hS, hFl⟩ := h.opened
  obtain ⟨w1, hw1⟩ : ∃ w1, w.alloc (.cells #[.int .i64 k.fld.op, .slice A n c, .int .i32 k.fld.rune, .slice a2 s c2, .int .i64 k.fld.at', .int .i64 k.fld.cap, .string k.fld.name, .int .i64 k.fld.min, .int .i64 k.fld.max, .bool k.fld.lazy] 27) = w1 := ⟨_, rfl⟩
  have hb1 : Below w.heap.size w w1 := by rw [← hw1]; exact (Below.refl _ w).alloc (Nat.le_refl _) _
  have hE1 : Whole w1 w.heap.size 27 #[.int .i64 k.fld.op, .slice A n c, .int .i32 k.fld.rune, .slice a2 s c2, .int .i64 k.fld.at', .int .i64 k.fld.cap, .string k.fld.name, .int .i64 k.fld.min, .int .i64 k.fld.max, .bool k.fld.lazy] := by rw [← hw1]; exact heap_alloc_new w _
  have HA := Lib.hid (alone_any (fun b => b < w.heap.size) k _ w1 (fun b hb => Nat.lt_of_lt_of_le hb hb1.size) (hF.same (same_below hb1) (fun _ h _ => h)) hp)
  have HW1 := Lib.hid hw1; have HB1 := Lib.hid hb1; have HE1 := Lib.hid hE1
  obtain ⟨g0, g1, g2, g3, g4, g5, g6, g7, g8, g9⟩ := hE1.ten
  clear h hF hn hs hnb hsb hK hS hFl hw1 hb1 hE1
  go_enter Try.func23, Try.ntmps23
  go_upto_region 1 with (fail)
  rw [HW1.out]
  go_wp2_with fail
  refine HA.out.mono ?_
  rintro e w2 ⟨v2, rfl, ht2, hb2⟩
  rw [HU.out] at ht2
  obtain ⟨kv2, sv2, rfl, ⟨x1, x2, x3, rfl⟩, ⟨y1, y2, y3, rfl⟩⟩ := ht2.ten
  have hE2 : Whole w2 w.heap.size 27 #[.int .i64 k.fld.op, .slice A n c, .int .i32 k.fld.rune, .slice a2 s c2, .int .i64 k.fld.at', .int .i64 k.fld.cap, .string k.fld.name, .int .i64 k.fld.min, .int .i64 k.fld.max, .bool k.fld.lazy] := HE1.out.below hb2 HE1.out.lt
  obtain ⟨w3, hw3⟩ : ∃ w3, set10 w2 w.heap.size (.int .i64 u.fld.op) (.slice x1 x2 x3) (.int .i32 u.fld.rune) (.slice y1 y2 y3) (.int .i64 u.fld.at') (.int .i64 u.fld.cap) (.string u.fld.name) (.int .i64 u.fld.min) (.int .i64 u.fld.max) (.bool u.fld.lazy) = w3 := ⟨_, rfl⟩
  have hE3 : Whole w3 w.heap.size 27 #[.int .i64 u.fld.op, .slice x1 x2 x3, .int .i32 u.fld.rune, .slice y1 y2 y3, .int .i64 u.fld.at', .int .i64 u.fld.cap, .string u.fld.name, .int .i64 u.fld.min, .int .i64 u.fld.max, .bool u.fld.lazy] := by rw [← hw3]; exact set10_whole hE2 _ _ _ _ _ _ _ _ _ _
  have hsame : SameOn (fun k => k ≠ w.heap.size) w2 w3 := by rw [← hw3]; exact set10_same _ _ _ _ _ _ _ _ _ _ _ _
  have hT3 : Tre w3 u (.agg #[.int .i64 u.fld.op, .slice x1 x2 x3, .int .i32 u.fld.rune, .slice y1 y2 y3, .int .i64 u.fld.at', .int .i64 u.fld.cap, .string u.fld.name, .int .i64 u.fld.min, .int .i64 u.fld.max, .bool u.fld.lazy]) := ht2.same (fun b hb hl => hsame b (by have : b < w.heap.size := hb; omega) hl) (fun _ _ _ => trivial)
  have hB3 : Below w.heap.size w w3 := by rw [← hw3]; exact set10_below (HB1.out.trans (hb2.mono HB1.out.size)) (Nat.le_refl _) _ _ _ _ _ _ _ _ _ _
  clear g0 g1 g2 g3 g4 g5 g6 g7 g8 g9
  obtain ⟨g0, g1, g2, g3, g4, g5, g6, g7, g8, g9⟩ := hE2.ten
  obtain ⟨z0, z1, z2, z3, z4, z5, z6, z7, z8, z9⟩ := whole_free hE2
  unfold set10 at hw3
  have HW3 := Lib.hid hw3; have HE3 := Lib.hid hE3; have HT3 := Lib.hid hT3; have HB3 := Lib.hid hB3
  clear ht2 hb2 hE2 hw3 hE3 hsame hT3 hB3 HA HE1 HB1 HW1
  go_upto_region 2 with (fail)
  rw [HW3.out]
  clear g0 g1 g2 g3 g4 g5 g6 g7 g8 g9 z0 z1 z2 z3 z4 z5 z6 z7 z8 z9
  obtain ⟨r0, r1, r2, r3, r4, r5, r6, r7, r8, r9⟩ := HE3.out.ten
  rw [HU.out] at HI HT HX hops hnl
  have HXX := Lib.hid (HX.out)
  have hcase : (u.fld.op = 12 ∧ O = wrapP (textT u)) ∨ (u.fld.op ≠ 12 ∧ O = textT u) := by
    rw [← HO.out]
    unfold chainT chainP
    rw [HU.out, HX.out]
    by_cases h12 : u.fld.op = 12
    · exact .inl ⟨h12, if_pos h12⟩
    · exact .inr ⟨h12, if_neg h12⟩
  clear hops hnl
  obtain ⟨op, hop⟩ : ∃ op, u.fld.op = op := ⟨_, rfl⟩
  rw [hop] at hcase r0 HT3
  rcases hcase with ⟨rfl, hO⟩ | ⟨hq, hO⟩
  · have HO2 := Lib.hid hO
    clear hO hop
    go_wp2_with fail
    refine (HI.out _ _ (HT3.out)).mono ?_
    rintro e w4 ⟨rfl, hb4⟩
    have HB4 := Lib.hid (HB3.out.trans (hb4.mono HB3.out.size))
    clear hb4
    go_wp2_with fail
    go_ret
    exact ⟨by rw [HO2.out]; try rfl, HB4.out⟩
  · have HO2 := Lib.hid hO
    have e12 : (op == 12) = false := by simpa using hq
    clear hO hop hq
    go_wp2_with fail
    refine (HT.out _ _ (HT3.out)).mono ?_
    rintro e w4 ⟨rfl, hb4⟩
    have HB4 := Lib.hid (HB3.out.trans (hb4.mono HB3.out.size))
    clear hb4
    go_wp2_with fail
    go_ret
    exact ⟨by rw [HO2.out]; try rfl, HB4.out⟩
theorem join_pipe : ∀ (x : List UInt8) (r : List (List UInt8)), Lib.join (x :: r) [124] = joinP (x :: r)
  | x, [] => Lib.join_one x [124]
  | x, y :: r => by
    rw [Lib.join_cons, joinP_cons x (by simp), ← join_pipe y r, Lib.join_cons]
    simp [Lib.joinTail]
end Go.Proofs.Ytaaoamkagppodaa
/- The program's text of a tree, by what it is but for lone nodes: A. -/
namespace Go.Proofs.Ytaaoamkagppodaa
open Go Go.RowKit

set_option maxHeartbeats 40000000 in
set_option maxRecDepth 100000 in
theorem text_most {t : Tr} (hk : (soleT t).fld.op = 1 ∨ (soleT t).fld.op = 2 ∨ (soleT t).fld.op = 3 ∨ (soleT t).fld.op = 4 ∨ (soleT t).fld.op = 5 ∨ (soleT t).fld.op = 11 ∨ (soleT t).fld.op = 12) (hs0 : ShapedP t) (hp : partsR t ≤ 10000000000) (hC : ∀ k, partsR k < partsR t → ShapedP k → TextC k) : TextC t := by
  intro v w h
  have q1 := sole_all t hs0
  have hlen := text_len (soleT t) q1.1
  have hkids : ∀ k ∈ (soleT t).kids, ShapedP k ∧ partsR k < partsR t ∧ TextC k ∧ TextC (soleT k) := fun k hk => by
    have h1 := ((shapedP_iff _).1 q1.1).2.2.2 k hk
    have h2 := partsR_kid hk
    have h3 := sole_all k h1
    exact ⟨h1, by omega, hC k (by omega) h1, hC _ (by omega) h3.1⟩
  have HKI := Lib.hid hk
  clear hk
  have hflds := ((shapedP_iff _).1 q1.1).1
  have hnum := ((shapedP_iff _).1 q1.1).2.1
  have hnl := sole_not t
  have hplen : (textT (soleT t)).length ≤ 100000000000000 := by omega
  have hpu : partsR (soleT t) ≤ 10000000000 := by omega
  rw [← q1.2.2]
  clear hlen hC hs0 q1
  have hF := h.foot
  obtain ⟨u, hu⟩ : ∃ u, soleT t = u := ⟨_, rfl⟩
  rw [hu] at hkids HKI hflds hnum hnl hplen hpu ⊢
  have HU := Lib.hid hu
  clear hu
  have HKD := Lib.hid hkids; have HFL := Lib.hid hflds; have HNUM := Lib.hid hnum; have HNL := Lib.hid hnl
  clear hkids hflds hnum hnl
  obtain ⟨O, hO⟩ : ∃ O, textT u = O := ⟨_, rfl⟩
  rw [hO] at hplen ⊢
  have HO := Lib.hid hO
  clear hO
  obtain ⟨A, n, c, a2, s, c2, hn, hs, rfl, hnb, hsb, hK, hS, hFl⟩ := h.opened
  obtain ⟨w1, hw1⟩ : ∃ w1, w.alloc (.cells #[.int .i64 t.fld.op, .slice A n c, .int .i32 t.fld.rune, .slice a2 s c2, .int .i64 t.fld.at', .int .i64 t.fld.cap, .string t.fld.name, .int .i64 t.fld.min, .int .i64 t.fld.max, .bool t.fld.lazy] 27) = w1 := ⟨_, rfl⟩
  have hb1 : Below w.heap.size w w1 := by rw [← hw1]; exact (Below.refl _ w).alloc (Nat.le_refl _) _
  have hE1 : Whole w1 w.heap.size 27 #[.int .i64 t.fld.op, .slice A n c, .int .i32 t.fld.rune, .slice a2 s c2, .int .i64 t.fld.at', .int .i64 t.fld.cap, .string t.fld.name, .int .i64 t.fld.min, .int .i64 t.fld.max, .bool t.fld.lazy] := by rw [← hw1]; exact heap_alloc_new w _
  have HA := Lib.hid (alone_any (fun b => b < w.heap.size) t _ w1 (fun b hb => Nat.lt_of_lt_of_le hb hb1.size) (hF.same (same_below hb1) (fun _ h _ => h)) hp)
  have HW1 := Lib.hid hw1; have HB1 := Lib.hid hb1; have HE1 := Lib.hid hE1
  obtain ⟨g0, g1, g2, g3, g4, g5, g6, g7, g8, g9⟩ := hE1.ten
  clear h hF hn hs hnb hsb hK hS hFl hw1 hb1 hE1
  go_enter Try.func9, Try.ntmps9
  go_upto_region 1 with (fail)
  rw [HW1.out]
  go_wp2_with fail
  refine HA.out.mono ?_
  rintro e w2 ⟨v2, rfl, ht2, hb2⟩
  rw [HU.out] at ht2
  obtain ⟨kv2, sv2, rfl, ⟨x1, x2, x3, rfl⟩, ⟨y1, y2, y3, rfl⟩⟩ := ht2.ten
  have hE2 : Whole w2 w.heap.size 27 #[.int .i64 t.fld.op, .slice A n c, .int .i32 t.fld.rune, .slice a2 s c2, .int .i64 t.fld.at', .int .i64 t.fld.cap, .string t.fld.name, .int .i64 t.fld.min, .int .i64 t.fld.max, .bool t.fld.lazy] := HE1.out.below hb2 HE1.out.lt
  obtain ⟨w3, hw3⟩ : ∃ w3, set10 w2 w.heap.size (.int .i64 u.fld.op) (.slice x1 x2 x3) (.int .i32 u.fld.rune) (.slice y1 y2 y3) (.int .i64 u.fld.at') (.int .i64 u.fld.cap) (.string u.fld.name) (.int .i64 u.fld.min) (.int .i64 u.fld.max) (.bool u.fld.lazy) = w3 := ⟨_, rfl⟩
  have hE3 : Whole w3 w.heap.size 27 #[.int .i64 u.fld.op, .slice x1 x2 x3, .int .i32 u.fld.rune, .slice y1 y2 y3, .int .i64 u.fld.at', .int .i64 u.fld.cap, .string u.fld.name, .int .i64 u.fld.min, .int .i64 u.fld.max, .bool u.fld.lazy] := by rw [← hw3]; exact set10_whole hE2 _ _ _ _ _ _ _ _ _ _
  have hsame : SameOn (fun k => k ≠ w.heap.size) w2 w3 := by rw [← hw3]; exact set10_same _ _ _ _ _ _ _ _ _ _ _ _
  have hT3 : Tre w3 u (.agg #[.int .i64 u.fld.op, .slice x1 x2 x3, .int .i32 u.fld.rune, .slice y1 y2 y3, .int .i64 u.fld.at', .int .i64 u.fld.cap, .string u.fld.name, .int .i64 u.fld.min, .int .i64 u.fld.max, .bool u.fld.lazy]) := ht2.same (fun b hb hl => hsame b (by have : b < w.heap.size := hb; omega) hl) (fun _ _ _ => trivial)
  have hB3 : Below w.heap.size w w3 := by rw [← hw3]; exact set10_below (HB1.out.trans (hb2.mono HB1.out.size)) (Nat.le_refl _) _ _ _ _ _ _ _ _ _ _
  clear g0 g1 g2 g3 g4 g5 g6 g7 g8 g9
  obtain ⟨g0, g1, g2, g3, g4, g5, g6, g7, g8, g9⟩ := hE2.ten
  obtain ⟨z0, z1, z2, z3, z4, z5, z6, z7, z8, z9⟩ := whole_free hE2
  unfold set10 at hw3
  have HW3 := Lib.hid hw3; have HE3 := Lib.hid hE3; have HT3 := Lib.hid hT3; have HB3 := Lib.hid hB3
  clear ht2 hb2 hE2 hw3 hE3 hsame hT3 hB3 HA HE1 HB1 HW1
  go_upto_region 2 with (fail)
  rw [HW3.out]
  clear g0 g1 g2 g3 g4 g5 g6 g7 g8 g9 z0 z1 z2 z3 z4 z5 z6 z7 z8 z9
  obtain ⟨r0, r1, r2, r3, r4, r5, r6, r7, r8, r9⟩ := HE3.out.ten
  have HX2 : Hid (u.kids.length = x2 ∧ Kds w3 u.kids (.slice x1 x2 x3) ∧ Rgs w3 (.slice y1 y2 y3) u.fld.set) := Lib.hid (by
    have h1 := HT3.out
    rw [tre_iff] at h1
    obtain ⟨kv', sv', e, hS, -, hK⟩ := h1
    obtain ⟨rfl, rfl⟩ := treC_inj (f := u.fld) (k1 := .slice x1 x2 x3) (s1 := .slice y1 y2 y3) e
    refine ⟨?_, hK, hS⟩
    obtain ⟨A', c', e2, -⟩ := hK
    injection e2 with _ q _
    exact q.symm)
  obtain ⟨op, hop⟩ : ∃ op, u.fld.op = op := ⟨_, rfl⟩
  have hkinds := HKI.out
  rw [hop] at hkinds r0
  have HOP := Lib.hid hop
  clear hop HKI
  have LF : Hid ((op = 1 ∨ op = 2 ∨ op = 3 ∨ op = 4 ∨ op = 5) → O = if op = 1 then noneP else if op = 2 then emptyP else if op = 3 then oneP u.fld.rune else if op = 4 then setP u.fld.set else placeP u.fld.at') := Lib.hid (fun h => by rw [← HO.out, ← HOP.out]; exact text_leaf (by rw [HOP.out]; exact h))
  rcases hkinds with rfl | rfl | rfl | rfl | rfl | rfl | rfl
  · as_aux_lemma =>
      have HL := Lib.hid (LF.out (by omega))
      clear LF
      go_wp2_with fail
      go_ret
      exact ⟨by rw [HL.out]; rfl, HB3.out⟩
  · as_aux_lemma =>
      have HL := Lib.hid (LF.out (by omega))
      clear LF
      go_wp2_with fail
      go_ret
      exact ⟨by rw [HL.out]; rfl, HB3.out⟩
  · as_aux_lemma =>
      have HL := Lib.hid (LF.out (by omega))
      clear LF
      go_wp2_with fail
      refine (ofRune_any _ _ ((HFL.out.2.2.2.2.2.2.2.2.1 HOP.out)).1 ((HFL.out.2.2.2.2.2.2.2.2.1 HOP.out)).2).mono ?_
      rintro e w4 ⟨rfl, hb4⟩
      have HB4 := Lib.hid (HB3.out.trans (hb4.mono HB3.out.size))
      clear hb4
      go_wp2_with fail
      go_ret
      exact ⟨by rw [HL.out]; rfl, HB4.out⟩
  · as_aux_lemma =>
      have HL := Lib.hid (LF.out (by omega))
      clear LF
      go_wp2_with fail
      refine (ofSet_any _ _ _ HX2.out.2.2 (HFL.out.2.2.2.2.2.2.2.2.2.1 HOP.out).1).mono ?_
      rintro e w4 ⟨rfl, hb4⟩
      have HB4 := Lib.hid (HB3.out.trans (hb4.mono HB3.out.size))
      clear hb4
      go_wp2_with fail
      go_ret
      exact ⟨by rw [HL.out]; rfl, HB4.out⟩
  · as_aux_lemma =>
      have HL := Lib.hid (LF.out (by omega))
      clear LF
      go_wp2_with fail
      refine (ofAt_any _ _).mono ?_
      rintro e w4 ⟨rfl, rfl⟩
      go_wp2_with fail
      go_ret
      exact ⟨by rw [HL.out]; rfl, HB3.out⟩
  · as_aux_lemma =>
      by_cases hz : 0 < x2
      · have hz0 : u.kids ≠ [] := fun e => by have h1 := HX2.out.1; rw [e] at h1; simp at h1; omega
        have h2 : 2 ≤ u.kids.length := by
          have h3 := List.length_pos_iff.2 hz0
          have h4 : u.kids.length ≠ 1 := fun e => HNL.out ⟨.inl HOP.out, e⟩
          omega
        have HO2 : Hid (O = (u.kids.map chainT).flatten) := Lib.hid (by rw [← HO.out]; exact text_cat HOP.out h2)
        have HE := Lib.hid (each_any u.kids _ chainT 23 w3 (enters_of Try.func23 (by kernel_rfl) rfl) (fun k hk v W hv => by
          have h5 := HKD.out k hk
          exact chained_of h5.1 (by omega) h5.2.2.2 v W hv) HX2.out.2.1 hz0)
        have hzz : (0 : Int) < (x2 : Int) := by omega
        obtain ⟨L, hL⟩ : ∃ L, u.kids.map chainT = L := ⟨_, rfl⟩
        rw [hL] at HE HO2
        have HLL := Lib.hid (show L.length = u.kids.length by rw [← hL, List.length_map])
        have HK40 := Lib.hid (show u.kids.length ≤ 1172812402961 by obtain ⟨_, _, _, _, _, h, _⟩ := HX2.out.2.1; exact h)
        have HFB : Hid (flatB (L.map textB) = O) := Lib.hid (by
          rw [HO2.out]
          unfold flatB
          rw [List.map_map]
          congr 1
          conv => rhs; rw [← List.map_id L]
          exact List.map_congr_left fun x _ => textB_list x)
        clear LF hz hz0 h2 hL
        go_wp2_with fail
        refine HE.out.mono ?_
        rintro e w4 ⟨b, rfl, ht, hb, hb4⟩
        have HB4 := Lib.hid (HB3.out.trans (hb4.mono HB3.out.size))
        have HJ := Lib.hid (joined_any b 0 (L.map textB).length (L.map textB) w4 ht hb (by rw [List.length_map, HLL.out]; exact HK40.out) (Nat.le_refl _) (by rw [HFB.out]; omega))
        rw [HFB.out, List.length_map] at HJ
        clear ht hb hb4
        go_wp2_with fail
        refine HJ.out.mono ?_
        rintro e w5 ⟨rfl, hb5⟩
        have HB5 := Lib.hid (HB4.out.trans (hb5.mono HB4.out.size))
        clear hb5
        go_wp2_with fail
        go_ret
        exact ⟨rfl, HB5.out⟩
      · have hz0 : x2 = 0 := by omega
        subst hz0
        have HO2 : Hid (O = emptyP) := Lib.hid (by rw [← HO.out]; exact text_cat0 HOP.out (List.eq_nil_of_length_eq_zero HX2.out.1))
        clear LF hz
        go_wp2_with fail
        go_ret
        exact ⟨by rw [HO2.out]; rfl, HB3.out⟩
  · as_aux_lemma =>
      have hz : 1 ≤ x2 := by rw [← HX2.out.1]; exact HNUM.out.2.1 HOP.out
      have hz0 : u.kids ≠ [] := fun e => by have h1 := HX2.out.1; rw [e] at h1; simp at h1; omega
      have HO2 : Hid (O = joinP (u.kids.map textT)) := Lib.hid (by rw [← HO.out]; exact text_alt HOP.out)
      have HE := Lib.hid (each_any u.kids _ textT 9 w3 (enters_of Try.func9 (by kernel_rfl) rfl) (fun k hk v W hv => (HKD.out k hk).2.2.1 v W hv) HX2.out.2.1 hz0)
      obtain ⟨L, hL⟩ : ∃ L, u.kids.map textT = L := ⟨_, rfl⟩
      rw [hL] at HE HO2
      have HLL := Lib.hid (show L.length = u.kids.length by rw [← hL, List.length_map])
      have HK40 := Lib.hid (show u.kids.length ≤ 1172812402961 by obtain ⟨_, _, _, _, _, h, _⟩ := HX2.out.2.1; exact h)
      have HFB : Hid (Lib.join ((L.map textB).map (·.toList)) (⟨#[124]⟩ : ByteArray).toList = O) := Lib.hid (by
        rw [HO2.out, show (⟨#[124]⟩ : ByteArray).toList = [124] by kernel_rfl, List.map_map]
        have : L.map ((·.toList) ∘ textB) = L := by
          conv => rhs; rw [← List.map_id L]
          exact List.map_congr_left fun x _ => textB_list x
        rw [this]
        cases L with
        | nil => have h1 := HLL.out; rw [HX2.out.1] at h1; simp at h1; omega
        | cons x r => exact join_pipe x r)
      clear LF hz hz0 hL
      go_wp2_with fail
      refine HE.out.mono ?_
      rintro e w4 ⟨b, rfl, ht, hb, hb4⟩
      have HB4 := Lib.hid (HB3.out.trans (hb4.mono HB3.out.size))
      have HJ := Lib.hid (pjoin_any b 0 (L.map textB).length (L.map textB) ⟨#[124]⟩ w4 ht hb (by rw [List.length_map, HLL.out]; exact HK40.out) (Nat.le_refl _) (by rw [HFB.out]; omega))
      rw [HFB.out, List.length_map] at HJ
      clear ht hb hb4
      go_wp2_with fail
      refine HJ.out.mono ?_
      rintro e w5 ⟨rfl, hb5⟩
      have HB5 := Lib.hid (HB4.out.trans (hb5.mono HB4.out.size))
      clear hb5
      go_wp2_with fail
      go_ret
      exact ⟨rfl, HB5.out⟩
end Go.Proofs.Ytaaoamkagppodaa
/- The program's text of a tree, by what it is but for lone nodes: B. -/
namespace Go.Proofs.Ytaaoamkagppodaa
open Go Go.RowKit

set_option maxHeartbeats 40000000 in
set_option maxRecDepth 100000 in
theorem text_six {t : Tr} (hk : (soleT t).fld.op = 6) (hs0 : ShapedP t) (hp : partsR t ≤ 10000000000) (hC : ∀ k, partsR k < partsR t → ShapedP k → TextC k) : TextC t := by
  intro v w h
  have q1 := sole_all t hs0
  have hlen := text_len (soleT t) q1.1
  have hkids : ∀ k ∈ (soleT t).kids, ShapedP k ∧ partsR k < partsR t ∧ TextC k ∧ TextC (soleT k) := fun k hk => by
    have h1 := ((shapedP_iff _).1 q1.1).2.2.2 k hk
    have h2 := partsR_kid hk
    have h3 := sole_all k h1
    exact ⟨h1, by omega, hC k (by omega) h1, hC _ (by omega) h3.1⟩
  have HKI := Lib.hid hk
  clear hk
  have hflds := ((shapedP_iff _).1 q1.1).1
  have hnum := ((shapedP_iff _).1 q1.1).2.1
  have hnl := sole_not t
  have hplen : (textT (soleT t)).length ≤ 100000000000000 := by omega
  have hpu : partsR (soleT t) ≤ 10000000000 := by omega
  rw [← q1.2.2]
  clear hlen hC hs0 q1
  have hF := h.foot
  obtain ⟨u, hu⟩ : ∃ u, soleT t = u := ⟨_, rfl⟩
  rw [hu] at hkids HKI hflds hnum hnl hplen hpu ⊢
  have HU := Lib.hid hu
  clear hu
  have HKD := Lib.hid hkids; have HFL := Lib.hid hflds; have HNUM := Lib.hid hnum; have HNL := Lib.hid hnl
  clear hkids hflds hnum hnl
  obtain ⟨O, hO⟩ : ∃ O, textT u = O := ⟨_, rfl⟩
  rw [hO] at hplen ⊢
  have HO := Lib.hid hO
  clear hO
  obtain ⟨A, n, c, a2, s, c2, hn, hs, rfl, hnb, hsb, hK, hS, hFl⟩ := h.opened
  obtain ⟨w1, hw1⟩ : ∃ w1, w.alloc (.cells #[.int .i64 t.fld.op, .slice A n c, .int .i32 t.fld.rune, .slice a2 s c2, .int .i64 t.fld.at', .int .i64 t.fld.cap, .string t.fld.name, .int .i64 t.fld.min, .int .i64 t.fld.max, .bool t.fld.lazy] 27) = w1 := ⟨_, rfl⟩
  have hb1 : Below w.heap.size w w1 := by rw [← hw1]; exact (Below.refl _ w).alloc (Nat.le_refl _) _
  have hE1 : Whole w1 w.heap.size 27 #[.int .i64 t.fld.op, .slice A n c, .int .i32 t.fld.rune, .slice a2 s c2, .int .i64 t.fld.at', .int .i64 t.fld.cap, .string t.fld.name, .int .i64 t.fld.min, .int .i64 t.fld.max, .bool t.fld.lazy] := by rw [← hw1]; exact heap_alloc_new w _
  have HA := Lib.hid (alone_any (fun b => b < w.heap.size) t _ w1 (fun b hb => Nat.lt_of_lt_of_le hb hb1.size) (hF.same (same_below hb1) (fun _ h _ => h)) hp)
  have HW1 := Lib.hid hw1; have HB1 := Lib.hid hb1; have HE1 := Lib.hid hE1
  obtain ⟨g0, g1, g2, g3, g4, g5, g6, g7, g8, g9⟩ := hE1.ten
  clear h hF hn hs hnb hsb hK hS hFl hw1 hb1 hE1
  go_enter Try.func9, Try.ntmps9
  go_upto_region 1 with (fail)
  rw [HW1.out]
  go_wp2_with fail
  refine HA.out.mono ?_
  rintro e w2 ⟨v2, rfl, ht2, hb2⟩
  rw [HU.out] at ht2
  obtain ⟨kv2, sv2, rfl, ⟨x1, x2, x3, rfl⟩, ⟨y1, y2, y3, rfl⟩⟩ := ht2.ten
  have hE2 : Whole w2 w.heap.size 27 #[.int .i64 t.fld.op, .slice A n c, .int .i32 t.fld.rune, .slice a2 s c2, .int .i64 t.fld.at', .int .i64 t.fld.cap, .string t.fld.name, .int .i64 t.fld.min, .int .i64 t.fld.max, .bool t.fld.lazy] := HE1.out.below hb2 HE1.out.lt
  obtain ⟨w3, hw3⟩ : ∃ w3, set10 w2 w.heap.size (.int .i64 u.fld.op) (.slice x1 x2 x3) (.int .i32 u.fld.rune) (.slice y1 y2 y3) (.int .i64 u.fld.at') (.int .i64 u.fld.cap) (.string u.fld.name) (.int .i64 u.fld.min) (.int .i64 u.fld.max) (.bool u.fld.lazy) = w3 := ⟨_, rfl⟩
  have hE3 : Whole w3 w.heap.size 27 #[.int .i64 u.fld.op, .slice x1 x2 x3, .int .i32 u.fld.rune, .slice y1 y2 y3, .int .i64 u.fld.at', .int .i64 u.fld.cap, .string u.fld.name, .int .i64 u.fld.min, .int .i64 u.fld.max, .bool u.fld.lazy] := by rw [← hw3]; exact set10_whole hE2 _ _ _ _ _ _ _ _ _ _
  have hsame : SameOn (fun k => k ≠ w.heap.size) w2 w3 := by rw [← hw3]; exact set10_same _ _ _ _ _ _ _ _ _ _ _ _
  have hT3 : Tre w3 u (.agg #[.int .i64 u.fld.op, .slice x1 x2 x3, .int .i32 u.fld.rune, .slice y1 y2 y3, .int .i64 u.fld.at', .int .i64 u.fld.cap, .string u.fld.name, .int .i64 u.fld.min, .int .i64 u.fld.max, .bool u.fld.lazy]) := ht2.same (fun b hb hl => hsame b (by have : b < w.heap.size := hb; omega) hl) (fun _ _ _ => trivial)
  have hB3 : Below w.heap.size w w3 := by rw [← hw3]; exact set10_below (HB1.out.trans (hb2.mono HB1.out.size)) (Nat.le_refl _) _ _ _ _ _ _ _ _ _ _
  clear g0 g1 g2 g3 g4 g5 g6 g7 g8 g9
  obtain ⟨g0, g1, g2, g3, g4, g5, g6, g7, g8, g9⟩ := hE2.ten
  obtain ⟨z0, z1, z2, z3, z4, z5, z6, z7, z8, z9⟩ := whole_free hE2
  unfold set10 at hw3
  have HW3 := Lib.hid hw3; have HE3 := Lib.hid hE3; have HT3 := Lib.hid hT3; have HB3 := Lib.hid hB3
  clear ht2 hb2 hE2 hw3 hE3 hsame hT3 hB3 HA HE1 HB1 HW1
  go_upto_region 2 with (fail)
  rw [HW3.out]
  clear g0 g1 g2 g3 g4 g5 g6 g7 g8 g9 z0 z1 z2 z3 z4 z5 z6 z7 z8 z9
  obtain ⟨r0, r1, r2, r3, r4, r5, r6, r7, r8, r9⟩ := HE3.out.ten
  have HX2 : Hid (u.kids.length = x2 ∧ Kds w3 u.kids (.slice x1 x2 x3) ∧ Rgs w3 (.slice y1 y2 y3) u.fld.set) := Lib.hid (by
    have h1 := HT3.out
    rw [tre_iff] at h1
    obtain ⟨kv', sv', e, hS, -, hK⟩ := h1
    obtain ⟨rfl, rfl⟩ := treC_inj (f := u.fld) (k1 := .slice x1 x2 x3) (s1 := .slice y1 y2 y3) e
    refine ⟨?_, hK, hS⟩
    obtain ⟨A', c', e2, -⟩ := hK
    injection e2 with _ q _
    exact q.symm)
  obtain ⟨op, hop⟩ : ∃ op, u.fld.op = op := ⟨_, rfl⟩
  have hkinds := HKI.out
  rw [hop] at hkinds r0
  have HOP := Lib.hid hop
  clear hop HKI
  have LF : Hid ((op = 1 ∨ op = 2 ∨ op = 3 ∨ op = 4 ∨ op = 5) → O = if op = 1 then noneP else if op = 2 then emptyP else if op = 3 then oneP u.fld.rune else if op = 4 then setP u.fld.set else placeP u.fld.at') := Lib.hid (fun h => by rw [← HO.out, ← HOP.out]; exact text_leaf (by rw [HOP.out]; exact h))
  subst hkinds
  have h1k : x2 = 1 := by rw [← HX2.out.1]; exact HNUM.out.1 (by have := HOP.out; omega)
  subst h1k
  obtain ⟨kb, ko, tk, kv', sv', hA, htk, hm, ⟨d0, d1, d2, d3, d4, d5, d6, d7, d8, d9⟩, hTk⟩ := HX2.out.2.1.kid 0 (by rw [HX2.out.1]; exact Nat.zero_lt_one)
  subst hA
  obtain ⟨kx, sx, hv2, ⟨m1, m2, m3, rfl⟩, ⟨p1, p2, p3, rfl⟩⟩ := hTk.ten
  obtain ⟨rfl, rfl⟩ := treC_inj (f := tk.fld) (k1 := kv') (s1 := sv') hv2
  rw [Nat.zero_mul, Nat.add_zero] at d0 d1 d2 d3 d4 d5 d6 d7 d8 d9
  have hkk : u.kids = [tk] := by
    obtain ⟨k, hk⟩ := List.length_eq_one_iff.1 HX2.out.1
    have : tk = k := by rw [← htk]; simp [hk]
    rw [hk, this]
  have HKK := Lib.hid hkk; have HTK := Lib.hid hTk; have HKT := Lib.hid (HKD.out tk hm)
  clear hkk hTk htk hm hv2 LF
  have HNM : Hid (u.fld.name.size ≤ 1000000) := Lib.hid (by
    have h1 := HFL.out.2.2.2.2.2.2.2.2.2.2.2.1 HOP.out
    have h2 : u.fld.name.toList.length = u.fld.name.size := by rw [Lib.toList_data, ← Lib.size_eq]
    rcases h1 with h1 | h1
    · rw [h1] at h2; simp at h2; omega
    · unfold nameB at h1
      simp only [Bool.and_eq_true, decide_eq_true_eq] at h1
      omega)
  have HO2 : Hid (O = beginP u.fld.name.toList ++ (textT tk ++ [41])) := Lib.hid (by rw [← HO.out]; exact text_cap HOP.out HKK.out)
  obtain ⟨X, hX⟩ : ∃ X, textT tk = X := ⟨_, rfl⟩
  obtain ⟨Y, hY⟩ : ∃ Y, beginP u.fld.name.toList = Y := ⟨_, rfl⟩
  have HBG := Lib.hid fun W => begin_any u.fld.name W HNM.out
  have HTX := Lib.hid fun W (hW : Below w3.heap.size w3 W) => HKT.out.2.2.1 _ W (HTK.out.below hW)
  rw [hX] at HTX HO2
  rw [hY] at HBG HO2
  have HJ := Lib.hid fun W => joined_new [textB Y, textB X, ⟨#[41]⟩] W 3 _ rfl rfl 9 (by decide) (by
    have := congrArg List.length HO2.out
    simp only [List.length_append, List.length_singleton] at this
    simp [flatB, textB_list]; omega)
  have HFB : Hid (flatB [textB Y, textB X, ⟨#[41]⟩] = Y ++ (X ++ [41])) := Lib.hid (by simp [flatB, textB_list])
  rw [HFB.out] at HJ
  rw [← HO2.out] at HJ
  have HB0 := Lib.hid (below_draws w3 1)
  have KP : Hid (∀ W, Below w3.heap.size w3 W → W.cell? ⟨w.heap.size, 1, none⟩ = some (.slice (some ⟨kb, ko, none⟩) 1 x3) ∧ W.cell? ⟨w.heap.size, 6, none⟩ = some (.string u.fld.name) ∧ W.cell? ⟨kb, ko, none⟩ = some (.int .i64 tk.fld.op) ∧ W.cell? ⟨kb, ko + 1, none⟩ = some (.slice m1 m2 m3) ∧ W.cell? ⟨kb, ko + 2, none⟩ = some (.int .i32 tk.fld.rune) ∧ W.cell? ⟨kb, ko + 3, none⟩ = some (.slice p1 p2 p3) ∧ W.cell? ⟨kb, ko + 4, none⟩ = some (.int .i64 tk.fld.at') ∧ W.cell? ⟨kb, ko + 5, none⟩ = some (.int .i64 tk.fld.cap) ∧ W.cell? ⟨kb, ko + 6, none⟩ = some (.string tk.fld.name) ∧ W.cell? ⟨kb, ko + 7, none⟩ = some (.int .i64 tk.fld.min) ∧ W.cell? ⟨kb, ko + 8, none⟩ = some (.int .i64 tk.fld.max) ∧ W.cell? ⟨kb, ko + 9, none⟩ = some (.bool tk.fld.lazy)) := Lib.hid fun W hb => ⟨(hb.cell (World.block_lt_of_cell? w3 _ r1)).trans r1, (hb.cell (World.block_lt_of_cell? w3 _ r6)).trans r6, (hb.cell (World.block_lt_of_cell? w3 _ d0)).trans d0, (hb.cell (World.block_lt_of_cell? w3 _ d1)).trans d1, (hb.cell (World.block_lt_of_cell? w3 _ d2)).trans d2, (hb.cell (World.block_lt_of_cell? w3 _ d3)).trans d3, (hb.cell (World.block_lt_of_cell? w3 _ d4)).trans d4, (hb.cell (World.block_lt_of_cell? w3 _ d5)).trans d5, (hb.cell (World.block_lt_of_cell? w3 _ d6)).trans d6, (hb.cell (World.block_lt_of_cell? w3 _ d7)).trans d7, (hb.cell (World.block_lt_of_cell? w3 _ d8)).trans d8, (hb.cell (World.block_lt_of_cell? w3 _ d9)).trans d9⟩
  clear hX hY HKT HNM
  go_upto_region 12 with (fail)
  refine wp_region_held_drew (S := (fun w' => w'.cell? ⟨w.heap.size, 1, none⟩ = some (.slice (some ⟨kb, ko, none⟩) 1 x3) ∧ w'.cell? ⟨w.heap.size, 6, none⟩ = some (.string u.fld.name) ∧ w'.cell? ⟨kb, ko, none⟩ = some (.int .i64 tk.fld.op) ∧ w'.cell? ⟨kb, ko + 1, none⟩ = some (.slice m1 m2 m3) ∧ w'.cell? ⟨kb, ko + 2, none⟩ = some (.int .i32 tk.fld.rune) ∧ w'.cell? ⟨kb, ko + 3, none⟩ = some (.slice p1 p2 p3) ∧ w'.cell? ⟨kb, ko + 4, none⟩ = some (.int .i64 tk.fld.at') ∧ w'.cell? ⟨kb, ko + 5, none⟩ = some (.int .i64 tk.fld.cap) ∧ w'.cell? ⟨kb, ko + 6, none⟩ = some (.string tk.fld.name) ∧ w'.cell? ⟨kb, ko + 7, none⟩ = some (.int .i64 tk.fld.min) ∧ w'.cell? ⟨kb, ko + 8, none⟩ = some (.int .i64 tk.fld.max) ∧ w'.cell? ⟨kb, ko + 9, none⟩ = some (.bool tk.fld.lazy))) (by kernel_rfl) (KP.out _ HB0.out) (fun hHeld => ?_)
  refine wpAnyH_take (i := 0) (oi := _) (v := ?_) rfl (by kernel_rfl) (by kernel_rfl) (by kernel_rfl) (fun _ _ _ h => h) (Or.inl ⟨by rfl, ?_⟩) (by assumption) ?_
  rotate_left 1
  · (intro w hSw; (try dsimp only at hSw); go_simp; (try with_reducible rfl))
  try simp only [List.getElem_toArray, List.getElem_cons_zero, Act.put, List.setIfInBounds_toArray, List.set_cons_zero, List.set_cons_succ]
  refine wpAnyH_take (i := 1) (oi := _) (v := ?_) rfl (by kernel_rfl) (by kernel_rfl) (by kernel_rfl) (fun _ _ _ h => h) (Or.inl ⟨by rfl, ?_⟩) (by assumption) ?_
  rotate_left 1
  · (intro w hSw; (try dsimp only at hSw); go_simp; (try with_reducible rfl))
  try simp only [List.getElem_toArray, List.getElem_cons_zero, List.getElem_cons_succ, Act.put, List.setIfInBounds_toArray, List.set_cons_zero, List.set_cons_succ]
  refine wpAnyH_take (i := 3) (oi := _) (v := ?_) rfl (by kernel_rfl) (by kernel_rfl) (by kernel_rfl) (fun _ _ _ h => h) (Or.inl ⟨by rfl, ?_⟩) (by assumption) ?_
  rotate_left 1
  · (intro w hSw; (try dsimp only at hSw); go_simp; (try with_reducible rfl))
  try simp only [List.getElem_toArray, List.getElem_cons_zero, List.getElem_cons_succ, Act.put, List.setIfInBounds_toArray, List.set_cons_zero, List.set_cons_succ]
  refine wpAnyH_take (i := 4) (oi := _) (v := ?_) rfl (by kernel_rfl) (by kernel_rfl) (by kernel_rfl) (fun _ _ _ h => h) (Or.inl ⟨by rfl, ?_⟩) (by assumption) ?_
  rotate_left 1
  · (intro w hSw; (try dsimp only at hSw); go_simp; (try with_reducible rfl))
  try simp only [List.getElem_toArray, List.getElem_cons_zero, List.getElem_cons_succ, Act.put, List.setIfInBounds_toArray, List.set_cons_zero, List.set_cons_succ]
  refine wpAnyH_take (i := 5) (oi := _) (v := ?_) rfl (by kernel_rfl) (by kernel_rfl) (by kernel_rfl) (fun _ _ _ h => h) (Or.inl ⟨by rfl, ?_⟩) (by assumption) ?_
  rotate_left 1
  · (intro w hSw; (try dsimp only at hSw); go_simp; (try with_reducible rfl))
  try simp only [List.getElem_toArray, List.getElem_cons_zero, List.getElem_cons_succ, Act.put, List.setIfInBounds_toArray, List.set_cons_zero, List.set_cons_succ]
  refine wpAnyH_take (i := 6) (oi := _) (v := ?_) rfl (by kernel_rfl) (by kernel_rfl) (by kernel_rfl) (fun _ _ _ h => h) (Or.inl ⟨by rfl, ?_⟩) (by assumption) ?_
  rotate_left 1
  · (intro w hSw; (try dsimp only at hSw); go_simp; (try with_reducible rfl))
  try simp only [List.getElem_toArray, List.getElem_cons_zero, List.getElem_cons_succ, Act.put, List.setIfInBounds_toArray, List.set_cons_zero, List.set_cons_succ]
  refine wpAnyH_ready (rs := [2]) (by kernel_rfl) (by simp) ?_
  refine AllReadyH.cons (o := _) rfl (fun K hK => ?_) ?_
  · go_simp
    refine (HBG.out _).mono ?_
    rintro e u4 ⟨rfl, hb⟩
    have HB4 := Lib.hid (HB0.out.trans (hb.mono HB0.out.size))
    clear hb
    go_wp2_with fail
    refine hK.out _ _ (KP.out _ HB4.out) (fun hHeld => ?_)
    clear hK K
    try simp only [List.getElem_toArray, List.getElem_cons_zero, List.getElem_cons_succ, Act.put, List.setIfInBounds_toArray, List.set_cons_zero, List.set_cons_succ]
    refine wpAnyH_ready (rs := [7]) (by kernel_rfl) (by simp) ?_
    refine AllReadyH.cons (o := _) rfl (fun K hK => ?_) ?_
    · go_simp
      refine (HTX.out _ HB4.out).mono ?_
      rintro e u5 ⟨rfl, hb⟩
      have HB5 := Lib.hid (HB4.out.trans (hb.mono HB4.out.size))
      clear hb
      go_wp2_with fail
      refine hK.out _ _ (KP.out _ HB5.out) (fun hHeld => ?_)
      clear hK K
      try simp only [List.getElem_toArray, List.getElem_cons_zero, List.getElem_cons_succ, Act.put, List.setIfInBounds_toArray, List.set_cons_zero, List.set_cons_succ]
      refine wpAnyH_ready (rs := [8]) (by kernel_rfl) (by simp) ?_
      refine AllReadyH.cons (o := _) rfl (fun K hK => ?_) ?_
      · go_simp
        refine hK.out _ _ (KP.out _ (HB5.out.alloc HB5.out.size _)) (fun hHeld => ?_)
        clear hK K
        try simp only [List.getElem_toArray, List.getElem_cons_zero, List.getElem_cons_succ, Act.put, List.setIfInBounds_toArray, List.set_cons_zero, List.set_cons_succ]
        refine wpAnyH_ready (rs := [9]) (by kernel_rfl) (by simp) ?_
        refine AllReadyH.cons (o := _) rfl (fun K hK => ?_) ?_
        · go_simp
          refine (HJ.out _).mono ?_
          rintro e u7 ⟨rfl, hb⟩
          have HB6 := Lib.hid (HB5.out.trans (hb.mono HB5.out.size)); have HB7 := Lib.hid (HB3.out.trans (HB6.out.mono HB3.out.size))
          clear hb
          go_wp2_with fail
          refine hK.out _ _ (KP.out _ HB6.out) (fun hHeld => ?_)
          clear hK K
          try simp only [List.getElem_toArray, List.getElem_cons_zero, List.getElem_cons_succ, Act.put, List.setIfInBounds_toArray, List.set_cons_zero, List.set_cons_succ]
          refine wpAnyH_take (i := 10) (oi := _) (v := ?_) rfl (by kernel_rfl) (by kernel_rfl) (by kernel_rfl) (fun _ _ _ h => h) (Or.inl ⟨by rfl, ?_⟩) (by assumption) ?_
          rotate_left 1
          · (intro w hSw; (try dsimp only at hSw); go_simp; (try with_reducible rfl))
          try simp only [List.getElem_toArray, List.getElem_cons_zero, List.getElem_cons_succ, Act.put, List.setIfInBounds_toArray, List.set_cons_zero, List.set_cons_succ]
          refine wpAnyH_done (by kernel_rfl) ?_ _
          go_wp2_with fail
          go_ret
          exact ⟨by rw [HO2.out]; try rfl, HB7.out⟩
        exact AllReadyH.nil
      exact AllReadyH.nil
    exact AllReadyH.nil
  exact AllReadyH.nil
end Go.Proofs.Ytaaoamkagppodaa
/- The program's text of a tree, by what it is but for lone nodes: C. -/
namespace Go.Proofs.Ytaaoamkagppodaa
open Go Go.RowKit

set_option maxHeartbeats 40000000 in
set_option maxRecDepth 100000 in
theorem text_rept {t : Tr} (hk : (soleT t).fld.op = 7 ∨ (soleT t).fld.op = 8 ∨ (soleT t).fld.op = 9 ∨ (soleT t).fld.op = 10) (hs0 : ShapedP t) (hp : partsR t ≤ 10000000000) (hC : ∀ k, partsR k < partsR t → ShapedP k → TextC k) : TextC t := by
  intro v w h
  have q1 := sole_all t hs0
  have hlen := text_len (soleT t) q1.1
  have hkids : ∀ k ∈ (soleT t).kids, ShapedP k ∧ partsR k < partsR t ∧ TextC k ∧ TextC (soleT k) := fun k hk => by
    have h1 := ((shapedP_iff _).1 q1.1).2.2.2 k hk
    have h2 := partsR_kid hk
    have h3 := sole_all k h1
    exact ⟨h1, by omega, hC k (by omega) h1, hC _ (by omega) h3.1⟩
  have HKI := Lib.hid hk
  clear hk
  have hflds := ((shapedP_iff _).1 q1.1).1
  have hnum := ((shapedP_iff _).1 q1.1).2.1
  have hnl := sole_not t
  have hplen : (textT (soleT t)).length ≤ 100000000000000 := by omega
  have hpu : partsR (soleT t) ≤ 10000000000 := by omega
  rw [← q1.2.2]
  clear hlen hC hs0 q1
  have hF := h.foot
  obtain ⟨u, hu⟩ : ∃ u, soleT t = u := ⟨_, rfl⟩
  rw [hu] at hkids HKI hflds hnum hnl hplen hpu ⊢
  have HU := Lib.hid hu
  clear hu
  have HKD := Lib.hid hkids; have HFL := Lib.hid hflds; have HNUM := Lib.hid hnum; have HNL := Lib.hid hnl
  clear hkids hflds hnum hnl
  obtain ⟨O, hO⟩ : ∃ O, textT u = O := ⟨_, rfl⟩
  rw [hO] at hplen ⊢
  have HO := Lib.hid hO
  clear hO
  obtain ⟨A, n, c, a2, s, c2, hn, hs, rfl, hnb, hsb, hK, hS, hFl⟩ := h.opened
  obtain ⟨w1, hw1⟩ : ∃ w1, w.alloc (.cells #[.int .i64 t.fld.op, .slice A n c, .int .i32 t.fld.rune, .slice a2 s c2, .int .i64 t.fld.at', .int .i64 t.fld.cap, .string t.fld.name, .int .i64 t.fld.min, .int .i64 t.fld.max, .bool t.fld.lazy] 27) = w1 := ⟨_, rfl⟩
  have hb1 : Below w.heap.size w w1 := by rw [← hw1]; exact (Below.refl _ w).alloc (Nat.le_refl _) _
  have hE1 : Whole w1 w.heap.size 27 #[.int .i64 t.fld.op, .slice A n c, .int .i32 t.fld.rune, .slice a2 s c2, .int .i64 t.fld.at', .int .i64 t.fld.cap, .string t.fld.name, .int .i64 t.fld.min, .int .i64 t.fld.max, .bool t.fld.lazy] := by rw [← hw1]; exact heap_alloc_new w _
  have HA := Lib.hid (alone_any (fun b => b < w.heap.size) t _ w1 (fun b hb => Nat.lt_of_lt_of_le hb hb1.size) (hF.same (same_below hb1) (fun _ h _ => h)) hp)
  have HW1 := Lib.hid hw1; have HB1 := Lib.hid hb1; have HE1 := Lib.hid hE1
  obtain ⟨g0, g1, g2, g3, g4, g5, g6, g7, g8, g9⟩ := hE1.ten
  clear h hF hn hs hnb hsb hK hS hFl hw1 hb1 hE1
  go_enter Try.func9, Try.ntmps9
  go_upto_region 1 with (fail)
  rw [HW1.out]
  go_wp2_with fail
  refine HA.out.mono ?_
  rintro e w2 ⟨v2, rfl, ht2, hb2⟩
  rw [HU.out] at ht2
  obtain ⟨kv2, sv2, rfl, ⟨x1, x2, x3, rfl⟩, ⟨y1, y2, y3, rfl⟩⟩ := ht2.ten
  have hE2 : Whole w2 w.heap.size 27 #[.int .i64 t.fld.op, .slice A n c, .int .i32 t.fld.rune, .slice a2 s c2, .int .i64 t.fld.at', .int .i64 t.fld.cap, .string t.fld.name, .int .i64 t.fld.min, .int .i64 t.fld.max, .bool t.fld.lazy] := HE1.out.below hb2 HE1.out.lt
  obtain ⟨w3, hw3⟩ : ∃ w3, set10 w2 w.heap.size (.int .i64 u.fld.op) (.slice x1 x2 x3) (.int .i32 u.fld.rune) (.slice y1 y2 y3) (.int .i64 u.fld.at') (.int .i64 u.fld.cap) (.string u.fld.name) (.int .i64 u.fld.min) (.int .i64 u.fld.max) (.bool u.fld.lazy) = w3 := ⟨_, rfl⟩
  have hE3 : Whole w3 w.heap.size 27 #[.int .i64 u.fld.op, .slice x1 x2 x3, .int .i32 u.fld.rune, .slice y1 y2 y3, .int .i64 u.fld.at', .int .i64 u.fld.cap, .string u.fld.name, .int .i64 u.fld.min, .int .i64 u.fld.max, .bool u.fld.lazy] := by rw [← hw3]; exact set10_whole hE2 _ _ _ _ _ _ _ _ _ _
  have hsame : SameOn (fun k => k ≠ w.heap.size) w2 w3 := by rw [← hw3]; exact set10_same _ _ _ _ _ _ _ _ _ _ _ _
  have hT3 : Tre w3 u (.agg #[.int .i64 u.fld.op, .slice x1 x2 x3, .int .i32 u.fld.rune, .slice y1 y2 y3, .int .i64 u.fld.at', .int .i64 u.fld.cap, .string u.fld.name, .int .i64 u.fld.min, .int .i64 u.fld.max, .bool u.fld.lazy]) := ht2.same (fun b hb hl => hsame b (by have : b < w.heap.size := hb; omega) hl) (fun _ _ _ => trivial)
  have hB3 : Below w.heap.size w w3 := by rw [← hw3]; exact set10_below (HB1.out.trans (hb2.mono HB1.out.size)) (Nat.le_refl _) _ _ _ _ _ _ _ _ _ _
  clear g0 g1 g2 g3 g4 g5 g6 g7 g8 g9
  obtain ⟨g0, g1, g2, g3, g4, g5, g6, g7, g8, g9⟩ := hE2.ten
  obtain ⟨z0, z1, z2, z3, z4, z5, z6, z7, z8, z9⟩ := whole_free hE2
  unfold set10 at hw3
  have HW3 := Lib.hid hw3; have HE3 := Lib.hid hE3; have HT3 := Lib.hid hT3; have HB3 := Lib.hid hB3
  clear ht2 hb2 hE2 hw3 hE3 hsame hT3 hB3 HA HE1 HB1 HW1
  go_upto_region 2 with (fail)
  rw [HW3.out]
  clear g0 g1 g2 g3 g4 g5 g6 g7 g8 g9 z0 z1 z2 z3 z4 z5 z6 z7 z8 z9
  obtain ⟨r0, r1, r2, r3, r4, r5, r6, r7, r8, r9⟩ := HE3.out.ten
  have HX2 : Hid (u.kids.length = x2 ∧ Kds w3 u.kids (.slice x1 x2 x3) ∧ Rgs w3 (.slice y1 y2 y3) u.fld.set) := Lib.hid (by
    have h1 := HT3.out
    rw [tre_iff] at h1
    obtain ⟨kv', sv', e, hS, -, hK⟩ := h1
    obtain ⟨rfl, rfl⟩ := treC_inj (f := u.fld) (k1 := .slice x1 x2 x3) (s1 := .slice y1 y2 y3) e
    refine ⟨?_, hK, hS⟩
    obtain ⟨A', c', e2, -⟩ := hK
    injection e2 with _ q _
    exact q.symm)
  obtain ⟨op, hop⟩ : ∃ op, u.fld.op = op := ⟨_, rfl⟩
  have hkinds := HKI.out
  rw [hop] at hkinds r0
  have HOP := Lib.hid hop
  clear hop HKI
  have LF : Hid ((op = 1 ∨ op = 2 ∨ op = 3 ∨ op = 4 ∨ op = 5) → O = if op = 1 then noneP else if op = 2 then emptyP else if op = 3 then oneP u.fld.rune else if op = 4 then setP u.fld.set else placeP u.fld.at') := Lib.hid (fun h => by rw [← HO.out, ← HOP.out]; exact text_leaf (by rw [HOP.out]; exact h))
  have hrep := hkinds
  have hways : (op == 7) = true ∨ ((op == 7) = false ∧ (op == 8) = true) ∨ ((op == 7) = false ∧ (op == 8) = false ∧ (op == 9) = true) ∨ ((op == 7) = false ∧ (op == 8) = false ∧ (op == 9) = false ∧ (op == 10) = true) := by
    rcases hkinds with rfl | rfl | rfl | rfl <;> decide
  have e1 : (op == 1) = false := by rw [beq_eq_false_iff_ne]; omega
  have e3 : (op == 3) = false := by rw [beq_eq_false_iff_ne]; omega
  have e4 : (op == 4) = false := by rw [beq_eq_false_iff_ne]; omega
  have e5 : (op == 5) = false := by rw [beq_eq_false_iff_ne]; omega
  have e6 : (op == 6) = false := by rw [beq_eq_false_iff_ne]; omega
  have h1k : x2 = 1 := by rw [← HX2.out.1]; exact HNUM.out.1 (by have := HOP.out; omega)
  subst h1k
  obtain ⟨kb, ko, tk, kv', sv', hA, htk, hm, ⟨d0, d1, d2, d3, d4, d5, d6, d7, d8, d9⟩, hTk⟩ := HX2.out.2.1.kid 0 (by rw [HX2.out.1]; exact Nat.zero_lt_one)
  subst hA
  obtain ⟨kx, sx, hv2, ⟨m1, m2, m3, rfl⟩, ⟨p1, p2, p3, rfl⟩⟩ := hTk.ten
  obtain ⟨rfl, rfl⟩ := treC_inj (f := tk.fld) (k1 := kv') (s1 := sv') hv2
  rw [Nat.zero_mul, Nat.add_zero] at d0 d1 d2 d3 d4 d5 d6 d7 d8 d9
  have hkk : u.kids = [tk] := by
    obtain ⟨k, hk⟩ := List.length_eq_one_iff.1 HX2.out.1
    have : tk = k := by rw [← htk]; simp [hk]
    rw [hk, this]
  have HKK := Lib.hid hkk; have HTK := Lib.hid hTk; have HKT := Lib.hid (HKD.out tk hm)
  clear hkk hTk htk hm hv2 LF
  have HO2 : Hid (O = repT tk ++ signP u.fld) := Lib.hid (by rw [← HO.out]; exact text_rep (by rw [HOP.out]; exact hrep) HKK.out)
  have hsg : signP u.fld = timesP u.fld ++ lazyP u.fld := rfl
  obtain ⟨X, hX⟩ : ∃ X, repT tk = X := ⟨_, rfl⟩
  obtain ⟨Y, hY⟩ : ∃ Y, timesP u.fld = Y := ⟨_, rfl⟩
  obtain ⟨Z, hZ⟩ : ∃ Z, lazyP u.fld = Z := ⟨_, rfl⟩
  have hpk : partsR tk ≤ 10000000000 := by have := HKT.out.2.1; omega
  have HRP := Lib.hid fun W (hW : Below w3.heap.size w3 W) => repeated_of HKT.out.1 hpk HKT.out.2.2.2 _ W (HTK.out.below hW)
  have HTM := Lib.hid fun W (hW : Below w3.heap.size w3 W) => times_any u _ W (HT3.out.below hW) HFL.out (by rw [HOP.out]; exact hrep)
  have HLZ := Lib.hid fun W (hW : Below w3.heap.size w3 W) => lazy_any u _ W (HT3.out.below hW)
  rw [hsg] at HO2
  rw [hX] at HRP HO2
  rw [hY] at HTM HO2
  rw [hZ] at HLZ HO2
  rw [HOP.out] at HTM HLZ
  have HJ := Lib.hid fun W => joined_new [textB X, textB Y, textB Z] W 3 _ rfl rfl 9 (by decide) (by
    have := congrArg List.length HO2.out
    simp only [List.length_append] at this
    simp [flatB, textB_list]; omega)
  have HFB : Hid (flatB [textB X, textB Y, textB Z] = X ++ (Y ++ Z)) := Lib.hid (by simp [flatB, textB_list])
  rw [HFB.out, ← HO2.out] at HJ
  have HB0 := Lib.hid (below_draws w3 1)
  have KP : Hid (∀ W, Below w3.heap.size w3 W → W.cell? ⟨w.heap.size, 0, none⟩ = some (.int .i64 op) ∧ W.cell? ⟨w.heap.size, 1, none⟩ = some (.slice (some ⟨kb, ko, none⟩) 1 x3) ∧ W.cell? ⟨w.heap.size, 2, none⟩ = some (.int .i32 u.fld.rune) ∧ W.cell? ⟨w.heap.size, 3, none⟩ = some (.slice y1 y2 y3) ∧ W.cell? ⟨w.heap.size, 4, none⟩ = some (.int .i64 u.fld.at') ∧ W.cell? ⟨w.heap.size, 5, none⟩ = some (.int .i64 u.fld.cap) ∧ W.cell? ⟨w.heap.size, 6, none⟩ = some (.string u.fld.name) ∧ W.cell? ⟨w.heap.size, 7, none⟩ = some (.int .i64 u.fld.min) ∧ W.cell? ⟨w.heap.size, 8, none⟩ = some (.int .i64 u.fld.max) ∧ W.cell? ⟨w.heap.size, 9, none⟩ = some (.bool u.fld.lazy) ∧ W.cell? ⟨kb, ko, none⟩ = some (.int .i64 tk.fld.op) ∧ W.cell? ⟨kb, ko + 1, none⟩ = some (.slice m1 m2 m3) ∧ W.cell? ⟨kb, ko + 2, none⟩ = some (.int .i32 tk.fld.rune) ∧ W.cell? ⟨kb, ko + 3, none⟩ = some (.slice p1 p2 p3) ∧ W.cell? ⟨kb, ko + 4, none⟩ = some (.int .i64 tk.fld.at') ∧ W.cell? ⟨kb, ko + 5, none⟩ = some (.int .i64 tk.fld.cap) ∧ W.cell? ⟨kb, ko + 6, none⟩ = some (.string tk.fld.name) ∧ W.cell? ⟨kb, ko + 7, none⟩ = some (.int .i64 tk.fld.min) ∧ W.cell? ⟨kb, ko + 8, none⟩ = some (.int .i64 tk.fld.max) ∧ W.cell? ⟨kb, ko + 9, none⟩ = some (.bool tk.fld.lazy)) := Lib.hid fun W hb => ⟨(hb.cell (World.block_lt_of_cell? w3 _ r0)).trans r0, (hb.cell (World.block_lt_of_cell? w3 _ r1)).trans r1, (hb.cell (World.block_lt_of_cell? w3 _ r2)).trans r2, (hb.cell (World.block_lt_of_cell? w3 _ r3)).trans r3, (hb.cell (World.block_lt_of_cell? w3 _ r4)).trans r4, (hb.cell (World.block_lt_of_cell? w3 _ r5)).trans r5, (hb.cell (World.block_lt_of_cell? w3 _ r6)).trans r6, (hb.cell (World.block_lt_of_cell? w3 _ r7)).trans r7, (hb.cell (World.block_lt_of_cell? w3 _ r8)).trans r8, (hb.cell (World.block_lt_of_cell? w3 _ r9)).trans r9, (hb.cell (World.block_lt_of_cell? w3 _ d0)).trans d0, (hb.cell (World.block_lt_of_cell? w3 _ d1)).trans d1, (hb.cell (World.block_lt_of_cell? w3 _ d2)).trans d2, (hb.cell (World.block_lt_of_cell? w3 _ d3)).trans d3, (hb.cell (World.block_lt_of_cell? w3 _ d4)).trans d4, (hb.cell (World.block_lt_of_cell? w3 _ d5)).trans d5, (hb.cell (World.block_lt_of_cell? w3 _ d6)).trans d6, (hb.cell (World.block_lt_of_cell? w3 _ d7)).trans d7, (hb.cell (World.block_lt_of_cell? w3 _ d8)).trans d8, (hb.cell (World.block_lt_of_cell? w3 _ d9)).trans d9⟩
  clear hX hY hZ HKT hpk hsg
  clear hrep hkinds
  rcases hways with h7 | ⟨h7, h8⟩ | ⟨h7, h8, h9⟩ | ⟨h7, h8, h9, h10⟩
  all_goals
    go_upto_region 17 with (fail)
    refine wp_region_held_drew (S := (fun w' => w'.cell? ⟨w.heap.size, 0, none⟩ = some (.int .i64 op) ∧ w'.cell? ⟨w.heap.size, 1, none⟩ = some (.slice (some ⟨kb, ko, none⟩) 1 x3) ∧ w'.cell? ⟨w.heap.size, 2, none⟩ = some (.int .i32 u.fld.rune) ∧ w'.cell? ⟨w.heap.size, 3, none⟩ = some (.slice y1 y2 y3) ∧ w'.cell? ⟨w.heap.size, 4, none⟩ = some (.int .i64 u.fld.at') ∧ w'.cell? ⟨w.heap.size, 5, none⟩ = some (.int .i64 u.fld.cap) ∧ w'.cell? ⟨w.heap.size, 6, none⟩ = some (.string u.fld.name) ∧ w'.cell? ⟨w.heap.size, 7, none⟩ = some (.int .i64 u.fld.min) ∧ w'.cell? ⟨w.heap.size, 8, none⟩ = some (.int .i64 u.fld.max) ∧ w'.cell? ⟨w.heap.size, 9, none⟩ = some (.bool u.fld.lazy) ∧ w'.cell? ⟨kb, ko, none⟩ = some (.int .i64 tk.fld.op) ∧ w'.cell? ⟨kb, ko + 1, none⟩ = some (.slice m1 m2 m3) ∧ w'.cell? ⟨kb, ko + 2, none⟩ = some (.int .i32 tk.fld.rune) ∧ w'.cell? ⟨kb, ko + 3, none⟩ = some (.slice p1 p2 p3) ∧ w'.cell? ⟨kb, ko + 4, none⟩ = some (.int .i64 tk.fld.at') ∧ w'.cell? ⟨kb, ko + 5, none⟩ = some (.int .i64 tk.fld.cap) ∧ w'.cell? ⟨kb, ko + 6, none⟩ = some (.string tk.fld.name) ∧ w'.cell? ⟨kb, ko + 7, none⟩ = some (.int .i64 tk.fld.min) ∧ w'.cell? ⟨kb, ko + 8, none⟩ = some (.int .i64 tk.fld.max) ∧ w'.cell? ⟨kb, ko + 9, none⟩ = some (.bool tk.fld.lazy))) (by kernel_rfl) (KP.out _ HB0.out) (fun hHeld => ?_)
    refine wpAnyH_take (i := 0) (oi := _) (v := ?_) rfl (by kernel_rfl) (by kernel_rfl) (by kernel_rfl) (fun _ _ _ h => h) (Or.inl ⟨by rfl, ?_⟩) (by assumption) ?_
    rotate_left 1
    · (intro w hSw; (try dsimp only at hSw); go_simp; (try with_reducible rfl))
    try simp only [List.getElem_toArray, List.getElem_cons_zero, Act.put, List.setIfInBounds_toArray, List.set_cons_zero, List.set_cons_succ]
    refine wpAnyH_take (i := 1) (oi := _) (v := ?_) rfl (by kernel_rfl) (by kernel_rfl) (by kernel_rfl) (fun _ _ _ h => h) (Or.inl ⟨by rfl, ?_⟩) (by assumption) ?_
    rotate_left 1
    · (intro w hSw; (try dsimp only at hSw); go_simp; (try with_reducible rfl))
    try simp only [List.getElem_toArray, List.getElem_cons_zero, List.getElem_cons_succ, Act.put, List.setIfInBounds_toArray, List.set_cons_zero, List.set_cons_succ]
    refine wpAnyH_take (i := 2) (oi := _) (v := ?_) rfl (by kernel_rfl) (by kernel_rfl) (by kernel_rfl) (fun _ _ _ h => h) (Or.inl ⟨by rfl, ?_⟩) (by assumption) ?_
    rotate_left 1
    · (intro w hSw; (try dsimp only at hSw); go_simp; (try with_reducible rfl))
    try simp only [List.getElem_toArray, List.getElem_cons_zero, List.getElem_cons_succ, Act.put, List.setIfInBounds_toArray, List.set_cons_zero, List.set_cons_succ]
    refine wpAnyH_take (i := 3) (oi := _) (v := ?_) rfl (by kernel_rfl) (by kernel_rfl) (by kernel_rfl) (fun _ _ _ h => h) (Or.inl ⟨by rfl, ?_⟩) (by assumption) ?_
    rotate_left 1
    · (intro w hSw; (try dsimp only at hSw); go_simp; (try with_reducible rfl))
    try simp only [List.getElem_toArray, List.getElem_cons_zero, List.getElem_cons_succ, Act.put, List.setIfInBounds_toArray, List.set_cons_zero, List.set_cons_succ]
    refine wpAnyH_take (i := 5) (oi := _) (v := ?_) rfl (by kernel_rfl) (by kernel_rfl) (by kernel_rfl) (fun _ _ _ h => h) (Or.inl ⟨by rfl, ?_⟩) (by assumption) ?_
    rotate_left 1
    · (intro w hSw; (try dsimp only at hSw); go_simp; (try with_reducible rfl))
    try simp only [List.getElem_toArray, List.getElem_cons_zero, List.getElem_cons_succ, Act.put, List.setIfInBounds_toArray, List.set_cons_zero, List.set_cons_succ]
    refine wpAnyH_take (i := 7) (oi := _) (v := ?_) rfl (by kernel_rfl) (by kernel_rfl) (by kernel_rfl) (fun _ _ _ h => h) (Or.inl ⟨by rfl, ?_⟩) (by assumption) ?_
    rotate_left 1
    · (intro w hSw; (try dsimp only at hSw); go_simp; (try with_reducible rfl))
    try simp only [List.getElem_toArray, List.getElem_cons_zero, List.getElem_cons_succ, Act.put, List.setIfInBounds_toArray, List.set_cons_zero, List.set_cons_succ]
    refine wpAnyH_ready (rs := [4]) (by kernel_rfl) (by simp) ?_
    refine AllReadyH.cons (o := _) rfl (fun K hK => ?_) ?_
    · go_simp
      refine (HRP.out _ HB0.out).mono ?_
      rintro e u4 ⟨rfl, hb⟩
      have HB4 := Lib.hid (HB0.out.trans (hb.mono HB0.out.size))
      clear hb
      go_wp2_with fail
      refine hK.out _ _ (KP.out _ HB4.out) (fun hHeld => ?_)
      clear hK K
      try simp only [List.getElem_toArray, List.getElem_cons_zero, List.getElem_cons_succ, Act.put, List.setIfInBounds_toArray, List.set_cons_zero, List.set_cons_succ]
      refine wpAnyH_ready (rs := [6]) (by kernel_rfl) (by simp) ?_
      refine AllReadyH.cons (o := _) rfl (fun K hK => ?_) ?_
      · go_simp
        refine (HTM.out _ HB4.out).mono ?_
        rintro e u5 ⟨rfl, hb⟩
        have HB5 := Lib.hid (HB4.out.trans (hb.mono HB4.out.size))
        clear hb
        go_wp2_with fail
        refine hK.out _ _ (KP.out _ HB5.out) (fun hHeld => ?_)
        clear hK K
        try simp only [List.getElem_toArray, List.getElem_cons_zero, List.getElem_cons_succ, Act.put, List.setIfInBounds_toArray, List.set_cons_zero, List.set_cons_succ]
        refine wpAnyH_ready (rs := [8]) (by kernel_rfl) (by simp) ?_
        refine AllReadyH.cons (o := _) rfl (fun K hK => ?_) ?_
        · go_simp
          refine (HLZ.out _ HB5.out).mono ?_
          rintro e u6 ⟨rfl, hb⟩
          have HB8 := Lib.hid (HB5.out.trans (hb.mono HB5.out.size))
          clear hb
          go_wp2_with fail
          refine hK.out _ _ (KP.out _ HB8.out) (fun hHeld => ?_)
          clear hK K
          try simp only [List.getElem_toArray, List.getElem_cons_zero, List.getElem_cons_succ, Act.put, List.setIfInBounds_toArray, List.set_cons_zero, List.set_cons_succ]
          refine wpAnyH_ready (rs := [9]) (by kernel_rfl) (by simp) ?_
          refine AllReadyH.cons (o := _) rfl (fun K hK => ?_) ?_
          · go_simp
            refine hK.out _ _ (KP.out _ (HB8.out.alloc HB8.out.size _)) (fun hHeld => ?_)
            clear hK K
            try simp only [List.getElem_toArray, List.getElem_cons_zero, List.getElem_cons_succ, Act.put, List.setIfInBounds_toArray, List.set_cons_zero, List.set_cons_succ]
            refine wpAnyH_ready (rs := [10]) (by kernel_rfl) (by simp) ?_
            refine AllReadyH.cons (o := _) rfl (fun K hK => ?_) ?_
            · go_simp
              refine (HJ.out _).mono ?_
              rintro e u7 ⟨rfl, hb⟩
              have HB6 := Lib.hid (HB8.out.trans (hb.mono HB8.out.size)); have HB7 := Lib.hid (HB3.out.trans (HB6.out.mono HB3.out.size))
              clear hb
              go_wp2_with fail
              refine hK.out _ _ (KP.out _ HB6.out) (fun hHeld => ?_)
              clear hK K
              try simp only [List.getElem_toArray, List.getElem_cons_zero, List.getElem_cons_succ, Act.put, List.setIfInBounds_toArray, List.set_cons_zero, List.set_cons_succ]
              refine wpAnyH_take (i := 11) (oi := _) (v := ?_) rfl (by kernel_rfl) (by kernel_rfl) (by kernel_rfl) (fun _ _ _ h => h) (Or.inl ⟨by rfl, ?_⟩) (by assumption) ?_
              rotate_left 1
              · (intro w hSw; (try dsimp only at hSw); go_simp; (try with_reducible rfl))
              try simp only [List.getElem_toArray, List.getElem_cons_zero, List.getElem_cons_succ, Act.put, List.setIfInBounds_toArray, List.set_cons_zero, List.set_cons_succ]
              refine wpAnyH_done (by kernel_rfl) ?_ _
              go_wp2_with fail
              go_ret
              exact ⟨by rw [HO2.out]; try rfl, HB7.out⟩
            exact AllReadyH.nil
          exact AllReadyH.nil
        exact AllReadyH.nil
      exact AllReadyH.nil
    exact AllReadyH.nil
end Go.Proofs.Ytaaoamkagppodaa
/- The program's text of every shaped tree. -/
namespace Go.Proofs.Ytaaoamkagppodaa
open Go Go.RowKit

theorem text_step {t : Tr} (hs0 : ShapedP t) (hp : partsR t ≤ 10000000000) (hC : ∀ k, partsR k < partsR t → ShapedP k → TextC k) : TextC t := by
  rcases shaped_kinds (sole_all t hs0).1 with (h | h | h | h | h) | h | h | h | h
  · exact text_most (by omega) hs0 hp hC
  · exact text_most (by omega) hs0 hp hC
  · exact text_most (by omega) hs0 hp hC
  · exact text_most (by omega) hs0 hp hC
  · exact text_most (by omega) hs0 hp hC
  · exact text_six h hs0 hp hC
  · exact text_rept h hs0 hp hC
  · exact text_most (by omega) hs0 hp hC
  · exact text_most (by omega) hs0 hp hC
theorem text_any : ∀ (n : Nat) (t : Tr), partsR t < n → partsR t ≤ 10000000000 → ShapedP t → TextC t
  | 0, t, h, _, _ => absurd h (Nat.not_lt_zero _)
  | n + 1, t, h, hp, hs => text_step hs hp fun k hk hks => text_any n k (by omega) (by omega) hks
end Go.Proofs.Ytaaoamkagppodaa
