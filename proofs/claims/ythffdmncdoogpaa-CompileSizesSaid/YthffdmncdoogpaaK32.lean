/- Texts merged by program: SmSimple. No condition. -/
import Derived.Test.YthffdmncdoogpaaK31
import Derived.Test.YthffdmncdoogpaaK29
import Derived.Test.YthffdmncdoogpaaK8
import Derived.Test.YthffdmncdoogpaaK27
set_option linter.unusedVariables false
/- A right tree made plain: the program's simple, and its Simple. Written by gen10.py. -/
namespace Go.Proofs.Ythffdmncdoogpaa
open Go Go.RowKit

set_option maxHeartbeats 4000000 in
set_option maxRecDepth 100000 in
theorem smSimple_all (t : Tr) : ShapedP t → weightR t ≤ 4000 → FnOf 39 simpleT t := by
  refine Tr.ind (P := fun t => ShapedP t → weightR t ≤ 4000 → FnOf 39 simpleT t) (fun t ih hsh hwt AF v w hA h0 => ?_) t
  have hkd : ∀ k ∈ t.kids, FnOf 39 simpleT k := fun k hk => ih k hk (((shapedP_iff t).1 hsh).2.2.2 k hk) (kid_one t hsh hwt k hk)
  have HKD := Lib.hid hkd
  obtain ⟨u, hu⟩ : ∃ u, anewT simpleT t = u := ⟨_, rfl⟩
  have huf : u.fld = t.fld := by rw [← hu]; rfl
  have huk : u.kids = t.kids.map simpleT := by rw [← hu]; rfl
  obtain ⟨RT, hRT⟩ : ∃ RT, simpleT t = RT := ⟨_, rfl⟩
  have hmk : RT = madeT u.fld u.kids := by rw [← hRT, simpleT_eq, huf, huk]
  rw [hRT]
  have HMK := Lib.hid hmk; have HU := Lib.hid hu; have HUF := Lib.hid huf; have HUK := Lib.hid huk; have HSH := Lib.hid hsh; have HWT := Lib.hid hwt
  clear ih hkd hu huf huk hRT hmk hsh hwt
  have H0 := Lib.hid h0
  have h := h0.tre
  obtain ⟨A, n, c, a2, s, c2, hn, hs, rfl, hnb, hsb, hK, hS, hF⟩ := h.opened
  obtain ⟨w1, hw1⟩ : ∃ w1, (w.alloc (.cells #[.int .i64 t.fld.op, .slice A n c, .int .i32 t.fld.rune, .slice a2 s c2, .int .i64 t.fld.at', .int .i64 t.fld.cap, .string t.fld.name, .int .i64 t.fld.min, .int .i64 t.fld.max, .bool t.fld.lazy] 45)).alloc (.cells #[.int .i64 0, .slice none 0 0, .int .i32 0, .slice none 0 0, .int .i64 0, .int .i64 0, .string ⟨#[]⟩, .int .i64 0, .int .i64 0, .bool false] 45) = w1 := ⟨_, rfl⟩
  have hb1 : Below w.heap.size w w1 := by rw [← hw1]; exact ((Below.refl _ w).alloc (Nat.le_refl _) _).alloc (by simp) _
  have hE1 : Whole w1 w.heap.size 45 #[.int .i64 t.fld.op, .slice A n c, .int .i32 t.fld.rune, .slice a2 s c2, .int .i64 t.fld.at', .int .i64 t.fld.cap, .string t.fld.name, .int .i64 t.fld.min, .int .i64 t.fld.max, .bool t.fld.lazy] := by rw [← hw1]; exact Whole.alloc (heap_alloc_new w _) _
  have hR1 : Whole w1 (w.heap.size + 1) 45 #[.int .i64 0, .slice none 0 0, .int .i32 0, .slice none 0 0, .int .i64 0, .int .i64 0, .string ⟨#[]⟩, .int .i64 0, .int .i64 0, .bool false] := by
    rw [← hw1]
    have := heap_alloc_new (w.alloc (.cells #[.int .i64 t.fld.op, .slice A n c, .int .i32 t.fld.rune, .slice a2 s c2, .int .i64 t.fld.at', .int .i64 t.fld.cap, .string t.fld.name, .int .i64 t.fld.min, .int .i64 t.fld.max, .bool t.fld.lazy] 45)) (.cells #[.int .i64 0, .slice none 0 0, .int .i32 0, .slice none 0 0, .int .i64 0, .int .i64 0, .string ⟨#[]⟩, .int .i64 0, .int .i64 0, .bool false] 45)
    simpa [Whole] using this
  have hs1 : w1.heap.size = w.heap.size + 2 := by rw [← hw1]; simp
  have hT1 : TreF AF w1 t _ := TreF.same H0.out (same_below hb1) (fun _ h _ => h)
  have HB1 := Lib.hid hb1; have HE1 := Lib.hid hE1; have HR1 := Lib.hid hR1; have HW1 := Lib.hid hw1; have HS1 := Lib.hid hs1; have HT1 := Lib.hid hT1; have HN := Lib.hid hn; have HA := Lib.hid hA; have HF := Lib.hid hF
  clear h h0 hb1 hE1 hR1 hw1 hs1 hT1 hK hS hn hs hF hA
  go_enter Try.func39, Try.ntmps39
  go_upto_region 1 with (fail)
  rw [HW1.out]

  have HAN := Lib.hid (smAnew_any 39 simpleT (enters_of Try.func39 (by kernel_rfl) rfl) t HKD.out AF _ w1 (fun b hb => Nat.lt_of_lt_of_le (HA.out b hb) HB1.out.size) HT1.out)
  rw [HU.out] at HAN
  obtain ⟨b0, b1, b2, b3, b4, b5, b6, b7, b8, b9⟩ := HE1.out.ten
  go_wp2_with fail
  refine HAN.out.mono ?_
  rintro e w3 ⟨v3, rfl, ht3, hb3⟩
  obtain ⟨kv3, sv3, rfl, ⟨m1, m2, m3, rfl⟩, ⟨p1, p2, p3, rfl⟩⟩ := ht3.ten
  have hE3 := HE1.out.below hb3 HE1.out.lt
  have hR3 := HR1.out.below hb3 HR1.out.lt
  obtain ⟨w4, hw4⟩ : ∃ w4, set10 w3 w.heap.size (.int .i64 u.fld.op) (.slice m1 m2 m3) (.int .i32 u.fld.rune) (.slice p1 p2 p3) (.int .i64 u.fld.at') (.int .i64 u.fld.cap) (.string u.fld.name) (.int .i64 u.fld.min) (.int .i64 u.fld.max) (.bool u.fld.lazy) = w4 := ⟨_, rfl⟩
  have hE4 : Whole w4 w.heap.size 45 #[.int .i64 u.fld.op, .slice m1 m2 m3, .int .i32 u.fld.rune, .slice p1 p2 p3, .int .i64 u.fld.at', .int .i64 u.fld.cap, .string u.fld.name, .int .i64 u.fld.min, .int .i64 u.fld.max, .bool u.fld.lazy] := by rw [← hw4]; exact set10_whole hE3 _ _ _ _ _ _ _ _ _ _
  have hR4 : Whole w4 (w.heap.size + 1) 45 #[.int .i64 0, .slice none 0 0, .int .i32 0, .slice none 0 0, .int .i64 0, .int .i64 0, .string ⟨#[]⟩, .int .i64 0, .int .i64 0, .bool false] := by rw [← hw4]; exact whole_set10 hR3 (by omega) _ _ _ _ _ _ _ _ _ _
  have hB4 : Below w.heap.size w w4 := by rw [← hw4]; exact set10_below (HB1.out.trans (hb3.mono HB1.out.size)) (Nat.le_refl _) _ _ _ _ _ _ _ _ _ _
  have hs4 : w.heap.size + 2 ≤ w4.heap.size := by rw [← hw4, set10_size]; exact Nat.le_trans (by rw [HS1.out]; exact Nat.le_refl _) hb3.size
  have hT4 : TreF (fun b => ((AF b ∨ w.heap.size ≤ b) ∧ b ≠ w.heap.size + 1) ∧ b < w4.heap.size) w4 u (.agg #[.int .i64 u.fld.op, .slice m1 m2 m3, .int .i32 u.fld.rune, .slice p1 p2 p3, .int .i64 u.fld.at', .int .i64 u.fld.cap, .string u.fld.name, .int .i64 u.fld.min, .int .i64 u.fld.max, .bool u.fld.lazy]) := by
    have hsz : w4.heap.size = w3.heap.size := by rw [← hw4, set10_size]
    have h1 := HS1.out
    rw [← hw4]
    refine (ht3.same (G := fun b => (AF b ∨ w1.heap.size ≤ b) ∧ b < w3.heap.size) (fun _ _ _ => rfl) fun b hb hl => ⟨hb, hl⟩).same ((set10_same _ _ _ _ _ _ _ _ _ _ _ _).mono fun b hb => ?_) fun b hb _ => ?_
    · rcases hb.1 with h | h
      · have := HA.out b h; omega
      · omega
    · refine ⟨?_, by rw [hw4, hsz]; exact hb.2⟩
      rcases hb.1 with h | h
      · exact ⟨.inl h, by have := HA.out b h; omega⟩
      · exact ⟨.inr (by omega), by omega⟩
  have HE4 := Lib.hid hE4; have HR4 := Lib.hid hR4; have HB4 := Lib.hid hB4; have HS4 := Lib.hid hs4; have HT4 := Lib.hid hT4
  unfold set10 at hw4
  have HW4 := Lib.hid hw4
  obtain ⟨y0, y1, y2, y3, y4, y5, y6, y7, y8, y9⟩ := whole_free hE3
  obtain ⟨c0, c1, c2', c3, c4, c5, c6, c7, c8, c9⟩ := hE3.ten
  clear ht3 hb3 hE3 hR3 hw4 hR4 hB4 hs4 hT4 b0 b1 b2 b3 b4 b5 b6 b7 b8 b9
  go_upto_region 2 with (fail)
  rw [HW4.out]
  clear c0 c1 c2' c3 c4 c5 c6 c7 c8 c9 y0 y1 y2 y3 y4 y5 y6 y7 y8 y9
  obtain ⟨k0, k1, k2, k3, k4, k5, k6, k7, k8, k9⟩ := hE4.ten
  obtain ⟨op, hop⟩ : ∃ op, u.fld.op = op := ⟨_, rfl⟩
  rw [hop] at k0
  have HRW := Lib.hid (show ∀ W, Below w4.heap.size w4 W → Whole W (w.heap.size + 1) 45 #[.int .i64 0, .slice none 0 0, .int .i32 0, .slice none 0 0, .int .i64 0, .int .i64 0, .string ⟨#[]⟩, .int .i64 0, .int .i64 0, .bool false] from fun W hW => HR4.out.below hW HR4.out.lt)
  have hA4 : ∀ b, (((AF b ∨ w.heap.size ≤ b) ∧ b ≠ w.heap.size + 1) ∧ b < w4.heap.size) → b < w4.heap.size := fun b hb => hb.2
  have HOP := Lib.hid hop
  have hone : (op = 6 ∨ op = 7 ∨ op = 8 ∨ op = 9 ∨ op = 10) → ∃ x, u.kids = [x] := fun h => by
    have h1 := ((shapedP_iff t).1 HSH.out).2.1.1 (by rw [← HUF.out, HOP.out]; exact h)
    rw [HUK.out]
    match hq : t.kids, h1 with
    | [q], _ => exact ⟨simpleT q, rfl⟩
  have HONE := Lib.hid hone
  have HMT : Hid (TurnedPost AF u w (.returned (.agg #[.int .i64 op, .slice m1 m2 m3, .int .i32 u.fld.rune, .slice p1 p2 p3, .int .i64 u.fld.at', .int .i64 u.fld.cap, .string u.fld.name, .int .i64 u.fld.min, .int .i64 u.fld.max, .bool u.fld.lazy])) (set10 w4 (w.heap.size + 1) (.int .i64 op) (.slice m1 m2 m3) (.int .i32 u.fld.rune) (.slice p1 p2 p3) (.int .i64 u.fld.at') (.int .i64 u.fld.cap) (.string u.fld.name) (.int .i64 u.fld.min) (.int .i64 u.fld.max) (.bool u.fld.lazy))) := Lib.hid (by
    rw [← HOP.out]
    exact out_tree (HT4.out.same (fun _ _ _ => rfl) fun b hb _ => hb.1) HB4.out (Nat.le_succ _))
  have hkids : KdsF (fun b => ((AF b ∨ w.heap.size ≤ b) ∧ b ≠ w.heap.size + 1) ∧ b < w4.heap.size) w4 u.kids (.slice m1 m2 m3) := by
    have h := HT4.out
    rw [treF_iff] at h
    obtain ⟨kv', sv', e, -, -, h3⟩ := h
    obtain ⟨rfl, rfl⟩ := treC_inj (f := u.fld) (k1 := .slice m1 m2 m3) (s1 := .slice p1 p2 p3) e
    exact h3
  have HKIDS := Lib.hid hkids
  clear hE4 hone hop hkids
  by_cases h6 : op = 6
  · subst h6
    obtain ⟨x, hx⟩ := HONE.out (.inl rfl)
    have hm2 : m2 = 1 := by
      obtain ⟨A', c', e, -⟩ := HKIDS.out
      injection e with _ e _
      rw [e, hx]; rfl
    subst hm2
    obtain ⟨b, o, tk, x1, x2, x3, y1, y2, y3, rfl, htk, hm, hx2, ⟨c0, c1, c2', c3, c4, c5, c6, c7, c8, c9⟩, hTk⟩ := (smKdsE HKIDS.out).kid 0 (by rw [hx]; simp)
    have htx : tk = x := by rw [← htk]; simp [hx]
    subst htx
    simp only [Nat.zero_mul, Nat.add_zero] at c0 c1 c2' c3 c4 c5 c6 c7 c8 c9
    obtain ⟨ko, hko⟩ : ∃ ko, tk.fld.op = ko := ⟨_, rfl⟩
    have hmade : RT = if tk.fld.op = 1 then tk else u := by
      rw [HMK.out]
      unfold madeT
      rw [if_pos HOP.out, hx]
      show (if tk.fld.op = 1 then tk else Tr.mk u.fld [tk]) = _
      rw [← hx, ← Tr.eta]
    have HM1 : Hid (TurnedPost AF tk w (.returned (.agg #[.int .i64 ko, .slice x1 x2 x3, .int .i32 tk.fld.rune, .slice y1 y2 y3, .int .i64 tk.fld.at', .int .i64 tk.fld.cap, .string tk.fld.name, .int .i64 tk.fld.min, .int .i64 tk.fld.max, .bool tk.fld.lazy])) (set10 w4 (w.heap.size + 1) (.int .i64 ko) (.slice x1 x2 x3) (.int .i32 tk.fld.rune) (.slice y1 y2 y3) (.int .i64 tk.fld.at') (.int .i64 tk.fld.cap) (.string tk.fld.name) (.int .i64 tk.fld.min) (.int .i64 tk.fld.max) (.bool tk.fld.lazy))) := Lib.hid (by
      rw [← hko]
      exact out_tree (hTk.same (fun _ _ _ => rfl) fun b hb _ => hb.1) HB4.out (Nat.le_succ _))
    have HMADE := Lib.hid hmade; have HKO := Lib.hid hko
    rw [hko] at c0
    clear hmade hTk htk hm hx2 hx hko HAN
    obtain ⟨r0, r1, r2, r3, r4, r5, r6, r7, r8, r9⟩ := HR4.out.ten
    obtain ⟨z0, z1, z2, z3, z4, z5, z6, z7, z8, z9⟩ := whole_free HR4.out
    by_cases hk1 : ko = 1
    · subst hk1
      go_wp2_with fail
      refine tree_ret Try.results39 (w.heap.size + 1) rfl HR4.out ?_
      rw [HMADE.out, if_pos HKO.out]
      exact HM1.out
    · have hkn : (ko == 1) = false := beq_eq_false_iff_ne.2 hk1
      have HNE := Lib.hid hk1
      clear hk1
      go_wp2_with fail
      refine tree_ret Try.results39 (w.heap.size + 1) rfl HR4.out ?_
      rw [HMADE.out, if_neg (by rw [HKO.out]; exact HNE.out)]
      exact HMT.out
  have e6 : (op == 6) = false := beq_eq_false_iff_ne.2 h6
  by_cases h7 : op = 7 ∨ op = 8 ∨ op = 9
  · obtain ⟨x, hx⟩ := HONE.out (by omega)
    have hue : Tr.mk u.fld [x] = u := by rw [← hx, ← Tr.eta]
    have HL := Lib.hid (smLooped_any u.fld x _ _ w4 hA4 (by rw [hue]; exact HT4.out))
    rw [HOP.out] at HL
    have HEQ : Hid (RT = loopedT u.fld x) := Lib.hid (by rw [HMK.out]; unfold madeT; rw [if_neg (by rw [HOP.out]; exact h6), if_pos (by rw [HOP.out]; exact h7), hx]; rfl)
    clear hx hue h6
    rcases h7 with rfl | rfl | rfl
    all_goals
      go_wp2_with fail
      refine HL.out.mono ?_
      rintro e w5 ⟨v5, rfl, ht5, hb5⟩
      obtain ⟨kv5, sv5, rfl, ⟨d1, d2, d3, rfl⟩, ⟨g1, g2, g3, rfl⟩⟩ := ht5.ten
      have HB5 := Lib.hid hb5
      have HM := Lib.hid (out_tree (AF := AF) (w := w) (r := w.heap.size + 1) (ht5.same (fun _ _ _ => rfl) fun b hb _ => by
        rcases hb with hb | hb
        · exact ⟨hb.1.1, hb.1.2⟩
        · exact ⟨.inr (by have := HS4.out; omega), by have := HS4.out; omega⟩) (HB4.out.trans (hb5.mono HB4.out.size)) (Nat.le_succ _))
      clear ht5 hb5 k0 k1 k2 k3 k4 k5 k6 k7 k8 k9
      obtain ⟨r0, r1, r2, r3, r4, r5, r6, r7, r8, r9⟩ := (HRW.out _ HB5.out).ten
      obtain ⟨z0, z1, z2, z3, z4, z5, z6, z7, z8, z9⟩ := whole_free (HRW.out _ HB5.out)
      go_wp2_with fail
      refine tree_ret Try.results39 (w.heap.size + 1) rfl (HRW.out _ HB5.out) ?_
      rw [HEQ.out]
      exact HM.out
  have h7n := fun h => h7 (.inl h)
  have e7 : (op == 7) = false := beq_eq_false_iff_ne.2 (fun h => h7 (.inl h))
  have e8 : (op == 8) = false := beq_eq_false_iff_ne.2 (fun h => h7 (.inr (.inl h)))
  have e9 : (op == 9) = false := beq_eq_false_iff_ne.2 (fun h => h7 (.inr (.inr h)))
  by_cases h10 : op = 10
  · subst h10
    obtain ⟨x, hx⟩ := HONE.out (by omega)
    have hue : Tr.mk u.fld [x] = u := by rw [← hx, ← Tr.eta]
    have hc := ((shapedP_iff t).1 HSH.out).1.2.2.2.2.2.2.2.2.2.2.2.2 (by rw [← HUF.out]; exact HOP.out)
    have hrb := rep_bound t HSH.out HWT.out (by rw [← HUF.out]; exact HOP.out) x (by rw [← HUK.out]; exact hx)
    rw [← HUF.out] at hc hrb
    have HL := Lib.hid (smRepeated_any u.fld x hc.1.1 hc.1.2 hc.2 hrb _ _ w4 hA4 (by rw [hue]; exact HT4.out))
    rw [HOP.out] at HL
    have HEQ : Hid (RT = repeatedT u.fld x) := Lib.hid (by rw [HMK.out]; unfold madeT; rw [if_neg (by rw [HOP.out]; omega), if_neg (by rw [HOP.out]; omega), if_pos HOP.out, hx]; rfl)
    clear hx hue h6 h7 h7n hc hrb
    go_wp2_with fail
    refine HL.out.mono ?_
    rintro e w5 ⟨v5, rfl, ht5, hb5⟩
    obtain ⟨kv5, sv5, rfl, ⟨d1, d2, d3, rfl⟩, ⟨g1, g2, g3, rfl⟩⟩ := ht5.ten
    have HB5 := Lib.hid hb5
    have HM := Lib.hid (out_tree (AF := AF) (w := w) (r := w.heap.size + 1) (ht5.same (fun _ _ _ => rfl) fun b hb _ => by
      rcases hb with hb | hb
      · exact ⟨hb.1.1, hb.1.2⟩
      · exact ⟨.inr (by have := HS4.out; omega), by have := HS4.out; omega⟩) (HB4.out.trans (hb5.mono HB4.out.size)) (Nat.le_succ _))
    clear ht5 hb5 k0 k1 k2 k3 k4 k5 k6 k7 k8 k9
    obtain ⟨r0, r1, r2, r3, r4, r5, r6, r7, r8, r9⟩ := (HRW.out _ HB5.out).ten
    obtain ⟨z0, z1, z2, z3, z4, z5, z6, z7, z8, z9⟩ := whole_free (HRW.out _ HB5.out)
    go_wp2_with fail
    refine tree_ret Try.results39 (w.heap.size + 1) rfl (HRW.out _ HB5.out) ?_
    rw [HEQ.out]
    exact HM.out
  have e10 : (op == 10) = false := beq_eq_false_iff_ne.2 h10
  by_cases h11 : op = 11
  · subst h11
    have HL := Lib.hid (smJoined_any u.kids (by rw [HUK.out]; exact kids_few t HSH.out HWT.out) _ _ w4 hA4 (smKdsE HKIDS.out))
    have HEQ : Hid (RT = joinedT u.kids) := Lib.hid (by rw [HMK.out]; unfold madeT; rw [if_neg (by rw [HOP.out]; omega), if_neg (by rw [HOP.out]; omega), if_neg (by rw [HOP.out]; omega), if_pos HOP.out])
    clear h6 h7 h7n h10
    go_wp2_with fail
    refine HL.out.mono ?_
    rintro e w5 ⟨v5, rfl, ht5, hb5⟩
    obtain ⟨kv5, sv5, rfl, ⟨d1, d2, d3, rfl⟩, ⟨g1, g2, g3, rfl⟩⟩ := ht5.ten
    have HB5 := Lib.hid hb5
    have HM := Lib.hid (out_tree (AF := AF) (w := w) (r := w.heap.size + 1) (ht5.same (fun _ _ _ => rfl) fun b hb _ => by
      rcases hb with hb | hb
      · exact ⟨hb.1.1, hb.1.2⟩
      · exact ⟨.inr (by have := HS4.out; omega), by have := HS4.out; omega⟩) (HB4.out.trans (hb5.mono HB4.out.size)) (Nat.le_succ _))
    clear ht5 hb5 k0 k1 k2 k3 k4 k5 k6 k7 k8 k9
    obtain ⟨r0, r1, r2, r3, r4, r5, r6, r7, r8, r9⟩ := (HRW.out _ HB5.out).ten
    obtain ⟨z0, z1, z2, z3, z4, z5, z6, z7, z8, z9⟩ := whole_free (HRW.out _ HB5.out)
    go_wp2_with fail
    refine tree_ret Try.results39 (w.heap.size + 1) rfl (HRW.out _ HB5.out) ?_
    rw [HEQ.out]
    exact HM.out
  have e11 : (op == 11) = false := beq_eq_false_iff_ne.2 h11
  by_cases h12 : op = 12
  · subst h12
    have HL := Lib.hid (smChosen_any u.fld u.kids _ _ w4 hA4 (by rw [← Tr.eta]; exact HT4.out))
    rw [HOP.out] at HL
    have HEQ : Hid (RT = altT u.fld (u.kids.filter fun k => k.fld.op != 1)) := Lib.hid (by rw [HMK.out]; unfold madeT; rw [if_neg (by rw [HOP.out]; omega), if_neg (by rw [HOP.out]; omega), if_neg (by rw [HOP.out]; omega), if_neg (by rw [HOP.out]; omega), if_pos HOP.out])
    clear h6 h7 h7n h10 h11
    go_wp2_with fail
    refine HL.out.mono ?_
    rintro e w5 ⟨v5, rfl, ht5, hb5⟩
    obtain ⟨kv5, sv5, rfl, ⟨d1, d2, d3, rfl⟩, ⟨g1, g2, g3, rfl⟩⟩ := ht5.ten
    have HB5 := Lib.hid hb5
    have HM := Lib.hid (out_tree (AF := AF) (w := w) (r := w.heap.size + 1) (ht5.same (fun _ _ _ => rfl) fun b hb _ => by
      rcases hb with hb | hb
      · exact ⟨hb.1.1, hb.1.2⟩
      · exact ⟨.inr (by have := HS4.out; omega), by have := HS4.out; omega⟩) (HB4.out.trans (hb5.mono HB4.out.size)) (Nat.le_succ _))
    clear ht5 hb5 k0 k1 k2 k3 k4 k5 k6 k7 k8 k9
    obtain ⟨r0, r1, r2, r3, r4, r5, r6, r7, r8, r9⟩ := (HRW.out _ HB5.out).ten
    obtain ⟨z0, z1, z2, z3, z4, z5, z6, z7, z8, z9⟩ := whole_free (HRW.out _ HB5.out)
    go_wp2_with fail
    refine tree_ret Try.results39 (w.heap.size + 1) rfl (HRW.out _ HB5.out) ?_
    rw [HEQ.out]
    exact HM.out
  have e12 : (op == 12) = false := beq_eq_false_iff_ne.2 h12
  have HEQ : Hid (RT = u) := Lib.hid (by
    rw [HMK.out]
    unfold madeT
    rw [if_neg (by rw [HOP.out]; exact h6), if_neg (by rw [HOP.out]; exact h7), if_neg (by rw [HOP.out]; exact h10), if_neg (by rw [HOP.out]; exact h11), if_neg (by rw [HOP.out]; exact h12)]
    exact (Tr.eta u).symm)
  clear h6 h7 h7n h10 h11 h12
  obtain ⟨r0, r1, r2, r3, r4, r5, r6, r7, r8, r9⟩ := HR4.out.ten
  obtain ⟨z0, z1, z2, z3, z4, z5, z6, z7, z8, z9⟩ := whole_free HR4.out
  go_wp2_with fail
  refine tree_ret Try.results39 (w.heap.size + 1) rfl HR4.out ?_
  rw [HEQ.out]
  exact HMT.out

/-- A tree made plain, if it is right; else none. -/
def PlainOf (t T : Tr) : Prop := (RightT t ∧ T = simpleT t) ∨ (¬ RightT t ∧ T = noTr)
set_option maxHeartbeats 4000000 in
set_option maxRecDepth 100000 in
theorem smSimpleTop_any (t : Tr) (hp : partsR t ≤ 10000000000) (AF : Nat → Prop) (v : Value) (w : World) (hA : ∀ b, AF b → b < w.heap.size) (h0 : TreF AF w t v) : Calls Try.prog 22 #[v] w (fun e w' => ∃ T, PlainOf t T ∧ TurnedPost AF T w e w') := by
  have H0 := Lib.hid h0
  have h := h0.tre
  obtain ⟨A, n, c, a2, s, c2, hn, hs, rfl, hnb, hsb, hK, hS, hF⟩ := h.opened
  obtain ⟨w1, hw1⟩ : ∃ w1, (w.alloc (.cells #[.int .i64 t.fld.op, .slice A n c, .int .i32 t.fld.rune, .slice a2 s c2, .int .i64 t.fld.at', .int .i64 t.fld.cap, .string t.fld.name, .int .i64 t.fld.min, .int .i64 t.fld.max, .bool t.fld.lazy] 45)).alloc (.cells #[.int .i64 0, .slice none 0 0, .int .i32 0, .slice none 0 0, .int .i64 0, .int .i64 0, .string ⟨#[]⟩, .int .i64 0, .int .i64 0, .bool false] 45) = w1 := ⟨_, rfl⟩
  have hb1 : Below w.heap.size w w1 := by rw [← hw1]; exact ((Below.refl _ w).alloc (Nat.le_refl _) _).alloc (by simp) _
  have hE1 : Whole w1 w.heap.size 45 #[.int .i64 t.fld.op, .slice A n c, .int .i32 t.fld.rune, .slice a2 s c2, .int .i64 t.fld.at', .int .i64 t.fld.cap, .string t.fld.name, .int .i64 t.fld.min, .int .i64 t.fld.max, .bool t.fld.lazy] := by rw [← hw1]; exact Whole.alloc (heap_alloc_new w _) _
  have hR1 : Whole w1 (w.heap.size + 1) 45 #[.int .i64 0, .slice none 0 0, .int .i32 0, .slice none 0 0, .int .i64 0, .int .i64 0, .string ⟨#[]⟩, .int .i64 0, .int .i64 0, .bool false] := by
    rw [← hw1]
    have := heap_alloc_new (w.alloc (.cells #[.int .i64 t.fld.op, .slice A n c, .int .i32 t.fld.rune, .slice a2 s c2, .int .i64 t.fld.at', .int .i64 t.fld.cap, .string t.fld.name, .int .i64 t.fld.min, .int .i64 t.fld.max, .bool t.fld.lazy] 45)) (.cells #[.int .i64 0, .slice none 0 0, .int .i32 0, .slice none 0 0, .int .i64 0, .int .i64 0, .string ⟨#[]⟩, .int .i64 0, .int .i64 0, .bool false] 45)
    simpa [Whole] using this
  have hs1 : w1.heap.size = w.heap.size + 2 := by rw [← hw1]; simp
  have hT1 : TreF AF w1 t _ := TreF.same H0.out (same_below hb1) (fun _ h _ => h)
  have HB1 := Lib.hid hb1; have HE1 := Lib.hid hE1; have HR1 := Lib.hid hR1; have HW1 := Lib.hid hw1; have HS1 := Lib.hid hs1; have HT1 := Lib.hid hT1; have HN := Lib.hid hn; have HA := Lib.hid hA; have HF := Lib.hid hF
  clear h h0 hb1 hE1 hR1 hw1 hs1 hT1 hK hS hn hs hF hA
  go_enter Try.func22, Try.ntmps22
  go_upto_region 1 with (fail)
  rw [HW1.out]

  have HD := Lib.hid (pright_any t hp _ w1 HT1.out.tre)
  obtain ⟨b0, b1, b2, b3, b4, b5, b6, b7, b8, b9⟩ := HE1.out.ten
  go_wp2_with fail
  refine HD.out.mono ?_
  rintro e w2 ⟨B, rfl, hq, hb2⟩
  have HB2 := Lib.hid (HB1.out.trans (hb2.mono HB1.out.size)); have HT2 := Lib.hid (HT1.out.same (same_below hb2) (fun _ h _ => h)); have HQ := Lib.hid hq; have HS2 := Lib.hid hb2.size
  have HE2 := Lib.hid (HE1.out.below hb2 HE1.out.lt)
  have HR2 := Lib.hid (HR1.out.below hb2 HR1.out.lt)
  clear hb2 hq HD b0 b1 b2 b3 b4 b5 b6 b7 b8 b9
  rcases B with _ | _
  · have HN2 : Hid (¬ RightT t) := Lib.hid fun h => by have := HQ.out.2 h; cases this
    clear HQ
    obtain ⟨r0, r1, r2, r3, r4, r5, r6, r7, r8, r9⟩ := HR2.out.ten
    obtain ⟨z0, z1, z2, z3, z4, z5, z6, z7, z8, z9⟩ := whole_free HR2.out
    go_wp2_with fail
    refine tree_ret Try.results22 (w.heap.size + 1) rfl HR2.out ?_
    exact ⟨noTr, .inr ⟨HN2.out, rfl⟩, _, rfl, noTr_tre _ _, set10_below HB2.out (by omega) _ _ _ _ _ _ _ _ _ _⟩
  have HR := Lib.hid (HQ.out.1 (by simp))
  clear HQ
  have HI := Lib.hid (smSimple_all t HR.out.2.2.1 HR.out.2.1 AF _ w2 (fun b hb => by have := HA.out b hb; have := HS1.out; have := HS2.out; omega) HT2.out)
  obtain ⟨b0, b1, b2, b3, b4, b5, b6, b7, b8, b9⟩ := HE2.out.ten
  go_wp2_with fail
  refine HI.out.mono ?_
  rintro e w3 ⟨v3, rfl, ht3, hb3⟩
  obtain ⟨kv2, sv2, rfl, ⟨x1, x2, x3, rfl⟩, ⟨y1, y2, y3, rfl⟩⟩ := ht3.ten
  have HR3 := Lib.hid (HR2.out.below hb3 HR2.out.lt)
  have HM := Lib.hid (out_tree (AF := AF) (w := w) (r := w.heap.size + 1) (ht3.same (fun _ _ _ => rfl) fun b hb _ => by
    have h1 := HS1.out; have h2 := HS2.out
    rcases hb with hb | hb
    · exact ⟨.inl hb, by have := HA.out b hb; omega⟩
    · exact ⟨.inr (by omega), by omega⟩) (HB2.out.trans (hb3.mono HB2.out.size)) (Nat.le_succ _))
  clear ht3 hb3 b0 b1 b2 b3 b4 b5 b6 b7 b8 b9 HI
  obtain ⟨r0, r1, r2, r3, r4, r5, r6, r7, r8, r9⟩ := HR3.out.ten
  obtain ⟨z0, z1, z2, z3, z4, z5, z6, z7, z8, z9⟩ := whole_free HR3.out
  go_wp2_with fail
  refine tree_ret Try.results22 (w.heap.size + 1) rfl HR3.out ?_
  exact ⟨simpleT t, .inl ⟨HR.out, rfl⟩, HM.out⟩
end Go.Proofs.Ythffdmncdoogpaa
