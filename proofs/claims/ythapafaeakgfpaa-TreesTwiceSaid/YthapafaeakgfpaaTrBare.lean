/- A tree without its groups: the law's bare. -/
import Derived.Test.YthapafaeakgfpaaTrCopied
import Derived.Test.YthapafaeakgfpaaTrMath
set_option linter.unusedVariables false
namespace Go.Proofs.Ythapafaeakgfpaa
open Go Go.RowKit

def BareOf (t : Tr) : Prop := ShapedP t → partsR t ≤ 1000000 → ∀ (AF : Nat → Prop) (v : Value) (w : World), (∀ b, AF b → b < w.heap.size) → TreF AF w t v → Calls Try.prog 24 #[v] w (TurnedPost AF (bareT t) w)

set_option maxHeartbeats 4000000 in
set_option maxRecDepth 100000 in
theorem bare_any (t : Tr) : BareOf t := by
  refine Tr.ind (P := BareOf) (fun t ih hsh hp AF v w hA h0 => ?_) t
  have IH := Lib.hid ih
  have H0 := Lib.hid h0
  have h := h0.tre
  obtain ⟨A, n, c, a2, s, c2, hn, hs, rfl, hnb, hsb, hK, hS, hF⟩ := h.opened
  obtain ⟨w1, hw1⟩ : ∃ w1, (w.alloc (.cells #[.int .i64 t.fld.op, .slice A n c, .int .i32 t.fld.rune, .slice a2 s c2, .int .i64 t.fld.at', .int .i64 t.fld.cap, .string t.fld.name, .int .i64 t.fld.min, .int .i64 t.fld.max, .bool t.fld.lazy] 27)).alloc (.cells #[.int .i64 0, .slice none 0 0, .int .i32 0, .slice none 0 0, .int .i64 0, .int .i64 0, .string ⟨#[]⟩, .int .i64 0, .int .i64 0, .bool false] 27) = w1 := ⟨_, rfl⟩
  have hb1 : Below w.heap.size w w1 := by rw [← hw1]; exact ((Below.refl _ w).alloc (Nat.le_refl _) _).alloc (by simp) _
  have hE1 : Whole w1 w.heap.size 27 #[.int .i64 t.fld.op, .slice A n c, .int .i32 t.fld.rune, .slice a2 s c2, .int .i64 t.fld.at', .int .i64 t.fld.cap, .string t.fld.name, .int .i64 t.fld.min, .int .i64 t.fld.max, .bool t.fld.lazy] := by rw [← hw1]; exact Whole.alloc (heap_alloc_new w _) _
  have hR1 : Whole w1 (w.heap.size + 1) 27 #[.int .i64 0, .slice none 0 0, .int .i32 0, .slice none 0 0, .int .i64 0, .int .i64 0, .string ⟨#[]⟩, .int .i64 0, .int .i64 0, .bool false] := by
    rw [← hw1]
    have := heap_alloc_new (w.alloc (.cells #[.int .i64 t.fld.op, .slice A n c, .int .i32 t.fld.rune, .slice a2 s c2, .int .i64 t.fld.at', .int .i64 t.fld.cap, .string t.fld.name, .int .i64 t.fld.min, .int .i64 t.fld.max, .bool t.fld.lazy] 27)) (.cells #[.int .i64 0, .slice none 0 0, .int .i32 0, .slice none 0 0, .int .i64 0, .int .i64 0, .string ⟨#[]⟩, .int .i64 0, .int .i64 0, .bool false] 27)
    simpa [Whole] using this
  have hs1 : w1.heap.size = w.heap.size + 2 := by rw [← hw1]; simp
  have hT1 : TreF AF w1 t _ := TreF.same H0.out (same_below hb1) (fun _ h _ => h)
  have HB1 := Lib.hid hb1; have HE1 := Lib.hid hE1; have HR1 := Lib.hid hR1; have HW1 := Lib.hid hw1; have HS1 := Lib.hid hs1; have HT1 := Lib.hid hT1; have HN := Lib.hid hn; have HA := Lib.hid hA; have HSH := Lib.hid hsh; have HF := Lib.hid hF
  obtain ⟨b0, b1, b2, b3, b4, b5, b6, b7, b8, b9⟩ := hE1.ten
  obtain ⟨op, hop⟩ : ∃ op, t.fld.op = op := ⟨_, rfl⟩
  rw [hop] at b0
  have HOP := Lib.hid hop
  clear h h0 ih hb1 hE1 hR1 hw1 hs1 hT1 hK hS hn hs hF hA hsh hop
  go_enter Try.func24, Try.ntmps24
  go_upto_region 1 with (fail)
  rw [HW1.out]
  by_cases h6 : op = 6
  · subst h6
    have hk1 : t.kids.length = 1 := ((shapedP_iff t).1 HSH.out).2.1.1 (.inl HOP.out)
    obtain ⟨b, o, cc, ss, tk, kv, sv, hv, htk, hm, ⟨c0, c1, c2', c3, c4, c5, c6, c7, c8, c9⟩, hTk⟩ := HT1.out.kid 0 (by omega)
    obtain ⟨hkv, -⟩ := treC_inj (f := t.fld) hv
    rw [hkv, hk1] at b1
    have hsk := ((shapedP_iff t).1 HSH.out).2.2.2 tk hm
    have hpk := partsR_kid hm
    have hres : bareT t = bareT tk := by
      rw [bareT_eq, if_pos HOP.out]
      obtain ⟨f, ks⟩ := t
      match ks, hk1, htk with
      | [q], _, htk =>
        have : q = tk := htk
        rw [this]
        rfl
    have HI := Lib.hid (IH.out tk hm hsk (by omega) AF _ w1 (fun b hb => by have := HA.out b hb; have := HS1.out; omega) hTk)
    have HRES := Lib.hid hres
    clear hv hkv htk hm hTk hsk hres hk1
    simp only [Nat.zero_mul, Nat.add_zero] at c0 c1 c2' c3 c4 c5 c6 c7 c8 c9
    go_wp2_with fail
    refine HI.out.mono ?_
    rintro e w2 ⟨v2, rfl, ht2, hb2⟩
    obtain ⟨kv2, sv2, rfl, ⟨x1, x2, x3, rfl⟩, ⟨y1, y2, y3, rfl⟩⟩ := ht2.ten
    have HT2 := Lib.hid ht2
    have HB2 := Lib.hid (HB1.out.trans (hb2.mono HB1.out.size))
    have hR2 : Whole w2 (w.heap.size + 1) 27 #[.int .i64 0, .slice none 0 0, .int .i32 0, .slice none 0 0, .int .i64 0, .int .i64 0, .string ⟨#[]⟩, .int .i64 0, .int .i64 0, .bool false] := HR1.out.below hb2 (by have := HS1.out; omega)
    have HR2 := Lib.hid hR2
    obtain ⟨r0, r1, r2, r3, r4, r5, r6, r7, r8, r9⟩ := hR2.ten
    obtain ⟨z0, z1, z2, z3, z4, z5, z6, z7, z8, z9⟩ := whole_free hR2
    clear ht2 hb2 hR2 b0 b1 b2 b3 b4 b5 b6 b7 b8 b9 c0 c1 c2' c3 c4 c5 c6 c7 c8 c9 HI
    go_wp2_with fail
    refine tree_ret Try.results24 (w.heap.size + 1) rfl HR2.out ?_
    refine ⟨_, rfl, ?_, set10_below HB2.out (by omega) _ _ _ _ _ _ _ _ _ _⟩
    rw [HRES.out]
    refine TreF.same HT2.out (SameOn.mono (set10_same _ _ _ _ _ _ _ _ _ _ _ _) (fun b hb e => ?_)) (fun b hb _ => hb.imp id fun h => by have := HS1.out; omega)
    have h1 := HS1.out
    rcases hb with hb | hb
    · have := HA.out b hb
      omega
    · omega
  have hbe : bareT t = .mk t.fld (t.kids.map bareT) := by rw [bareT_eq, if_neg (by rw [HOP.out]; exact h6)]
  have e6 : (op == 6) = false := beq_eq_false_iff_ne.2 h6
  have HBE := Lib.hid hbe
  clear hbe h6
  obtain ⟨z0, z1, z2, z3, z4, z5, z6, z7, z8, z9⟩ := whole_free HE1.out
  go_wp2_with fail
  obtain ⟨w4, hw4⟩ : ∃ w4, w1.setCell ⟨w.heap.size, 1, none⟩ (.slice none 0 0) = w4 := ⟨_, rfl⟩
  rw [hw4]
  have hE4 : Whole w4 w.heap.size 27 #[.int .i64 t.fld.op, .slice none 0 0, .int .i32 t.fld.rune, .slice a2 s c2, .int .i64 t.fld.at', .int .i64 t.fld.cap, .string t.fld.name, .int .i64 t.fld.min, .int .i64 t.fld.max, .bool t.fld.lazy] := by
    have := HE1.out.store 1 (.slice none 0 0)
    simp only [List.setIfInBounds_toArray, List.set_cons_zero, List.set_cons_succ] at this
    rw [hw4] at this
    exact this
  have hb4 : Below w.heap.size w w4 := by rw [← hw4]; exact HB1.out.setCell (p := ⟨w.heap.size, 1, none⟩) (Nat.le_refl _) _
  have hR4 : Whole w4 (w.heap.size + 1) 27 #[.int .i64 0, .slice none 0 0, .int .i32 0, .slice none 0 0, .int .i64 0, .int .i64 0, .string ⟨#[]⟩, .int .i64 0, .int .i64 0, .bool false] := by rw [← hw4]; exact HR1.out.far (by omega) _ _
  have hs4 : w1.heap.size ≤ w4.heap.size := by rw [← hw4]; simp [World.setCell]
  have HE4 := Lib.hid hE4; have HB4 := Lib.hid hb4; have HR4 := Lib.hid hR4; have HS4 := Lib.hid hs4
  clear hE4 hb4 hR4 hs4 hw4 b0 b1 b2 b3 b4 b5 b6 b7 b8 b9 z0 z1 z2 z3 z4 z5 z6 z7 z8 z9
  go_loopw [4] (fun i wr => ∃ k : Nat, k ≤ n ∧ i = .int .i64 k ∧ ∃ vl, Whole wr w.heap.size 27 #[.int .i64 t.fld.op, vl, .int .i32 t.fld.rune, .slice a2 s c2, .int .i64 t.fld.at', .int .i64 t.fld.cap, .string t.fld.name, .int .i64 t.fld.min, .int .i64 t.fld.max, .bool t.fld.lazy] ∧ OwnT (fun b => AF b ∨ w1.heap.size ≤ b) wr w1.heap.size vl ((t.kids.take k).map bareT) ∧ Whole wr (w.heap.size + 1) 27 #[.int .i64 0, .slice none 0 0, .int .i32 0, .slice none 0 0, .int .i64 0, .int .i64 0, .string ⟨#[]⟩, .int .i64 0, .int .i64 0, .bool false] ∧ Below w.heap.size w wr ∧ w1.heap.size ≤ wr.heap.size) (fun i _ => n - (intOf i).toNat)
  case atStart => exact ⟨0, Nat.zero_le _, rfl, _, HE4.out, ownT_none _ _ _, HR4.out, HB4.out, HS4.out⟩
  case round =>
    obtain ⟨k, hk, rfl, vl, hE, hO, hR, hB, hsz⟩ := hrel
    obtain ⟨l1, l2, l3, rfl⟩ := hO.slice
    have HE := Lib.hid hE; have HO := Lib.hid hO; have HR := Lib.hid hR; have HB := Lib.hid hB
    obtain ⟨b0, b1, b2, b3, b4, b5, b6, b7, b8, b9⟩ := hE.ten
    rw [HOP.out] at b0
    have HTr := Lib.hid (TreF.same H0.out (same_below hB) (fun _ h _ => h))
    clear hE hO hR hB
    by_cases hkn : k < n
    · have hkl : k < t.kids.length := by rw [HN.out]; exact hkn
      obtain ⟨b, o, cc, ss, tk, kv, sv, hv, htk, hm, ⟨c0, c1, c2', c3, c4, c5, c6, c7, c8, c9⟩, hTk⟩ := HTr.out.kid k hkl
      obtain ⟨hkv, -⟩ := treC_inj (f := t.fld) hv
      have hsk := ((shapedP_iff t).1 HSH.out).2.2.2 tk hm
      have hpk := partsR_kid hm
      have hlt : w.heap.size < wr.heap.size := by have := HS1.out; omega
      have hlt2 : w.heap.size + 1 < wr.heap.size := by have := HS1.out; omega
      have HI := Lib.hid (IH.out tk hm hsk (by omega) AF _ wr.drew (fun b hb => by have := HA.out b hb; show b < wr.heap.size; omega) (TreF.same hTk (same_below (Below.refl wr.heap.size wr).drew) (fun _ h _ => h)))
      have hts : (t.kids.take (k + 1)).map bareT = (t.kids.take k).map bareT ++ [bareT tk] := by rw [List.take_succ_eq_append_getElem hkl, htk]; simp
      have HTS := Lib.hid hts
      have hlk : ((t.kids.take k).map bareT).length + 1 ≤ 1172812402961 := by rw [List.length_map, List.length_take]; omega
      obtain ⟨ub, hub⟩ : ∃ ub, bareT tk = ub := ⟨_, rfl⟩
      rw [hub] at HI HTS
      rw [HN.out] at hkv
      injection hkv with e1 e2 e3
      subst e1 e3
      clear e2
      clear hv htk hm hTk hts hpk hsk hub hkl
      go_upto_region 8 with (fail)
      go_region_law (first | (go_simp; refine HI.out.mono ?_; rintro e w5 ⟨v5, rfl, ht5, hb5⟩; obtain ⟨kv5, sv5, rfl, ⟨p1, p2, p3, rfl⟩, ⟨r1, r2, r3, rfl⟩⟩ := ht5.ten; have HT5 := Lib.hid ht5; have HB5 : Hid (Below wr.heap.size wr w5) := Lib.hid ((Below.refl wr.heap.size wr).drew.trans hb5); clear ht5 hb5; have g1 := (HE.out.below HB5.out hlt).cell 1; have g2 := ((HE.out.below HB5.out hlt).alloc (.cells #[.int .i64 ub.fld.op, .slice p1 p2 p3, .int .i32 ub.fld.rune, .slice r1 r2 r3, .int .i64 ub.fld.at', .int .i64 ub.fld.cap, .string ub.fld.name, .int .i64 ub.fld.min, .int .i64 ub.fld.max, .bool ub.fld.lazy] 27)).cell 1; simp only [List.getElem?_toArray, List.getElem?_cons_succ, List.getElem?_cons_zero] at g1 g2) | (refine step_append_trs rfl (.tmp 23) (.tmp 29) rfl (fun b => AF b ∨ w1.heap.size ≤ b) w1.heap.size _ ((t.kids.take k).map bareT) rfl ((HO.out.below HB5.out).below ((Below.refl _ w5).alloc (Nat.le_refl _) _)) ⟨w5.heap.size, 0, none⟩ 1 1 [ub] rfl (kds_one HT5.out _ (fun b hb _ => ⟨fun e => hb.elim (fun h => (by have h1 := HA.out b h; have h2 := HO.out.base b e; have h3 := HS1.out; omega)) (fun h => HO.out.off b h e), hb.imp id fun h => Nat.le_trans hsz h⟩)) (by simp only [List.length_singleton]; exact hlk) (by have := HB5.out.size; simp; omega) ?_; intro v6 w6 ho6 hg6 _; obtain ⟨q1, q2, q3, rfl⟩ := ho6.slice; have HO6 := Lib.hid ho6; have HG6 := Lib.hid hg6; have hE6 := ((HE.out.below HB5.out hlt).alloc (.cells #[.int .i64 ub.fld.op, .slice p1 p2 p3, .int .i32 ub.fld.rune, .slice r1 r2 r3, .int .i64 ub.fld.at', .int .i64 ub.fld.cap, .string ub.fld.name, .int .i64 ub.fld.min, .int .i64 ub.fld.max, .bool ub.fld.lazy] 27)).grown hg6 (fun e => (by have := HO.out.base _ e; have := HS1.out; omega)); have HE6 := Lib.hid hE6; have f1 := hE6.cell 1; have z1 := hE6.free 1; simp only [List.getElem?_toArray, List.getElem?_cons_succ, List.getElem?_cons_zero] at f1; clear ho6 hg6 hE6))
      all_goals
        have h6 : w1.heap.size ≤ w6.heap.size := by have := HG6.out.size; have := HB5.out.size; simp at *; omega
        have hBb : Below w.heap.size w w6 := ((HB.out.trans (HB5.out.mono HB.out.size)).alloc (by have := HB5.out.size; omega) _).grown HG6.out (by have := HB5.out.size; simp; omega) (fun j hj => (by have := HO.out.base j hj; have := HS1.out; omega))
        have hRr : Whole w6 (w.heap.size + 1) 27 #[.int .i64 0, .slice none 0 0, .int .i32 0, .slice none 0 0, .int .i64 0, .int .i64 0, .string ⟨#[]⟩, .int .i64 0, .int .i64 0, .bool false] := ((HR.out.below HB5.out hlt2).alloc _).grown HG6.out (fun e => (by have := HO.out.base _ e; have := HS1.out; omega))
        have H6 := Lib.hid h6; have HBB := Lib.hid hBb; have HRR := Lib.hid hRr
        clear h6 hBb hRr
        go_wp2_with fail
        go_roundw
        case rel =>
          refine ⟨k + 1, by omega, by go_num, .slice q1 q2 q3, ?_, ?_, HRR.out.far (by omega) _ _, HBB.out.setCell (p := ⟨w.heap.size, 1, none⟩) (Nat.le_refl _) _, by have := H6.out; simpa [World.setCell] using this⟩
          · have := HE6.out.store 1 (.slice q1 q2 q3)
            simp only [List.setIfInBounds_toArray, List.set_cons_zero, List.set_cons_succ] at this
            exact this
          · rw [HTS.out]
            exact HO6.out.store (by have := HS1.out; omega) (fun k hk => hk.elim (fun h => (by have := HA.out k h; omega)) (fun h => (by have := HS1.out; omega))) _ _
        case measure => simp [intOf]; omega
    · have hk2 : t.kids.take k = t.kids := List.take_of_length_le (by rw [HN.out]; omega)
      have hT : TreF (fun b => AF b ∨ w1.heap.size ≤ b) wr (bareT t) (.agg #[.int .i64 t.fld.op, .slice l1 l2 l3, .int .i32 t.fld.rune, .slice a2 s c2, .int .i64 t.fld.at', .int .i64 t.fld.cap, .string t.fld.name, .int .i64 t.fld.min, .int .i64 t.fld.max, .bool t.fld.lazy]) := by
        rw [HBE.out, treF_iff]
        have hk := HO.out
        rw [hk2] at hk
        have h9 := HTr.out
        rw [treF_iff] at h9
        obtain ⟨kv9, sv9, e9, hs9, -⟩ := h9
        obtain ⟨-, rfl⟩ := treC_inj (f := t.fld) e9
        exact ⟨.slice l1 l2 l3, .slice a2 s c2, rfl, ⟨hs9.1, hs9.2.imp id fun h b hb => .inl (h b hb)⟩, HF.out, hk.kdsF (by rw [List.length_map, HN.out]; exact hnb) (fun b h => .inr h) (fun b h => h)⟩
      have HTT := Lib.hid hT
      obtain ⟨r0, r1, r2, r3, r4, r5, r6, r7, r8, r9⟩ := HR.out.ten
      obtain ⟨z0, z1, z2, z3, z4, z5, z6, z7, z8, z9⟩ := whole_free HR.out
      clear hk2 hT
      rw [← HOP.out] at b0
      go_wp2_with fail
      refine tree_ret Try.results24 (w.heap.size + 1) rfl HR.out ?_
      refine ⟨_, rfl, ?_, set10_below HB.out (by omega) _ _ _ _ _ _ _ _ _ _⟩
      refine TreF.same HTT.out (SameOn.mono (set10_same _ _ _ _ _ _ _ _ _ _ _ _) (fun b hb e => ?_)) (fun b hb _ => hb.imp id fun h => by have := HS1.out; omega)
      have h1 := HS1.out
      rcases hb with hb | hb
      · have := HA.out b hb
        omega
      · omega
end Go.Proofs.Ythapafaeakgfpaa
