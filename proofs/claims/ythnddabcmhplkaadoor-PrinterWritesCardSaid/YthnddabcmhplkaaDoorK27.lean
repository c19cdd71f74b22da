/- Texts merged by program: RwTextB, RwTextC, RwTextD, RwTextE, RwText. No condition. -/
import Derived.Test.YthnddabcmhplkaaDoorK24
import Derived.Test.YthnddabcmhplkaaDoorK26
import Derived.Deep.DeepCutAuto
set_option linter.unusedVariables false
/- The document's text of a tree: lists with a sign between. Written by gen9wtext.py. -/
namespace Go.Proofs.YthnddabcmhplkaaDoor
open Go Go.RowKit

theorem join_take_le (l : List (List UInt8)) (k : Nat) : (joinP (l.take k)).length ≤ (joinP l).length := by
  by_cases h1 : l.take k = []
  · rw [h1]
    exact Nat.zero_le _
  by_cases h2 : l.drop k = []
  · rw [List.take_of_length_le (by simpa using h2)]
    exact Nat.le_refl _
  conv => rhs; rw [← List.take_append_drop k l, joinP_append _ _ h1 h2]
  rw [List.length_append]
  omega
theorem join_take_one (l : List (List UInt8)) (h : 0 < l.length) : joinP (l.take 1) = l[0] := by
  cases l with
  | nil => simp at h
  | cons x l => rfl
theorem join_take_next (l : List (List UInt8)) (k : Nat) (h0 : 0 < k) (h : k < l.length) : joinP (l.take (k + 1)) = joinP (l.take k) ++ 124 :: l[k] := by
  rw [List.take_succ_eq_append_getElem h, joinP_append _ _ (by intro e; have h3 : (l.take k).length = k := (by rw [List.length_take]; omega); rw [e] at h3; simp at h3; omega) (by simp)]
  rfl
set_option maxHeartbeats 40000000 in
set_option maxRecDepth 100000 in
theorem text9_alt {t : Tr} (hk : (soleT t).fld.op = 12) (hs0 : ShapedP t) (hp : partsR t ≤ 10000000000) (hC : ∀ k, partsR k < partsR t → ShapedP k → Text9 k) : Text9 t := by
  intro v w h hD hP
  have HD := Lib.hid hD; have HPW := Lib.hid hP
  clear hD hP
  have q1 := sole_all t hs0
  have hlen := text_len (soleT t) q1.1
  have hkids : ∀ k ∈ (soleT t).kids, ShapedP k ∧ partsR k < partsR t ∧ Text9 k ∧ Text9 (soleT k) := fun k hk => by
    have h1 := ((shapedP_iff _).1 q1.1).2.2.2 k hk
    have h2 := partsR_kid hk
    have h3 := sole_all k h1
    exact ⟨h1, by omega, hC k (by omega) h1, hC _ (by omega) h3.1⟩
  have HKI := Lib.hid hk
  clear hk
  have hflds := ((shapedP_iff _).1 q1.1).1
  have hnum := ((shapedP_iff _).1 q1.1).2.1
  have hnl := sole_not t
  have hplen : (textT (soleT t)).length ≤ 100000000000000 := by omega
  have hpu : partsR (soleT t) ≤ 10000000000 := by omega
  rw [← q1.2.2]
  clear hlen hC hs0 q1
  have hF := h.foot
  obtain ⟨u, hu⟩ : ∃ u, soleT t = u := ⟨_, rfl⟩
  rw [hu] at hkids HKI hflds hnum hnl hplen hpu ⊢
  have HU := Lib.hid hu
  clear hu
  have HKD := Lib.hid hkids; have HFL := Lib.hid hflds; have HNUM := Lib.hid hnum; have HNL := Lib.hid hnl
  clear hkids hflds hnum hnl
  obtain ⟨O, hO⟩ : ∃ O, textT u = O := ⟨_, rfl⟩
  rw [hO] at hplen ⊢
  have HO := Lib.hid hO
  clear hO
  obtain ⟨A, n, c, a2, s, c2, hn, hs, rfl, hnb, hsb, hK, hS, hFl⟩ := h.opened
  obtain ⟨w1, hw1⟩ : ∃ w1, w.alloc (.cells #[.int .i64 t.fld.op, .slice A n c, .int .i32 t.fld.rune, .slice a2 s c2, .int .i64 t.fld.at', .int .i64 t.fld.cap, .string t.fld.name, .int .i64 t.fld.min, .int .i64 t.fld.max, .bool t.fld.lazy] 27) = w1 := ⟨_, rfl⟩
  have hb1 : Below w.heap.size w w1 := by rw [← hw1]; exact (Below.refl _ w).alloc (Nat.le_refl _) _
  have hE1 : Whole w1 w.heap.size 27 #[.int .i64 t.fld.op, .slice A n c, .int .i32 t.fld.rune, .slice a2 s c2, .int .i64 t.fld.at', .int .i64 t.fld.cap, .string t.fld.name, .int .i64 t.fld.min, .int .i64 t.fld.max, .bool t.fld.lazy] := by rw [← hw1]; exact heap_alloc_new w _
  have HA := Lib.hid (bare9_any (fun b => b < w.heap.size) t _ w1 (fun b hb => Nat.lt_of_lt_of_le hb hb1.size) (hF.same (same_below hb1) (fun _ h _ => h)) hp)
  have HW1 := Lib.hid hw1; have HB1 := Lib.hid hb1; have HE1 := Lib.hid hE1
  obtain ⟨g0, g1, g2, g3, g4, g5, g6, g7, g8, g9⟩ := hE1.ten
  clear h hF hn hs hnb hsb hK hS hFl hw1 hb1 hE1
  go_enter Tryd.func11, Tryd.ntmps11
  go_upto_region 1 with (fail)
  rw [HW1.out]
  go_wp2_with fail
  refine HA.out.mono ?_
  rintro e w2 ⟨v2, rfl, ht2, hb2⟩
  rw [HU.out] at ht2
  obtain ⟨kv2, sv2, rfl, ⟨x1, x2, x3, rfl⟩, ⟨y1, y2, y3, rfl⟩⟩ := ht2.ten
  have hE2 : Whole w2 w.heap.size 27 #[.int .i64 t.fld.op, .slice A n c, .int .i32 t.fld.rune, .slice a2 s c2, .int .i64 t.fld.at', .int .i64 t.fld.cap, .string t.fld.name, .int .i64 t.fld.min, .int .i64 t.fld.max, .bool t.fld.lazy] := HE1.out.below hb2 HE1.out.lt
  obtain ⟨w3, hw3⟩ : ∃ w3, set10 w2 w.heap.size (.int .i64 u.fld.op) (.slice x1 x2 x3) (.int .i32 u.fld.rune) (.slice y1 y2 y3) (.int .i64 u.fld.at') (.int .i64 u.fld.cap) (.string u.fld.name) (.int .i64 u.fld.min) (.int .i64 u.fld.max) (.bool u.fld.lazy) = w3 := ⟨_, rfl⟩
  have hE3 : Whole w3 w.heap.size 27 #[.int .i64 u.fld.op, .slice x1 x2 x3, .int .i32 u.fld.rune, .slice y1 y2 y3, .int .i64 u.fld.at', .int .i64 u.fld.cap, .string u.fld.name, .int .i64 u.fld.min, .int .i64 u.fld.max, .bool u.fld.lazy] := by rw [← hw3]; exact set10_whole hE2 _ _ _ _ _ _ _ _ _ _
  have hsame : SameOn (fun k => k ≠ w.heap.size) w2 w3 := by rw [← hw3]; exact set10_same _ _ _ _ _ _ _ _ _ _ _ _
  have hT3 : Tre w3 u (.agg #[.int .i64 u.fld.op, .slice x1 x2 x3, .int .i32 u.fld.rune, .slice y1 y2 y3, .int .i64 u.fld.at', .int .i64 u.fld.cap, .string u.fld.name, .int .i64 u.fld.min, .int .i64 u.fld.max, .bool u.fld.lazy]) := ht2.same (fun b hb hl => hsame b (by have : b < w.heap.size := hb; omega) hl) (fun _ _ _ => trivial)
  have hB3 : Below w.heap.size w w3 := by rw [← hw3]; exact set10_below (HB1.out.trans (hb2.mono HB1.out.size)) (Nat.le_refl _) _ _ _ _ _ _ _ _ _ _
  clear g0 g1 g2 g3 g4 g5 g6 g7 g8 g9
  obtain ⟨g0, g1, g2, g3, g4, g5, g6, g7, g8, g9⟩ := hE2.ten
  obtain ⟨z0, z1, z2, z3, z4, z5, z6, z7, z8, z9⟩ := whole_free hE2
  unfold set10 at hw3
  have HW3 := Lib.hid hw3; have HE3 := Lib.hid hE3; have HT3 := Lib.hid hT3; have HB3 := Lib.hid hB3
  clear ht2 hb2 hE2 hw3 hE3 hsame hT3 hB3 HA HE1 HB1 HW1
  go_upto_region 2 with (fail)
  rw [HW3.out]
  clear g0 g1 g2 g3 g4 g5 g6 g7 g8 g9 z0 z1 z2 z3 z4 z5 z6 z7 z8 z9
  obtain ⟨r0, r1, r2, r3, r4, r5, r6, r7, r8, r9⟩ := HE3.out.ten
  have HX2 : Hid (u.kids.length = x2 ∧ Kds w3 u.kids (.slice x1 x2 x3) ∧ Rgs w3 (.slice y1 y2 y3) u.fld.set) := Lib.hid (by
    have h1 := HT3.out
    rw [tre_iff] at h1
    obtain ⟨kv', sv', e, hS, -, hK⟩ := h1
    obtain ⟨rfl, rfl⟩ := treC_inj (f := u.fld) (k1 := .slice x1 x2 x3) (s1 := .slice y1 y2 y3) e
    refine ⟨?_, hK, hS⟩
    obtain ⟨A', c', e2, -⟩ := hK
    injection e2 with _ q _
    exact q.symm)
  obtain ⟨op, hop⟩ : ∃ op, u.fld.op = op := ⟨_, rfl⟩
  have hkinds := HKI.out
  rw [hop] at hkinds r0
  have HOP := Lib.hid hop
  clear hop HKI
  have LF : Hid ((op = 1 ∨ op = 2 ∨ op = 3 ∨ op = 4 ∨ op = 5) → O = if op = 1 then noneP else if op = 2 then emptyP else if op = 3 then oneZ u.fld.rune else if op = 4 then setP u.fld.set else placeP u.fld.at') := Lib.hid (fun h => by rw [← HO.out, ← HOP.out]; exact text_leaf (by rw [HOP.out]; exact h))
  clear LF
  obtain rfl : op = 12 := hkinds
  obtain ⟨hx, hKD, -⟩ := HX2.out
  have hxb : x2 ≤ 1172812402961 := by
    obtain ⟨_, _, _, _, _, h4, -, -⟩ := hKD
    omega
  have HKS := Lib.hid hKD; have HXN := Lib.hid hx
  obtain ⟨L, hL⟩ : ∃ L, u.kids.map textT = L := ⟨_, rfl⟩
  have hll : L.length = x2 := by rw [← hL, List.length_map, hx]
  have hOJ : O = joinP L := by rw [← HO.out, text_alt HOP.out, hL]
  have hfit : ∀ k, (joinP (L.take k)).length ≤ 100000000000000 := fun k => Nat.le_trans (join_take_le L k) (by rw [← hOJ]; exact hplen)
  have HL := Lib.hid hL; have HLL := Lib.hid hll; have HOJ := Lib.hid hOJ; have HFIT := Lib.hid hfit
  clear hx hKD hL hll hOJ hfit hplen
  go_wp2_with fail
  go_loopw [6, 7] (fun s i wr => ∃ k : Nat, k ≤ x2 ∧ i = .int .i64 k ∧ s = .string (textB (joinP (L.take k))) ∧ Below w3.heap.size w3 wr) (fun _ i _ => x2 - (intOf i).toNat)
  case atStart => exact ⟨0, Nat.zero_le _, rfl, rfl, Below.refl _ _⟩
  case round =>
    obtain ⟨k, hk, rfl, rfl, hB⟩ := hrel
    have HB := Lib.hid hB
    have hEr := HE3.out.below hB HE3.out.lt
    have hKr := HKS.out.below hB
    clear hB
    obtain ⟨r0, r1, r2, r3, r4, r5, r6, r7, r8, r9⟩ := hEr.ten
    have hz0 : (textB (joinP (L.take k))).size ≤ 100000000000000 := HFIT.out k
    by_cases hkn : k < x2
    · have hkl : k < u.kids.length := by rw [HXN.out]; exact hkn
      have hkL : k < L.length := by rw [HLL.out]; exact hkn
      obtain ⟨b, o, tk, m1, m2, m3, p1, p2, p3, rfl, htk, hm, ⟨c0, c1, c2', c3, c4, c5, c6, c7, c8, c9⟩, hTk⟩ := hKr.kidS k hkl
      have hLk : L[k] = textT tk := by
        have : L[k]? = some (textT tk) := by rw [← HL.out, List.getElem?_map, List.getElem?_eq_getElem hkl, htk]; rfl
        rw [List.getElem?_eq_getElem hkL] at this
        exact Option.some.inj this
      have HI := Lib.hid ((HKD.out tk hm).2.2.1 _ _ hTk (HD.out.below (HB3.out.trans (HB.out.mono HB3.out.size))) (HPW.out.below (HB3.out.trans (HB.out.mono HB3.out.size))))
      have hfn := HFIT.out (k + 1)
      obtain ⟨X, hX⟩ : ∃ X, textB (textT tk) = X := ⟨_, rfl⟩
      obtain ⟨S, hS⟩ : ∃ S, textB (joinP (L.take k)) = S := ⟨_, rfl⟩
      have hzX : X.size ≤ 100000000000000 := by
        rw [← hX, textB_size, ← hLk]
        rcases Nat.eq_zero_or_pos k with e | e
        · subst e
          have := join_take_one L hkL
          rw [← this]
          exact hfn
        · have := join_take_next L k e hkL
          rw [this, List.length_append, List.length_cons] at hfn
          omega
      unfold TextZ at HI
      rw [hX] at HI
      rw [hS] at hz0 ⊢
      have q1 := cat9w S ⟨#[124]⟩ (by show S.size + 1 ≤ _; omega)
      have q2 := cat9w (S ++ ⟨#[124]⟩) X (by rw [ByteArray.size_append]; show S.size + 1 + X.size ≤ _; omega)
      have q3 := cat9w S X (by omega)
      rcases Nat.eq_zero_or_pos k with e | e
      · subst e
        have HZ : Hid (textB (joinP (L.take 1)) = S ++ X) := Lib.hid (by rw [join_take_one L hkL, hLk, hX, ← hS]; simp [joinP]; apply ByteArray.ext; rw [ByteArray.data_append]; simp [textB])
        clear hKr htk hm hTk hLk hfn hX hS hz0 hzX q1 q2 hEr
        simp only [Nat.zero_mul, Nat.add_zero] at c0 c1 c2' c3 c4 c5 c6 c7 c8 c9
        go_wp2_with fail
        refine HI.out.mono ?_
        rintro e w4 ⟨rfl, hb⟩
        have HB4 := Lib.hid (HB.out.trans (hb.mono HB.out.size))
        clear hb c0 c1 c2' c3 c4 c5 c6 c7 c8 c9 r0 r1 r2 r3 r4 r5 r6 r7 r8 r9
        go_wp2_with fail
        go_roundw
        case rel => exact ⟨1, by omega, by go_num, by rw [HZ.out], HB4.out⟩
        case measure => simp [intOf]; omega
      · have HZ : Hid (textB (joinP (L.take (k + 1))) = S ++ ⟨#[124]⟩ ++ X) := Lib.hid (by rw [join_take_next L k e hkL, hLk, ← hS, ← hX]; show _ = textB _ ++ textB [124] ++ textB _; rw [textB_app9, textB_app9]; simp)
        have ek : (0 : Int) < (k : Int) := by omega
        clear hKr htk hm hTk hLk hfn hX hS hz0 hzX q3 hEr
        go_wp2_with fail
        refine HI.out.mono ?_
        rintro e w4 ⟨rfl, hb⟩
        have HB4 := Lib.hid (HB.out.trans (hb.mono HB.out.size))
        clear hb c0 c1 c2' c3 c4 c5 c6 c7 c8 c9 r0 r1 r2 r3 r4 r5 r6 r7 r8 r9
        go_wp2_with fail
        go_roundw
        case rel => exact ⟨k + 1, by omega, by go_num, by rw [HZ.out], HB4.out⟩
        case measure => simp [intOf]; omega
    · have hke : L.take k = L := List.take_of_length_le (by rw [HLL.out]; omega)
      have HZ : Hid (joinP (L.take k) = O) := Lib.hid (by rw [hke, HOJ.out])
      have z1 : ¬ (k : Int) < (x2 : Int) := by omega
      clear hKr hEr hke
      go_wp2_with fail
      go_ret
      exact ⟨by rw [← HZ.out]; rfl, HB3.out.trans (HB.out.mono HB3.out.size)⟩
end Go.Proofs.YthnddabcmhplkaaDoor
/- The document's text of a tree: parts behind one another. Written by gen9wtext.py. -/
namespace Go.Proofs.YthnddabcmhplkaaDoor
open Go Go.RowKit

theorem flat_take_le (f : Tr → List UInt8) (l : List Tr) (k : Nat) : (((l.take k).map f).flatten).length ≤ ((l.map f).flatten).length := by
  conv => rhs; rw [← List.take_append_drop k l, List.map_append, List.flatten_append]
  rw [List.length_append]
  omega
theorem flat_take_next (f : Tr → List UInt8) (l : List Tr) (k : Nat) (h : k < l.length) : ((l.take (k + 1)).map f).flatten = ((l.take k).map f).flatten ++ f l[k] := by
  rw [List.take_succ_eq_append_getElem h, List.map_append, List.flatten_append]
  simp
set_option maxHeartbeats 40000000 in
set_option maxRecDepth 100000 in
theorem text9_cat {t : Tr} (hk : (soleT t).fld.op = 11) (hs0 : ShapedP t) (hp : partsR t ≤ 10000000000) (hC : ∀ k, partsR k < partsR t → ShapedP k → Text9 k) : Text9 t := by
  intro v w h hD hP
  have HD := Lib.hid hD; have HPW := Lib.hid hP
  clear hD hP
  have q1 := sole_all t hs0
  have hlen := text_len (soleT t) q1.1
  have hkids : ∀ k ∈ (soleT t).kids, ShapedP k ∧ partsR k < partsR t ∧ Text9 k ∧ Text9 (soleT k) := fun k hk => by
    have h1 := ((shapedP_iff _).1 q1.1).2.2.2 k hk
    have h2 := partsR_kid hk
    have h3 := sole_all k h1
    exact ⟨h1, by omega, hC k (by omega) h1, hC _ (by omega) h3.1⟩
  have HKI := Lib.hid hk
  clear hk
  have hflds := ((shapedP_iff _).1 q1.1).1
  have hnum := ((shapedP_iff _).1 q1.1).2.1
  have hnl := sole_not t
  have hplen : (textT (soleT t)).length ≤ 100000000000000 := by omega
  have hpu : partsR (soleT t) ≤ 10000000000 := by omega
  rw [← q1.2.2]
  clear hlen hC hs0 q1
  have hF := h.foot
  obtain ⟨u, hu⟩ : ∃ u, soleT t = u := ⟨_, rfl⟩
  rw [hu] at hkids HKI hflds hnum hnl hplen hpu ⊢
  have HU := Lib.hid hu
  clear hu
  have HKD := Lib.hid hkids; have HFL := Lib.hid hflds; have HNUM := Lib.hid hnum; have HNL := Lib.hid hnl
  clear hkids hflds hnum hnl
  obtain ⟨O, hO⟩ : ∃ O, textT u = O := ⟨_, rfl⟩
  rw [hO] at hplen ⊢
  have HO := Lib.hid hO
  clear hO
  obtain ⟨A, n, c, a2, s, c2, hn, hs, rfl, hnb, hsb, hK, hS, hFl⟩ := h.opened
  obtain ⟨w1, hw1⟩ : ∃ w1, w.alloc (.cells #[.int .i64 t.fld.op, .slice A n c, .int .i32 t.fld.rune, .slice a2 s c2, .int .i64 t.fld.at', .int .i64 t.fld.cap, .string t.fld.name, .int .i64 t.fld.min, .int .i64 t.fld.max, .bool t.fld.lazy] 27) = w1 := ⟨_, rfl⟩
  have hb1 : Below w.heap.size w w1 := by rw [← hw1]; exact (Below.refl _ w).alloc (Nat.le_refl _) _
  have hE1 : Whole w1 w.heap.size 27 #[.int .i64 t.fld.op, .slice A n c, .int .i32 t.fld.rune, .slice a2 s c2, .int .i64 t.fld.at', .int .i64 t.fld.cap, .string t.fld.name, .int .i64 t.fld.min, .int .i64 t.fld.max, .bool t.fld.lazy] := by rw [← hw1]; exact heap_alloc_new w _
  have HA := Lib.hid (bare9_any (fun b => b < w.heap.size) t _ w1 (fun b hb => Nat.lt_of_lt_of_le hb hb1.size) (hF.same (same_below hb1) (fun _ h _ => h)) hp)
  have HW1 := Lib.hid hw1; have HB1 := Lib.hid hb1; have HE1 := Lib.hid hE1
  obtain ⟨g0, g1, g2, g3, g4, g5, g6, g7, g8, g9⟩ := hE1.ten
  clear h hF hn hs hnb hsb hK hS hFl hw1 hb1 hE1
  go_enter Tryd.func11, Tryd.ntmps11
  go_upto_region 1 with (fail)
  rw [HW1.out]
  go_wp2_with fail
  refine HA.out.mono ?_
  rintro e w2 ⟨v2, rfl, ht2, hb2⟩
  rw [HU.out] at ht2
  obtain ⟨kv2, sv2, rfl, ⟨x1, x2, x3, rfl⟩, ⟨y1, y2, y3, rfl⟩⟩ := ht2.ten
  have hE2 : Whole w2 w.heap.size 27 #[.int .i64 t.fld.op, .slice A n c, .int .i32 t.fld.rune, .slice a2 s c2, .int .i64 t.fld.at', .int .i64 t.fld.cap, .string t.fld.name, .int .i64 t.fld.min, .int .i64 t.fld.max, .bool t.fld.lazy] := HE1.out.below hb2 HE1.out.lt
  obtain ⟨w3, hw3⟩ : ∃ w3, set10 w2 w.heap.size (.int .i64 u.fld.op) (.slice x1 x2 x3) (.int .i32 u.fld.rune) (.slice y1 y2 y3) (.int .i64 u.fld.at') (.int .i64 u.fld.cap) (.string u.fld.name) (.int .i64 u.fld.min) (.int .i64 u.fld.max) (.bool u.fld.lazy) = w3 := ⟨_, rfl⟩
  have hE3 : Whole w3 w.heap.size 27 #[.int .i64 u.fld.op, .slice x1 x2 x3, .int .i32 u.fld.rune, .slice y1 y2 y3, .int .i64 u.fld.at', .int .i64 u.fld.cap, .string u.fld.name, .int .i64 u.fld.min, .int .i64 u.fld.max, .bool u.fld.lazy] := by rw [← hw3]; exact set10_whole hE2 _ _ _ _ _ _ _ _ _ _
  have hsame : SameOn (fun k => k ≠ w.heap.size) w2 w3 := by rw [← hw3]; exact set10_same _ _ _ _ _ _ _ _ _ _ _ _
  have hT3 : Tre w3 u (.agg #[.int .i64 u.fld.op, .slice x1 x2 x3, .int .i32 u.fld.rune, .slice y1 y2 y3, .int .i64 u.fld.at', .int .i64 u.fld.cap, .string u.fld.name, .int .i64 u.fld.min, .int .i64 u.fld.max, .bool u.fld.lazy]) := ht2.same (fun b hb hl => hsame b (by have : b < w.heap.size := hb; omega) hl) (fun _ _ _ => trivial)
  have hB3 : Below w.heap.size w w3 := by rw [← hw3]; exact set10_below (HB1.out.trans (hb2.mono HB1.out.size)) (Nat.le_refl _) _ _ _ _ _ _ _ _ _ _
  clear g0 g1 g2 g3 g4 g5 g6 g7 g8 g9
  obtain ⟨g0, g1, g2, g3, g4, g5, g6, g7, g8, g9⟩ := hE2.ten
  obtain ⟨z0, z1, z2, z3, z4, z5, z6, z7, z8, z9⟩ := whole_free hE2
  unfold set10 at hw3
  have HW3 := Lib.hid hw3; have HE3 := Lib.hid hE3; have HT3 := Lib.hid hT3; have HB3 := Lib.hid hB3
  clear ht2 hb2 hE2 hw3 hE3 hsame hT3 hB3 HA HE1 HB1 HW1
  go_upto_region 2 with (fail)
  rw [HW3.out]
  clear g0 g1 g2 g3 g4 g5 g6 g7 g8 g9 z0 z1 z2 z3 z4 z5 z6 z7 z8 z9
  obtain ⟨r0, r1, r2, r3, r4, r5, r6, r7, r8, r9⟩ := HE3.out.ten
  have HX2 : Hid (u.kids.length = x2 ∧ Kds w3 u.kids (.slice x1 x2 x3) ∧ Rgs w3 (.slice y1 y2 y3) u.fld.set) := Lib.hid (by
    have h1 := HT3.out
    rw [tre_iff] at h1
    obtain ⟨kv', sv', e, hS, -, hK⟩ := h1
    obtain ⟨rfl, rfl⟩ := treC_inj (f := u.fld) (k1 := .slice x1 x2 x3) (s1 := .slice y1 y2 y3) e
    refine ⟨?_, hK, hS⟩
    obtain ⟨A', c', e2, -⟩ := hK
    injection e2 with _ q _
    exact q.symm)
  obtain ⟨op, hop⟩ : ∃ op, u.fld.op = op := ⟨_, rfl⟩
  have hkinds := HKI.out
  rw [hop] at hkinds r0
  have HOP := Lib.hid hop
  clear hop HKI
  have LF : Hid ((op = 1 ∨ op = 2 ∨ op = 3 ∨ op = 4 ∨ op = 5) → O = if op = 1 then noneP else if op = 2 then emptyP else if op = 3 then oneZ u.fld.rune else if op = 4 then setP u.fld.set else placeP u.fld.at') := Lib.hid (fun h => by rw [← HO.out, ← HOP.out]; exact text_leaf (by rw [HOP.out]; exact h))
  clear LF
  obtain rfl : op = 11 := hkinds
  obtain ⟨hx, hKD, -⟩ := HX2.out
  have hxb : x2 ≤ 1172812402961 := by
    obtain ⟨_, _, _, _, _, h4, -, -⟩ := hKD
    omega
  have HKS := Lib.hid hKD; have HXN := Lib.hid hx
  have h1 : u.kids.length ≠ 1 := fun e => HNL.out ⟨.inl HOP.out, e⟩
  have hO0 : x2 = 0 → O = emptyP := fun e => by rw [← HO.out]; exact text_cat0 HOP.out (List.eq_nil_of_length_eq_zero (by omega))
  have hO2 : x2 ≠ 0 → O = (u.kids.map chainT).flatten := fun e => by rw [← HO.out]; exact text_cat HOP.out (by omega)
  have hfit : ∀ k, (((u.kids.take k).map chainT).flatten).length ≤ 100000000000000 := fun k => by
    by_cases e : x2 = 0
    · rw [List.eq_nil_of_length_eq_zero (show u.kids.length = 0 by omega)]
      simp
    · exact Nat.le_trans (flat_take_le chainT u.kids k) (by rw [← hO2 e]; exact hplen)
  have HO0 := Lib.hid hO0; have HO2 := Lib.hid hO2; have HFIT := Lib.hid hfit
  clear hx hKD h1 hO0 hO2 hfit hplen
  go_wp2_with fail
  go_loopw [3, 4] (fun s i wr => ∃ k : Nat, k ≤ x2 ∧ i = .int .i64 k ∧ s = .string (textB (((u.kids.take k).map chainT).flatten)) ∧ Below w3.heap.size w3 wr) (fun _ i _ => x2 - (intOf i).toNat)
  case atStart => exact ⟨0, Nat.zero_le _, rfl, rfl, Below.refl _ _⟩
  case round =>
    obtain ⟨k, hk, rfl, rfl, hB⟩ := hrel
    have HB := Lib.hid hB
    have hEr := HE3.out.below hB HE3.out.lt
    have hKr := HKS.out.below hB
    clear hB
    have HER := Lib.hid hEr
    obtain ⟨r0, r1, r2, r3, r4, r5, r6, r7, r8, r9⟩ := hEr.ten
    have hz0 : (textB (((u.kids.take k).map chainT).flatten)).size ≤ 100000000000000 := HFIT.out k
    by_cases hkn : k < x2
    · have hkl : k < u.kids.length := by rw [HXN.out]; exact hkn
      obtain ⟨b, o, tk, m1, m2, m3, p1, p2, p3, rfl, htk, hm, ⟨c0, c1, c2', c3, c4, c5, c6, c7, c8, c9⟩, hTk⟩ := hKr.kidS k hkl
      have hkk := HKD.out tk hm
      have hq := sole_all tk hkk.1
      have hfn := HFIT.out (k + 1)
      have hnx := flat_take_next chainT u.kids k hkl
      rw [htk] at hnx
      rw [hnx, List.length_append] at hfn
      have hch : chainT tk = if (soleT tk).fld.op = 12 then wrapP (textT tk) else textT tk := rfl
      have HBR := Lib.hid (bare9_any (fun b => b < wr.heap.size) tk _ wr (fun b hb => hb) hTk.foot (by omega))
      obtain ⟨X, hX⟩ : ∃ X, textB (textT tk) = X := ⟨_, rfl⟩
      obtain ⟨S, hS⟩ : ∃ S, textB (((u.kids.take k).map chainT).flatten) = S := ⟨_, rfl⟩
      have hzX : X.size ≤ 100000000000000 := by
        rw [← hX, textB_size]
        rw [hch] at hfn
        split at hfn
        · unfold wrapP at hfn
          simp only [List.length_cons, List.length_append] at hfn
          omega
        · omega
      have hZa : (soleT tk).fld.op = 12 → textB (((u.kids.take (k + 1)).map chainT).flatten) = S ++ ⟨#[40, 63, 58]⟩ ++ X ++ ⟨#[41]⟩ := fun e => by
        rw [hnx, hch, if_pos e, ← hS, ← hX]
        show _ = textB _ ++ textB [40, 63, 58] ++ textB _ ++ textB [41]
        rw [textB_app9, textB_app9, textB_app9]
        unfold wrapP
        simp
      have hZb : (soleT tk).fld.op ≠ 12 → textB (((u.kids.take (k + 1)).map chainT).flatten) = S ++ X := fun e => by
        rw [hnx, hch, if_neg e, ← hS, ← hX, textB_app9]
      obtain ⟨uk, huk⟩ : ∃ uk, soleT tk = uk := ⟨_, rfl⟩
      have hI := hkk.2.2.2
      have hte : textT uk = textT tk := by rw [← huk]; exact hq.2.2
      unfold SolePost at HBR
      rw [huk] at HBR hZa hZb hI
      have HI : Hid (∀ vk W, Below wr.heap.size wr W → Tre W uk vk → Calls Tryd.prog 11 #[vk] W fun e w' => e = .returned (.string X) ∧ Below W.heap.size W w') := Lib.hid fun vk W hW hv => (hI vk W hv (HD.out.below (HB3.out.trans ((HB.out.trans (hW.mono HB.out.size)).mono HB3.out.size))) (HPW.out.below (HB3.out.trans ((HB.out.trans (hW.mono HB.out.size)).mono HB3.out.size)))).mono fun e w' hp => by
        unfold TextZ at hp
        rw [hte, hX] at hp
        exact hp
      rw [hS] at hz0 ⊢
      have q1 := cat9w S ⟨#[40, 63, 58]⟩ (by show S.size + 3 ≤ _; omega)
      have q2 := cat9w (S ++ ⟨#[40, 63, 58]⟩) X (by rw [ByteArray.size_append]; show S.size + 3 + X.size ≤ _; omega)
      have q3 := cat9w (S ++ ⟨#[40, 63, 58]⟩ ++ X) ⟨#[41]⟩ (by rw [ByteArray.size_append, ByteArray.size_append]; show S.size + 3 + X.size + 1 ≤ _; omega)
      have q4 := cat9w S X (by omega)
      have HZA := Lib.hid hZa; have HZB := Lib.hid hZb
      clear hKr htk hm hTk hkk hq hfn hnx hch hX hS hz0 hzX hZa hZb hI hte huk hEr
      go_wp2_with fail
      refine HBR.out.mono ?_
      rintro e w4 ⟨v4, rfl, ht4, hb4⟩
      have hT4 := ht4.tre
      obtain ⟨kv4, sv4, rfl, ⟨d1, d2, d3, rfl⟩, ⟨e1, e2, e3, rfl⟩⟩ := ht4.ten
      obtain ⟨w5, hw5⟩ : ∃ w5, w4.alloc (.cells #[.int .i64 uk.fld.op, .slice d1 d2 d3, .int .i32 uk.fld.rune, .slice e1 e2 e3, .int .i64 uk.fld.at', .int .i64 uk.fld.cap, .string uk.fld.name, .int .i64 uk.fld.min, .int .i64 uk.fld.max, .bool uk.fld.lazy] 27) = w5 := ⟨_, rfl⟩
      have hb5 : Below w4.heap.size w4 w5 := by rw [← hw5]; exact (Below.refl _ _).alloc (Nat.le_refl _) _
      have hE5 : Whole w5 w4.heap.size 27 #[.int .i64 uk.fld.op, .slice d1 d2 d3, .int .i32 uk.fld.rune, .slice e1 e2 e3, .int .i64 uk.fld.at', .int .i64 uk.fld.cap, .string uk.fld.name, .int .i64 uk.fld.min, .int .i64 uk.fld.max, .bool uk.fld.lazy] := by rw [← hw5]; exact heap_alloc_new w4 _
      have HW5 := Lib.hid hw5; have HT5 := Lib.hid (hT4.below hb5); have HB5 := Lib.hid (hb4.trans (hb5.mono hb4.size))
      clear hw5 hb5 ht4 hT4 hb4 HBR c0 c1 c2' c3 c4 c5 c6 c7 c8 c9 r0 r1 r2 r3 r4 r5 r6 r7 r8 r9
      obtain ⟨s0, s1, s2, s3, s4, s5, s6, s7, s8, s9⟩ := hE5.ten
      clear hE5
      have HI5 := Lib.hid (HI.out _ w5 HB5.out HT5.out)
      have HBB := Lib.hid (HB.out.trans (HB5.out.mono HB.out.size))
      clear HI HT5 HB5
      go_upto_region 23 with (fail)
      rw [HW5.out]
      by_cases h12 : uk.fld.op = 12
      · have HZ := Lib.hid (HZA.out h12)
        clear HZA HZB q4
        rw [h12] at s0 HI5
        go_wp2_with fail
        refine HI5.out.mono ?_
        rintro e w6 ⟨rfl, hb6⟩
        have HB6 := Lib.hid (HBB.out.trans (hb6.mono HBB.out.size))
        clear hb6 s0 s1 s2 s3 s4 s5 s6 s7 s8 s9
        go_wp2_with fail
        go_roundw
        case rel => exact ⟨k + 1, by omega, by go_num, by rw [HZ.out], HB6.out⟩
        case measure => simp [intOf]; omega
      · have HZ := Lib.hid (HZB.out h12)
        have h12b : (uk.fld.op == 12) = false := beq_eq_false_iff_ne.2 h12
        clear HZA HZB q1 q2 q3
        go_wp2_with fail
        refine HI5.out.mono ?_
        rintro e w6 ⟨rfl, hb6⟩
        have HB6 := Lib.hid (HBB.out.trans (hb6.mono HBB.out.size))
        clear hb6 s0 s1 s2 s3 s4 s5 s6 s7 s8 s9
        go_wp2_with fail
        go_roundw
        case rel => exact ⟨k + 1, by omega, by go_num, by rw [HZ.out], HB6.out⟩
        case measure => simp [intOf]; omega
    · have hke : u.kids.take k = u.kids := List.take_of_length_le (by rw [HXN.out]; omega)
      have z1 : ¬ (k : Int) < (x2 : Int) := by omega
      rw [hke]
      by_cases e0 : x2 = 0
      · have HZ := Lib.hid (HO0.out e0)
        have z2 : ((x2 : Int) == 0) = true := by rw [e0]; rfl
        clear hKr hEr hke
        go_wp2_with fail
        go_ret
        exact ⟨by rw [HZ.out]; rfl, HB3.out.trans (HB.out.mono HB3.out.size)⟩
      · have HZ := Lib.hid (HO2.out e0)
        have z2 : ((x2 : Int) == 0) = false := beq_eq_false_iff_ne.2 (by omega)
        clear hKr hEr hke
        go_wp2_with fail
        go_ret
        exact ⟨by rw [HZ.out]; rfl, HB3.out.trans (HB.out.mono HB3.out.size)⟩
end Go.Proofs.YthnddabcmhplkaaDoor
/- The document's text of a tree: groups. Written by gen9wtext.py. -/
namespace Go.Proofs.YthnddabcmhplkaaDoor
open Go Go.RowKit

set_option maxHeartbeats 40000000 in
set_option maxRecDepth 100000 in
theorem text9_cap {t : Tr} (hk : (soleT t).fld.op = 6) (hs0 : ShapedP t) (hp : partsR t ≤ 10000000000) (hC : ∀ k, partsR k < partsR t → ShapedP k → Text9 k) : Text9 t := by
  intro v w h hD hP
  have HD := Lib.hid hD; have HPW := Lib.hid hP
  clear hD hP
  have q1 := sole_all t hs0
  have hlen := text_len (soleT t) q1.1
  have hkids : ∀ k ∈ (soleT t).kids, ShapedP k ∧ partsR k < partsR t ∧ Text9 k ∧ Text9 (soleT k) := fun k hk => by
    have h1 := ((shapedP_iff _).1 q1.1).2.2.2 k hk
    have h2 := partsR_kid hk
    have h3 := sole_all k h1
    exact ⟨h1, by omega, hC k (by omega) h1, hC _ (by omega) h3.1⟩
  have HKI := Lib.hid hk
  clear hk
  have hflds := ((shapedP_iff _).1 q1.1).1
  have hnum := ((shapedP_iff _).1 q1.1).2.1
  have hnl := sole_not t
  have hplen : (textT (soleT t)).length ≤ 100000000000000 := by omega
  have hpu : partsR (soleT t) ≤ 10000000000 := by omega
  rw [← q1.2.2]
  clear hlen hC hs0 q1
  have hF := h.foot
  obtain ⟨u, hu⟩ : ∃ u, soleT t = u := ⟨_, rfl⟩
  rw [hu] at hkids HKI hflds hnum hnl hplen hpu ⊢
  have HU := Lib.hid hu
  clear hu
  have HKD := Lib.hid hkids; have HFL := Lib.hid hflds; have HNUM := Lib.hid hnum; have HNL := Lib.hid hnl
  clear hkids hflds hnum hnl
  obtain ⟨O, hO⟩ : ∃ O, textT u = O := ⟨_, rfl⟩
  rw [hO] at hplen ⊢
  have HO := Lib.hid hO
  clear hO
  obtain ⟨A, n, c, a2, s, c2, hn, hs, rfl, hnb, hsb, hK, hS, hFl⟩ := h.opened
  obtain ⟨w1, hw1⟩ : ∃ w1, w.alloc (.cells #[.int .i64 t.fld.op, .slice A n c, .int .i32 t.fld.rune, .slice a2 s c2, .int .i64 t.fld.at', .int .i64 t.fld.cap, .string t.fld.name, .int .i64 t.fld.min, .int .i64 t.fld.max, .bool t.fld.lazy] 27) = w1 := ⟨_, rfl⟩
  have hb1 : Below w.heap.size w w1 := by rw [← hw1]; exact (Below.refl _ w).alloc (Nat.le_refl _) _
  have hE1 : Whole w1 w.heap.size 27 #[.int .i64 t.fld.op, .slice A n c, .int .i32 t.fld.rune, .slice a2 s c2, .int .i64 t.fld.at', .int .i64 t.fld.cap, .string t.fld.name, .int .i64 t.fld.min, .int .i64 t.fld.max, .bool t.fld.lazy] := by rw [← hw1]; exact heap_alloc_new w _
  have HA := Lib.hid (bare9_any (fun b => b < w.heap.size) t _ w1 (fun b hb => Nat.lt_of_lt_of_le hb hb1.size) (hF.same (same_below hb1) (fun _ h _ => h)) hp)
  have HW1 := Lib.hid hw1; have HB1 := Lib.hid hb1; have HE1 := Lib.hid hE1
  obtain ⟨g0, g1, g2, g3, g4, g5, g6, g7, g8, g9⟩ := hE1.ten
  clear h hF hn hs hnb hsb hK hS hFl hw1 hb1 hE1
  go_enter Tryd.func11, Tryd.ntmps11
  go_upto_region 1 with (fail)
  rw [HW1.out]
  go_wp2_with fail
  refine HA.out.mono ?_
  rintro e w2 ⟨v2, rfl, ht2, hb2⟩
  rw [HU.out] at ht2
  obtain ⟨kv2, sv2, rfl, ⟨x1, x2, x3, rfl⟩, ⟨y1, y2, y3, rfl⟩⟩ := ht2.ten
  have hE2 : Whole w2 w.heap.size 27 #[.int .i64 t.fld.op, .slice A n c, .int .i32 t.fld.rune, .slice a2 s c2, .int .i64 t.fld.at', .int .i64 t.fld.cap, .string t.fld.name, .int .i64 t.fld.min, .int .i64 t.fld.max, .bool t.fld.lazy] := HE1.out.below hb2 HE1.out.lt
  obtain ⟨w3, hw3⟩ : ∃ w3, set10 w2 w.heap.size (.int .i64 u.fld.op) (.slice x1 x2 x3) (.int .i32 u.fld.rune) (.slice y1 y2 y3) (.int .i64 u.fld.at') (.int .i64 u.fld.cap) (.string u.fld.name) (.int .i64 u.fld.min) (.int .i64 u.fld.max) (.bool u.fld.lazy) = w3 := ⟨_, rfl⟩
  have hE3 : Whole w3 w.heap.size 27 #[.int .i64 u.fld.op, .slice x1 x2 x3, .int .i32 u.fld.rune, .slice y1 y2 y3, .int .i64 u.fld.at', .int .i64 u.fld.cap, .string u.fld.name, .int .i64 u.fld.min, .int .i64 u.fld.max, .bool u.fld.lazy] := by rw [← hw3]; exact set10_whole hE2 _ _ _ _ _ _ _ _ _ _
  have hsame : SameOn (fun k => k ≠ w.heap.size) w2 w3 := by rw [← hw3]; exact set10_same _ _ _ _ _ _ _ _ _ _ _ _
  have hT3 : Tre w3 u (.agg #[.int .i64 u.fld.op, .slice x1 x2 x3, .int .i32 u.fld.rune, .slice y1 y2 y3, .int .i64 u.fld.at', .int .i64 u.fld.cap, .string u.fld.name, .int .i64 u.fld.min, .int .i64 u.fld.max, .bool u.fld.lazy]) := ht2.same (fun b hb hl => hsame b (by have : b < w.heap.size := hb; omega) hl) (fun _ _ _ => trivial)
  have hB3 : Below w.heap.size w w3 := by rw [← hw3]; exact set10_below (HB1.out.trans (hb2.mono HB1.out.size)) (Nat.le_refl _) _ _ _ _ _ _ _ _ _ _
  clear g0 g1 g2 g3 g4 g5 g6 g7 g8 g9
  obtain ⟨g0, g1, g2, g3, g4, g5, g6, g7, g8, g9⟩ := hE2.ten
  obtain ⟨z0, z1, z2, z3, z4, z5, z6, z7, z8, z9⟩ := whole_free hE2
  unfold set10 at hw3
  have HW3 := Lib.hid hw3; have HE3 := Lib.hid hE3; have HT3 := Lib.hid hT3; have HB3 := Lib.hid hB3
  clear ht2 hb2 hE2 hw3 hE3 hsame hT3 hB3 HA HE1 HB1 HW1
  go_upto_region 2 with (fail)
  rw [HW3.out]
  clear g0 g1 g2 g3 g4 g5 g6 g7 g8 g9 z0 z1 z2 z3 z4 z5 z6 z7 z8 z9
  obtain ⟨r0, r1, r2, r3, r4, r5, r6, r7, r8, r9⟩ := HE3.out.ten
  have HX2 : Hid (u.kids.length = x2 ∧ Kds w3 u.kids (.slice x1 x2 x3) ∧ Rgs w3 (.slice y1 y2 y3) u.fld.set) := Lib.hid (by
    have h1 := HT3.out
    rw [tre_iff] at h1
    obtain ⟨kv', sv', e, hS, -, hK⟩ := h1
    obtain ⟨rfl, rfl⟩ := treC_inj (f := u.fld) (k1 := .slice x1 x2 x3) (s1 := .slice y1 y2 y3) e
    refine ⟨?_, hK, hS⟩
    obtain ⟨A', c', e2, -⟩ := hK
    injection e2 with _ q _
    exact q.symm)
  obtain ⟨op, hop⟩ : ∃ op, u.fld.op = op := ⟨_, rfl⟩
  have hkinds := HKI.out
  rw [hop] at hkinds r0
  have HOP := Lib.hid hop
  clear hop HKI
  have LF : Hid ((op = 1 ∨ op = 2 ∨ op = 3 ∨ op = 4 ∨ op = 5) → O = if op = 1 then noneP else if op = 2 then emptyP else if op = 3 then oneZ u.fld.rune else if op = 4 then setP u.fld.set else placeP u.fld.at') := Lib.hid (fun h => by rw [← HO.out, ← HOP.out]; exact text_leaf (by rw [HOP.out]; exact h))
  clear LF
  obtain rfl : op = 6 := hkinds
  obtain ⟨hx, hKD, -⟩ := HX2.out
  have h1 : u.kids.length = 1 := HNUM.out.1 (.inl HOP.out)
  obtain rfl : x2 = 1 := by omega
  obtain ⟨b, o, tk, m1, m2, m3, p1, p2, p3, rfl, htk, hm, ⟨c0, c1, c2', c3, c4, c5, c6, c7, c8, c9⟩, hTk⟩ := hKD.kidS 0 (by omega)
  simp only [Nat.zero_mul, Nat.add_zero] at c0 c1 c2' c3 c4 c5 c6 c7 c8 c9
  obtain ⟨kk, hkk⟩ := List.length_eq_one_iff.1 h1
  obtain rfl : kk = tk := by rw [← htk]; simp [hkk]
  have hO1 : O = beginP u.fld.name.toList ++ (textT kk ++ [41]) := by rw [← HO.out]; exact text_cap HOP.out hkk
  have hnm := HFL.out.2.2.2.2.2.2.2.2.2.2.2.1 HOP.out
  obtain ⟨N, hN⟩ : ∃ N, u.fld.name = N := ⟨_, rfl⟩
  rw [hN] at hO1 hnm r6
  have hzN : N.size ≤ 1000 := by
    have hl : N.toList.length = N.size := by rw [Lib.toList_data, ← Lib.size_eq]
    rcases hnm with e | e
    · rw [e] at hl
      simp at hl
      omega
    · unfold nameB at e
      simp only [Bool.and_eq_true, decide_eq_true_eq] at e
      omega
  obtain ⟨X, hX⟩ : ∃ X, textB (textT kk) = X := ⟨_, rfl⟩
  have hzX : X.size ≤ 100000000000000 := by
    rw [← hX, textB_size]
    rw [hO1, List.length_append, List.length_append] at hplen
    omega
  have HI : Hid (∀ W, Below w3.heap.size w3 W → Calls Tryd.prog 11 #[.agg #[.int .i64 kk.fld.op, .slice m1 m2 m3, .int .i32 kk.fld.rune, .slice p1 p2 p3, .int .i64 kk.fld.at', .int .i64 kk.fld.cap, .string kk.fld.name, .int .i64 kk.fld.min, .int .i64 kk.fld.max, .bool kk.fld.lazy]] W fun e w' => e = .returned (.string X) ∧ Below W.heap.size W w') := Lib.hid fun W hW => ((HKD.out kk hm).2.2.1 _ W (hTk.below hW) (HD.out.below (HB3.out.trans (hW.mono HB3.out.size))) (HPW.out.below (HB3.out.trans (hW.mono HB3.out.size)))).mono fun e w' hp => by
    unfold TextZ at hp
    rw [hX] at hp
    exact hp
  have hZ1 : N = ⟨#[]⟩ → textB O = ⟨#[40]⟩ ++ X ++ ⟨#[41]⟩ := fun e => by
    rw [hO1, ← hX, e, show beginP (⟨#[]⟩ : ByteArray).toList = [40] by kernel_rfl]
    show _ = textB [40] ++ textB _ ++ textB [41]
    rw [textB_app9, textB_app9, List.append_assoc]
  have hZ2 : N ≠ ⟨#[]⟩ → textB O = ((⟨#[40, 63, 80, 60]⟩ ++ N) ++ ⟨#[62]⟩) ++ X ++ ⟨#[41]⟩ := fun e => by
    have hne : N.toList ≠ [] := fun e2 => e (by rw [← textB_of N, e2]; rfl)
    rw [hO1, ← hX]
    unfold beginP
    rw [if_neg hne]
    conv => rhs; rw [← textB_of N]
    show _ = textB [40, 63, 80, 60] ++ textB _ ++ textB [62] ++ textB _ ++ textB [41]
    rw [textB_app9, textB_app9, textB_app9, textB_app9]
    simp
  clear hx hKD h1 htk hm hTk hkk hO1 hnm hN hX hplen
  by_cases hN0 : N = ⟨#[]⟩
  · have HZ := Lib.hid (hZ1 hN0)
    subst hN0
    have q1 := cat9w ⟨#[40]⟩ X (by show 1 + X.size ≤ _; omega)
    have q2 := cat9w (⟨#[40]⟩ ++ X) ⟨#[41]⟩ (by rw [ByteArray.size_append]; show 1 + X.size + 1 ≤ _; omega)
    have HI3 := Lib.hid (HI.out w3 (Below.refl _ _))
    clear hZ1 hZ2 hzX hzN HI
    go_wp2_with fail
    refine HI3.out.mono ?_
    rintro e w4 ⟨rfl, hb⟩
    have HB5 := Lib.hid (HB3.out.trans (hb.mono HB3.out.size))
    clear hb
    go_wp2_with fail
    go_ret
    exact ⟨by rw [HZ.out]; rfl, HB5.out⟩
  · have HZ := Lib.hid (hZ2 hN0)
    have q1 := cat9w ⟨#[40, 63, 80, 60]⟩ N (by show 4 + N.size ≤ _; omega)
    have q2 := cat9w (⟨#[40, 63, 80, 60]⟩ ++ N) ⟨#[62]⟩ (by rw [ByteArray.size_append]; show 4 + N.size + 1 ≤ _; omega)
    have q3 := cat9w (⟨#[40, 63, 80, 60]⟩ ++ N ++ ⟨#[62]⟩) X (by rw [ByteArray.size_append, ByteArray.size_append]; show 4 + N.size + 1 + X.size ≤ _; omega)
    have q4 := cat9w (⟨#[40, 63, 80, 60]⟩ ++ N ++ ⟨#[62]⟩ ++ X) ⟨#[41]⟩ (by rw [ByteArray.size_append, ByteArray.size_append, ByteArray.size_append]; show 4 + N.size + 1 + X.size + 1 ≤ _; omega)
    have hE : N.toList.isEmpty = false := by
      cases h : N.toList with
      | nil => exact absurd (by rw [← textB_of N, h]; rfl) hN0
      | cons x l => rfl
    have HB0 := Lib.hid (below_draws w3 1)
    have KP : Hid (∀ W, Below w3.heap.size w3 W → W.cell? ⟨w.heap.size, 1, none⟩ = some (.slice (some ⟨b, o, none⟩) 1 x3) ∧ W.cell? ⟨w.heap.size, 6, none⟩ = some (.string N) ∧ W.cell? ⟨b, o, none⟩ = some (.int .i64 kk.fld.op) ∧ W.cell? ⟨b, o + 1, none⟩ = some (.slice m1 m2 m3) ∧ W.cell? ⟨b, o + 2, none⟩ = some (.int .i32 kk.fld.rune) ∧ W.cell? ⟨b, o + 3, none⟩ = some (.slice p1 p2 p3) ∧ W.cell? ⟨b, o + 4, none⟩ = some (.int .i64 kk.fld.at') ∧ W.cell? ⟨b, o + 5, none⟩ = some (.int .i64 kk.fld.cap) ∧ W.cell? ⟨b, o + 6, none⟩ = some (.string kk.fld.name) ∧ W.cell? ⟨b, o + 7, none⟩ = some (.int .i64 kk.fld.min) ∧ W.cell? ⟨b, o + 8, none⟩ = some (.int .i64 kk.fld.max) ∧ W.cell? ⟨b, o + 9, none⟩ = some (.bool kk.fld.lazy)) := Lib.hid fun W hb => ⟨(hb.cell (World.block_lt_of_cell? w3 _ r1)).trans r1, (hb.cell (World.block_lt_of_cell? w3 _ r6)).trans r6, (hb.cell (World.block_lt_of_cell? w3 _ c0)).trans c0, (hb.cell (World.block_lt_of_cell? w3 _ c1)).trans c1, (hb.cell (World.block_lt_of_cell? w3 _ c2')).trans c2', (hb.cell (World.block_lt_of_cell? w3 _ c3)).trans c3, (hb.cell (World.block_lt_of_cell? w3 _ c4)).trans c4, (hb.cell (World.block_lt_of_cell? w3 _ c5)).trans c5, (hb.cell (World.block_lt_of_cell? w3 _ c6)).trans c6, (hb.cell (World.block_lt_of_cell? w3 _ c7)).trans c7, (hb.cell (World.block_lt_of_cell? w3 _ c8)).trans c8, (hb.cell (World.block_lt_of_cell? w3 _ c9)).trans c9⟩
    clear hZ1 hZ2 hzX hzN
    go_upto_region 15 with (fail)
    refine wp_region_held_drew (S := (fun w' => w'.cell? ⟨w.heap.size, 1, none⟩ = some (.slice (some ⟨b, o, none⟩) 1 x3) ∧ w'.cell? ⟨w.heap.size, 6, none⟩ = some (.string N) ∧ w'.cell? ⟨b, o, none⟩ = some (.int .i64 kk.fld.op) ∧ w'.cell? ⟨b, o + 1, none⟩ = some (.slice m1 m2 m3) ∧ w'.cell? ⟨b, o + 2, none⟩ = some (.int .i32 kk.fld.rune) ∧ w'.cell? ⟨b, o + 3, none⟩ = some (.slice p1 p2 p3) ∧ w'.cell? ⟨b, o + 4, none⟩ = some (.int .i64 kk.fld.at') ∧ w'.cell? ⟨b, o + 5, none⟩ = some (.int .i64 kk.fld.cap) ∧ w'.cell? ⟨b, o + 6, none⟩ = some (.string kk.fld.name) ∧ w'.cell? ⟨b, o + 7, none⟩ = some (.int .i64 kk.fld.min) ∧ w'.cell? ⟨b, o + 8, none⟩ = some (.int .i64 kk.fld.max) ∧ w'.cell? ⟨b, o + 9, none⟩ = some (.bool kk.fld.lazy))) (by kernel_rfl) (KP.out _ HB0.out) (fun hHeld => ?_)
    refine wpAnyH_take (i := 0) (oi := _) (v := ?_) rfl (by kernel_rfl) (by kernel_rfl) (by kernel_rfl) (fun _ _ _ h => h) (Or.inl ⟨by rfl, ?_⟩) (by assumption) ?_
    rotate_left 1
    · (intro w hSw; (try dsimp only at hSw); go_simp; (try with_reducible rfl))
    try simp only [List.getElem_toArray, List.getElem_cons_zero, Act.put, List.setIfInBounds_toArray, List.set_cons_zero, List.set_cons_succ]
    refine wpAnyH_take (i := 1) (oi := _) (v := ?_) rfl (by kernel_rfl) (by kernel_rfl) (by kernel_rfl) (fun _ _ _ h => h) (Or.inl ⟨by rfl, ?_⟩) (by assumption) ?_
    rotate_left 1
    · (intro w hSw; (try dsimp only at hSw); go_simp; (try with_reducible rfl))
    try simp only [List.getElem_toArray, List.getElem_cons_zero, List.getElem_cons_succ, Act.put, List.setIfInBounds_toArray, List.set_cons_zero, List.set_cons_succ]
    refine wpAnyH_take (i := 2) (oi := _) (v := ?_) rfl (by kernel_rfl) (by kernel_rfl) (by kernel_rfl) (fun _ _ _ h => h) (Or.inl ⟨by rfl, ?_⟩) (by assumption) ?_
    rotate_left 1
    · (intro w hSw; (try dsimp only at hSw); go_simp; (try with_reducible rfl))
    try simp only [List.getElem_toArray, List.getElem_cons_zero, List.getElem_cons_succ, Act.put, List.setIfInBounds_toArray, List.set_cons_zero, List.set_cons_succ]
    refine wpAnyH_take (i := 3) (oi := _) (v := ?_) rfl (by kernel_rfl) (by kernel_rfl) (by kernel_rfl) (fun _ _ _ h => h) (Or.inl ⟨by rfl, ?_⟩) (by assumption) ?_
    rotate_left 1
    · (intro w hSw; (try dsimp only at hSw); go_simp; (try with_reducible rfl))
    try simp only [List.getElem_toArray, List.getElem_cons_zero, List.getElem_cons_succ, Act.put, List.setIfInBounds_toArray, List.set_cons_zero, List.set_cons_succ]
    refine wpAnyH_take (i := 4) (oi := _) (v := ?_) rfl (by kernel_rfl) (by kernel_rfl) (by kernel_rfl) (fun _ _ _ h => h) (Or.inl ⟨by rfl, ?_⟩) (by assumption) ?_
    rotate_left 1
    · (intro w hSw; (try dsimp only at hSw); go_simp; (try with_reducible rfl))
    try simp only [List.getElem_toArray, List.getElem_cons_zero, List.getElem_cons_succ, Act.put, List.setIfInBounds_toArray, List.set_cons_zero, List.set_cons_succ]
    refine wpAnyH_take (i := 5) (oi := _) (v := ?_) rfl (by kernel_rfl) (by kernel_rfl) (by kernel_rfl) (fun _ _ _ h => h) (Or.inl ⟨by rfl, ?_⟩) (by assumption) ?_
    rotate_left 1
    · (intro w hSw; (try dsimp only at hSw); go_simp; (try with_reducible rfl))
    try simp only [List.getElem_toArray, List.getElem_cons_zero, List.getElem_cons_succ, Act.put, List.setIfInBounds_toArray, List.set_cons_zero, List.set_cons_succ]
    refine wpAnyH_take (i := 6) (oi := _) (v := ?_) rfl (by kernel_rfl) (by kernel_rfl) (by kernel_rfl) (fun _ _ _ h => h) (Or.inl ⟨by rfl, ?_⟩) (by assumption) ?_
    rotate_left 1
    · (intro w hSw; (try dsimp only at hSw); go_simp; (try with_reducible rfl))
    try simp only [List.getElem_toArray, List.getElem_cons_zero, List.getElem_cons_succ, Act.put, List.setIfInBounds_toArray, List.set_cons_zero, List.set_cons_succ]
    refine wpAnyH_take (i := 7) (oi := _) (v := ?_) rfl (by kernel_rfl) (by kernel_rfl) (by kernel_rfl) (fun _ _ _ h => h) (Or.inl ⟨by rfl, ?_⟩) (by assumption) ?_
    rotate_left 1
    · (intro w hSw; (try dsimp only at hSw); go_simp; (try with_reducible rfl))
    try simp only [List.getElem_toArray, List.getElem_cons_zero, List.getElem_cons_succ, Act.put, List.setIfInBounds_toArray, List.set_cons_zero, List.set_cons_succ]
    refine wpAnyH_ready (rs := [8]) (by kernel_rfl) (by simp) ?_
    refine AllReadyH.cons (o := _) rfl (fun K hK => ?_) ?_
    · go_simp
      refine (HI.out _ HB0.out).mono ?_
      rintro e u1 ⟨rfl, hb⟩
      have HB4 := Lib.hid (HB0.out.trans (hb.mono HB0.out.size)); have HB5 := Lib.hid (HB3.out.trans (HB4.out.mono HB3.out.size))
      clear hb
      go_wp2_with fail
      refine hK.out _ _ (KP.out _ HB4.out) (fun hHeld => ?_)
      clear hK K
      try simp only [List.getElem_toArray, List.getElem_cons_zero, List.getElem_cons_succ, Act.put, List.setIfInBounds_toArray, List.set_cons_zero, List.set_cons_succ]
      refine wpAnyH_take (i := 9) (oi := _) (v := ?_) rfl (by kernel_rfl) (by kernel_rfl) (by kernel_rfl) (fun _ _ _ h => h) (Or.inl ⟨by rfl, ?_⟩) (by assumption) ?_
      rotate_left 1
      · (intro w hSw; (try dsimp only at hSw); go_simp; (try with_reducible rfl))
      try simp only [List.getElem_toArray, List.getElem_cons_zero, List.getElem_cons_succ, Act.put, List.setIfInBounds_toArray, List.set_cons_zero, List.set_cons_succ]
      refine wpAnyH_take (i := 10) (oi := _) (v := ?_) rfl (by kernel_rfl) (by kernel_rfl) (by kernel_rfl) (fun _ _ _ h => h) (Or.inl ⟨by rfl, ?_⟩) (by assumption) ?_
      rotate_left 1
      · (intro w hSw; (try dsimp only at hSw); go_simp; (try with_reducible rfl))
      try simp only [List.getElem_toArray, List.getElem_cons_zero, List.getElem_cons_succ, Act.put, List.setIfInBounds_toArray, List.set_cons_zero, List.set_cons_succ]
      refine wpAnyH_take (i := 11) (oi := _) (v := ?_) rfl (by kernel_rfl) (by kernel_rfl) (by kernel_rfl) (fun _ _ _ h => h) (Or.inl ⟨by rfl, ?_⟩) (by assumption) ?_
      rotate_left 1
      · (intro w hSw; (try dsimp only at hSw); go_simp; (try with_reducible rfl))
      try simp only [List.getElem_toArray, List.getElem_cons_zero, List.getElem_cons_succ, Act.put, List.setIfInBounds_toArray, List.set_cons_zero, List.set_cons_succ]
      refine wpAnyH_done (by kernel_rfl) ?_ _
      go_wp2_with fail
      go_ret
      exact ⟨by rw [HZ.out]; rfl, HB5.out⟩
    exact AllReadyH.nil
end Go.Proofs.YthnddabcmhplkaaDoor
/- The document's text of a tree: repeats. Written by gen9wtext.py. -/
namespace Go.Proofs.YthnddabcmhplkaaDoor
open Go Go.RowKit

set_option maxHeartbeats 40000000 in
set_option maxRecDepth 100000 in
theorem text9_rep {t : Tr} (hk : (soleT t).fld.op = 7 ∨ (soleT t).fld.op = 8 ∨ (soleT t).fld.op = 9 ∨ (soleT t).fld.op = 10) (hs0 : ShapedP t) (hp : partsR t ≤ 10000000000) (hC : ∀ k, partsR k < partsR t → ShapedP k → Text9 k) : Text9 t := by
  intro v w h hD hP
  have HD := Lib.hid hD; have HPW := Lib.hid hP
  clear hD hP
  have q1 := sole_all t hs0
  have hlen := text_len (soleT t) q1.1
  have hkids : ∀ k ∈ (soleT t).kids, ShapedP k ∧ partsR k < partsR t ∧ Text9 k ∧ Text9 (soleT k) := fun k hk => by
    have h1 := ((shapedP_iff _).1 q1.1).2.2.2 k hk
    have h2 := partsR_kid hk
    have h3 := sole_all k h1
    exact ⟨h1, by omega, hC k (by omega) h1, hC _ (by omega) h3.1⟩
  have HKI := Lib.hid hk
  clear hk
  have hflds := ((shapedP_iff _).1 q1.1).1
  have hnum := ((shapedP_iff _).1 q1.1).2.1
  have hnl := sole_not t
  have hplen : (textT (soleT t)).length ≤ 100000000000000 := by omega
  have hpu : partsR (soleT t) ≤ 10000000000 := by omega
  rw [← q1.2.2]
  clear hlen hC hs0 q1
  have hF := h.foot
  obtain ⟨u, hu⟩ : ∃ u, soleT t = u := ⟨_, rfl⟩
  rw [hu] at hkids HKI hflds hnum hnl hplen hpu ⊢
  have HU := Lib.hid hu
  clear hu
  have HKD := Lib.hid hkids; have HFL := Lib.hid hflds; have HNUM := Lib.hid hnum; have HNL := Lib.hid hnl
  clear hkids hflds hnum hnl
  obtain ⟨O, hO⟩ : ∃ O, textT u = O := ⟨_, rfl⟩
  rw [hO] at hplen ⊢
  have HO := Lib.hid hO
  clear hO
  obtain ⟨A, n, c, a2, s, c2, hn, hs, rfl, hnb, hsb, hK, hS, hFl⟩ := h.opened
  obtain ⟨w1, hw1⟩ : ∃ w1, w.alloc (.cells #[.int .i64 t.fld.op, .slice A n c, .int .i32 t.fld.rune, .slice a2 s c2, .int .i64 t.fld.at', .int .i64 t.fld.cap, .string t.fld.name, .int .i64 t.fld.min, .int .i64 t.fld.max, .bool t.fld.lazy] 27) = w1 := ⟨_, rfl⟩
  have hb1 : Below w.heap.size w w1 := by rw [← hw1]; exact (Below.refl _ w).alloc (Nat.le_refl _) _
  have hE1 : Whole w1 w.heap.size 27 #[.int .i64 t.fld.op, .slice A n c, .int .i32 t.fld.rune, .slice a2 s c2, .int .i64 t.fld.at', .int .i64 t.fld.cap, .string t.fld.name, .int .i64 t.fld.min, .int .i64 t.fld.max, .bool t.fld.lazy] := by rw [← hw1]; exact heap_alloc_new w _
  have HA := Lib.hid (bare9_any (fun b => b < w.heap.size) t _ w1 (fun b hb => Nat.lt_of_lt_of_le hb hb1.size) (hF.same (same_below hb1) (fun _ h _ => h)) hp)
  have HW1 := Lib.hid hw1; have HB1 := Lib.hid hb1; have HE1 := Lib.hid hE1
  obtain ⟨g0, g1, g2, g3, g4, g5, g6, g7, g8, g9⟩ := hE1.ten
  clear h hF hn hs hnb hsb hK hS hFl hw1 hb1 hE1
  go_enter Tryd.func11, Tryd.ntmps11
  go_upto_region 1 with (fail)
  rw [HW1.out]
  go_wp2_with fail
  refine HA.out.mono ?_
  rintro e w2 ⟨v2, rfl, ht2, hb2⟩
  rw [HU.out] at ht2
  obtain ⟨kv2, sv2, rfl, ⟨x1, x2, x3, rfl⟩, ⟨y1, y2, y3, rfl⟩⟩ := ht2.ten
  have hE2 : Whole w2 w.heap.size 27 #[.int .i64 t.fld.op, .slice A n c, .int .i32 t.fld.rune, .slice a2 s c2, .int .i64 t.fld.at', .int .i64 t.fld.cap, .string t.fld.name, .int .i64 t.fld.min, .int .i64 t.fld.max, .bool t.fld.lazy] := HE1.out.below hb2 HE1.out.lt
  obtain ⟨w3, hw3⟩ : ∃ w3, set10 w2 w.heap.size (.int .i64 u.fld.op) (.slice x1 x2 x3) (.int .i32 u.fld.rune) (.slice y1 y2 y3) (.int .i64 u.fld.at') (.int .i64 u.fld.cap) (.string u.fld.name) (.int .i64 u.fld.min) (.int .i64 u.fld.max) (.bool u.fld.lazy) = w3 := ⟨_, rfl⟩
  have hE3 : Whole w3 w.heap.size 27 #[.int .i64 u.fld.op, .slice x1 x2 x3, .int .i32 u.fld.rune, .slice y1 y2 y3, .int .i64 u.fld.at', .int .i64 u.fld.cap, .string u.fld.name, .int .i64 u.fld.min, .int .i64 u.fld.max, .bool u.fld.lazy] := by rw [← hw3]; exact set10_whole hE2 _ _ _ _ _ _ _ _ _ _
  have hsame : SameOn (fun k => k ≠ w.heap.size) w2 w3 := by rw [← hw3]; exact set10_same _ _ _ _ _ _ _ _ _ _ _ _
  have hT3 : Tre w3 u (.agg #[.int .i64 u.fld.op, .slice x1 x2 x3, .int .i32 u.fld.rune, .slice y1 y2 y3, .int .i64 u.fld.at', .int .i64 u.fld.cap, .string u.fld.name, .int .i64 u.fld.min, .int .i64 u.fld.max, .bool u.fld.lazy]) := ht2.same (fun b hb hl => hsame b (by have : b < w.heap.size := hb; omega) hl) (fun _ _ _ => trivial)
  have hB3 : Below w.heap.size w w3 := by rw [← hw3]; exact set10_below (HB1.out.trans (hb2.mono HB1.out.size)) (Nat.le_refl _) _ _ _ _ _ _ _ _ _ _
  clear g0 g1 g2 g3 g4 g5 g6 g7 g8 g9
  obtain ⟨g0, g1, g2, g3, g4, g5, g6, g7, g8, g9⟩ := hE2.ten
  obtain ⟨z0, z1, z2, z3, z4, z5, z6, z7, z8, z9⟩ := whole_free hE2
  unfold set10 at hw3
  have HW3 := Lib.hid hw3; have HE3 := Lib.hid hE3; have HT3 := Lib.hid hT3; have HB3 := Lib.hid hB3
  clear ht2 hb2 hE2 hw3 hE3 hsame hT3 hB3 HA HE1 HB1 HW1
  go_upto_region 2 with (fail)
  rw [HW3.out]
  clear g0 g1 g2 g3 g4 g5 g6 g7 g8 g9 z0 z1 z2 z3 z4 z5 z6 z7 z8 z9
  obtain ⟨r0, r1, r2, r3, r4, r5, r6, r7, r8, r9⟩ := HE3.out.ten
  have HX2 : Hid (u.kids.length = x2 ∧ Kds w3 u.kids (.slice x1 x2 x3) ∧ Rgs w3 (.slice y1 y2 y3) u.fld.set) := Lib.hid (by
    have h1 := HT3.out
    rw [tre_iff] at h1
    obtain ⟨kv', sv', e, hS, -, hK⟩ := h1
    obtain ⟨rfl, rfl⟩ := treC_inj (f := u.fld) (k1 := .slice x1 x2 x3) (s1 := .slice y1 y2 y3) e
    refine ⟨?_, hK, hS⟩
    obtain ⟨A', c', e2, -⟩ := hK
    injection e2 with _ q _
    exact q.symm)
  obtain ⟨op, hop⟩ : ∃ op, u.fld.op = op := ⟨_, rfl⟩
  have hkinds := HKI.out
  rw [hop] at hkinds r0
  have HOP := Lib.hid hop
  clear hop HKI
  have LF : Hid ((op = 1 ∨ op = 2 ∨ op = 3 ∨ op = 4 ∨ op = 5) → O = if op = 1 then noneP else if op = 2 then emptyP else if op = 3 then oneZ u.fld.rune else if op = 4 then setP u.fld.set else placeP u.fld.at') := Lib.hid (fun h => by rw [← HO.out, ← HOP.out]; exact text_leaf (by rw [HOP.out]; exact h))
  clear LF
  have hrep := hkinds
  obtain ⟨hx, hKD, -⟩ := HX2.out
  have h1 : u.kids.length = 1 := HNUM.out.1 (by have := HOP.out; omega)
  obtain rfl : x2 = 1 := by omega
  obtain ⟨b, o, tk, m1, m2, m3, p1, p2, p3, rfl, htk, hm, ⟨c0, c1, c2', c3, c4, c5, c6, c7, c8, c9⟩, hTk⟩ := hKD.kidS 0 (by omega)
  simp only [Nat.zero_mul, Nat.add_zero] at c0 c1 c2' c3 c4 c5 c6 c7 c8 c9
  obtain ⟨kk, hkk⟩ := List.length_eq_one_iff.1 h1
  obtain rfl : kk = tk := by rw [← htk]; simp [hkk]
  have hkq := HKD.out kk hm
  have hq := sole_all kk hkq.1
  have HBR := Lib.hid (bare9_any (fun b => b < w3.heap.size) kk _ w3 (fun b hb => hb) hTk.foot (by omega))
  obtain ⟨X, hX⟩ : ∃ X, textB (textT kk) = X := ⟨_, rfl⟩
  obtain ⟨Y, hY⟩ : ∃ Y, textB (signP u.fld) = Y := ⟨_, rfl⟩
  have hO1 : O = repT kk ++ signP u.fld := by rw [← HO.out]; exact text_rep (by rw [HOP.out]; exact hrep) hkk
  have hrl : (textT kk).length ≤ (repT kk).length := by
    unfold repT repP
    split
    · unfold wrapP
      simp only [List.length_cons, List.length_append]
      omega
    · exact Nat.le_refl _
  have hzX : X.size + Y.size ≤ 100000000000000 := by
    rw [← hX, ← hY, textB_size, textB_size]
    rw [hO1, List.length_append] at hplen
    omega
  have hZa : HeldZ kk → textB O = (⟨#[40, 63, 58]⟩ ++ X ++ ⟨#[41]⟩) ++ Y := fun e => by
    rw [hO1, ← hX, ← hY]
    unfold repT repP
    rw [if_pos e]
    show _ = textB [40, 63, 58] ++ textB _ ++ textB [41] ++ textB _
    rw [textB_app9, textB_app9, textB_app9]
    unfold wrapP
    simp
  have hZb : ¬ HeldZ kk → textB O = X ++ Y := fun e => by
    rw [hO1, ← hX, ← hY]
    unfold repT repP
    rw [if_neg e, textB_app9]
  obtain ⟨uk, huk⟩ : ∃ uk, soleT kk = uk := ⟨_, rfl⟩
  have hheld : HeldZ kk ↔ (uk.fld.op = 11 ∧ uk.kids ≠ []) ∨ (7 ≤ uk.fld.op ∧ uk.fld.op ≠ 11) := by unfold HeldZ; rw [huk]
  have hI := hkq.2.2.2
  have hte : textT uk = textT kk := by rw [← huk]; exact hq.2.2
  unfold SolePost at HBR
  rw [huk] at HBR hI
  have HI : Hid (∀ vk W, Below w3.heap.size w3 W → Tre W uk vk → Calls Tryd.prog 11 #[vk] W fun e w' => e = .returned (.string X) ∧ Below W.heap.size W w') := Lib.hid fun vk W hW hv => (hI vk W hv (HD.out.below (HB3.out.trans (hW.mono HB3.out.size))) (HPW.out.below (HB3.out.trans (hW.mono HB3.out.size)))).mono fun e w' hp => by
    unfold TextZ at hp
    rw [hte, hX] at hp
    exact hp
  have HRP := Lib.hid (show ∀ W, Below w3.heap.size w3 W → Calls Tryd.prog 35 #[.agg #[.int .i64 u.fld.op, .slice (some ⟨b, o, none⟩) 1 x3, .int .i32 u.fld.rune, .slice y1 y2 y3, .int .i64 u.fld.at', .int .i64 u.fld.cap, .string u.fld.name, .int .i64 u.fld.min, .int .i64 u.fld.max, .bool u.fld.lazy]] W (fun e w' => e = .returned (.string Y) ∧ Below W.heap.size W w') from fun W hW => by
    have := repeat9_any u HFL.out (by rw [HOP.out]; exact hrep) _ W (HT3.out.below hW) (HPW.out.below (HB3.out.trans (hW.mono HB3.out.size)))
    rw [hY] at this
    exact this)
  rw [HOP.out] at HRP
  have q1 := cat9w ⟨#[40, 63, 58]⟩ X (by show 3 + X.size ≤ _; omega)
  have q2 := cat9w (⟨#[40, 63, 58]⟩ ++ X) ⟨#[41]⟩ (by rw [ByteArray.size_append]; show 3 + X.size + 1 ≤ _; omega)
  have q3 := cat9w (⟨#[40, 63, 58]⟩ ++ X ++ ⟨#[41]⟩) Y (by rw [ByteArray.size_append, ByteArray.size_append]; show 3 + X.size + 1 + Y.size ≤ _; omega)
  have q4 := cat9w X Y (by omega)
  have HZA := Lib.hid hZa; have HZB := Lib.hid hZb; have HHE := Lib.hid hheld
  have e1 : (op == 1) = false := by rw [beq_eq_false_iff_ne]; omega
  have e2 : (op == 2) = false := by rw [beq_eq_false_iff_ne]; omega
  have e3 : (op == 3) = false := by rw [beq_eq_false_iff_ne]; omega
  have e4 : (op == 4) = false := by rw [beq_eq_false_iff_ne]; omega
  have e5 : (op == 5) = false := by rw [beq_eq_false_iff_ne]; omega
  have e6 : (op == 6) = false := by rw [beq_eq_false_iff_ne]; omega
  have e11 : (op == 11) = false := by rw [beq_eq_false_iff_ne]; omega
  have e12 : (op == 12) = false := by rw [beq_eq_false_iff_ne]; omega
  clear hx hKD h1 htk hm hTk hkk hkq hq hO1 hrl hZa hZb hheld hI hte huk hX hY hzX hplen hkinds hrep
  go_wp2_with fail
  refine HBR.out.mono ?_
  rintro e w4 ⟨v4, rfl, ht4, hb4⟩
  have hT4 := ht4.tre
  obtain ⟨kv4, sv4, rfl, ⟨d1, d2, d3, rfl⟩, ⟨f1, f2, f3, rfl⟩⟩ := ht4.ten
  have hd2 : d2 = uk.kids.length := by
    have h := ht4
    rw [treF_iff] at h
    obtain ⟨kv', sv', e, -, -, A', c', rfl, -⟩ := h
    have := (treC_inj (f := uk.fld) (k1 := .slice d1 d2 d3) (s1 := .slice f1 f2 f3) e).1
    injection this
  obtain ⟨w5, hw5⟩ : ∃ w5, w4.alloc (.cells #[.int .i64 uk.fld.op, .slice d1 d2 d3, .int .i32 uk.fld.rune, .slice f1 f2 f3, .int .i64 uk.fld.at', .int .i64 uk.fld.cap, .string uk.fld.name, .int .i64 uk.fld.min, .int .i64 uk.fld.max, .bool uk.fld.lazy] 27) = w5 := ⟨_, rfl⟩
  have hb5 : Below w4.heap.size w4 w5 := by rw [← hw5]; exact (Below.refl _ _).alloc (Nat.le_refl _) _
  have hE5 : Whole w5 w4.heap.size 27 #[.int .i64 uk.fld.op, .slice d1 d2 d3, .int .i32 uk.fld.rune, .slice f1 f2 f3, .int .i64 uk.fld.at', .int .i64 uk.fld.cap, .string uk.fld.name, .int .i64 uk.fld.min, .int .i64 uk.fld.max, .bool uk.fld.lazy] := by rw [← hw5]; exact heap_alloc_new w4 _
  have HW5 := Lib.hid hw5; have HT5 := Lib.hid (hT4.below hb5); have HBB := Lib.hid (hb4.trans (hb5.mono hb4.size))
  have HRP5 := Lib.hid (show ∀ W, Below w5.heap.size w5 W → Calls Tryd.prog 35 #[.agg #[.int .i64 op, .slice (some ⟨b, o, none⟩) 1 x3, .int .i32 u.fld.rune, .slice y1 y2 y3, .int .i64 u.fld.at', .int .i64 u.fld.cap, .string u.fld.name, .int .i64 u.fld.min, .int .i64 u.fld.max, .bool u.fld.lazy]] W (fun e w' => e = .returned (.string Y) ∧ Below W.heap.size W w') from fun W hW => HRP.out W (HBB.out.trans (hW.mono HBB.out.size)))
  have HI5 := Lib.hid (show ∀ W, Below w5.heap.size w5 W → Calls Tryd.prog 11 #[.agg #[.int .i64 uk.fld.op, .slice d1 d2 d3, .int .i32 uk.fld.rune, .slice f1 f2 f3, .int .i64 uk.fld.at', .int .i64 uk.fld.cap, .string uk.fld.name, .int .i64 uk.fld.min, .int .i64 uk.fld.max, .bool uk.fld.lazy]] W (fun e w' => e = .returned (.string X) ∧ Below W.heap.size W w') from fun W hW => HI.out _ W (HBB.out.trans (hW.mono HBB.out.size)) (HT5.out.below hW))
  have HD2 := Lib.hid hd2
  have hE3' := HE3.out.below HBB.out HE3.out.lt
  clear hw5 hb5 ht4 hT4 hb4 HBR c0 c1 c2' c3 c4 c5 c6 c7 c8 c9 hd2 HI HRP
  clear r0 r1 r2 r3 r4 r5 r6 r7 r8 r9
  obtain ⟨r0, r1, r2, r3, r4, r5, r6, r7, r8, r9⟩ := hE3'.ten
  rw [HOP.out] at r0
  obtain ⟨s0, s1, s2, s3, s4, s5, s6, s7, s8, s9⟩ := hE5.ten
  clear hE5 hE3'
  go_upto_region 39 with (fail)
  rw [HW5.out]
  have HB0 := Lib.hid (below_draws w5 1)
  obtain ⟨uo, huo⟩ : ∃ uo, uk.fld.op = uo := ⟨_, rfl⟩
  rw [huo] at s0 HI5
  have HUO := Lib.hid huo
  clear huo
  by_cases h11 : uo = 11
  · subst h11
    by_cases hd0 : d2 = 0
    · have HZ := Lib.hid (HZB.out fun h => by
        rcases HHE.out.1 h with ⟨-, g⟩ | ⟨-, g⟩
        · exact g (List.eq_nil_of_length_eq_zero (by rw [← HD2.out, hd0]))
        · exact g HUO.out)
      subst hd0
      clear HZA HZB q1 q2 q3
      have KP : Hid (∀ W, Below w5.heap.size w5 W → W.cell? ⟨w.heap.size, 0, none⟩ = some (.int .i64 op) ∧ W.cell? ⟨w.heap.size, 1, none⟩ = some (.slice (some ⟨b, o, none⟩) 1 x3) ∧ W.cell? ⟨w.heap.size, 2, none⟩ = some (.int .i32 u.fld.rune) ∧ W.cell? ⟨w.heap.size, 3, none⟩ = some (.slice y1 y2 y3) ∧ W.cell? ⟨w.heap.size, 4, none⟩ = some (.int .i64 u.fld.at') ∧ W.cell? ⟨w.heap.size, 5, none⟩ = some (.int .i64 u.fld.cap) ∧ W.cell? ⟨w.heap.size, 6, none⟩ = some (.string u.fld.name) ∧ W.cell? ⟨w.heap.size, 7, none⟩ = some (.int .i64 u.fld.min) ∧ W.cell? ⟨w.heap.size, 8, none⟩ = some (.int .i64 u.fld.max) ∧ W.cell? ⟨w.heap.size, 9, none⟩ = some (.bool u.fld.lazy) ∧ W.cell? ⟨w4.heap.size, 0, none⟩ = some (.int .i64 11) ∧ W.cell? ⟨w4.heap.size, 1, none⟩ = some (.slice d1 0 d3) ∧ W.cell? ⟨w4.heap.size, 2, none⟩ = some (.int .i32 uk.fld.rune) ∧ W.cell? ⟨w4.heap.size, 3, none⟩ = some (.slice f1 f2 f3) ∧ W.cell? ⟨w4.heap.size, 4, none⟩ = some (.int .i64 uk.fld.at') ∧ W.cell? ⟨w4.heap.size, 5, none⟩ = some (.int .i64 uk.fld.cap) ∧ W.cell? ⟨w4.heap.size, 6, none⟩ = some (.string uk.fld.name) ∧ W.cell? ⟨w4.heap.size, 7, none⟩ = some (.int .i64 uk.fld.min) ∧ W.cell? ⟨w4.heap.size, 8, none⟩ = some (.int .i64 uk.fld.max) ∧ W.cell? ⟨w4.heap.size, 9, none⟩ = some (.bool uk.fld.lazy)) := Lib.hid fun W hb => ⟨(hb.cell (World.block_lt_of_cell? w5 _ r0)).trans r0, (hb.cell (World.block_lt_of_cell? w5 _ r1)).trans r1, (hb.cell (World.block_lt_of_cell? w5 _ r2)).trans r2, (hb.cell (World.block_lt_of_cell? w5 _ r3)).trans r3, (hb.cell (World.block_lt_of_cell? w5 _ r4)).trans r4, (hb.cell (World.block_lt_of_cell? w5 _ r5)).trans r5, (hb.cell (World.block_lt_of_cell? w5 _ r6)).trans r6, (hb.cell (World.block_lt_of_cell? w5 _ r7)).trans r7, (hb.cell (World.block_lt_of_cell? w5 _ r8)).trans r8, (hb.cell (World.block_lt_of_cell? w5 _ r9)).trans r9, (hb.cell (World.block_lt_of_cell? w5 _ s0)).trans s0, (hb.cell (World.block_lt_of_cell? w5 _ s1)).trans s1, (hb.cell (World.block_lt_of_cell? w5 _ s2)).trans s2, (hb.cell (World.block_lt_of_cell? w5 _ s3)).trans s3, (hb.cell (World.block_lt_of_cell? w5 _ s4)).trans s4, (hb.cell (World.block_lt_of_cell? w5 _ s5)).trans s5, (hb.cell (World.block_lt_of_cell? w5 _ s6)).trans s6, (hb.cell (World.block_lt_of_cell? w5 _ s7)).trans s7, (hb.cell (World.block_lt_of_cell? w5 _ s8)).trans s8, (hb.cell (World.block_lt_of_cell? w5 _ s9)).trans s9⟩
      go_upto_region 41 with (fail)
      refine wp_region_held_drew (S := (fun w' => w'.cell? ⟨w.heap.size, 0, none⟩ = some (.int .i64 op) ∧ w'.cell? ⟨w.heap.size, 1, none⟩ = some (.slice (some ⟨b, o, none⟩) 1 x3) ∧ w'.cell? ⟨w.heap.size, 2, none⟩ = some (.int .i32 u.fld.rune) ∧ w'.cell? ⟨w.heap.size, 3, none⟩ = some (.slice y1 y2 y3) ∧ w'.cell? ⟨w.heap.size, 4, none⟩ = some (.int .i64 u.fld.at') ∧ w'.cell? ⟨w.heap.size, 5, none⟩ = some (.int .i64 u.fld.cap) ∧ w'.cell? ⟨w.heap.size, 6, none⟩ = some (.string u.fld.name) ∧ w'.cell? ⟨w.heap.size, 7, none⟩ = some (.int .i64 u.fld.min) ∧ w'.cell? ⟨w.heap.size, 8, none⟩ = some (.int .i64 u.fld.max) ∧ w'.cell? ⟨w.heap.size, 9, none⟩ = some (.bool u.fld.lazy) ∧ w'.cell? ⟨w4.heap.size, 0, none⟩ = some (.int .i64 11) ∧ w'.cell? ⟨w4.heap.size, 1, none⟩ = some (.slice d1 0 d3) ∧ w'.cell? ⟨w4.heap.size, 2, none⟩ = some (.int .i32 uk.fld.rune) ∧ w'.cell? ⟨w4.heap.size, 3, none⟩ = some (.slice f1 f2 f3) ∧ w'.cell? ⟨w4.heap.size, 4, none⟩ = some (.int .i64 uk.fld.at') ∧ w'.cell? ⟨w4.heap.size, 5, none⟩ = some (.int .i64 uk.fld.cap) ∧ w'.cell? ⟨w4.heap.size, 6, none⟩ = some (.string uk.fld.name) ∧ w'.cell? ⟨w4.heap.size, 7, none⟩ = some (.int .i64 uk.fld.min) ∧ w'.cell? ⟨w4.heap.size, 8, none⟩ = some (.int .i64 uk.fld.max) ∧ w'.cell? ⟨w4.heap.size, 9, none⟩ = some (.bool uk.fld.lazy))) (by kernel_rfl) (KP.out _ HB0.out) (fun hHeld => ?_)
      refine wpAnyH_take (i := 0) (oi := _) (v := ?_) rfl (by kernel_rfl) (by kernel_rfl) (by kernel_rfl) (fun _ _ _ h => h) (Or.inl ⟨by rfl, ?_⟩) (by assumption) ?_
      rotate_left 1
      · (intro w hSw; (try dsimp only at hSw); go_simp; (try with_reducible rfl))
      try simp only [List.getElem_toArray, List.getElem_cons_zero, Act.put, List.setIfInBounds_toArray, List.set_cons_zero, List.set_cons_succ]
      refine wpAnyH_take (i := 2) (oi := _) (v := ?_) rfl (by kernel_rfl) (by kernel_rfl) (by kernel_rfl) (fun _ _ _ h => h) (Or.inl ⟨by rfl, ?_⟩) (by assumption) ?_
      rotate_left 1
      · (intro w hSw; (try dsimp only at hSw); go_simp; (try with_reducible rfl))
      try simp only [List.getElem_toArray, List.getElem_cons_zero, List.getElem_cons_succ, Act.put, List.setIfInBounds_toArray, List.set_cons_zero, List.set_cons_succ]
      refine wpAnyH_ready (rs := [1]) (by kernel_rfl) (by simp) ?_
      refine AllReadyH.cons (o := _) rfl (fun K hK => ?_) ?_
      · go_simp
        refine (HI5.out _ HB0.out).mono ?_
        rintro e q1 ⟨rfl, hb⟩
        have HB6 := Lib.hid (HB0.out.trans (hb.mono HB0.out.size))
        clear hb
        go_wp2_with fail
        refine hK.out _ _ (KP.out _ HB6.out) (fun hHeld => ?_)
        clear hK K
        try simp only [List.getElem_toArray, List.getElem_cons_zero, List.getElem_cons_succ, Act.put, List.setIfInBounds_toArray, List.set_cons_zero, List.set_cons_succ]
        refine wpAnyH_ready (rs := [3]) (by kernel_rfl) (by simp) ?_
        refine AllReadyH.cons (o := _) rfl (fun K hK => ?_) ?_
        · go_simp
          refine (HRP5.out _ HB6.out).mono ?_
          rintro e q2 ⟨rfl, hb⟩
          have HB7 := Lib.hid (HB6.out.trans (hb.mono HB6.out.size))
          clear hb
          go_wp2_with fail
          refine hK.out _ _ (KP.out _ HB7.out) (fun hHeld => ?_)
          clear hK K
          try simp only [List.getElem_toArray, List.getElem_cons_zero, List.getElem_cons_succ, Act.put, List.setIfInBounds_toArray, List.set_cons_zero, List.set_cons_succ]
          refine wpAnyH_take (i := 4) (oi := _) (v := ?_) rfl (by kernel_rfl) (by kernel_rfl) (by kernel_rfl) (fun _ _ _ h => h) (Or.inl ⟨by rfl, ?_⟩) (by assumption) ?_
          rotate_left 1
          · (intro w hSw; (try dsimp only at hSw); go_simp; (try with_reducible rfl))
          try simp only [List.getElem_toArray, List.getElem_cons_zero, List.getElem_cons_succ, Act.put, List.setIfInBounds_toArray, List.set_cons_zero, List.set_cons_succ]
          refine wpAnyH_take (i := 5) (oi := _) (v := ?_) rfl (by kernel_rfl) (by kernel_rfl) (by kernel_rfl) (fun _ _ _ h => h) (Or.inl ⟨by rfl, ?_⟩) (by assumption) ?_
          rotate_left 1
          · (intro w hSw; (try dsimp only at hSw); go_simp; (try with_reducible rfl))
          try simp only [List.getElem_toArray, List.getElem_cons_zero, List.getElem_cons_succ, Act.put, List.setIfInBounds_toArray, List.set_cons_zero, List.set_cons_succ]
          refine wpAnyH_done (by kernel_rfl) ?_ _
          go_wp2_with fail
          go_ret
          exact ⟨by rw [HZ.out]; rfl, HB3.out.trans ((HBB.out.trans (HB7.out.mono HBB.out.size)).mono HB3.out.size)⟩
        exact AllReadyH.nil
      exact AllReadyH.nil
    · have hd1 : (0 : Int) < (d2 : Int) := by omega
      have HZ := Lib.hid (HZA.out (HHE.out.2 (.inl ⟨HUO.out, fun e => hd0 (by rw [HD2.out, e]; rfl)⟩)))
      clear HZA HZB q4 hd0
      have KP : Hid (∀ W, Below w5.heap.size w5 W → W.cell? ⟨w.heap.size, 0, none⟩ = some (.int .i64 op) ∧ W.cell? ⟨w.heap.size, 1, none⟩ = some (.slice (some ⟨b, o, none⟩) 1 x3) ∧ W.cell? ⟨w.heap.size, 2, none⟩ = some (.int .i32 u.fld.rune) ∧ W.cell? ⟨w.heap.size, 3, none⟩ = some (.slice y1 y2 y3) ∧ W.cell? ⟨w.heap.size, 4, none⟩ = some (.int .i64 u.fld.at') ∧ W.cell? ⟨w.heap.size, 5, none⟩ = some (.int .i64 u.fld.cap) ∧ W.cell? ⟨w.heap.size, 6, none⟩ = some (.string u.fld.name) ∧ W.cell? ⟨w.heap.size, 7, none⟩ = some (.int .i64 u.fld.min) ∧ W.cell? ⟨w.heap.size, 8, none⟩ = some (.int .i64 u.fld.max) ∧ W.cell? ⟨w.heap.size, 9, none⟩ = some (.bool u.fld.lazy) ∧ W.cell? ⟨w4.heap.size, 0, none⟩ = some (.int .i64 11) ∧ W.cell? ⟨w4.heap.size, 1, none⟩ = some (.slice d1 d2 d3) ∧ W.cell? ⟨w4.heap.size, 2, none⟩ = some (.int .i32 uk.fld.rune) ∧ W.cell? ⟨w4.heap.size, 3, none⟩ = some (.slice f1 f2 f3) ∧ W.cell? ⟨w4.heap.size, 4, none⟩ = some (.int .i64 uk.fld.at') ∧ W.cell? ⟨w4.heap.size, 5, none⟩ = some (.int .i64 uk.fld.cap) ∧ W.cell? ⟨w4.heap.size, 6, none⟩ = some (.string uk.fld.name) ∧ W.cell? ⟨w4.heap.size, 7, none⟩ = some (.int .i64 uk.fld.min) ∧ W.cell? ⟨w4.heap.size, 8, none⟩ = some (.int .i64 uk.fld.max) ∧ W.cell? ⟨w4.heap.size, 9, none⟩ = some (.bool uk.fld.lazy)) := Lib.hid fun W hb => ⟨(hb.cell (World.block_lt_of_cell? w5 _ r0)).trans r0, (hb.cell (World.block_lt_of_cell? w5 _ r1)).trans r1, (hb.cell (World.block_lt_of_cell? w5 _ r2)).trans r2, (hb.cell (World.block_lt_of_cell? w5 _ r3)).trans r3, (hb.cell (World.block_lt_of_cell? w5 _ r4)).trans r4, (hb.cell (World.block_lt_of_cell? w5 _ r5)).trans r5, (hb.cell (World.block_lt_of_cell? w5 _ r6)).trans r6, (hb.cell (World.block_lt_of_cell? w5 _ r7)).trans r7, (hb.cell (World.block_lt_of_cell? w5 _ r8)).trans r8, (hb.cell (World.block_lt_of_cell? w5 _ r9)).trans r9, (hb.cell (World.block_lt_of_cell? w5 _ s0)).trans s0, (hb.cell (World.block_lt_of_cell? w5 _ s1)).trans s1, (hb.cell (World.block_lt_of_cell? w5 _ s2)).trans s2, (hb.cell (World.block_lt_of_cell? w5 _ s3)).trans s3, (hb.cell (World.block_lt_of_cell? w5 _ s4)).trans s4, (hb.cell (World.block_lt_of_cell? w5 _ s5)).trans s5, (hb.cell (World.block_lt_of_cell? w5 _ s6)).trans s6, (hb.cell (World.block_lt_of_cell? w5 _ s7)).trans s7, (hb.cell (World.block_lt_of_cell? w5 _ s8)).trans s8, (hb.cell (World.block_lt_of_cell? w5 _ s9)).trans s9⟩
      go_upto_region 40 with (fail)
      refine wp_region_held_drew (S := (fun w' => w'.cell? ⟨w.heap.size, 0, none⟩ = some (.int .i64 op) ∧ w'.cell? ⟨w.heap.size, 1, none⟩ = some (.slice (some ⟨b, o, none⟩) 1 x3) ∧ w'.cell? ⟨w.heap.size, 2, none⟩ = some (.int .i32 u.fld.rune) ∧ w'.cell? ⟨w.heap.size, 3, none⟩ = some (.slice y1 y2 y3) ∧ w'.cell? ⟨w.heap.size, 4, none⟩ = some (.int .i64 u.fld.at') ∧ w'.cell? ⟨w.heap.size, 5, none⟩ = some (.int .i64 u.fld.cap) ∧ w'.cell? ⟨w.heap.size, 6, none⟩ = some (.string u.fld.name) ∧ w'.cell? ⟨w.heap.size, 7, none⟩ = some (.int .i64 u.fld.min) ∧ w'.cell? ⟨w.heap.size, 8, none⟩ = some (.int .i64 u.fld.max) ∧ w'.cell? ⟨w.heap.size, 9, none⟩ = some (.bool u.fld.lazy) ∧ w'.cell? ⟨w4.heap.size, 0, none⟩ = some (.int .i64 11) ∧ w'.cell? ⟨w4.heap.size, 1, none⟩ = some (.slice d1 d2 d3) ∧ w'.cell? ⟨w4.heap.size, 2, none⟩ = some (.int .i32 uk.fld.rune) ∧ w'.cell? ⟨w4.heap.size, 3, none⟩ = some (.slice f1 f2 f3) ∧ w'.cell? ⟨w4.heap.size, 4, none⟩ = some (.int .i64 uk.fld.at') ∧ w'.cell? ⟨w4.heap.size, 5, none⟩ = some (.int .i64 uk.fld.cap) ∧ w'.cell? ⟨w4.heap.size, 6, none⟩ = some (.string uk.fld.name) ∧ w'.cell? ⟨w4.heap.size, 7, none⟩ = some (.int .i64 uk.fld.min) ∧ w'.cell? ⟨w4.heap.size, 8, none⟩ = some (.int .i64 uk.fld.max) ∧ w'.cell? ⟨w4.heap.size, 9, none⟩ = some (.bool uk.fld.lazy))) (by kernel_rfl) (KP.out _ HB0.out) (fun hHeld => ?_)
      refine wpAnyH_take (i := 0) (oi := _) (v := ?_) rfl (by kernel_rfl) (by kernel_rfl) (by kernel_rfl) (fun _ _ _ h => h) (Or.inl ⟨by rfl, ?_⟩) (by assumption) ?_
      rotate_left 1
      · (intro w hSw; (try dsimp only at hSw); go_simp; (try with_reducible rfl))
      try simp only [List.getElem_toArray, List.getElem_cons_zero, Act.put, List.setIfInBounds_toArray, List.set_cons_zero, List.set_cons_succ]
      refine wpAnyH_take (i := 4) (oi := _) (v := ?_) rfl (by kernel_rfl) (by kernel_rfl) (by kernel_rfl) (fun _ _ _ h => h) (Or.inl ⟨by rfl, ?_⟩) (by assumption) ?_
      rotate_left 1
      · (intro w hSw; (try dsimp only at hSw); go_simp; (try with_reducible rfl))
      try simp only [List.getElem_toArray, List.getElem_cons_zero, List.getElem_cons_succ, Act.put, List.setIfInBounds_toArray, List.set_cons_zero, List.set_cons_succ]
      refine wpAnyH_ready (rs := [1]) (by kernel_rfl) (by simp) ?_
      refine AllReadyH.cons (o := _) rfl (fun K hK => ?_) ?_
      · go_simp
        refine (HI5.out _ HB0.out).mono ?_
        rintro e q1 ⟨rfl, hb⟩
        have HB6 := Lib.hid (HB0.out.trans (hb.mono HB0.out.size))
        clear hb
        go_wp2_with fail
        refine hK.out _ _ (KP.out _ HB6.out) (fun hHeld => ?_)
        clear hK K
        try simp only [List.getElem_toArray, List.getElem_cons_zero, List.getElem_cons_succ, Act.put, List.setIfInBounds_toArray, List.set_cons_zero, List.set_cons_succ]
        refine wpAnyH_take (i := 2) (oi := _) (v := ?_) rfl (by kernel_rfl) (by kernel_rfl) (by kernel_rfl) (fun _ _ _ h => h) (Or.inl ⟨by rfl, ?_⟩) (by assumption) ?_
        rotate_left 1
        · (intro w hSw; (try dsimp only at hSw); go_simp; (try with_reducible rfl))
        try simp only [List.getElem_toArray, List.getElem_cons_zero, List.getElem_cons_succ, Act.put, List.setIfInBounds_toArray, List.set_cons_zero, List.set_cons_succ]
        refine wpAnyH_take (i := 3) (oi := _) (v := ?_) rfl (by kernel_rfl) (by kernel_rfl) (by kernel_rfl) (fun _ _ _ h => h) (Or.inl ⟨by rfl, ?_⟩) (by assumption) ?_
        rotate_left 1
        · (intro w hSw; (try dsimp only at hSw); go_simp; (try with_reducible rfl))
        try simp only [List.getElem_toArray, List.getElem_cons_zero, List.getElem_cons_succ, Act.put, List.setIfInBounds_toArray, List.set_cons_zero, List.set_cons_succ]
        refine wpAnyH_ready (rs := [5]) (by kernel_rfl) (by simp) ?_
        refine AllReadyH.cons (o := _) rfl (fun K hK => ?_) ?_
        · go_simp
          refine (HRP5.out _ HB6.out).mono ?_
          rintro e q2 ⟨rfl, hb⟩
          have HB7 := Lib.hid (HB6.out.trans (hb.mono HB6.out.size))
          clear hb
          go_wp2_with fail
          refine hK.out _ _ (KP.out _ HB7.out) (fun hHeld => ?_)
          clear hK K
          try simp only [List.getElem_toArray, List.getElem_cons_zero, List.getElem_cons_succ, Act.put, List.setIfInBounds_toArray, List.set_cons_zero, List.set_cons_succ]
          refine wpAnyH_take (i := 6) (oi := _) (v := ?_) rfl (by kernel_rfl) (by kernel_rfl) (by kernel_rfl) (fun _ _ _ h => h) (Or.inl ⟨by rfl, ?_⟩) (by assumption) ?_
          rotate_left 1
          · (intro w hSw; (try dsimp only at hSw); go_simp; (try with_reducible rfl))
          try simp only [List.getElem_toArray, List.getElem_cons_zero, List.getElem_cons_succ, Act.put, List.setIfInBounds_toArray, List.set_cons_zero, List.set_cons_succ]
          refine wpAnyH_take (i := 7) (oi := _) (v := ?_) rfl (by kernel_rfl) (by kernel_rfl) (by kernel_rfl) (fun _ _ _ h => h) (Or.inl ⟨by rfl, ?_⟩) (by assumption) ?_
          rotate_left 1
          · (intro w hSw; (try dsimp only at hSw); go_simp; (try with_reducible rfl))
          try simp only [List.getElem_toArray, List.getElem_cons_zero, List.getElem_cons_succ, Act.put, List.setIfInBounds_toArray, List.set_cons_zero, List.set_cons_succ]
          refine wpAnyH_done (by kernel_rfl) ?_ _
          go_wp2_with fail
          go_ret
          exact ⟨by rw [HZ.out]; rfl, HB3.out.trans ((HBB.out.trans (HB7.out.mono HBB.out.size)).mono HB3.out.size)⟩
        exact AllReadyH.nil
      exact AllReadyH.nil
  · have h11b : (uo == 11) = false := beq_eq_false_iff_ne.2 h11
    have h11c : (uo != 11) = true := bne_iff_ne.2 h11
    by_cases h7 : 7 ≤ uo
    · have HZ := Lib.hid (HZA.out (HHE.out.2 (.inr ⟨by rw [HUO.out]; exact h7, by rw [HUO.out]; exact h11⟩)))
      clear HZA HZB q4 h11
      have KP : Hid (∀ W, Below w5.heap.size w5 W → W.cell? ⟨w.heap.size, 0, none⟩ = some (.int .i64 op) ∧ W.cell? ⟨w.heap.size, 1, none⟩ = some (.slice (some ⟨b, o, none⟩) 1 x3) ∧ W.cell? ⟨w.heap.size, 2, none⟩ = some (.int .i32 u.fld.rune) ∧ W.cell? ⟨w.heap.size, 3, none⟩ = some (.slice y1 y2 y3) ∧ W.cell? ⟨w.heap.size, 4, none⟩ = some (.int .i64 u.fld.at') ∧ W.cell? ⟨w.heap.size, 5, none⟩ = some (.int .i64 u.fld.cap) ∧ W.cell? ⟨w.heap.size, 6, none⟩ = some (.string u.fld.name) ∧ W.cell? ⟨w.heap.size, 7, none⟩ = some (.int .i64 u.fld.min) ∧ W.cell? ⟨w.heap.size, 8, none⟩ = some (.int .i64 u.fld.max) ∧ W.cell? ⟨w.heap.size, 9, none⟩ = some (.bool u.fld.lazy) ∧ W.cell? ⟨w4.heap.size, 0, none⟩ = some (.int .i64 uo) ∧ W.cell? ⟨w4.heap.size, 1, none⟩ = some (.slice d1 d2 d3) ∧ W.cell? ⟨w4.heap.size, 2, none⟩ = some (.int .i32 uk.fld.rune) ∧ W.cell? ⟨w4.heap.size, 3, none⟩ = some (.slice f1 f2 f3) ∧ W.cell? ⟨w4.heap.size, 4, none⟩ = some (.int .i64 uk.fld.at') ∧ W.cell? ⟨w4.heap.size, 5, none⟩ = some (.int .i64 uk.fld.cap) ∧ W.cell? ⟨w4.heap.size, 6, none⟩ = some (.string uk.fld.name) ∧ W.cell? ⟨w4.heap.size, 7, none⟩ = some (.int .i64 uk.fld.min) ∧ W.cell? ⟨w4.heap.size, 8, none⟩ = some (.int .i64 uk.fld.max) ∧ W.cell? ⟨w4.heap.size, 9, none⟩ = some (.bool uk.fld.lazy)) := Lib.hid fun W hb => ⟨(hb.cell (World.block_lt_of_cell? w5 _ r0)).trans r0, (hb.cell (World.block_lt_of_cell? w5 _ r1)).trans r1, (hb.cell (World.block_lt_of_cell? w5 _ r2)).trans r2, (hb.cell (World.block_lt_of_cell? w5 _ r3)).trans r3, (hb.cell (World.block_lt_of_cell? w5 _ r4)).trans r4, (hb.cell (World.block_lt_of_cell? w5 _ r5)).trans r5, (hb.cell (World.block_lt_of_cell? w5 _ r6)).trans r6, (hb.cell (World.block_lt_of_cell? w5 _ r7)).trans r7, (hb.cell (World.block_lt_of_cell? w5 _ r8)).trans r8, (hb.cell (World.block_lt_of_cell? w5 _ r9)).trans r9, (hb.cell (World.block_lt_of_cell? w5 _ s0)).trans s0, (hb.cell (World.block_lt_of_cell? w5 _ s1)).trans s1, (hb.cell (World.block_lt_of_cell? w5 _ s2)).trans s2, (hb.cell (World.block_lt_of_cell? w5 _ s3)).trans s3, (hb.cell (World.block_lt_of_cell? w5 _ s4)).trans s4, (hb.cell (World.block_lt_of_cell? w5 _ s5)).trans s5, (hb.cell (World.block_lt_of_cell? w5 _ s6)).trans s6, (hb.cell (World.block_lt_of_cell? w5 _ s7)).trans s7, (hb.cell (World.block_lt_of_cell? w5 _ s8)).trans s8, (hb.cell (World.block_lt_of_cell? w5 _ s9)).trans s9⟩
      go_upto_region 40 with (fail)
      refine wp_region_held_drew (S := (fun w' => w'.cell? ⟨w.heap.size, 0, none⟩ = some (.int .i64 op) ∧ w'.cell? ⟨w.heap.size, 1, none⟩ = some (.slice (some ⟨b, o, none⟩) 1 x3) ∧ w'.cell? ⟨w.heap.size, 2, none⟩ = some (.int .i32 u.fld.rune) ∧ w'.cell? ⟨w.heap.size, 3, none⟩ = some (.slice y1 y2 y3) ∧ w'.cell? ⟨w.heap.size, 4, none⟩ = some (.int .i64 u.fld.at') ∧ w'.cell? ⟨w.heap.size, 5, none⟩ = some (.int .i64 u.fld.cap) ∧ w'.cell? ⟨w.heap.size, 6, none⟩ = some (.string u.fld.name) ∧ w'.cell? ⟨w.heap.size, 7, none⟩ = some (.int .i64 u.fld.min) ∧ w'.cell? ⟨w.heap.size, 8, none⟩ = some (.int .i64 u.fld.max) ∧ w'.cell? ⟨w.heap.size, 9, none⟩ = some (.bool u.fld.lazy) ∧ w'.cell? ⟨w4.heap.size, 0, none⟩ = some (.int .i64 uo) ∧ w'.cell? ⟨w4.heap.size, 1, none⟩ = some (.slice d1 d2 d3) ∧ w'.cell? ⟨w4.heap.size, 2, none⟩ = some (.int .i32 uk.fld.rune) ∧ w'.cell? ⟨w4.heap.size, 3, none⟩ = some (.slice f1 f2 f3) ∧ w'.cell? ⟨w4.heap.size, 4, none⟩ = some (.int .i64 uk.fld.at') ∧ w'.cell? ⟨w4.heap.size, 5, none⟩ = some (.int .i64 uk.fld.cap) ∧ w'.cell? ⟨w4.heap.size, 6, none⟩ = some (.string uk.fld.name) ∧ w'.cell? ⟨w4.heap.size, 7, none⟩ = some (.int .i64 uk.fld.min) ∧ w'.cell? ⟨w4.heap.size, 8, none⟩ = some (.int .i64 uk.fld.max) ∧ w'.cell? ⟨w4.heap.size, 9, none⟩ = some (.bool uk.fld.lazy))) (by kernel_rfl) (KP.out _ HB0.out) (fun hHeld => ?_)
      refine wpAnyH_take (i := 0) (oi := _) (v := ?_) rfl (by kernel_rfl) (by kernel_rfl) (by kernel_rfl) (fun _ _ _ h => h) (Or.inl ⟨by rfl, ?_⟩) (by assumption) ?_
      rotate_left 1
      · (intro w hSw; (try dsimp only at hSw); go_simp; (try with_reducible rfl))
      try simp only [List.getElem_toArray, List.getElem_cons_zero, Act.put, List.setIfInBounds_toArray, List.set_cons_zero, List.set_cons_succ]
      refine wpAnyH_take (i := 4) (oi := _) (v := ?_) rfl (by kernel_rfl) (by kernel_rfl) (by kernel_rfl) (fun _ _ _ h => h) (Or.inl ⟨by rfl, ?_⟩) (by assumption) ?_
      rotate_left 1
      · (intro w hSw; (try dsimp only at hSw); go_simp; (try with_reducible rfl))
      try simp only [List.getElem_toArray, List.getElem_cons_zero, List.getElem_cons_succ, Act.put, List.setIfInBounds_toArray, List.set_cons_zero, List.set_cons_succ]
      refine wpAnyH_ready (rs := [1]) (by kernel_rfl) (by simp) ?_
      refine AllReadyH.cons (o := _) rfl (fun K hK => ?_) ?_
      · go_simp
        refine (HI5.out _ HB0.out).mono ?_
        rintro e q1 ⟨rfl, hb⟩
        have HB6 := Lib.hid (HB0.out.trans (hb.mono HB0.out.size))
        clear hb
        go_wp2_with fail
        refine hK.out _ _ (KP.out _ HB6.out) (fun hHeld => ?_)
        clear hK K
        try simp only [List.getElem_toArray, List.getElem_cons_zero, List.getElem_cons_succ, Act.put, List.setIfInBounds_toArray, List.set_cons_zero, List.set_cons_succ]
        refine wpAnyH_take (i := 2) (oi := _) (v := ?_) rfl (by kernel_rfl) (by kernel_rfl) (by kernel_rfl) (fun _ _ _ h => h) (Or.inl ⟨by rfl, ?_⟩) (by assumption) ?_
        rotate_left 1
        · (intro w hSw; (try dsimp only at hSw); go_simp; (try with_reducible rfl))
        try simp only [List.getElem_toArray, List.getElem_cons_zero, List.getElem_cons_succ, Act.put, List.setIfInBounds_toArray, List.set_cons_zero, List.set_cons_succ]
        refine wpAnyH_take (i := 3) (oi := _) (v := ?_) rfl (by kernel_rfl) (by kernel_rfl) (by kernel_rfl) (fun _ _ _ h => h) (Or.inl ⟨by rfl, ?_⟩) (by assumption) ?_
        rotate_left 1
        · (intro w hSw; (try dsimp only at hSw); go_simp; (try with_reducible rfl))
        try simp only [List.getElem_toArray, List.getElem_cons_zero, List.getElem_cons_succ, Act.put, List.setIfInBounds_toArray, List.set_cons_zero, List.set_cons_succ]
        refine wpAnyH_ready (rs := [5]) (by kernel_rfl) (by simp) ?_
        refine AllReadyH.cons (o := _) rfl (fun K hK => ?_) ?_
        · go_simp
          refine (HRP5.out _ HB6.out).mono ?_
          rintro e q2 ⟨rfl, hb⟩
          have HB7 := Lib.hid (HB6.out.trans (hb.mono HB6.out.size))
          clear hb
          go_wp2_with fail
          refine hK.out _ _ (KP.out _ HB7.out) (fun hHeld => ?_)
          clear hK K
          try simp only [List.getElem_toArray, List.getElem_cons_zero, List.getElem_cons_succ, Act.put, List.setIfInBounds_toArray, List.set_cons_zero, List.set_cons_succ]
          refine wpAnyH_take (i := 6) (oi := _) (v := ?_) rfl (by kernel_rfl) (by kernel_rfl) (by kernel_rfl) (fun _ _ _ h => h) (Or.inl ⟨by rfl, ?_⟩) (by assumption) ?_
          rotate_left 1
          · (intro w hSw; (try dsimp only at hSw); go_simp; (try with_reducible rfl))
          try simp only [List.getElem_toArray, List.getElem_cons_zero, List.getElem_cons_succ, Act.put, List.setIfInBounds_toArray, List.set_cons_zero, List.set_cons_succ]
          refine wpAnyH_take (i := 7) (oi := _) (v := ?_) rfl (by kernel_rfl) (by kernel_rfl) (by kernel_rfl) (fun _ _ _ h => h) (Or.inl ⟨by rfl, ?_⟩) (by assumption) ?_
          rotate_left 1
          · (intro w hSw; (try dsimp only at hSw); go_simp; (try with_reducible rfl))
          try simp only [List.getElem_toArray, List.getElem_cons_zero, List.getElem_cons_succ, Act.put, List.setIfInBounds_toArray, List.set_cons_zero, List.set_cons_succ]
          refine wpAnyH_done (by kernel_rfl) ?_ _
          go_wp2_with fail
          go_ret
          exact ⟨by rw [HZ.out]; rfl, HB3.out.trans ((HBB.out.trans (HB7.out.mono HBB.out.size)).mono HB3.out.size)⟩
        exact AllReadyH.nil
      exact AllReadyH.nil
    · have HZ := Lib.hid (HZB.out fun h => by
        rcases HHE.out.1 h with ⟨g, -⟩ | ⟨g, -⟩
        · exact h11 (HUO.out.symm.trans g)
        · rw [HUO.out] at g; exact h7 g)
      clear HZA HZB q1 q2 q3 h11
      have KP : Hid (∀ W, Below w5.heap.size w5 W → W.cell? ⟨w.heap.size, 0, none⟩ = some (.int .i64 op) ∧ W.cell? ⟨w.heap.size, 1, none⟩ = some (.slice (some ⟨b, o, none⟩) 1 x3) ∧ W.cell? ⟨w.heap.size, 2, none⟩ = some (.int .i32 u.fld.rune) ∧ W.cell? ⟨w.heap.size, 3, none⟩ = some (.slice y1 y2 y3) ∧ W.cell? ⟨w.heap.size, 4, none⟩ = some (.int .i64 u.fld.at') ∧ W.cell? ⟨w.heap.size, 5, none⟩ = some (.int .i64 u.fld.cap) ∧ W.cell? ⟨w.heap.size, 6, none⟩ = some (.string u.fld.name) ∧ W.cell? ⟨w.heap.size, 7, none⟩ = some (.int .i64 u.fld.min) ∧ W.cell? ⟨w.heap.size, 8, none⟩ = some (.int .i64 u.fld.max) ∧ W.cell? ⟨w.heap.size, 9, none⟩ = some (.bool u.fld.lazy) ∧ W.cell? ⟨w4.heap.size, 0, none⟩ = some (.int .i64 uo) ∧ W.cell? ⟨w4.heap.size, 1, none⟩ = some (.slice d1 d2 d3) ∧ W.cell? ⟨w4.heap.size, 2, none⟩ = some (.int .i32 uk.fld.rune) ∧ W.cell? ⟨w4.heap.size, 3, none⟩ = some (.slice f1 f2 f3) ∧ W.cell? ⟨w4.heap.size, 4, none⟩ = some (.int .i64 uk.fld.at') ∧ W.cell? ⟨w4.heap.size, 5, none⟩ = some (.int .i64 uk.fld.cap) ∧ W.cell? ⟨w4.heap.size, 6, none⟩ = some (.string uk.fld.name) ∧ W.cell? ⟨w4.heap.size, 7, none⟩ = some (.int .i64 uk.fld.min) ∧ W.cell? ⟨w4.heap.size, 8, none⟩ = some (.int .i64 uk.fld.max) ∧ W.cell? ⟨w4.heap.size, 9, none⟩ = some (.bool uk.fld.lazy)) := Lib.hid fun W hb => ⟨(hb.cell (World.block_lt_of_cell? w5 _ r0)).trans r0, (hb.cell (World.block_lt_of_cell? w5 _ r1)).trans r1, (hb.cell (World.block_lt_of_cell? w5 _ r2)).trans r2, (hb.cell (World.block_lt_of_cell? w5 _ r3)).trans r3, (hb.cell (World.block_lt_of_cell? w5 _ r4)).trans r4, (hb.cell (World.block_lt_of_cell? w5 _ r5)).trans r5, (hb.cell (World.block_lt_of_cell? w5 _ r6)).trans r6, (hb.cell (World.block_lt_of_cell? w5 _ r7)).trans r7, (hb.cell (World.block_lt_of_cell? w5 _ r8)).trans r8, (hb.cell (World.block_lt_of_cell? w5 _ r9)).trans r9, (hb.cell (World.block_lt_of_cell? w5 _ s0)).trans s0, (hb.cell (World.block_lt_of_cell? w5 _ s1)).trans s1, (hb.cell (World.block_lt_of_cell? w5 _ s2)).trans s2, (hb.cell (World.block_lt_of_cell? w5 _ s3)).trans s3, (hb.cell (World.block_lt_of_cell? w5 _ s4)).trans s4, (hb.cell (World.block_lt_of_cell? w5 _ s5)).trans s5, (hb.cell (World.block_lt_of_cell? w5 _ s6)).trans s6, (hb.cell (World.block_lt_of_cell? w5 _ s7)).trans s7, (hb.cell (World.block_lt_of_cell? w5 _ s8)).trans s8, (hb.cell (World.block_lt_of_cell? w5 _ s9)).trans s9⟩
      go_upto_region 41 with (fail)
      refine wp_region_held_drew (S := (fun w' => w'.cell? ⟨w.heap.size, 0, none⟩ = some (.int .i64 op) ∧ w'.cell? ⟨w.heap.size, 1, none⟩ = some (.slice (some ⟨b, o, none⟩) 1 x3) ∧ w'.cell? ⟨w.heap.size, 2, none⟩ = some (.int .i32 u.fld.rune) ∧ w'.cell? ⟨w.heap.size, 3, none⟩ = some (.slice y1 y2 y3) ∧ w'.cell? ⟨w.heap.size, 4, none⟩ = some (.int .i64 u.fld.at') ∧ w'.cell? ⟨w.heap.size, 5, none⟩ = some (.int .i64 u.fld.cap) ∧ w'.cell? ⟨w.heap.size, 6, none⟩ = some (.string u.fld.name) ∧ w'.cell? ⟨w.heap.size, 7, none⟩ = some (.int .i64 u.fld.min) ∧ w'.cell? ⟨w.heap.size, 8, none⟩ = some (.int .i64 u.fld.max) ∧ w'.cell? ⟨w.heap.size, 9, none⟩ = some (.bool u.fld.lazy) ∧ w'.cell? ⟨w4.heap.size, 0, none⟩ = some (.int .i64 uo) ∧ w'.cell? ⟨w4.heap.size, 1, none⟩ = some (.slice d1 d2 d3) ∧ w'.cell? ⟨w4.heap.size, 2, none⟩ = some (.int .i32 uk.fld.rune) ∧ w'.cell? ⟨w4.heap.size, 3, none⟩ = some (.slice f1 f2 f3) ∧ w'.cell? ⟨w4.heap.size, 4, none⟩ = some (.int .i64 uk.fld.at') ∧ w'.cell? ⟨w4.heap.size, 5, none⟩ = some (.int .i64 uk.fld.cap) ∧ w'.cell? ⟨w4.heap.size, 6, none⟩ = some (.string uk.fld.name) ∧ w'.cell? ⟨w4.heap.size, 7, none⟩ = some (.int .i64 uk.fld.min) ∧ w'.cell? ⟨w4.heap.size, 8, none⟩ = some (.int .i64 uk.fld.max) ∧ w'.cell? ⟨w4.heap.size, 9, none⟩ = some (.bool uk.fld.lazy))) (by kernel_rfl) (KP.out _ HB0.out) (fun hHeld => ?_)
      refine wpAnyH_take (i := 0) (oi := _) (v := ?_) rfl (by kernel_rfl) (by kernel_rfl) (by kernel_rfl) (fun _ _ _ h => h) (Or.inl ⟨by rfl, ?_⟩) (by assumption) ?_
      rotate_left 1
      · (intro w hSw; (try dsimp only at hSw); go_simp; (try with_reducible rfl))
      try simp only [List.getElem_toArray, List.getElem_cons_zero, Act.put, List.setIfInBounds_toArray, List.set_cons_zero, List.set_cons_succ]
      refine wpAnyH_take (i := 2) (oi := _) (v := ?_) rfl (by kernel_rfl) (by kernel_rfl) (by kernel_rfl) (fun _ _ _ h => h) (Or.inl ⟨by rfl, ?_⟩) (by assumption) ?_
      rotate_left 1
      · (intro w hSw; (try dsimp only at hSw); go_simp; (try with_reducible rfl))
      try simp only [List.getElem_toArray, List.getElem_cons_zero, List.getElem_cons_succ, Act.put, List.setIfInBounds_toArray, List.set_cons_zero, List.set_cons_succ]
      refine wpAnyH_ready (rs := [1]) (by kernel_rfl) (by simp) ?_
      refine AllReadyH.cons (o := _) rfl (fun K hK => ?_) ?_
      · go_simp
        refine (HI5.out _ HB0.out).mono ?_
        rintro e q1 ⟨rfl, hb⟩
        have HB6 := Lib.hid (HB0.out.trans (hb.mono HB0.out.size))
        clear hb
        go_wp2_with fail
        refine hK.out _ _ (KP.out _ HB6.out) (fun hHeld => ?_)
        clear hK K
        try simp only [List.getElem_toArray, List.getElem_cons_zero, List.getElem_cons_succ, Act.put, List.setIfInBounds_toArray, List.set_cons_zero, List.set_cons_succ]
        refine wpAnyH_ready (rs := [3]) (by kernel_rfl) (by simp) ?_
        refine AllReadyH.cons (o := _) rfl (fun K hK => ?_) ?_
        · go_simp
          refine (HRP5.out _ HB6.out).mono ?_
          rintro e q2 ⟨rfl, hb⟩
          have HB7 := Lib.hid (HB6.out.trans (hb.mono HB6.out.size))
          clear hb
          go_wp2_with fail
          refine hK.out _ _ (KP.out _ HB7.out) (fun hHeld => ?_)
          clear hK K
          try simp only [List.getElem_toArray, List.getElem_cons_zero, List.getElem_cons_succ, Act.put, List.setIfInBounds_toArray, List.set_cons_zero, List.set_cons_succ]
          refine wpAnyH_take (i := 4) (oi := _) (v := ?_) rfl (by kernel_rfl) (by kernel_rfl) (by kernel_rfl) (fun _ _ _ h => h) (Or.inl ⟨by rfl, ?_⟩) (by assumption) ?_
          rotate_left 1
          · (intro w hSw; (try dsimp only at hSw); go_simp; (try with_reducible rfl))
          try simp only [List.getElem_toArray, List.getElem_cons_zero, List.getElem_cons_succ, Act.put, List.setIfInBounds_toArray, List.set_cons_zero, List.set_cons_succ]
          refine wpAnyH_take (i := 5) (oi := _) (v := ?_) rfl (by kernel_rfl) (by kernel_rfl) (by kernel_rfl) (fun _ _ _ h => h) (Or.inl ⟨by rfl, ?_⟩) (by assumption) ?_
          rotate_left 1
          · (intro w hSw; (try dsimp only at hSw); go_simp; (try with_reducible rfl))
          try simp only [List.getElem_toArray, List.getElem_cons_zero, List.getElem_cons_succ, Act.put, List.setIfInBounds_toArray, List.set_cons_zero, List.set_cons_succ]
          refine wpAnyH_done (by kernel_rfl) ?_ _
          go_wp2_with fail
          go_ret
          exact ⟨by rw [HZ.out]; rfl, HB3.out.trans ((HBB.out.trans (HB7.out.mono HBB.out.size)).mono HB3.out.size)⟩
        exact AllReadyH.nil
      exact AllReadyH.nil
end Go.Proofs.YthnddabcmhplkaaDoor
/- The document's text of every shaped tree. Written by gen9wlaw.py. -/
namespace Go.Proofs.YthnddabcmhplkaaDoor
open Go Go.RowKit

theorem text9_step {t : Tr} (hs0 : ShapedP t) (hp : partsR t ≤ 10000000000) (hC : ∀ k, partsR k < partsR t → ShapedP k → Text9 k) : Text9 t := by
  rcases shaped_kinds (sole_all t hs0).1 with (h | h | h | h | h) | h | h | h | h
  · exact text9_leaf (by omega) hs0 hp hC
  · exact text9_leaf (by omega) hs0 hp hC
  · exact text9_leaf (by omega) hs0 hp hC
  · exact text9_leaf (by omega) hs0 hp hC
  · exact text9_leaf (by omega) hs0 hp hC
  · exact text9_cap h hs0 hp hC
  · exact text9_rep h hs0 hp hC
  · exact text9_cat h hs0 hp hC
  · exact text9_alt h hs0 hp hC
theorem text9_any : ∀ (n : Nat) (t : Tr), partsR t < n → partsR t ≤ 10000000000 → ShapedP t → Text9 t
  | 0, t, h, _, _ => absurd h (Nat.not_lt_zero _)
  | n + 1, t, h, hp, hs => text9_step hs hp fun k hk hks => text9_any n k (by omega) (by omega) hks
end Go.Proofs.YthnddabcmhplkaaDoor
