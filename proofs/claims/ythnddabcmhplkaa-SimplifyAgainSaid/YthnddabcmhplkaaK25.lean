/- Texts merged by program: SmHead, SmPlainL, SmAgainL, SmCountsL. No condition. -/
import Derived.Test.YthnddabcmhplkaaK22
import Derived.Test.YthnddabcmhplkaaK11
import Derived.Test.YthnddabcmhplkaaK3
import Derived.Test.YthnddabcmhplkaaK23
import Derived.Test.YthnddabcmhplkaaK24
import Derived.Test.YthnddabcmhplkaaK20
import Derived.Deep.RegionHeld3
import Derived.WalkKit
set_option linter.unusedVariables false
/- The fixed question of stage 10, and its trees. Written by gen10.py. -/
namespace Go.Proofs.Ythnddabcmhplkaa
open Go Go.RowKit

def aFld : Fld := { op := 3, rune := 97, set := [], at' := 0, cap := 0, name := ⟨#[]⟩, min := 0, max := 0, lazy := false }
def aTr : Tr := .mk aFld []
def repF (a b : Int) (z : Bool) : Fld := { op := 10, rune := 0, set := [], at' := 0, cap := 0, name := ⟨#[]⟩, min := a, max := b, lazy := z }
def repTr (a b : Int) (z : Bool) : Tr := .mk (repF a b z) [aTr]
theorem a_parts : partsR aTr = 1 := by rw [aTr, partsS_mk]; rfl
theorem a_runes : runesN aTr = 1 := by rw [aTr, runesN_mk]; simp [aFld]
theorem a_shaped : ShapedP aTr := by
  rw [shapedP_iff]
  refine ⟨⟨by decide, by decide, fun h => absurd rfl h, fun _ => rfl, fun _ => rfl, fun _ => ⟨rfl, show (⟨#[]⟩ : ByteArray).toList = [] by kernel_rfl⟩, fun _ => ⟨rfl, rfl⟩, fun h => (by cases h), fun _ => ⟨by decide, by decide⟩, fun h => (by cases h), fun h => (by cases h), fun h => (by cases h), fun h => (by cases h)⟩, ⟨fun h => ?_, fun h => (by cases h), .inr (.inr (.inr (.inr (.inr (.inr (.inr rfl))))))⟩, fun h => (by cases h.1), fun k hk => (by cases hk)⟩
  rcases h with h | h | h | h | h <;> cases h
theorem rep_right {a b : Int} {z : Bool} (h0 : 0 ≤ a) (h1 : a ≤ 1000) (h2 : b = -1 ∨ (a ≤ b ∧ b ≤ 1000)) : RightT (repTr a b z) := by
  refine ⟨?_, ?_, ?_, ?_⟩
  · rw [depthR_eq]
    show maxL ([aTr].map depthR) + 1 ≤ 50
    have : depthR aTr = 1 := by rw [depthR_eq]; rfl
    simp [maxL, this]
  · rw [weightR_eq]
    show weightN (repF a b z) 1 (clipR (([aTr].map weightR).sum)) ≤ 4000
    have : weightR aTr = 1 := by rw [weightR_eq]; rfl
    rw [List.map_cons, List.map_nil, List.sum_cons, List.sum_nil, this]
    unfold weightN
    rw [if_neg (by simp [repF]), if_neg (by simp [repF]), if_pos (by simp [repF])]
    show clipR (clipR (max (max a b) 1).toNat * clipR (1 + 0) + clipR (max (max a b) 1).toNat + 1) ≤ 4000
    rw [show clipR (1 + 0) = 1 by decide, Nat.mul_one]
    unfold clipR
    omega
  · rw [shapedP_iff]
    refine ⟨⟨show (1 : Int) ≤ 10 by decide, show (10 : Int) ≤ 12 by decide, fun _ => rfl, fun _ => rfl, fun _ => rfl, fun _ => ⟨rfl, show (⟨#[]⟩ : ByteArray).toList = [] by kernel_rfl⟩, fun h => absurd rfl h, fun _ => ⟨show (7 : Int) ≤ 10 by decide, show (10 : Int) ≤ 10 by decide⟩, fun h => (by cases h), fun h => (by cases h), fun h => (by cases h), fun h => (by cases h), fun _ => ⟨⟨h0, h1⟩, h2⟩⟩, ⟨fun _ => rfl, fun h => (by cases h), .inr (.inr (.inr (.inr (.inl rfl))))⟩, fun h => (by cases h.1), fun k hk => ?_⟩
    rw [List.mem_singleton.1 (show k ∈ [aTr] from hk)]
    exact a_shaped
  · have hg : groupsT (repTr a b z) = [] := by
      rw [groupsT_eq]
      show (if (repF a b z).op = 6 then _ else []) ++ ([aTr].map groupsT).flatten = []
      have : groupsT aTr = [] := by rw [groupsT_eq]; rfl
      rw [if_neg (by simp [repF])]
      simp [this]
    rw [hg]
    intro i hi
    simp at hi
theorem rep_simple (a b : Int) (z : Bool) : simpleT (repTr a b z) = repeatedT (repF a b z) aTr := by
  have h1 : simpleT aTr = aTr := by
    rw [simpleT_eq]
    unfold madeT
    rw [if_neg (by simp [aTr, Tr.fld, aFld]), if_neg (by simp [aTr, Tr.fld, aFld]), if_neg (by simp [aTr, Tr.fld, aFld]), if_neg (by simp [aTr, Tr.fld, aFld]), if_neg (by simp [aTr, Tr.fld, aFld])]
    rfl
  rw [simpleT_eq]
  show madeT (repF a b z) ([aTr].map simpleT) = _
  rw [List.map_cons, List.map_nil, h1]
  unfold madeT
  rw [if_neg (by simp [repF]), if_neg (by simp [repF]), if_pos (by simp [repF])]
  rfl
theorem two_simple : simpleT (repTr 2 2 false) = .mk (opF 11 false) [aTr, aTr] := by
  rw [rep_simple]
  unfold repeatedT
  rw [if_neg (by simp [repF]), if_neg (by simp [repF]), if_pos (by simp [repF]), joined_same]
  · rfl
  · intro k hk
    rw [List.eq_of_mem_replicate hk]
    simp [aTr, Tr.fld, aFld]
theorem aFld_ok : FldOk aFld := by
  refine ⟨⟨by decide, by decide⟩, ⟨by decide, by decide⟩, ⟨by decide, by decide⟩, ⟨by decide, by decide⟩, ⟨by decide, by decide⟩, ⟨by decide, by decide⟩, show (0 : Nat) ≤ _ by omega, by simp [aFld]⟩
theorem nil_rgs (w : World) : Rgs w (.slice none 0 0) [] := ⟨none, 0, rfl, by simp, by unfold maxLen; omega, by simp, .inl rfl, by simp⟩
theorem a_tre (w : World) : Tre w aTr (.agg #[.int .i64 3, .slice none 0 0, .int .i32 97, .slice none 0 0, .int .i64 0, .int .i64 0, .string ⟨#[]⟩, .int .i64 0, .int .i64 0, .bool false]) := by
  rw [tre_iff]
  exact ⟨_, _, rfl, nil_rgs w, aFld_ok, none, 0, rfl, by simp [aTr, Tr.kids], by unfold maxLen; omega, by simp [aTr, Tr.kids], by simp, .inl rfl⟩
theorem rep_tre {w : World} {b : Nat} {mn mx : Int} {z : Bool} (h0 : 0 ≤ mn) (h1 : mn ≤ 1000) (h2 : -1 ≤ mx) (h3 : mx ≤ 1000) (h : CellsAt w b 0 #[.int .i64 3, .slice none 0 0, .int .i32 97, .slice none 0 0, .int .i64 0, .int .i64 0, .string ⟨#[]⟩, .int .i64 0, .int .i64 0, .bool false]) : Tre w (repTr mn mx z) (.agg #[.int .i64 10, .slice (some ⟨b, 0, none⟩) 1 1, .int .i32 0, .slice none 0 0, .int .i64 0, .int .i64 0, .string ⟨#[]⟩, .int .i64 mn, .int .i64 mx, .bool z]) := by
  rw [tre_iff]
  refine ⟨_, _, rfl, nil_rgs w, ⟨⟨show (-9223372036854775808 : Int) ≤ 10 by decide, show (10 : Int) ≤ _ by decide⟩, ⟨show (-2147483648 : Int) ≤ 0 by decide, show (0 : Int) ≤ _ by decide⟩, ⟨show (-9223372036854775808 : Int) ≤ 0 by decide, show (0 : Int) ≤ _ by decide⟩, ⟨show (-9223372036854775808 : Int) ≤ 0 by decide, show (0 : Int) ≤ _ by decide⟩, ⟨show -9223372036854775808 ≤ mn by omega, show mn ≤ 9223372036854775807 by omega⟩, ⟨show -9223372036854775808 ≤ mx by omega, show mx ≤ 9223372036854775807 by omega⟩, show (0 : Nat) ≤ _ by omega, show ([] : List (Int × Int)).length ≤ _ by simp⟩, some ⟨b, 0, none⟩, 1, rfl, by simp [repTr, Tr.kids], by unfold maxLen; omega, by simp [repTr, Tr.kids], by simp, .inr ⟨b, 0, rfl, trivial, fun i hi => ?_⟩⟩
  have hi' : i < 1 := hi
  obtain rfl : i = 0 := by omega
  exact ⟨_, by simpa using h, a_tre w⟩
theorem rep_parts (a b : Int) (z : Bool) : partsR (repTr a b z) ≤ 10000000000 := by
  rw [repTr, partsS_mk, sumS_cons, a_parts]
  show 1 + 0 + (1 + 0) ≤ _
  omega

set_option maxHeartbeats 4000000 in
set_option maxRecDepth 100000 in
theorem smHead_any (w : World) : Calls Try.prog 6 #[] w fun e w' => e = .returned (.bool true) ∧ Below w.heap.size w w' := by
  obtain ⟨w1, hw1⟩ : ∃ w1, w.alloc (.cells #[.int .i64 3, .slice none 0 0, .int .i32 97, .slice none 0 0, .int .i64 0, .int .i64 0, .string ⟨#[]⟩, .int .i64 0, .int .i64 0, .bool false] 27) = w1 := ⟨_, rfl⟩
  have hb1 : Below w.heap.size w w1 := by rw [← hw1]; exact (Below.refl _ _).alloc (Nat.le_refl _) _
  have hc1 : CellsAt w1 w.heap.size 0 #[.int .i64 3, .slice none 0 0, .int .i32 97, .slice none 0 0, .int .i64 0, .int .i64 0, .string ⟨#[]⟩, .int .i64 0, .int .i64 0, .bool false] := by rw [← hw1]; exact cellsAt_new w _ _
  have hT := rep_tre (z := false) (mn := 2) (mx := 2) (by omega) (by omega) (by omega) (by omega) hc1
  have HS := Lib.hid (smSimpleTop_any _ (rep_parts 2 2 false) (fun b => b < w1.heap.size) _ w1 (fun b h => h) hT.foot)
  have HB1 := Lib.hid hb1
  clear hb1 hc1 hT
  go_enter Try.func6, Try.ntmps6
  go_wp2_with fail
  refine HS.out.mono ?_
  rintro e w2 ⟨T, hp, v, rfl, ht, hb2⟩
  obtain rfl : T = .mk (opF 11 false) [aTr, aTr] := by
    rcases hp with ⟨-, h⟩ | ⟨h, -⟩
    · rw [h, two_simple]
    · exact absurd (rep_right (by omega) (by omega) (.inr ⟨by omega, by omega⟩)) h
  obtain ⟨kv, sv, rfl, ⟨m1, m2, m3, rfl⟩, ⟨p1, p2, p3, rfl⟩⟩ := ht.ten
  have hkd : KdsF (fun b => b < w1.heap.size ∨ w1.heap.size ≤ b) w2 [aTr, aTr] (.slice m1 m2 m3) := by
    have h := ht
    rw [treF_iff] at h
    obtain ⟨kv', sv', e, -, -, hk⟩ := h
    obtain ⟨rfl, rfl⟩ := treC_inj (f := opF 11 false) (k1 := .slice m1 m2 m3) (s1 := .slice p1 p2 p3) e
    exact hk
  obtain rfl : m2 = 2 := by
    obtain ⟨A', c', e, -⟩ := hkd
    injection e
  obtain ⟨b, o, tk, x1, x2, x3, y1, y2, y3, rfl, htk, hm, hx2, ⟨c0, c1, c2', c3, c4, c5, c6, c7, c8, c9⟩, hTk⟩ := (smKdsE hkd).kid 1 (by simp)
  obtain rfl : tk = aTr := by rw [← htk]; rfl
  replace c2' : w2.cell? ⟨b, o + 1 * 10 + 2, none⟩ = some (.int .i32 97) := c2'
  obtain ⟨w3, hw3⟩ : ∃ w3, w2.alloc (.cells #[.int .i64 11, .slice (some ⟨b, o, none⟩) 2 m3, .int .i32 0, .slice p1 p2 p3, .int .i64 0, .int .i64 0, .string ⟨#[]⟩, .int .i64 0, .int .i64 0, .bool false] 27) = w3 := ⟨_, rfl⟩
  have hb3 : Below w2.heap.size w2 w3 := by rw [← hw3]; exact (Below.refl _ _).alloc (Nat.le_refl _) _
  have hE3 := box10_new w2 27 (.int .i64 11) (.slice (some ⟨b, o, none⟩) 2 m3) (.int .i32 0) (.slice p1 p2 p3) (.int .i64 0) (.int .i64 0) (.string ⟨#[]⟩) (.int .i64 0) (.int .i64 0) (.bool false)
  rw [hw3] at hE3
  have c2 := (hb3.cell (World.block_lt_of_cell? w2 _ c2')).trans c2'
  have HB2 := Lib.hid (HB1.out.trans (hb2.mono HB1.out.size))
  have HB3 := Lib.hid (HB2.out.trans (hb3.mono HB2.out.size))
  obtain ⟨e0, e1, e2, e3, e4, e5, e6, e7, e8, e9⟩ := hE3
  have HW3 := Lib.hid hw3
  simp only [Nat.one_mul] at c2
  clear hp ht hkd htk hm hx2 hTk hb2 hb3 c0 c1 c2' c3 c4 c5 c6 c7 c8 c9 hw3
  simp only [Tr.fld, opF]
  go_upto_region 2 with (fail)
  rw [HW3.out]
  go_wp2_with fail
  go_ret
  exact ⟨rfl, HB3.out⟩
end Go.Proofs.Ythnddabcmhplkaa
/- SimplifyPlain. Written by gen10.py. -/
namespace Go.Proofs.Ythnddabcmhplkaa
open Go Go.RowKit

set_option maxHeartbeats 4000000 in
set_option maxRecDepth 100000 in
theorem simplifyPlain_any (w : World) (v : Value) (t : Tr) (h : Tre w t v) : Calls Try.prog 3 #[v] w fun e w' => e = .returned (.bool true) ∧ Below w.heap.size w w' := by
  have h0 := h
  obtain ⟨A, n, c, a2, s, c2, hn, hs, rfl, hnb, hsb, hK, hS, hF⟩ := h.opened
  obtain ⟨w1, hw1⟩ : ∃ w1, w.alloc (.cells #[.int .i64 t.fld.op, .slice A n c, .int .i32 t.fld.rune, .slice a2 s c2, .int .i64 t.fld.at', .int .i64 t.fld.cap, .string t.fld.name, .int .i64 t.fld.min, .int .i64 t.fld.max, .bool t.fld.lazy] 27) = w1 := ⟨_, rfl⟩
  have hb1 : Below w.heap.size w w1 := by rw [← hw1]; exact (Below.refl _ _).alloc (Nat.le_refl _) _
  have hE1 : Box10 w1 w.heap.size (.int .i64 t.fld.op) (.slice A n c) (.int .i32 t.fld.rune) (.slice a2 s c2) (.int .i64 t.fld.at') (.int .i64 t.fld.cap) (.string t.fld.name) (.int .i64 t.fld.min) (.int .i64 t.fld.max) (.bool t.fld.lazy) := by rw [← hw1]; exact box10_new w _ _ _ _ _ _ _ _ _ _ _
  have HW1 := Lib.hid hw1; have HT := Lib.hid hb1; have HE := Lib.hid hE1; have H0 := Lib.hid (h0.below hb1)
  clear hb1 hE1 hw1 hK hS hn hs hF h h0
  go_enter Try.func3, Try.ntmps3
  go_wp2_with fail
  rw [HW1.out]
  clear HW1
  go_wp2_with fail
  refine (smHead_any w1).mono ?_
  rintro e w2 ⟨rfl, hb⟩
  replace H0 := Lib.hid (H0.out.below hb); replace HE := Lib.hid (HE.out.below hb)
  replace HT := Lib.hid (HT.out.trans (hb.mono HT.out.size))
  clear hb
  obtain ⟨b0, b1, b2, b3, b4, b5, b6, b7, b8, b9⟩ := HE.out
  go_wp2_with fail
  refine (parts_any 20000 (by omega) t _ w2 H0.out).mono ?_
  rintro e w3 ⟨r, rfl, hr1, hr2, hr3, hb⟩
  replace H0 := Lib.hid (H0.out.below hb); replace HE := Lib.hid (HE.out.below hb)
  replace HT := Lib.hid (HT.out.trans (hb.mono HT.out.size))
  have HR1 := Lib.hid hr1; have HR2 := Lib.hid hr2
  clear hb hr1 hr2 b0 b1 b2 b3 b4 b5 b6 b7 b8 b9
  by_cases hlt : 20000 < r
  · have hz : (20000 : Int) < (r : Int) := by omega
    go_wp2_with fail
    go_ret
    exact ⟨rfl, HT.out⟩
  have hz : ¬ (20000 : Int) < (r : Int) := by omega
  have hp : partsR t ≤ 10000000000 := by
    rcases Nat.lt_or_ge 20000 (partsR t) with h | h
    · have := HR2.out h
      omega
    · omega
  have HP := Lib.hid hp
  clear HR1 HR2 hlt hp
  have HS := Lib.hid (smSimpleTop_any t HP.out (fun b => b < w3.heap.size) _ w3 (fun b h => h) H0.out.foot)
  obtain ⟨b0, b1, b2, b3, b4, b5, b6, b7, b8, b9⟩ := HE.out
  go_wp2_with fail
  refine HS.out.mono ?_
  rintro e w4 ⟨T, hpo, v, rfl, ht, hb⟩
  replace H0 := Lib.hid (H0.out.below hb); replace HE := Lib.hid (HE.out.below hb)
  replace HT := Lib.hid (HT.out.trans (hb.mono HT.out.size))
  have hT := ht.tre
  obtain ⟨kv, sv, rfl, ⟨m1, m2, m3, rfl⟩, ⟨p1, p2, p3, rfl⟩⟩ := ht.ten
  obtain ⟨w5, hw5⟩ : ∃ w5, w4.alloc (.cells #[.int .i64 T.fld.op, .slice m1 m2 m3, .int .i32 T.fld.rune, .slice p1 p2 p3, .int .i64 T.fld.at', .int .i64 T.fld.cap, .string T.fld.name, .int .i64 T.fld.min, .int .i64 T.fld.max, .bool T.fld.lazy] 27) = w5 := ⟨_, rfl⟩
  have hb5 : Below w4.heap.size w4 w5 := by rw [← hw5]; exact (Below.refl _ _).alloc (Nat.le_refl _) _
  have hX5 := box10_new w4 27 (.int .i64 T.fld.op) (.slice m1 m2 m3) (.int .i32 T.fld.rune) (.slice p1 p2 p3) (.int .i64 T.fld.at') (.int .i64 T.fld.cap) (.string T.fld.name) (.int .i64 T.fld.min) (.int .i64 T.fld.max) (.bool T.fld.lazy)
  rw [hw5] at hX5
  have HPO := Lib.hid hpo; have HX := Lib.hid hX5; have HA := Lib.hid (hT.below hb5); have HW5 := Lib.hid hw5
  replace H0 := Lib.hid (H0.out.below hb5); replace HE := Lib.hid (HE.out.below hb5)
  replace HT := Lib.hid (HT.out.trans (hb5.mono HT.out.size))
  clear hb hb5 hX5 hpo hT ht hw5 b0 b1 b2 b3 b4 b5 b6 b7 b8 b9 HS
  go_upto_region 5 with (fail)
  rw [HW5.out]
  obtain ⟨b0, b1, b2, b3, b4, b5, b6, b7, b8, b9⟩ := HE.out
  go_wp2_with fail
  refine (pright_any t HP.out _ w5 H0.out).mono ?_
  rintro e w6 ⟨B, rfl, hq, hb⟩
  replace H0 := Lib.hid (H0.out.below hb); replace HE := Lib.hid (HE.out.below hb); replace HX := Lib.hid (HX.out.below hb); replace HA := Lib.hid (HA.out.below hb)
  replace HT := Lib.hid (HT.out.trans (hb.mono HT.out.size))
  have HQ := Lib.hid hq
  clear hb hq b0 b1 b2 b3 b4 b5 b6 b7 b8 b9
  rcases B with _ | _
  · have hn : ¬ RightT t := fun h => by have := HQ.out.2 h; cases this
    obtain rfl : T = noTr := by
      rcases HPO.out with ⟨h, -⟩ | ⟨-, h⟩
      · exact absurd h hn
      · exact h
    have hm2 : m2 = 0 := by
      obtain ⟨kv', sv', e, -, -, A', c', rfl, -⟩ := HA.out.parts
      have := (treC_inj (f := noTr.fld) (k1 := .slice m1 m2 m3) (s1 := .slice p1 p2 p3) e).1
      injection this
    subst hm2
    obtain ⟨x0, x1, x2, x3, x4, x5, x6, x7, x8, x9⟩ := HX.out
    replace x0 : w6.cell? ⟨w4.heap.size, 0, none⟩ = some (.int .i64 0) := x0
    clear hn
    go_wp2_with fail
    go_ret
    exact ⟨rfl, HT.out⟩
  · have hr : RightT t := HQ.out.1 (by simp)
    obtain rfl : T = simpleT t := by
      rcases HPO.out with ⟨-, h⟩ | ⟨h, -⟩
      · exact h
      · exact absurd hr h
    have hg := simple_good t hr.2.2.1
    have HG := Lib.hid hg
    have HSH := Lib.hid (pshaped_any (simpleT t) (simple_few hr) _ w6 HA.out)
    clear hr hg
    obtain ⟨x0, x1, x2, x3, x4, x5, x6, x7, x8, x9⟩ := HX.out
    go_wp2_with fail
    refine HSH.out.mono ?_
    rintro e w7 ⟨B, rfl, hq, hb⟩
    replace HX := Lib.hid (HX.out.below hb); replace HA := Lib.hid (HA.out.below hb)
    replace HT := Lib.hid (HT.out.trans (hb.mono HT.out.size))
    obtain rfl : B = true := hq.2 HG.out.1
    clear hb hq x0 x1 x2 x3 x4 x5 x6 x7 x8 x9
    have HCO := Lib.hid (smCounted_any (simpleT t) HG.out.2 _ w7 HA.out)
    obtain ⟨x0, x1, x2, x3, x4, x5, x6, x7, x8, x9⟩ := HX.out
    go_wp2_with fail
    refine HCO.out.mono ?_
    rintro e w8 ⟨rfl, hb⟩
    replace HX := Lib.hid (HX.out.below hb); replace HA := Lib.hid (HA.out.below hb)
    replace HT := Lib.hid (HT.out.trans (hb.mono HT.out.size))
    clear hb x0 x1 x2 x3 x4 x5 x6 x7 x8 x9
    have HTI := Lib.hid (smTidy_any (simpleT t) HG.out.2 _ w8 HA.out)
    obtain ⟨x0, x1, x2, x3, x4, x5, x6, x7, x8, x9⟩ := HX.out
    go_wp2_with fail
    refine HTI.out.mono ?_
    rintro e w9 ⟨rfl, hb⟩
    replace HT := Lib.hid (HT.out.trans (hb.mono HT.out.size))
    clear hb x0 x1 x2 x3 x4 x5 x6 x7 x8 x9
    go_wp2_with fail
    go_ret
    exact ⟨rfl, HT.out⟩
end Go.Proofs.Ythnddabcmhplkaa
/- SimplifyAgain. Written by gen10.py. -/
namespace Go.Proofs.Ythnddabcmhplkaa
open Go Go.RowKit

set_option maxHeartbeats 4000000 in
set_option maxRecDepth 100000 in
theorem simplifyAgain_any (w : World) (v : Value) (t : Tr) (h : Tre w t v) : Calls Try.prog 5 #[v] w fun e w' => e = .returned (.bool true) ∧ Below w.heap.size w w' := by
  have h0 := h
  obtain ⟨A, n, c, a2, s, c2, hn, hs, rfl, hnb, hsb, hK, hS, hF⟩ := h.opened
  obtain ⟨w1, hw1⟩ : ∃ w1, w.alloc (.cells #[.int .i64 t.fld.op, .slice A n c, .int .i32 t.fld.rune, .slice a2 s c2, .int .i64 t.fld.at', .int .i64 t.fld.cap, .string t.fld.name, .int .i64 t.fld.min, .int .i64 t.fld.max, .bool t.fld.lazy] 27) = w1 := ⟨_, rfl⟩
  have hb1 : Below w.heap.size w w1 := by rw [← hw1]; exact (Below.refl _ _).alloc (Nat.le_refl _) _
  have hE1 : Box10 w1 w.heap.size (.int .i64 t.fld.op) (.slice A n c) (.int .i32 t.fld.rune) (.slice a2 s c2) (.int .i64 t.fld.at') (.int .i64 t.fld.cap) (.string t.fld.name) (.int .i64 t.fld.min) (.int .i64 t.fld.max) (.bool t.fld.lazy) := by rw [← hw1]; exact box10_new w _ _ _ _ _ _ _ _ _ _ _
  have HW1 := Lib.hid hw1; have HT := Lib.hid hb1; have HE := Lib.hid hE1; have H0 := Lib.hid (h0.below hb1)
  clear hb1 hE1 hw1 hK hS hn hs hF h h0
  go_enter Try.func5, Try.ntmps5
  go_wp2_with fail
  rw [HW1.out]
  clear HW1
  go_wp2_with fail
  refine (smHead_any w1).mono ?_
  rintro e w2 ⟨rfl, hb⟩
  replace H0 := Lib.hid (H0.out.below hb); replace HE := Lib.hid (HE.out.below hb)
  replace HT := Lib.hid (HT.out.trans (hb.mono HT.out.size))
  clear hb
  obtain ⟨b0, b1, b2, b3, b4, b5, b6, b7, b8, b9⟩ := HE.out
  go_wp2_with fail
  refine (parts_any 20000 (by omega) t _ w2 H0.out).mono ?_
  rintro e w3 ⟨r, rfl, hr1, hr2, hr3, hb⟩
  replace H0 := Lib.hid (H0.out.below hb); replace HE := Lib.hid (HE.out.below hb)
  replace HT := Lib.hid (HT.out.trans (hb.mono HT.out.size))
  have HR1 := Lib.hid hr1; have HR2 := Lib.hid hr2
  clear hb hr1 hr2 b0 b1 b2 b3 b4 b5 b6 b7 b8 b9
  by_cases hlt : 20000 < r
  · have hz : (20000 : Int) < (r : Int) := by omega
    go_wp2_with fail
    go_ret
    exact ⟨rfl, HT.out⟩
  have hz : ¬ (20000 : Int) < (r : Int) := by omega
  have hp : partsR t ≤ 10000000000 := by
    rcases Nat.lt_or_ge 20000 (partsR t) with h | h
    · have := HR2.out h
      omega
    · omega
  have HP := Lib.hid hp
  clear HR1 HR2 hlt hp
  have HS := Lib.hid (smSimpleTop_any t HP.out (fun b => b < w3.heap.size) _ w3 (fun b h => h) H0.out.foot)
  obtain ⟨b0, b1, b2, b3, b4, b5, b6, b7, b8, b9⟩ := HE.out
  go_wp2_with fail
  refine HS.out.mono ?_
  rintro e w4 ⟨T, hpo, v, rfl, ht, hb⟩
  replace H0 := Lib.hid (H0.out.below hb); replace HE := Lib.hid (HE.out.below hb)
  replace HT := Lib.hid (HT.out.trans (hb.mono HT.out.size))
  have hT := ht.tre
  obtain ⟨kv, sv, rfl, ⟨m1, m2, m3, rfl⟩, ⟨p1, p2, p3, rfl⟩⟩ := ht.ten
  obtain ⟨w5, hw5⟩ : ∃ w5, w4.alloc (.cells #[.int .i64 T.fld.op, .slice m1 m2 m3, .int .i32 T.fld.rune, .slice p1 p2 p3, .int .i64 T.fld.at', .int .i64 T.fld.cap, .string T.fld.name, .int .i64 T.fld.min, .int .i64 T.fld.max, .bool T.fld.lazy] 27) = w5 := ⟨_, rfl⟩
  have hb5 : Below w4.heap.size w4 w5 := by rw [← hw5]; exact (Below.refl _ _).alloc (Nat.le_refl _) _
  have hX5 := box10_new w4 27 (.int .i64 T.fld.op) (.slice m1 m2 m3) (.int .i32 T.fld.rune) (.slice p1 p2 p3) (.int .i64 T.fld.at') (.int .i64 T.fld.cap) (.string T.fld.name) (.int .i64 T.fld.min) (.int .i64 T.fld.max) (.bool T.fld.lazy)
  rw [hw5] at hX5
  have HPO := Lib.hid hpo; have HX := Lib.hid hX5; have HA := Lib.hid (hT.below hb5); have HW5 := Lib.hid hw5
  replace H0 := Lib.hid (H0.out.below hb5); replace HE := Lib.hid (HE.out.below hb5)
  replace HT := Lib.hid (HT.out.trans (hb5.mono HT.out.size))
  clear hb hb5 hX5 hpo hT ht hw5 b0 b1 b2 b3 b4 b5 b6 b7 b8 b9 HS
  go_upto_region 5 with (fail)
  rw [HW5.out]
  have hpT : partsR T ≤ 10000000000 := by
    rcases HPO.out with ⟨h, e⟩ | ⟨-, e⟩
    · rw [e]; exact simple_few h
    · rw [e, noTr, partsS_mk]
      show 1 + 0 + 0 ≤ _
      omega
  have hsame : RightT T → T = simpleT T := fun hT => by
    rcases HPO.out with ⟨h, e⟩ | ⟨h, e⟩
    · rw [e]; exact (simple_twice h.2.2.1).symm
    · rw [e] at hT
      have := ((shapedP_iff _).1 hT.2.2.1).1.1
      exact absurd this (by decide)
  have HPT := Lib.hid hpT; have HSA := Lib.hid hsame
  have HRI := Lib.hid (show ∀ W, Below w5.heap.size w5 W → Calls Try.prog 9 #[.agg #[.int .i64 T.fld.op, .slice m1 m2 m3, .int .i32 T.fld.rune, .slice p1 p2 p3, .int .i64 T.fld.at', .int .i64 T.fld.cap, .string T.fld.name, .int .i64 T.fld.min, .int .i64 T.fld.max, .bool T.fld.lazy]] W (SaysB (RightT T) W) from fun W hW => pright_any T HPT.out _ W (HA.out.below hW))
  have HSI := Lib.hid (show ∀ W, Below w5.heap.size w5 W → Calls Try.prog 8 #[.agg #[.int .i64 T.fld.op, .slice m1 m2 m3, .int .i32 T.fld.rune, .slice p1 p2 p3, .int .i64 T.fld.at', .int .i64 T.fld.cap, .string T.fld.name, .int .i64 T.fld.min, .int .i64 T.fld.max, .bool T.fld.lazy]] W (fun e w' => ∃ U, PlainOf T U ∧ TurnedPost (fun b => b < W.heap.size) U W e w') from fun W hW => smSimpleTop_any T HPT.out (fun b => b < W.heap.size) _ W (fun b h => h) (HA.out.below hW).foot)
  have HXW := Lib.hid (show ∀ W, Below w5.heap.size w5 W → Box10 W w4.heap.size (.int .i64 T.fld.op) (.slice m1 m2 m3) (.int .i32 T.fld.rune) (.slice p1 p2 p3) (.int .i64 T.fld.at') (.int .i64 T.fld.cap) (.string T.fld.name) (.int .i64 T.fld.min) (.int .i64 T.fld.max) (.bool T.fld.lazy) from fun W hW => HX.out.below hW)
  clear hpT hsame
  have HB0 := Lib.hid (below_draws w5 1)
  have KP : Hid (∀ W, Below w5.heap.size w5 W → W.cell? ⟨w4.heap.size, 0, none⟩ = some (.int .i64 T.fld.op) ∧ W.cell? ⟨w4.heap.size, 1, none⟩ = some (.slice m1 m2 m3) ∧ W.cell? ⟨w4.heap.size, 2, none⟩ = some (.int .i32 T.fld.rune) ∧ W.cell? ⟨w4.heap.size, 3, none⟩ = some (.slice p1 p2 p3) ∧ W.cell? ⟨w4.heap.size, 4, none⟩ = some (.int .i64 T.fld.at') ∧ W.cell? ⟨w4.heap.size, 5, none⟩ = some (.int .i64 T.fld.cap) ∧ W.cell? ⟨w4.heap.size, 6, none⟩ = some (.string T.fld.name) ∧ W.cell? ⟨w4.heap.size, 7, none⟩ = some (.int .i64 T.fld.min) ∧ W.cell? ⟨w4.heap.size, 8, none⟩ = some (.int .i64 T.fld.max) ∧ W.cell? ⟨w4.heap.size, 9, none⟩ = some (.bool T.fld.lazy)) := Lib.hid fun W hb => by
    obtain ⟨x0, x1, x2, x3, x4, x5, x6, x7, x8, x9⟩ := HXW.out W hb
    exact ⟨x0, x1, x2, x3, x4, x5, x6, x7, x8, x9⟩
  by_cases hR : RightT T
  · have HR := Lib.hid hR
    clear hR
    refine wp_region_held_drew (S := (fun w' => w'.cell? ⟨w4.heap.size, 0, none⟩ = some (.int .i64 T.fld.op) ∧ w'.cell? ⟨w4.heap.size, 1, none⟩ = some (.slice m1 m2 m3) ∧ w'.cell? ⟨w4.heap.size, 2, none⟩ = some (.int .i32 T.fld.rune) ∧ w'.cell? ⟨w4.heap.size, 3, none⟩ = some (.slice p1 p2 p3) ∧ w'.cell? ⟨w4.heap.size, 4, none⟩ = some (.int .i64 T.fld.at') ∧ w'.cell? ⟨w4.heap.size, 5, none⟩ = some (.int .i64 T.fld.cap) ∧ w'.cell? ⟨w4.heap.size, 6, none⟩ = some (.string T.fld.name) ∧ w'.cell? ⟨w4.heap.size, 7, none⟩ = some (.int .i64 T.fld.min) ∧ w'.cell? ⟨w4.heap.size, 8, none⟩ = some (.int .i64 T.fld.max) ∧ w'.cell? ⟨w4.heap.size, 9, none⟩ = some (.bool T.fld.lazy))) (by kernel_rfl) (KP.out _ HB0.out) (fun hHeld => ?_)
    refine wpAnyH_take (i := 0) (oi := _) (v := ?_) rfl (by kernel_rfl) (by kernel_rfl) (by kernel_rfl) (fun _ _ _ h => h) (Or.inl ⟨by rfl, ?_⟩) (by assumption) ?_
    rotate_left 1
    · (intro w hSw; (try dsimp only at hSw); go_simp; (try with_reducible rfl))
    try simp only [List.getElem_toArray, List.getElem_cons_zero, Act.put, List.setIfInBounds_toArray, List.set_cons_zero, List.set_cons_succ]
    refine wpAnyH_take (i := 1) (oi := _) (v := ?_) rfl (by kernel_rfl) (by kernel_rfl) (by kernel_rfl) (fun _ _ _ h => h) (Or.inl ⟨by rfl, ?_⟩) (by assumption) ?_
    rotate_left 1
    · (intro w hSw; (try dsimp only at hSw); go_simp; (try with_reducible rfl))
    try simp only [List.getElem_toArray, List.getElem_cons_zero, List.getElem_cons_succ, Act.put, List.setIfInBounds_toArray, List.set_cons_zero, List.set_cons_succ]
    refine wpAnyH_take (i := 2) (oi := _) (v := ?_) rfl (by kernel_rfl) (by kernel_rfl) (by kernel_rfl) (fun _ _ _ h => h) (Or.inl ⟨by rfl, ?_⟩) (by assumption) ?_
    rotate_left 1
    · (intro w hSw; (try dsimp only at hSw); go_simp; (try with_reducible rfl))
    try simp only [List.getElem_toArray, List.getElem_cons_zero, List.getElem_cons_succ, Act.put, List.setIfInBounds_toArray, List.set_cons_zero, List.set_cons_succ]
    refine wpAnyH_ready (rs := [3]) (by kernel_rfl) (by simp) ?_
    refine AllReadyH.cons (o := _) rfl (fun K hK => ?_) ?_
    · go_simp
      refine (HRI.out _ HB0.out).mono ?_
      rintro e u1 ⟨B, rfl, hq, hb⟩
      obtain rfl : B = true := hq.2 HR.out
      have HB4 := Lib.hid (HB0.out.trans (hb.mono HB0.out.size))
      clear hb hq
      go_wp2_with fail
      refine hK.out _ _ (KP.out _ HB4.out) (fun hHeld => ?_)
      clear hK K
      try simp only [List.getElem_toArray, List.getElem_cons_zero, List.getElem_cons_succ, Act.put, List.setIfInBounds_toArray, List.set_cons_zero, List.set_cons_succ]
      refine wpAnyH_take (i := 4) (oi := _) (v := ?_) rfl (by kernel_rfl) (by kernel_rfl) (by kernel_rfl) (fun _ _ _ h => h) (Or.inl ⟨by rfl, ?_⟩) (by assumption) ?_
      rotate_left 1
      · (intro w hSw; (try dsimp only at hSw); go_simp; (try with_reducible rfl))
      try simp only [List.getElem_toArray, List.getElem_cons_zero, List.getElem_cons_succ, Act.put, List.setIfInBounds_toArray, List.set_cons_zero, List.set_cons_succ]
      refine wpAnyH_take (i := 5) (oi := _) (v := ?_) rfl (by kernel_rfl) (by kernel_rfl) (by kernel_rfl) (fun _ _ _ h => h) (Or.inl ⟨by rfl, ?_⟩) (by assumption) ?_
      rotate_left 1
      · (intro w hSw; (try dsimp only at hSw); go_simp; (try with_reducible rfl))
      try simp only [List.getElem_toArray, List.getElem_cons_zero, List.getElem_cons_succ, Act.put, List.setIfInBounds_toArray, List.set_cons_zero, List.set_cons_succ]
      refine wpAnyH_take (i := 6) (oi := _) (v := ?_) rfl (by kernel_rfl) (by kernel_rfl) (by kernel_rfl) (fun _ _ _ h => h) (Or.inl ⟨by rfl, ?_⟩) (by assumption) ?_
      rotate_left 1
      · (intro w hSw; (try dsimp only at hSw); go_simp; (try with_reducible rfl))
      try simp only [List.getElem_toArray, List.getElem_cons_zero, List.getElem_cons_succ, Act.put, List.setIfInBounds_toArray, List.set_cons_zero, List.set_cons_succ]
      refine wpAnyH_take (i := 8) (oi := _) (v := ?_) rfl (by kernel_rfl) (by kernel_rfl) (by kernel_rfl) (fun _ _ _ h => h) (Or.inl ⟨by rfl, ?_⟩) (by assumption) ?_
      rotate_left 1
      · (intro w hSw; (try dsimp only at hSw); go_simp; (try with_reducible rfl))
      try simp only [List.getElem_toArray, List.getElem_cons_zero, List.getElem_cons_succ, Act.put, List.setIfInBounds_toArray, List.set_cons_zero, List.set_cons_succ]
      refine wpAnyH_ready (rs := [7]) (by kernel_rfl) (by simp) ?_
      refine AllReadyH.cons (o := _) rfl (fun K hK => ?_) ?_
      · go_simp
        refine (HSI.out _ HB4.out).mono ?_
        rintro e u2 ⟨U, hpu, v2, rfl, ht2, hb⟩
        obtain ⟨kv2, sv2, rfl, ⟨a1, a2', a3, rfl⟩, ⟨c1, c2', c3, rfl⟩⟩ := ht2.ten
        have HB5 := Lib.hid (HB4.out.trans (hb.mono HB4.out.size)); have HTU := Lib.hid ht2.tre; have HEQ := Lib.hid (show U = T from by rcases hpu with ⟨-, e⟩ | ⟨h, -⟩; (· rw [e]; exact (HSA.out HR.out).symm); (· exact absurd HR.out h))
        clear hb hpu ht2
        go_wp2_with fail
        refine hK.out _ _ (KP.out _ HB5.out) (fun hHeld => ?_)
        clear hK K
        try simp only [List.getElem_toArray, List.getElem_cons_zero, List.getElem_cons_succ, Act.put, List.setIfInBounds_toArray, List.set_cons_zero, List.set_cons_succ]
        refine wpAnyH_ready (rs := [9]) (by kernel_rfl) (by simp) ?_
        refine AllReadyH.cons (o := _) rfl (fun K hK => ?_) ?_
        · go_simp
          refine (same_any U T _ _ u2 HTU.out (HA.out.below HB5.out)).mono ?_
          rintro e u3 ⟨B, rfl, hq, hb⟩
          obtain rfl : B = true := hq.2 HEQ.out
          have HB6 := Lib.hid (HB5.out.trans (hb.mono HB5.out.size))
          clear hb hq
          go_wp2_with fail
          refine hK.out _ _ (KP.out _ HB6.out) (fun hHeld => ?_)
          clear hK K
          try simp only [List.getElem_toArray, List.getElem_cons_zero, List.getElem_cons_succ, Act.put, List.setIfInBounds_toArray, List.set_cons_zero, List.set_cons_succ]
          refine wpAnyH_take (i := 10) (oi := _) (v := ?_) rfl (by kernel_rfl) (by kernel_rfl) (by kernel_rfl) (fun _ _ _ h => h) (Or.inl ⟨by rfl, ?_⟩) (by assumption) ?_
          rotate_left 1
          · (intro w hSw; (try dsimp only at hSw); go_simp; (try with_reducible rfl))
          try simp only [List.getElem_toArray, List.getElem_cons_zero, List.getElem_cons_succ, Act.put, List.setIfInBounds_toArray, List.set_cons_zero, List.set_cons_succ]
          refine wpAnyH_take (i := 11) (oi := _) (v := ?_) rfl (by kernel_rfl) (by kernel_rfl) (by kernel_rfl) (fun _ _ _ h => h) (Or.inl ⟨by rfl, ?_⟩) (by assumption) ?_
          rotate_left 1
          · (intro w hSw; (try dsimp only at hSw); go_simp; (try with_reducible rfl))
          try simp only [List.getElem_toArray, List.getElem_cons_zero, List.getElem_cons_succ, Act.put, List.setIfInBounds_toArray, List.set_cons_zero, List.set_cons_succ]
          refine wpAnyH_take (i := 12) (oi := _) (v := ?_) rfl (by kernel_rfl) (by kernel_rfl) (by kernel_rfl) (fun _ _ _ h => h) (Or.inl ⟨by rfl, ?_⟩) (by assumption) ?_
          rotate_left 1
          · (intro w hSw; (try dsimp only at hSw); go_simp; (try with_reducible rfl))
          try simp only [List.getElem_toArray, List.getElem_cons_zero, List.getElem_cons_succ, Act.put, List.setIfInBounds_toArray, List.set_cons_zero, List.set_cons_succ]
          refine wpAnyH_done (by kernel_rfl) ?_ _
          go_wp2_with fail
          go_ret
          exact ⟨rfl, HT.out.trans (HB6.out.mono HT.out.size)⟩
        exact AllReadyH.nil
      exact AllReadyH.nil
    exact AllReadyH.nil
  · have HR := Lib.hid hR
    clear hR
    refine wp_region_held_drew (S := (fun w' => w'.cell? ⟨w4.heap.size, 0, none⟩ = some (.int .i64 T.fld.op) ∧ w'.cell? ⟨w4.heap.size, 1, none⟩ = some (.slice m1 m2 m3) ∧ w'.cell? ⟨w4.heap.size, 2, none⟩ = some (.int .i32 T.fld.rune) ∧ w'.cell? ⟨w4.heap.size, 3, none⟩ = some (.slice p1 p2 p3) ∧ w'.cell? ⟨w4.heap.size, 4, none⟩ = some (.int .i64 T.fld.at') ∧ w'.cell? ⟨w4.heap.size, 5, none⟩ = some (.int .i64 T.fld.cap) ∧ w'.cell? ⟨w4.heap.size, 6, none⟩ = some (.string T.fld.name) ∧ w'.cell? ⟨w4.heap.size, 7, none⟩ = some (.int .i64 T.fld.min) ∧ w'.cell? ⟨w4.heap.size, 8, none⟩ = some (.int .i64 T.fld.max) ∧ w'.cell? ⟨w4.heap.size, 9, none⟩ = some (.bool T.fld.lazy))) (by kernel_rfl) (KP.out _ HB0.out) (fun hHeld => ?_)
    refine wpAnyH_take (i := 0) (oi := _) (v := ?_) rfl (by kernel_rfl) (by kernel_rfl) (by kernel_rfl) (fun _ _ _ h => h) (Or.inl ⟨by rfl, ?_⟩) (by assumption) ?_
    rotate_left 1
    · (intro w hSw; (try dsimp only at hSw); go_simp; (try with_reducible rfl))
    try simp only [List.getElem_toArray, List.getElem_cons_zero, Act.put, List.setIfInBounds_toArray, List.set_cons_zero, List.set_cons_succ]
    refine wpAnyH_take (i := 1) (oi := _) (v := ?_) rfl (by kernel_rfl) (by kernel_rfl) (by kernel_rfl) (fun _ _ _ h => h) (Or.inl ⟨by rfl, ?_⟩) (by assumption) ?_
    rotate_left 1
    · (intro w hSw; (try dsimp only at hSw); go_simp; (try with_reducible rfl))
    try simp only [List.getElem_toArray, List.getElem_cons_zero, List.getElem_cons_succ, Act.put, List.setIfInBounds_toArray, List.set_cons_zero, List.set_cons_succ]
    refine wpAnyH_take (i := 2) (oi := _) (v := ?_) rfl (by kernel_rfl) (by kernel_rfl) (by kernel_rfl) (fun _ _ _ h => h) (Or.inl ⟨by rfl, ?_⟩) (by assumption) ?_
    rotate_left 1
    · (intro w hSw; (try dsimp only at hSw); go_simp; (try with_reducible rfl))
    try simp only [List.getElem_toArray, List.getElem_cons_zero, List.getElem_cons_succ, Act.put, List.setIfInBounds_toArray, List.set_cons_zero, List.set_cons_succ]
    refine wpAnyH_ready (rs := [3]) (by kernel_rfl) (by simp) ?_
    refine AllReadyH.cons (o := _) rfl (fun K hK => ?_) ?_
    · go_simp
      refine (HRI.out _ HB0.out).mono ?_
      rintro e u1 ⟨B, rfl, hq, hb⟩
      obtain rfl : B = false := by cases B; rfl; exact absurd (hq.1 rfl) HR.out
      have HB4 := Lib.hid (HB0.out.trans (hb.mono HB0.out.size))
      clear hb hq
      go_wp2_with fail
      refine hK.out _ _ (KP.out _ HB4.out) (fun hHeld => ?_)
      clear hK K
      try simp only [List.getElem_toArray, List.getElem_cons_zero, List.getElem_cons_succ, Act.put, List.setIfInBounds_toArray, List.set_cons_zero, List.set_cons_succ]
      refine wpAnyH_take (i := 4) (oi := _) (v := ?_) rfl (by kernel_rfl) (by kernel_rfl) (by kernel_rfl) (fun _ _ _ h => h) (Or.inl ⟨by rfl, ?_⟩) (by assumption) ?_
      rotate_left 1
      · (intro w hSw; (try dsimp only at hSw); go_simp; (try with_reducible rfl))
      try simp only [List.getElem_toArray, List.getElem_cons_zero, List.getElem_cons_succ, Act.put, List.setIfInBounds_toArray, List.set_cons_zero, List.set_cons_succ]
      refine wpAnyH_take (i := 5) (oi := _) (v := ?_) rfl (by kernel_rfl) (by kernel_rfl) (by kernel_rfl) (fun _ _ _ h => h) (Or.inl ⟨by rfl, ?_⟩) (by assumption) ?_
      rotate_left 1
      · (intro w hSw; (try dsimp only at hSw); go_simp; (try with_reducible rfl))
      try simp only [List.getElem_toArray, List.getElem_cons_zero, List.getElem_cons_succ, Act.put, List.setIfInBounds_toArray, List.set_cons_zero, List.set_cons_succ]
      refine wpAnyH_take (i := 6) (oi := _) (v := undef) rfl (by kernel_rfl) (by kernel_rfl) (by kernel_rfl) (fun _ _ _ h => h) (Or.inr ⟨by rfl, rfl⟩) (by assumption) ?_
      try simp only [List.getElem_toArray, List.getElem_cons_zero, List.getElem_cons_succ, Act.put, List.setIfInBounds_toArray, List.set_cons_zero, List.set_cons_succ]
      refine wpAnyH_take (i := 7) (oi := _) (v := undef) rfl (by kernel_rfl) (by kernel_rfl) (by kernel_rfl) (fun _ _ _ h => h) (Or.inr ⟨by rfl, rfl⟩) (by assumption) ?_
      try simp only [List.getElem_toArray, List.getElem_cons_zero, List.getElem_cons_succ, Act.put, List.setIfInBounds_toArray, List.set_cons_zero, List.set_cons_succ]
      refine wpAnyH_take (i := 8) (oi := _) (v := undef) rfl (by kernel_rfl) (by kernel_rfl) (by kernel_rfl) (fun _ _ _ h => h) (Or.inr ⟨by rfl, rfl⟩) (by assumption) ?_
      try simp only [List.getElem_toArray, List.getElem_cons_zero, List.getElem_cons_succ, Act.put, List.setIfInBounds_toArray, List.set_cons_zero, List.set_cons_succ]
      refine wpAnyH_take (i := 9) (oi := _) (v := undef) rfl (by kernel_rfl) (by kernel_rfl) (by kernel_rfl) (fun _ _ _ h => h) (Or.inr ⟨by rfl, rfl⟩) (by assumption) ?_
      try simp only [List.getElem_toArray, List.getElem_cons_zero, List.getElem_cons_succ, Act.put, List.setIfInBounds_toArray, List.set_cons_zero, List.set_cons_succ]
      refine wpAnyH_take (i := 10) (oi := _) (v := ?_) rfl (by kernel_rfl) (by kernel_rfl) (by kernel_rfl) (fun _ _ _ h => h) (Or.inl ⟨by rfl, ?_⟩) (by assumption) ?_
      rotate_left 1
      · (intro w hSw; (try dsimp only at hSw); go_simp; (try with_reducible rfl))
      try simp only [List.getElem_toArray, List.getElem_cons_zero, List.getElem_cons_succ, Act.put, List.setIfInBounds_toArray, List.set_cons_zero, List.set_cons_succ]
      refine wpAnyH_take (i := 11) (oi := _) (v := ?_) rfl (by kernel_rfl) (by kernel_rfl) (by kernel_rfl) (fun _ _ _ h => h) (Or.inl ⟨by rfl, ?_⟩) (by assumption) ?_
      rotate_left 1
      · (intro w hSw; (try dsimp only at hSw); go_simp; (try with_reducible rfl))
      try simp only [List.getElem_toArray, List.getElem_cons_zero, List.getElem_cons_succ, Act.put, List.setIfInBounds_toArray, List.set_cons_zero, List.set_cons_succ]
      refine wpAnyH_take (i := 12) (oi := _) (v := ?_) rfl (by kernel_rfl) (by kernel_rfl) (by kernel_rfl) (fun _ _ _ h => h) (Or.inl ⟨by rfl, ?_⟩) (by assumption) ?_
      rotate_left 1
      · (intro w hSw; (try dsimp only at hSw); go_simp; (try with_reducible rfl))
      try simp only [List.getElem_toArray, List.getElem_cons_zero, List.getElem_cons_succ, Act.put, List.setIfInBounds_toArray, List.set_cons_zero, List.set_cons_succ]
      refine wpAnyH_done (by kernel_rfl) ?_ _
      go_wp2_with fail
      go_ret
      exact ⟨rfl, HT.out.trans (HB4.out.mono HT.out.size)⟩
    exact AllReadyH.nil
end Go.Proofs.Ythnddabcmhplkaa
/- SimplifyCounts. Written by gen10.py. -/
namespace Go.Proofs.Ythnddabcmhplkaa
open Go Go.RowKit

theorem u8_wf10 {a : Int} (h : (Lit.int .u8 a).wf = true) : 0 ≤ a ∧ a ≤ 255 := by
  simp [Lit.wf, IntKind.min, IntKind.max, IntKind.bits, IntKind.signed] at h
  omega
set_option maxHeartbeats 4000000 in
set_option maxRecDepth 100000 in
theorem simplifyCounts_any (w : World) (a0 a1 : Int) (h00 : 0 ≤ a0) (h01 : a0 ≤ 255) (h10 : 0 ≤ a1) (h11 : a1 ≤ 255) (op z : Bool) : Calls Try.prog 4 #[.int .u8 a0, .int .u8 a1, .bool op, .bool z] w fun e w' => e = .returned (.bool true) ∧ Below w.heap.size w w' := by
  have q0 : IntKind.i64.wrap a0 = a0 := (IntWalk.i64_left _).trans (IntWalk.wrap64_in _ (by omega))
  have q1 : IntKind.i64.wrap a1 = a1 := (IntWalk.i64_left _).trans (IntWalk.wrap64_in _ (by omega))
  have q2 : IntKind.i64.wrap (a0 + a1) = a0 + a1 := (IntWalk.i64_left _).trans (IntWalk.wrap64_in _ (by omega))
  obtain ⟨X, hX⟩ : ∃ X, max a0 1 = X := ⟨_, rfl⟩
  have hmx : ∀ (ts : Array TypeId) (ty : TypeId) (W : World), (Builtin.max_ ts ty #[.int .i64 a0, .int .i64 1]).run Try.prog W = .ok (.int .i64 X) W := fun ts ty W => by
    rw [run_max_int2, ← hX]
    congr 2
    omega
  go_enter Try.func4, Try.ntmps4
  go_wp2_with fail
  refine (smHead_any w).mono ?_
  rintro e w1 ⟨rfl, hb1⟩
  obtain ⟨w2, hw2⟩ : ∃ w2, w1.alloc (.cells #[.int .i64 3, .slice none 0 0, .int .i32 97, .slice none 0 0, .int .i64 0, .int .i64 0, .string ⟨#[]⟩, .int .i64 0, .int .i64 0, .bool false] 27) = w2 := ⟨_, rfl⟩
  have hb2 : Below w1.heap.size w1 w2 := by rw [← hw2]; exact (Below.refl _ _).alloc (Nat.le_refl _) _
  have hs2 : w2.heap.size = w1.heap.size + 1 := by rw [← hw2]; simp
  have hc2 : CellsAt w2 w1.heap.size 0 #[.int .i64 3, .slice none 0 0, .int .i32 97, .slice none 0 0, .int .i64 0, .int .i64 0, .string ⟨#[]⟩, .int .i64 0, .int .i64 0, .bool false] := by rw [← hw2]; exact cellsAt_new w1 _ _
  obtain ⟨w3, hw3⟩ : ∃ w3, w2.alloc (.cells #[.int .i64 10, .slice (some ⟨w1.heap.size, 0, none⟩) 1 1, .int .i32 0, .slice none 0 0, .int .i64 0, .int .i64 0, .string ⟨#[]⟩, .int .i64 a0, .int .i64 (a0 + a1), .bool z] 27) = w3 := ⟨_, rfl⟩
  have hb3 : Below w2.heap.size w2 w3 := by rw [← hw3]; exact (Below.refl _ _).alloc (Nat.le_refl _) _
  have hE3 : Whole w3 (w1.heap.size + 1) 27 #[.int .i64 10, .slice (some ⟨w1.heap.size, 0, none⟩) 1 1, .int .i32 0, .slice none 0 0, .int .i64 0, .int .i64 0, .string ⟨#[]⟩, .int .i64 a0, .int .i64 (a0 + a1), .bool z] := by rw [← hw3, ← hs2]; exact heap_alloc_new w2 _
  have hc3 := hc2.below hb3
  have HB3 := Lib.hid (hb1.trans ((hb2.trans (hb3.mono hb2.size)).mono hb1.size))
  have HB1 := Lib.hid hb1; have HE3 := Lib.hid hE3; have HC3 := Lib.hid hc3; have HS2 := Lib.hid hs2; have HW2 := Lib.hid hw2; have HW3 := Lib.hid hw3
  obtain ⟨c0, c1, c2, c3, c4, c5, c6, c7, c8, c9⟩ := hE3.ten
  obtain ⟨z0, z1, z2, z3, z4, z5, z6, z7, z8, z9⟩ := whole_free hE3
  clear hb1 hb2 hs2 hc2 hw2 hb3 hE3 hc3 hw3
  go_upto_region 4 with (fail)
  rw [HW2.out, HW3.out]
  cases op
  · have hc4 := HC3.out
    have HB4 := HB3
    have HS := Lib.hid (smSimpleTop_any (repTr a0 (a0 + a1) z) (rep_parts _ _ _) (fun b => b < w3.heap.size) _ w3 (fun b h => h) (rep_tre (by omega) (by omega) (by omega) (by omega) hc4).foot)
    have hr : RightT (repTr a0 (a0 + a1) z) := rep_right (by omega) (by omega) (by omega)
    have hrn : (runesN (simpleT (repTr a0 (a0 + a1) z)) : Int) = (a0 + a1) := by
      rw [rep_simple]
      have h := repeated_runes (f := repF a0 (a0 + a1) z) (x := aTr) rfl a_runes (by show 0 ≤ a0; omega) (by show (a0 + a1) = -1 ∨ a0 ≤ (a0 + a1); omega)
      rw [h]
      show (if (a0 + a1) = -1 then max a0 1 else (a0 + a1)) = _
      rw [if_neg (by omega)]
    have HR := Lib.hid hr; have HRN := Lib.hid hrn
    clear hr hrn hc4
    go_wp2_with fail
    refine HS.out.mono ?_
    rintro e w5 ⟨T, hp, v, rfl, ht, hb5⟩
    obtain rfl : T = simpleT (repTr a0 (a0 + a1) z) := by
      rcases hp with ⟨-, h⟩ | ⟨h, -⟩
      · exact h
      · exact absurd HR.out h
    have HB5 := Lib.hid (HB4.out.trans (hb5.mono HB4.out.size))
    have HRU := Lib.hid (smRunes_any _ (simple_few HR.out) v w5 ht.tre)
    have e5 : ((runesN (simpleT (repTr a0 (a0 + a1) z)) : Int) == (a0 + a1)) = true := by rw [HRN.out]; simp
    obtain ⟨U, hU⟩ : ∃ U, simpleT (repTr a0 (a0 + a1) z) = U := ⟨_, rfl⟩
    rw [hU] at e5 HRU
    obtain ⟨R, hR⟩ : ∃ R, runesN U = R := ⟨_, rfl⟩
    rw [hR] at e5 HRU
    obtain ⟨kv5, sv5, rfl, ⟨d1, d2, d3, rfl⟩, ⟨g1, g2, g3, rfl⟩⟩ := ht.ten
    clear hp ht hb5 hU hR
    go_wp2_with fail
    refine HRU.out.mono ?_
    rintro e w6 ⟨rfl, hb6⟩
    have HB6 := Lib.hid (HB5.out.trans (hb6.mono HB5.out.size))
    clear hb6 HRU HS
    go_wp2_with fail
    go_ret
    exact ⟨rfl, HB6.out⟩
  · obtain ⟨W4, hW4⟩ : ∃ W4, w3.setCell ⟨w1.heap.size + 1, 8, none⟩ (.int .i64 (-1)) = W4 := ⟨_, rfl⟩
    have hE40 := HE3.out.store 8 (.int .i64 (-1))
    simp only [List.setIfInBounds_toArray, List.set_cons_zero, List.set_cons_succ] at hE40
    rw [hW4] at hE40
    have hc4 : CellsAt W4 w1.heap.size 0 #[.int .i64 3, .slice none 0 0, .int .i32 97, .slice none 0 0, .int .i64 0, .int .i64 0, .string ⟨#[]⟩, .int .i64 0, .int .i64 0, .bool false] := HC3.out.same (F := fun b => b = w1.heap.size) (fun b hb hl => by rw [← hW4]; exact Below.heap_setCell w3 _ _ b (by show b ≠ w1.heap.size + 1; omega)) rfl
    have HB4 := Lib.hid (show Below w.heap.size w W4 by rw [← hW4]; exact HB3.out.setCell (p := ⟨w1.heap.size + 1, 8, none⟩) (by have := HB1.out.size; show w.heap.size ≤ w1.heap.size + 1; omega) _)
    have HW4 := Lib.hid hW4
    clear hW4
    go_upto_region 7 with (fail)
    rw [HW4.out]
    clear c0 c1 c2 c3 c4 c5 c6 c7 c8 c9 z0 z1 z2 z3 z4 z5 z6 z7 z8 z9
    obtain ⟨c0, c1, c2, c3, c4, c5, c6, c7, c8, c9⟩ := hE40.ten
    clear hE40
    have HS := Lib.hid (smSimpleTop_any (repTr a0 (-1) z) (rep_parts _ _ _) (fun b => b < W4.heap.size) _ W4 (fun b h => h) (rep_tre (by omega) (by omega) (by omega) (by omega) hc4).foot)
    have hr : RightT (repTr a0 (-1) z) := rep_right (by omega) (by omega) (by omega)
    have hrn : (runesN (simpleT (repTr a0 (-1) z)) : Int) = X := by
      rw [rep_simple]
      have h := repeated_runes (f := repF a0 (-1) z) (x := aTr) rfl a_runes (by show 0 ≤ a0; omega) (by show (-1) = -1 ∨ a0 ≤ (-1); omega)
      rw [h]
      show (if (-1) = -1 then max a0 1 else (-1)) = _
      exact (if_pos (show (-1 : Int) = -1 from rfl)).trans hX
    have HR := Lib.hid hr; have HRN := Lib.hid hrn
    clear hr hrn hc4
    go_wp2_with fail
    refine HS.out.mono ?_
    rintro e w5 ⟨T, hp, v, rfl, ht, hb5⟩
    obtain rfl : T = simpleT (repTr a0 (-1) z) := by
      rcases hp with ⟨-, h⟩ | ⟨h, -⟩
      · exact h
      · exact absurd HR.out h
    have HB5 := Lib.hid (HB4.out.trans (hb5.mono HB4.out.size))
    have HRU := Lib.hid (smRunes_any _ (simple_few HR.out) v w5 ht.tre)
    have e5 : ((runesN (simpleT (repTr a0 (-1) z)) : Int) == X) = true := by rw [HRN.out]; simp
    obtain ⟨U, hU⟩ : ∃ U, simpleT (repTr a0 (-1) z) = U := ⟨_, rfl⟩
    rw [hU] at e5 HRU
    obtain ⟨R, hR⟩ : ∃ R, runesN U = R := ⟨_, rfl⟩
    rw [hR] at e5 HRU
    obtain ⟨kv5, sv5, rfl, ⟨d1, d2, d3, rfl⟩, ⟨g1, g2, g3, rfl⟩⟩ := ht.ten
    clear hp ht hb5 hU hR
    go_wp2_with fail
    refine HRU.out.mono ?_
    rintro e w6 ⟨rfl, hb6⟩
    have HB6 := Lib.hid (HB5.out.trans (hb6.mono HB5.out.size))
    clear hb6 HRU HS
    go_wp2_with fail
    go_ret
    exact ⟨rfl, HB6.out⟩
end Go.Proofs.Ythnddabcmhplkaa
