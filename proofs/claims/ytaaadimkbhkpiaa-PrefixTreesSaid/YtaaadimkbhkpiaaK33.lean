/- Texts merged by program: PxPrefix. No condition. -/
import Derived.Test.YtaaadimkbhkpiaaK32
import Derived.Test.YtaaadimkbhkpiaaK29
import Derived.Test.YtaaadimkbhkpiaaK6
import Derived.Test.YtaaadimkbhkpiaaK4
import Derived.BigQuiet
set_option linter.unusedVariables false
/- Prefix of a tree, the program's and the document's; the law's same. No condition. -/
namespace Go.Proofs.Ytaaadimkbhkpiaa
open Go Go.RowKit

set_option maxHeartbeats 1600000 in
set_option maxRecDepth 100000 in
theorem psame14_any (v u : Value) (l k : List Int) (w : World) (h : Rns w v l) (g : Rns w u k) :
    Calls Try.prog 27 #[v, u] w (Says (l = k) w) := by
  obtain ⟨a, c, rfl, h2, h3, h4, h5, h6⟩ := h
  obtain ⟨a', c', rfl, g2, g3, g4, g5, g6⟩ := g
  have hlen : l.length ≤ 9223372036854775807 := by unfold maxLen at h3; omega
  have hlen' : k.length ≤ 9223372036854775807 := by unfold maxLen at g3; omega
  have H5 := Lib.hid h5; have G5 := Lib.hid g5
  clear h5 h6 h4 h2 h3 g5 g6 g4 g2 g3
  go_enter Try.func27, Try.ntmps27
  by_cases hk : l.length = k.length
  · have HK := Lib.hid hk
    rw [← hk]
    clear hk
    go_wp2
    go_loopw [5] (fun i wr => ∃ m : Nat, m ≤ l.length ∧ i = .int .i64 m ∧ (∃ q, wr = w.drewN q) ∧ l.take m = k.take m) (fun i _ => l.length - (intOf i).toNat)
    case atStart => exact ⟨0, Nat.zero_le _, rfl, ⟨0, rfl⟩, rfl⟩
    case round =>
      obtain ⟨m, hm, rfl, ⟨q, rfl⟩, hR⟩ := hrel
      have HR := Lib.hid hR
      clear hR
      by_cases hlt : m < l.length
      · have hltk : m < k.length := by rw [← HK.out]; exact hlt
        rcases H5.out with h5 | ⟨b, o, rfl, hc⟩
        · rw [h5] at hlt
          simp at hlt
        rcases G5.out with g5 | ⟨b', o', rfl, hc'⟩
        · rw [g5] at hltk
          simp at hltk
        obtain ⟨y1, hy⟩ : ∃ y, l[m] = y := ⟨_, rfl⟩
        obtain ⟨z1, hz⟩ : ∃ y, k[m] = y := ⟨_, rfl⟩
        have c1 := hc m hlt
        have d1 := hc' m hltk
        rw [hy] at c1
        rw [hz] at d1
        have hsp : l.take (m + 1) = l.take m ++ [y1] := by rw [List.take_succ_eq_append_getElem hlt, hy]
        have hsk : k.take (m + 1) = k.take m ++ [z1] := by rw [List.take_succ_eq_append_getElem hltk, hz]
        have hne : y1 ≠ z1 → l ≠ k := fun h e => h (by subst e; rw [← hy, ← hz])
        have HS := Lib.hid hsp; have HT := Lib.hid hsk; have HN := Lib.hid hne
        clear hsp hsk hne hc hc' hy hz hltk
        have hltz : (m : Int) < (l.length : Int) := by omega
        by_cases q1 : y1 = z1
        · subst q1
          go_wp2_with fail
          go_big_quiet (fail)
          go_wp2
          go_roundw
          case rel => exact ⟨m + 1, by omega, by go_num, ⟨_, by first | with_reducible rfl | exact World.drewN_drewN _ _ _⟩, by rw [HS.out, HT.out, HR.out]⟩
          case measure => simp [intOf]; omega
        · go_wp2_with fail
          go_big_quiet (fail)
          go_wp2
          go_ret
          refine ⟨false, rfl, ?_, ⟨_, World.drewN_drewN _ _ _⟩⟩
          have := HN.out (by simp [q1])
          simp [this]
      · have e : l.take m = l := List.take_of_length_le (by omega)
        have e' : k.take m = k := List.take_of_length_le (by rw [← HK.out]; omega)
        have hr := HR.out
        rw [e, e'] at hr
        have HRR := Lib.hid hr
        clear hr e e'
        go_wp2
        go_ret
        exact ⟨true, rfl, by simp [HRR.out], q, rfl⟩
  · have hkz : ((l.length : Int) != (k.length : Int)) = true := by simp; omega
    have hkn : (l.length != k.length) = true := by simp; exact hk
    have hkb : (l.length == k.length) = false := by simp; exact hk
    have hkd : decide (l.length = k.length) = false := decide_eq_false hk
    go_wp2
    go_ret
    exact ⟨false, rfl, by simp; intro e; exact hk (by rw [e]), 0, rfl⟩
theorem box10_of_whole {W : World} {b : Nat} {ty : TypeId} {x0 x1 x2 x3 x4 x5 x6 x7 x8 x9 : Value} (h : Whole W b ty #[x0, x1, x2, x3, x4, x5, x6, x7, x8, x9]) : Box10 W b x0 x1 x2 x3 x4 x5 x6 x7 x8 x9 :=
  ⟨h.cell 0, h.cell 1, h.cell 2, h.cell 3, h.cell 4, h.cell 5, h.cell 6, h.cell 7, h.cell 8, h.cell 9⟩
open Classical in
/-- Any tree's prefix: nothing, not exact, if it is not shaped. -/
noncomputable def preF (t : Tr) : List Int × Bool := if ShapedP t then preT t else ([], false)
theorem preF_yes {t : Tr} (h : ShapedP t) : preF t = preT t := if_pos h
theorem preF_no {t : Tr} (h : ¬ ShapedP t) : preF t = ([], false) := if_neg h

set_option maxHeartbeats 1600000 in
set_option maxRecDepth 100000 in
theorem pprefix_any (t : Tr) (hp : partsR t ≤ 10000000000) (v : Value) (w : World) (h : Tre w t v) : Calls Try.prog 25 #[v] w (PrePost (preF t) w) := by
  obtain ⟨kv, sv, rfl, -⟩ := h.parts
  obtain ⟨w1, hw1⟩ : ∃ w1, w.alloc (.cells (treC t.fld kv sv) 27) = w1 := ⟨_, rfl⟩
  have hb1 : Below w.heap.size w w1 := by rw [← hw1]; exact (Below.refl _ _).alloc (Nat.le_refl _) _
  have b1 : Whole w1 w.heap.size 27 (treC t.fld kv sv) := by rw [← hw1]; exact heap_alloc_new w _
  have hT1 := h.below hb1
  have HS := Lib.hid (pshaped_any t hp _ w1 hT1)
  have HA : Hid (∀ W, Below w1.heap.size w1 W → ShapedP t → Calls Try.prog 47 #[.pointer (some ⟨w.heap.size, 0, none⟩), .slice none 0 0] W (BegPost w1.heap.size [] (preT t) W)) := Lib.hid fun W hW hs => by
    refine pbegin_any t w1 W w.heap.size 0 _ [] hs ⟨kv, sv, fun j hj => ?_, hT1⟩ hW (ownN_none _ _) (by simp; omega)
    have := b1.cell j
    rw [Nat.zero_add, this, Array.getElem?_eq_getElem hj]
  have HT1 := Lib.hid hT1; have HB1 := Lib.hid hb1; have HB1W := Lib.hid b1; have HW1 := Lib.hid hw1
  clear h hb1 b1 hw1 hT1 hp
  unfold treC at HS HW1 HB1W ⊢
  have hten := box10_of_whole HB1W.out
  obtain ⟨d0, d1, d2, d3, d4, d5, d6, d7, d8, d9⟩ := hten
  go_enter Try.func25, Try.ntmps25
  go_upto_region 1 with (fail)
  rw [HW1.out]
  go_wp2_with fail
  refine HS.out.mono ?_
  rintro e w2 ⟨B, rfl, hB, hb2⟩
  have HB2 := Lib.hid hb2; have HBQ := Lib.hid hB
  clear hB hb2 d0 d1 d2 d3 d4 d5 d6 d7 d8 d9
  cases B
  · have hns : ¬ ShapedP t := fun h => by simpa using HBQ.out.2 h
    have HNS := Lib.hid hns
    clear hns
    go_wp2_with fail
    go_ret2
    rw [preF_no HNS.out]
    exact ⟨_, rfl, ownN_none _ _, below_two HB1.out HB2.out⟩
  · have hs : ShapedP t := HBQ.out.1 rfl
    have HSS := Lib.hid hs
    have HC := Lib.hid (HA.out w2 HB2.out hs)
    clear hs
    go_wp2_with fail
    refine HC.out.mono ?_
    rintro e w3 ⟨v3, rfl, h3, hb3⟩
    rw [List.nil_append] at h3
    have H3 := Lib.hid (h3.mono HB1.out.size)
    have HB3 := Lib.hid (below_two HB1.out (HB2.out.trans hb3))
    clear h3 hb3
    go_wp2_with fail
    go_ret2
    rw [preF_yes HSS.out]
    exact ⟨_, rfl, H3.out, HB3.out⟩
set_option maxHeartbeats 1600000 in
set_option maxRecDepth 100000 in
theorem rprefix_any (t : Tr) (hp : partsR t ≤ 10000000000) (v : Value) (w : World) (h : Tre w t v) : Calls Try.prog 26 #[v] w (PrePost (preF t) w) := by
  obtain ⟨kv, sv, rfl, -⟩ := h.parts
  obtain ⟨w1, hw1⟩ : ∃ w1, w.alloc (.cells (treC t.fld kv sv) 27) = w1 := ⟨_, rfl⟩
  have hb1 : Below w.heap.size w w1 := by rw [← hw1]; exact (Below.refl _ _).alloc (Nat.le_refl _) _
  have b1 : Whole w1 w.heap.size 27 (treC t.fld kv sv) := by rw [← hw1]; exact heap_alloc_new w _
  have hT1 := h.below hb1
  have HS := Lib.hid (shaped_any t _ w1 hT1)
  have HA : Hid (∀ W, Below w1.heap.size w1 W → ShapedP t → Calls Try.prog 49 #[.agg (treC t.fld kv sv)] W (PrePost (preT t) W)) := Lib.hid fun W hW hs => rpre_any t _ W (hT1.below hW) hs (by omega)
  have HT1 := Lib.hid hT1; have HB1 := Lib.hid hb1; have HB1W := Lib.hid b1; have HW1 := Lib.hid hw1
  clear h hb1 b1 hw1 hT1 hp
  unfold treC at HS HW1 HB1W HA ⊢
  obtain ⟨d0, d1, d2, d3, d4, d5, d6, d7, d8, d9⟩ := box10_of_whole HB1W.out
  go_enter Try.func26, Try.ntmps26
  go_upto_region 1 with (fail)
  rw [HW1.out]
  go_upto_region 2 with (go_at_call 48; refine HS.out.mono ?_; rintro e w2 ⟨B, rfl, hB, hb2⟩)
  have HB2 := Lib.hid hb2; have HBQ := Lib.hid hB
  obtain ⟨d0', d1', d2', d3', d4', d5', d6', d7', d8', d9'⟩ := (show Box10 _ _ _ _ _ _ _ _ _ _ _ _ from ⟨d0, d1, d2, d3, d4, d5, d6, d7, d8, d9⟩).below hb2
  clear hB hb2 d0 d1 d2 d3 d4 d5 d6 d7 d8 d9
  cases B
  · have hns : ¬ ShapedP t := fun h => by simpa using HBQ.out.2 h
    have HNS := Lib.hid hns
    clear hns
    go_wp2_with fail
    go_ret2
    rw [preF_no HNS.out]
    exact ⟨_, rfl, ownN_none _ _, below_two HB1.out HB2.out⟩
  · have hs : ShapedP t := HBQ.out.1 rfl
    have HSS := Lib.hid hs
    have HC := Lib.hid (HA.out w2 HB2.out hs)
    clear hs
    go_wp2_with fail
    refine HC.out.mono ?_
    rintro e w3 ⟨v3, rfl, h3, hb3⟩
    have H3 := Lib.hid (h3.mono (below_two HB1.out HB2.out).size)
    have HB3 := Lib.hid (below_two (below_two HB1.out HB2.out) hb3)
    clear h3 hb3
    go_wp2_with fail
    go_ret2
    rw [preF_yes HSS.out]
    exact ⟨_, rfl, H3.out, HB3.out⟩
end Go.Proofs.Ytaaadimkbhkpiaa
