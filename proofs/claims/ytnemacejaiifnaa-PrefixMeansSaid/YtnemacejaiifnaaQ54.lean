/- Texts merged by program: PxPrefix. No condition. -/
import Derived.Test.YtnemacejaiifnaaQ53
import Derived.Test.YtnemacejaiifnaaQ29
import Derived.Test.YtnemacejaiifnaaQ34
import Derived.Test.YtnemacejaiifnaaQ4
import Derived.BigQuiet
set_option linter.unusedVariables false
/- Prefix of a tree, the program's and the document's; the law's same. No condition. -/
namespace Go.Proofs.Ytnemacejaiifnaa
open Go Go.RowKit

theorem box10_of_whole {W : World} {b : Nat} {ty : TypeId} {x0 x1 x2 x3 x4 x5 x6 x7 x8 x9 : Value} (h : Whole W b ty #[x0, x1, x2, x3, x4, x5, x6, x7, x8, x9]) : Box10 W b x0 x1 x2 x3 x4 x5 x6 x7 x8 x9 :=
  ⟨h.cell 0, h.cell 1, h.cell 2, h.cell 3, h.cell 4, h.cell 5, h.cell 6, h.cell 7, h.cell 8, h.cell 9⟩
open Classical in
/-- Any tree's prefix: nothing, not exact, if it is not shaped. -/
noncomputable def preF (t : Tr) : List Int × Bool := if ShapedP t then preT t else ([], false)
theorem preF_yes {t : Tr} (h : ShapedP t) : preF t = preT t := if_pos h
theorem preF_no {t : Tr} (h : ¬ ShapedP t) : preF t = ([], false) := if_neg h

set_option maxHeartbeats 1600000 in
set_option maxRecDepth 100000 in
theorem pprefix_any (t : Tr) (hp : partsR t ≤ 10000000000) (v : Value) (w : World) (h : Tre w t v) : Calls Try.prog 22 #[v] w (PrePost (preF t) w) := by
  obtain ⟨kv, sv, rfl, -⟩ := h.parts
  obtain ⟨w1, hw1⟩ : ∃ w1, w.alloc (.cells (treC t.fld kv sv) 27) = w1 := ⟨_, rfl⟩
  have hb1 : Below w.heap.size w w1 := by rw [← hw1]; exact (Below.refl _ _).alloc (Nat.le_refl _) _
  have b1 : Whole w1 w.heap.size 27 (treC t.fld kv sv) := by rw [← hw1]; exact heap_alloc_new w _
  have hT1 := h.below hb1
  have HS := Lib.hid (pshaped_any t hp _ w1 hT1)
  have HA : Hid (∀ W, Below w1.heap.size w1 W → ShapedP t → Calls Try.prog 47 #[.pointer (some ⟨w.heap.size, 0, none⟩), .slice none 0 0] W (BegPost w1.heap.size [] (preT t) W)) := Lib.hid fun W hW hs => by
    refine pbegin_any t w1 W w.heap.size 0 _ [] hs ⟨kv, sv, fun j hj => ?_, hT1⟩ hW (ownN_none _ _) (by simp; omega)
    have := b1.cell j
    rw [Nat.zero_add, this, Array.getElem?_eq_getElem hj]
  have HT1 := Lib.hid hT1; have HB1 := Lib.hid hb1; have HB1W := Lib.hid b1; have HW1 := Lib.hid hw1
  clear h hb1 b1 hw1 hT1 hp
  unfold treC at HS HW1 HB1W ⊢
  have hten := box10_of_whole HB1W.out
  obtain ⟨d0, d1, d2, d3, d4, d5, d6, d7, d8, d9⟩ := hten
  go_enter Try.func22, Try.ntmps22
  go_upto_region 1 with (fail)
  rw [HW1.out]
  go_wp2_with fail
  refine HS.out.mono ?_
  rintro e w2 ⟨B, rfl, hB, hb2⟩
  have HB2 := Lib.hid hb2; have HBQ := Lib.hid hB
  clear hB hb2 d0 d1 d2 d3 d4 d5 d6 d7 d8 d9
  cases B
  · have hns : ¬ ShapedP t := fun h => by simpa using HBQ.out.2 h
    have HNS := Lib.hid hns
    clear hns
    go_wp2_with fail
    go_ret2
    rw [preF_no HNS.out]
    exact ⟨_, rfl, ownN_none _ _, below_two HB1.out HB2.out⟩
  · have hs : ShapedP t := HBQ.out.1 rfl
    have HSS := Lib.hid hs
    have HC := Lib.hid (HA.out w2 HB2.out hs)
    clear hs
    go_wp2_with fail
    refine HC.out.mono ?_
    rintro e w3 ⟨v3, rfl, h3, hb3⟩
    rw [List.nil_append] at h3
    have H3 := Lib.hid (h3.mono HB1.out.size)
    have HB3 := Lib.hid (below_two HB1.out (HB2.out.trans hb3))
    clear h3 hb3
    go_wp2_with fail
    go_ret2
    rw [preF_yes HSS.out]
    exact ⟨_, rfl, H3.out, HB3.out⟩
end Go.Proofs.Ytnemacejaiifnaa
