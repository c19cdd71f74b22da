/- The fixed question of stage 5, from the program's contracts pright_any, pdepth_any, pweight_any, pcaps_any. -/
import Derived.Test.YthapafaeakgfpaaTrProg
set_option linter.unusedVariables false
namespace Go.Proofs.Ythapafaeakgfpaa
open Go Go.RowKit

def runeTr : Tr := .mk { op := 3, rune := 97, set := [], at' := 0, cap := 0, name := ⟨#[]⟩, min := 0, max := 0, lazy := false } []
def headTr : Tr := .mk { op := 6, rune := 0, set := [], at' := 0, cap := 1, name := ⟨#[120]⟩, min := 0, max := 0, lazy := false } [runeTr]
theorem head_parts : partsR headTr ≤ 1000000 := by rw [partsR_eq]; simp [headTr, Tr.kids, Tr.fld, partsR_eq, runeTr]
theorem head_depth : depthR headTr = 2 := by rw [depthR_eq]; simp [headTr, Tr.kids, depthR_eq, runeTr, maxL]
theorem head_weight : weightR headTr = 3 := by rw [weightR_eq]; simp [headTr, Tr.kids, Tr.fld, weightR_eq, runeTr, weightN, clipR]
theorem head_groups : groupsT headTr = [headTr] := by rw [groupsT_eq]; simp [headTr, Tr.kids, Tr.fld, groupsT_eq, runeTr]
theorem head_shaped : ShapedP headTr := by
  rw [shapedP_iff]
  refine ⟨?_, ?_, ?_, ?_⟩
  · simp [FieldsOk, headTr, Tr.fld]; decide
  · simp [KidsOk, headTr, Tr.fld, Tr.kids]
  · simp [headTr, Tr.fld]
  · intro k hk
    have : k = runeTr := by simpa [headTr, Tr.kids] using hk
    subst this
    rw [shapedP_iff]
    refine ⟨?_, ?_, ?_, ?_⟩
    · simp [FieldsOk, runeTr, Tr.fld]
    · simp [KidsOk, runeTr, Tr.fld, Tr.kids]
    · simp [runeTr, Tr.fld]
    · simp [runeTr, Tr.kids]
theorem head_right : RightT headTr := by
  refine ⟨by rw [head_depth]; omega, by rw [head_weight]; omega, head_shaped, ?_⟩
  rw [head_groups]
  intro i hi
  simp only [List.length_cons, List.length_nil] at hi
  obtain rfl : i = 0 := by omega
  exact ⟨rfl, fun k hk => absurd hk (by omega)⟩
theorem head_names : capsNames headTr = [⟨#[]⟩, ⟨#[120]⟩] := by
  unfold capsNames
  rw [head_groups]
  rfl
theorem rgs_nil (w : World) : Rgs w (.slice none 0 0) [] := ⟨none, 0, rfl, by simp, by unfold maxLen; omega, by simp, .inl rfl, by simp⟩
theorem rune_tre (w : World) : Tre w runeTr (.agg (treC runeTr.fld (.slice none 0 0) (.slice none 0 0))) := by
  rw [tre_iff]
  exact ⟨_, _, rfl, rgs_nil w, by simp [FldOk, I64, I32, runeTr, Tr.fld]; decide, none, 0, rfl, by simp [runeTr, Tr.kids], by unfold maxLen; omega, by simp [runeTr, Tr.kids], by simp, .inl rfl⟩
theorem head_tre {w : World} {b : Nat} (h : CellsAt w b 0 (treC runeTr.fld (.slice none 0 0) (.slice none 0 0))) : Tre w headTr (.agg (treC headTr.fld (.slice (some ⟨b, 0, none⟩) 1 1) (.slice none 0 0))) := by
  rw [tre_iff]
  refine ⟨_, _, rfl, rgs_nil w, by simp [FldOk, I64, I32, headTr, Tr.fld]; decide, some ⟨b, 0, none⟩, 1, rfl, by simp [headTr, Tr.kids], by unfold maxLen; omega, by simp [headTr, Tr.kids], by simp, .inr ⟨b, 0, rfl, trivial, fun i hi => ?_⟩⟩
  have hi' : i < 1 := hi
  obtain rfl : i = 0 := by omega
  exact ⟨_, by simpa using h, rune_tre w⟩

set_option maxHeartbeats 1600000 in
set_option maxRecDepth 100000 in
theorem thead_any (w : World) : Calls Try.prog 10 #[] w fun e w' => e = .returned (.bool true) ∧ Below w.heap.size w w' := by
  obtain ⟨w1, hw1⟩ : ∃ w1, w.alloc (.cells #[.int .i64 3, .slice none 0 0, .int .i32 97, .slice none 0 0, .int .i64 0, .int .i64 0, .string ⟨#[]⟩, .int .i64 0, .int .i64 0, .bool false] 27) = w1 := ⟨_, rfl⟩
  have hb1 : Below w.heap.size w w1 := by rw [← hw1]; exact (Below.refl _ _).alloc (Nat.le_refl _) _
  have hc1 : CellsAt w1 w.heap.size 0 (treC runeTr.fld (.slice none 0 0) (.slice none 0 0)) := by rw [← hw1]; exact cellsAt_new w (treC runeTr.fld (.slice none 0 0) (.slice none 0 0)) _
  have hs1 : w1.heap.size = w.heap.size + 1 := by rw [← hw1]; simp
  obtain ⟨w2, hw2⟩ : ∃ w2, w1.alloc (.cells #[.int .i64 6, .slice (some ⟨w.heap.size, 0, none⟩) 1 1, .int .i32 0, .slice none 0 0, .int .i64 0, .int .i64 1, .string ⟨#[120]⟩, .int .i64 0, .int .i64 0, .bool false] 27) = w2 := ⟨_, rfl⟩
  have hb2 : Below w1.heap.size w1 w2 := by rw [← hw2]; exact (Below.refl _ _).alloc (Nat.le_refl _) _
  have hE2 : Box10 w2 w1.heap.size (.int .i64 6) (.slice (some ⟨w.heap.size, 0, none⟩) 1 1) (.int .i32 0) (.slice none 0 0) (.int .i64 0) (.int .i64 1) (.string ⟨#[120]⟩) (.int .i64 0) (.int .i64 0) (.bool false) := by rw [← hw2]; exact box10_new w1 _ _ _ _ _ _ _ _ _ _ _
  have hT := head_tre (hc1.below hb2)
  rw [hs1] at hE2
  have HW1 := Lib.hid hw1; have HW2 := Lib.hid hw2; have HB := Lib.hid (below_two hb1 hb2); have HE2 := Lib.hid hE2; have HT := Lib.hid hT
  have HC := Lib.hid (pcaps_any headTr head_parts _ w2 hT)
  clear hw1 hw2 hb1 hb2 hc1 hs1 hE2 hT
  obtain ⟨b0, b1, b2, b3, b4, b5, b6, b7, b8, b9⟩ := HE2.out
  go_enter Try.func10, Try.ntmps10
  go_upto_region 2 with (fail)
  rw [HW1.out, HW2.out]
  go_wp2_with fail
  refine HC.out.mono ?_
  rintro e w3 ⟨hb3, ⟨hn, rfl⟩ | ⟨hn, v, rfl, ho⟩⟩
  · exact absurd head_right hn
  rw [head_names] at ho
  have HB3 := Lib.hid (HB.out.trans (hb3.mono HB.out.size)); have HS3 := Lib.hid ho.srs; have HE3 := Lib.hid (HE2.out.below hb3); have HT3 := Lib.hid (HT.out.below hb3)
  clear hb3 hn ho b0 b1 b2 b3 b4 b5 b6 b7 b8 b9
  obtain ⟨a, c, rfl, -, -, hs⟩ := HS3.out
  rcases hs with hs | ⟨g, rfl, hs⟩
  · cases hs
  have HG := Lib.hid (hs 1 (by decide))
  clear hs
  have HD := Lib.hid (pright_any headTr head_parts _ w3 HT3.out)
  obtain ⟨b0, b1, b2, b3, b4, b5, b6, b7, b8, b9⟩ := HE3.out
  simp only [List.length_cons, List.length_nil, Nat.zero_add]
  go_wp2_with fail
  refine HD.out.mono ?_
  rintro e w4 ⟨B, rfl, hq, hb4⟩
  obtain rfl : B = true := hq.2 head_right
  have HB4 := Lib.hid (HB3.out.trans (hb4.mono HB3.out.size)); have HE4 := Lib.hid (HE3.out.below hb4); have HT4 := Lib.hid (HT3.out.below hb4); have HS4 := Lib.hid (HS3.out.below hb4)
  clear hb4 hq b0 b1 b2 b3 b4 b5 b6 b7 b8 b9 HD
  have HD := Lib.hid (pdepth_any headTr head_parts _ w4 HT4.out)
  rw [head_depth] at HD
  obtain ⟨b0, b1, b2, b3, b4, b5, b6, b7, b8, b9⟩ := HE4.out
  go_wp2_with fail
  refine HD.out.mono ?_
  rintro e w5 ⟨rfl, hb4⟩
  have HB5 := Lib.hid (HB4.out.trans (hb4.mono HB4.out.size)); have HE5 := Lib.hid (HE4.out.below hb4); have HT5 := Lib.hid (HT4.out.below hb4); have HS5 := Lib.hid (HS4.out.below hb4)
  clear hb4 b0 b1 b2 b3 b4 b5 b6 b7 b8 b9 HD
  have HD := Lib.hid (pweight_any headTr head_parts _ w5 HT5.out)
  rw [head_weight] at HD
  obtain ⟨b0, b1, b2, b3, b4, b5, b6, b7, b8, b9⟩ := HE5.out
  go_wp2_with fail
  refine HD.out.mono ?_
  rintro e w6 ⟨rfl, hb4⟩
  have HB6 := Lib.hid (HB5.out.trans (hb4.mono HB5.out.size)); have HS6 := Lib.hid (HS5.out.below hb4)
  clear hb4 b0 b1 b2 b3 b4 b5 b6 b7 b8 b9 HD
  obtain ⟨a, c', e, -, -, hs⟩ := HS6.out
  injection e with e1 e2 e3
  subst e1 e3
  rcases hs with hs | ⟨g', e, hs⟩
  · cases hs
  obtain rfl : g = g' := by injection e with e; injection e
  have c1 := hs 1 (by decide)
  simp only [List.getElem_cons_succ, List.getElem_cons_zero] at c1
  clear hs e e2
  go_wp2_with fail
  go_ret
  exact ⟨rfl, HB6.out⟩
end Go.Proofs.Ythapafaeakgfpaa
