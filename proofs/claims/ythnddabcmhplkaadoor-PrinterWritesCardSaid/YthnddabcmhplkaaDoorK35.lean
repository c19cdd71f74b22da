/- Texts merged by program: PwPrint, PwHead. No condition. -/
import Derived.Test.YthnddabcmhplkaaDoorK23
import Derived.Test.YthnddabcmhplkaaDoorK28
import Derived.Test.YthnddabcmhplkaaDoorK34
import Derived.Deep.DeepCutAuto
set_option linter.unusedVariables false
/- The program's Print: the text of a right tree. -/
namespace Go.Proofs.YthnddabcmhplkaaDoor
open Go Go.RowKit

/-- The text, or that there is none. -/
def PrintPost (t : Tr) (w : World) (e : Ending) (w' : World) : Prop :=
  Below w.heap.size w w' ∧ ((RightT t ∧ e = .returned (.tuple #[.string (textB (textT t)), .int .i64 0])) ∨ (¬ RightT t ∧ e = .returned (.tuple #[.string ⟨#[]⟩, .int .i64 51])))
set_option maxHeartbeats 1600000 in
set_option maxRecDepth 100000 in
theorem pprint_any (t : Tr) (hp : partsR t ≤ 10000000000) (v : Value) (w : World) (h : Tre w t v) : Calls Tryd.prog 6 #[v] w (PrintPost t w) := by
  obtain ⟨A, n, c, a2, s, c2, hn, hs, rfl, hnb, hsb, hK, hS, hFl⟩ := h.opened
  obtain ⟨w1, hw1⟩ : ∃ w1, w.alloc (.cells #[.int .i64 t.fld.op, .slice A n c, .int .i32 t.fld.rune, .slice a2 s c2, .int .i64 t.fld.at', .int .i64 t.fld.cap, .string t.fld.name, .int .i64 t.fld.min, .int .i64 t.fld.max, .bool t.fld.lazy] 27) = w1 := ⟨_, rfl⟩
  have hb1 : Below w.heap.size w w1 := by rw [← hw1]; exact (Below.refl _ w).alloc (Nat.le_refl _) _
  have hE1 : Whole w1 w.heap.size 27 #[.int .i64 t.fld.op, .slice A n c, .int .i32 t.fld.rune, .slice a2 s c2, .int .i64 t.fld.at', .int .i64 t.fld.cap, .string t.fld.name, .int .i64 t.fld.min, .int .i64 t.fld.max, .bool t.fld.lazy] := by rw [← hw1]; exact heap_alloc_new w _
  have HR := Lib.hid (pright_any t hp _ w1 (h.below hb1))
  have HT := Lib.hid (h.below hb1)
  have HW1 := Lib.hid hw1; have HB1 := Lib.hid hb1; have HE1 := Lib.hid hE1
  obtain ⟨g0, g1, g2, g3, g4, g5, g6, g7, g8, g9⟩ := hE1.ten
  unfold PrintPost
  obtain ⟨R, hR⟩ : ∃ R, RightT t = R := ⟨_, rfl⟩
  rw [hR] at HR ⊢
  have HRI := Lib.hid hR
  clear h hn hs hnb hsb hK hS hFl hw1 hb1 hE1 hR
  go_enter Tryd.func6, Tryd.ntmps6
  go_upto_region 1 with (fail)
  rw [HW1.out]
  go_wp2_with fail
  refine HR.out.mono ?_
  rintro e w2 ⟨B, rfl, hq, hb2⟩
  have HQ := Lib.hid hq
  have HB2 := Lib.hid (HB1.out.trans (hb2.mono HB1.out.size))
  have hE2 := HE1.out.below hb2 HE1.out.lt
  have HT2 := Lib.hid (HT.out.below hb2)
  clear hq hb2 g0 g1 g2 g3 g4 g5 g6 g7 g8 g9
  obtain ⟨g0, g1, g2, g3, g4, g5, g6, g7, g8, g9⟩ := hE2.ten
  clear hE2
  cases B
  · have HN : Hid (¬ R) := Lib.hid fun r => (by have := HQ.out.2 r; cases this)
    clear HQ
    go_wp2_with fail
    go_ret2
    exact ⟨HB2.out, .inr ⟨HN.out, rfl⟩⟩
  · have hr : RightT t := by rw [HRI.out]; exact HQ.out.1 rfl
    have HX := Lib.hid (text_any _ t (Nat.lt_succ_self _) hp hr.2.2.1 _ w2 HT2.out)
    have HY : Hid R := Lib.hid (HQ.out.1 rfl)
    clear hr HQ
    go_wp2_with fail
    refine HX.out.mono ?_
    rintro e w3 ⟨rfl, hb3⟩
    have HB3 := Lib.hid (HB2.out.trans (hb3.mono HB2.out.size))
    clear hb3
    go_wp2_with fail
    go_ret2
    exact ⟨HB3.out, .inl ⟨HY.out, rfl⟩⟩
end Go.Proofs.YthnddabcmhplkaaDoor
/- The fixed question of stage 9. -/
namespace Go.Proofs.YthnddabcmhplkaaDoor
open Go Go.RowKit

def rune9 : Tr := .mk ⟨3, 97, [], 0, 0, ⟨#[]⟩, 0, 0, false⟩ []
def star9 : Tr := .mk ⟨7, 0, [], 0, 0, ⟨#[]⟩, 0, 0, false⟩ [rune9]
def zero9 : Tr := .mk ⟨0, 0, [], 0, 0, ⟨#[]⟩, 0, 0, false⟩ []
theorem star_parts : partsR star9 ≤ 10000000000 := by rw [partsR_eq]; simp [star9, Tr.kids, Tr.fld, partsR_eq, rune9]
theorem zero_parts : partsR zero9 ≤ 10000000000 := by rw [partsR_eq]; simp [zero9, Tr.kids, Tr.fld]
theorem star_depth : depthR star9 = 2 := by rw [depthR_eq]; simp [star9, Tr.kids, depthR_eq, rune9, maxL]
theorem star_weight : weightR star9 = 2 := by rw [weightR_eq]; simp [star9, Tr.kids, Tr.fld, weightR_eq, rune9, weightN, clipR]
theorem star_groups : groupsT star9 = [] := by rw [groupsT_eq]; simp [star9, Tr.kids, Tr.fld, groupsT_eq, rune9]
theorem star_right : RightT star9 := by
  refine ⟨by rw [star_depth]; omega, by rw [star_weight]; omega, ?_, ?_⟩
  · rw [shapedP_iff]
    refine ⟨?_, ?_, ?_, ?_⟩
    · simp [FieldsOk, star9, Tr.fld]
    · simp [KidsOk, star9, Tr.fld, Tr.kids]
    · simp [star9, Tr.fld]
    · intro k hk
      have : k = rune9 := by simpa [star9, Tr.kids] using hk
      subst this
      rw [shapedP_iff]
      refine ⟨?_, ?_, ?_, ?_⟩
      · simp [FieldsOk, rune9, Tr.fld]
      · simp [KidsOk, rune9, Tr.fld, Tr.kids]
      · simp [rune9, Tr.fld]
      · simp [rune9, Tr.kids]
  · rw [star_groups]
    intro i hi
    simp at hi
theorem zero_wrong : ¬ RightT zero9 := fun h => by
  have h1 := ((shapedP_iff _).1 h.2.2.1).1.1
  simp [zero9, Tr.fld] at h1
theorem rune_text : textT rune9 = [97] := by
  rw [textT_eq]
  unfold textN
  simp [rune9, Tr.fld]
  decide
theorem star_text : textB (textT star9) = ⟨#[97, 42]⟩ := by
  have hn : ¬ HeldZ rune9 := by
    unfold HeldZ
    rw [sole_self (by unfold Lone; simp [rune9, Tr.fld])]
    simp [rune9, Tr.fld, Tr.kids]
  rw [text_rep (k := rune9) (.inl rfl) rfl]
  unfold repT repP
  rw [rune_text, if_neg hn]
  rfl
theorem rgs_none9 (w : World) : Rgs w (.slice none 0 0) [] := ⟨none, 0, rfl, by simp, by unfold maxLen; omega, by simp, .inl rfl, by simp⟩
theorem rune9_tre (w : World) : Tre w rune9 (.agg (treC rune9.fld (.slice none 0 0) (.slice none 0 0))) := by
  rw [tre_iff]
  exact ⟨_, _, rfl, rgs_none9 w, by simp [FldOk, I64, I32, rune9, Tr.fld]; decide, none, 0, rfl, by simp [rune9, Tr.kids], by unfold maxLen; omega, by simp [rune9, Tr.kids], by simp, .inl rfl⟩
theorem zero9_tre (w : World) : Tre w zero9 (.agg (treC zero9.fld (.slice none 0 0) (.slice none 0 0))) := by
  rw [tre_iff]
  exact ⟨_, _, rfl, rgs_none9 w, by simp [FldOk, I64, I32, zero9, Tr.fld]; decide, none, 0, rfl, by simp [zero9, Tr.kids], by unfold maxLen; omega, by simp [zero9, Tr.kids], by simp, .inl rfl⟩
theorem star9_tre {w : World} {b : Nat} (h : CellsAt w b 0 (treC rune9.fld (.slice none 0 0) (.slice none 0 0))) : Tre w star9 (.agg (treC star9.fld (.slice (some ⟨b, 0, none⟩) 1 1) (.slice none 0 0))) := by
  rw [tre_iff]
  refine ⟨_, _, rfl, rgs_none9 w, by simp [FldOk, I64, I32, star9, Tr.fld]; decide, some ⟨b, 0, none⟩, 1, rfl, by simp [star9, Tr.kids], by unfold maxLen; omega, by simp [star9, Tr.kids], by simp, .inr ⟨b, 0, rfl, trivial, fun i hi => ?_⟩⟩
  have hi' : i < 1 := hi
  obtain rfl : i = 0 := by omega
  exact ⟨_, by simpa using h, rune9_tre w⟩

set_option maxHeartbeats 1600000 in
set_option maxRecDepth 100000 in
theorem phead_any (w : World) : Calls Tryd.prog 4 #[] w fun e w' => e = .returned (.bool true) ∧ Below w.heap.size w w' := by
  have hb1 : Below w.heap.size w (w.alloc (.cells #[.int .i64 3, .slice none 0 0, .int .i32 97, .slice none 0 0, .int .i64 0, .int .i64 0, .string ⟨#[]⟩, .int .i64 0, .int .i64 0, .bool false] 27)) := (Below.refl _ _).alloc (Nat.le_refl _) _
  have hc1 : CellsAt (w.alloc (.cells #[.int .i64 3, .slice none 0 0, .int .i32 97, .slice none 0 0, .int .i64 0, .int .i64 0, .string ⟨#[]⟩, .int .i64 0, .int .i64 0, .bool false] 27)) w.heap.size 0 (treC rune9.fld (.slice none 0 0) (.slice none 0 0)) := cellsAt_new w (treC rune9.fld (.slice none 0 0) (.slice none 0 0)) _
  have HX := Lib.hid (pprint_any star9 star_parts _ _ (star9_tre hc1))
  have HB1 := Lib.hid hb1
  clear hb1 hc1
  go_enter Tryd.func4, Tryd.ntmps4
  go_wp2_with fail
  refine HX.out.mono ?_
  rintro e w2 ⟨hb2, ⟨-, rfl⟩ | ⟨hn, -⟩⟩
  rotate_left
  · exact absurd star_right hn
  rw [star_text]
  have HB2 := Lib.hid (HB1.out.trans (hb2.mono HB1.out.size))
  clear hb2 HX HB1
  have HY := Lib.hid (pprint_any zero9 zero_parts _ w2 (zero9_tre w2))
  go_wp2_with fail
  refine HY.out.mono ?_
  rintro e w3 ⟨hb3, ⟨hn, -⟩ | ⟨-, rfl⟩⟩
  · exact absurd hn zero_wrong
  have HB3 := Lib.hid (HB2.out.trans (hb3.mono HB2.out.size))
  clear hb3 HY HB2
  go_wp2_with fail
  go_ret
  exact ⟨rfl, HB3.out⟩
end Go.Proofs.YthnddabcmhplkaaDoor
