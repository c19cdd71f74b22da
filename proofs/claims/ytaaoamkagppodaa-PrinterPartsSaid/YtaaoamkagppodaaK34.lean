/- Texts merged by program: PwPrint, PwHead, PrParts. No condition. -/
import Derived.Test.YtaaoamkagppodaaK24
import Derived.Test.YtaaoamkagppodaaK26
import Derived.Test.YtaaoamkagppodaaK33
import Derived.Test.YtaaoamkagppodaaK12
import Derived.Deep.DeepCutAuto
set_option linter.unusedVariables false
/- The program's Print: the text of a right tree. -/
namespace Go.Proofs.Ytaaoamkagppodaa
open Go Go.RowKit

/-- The text, or that there is none. -/
def PrintPost (t : Tr) (w : World) (e : Ending) (w' : World) : Prop :=
  Below w.heap.size w w' ∧ ((RightT t ∧ e = .returned (.tuple #[.string (textB (textT t)), .int .i64 0])) ∨ (¬ RightT t ∧ e = .returned (.tuple #[.string ⟨#[]⟩, .int .i64 51])))
set_option maxHeartbeats 1600000 in
set_option maxRecDepth 100000 in
theorem pprint_any (t : Tr) (hp : partsR t ≤ 10000000000) (v : Value) (w : World) (h : Tre w t v) : Calls Try.prog 7 #[v] w (PrintPost t w) := by
  obtain ⟨A, n, c, a2, s, c2, hn, hs, rfl, hnb, hsb, hK, hS, hFl⟩ := h.opened
  obtain ⟨w1, hw1⟩ : ∃ w1, w.alloc (.cells #[.int .i64 t.fld.op, .slice A n c, .int .i32 t.fld.rune, .slice a2 s c2, .int .i64 t.fld.at', .int .i64 t.fld.cap, .string t.fld.name, .int .i64 t.fld.min, .int .i64 t.fld.max, .bool t.fld.lazy] 27) = w1 := ⟨_, rfl⟩
  have hb1 : Below w.heap.size w w1 := by rw [← hw1]; exact (Below.refl _ w).alloc (Nat.le_refl _) _
  have hE1 : Whole w1 w.heap.size 27 #[.int .i64 t.fld.op, .slice A n c, .int .i32 t.fld.rune, .slice a2 s c2, .int .i64 t.fld.at', .int .i64 t.fld.cap, .string t.fld.name, .int .i64 t.fld.min, .int .i64 t.fld.max, .bool t.fld.lazy] := by rw [← hw1]; exact heap_alloc_new w _
  have HR := Lib.hid (pright_any t hp _ w1 (h.below hb1))
  have HT := Lib.hid (h.below hb1)
  have HW1 := Lib.hid hw1; have HB1 := Lib.hid hb1; have HE1 := Lib.hid hE1
  obtain ⟨g0, g1, g2, g3, g4, g5, g6, g7, g8, g9⟩ := hE1.ten
  unfold PrintPost
  obtain ⟨R, hR⟩ : ∃ R, RightT t = R := ⟨_, rfl⟩
  rw [hR] at HR ⊢
  have HRI := Lib.hid hR
  clear h hn hs hnb hsb hK hS hFl hw1 hb1 hE1 hR
  go_enter Try.func7, Try.ntmps7
  go_upto_region 1 with (fail)
  rw [HW1.out]
  go_wp2_with fail
  refine HR.out.mono ?_
  rintro e w2 ⟨B, rfl, hq, hb2⟩
  have HQ := Lib.hid hq
  have HB2 := Lib.hid (HB1.out.trans (hb2.mono HB1.out.size))
  have hE2 := HE1.out.below hb2 HE1.out.lt
  have HT2 := Lib.hid (HT.out.below hb2)
  clear hq hb2 g0 g1 g2 g3 g4 g5 g6 g7 g8 g9
  obtain ⟨g0, g1, g2, g3, g4, g5, g6, g7, g8, g9⟩ := hE2.ten
  clear hE2
  cases B
  · have HN : Hid (¬ R) := Lib.hid fun r => (by have := HQ.out.2 r; cases this)
    clear HQ
    go_wp2_with fail
    go_ret2
    exact ⟨HB2.out, .inr ⟨HN.out, rfl⟩⟩
  · have hr : RightT t := by rw [HRI.out]; exact HQ.out.1 rfl
    have HX := Lib.hid (text_any _ t (Nat.lt_succ_self _) hp hr.2.2.1 _ w2 HT2.out)
    have HY : Hid R := Lib.hid (HQ.out.1 rfl)
    clear hr HQ
    go_wp2_with fail
    refine HX.out.mono ?_
    rintro e w3 ⟨rfl, hb3⟩
    have HB3 := Lib.hid (HB2.out.trans (hb3.mono HB2.out.size))
    clear hb3
    go_wp2_with fail
    go_ret2
    exact ⟨HB3.out, .inl ⟨HY.out, rfl⟩⟩
end Go.Proofs.Ytaaoamkagppodaa
/- The fixed question of stage 9. -/
namespace Go.Proofs.Ytaaoamkagppodaa
open Go Go.RowKit

def rune9 : Tr := .mk ⟨3, 97, [], 0, 0, ⟨#[]⟩, 0, 0, false⟩ []
def star9 : Tr := .mk ⟨7, 0, [], 0, 0, ⟨#[]⟩, 0, 0, false⟩ [rune9]
def zero9 : Tr := .mk ⟨0, 0, [], 0, 0, ⟨#[]⟩, 0, 0, false⟩ []
theorem star_parts : partsR star9 ≤ 10000000000 := by rw [partsR_eq]; simp [star9, Tr.kids, Tr.fld, partsR_eq, rune9]
theorem zero_parts : partsR zero9 ≤ 10000000000 := by rw [partsR_eq]; simp [zero9, Tr.kids, Tr.fld]
theorem star_depth : depthR star9 = 2 := by rw [depthR_eq]; simp [star9, Tr.kids, depthR_eq, rune9, maxL]
theorem star_weight : weightR star9 = 2 := by rw [weightR_eq]; simp [star9, Tr.kids, Tr.fld, weightR_eq, rune9, weightN, clipR]
theorem star_groups : groupsT star9 = [] := by rw [groupsT_eq]; simp [star9, Tr.kids, Tr.fld, groupsT_eq, rune9]
theorem star_right : RightT star9 := by
  refine ⟨by rw [star_depth]; omega, by rw [star_weight]; omega, ?_, ?_⟩
  · rw [shapedP_iff]
    refine ⟨?_, ?_, ?_, ?_⟩
    · simp [FieldsOk, star9, Tr.fld]
    · simp [KidsOk, star9, Tr.fld, Tr.kids]
    · simp [star9, Tr.fld]
    · intro k hk
      have : k = rune9 := by simpa [star9, Tr.kids] using hk
      subst this
      rw [shapedP_iff]
      refine ⟨?_, ?_, ?_, ?_⟩
      · simp [FieldsOk, rune9, Tr.fld]
      · simp [KidsOk, rune9, Tr.fld, Tr.kids]
      · simp [rune9, Tr.fld]
      · simp [rune9, Tr.kids]
  · rw [star_groups]
    intro i hi
    simp at hi
theorem zero_wrong : ¬ RightT zero9 := fun h => by
  have h1 := ((shapedP_iff _).1 h.2.2.1).1.1
  simp [zero9, Tr.fld] at h1
theorem rune_text : textT rune9 = [97] := by
  rw [textT_eq]
  unfold textN
  simp [rune9, Tr.fld]
  decide
theorem star_text : textB (textT star9) = ⟨#[97, 42]⟩ := by
  have hn : ¬ Held rune9 := by
    unfold Held
    rw [sole_self (by unfold Lone; simp [rune9, Tr.fld])]
    simp [rune9, Tr.fld, Tr.kids]
  rw [text_rep (k := rune9) (.inl rfl) rfl]
  unfold repT repP
  rw [rune_text, if_neg hn]
  rfl
theorem rgs_none9 (w : World) : Rgs w (.slice none 0 0) [] := ⟨none, 0, rfl, by simp, by unfold maxLen; omega, by simp, .inl rfl, by simp⟩
theorem rune9_tre (w : World) : Tre w rune9 (.agg (treC rune9.fld (.slice none 0 0) (.slice none 0 0))) := by
  rw [tre_iff]
  exact ⟨_, _, rfl, rgs_none9 w, by simp [FldOk, I64, I32, rune9, Tr.fld]; decide, none, 0, rfl, by simp [rune9, Tr.kids], by unfold maxLen; omega, by simp [rune9, Tr.kids], by simp, .inl rfl⟩
theorem zero9_tre (w : World) : Tre w zero9 (.agg (treC zero9.fld (.slice none 0 0) (.slice none 0 0))) := by
  rw [tre_iff]
  exact ⟨_, _, rfl, rgs_none9 w, by simp [FldOk, I64, I32, zero9, Tr.fld]; decide, none, 0, rfl, by simp [zero9, Tr.kids], by unfold maxLen; omega, by simp [zero9, Tr.kids], by simp, .inl rfl⟩
theorem star9_tre {w : World} {b : Nat} (h : CellsAt w b 0 (treC rune9.fld (.slice none 0 0) (.slice none 0 0))) : Tre w star9 (.agg (treC star9.fld (.slice (some ⟨b, 0, none⟩) 1 1) (.slice none 0 0))) := by
  rw [tre_iff]
  refine ⟨_, _, rfl, rgs_none9 w, by simp [FldOk, I64, I32, star9, Tr.fld]; decide, some ⟨b, 0, none⟩, 1, rfl, by simp [star9, Tr.kids], by unfold maxLen; omega, by simp [star9, Tr.kids], by simp, .inr ⟨b, 0, rfl, trivial, fun i hi => ?_⟩⟩
  have hi' : i < 1 := hi
  obtain rfl : i = 0 := by omega
  exact ⟨_, by simpa using h, rune9_tre w⟩

set_option maxHeartbeats 1600000 in
set_option maxRecDepth 100000 in
theorem phead_any (w : World) : Calls Try.prog 4 #[] w fun e w' => e = .returned (.bool true) ∧ Below w.heap.size w w' := by
  have hb1 : Below w.heap.size w (w.alloc (.cells #[.int .i64 3, .slice none 0 0, .int .i32 97, .slice none 0 0, .int .i64 0, .int .i64 0, .string ⟨#[]⟩, .int .i64 0, .int .i64 0, .bool false] 27)) := (Below.refl _ _).alloc (Nat.le_refl _) _
  have hc1 : CellsAt (w.alloc (.cells #[.int .i64 3, .slice none 0 0, .int .i32 97, .slice none 0 0, .int .i64 0, .int .i64 0, .string ⟨#[]⟩, .int .i64 0, .int .i64 0, .bool false] 27)) w.heap.size 0 (treC rune9.fld (.slice none 0 0) (.slice none 0 0)) := cellsAt_new w (treC rune9.fld (.slice none 0 0) (.slice none 0 0)) _
  have HX := Lib.hid (pprint_any star9 star_parts _ _ (star9_tre hc1))
  have HB1 := Lib.hid hb1
  clear hb1 hc1
  go_enter Try.func4, Try.ntmps4
  go_wp2_with fail
  refine HX.out.mono ?_
  rintro e w2 ⟨hb2, ⟨-, rfl⟩ | ⟨hn, -⟩⟩
  rotate_left
  · exact absurd star_right hn
  rw [star_text]
  have HB2 := Lib.hid (HB1.out.trans (hb2.mono HB1.out.size))
  clear hb2 HX HB1
  have HY := Lib.hid (pprint_any zero9 zero_parts _ w2 (zero9_tre w2))
  go_wp2_with fail
  refine HY.out.mono ?_
  rintro e w3 ⟨hb3, ⟨hn, -⟩ | ⟨-, rfl⟩⟩
  · exact absurd hn zero_wrong
  have HB3 := Lib.hid (HB2.out.trans (hb3.mono HB2.out.size))
  clear hb3 HY HB2
  go_wp2_with fail
  go_ret
  exact ⟨rfl, HB3.out⟩
end Go.Proofs.Ytaaoamkagppodaa
/- PrinterParts: a tree's text in a group is it between brackets; two trees' texts with a sign between are their Alt's. Written by gen9parts.py. -/
namespace Go.Proofs.Ytaaoamkagppodaa
open Go Go.RowKit

def cap9 (n : ByteArray) (t : Tr) : Tr := .mk ⟨6, 0, [], 0, 1, n, 0, 0, false⟩ [t]
def alt9 (t u : Tr) : Tr := .mk ⟨12, 0, [], 0, 0, ⟨#[]⟩, 0, 0, false⟩ [t, u]
theorem cap9_parts {n : ByteArray} {t : Tr} (h : partsR t ≤ 20000) : partsR (cap9 n t) ≤ 10000000000 := by
  rw [partsR_eq]
  simp [cap9, Tr.kids, Tr.fld]
  omega
theorem alt9_parts {t u : Tr} (h : partsR t ≤ 20000) (h2 : partsR u ≤ 20000) : partsR (alt9 t u) ≤ 10000000000 := by
  rw [partsR_eq]
  simp [alt9, Tr.kids, Tr.fld]
  omega
theorem cap9_tre {w : World} {b : Nat} {n : ByteArray} (hn : n.size ≤ 140737488355328) {t : Tr} {kv sv : Value} (h : CellsAt w b 0 (treC t.fld kv sv)) (ht : Tre w t (.agg (treC t.fld kv sv))) : Tre w (cap9 n t) (.agg (treC (cap9 n t).fld (.slice (some ⟨b, 0, none⟩) 1 1) (.slice none 0 0))) := by
  rw [tre_iff]
  refine ⟨_, _, rfl, rgs_none9 w, by simp [FldOk, I64, I32, cap9, Tr.fld]; omega, some ⟨b, 0, none⟩, 1, rfl, by simp [cap9, Tr.kids], by unfold maxLen; omega, by simp [cap9, Tr.kids], by simp, .inr ⟨b, 0, rfl, trivial, fun i hi => ?_⟩⟩
  have hi' : i < 1 := hi
  obtain rfl : i = 0 := by omega
  exact ⟨_, by simpa using h, ht⟩
theorem alt9_tre {w : World} {b : Nat} {t u : Tr} {kv sv kv2 sv2 : Value} (h : CellsAt w b 0 (treC t.fld kv sv)) (ht : Tre w t (.agg (treC t.fld kv sv))) (h2 : CellsAt w b 10 (treC u.fld kv2 sv2)) (hu : Tre w u (.agg (treC u.fld kv2 sv2))) : Tre w (alt9 t u) (.agg (treC (alt9 t u).fld (.slice (some ⟨b, 0, none⟩) 2 2) (.slice none 0 0))) := by
  rw [tre_iff]
  refine ⟨_, _, rfl, rgs_none9 w, by simp [FldOk, I64, I32, alt9, Tr.fld]; decide, some ⟨b, 0, none⟩, 2, rfl, by simp [alt9, Tr.kids], by unfold maxLen; omega, by simp [alt9, Tr.kids], by simp, .inr ⟨b, 0, rfl, trivial, fun i hi => ?_⟩⟩
  have hi' : i < 2 := hi
  rcases (show i = 0 ∨ i = 1 by omega) with rfl | rfl
  · exact ⟨_, by simpa using h, ht⟩
  · exact ⟨_, by simpa using h2, hu⟩
/-- What Print tells, as a text and a number. -/
theorem print_two {t : Tr} {w : World} {e : Ending} {w' : World} (h : PrintPost t w e w') : ∃ (S : ByteArray) (E : Int), e = .returned (.tuple #[.string S, .int .i64 E]) ∧ Below w.heap.size w w' ∧ ((RightT t ∧ S = textB (textT t) ∧ E = 0) ∨ (¬ RightT t ∧ S = ⟨#[]⟩ ∧ E = 51)) := by
  obtain ⟨hb, ⟨h1, rfl⟩ | ⟨h1, rfl⟩⟩ := h
  · exact ⟨_, _, rfl, hb, .inl ⟨h1, rfl, rfl⟩⟩
  · exact ⟨_, _, rfl, hb, .inr ⟨h1, rfl, rfl⟩⟩
theorem textB_app (a b : List UInt8) : textB a ++ textB b = textB (a ++ b) := by
  apply ByteArray.ext
  rw [ByteArray.data_append]
  simp [textB]
theorem textB_data (b : ByteArray) : b = textB b.toList := (textB_of b).symm
theorem cap9_text (n : ByteArray) (t : Tr) : textB (textT (cap9 n t)) = (if n = ⟨#[]⟩ then ⟨#[40]⟩ else (⟨#[40, 63, 80, 60]⟩ ++ n) ++ ⟨#[62]⟩) ++ textB (textT t) ++ ⟨#[41]⟩ := by
  rw [text_cap (k := t) rfl rfl]
  show textB (beginP n.toList ++ (textT t ++ [41])) = _
  unfold beginP
  by_cases h : n = ⟨#[]⟩
  · subst h
    rw [show (⟨#[]⟩ : ByteArray).toList = [] by rw [Lib.toList_data], if_pos rfl, if_pos rfl]
    show _ = textB [40] ++ textB (textT t) ++ textB [41]
    rw [textB_app, textB_app, List.append_assoc]
  · rw [if_neg h, if_neg (fun e => h (by rw [textB_data n, e]; rfl))]
    conv => rhs; rw [textB_data n]
    show _ = textB [40, 63, 80, 60] ++ textB n.toList ++ textB [62] ++ textB (textT t) ++ textB [41]
    rw [textB_app, textB_app, textB_app, textB_app]
    simp
theorem alt9_text (t u : Tr) : textB (textT (alt9 t u)) = textB (textT t) ++ ⟨#[124]⟩ ++ textB (textT u) := by
  rw [text_alt rfl]
  show textB (joinP [textT t, textT u]) = textB (textT t) ++ textB [124] ++ textB (textT u)
  rw [textB_app, textB_app]
  simp [joinP]
theorem cat9 (a b : ByteArray) (h : a.size + b.size ≤ 9223372036854775807) (W : World) : (Op.stringOp .add a b).run Try.prog W = .ok (.string (a ++ b)) W := run_string_add_sum W a b h

set_option maxHeartbeats 3200000 in
set_option maxRecDepth 100000 in
theorem printerParts_any (w : World) (vA : Value) (tA : Tr) (hA : Tre w tA vA) (vB : Value) (tB : Tr) (hB : Tre w tB vB) (N : ByteArray) (hN : N.size ≤ 140737488355328) : Calls Try.prog 3 #[vA, vB, .string N] w fun e w' => e = .returned (.bool true) ∧ Below w.heap.size w w' := by
  have hA0 := hA; have hB0 := hB
  obtain ⟨A, n, c, a2, s, c2, hn, hs, rfl, -, -, -, -, -⟩ := hA.opened
  obtain ⟨B, m, d, b2, r, d2, hm, hr, rfl, -, -, -, -, -⟩ := hB.opened
  have hbA : Below w.heap.size w (w.alloc (.cells #[.int .i64 tA.fld.op, .slice A n c, .int .i32 tA.fld.rune, .slice a2 s c2, .int .i64 tA.fld.at', .int .i64 tA.fld.cap, .string tA.fld.name, .int .i64 tA.fld.min, .int .i64 tA.fld.max, .bool tA.fld.lazy] 27)) := (Below.refl _ _).alloc (Nat.le_refl _) _
  have hEA : Box10 (w.alloc (.cells #[.int .i64 tA.fld.op, .slice A n c, .int .i32 tA.fld.rune, .slice a2 s c2, .int .i64 tA.fld.at', .int .i64 tA.fld.cap, .string tA.fld.name, .int .i64 tA.fld.min, .int .i64 tA.fld.max, .bool tA.fld.lazy] 27)) w.heap.size (.int .i64 tA.fld.op) (.slice A n c) (.int .i32 tA.fld.rune) (.slice a2 s c2) (.int .i64 tA.fld.at') (.int .i64 tA.fld.cap) (.string tA.fld.name) (.int .i64 tA.fld.min) (.int .i64 tA.fld.max) (.bool tA.fld.lazy) := box10_new w _ _ _ _ _ _ _ _ _ _ _
  obtain ⟨w0, hw0⟩ : ∃ w0, w.alloc (.cells #[.int .i64 tA.fld.op, .slice A n c, .int .i32 tA.fld.rune, .slice a2 s c2, .int .i64 tA.fld.at', .int .i64 tA.fld.cap, .string tA.fld.name, .int .i64 tA.fld.min, .int .i64 tA.fld.max, .bool tA.fld.lazy] 27) = w0 := ⟨_, rfl⟩
  have hs0 : w0.heap.size = w.heap.size + 1 := by rw [← hw0]; simp
  obtain ⟨w1, hw1⟩ : ∃ w1, w0.alloc (.cells #[.int .i64 tB.fld.op, .slice B m d, .int .i32 tB.fld.rune, .slice b2 r d2, .int .i64 tB.fld.at', .int .i64 tB.fld.cap, .string tB.fld.name, .int .i64 tB.fld.min, .int .i64 tB.fld.max, .bool tB.fld.lazy] 27) = w1 := ⟨_, rfl⟩
  have hb1 : Below w0.heap.size w0 w1 := by rw [← hw1]; exact (Below.refl _ _).alloc (Nat.le_refl _) _
  have hEB : Box10 w1 (w.heap.size + 1) (.int .i64 tB.fld.op) (.slice B m d) (.int .i32 tB.fld.rune) (.slice b2 r d2) (.int .i64 tB.fld.at') (.int .i64 tB.fld.cap) (.string tB.fld.name) (.int .i64 tB.fld.min) (.int .i64 tB.fld.max) (.bool tB.fld.lazy) := by rw [← hw1, ← hs0]; exact box10_new w0 _ _ _ _ _ _ _ _ _ _ _
  rw [hw0] at hbA hEA
  have hb01 := below_two hbA hb1
  have HT := Lib.hid hb01; have HEA := Lib.hid (hEA.below hb1); have HEB := Lib.hid hEB; have HA := Lib.hid (hA0.below hb01); have HB := Lib.hid (hB0.below hb01)
  have HW : Hid ((w.alloc (.cells #[.int .i64 tA.fld.op, .slice A n c, .int .i32 tA.fld.rune, .slice a2 s c2, .int .i64 tA.fld.at', .int .i64 tA.fld.cap, .string tA.fld.name, .int .i64 tA.fld.min, .int .i64 tA.fld.max, .bool tA.fld.lazy] 27)).alloc (.cells #[.int .i64 tB.fld.op, .slice B m d, .int .i32 tB.fld.rune, .slice b2 r d2, .int .i64 tB.fld.at', .int .i64 tB.fld.cap, .string tB.fld.name, .int .i64 tB.fld.min, .int .i64 tB.fld.max, .bool tB.fld.lazy] 27) = w1) := Lib.hid (by rw [hw0, hw1])
  have HN := Lib.hid hN
  clear hA hB hA0 hB0 hbA hEA hb1 hEB hb01 hw0 hw1 hn hs hm hr hs0 hN
  obtain ⟨vA, hvA⟩ : ∃ v, Value.agg #[.int .i64 tA.fld.op, .slice A n c, .int .i32 tA.fld.rune, .slice a2 s c2, .int .i64 tA.fld.at', .int .i64 tA.fld.cap, .string tA.fld.name, .int .i64 tA.fld.min, .int .i64 tA.fld.max, .bool tA.fld.lazy] = v := ⟨_, rfl⟩
  obtain ⟨vB, hvB⟩ : ∃ v, Value.agg #[.int .i64 tB.fld.op, .slice B m d, .int .i32 tB.fld.rune, .slice b2 r d2, .int .i64 tB.fld.at', .int .i64 tB.fld.cap, .string tB.fld.name, .int .i64 tB.fld.min, .int .i64 tB.fld.max, .bool tB.fld.lazy] = v := ⟨_, rfl⟩
  rw [hvA] at HA
  rw [hvB] at HB
  have HVA := Lib.hid hvA; have HVB := Lib.hid hvB
  clear hvA hvB
  go_enter Try.func3, Try.ntmps3
  go_upto_region 1 with (fail)
  rw [HW.out]
  clear HW
  go_wp2_with fail
  refine (phead_any w1).mono ?_
  rintro e w2 ⟨rfl, hb⟩
  replace HA := Lib.hid (HA.out.below hb); replace HB := Lib.hid (HB.out.below hb); replace HEA := Lib.hid (HEA.out.below hb); replace HEB := Lib.hid (HEB.out.below hb)
  replace HT := Lib.hid (HT.out.trans (hb.mono HT.out.size))
  clear hb
  obtain ⟨p0, p1, p2, p3, p4, p5, p6, p7, p8, p9⟩ := HEA.out
  go_wp2_with fail
  rw [HVA.out]
  refine (parts_any 20000 (by omega) tA _ w2 HA.out).mono ?_
  rintro e w3 ⟨k, rfl, k1, k2, k3, hb⟩
  replace HA := Lib.hid (HA.out.below hb); replace HB := Lib.hid (HB.out.below hb); replace HEA := Lib.hid (HEA.out.below hb); replace HEB := Lib.hid (HEB.out.below hb)
  replace HT := Lib.hid (HT.out.trans (hb.mono HT.out.size))
  clear hb p0 p1 p2 p3 p4 p5 p6 p7 p8 p9
  by_cases hk : 20000 < k
  · clear k1 k2
    have hz : (20000 : Int) < (k : Int) := by omega
    clear hk k3
    go_wp2_with fail
    go_ret
    exact ⟨rfl, HT.out⟩
  have hpA : Hid (partsR tA ≤ 20000) := Lib.hid (by omega)
  have hz : ¬ (20000 : Int) < (k : Int) := by omega
  have hz2 : decide ((20000 : Int) < (k : Int)) = false := decide_eq_false hz
  clear hk k1 k2 k3
  obtain ⟨q0, q1, q2, q3, q4, q5, q6, q7, q8, q9⟩ := HEB.out
  go_wp2_with fail
  rw [HVB.out]
  refine (parts_any 20000 (by omega) tB _ w3 HB.out).mono ?_
  rintro e w4 ⟨k, rfl, k1, k2, k3, hb⟩
  replace HA := Lib.hid (HA.out.below hb); replace HB := Lib.hid (HB.out.below hb); replace HEA := Lib.hid (HEA.out.below hb); replace HEB := Lib.hid (HEB.out.below hb)
  replace HT := Lib.hid (HT.out.trans (hb.mono HT.out.size))
  clear hb q0 q1 q2 q3 q4 q5 q6 q7 q8 q9
  by_cases hk : 20000 < k
  · clear k1 k2
    have hz : (20000 : Int) < (k : Int) := by omega
    clear hk k3
    go_wp2_with fail
    go_ret
    exact ⟨rfl, HT.out⟩
  have hpB : Hid (partsR tB ≤ 20000) := Lib.hid (by omega)
  have hz : ¬ (20000 : Int) < (k : Int) := by omega
  have hz2 : decide ((20000 : Int) < (k : Int)) = false := decide_eq_false hz
  clear hk k1 k2 k3
  obtain ⟨p0, p1, p2, p3, p4, p5, p6, p7, p8, p9⟩ := HEA.out
  go_wp2_with fail
  rw [HVA.out]
  clear hz hz2
  refine (groups_any tA (by have := hpA.out; omega) _ _ w4 (fun b h => h) HA.out.foot).mono ?_
  rintro e w5 ⟨g, rfl, ho, hb⟩
  obtain ⟨ga, gc, rfl, -⟩ := ho.kdsE (by have := groupsT_len tA; have := hpA.out; omega)
  generalize (groupsT tA).length = k
  replace HA := Lib.hid (HA.out.below hb); replace HB := Lib.hid (HB.out.below hb); replace HEA := Lib.hid (HEA.out.below hb); replace HEB := Lib.hid (HEB.out.below hb)
  replace HT := Lib.hid (HT.out.trans (hb.mono HT.out.size))
  clear ho
  clear hb p0 p1 p2 p3 p4 p5 p6 p7 p8 p9
  by_cases hk : 0 < k
  · have hz : (0 : Int) < (k : Int) := by omega
    clear hk
    go_wp2_with fail
    go_ret
    exact ⟨rfl, HT.out⟩
  have hz : ¬ (0 : Int) < (k : Int) := by omega
  have hz2 : decide ((0 : Int) < (k : Int)) = false := decide_eq_false hz
  clear hk
  obtain ⟨q0, q1, q2, q3, q4, q5, q6, q7, q8, q9⟩ := HEB.out
  go_wp2_with fail
  rw [HVB.out]
  clear hz hz2
  refine (groups_any tB (by have := hpB.out; omega) _ _ w5 (fun b h => h) HB.out.foot).mono ?_
  rintro e w6 ⟨g, rfl, ho, hb⟩
  obtain ⟨ga, gc, rfl, -⟩ := ho.kdsE (by have := groupsT_len tB; have := hpB.out; omega)
  generalize (groupsT tB).length = k
  replace HA := Lib.hid (HA.out.below hb); replace HB := Lib.hid (HB.out.below hb); replace HEA := Lib.hid (HEA.out.below hb); replace HEB := Lib.hid (HEB.out.below hb)
  replace HT := Lib.hid (HT.out.trans (hb.mono HT.out.size))
  clear ho
  clear hb q0 q1 q2 q3 q4 q5 q6 q7 q8 q9
  by_cases hk : 0 < k
  · have hz : (0 : Int) < (k : Int) := by omega
    clear hk
    go_wp2_with fail
    go_ret
    exact ⟨rfl, HT.out⟩
  have hz : ¬ (0 : Int) < (k : Int) := by omega
  have hz2 : decide ((0 : Int) < (k : Int)) = false := decide_eq_false hz
  clear hk
  obtain ⟨p0, p1, p2, p3, p4, p5, p6, p7, p8, p9⟩ := HEA.out
  go_wp2_with fail
  rw [HVA.out]
  refine (pprint_any tA (by have := hpA.out; omega) _ w6 HA.out).mono ?_
  intro e w7 hpost
  obtain ⟨S, E, rfl, hb, hS⟩ := print_two hpost
  have HS := Lib.hid hS
  clear hpost hS
  clear hz hz2
  replace HA := Lib.hid (HA.out.below hb); replace HB := Lib.hid (HB.out.below hb); replace HEA := Lib.hid (HEA.out.below hb); replace HEB := Lib.hid (HEB.out.below hb)
  replace HT := Lib.hid (HT.out.trans (hb.mono HT.out.size))
  clear hb p0 p1 p2 p3 p4 p5 p6 p7 p8 p9
  obtain ⟨q0, q1, q2, q3, q4, q5, q6, q7, q8, q9⟩ := HEB.out
  go_wp2_with fail
  rw [HVB.out]
  refine (pprint_any tB (by have := hpB.out; omega) _ w7 HB.out).mono ?_
  intro e w8 hpost
  obtain ⟨R, F, rfl, hb, hR⟩ := print_two hpost
  have HR := Lib.hid hR
  clear hpost hR
  replace HA := Lib.hid (HA.out.below hb); replace HB := Lib.hid (HB.out.below hb); replace HEA := Lib.hid (HEA.out.below hb); replace HEB := Lib.hid (HEB.out.below hb)
  replace HT := Lib.hid (HT.out.trans (hb.mono HT.out.size))
  clear hb q0 q1 q2 q3 q4 q5 q6 q7 q8 q9
  obtain ⟨p0, p1, p2, p3, p4, p5, p6, p7, p8, p9⟩ := HEA.out
  obtain ⟨q0, q1, q2, q3, q4, q5, q6, q7, q8, q9⟩ := HEB.out
  go_upto_region 7 with (fail)
  obtain ⟨w10, hw10⟩ : ∃ w10, (w8.alloc (.cells #[.int .i64 tA.fld.op, .slice A n c, .int .i32 tA.fld.rune, .slice a2 s c2, .int .i64 tA.fld.at', .int .i64 tA.fld.cap, .string tA.fld.name, .int .i64 tA.fld.min, .int .i64 tA.fld.max, .bool tA.fld.lazy] 27)).alloc (.cells #[.int .i64 6, .slice (some ⟨w8.heap.size, 0, none⟩) 1 1, .int .i32 0, .slice none 0 0, .int .i64 0, .int .i64 1, .string N, .int .i64 0, .int .i64 0, .bool false] 27) = w10 := ⟨_, rfl⟩
  have hs9 : (w8.alloc (.cells #[.int .i64 tA.fld.op, .slice A n c, .int .i32 tA.fld.rune, .slice a2 s c2, .int .i64 tA.fld.at', .int .i64 tA.fld.cap, .string tA.fld.name, .int .i64 tA.fld.min, .int .i64 tA.fld.max, .bool tA.fld.lazy] 27)).heap.size = w8.heap.size + 1 := by simp
  have h9 := cellsAt_new w8 (treC tA.fld (.slice A n c) (.slice a2 s c2)) 27
  have hG : Box10 w10 (w8.heap.size + 1) (.int .i64 6) (.slice (some ⟨w8.heap.size, 0, none⟩) 1 1) (.int .i32 0) (.slice none 0 0) (.int .i64 0) (.int .i64 1) (.string N) (.int .i64 0) (.int .i64 0) (.bool false) := by rw [← hw10, ← hs9]; exact box10_new _ _ _ _ _ _ _ _ _ _ _ _
  have b9 : Below w8.heap.size w8 (w8.alloc (.cells #[.int .i64 tA.fld.op, .slice A n c, .int .i32 tA.fld.rune, .slice a2 s c2, .int .i64 tA.fld.at', .int .i64 tA.fld.cap, .string tA.fld.name, .int .i64 tA.fld.min, .int .i64 tA.fld.max, .bool tA.fld.lazy] 27)) := (Below.refl _ _).alloc (Nat.le_refl _) _
  have b10 : Below (w8.alloc (.cells #[.int .i64 tA.fld.op, .slice A n c, .int .i32 tA.fld.rune, .slice a2 s c2, .int .i64 tA.fld.at', .int .i64 tA.fld.cap, .string tA.fld.name, .int .i64 tA.fld.min, .int .i64 tA.fld.max, .bool tA.fld.lazy] 27)).heap.size (w8.alloc (.cells #[.int .i64 tA.fld.op, .slice A n c, .int .i32 tA.fld.rune, .slice a2 s c2, .int .i64 tA.fld.at', .int .i64 tA.fld.cap, .string tA.fld.name, .int .i64 tA.fld.min, .int .i64 tA.fld.max, .bool tA.fld.lazy] 27)) w10 := by rw [← hw10]; exact (Below.refl _ _).alloc (Nat.le_refl _) _
  have hb := below_two b9 b10
  replace h9 := CellsAt.below h9 b10
  have hs10 : w10.heap.size = w8.heap.size + 2 := by rw [← hw10]; simp
  replace HA := Lib.hid (HA.out.below hb); replace HB := Lib.hid (HB.out.below hb); replace HEA := Lib.hid (HEA.out.below hb); replace HEB := Lib.hid (HEB.out.below hb)
  replace HT := Lib.hid (HT.out.trans (hb.mono HT.out.size))
  have HG := Lib.hid hG; have HW := Lib.hid hw10
  have HTG := Lib.hid (cap9_tre HN.out h9 (by rw [← HVA.out] at HA; exact HA.out))
  have HS10 := Lib.hid hs10
  clear hs9 h9 hG b9 b10 hs10 hw10 p0 p1 p2 p3 p4 p5 p6 p7 p8 p9 q0 q1 q2 q3 q4 q5 q6 q7 q8 q9 hb
  rw [HW.out]
  clear HW
  obtain ⟨p0, p1, p2, p3, p4, p5, p6, p7, p8, p9⟩ := HEA.out
  obtain ⟨q0, q1, q2, q3, q4, q5, q6, q7, q8, q9⟩ := HEB.out
  go_upto_region 8 with (fail)
  obtain ⟨w12, hw12⟩ : ∃ w12, (w10.alloc (.cells #[.int .i64 tA.fld.op, .slice A n c, .int .i32 tA.fld.rune, .slice a2 s c2, .int .i64 tA.fld.at', .int .i64 tA.fld.cap, .string tA.fld.name, .int .i64 tA.fld.min, .int .i64 tA.fld.max, .bool tA.fld.lazy, .int .i64 tB.fld.op, .slice B m d, .int .i32 tB.fld.rune, .slice b2 r d2, .int .i64 tB.fld.at', .int .i64 tB.fld.cap, .string tB.fld.name, .int .i64 tB.fld.min, .int .i64 tB.fld.max, .bool tB.fld.lazy] 27)).alloc (.cells #[.int .i64 12, .slice (some ⟨w10.heap.size, 0, none⟩) 2 2, .int .i32 0, .slice none 0 0, .int .i64 0, .int .i64 0, .string ⟨#[]⟩, .int .i64 0, .int .i64 0, .bool false] 27) = w12 := ⟨_, rfl⟩
  have hs9 : (w10.alloc (.cells #[.int .i64 tA.fld.op, .slice A n c, .int .i32 tA.fld.rune, .slice a2 s c2, .int .i64 tA.fld.at', .int .i64 tA.fld.cap, .string tA.fld.name, .int .i64 tA.fld.min, .int .i64 tA.fld.max, .bool tA.fld.lazy, .int .i64 tB.fld.op, .slice B m d, .int .i32 tB.fld.rune, .slice b2 r d2, .int .i64 tB.fld.at', .int .i64 tB.fld.cap, .string tB.fld.name, .int .i64 tB.fld.min, .int .i64 tB.fld.max, .bool tB.fld.lazy] 27)).heap.size = w10.heap.size + 1 := by simp
  have h9 := cellsAt_new w10 #[.int .i64 tA.fld.op, .slice A n c, .int .i32 tA.fld.rune, .slice a2 s c2, .int .i64 tA.fld.at', .int .i64 tA.fld.cap, .string tA.fld.name, .int .i64 tA.fld.min, .int .i64 tA.fld.max, .bool tA.fld.lazy, .int .i64 tB.fld.op, .slice B m d, .int .i32 tB.fld.rune, .slice b2 r d2, .int .i64 tB.fld.at', .int .i64 tB.fld.cap, .string tB.fld.name, .int .i64 tB.fld.min, .int .i64 tB.fld.max, .bool tB.fld.lazy] 27
  have hG : Box10 w12 (w10.heap.size + 1) (.int .i64 12) (.slice (some ⟨w10.heap.size, 0, none⟩) 2 2) (.int .i32 0) (.slice none 0 0) (.int .i64 0) (.int .i64 0) (.string ⟨#[]⟩) (.int .i64 0) (.int .i64 0) (.bool false) := by rw [← hw12, ← hs9]; exact box10_new _ _ _ _ _ _ _ _ _ _ _ _
  have b9 : Below w10.heap.size w10 (w10.alloc (.cells #[.int .i64 tA.fld.op, .slice A n c, .int .i32 tA.fld.rune, .slice a2 s c2, .int .i64 tA.fld.at', .int .i64 tA.fld.cap, .string tA.fld.name, .int .i64 tA.fld.min, .int .i64 tA.fld.max, .bool tA.fld.lazy, .int .i64 tB.fld.op, .slice B m d, .int .i32 tB.fld.rune, .slice b2 r d2, .int .i64 tB.fld.at', .int .i64 tB.fld.cap, .string tB.fld.name, .int .i64 tB.fld.min, .int .i64 tB.fld.max, .bool tB.fld.lazy] 27)) := (Below.refl _ _).alloc (Nat.le_refl _) _
  have b10 : Below (w10.alloc (.cells #[.int .i64 tA.fld.op, .slice A n c, .int .i32 tA.fld.rune, .slice a2 s c2, .int .i64 tA.fld.at', .int .i64 tA.fld.cap, .string tA.fld.name, .int .i64 tA.fld.min, .int .i64 tA.fld.max, .bool tA.fld.lazy, .int .i64 tB.fld.op, .slice B m d, .int .i32 tB.fld.rune, .slice b2 r d2, .int .i64 tB.fld.at', .int .i64 tB.fld.cap, .string tB.fld.name, .int .i64 tB.fld.min, .int .i64 tB.fld.max, .bool tB.fld.lazy] 27)).heap.size (w10.alloc (.cells #[.int .i64 tA.fld.op, .slice A n c, .int .i32 tA.fld.rune, .slice a2 s c2, .int .i64 tA.fld.at', .int .i64 tA.fld.cap, .string tA.fld.name, .int .i64 tA.fld.min, .int .i64 tA.fld.max, .bool tA.fld.lazy, .int .i64 tB.fld.op, .slice B m d, .int .i32 tB.fld.rune, .slice b2 r d2, .int .i64 tB.fld.at', .int .i64 tB.fld.cap, .string tB.fld.name, .int .i64 tB.fld.min, .int .i64 tB.fld.max, .bool tB.fld.lazy] 27)) w12 := by rw [← hw12]; exact (Below.refl _ _).alloc (Nat.le_refl _) _
  have hb := below_two b9 b10
  replace h9 := CellsAt.below h9 b10
  have i1 : CellsAt w12 w10.heap.size 0 (treC tA.fld (.slice A n c) (.slice a2 s c2)) := fun j hj => by
    have hj' : j < 10 := hj
    have := h9 j (show j < 20 by omega)
    rcases (show j = 0 ∨ j = 1 ∨ j = 2 ∨ j = 3 ∨ j = 4 ∨ j = 5 ∨ j = 6 ∨ j = 7 ∨ j = 8 ∨ j = 9 by omega) with rfl | rfl | rfl | rfl | rfl | rfl | rfl | rfl | rfl | rfl <;> exact this
  have i2 : CellsAt w12 w10.heap.size 10 (treC tB.fld (.slice B m d) (.slice b2 r d2)) := fun j hj => by
    have hj' : j < 10 := hj
    have := h9 (10 + j) (show 10 + j < 20 by omega)
    rw [Nat.zero_add] at this
    rcases (show j = 0 ∨ j = 1 ∨ j = 2 ∨ j = 3 ∨ j = 4 ∨ j = 5 ∨ j = 6 ∨ j = 7 ∨ j = 8 ∨ j = 9 by omega) with rfl | rfl | rfl | rfl | rfl | rfl | rfl | rfl | rfl | rfl <;> exact this
  replace HA := Lib.hid (HA.out.below hb); replace HB := Lib.hid (HB.out.below hb); replace HEA := Lib.hid (HEA.out.below hb); replace HEB := Lib.hid (HEB.out.below hb); replace HG := Lib.hid (HG.out.below hb); replace HTG := Lib.hid (HTG.out.below hb)
  replace HT := Lib.hid (HT.out.trans (hb.mono HT.out.size))
  have HX := Lib.hid hG; have HW := Lib.hid hw12
  have HTX := Lib.hid (alt9_tre i1 (by rw [← HVA.out] at HA; exact HA.out) i2 (by rw [← HVB.out] at HB; exact HB.out))
  clear hs9 h9 hG b9 b10 hw12 p0 p1 p2 p3 p4 p5 p6 p7 p8 p9 q0 q1 q2 q3 q4 q5 q6 q7 q8 q9 hb i1 i2
  rw [HW.out]
  clear HW hz hz2
  rcases HS.out with ⟨h1, h2, h3⟩ | ⟨-, -, h3⟩
  rotate_left
  · subst h3
    clear HG HX HTG HTX
    go_wp2_with fail
    go_ret
    exact ⟨rfl, HT.out⟩
  subst h3
  have HS1 := Lib.hid h1; have HS2 := Lib.hid h2
  clear h1 h2 HS
  rcases HR.out with ⟨h1, h2, h3⟩ | ⟨-, -, h3⟩
  rotate_left
  · subst h3
    clear HG HX HTG HTX
    go_wp2_with fail
    go_ret
    exact ⟨rfl, HT.out⟩
  subst h3
  have HR1 := Lib.hid h1; have HR2 := Lib.hid h2
  clear h1 h2 HR
  clear HEA HEB HA HB HVA HVB
  obtain ⟨p0, p1, p2, p3, p4, p5, p6, p7, p8, p9⟩ := HG.out
  go_wp2_with fail
  refine (pright_any (cap9 N tA) (cap9_parts hpA.out) _ w12 HTG.out).mono ?_
  rintro e w13 ⟨G, rfl, hq, hb⟩
  have Q1 := Lib.hid hq
  clear hq
  replace HG := Lib.hid (HG.out.below hb); replace HX := Lib.hid (HX.out.below hb); replace HTG := Lib.hid (HTG.out.below hb); replace HTX := Lib.hid (HTX.out.below hb); replace HT := Lib.hid (HT.out.trans (hb.mono HT.out.size))
  clear hb p0 p1 p2 p3 p4 p5 p6 p7 p8 p9
  rcases G with _ | _
  · clear Q1
    go_wp2_with fail
    go_ret
    exact ⟨rfl, HT.out⟩
  replace Q1 := Lib.hid (Q1.out.1 rfl)
  obtain ⟨p0, p1, p2, p3, p4, p5, p6, p7, p8, p9⟩ := HX.out
  go_wp2_with fail
  refine (pright_any (alt9 tA tB) (alt9_parts hpA.out hpB.out) _ w13 HTX.out).mono ?_
  rintro e w14 ⟨G, rfl, hq, hb⟩
  have Q2 := Lib.hid hq
  clear hq
  replace HG := Lib.hid (HG.out.below hb); replace HX := Lib.hid (HX.out.below hb); replace HTG := Lib.hid (HTG.out.below hb); replace HTX := Lib.hid (HTX.out.below hb); replace HT := Lib.hid (HT.out.trans (hb.mono HT.out.size))
  clear hb p0 p1 p2 p3 p4 p5 p6 p7 p8 p9
  rcases G with _ | _
  · clear Q2
    go_wp2_with fail
    go_ret
    exact ⟨rfl, HT.out⟩
  replace Q2 := Lib.hid (Q2.out.1 rfl)
  obtain ⟨p0, p1, p2, p3, p4, p5, p6, p7, p8, p9⟩ := HG.out
  go_wp2_with fail
  refine (pprint_any (cap9 N tA) (cap9_parts hpA.out) _ w14 HTG.out).mono ?_
  rintro e w15 ⟨hb, ⟨-, rfl⟩ | ⟨h1, -⟩⟩
  case' inr => exact absurd Q1.out h1
  have hZ0 := cap9_text N tA
  rw [← HS2.out] at hZ0
  obtain ⟨Z, hZ⟩ : ∃ Z, textB (textT (cap9 N tA)) = Z := ⟨_, rfl⟩
  rw [hZ] at hZ0 ⊢
  have HZ := Lib.hid hZ0
  clear hZ hZ0
  replace HG := Lib.hid (HG.out.below hb); replace HX := Lib.hid (HX.out.below hb); replace HTG := Lib.hid (HTG.out.below hb); replace HTX := Lib.hid (HTX.out.below hb); replace HT := Lib.hid (HT.out.trans (hb.mono HT.out.size))
  clear hb p0 p1 p2 p3 p4 p5 p6 p7 p8 p9
  obtain ⟨p0, p1, p2, p3, p4, p5, p6, p7, p8, p9⟩ := HX.out
  go_wp2_with fail
  refine (pprint_any (alt9 tA tB) (alt9_parts hpA.out hpB.out) _ w15 HTX.out).mono ?_
  rintro e w16 ⟨hb, ⟨-, rfl⟩ | ⟨h1, -⟩⟩
  case' inr => exact absurd Q2.out h1
  rw [alt9_text, ← HS2.out, ← HR2.out]
  replace HG := Lib.hid (HG.out.below hb); replace HX := Lib.hid (HX.out.below hb); replace HTG := Lib.hid (HTG.out.below hb); replace HTX := Lib.hid (HTX.out.below hb); replace HT := Lib.hid (HT.out.trans (hb.mono HT.out.size))
  clear hb p0 p1 p2 p3 p4 p5 p6 p7 p8 p9
  clear HG HX HTG HTX
  have z1 : S.size ≤ 1280000 := by
    have := text_len tA HS1.out.2.2.1
    have := hpA.out
    rw [HS2.out, textB_size]
    omega
  have z2 : R.size ≤ 1280000 := by
    have := text_len tB HR1.out.2.2.1
    have := hpB.out
    rw [HR2.out, textB_size]
    omega
  have zN := HN.out
  have c5 := cat9 S ⟨#[124]⟩ (by show S.size + 1 ≤ _; omega)
  have c6 := cat9 (S ++ ⟨#[124]⟩) R (by rw [ByteArray.size_append]; show S.size + 1 + _ ≤ _; omega)
  by_cases hN0 : N = ⟨#[]⟩
  · subst hN0
    have hZ := HZ.out
    rw [if_pos rfl] at hZ
    subst hZ
    have c3 := cat9 ⟨#[40]⟩ S (by show 1 + S.size ≤ _; omega)
    have c4 := cat9 (⟨#[40]⟩ ++ S) ⟨#[41]⟩ (by rw [ByteArray.size_append]; show 1 + S.size + 1 ≤ _; omega)
    clear z1 z2 zN
    go_wp2_with fail
    go_ret
    exact ⟨rfl, HT.out⟩
  · have hZ := HZ.out
    rw [if_neg hN0] at hZ
    subst hZ
    have c1 := cat9 ⟨#[40, 63, 80, 60]⟩ N (by show 4 + N.size ≤ _; omega)
    have c2 := cat9 (⟨#[40, 63, 80, 60]⟩ ++ N) ⟨#[62]⟩ (by rw [ByteArray.size_append]; show 4 + N.size + 1 ≤ _; omega)
    have c3 := cat9 (⟨#[40, 63, 80, 60]⟩ ++ N ++ ⟨#[62]⟩) S (by rw [ByteArray.size_append, ByteArray.size_append]; show 4 + N.size + 1 + S.size ≤ _; omega)
    have c4 := cat9 (⟨#[40, 63, 80, 60]⟩ ++ N ++ ⟨#[62]⟩ ++ S) ⟨#[41]⟩ (by rw [ByteArray.size_append, ByteArray.size_append, ByteArray.size_append]; show 4 + N.size + 1 + S.size + 1 ≤ _; omega)
    have hE : N.toList.isEmpty = false := by
      cases h : N.toList with
      | nil => exact absurd (by rw [textB_data N, h]; rfl) hN0
      | cons x l => rfl
    clear z1 z2 zN
    go_wp2_with fail
    go_ret
    exact ⟨rfl, HT.out⟩
end Go.Proofs.Ytaaoamkagppodaa
