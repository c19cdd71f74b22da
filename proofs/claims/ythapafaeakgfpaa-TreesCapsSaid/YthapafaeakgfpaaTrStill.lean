/- Does a tree never fit more: the document's still; and of right trees: Empty, Still. -/
import Derived.Test.YthapafaeakgfpaaTrEmpty
set_option linter.unusedVariables false
namespace Go.Proofs.Ythapafaeakgfpaa
open Go Go.RowKit

set_option maxHeartbeats 1600000 in
set_option maxRecDepth 100000 in
theorem still_any (t : Tr) : StillOf t := by
  refine Tr.ind (P := StillOf) (fun t ih v w h => ?_) t
  have IH := Lib.hid ih
  obtain ⟨A, n, c, a2, s, c2, hn, hs, rfl, hnb, hsb, hK, hS, hF⟩ := h.opened
  obtain ⟨w1, hw1⟩ : ∃ w1, w.alloc (.cells #[.int .i64 t.fld.op, .slice A n c, .int .i32 t.fld.rune, .slice a2 s c2, .int .i64 t.fld.at', .int .i64 t.fld.cap, .string t.fld.name, .int .i64 t.fld.min, .int .i64 t.fld.max, .bool t.fld.lazy] 27) = w1 := ⟨_, rfl⟩
  have hb1 : Below w.heap.size w w1 := by rw [← hw1]; exact (Below.refl _ _).alloc (Nat.le_refl _) _
  have hE1 : Box10 w1 w.heap.size (.int .i64 t.fld.op) (.slice A n c) (.int .i32 t.fld.rune) (.slice a2 s c2) (.int .i64 t.fld.at') (.int .i64 t.fld.cap) (.string t.fld.name) (.int .i64 t.fld.min) (.int .i64 t.fld.max) (.bool t.fld.lazy) := by rw [← hw1]; exact box10_new w _ _ _ _ _ _ _ _ _ _ _
  have HB1 := Lib.hid hb1; have HE1 := Lib.hid hE1; have HW1 := Lib.hid hw1; have HK := Lib.hid (hK.below hb1); have HS := Lib.hid (hS.below hb1); have HN := Lib.hid hn; have HSL := Lib.hid hs; have HF := Lib.hid hF
  clear hb1 hE1 hw1 hK hS hn hs hF
  have hpq := stillP_iff t
  obtain ⟨P, hP⟩ : ∃ P, StillP t = P := ⟨_, rfl⟩
  rw [hP] at hpq ⊢
  obtain ⟨op, hop⟩ : ∃ op, t.fld.op = op := ⟨_, rfl⟩
  rw [hop] at hpq
  have HOP := Lib.hid hop
  clear h ih hP
  have d0' := HE1.out.1
  obtain ⟨-, d1, -, -, -, -, -, d7, -⟩ := HE1.out
  rw [hop] at d0'
  clear hop
  obtain ⟨mn, hmn⟩ : ∃ mn, t.fld.min = mn := ⟨_, rfl⟩
  rw [hmn] at d7
  have HMN := Lib.hid hmn
  clear hmn
  go_enter Try.func39, Try.ntmps39
  go_upto_region 1 with (fail)
  rw [HW1.out]
  by_cases h1 : op = 3 ∨ op = 4
  · have HP := Lib.hid hpq
    have H1 := Lib.hid h1
    clear hpq
    rcases h1 with rfl | rfl
    all_goals
      go_wp2_with fail
      go_ret
      exact ⟨false, rfl, ⟨fun h => (by cases h), fun h => absurd H1.out (HP.out.1 h).1⟩, HB1.out⟩
  have hpq2 : P ↔ ∀ k ∈ t.kids, StillP k := hpq.trans ⟨fun h => h.2, fun h => ⟨h1, h⟩⟩
  have HP := Lib.hid hpq2
  have n3 : (op == 3) = false := beq_eq_false_iff_ne.2 (fun h => h1 (.inl h))
  have n4 : (op == 4) = false := beq_eq_false_iff_ne.2 (fun h => h1 (.inr h))
  clear hpq hpq2 h1
  go_wp2_with fail
  go_loopw [3] (fun i wr => ∃ k : Nat, k ≤ n ∧ i = .int .i64 k ∧ Below w1.heap.size w1 wr ∧ ∀ q ∈ t.kids.take k, StillP q) (fun i _ => n - (intOf i).toNat)
  case atStart => exact ⟨0, Nat.zero_le _, rfl, Below.refl _ _, by simp⟩
  case round =>
    obtain ⟨k, hk, rfl, hB, hQ⟩ := hrel
    have HB := Lib.hid hB; have HQ := Lib.hid hQ
    obtain ⟨f0, f1, -⟩ := HE1.out.below hB
    rw [HOP.out] at f0
    have hKw := HK.out.below hB
    clear hB hQ
    by_cases hkn : k < n
    · have hkl : k < t.kids.length := by rw [HN.out]; exact hkn
      obtain ⟨b, o, tk, kv, sv, rfl, htk, hm, ⟨c0, c1, c2', c3, c4, c5, c6, c7, c8, c9⟩, hTk⟩ := hKw.kid k hkl
      have HI := Lib.hid (IH.out tk hm _ _ hTk)
      have hts : t.kids.take (k + 1) = t.kids.take k ++ [tk] := by rw [List.take_succ_eq_append_getElem hkl, htk]
      have HTS := Lib.hid hts; have HM := Lib.hid hm
      clear hKw htk hm hTk hts
      go_wp2_with fail
      refine HI.out.mono ?_
      rintro e w4 ⟨B, rfl, hq, hb4⟩
      have HB4 := Lib.hid (below_two HB.out hb4)
      have g0 := (hb4.cell (World.block_lt_of_cell? _ _ f0)).trans f0
      have HNB : Hid (B = false → ¬ StillP tk) := Lib.hid fun e g => by rw [hq.2 g] at e; cases e
      have HYB : Hid (B = true → StillP tk) := Lib.hid hq.1
      clear hb4 hq f0 c0 c1 c2' c3 c4 c5 c6 c7 c8 c9
      cases B
      · have NB := Lib.hid (HNB.out rfl)
        clear HNB HYB
        go_wp2_with fail
        go_ret
        exact ⟨false, rfl, ⟨fun h => (by cases h), fun h => absurd (HP.out.1 h tk HM.out) NB.out⟩, below_two HB1.out HB4.out⟩
      · have YB := Lib.hid (HYB.out rfl)
        clear HNB HYB
        go_wp2_with fail
        go_roundw
        case rel =>
          refine ⟨k + 1, by omega, by go_num, HB4.out, fun q hq => ?_⟩
          rw [HTS.out] at hq
          rcases List.mem_append.1 hq with hq | hq
          · exact HQ.out q hq
          · rw [List.mem_singleton.1 hq]
            exact YB.out
        case measure => simp [intOf]; omega
    · have hk2 : t.kids.take k = t.kids := List.take_of_length_le (by rw [HN.out]; omega)
      have hq := HQ.out
      rw [hk2] at hq
      have HQ2 := Lib.hid hq
      clear hk2 hq hKw
      go_wp2_with fail
      go_ret
      exact ⟨true, rfl, ⟨fun _ => HP.out.2 HQ2.out, fun _ => rfl⟩, below_two HB1.out HB.out⟩
set_option maxHeartbeats 1600000 in
set_option maxRecDepth 100000 in
theorem empty_any2 (t : Tr) (hp : partsR t ≤ 1000000) (v : Value) (w : World) (h : Tre w t v) : Calls Try.prog 17 #[v] w (SaysB (RightT t ∧ EmptyP t) w) := by
  have H0 := Lib.hid h
  obtain ⟨A, n, c, a2, s, c2, hn, hs, rfl, hnb, hsb, hK, hS, hF⟩ := h.opened
  obtain ⟨w1, hw1⟩ : ∃ w1, w.alloc (.cells #[.int .i64 t.fld.op, .slice A n c, .int .i32 t.fld.rune, .slice a2 s c2, .int .i64 t.fld.at', .int .i64 t.fld.cap, .string t.fld.name, .int .i64 t.fld.min, .int .i64 t.fld.max, .bool t.fld.lazy] 27) = w1 := ⟨_, rfl⟩
  have hb1 : Below w.heap.size w w1 := by rw [← hw1]; exact (Below.refl _ _).alloc (Nat.le_refl _) _
  have hE1 : Box10 w1 w.heap.size (.int .i64 t.fld.op) (.slice A n c) (.int .i32 t.fld.rune) (.slice a2 s c2) (.int .i64 t.fld.at') (.int .i64 t.fld.cap) (.string t.fld.name) (.int .i64 t.fld.min) (.int .i64 t.fld.max) (.bool t.fld.lazy) := by rw [← hw1]; exact box10_new w _ _ _ _ _ _ _ _ _ _ _
  have HB1 := Lib.hid hb1; have HE1 := Lib.hid hE1; have HW1 := Lib.hid hw1; have HK := Lib.hid (hK.below hb1); have HS := Lib.hid (hS.below hb1); have HN := Lib.hid hn; have HSL := Lib.hid hs; have HF := Lib.hid hF
  clear hb1 hE1 hw1 hK hS hn hs hF
  have HD := Lib.hid (right_any t hp _ w1 (H0.out.below HB1.out))
  obtain ⟨R, hR⟩ : ∃ R, RightT t = R := ⟨_, rfl⟩
  rw [hR] at HD ⊢
  obtain ⟨P, hP⟩ : ∃ P, EmptyP t = P := ⟨_, rfl⟩
  have HPP := Lib.hid hP
  rw [hP]
  clear h hR hP
  obtain ⟨b0, b1, b2, b3, b4, b5, b6, b7, b8, b9⟩ := HE1.out
  go_enter Try.func17, Try.ntmps17
  go_wp2_with fail
  rw [HW1.out]
  go_wp2_with fail
  refine HD.out.mono ?_
  rintro e w2 ⟨B, rfl, hq, hb2⟩
  have HB2 := Lib.hid (below_two HB1.out hb2)
  have HE2 := Lib.hid (HE1.out.below hb2)
  have HNB : Hid (B = false → ¬ R) := Lib.hid fun e g => by rw [hq.2 g] at e; cases e
  have HYB : Hid (B = true → R) := Lib.hid hq.1
  clear hb2 hq b0 b1 b2 b3 b4 b5 b6 b7 b8 b9 HD
  obtain ⟨b0, b1, b2, b3, b4, b5, b6, b7, b8, b9⟩ := HE2.out
  cases B
  · have NB := Lib.hid (HNB.out rfl)
    clear HNB HYB
    go_wp2_with fail
    go_ret
    exact ⟨false, rfl, ⟨fun h => (by cases h), fun h => absurd h.1 NB.out⟩, HB2.out⟩
  have YB := Lib.hid (HYB.out rfl)
  have HD := Lib.hid (empty_any t _ w2 (H0.out.below HB2.out))
  rw [HPP.out] at HD
  clear HNB HYB
  go_wp2_with fail
  refine HD.out.mono ?_
  rintro e w3 ⟨B, rfl, hq, hb3⟩
  have HB3 := Lib.hid (below_two HB2.out hb3)
  have HQ : Hid (B = true ↔ R ∧ P) := Lib.hid ⟨fun h => ⟨YB.out, hq.1 h⟩, fun h => hq.2 h.2⟩
  clear hb3 hq
  go_wp2_with fail
  go_ret
  exact ⟨B, rfl, HQ.out, HB3.out⟩
set_option maxHeartbeats 1600000 in
set_option maxRecDepth 100000 in
theorem still_any2 (t : Tr) (hp : partsR t ≤ 1000000) (v : Value) (w : World) (h : Tre w t v) : Calls Try.prog 19 #[v] w (SaysB (RightT t ∧ StillP t) w) := by
  have H0 := Lib.hid h
  obtain ⟨A, n, c, a2, s, c2, hn, hs, rfl, hnb, hsb, hK, hS, hF⟩ := h.opened
  obtain ⟨w1, hw1⟩ : ∃ w1, w.alloc (.cells #[.int .i64 t.fld.op, .slice A n c, .int .i32 t.fld.rune, .slice a2 s c2, .int .i64 t.fld.at', .int .i64 t.fld.cap, .string t.fld.name, .int .i64 t.fld.min, .int .i64 t.fld.max, .bool t.fld.lazy] 27) = w1 := ⟨_, rfl⟩
  have hb1 : Below w.heap.size w w1 := by rw [← hw1]; exact (Below.refl _ _).alloc (Nat.le_refl _) _
  have hE1 : Box10 w1 w.heap.size (.int .i64 t.fld.op) (.slice A n c) (.int .i32 t.fld.rune) (.slice a2 s c2) (.int .i64 t.fld.at') (.int .i64 t.fld.cap) (.string t.fld.name) (.int .i64 t.fld.min) (.int .i64 t.fld.max) (.bool t.fld.lazy) := by rw [← hw1]; exact box10_new w _ _ _ _ _ _ _ _ _ _ _
  have HB1 := Lib.hid hb1; have HE1 := Lib.hid hE1; have HW1 := Lib.hid hw1; have HK := Lib.hid (hK.below hb1); have HS := Lib.hid (hS.below hb1); have HN := Lib.hid hn; have HSL := Lib.hid hs; have HF := Lib.hid hF
  clear hb1 hE1 hw1 hK hS hn hs hF
  have HD := Lib.hid (right_any t hp _ w1 (H0.out.below HB1.out))
  obtain ⟨R, hR⟩ : ∃ R, RightT t = R := ⟨_, rfl⟩
  rw [hR] at HD ⊢
  obtain ⟨P, hP⟩ : ∃ P, StillP t = P := ⟨_, rfl⟩
  have HPP := Lib.hid hP
  rw [hP]
  clear h hR hP
  obtain ⟨b0, b1, b2, b3, b4, b5, b6, b7, b8, b9⟩ := HE1.out
  go_enter Try.func19, Try.ntmps19
  go_wp2_with fail
  rw [HW1.out]
  go_wp2_with fail
  refine HD.out.mono ?_
  rintro e w2 ⟨B, rfl, hq, hb2⟩
  have HB2 := Lib.hid (below_two HB1.out hb2)
  have HE2 := Lib.hid (HE1.out.below hb2)
  have HNB : Hid (B = false → ¬ R) := Lib.hid fun e g => by rw [hq.2 g] at e; cases e
  have HYB : Hid (B = true → R) := Lib.hid hq.1
  clear hb2 hq b0 b1 b2 b3 b4 b5 b6 b7 b8 b9 HD
  obtain ⟨b0, b1, b2, b3, b4, b5, b6, b7, b8, b9⟩ := HE2.out
  cases B
  · have NB := Lib.hid (HNB.out rfl)
    clear HNB HYB
    go_wp2_with fail
    go_ret
    exact ⟨false, rfl, ⟨fun h => (by cases h), fun h => absurd h.1 NB.out⟩, HB2.out⟩
  have YB := Lib.hid (HYB.out rfl)
  have HD := Lib.hid (still_any t _ w2 (H0.out.below HB2.out))
  rw [HPP.out] at HD
  clear HNB HYB
  go_wp2_with fail
  refine HD.out.mono ?_
  rintro e w3 ⟨B, rfl, hq, hb3⟩
  have HB3 := Lib.hid (below_two HB2.out hb3)
  have HQ : Hid (B = true ↔ R ∧ P) := Lib.hid ⟨fun h => ⟨YB.out, hq.1 h⟩, fun h => hq.2 h.2⟩
  clear hb3 hq
  go_wp2_with fail
  go_ret
  exact ⟨B, rfl, HQ.out, HB3.out⟩
end Go.Proofs.Ythapafaeakgfpaa
