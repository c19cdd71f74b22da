/- Texts merged by program: TrFields, TrShaped. No condition. -/
import Derived.Test.YtaaadimkbhkpiaaQ35
import Derived.Test.YtaaadimkbhkpiaaQ36
set_option linter.unusedVariables false
set_option linter.unusedSimpArgs false
/- Has a tree just the fields of its Op: the document's fields, at any tree. -/
namespace Go.Proofs.Ytaaadimkbhkpiaa
open Go Go.RowKit

set_option maxHeartbeats 1600000 in
set_option maxRecDepth 100000 in
theorem fields_out (op : Int) (x1 x2 x3 x4 x5 x6 x7 x8 x9 : Value) (w : World) (ho : op < 1 ∨ 12 < op) : Calls Try.prog 90 #[.agg #[.int .i64 op, x1, x2, x3, x4, x5, x6, x7, x8, x9]] w fun e w' => e = .returned (.bool false) ∧ Below w.heap.size w w' := by
  go_enter Try.func90, Try.ntmps90
  by_cases h1 : op < 1
  · clear ho
    go_wp2
    go_ret
    exact ⟨rfl, (Below.refl _ _).alloc (Nat.le_refl _) _⟩
  · have h2 : 12 < op := by omega
    clear ho
    go_wp2
    go_ret
    exact ⟨rfl, (Below.refl _ _).alloc (Nat.le_refl _) _⟩
theorem fields_any (t : Tr) (v : Value) (w : World) (h : Tre w t v) : Calls Try.prog 90 #[v] w (SaysB (FieldsOk t.fld) w) := by
  obtain ⟨A, n, c, a2, s, c2, hn, hs, rfl, hnb, hsb, hK, hS, hF⟩ := h.opened
  obtain ⟨f, hf⟩ : ∃ f, t.fld = f := ⟨_, rfl⟩
  rw [hf] at hs hS hF ⊢
  obtain ⟨op, rune, set, at', cap, name, min, max, lazy⟩ := f
  obtain ⟨ho, hr, ha, hc, hmn, hmx, -, -⟩ := hF
  simp only at hs hS hr hmn hmx ⊢
  by_cases hb : op < 1 ∨ 12 < op
  · exact (fields_out op _ _ _ _ _ _ _ _ _ w hb).mono fun e w' ⟨he, hw⟩ => ⟨false, he, ⟨fun h => (by cases h), fun h => (by have h1 := h.1; have h2 := h.2.1; simp only at h1 h2; omega)⟩, hw⟩
  · have hk : op = 1 ∨ op = 2 ∨ op = 3 ∨ op = 4 ∨ op = 5 ∨ op = 6 ∨ op = 7 ∨ op = 8 ∨ op = 9 ∨ op = 10 ∨ op = 11 ∨ op = 12 := by omega
    rcases hk with rfl | rfl | rfl | rfl | rfl | rfl | rfl | rfl | rfl | rfl | rfl | rfl
    · exact fields_walk1 _ rune a2 s c2 set at' cap name min max lazy w hS hs hsb hr hmn hmx
    · exact fields_walk2 _ rune a2 s c2 set at' cap name min max lazy w hS hs hsb hr hmn hmx
    · exact fields_walk3 _ rune a2 s c2 set at' cap name min max lazy w hS hs hsb hr hmn hmx
    · exact fields_walk4 _ rune a2 s c2 set at' cap name min max lazy w hS hs hsb hr hmn hmx
    · exact fields_walk5 _ rune a2 s c2 set at' cap name min max lazy w hS hs hsb hr hmn hmx
    · exact fields_walk6 _ rune a2 s c2 set at' cap name min max lazy w hS hs hsb hr hmn hmx
    · exact fields_walk7 _ rune a2 s c2 set at' cap name min max lazy w hS hs hsb hr hmn hmx
    · exact fields_walk8 _ rune a2 s c2 set at' cap name min max lazy w hS hs hsb hr hmn hmx
    · exact fields_walk9 _ rune a2 s c2 set at' cap name min max lazy w hS hs hsb hr hmn hmx
    · exact fields_walk10 _ rune a2 s c2 set at' cap name min max lazy w hS hs hsb hr hmn hmx
    · exact fields_walk11 _ rune a2 s c2 set at' cap name min max lazy w hS hs hsb hr hmn hmx
    · exact fields_walk12 _ rune a2 s c2 set at' cap name min max lazy w hS hs hsb hr hmn hmx
end Go.Proofs.Ytaaadimkbhkpiaa
/- Is all that makes a tree right so of it, but for groups, depth and weight: the document's Shaped. -/
namespace Go.Proofs.Ytaaadimkbhkpiaa
open Go Go.RowKit

def ShapedOf (t : Tr) : Prop := ∀ (v : Value) (w : World), Tre w t v → Calls Try.prog 48 #[v] w (SaysB (ShapedP t) w)

set_option maxHeartbeats 1600000 in
set_option maxRecDepth 100000 in
theorem shaped_any (t : Tr) : ShapedOf t := by
  refine Tr.ind (P := ShapedOf) (fun t ih v w h => ?_) t
  have IH := Lib.hid ih
  have H0 := Lib.hid h
  obtain ⟨A, n, c, a2, s, c2, hn, hs, rfl, hnb, hsb, hK, hS, hF⟩ := h.opened
  obtain ⟨w1, hw1⟩ : ∃ w1, w.alloc (.cells #[.int .i64 t.fld.op, .slice A n c, .int .i32 t.fld.rune, .slice a2 s c2, .int .i64 t.fld.at', .int .i64 t.fld.cap, .string t.fld.name, .int .i64 t.fld.min, .int .i64 t.fld.max, .bool t.fld.lazy] 27) = w1 := ⟨_, rfl⟩
  have hb1 : Below w.heap.size w w1 := by rw [← hw1]; exact (Below.refl _ _).alloc (Nat.le_refl _) _
  have hE1 : Box10 w1 w.heap.size (.int .i64 t.fld.op) (.slice A n c) (.int .i32 t.fld.rune) (.slice a2 s c2) (.int .i64 t.fld.at') (.int .i64 t.fld.cap) (.string t.fld.name) (.int .i64 t.fld.min) (.int .i64 t.fld.max) (.bool t.fld.lazy) := by rw [← hw1]; exact box10_new w _ _ _ _ _ _ _ _ _ _ _
  have HB1 := Lib.hid hb1; have HE1 := Lib.hid hE1; have HW1 := Lib.hid hw1; have HK := Lib.hid (hK.below hb1); have HS := Lib.hid (hS.below hb1); have HN := Lib.hid hn; have HSL := Lib.hid hs; have HF := Lib.hid hF
  clear hb1 hE1 hw1 hK hS hn hs hF
  have HP := Lib.hid (shapedP_iff t)
  obtain ⟨P, hP⟩ : ∃ P, ShapedP t = P := ⟨_, rfl⟩
  rw [hP] at HP ⊢
  clear h ih hP
  have HFA := Lib.hid (fields_any t _ w1 (H0.out.below HB1.out))
  obtain ⟨b0, b1, b2, b3, b4, b5, b6, b7, b8, b9⟩ := HE1.out
  go_enter Try.func48, Try.ntmps48
  go_wp2_with fail
  rw [HW1.out]
  go_wp2_with fail
  refine HFA.out.mono ?_
  rintro e w2 ⟨B1, rfl, hq1, hb2⟩
  have HQ1 : Hid (B1 = false → ¬ FieldsOk t.fld) := Lib.hid fun e g => by rw [hq1.2 g] at e; cases e
  have HY1 : Hid (B1 = true → FieldsOk t.fld) := Lib.hid hq1.1
  have HB2 := Lib.hid (below_two HB1.out hb2)
  have HKA := Lib.hid (kids_any t _ w2 (H0.out.below HB2.out))
  clear hq1 b0 b1 b2 b3 b4 b5 b6 b7 b8 b9
  obtain ⟨b0, b1, b2, b3, b4, b5, b6, b7, b8, b9⟩ := HE1.out.below hb2
  have HK2 := Lib.hid (HK.out.below hb2)
  have HE2 := Lib.hid (HE1.out.below hb2)
  clear hb2
  go_wp2_with fail
  refine HKA.out.mono ?_
  rintro e w3 ⟨B2, rfl, hq2, hb3⟩
  have HQ2 : Hid (B2 = false → ¬ KidsOk t.fld.op t.kids.length) := Lib.hid fun e g => by rw [hq2.2 g] at e; cases e
  have HY2 : Hid (B2 = true → KidsOk t.fld.op t.kids.length) := Lib.hid hq2.1
  have HB3 := Lib.hid (below_two HB2.out hb3)
  clear hq2 b0 b1 b2 b3 b4 b5 b6 b7 b8 b9
  obtain ⟨d0, d1, -, -, -, d5, -⟩ := HE2.out.below hb3
  have HK3 := Lib.hid (HK2.out.below hb3)
  have HE3 := Lib.hid (HE2.out.below hb3)
  clear hb3
  cases B1
  · have N1 := Lib.hid (HQ1.out rfl)
    clear HQ1 HY1 HQ2 HY2
    go_wp2_with fail
    go_ret
    exact ⟨false, rfl, ⟨fun h => (by cases h), fun h => absurd (HP.out.1 h).1 N1.out⟩, HB3.out⟩
  have Y1 := Lib.hid (HY1.out rfl)
  clear HQ1 HY1
  cases B2
  · have N2 := Lib.hid (HQ2.out rfl)
    clear HQ2 HY2
    go_wp2_with fail
    go_ret
    exact ⟨false, rfl, ⟨fun h => (by cases h), fun h => absurd (HP.out.1 h).2.1 N2.out⟩, HB3.out⟩
  have Y2 := Lib.hid (HY2.out rfl)
  clear HQ2 HY2
  by_cases h6 : t.fld.op = 6 ∧ t.fld.cap < 1
  · have H6 := Lib.hid h6
    obtain ⟨q1, q2⟩ := h6
    rw [q1] at d0
    clear q1
    go_wp2_with fail
    go_ret
    exact ⟨false, rfl, ⟨fun h => (by cases h), fun h => absurd H6.out (HP.out.1 h).2.2.1⟩, HB3.out⟩
  have N6 := Lib.hid h6
  have hways : (t.fld.op == 6) = false ∨ (t.fld.op = 6 ∧ ¬ t.fld.cap < 1) := by
    by_cases q : t.fld.op = 6
    · exact .inr ⟨q, fun c => h6 ⟨q, c⟩⟩
    · exact .inl (beq_eq_false_iff_ne.2 q)
  have LOOP : Hid (∀ {K : Prop}, K → K) := Lib.hid fun h => h
  clear h6 LOOP
  obtain ⟨op, hop⟩ : ∃ op, t.fld.op = op := ⟨_, rfl⟩
  rw [hop] at d0 hways
  have HOP := Lib.hid hop
  clear hop
  rcases hways with e6 | ⟨rfl, hc1⟩
  all_goals
    go_wp2_with fail
    go_loopw [5] (fun i wr => ∃ k : Nat, k ≤ n ∧ i = .int .i64 k ∧ Below w3.heap.size w3 wr ∧ ∀ q ∈ t.kids.take k, ShapedP q) (fun i _ => n - (intOf i).toNat)
    case atStart => exact ⟨0, Nat.zero_le _, rfl, Below.refl _ _, by simp⟩
    case round =>
      obtain ⟨k, hk, rfl, hB, hQ⟩ := hrel
      have HB := Lib.hid hB; have HQ := Lib.hid hQ
      obtain ⟨-, f1, -⟩ := HE3.out.below hB
      have hKw := HK3.out.below hB
      clear hB hQ
      by_cases hkn : k < n
      · have hkl : k < t.kids.length := by rw [HN.out]; exact hkn
        obtain ⟨b, o, tk, kv, sv, rfl, htk, hm, ⟨c0, c1, c2', c3, c4, c5, c6, c7, c8, c9⟩, hTk⟩ := hKw.kid k hkl
        have HI := Lib.hid (IH.out tk hm _ _ hTk)
        have hts : t.kids.take (k + 1) = t.kids.take k ++ [tk] := by rw [List.take_succ_eq_append_getElem hkl, htk]
        have HTS := Lib.hid hts; have HM := Lib.hid hm
        clear hKw htk hm hTk hts
        go_wp2_with fail
        refine HI.out.mono ?_
        rintro e w4 ⟨B, rfl, hq, hb4⟩
        have HB4 := Lib.hid (below_two HB.out hb4)
        have HNB : Hid (B = false → ¬ ShapedP tk) := Lib.hid fun e g => by rw [hq.2 g] at e; cases e
        have HYB : Hid (B = true → ShapedP tk) := Lib.hid hq.1
        clear hb4 hq c0 c1 c2' c3 c4 c5 c6 c7 c8 c9
        cases B
        · have NB := Lib.hid (HNB.out rfl)
          clear HNB HYB
          go_wp2_with fail
          go_ret
          exact ⟨false, rfl, ⟨fun h => (by cases h), fun h => absurd ((HP.out.1 h).2.2.2 tk HM.out) NB.out⟩, below_two HB3.out HB4.out⟩
        · have YB := Lib.hid (HYB.out rfl)
          clear HNB HYB
          go_wp2_with fail
          go_roundw
          case rel =>
            refine ⟨k + 1, by omega, by go_num, HB4.out, fun q hq => ?_⟩
            rw [HTS.out] at hq
            rcases List.mem_append.1 hq with hq | hq
            · exact HQ.out q hq
            · rw [List.mem_singleton.1 hq]
              exact YB.out
          case measure => simp [intOf]; omega
      · have hk2 : t.kids.take k = t.kids := List.take_of_length_le (by rw [HN.out]; omega)
        have hq := HQ.out
        rw [hk2] at hq
        have HQ2 := Lib.hid hq
        clear hk2 hq hKw
        go_wp2_with fail
        go_ret
        exact ⟨true, rfl, ⟨fun _ => HP.out.2 ⟨Y1.out, Y2.out, N6.out, HQ2.out⟩, fun _ => rfl⟩, below_two HB3.out HB.out⟩
end Go.Proofs.Ytaaadimkbhkpiaa
