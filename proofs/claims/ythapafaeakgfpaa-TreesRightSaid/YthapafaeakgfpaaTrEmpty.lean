/- May a tree fit nothing: the document's empty. -/
import Derived.Test.YthapafaeakgfpaaTrRight
set_option linter.unusedVariables false
namespace Go.Proofs.Ythapafaeakgfpaa
open Go Go.RowKit

theorem ex_mem_map {α : Type} (l : List α) (f : α → Prop) : (∃ p ∈ l.map f, p) ↔ ∃ k ∈ l, f k := by
  constructor
  · rintro ⟨p, hp, h⟩
    obtain ⟨k, hk, rfl⟩ := List.mem_map.1 hp
    exact ⟨k, hk, h⟩
  · rintro ⟨k, hk, h⟩
    exact ⟨f k, List.mem_map.2 ⟨k, hk, rfl⟩, h⟩
theorem all_mem_map {α : Type} (l : List α) (f : α → Prop) : (∀ p ∈ l.map f, p) ↔ ∀ k ∈ l, f k :=
  ⟨fun h k hk => h (f k) (List.mem_map.2 ⟨k, hk, rfl⟩), fun h p hp => by obtain ⟨k, hk, rfl⟩ := List.mem_map.1 hp; exact h k hk⟩
/-- May a tree fit nothing? -/
def EmptyP : Tr → Prop := Tr.para fun t l => if t.fld.op = 2 ∨ t.fld.op = 5 ∨ t.fld.op = 7 ∨ t.fld.op = 9 then True else if t.fld.op = 1 ∨ t.fld.op = 3 ∨ t.fld.op = 4 then False else if t.fld.op = 10 ∧ t.fld.min = 0 then True else if t.fld.op = 12 then ∃ p ∈ l, p else ∀ p ∈ l, p
theorem emptyP_iff (t : Tr) : EmptyP t ↔ if t.fld.op = 2 ∨ t.fld.op = 5 ∨ t.fld.op = 7 ∨ t.fld.op = 9 then True else if t.fld.op = 1 ∨ t.fld.op = 3 ∨ t.fld.op = 4 then False else if t.fld.op = 10 ∧ t.fld.min = 0 then True else if t.fld.op = 12 then ∃ k ∈ t.kids, EmptyP k else ∀ k ∈ t.kids, EmptyP k := by
  unfold EmptyP
  rw [Tr.para_eq]
  simp only [ex_mem_map, all_mem_map]
/-- Does a tree never fit more? -/
def StillP : Tr → Prop := Tr.para fun t l => ¬ (t.fld.op = 3 ∨ t.fld.op = 4) ∧ ∀ p ∈ l, p
theorem stillP_iff (t : Tr) : StillP t ↔ ¬ (t.fld.op = 3 ∨ t.fld.op = 4) ∧ ∀ k ∈ t.kids, StillP k := by
  unfold StillP
  rw [Tr.para_eq]
  simp only [all_mem_map]
def EmptyOf (t : Tr) : Prop := ∀ (v : Value) (w : World), Tre w t v → Calls Try.prog 38 #[v] w (SaysB (EmptyP t) w)
def StillOf (t : Tr) : Prop := ∀ (v : Value) (w : World), Tre w t v → Calls Try.prog 39 #[v] w (SaysB (StillP t) w)
set_option maxHeartbeats 1600000 in
set_option maxRecDepth 100000 in
theorem empty_any (t : Tr) : EmptyOf t := by
  refine Tr.ind (P := EmptyOf) (fun t ih v w h => ?_) t
  have IH := Lib.hid ih
  obtain ⟨A, n, c, a2, s, c2, hn, hs, rfl, hnb, hsb, hK, hS, hF⟩ := h.opened
  obtain ⟨w1, hw1⟩ : ∃ w1, w.alloc (.cells #[.int .i64 t.fld.op, .slice A n c, .int .i32 t.fld.rune, .slice a2 s c2, .int .i64 t.fld.at', .int .i64 t.fld.cap, .string t.fld.name, .int .i64 t.fld.min, .int .i64 t.fld.max, .bool t.fld.lazy] 27) = w1 := ⟨_, rfl⟩
  have hb1 : Below w.heap.size w w1 := by rw [← hw1]; exact (Below.refl _ _).alloc (Nat.le_refl _) _
  have hE1 : Box10 w1 w.heap.size (.int .i64 t.fld.op) (.slice A n c) (.int .i32 t.fld.rune) (.slice a2 s c2) (.int .i64 t.fld.at') (.int .i64 t.fld.cap) (.string t.fld.name) (.int .i64 t.fld.min) (.int .i64 t.fld.max) (.bool t.fld.lazy) := by rw [← hw1]; exact box10_new w _ _ _ _ _ _ _ _ _ _ _
  have HB1 := Lib.hid hb1; have HE1 := Lib.hid hE1; have HW1 := Lib.hid hw1; have HK := Lib.hid (hK.below hb1); have HS := Lib.hid (hS.below hb1); have HN := Lib.hid hn; have HSL := Lib.hid hs; have HF := Lib.hid hF
  clear hb1 hE1 hw1 hK hS hn hs hF
  have hpq := emptyP_iff t
  obtain ⟨P, hP⟩ : ∃ P, EmptyP t = P := ⟨_, rfl⟩
  rw [hP] at hpq ⊢
  obtain ⟨op, hop⟩ : ∃ op, t.fld.op = op := ⟨_, rfl⟩
  rw [hop] at hpq
  have HOP := Lib.hid hop
  clear h ih hP
  have d0' := HE1.out.1
  obtain ⟨-, d1, -, -, -, -, -, d7, -⟩ := HE1.out
  rw [hop] at d0'
  clear hop
  obtain ⟨mn, hmn⟩ : ∃ mn, t.fld.min = mn := ⟨_, rfl⟩
  rw [hmn] at d7 hpq
  have HMN := Lib.hid hmn
  clear hmn
  go_enter Try.func38, Try.ntmps38
  go_upto_region 1 with (fail)
  rw [HW1.out]
  by_cases h1 : op = 2 ∨ op = 5 ∨ op = 7 ∨ op = 9
  · rw [if_pos h1] at hpq
    have HP := Lib.hid hpq
    clear hpq
    rcases h1 with rfl | rfl | rfl | rfl
    all_goals
      go_wp2_with fail
      go_ret
      exact ⟨true, rfl, ⟨fun _ => HP.out.2 trivial, fun _ => rfl⟩, HB1.out⟩
  rw [if_neg h1] at hpq
  by_cases h2 : op = 1 ∨ op = 3 ∨ op = 4
  · rw [if_pos h2] at hpq
    have HP := Lib.hid hpq
    clear hpq h1
    rcases h2 with rfl | rfl | rfl
    all_goals
      go_wp2_with fail
      go_ret
      exact ⟨false, rfl, ⟨fun h => (by cases h), fun h => (HP.out.1 h).elim⟩, HB1.out⟩
  rw [if_neg h2] at hpq
  by_cases h3 : op = 10 ∧ mn = 0
  · rw [if_pos h3] at hpq
    have HP := Lib.hid hpq
    clear hpq h1 h2
    obtain ⟨rfl, rfl⟩ := h3
    go_wp2_with fail
    go_ret
    exact ⟨true, rfl, ⟨fun _ => HP.out.2 trivial, fun _ => rfl⟩, HB1.out⟩
  rw [if_neg h3] at hpq
  by_cases h12 : op = 12
  · rw [if_pos h12] at hpq
    have HP := Lib.hid hpq
    subst h12
    clear hpq h1 h2 h3
    go_wp2_with fail
    go_loopw [3] (fun i wr => ∃ k : Nat, k ≤ n ∧ i = .int .i64 k ∧ Below w1.heap.size w1 wr ∧ ∀ q ∈ t.kids.take k, ¬ EmptyP q) (fun i _ => n - (intOf i).toNat)
    case atStart => exact ⟨0, Nat.zero_le _, rfl, Below.refl _ _, by simp⟩
    case round =>
      obtain ⟨k, hk, rfl, hB, hQ⟩ := hrel
      have HB := Lib.hid hB; have HQ := Lib.hid hQ
      obtain ⟨f0, f1, -⟩ := HE1.out.below hB
      rw [HOP.out] at f0
      have hKw := HK.out.below hB
      clear hB hQ
      by_cases hkn : k < n
      · have hkl : k < t.kids.length := by rw [HN.out]; exact hkn
        obtain ⟨b, o, tk, kv, sv, rfl, htk, hm, ⟨c0, c1, c2', c3, c4, c5, c6, c7, c8, c9⟩, hTk⟩ := hKw.kid k hkl
        have HI := Lib.hid (IH.out tk hm _ _ hTk)
        have hts : t.kids.take (k + 1) = t.kids.take k ++ [tk] := by rw [List.take_succ_eq_append_getElem hkl, htk]
        have HTS := Lib.hid hts; have HM := Lib.hid hm
        clear hKw htk hm hTk hts
        go_wp2_with fail
        refine HI.out.mono ?_
        rintro e w4 ⟨B, rfl, hq, hb4⟩
        have HB4 := Lib.hid (below_two HB.out hb4)
        have g0 := (hb4.cell (World.block_lt_of_cell? _ _ f0)).trans f0
        have HNB : Hid (B = false → ¬ EmptyP tk) := Lib.hid fun e g => by rw [hq.2 g] at e; cases e
        have HYB : Hid (B = true → EmptyP tk) := Lib.hid hq.1
        clear hb4 hq f0 c0 c1 c2' c3 c4 c5 c6 c7 c8 c9
        cases B
        · have NB := Lib.hid (HNB.out rfl)
          clear HNB HYB
          go_wp2_with fail
          go_roundw
          case rel =>
            refine ⟨k + 1, by omega, by go_num, HB4.out, fun q hq => ?_⟩
            rw [HTS.out] at hq
            rcases List.mem_append.1 hq with hq | hq
            · exact HQ.out q hq
            · rw [List.mem_singleton.1 hq]
              exact NB.out
          case measure => simp [intOf]; omega
        · have YB := Lib.hid (HYB.out rfl)
          clear HNB HYB
          go_wp2_with fail
          go_ret
          exact ⟨true, rfl, ⟨fun _ => HP.out.2 ⟨tk, HM.out, YB.out⟩, fun _ => rfl⟩, below_two HB1.out HB4.out⟩
      · have hk2 : t.kids.take k = t.kids := List.take_of_length_le (by rw [HN.out]; omega)
        have hq := HQ.out
        rw [hk2] at hq
        have HQ2 := Lib.hid hq
        clear hk2 hq hKw
        go_wp2_with fail
        go_ret
        exact ⟨false, rfl, ⟨fun h => (by cases h), fun h => (by obtain ⟨q, hq, hp⟩ := HP.out.1 h; exact absurd hp (HQ2.out q hq))⟩, below_two HB1.out HB.out⟩
  rw [if_neg h12] at hpq
  have HP := Lib.hid hpq
  have n12 : (op == 12) = false := beq_eq_false_iff_ne.2 h12
  have m12 : (op != 12) = true := bne_iff_ne.2 h12
  by_cases h10 : op = 10
  · have n0 : (mn == 0) = false := beq_eq_false_iff_ne.2 (fun h => h3 ⟨h10, h⟩)
    subst h10
    clear hpq h1 h2 h3 h12 n12 m12
    go_wp2_with fail
    go_loopw [3] (fun i wr => ∃ k : Nat, k ≤ n ∧ i = .int .i64 k ∧ Below w1.heap.size w1 wr ∧ ∀ q ∈ t.kids.take k, EmptyP q) (fun i _ => n - (intOf i).toNat)
    case atStart => exact ⟨0, Nat.zero_le _, rfl, Below.refl _ _, by simp⟩
    case round =>
      obtain ⟨k, hk, rfl, hB, hQ⟩ := hrel
      have HB := Lib.hid hB; have HQ := Lib.hid hQ
      obtain ⟨f0, f1, -⟩ := HE1.out.below hB
      rw [HOP.out] at f0
      have hKw := HK.out.below hB
      clear hB hQ
      by_cases hkn : k < n
      · have hkl : k < t.kids.length := by rw [HN.out]; exact hkn
        obtain ⟨b, o, tk, kv, sv, rfl, htk, hm, ⟨c0, c1, c2', c3, c4, c5, c6, c7, c8, c9⟩, hTk⟩ := hKw.kid k hkl
        have HI := Lib.hid (IH.out tk hm _ _ hTk)
        have hts : t.kids.take (k + 1) = t.kids.take k ++ [tk] := by rw [List.take_succ_eq_append_getElem hkl, htk]
        have HTS := Lib.hid hts; have HM := Lib.hid hm
        clear hKw htk hm hTk hts
        go_wp2_with fail
        refine HI.out.mono ?_
        rintro e w4 ⟨B, rfl, hq, hb4⟩
        have HB4 := Lib.hid (below_two HB.out hb4)
        have g0 := (hb4.cell (World.block_lt_of_cell? _ _ f0)).trans f0
        have HNB : Hid (B = false → ¬ EmptyP tk) := Lib.hid fun e g => by rw [hq.2 g] at e; cases e
        have HYB : Hid (B = true → EmptyP tk) := Lib.hid hq.1
        clear hb4 hq f0 c0 c1 c2' c3 c4 c5 c6 c7 c8 c9
        cases B
        · have NB := Lib.hid (HNB.out rfl)
          clear HNB HYB
          go_wp2_with fail
          go_ret
          exact ⟨false, rfl, ⟨fun h => (by cases h), fun h => absurd (HP.out.1 h tk HM.out) NB.out⟩, below_two HB1.out HB4.out⟩
        · have YB := Lib.hid (HYB.out rfl)
          clear HNB HYB
          go_wp2_with fail
          go_roundw
          case rel =>
            refine ⟨k + 1, by omega, by go_num, HB4.out, fun q hq => ?_⟩
            rw [HTS.out] at hq
            rcases List.mem_append.1 hq with hq | hq
            · exact HQ.out q hq
            · rw [List.mem_singleton.1 hq]
              exact YB.out
          case measure => simp [intOf]; omega
      · have hk2 : t.kids.take k = t.kids := List.take_of_length_le (by rw [HN.out]; omega)
        have hq := HQ.out
        rw [hk2] at hq
        have HQ2 := Lib.hid hq
        clear hk2 hq hKw
        go_wp2_with fail
        go_ret
        exact ⟨true, rfl, ⟨fun _ => HP.out.2 HQ2.out, fun _ => rfl⟩, below_two HB1.out HB.out⟩
  have n2 : (op == 2) = false := beq_eq_false_iff_ne.2 (fun h => h1 (.inl h))
  have n5 : (op == 5) = false := beq_eq_false_iff_ne.2 (fun h => h1 (.inr (.inl h)))
  have n7 : (op == 7) = false := beq_eq_false_iff_ne.2 (fun h => h1 (.inr (.inr (.inl h))))
  have n9 : (op == 9) = false := beq_eq_false_iff_ne.2 (fun h => h1 (.inr (.inr (.inr h))))
  have n1 : (op == 1) = false := beq_eq_false_iff_ne.2 (fun h => h2 (.inl h))
  have n3 : (op == 3) = false := beq_eq_false_iff_ne.2 (fun h => h2 (.inr (.inl h)))
  have n4 : (op == 4) = false := beq_eq_false_iff_ne.2 (fun h => h2 (.inr (.inr h)))
  have n10 : (op == 10) = false := beq_eq_false_iff_ne.2 h10
  clear hpq h1 h2 h3 h12 h10
  go_wp2_with fail
  go_loopw [3] (fun i wr => ∃ k : Nat, k ≤ n ∧ i = .int .i64 k ∧ Below w1.heap.size w1 wr ∧ ∀ q ∈ t.kids.take k, EmptyP q) (fun i _ => n - (intOf i).toNat)
  case atStart => exact ⟨0, Nat.zero_le _, rfl, Below.refl _ _, by simp⟩
  case round =>
    obtain ⟨k, hk, rfl, hB, hQ⟩ := hrel
    have HB := Lib.hid hB; have HQ := Lib.hid hQ
    obtain ⟨f0, f1, -⟩ := HE1.out.below hB
    rw [HOP.out] at f0
    have hKw := HK.out.below hB
    clear hB hQ
    by_cases hkn : k < n
    · have hkl : k < t.kids.length := by rw [HN.out]; exact hkn
      obtain ⟨b, o, tk, kv, sv, rfl, htk, hm, ⟨c0, c1, c2', c3, c4, c5, c6, c7, c8, c9⟩, hTk⟩ := hKw.kid k hkl
      have HI := Lib.hid (IH.out tk hm _ _ hTk)
      have hts : t.kids.take (k + 1) = t.kids.take k ++ [tk] := by rw [List.take_succ_eq_append_getElem hkl, htk]
      have HTS := Lib.hid hts; have HM := Lib.hid hm
      clear hKw htk hm hTk hts
      go_wp2_with fail
      refine HI.out.mono ?_
      rintro e w4 ⟨B, rfl, hq, hb4⟩
      have HB4 := Lib.hid (below_two HB.out hb4)
      have g0 := (hb4.cell (World.block_lt_of_cell? _ _ f0)).trans f0
      have HNB : Hid (B = false → ¬ EmptyP tk) := Lib.hid fun e g => by rw [hq.2 g] at e; cases e
      have HYB : Hid (B = true → EmptyP tk) := Lib.hid hq.1
      clear hb4 hq f0 c0 c1 c2' c3 c4 c5 c6 c7 c8 c9
      cases B
      · have NB := Lib.hid (HNB.out rfl)
        clear HNB HYB
        go_wp2_with fail
        go_ret
        exact ⟨false, rfl, ⟨fun h => (by cases h), fun h => absurd (HP.out.1 h tk HM.out) NB.out⟩, below_two HB1.out HB4.out⟩
      · have YB := Lib.hid (HYB.out rfl)
        clear HNB HYB
        go_wp2_with fail
        go_roundw
        case rel =>
          refine ⟨k + 1, by omega, by go_num, HB4.out, fun q hq => ?_⟩
          rw [HTS.out] at hq
          rcases List.mem_append.1 hq with hq | hq
          · exact HQ.out q hq
          · rw [List.mem_singleton.1 hq]
            exact YB.out
        case measure => simp [intOf]; omega
    · have hk2 : t.kids.take k = t.kids := List.take_of_length_le (by rw [HN.out]; omega)
      have hq := HQ.out
      rw [hk2] at hq
      have HQ2 := Lib.hid hq
      clear hk2 hq hKw
      go_wp2_with fail
      go_ret
      exact ⟨true, rfl, ⟨fun _ => HP.out.2 HQ2.out, fun _ => rfl⟩, below_two HB1.out HB.out⟩
end Go.Proofs.Ythapafaeakgfpaa
