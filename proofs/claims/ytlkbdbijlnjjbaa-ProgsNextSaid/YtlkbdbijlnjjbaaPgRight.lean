/- The program's right, arePlaces and Check, at any program. -/
import Derived.Test.YtlkbdbijlnjjbaaPgHas
import Derived.Shelf.Abstract
set_option linter.unusedVariables false
namespace Go.Proofs.Ytlkbdbijlnjjbaa
open Go Go.RowKit Go.Shelf

set_option maxHeartbeats 1600000 in
set_option maxRecDepth 100000 in
theorem pright1_any (p : Pg) (q : Nat) (A : Option Addr) (n c : Nat) (x : Ins) (u : Value) (w : World) (h : PgV w p (.agg #[.slice A n c, .int .i64 p.start, .int .i64 p.caps])) (g : InsV w x u)
    (e0 : w.cell? ⟨q, 0, none⟩ = some (.slice A n c)) (e1 : w.cell? ⟨q, 1, none⟩ = some (.int .i64 p.start)) (e2 : w.cell? ⟨q, 2, none⟩ = some (.int .i64 p.caps)) :
    Calls Try.prog 39 #[u, .pointer (some ⟨q, 0, none⟩)] w (SaysG (¬ SoundI p.ins.length p.caps x) w) := by
  have HG := Lib.hid g
  obtain ⟨a, c2, rfl, hR, hbd⟩ := g
  simp only [insC] at HG ⊢
  obtain ⟨w1, hw1⟩ : ∃ w1, w.alloc (.cells #[.int .i64 x.op, .int .i64 x.out, .int .i64 x.arg, .slice a x.set.length c2, .int .i64 x.at'] 46) = w1 := ⟨_, rfl⟩
  obtain ⟨hb1, ⟨f0, f1, f2, f3, f4⟩, hz1⟩ := box5_new w _ _ _ _ _ _ hw1
  replace e0 := cell_on hb1 e0; replace e1 := cell_on hb1 e1; replace e2 := cell_on hb1 e2
  have HI := Lib.hid (psound_any p x _ _ w1 (h.below hb1) (HG.out.below hb1))
  obtain ⟨P, hP⟩ : ∃ P, SoundI p.ins.length p.caps x = P := ⟨_, rfl⟩
  obtain ⟨s, hs0⟩ : ∃ s, x.set.length = s := ⟨_, rfl⟩
  rw [hP] at HI ⊢
  rw [hs0] at HI hw1 f3 ⊢
  have HB1 := Lib.hid hb1; have HW1 := Lib.hid hw1
  clear h hR hbd hw1 hb1 hz1 hP hs0 HG
  go_enter Try.func39, Try.ntmps39
  go_upto_region 1 with (fail)
  rw [HW1.out]
  go_wp2_with fail
  refine HI.out.mono ?_
  rintro e w3 ⟨B, rfl, hq, hb3⟩
  have HB3 := Lib.hid (below_steps HB1.out hb3); have HQ := Lib.hid hq
  clear hb3 hq HI
  go_wp2_with fail
  go_ret
  exact ⟨!B, rfl, by rw [← HQ.out]; cases B <;> simp, HB3.out⟩
set_option maxHeartbeats 1600000 in
set_option maxRecDepth 100000 in
theorem pplaces1_any (p : Pg) (q : Nat) (A : Option Addr) (n c : Nat) (x : Int) (w : World) (h : PgV w p (.agg #[.slice A n c, .int .i64 p.start, .int .i64 p.caps]))
    (e0 : w.cell? ⟨q, 0, none⟩ = some (.slice A n c)) (e1 : w.cell? ⟨q, 1, none⟩ = some (.int .i64 p.start)) (e2 : w.cell? ⟨q, 2, none⟩ = some (.int .i64 p.caps)) :
    Calls Try.prog 43 #[.int .i64 x, .pointer (some ⟨q, 0, none⟩)] w (SaysG (¬ PlaceI p.ins.length x) w) := by
  have HI := Lib.hid (pplace_any p _ x w h)
  obtain ⟨P, hP⟩ : ∃ P, PlaceI p.ins.length x = P := ⟨_, rfl⟩
  rw [hP] at HI ⊢
  clear h hP
  go_enter Try.func43, Try.ntmps43
  go_wp2_with fail
  refine HI.out.mono ?_
  rintro e w3 ⟨B, rfl, hq, hb3⟩
  have HB3 := Lib.hid hb3; have HQ := Lib.hid hq
  clear hb3 hq HI
  go_wp2_with fail
  go_ret
  exact ⟨!B, rfl, by rw [← HQ.out]; cases B <;> simp, HB3.out⟩
set_option maxHeartbeats 1600000 in
set_option maxRecDepth 100000 in
theorem pplaces_any (p : Pg) (v u : Value) (L : List Int) (w : World) (h : PgV w p v) (g : Zs w u L) : Calls Try.prog 29 #[v, u] w (SaysG (∀ x ∈ L, PlaceI p.ins.length x) w) := by
  have H0 := Lib.hid h
  obtain ⟨A, n, c, hn, rfl, hI, hs, hc, hnb⟩ := h.opened
  obtain ⟨w1, hw1⟩ : ∃ w1, w.alloc (.cells #[.slice A n c, .int .i64 p.start, .int .i64 p.caps] 24) = w1 := ⟨_, rfl⟩
  obtain ⟨hb1, e0, e1, e2, hz1⟩ := box3_new w _ _ _ _ hw1
  have HI := Lib.hid (containsZ_any L (fun x => ¬ PlaceI p.ins.length x) 43 w.heap.size w1 (enters_of Try.func43 (by kernel_rfl) rfl) (fun x hx W hW _ => pplaces1_any p w.heap.size A n c x W (H0.out.below (below_steps hb1 hW)) (cell_on hW e0) (cell_on hW e1) (cell_on hW e2)) u w1 (Below.refl _ _) (g.below hb1))
  obtain ⟨b, cb, rfl, -⟩ := g
  obtain ⟨P, hP⟩ : ∃ P, (∀ x ∈ L, PlaceI p.ins.length x) = P := ⟨_, rfl⟩
  have HP : Hid ((∃ x ∈ L, ¬ PlaceI p.ins.length x) ↔ ¬ P) := Lib.hid (by rw [← hP]; simp)
  obtain ⟨R, hR⟩ : ∃ R, (∃ x ∈ L, ¬ PlaceI p.ins.length x) = R := ⟨_, rfl⟩
  obtain ⟨m, hm⟩ : ∃ m, L.length = m := ⟨_, rfl⟩
  rw [hR] at HI HP
  rw [hm] at HI ⊢
  rw [hP]
  have HB1 := Lib.hid hb1; have HW1 := Lib.hid hw1
  clear h hI hs hc hw1 hb1 hz1 hP hR H0 hm e0 e1 e2
  go_enter Try.func29, Try.ntmps29
  go_upto_region 1 with (fail)
  rw [HW1.out]
  go_wp2_with fail
  refine HI.out.mono ?_
  rintro e w3 ⟨B, rfl, hq, hb3⟩
  have HB3 := Lib.hid (below_steps HB1.out hb3); have HQ := Lib.hid hq
  clear hb3 hq HI
  go_wp2_with fail
  go_ret
  refine ⟨!B, rfl, ?_, HB3.out⟩
  have h1 := HQ.out.trans HP.out
  cases B
  · simp only [Bool.not_false, true_iff]
    exact Classical.byContradiction fun hn => Bool.false_ne_true (h1.2 hn)
  · simp only [Bool.not_true, Bool.false_eq_true, false_iff]
    exact h1.1 rfl
set_option maxHeartbeats 1600000 in
set_option maxRecDepth 100000 in
theorem pright12_any (p : Pg) (v : Value) (w : World) (h : PgV w p v) : Calls Try.prog 27 #[v] w (SaysG (RightPg p) w) := by
  have H0 := Lib.hid h
  obtain ⟨A, n, c, hn, rfl, hI, hs, hc, hnb⟩ := h.opened
  obtain ⟨w1, hw1⟩ : ∃ w1, w.alloc (.cells #[.slice A n c, .int .i64 p.start, .int .i64 p.caps] 24) = w1 := ⟨_, rfl⟩
  obtain ⟨hb1, e0, e1, e2, hz1⟩ := box3_new w _ _ _ _ hw1
  have HCT := Lib.hid fun W (hW : Below w1.heap.size w1 W) => containsI_any p.ins (fun x => ¬ SoundI p.ins.length p.caps x) 39 w.heap.size w1 (enters_of Try.func39 (by kernel_rfl) rfl) (fun x hx v W hW hv => pright1_any p w.heap.size A n c x v W (H0.out.below (below_steps hb1 hW)) hv (cell_on hW e0) (cell_on hW e1) (cell_on hW e2)) (.slice A n c) W hW ((hI.below hb1).below hW)
  have HPL := Lib.hid (pplace_any p _ p.start w1 (H0.out.below hb1))
  obtain ⟨R, hR⟩ : ∃ R, (∃ x ∈ p.ins, ¬ SoundI p.ins.length p.caps x) = R := ⟨_, rfl⟩
  obtain ⟨S, hS⟩ : ∃ S, PlaceI p.ins.length p.start = S := ⟨_, rfl⟩
  obtain ⟨P, hP⟩ : ∃ P, RightPg p = P := ⟨_, rfl⟩
  have HP : Hid (P ↔ n ≤ 10000 ∧ S ∧ 2 ≤ p.caps ∧ p.caps ≤ 4002 ∧ p.caps % 2 = 0 ∧ ¬ R) := Lib.hid (by
    rw [← hP, ← hR, ← hS, ← hn]
    unfold RightPg
    constructor
    · rintro ⟨-, h1, h2, h3, h4, h5, h6⟩
      exact ⟨h1, h2, h3, h4, h5, fun ⟨x, hx, hno⟩ => hno (h6 x hx)⟩
    · rintro ⟨h1, h2, h3, h4, h5, h6⟩
      refine ⟨?_, h1, h2, h3, h4, h5, fun x hx => Classical.byContradiction fun hno => h6 ⟨x, hx, hno⟩⟩
      have := h2.1
      have := h2.2
      omega)
  simp only [hR] at HCT
  rw [hS] at HPL
  rw [hP]
  have HF : Hid (∀ W, Below w1.heap.size w1 W → W.cell? ⟨w.heap.size, 0, none⟩ = some (.slice A n c) ∧ W.cell? ⟨w.heap.size, 1, none⟩ = some (.int .i64 p.start) ∧ W.cell? ⟨w.heap.size, 2, none⟩ = some (.int .i64 p.caps)) := Lib.hid fun W hW => ⟨cell_on hW e0, cell_on hW e1, cell_on hW e2⟩
  have HB1 := Lib.hid hb1; have HW1 := Lib.hid hw1; have HC := Lib.hid hc
  clear h hI hs hc hw1 hb1 hz1 hP hR hS H0 hn
  go_enter Try.func27, Try.ntmps27
  go_upto_region 1 with (fail)
  rw [HW1.out]
  by_cases q0 : n ≤ 10000
  rotate_left
  · have d0 : decide ((10000 : Int) < (n : Int)) = true := decide_eq_true (by omega)
    have Q := Lib.hid q0
    clear q0
    go_wp2_with fail
    go_ret
    exact ⟨false, rfl, ⟨fun h => (by cases h), fun h => (by have := (HP.out.1 h).1; have := Q.out; omega)⟩, HB1.out⟩
  have d0 : decide ((10000 : Int) < (n : Int)) = false := decide_eq_false (by omega)
  have Q0 := Lib.hid q0
  clear q0
  go_wp2_with fail
  refine HPL.out.mono ?_
  rintro e w3 ⟨B, rfl, hq, hb3⟩
  have HB3 := Lib.hid (below_steps HB1.out hb3); have HQ := Lib.hid hq; have HB13 := Lib.hid hb3
  clear hb3 hq HPL e0 e1 e2
  obtain ⟨e0, e1, e2⟩ := HF.out _ HB13.out
  cases B
  · have Q := Lib.hid (mt HQ.out.2 Bool.false_ne_true)
    clear HQ
    go_wp2_with fail
    go_ret
    exact ⟨false, rfl, ⟨fun h => (by cases h), fun h => absurd (HP.out.1 h).2.1 Q.out⟩, HB3.out⟩
  have Q1 := Lib.hid (HQ.out.1 rfl)
  clear HQ
  by_cases q2 : 2 ≤ p.caps
  rotate_left
  · have d2 : decide (p.caps < 2) = true := decide_eq_true (by omega)
    have Q := Lib.hid q2
    clear q2
    go_wp2_with fail
    go_ret
    exact ⟨false, rfl, ⟨fun h => (by cases h), fun h => (by have := (HP.out.1 h).2.2.1; have := Q.out; omega)⟩, HB3.out⟩
  have d2 : decide (p.caps < 2) = false := decide_eq_false (by omega)
  by_cases q3 : p.caps ≤ 4002
  rotate_left
  · have d3 : decide (4002 < p.caps) = true := decide_eq_true (by omega)
    have Q := Lib.hid q3; have Q2 := Lib.hid q2
    clear q3 q2
    go_wp2_with fail
    go_ret
    exact ⟨false, rfl, ⟨fun h => (by cases h), fun h => (by have := (HP.out.1 h).2.2.2.1; have := Q.out; omega)⟩, HB3.out⟩
  have d3 : decide (4002 < p.caps) = false := decide_eq_false (by omega)
  by_cases q4 : p.caps % 2 = 0
  rotate_left
  · have d4 : (p.caps % 2 != 0) = true := by simpa using q4
    have d5 : (p.caps.tmod 2 != 0) = true := by rw [Int.tmod_eq_emod_of_nonneg (by omega)]; exact d4
    have Q := Lib.hid q4; have Q2 := Lib.hid q2; have Q3 := Lib.hid q3
    clear q4 q3 q2
    go_wp2_with fail
    go_ret
    exact ⟨false, rfl, ⟨fun h => (by cases h), fun h => absurd (HP.out.1 h).2.2.2.2.1 Q.out⟩, HB3.out⟩
  have d4 : (p.caps % 2 != 0) = false := by simpa using q4
  have d5 : (p.caps.tmod 2 != 0) = false := by rw [Int.tmod_eq_emod_of_nonneg (by omega)]; exact d4
  have Q2 := Lib.hid q2; have Q3 := Lib.hid q3; have Q4 := Lib.hid q4
  clear q4 q3 q2
  go_wp2_with fail
  refine (HCT.out _ HB13.out).mono ?_
  rintro e w4 ⟨B, rfl, hq, hb4⟩
  have HB4 := Lib.hid (below_steps HB3.out hb4); have HQ := Lib.hid hq
  clear hb4 hq HCT
  go_wp2_with fail
  go_ret
  refine ⟨!B, rfl, ?_, HB4.out⟩
  cases B
  · exact ⟨fun _ => HP.out.2 ⟨Q0.out, Q1.out, Q2.out, Q3.out, Q4.out, mt HQ.out.2 Bool.false_ne_true⟩, fun _ => rfl⟩
  · exact ⟨fun h => (by cases h), fun h => absurd (HQ.out.1 rfl) (HP.out.1 h).2.2.2.2.2⟩
set_option maxHeartbeats 1600000 in
set_option maxRecDepth 100000 in
theorem pcheck_any (p : Pg) (v : Value) (w : World) (h : PgV w p v) : Calls Try.prog 11 #[v] w fun e w' => ∃ r : Int, e = .returned (.int .i64 r) ∧ (r = 0 ∧ RightPg p ∨ r = 121 ∧ ¬ RightPg p) ∧ Below w.heap.size w w' := by
  have H0 := Lib.hid h
  obtain ⟨A, n, c, hn, rfl, hI, hs, hc, hnb⟩ := h.opened
  obtain ⟨w1, hw1⟩ : ∃ w1, w.alloc (.cells #[.slice A n c, .int .i64 p.start, .int .i64 p.caps] 24) = w1 := ⟨_, rfl⟩
  obtain ⟨hb1, e0, e1, e2, hz1⟩ := box3_new w _ _ _ _ hw1
  have HI := Lib.hid (pright12_any p _ w1 (H0.out.below hb1))
  obtain ⟨P, hP⟩ : ∃ P, RightPg p = P := ⟨_, rfl⟩
  rw [hP] at HI ⊢
  have HB1 := Lib.hid hb1; have HW1 := Lib.hid hw1
  clear h hI hs hc hw1 hb1 hz1 hP H0 hn
  go_enter Try.func11, Try.ntmps11
  go_upto_region 1 with (fail)
  rw [HW1.out]
  go_wp2_with fail
  refine HI.out.mono ?_
  rintro e w3 ⟨B, rfl, hq, hb3⟩
  have HB3 := Lib.hid (below_steps HB1.out hb3); have HQ := Lib.hid hq
  clear hb3 hq HI
  cases B
  · have Q := Lib.hid (mt HQ.out.2 Bool.false_ne_true)
    go_wp2_with fail
    go_ret
    exact ⟨121, rfl, .inr ⟨rfl, Q.out⟩, HB3.out⟩
  · have Q := Lib.hid (HQ.out.1 rfl)
    go_wp2_with fail
    go_ret
    exact ⟨0, rfl, .inl ⟨rfl, Q.out⟩, HB3.out⟩
end Go.Proofs.Ytlkbdbijlnjjbaa
