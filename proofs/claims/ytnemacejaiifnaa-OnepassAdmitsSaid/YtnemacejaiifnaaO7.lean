/- Texts merged by program: PgRight, PgInst, PgCheck, PgCome. No condition. -/
import Derived.Test.YtnemacejaiifnaaO6
import Derived.Test.YtnemacejaiifnaaO3
import Derived.Shelf.Abstract
import Derived.Deep.RegionHeld3
import Derived.Deep.RegionWith
set_option linter.unusedVariables false
/- The program's right, arePlaces and Check, at any program. -/
set_option linter.unusedSimpArgs false
namespace Go.Proofs.Ytnemacejaiifnaa
open Go Go.RowKit Go.Shelf

set_option maxHeartbeats 1600000 in
set_option maxRecDepth 100000 in
theorem pright1_any (p : Pg) (q : Nat) (A : Option Addr) (n c : Nat) (x : Ins) (u : Value) (w : World) (h : PgV w p (.agg #[.slice A n c, .int .i64 p.start, .int .i64 p.caps])) (g : InsV w x u)
    (e0 : w.cell? ⟨q, 0, none⟩ = some (.slice A n c)) (e1 : w.cell? ⟨q, 1, none⟩ = some (.int .i64 p.start)) (e2 : w.cell? ⟨q, 2, none⟩ = some (.int .i64 p.caps)) :
    Calls Try.prog 132 #[u, .pointer (some ⟨q, 0, none⟩)] w (SaysG (¬ SoundI p.ins.length p.caps x) w) := by
  have HG := Lib.hid g
  obtain ⟨a, c2, rfl, hR, hbd⟩ := g
  simp only [insC] at HG ⊢
  obtain ⟨w1, hw1⟩ : ∃ w1, w.alloc (.cells #[.int .i64 x.op, .int .i64 x.out, .int .i64 x.arg, .slice a x.set.length c2, .int .i64 x.at'] 95) = w1 := ⟨_, rfl⟩
  obtain ⟨hb1, ⟨f0, f1, f2, f3, f4⟩, hz1⟩ := box5_new w _ _ _ _ _ _ hw1
  replace e0 := cell_on hb1 e0; replace e1 := cell_on hb1 e1; replace e2 := cell_on hb1 e2
  have HI := Lib.hid (psound12_any p x _ _ w1 (h.below hb1) (HG.out.below hb1))
  obtain ⟨P, hP⟩ : ∃ P, SoundI p.ins.length p.caps x = P := ⟨_, rfl⟩
  obtain ⟨s, hs0⟩ : ∃ s, x.set.length = s := ⟨_, rfl⟩
  rw [hP] at HI ⊢
  rw [hs0] at HI hw1 f3 ⊢
  have HB1 := Lib.hid hb1; have HW1 := Lib.hid hw1
  clear h hR hbd hw1 hb1 hz1 hP hs0 HG
  go_enter Try.func132, Try.ntmps132
  go_upto_region 1 with (fail)
  rw [HW1.out]
  go_wp2_with fail
  refine HI.out.mono ?_
  rintro e w3 ⟨B, rfl, hq, hb3⟩
  have HB3 := Lib.hid (below_steps HB1.out hb3); have HQ := Lib.hid hq
  clear hb3 hq HI
  go_wp2_with fail
  go_ret
  exact ⟨!B, rfl, by rw [← HQ.out]; cases B <;> simp, HB3.out⟩
set_option maxHeartbeats 1600000 in
set_option maxRecDepth 100000 in
theorem pright12_any (p : Pg) (v : Value) (w : World) (h : PgV w p v) : Calls Try.prog 98 #[v] w (SaysG (RightPg p) w) := by
  have H0 := Lib.hid h
  obtain ⟨A, n, c, hn, rfl, hI, hs, hc, hnb⟩ := h.opened
  obtain ⟨w1, hw1⟩ : ∃ w1, w.alloc (.cells #[.slice A n c, .int .i64 p.start, .int .i64 p.caps] 58) = w1 := ⟨_, rfl⟩
  obtain ⟨hb1, e0, e1, e2, hz1⟩ := box3_new w _ _ _ _ hw1
  have HCT := Lib.hid fun W (hW : Below w1.heap.size w1 W) => containsI_any p.ins (fun x => ¬ SoundI p.ins.length p.caps x) 132 w.heap.size w1 (enters_of Try.func132 (by kernel_rfl) rfl) (fun x hx v W hW hv => pright1_any p w.heap.size A n c x v W (H0.out.below (below_steps hb1 hW)) hv (cell_on hW e0) (cell_on hW e1) (cell_on hW e2)) (.slice A n c) W hW ((hI.below hb1).below hW)
  have HPL := Lib.hid (pplace_any p _ p.start w1 (H0.out.below hb1))
  obtain ⟨R, hR⟩ : ∃ R, (∃ x ∈ p.ins, ¬ SoundI p.ins.length p.caps x) = R := ⟨_, rfl⟩
  obtain ⟨S, hS⟩ : ∃ S, PlaceI p.ins.length p.start = S := ⟨_, rfl⟩
  obtain ⟨P, hP⟩ : ∃ P, RightPg p = P := ⟨_, rfl⟩
  have HP : Hid (P ↔ n ≤ 10000 ∧ S ∧ 2 ≤ p.caps ∧ p.caps ≤ 4002 ∧ p.caps % 2 = 0 ∧ ¬ R) := Lib.hid (by
    rw [← hP, ← hR, ← hS, ← hn]
    unfold RightPg
    constructor
    · rintro ⟨-, h1, h2, h3, h4, h5, h6⟩
      exact ⟨h1, h2, h3, h4, h5, fun ⟨x, hx, hno⟩ => hno (h6 x hx)⟩
    · rintro ⟨h1, h2, h3, h4, h5, h6⟩
      refine ⟨?_, h1, h2, h3, h4, h5, fun x hx => Classical.byContradiction fun hno => h6 ⟨x, hx, hno⟩⟩
      have := h2.1
      have := h2.2
      omega)
  simp only [hR] at HCT
  rw [hS] at HPL
  rw [hP]
  have HF : Hid (∀ W, Below w1.heap.size w1 W → W.cell? ⟨w.heap.size, 0, none⟩ = some (.slice A n c) ∧ W.cell? ⟨w.heap.size, 1, none⟩ = some (.int .i64 p.start) ∧ W.cell? ⟨w.heap.size, 2, none⟩ = some (.int .i64 p.caps)) := Lib.hid fun W hW => ⟨cell_on hW e0, cell_on hW e1, cell_on hW e2⟩
  have HB1 := Lib.hid hb1; have HW1 := Lib.hid hw1; have HC := Lib.hid hc
  clear h hI hs hc hw1 hb1 hz1 hP hR hS H0 hn
  go_enter Try.func98, Try.ntmps98
  go_upto_region 1 with (fail)
  rw [HW1.out]
  by_cases q0 : n ≤ 10000
  rotate_left
  · have d0 : decide ((10000 : Int) < (n : Int)) = true := decide_eq_true (by omega)
    have Q := Lib.hid q0
    clear q0
    go_wp2_with fail
    go_ret
    exact ⟨false, rfl, ⟨fun h => (by cases h), fun h => (by have := (HP.out.1 h).1; have := Q.out; omega)⟩, HB1.out⟩
  have d0 : decide ((10000 : Int) < (n : Int)) = false := decide_eq_false (by omega)
  have Q0 := Lib.hid q0
  clear q0
  go_wp2_with fail
  refine HPL.out.mono ?_
  rintro e w3 ⟨B, rfl, hq, hb3⟩
  have HB3 := Lib.hid (below_steps HB1.out hb3); have HQ := Lib.hid hq; have HB13 := Lib.hid hb3
  clear hb3 hq HPL e0 e1 e2
  obtain ⟨e0, e1, e2⟩ := HF.out _ HB13.out
  cases B
  · have Q := Lib.hid (mt HQ.out.2 Bool.false_ne_true)
    clear HQ
    go_wp2_with fail
    go_ret
    exact ⟨false, rfl, ⟨fun h => (by cases h), fun h => absurd (HP.out.1 h).2.1 Q.out⟩, HB3.out⟩
  have Q1 := Lib.hid (HQ.out.1 rfl)
  clear HQ
  by_cases q2 : 2 ≤ p.caps
  rotate_left
  · have d2 : decide (p.caps < 2) = true := decide_eq_true (by omega)
    have Q := Lib.hid q2
    clear q2
    go_wp2_with fail
    go_ret
    exact ⟨false, rfl, ⟨fun h => (by cases h), fun h => (by have := (HP.out.1 h).2.2.1; have := Q.out; omega)⟩, HB3.out⟩
  have d2 : decide (p.caps < 2) = false := decide_eq_false (by omega)
  by_cases q3 : p.caps ≤ 4002
  rotate_left
  · have d3 : decide (4002 < p.caps) = true := decide_eq_true (by omega)
    have Q := Lib.hid q3; have Q2 := Lib.hid q2
    clear q3 q2
    go_wp2_with fail
    go_ret
    exact ⟨false, rfl, ⟨fun h => (by cases h), fun h => (by have := (HP.out.1 h).2.2.2.1; have := Q.out; omega)⟩, HB3.out⟩
  have d3 : decide (4002 < p.caps) = false := decide_eq_false (by omega)
  by_cases q4 : p.caps % 2 = 0
  rotate_left
  · have d4 : (p.caps % 2 != 0) = true := by simpa using q4
    have d5 : (p.caps.tmod 2 != 0) = true := by rw [Int.tmod_eq_emod_of_nonneg (by omega)]; exact d4
    have Q := Lib.hid q4; have Q2 := Lib.hid q2; have Q3 := Lib.hid q3
    clear q4 q3 q2
    go_wp2_with fail
    go_ret
    exact ⟨false, rfl, ⟨fun h => (by cases h), fun h => absurd (HP.out.1 h).2.2.2.2.1 Q.out⟩, HB3.out⟩
  have d4 : (p.caps % 2 != 0) = false := by simpa using q4
  have d5 : (p.caps.tmod 2 != 0) = false := by rw [Int.tmod_eq_emod_of_nonneg (by omega)]; exact d4
  have Q2 := Lib.hid q2; have Q3 := Lib.hid q3; have Q4 := Lib.hid q4
  clear q4 q3 q2
  go_wp2_with fail
  refine (HCT.out _ HB13.out).mono ?_
  rintro e w4 ⟨B, rfl, hq, hb4⟩
  have HB4 := Lib.hid (below_steps HB3.out hb4); have HQ := Lib.hid hq
  clear hb4 hq HCT
  go_wp2_with fail
  go_ret
  refine ⟨!B, rfl, ?_, HB4.out⟩
  cases B
  · exact ⟨fun _ => HP.out.2 ⟨Q0.out, Q1.out, Q2.out, Q3.out, Q4.out, mt HQ.out.2 Bool.false_ne_true⟩, fun _ => rfl⟩
  · exact ⟨fun h => (by cases h), fun h => absurd (HQ.out.1 rfl) (HP.out.1 h).2.2.2.2.2⟩
set_option maxHeartbeats 1600000 in
set_option maxRecDepth 100000 in
theorem pcheck_any (p : Pg) (v : Value) (w : World) (h : PgV w p v) : Calls Try.prog 51 #[v] w fun e w' => ∃ r : Int, e = .returned (.int .i64 r) ∧ (r = 0 ∧ RightPg p ∨ r = 121 ∧ ¬ RightPg p) ∧ Below w.heap.size w w' := by
  have H0 := Lib.hid h
  obtain ⟨A, n, c, hn, rfl, hI, hs, hc, hnb⟩ := h.opened
  obtain ⟨w1, hw1⟩ : ∃ w1, w.alloc (.cells #[.slice A n c, .int .i64 p.start, .int .i64 p.caps] 58) = w1 := ⟨_, rfl⟩
  obtain ⟨hb1, e0, e1, e2, hz1⟩ := box3_new w _ _ _ _ hw1
  have HI := Lib.hid (pright12_any p _ w1 (H0.out.below hb1))
  obtain ⟨P, hP⟩ : ∃ P, RightPg p = P := ⟨_, rfl⟩
  rw [hP] at HI ⊢
  have HB1 := Lib.hid hb1; have HW1 := Lib.hid hw1
  clear h hI hs hc hw1 hb1 hz1 hP H0 hn
  go_enter Try.func51, Try.ntmps51
  go_upto_region 1 with (fail)
  rw [HW1.out]
  go_wp2_with fail
  refine HI.out.mono ?_
  rintro e w3 ⟨B, rfl, hq, hb3⟩
  have HB3 := Lib.hid (below_steps HB1.out hb3); have HQ := Lib.hid hq
  clear hb3 hq HI
  cases B
  · have Q := Lib.hid (mt HQ.out.2 Bool.false_ne_true)
    go_wp2_with fail
    go_ret
    exact ⟨121, rfl, .inr ⟨rfl, Q.out⟩, HB3.out⟩
  · have Q := Lib.hid (HQ.out.1 rfl)
    go_wp2_with fail
    go_ret
    exact ⟨0, rfl, .inl ⟨rfl, Q.out⟩, HB3.out⟩
end Go.Proofs.Ytnemacejaiifnaa
/- The document's inst and Check, at any program. -/
namespace Go.Proofs.Ytnemacejaiifnaa
open Go Go.RowKit

set_option maxHeartbeats 1600000 in
set_option maxRecDepth 100000 in
theorem rinst1 (p : Pg) (x : Ins) (v u : Value) (w : World) (h : PgV w p v) (g : InsV w x u) (ho : x.op = 1) : Calls Try.prog 103 #[v, u] w (SaysG (SoundI p.ins.length p.caps x) w) := by
  obtain ⟨A, n, c, hn, rfl, hI, hs, hc, hnb⟩ := h.opened
  obtain ⟨a, c2, rfl, hR, hbd⟩ := g
  obtain ⟨op, out, arg, set, at'⟩ := x
  simp only at ho
  subst ho
  simp only [insC] at hR ⊢
  obtain ⟨w1, hw1⟩ : ∃ w1, w.alloc (.cells #[.slice A n c, .int .i64 p.start, .int .i64 p.caps] 58) = w1 := ⟨_, rfl⟩
  obtain ⟨hb1, e0, e1, e2, hz1⟩ := box3_new w _ _ _ _ hw1
  obtain ⟨s, hs0⟩ : ∃ s, set.length = s := ⟨_, rfl⟩
  have hsb : s ≤ 9223372036854775807 := by
    obtain ⟨_, _, e, q1, q2, _⟩ := hR
    injection e with _ e2 e3
    unfold maxLen at q2
    omega
  rw [hs0] at hR ⊢
  obtain ⟨w2, hw2⟩ : ∃ w2, w1.alloc (.cells #[.int .i64 1, .int .i64 out, .int .i64 arg, .slice a s c2, .int .i64 at'] 95) = w2 := ⟨_, rfl⟩
  obtain ⟨hb2, ⟨f0, f1, f2, f3, f4⟩, hz2⟩ := box5_new w1 _ _ _ _ _ _ hw2
  have g0 := cell_on hb2 e0
  have g1 := cell_on hb2 e1
  have g2 := cell_on hb2 e2
  have hb := below_steps hb1 hb2
  rw [hz1] at f0 f1 f2 f3 f4
  have HB := Lib.hid hb; have HW1 := Lib.hid hw1; have HW2 := Lib.hid hw2
  have HRG := Lib.hid (rright_any _ set w2 (hR.below hb))
  have HF : Hid (∀ q, (w2.drewN q).cell? ⟨w.heap.size + 1, 0, none⟩ = some (.int .i64 1) ∧ (w2.drewN q).cell? ⟨w.heap.size + 1, 1, none⟩ = some (.int .i64 out) ∧ (w2.drewN q).cell? ⟨w.heap.size + 1, 2, none⟩ = some (.int .i64 arg) ∧ (w2.drewN q).cell? ⟨w.heap.size + 1, 3, none⟩ = some (.slice a s c2) ∧ (w2.drewN q).cell? ⟨w.heap.size + 1, 4, none⟩ = some (.int .i64 at')) := Lib.hid fun q => ⟨f0, f1, f2, f3, f4⟩
  have HS1 : Hid (∀ (k out arg at' : Int), k = 1 ∨ k = 6 → (SoundI n p.caps ⟨k, out, arg, set, at'⟩ ↔ out = 0 ∧ arg = 0 ∧ s = 0 ∧ at' = 0)) := Lib.hid fun k out arg at' h => by rw [← hs0]; exact sound_one n _ _ _ _ _ _ h
  have HS2 : Hid (∀ (out arg at' : Int), (SoundI n p.caps ⟨2, out, arg, set, at'⟩ ↔ (0 ≤ out ∧ out < n) ∧ arg = 0 ∧ (s ≠ 0 ∧ RightR set) ∧ at' = 0)) := Lib.hid fun out arg at' => by rw [← hs0]; exact sound_set n _ _ _ _ _
  have HS3 : Hid (∀ (out arg at' : Int), (SoundI n p.caps ⟨3, out, arg, set, at'⟩ ↔ (0 ≤ out ∧ out < n) ∧ (0 ≤ arg ∧ arg < n) ∧ s = 0 ∧ at' = 0)) := Lib.hid fun out arg at' => by rw [← hs0]; exact sound_alt n _ _ _ _ _
  have HS4 : Hid (∀ (out arg at' : Int), (SoundI n p.caps ⟨4, out, arg, set, at'⟩ ↔ (0 ≤ out ∧ out < n) ∧ (2 ≤ arg ∧ arg < p.caps) ∧ s = 0 ∧ at' = 0)) := Lib.hid fun out arg at' => by rw [← hs0]; exact sound_cap n _ _ _ _ _
  have HS5 : Hid (∀ (out arg at' : Int), (SoundI n p.caps ⟨5, out, arg, set, at'⟩ ↔ (0 ≤ out ∧ out < n) ∧ arg = 0 ∧ s = 0 ∧ AtOk at')) := Lib.hid fun out arg at' => by rw [← hs0]; exact sound_at n _ _ _ _ _
  rw [hn]
  obtain ⟨P, hP⟩ : ∃ P, SoundI n p.caps ⟨1, out, arg, set, at'⟩ = P := ⟨_, rfl⟩
  have HPP := Lib.hid hP
  rw [hP]
  clear hn hI hs hc hbd hR hw1 hw2 hb1 hb2 hb hz1 hz2 hs0 hP e0 e1 e2 h
  go_enter Try.func103, Try.ntmps103
  go_upto_region 1 with (fail)
  rw [HW1.out, HW2.out]
  have HP := Lib.hid ((HPP.out ▸ HS1.out 1 out arg at' (by decide)) : P ↔ _)
  clear HPP HS1 HS2 HS3 HS4 HS5
  by_cases q0 : out = 0
  rotate_left
  · have t0 : (out != 0) = true := by simpa using q0
    have Q := Lib.hid q0
    clear q0
    go_wp2_with fail
    go_ret
    exact ⟨false, rfl, ⟨fun h => (by cases h), fun h => (by have h1 := (HP.out.1 h).1; have := Q.out; omega)⟩, HB.out⟩
  subst q0
  by_cases q2 : arg = 0
  rotate_left
  · have t2 : (arg != 0) = true := by simpa using q2
    have Q := Lib.hid q2
    clear q2
    go_wp2_with fail
    go_ret
    exact ⟨false, rfl, ⟨fun h => (by cases h), fun h => (by have h1 := (HP.out.1 h).2.1; have := Q.out; omega)⟩, HB.out⟩
  subst q2
  go_wp2_with fail
  refine HRG.out.mono ?_
  rintro e w3 ⟨B, rfl, hq, q, rfl⟩
  have HQ := Lib.hid hq
  have hb3 := below_draws w2 q
  clear hq HRG f0 f1 f2 f3 f4
  obtain ⟨f0, f1, f2, f3, f4⟩ := HF.out q
  generalize w2.drewN q = w3 at hb3 f0 f1 f2 f3 f4 ⊢
  have HB : Hid (Below w.heap.size w w3) := Lib.hid (below_steps HB.out hb3)
  clear hb3 HF g0 g1 g2
  clear HQ
  by_cases q4 : s = 0
  rotate_left
  · have t4 : decide (0 < s) = true := decide_eq_true (by omega)
    have Q := Lib.hid q4
    clear q4
    go_wp2_with fail
    go_ret
    exact ⟨false, rfl, ⟨fun h => (by cases h), fun h => (by have h1 := (HP.out.1 h).2.2.1; have := Q.out; omega)⟩, HB.out⟩
  have t4 : decide (0 < s) = false := decide_eq_false (by omega)
  have Q4 := Lib.hid q4
  clear q4
  by_cases q5 : at' = 0
  rotate_left
  · have t5 : (at' == 0) = false := beq_eq_false_iff_ne.2 q5
    have Q := Lib.hid q5
    clear q5
    go_wp2_with fail
    go_ret
    exact ⟨false, rfl, ⟨fun h => (by cases h), fun h => (by have h1 := (HP.out.1 h).2.2.2; have := Q.out; omega)⟩, HB.out⟩
  subst q5
  go_wp2_with fail
  go_ret
  exact ⟨true, rfl, ⟨fun _ => HP.out.2 ⟨by trivial, by trivial, Q4.out, by trivial⟩, fun _ => rfl⟩, HB.out⟩
set_option maxHeartbeats 1600000 in
set_option maxRecDepth 100000 in
theorem rinst6 (p : Pg) (x : Ins) (v u : Value) (w : World) (h : PgV w p v) (g : InsV w x u) (ho : x.op = 6) : Calls Try.prog 103 #[v, u] w (SaysG (SoundI p.ins.length p.caps x) w) := by
  obtain ⟨A, n, c, hn, rfl, hI, hs, hc, hnb⟩ := h.opened
  obtain ⟨a, c2, rfl, hR, hbd⟩ := g
  obtain ⟨op, out, arg, set, at'⟩ := x
  simp only at ho
  subst ho
  simp only [insC] at hR ⊢
  obtain ⟨w1, hw1⟩ : ∃ w1, w.alloc (.cells #[.slice A n c, .int .i64 p.start, .int .i64 p.caps] 58) = w1 := ⟨_, rfl⟩
  obtain ⟨hb1, e0, e1, e2, hz1⟩ := box3_new w _ _ _ _ hw1
  obtain ⟨s, hs0⟩ : ∃ s, set.length = s := ⟨_, rfl⟩
  have hsb : s ≤ 9223372036854775807 := by
    obtain ⟨_, _, e, q1, q2, _⟩ := hR
    injection e with _ e2 e3
    unfold maxLen at q2
    omega
  rw [hs0] at hR ⊢
  obtain ⟨w2, hw2⟩ : ∃ w2, w1.alloc (.cells #[.int .i64 6, .int .i64 out, .int .i64 arg, .slice a s c2, .int .i64 at'] 95) = w2 := ⟨_, rfl⟩
  obtain ⟨hb2, ⟨f0, f1, f2, f3, f4⟩, hz2⟩ := box5_new w1 _ _ _ _ _ _ hw2
  have g0 := cell_on hb2 e0
  have g1 := cell_on hb2 e1
  have g2 := cell_on hb2 e2
  have hb := below_steps hb1 hb2
  rw [hz1] at f0 f1 f2 f3 f4
  have HB := Lib.hid hb; have HW1 := Lib.hid hw1; have HW2 := Lib.hid hw2
  have HRG := Lib.hid (rright_any _ set w2 (hR.below hb))
  have HF : Hid (∀ q, (w2.drewN q).cell? ⟨w.heap.size + 1, 0, none⟩ = some (.int .i64 6) ∧ (w2.drewN q).cell? ⟨w.heap.size + 1, 1, none⟩ = some (.int .i64 out) ∧ (w2.drewN q).cell? ⟨w.heap.size + 1, 2, none⟩ = some (.int .i64 arg) ∧ (w2.drewN q).cell? ⟨w.heap.size + 1, 3, none⟩ = some (.slice a s c2) ∧ (w2.drewN q).cell? ⟨w.heap.size + 1, 4, none⟩ = some (.int .i64 at')) := Lib.hid fun q => ⟨f0, f1, f2, f3, f4⟩
  have HS1 : Hid (∀ (k out arg at' : Int), k = 1 ∨ k = 6 → (SoundI n p.caps ⟨k, out, arg, set, at'⟩ ↔ out = 0 ∧ arg = 0 ∧ s = 0 ∧ at' = 0)) := Lib.hid fun k out arg at' h => by rw [← hs0]; exact sound_one n _ _ _ _ _ _ h
  have HS2 : Hid (∀ (out arg at' : Int), (SoundI n p.caps ⟨2, out, arg, set, at'⟩ ↔ (0 ≤ out ∧ out < n) ∧ arg = 0 ∧ (s ≠ 0 ∧ RightR set) ∧ at' = 0)) := Lib.hid fun out arg at' => by rw [← hs0]; exact sound_set n _ _ _ _ _
  have HS3 : Hid (∀ (out arg at' : Int), (SoundI n p.caps ⟨3, out, arg, set, at'⟩ ↔ (0 ≤ out ∧ out < n) ∧ (0 ≤ arg ∧ arg < n) ∧ s = 0 ∧ at' = 0)) := Lib.hid fun out arg at' => by rw [← hs0]; exact sound_alt n _ _ _ _ _
  have HS4 : Hid (∀ (out arg at' : Int), (SoundI n p.caps ⟨4, out, arg, set, at'⟩ ↔ (0 ≤ out ∧ out < n) ∧ (2 ≤ arg ∧ arg < p.caps) ∧ s = 0 ∧ at' = 0)) := Lib.hid fun out arg at' => by rw [← hs0]; exact sound_cap n _ _ _ _ _
  have HS5 : Hid (∀ (out arg at' : Int), (SoundI n p.caps ⟨5, out, arg, set, at'⟩ ↔ (0 ≤ out ∧ out < n) ∧ arg = 0 ∧ s = 0 ∧ AtOk at')) := Lib.hid fun out arg at' => by rw [← hs0]; exact sound_at n _ _ _ _ _
  rw [hn]
  obtain ⟨P, hP⟩ : ∃ P, SoundI n p.caps ⟨6, out, arg, set, at'⟩ = P := ⟨_, rfl⟩
  have HPP := Lib.hid hP
  rw [hP]
  clear hn hI hs hc hbd hR hw1 hw2 hb1 hb2 hb hz1 hz2 hs0 hP e0 e1 e2 h
  go_enter Try.func103, Try.ntmps103
  go_upto_region 1 with (fail)
  rw [HW1.out, HW2.out]
  have HP := Lib.hid ((HPP.out ▸ HS1.out 6 out arg at' (by decide)) : P ↔ _)
  clear HPP HS1 HS2 HS3 HS4 HS5
  by_cases q0 : out = 0
  rotate_left
  · have t0 : (out != 0) = true := by simpa using q0
    have Q := Lib.hid q0
    clear q0
    go_wp2_with fail
    go_ret
    exact ⟨false, rfl, ⟨fun h => (by cases h), fun h => (by have h1 := (HP.out.1 h).1; have := Q.out; omega)⟩, HB.out⟩
  subst q0
  by_cases q2 : arg = 0
  rotate_left
  · have t2 : (arg != 0) = true := by simpa using q2
    have Q := Lib.hid q2
    clear q2
    go_wp2_with fail
    go_ret
    exact ⟨false, rfl, ⟨fun h => (by cases h), fun h => (by have h1 := (HP.out.1 h).2.1; have := Q.out; omega)⟩, HB.out⟩
  subst q2
  go_wp2_with fail
  refine HRG.out.mono ?_
  rintro e w3 ⟨B, rfl, hq, q, rfl⟩
  have HQ := Lib.hid hq
  have hb3 := below_draws w2 q
  clear hq HRG f0 f1 f2 f3 f4
  obtain ⟨f0, f1, f2, f3, f4⟩ := HF.out q
  generalize w2.drewN q = w3 at hb3 f0 f1 f2 f3 f4 ⊢
  have HB : Hid (Below w.heap.size w w3) := Lib.hid (below_steps HB.out hb3)
  clear hb3 HF g0 g1 g2
  clear HQ
  by_cases q4 : s = 0
  rotate_left
  · have t4 : decide (0 < s) = true := decide_eq_true (by omega)
    have Q := Lib.hid q4
    clear q4
    go_wp2_with fail
    go_ret
    exact ⟨false, rfl, ⟨fun h => (by cases h), fun h => (by have h1 := (HP.out.1 h).2.2.1; have := Q.out; omega)⟩, HB.out⟩
  have t4 : decide (0 < s) = false := decide_eq_false (by omega)
  have Q4 := Lib.hid q4
  clear q4
  by_cases q5 : at' = 0
  rotate_left
  · have t5 : (at' == 0) = false := beq_eq_false_iff_ne.2 q5
    have Q := Lib.hid q5
    clear q5
    go_wp2_with fail
    go_ret
    exact ⟨false, rfl, ⟨fun h => (by cases h), fun h => (by have h1 := (HP.out.1 h).2.2.2; have := Q.out; omega)⟩, HB.out⟩
  subst q5
  go_wp2_with fail
  go_ret
  exact ⟨true, rfl, ⟨fun _ => HP.out.2 ⟨by trivial, by trivial, Q4.out, by trivial⟩, fun _ => rfl⟩, HB.out⟩
set_option maxHeartbeats 1600000 in
set_option maxRecDepth 100000 in
theorem rinst2 (p : Pg) (x : Ins) (v u : Value) (w : World) (h : PgV w p v) (g : InsV w x u) (ho : x.op = 2) : Calls Try.prog 103 #[v, u] w (SaysG (SoundI p.ins.length p.caps x) w) := by
  obtain ⟨A, n, c, hn, rfl, hI, hs, hc, hnb⟩ := h.opened
  obtain ⟨a, c2, rfl, hR, hbd⟩ := g
  obtain ⟨op, out, arg, set, at'⟩ := x
  simp only at ho
  subst ho
  simp only [insC] at hR ⊢
  obtain ⟨w1, hw1⟩ : ∃ w1, w.alloc (.cells #[.slice A n c, .int .i64 p.start, .int .i64 p.caps] 58) = w1 := ⟨_, rfl⟩
  obtain ⟨hb1, e0, e1, e2, hz1⟩ := box3_new w _ _ _ _ hw1
  obtain ⟨s, hs0⟩ : ∃ s, set.length = s := ⟨_, rfl⟩
  have hsb : s ≤ 9223372036854775807 := by
    obtain ⟨_, _, e, q1, q2, _⟩ := hR
    injection e with _ e2 e3
    unfold maxLen at q2
    omega
  rw [hs0] at hR ⊢
  obtain ⟨w2, hw2⟩ : ∃ w2, w1.alloc (.cells #[.int .i64 2, .int .i64 out, .int .i64 arg, .slice a s c2, .int .i64 at'] 95) = w2 := ⟨_, rfl⟩
  obtain ⟨hb2, ⟨f0, f1, f2, f3, f4⟩, hz2⟩ := box5_new w1 _ _ _ _ _ _ hw2
  have g0 := cell_on hb2 e0
  have g1 := cell_on hb2 e1
  have g2 := cell_on hb2 e2
  have hb := below_steps hb1 hb2
  rw [hz1] at f0 f1 f2 f3 f4
  have HB := Lib.hid hb; have HW1 := Lib.hid hw1; have HW2 := Lib.hid hw2
  have HRG := Lib.hid (rright_any _ set w2 (hR.below hb))
  have HF : Hid (∀ q, (w2.drewN q).cell? ⟨w.heap.size + 1, 0, none⟩ = some (.int .i64 2) ∧ (w2.drewN q).cell? ⟨w.heap.size + 1, 1, none⟩ = some (.int .i64 out) ∧ (w2.drewN q).cell? ⟨w.heap.size + 1, 2, none⟩ = some (.int .i64 arg) ∧ (w2.drewN q).cell? ⟨w.heap.size + 1, 3, none⟩ = some (.slice a s c2) ∧ (w2.drewN q).cell? ⟨w.heap.size + 1, 4, none⟩ = some (.int .i64 at')) := Lib.hid fun q => ⟨f0, f1, f2, f3, f4⟩
  have HS1 : Hid (∀ (k out arg at' : Int), k = 1 ∨ k = 6 → (SoundI n p.caps ⟨k, out, arg, set, at'⟩ ↔ out = 0 ∧ arg = 0 ∧ s = 0 ∧ at' = 0)) := Lib.hid fun k out arg at' h => by rw [← hs0]; exact sound_one n _ _ _ _ _ _ h
  have HS2 : Hid (∀ (out arg at' : Int), (SoundI n p.caps ⟨2, out, arg, set, at'⟩ ↔ (0 ≤ out ∧ out < n) ∧ arg = 0 ∧ (s ≠ 0 ∧ RightR set) ∧ at' = 0)) := Lib.hid fun out arg at' => by rw [← hs0]; exact sound_set n _ _ _ _ _
  have HS3 : Hid (∀ (out arg at' : Int), (SoundI n p.caps ⟨3, out, arg, set, at'⟩ ↔ (0 ≤ out ∧ out < n) ∧ (0 ≤ arg ∧ arg < n) ∧ s = 0 ∧ at' = 0)) := Lib.hid fun out arg at' => by rw [← hs0]; exact sound_alt n _ _ _ _ _
  have HS4 : Hid (∀ (out arg at' : Int), (SoundI n p.caps ⟨4, out, arg, set, at'⟩ ↔ (0 ≤ out ∧ out < n) ∧ (2 ≤ arg ∧ arg < p.caps) ∧ s = 0 ∧ at' = 0)) := Lib.hid fun out arg at' => by rw [← hs0]; exact sound_cap n _ _ _ _ _
  have HS5 : Hid (∀ (out arg at' : Int), (SoundI n p.caps ⟨5, out, arg, set, at'⟩ ↔ (0 ≤ out ∧ out < n) ∧ arg = 0 ∧ s = 0 ∧ AtOk at')) := Lib.hid fun out arg at' => by rw [← hs0]; exact sound_at n _ _ _ _ _
  rw [hn]
  obtain ⟨P, hP⟩ : ∃ P, SoundI n p.caps ⟨2, out, arg, set, at'⟩ = P := ⟨_, rfl⟩
  have HPP := Lib.hid hP
  rw [hP]
  clear hn hI hs hc hbd hR hw1 hw2 hb1 hb2 hb hz1 hz2 hs0 hP e0 e1 e2 h
  go_enter Try.func103, Try.ntmps103
  go_upto_region 1 with (fail)
  rw [HW1.out, HW2.out]
  have HP := Lib.hid ((HPP.out ▸ HS2.out out arg at') : P ↔ _)
  clear HPP HS1 HS2 HS3 HS4 HS5
  by_cases q0 : 0 ≤ out
  rotate_left
  · have t0 : decide (out < 0) = true := decide_eq_true (by omega)
    have Q := Lib.hid q0
    clear q0
    go_wp2_with fail
    go_ret
    exact ⟨false, rfl, ⟨fun h => (by cases h), fun h => (by have h1 := (HP.out.1 h).1; have := Q.out; omega)⟩, HB.out⟩
  have t0 : decide (out < 0) = false := decide_eq_false (by omega)
  by_cases q1 : out < n
  rotate_left
  · have t1 : decide ((n : Int) ≤ out) = true := decide_eq_true (by omega)
    have Q0 := Lib.hid q0
    clear q0
    have Q := Lib.hid q1
    clear q1
    go_wp2_with fail
    go_ret
    exact ⟨false, rfl, ⟨fun h => (by cases h), fun h => (by have h1 := (HP.out.1 h).1; have := Q.out; omega)⟩, HB.out⟩
  have t1 : decide ((n : Int) ≤ out) = false := decide_eq_false (by omega)
  have Q0 := Lib.hid (And.intro q0 q1)
  clear q0 q1
  by_cases q2 : arg = 0
  rotate_left
  · have t2 : (arg != 0) = true := by simpa using q2
    have Q := Lib.hid q2
    clear q2
    go_wp2_with fail
    go_ret
    exact ⟨false, rfl, ⟨fun h => (by cases h), fun h => (by have h1 := (HP.out.1 h).2.1; have := Q.out; omega)⟩, HB.out⟩
  subst q2
  go_wp2_with fail
  refine HRG.out.mono ?_
  rintro e w3 ⟨B, rfl, hq, q, rfl⟩
  have HQ := Lib.hid hq
  have hb3 := below_draws w2 q
  clear hq HRG f0 f1 f2 f3 f4
  obtain ⟨f0, f1, f2, f3, f4⟩ := HF.out q
  generalize w2.drewN q = w3 at hb3 f0 f1 f2 f3 f4 ⊢
  have HB : Hid (Below w.heap.size w w3) := Lib.hid (below_steps HB.out hb3)
  clear hb3 HF g0 g1 g2
  cases B
  · have Q := Lib.hid (mt HQ.out.2 Bool.false_ne_true)
    clear HQ
    go_wp2_with fail
    go_ret
    exact ⟨false, rfl, ⟨fun h => (by cases h), fun h => absurd (HP.out.1 h).2.2.1.2 Q.out⟩, HB.out⟩
  have QB := Lib.hid (HQ.out.1 rfl)
  clear HQ
  by_cases q4 : s ≠ 0
  rotate_left
  · have t4 : ((s : Int) == 0) = true := by simp only [beq_iff_eq]; omega
    have Q := Lib.hid q4
    clear q4
    go_wp2_with fail
    go_ret
    exact ⟨false, rfl, ⟨fun h => (by cases h), fun h => (by have h1 := (HP.out.1 h).2.2.1; have := Q.out; omega)⟩, HB.out⟩
  have t4 : ((s : Int) == 0) = false := by simp only [beq_eq_false_iff_ne]; omega
  have Q4 := Lib.hid q4
  clear q4
  by_cases q5 : at' = 0
  rotate_left
  · have t5 : (at' == 0) = false := beq_eq_false_iff_ne.2 q5
    have Q := Lib.hid q5
    clear q5
    go_wp2_with fail
    go_ret
    exact ⟨false, rfl, ⟨fun h => (by cases h), fun h => (by have h1 := (HP.out.1 h).2.2.2; have := Q.out; omega)⟩, HB.out⟩
  subst q5
  go_wp2_with fail
  go_ret
  exact ⟨true, rfl, ⟨fun _ => HP.out.2 ⟨Q0.out, by trivial, ⟨Q4.out, QB.out⟩, by trivial⟩, fun _ => rfl⟩, HB.out⟩
set_option maxHeartbeats 1600000 in
set_option maxRecDepth 100000 in
theorem rinst3 (p : Pg) (x : Ins) (v u : Value) (w : World) (h : PgV w p v) (g : InsV w x u) (ho : x.op = 3) : Calls Try.prog 103 #[v, u] w (SaysG (SoundI p.ins.length p.caps x) w) := by
  obtain ⟨A, n, c, hn, rfl, hI, hs, hc, hnb⟩ := h.opened
  obtain ⟨a, c2, rfl, hR, hbd⟩ := g
  obtain ⟨op, out, arg, set, at'⟩ := x
  simp only at ho
  subst ho
  simp only [insC] at hR ⊢
  obtain ⟨w1, hw1⟩ : ∃ w1, w.alloc (.cells #[.slice A n c, .int .i64 p.start, .int .i64 p.caps] 58) = w1 := ⟨_, rfl⟩
  obtain ⟨hb1, e0, e1, e2, hz1⟩ := box3_new w _ _ _ _ hw1
  obtain ⟨s, hs0⟩ : ∃ s, set.length = s := ⟨_, rfl⟩
  have hsb : s ≤ 9223372036854775807 := by
    obtain ⟨_, _, e, q1, q2, _⟩ := hR
    injection e with _ e2 e3
    unfold maxLen at q2
    omega
  rw [hs0] at hR ⊢
  obtain ⟨w2, hw2⟩ : ∃ w2, w1.alloc (.cells #[.int .i64 3, .int .i64 out, .int .i64 arg, .slice a s c2, .int .i64 at'] 95) = w2 := ⟨_, rfl⟩
  obtain ⟨hb2, ⟨f0, f1, f2, f3, f4⟩, hz2⟩ := box5_new w1 _ _ _ _ _ _ hw2
  have g0 := cell_on hb2 e0
  have g1 := cell_on hb2 e1
  have g2 := cell_on hb2 e2
  have hb := below_steps hb1 hb2
  rw [hz1] at f0 f1 f2 f3 f4
  have HB := Lib.hid hb; have HW1 := Lib.hid hw1; have HW2 := Lib.hid hw2
  have HRG := Lib.hid (rright_any _ set w2 (hR.below hb))
  have HF : Hid (∀ q, (w2.drewN q).cell? ⟨w.heap.size + 1, 0, none⟩ = some (.int .i64 3) ∧ (w2.drewN q).cell? ⟨w.heap.size + 1, 1, none⟩ = some (.int .i64 out) ∧ (w2.drewN q).cell? ⟨w.heap.size + 1, 2, none⟩ = some (.int .i64 arg) ∧ (w2.drewN q).cell? ⟨w.heap.size + 1, 3, none⟩ = some (.slice a s c2) ∧ (w2.drewN q).cell? ⟨w.heap.size + 1, 4, none⟩ = some (.int .i64 at')) := Lib.hid fun q => ⟨f0, f1, f2, f3, f4⟩
  have HS1 : Hid (∀ (k out arg at' : Int), k = 1 ∨ k = 6 → (SoundI n p.caps ⟨k, out, arg, set, at'⟩ ↔ out = 0 ∧ arg = 0 ∧ s = 0 ∧ at' = 0)) := Lib.hid fun k out arg at' h => by rw [← hs0]; exact sound_one n _ _ _ _ _ _ h
  have HS2 : Hid (∀ (out arg at' : Int), (SoundI n p.caps ⟨2, out, arg, set, at'⟩ ↔ (0 ≤ out ∧ out < n) ∧ arg = 0 ∧ (s ≠ 0 ∧ RightR set) ∧ at' = 0)) := Lib.hid fun out arg at' => by rw [← hs0]; exact sound_set n _ _ _ _ _
  have HS3 : Hid (∀ (out arg at' : Int), (SoundI n p.caps ⟨3, out, arg, set, at'⟩ ↔ (0 ≤ out ∧ out < n) ∧ (0 ≤ arg ∧ arg < n) ∧ s = 0 ∧ at' = 0)) := Lib.hid fun out arg at' => by rw [← hs0]; exact sound_alt n _ _ _ _ _
  have HS4 : Hid (∀ (out arg at' : Int), (SoundI n p.caps ⟨4, out, arg, set, at'⟩ ↔ (0 ≤ out ∧ out < n) ∧ (2 ≤ arg ∧ arg < p.caps) ∧ s = 0 ∧ at' = 0)) := Lib.hid fun out arg at' => by rw [← hs0]; exact sound_cap n _ _ _ _ _
  have HS5 : Hid (∀ (out arg at' : Int), (SoundI n p.caps ⟨5, out, arg, set, at'⟩ ↔ (0 ≤ out ∧ out < n) ∧ arg = 0 ∧ s = 0 ∧ AtOk at')) := Lib.hid fun out arg at' => by rw [← hs0]; exact sound_at n _ _ _ _ _
  rw [hn]
  obtain ⟨P, hP⟩ : ∃ P, SoundI n p.caps ⟨3, out, arg, set, at'⟩ = P := ⟨_, rfl⟩
  have HPP := Lib.hid hP
  rw [hP]
  clear hn hI hs hc hbd hR hw1 hw2 hb1 hb2 hb hz1 hz2 hs0 hP e0 e1 e2 h
  go_enter Try.func103, Try.ntmps103
  go_upto_region 1 with (fail)
  rw [HW1.out, HW2.out]
  have HP := Lib.hid ((HPP.out ▸ HS3.out out arg at') : P ↔ _)
  clear HPP HS1 HS2 HS3 HS4 HS5
  by_cases q0 : 0 ≤ out
  rotate_left
  · have t0 : decide (out < 0) = true := decide_eq_true (by omega)
    have Q := Lib.hid q0
    clear q0
    go_wp2_with fail
    go_ret
    exact ⟨false, rfl, ⟨fun h => (by cases h), fun h => (by have h1 := (HP.out.1 h).1; have := Q.out; omega)⟩, HB.out⟩
  have t0 : decide (out < 0) = false := decide_eq_false (by omega)
  by_cases q1 : out < n
  rotate_left
  · have t1 : decide ((n : Int) ≤ out) = true := decide_eq_true (by omega)
    have Q0 := Lib.hid q0
    clear q0
    have Q := Lib.hid q1
    clear q1
    go_wp2_with fail
    go_ret
    exact ⟨false, rfl, ⟨fun h => (by cases h), fun h => (by have h1 := (HP.out.1 h).1; have := Q.out; omega)⟩, HB.out⟩
  have t1 : decide ((n : Int) ≤ out) = false := decide_eq_false (by omega)
  have Q0 := Lib.hid (And.intro q0 q1)
  clear q0 q1
  by_cases q2 : 0 ≤ arg
  rotate_left
  · have t2 : decide (arg < 0) = true := decide_eq_true (by omega)
    have Q := Lib.hid q2
    clear q2
    go_wp2_with fail
    go_ret
    exact ⟨false, rfl, ⟨fun h => (by cases h), fun h => (by have h1 := (HP.out.1 h).2.1; have := Q.out; omega)⟩, HB.out⟩
  have t2 : decide (arg < 0) = false := decide_eq_false (by omega)
  by_cases q3 : arg < (n : Int)
  rotate_left
  · have t3 : decide ((n : Int) ≤ arg) = true := decide_eq_true (by omega)
    have Q2 := Lib.hid q2
    clear q2
    have Q := Lib.hid q3
    clear q3
    go_wp2_with fail
    go_ret
    exact ⟨false, rfl, ⟨fun h => (by cases h), fun h => (by have h1 := (HP.out.1 h).2.1; have := Q.out; omega)⟩, HB.out⟩
  have t3 : decide ((n : Int) ≤ arg) = false := decide_eq_false (by omega)
  have Q1 := Lib.hid (And.intro q2 q3)
  clear q2 q3
  go_wp2_with fail
  refine HRG.out.mono ?_
  rintro e w3 ⟨B, rfl, hq, q, rfl⟩
  have HQ := Lib.hid hq
  have hb3 := below_draws w2 q
  clear hq HRG f0 f1 f2 f3 f4
  obtain ⟨f0, f1, f2, f3, f4⟩ := HF.out q
  generalize w2.drewN q = w3 at hb3 f0 f1 f2 f3 f4 ⊢
  have HB : Hid (Below w.heap.size w w3) := Lib.hid (below_steps HB.out hb3)
  clear hb3 HF g0 g1 g2
  clear HQ
  by_cases q4 : s = 0
  rotate_left
  · have t4 : decide (0 < s) = true := decide_eq_true (by omega)
    have Q := Lib.hid q4
    clear q4
    go_wp2_with fail
    go_ret
    exact ⟨false, rfl, ⟨fun h => (by cases h), fun h => (by have h1 := (HP.out.1 h).2.2.1; have := Q.out; omega)⟩, HB.out⟩
  have t4 : decide (0 < s) = false := decide_eq_false (by omega)
  have Q4 := Lib.hid q4
  clear q4
  by_cases q5 : at' = 0
  rotate_left
  · have t5 : (at' == 0) = false := beq_eq_false_iff_ne.2 q5
    have Q := Lib.hid q5
    clear q5
    go_wp2_with fail
    go_ret
    exact ⟨false, rfl, ⟨fun h => (by cases h), fun h => (by have h1 := (HP.out.1 h).2.2.2; have := Q.out; omega)⟩, HB.out⟩
  subst q5
  go_wp2_with fail
  go_ret
  exact ⟨true, rfl, ⟨fun _ => HP.out.2 ⟨Q0.out, Q1.out, Q4.out, by trivial⟩, fun _ => rfl⟩, HB.out⟩
set_option maxHeartbeats 1600000 in
set_option maxRecDepth 100000 in
theorem rinst4 (p : Pg) (x : Ins) (v u : Value) (w : World) (h : PgV w p v) (g : InsV w x u) (ho : x.op = 4) : Calls Try.prog 103 #[v, u] w (SaysG (SoundI p.ins.length p.caps x) w) := by
  obtain ⟨A, n, c, hn, rfl, hI, hs, hc, hnb⟩ := h.opened
  obtain ⟨a, c2, rfl, hR, hbd⟩ := g
  obtain ⟨op, out, arg, set, at'⟩ := x
  simp only at ho
  subst ho
  simp only [insC] at hR ⊢
  obtain ⟨w1, hw1⟩ : ∃ w1, w.alloc (.cells #[.slice A n c, .int .i64 p.start, .int .i64 p.caps] 58) = w1 := ⟨_, rfl⟩
  obtain ⟨hb1, e0, e1, e2, hz1⟩ := box3_new w _ _ _ _ hw1
  obtain ⟨s, hs0⟩ : ∃ s, set.length = s := ⟨_, rfl⟩
  have hsb : s ≤ 9223372036854775807 := by
    obtain ⟨_, _, e, q1, q2, _⟩ := hR
    injection e with _ e2 e3
    unfold maxLen at q2
    omega
  rw [hs0] at hR ⊢
  obtain ⟨w2, hw2⟩ : ∃ w2, w1.alloc (.cells #[.int .i64 4, .int .i64 out, .int .i64 arg, .slice a s c2, .int .i64 at'] 95) = w2 := ⟨_, rfl⟩
  obtain ⟨hb2, ⟨f0, f1, f2, f3, f4⟩, hz2⟩ := box5_new w1 _ _ _ _ _ _ hw2
  have g0 := cell_on hb2 e0
  have g1 := cell_on hb2 e1
  have g2 := cell_on hb2 e2
  have hb := below_steps hb1 hb2
  rw [hz1] at f0 f1 f2 f3 f4
  have HB := Lib.hid hb; have HW1 := Lib.hid hw1; have HW2 := Lib.hid hw2
  have HRG := Lib.hid (rright_any _ set w2 (hR.below hb))
  have HF : Hid (∀ q, (w2.drewN q).cell? ⟨w.heap.size + 1, 0, none⟩ = some (.int .i64 4) ∧ (w2.drewN q).cell? ⟨w.heap.size + 1, 1, none⟩ = some (.int .i64 out) ∧ (w2.drewN q).cell? ⟨w.heap.size + 1, 2, none⟩ = some (.int .i64 arg) ∧ (w2.drewN q).cell? ⟨w.heap.size + 1, 3, none⟩ = some (.slice a s c2) ∧ (w2.drewN q).cell? ⟨w.heap.size + 1, 4, none⟩ = some (.int .i64 at')) := Lib.hid fun q => ⟨f0, f1, f2, f3, f4⟩
  have HS1 : Hid (∀ (k out arg at' : Int), k = 1 ∨ k = 6 → (SoundI n p.caps ⟨k, out, arg, set, at'⟩ ↔ out = 0 ∧ arg = 0 ∧ s = 0 ∧ at' = 0)) := Lib.hid fun k out arg at' h => by rw [← hs0]; exact sound_one n _ _ _ _ _ _ h
  have HS2 : Hid (∀ (out arg at' : Int), (SoundI n p.caps ⟨2, out, arg, set, at'⟩ ↔ (0 ≤ out ∧ out < n) ∧ arg = 0 ∧ (s ≠ 0 ∧ RightR set) ∧ at' = 0)) := Lib.hid fun out arg at' => by rw [← hs0]; exact sound_set n _ _ _ _ _
  have HS3 : Hid (∀ (out arg at' : Int), (SoundI n p.caps ⟨3, out, arg, set, at'⟩ ↔ (0 ≤ out ∧ out < n) ∧ (0 ≤ arg ∧ arg < n) ∧ s = 0 ∧ at' = 0)) := Lib.hid fun out arg at' => by rw [← hs0]; exact sound_alt n _ _ _ _ _
  have HS4 : Hid (∀ (out arg at' : Int), (SoundI n p.caps ⟨4, out, arg, set, at'⟩ ↔ (0 ≤ out ∧ out < n) ∧ (2 ≤ arg ∧ arg < p.caps) ∧ s = 0 ∧ at' = 0)) := Lib.hid fun out arg at' => by rw [← hs0]; exact sound_cap n _ _ _ _ _
  have HS5 : Hid (∀ (out arg at' : Int), (SoundI n p.caps ⟨5, out, arg, set, at'⟩ ↔ (0 ≤ out ∧ out < n) ∧ arg = 0 ∧ s = 0 ∧ AtOk at')) := Lib.hid fun out arg at' => by rw [← hs0]; exact sound_at n _ _ _ _ _
  rw [hn]
  obtain ⟨P, hP⟩ : ∃ P, SoundI n p.caps ⟨4, out, arg, set, at'⟩ = P := ⟨_, rfl⟩
  have HPP := Lib.hid hP
  rw [hP]
  clear hn hI hs hc hbd hR hw1 hw2 hb1 hb2 hb hz1 hz2 hs0 hP e0 e1 e2 h
  go_enter Try.func103, Try.ntmps103
  go_upto_region 1 with (fail)
  rw [HW1.out, HW2.out]
  have HP := Lib.hid ((HPP.out ▸ HS4.out out arg at') : P ↔ _)
  clear HPP HS1 HS2 HS3 HS4 HS5
  by_cases q0 : 0 ≤ out
  rotate_left
  · have t0 : decide (out < 0) = true := decide_eq_true (by omega)
    have Q := Lib.hid q0
    clear q0
    go_wp2_with fail
    go_ret
    exact ⟨false, rfl, ⟨fun h => (by cases h), fun h => (by have h1 := (HP.out.1 h).1; have := Q.out; omega)⟩, HB.out⟩
  have t0 : decide (out < 0) = false := decide_eq_false (by omega)
  by_cases q1 : out < n
  rotate_left
  · have t1 : decide ((n : Int) ≤ out) = true := decide_eq_true (by omega)
    have Q0 := Lib.hid q0
    clear q0
    have Q := Lib.hid q1
    clear q1
    go_wp2_with fail
    go_ret
    exact ⟨false, rfl, ⟨fun h => (by cases h), fun h => (by have h1 := (HP.out.1 h).1; have := Q.out; omega)⟩, HB.out⟩
  have t1 : decide ((n : Int) ≤ out) = false := decide_eq_false (by omega)
  have Q0 := Lib.hid (And.intro q0 q1)
  clear q0 q1
  by_cases q2 : 2 ≤ arg
  rotate_left
  · have t2 : decide (arg < 2) = true := decide_eq_true (by omega)
    have Q := Lib.hid q2
    clear q2
    go_wp2_with fail
    go_ret
    exact ⟨false, rfl, ⟨fun h => (by cases h), fun h => (by have h1 := (HP.out.1 h).2.1; have := Q.out; omega)⟩, HB.out⟩
  have t2 : decide (arg < 2) = false := decide_eq_false (by omega)
  by_cases q3 : arg < p.caps
  rotate_left
  · have t3 : decide (p.caps ≤ arg) = true := decide_eq_true (by omega)
    have Q2 := Lib.hid q2
    clear q2
    have Q := Lib.hid q3
    clear q3
    go_wp2_with fail
    go_ret
    exact ⟨false, rfl, ⟨fun h => (by cases h), fun h => (by have h1 := (HP.out.1 h).2.1; have := Q.out; omega)⟩, HB.out⟩
  have t3 : decide (p.caps ≤ arg) = false := decide_eq_false (by omega)
  have Q1 := Lib.hid (And.intro q2 q3)
  clear q2 q3
  go_wp2_with fail
  refine HRG.out.mono ?_
  rintro e w3 ⟨B, rfl, hq, q, rfl⟩
  have HQ := Lib.hid hq
  have hb3 := below_draws w2 q
  clear hq HRG f0 f1 f2 f3 f4
  obtain ⟨f0, f1, f2, f3, f4⟩ := HF.out q
  generalize w2.drewN q = w3 at hb3 f0 f1 f2 f3 f4 ⊢
  have HB : Hid (Below w.heap.size w w3) := Lib.hid (below_steps HB.out hb3)
  clear hb3 HF g0 g1 g2
  clear HQ
  by_cases q4 : s = 0
  rotate_left
  · have t4 : decide (0 < s) = true := decide_eq_true (by omega)
    have Q := Lib.hid q4
    clear q4
    go_wp2_with fail
    go_ret
    exact ⟨false, rfl, ⟨fun h => (by cases h), fun h => (by have h1 := (HP.out.1 h).2.2.1; have := Q.out; omega)⟩, HB.out⟩
  have t4 : decide (0 < s) = false := decide_eq_false (by omega)
  have Q4 := Lib.hid q4
  clear q4
  by_cases q5 : at' = 0
  rotate_left
  · have t5 : (at' == 0) = false := beq_eq_false_iff_ne.2 q5
    have Q := Lib.hid q5
    clear q5
    go_wp2_with fail
    go_ret
    exact ⟨false, rfl, ⟨fun h => (by cases h), fun h => (by have h1 := (HP.out.1 h).2.2.2; have := Q.out; omega)⟩, HB.out⟩
  subst q5
  go_wp2_with fail
  go_ret
  exact ⟨true, rfl, ⟨fun _ => HP.out.2 ⟨Q0.out, Q1.out, Q4.out, by trivial⟩, fun _ => rfl⟩, HB.out⟩
set_option maxHeartbeats 1600000 in
set_option maxRecDepth 100000 in
theorem rinst5 (p : Pg) (x : Ins) (v u : Value) (w : World) (h : PgV w p v) (g : InsV w x u) (ho : x.op = 5) : Calls Try.prog 103 #[v, u] w (SaysG (SoundI p.ins.length p.caps x) w) := by
  obtain ⟨A, n, c, hn, rfl, hI, hs, hc, hnb⟩ := h.opened
  obtain ⟨a, c2, rfl, hR, hbd⟩ := g
  obtain ⟨op, out, arg, set, at'⟩ := x
  simp only at ho
  subst ho
  simp only [insC] at hR ⊢
  obtain ⟨w1, hw1⟩ : ∃ w1, w.alloc (.cells #[.slice A n c, .int .i64 p.start, .int .i64 p.caps] 58) = w1 := ⟨_, rfl⟩
  obtain ⟨hb1, e0, e1, e2, hz1⟩ := box3_new w _ _ _ _ hw1
  obtain ⟨s, hs0⟩ : ∃ s, set.length = s := ⟨_, rfl⟩
  have hsb : s ≤ 9223372036854775807 := by
    obtain ⟨_, _, e, q1, q2, _⟩ := hR
    injection e with _ e2 e3
    unfold maxLen at q2
    omega
  rw [hs0] at hR ⊢
  obtain ⟨w2, hw2⟩ : ∃ w2, w1.alloc (.cells #[.int .i64 5, .int .i64 out, .int .i64 arg, .slice a s c2, .int .i64 at'] 95) = w2 := ⟨_, rfl⟩
  obtain ⟨hb2, ⟨f0, f1, f2, f3, f4⟩, hz2⟩ := box5_new w1 _ _ _ _ _ _ hw2
  have g0 := cell_on hb2 e0
  have g1 := cell_on hb2 e1
  have g2 := cell_on hb2 e2
  have hb := below_steps hb1 hb2
  rw [hz1] at f0 f1 f2 f3 f4
  have HB := Lib.hid hb; have HW1 := Lib.hid hw1; have HW2 := Lib.hid hw2
  have HRG := Lib.hid (rright_any _ set w2 (hR.below hb))
  have HF : Hid (∀ q, (w2.drewN q).cell? ⟨w.heap.size + 1, 0, none⟩ = some (.int .i64 5) ∧ (w2.drewN q).cell? ⟨w.heap.size + 1, 1, none⟩ = some (.int .i64 out) ∧ (w2.drewN q).cell? ⟨w.heap.size + 1, 2, none⟩ = some (.int .i64 arg) ∧ (w2.drewN q).cell? ⟨w.heap.size + 1, 3, none⟩ = some (.slice a s c2) ∧ (w2.drewN q).cell? ⟨w.heap.size + 1, 4, none⟩ = some (.int .i64 at')) := Lib.hid fun q => ⟨f0, f1, f2, f3, f4⟩
  have HS1 : Hid (∀ (k out arg at' : Int), k = 1 ∨ k = 6 → (SoundI n p.caps ⟨k, out, arg, set, at'⟩ ↔ out = 0 ∧ arg = 0 ∧ s = 0 ∧ at' = 0)) := Lib.hid fun k out arg at' h => by rw [← hs0]; exact sound_one n _ _ _ _ _ _ h
  have HS2 : Hid (∀ (out arg at' : Int), (SoundI n p.caps ⟨2, out, arg, set, at'⟩ ↔ (0 ≤ out ∧ out < n) ∧ arg = 0 ∧ (s ≠ 0 ∧ RightR set) ∧ at' = 0)) := Lib.hid fun out arg at' => by rw [← hs0]; exact sound_set n _ _ _ _ _
  have HS3 : Hid (∀ (out arg at' : Int), (SoundI n p.caps ⟨3, out, arg, set, at'⟩ ↔ (0 ≤ out ∧ out < n) ∧ (0 ≤ arg ∧ arg < n) ∧ s = 0 ∧ at' = 0)) := Lib.hid fun out arg at' => by rw [← hs0]; exact sound_alt n _ _ _ _ _
  have HS4 : Hid (∀ (out arg at' : Int), (SoundI n p.caps ⟨4, out, arg, set, at'⟩ ↔ (0 ≤ out ∧ out < n) ∧ (2 ≤ arg ∧ arg < p.caps) ∧ s = 0 ∧ at' = 0)) := Lib.hid fun out arg at' => by rw [← hs0]; exact sound_cap n _ _ _ _ _
  have HS5 : Hid (∀ (out arg at' : Int), (SoundI n p.caps ⟨5, out, arg, set, at'⟩ ↔ (0 ≤ out ∧ out < n) ∧ arg = 0 ∧ s = 0 ∧ AtOk at')) := Lib.hid fun out arg at' => by rw [← hs0]; exact sound_at n _ _ _ _ _
  rw [hn]
  obtain ⟨P, hP⟩ : ∃ P, SoundI n p.caps ⟨5, out, arg, set, at'⟩ = P := ⟨_, rfl⟩
  have HPP := Lib.hid hP
  rw [hP]
  clear hn hI hs hc hbd hR hw1 hw2 hb1 hb2 hb hz1 hz2 hs0 hP e0 e1 e2 h
  go_enter Try.func103, Try.ntmps103
  go_upto_region 1 with (fail)
  rw [HW1.out, HW2.out]
  have HP := Lib.hid ((HPP.out ▸ HS5.out out arg at') : P ↔ _)
  clear HPP HS1 HS2 HS3 HS4 HS5
  by_cases q0 : 0 ≤ out
  rotate_left
  · have t0 : decide (out < 0) = true := decide_eq_true (by omega)
    have Q := Lib.hid q0
    clear q0
    go_wp2_with fail
    go_ret
    exact ⟨false, rfl, ⟨fun h => (by cases h), fun h => (by have h1 := (HP.out.1 h).1; have := Q.out; omega)⟩, HB.out⟩
  have t0 : decide (out < 0) = false := decide_eq_false (by omega)
  by_cases q1 : out < n
  rotate_left
  · have t1 : decide ((n : Int) ≤ out) = true := decide_eq_true (by omega)
    have Q0 := Lib.hid q0
    clear q0
    have Q := Lib.hid q1
    clear q1
    go_wp2_with fail
    go_ret
    exact ⟨false, rfl, ⟨fun h => (by cases h), fun h => (by have h1 := (HP.out.1 h).1; have := Q.out; omega)⟩, HB.out⟩
  have t1 : decide ((n : Int) ≤ out) = false := decide_eq_false (by omega)
  have Q0 := Lib.hid (And.intro q0 q1)
  clear q0 q1
  by_cases q2 : arg = 0
  rotate_left
  · have t2 : (arg != 0) = true := by simpa using q2
    have Q := Lib.hid q2
    clear q2
    go_wp2_with fail
    go_ret
    exact ⟨false, rfl, ⟨fun h => (by cases h), fun h => (by have h1 := (HP.out.1 h).2.1; have := Q.out; omega)⟩, HB.out⟩
  subst q2
  go_wp2_with fail
  refine HRG.out.mono ?_
  rintro e w3 ⟨B, rfl, hq, q, rfl⟩
  have HQ := Lib.hid hq
  have hb3 := below_draws w2 q
  clear hq HRG f0 f1 f2 f3 f4
  obtain ⟨f0, f1, f2, f3, f4⟩ := HF.out q
  generalize w2.drewN q = w3 at hb3 f0 f1 f2 f3 f4 ⊢
  have HB : Hid (Below w.heap.size w w3) := Lib.hid (below_steps HB.out hb3)
  clear hb3 HF g0 g1 g2
  clear HQ
  by_cases q4 : s = 0
  rotate_left
  · have t4 : decide (0 < s) = true := decide_eq_true (by omega)
    have Q := Lib.hid q4
    clear q4
    go_wp2_with fail
    go_ret
    exact ⟨false, rfl, ⟨fun h => (by cases h), fun h => (by have h1 := (HP.out.1 h).2.2.1; have := Q.out; omega)⟩, HB.out⟩
  have t4 : decide (0 < s) = false := decide_eq_false (by omega)
  have Q4 := Lib.hid q4
  clear q4
  by_cases r0 : at' = 1
  · subst r0
    go_wp2_with fail
    go_ret
    exact ⟨true, rfl, ⟨fun _ => HP.out.2 ⟨Q0.out, by trivial, Q4.out, by simp [AtOk]⟩, fun _ => rfl⟩, HB.out⟩
  by_cases r1 : at' = 2
  · subst r1
    go_wp2_with fail
    go_ret
    exact ⟨true, rfl, ⟨fun _ => HP.out.2 ⟨Q0.out, by trivial, Q4.out, by simp [AtOk]⟩, fun _ => rfl⟩, HB.out⟩
  by_cases r2 : at' = 4
  · subst r2
    go_wp2_with fail
    go_ret
    exact ⟨true, rfl, ⟨fun _ => HP.out.2 ⟨Q0.out, by trivial, Q4.out, by simp [AtOk]⟩, fun _ => rfl⟩, HB.out⟩
  by_cases r3 : at' = 8
  · subst r3
    go_wp2_with fail
    go_ret
    exact ⟨true, rfl, ⟨fun _ => HP.out.2 ⟨Q0.out, by trivial, Q4.out, by simp [AtOk]⟩, fun _ => rfl⟩, HB.out⟩
  by_cases r4 : at' = 16
  · subst r4
    go_wp2_with fail
    go_ret
    exact ⟨true, rfl, ⟨fun _ => HP.out.2 ⟨Q0.out, by trivial, Q4.out, by simp [AtOk]⟩, fun _ => rfl⟩, HB.out⟩
  by_cases r5 : at' = 32
  · subst r5
    go_wp2_with fail
    go_ret
    exact ⟨true, rfl, ⟨fun _ => HP.out.2 ⟨Q0.out, by trivial, Q4.out, by simp [AtOk]⟩, fun _ => rfl⟩, HB.out⟩
  have hno : ¬ AtOk at' := by simp [AtOk, r0, r1, r2, r3, r4, r5]
  have HNO := Lib.hid hno
  have v0 : (at' == 1) = false := beq_eq_false_iff_ne.2 r0
  have v1 : (at' == 2) = false := beq_eq_false_iff_ne.2 r1
  have v2 : (at' == 4) = false := beq_eq_false_iff_ne.2 r2
  have v3 : (at' == 8) = false := beq_eq_false_iff_ne.2 r3
  have v4 : (at' == 16) = false := beq_eq_false_iff_ne.2 r4
  have v5 : (at' == 32) = false := beq_eq_false_iff_ne.2 r5
  clear hno r0 r1 r2 r3 r4 r5
  go_wp2_with fail
  go_ret
  exact ⟨false, rfl, ⟨fun h => (by cases h), fun h => absurd (HP.out.1 h).2.2.2 HNO.out⟩, HB.out⟩
set_option maxHeartbeats 1600000 in
set_option maxRecDepth 100000 in
theorem rinst0 (p : Pg) (x : Ins) (v u : Value) (w : World) (h : PgV w p v) (g : InsV w x u) (ho : x.op ≠ 1 ∧ x.op ≠ 2 ∧ x.op ≠ 3 ∧ x.op ≠ 4 ∧ x.op ≠ 5 ∧ x.op ≠ 6) : Calls Try.prog 103 #[v, u] w (SaysG (SoundI p.ins.length p.caps x) w) := by
  obtain ⟨A, n, c, hn, rfl, hI, hs, hc, hnb⟩ := h.opened
  obtain ⟨a, c2, rfl, hR, hbd⟩ := g
  obtain ⟨op, out, arg, set, at'⟩ := x
  simp only at ho
  have HO := Lib.hid ho
  simp only [insC] at hR ⊢
  obtain ⟨w1, hw1⟩ : ∃ w1, w.alloc (.cells #[.slice A n c, .int .i64 p.start, .int .i64 p.caps] 58) = w1 := ⟨_, rfl⟩
  obtain ⟨hb1, e0, e1, e2, hz1⟩ := box3_new w _ _ _ _ hw1
  obtain ⟨s, hs0⟩ : ∃ s, set.length = s := ⟨_, rfl⟩
  have hsb : s ≤ 9223372036854775807 := by
    obtain ⟨_, _, e, q1, q2, _⟩ := hR
    injection e with _ e2 e3
    unfold maxLen at q2
    omega
  rw [hs0] at hR ⊢
  obtain ⟨w2, hw2⟩ : ∃ w2, w1.alloc (.cells #[.int .i64 op, .int .i64 out, .int .i64 arg, .slice a s c2, .int .i64 at'] 95) = w2 := ⟨_, rfl⟩
  obtain ⟨hb2, ⟨f0, f1, f2, f3, f4⟩, hz2⟩ := box5_new w1 _ _ _ _ _ _ hw2
  have g0 := cell_on hb2 e0
  have g1 := cell_on hb2 e1
  have g2 := cell_on hb2 e2
  have hb := below_steps hb1 hb2
  rw [hz1] at f0 f1 f2 f3 f4
  have HB := Lib.hid hb; have HW1 := Lib.hid hw1; have HW2 := Lib.hid hw2
  have HRG := Lib.hid (rright_any _ set w2 (hR.below hb))
  have HF : Hid (∀ q, (w2.drewN q).cell? ⟨w.heap.size + 1, 0, none⟩ = some (.int .i64 op) ∧ (w2.drewN q).cell? ⟨w.heap.size + 1, 1, none⟩ = some (.int .i64 out) ∧ (w2.drewN q).cell? ⟨w.heap.size + 1, 2, none⟩ = some (.int .i64 arg) ∧ (w2.drewN q).cell? ⟨w.heap.size + 1, 3, none⟩ = some (.slice a s c2) ∧ (w2.drewN q).cell? ⟨w.heap.size + 1, 4, none⟩ = some (.int .i64 at')) := Lib.hid fun q => ⟨f0, f1, f2, f3, f4⟩
  have HS1 : Hid (∀ (k out arg at' : Int), k = 1 ∨ k = 6 → (SoundI n p.caps ⟨k, out, arg, set, at'⟩ ↔ out = 0 ∧ arg = 0 ∧ s = 0 ∧ at' = 0)) := Lib.hid fun k out arg at' h => by rw [← hs0]; exact sound_one n _ _ _ _ _ _ h
  have HS2 : Hid (∀ (out arg at' : Int), (SoundI n p.caps ⟨2, out, arg, set, at'⟩ ↔ (0 ≤ out ∧ out < n) ∧ arg = 0 ∧ (s ≠ 0 ∧ RightR set) ∧ at' = 0)) := Lib.hid fun out arg at' => by rw [← hs0]; exact sound_set n _ _ _ _ _
  have HS3 : Hid (∀ (out arg at' : Int), (SoundI n p.caps ⟨3, out, arg, set, at'⟩ ↔ (0 ≤ out ∧ out < n) ∧ (0 ≤ arg ∧ arg < n) ∧ s = 0 ∧ at' = 0)) := Lib.hid fun out arg at' => by rw [← hs0]; exact sound_alt n _ _ _ _ _
  have HS4 : Hid (∀ (out arg at' : Int), (SoundI n p.caps ⟨4, out, arg, set, at'⟩ ↔ (0 ≤ out ∧ out < n) ∧ (2 ≤ arg ∧ arg < p.caps) ∧ s = 0 ∧ at' = 0)) := Lib.hid fun out arg at' => by rw [← hs0]; exact sound_cap n _ _ _ _ _
  have HS5 : Hid (∀ (out arg at' : Int), (SoundI n p.caps ⟨5, out, arg, set, at'⟩ ↔ (0 ≤ out ∧ out < n) ∧ arg = 0 ∧ s = 0 ∧ AtOk at')) := Lib.hid fun out arg at' => by rw [← hs0]; exact sound_at n _ _ _ _ _
  rw [hn]
  obtain ⟨P, hP⟩ : ∃ P, SoundI n p.caps ⟨op, out, arg, set, at'⟩ = P := ⟨_, rfl⟩
  have HPP := Lib.hid hP
  rw [hP]
  clear hn hI hs hc hbd hR hw1 hw2 hb1 hb2 hb hz1 hz2 hs0 hP e0 e1 e2 h
  go_enter Try.func103, Try.ntmps103
  go_upto_region 1 with (fail)
  rw [HW1.out, HW2.out]
  have HNO : Hid (¬ P) := Lib.hid (HPP.out ▸ sound_none n p.caps op out arg at' set HO.out)
  clear HPP HS1 HS2 HS3 HS4 HS5 HRG HF
  by_cases r0 : op < 1
  · have t0 : decide (op < 1) = true := decide_eq_true r0
    clear ho HO
    go_wp2_with fail
    go_ret
    exact ⟨false, rfl, ⟨fun h => (by cases h), fun h => absurd h HNO.out⟩, HB.out⟩
  have t0 : decide (op < 1) = false := decide_eq_false r0
  have r1 : 6 < op := by omega
  have t1 : decide (6 < op) = true := decide_eq_true r1
  clear ho HO
  go_wp2_with fail
  go_ret
  exact ⟨false, rfl, ⟨fun h => (by cases h), fun h => absurd h HNO.out⟩, HB.out⟩
theorem rinst_any (p : Pg) (x : Ins) (v u : Value) (w : World) (h : PgV w p v) (g : InsV w x u) : Calls Try.prog 103 #[v, u] w (SaysG (SoundI p.ins.length p.caps x) w) := by
  by_cases o1 : x.op = 1
  · exact rinst1 p x v u w h g o1
  by_cases o2 : x.op = 2
  · exact rinst2 p x v u w h g o2
  by_cases o3 : x.op = 3
  · exact rinst3 p x v u w h g o3
  by_cases o4 : x.op = 4
  · exact rinst4 p x v u w h g o4
  by_cases o5 : x.op = 5
  · exact rinst5 p x v u w h g o5
  by_cases o6 : x.op = 6
  · exact rinst6 p x v u w h g o6
  exact rinst0 p x v u w h g ⟨o1, o2, o3, o4, o5, o6⟩
end Go.Proofs.Ytnemacejaiifnaa
/- The document's Check, at any program. -/
namespace Go.Proofs.Ytnemacejaiifnaa
open Go Go.RowKit

def CheckG (p : Pg) (w : World) (e : Ending) (w' : World) : Prop := ∃ r : Int, e = .returned (.int .i64 r) ∧ (r = 0 ∧ RightPg p ∨ r = 121 ∧ ¬ RightPg p) ∧ Below w.heap.size w w'
set_option maxHeartbeats 1600000 in
set_option maxRecDepth 100000 in
theorem rcheck_any (p : Pg) (v : Value) (w : World) (h : PgV w p v) : Calls Try.prog 55 #[v] w (CheckG p w) := by
  have H0 := Lib.hid h
  obtain ⟨A, n, c, hn, rfl, hI, hs, hc, hnb⟩ := h.opened
  obtain ⟨w1, hw1⟩ : ∃ w1, w.alloc (.cells #[.slice A n c, .int .i64 p.start, .int .i64 p.caps] 58) = w1 := ⟨_, rfl⟩
  obtain ⟨hb1, e0, e1, e2, hz1⟩ := box3_new w _ _ _ _ hw1
  have HIN := Lib.hid fun (x : Ins) (v : Value) (W : World) (hW : Below w.heap.size w W) (hx : InsV W x v) => rinst_any p x _ v W (H0.out.below hW) hx
  have HIS := Lib.hid hI
  obtain ⟨P, hP⟩ : ∃ P, RightPg p = P := ⟨_, rfl⟩
  have HP : Hid (P ↔ 1 ≤ n ∧ n ≤ 10000 ∧ 0 ≤ p.start ∧ p.start < n ∧ 2 ≤ p.caps ∧ p.caps ≤ 4002 ∧ p.caps % 2 = 0 ∧ ∀ x ∈ p.ins, SoundI p.ins.length p.caps x) := Lib.hid (by
    rw [← hP, ← hn]
    unfold RightPg PlaceI
    constructor
    · rintro ⟨h0, h1, ⟨h2, h7⟩, h3, h4, h5, h6⟩
      exact ⟨h0, h1, h2, h7, h3, h4, h5, h6⟩
    · rintro ⟨h0, h1, h2, h7, h3, h4, h5, h6⟩
      exact ⟨h0, h1, ⟨h2, h7⟩, h3, h4, h5, h6⟩)
  unfold CheckG
  rw [hP]
  have HF : Hid (∀ W, Below w1.heap.size w1 W → W.cell? ⟨w.heap.size, 0, none⟩ = some (.slice A n c) ∧ W.cell? ⟨w.heap.size, 1, none⟩ = some (.int .i64 p.start) ∧ W.cell? ⟨w.heap.size, 2, none⟩ = some (.int .i64 p.caps)) := Lib.hid fun W hW => ⟨cell_on hW e0, cell_on hW e1, cell_on hW e2⟩
  have HB1 := Lib.hid hb1; have HW1 := Lib.hid hw1; have HN := Lib.hid hn; have HST := Lib.hid hs; have HCP := Lib.hid hc
  clear h hI hs hc hw1 hb1 hz1 hP hn
  go_enter Try.func55, Try.ntmps55
  go_upto_region 1 with (fail)
  rw [HW1.out]
  by_cases q0 : 1 ≤ n
  rotate_left
  · have d0 : decide ((n : Int) < 1) = true := decide_eq_true (by omega)
    have Q := Lib.hid q0
    clear q0
    go_wp2_with fail
    go_ret
    exact ⟨121, rfl, .inr ⟨rfl, fun h => (by have := (HP.out.1 h).1; have := Q.out; omega)⟩, HB1.out⟩
  have d0 : decide ((n : Int) < 1) = false := decide_eq_false (by omega)
  by_cases q1 : n ≤ 10000
  rotate_left
  · have d1 : decide ((10000 : Int) < (n : Int)) = true := decide_eq_true (by omega)
    have Q := Lib.hid q1; have Q0 := Lib.hid q0
    clear q1 q0
    go_wp2_with fail
    go_ret
    exact ⟨121, rfl, .inr ⟨rfl, fun h => (by have := (HP.out.1 h).2.1; have := Q.out; omega)⟩, HB1.out⟩
  have d1 : decide ((10000 : Int) < (n : Int)) = false := decide_eq_false (by omega)
  have Q0 := Lib.hid q0; have Q1 := Lib.hid q1
  clear q0 q1
  by_cases q2 : 0 ≤ p.start
  rotate_left
  · have d2 : decide (p.start < 0) = true := decide_eq_true (by omega)
    have Q := Lib.hid q2
    clear q2
    go_wp2_with fail
    go_ret
    exact ⟨121, rfl, .inr ⟨rfl, fun h => (by have := (HP.out.1 h).2.2.1; have := Q.out; omega)⟩, HB1.out⟩
  have d2 : decide (p.start < 0) = false := decide_eq_false (by omega)
  have Q2 := Lib.hid q2
  clear q2
  by_cases q3 : p.start < n
  rotate_left
  · have d3 : decide ((n : Int) ≤ p.start) = true := decide_eq_true (by omega)
    have Q := Lib.hid q3
    clear q3
    go_wp2_with fail
    go_ret
    exact ⟨121, rfl, .inr ⟨rfl, fun h => (by have := (HP.out.1 h).2.2.2.1; have := Q.out; omega)⟩, HB1.out⟩
  have d3 : decide ((n : Int) ≤ p.start) = false := decide_eq_false (by omega)
  have Q3 := Lib.hid q3
  clear q3
  by_cases q4 : 2 ≤ p.caps
  rotate_left
  · have d4 : decide (p.caps < 2) = true := decide_eq_true (by omega)
    have Q := Lib.hid q4
    clear q4
    go_wp2_with fail
    go_ret
    exact ⟨121, rfl, .inr ⟨rfl, fun h => (by have := (HP.out.1 h).2.2.2.2.1; have := Q.out; omega)⟩, HB1.out⟩
  have d4 : decide (p.caps < 2) = false := decide_eq_false (by omega)
  by_cases q5 : p.caps ≤ 4002
  rotate_left
  · have d5 : decide (4002 < p.caps) = true := decide_eq_true (by omega)
    have Q := Lib.hid q5; have Q4 := Lib.hid q4
    clear q5 q4
    go_wp2_with fail
    go_ret
    exact ⟨121, rfl, .inr ⟨rfl, fun h => (by have := (HP.out.1 h).2.2.2.2.2.1; have := Q.out; omega)⟩, HB1.out⟩
  have d5 : decide (4002 < p.caps) = false := decide_eq_false (by omega)
  by_cases q6 : p.caps % 2 = 0
  rotate_left
  · have d6 : (p.caps % 2 != 0) = true := by simpa using q6
    have d7 : (p.caps.tmod 2 != 0) = true := by rw [Int.tmod_eq_emod_of_nonneg (by omega)]; exact d6
    have Q := Lib.hid q6; have Q5 := Lib.hid q5; have Q4 := Lib.hid q4
    clear q5 q4 q6
    go_wp2_with fail
    go_ret
    exact ⟨121, rfl, .inr ⟨rfl, fun h => absurd (HP.out.1 h).2.2.2.2.2.2.1 Q.out⟩, HB1.out⟩
  have d6 : (p.caps % 2 != 0) = false := by simpa using q6
  have d7 : (p.caps.tmod 2 != 0) = false := by rw [Int.tmod_eq_emod_of_nonneg (by omega)]; exact d6
  have Q4 := Lib.hid q4; have Q5 := Lib.hid q5; have Q6 := Lib.hid q6
  clear q4 q5 q6
  go_wp2_with fail
  clear d0 d1 d2 d3 d4 d5 d6 d7 e0 e1 e2
  go_loopw [4] (fun i wr => ∃ k : Nat, k ≤ n ∧ i = .int .i64 k ∧ Below w1.heap.size w1 wr ∧ ∀ (j : Nat) (hj : j < p.ins.length), j < k → SoundI p.ins.length p.caps p.ins[j]) (fun i _ => n - (intOf i).toNat)
  case atStart => exact ⟨0, Nat.zero_le _, rfl, Below.refl _ _, fun j hj h => by omega⟩
  case round =>
    obtain ⟨k, hk, rfl, hB, hall⟩ := hrel
    have HB := Lib.hid hB; have HALL := Lib.hid hall
    have hKw := HIS.out.below (below_steps HB1.out hB)
    obtain ⟨e0, e1, e2⟩ := HF.out wr hB
    clear hB hall
    by_cases hkn : k < n
    · have hkl : k < p.ins.length := by rw [HN.out]; exact hkn
      obtain ⟨b, o, x, a2, s, c2, rfl, hx, hm, -, -, ⟨k0, k1, k2, k3, k4⟩, -, -, hIV⟩ := hKw.at' k hkl
      have HI := Lib.hid fun W (hW : Below wr.heap.size wr W) => HIN.out x _ W (below_steps (below_steps HB1.out HB.out) hW) (hIV.below hW)
      have HTK := Lib.hid hx; have HKL := Lib.hid hkl; have HM := Lib.hid hm
      clear hKw hx hm hIV
      go_wp2_with fail
      go_region_with (go_at_call 103; (with_reducible refine (HI.out _ ?_).mono ?_); exact (Below.refl _ _).drew; rintro e w4 ⟨B, rfl, hq, hb⟩; have hb := below_of_drew hb)
      all_goals
        have HB4 : Hid (Below w1.heap.size w1 w4) := Lib.hid (below_steps HB.out hb)
        have HQ := Lib.hid hq
        clear hb hq HI k0 k1 k2 k3 k4 e0 e1 e2
        cases B
        · have Q := Lib.hid (mt HQ.out.2 Bool.false_ne_true)
          clear HQ
          go_wp2_with fail
          go_ret
          exact ⟨121, rfl, .inr ⟨rfl, fun h => Q.out ((HP.out.1 h).2.2.2.2.2.2.2 x HM.out)⟩, below_steps HB1.out HB4.out⟩
        · have Q := Lib.hid (HQ.out.1 rfl)
          clear HQ
          go_wp2_with fail
          go_roundw
          case rel =>
            refine ⟨k + 1, by omega, by go_num, HB4.out, fun j hj hjk => ?_⟩
            by_cases hjk2 : j < k
            · exact HALL.out j hj hjk2
            · obtain rfl : j = k := by omega
              rw [HTK.out]
              exact Q.out
          case measure => simp [intOf]; omega
    · have hall : P := HP.out.2 ⟨Q0.out, Q1.out, Q2.out, Q3.out, Q4.out, Q5.out, Q6.out, fun x hx => by
        obtain ⟨j, hj, rfl⟩ := List.mem_iff_getElem.1 hx
        exact HALL.out j hj (by have := HN.out; omega)⟩
      have HAL := Lib.hid hall
      clear hall hKw
      go_wp2_with fail
      go_ret
      exact ⟨0, rfl, .inl ⟨rfl, HAL.out⟩, below_steps HB1.out HB.out⟩
end Go.Proofs.Ytnemacejaiifnaa
/- The document's walk from one instruction. -/
namespace Go.Proofs.Ytnemacejaiifnaa
open Go Go.RowKit

def natsZ (l : List Nat) : List Int := l.map fun i : Nat => (i : Int)
/-- Is an instruction's At in what the place is? -/
def meetsI (at' a : Int) : Bool := bits .and .i64 at' a != 0
theorem and_swap (a b : Int) : bits .and .i64 a b = bits .and .i64 b a := by
  show IntKind.i64.wrap ((BitVec.ofInt 64 a &&& BitVec.ofInt 64 b).toNat : Int) = IntKind.i64.wrap ((BitVec.ofInt 64 b &&& BitVec.ofInt 64 a).toNat : Int)
  rw [BitVec.and_comm]
section
variable {W0 W W' : World} {q g : Nat} {IV : Value} {p : Pg} {n : Nat} {at' : Int} {long : Bool} {lv : Value} {s : Wk}
theorem set_map (l : List Bool) (i : Nat) (b : Bool) : ((l.map Value.bool).toArray.setIfInBounds i (.bool b)) = ((l.set i b).map Value.bool).toArray := by
  simp [List.map_set]
theorem own_set {B : Nat} {v : Value} {l : List Int} (h : OwnZ W B v l) (k j : Nat) (u : Value) (hne : v.ownBlock ≠ some k) : OwnZ (W.setCell ⟨k, j, none⟩ u) B v l := by
  refine ⟨⟨h.1.1, ?_⟩, h.2⟩
  rcases h.1.2 with hn | ⟨a, cap, cur, rfl, hb, hh, rest⟩
  · exact .inl hn
  · refine .inr ⟨a, cap, cur, rfl, hb, ?_, rest⟩
    rw [Below.heap_setCell _ _ _ _ (by intro e1; exact hne (by simp [Value.ownBlock, e1]))]
    exact hh
theorem mark_few (pc : Nat) (hn : newI s pc = true) : (s.seen.set pc true).count false + 1 = s.seen.count false := left_visit s pc zeroI hn
end
/-- Instructions that lie as values of their own stay. -/
def KeepsI (W W' : World) : Prop := ∀ (k : Nat) (cs : Array Value), Whole W k 95 cs → Whole W' k 95 cs
theorem KeepsI.trans {A B C : World} (h : KeepsI A B) (k : KeepsI B C) : KeepsI A C := fun j cs hj => k j cs (h j cs hj)
theorem keepsI_below {W W' : World} (h : Below W.heap.size W W') : KeepsI W W' := fun k cs hk => hk.below h hk.lt
theorem keepsI_set {W : World} {b : Nat} {t : TypeId} {cs : Array Value} (h : Whole W b t cs) (hne : t ≠ 95) (j : Nat) (u : Value) : KeepsI W (W.setCell ⟨b, j, none⟩ u) := fun k xs hk => hk.far (by
  rintro rfl
  unfold Whole at h hk
  rw [h] at hk
  injection hk with e
  injection e with _ e2
  exact hne e2) j u
theorem own_ge {W : World} {B : Nat} {v : Value} {l : List Int} (h : OwnZ W B v l) {j : Nat} (hj : v.ownBlock = some j) : B ≤ j := by
  rcases h.1.2 with ⟨rfl, _⟩ | ⟨a, cap, cur, rfl, hb, _⟩
  · simp [Value.ownBlock] at hj
  · simp [Value.ownBlock] at hj
    omega
theorem keepsI_grown {W W' : World} {B : Nat} {v : Value} {l : List Int} (h : OwnZ W B v l) (hg : W.grownBy W' v.ownBlock) : KeepsI W W' := fun k cs hk => hk.grown hg (own_whole_ne h.1 hk (by decide))
theorem walk_left {meets : Int → Bool} {long : Bool} {I : List Ins} (st : List Nat) (s : Wk) : leftI (walkI meets long I st s) ≤ leftI s :=
  walk_keep (meets := meets) (long := long) (I := I) (fun _ t => leftI t ≤ leftI s) (fun t => leftI t ≤ leftI s) (fun _ h => h) (fun _ _ _ h _ => h) (fun pc _ t h hn _ => by have := left_visit t pc (atI I pc) hn; omega) _ st s rfl (Nat.le_refl _)
end Go.Proofs.Ytnemacejaiifnaa
