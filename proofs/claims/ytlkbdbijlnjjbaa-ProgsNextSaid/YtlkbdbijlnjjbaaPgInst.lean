/- The document's inst and Check, at any program. -/
import Derived.Test.YtlkbdbijlnjjbaaPgRight
import Derived.Test.YtlkbdbijlnjjbaaRRight
set_option linter.unusedVariables false
namespace Go.Proofs.Ytlkbdbijlnjjbaa
open Go Go.RowKit

set_option maxHeartbeats 1600000 in
set_option maxRecDepth 100000 in
theorem rinst1 (p : Pg) (x : Ins) (v u : Value) (w : World) (h : PgV w p v) (g : InsV w x u) (ho : x.op = 1) : Calls Try.prog 28 #[v, u] w (SaysG (SoundI p.ins.length p.caps x) w) := by
  obtain ⟨A, n, c, hn, rfl, hI, hs, hc, hnb⟩ := h.opened
  obtain ⟨a, c2, rfl, hR, hbd⟩ := g
  obtain ⟨op, out, arg, set, at'⟩ := x
  simp only at ho
  subst ho
  simp only [insC] at hR ⊢
  obtain ⟨w1, hw1⟩ : ∃ w1, w.alloc (.cells #[.slice A n c, .int .i64 p.start, .int .i64 p.caps] 24) = w1 := ⟨_, rfl⟩
  obtain ⟨hb1, e0, e1, e2, hz1⟩ := box3_new w _ _ _ _ hw1
  obtain ⟨s, hs0⟩ : ∃ s, set.length = s := ⟨_, rfl⟩
  have hsb : s ≤ 9223372036854775807 := by
    obtain ⟨_, _, e, q1, q2, _⟩ := hR
    injection e with _ e2 e3
    unfold maxLen at q2
    omega
  rw [hs0] at hR ⊢
  obtain ⟨w2, hw2⟩ : ∃ w2, w1.alloc (.cells #[.int .i64 1, .int .i64 out, .int .i64 arg, .slice a s c2, .int .i64 at'] 46) = w2 := ⟨_, rfl⟩
  obtain ⟨hb2, ⟨f0, f1, f2, f3, f4⟩, hz2⟩ := box5_new w1 _ _ _ _ _ _ hw2
  have g0 := cell_on hb2 e0
  have g1 := cell_on hb2 e1
  have g2 := cell_on hb2 e2
  have hb := below_steps hb1 hb2
  rw [hz1] at f0 f1 f2 f3 f4
  have HB := Lib.hid hb; have HW1 := Lib.hid hw1; have HW2 := Lib.hid hw2
  have HRG := Lib.hid (rright_any _ set w2 (hR.below hb))
  have HF : Hid (∀ q, (w2.drewN q).cell? ⟨w.heap.size + 1, 0, none⟩ = some (.int .i64 1) ∧ (w2.drewN q).cell? ⟨w.heap.size + 1, 1, none⟩ = some (.int .i64 out) ∧ (w2.drewN q).cell? ⟨w.heap.size + 1, 2, none⟩ = some (.int .i64 arg) ∧ (w2.drewN q).cell? ⟨w.heap.size + 1, 3, none⟩ = some (.slice a s c2) ∧ (w2.drewN q).cell? ⟨w.heap.size + 1, 4, none⟩ = some (.int .i64 at')) := Lib.hid fun q => ⟨f0, f1, f2, f3, f4⟩
  have HS1 : Hid (∀ (k out arg at' : Int), k = 1 ∨ k = 6 → (SoundI n p.caps ⟨k, out, arg, set, at'⟩ ↔ out = 0 ∧ arg = 0 ∧ s = 0 ∧ at' = 0)) := Lib.hid fun k out arg at' h => by rw [← hs0]; exact sound_one n _ _ _ _ _ _ h
  have HS2 : Hid (∀ (out arg at' : Int), (SoundI n p.caps ⟨2, out, arg, set, at'⟩ ↔ (0 ≤ out ∧ out < n) ∧ arg = 0 ∧ (s ≠ 0 ∧ RightR set) ∧ at' = 0)) := Lib.hid fun out arg at' => by rw [← hs0]; exact sound_set n _ _ _ _ _
  have HS3 : Hid (∀ (out arg at' : Int), (SoundI n p.caps ⟨3, out, arg, set, at'⟩ ↔ (0 ≤ out ∧ out < n) ∧ (0 ≤ arg ∧ arg < n) ∧ s = 0 ∧ at' = 0)) := Lib.hid fun out arg at' => by rw [← hs0]; exact sound_alt n _ _ _ _ _
  have HS4 : Hid (∀ (out arg at' : Int), (SoundI n p.caps ⟨4, out, arg, set, at'⟩ ↔ (0 ≤ out ∧ out < n) ∧ (2 ≤ arg ∧ arg < p.caps) ∧ s = 0 ∧ at' = 0)) := Lib.hid fun out arg at' => by rw [← hs0]; exact sound_cap n _ _ _ _ _
  have HS5 : Hid (∀ (out arg at' : Int), (SoundI n p.caps ⟨5, out, arg, set, at'⟩ ↔ (0 ≤ out ∧ out < n) ∧ arg = 0 ∧ s = 0 ∧ AtOk at')) := Lib.hid fun out arg at' => by rw [← hs0]; exact sound_at n _ _ _ _ _
  rw [hn]
  obtain ⟨P, hP⟩ : ∃ P, SoundI n p.caps ⟨1, out, arg, set, at'⟩ = P := ⟨_, rfl⟩
  have HPP := Lib.hid hP
  rw [hP]
  clear hn hI hs hc hbd hR hw1 hw2 hb1 hb2 hb hz1 hz2 hs0 hP e0 e1 e2 h
  go_enter Try.func28, Try.ntmps28
  go_upto_region 1 with (fail)
  rw [HW1.out, HW2.out]
  have HP := Lib.hid ((HPP.out ▸ HS1.out 1 out arg at' (by decide)) : P ↔ _)
  clear HPP HS1 HS2 HS3 HS4 HS5
  by_cases q0 : out = 0
  rotate_left
  · have t0 : (out != 0) = true := by simpa using q0
    have Q := Lib.hid q0
    clear q0
    go_wp2_with fail
    go_ret
    exact ⟨false, rfl, ⟨fun h => (by cases h), fun h => (by have h1 := (HP.out.1 h).1; have := Q.out; omega)⟩, HB.out⟩
  subst q0
  by_cases q2 : arg = 0
  rotate_left
  · have t2 : (arg != 0) = true := by simpa using q2
    have Q := Lib.hid q2
    clear q2
    go_wp2_with fail
    go_ret
    exact ⟨false, rfl, ⟨fun h => (by cases h), fun h => (by have h1 := (HP.out.1 h).2.1; have := Q.out; omega)⟩, HB.out⟩
  subst q2
  go_wp2_with fail
  refine HRG.out.mono ?_
  rintro e w3 ⟨B, rfl, hq, q, rfl⟩
  have HQ := Lib.hid hq
  have hb3 := below_draws w2 q
  clear hq HRG f0 f1 f2 f3 f4
  obtain ⟨f0, f1, f2, f3, f4⟩ := HF.out q
  generalize w2.drewN q = w3 at hb3 f0 f1 f2 f3 f4 ⊢
  have HB : Hid (Below w.heap.size w w3) := Lib.hid (below_steps HB.out hb3)
  clear hb3 HF g0 g1 g2
  clear HQ
  by_cases q4 : s = 0
  rotate_left
  · have t4 : decide (0 < s) = true := decide_eq_true (by omega)
    have Q := Lib.hid q4
    clear q4
    go_wp2_with fail
    go_ret
    exact ⟨false, rfl, ⟨fun h => (by cases h), fun h => (by have h1 := (HP.out.1 h).2.2.1; have := Q.out; omega)⟩, HB.out⟩
  have t4 : decide (0 < s) = false := decide_eq_false (by omega)
  have Q4 := Lib.hid q4
  clear q4
  by_cases q5 : at' = 0
  rotate_left
  · have t5 : (at' == 0) = false := beq_eq_false_iff_ne.2 q5
    have Q := Lib.hid q5
    clear q5
    go_wp2_with fail
    go_ret
    exact ⟨false, rfl, ⟨fun h => (by cases h), fun h => (by have h1 := (HP.out.1 h).2.2.2; have := Q.out; omega)⟩, HB.out⟩
  subst q5
  go_wp2_with fail
  go_ret
  exact ⟨true, rfl, ⟨fun _ => HP.out.2 ⟨by trivial, by trivial, Q4.out, by trivial⟩, fun _ => rfl⟩, HB.out⟩
set_option maxHeartbeats 1600000 in
set_option maxRecDepth 100000 in
theorem rinst6 (p : Pg) (x : Ins) (v u : Value) (w : World) (h : PgV w p v) (g : InsV w x u) (ho : x.op = 6) : Calls Try.prog 28 #[v, u] w (SaysG (SoundI p.ins.length p.caps x) w) := by
  obtain ⟨A, n, c, hn, rfl, hI, hs, hc, hnb⟩ := h.opened
  obtain ⟨a, c2, rfl, hR, hbd⟩ := g
  obtain ⟨op, out, arg, set, at'⟩ := x
  simp only at ho
  subst ho
  simp only [insC] at hR ⊢
  obtain ⟨w1, hw1⟩ : ∃ w1, w.alloc (.cells #[.slice A n c, .int .i64 p.start, .int .i64 p.caps] 24) = w1 := ⟨_, rfl⟩
  obtain ⟨hb1, e0, e1, e2, hz1⟩ := box3_new w _ _ _ _ hw1
  obtain ⟨s, hs0⟩ : ∃ s, set.length = s := ⟨_, rfl⟩
  have hsb : s ≤ 9223372036854775807 := by
    obtain ⟨_, _, e, q1, q2, _⟩ := hR
    injection e with _ e2 e3
    unfold maxLen at q2
    omega
  rw [hs0] at hR ⊢
  obtain ⟨w2, hw2⟩ : ∃ w2, w1.alloc (.cells #[.int .i64 6, .int .i64 out, .int .i64 arg, .slice a s c2, .int .i64 at'] 46) = w2 := ⟨_, rfl⟩
  obtain ⟨hb2, ⟨f0, f1, f2, f3, f4⟩, hz2⟩ := box5_new w1 _ _ _ _ _ _ hw2
  have g0 := cell_on hb2 e0
  have g1 := cell_on hb2 e1
  have g2 := cell_on hb2 e2
  have hb := below_steps hb1 hb2
  rw [hz1] at f0 f1 f2 f3 f4
  have HB := Lib.hid hb; have HW1 := Lib.hid hw1; have HW2 := Lib.hid hw2
  have HRG := Lib.hid (rright_any _ set w2 (hR.below hb))
  have HF : Hid (∀ q, (w2.drewN q).cell? ⟨w.heap.size + 1, 0, none⟩ = some (.int .i64 6) ∧ (w2.drewN q).cell? ⟨w.heap.size + 1, 1, none⟩ = some (.int .i64 out) ∧ (w2.drewN q).cell? ⟨w.heap.size + 1, 2, none⟩ = some (.int .i64 arg) ∧ (w2.drewN q).cell? ⟨w.heap.size + 1, 3, none⟩ = some (.slice a s c2) ∧ (w2.drewN q).cell? ⟨w.heap.size + 1, 4, none⟩ = some (.int .i64 at')) := Lib.hid fun q => ⟨f0, f1, f2, f3, f4⟩
  have HS1 : Hid (∀ (k out arg at' : Int), k = 1 ∨ k = 6 → (SoundI n p.caps ⟨k, out, arg, set, at'⟩ ↔ out = 0 ∧ arg = 0 ∧ s = 0 ∧ at' = 0)) := Lib.hid fun k out arg at' h => by rw [← hs0]; exact sound_one n _ _ _ _ _ _ h
  have HS2 : Hid (∀ (out arg at' : Int), (SoundI n p.caps ⟨2, out, arg, set, at'⟩ ↔ (0 ≤ out ∧ out < n) ∧ arg = 0 ∧ (s ≠ 0 ∧ RightR set) ∧ at' = 0)) := Lib.hid fun out arg at' => by rw [← hs0]; exact sound_set n _ _ _ _ _
  have HS3 : Hid (∀ (out arg at' : Int), (SoundI n p.caps ⟨3, out, arg, set, at'⟩ ↔ (0 ≤ out ∧ out < n) ∧ (0 ≤ arg ∧ arg < n) ∧ s = 0 ∧ at' = 0)) := Lib.hid fun out arg at' => by rw [← hs0]; exact sound_alt n _ _ _ _ _
  have HS4 : Hid (∀ (out arg at' : Int), (SoundI n p.caps ⟨4, out, arg, set, at'⟩ ↔ (0 ≤ out ∧ out < n) ∧ (2 ≤ arg ∧ arg < p.caps) ∧ s = 0 ∧ at' = 0)) := Lib.hid fun out arg at' => by rw [← hs0]; exact sound_cap n _ _ _ _ _
  have HS5 : Hid (∀ (out arg at' : Int), (SoundI n p.caps ⟨5, out, arg, set, at'⟩ ↔ (0 ≤ out ∧ out < n) ∧ arg = 0 ∧ s = 0 ∧ AtOk at')) := Lib.hid fun out arg at' => by rw [← hs0]; exact sound_at n _ _ _ _ _
  rw [hn]
  obtain ⟨P, hP⟩ : ∃ P, SoundI n p.caps ⟨6, out, arg, set, at'⟩ = P := ⟨_, rfl⟩
  have HPP := Lib.hid hP
  rw [hP]
  clear hn hI hs hc hbd hR hw1 hw2 hb1 hb2 hb hz1 hz2 hs0 hP e0 e1 e2 h
  go_enter Try.func28, Try.ntmps28
  go_upto_region 1 with (fail)
  rw [HW1.out, HW2.out]
  have HP := Lib.hid ((HPP.out ▸ HS1.out 6 out arg at' (by decide)) : P ↔ _)
  clear HPP HS1 HS2 HS3 HS4 HS5
  by_cases q0 : out = 0
  rotate_left
  · have t0 : (out != 0) = true := by simpa using q0
    have Q := Lib.hid q0
    clear q0
    go_wp2_with fail
    go_ret
    exact ⟨false, rfl, ⟨fun h => (by cases h), fun h => (by have h1 := (HP.out.1 h).1; have := Q.out; omega)⟩, HB.out⟩
  subst q0
  by_cases q2 : arg = 0
  rotate_left
  · have t2 : (arg != 0) = true := by simpa using q2
    have Q := Lib.hid q2
    clear q2
    go_wp2_with fail
    go_ret
    exact ⟨false, rfl, ⟨fun h => (by cases h), fun h => (by have h1 := (HP.out.1 h).2.1; have := Q.out; omega)⟩, HB.out⟩
  subst q2
  go_wp2_with fail
  refine HRG.out.mono ?_
  rintro e w3 ⟨B, rfl, hq, q, rfl⟩
  have HQ := Lib.hid hq
  have hb3 := below_draws w2 q
  clear hq HRG f0 f1 f2 f3 f4
  obtain ⟨f0, f1, f2, f3, f4⟩ := HF.out q
  generalize w2.drewN q = w3 at hb3 f0 f1 f2 f3 f4 ⊢
  have HB : Hid (Below w.heap.size w w3) := Lib.hid (below_steps HB.out hb3)
  clear hb3 HF g0 g1 g2
  clear HQ
  by_cases q4 : s = 0
  rotate_left
  · have t4 : decide (0 < s) = true := decide_eq_true (by omega)
    have Q := Lib.hid q4
    clear q4
    go_wp2_with fail
    go_ret
    exact ⟨false, rfl, ⟨fun h => (by cases h), fun h => (by have h1 := (HP.out.1 h).2.2.1; have := Q.out; omega)⟩, HB.out⟩
  have t4 : decide (0 < s) = false := decide_eq_false (by omega)
  have Q4 := Lib.hid q4
  clear q4
  by_cases q5 : at' = 0
  rotate_left
  · have t5 : (at' == 0) = false := beq_eq_false_iff_ne.2 q5
    have Q := Lib.hid q5
    clear q5
    go_wp2_with fail
    go_ret
    exact ⟨false, rfl, ⟨fun h => (by cases h), fun h => (by have h1 := (HP.out.1 h).2.2.2; have := Q.out; omega)⟩, HB.out⟩
  subst q5
  go_wp2_with fail
  go_ret
  exact ⟨true, rfl, ⟨fun _ => HP.out.2 ⟨by trivial, by trivial, Q4.out, by trivial⟩, fun _ => rfl⟩, HB.out⟩
set_option maxHeartbeats 1600000 in
set_option maxRecDepth 100000 in
theorem rinst2 (p : Pg) (x : Ins) (v u : Value) (w : World) (h : PgV w p v) (g : InsV w x u) (ho : x.op = 2) : Calls Try.prog 28 #[v, u] w (SaysG (SoundI p.ins.length p.caps x) w) := by
  obtain ⟨A, n, c, hn, rfl, hI, hs, hc, hnb⟩ := h.opened
  obtain ⟨a, c2, rfl, hR, hbd⟩ := g
  obtain ⟨op, out, arg, set, at'⟩ := x
  simp only at ho
  subst ho
  simp only [insC] at hR ⊢
  obtain ⟨w1, hw1⟩ : ∃ w1, w.alloc (.cells #[.slice A n c, .int .i64 p.start, .int .i64 p.caps] 24) = w1 := ⟨_, rfl⟩
  obtain ⟨hb1, e0, e1, e2, hz1⟩ := box3_new w _ _ _ _ hw1
  obtain ⟨s, hs0⟩ : ∃ s, set.length = s := ⟨_, rfl⟩
  have hsb : s ≤ 9223372036854775807 := by
    obtain ⟨_, _, e, q1, q2, _⟩ := hR
    injection e with _ e2 e3
    unfold maxLen at q2
    omega
  rw [hs0] at hR ⊢
  obtain ⟨w2, hw2⟩ : ∃ w2, w1.alloc (.cells #[.int .i64 2, .int .i64 out, .int .i64 arg, .slice a s c2, .int .i64 at'] 46) = w2 := ⟨_, rfl⟩
  obtain ⟨hb2, ⟨f0, f1, f2, f3, f4⟩, hz2⟩ := box5_new w1 _ _ _ _ _ _ hw2
  have g0 := cell_on hb2 e0
  have g1 := cell_on hb2 e1
  have g2 := cell_on hb2 e2
  have hb := below_steps hb1 hb2
  rw [hz1] at f0 f1 f2 f3 f4
  have HB := Lib.hid hb; have HW1 := Lib.hid hw1; have HW2 := Lib.hid hw2
  have HRG := Lib.hid (rright_any _ set w2 (hR.below hb))
  have HF : Hid (∀ q, (w2.drewN q).cell? ⟨w.heap.size + 1, 0, none⟩ = some (.int .i64 2) ∧ (w2.drewN q).cell? ⟨w.heap.size + 1, 1, none⟩ = some (.int .i64 out) ∧ (w2.drewN q).cell? ⟨w.heap.size + 1, 2, none⟩ = some (.int .i64 arg) ∧ (w2.drewN q).cell? ⟨w.heap.size + 1, 3, none⟩ = some (.slice a s c2) ∧ (w2.drewN q).cell? ⟨w.heap.size + 1, 4, none⟩ = some (.int .i64 at')) := Lib.hid fun q => ⟨f0, f1, f2, f3, f4⟩
  have HS1 : Hid (∀ (k out arg at' : Int), k = 1 ∨ k = 6 → (SoundI n p.caps ⟨k, out, arg, set, at'⟩ ↔ out = 0 ∧ arg = 0 ∧ s = 0 ∧ at' = 0)) := Lib.hid fun k out arg at' h => by rw [← hs0]; exact sound_one n _ _ _ _ _ _ h
  have HS2 : Hid (∀ (out arg at' : Int), (SoundI n p.caps ⟨2, out, arg, set, at'⟩ ↔ (0 ≤ out ∧ out < n) ∧ arg = 0 ∧ (s ≠ 0 ∧ RightR set) ∧ at' = 0)) := Lib.hid fun out arg at' => by rw [← hs0]; exact sound_set n _ _ _ _ _
  have HS3 : Hid (∀ (out arg at' : Int), (SoundI n p.caps ⟨3, out, arg, set, at'⟩ ↔ (0 ≤ out ∧ out < n) ∧ (0 ≤ arg ∧ arg < n) ∧ s = 0 ∧ at' = 0)) := Lib.hid fun out arg at' => by rw [← hs0]; exact sound_alt n _ _ _ _ _
  have HS4 : Hid (∀ (out arg at' : Int), (SoundI n p.caps ⟨4, out, arg, set, at'⟩ ↔ (0 ≤ out ∧ out < n) ∧ (2 ≤ arg ∧ arg < p.caps) ∧ s = 0 ∧ at' = 0)) := Lib.hid fun out arg at' => by rw [← hs0]; exact sound_cap n _ _ _ _ _
  have HS5 : Hid (∀ (out arg at' : Int), (SoundI n p.caps ⟨5, out, arg, set, at'⟩ ↔ (0 ≤ out ∧ out < n) ∧ arg = 0 ∧ s = 0 ∧ AtOk at')) := Lib.hid fun out arg at' => by rw [← hs0]; exact sound_at n _ _ _ _ _
  rw [hn]
  obtain ⟨P, hP⟩ : ∃ P, SoundI n p.caps ⟨2, out, arg, set, at'⟩ = P := ⟨_, rfl⟩
  have HPP := Lib.hid hP
  rw [hP]
  clear hn hI hs hc hbd hR hw1 hw2 hb1 hb2 hb hz1 hz2 hs0 hP e0 e1 e2 h
  go_enter Try.func28, Try.ntmps28
  go_upto_region 1 with (fail)
  rw [HW1.out, HW2.out]
  have HP := Lib.hid ((HPP.out ▸ HS2.out out arg at') : P ↔ _)
  clear HPP HS1 HS2 HS3 HS4 HS5
  by_cases q0 : 0 ≤ out
  rotate_left
  · have t0 : decide (out < 0) = true := decide_eq_true (by omega)
    have Q := Lib.hid q0
    clear q0
    go_wp2_with fail
    go_ret
    exact ⟨false, rfl, ⟨fun h => (by cases h), fun h => (by have h1 := (HP.out.1 h).1; have := Q.out; omega)⟩, HB.out⟩
  have t0 : decide (out < 0) = false := decide_eq_false (by omega)
  by_cases q1 : out < n
  rotate_left
  · have t1 : decide ((n : Int) ≤ out) = true := decide_eq_true (by omega)
    have Q0 := Lib.hid q0
    clear q0
    have Q := Lib.hid q1
    clear q1
    go_wp2_with fail
    go_ret
    exact ⟨false, rfl, ⟨fun h => (by cases h), fun h => (by have h1 := (HP.out.1 h).1; have := Q.out; omega)⟩, HB.out⟩
  have t1 : decide ((n : Int) ≤ out) = false := decide_eq_false (by omega)
  have Q0 := Lib.hid (And.intro q0 q1)
  clear q0 q1
  by_cases q2 : arg = 0
  rotate_left
  · have t2 : (arg != 0) = true := by simpa using q2
    have Q := Lib.hid q2
    clear q2
    go_wp2_with fail
    go_ret
    exact ⟨false, rfl, ⟨fun h => (by cases h), fun h => (by have h1 := (HP.out.1 h).2.1; have := Q.out; omega)⟩, HB.out⟩
  subst q2
  go_wp2_with fail
  refine HRG.out.mono ?_
  rintro e w3 ⟨B, rfl, hq, q, rfl⟩
  have HQ := Lib.hid hq
  have hb3 := below_draws w2 q
  clear hq HRG f0 f1 f2 f3 f4
  obtain ⟨f0, f1, f2, f3, f4⟩ := HF.out q
  generalize w2.drewN q = w3 at hb3 f0 f1 f2 f3 f4 ⊢
  have HB : Hid (Below w.heap.size w w3) := Lib.hid (below_steps HB.out hb3)
  clear hb3 HF g0 g1 g2
  cases B
  · have Q := Lib.hid (mt HQ.out.2 Bool.false_ne_true)
    clear HQ
    go_wp2_with fail
    go_ret
    exact ⟨false, rfl, ⟨fun h => (by cases h), fun h => absurd (HP.out.1 h).2.2.1.2 Q.out⟩, HB.out⟩
  have QB := Lib.hid (HQ.out.1 rfl)
  clear HQ
  by_cases q4 : s ≠ 0
  rotate_left
  · have t4 : ((s : Int) == 0) = true := by simp only [beq_iff_eq]; omega
    have Q := Lib.hid q4
    clear q4
    go_wp2_with fail
    go_ret
    exact ⟨false, rfl, ⟨fun h => (by cases h), fun h => (by have h1 := (HP.out.1 h).2.2.1; have := Q.out; omega)⟩, HB.out⟩
  have t4 : ((s : Int) == 0) = false := by simp only [beq_eq_false_iff_ne]; omega
  have Q4 := Lib.hid q4
  clear q4
  by_cases q5 : at' = 0
  rotate_left
  · have t5 : (at' == 0) = false := beq_eq_false_iff_ne.2 q5
    have Q := Lib.hid q5
    clear q5
    go_wp2_with fail
    go_ret
    exact ⟨false, rfl, ⟨fun h => (by cases h), fun h => (by have h1 := (HP.out.1 h).2.2.2; have := Q.out; omega)⟩, HB.out⟩
  subst q5
  go_wp2_with fail
  go_ret
  exact ⟨true, rfl, ⟨fun _ => HP.out.2 ⟨Q0.out, by trivial, ⟨Q4.out, QB.out⟩, by trivial⟩, fun _ => rfl⟩, HB.out⟩
set_option maxHeartbeats 1600000 in
set_option maxRecDepth 100000 in
theorem rinst3 (p : Pg) (x : Ins) (v u : Value) (w : World) (h : PgV w p v) (g : InsV w x u) (ho : x.op = 3) : Calls Try.prog 28 #[v, u] w (SaysG (SoundI p.ins.length p.caps x) w) := by
  obtain ⟨A, n, c, hn, rfl, hI, hs, hc, hnb⟩ := h.opened
  obtain ⟨a, c2, rfl, hR, hbd⟩ := g
  obtain ⟨op, out, arg, set, at'⟩ := x
  simp only at ho
  subst ho
  simp only [insC] at hR ⊢
  obtain ⟨w1, hw1⟩ : ∃ w1, w.alloc (.cells #[.slice A n c, .int .i64 p.start, .int .i64 p.caps] 24) = w1 := ⟨_, rfl⟩
  obtain ⟨hb1, e0, e1, e2, hz1⟩ := box3_new w _ _ _ _ hw1
  obtain ⟨s, hs0⟩ : ∃ s, set.length = s := ⟨_, rfl⟩
  have hsb : s ≤ 9223372036854775807 := by
    obtain ⟨_, _, e, q1, q2, _⟩ := hR
    injection e with _ e2 e3
    unfold maxLen at q2
    omega
  rw [hs0] at hR ⊢
  obtain ⟨w2, hw2⟩ : ∃ w2, w1.alloc (.cells #[.int .i64 3, .int .i64 out, .int .i64 arg, .slice a s c2, .int .i64 at'] 46) = w2 := ⟨_, rfl⟩
  obtain ⟨hb2, ⟨f0, f1, f2, f3, f4⟩, hz2⟩ := box5_new w1 _ _ _ _ _ _ hw2
  have g0 := cell_on hb2 e0
  have g1 := cell_on hb2 e1
  have g2 := cell_on hb2 e2
  have hb := below_steps hb1 hb2
  rw [hz1] at f0 f1 f2 f3 f4
  have HB := Lib.hid hb; have HW1 := Lib.hid hw1; have HW2 := Lib.hid hw2
  have HRG := Lib.hid (rright_any _ set w2 (hR.below hb))
  have HF : Hid (∀ q, (w2.drewN q).cell? ⟨w.heap.size + 1, 0, none⟩ = some (.int .i64 3) ∧ (w2.drewN q).cell? ⟨w.heap.size + 1, 1, none⟩ = some (.int .i64 out) ∧ (w2.drewN q).cell? ⟨w.heap.size + 1, 2, none⟩ = some (.int .i64 arg) ∧ (w2.drewN q).cell? ⟨w.heap.size + 1, 3, none⟩ = some (.slice a s c2) ∧ (w2.drewN q).cell? ⟨w.heap.size + 1, 4, none⟩ = some (.int .i64 at')) := Lib.hid fun q => ⟨f0, f1, f2, f3, f4⟩
  have HS1 : Hid (∀ (k out arg at' : Int), k = 1 ∨ k = 6 → (SoundI n p.caps ⟨k, out, arg, set, at'⟩ ↔ out = 0 ∧ arg = 0 ∧ s = 0 ∧ at' = 0)) := Lib.hid fun k out arg at' h => by rw [← hs0]; exact sound_one n _ _ _ _ _ _ h
  have HS2 : Hid (∀ (out arg at' : Int), (SoundI n p.caps ⟨2, out, arg, set, at'⟩ ↔ (0 ≤ out ∧ out < n) ∧ arg = 0 ∧ (s ≠ 0 ∧ RightR set) ∧ at' = 0)) := Lib.hid fun out arg at' => by rw [← hs0]; exact sound_set n _ _ _ _ _
  have HS3 : Hid (∀ (out arg at' : Int), (SoundI n p.caps ⟨3, out, arg, set, at'⟩ ↔ (0 ≤ out ∧ out < n) ∧ (0 ≤ arg ∧ arg < n) ∧ s = 0 ∧ at' = 0)) := Lib.hid fun out arg at' => by rw [← hs0]; exact sound_alt n _ _ _ _ _
  have HS4 : Hid (∀ (out arg at' : Int), (SoundI n p.caps ⟨4, out, arg, set, at'⟩ ↔ (0 ≤ out ∧ out < n) ∧ (2 ≤ arg ∧ arg < p.caps) ∧ s = 0 ∧ at' = 0)) := Lib.hid fun out arg at' => by rw [← hs0]; exact sound_cap n _ _ _ _ _
  have HS5 : Hid (∀ (out arg at' : Int), (SoundI n p.caps ⟨5, out, arg, set, at'⟩ ↔ (0 ≤ out ∧ out < n) ∧ arg = 0 ∧ s = 0 ∧ AtOk at')) := Lib.hid fun out arg at' => by rw [← hs0]; exact sound_at n _ _ _ _ _
  rw [hn]
  obtain ⟨P, hP⟩ : ∃ P, SoundI n p.caps ⟨3, out, arg, set, at'⟩ = P := ⟨_, rfl⟩
  have HPP := Lib.hid hP
  rw [hP]
  clear hn hI hs hc hbd hR hw1 hw2 hb1 hb2 hb hz1 hz2 hs0 hP e0 e1 e2 h
  go_enter Try.func28, Try.ntmps28
  go_upto_region 1 with (fail)
  rw [HW1.out, HW2.out]
  have HP := Lib.hid ((HPP.out ▸ HS3.out out arg at') : P ↔ _)
  clear HPP HS1 HS2 HS3 HS4 HS5
  by_cases q0 : 0 ≤ out
  rotate_left
  · have t0 : decide (out < 0) = true := decide_eq_true (by omega)
    have Q := Lib.hid q0
    clear q0
    go_wp2_with fail
    go_ret
    exact ⟨false, rfl, ⟨fun h => (by cases h), fun h => (by have h1 := (HP.out.1 h).1; have := Q.out; omega)⟩, HB.out⟩
  have t0 : decide (out < 0) = false := decide_eq_false (by omega)
  by_cases q1 : out < n
  rotate_left
  · have t1 : decide ((n : Int) ≤ out) = true := decide_eq_true (by omega)
    have Q0 := Lib.hid q0
    clear q0
    have Q := Lib.hid q1
    clear q1
    go_wp2_with fail
    go_ret
    exact ⟨false, rfl, ⟨fun h => (by cases h), fun h => (by have h1 := (HP.out.1 h).1; have := Q.out; omega)⟩, HB.out⟩
  have t1 : decide ((n : Int) ≤ out) = false := decide_eq_false (by omega)
  have Q0 := Lib.hid (And.intro q0 q1)
  clear q0 q1
  by_cases q2 : 0 ≤ arg
  rotate_left
  · have t2 : decide (arg < 0) = true := decide_eq_true (by omega)
    have Q := Lib.hid q2
    clear q2
    go_wp2_with fail
    go_ret
    exact ⟨false, rfl, ⟨fun h => (by cases h), fun h => (by have h1 := (HP.out.1 h).2.1; have := Q.out; omega)⟩, HB.out⟩
  have t2 : decide (arg < 0) = false := decide_eq_false (by omega)
  by_cases q3 : arg < (n : Int)
  rotate_left
  · have t3 : decide ((n : Int) ≤ arg) = true := decide_eq_true (by omega)
    have Q2 := Lib.hid q2
    clear q2
    have Q := Lib.hid q3
    clear q3
    go_wp2_with fail
    go_ret
    exact ⟨false, rfl, ⟨fun h => (by cases h), fun h => (by have h1 := (HP.out.1 h).2.1; have := Q.out; omega)⟩, HB.out⟩
  have t3 : decide ((n : Int) ≤ arg) = false := decide_eq_false (by omega)
  have Q1 := Lib.hid (And.intro q2 q3)
  clear q2 q3
  go_wp2_with fail
  refine HRG.out.mono ?_
  rintro e w3 ⟨B, rfl, hq, q, rfl⟩
  have HQ := Lib.hid hq
  have hb3 := below_draws w2 q
  clear hq HRG f0 f1 f2 f3 f4
  obtain ⟨f0, f1, f2, f3, f4⟩ := HF.out q
  generalize w2.drewN q = w3 at hb3 f0 f1 f2 f3 f4 ⊢
  have HB : Hid (Below w.heap.size w w3) := Lib.hid (below_steps HB.out hb3)
  clear hb3 HF g0 g1 g2
  clear HQ
  by_cases q4 : s = 0
  rotate_left
  · have t4 : decide (0 < s) = true := decide_eq_true (by omega)
    have Q := Lib.hid q4
    clear q4
    go_wp2_with fail
    go_ret
    exact ⟨false, rfl, ⟨fun h => (by cases h), fun h => (by have h1 := (HP.out.1 h).2.2.1; have := Q.out; omega)⟩, HB.out⟩
  have t4 : decide (0 < s) = false := decide_eq_false (by omega)
  have Q4 := Lib.hid q4
  clear q4
  by_cases q5 : at' = 0
  rotate_left
  · have t5 : (at' == 0) = false := beq_eq_false_iff_ne.2 q5
    have Q := Lib.hid q5
    clear q5
    go_wp2_with fail
    go_ret
    exact ⟨false, rfl, ⟨fun h => (by cases h), fun h => (by have h1 := (HP.out.1 h).2.2.2; have := Q.out; omega)⟩, HB.out⟩
  subst q5
  go_wp2_with fail
  go_ret
  exact ⟨true, rfl, ⟨fun _ => HP.out.2 ⟨Q0.out, Q1.out, Q4.out, by trivial⟩, fun _ => rfl⟩, HB.out⟩
set_option maxHeartbeats 1600000 in
set_option maxRecDepth 100000 in
theorem rinst4 (p : Pg) (x : Ins) (v u : Value) (w : World) (h : PgV w p v) (g : InsV w x u) (ho : x.op = 4) : Calls Try.prog 28 #[v, u] w (SaysG (SoundI p.ins.length p.caps x) w) := by
  obtain ⟨A, n, c, hn, rfl, hI, hs, hc, hnb⟩ := h.opened
  obtain ⟨a, c2, rfl, hR, hbd⟩ := g
  obtain ⟨op, out, arg, set, at'⟩ := x
  simp only at ho
  subst ho
  simp only [insC] at hR ⊢
  obtain ⟨w1, hw1⟩ : ∃ w1, w.alloc (.cells #[.slice A n c, .int .i64 p.start, .int .i64 p.caps] 24) = w1 := ⟨_, rfl⟩
  obtain ⟨hb1, e0, e1, e2, hz1⟩ := box3_new w _ _ _ _ hw1
  obtain ⟨s, hs0⟩ : ∃ s, set.length = s := ⟨_, rfl⟩
  have hsb : s ≤ 9223372036854775807 := by
    obtain ⟨_, _, e, q1, q2, _⟩ := hR
    injection e with _ e2 e3
    unfold maxLen at q2
    omega
  rw [hs0] at hR ⊢
  obtain ⟨w2, hw2⟩ : ∃ w2, w1.alloc (.cells #[.int .i64 4, .int .i64 out, .int .i64 arg, .slice a s c2, .int .i64 at'] 46) = w2 := ⟨_, rfl⟩
  obtain ⟨hb2, ⟨f0, f1, f2, f3, f4⟩, hz2⟩ := box5_new w1 _ _ _ _ _ _ hw2
  have g0 := cell_on hb2 e0
  have g1 := cell_on hb2 e1
  have g2 := cell_on hb2 e2
  have hb := below_steps hb1 hb2
  rw [hz1] at f0 f1 f2 f3 f4
  have HB := Lib.hid hb; have HW1 := Lib.hid hw1; have HW2 := Lib.hid hw2
  have HRG := Lib.hid (rright_any _ set w2 (hR.below hb))
  have HF : Hid (∀ q, (w2.drewN q).cell? ⟨w.heap.size + 1, 0, none⟩ = some (.int .i64 4) ∧ (w2.drewN q).cell? ⟨w.heap.size + 1, 1, none⟩ = some (.int .i64 out) ∧ (w2.drewN q).cell? ⟨w.heap.size + 1, 2, none⟩ = some (.int .i64 arg) ∧ (w2.drewN q).cell? ⟨w.heap.size + 1, 3, none⟩ = some (.slice a s c2) ∧ (w2.drewN q).cell? ⟨w.heap.size + 1, 4, none⟩ = some (.int .i64 at')) := Lib.hid fun q => ⟨f0, f1, f2, f3, f4⟩
  have HS1 : Hid (∀ (k out arg at' : Int), k = 1 ∨ k = 6 → (SoundI n p.caps ⟨k, out, arg, set, at'⟩ ↔ out = 0 ∧ arg = 0 ∧ s = 0 ∧ at' = 0)) := Lib.hid fun k out arg at' h => by rw [← hs0]; exact sound_one n _ _ _ _ _ _ h
  have HS2 : Hid (∀ (out arg at' : Int), (SoundI n p.caps ⟨2, out, arg, set, at'⟩ ↔ (0 ≤ out ∧ out < n) ∧ arg = 0 ∧ (s ≠ 0 ∧ RightR set) ∧ at' = 0)) := Lib.hid fun out arg at' => by rw [← hs0]; exact sound_set n _ _ _ _ _
  have HS3 : Hid (∀ (out arg at' : Int), (SoundI n p.caps ⟨3, out, arg, set, at'⟩ ↔ (0 ≤ out ∧ out < n) ∧ (0 ≤ arg ∧ arg < n) ∧ s = 0 ∧ at' = 0)) := Lib.hid fun out arg at' => by rw [← hs0]; exact sound_alt n _ _ _ _ _
  have HS4 : Hid (∀ (out arg at' : Int), (SoundI n p.caps ⟨4, out, arg, set, at'⟩ ↔ (0 ≤ out ∧ out < n) ∧ (2 ≤ arg ∧ arg < p.caps) ∧ s = 0 ∧ at' = 0)) := Lib.hid fun out arg at' => by rw [← hs0]; exact sound_cap n _ _ _ _ _
  have HS5 : Hid (∀ (out arg at' : Int), (SoundI n p.caps ⟨5, out, arg, set, at'⟩ ↔ (0 ≤ out ∧ out < n) ∧ arg = 0 ∧ s = 0 ∧ AtOk at')) := Lib.hid fun out arg at' => by rw [← hs0]; exact sound_at n _ _ _ _ _
  rw [hn]
  obtain ⟨P, hP⟩ : ∃ P, SoundI n p.caps ⟨4, out, arg, set, at'⟩ = P := ⟨_, rfl⟩
  have HPP := Lib.hid hP
  rw [hP]
  clear hn hI hs hc hbd hR hw1 hw2 hb1 hb2 hb hz1 hz2 hs0 hP e0 e1 e2 h
  go_enter Try.func28, Try.ntmps28
  go_upto_region 1 with (fail)
  rw [HW1.out, HW2.out]
  have HP := Lib.hid ((HPP.out ▸ HS4.out out arg at') : P ↔ _)
  clear HPP HS1 HS2 HS3 HS4 HS5
  by_cases q0 : 0 ≤ out
  rotate_left
  · have t0 : decide (out < 0) = true := decide_eq_true (by omega)
    have Q := Lib.hid q0
    clear q0
    go_wp2_with fail
    go_ret
    exact ⟨false, rfl, ⟨fun h => (by cases h), fun h => (by have h1 := (HP.out.1 h).1; have := Q.out; omega)⟩, HB.out⟩
  have t0 : decide (out < 0) = false := decide_eq_false (by omega)
  by_cases q1 : out < n
  rotate_left
  · have t1 : decide ((n : Int) ≤ out) = true := decide_eq_true (by omega)
    have Q0 := Lib.hid q0
    clear q0
    have Q := Lib.hid q1
    clear q1
    go_wp2_with fail
    go_ret
    exact ⟨false, rfl, ⟨fun h => (by cases h), fun h => (by have h1 := (HP.out.1 h).1; have := Q.out; omega)⟩, HB.out⟩
  have t1 : decide ((n : Int) ≤ out) = false := decide_eq_false (by omega)
  have Q0 := Lib.hid (And.intro q0 q1)
  clear q0 q1
  by_cases q2 : 2 ≤ arg
  rotate_left
  · have t2 : decide (arg < 2) = true := decide_eq_true (by omega)
    have Q := Lib.hid q2
    clear q2
    go_wp2_with fail
    go_ret
    exact ⟨false, rfl, ⟨fun h => (by cases h), fun h => (by have h1 := (HP.out.1 h).2.1; have := Q.out; omega)⟩, HB.out⟩
  have t2 : decide (arg < 2) = false := decide_eq_false (by omega)
  by_cases q3 : arg < p.caps
  rotate_left
  · have t3 : decide (p.caps ≤ arg) = true := decide_eq_true (by omega)
    have Q2 := Lib.hid q2
    clear q2
    have Q := Lib.hid q3
    clear q3
    go_wp2_with fail
    go_ret
    exact ⟨false, rfl, ⟨fun h => (by cases h), fun h => (by have h1 := (HP.out.1 h).2.1; have := Q.out; omega)⟩, HB.out⟩
  have t3 : decide (p.caps ≤ arg) = false := decide_eq_false (by omega)
  have Q1 := Lib.hid (And.intro q2 q3)
  clear q2 q3
  go_wp2_with fail
  refine HRG.out.mono ?_
  rintro e w3 ⟨B, rfl, hq, q, rfl⟩
  have HQ := Lib.hid hq
  have hb3 := below_draws w2 q
  clear hq HRG f0 f1 f2 f3 f4
  obtain ⟨f0, f1, f2, f3, f4⟩ := HF.out q
  generalize w2.drewN q = w3 at hb3 f0 f1 f2 f3 f4 ⊢
  have HB : Hid (Below w.heap.size w w3) := Lib.hid (below_steps HB.out hb3)
  clear hb3 HF g0 g1 g2
  clear HQ
  by_cases q4 : s = 0
  rotate_left
  · have t4 : decide (0 < s) = true := decide_eq_true (by omega)
    have Q := Lib.hid q4
    clear q4
    go_wp2_with fail
    go_ret
    exact ⟨false, rfl, ⟨fun h => (by cases h), fun h => (by have h1 := (HP.out.1 h).2.2.1; have := Q.out; omega)⟩, HB.out⟩
  have t4 : decide (0 < s) = false := decide_eq_false (by omega)
  have Q4 := Lib.hid q4
  clear q4
  by_cases q5 : at' = 0
  rotate_left
  · have t5 : (at' == 0) = false := beq_eq_false_iff_ne.2 q5
    have Q := Lib.hid q5
    clear q5
    go_wp2_with fail
    go_ret
    exact ⟨false, rfl, ⟨fun h => (by cases h), fun h => (by have h1 := (HP.out.1 h).2.2.2; have := Q.out; omega)⟩, HB.out⟩
  subst q5
  go_wp2_with fail
  go_ret
  exact ⟨true, rfl, ⟨fun _ => HP.out.2 ⟨Q0.out, Q1.out, Q4.out, by trivial⟩, fun _ => rfl⟩, HB.out⟩
set_option maxHeartbeats 1600000 in
set_option maxRecDepth 100000 in
theorem rinst5 (p : Pg) (x : Ins) (v u : Value) (w : World) (h : PgV w p v) (g : InsV w x u) (ho : x.op = 5) : Calls Try.prog 28 #[v, u] w (SaysG (SoundI p.ins.length p.caps x) w) := by
  obtain ⟨A, n, c, hn, rfl, hI, hs, hc, hnb⟩ := h.opened
  obtain ⟨a, c2, rfl, hR, hbd⟩ := g
  obtain ⟨op, out, arg, set, at'⟩ := x
  simp only at ho
  subst ho
  simp only [insC] at hR ⊢
  obtain ⟨w1, hw1⟩ : ∃ w1, w.alloc (.cells #[.slice A n c, .int .i64 p.start, .int .i64 p.caps] 24) = w1 := ⟨_, rfl⟩
  obtain ⟨hb1, e0, e1, e2, hz1⟩ := box3_new w _ _ _ _ hw1
  obtain ⟨s, hs0⟩ : ∃ s, set.length = s := ⟨_, rfl⟩
  have hsb : s ≤ 9223372036854775807 := by
    obtain ⟨_, _, e, q1, q2, _⟩ := hR
    injection e with _ e2 e3
    unfold maxLen at q2
    omega
  rw [hs0] at hR ⊢
  obtain ⟨w2, hw2⟩ : ∃ w2, w1.alloc (.cells #[.int .i64 5, .int .i64 out, .int .i64 arg, .slice a s c2, .int .i64 at'] 46) = w2 := ⟨_, rfl⟩
  obtain ⟨hb2, ⟨f0, f1, f2, f3, f4⟩, hz2⟩ := box5_new w1 _ _ _ _ _ _ hw2
  have g0 := cell_on hb2 e0
  have g1 := cell_on hb2 e1
  have g2 := cell_on hb2 e2
  have hb := below_steps hb1 hb2
  rw [hz1] at f0 f1 f2 f3 f4
  have HB := Lib.hid hb; have HW1 := Lib.hid hw1; have HW2 := Lib.hid hw2
  have HRG := Lib.hid (rright_any _ set w2 (hR.below hb))
  have HF : Hid (∀ q, (w2.drewN q).cell? ⟨w.heap.size + 1, 0, none⟩ = some (.int .i64 5) ∧ (w2.drewN q).cell? ⟨w.heap.size + 1, 1, none⟩ = some (.int .i64 out) ∧ (w2.drewN q).cell? ⟨w.heap.size + 1, 2, none⟩ = some (.int .i64 arg) ∧ (w2.drewN q).cell? ⟨w.heap.size + 1, 3, none⟩ = some (.slice a s c2) ∧ (w2.drewN q).cell? ⟨w.heap.size + 1, 4, none⟩ = some (.int .i64 at')) := Lib.hid fun q => ⟨f0, f1, f2, f3, f4⟩
  have HS1 : Hid (∀ (k out arg at' : Int), k = 1 ∨ k = 6 → (SoundI n p.caps ⟨k, out, arg, set, at'⟩ ↔ out = 0 ∧ arg = 0 ∧ s = 0 ∧ at' = 0)) := Lib.hid fun k out arg at' h => by rw [← hs0]; exact sound_one n _ _ _ _ _ _ h
  have HS2 : Hid (∀ (out arg at' : Int), (SoundI n p.caps ⟨2, out, arg, set, at'⟩ ↔ (0 ≤ out ∧ out < n) ∧ arg = 0 ∧ (s ≠ 0 ∧ RightR set) ∧ at' = 0)) := Lib.hid fun out arg at' => by rw [← hs0]; exact sound_set n _ _ _ _ _
  have HS3 : Hid (∀ (out arg at' : Int), (SoundI n p.caps ⟨3, out, arg, set, at'⟩ ↔ (0 ≤ out ∧ out < n) ∧ (0 ≤ arg ∧ arg < n) ∧ s = 0 ∧ at' = 0)) := Lib.hid fun out arg at' => by rw [← hs0]; exact sound_alt n _ _ _ _ _
  have HS4 : Hid (∀ (out arg at' : Int), (SoundI n p.caps ⟨4, out, arg, set, at'⟩ ↔ (0 ≤ out ∧ out < n) ∧ (2 ≤ arg ∧ arg < p.caps) ∧ s = 0 ∧ at' = 0)) := Lib.hid fun out arg at' => by rw [← hs0]; exact sound_cap n _ _ _ _ _
  have HS5 : Hid (∀ (out arg at' : Int), (SoundI n p.caps ⟨5, out, arg, set, at'⟩ ↔ (0 ≤ out ∧ out < n) ∧ arg = 0 ∧ s = 0 ∧ AtOk at')) := Lib.hid fun out arg at' => by rw [← hs0]; exact sound_at n _ _ _ _ _
  rw [hn]
  obtain ⟨P, hP⟩ : ∃ P, SoundI n p.caps ⟨5, out, arg, set, at'⟩ = P := ⟨_, rfl⟩
  have HPP := Lib.hid hP
  rw [hP]
  clear hn hI hs hc hbd hR hw1 hw2 hb1 hb2 hb hz1 hz2 hs0 hP e0 e1 e2 h
  go_enter Try.func28, Try.ntmps28
  go_upto_region 1 with (fail)
  rw [HW1.out, HW2.out]
  have HP := Lib.hid ((HPP.out ▸ HS5.out out arg at') : P ↔ _)
  clear HPP HS1 HS2 HS3 HS4 HS5
  by_cases q0 : 0 ≤ out
  rotate_left
  · have t0 : decide (out < 0) = true := decide_eq_true (by omega)
    have Q := Lib.hid q0
    clear q0
    go_wp2_with fail
    go_ret
    exact ⟨false, rfl, ⟨fun h => (by cases h), fun h => (by have h1 := (HP.out.1 h).1; have := Q.out; omega)⟩, HB.out⟩
  have t0 : decide (out < 0) = false := decide_eq_false (by omega)
  by_cases q1 : out < n
  rotate_left
  · have t1 : decide ((n : Int) ≤ out) = true := decide_eq_true (by omega)
    have Q0 := Lib.hid q0
    clear q0
    have Q := Lib.hid q1
    clear q1
    go_wp2_with fail
    go_ret
    exact ⟨false, rfl, ⟨fun h => (by cases h), fun h => (by have h1 := (HP.out.1 h).1; have := Q.out; omega)⟩, HB.out⟩
  have t1 : decide ((n : Int) ≤ out) = false := decide_eq_false (by omega)
  have Q0 := Lib.hid (And.intro q0 q1)
  clear q0 q1
  by_cases q2 : arg = 0
  rotate_left
  · have t2 : (arg != 0) = true := by simpa using q2
    have Q := Lib.hid q2
    clear q2
    go_wp2_with fail
    go_ret
    exact ⟨false, rfl, ⟨fun h => (by cases h), fun h => (by have h1 := (HP.out.1 h).2.1; have := Q.out; omega)⟩, HB.out⟩
  subst q2
  go_wp2_with fail
  refine HRG.out.mono ?_
  rintro e w3 ⟨B, rfl, hq, q, rfl⟩
  have HQ := Lib.hid hq
  have hb3 := below_draws w2 q
  clear hq HRG f0 f1 f2 f3 f4
  obtain ⟨f0, f1, f2, f3, f4⟩ := HF.out q
  generalize w2.drewN q = w3 at hb3 f0 f1 f2 f3 f4 ⊢
  have HB : Hid (Below w.heap.size w w3) := Lib.hid (below_steps HB.out hb3)
  clear hb3 HF g0 g1 g2
  clear HQ
  by_cases q4 : s = 0
  rotate_left
  · have t4 : decide (0 < s) = true := decide_eq_true (by omega)
    have Q := Lib.hid q4
    clear q4
    go_wp2_with fail
    go_ret
    exact ⟨false, rfl, ⟨fun h => (by cases h), fun h => (by have h1 := (HP.out.1 h).2.2.1; have := Q.out; omega)⟩, HB.out⟩
  have t4 : decide (0 < s) = false := decide_eq_false (by omega)
  have Q4 := Lib.hid q4
  clear q4
  by_cases r0 : at' = 1
  · subst r0
    go_wp2_with fail
    go_ret
    exact ⟨true, rfl, ⟨fun _ => HP.out.2 ⟨Q0.out, by trivial, Q4.out, by simp [AtOk]⟩, fun _ => rfl⟩, HB.out⟩
  by_cases r1 : at' = 2
  · subst r1
    go_wp2_with fail
    go_ret
    exact ⟨true, rfl, ⟨fun _ => HP.out.2 ⟨Q0.out, by trivial, Q4.out, by simp [AtOk]⟩, fun _ => rfl⟩, HB.out⟩
  by_cases r2 : at' = 4
  · subst r2
    go_wp2_with fail
    go_ret
    exact ⟨true, rfl, ⟨fun _ => HP.out.2 ⟨Q0.out, by trivial, Q4.out, by simp [AtOk]⟩, fun _ => rfl⟩, HB.out⟩
  by_cases r3 : at' = 8
  · subst r3
    go_wp2_with fail
    go_ret
    exact ⟨true, rfl, ⟨fun _ => HP.out.2 ⟨Q0.out, by trivial, Q4.out, by simp [AtOk]⟩, fun _ => rfl⟩, HB.out⟩
  by_cases r4 : at' = 16
  · subst r4
    go_wp2_with fail
    go_ret
    exact ⟨true, rfl, ⟨fun _ => HP.out.2 ⟨Q0.out, by trivial, Q4.out, by simp [AtOk]⟩, fun _ => rfl⟩, HB.out⟩
  by_cases r5 : at' = 32
  · subst r5
    go_wp2_with fail
    go_ret
    exact ⟨true, rfl, ⟨fun _ => HP.out.2 ⟨Q0.out, by trivial, Q4.out, by simp [AtOk]⟩, fun _ => rfl⟩, HB.out⟩
  have hno : ¬ AtOk at' := by simp [AtOk, r0, r1, r2, r3, r4, r5]
  have HNO := Lib.hid hno
  have v0 : (at' == 1) = false := beq_eq_false_iff_ne.2 r0
  have v1 : (at' == 2) = false := beq_eq_false_iff_ne.2 r1
  have v2 : (at' == 4) = false := beq_eq_false_iff_ne.2 r2
  have v3 : (at' == 8) = false := beq_eq_false_iff_ne.2 r3
  have v4 : (at' == 16) = false := beq_eq_false_iff_ne.2 r4
  have v5 : (at' == 32) = false := beq_eq_false_iff_ne.2 r5
  clear hno r0 r1 r2 r3 r4 r5
  go_wp2_with fail
  go_ret
  exact ⟨false, rfl, ⟨fun h => (by cases h), fun h => absurd (HP.out.1 h).2.2.2 HNO.out⟩, HB.out⟩
set_option maxHeartbeats 1600000 in
set_option maxRecDepth 100000 in
theorem rinst0 (p : Pg) (x : Ins) (v u : Value) (w : World) (h : PgV w p v) (g : InsV w x u) (ho : x.op ≠ 1 ∧ x.op ≠ 2 ∧ x.op ≠ 3 ∧ x.op ≠ 4 ∧ x.op ≠ 5 ∧ x.op ≠ 6) : Calls Try.prog 28 #[v, u] w (SaysG (SoundI p.ins.length p.caps x) w) := by
  obtain ⟨A, n, c, hn, rfl, hI, hs, hc, hnb⟩ := h.opened
  obtain ⟨a, c2, rfl, hR, hbd⟩ := g
  obtain ⟨op, out, arg, set, at'⟩ := x
  simp only at ho
  have HO := Lib.hid ho
  simp only [insC] at hR ⊢
  obtain ⟨w1, hw1⟩ : ∃ w1, w.alloc (.cells #[.slice A n c, .int .i64 p.start, .int .i64 p.caps] 24) = w1 := ⟨_, rfl⟩
  obtain ⟨hb1, e0, e1, e2, hz1⟩ := box3_new w _ _ _ _ hw1
  obtain ⟨s, hs0⟩ : ∃ s, set.length = s := ⟨_, rfl⟩
  have hsb : s ≤ 9223372036854775807 := by
    obtain ⟨_, _, e, q1, q2, _⟩ := hR
    injection e with _ e2 e3
    unfold maxLen at q2
    omega
  rw [hs0] at hR ⊢
  obtain ⟨w2, hw2⟩ : ∃ w2, w1.alloc (.cells #[.int .i64 op, .int .i64 out, .int .i64 arg, .slice a s c2, .int .i64 at'] 46) = w2 := ⟨_, rfl⟩
  obtain ⟨hb2, ⟨f0, f1, f2, f3, f4⟩, hz2⟩ := box5_new w1 _ _ _ _ _ _ hw2
  have g0 := cell_on hb2 e0
  have g1 := cell_on hb2 e1
  have g2 := cell_on hb2 e2
  have hb := below_steps hb1 hb2
  rw [hz1] at f0 f1 f2 f3 f4
  have HB := Lib.hid hb; have HW1 := Lib.hid hw1; have HW2 := Lib.hid hw2
  have HRG := Lib.hid (rright_any _ set w2 (hR.below hb))
  have HF : Hid (∀ q, (w2.drewN q).cell? ⟨w.heap.size + 1, 0, none⟩ = some (.int .i64 op) ∧ (w2.drewN q).cell? ⟨w.heap.size + 1, 1, none⟩ = some (.int .i64 out) ∧ (w2.drewN q).cell? ⟨w.heap.size + 1, 2, none⟩ = some (.int .i64 arg) ∧ (w2.drewN q).cell? ⟨w.heap.size + 1, 3, none⟩ = some (.slice a s c2) ∧ (w2.drewN q).cell? ⟨w.heap.size + 1, 4, none⟩ = some (.int .i64 at')) := Lib.hid fun q => ⟨f0, f1, f2, f3, f4⟩
  have HS1 : Hid (∀ (k out arg at' : Int), k = 1 ∨ k = 6 → (SoundI n p.caps ⟨k, out, arg, set, at'⟩ ↔ out = 0 ∧ arg = 0 ∧ s = 0 ∧ at' = 0)) := Lib.hid fun k out arg at' h => by rw [← hs0]; exact sound_one n _ _ _ _ _ _ h
  have HS2 : Hid (∀ (out arg at' : Int), (SoundI n p.caps ⟨2, out, arg, set, at'⟩ ↔ (0 ≤ out ∧ out < n) ∧ arg = 0 ∧ (s ≠ 0 ∧ RightR set) ∧ at' = 0)) := Lib.hid fun out arg at' => by rw [← hs0]; exact sound_set n _ _ _ _ _
  have HS3 : Hid (∀ (out arg at' : Int), (SoundI n p.caps ⟨3, out, arg, set, at'⟩ ↔ (0 ≤ out ∧ out < n) ∧ (0 ≤ arg ∧ arg < n) ∧ s = 0 ∧ at' = 0)) := Lib.hid fun out arg at' => by rw [← hs0]; exact sound_alt n _ _ _ _ _
  have HS4 : Hid (∀ (out arg at' : Int), (SoundI n p.caps ⟨4, out, arg, set, at'⟩ ↔ (0 ≤ out ∧ out < n) ∧ (2 ≤ arg ∧ arg < p.caps) ∧ s = 0 ∧ at' = 0)) := Lib.hid fun out arg at' => by rw [← hs0]; exact sound_cap n _ _ _ _ _
  have HS5 : Hid (∀ (out arg at' : Int), (SoundI n p.caps ⟨5, out, arg, set, at'⟩ ↔ (0 ≤ out ∧ out < n) ∧ arg = 0 ∧ s = 0 ∧ AtOk at')) := Lib.hid fun out arg at' => by rw [← hs0]; exact sound_at n _ _ _ _ _
  rw [hn]
  obtain ⟨P, hP⟩ : ∃ P, SoundI n p.caps ⟨op, out, arg, set, at'⟩ = P := ⟨_, rfl⟩
  have HPP := Lib.hid hP
  rw [hP]
  clear hn hI hs hc hbd hR hw1 hw2 hb1 hb2 hb hz1 hz2 hs0 hP e0 e1 e2 h
  go_enter Try.func28, Try.ntmps28
  go_upto_region 1 with (fail)
  rw [HW1.out, HW2.out]
  have HNO : Hid (¬ P) := Lib.hid (HPP.out ▸ sound_none n p.caps op out arg at' set HO.out)
  clear HPP HS1 HS2 HS3 HS4 HS5 HRG HF
  by_cases r0 : op < 1
  · have t0 : decide (op < 1) = true := decide_eq_true r0
    clear ho HO
    go_wp2_with fail
    go_ret
    exact ⟨false, rfl, ⟨fun h => (by cases h), fun h => absurd h HNO.out⟩, HB.out⟩
  have t0 : decide (op < 1) = false := decide_eq_false r0
  have r1 : 6 < op := by omega
  have t1 : decide (6 < op) = true := decide_eq_true r1
  clear ho HO
  go_wp2_with fail
  go_ret
  exact ⟨false, rfl, ⟨fun h => (by cases h), fun h => absurd h HNO.out⟩, HB.out⟩
theorem rinst_any (p : Pg) (x : Ins) (v u : Value) (w : World) (h : PgV w p v) (g : InsV w x u) : Calls Try.prog 28 #[v, u] w (SaysG (SoundI p.ins.length p.caps x) w) := by
  by_cases o1 : x.op = 1
  · exact rinst1 p x v u w h g o1
  by_cases o2 : x.op = 2
  · exact rinst2 p x v u w h g o2
  by_cases o3 : x.op = 3
  · exact rinst3 p x v u w h g o3
  by_cases o4 : x.op = 4
  · exact rinst4 p x v u w h g o4
  by_cases o5 : x.op = 5
  · exact rinst5 p x v u w h g o5
  by_cases o6 : x.op = 6
  · exact rinst6 p x v u w h g o6
  exact rinst0 p x v u w h g ⟨o1, o2, o3, o4, o5, o6⟩
end Go.Proofs.Ytlkbdbijlnjjbaa
