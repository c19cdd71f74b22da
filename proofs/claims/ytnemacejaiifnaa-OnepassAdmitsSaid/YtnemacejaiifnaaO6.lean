/- Texts merged by program: PgSmall, PgSound, PgHas, PgSame. No condition. -/
import Derived.Test.YtnemacejaiifnaaO5
import Derived.Deep.DeepCutAuto
import Derived.Deep.RegionHeld3
import Derived.Deep.RegionWith
import Derived.Deep.QuietTactic
import Derived.BigQuiet
set_option linter.unusedVariables false
/- The program's small questions: is it an instruction's place, is it just one of what a place may be, are all of some places. -/
set_option linter.unusedSimpArgs false
namespace Go.Proofs.Ytnemacejaiifnaa
open Go Go.RowKit

set_option maxHeartbeats 1600000 in
set_option maxRecDepth 100000 in
theorem pplace_any (p : Pg) (v : Value) (x : Int) (w : World) (h : PgV w p v) : Calls Try.prog 130 #[v, .int .i64 x] w (SaysG (PlaceI p.ins.length x) w) := by
  obtain ⟨A, n, c, hn, rfl, hI, hs, hc, hnb⟩ := h.opened
  obtain ⟨w1, hw1⟩ : ∃ w1, w.alloc (.cells #[.slice A n c, .int .i64 p.start, .int .i64 p.caps] 58) = w1 := ⟨_, rfl⟩
  obtain ⟨hb1, e0, e1, e2, hz1⟩ := box3_new w _ _ _ _ hw1
  have HB1 := Lib.hid hb1; have HW1 := Lib.hid hw1
  rw [hn]
  clear h hw1 hb1 hI hs hc hz1 hn
  go_enter Try.func130, Try.ntmps130
  go_upto_region 1 with (fail)
  rw [HW1.out]
  by_cases q0 : 0 ≤ x
  · have d0 : decide (0 ≤ x) = true := decide_eq_true q0
    by_cases q1 : x < n
    · have d1 : decide (x < n) = true := decide_eq_true q1
      go_wp2_with fail
      go_ret
      exact ⟨true, rfl, by simp [PlaceI, q0, q1], HB1.out⟩
    · have d1 : decide (x < n) = false := decide_eq_false q1
      go_wp2_with fail
      go_ret
      exact ⟨false, rfl, by simp [PlaceI, q1], HB1.out⟩
  · have d0 : decide (0 ≤ x) = false := decide_eq_false q0
    go_wp2_with fail
    go_ret
    exact ⟨false, rfl, ⟨fun h => (by cases h), fun h => (by have := h.1; omega)⟩, HB1.out⟩
set_option maxHeartbeats 1600000 in
set_option maxRecDepth 100000 in
theorem pisAt12_any (x : Int) (w : World) : Calls Try.prog 150 #[.int .i64 x] w fun e w' => ∃ B : Bool, e = .returned (.bool B) ∧ (B = true ↔ AtOk x) ∧ w' = w := by
  go_enter Try.func150, Try.ntmps150
  by_cases q1 : x = 1
  · subst q1
    go_wp2
    go_ret
    exact ⟨true, rfl, by simp [AtOk], rfl⟩
  by_cases q2 : x = 2
  · subst q2
    go_wp2
    go_ret
    exact ⟨true, rfl, by simp [AtOk], rfl⟩
  by_cases q3 : x = 4
  · subst q3
    go_wp2
    go_ret
    exact ⟨true, rfl, by simp [AtOk], rfl⟩
  by_cases q4 : x = 8
  · subst q4
    go_wp2
    go_ret
    exact ⟨true, rfl, by simp [AtOk], rfl⟩
  by_cases q5 : x = 16
  · subst q5
    go_wp2
    go_ret
    exact ⟨true, rfl, by simp [AtOk], rfl⟩
  by_cases q6 : x = 32
  · subst q6
    go_wp2
    go_ret
    exact ⟨true, rfl, by simp [AtOk], rfl⟩
  have hno : ¬ AtOk x := by simp [AtOk, q1, q2, q3, q4, q5, q6]
  have HNO := Lib.hid hno
  have b1 : (x == 1) = false := beq_eq_false_iff_ne.2 q1
  have b2 : (x == 2) = false := beq_eq_false_iff_ne.2 q2
  have b3 : (x == 4) = false := beq_eq_false_iff_ne.2 q3
  have b4 : (x == 8) = false := beq_eq_false_iff_ne.2 q4
  have b5 : (x == 16) = false := beq_eq_false_iff_ne.2 q5
  have b6 : (x == 32) = false := beq_eq_false_iff_ne.2 q6
  clear hno q1 q2 q3 q4 q5 q6
  go_wp2
  go_ret
  exact ⟨false, rfl, by simp [HNO.out], rfl⟩
end Go.Proofs.Ytnemacejaiifnaa
/- The program's sound: is an instruction of a program as it must be? -/
namespace Go.Proofs.Ytnemacejaiifnaa
open Go Go.RowKit

theorem sound_one (n : Nat) (caps op out arg at' : Int) (set : List (Int × Int)) (h : op = 1 ∨ op = 6) : SoundI n caps ⟨op, out, arg, set, at'⟩ ↔ out = 0 ∧ arg = 0 ∧ set.length = 0 ∧ at' = 0 := by
  unfold SoundI
  simp only [List.length_eq_zero_iff]
  rcases h with rfl | rfl <;> simp
theorem sound_set (n : Nat) (caps out arg at' : Int) (set : List (Int × Int)) : SoundI n caps ⟨2, out, arg, set, at'⟩ ↔ PlaceI n out ∧ arg = 0 ∧ (set.length ≠ 0 ∧ RightR set) ∧ at' = 0 := by
  unfold SoundI
  simp only [ne_eq, List.length_eq_zero_iff]
  simp
theorem sound_alt (n : Nat) (caps out arg at' : Int) (set : List (Int × Int)) : SoundI n caps ⟨3, out, arg, set, at'⟩ ↔ PlaceI n out ∧ PlaceI n arg ∧ set.length = 0 ∧ at' = 0 := by
  unfold SoundI
  simp only [List.length_eq_zero_iff]
  simp
theorem sound_cap (n : Nat) (caps out arg at' : Int) (set : List (Int × Int)) : SoundI n caps ⟨4, out, arg, set, at'⟩ ↔ PlaceI n out ∧ (2 ≤ arg ∧ arg < caps) ∧ set.length = 0 ∧ at' = 0 := by
  unfold SoundI
  simp only [List.length_eq_zero_iff]
  simp
theorem sound_at (n : Nat) (caps out arg at' : Int) (set : List (Int × Int)) : SoundI n caps ⟨5, out, arg, set, at'⟩ ↔ PlaceI n out ∧ arg = 0 ∧ set.length = 0 ∧ AtOk at' := by
  unfold SoundI
  simp only [List.length_eq_zero_iff]
  simp
theorem sound_none (n : Nat) (caps op out arg at' : Int) (set : List (Int × Int)) (h : op ≠ 1 ∧ op ≠ 2 ∧ op ≠ 3 ∧ op ≠ 4 ∧ op ≠ 5 ∧ op ≠ 6) : ¬ SoundI n caps ⟨op, out, arg, set, at'⟩ := by
  unfold SoundI
  obtain ⟨h1, h2, h3, h4, h5, h6⟩ := h
  simp [h1, h2, h3, h4, h5, h6]
set_option maxHeartbeats 1600000 in
set_option maxRecDepth 100000 in
theorem psound1 (p : Pg) (x : Ins) (v u : Value) (w : World) (h : PgV w p v) (g : InsV w x u) (ho : x.op = 1) : Calls Try.prog 133 #[v, u] w (SaysG (SoundI p.ins.length p.caps x) w) := by
  obtain ⟨A, n, c, hn, rfl, hI, hs, hc, hnb⟩ := h.opened
  have HPV := Lib.hid h
  obtain ⟨a, c2, rfl, hR, hbd⟩ := g
  obtain ⟨op, out, arg, set, at'⟩ := x
  simp only at ho
  subst ho
  simp only [insC] at hR ⊢
  obtain ⟨w1, hw1⟩ : ∃ w1, w.alloc (.cells #[.slice A n c, .int .i64 p.start, .int .i64 p.caps] 58) = w1 := ⟨_, rfl⟩
  obtain ⟨hb1, e0, e1, e2, hz1⟩ := box3_new w _ _ _ _ hw1
  obtain ⟨s, hs0⟩ : ∃ s, set.length = s := ⟨_, rfl⟩
  have hsb : s ≤ 9223372036854775807 := by
    obtain ⟨_, _, e, q1, q2, _⟩ := hR
    injection e with _ e2 e3
    unfold maxLen at q2
    omega
  rw [hs0] at hR ⊢
  obtain ⟨w2, hw2⟩ : ∃ w2, w1.alloc (.cells #[.int .i64 1, .int .i64 out, .int .i64 arg, .slice a s c2, .int .i64 at'] 95) = w2 := ⟨_, rfl⟩
  obtain ⟨hb2, ⟨f0, f1, f2, f3, f4⟩, hz2⟩ := box5_new w1 _ _ _ _ _ _ hw2
  have g0 := (hb2.cell (World.block_lt_of_cell? w1 _ e0)).trans e0
  have g1 := (hb2.cell (World.block_lt_of_cell? w1 _ e1)).trans e1
  have g2 := (hb2.cell (World.block_lt_of_cell? w1 _ e2)).trans e2
  have hb := below_steps hb1 hb2
  rw [hz1] at f0 f1 f2 f3 f4
  have HB := Lib.hid hb; have HW1 := Lib.hid hw1; have HW2 := Lib.hid hw2; have HZ1 := Lib.hid hz1
  have HS0 := Lib.hid hs0
  have HPL : Hid (∀ (y : Int) (W : World), Below w2.heap.size w2 W → Calls Try.prog 130 #[.agg #[.slice A n c, .int .i64 p.start, .int .i64 p.caps], .int .i64 y] W (SaysG (PlaceI n y) W)) := Lib.hid fun y W hW => by
    have := pplace_any p _ y W (HPV.out.below (below_steps hb hW))
    rw [hn] at this
    exact this
  have HRG : Hid (∀ (W : World), Below w2.heap.size w2 W → Calls Try.prog 62 #[.slice a s c2] W (SaysG (RightR set) W)) := Lib.hid fun W hW => gright_any _ set W ((hR.below hb).below hW)
  have HS1 : Hid (∀ (k out arg at' : Int), k = 1 ∨ k = 6 → (SoundI n p.caps ⟨k, out, arg, set, at'⟩ ↔ out = 0 ∧ arg = 0 ∧ s = 0 ∧ at' = 0)) := Lib.hid fun k out arg at' h => by rw [← hs0]; exact sound_one n _ _ _ _ _ _ h
  have HS2 : Hid (∀ (out arg at' : Int), (SoundI n p.caps ⟨2, out, arg, set, at'⟩ ↔ PlaceI n out ∧ arg = 0 ∧ (s ≠ 0 ∧ RightR set) ∧ at' = 0)) := Lib.hid fun out arg at' => by rw [← hs0]; exact sound_set n _ _ _ _ _
  have HS3 : Hid (∀ (out arg at' : Int), (SoundI n p.caps ⟨3, out, arg, set, at'⟩ ↔ PlaceI n out ∧ PlaceI n arg ∧ s = 0 ∧ at' = 0)) := Lib.hid fun out arg at' => by rw [← hs0]; exact sound_alt n _ _ _ _ _
  have HS4 : Hid (∀ (out arg at' : Int), (SoundI n p.caps ⟨4, out, arg, set, at'⟩ ↔ PlaceI n out ∧ (2 ≤ arg ∧ arg < p.caps) ∧ s = 0 ∧ at' = 0)) := Lib.hid fun out arg at' => by rw [← hs0]; exact sound_cap n _ _ _ _ _
  have HS5 : Hid (∀ (out arg at' : Int), (SoundI n p.caps ⟨5, out, arg, set, at'⟩ ↔ PlaceI n out ∧ arg = 0 ∧ s = 0 ∧ AtOk at')) := Lib.hid fun out arg at' => by rw [← hs0]; exact sound_at n _ _ _ _ _
  rw [hn]
  obtain ⟨P, hP⟩ : ∃ P, SoundI n p.caps ⟨1, out, arg, set, at'⟩ = P := ⟨_, rfl⟩
  have HPP := Lib.hid hP
  rw [hP]
  clear hn hI hs hc hbd hR hw1 hw2 hb1 hb2 hb hz1 hz2 hs0 hP e0 e1 e2 HPV h
  go_enter Try.func133, Try.ntmps133
  go_upto_region 1 with (fail)
  rw [HW1.out, HW2.out]
  go_big_quiet (fail)
  have hb3 : Below w2.heap.size w2 (w2.drewN nq) := below_draws w2 nq
  have f0' : (w2.drewN nq).cell? ⟨w.heap.size + 1, 0, none⟩ = some (.int .i64 1) := f0
  have f1' : (w2.drewN nq).cell? ⟨w.heap.size + 1, 1, none⟩ = some (.int .i64 out) := f1
  have f2' : (w2.drewN nq).cell? ⟨w.heap.size + 1, 2, none⟩ = some (.int .i64 arg) := f2
  have f3' : (w2.drewN nq).cell? ⟨w.heap.size + 1, 3, none⟩ = some (.slice a s c2) := f3
  have f4' : (w2.drewN nq).cell? ⟨w.heap.size + 1, 4, none⟩ = some (.int .i64 at') := f4
  have g0' : (w2.drewN nq).cell? ⟨w.heap.size, 0, none⟩ = some (.slice A n c) := g0
  have g1' : (w2.drewN nq).cell? ⟨w.heap.size, 1, none⟩ = some (.int .i64 p.start) := g1
  have g2' : (w2.drewN nq).cell? ⟨w.heap.size, 2, none⟩ = some (.int .i64 p.caps) := g2
  generalize w2.drewN nq = w3 at hb3 f0' f1' f2' f3' f4' g0' g1' g2' ⊢
  have HB3 := Lib.hid hb3
  have HB : Hid (Below w.heap.size w w3) := Lib.hid (below_steps HB.out hb3)
  clear f0 f1 f2 f3 f4 g0 g1 g2 hb3
  have HF : Hid (∀ W, Below w3.heap.size w3 W → W.cell? ⟨w.heap.size + 1, 0, none⟩ = some (.int .i64 1) ∧ W.cell? ⟨w.heap.size + 1, 1, none⟩ = some (.int .i64 out) ∧ W.cell? ⟨w.heap.size + 1, 2, none⟩ = some (.int .i64 arg) ∧ W.cell? ⟨w.heap.size + 1, 3, none⟩ = some (.slice a s c2) ∧ W.cell? ⟨w.heap.size + 1, 4, none⟩ = some (.int .i64 at') ∧ W.cell? ⟨w.heap.size, 0, none⟩ = some (.slice A n c) ∧ W.cell? ⟨w.heap.size, 1, none⟩ = some (.int .i64 p.start) ∧ W.cell? ⟨w.heap.size, 2, none⟩ = some (.int .i64 p.caps)) := Lib.hid fun W hW =>
    ⟨cell_on hW f0', cell_on hW f1', cell_on hW f2', cell_on hW f3', cell_on hW f4', cell_on hW g0', cell_on hW g1', cell_on hW g2'⟩
  have HP := Lib.hid ((HPP.out ▸ HS1.out 1 out arg at' (by decide)) : P ↔ _)
  clear HPP HS1 HS2 HS3 HS4 HS5 HPL HRG
  by_cases q0 : out = 0
  rotate_left
  · have t : (out == 0) = false := beq_eq_false_iff_ne.2 q0
    have Q := Lib.hid q0
    clear q0
    go_wp2_with fail
    go_ret
    exact ⟨false, rfl, ⟨fun h => (by cases h), fun h => absurd (HP.out.1 h).1 Q.out⟩, HB.out⟩
  subst q0
  by_cases q1 : arg = 0
  rotate_left
  · have t : (arg == 0) = false := beq_eq_false_iff_ne.2 q1
    have Q := Lib.hid q1
    clear q1
    go_wp2_with fail
    go_ret
    exact ⟨false, rfl, ⟨fun h => (by cases h), fun h => absurd (HP.out.1 h).2.1 Q.out⟩, HB.out⟩
  subst q1
  by_cases q2 : s = 0
  rotate_left
  · have t : ((s : Int) == 0) = false := beq_eq_false_iff_ne.2 (by omega)
    have Q := Lib.hid q2
    clear q2
    go_wp2_with fail
    go_ret
    exact ⟨false, rfl, ⟨fun h => (by cases h), fun h => absurd (HP.out.1 h).2.2.1 Q.out⟩, HB.out⟩
  subst q2
  by_cases q3 : at' = 0
  rotate_left
  · have t : (at' == 0) = false := beq_eq_false_iff_ne.2 q3
    have Q := Lib.hid q3
    clear q3
    go_wp2_with fail
    go_ret
    exact ⟨false, rfl, ⟨fun h => (by cases h), fun h => absurd (HP.out.1 h).2.2.2 Q.out⟩, HB.out⟩
  subst q3
  go_wp2_with fail
  go_ret
  exact ⟨true, rfl, ⟨fun _ => HP.out.2 ⟨by trivial, by trivial, by trivial, by trivial⟩, fun _ => rfl⟩, HB.out⟩
set_option maxHeartbeats 1600000 in
set_option maxRecDepth 100000 in
theorem psound6 (p : Pg) (x : Ins) (v u : Value) (w : World) (h : PgV w p v) (g : InsV w x u) (ho : x.op = 6) : Calls Try.prog 133 #[v, u] w (SaysG (SoundI p.ins.length p.caps x) w) := by
  obtain ⟨A, n, c, hn, rfl, hI, hs, hc, hnb⟩ := h.opened
  have HPV := Lib.hid h
  obtain ⟨a, c2, rfl, hR, hbd⟩ := g
  obtain ⟨op, out, arg, set, at'⟩ := x
  simp only at ho
  subst ho
  simp only [insC] at hR ⊢
  obtain ⟨w1, hw1⟩ : ∃ w1, w.alloc (.cells #[.slice A n c, .int .i64 p.start, .int .i64 p.caps] 58) = w1 := ⟨_, rfl⟩
  obtain ⟨hb1, e0, e1, e2, hz1⟩ := box3_new w _ _ _ _ hw1
  obtain ⟨s, hs0⟩ : ∃ s, set.length = s := ⟨_, rfl⟩
  have hsb : s ≤ 9223372036854775807 := by
    obtain ⟨_, _, e, q1, q2, _⟩ := hR
    injection e with _ e2 e3
    unfold maxLen at q2
    omega
  rw [hs0] at hR ⊢
  obtain ⟨w2, hw2⟩ : ∃ w2, w1.alloc (.cells #[.int .i64 6, .int .i64 out, .int .i64 arg, .slice a s c2, .int .i64 at'] 95) = w2 := ⟨_, rfl⟩
  obtain ⟨hb2, ⟨f0, f1, f2, f3, f4⟩, hz2⟩ := box5_new w1 _ _ _ _ _ _ hw2
  have g0 := (hb2.cell (World.block_lt_of_cell? w1 _ e0)).trans e0
  have g1 := (hb2.cell (World.block_lt_of_cell? w1 _ e1)).trans e1
  have g2 := (hb2.cell (World.block_lt_of_cell? w1 _ e2)).trans e2
  have hb := below_steps hb1 hb2
  rw [hz1] at f0 f1 f2 f3 f4
  have HB := Lib.hid hb; have HW1 := Lib.hid hw1; have HW2 := Lib.hid hw2; have HZ1 := Lib.hid hz1
  have HS0 := Lib.hid hs0
  have HPL : Hid (∀ (y : Int) (W : World), Below w2.heap.size w2 W → Calls Try.prog 130 #[.agg #[.slice A n c, .int .i64 p.start, .int .i64 p.caps], .int .i64 y] W (SaysG (PlaceI n y) W)) := Lib.hid fun y W hW => by
    have := pplace_any p _ y W (HPV.out.below (below_steps hb hW))
    rw [hn] at this
    exact this
  have HRG : Hid (∀ (W : World), Below w2.heap.size w2 W → Calls Try.prog 62 #[.slice a s c2] W (SaysG (RightR set) W)) := Lib.hid fun W hW => gright_any _ set W ((hR.below hb).below hW)
  have HS1 : Hid (∀ (k out arg at' : Int), k = 1 ∨ k = 6 → (SoundI n p.caps ⟨k, out, arg, set, at'⟩ ↔ out = 0 ∧ arg = 0 ∧ s = 0 ∧ at' = 0)) := Lib.hid fun k out arg at' h => by rw [← hs0]; exact sound_one n _ _ _ _ _ _ h
  have HS2 : Hid (∀ (out arg at' : Int), (SoundI n p.caps ⟨2, out, arg, set, at'⟩ ↔ PlaceI n out ∧ arg = 0 ∧ (s ≠ 0 ∧ RightR set) ∧ at' = 0)) := Lib.hid fun out arg at' => by rw [← hs0]; exact sound_set n _ _ _ _ _
  have HS3 : Hid (∀ (out arg at' : Int), (SoundI n p.caps ⟨3, out, arg, set, at'⟩ ↔ PlaceI n out ∧ PlaceI n arg ∧ s = 0 ∧ at' = 0)) := Lib.hid fun out arg at' => by rw [← hs0]; exact sound_alt n _ _ _ _ _
  have HS4 : Hid (∀ (out arg at' : Int), (SoundI n p.caps ⟨4, out, arg, set, at'⟩ ↔ PlaceI n out ∧ (2 ≤ arg ∧ arg < p.caps) ∧ s = 0 ∧ at' = 0)) := Lib.hid fun out arg at' => by rw [← hs0]; exact sound_cap n _ _ _ _ _
  have HS5 : Hid (∀ (out arg at' : Int), (SoundI n p.caps ⟨5, out, arg, set, at'⟩ ↔ PlaceI n out ∧ arg = 0 ∧ s = 0 ∧ AtOk at')) := Lib.hid fun out arg at' => by rw [← hs0]; exact sound_at n _ _ _ _ _
  rw [hn]
  obtain ⟨P, hP⟩ : ∃ P, SoundI n p.caps ⟨6, out, arg, set, at'⟩ = P := ⟨_, rfl⟩
  have HPP := Lib.hid hP
  rw [hP]
  clear hn hI hs hc hbd hR hw1 hw2 hb1 hb2 hb hz1 hz2 hs0 hP e0 e1 e2 HPV h
  go_enter Try.func133, Try.ntmps133
  go_upto_region 1 with (fail)
  rw [HW1.out, HW2.out]
  go_big_quiet (fail)
  have hb3 : Below w2.heap.size w2 (w2.drewN nq) := below_draws w2 nq
  have f0' : (w2.drewN nq).cell? ⟨w.heap.size + 1, 0, none⟩ = some (.int .i64 6) := f0
  have f1' : (w2.drewN nq).cell? ⟨w.heap.size + 1, 1, none⟩ = some (.int .i64 out) := f1
  have f2' : (w2.drewN nq).cell? ⟨w.heap.size + 1, 2, none⟩ = some (.int .i64 arg) := f2
  have f3' : (w2.drewN nq).cell? ⟨w.heap.size + 1, 3, none⟩ = some (.slice a s c2) := f3
  have f4' : (w2.drewN nq).cell? ⟨w.heap.size + 1, 4, none⟩ = some (.int .i64 at') := f4
  have g0' : (w2.drewN nq).cell? ⟨w.heap.size, 0, none⟩ = some (.slice A n c) := g0
  have g1' : (w2.drewN nq).cell? ⟨w.heap.size, 1, none⟩ = some (.int .i64 p.start) := g1
  have g2' : (w2.drewN nq).cell? ⟨w.heap.size, 2, none⟩ = some (.int .i64 p.caps) := g2
  generalize w2.drewN nq = w3 at hb3 f0' f1' f2' f3' f4' g0' g1' g2' ⊢
  have HB3 := Lib.hid hb3
  have HB : Hid (Below w.heap.size w w3) := Lib.hid (below_steps HB.out hb3)
  clear f0 f1 f2 f3 f4 g0 g1 g2 hb3
  have HF : Hid (∀ W, Below w3.heap.size w3 W → W.cell? ⟨w.heap.size + 1, 0, none⟩ = some (.int .i64 6) ∧ W.cell? ⟨w.heap.size + 1, 1, none⟩ = some (.int .i64 out) ∧ W.cell? ⟨w.heap.size + 1, 2, none⟩ = some (.int .i64 arg) ∧ W.cell? ⟨w.heap.size + 1, 3, none⟩ = some (.slice a s c2) ∧ W.cell? ⟨w.heap.size + 1, 4, none⟩ = some (.int .i64 at') ∧ W.cell? ⟨w.heap.size, 0, none⟩ = some (.slice A n c) ∧ W.cell? ⟨w.heap.size, 1, none⟩ = some (.int .i64 p.start) ∧ W.cell? ⟨w.heap.size, 2, none⟩ = some (.int .i64 p.caps)) := Lib.hid fun W hW =>
    ⟨cell_on hW f0', cell_on hW f1', cell_on hW f2', cell_on hW f3', cell_on hW f4', cell_on hW g0', cell_on hW g1', cell_on hW g2'⟩
  have HP := Lib.hid ((HPP.out ▸ HS1.out 6 out arg at' (by decide)) : P ↔ _)
  clear HPP HS1 HS2 HS3 HS4 HS5 HPL HRG
  by_cases q0 : out = 0
  rotate_left
  · have t : (out == 0) = false := beq_eq_false_iff_ne.2 q0
    have Q := Lib.hid q0
    clear q0
    go_wp2_with fail
    go_ret
    exact ⟨false, rfl, ⟨fun h => (by cases h), fun h => absurd (HP.out.1 h).1 Q.out⟩, HB.out⟩
  subst q0
  by_cases q1 : arg = 0
  rotate_left
  · have t : (arg == 0) = false := beq_eq_false_iff_ne.2 q1
    have Q := Lib.hid q1
    clear q1
    go_wp2_with fail
    go_ret
    exact ⟨false, rfl, ⟨fun h => (by cases h), fun h => absurd (HP.out.1 h).2.1 Q.out⟩, HB.out⟩
  subst q1
  by_cases q2 : s = 0
  rotate_left
  · have t : ((s : Int) == 0) = false := beq_eq_false_iff_ne.2 (by omega)
    have Q := Lib.hid q2
    clear q2
    go_wp2_with fail
    go_ret
    exact ⟨false, rfl, ⟨fun h => (by cases h), fun h => absurd (HP.out.1 h).2.2.1 Q.out⟩, HB.out⟩
  subst q2
  by_cases q3 : at' = 0
  rotate_left
  · have t : (at' == 0) = false := beq_eq_false_iff_ne.2 q3
    have Q := Lib.hid q3
    clear q3
    go_wp2_with fail
    go_ret
    exact ⟨false, rfl, ⟨fun h => (by cases h), fun h => absurd (HP.out.1 h).2.2.2 Q.out⟩, HB.out⟩
  subst q3
  go_wp2_with fail
  go_ret
  exact ⟨true, rfl, ⟨fun _ => HP.out.2 ⟨by trivial, by trivial, by trivial, by trivial⟩, fun _ => rfl⟩, HB.out⟩
set_option maxHeartbeats 1600000 in
set_option maxRecDepth 100000 in
theorem psound2 (p : Pg) (x : Ins) (v u : Value) (w : World) (h : PgV w p v) (g : InsV w x u) (ho : x.op = 2) : Calls Try.prog 133 #[v, u] w (SaysG (SoundI p.ins.length p.caps x) w) := by
  obtain ⟨A, n, c, hn, rfl, hI, hs, hc, hnb⟩ := h.opened
  have HPV := Lib.hid h
  obtain ⟨a, c2, rfl, hR, hbd⟩ := g
  obtain ⟨op, out, arg, set, at'⟩ := x
  simp only at ho
  subst ho
  simp only [insC] at hR ⊢
  obtain ⟨w1, hw1⟩ : ∃ w1, w.alloc (.cells #[.slice A n c, .int .i64 p.start, .int .i64 p.caps] 58) = w1 := ⟨_, rfl⟩
  obtain ⟨hb1, e0, e1, e2, hz1⟩ := box3_new w _ _ _ _ hw1
  obtain ⟨s, hs0⟩ : ∃ s, set.length = s := ⟨_, rfl⟩
  have hsb : s ≤ 9223372036854775807 := by
    obtain ⟨_, _, e, q1, q2, _⟩ := hR
    injection e with _ e2 e3
    unfold maxLen at q2
    omega
  rw [hs0] at hR ⊢
  obtain ⟨w2, hw2⟩ : ∃ w2, w1.alloc (.cells #[.int .i64 2, .int .i64 out, .int .i64 arg, .slice a s c2, .int .i64 at'] 95) = w2 := ⟨_, rfl⟩
  obtain ⟨hb2, ⟨f0, f1, f2, f3, f4⟩, hz2⟩ := box5_new w1 _ _ _ _ _ _ hw2
  have g0 := (hb2.cell (World.block_lt_of_cell? w1 _ e0)).trans e0
  have g1 := (hb2.cell (World.block_lt_of_cell? w1 _ e1)).trans e1
  have g2 := (hb2.cell (World.block_lt_of_cell? w1 _ e2)).trans e2
  have hb := below_steps hb1 hb2
  rw [hz1] at f0 f1 f2 f3 f4
  have HB := Lib.hid hb; have HW1 := Lib.hid hw1; have HW2 := Lib.hid hw2; have HZ1 := Lib.hid hz1
  have HS0 := Lib.hid hs0
  have HPL : Hid (∀ (y : Int) (W : World), Below w2.heap.size w2 W → Calls Try.prog 130 #[.agg #[.slice A n c, .int .i64 p.start, .int .i64 p.caps], .int .i64 y] W (SaysG (PlaceI n y) W)) := Lib.hid fun y W hW => by
    have := pplace_any p _ y W (HPV.out.below (below_steps hb hW))
    rw [hn] at this
    exact this
  have HRG : Hid (∀ (W : World), Below w2.heap.size w2 W → Calls Try.prog 62 #[.slice a s c2] W (SaysG (RightR set) W)) := Lib.hid fun W hW => gright_any _ set W ((hR.below hb).below hW)
  have HS1 : Hid (∀ (k out arg at' : Int), k = 1 ∨ k = 6 → (SoundI n p.caps ⟨k, out, arg, set, at'⟩ ↔ out = 0 ∧ arg = 0 ∧ s = 0 ∧ at' = 0)) := Lib.hid fun k out arg at' h => by rw [← hs0]; exact sound_one n _ _ _ _ _ _ h
  have HS2 : Hid (∀ (out arg at' : Int), (SoundI n p.caps ⟨2, out, arg, set, at'⟩ ↔ PlaceI n out ∧ arg = 0 ∧ (s ≠ 0 ∧ RightR set) ∧ at' = 0)) := Lib.hid fun out arg at' => by rw [← hs0]; exact sound_set n _ _ _ _ _
  have HS3 : Hid (∀ (out arg at' : Int), (SoundI n p.caps ⟨3, out, arg, set, at'⟩ ↔ PlaceI n out ∧ PlaceI n arg ∧ s = 0 ∧ at' = 0)) := Lib.hid fun out arg at' => by rw [← hs0]; exact sound_alt n _ _ _ _ _
  have HS4 : Hid (∀ (out arg at' : Int), (SoundI n p.caps ⟨4, out, arg, set, at'⟩ ↔ PlaceI n out ∧ (2 ≤ arg ∧ arg < p.caps) ∧ s = 0 ∧ at' = 0)) := Lib.hid fun out arg at' => by rw [← hs0]; exact sound_cap n _ _ _ _ _
  have HS5 : Hid (∀ (out arg at' : Int), (SoundI n p.caps ⟨5, out, arg, set, at'⟩ ↔ PlaceI n out ∧ arg = 0 ∧ s = 0 ∧ AtOk at')) := Lib.hid fun out arg at' => by rw [← hs0]; exact sound_at n _ _ _ _ _
  rw [hn]
  obtain ⟨P, hP⟩ : ∃ P, SoundI n p.caps ⟨2, out, arg, set, at'⟩ = P := ⟨_, rfl⟩
  have HPP := Lib.hid hP
  rw [hP]
  clear hn hI hs hc hbd hR hw1 hw2 hb1 hb2 hb hz1 hz2 hs0 hP e0 e1 e2 HPV h
  go_enter Try.func133, Try.ntmps133
  go_upto_region 1 with (fail)
  rw [HW1.out, HW2.out]
  go_big_quiet (fail)
  have hb3 : Below w2.heap.size w2 (w2.drewN nq) := below_draws w2 nq
  have f0' : (w2.drewN nq).cell? ⟨w.heap.size + 1, 0, none⟩ = some (.int .i64 2) := f0
  have f1' : (w2.drewN nq).cell? ⟨w.heap.size + 1, 1, none⟩ = some (.int .i64 out) := f1
  have f2' : (w2.drewN nq).cell? ⟨w.heap.size + 1, 2, none⟩ = some (.int .i64 arg) := f2
  have f3' : (w2.drewN nq).cell? ⟨w.heap.size + 1, 3, none⟩ = some (.slice a s c2) := f3
  have f4' : (w2.drewN nq).cell? ⟨w.heap.size + 1, 4, none⟩ = some (.int .i64 at') := f4
  have g0' : (w2.drewN nq).cell? ⟨w.heap.size, 0, none⟩ = some (.slice A n c) := g0
  have g1' : (w2.drewN nq).cell? ⟨w.heap.size, 1, none⟩ = some (.int .i64 p.start) := g1
  have g2' : (w2.drewN nq).cell? ⟨w.heap.size, 2, none⟩ = some (.int .i64 p.caps) := g2
  generalize w2.drewN nq = w3 at hb3 f0' f1' f2' f3' f4' g0' g1' g2' ⊢
  have HB3 := Lib.hid hb3
  have HB : Hid (Below w.heap.size w w3) := Lib.hid (below_steps HB.out hb3)
  clear f0 f1 f2 f3 f4 g0 g1 g2 hb3
  have HF : Hid (∀ W, Below w3.heap.size w3 W → W.cell? ⟨w.heap.size + 1, 0, none⟩ = some (.int .i64 2) ∧ W.cell? ⟨w.heap.size + 1, 1, none⟩ = some (.int .i64 out) ∧ W.cell? ⟨w.heap.size + 1, 2, none⟩ = some (.int .i64 arg) ∧ W.cell? ⟨w.heap.size + 1, 3, none⟩ = some (.slice a s c2) ∧ W.cell? ⟨w.heap.size + 1, 4, none⟩ = some (.int .i64 at') ∧ W.cell? ⟨w.heap.size, 0, none⟩ = some (.slice A n c) ∧ W.cell? ⟨w.heap.size, 1, none⟩ = some (.int .i64 p.start) ∧ W.cell? ⟨w.heap.size, 2, none⟩ = some (.int .i64 p.caps)) := Lib.hid fun W hW =>
    ⟨cell_on hW f0', cell_on hW f1', cell_on hW f2', cell_on hW f3', cell_on hW f4', cell_on hW g0', cell_on hW g1', cell_on hW g2'⟩
  have HP := Lib.hid ((HPP.out ▸ HS2.out out arg at') : P ↔ _)
  clear HPP HS1 HS2 HS3 HS4 HS5
  by_cases hz : s = 0
  · have dz : decide (0 < s) = false := decide_eq_false (by omega)
    have HZ := Lib.hid hz
    clear hz
    go_wp2_with fail
    refine wp_region_held_drew (S := (fun W => W.cell? ⟨w.heap.size + 1, 0, none⟩ = some (.int .i64 2) ∧ W.cell? ⟨w.heap.size + 1, 1, none⟩ = some (.int .i64 out) ∧ W.cell? ⟨w.heap.size + 1, 2, none⟩ = some (.int .i64 arg) ∧ W.cell? ⟨w.heap.size + 1, 3, none⟩ = some (.slice a s c2) ∧ W.cell? ⟨w.heap.size + 1, 4, none⟩ = some (.int .i64 at') ∧ W.cell? ⟨w.heap.size, 0, none⟩ = some (.slice A n c) ∧ W.cell? ⟨w.heap.size, 1, none⟩ = some (.int .i64 p.start) ∧ W.cell? ⟨w.heap.size, 2, none⟩ = some (.int .i64 p.caps))) (by kernel_rfl) (HF.out _ (Below.refl _ _).drew) (fun hHeld => ?_)
    refine wpAnyH_take (i := 0) (oi := _) (v := ?_) rfl (by kernel_rfl) (by kernel_rfl) (by kernel_rfl) (fun _ _ _ h => h) (Or.inl ⟨by rfl, ?_⟩) (by assumption) ?_
    rotate_left 1
    · (intro w hSw; (try dsimp only at hSw); go_simp; (try with_reducible rfl))
    try simp only [List.getElem_toArray, List.getElem_cons_zero, List.getElem_cons_succ, Act.put, List.setIfInBounds_toArray, List.set_cons_zero, List.set_cons_succ]
    refine wpAnyH_take (i := 1) (oi := _) (v := ?_) rfl (by kernel_rfl) (by kernel_rfl) (by kernel_rfl) (fun _ _ _ h => h) (Or.inl ⟨by rfl, ?_⟩) (by assumption) ?_
    rotate_left 1
    · (intro w hSw; (try dsimp only at hSw); go_simp; (try with_reducible rfl))
    try simp only [List.getElem_toArray, List.getElem_cons_zero, List.getElem_cons_succ, Act.put, List.setIfInBounds_toArray, List.set_cons_zero, List.set_cons_succ]
    refine wpAnyH_take (i := 2) (oi := _) (v := ?_) rfl (by kernel_rfl) (by kernel_rfl) (by kernel_rfl) (fun _ _ _ h => h) (Or.inl ⟨by rfl, ?_⟩) (by assumption) ?_
    rotate_left 1
    · (intro w hSw; (try dsimp only at hSw); go_simp; (try with_reducible rfl))
    try simp only [List.getElem_toArray, List.getElem_cons_zero, List.getElem_cons_succ, Act.put, List.setIfInBounds_toArray, List.set_cons_zero, List.set_cons_succ]
    refine wpAnyH_take (i := 4) (oi := _) (v := ?_) rfl (by kernel_rfl) (by kernel_rfl) (by kernel_rfl) (fun _ _ _ h => h) (Or.inl ⟨by rfl, ?_⟩) (by assumption) ?_
    rotate_left 1
    · (intro w hSw; (try dsimp only at hSw); go_simp; (try with_reducible rfl))
    try simp only [List.getElem_toArray, List.getElem_cons_zero, List.getElem_cons_succ, Act.put, List.setIfInBounds_toArray, List.set_cons_zero, List.set_cons_succ]
    refine wpAnyH_take (i := 5) (oi := _) (v := ?_) rfl (by kernel_rfl) (by kernel_rfl) (by kernel_rfl) (fun _ _ _ h => h) (Or.inl ⟨by rfl, ?_⟩) (by assumption) ?_
    rotate_left 1
    · (intro w hSw; (try dsimp only at hSw); go_simp; (try with_reducible rfl))
    try simp only [List.getElem_toArray, List.getElem_cons_zero, List.getElem_cons_succ, Act.put, List.setIfInBounds_toArray, List.set_cons_zero, List.set_cons_succ]
    refine wpAnyH_take (i := 6) (oi := _) (v := ?_) rfl (by kernel_rfl) (by kernel_rfl) (by kernel_rfl) (fun _ _ _ h => h) (Or.inl ⟨by rfl, ?_⟩) (by assumption) ?_
    rotate_left 1
    · (intro w hSw; (try dsimp only at hSw); go_simp; (try with_reducible rfl))
    try simp only [List.getElem_toArray, List.getElem_cons_zero, List.getElem_cons_succ, Act.put, List.setIfInBounds_toArray, List.set_cons_zero, List.set_cons_succ]
    refine wpAnyH_take (i := 7) (oi := _) (v := ?_) rfl (by kernel_rfl) (by kernel_rfl) (by kernel_rfl) (fun _ _ _ h => h) (Or.inl ⟨by rfl, ?_⟩) (by assumption) ?_
    rotate_left 1
    · (intro w hSw; (try dsimp only at hSw); go_simp; (try with_reducible rfl))
    try simp only [List.getElem_toArray, List.getElem_cons_zero, List.getElem_cons_succ, Act.put, List.setIfInBounds_toArray, List.set_cons_zero, List.set_cons_succ]
    refine wpAnyH_ready (rs := [3]) (by kernel_rfl) (by simp) ?_
    refine AllReadyH.cons (o := _) rfl (fun K hK => ?_) ?_
    · go_simp
      (with_reducible refine (HPL.out _ _ ?_).mono ?_)
      exact HB3.out.drew
      rintro e w4 ⟨B1, rfl, hB, hb⟩
      have HB1 := Lib.hid hB
      have hb := below_of_drew hb
      have HB : Hid (Below w.heap.size w w4) := Lib.hid (below_steps HB.out hb)
      have HB4 := Lib.hid (below_steps (Below.refl _ w3) hb)
      have hS4 := HF.out _ HB4.out
      clear hb hB
      go_wp2_with fail
      refine hK.out _ _ hS4 (fun hHeld => ?_)
      clear hK K
      try simp only [List.getElem_toArray, List.getElem_cons_zero, List.getElem_cons_succ, Act.put, List.setIfInBounds_toArray, List.set_cons_zero, List.set_cons_succ]
      refine wpAnyH_take (i := 8) (oi := _) (v := ?_) rfl (by kernel_rfl) (by kernel_rfl) (by kernel_rfl) (fun _ _ _ h => h) (Or.inl ⟨by rfl, ?_⟩) (by assumption) ?_
      rotate_left 1
      · (intro w hSw; (try dsimp only at hSw); go_simp; (try with_reducible rfl))
      try simp only [List.getElem_toArray, List.getElem_cons_zero, List.getElem_cons_succ, Act.put, List.setIfInBounds_toArray, List.set_cons_zero, List.set_cons_succ]
      refine wpAnyH_take (i := 9) (oi := _) (v := undef) rfl (by kernel_rfl) (by kernel_rfl) (by kernel_rfl) (fun _ _ _ h => h) (Or.inr ⟨by rfl, rfl⟩) (by assumption) ?_
      try simp only [List.getElem_toArray, List.getElem_cons_zero, List.getElem_cons_succ, Act.put, List.setIfInBounds_toArray, List.set_cons_zero, List.set_cons_succ]
      refine wpAnyH_take (i := 10) (oi := _) (v := undef) rfl (by kernel_rfl) (by kernel_rfl) (by kernel_rfl) (fun _ _ _ h => h) (Or.inr ⟨by rfl, rfl⟩) (by assumption) ?_
      try simp only [List.getElem_toArray, List.getElem_cons_zero, List.getElem_cons_succ, Act.put, List.setIfInBounds_toArray, List.set_cons_zero, List.set_cons_succ]
      refine wpAnyH_take (i := 11) (oi := _) (v := undef) rfl (by kernel_rfl) (by kernel_rfl) (by kernel_rfl) (fun _ _ _ h => h) (Or.inr ⟨by rfl, rfl⟩) (by assumption) ?_
      try simp only [List.getElem_toArray, List.getElem_cons_zero, List.getElem_cons_succ, Act.put, List.setIfInBounds_toArray, List.set_cons_zero, List.set_cons_succ]
      refine wpAnyH_take (i := 12) (oi := _) (v := ?_) rfl (by kernel_rfl) (by kernel_rfl) (by kernel_rfl) (fun _ _ _ h => h) (Or.inl ⟨by rfl, ?_⟩) (by assumption) ?_
      rotate_left 1
      · (intro w hSw; (try dsimp only at hSw); go_simp; (try with_reducible rfl))
      try simp only [List.getElem_toArray, List.getElem_cons_zero, List.getElem_cons_succ, Act.put, List.setIfInBounds_toArray, List.set_cons_zero, List.set_cons_succ]
      refine wpAnyH_take (i := 13) (oi := _) (v := ?_) rfl (by kernel_rfl) (by kernel_rfl) (by kernel_rfl) (fun _ _ _ h => h) (Or.inl ⟨by rfl, ?_⟩) (by assumption) ?_
      rotate_left 1
      · (intro w hSw; (try dsimp only at hSw); go_simp; (try with_reducible rfl))
      try simp only [List.getElem_toArray, List.getElem_cons_zero, List.getElem_cons_succ, Act.put, List.setIfInBounds_toArray, List.set_cons_zero, List.set_cons_succ]
      refine wpAnyH_take (i := 14) (oi := _) (v := ?_) rfl (by kernel_rfl) (by kernel_rfl) (by kernel_rfl) (fun _ _ _ h => h) (Or.inl ⟨by rfl, ?_⟩) (by assumption) ?_
      rotate_left 1
      · (intro w hSw; (try dsimp only at hSw); go_simp; (try with_reducible rfl))
      try simp only [List.getElem_toArray, List.getElem_cons_zero, List.getElem_cons_succ, Act.put, List.setIfInBounds_toArray, List.set_cons_zero, List.set_cons_succ]
      refine wpAnyH_done (by kernel_rfl) ?_ _
      cases B1
      · have Q := Lib.hid (mt HB1.out.2 Bool.false_ne_true)
        go_wp2_with fail
        go_ret
        exact ⟨false, rfl, ⟨fun h => (by cases h), fun h => absurd (HP.out.1 h).1 Q.out⟩, HB.out⟩
      have Q0 := Lib.hid (HB1.out.1 rfl)
      clear HB1
      by_cases q1 : arg = 0
      rotate_left
      · have t : (arg == 0) = false := beq_eq_false_iff_ne.2 q1
        have Q := Lib.hid q1
        clear q1
        go_wp2_with fail
        go_ret
        exact ⟨false, rfl, ⟨fun h => (by cases h), fun h => absurd (HP.out.1 h).2.1 Q.out⟩, HB.out⟩
      subst q1
      go_wp2_with fail
      go_ret
      exact ⟨false, rfl, ⟨fun h => (by cases h), fun h => absurd (HP.out.1 h).2.2.1 (fun h => h.1 HZ.out)⟩, HB.out⟩
    exact AllReadyH.nil
  have dz : decide (0 < s) = true := decide_eq_true (by omega)
  have HZ := Lib.hid hz
  clear hz
  go_wp2_with fail
  refine wp_region_held_drew (S := (fun W => W.cell? ⟨w.heap.size + 1, 0, none⟩ = some (.int .i64 2) ∧ W.cell? ⟨w.heap.size + 1, 1, none⟩ = some (.int .i64 out) ∧ W.cell? ⟨w.heap.size + 1, 2, none⟩ = some (.int .i64 arg) ∧ W.cell? ⟨w.heap.size + 1, 3, none⟩ = some (.slice a s c2) ∧ W.cell? ⟨w.heap.size + 1, 4, none⟩ = some (.int .i64 at') ∧ W.cell? ⟨w.heap.size, 0, none⟩ = some (.slice A n c) ∧ W.cell? ⟨w.heap.size, 1, none⟩ = some (.int .i64 p.start) ∧ W.cell? ⟨w.heap.size, 2, none⟩ = some (.int .i64 p.caps))) (by kernel_rfl) (HF.out _ (Below.refl _ _).drew) (fun hHeld => ?_)
  refine wpAnyH_take (i := 0) (oi := _) (v := ?_) rfl (by kernel_rfl) (by kernel_rfl) (by kernel_rfl) (fun _ _ _ h => h) (Or.inl ⟨by rfl, ?_⟩) (by assumption) ?_
  rotate_left 1
  · (intro w hSw; (try dsimp only at hSw); go_simp; (try with_reducible rfl))
  try simp only [List.getElem_toArray, List.getElem_cons_zero, List.getElem_cons_succ, Act.put, List.setIfInBounds_toArray, List.set_cons_zero, List.set_cons_succ]
  refine wpAnyH_take (i := 1) (oi := _) (v := ?_) rfl (by kernel_rfl) (by kernel_rfl) (by kernel_rfl) (fun _ _ _ h => h) (Or.inl ⟨by rfl, ?_⟩) (by assumption) ?_
  rotate_left 1
  · (intro w hSw; (try dsimp only at hSw); go_simp; (try with_reducible rfl))
  try simp only [List.getElem_toArray, List.getElem_cons_zero, List.getElem_cons_succ, Act.put, List.setIfInBounds_toArray, List.set_cons_zero, List.set_cons_succ]
  refine wpAnyH_take (i := 2) (oi := _) (v := ?_) rfl (by kernel_rfl) (by kernel_rfl) (by kernel_rfl) (fun _ _ _ h => h) (Or.inl ⟨by rfl, ?_⟩) (by assumption) ?_
  rotate_left 1
  · (intro w hSw; (try dsimp only at hSw); go_simp; (try with_reducible rfl))
  try simp only [List.getElem_toArray, List.getElem_cons_zero, List.getElem_cons_succ, Act.put, List.setIfInBounds_toArray, List.set_cons_zero, List.set_cons_succ]
  refine wpAnyH_take (i := 4) (oi := _) (v := ?_) rfl (by kernel_rfl) (by kernel_rfl) (by kernel_rfl) (fun _ _ _ h => h) (Or.inl ⟨by rfl, ?_⟩) (by assumption) ?_
  rotate_left 1
  · (intro w hSw; (try dsimp only at hSw); go_simp; (try with_reducible rfl))
  try simp only [List.getElem_toArray, List.getElem_cons_zero, List.getElem_cons_succ, Act.put, List.setIfInBounds_toArray, List.set_cons_zero, List.set_cons_succ]
  refine wpAnyH_take (i := 5) (oi := _) (v := ?_) rfl (by kernel_rfl) (by kernel_rfl) (by kernel_rfl) (fun _ _ _ h => h) (Or.inl ⟨by rfl, ?_⟩) (by assumption) ?_
  rotate_left 1
  · (intro w hSw; (try dsimp only at hSw); go_simp; (try with_reducible rfl))
  try simp only [List.getElem_toArray, List.getElem_cons_zero, List.getElem_cons_succ, Act.put, List.setIfInBounds_toArray, List.set_cons_zero, List.set_cons_succ]
  refine wpAnyH_take (i := 6) (oi := _) (v := ?_) rfl (by kernel_rfl) (by kernel_rfl) (by kernel_rfl) (fun _ _ _ h => h) (Or.inl ⟨by rfl, ?_⟩) (by assumption) ?_
  rotate_left 1
  · (intro w hSw; (try dsimp only at hSw); go_simp; (try with_reducible rfl))
  try simp only [List.getElem_toArray, List.getElem_cons_zero, List.getElem_cons_succ, Act.put, List.setIfInBounds_toArray, List.set_cons_zero, List.set_cons_succ]
  refine wpAnyH_take (i := 7) (oi := _) (v := ?_) rfl (by kernel_rfl) (by kernel_rfl) (by kernel_rfl) (fun _ _ _ h => h) (Or.inl ⟨by rfl, ?_⟩) (by assumption) ?_
  rotate_left 1
  · (intro w hSw; (try dsimp only at hSw); go_simp; (try with_reducible rfl))
  try simp only [List.getElem_toArray, List.getElem_cons_zero, List.getElem_cons_succ, Act.put, List.setIfInBounds_toArray, List.set_cons_zero, List.set_cons_succ]
  refine wpAnyH_ready (rs := [3]) (by kernel_rfl) (by simp) ?_
  refine AllReadyH.cons (o := _) rfl (fun K hK => ?_) ?_
  · go_simp
    (with_reducible refine (HPL.out _ _ ?_).mono ?_)
    exact HB3.out.drew
    rintro e w4 ⟨B1, rfl, hB, hb⟩
    have HB1 := Lib.hid hB
    have hb := below_of_drew hb
    have HB : Hid (Below w.heap.size w w4) := Lib.hid (below_steps HB.out hb)
    have HB4 := Lib.hid (below_steps (Below.refl _ w3) hb)
    have hS4 := HF.out _ HB4.out
    clear hb hB
    go_wp2_with fail
    refine hK.out _ _ hS4 (fun hHeld => ?_)
    clear hK K
    try simp only [List.getElem_toArray, List.getElem_cons_zero, List.getElem_cons_succ, Act.put, List.setIfInBounds_toArray, List.set_cons_zero, List.set_cons_succ]
    refine wpAnyH_take (i := 8) (oi := _) (v := ?_) rfl (by kernel_rfl) (by kernel_rfl) (by kernel_rfl) (fun _ _ _ h => h) (Or.inl ⟨by rfl, ?_⟩) (by assumption) ?_
    rotate_left 1
    · (intro w hSw; (try dsimp only at hSw); go_simp; (try with_reducible rfl))
    try simp only [List.getElem_toArray, List.getElem_cons_zero, List.getElem_cons_succ, Act.put, List.setIfInBounds_toArray, List.set_cons_zero, List.set_cons_succ]
    refine wpAnyH_take (i := 9) (oi := _) (v := ?_) rfl (by kernel_rfl) (by kernel_rfl) (by kernel_rfl) (fun _ _ _ h => h) (Or.inl ⟨by rfl, ?_⟩) (by assumption) ?_
    rotate_left 1
    · (intro w hSw; (try dsimp only at hSw); go_simp; (try with_reducible rfl))
    try simp only [List.getElem_toArray, List.getElem_cons_zero, List.getElem_cons_succ, Act.put, List.setIfInBounds_toArray, List.set_cons_zero, List.set_cons_succ]
    refine wpAnyH_take (i := 10) (oi := _) (v := ?_) rfl (by kernel_rfl) (by kernel_rfl) (by kernel_rfl) (fun _ _ _ h => h) (Or.inl ⟨by rfl, ?_⟩) (by assumption) ?_
    rotate_left 1
    · (intro w hSw; (try dsimp only at hSw); go_simp; (try with_reducible rfl))
    try simp only [List.getElem_toArray, List.getElem_cons_zero, List.getElem_cons_succ, Act.put, List.setIfInBounds_toArray, List.set_cons_zero, List.set_cons_succ]
    refine wpAnyH_ready (rs := [11]) (by kernel_rfl) (by simp) ?_
    refine AllReadyH.cons (o := _) rfl (fun K hK => ?_) ?_
    · go_simp
      (with_reducible refine (HRG.out _ ?_).mono ?_)
      exact below_steps HB3.out HB4.out
      rintro e w5 ⟨B2, rfl, hB, hb⟩
      have HB2 := Lib.hid hB
      have HB : Hid (Below w.heap.size w w5) := Lib.hid (below_steps HB.out hb)
      have HB5 := Lib.hid (below_steps HB4.out hb)
      have hS5 := HF.out _ HB5.out
      clear hb hB
      go_wp2_with fail
      refine hK.out _ _ hS5 (fun hHeld => ?_)
      clear hK K
      try simp only [List.getElem_toArray, List.getElem_cons_zero, List.getElem_cons_succ, Act.put, List.setIfInBounds_toArray, List.set_cons_zero, List.set_cons_succ]
      refine wpAnyH_take (i := 12) (oi := _) (v := ?_) rfl (by kernel_rfl) (by kernel_rfl) (by kernel_rfl) (fun _ _ _ h => h) (Or.inl ⟨by rfl, ?_⟩) (by assumption) ?_
      rotate_left 1
      · (intro w hSw; (try dsimp only at hSw); go_simp; (try with_reducible rfl))
      try simp only [List.getElem_toArray, List.getElem_cons_zero, List.getElem_cons_succ, Act.put, List.setIfInBounds_toArray, List.set_cons_zero, List.set_cons_succ]
      refine wpAnyH_take (i := 13) (oi := _) (v := ?_) rfl (by kernel_rfl) (by kernel_rfl) (by kernel_rfl) (fun _ _ _ h => h) (Or.inl ⟨by rfl, ?_⟩) (by assumption) ?_
      rotate_left 1
      · (intro w hSw; (try dsimp only at hSw); go_simp; (try with_reducible rfl))
      try simp only [List.getElem_toArray, List.getElem_cons_zero, List.getElem_cons_succ, Act.put, List.setIfInBounds_toArray, List.set_cons_zero, List.set_cons_succ]
      refine wpAnyH_take (i := 14) (oi := _) (v := ?_) rfl (by kernel_rfl) (by kernel_rfl) (by kernel_rfl) (fun _ _ _ h => h) (Or.inl ⟨by rfl, ?_⟩) (by assumption) ?_
      rotate_left 1
      · (intro w hSw; (try dsimp only at hSw); go_simp; (try with_reducible rfl))
      try simp only [List.getElem_toArray, List.getElem_cons_zero, List.getElem_cons_succ, Act.put, List.setIfInBounds_toArray, List.set_cons_zero, List.set_cons_succ]
      refine wpAnyH_done (by kernel_rfl) ?_ _
      have HB2 : Hid (B2 = true ↔ (s ≠ 0 ∧ RightR set)) := Lib.hid (HB2.out.trans ⟨fun h => ⟨HZ.out, h⟩, fun h => h.2⟩)
      cases B1
      · have Q := Lib.hid (mt HB1.out.2 Bool.false_ne_true)
        go_wp2_with fail
        go_ret
        exact ⟨false, rfl, ⟨fun h => (by cases h), fun h => absurd (HP.out.1 h).1 Q.out⟩, HB.out⟩
      have Q0 := Lib.hid (HB1.out.1 rfl)
      clear HB1
      by_cases q1 : arg = 0
      rotate_left
      · have t : (arg == 0) = false := beq_eq_false_iff_ne.2 q1
        have Q := Lib.hid q1
        clear q1
        go_wp2_with fail
        go_ret
        exact ⟨false, rfl, ⟨fun h => (by cases h), fun h => absurd (HP.out.1 h).2.1 Q.out⟩, HB.out⟩
      subst q1
      cases B2
      · have Q := Lib.hid (mt HB2.out.2 Bool.false_ne_true)
        go_wp2_with fail
        go_ret
        exact ⟨false, rfl, ⟨fun h => (by cases h), fun h => absurd (HP.out.1 h).2.2.1 Q.out⟩, HB.out⟩
      have Q2 := Lib.hid (HB2.out.1 rfl)
      clear HB2
      by_cases q3 : at' = 0
      rotate_left
      · have t : (at' == 0) = false := beq_eq_false_iff_ne.2 q3
        have Q := Lib.hid q3
        clear q3
        go_wp2_with fail
        go_ret
        exact ⟨false, rfl, ⟨fun h => (by cases h), fun h => absurd (HP.out.1 h).2.2.2 Q.out⟩, HB.out⟩
      subst q3
      go_wp2_with fail
      go_ret
      exact ⟨true, rfl, ⟨fun _ => HP.out.2 ⟨Q0.out, by trivial, Q2.out, by trivial⟩, fun _ => rfl⟩, HB.out⟩
    exact AllReadyH.nil
  exact AllReadyH.nil
set_option maxHeartbeats 1600000 in
set_option maxRecDepth 100000 in
theorem psound3 (p : Pg) (x : Ins) (v u : Value) (w : World) (h : PgV w p v) (g : InsV w x u) (ho : x.op = 3) : Calls Try.prog 133 #[v, u] w (SaysG (SoundI p.ins.length p.caps x) w) := by
  obtain ⟨A, n, c, hn, rfl, hI, hs, hc, hnb⟩ := h.opened
  have HPV := Lib.hid h
  obtain ⟨a, c2, rfl, hR, hbd⟩ := g
  obtain ⟨op, out, arg, set, at'⟩ := x
  simp only at ho
  subst ho
  simp only [insC] at hR ⊢
  obtain ⟨w1, hw1⟩ : ∃ w1, w.alloc (.cells #[.slice A n c, .int .i64 p.start, .int .i64 p.caps] 58) = w1 := ⟨_, rfl⟩
  obtain ⟨hb1, e0, e1, e2, hz1⟩ := box3_new w _ _ _ _ hw1
  obtain ⟨s, hs0⟩ : ∃ s, set.length = s := ⟨_, rfl⟩
  have hsb : s ≤ 9223372036854775807 := by
    obtain ⟨_, _, e, q1, q2, _⟩ := hR
    injection e with _ e2 e3
    unfold maxLen at q2
    omega
  rw [hs0] at hR ⊢
  obtain ⟨w2, hw2⟩ : ∃ w2, w1.alloc (.cells #[.int .i64 3, .int .i64 out, .int .i64 arg, .slice a s c2, .int .i64 at'] 95) = w2 := ⟨_, rfl⟩
  obtain ⟨hb2, ⟨f0, f1, f2, f3, f4⟩, hz2⟩ := box5_new w1 _ _ _ _ _ _ hw2
  have g0 := (hb2.cell (World.block_lt_of_cell? w1 _ e0)).trans e0
  have g1 := (hb2.cell (World.block_lt_of_cell? w1 _ e1)).trans e1
  have g2 := (hb2.cell (World.block_lt_of_cell? w1 _ e2)).trans e2
  have hb := below_steps hb1 hb2
  rw [hz1] at f0 f1 f2 f3 f4
  have HB := Lib.hid hb; have HW1 := Lib.hid hw1; have HW2 := Lib.hid hw2; have HZ1 := Lib.hid hz1
  have HS0 := Lib.hid hs0
  have HPL : Hid (∀ (y : Int) (W : World), Below w2.heap.size w2 W → Calls Try.prog 130 #[.agg #[.slice A n c, .int .i64 p.start, .int .i64 p.caps], .int .i64 y] W (SaysG (PlaceI n y) W)) := Lib.hid fun y W hW => by
    have := pplace_any p _ y W (HPV.out.below (below_steps hb hW))
    rw [hn] at this
    exact this
  have HRG : Hid (∀ (W : World), Below w2.heap.size w2 W → Calls Try.prog 62 #[.slice a s c2] W (SaysG (RightR set) W)) := Lib.hid fun W hW => gright_any _ set W ((hR.below hb).below hW)
  have HS1 : Hid (∀ (k out arg at' : Int), k = 1 ∨ k = 6 → (SoundI n p.caps ⟨k, out, arg, set, at'⟩ ↔ out = 0 ∧ arg = 0 ∧ s = 0 ∧ at' = 0)) := Lib.hid fun k out arg at' h => by rw [← hs0]; exact sound_one n _ _ _ _ _ _ h
  have HS2 : Hid (∀ (out arg at' : Int), (SoundI n p.caps ⟨2, out, arg, set, at'⟩ ↔ PlaceI n out ∧ arg = 0 ∧ (s ≠ 0 ∧ RightR set) ∧ at' = 0)) := Lib.hid fun out arg at' => by rw [← hs0]; exact sound_set n _ _ _ _ _
  have HS3 : Hid (∀ (out arg at' : Int), (SoundI n p.caps ⟨3, out, arg, set, at'⟩ ↔ PlaceI n out ∧ PlaceI n arg ∧ s = 0 ∧ at' = 0)) := Lib.hid fun out arg at' => by rw [← hs0]; exact sound_alt n _ _ _ _ _
  have HS4 : Hid (∀ (out arg at' : Int), (SoundI n p.caps ⟨4, out, arg, set, at'⟩ ↔ PlaceI n out ∧ (2 ≤ arg ∧ arg < p.caps) ∧ s = 0 ∧ at' = 0)) := Lib.hid fun out arg at' => by rw [← hs0]; exact sound_cap n _ _ _ _ _
  have HS5 : Hid (∀ (out arg at' : Int), (SoundI n p.caps ⟨5, out, arg, set, at'⟩ ↔ PlaceI n out ∧ arg = 0 ∧ s = 0 ∧ AtOk at')) := Lib.hid fun out arg at' => by rw [← hs0]; exact sound_at n _ _ _ _ _
  rw [hn]
  obtain ⟨P, hP⟩ : ∃ P, SoundI n p.caps ⟨3, out, arg, set, at'⟩ = P := ⟨_, rfl⟩
  have HPP := Lib.hid hP
  rw [hP]
  clear hn hI hs hc hbd hR hw1 hw2 hb1 hb2 hb hz1 hz2 hs0 hP e0 e1 e2 HPV h
  go_enter Try.func133, Try.ntmps133
  go_upto_region 1 with (fail)
  rw [HW1.out, HW2.out]
  go_big_quiet (fail)
  have hb3 : Below w2.heap.size w2 (w2.drewN nq) := below_draws w2 nq
  have f0' : (w2.drewN nq).cell? ⟨w.heap.size + 1, 0, none⟩ = some (.int .i64 3) := f0
  have f1' : (w2.drewN nq).cell? ⟨w.heap.size + 1, 1, none⟩ = some (.int .i64 out) := f1
  have f2' : (w2.drewN nq).cell? ⟨w.heap.size + 1, 2, none⟩ = some (.int .i64 arg) := f2
  have f3' : (w2.drewN nq).cell? ⟨w.heap.size + 1, 3, none⟩ = some (.slice a s c2) := f3
  have f4' : (w2.drewN nq).cell? ⟨w.heap.size + 1, 4, none⟩ = some (.int .i64 at') := f4
  have g0' : (w2.drewN nq).cell? ⟨w.heap.size, 0, none⟩ = some (.slice A n c) := g0
  have g1' : (w2.drewN nq).cell? ⟨w.heap.size, 1, none⟩ = some (.int .i64 p.start) := g1
  have g2' : (w2.drewN nq).cell? ⟨w.heap.size, 2, none⟩ = some (.int .i64 p.caps) := g2
  generalize w2.drewN nq = w3 at hb3 f0' f1' f2' f3' f4' g0' g1' g2' ⊢
  have HB3 := Lib.hid hb3
  have HB : Hid (Below w.heap.size w w3) := Lib.hid (below_steps HB.out hb3)
  clear f0 f1 f2 f3 f4 g0 g1 g2 hb3
  have HF : Hid (∀ W, Below w3.heap.size w3 W → W.cell? ⟨w.heap.size + 1, 0, none⟩ = some (.int .i64 3) ∧ W.cell? ⟨w.heap.size + 1, 1, none⟩ = some (.int .i64 out) ∧ W.cell? ⟨w.heap.size + 1, 2, none⟩ = some (.int .i64 arg) ∧ W.cell? ⟨w.heap.size + 1, 3, none⟩ = some (.slice a s c2) ∧ W.cell? ⟨w.heap.size + 1, 4, none⟩ = some (.int .i64 at') ∧ W.cell? ⟨w.heap.size, 0, none⟩ = some (.slice A n c) ∧ W.cell? ⟨w.heap.size, 1, none⟩ = some (.int .i64 p.start) ∧ W.cell? ⟨w.heap.size, 2, none⟩ = some (.int .i64 p.caps)) := Lib.hid fun W hW =>
    ⟨cell_on hW f0', cell_on hW f1', cell_on hW f2', cell_on hW f3', cell_on hW f4', cell_on hW g0', cell_on hW g1', cell_on hW g2'⟩
  have HP := Lib.hid ((HPP.out ▸ HS3.out out arg at') : P ↔ _)
  clear HPP HS1 HS2 HS3 HS4 HS5
  go_wp2_with fail
  refine wp_region_held_drew (S := (fun W => W.cell? ⟨w.heap.size + 1, 0, none⟩ = some (.int .i64 3) ∧ W.cell? ⟨w.heap.size + 1, 1, none⟩ = some (.int .i64 out) ∧ W.cell? ⟨w.heap.size + 1, 2, none⟩ = some (.int .i64 arg) ∧ W.cell? ⟨w.heap.size + 1, 3, none⟩ = some (.slice a s c2) ∧ W.cell? ⟨w.heap.size + 1, 4, none⟩ = some (.int .i64 at') ∧ W.cell? ⟨w.heap.size, 0, none⟩ = some (.slice A n c) ∧ W.cell? ⟨w.heap.size, 1, none⟩ = some (.int .i64 p.start) ∧ W.cell? ⟨w.heap.size, 2, none⟩ = some (.int .i64 p.caps))) (by kernel_rfl) (HF.out _ (Below.refl _ _).drew) (fun hHeld => ?_)
  refine wpAnyH_take (i := 0) (oi := _) (v := ?_) rfl (by kernel_rfl) (by kernel_rfl) (by kernel_rfl) (fun _ _ _ h => h) (Or.inl ⟨by rfl, ?_⟩) (by assumption) ?_
  rotate_left 1
  · (intro w hSw; (try dsimp only at hSw); go_simp; (try with_reducible rfl))
  try simp only [List.getElem_toArray, List.getElem_cons_zero, List.getElem_cons_succ, Act.put, List.setIfInBounds_toArray, List.set_cons_zero, List.set_cons_succ]
  refine wpAnyH_take (i := 1) (oi := _) (v := ?_) rfl (by kernel_rfl) (by kernel_rfl) (by kernel_rfl) (fun _ _ _ h => h) (Or.inl ⟨by rfl, ?_⟩) (by assumption) ?_
  rotate_left 1
  · (intro w hSw; (try dsimp only at hSw); go_simp; (try with_reducible rfl))
  try simp only [List.getElem_toArray, List.getElem_cons_zero, List.getElem_cons_succ, Act.put, List.setIfInBounds_toArray, List.set_cons_zero, List.set_cons_succ]
  refine wpAnyH_take (i := 2) (oi := _) (v := ?_) rfl (by kernel_rfl) (by kernel_rfl) (by kernel_rfl) (fun _ _ _ h => h) (Or.inl ⟨by rfl, ?_⟩) (by assumption) ?_
  rotate_left 1
  · (intro w hSw; (try dsimp only at hSw); go_simp; (try with_reducible rfl))
  try simp only [List.getElem_toArray, List.getElem_cons_zero, List.getElem_cons_succ, Act.put, List.setIfInBounds_toArray, List.set_cons_zero, List.set_cons_succ]
  refine wpAnyH_take (i := 4) (oi := _) (v := ?_) rfl (by kernel_rfl) (by kernel_rfl) (by kernel_rfl) (fun _ _ _ h => h) (Or.inl ⟨by rfl, ?_⟩) (by assumption) ?_
  rotate_left 1
  · (intro w hSw; (try dsimp only at hSw); go_simp; (try with_reducible rfl))
  try simp only [List.getElem_toArray, List.getElem_cons_zero, List.getElem_cons_succ, Act.put, List.setIfInBounds_toArray, List.set_cons_zero, List.set_cons_succ]
  refine wpAnyH_take (i := 5) (oi := _) (v := ?_) rfl (by kernel_rfl) (by kernel_rfl) (by kernel_rfl) (fun _ _ _ h => h) (Or.inl ⟨by rfl, ?_⟩) (by assumption) ?_
  rotate_left 1
  · (intro w hSw; (try dsimp only at hSw); go_simp; (try with_reducible rfl))
  try simp only [List.getElem_toArray, List.getElem_cons_zero, List.getElem_cons_succ, Act.put, List.setIfInBounds_toArray, List.set_cons_zero, List.set_cons_succ]
  refine wpAnyH_take (i := 6) (oi := _) (v := ?_) rfl (by kernel_rfl) (by kernel_rfl) (by kernel_rfl) (fun _ _ _ h => h) (Or.inl ⟨by rfl, ?_⟩) (by assumption) ?_
  rotate_left 1
  · (intro w hSw; (try dsimp only at hSw); go_simp; (try with_reducible rfl))
  try simp only [List.getElem_toArray, List.getElem_cons_zero, List.getElem_cons_succ, Act.put, List.setIfInBounds_toArray, List.set_cons_zero, List.set_cons_succ]
  refine wpAnyH_ready (rs := [3]) (by kernel_rfl) (by simp) ?_
  refine AllReadyH.cons (o := _) rfl (fun K hK => ?_) ?_
  · go_simp
    (with_reducible refine (HPL.out _ _ ?_).mono ?_)
    exact HB3.out.drew
    rintro e w4 ⟨B1, rfl, hB, hb⟩
    have HB1 := Lib.hid hB
    have hb := below_of_drew hb
    have HB : Hid (Below w.heap.size w w4) := Lib.hid (below_steps HB.out hb)
    have HB4 := Lib.hid (below_steps (Below.refl _ w3) hb)
    have hS4 := HF.out _ HB4.out
    clear hb hB
    go_wp2_with fail
    refine hK.out _ _ hS4 (fun hHeld => ?_)
    clear hK K
    try simp only [List.getElem_toArray, List.getElem_cons_zero, List.getElem_cons_succ, Act.put, List.setIfInBounds_toArray, List.set_cons_zero, List.set_cons_succ]
    refine wpAnyH_ready (rs := [7]) (by kernel_rfl) (by simp) ?_
    refine AllReadyH.cons (o := _) rfl (fun K hK => ?_) ?_
    · go_simp
      (with_reducible refine (HPL.out _ _ ?_).mono ?_)
      exact below_steps HB3.out HB4.out
      rintro e w5 ⟨B2, rfl, hB, hb⟩
      have HB2 := Lib.hid hB
      have HB : Hid (Below w.heap.size w w5) := Lib.hid (below_steps HB.out hb)
      have HB5 := Lib.hid (below_steps HB4.out hb)
      have hS5 := HF.out _ HB5.out
      clear hb hB
      go_wp2_with fail
      refine hK.out _ _ hS5 (fun hHeld => ?_)
      clear hK K
      try simp only [List.getElem_toArray, List.getElem_cons_zero, List.getElem_cons_succ, Act.put, List.setIfInBounds_toArray, List.set_cons_zero, List.set_cons_succ]
      refine wpAnyH_take (i := 8) (oi := _) (v := ?_) rfl (by kernel_rfl) (by kernel_rfl) (by kernel_rfl) (fun _ _ _ h => h) (Or.inl ⟨by rfl, ?_⟩) (by assumption) ?_
      rotate_left 1
      · (intro w hSw; (try dsimp only at hSw); go_simp; (try with_reducible rfl))
      try simp only [List.getElem_toArray, List.getElem_cons_zero, List.getElem_cons_succ, Act.put, List.setIfInBounds_toArray, List.set_cons_zero, List.set_cons_succ]
      refine wpAnyH_take (i := 9) (oi := _) (v := ?_) rfl (by kernel_rfl) (by kernel_rfl) (by kernel_rfl) (fun _ _ _ h => h) (Or.inl ⟨by rfl, ?_⟩) (by assumption) ?_
      rotate_left 1
      · (intro w hSw; (try dsimp only at hSw); go_simp; (try with_reducible rfl))
      try simp only [List.getElem_toArray, List.getElem_cons_zero, List.getElem_cons_succ, Act.put, List.setIfInBounds_toArray, List.set_cons_zero, List.set_cons_succ]
      refine wpAnyH_done (by kernel_rfl) ?_ _
      cases B1
      · have Q := Lib.hid (mt HB1.out.2 Bool.false_ne_true)
        go_wp2_with fail
        go_ret
        exact ⟨false, rfl, ⟨fun h => (by cases h), fun h => absurd (HP.out.1 h).1 Q.out⟩, HB.out⟩
      have Q0 := Lib.hid (HB1.out.1 rfl)
      clear HB1
      cases B2
      · have Q := Lib.hid (mt HB2.out.2 Bool.false_ne_true)
        go_wp2_with fail
        go_ret
        exact ⟨false, rfl, ⟨fun h => (by cases h), fun h => absurd (HP.out.1 h).2.1 Q.out⟩, HB.out⟩
      have Q1 := Lib.hid (HB2.out.1 rfl)
      clear HB2
      by_cases q2 : s = 0
      rotate_left
      · have t : ((s : Int) == 0) = false := beq_eq_false_iff_ne.2 (by omega)
        have Q := Lib.hid q2
        clear q2
        go_wp2_with fail
        go_ret
        exact ⟨false, rfl, ⟨fun h => (by cases h), fun h => absurd (HP.out.1 h).2.2.1 Q.out⟩, HB.out⟩
      subst q2
      by_cases q3 : at' = 0
      rotate_left
      · have t : (at' == 0) = false := beq_eq_false_iff_ne.2 q3
        have Q := Lib.hid q3
        clear q3
        go_wp2_with fail
        go_ret
        exact ⟨false, rfl, ⟨fun h => (by cases h), fun h => absurd (HP.out.1 h).2.2.2 Q.out⟩, HB.out⟩
      subst q3
      go_wp2_with fail
      go_ret
      exact ⟨true, rfl, ⟨fun _ => HP.out.2 ⟨Q0.out, Q1.out, by trivial, by trivial⟩, fun _ => rfl⟩, HB.out⟩
    exact AllReadyH.nil
  exact AllReadyH.nil
set_option maxHeartbeats 1600000 in
set_option maxRecDepth 100000 in
theorem psound4 (p : Pg) (x : Ins) (v u : Value) (w : World) (h : PgV w p v) (g : InsV w x u) (ho : x.op = 4) : Calls Try.prog 133 #[v, u] w (SaysG (SoundI p.ins.length p.caps x) w) := by
  obtain ⟨A, n, c, hn, rfl, hI, hs, hc, hnb⟩ := h.opened
  have HPV := Lib.hid h
  obtain ⟨a, c2, rfl, hR, hbd⟩ := g
  obtain ⟨op, out, arg, set, at'⟩ := x
  simp only at ho
  subst ho
  simp only [insC] at hR ⊢
  obtain ⟨w1, hw1⟩ : ∃ w1, w.alloc (.cells #[.slice A n c, .int .i64 p.start, .int .i64 p.caps] 58) = w1 := ⟨_, rfl⟩
  obtain ⟨hb1, e0, e1, e2, hz1⟩ := box3_new w _ _ _ _ hw1
  obtain ⟨s, hs0⟩ : ∃ s, set.length = s := ⟨_, rfl⟩
  have hsb : s ≤ 9223372036854775807 := by
    obtain ⟨_, _, e, q1, q2, _⟩ := hR
    injection e with _ e2 e3
    unfold maxLen at q2
    omega
  rw [hs0] at hR ⊢
  obtain ⟨w2, hw2⟩ : ∃ w2, w1.alloc (.cells #[.int .i64 4, .int .i64 out, .int .i64 arg, .slice a s c2, .int .i64 at'] 95) = w2 := ⟨_, rfl⟩
  obtain ⟨hb2, ⟨f0, f1, f2, f3, f4⟩, hz2⟩ := box5_new w1 _ _ _ _ _ _ hw2
  have g0 := (hb2.cell (World.block_lt_of_cell? w1 _ e0)).trans e0
  have g1 := (hb2.cell (World.block_lt_of_cell? w1 _ e1)).trans e1
  have g2 := (hb2.cell (World.block_lt_of_cell? w1 _ e2)).trans e2
  have hb := below_steps hb1 hb2
  rw [hz1] at f0 f1 f2 f3 f4
  have HB := Lib.hid hb; have HW1 := Lib.hid hw1; have HW2 := Lib.hid hw2; have HZ1 := Lib.hid hz1
  have HS0 := Lib.hid hs0
  have HPL : Hid (∀ (y : Int) (W : World), Below w2.heap.size w2 W → Calls Try.prog 130 #[.agg #[.slice A n c, .int .i64 p.start, .int .i64 p.caps], .int .i64 y] W (SaysG (PlaceI n y) W)) := Lib.hid fun y W hW => by
    have := pplace_any p _ y W (HPV.out.below (below_steps hb hW))
    rw [hn] at this
    exact this
  have HRG : Hid (∀ (W : World), Below w2.heap.size w2 W → Calls Try.prog 62 #[.slice a s c2] W (SaysG (RightR set) W)) := Lib.hid fun W hW => gright_any _ set W ((hR.below hb).below hW)
  have HS1 : Hid (∀ (k out arg at' : Int), k = 1 ∨ k = 6 → (SoundI n p.caps ⟨k, out, arg, set, at'⟩ ↔ out = 0 ∧ arg = 0 ∧ s = 0 ∧ at' = 0)) := Lib.hid fun k out arg at' h => by rw [← hs0]; exact sound_one n _ _ _ _ _ _ h
  have HS2 : Hid (∀ (out arg at' : Int), (SoundI n p.caps ⟨2, out, arg, set, at'⟩ ↔ PlaceI n out ∧ arg = 0 ∧ (s ≠ 0 ∧ RightR set) ∧ at' = 0)) := Lib.hid fun out arg at' => by rw [← hs0]; exact sound_set n _ _ _ _ _
  have HS3 : Hid (∀ (out arg at' : Int), (SoundI n p.caps ⟨3, out, arg, set, at'⟩ ↔ PlaceI n out ∧ PlaceI n arg ∧ s = 0 ∧ at' = 0)) := Lib.hid fun out arg at' => by rw [← hs0]; exact sound_alt n _ _ _ _ _
  have HS4 : Hid (∀ (out arg at' : Int), (SoundI n p.caps ⟨4, out, arg, set, at'⟩ ↔ PlaceI n out ∧ (2 ≤ arg ∧ arg < p.caps) ∧ s = 0 ∧ at' = 0)) := Lib.hid fun out arg at' => by rw [← hs0]; exact sound_cap n _ _ _ _ _
  have HS5 : Hid (∀ (out arg at' : Int), (SoundI n p.caps ⟨5, out, arg, set, at'⟩ ↔ PlaceI n out ∧ arg = 0 ∧ s = 0 ∧ AtOk at')) := Lib.hid fun out arg at' => by rw [← hs0]; exact sound_at n _ _ _ _ _
  rw [hn]
  obtain ⟨P, hP⟩ : ∃ P, SoundI n p.caps ⟨4, out, arg, set, at'⟩ = P := ⟨_, rfl⟩
  have HPP := Lib.hid hP
  rw [hP]
  clear hn hI hs hc hbd hR hw1 hw2 hb1 hb2 hb hz1 hz2 hs0 hP e0 e1 e2 HPV h
  go_enter Try.func133, Try.ntmps133
  go_upto_region 1 with (fail)
  rw [HW1.out, HW2.out]
  go_big_quiet (fail)
  have hb3 : Below w2.heap.size w2 (w2.drewN nq) := below_draws w2 nq
  have f0' : (w2.drewN nq).cell? ⟨w.heap.size + 1, 0, none⟩ = some (.int .i64 4) := f0
  have f1' : (w2.drewN nq).cell? ⟨w.heap.size + 1, 1, none⟩ = some (.int .i64 out) := f1
  have f2' : (w2.drewN nq).cell? ⟨w.heap.size + 1, 2, none⟩ = some (.int .i64 arg) := f2
  have f3' : (w2.drewN nq).cell? ⟨w.heap.size + 1, 3, none⟩ = some (.slice a s c2) := f3
  have f4' : (w2.drewN nq).cell? ⟨w.heap.size + 1, 4, none⟩ = some (.int .i64 at') := f4
  have g0' : (w2.drewN nq).cell? ⟨w.heap.size, 0, none⟩ = some (.slice A n c) := g0
  have g1' : (w2.drewN nq).cell? ⟨w.heap.size, 1, none⟩ = some (.int .i64 p.start) := g1
  have g2' : (w2.drewN nq).cell? ⟨w.heap.size, 2, none⟩ = some (.int .i64 p.caps) := g2
  generalize w2.drewN nq = w3 at hb3 f0' f1' f2' f3' f4' g0' g1' g2' ⊢
  have HB3 := Lib.hid hb3
  have HB : Hid (Below w.heap.size w w3) := Lib.hid (below_steps HB.out hb3)
  clear f0 f1 f2 f3 f4 g0 g1 g2 hb3
  have HF : Hid (∀ W, Below w3.heap.size w3 W → W.cell? ⟨w.heap.size + 1, 0, none⟩ = some (.int .i64 4) ∧ W.cell? ⟨w.heap.size + 1, 1, none⟩ = some (.int .i64 out) ∧ W.cell? ⟨w.heap.size + 1, 2, none⟩ = some (.int .i64 arg) ∧ W.cell? ⟨w.heap.size + 1, 3, none⟩ = some (.slice a s c2) ∧ W.cell? ⟨w.heap.size + 1, 4, none⟩ = some (.int .i64 at') ∧ W.cell? ⟨w.heap.size, 0, none⟩ = some (.slice A n c) ∧ W.cell? ⟨w.heap.size, 1, none⟩ = some (.int .i64 p.start) ∧ W.cell? ⟨w.heap.size, 2, none⟩ = some (.int .i64 p.caps)) := Lib.hid fun W hW =>
    ⟨cell_on hW f0', cell_on hW f1', cell_on hW f2', cell_on hW f3', cell_on hW f4', cell_on hW g0', cell_on hW g1', cell_on hW g2'⟩
  have HP := Lib.hid ((HPP.out ▸ HS4.out out arg at') : P ↔ _)
  clear HPP HS1 HS2 HS3 HS4 HS5
  by_cases h2 : 2 ≤ arg
  rotate_left
  · have d2 : decide (2 ≤ arg) = false := decide_eq_false h2
    have H2 := Lib.hid h2
    clear h2
    go_wp2_with fail
    refine wp_region_held_drew (S := (fun W => W.cell? ⟨w.heap.size + 1, 0, none⟩ = some (.int .i64 4) ∧ W.cell? ⟨w.heap.size + 1, 1, none⟩ = some (.int .i64 out) ∧ W.cell? ⟨w.heap.size + 1, 2, none⟩ = some (.int .i64 arg) ∧ W.cell? ⟨w.heap.size + 1, 3, none⟩ = some (.slice a s c2) ∧ W.cell? ⟨w.heap.size + 1, 4, none⟩ = some (.int .i64 at') ∧ W.cell? ⟨w.heap.size, 0, none⟩ = some (.slice A n c) ∧ W.cell? ⟨w.heap.size, 1, none⟩ = some (.int .i64 p.start) ∧ W.cell? ⟨w.heap.size, 2, none⟩ = some (.int .i64 p.caps))) (by kernel_rfl) (HF.out _ (Below.refl _ _).drew) (fun hHeld => ?_)
    refine wpAnyH_take (i := 0) (oi := _) (v := ?_) rfl (by kernel_rfl) (by kernel_rfl) (by kernel_rfl) (fun _ _ _ h => h) (Or.inl ⟨by rfl, ?_⟩) (by assumption) ?_
    rotate_left 1
    · (intro w hSw; (try dsimp only at hSw); go_simp; (try with_reducible rfl))
    try simp only [List.getElem_toArray, List.getElem_cons_zero, List.getElem_cons_succ, Act.put, List.setIfInBounds_toArray, List.set_cons_zero, List.set_cons_succ]
    refine wpAnyH_take (i := 1) (oi := _) (v := ?_) rfl (by kernel_rfl) (by kernel_rfl) (by kernel_rfl) (fun _ _ _ h => h) (Or.inl ⟨by rfl, ?_⟩) (by assumption) ?_
    rotate_left 1
    · (intro w hSw; (try dsimp only at hSw); go_simp; (try with_reducible rfl))
    try simp only [List.getElem_toArray, List.getElem_cons_zero, List.getElem_cons_succ, Act.put, List.setIfInBounds_toArray, List.set_cons_zero, List.set_cons_succ]
    refine wpAnyH_take (i := 2) (oi := _) (v := ?_) rfl (by kernel_rfl) (by kernel_rfl) (by kernel_rfl) (fun _ _ _ h => h) (Or.inl ⟨by rfl, ?_⟩) (by assumption) ?_
    rotate_left 1
    · (intro w hSw; (try dsimp only at hSw); go_simp; (try with_reducible rfl))
    try simp only [List.getElem_toArray, List.getElem_cons_zero, List.getElem_cons_succ, Act.put, List.setIfInBounds_toArray, List.set_cons_zero, List.set_cons_succ]
    refine wpAnyH_take (i := 4) (oi := _) (v := ?_) rfl (by kernel_rfl) (by kernel_rfl) (by kernel_rfl) (fun _ _ _ h => h) (Or.inl ⟨by rfl, ?_⟩) (by assumption) ?_
    rotate_left 1
    · (intro w hSw; (try dsimp only at hSw); go_simp; (try with_reducible rfl))
    try simp only [List.getElem_toArray, List.getElem_cons_zero, List.getElem_cons_succ, Act.put, List.setIfInBounds_toArray, List.set_cons_zero, List.set_cons_succ]
    refine wpAnyH_take (i := 5) (oi := _) (v := ?_) rfl (by kernel_rfl) (by kernel_rfl) (by kernel_rfl) (fun _ _ _ h => h) (Or.inl ⟨by rfl, ?_⟩) (by assumption) ?_
    rotate_left 1
    · (intro w hSw; (try dsimp only at hSw); go_simp; (try with_reducible rfl))
    try simp only [List.getElem_toArray, List.getElem_cons_zero, List.getElem_cons_succ, Act.put, List.setIfInBounds_toArray, List.set_cons_zero, List.set_cons_succ]
    refine wpAnyH_take (i := 6) (oi := _) (v := ?_) rfl (by kernel_rfl) (by kernel_rfl) (by kernel_rfl) (fun _ _ _ h => h) (Or.inl ⟨by rfl, ?_⟩) (by assumption) ?_
    rotate_left 1
    · (intro w hSw; (try dsimp only at hSw); go_simp; (try with_reducible rfl))
    try simp only [List.getElem_toArray, List.getElem_cons_zero, List.getElem_cons_succ, Act.put, List.setIfInBounds_toArray, List.set_cons_zero, List.set_cons_succ]
    refine wpAnyH_ready (rs := [3]) (by kernel_rfl) (by simp) ?_
    refine AllReadyH.cons (o := _) rfl (fun K hK => ?_) ?_
    · go_simp
      (with_reducible refine (HPL.out _ _ ?_).mono ?_)
      exact HB3.out.drew
      rintro e w4 ⟨B1, rfl, hB, hb⟩
      have HB1 := Lib.hid hB
      have hb := below_of_drew hb
      have HB : Hid (Below w.heap.size w w4) := Lib.hid (below_steps HB.out hb)
      have HB4 := Lib.hid (below_steps (Below.refl _ w3) hb)
      have hS4 := HF.out _ HB4.out
      clear hb hB
      go_wp2_with fail
      refine hK.out _ _ hS4 (fun hHeld => ?_)
      clear hK K
      try simp only [List.getElem_toArray, List.getElem_cons_zero, List.getElem_cons_succ, Act.put, List.setIfInBounds_toArray, List.set_cons_zero, List.set_cons_succ]
      refine wpAnyH_take (i := 7) (oi := _) (v := ?_) rfl (by kernel_rfl) (by kernel_rfl) (by kernel_rfl) (fun _ _ _ h => h) (Or.inl ⟨by rfl, ?_⟩) (by assumption) ?_
      rotate_left 1
      · (intro w hSw; (try dsimp only at hSw); go_simp; (try with_reducible rfl))
      try simp only [List.getElem_toArray, List.getElem_cons_zero, List.getElem_cons_succ, Act.put, List.setIfInBounds_toArray, List.set_cons_zero, List.set_cons_succ]
      refine wpAnyH_take (i := 8) (oi := _) (v := undef) rfl (by kernel_rfl) (by kernel_rfl) (by kernel_rfl) (fun _ _ _ h => h) (Or.inr ⟨by rfl, rfl⟩) (by assumption) ?_
      try simp only [List.getElem_toArray, List.getElem_cons_zero, List.getElem_cons_succ, Act.put, List.setIfInBounds_toArray, List.set_cons_zero, List.set_cons_succ]
      refine wpAnyH_take (i := 9) (oi := _) (v := undef) rfl (by kernel_rfl) (by kernel_rfl) (by kernel_rfl) (fun _ _ _ h => h) (Or.inr ⟨by rfl, rfl⟩) (by assumption) ?_
      try simp only [List.getElem_toArray, List.getElem_cons_zero, List.getElem_cons_succ, Act.put, List.setIfInBounds_toArray, List.set_cons_zero, List.set_cons_succ]
      refine wpAnyH_take (i := 10) (oi := _) (v := undef) rfl (by kernel_rfl) (by kernel_rfl) (by kernel_rfl) (fun _ _ _ h => h) (Or.inr ⟨by rfl, rfl⟩) (by assumption) ?_
      try simp only [List.getElem_toArray, List.getElem_cons_zero, List.getElem_cons_succ, Act.put, List.setIfInBounds_toArray, List.set_cons_zero, List.set_cons_succ]
      refine wpAnyH_take (i := 11) (oi := _) (v := undef) rfl (by kernel_rfl) (by kernel_rfl) (by kernel_rfl) (fun _ _ _ h => h) (Or.inr ⟨by rfl, rfl⟩) (by assumption) ?_
      try simp only [List.getElem_toArray, List.getElem_cons_zero, List.getElem_cons_succ, Act.put, List.setIfInBounds_toArray, List.set_cons_zero, List.set_cons_succ]
      refine wpAnyH_take (i := 12) (oi := _) (v := undef) rfl (by kernel_rfl) (by kernel_rfl) (by kernel_rfl) (fun _ _ _ h => h) (Or.inr ⟨by rfl, rfl⟩) (by assumption) ?_
      try simp only [List.getElem_toArray, List.getElem_cons_zero, List.getElem_cons_succ, Act.put, List.setIfInBounds_toArray, List.set_cons_zero, List.set_cons_succ]
      refine wpAnyH_take (i := 13) (oi := _) (v := ?_) rfl (by kernel_rfl) (by kernel_rfl) (by kernel_rfl) (fun _ _ _ h => h) (Or.inl ⟨by rfl, ?_⟩) (by assumption) ?_
      rotate_left 1
      · (intro w hSw; (try dsimp only at hSw); go_simp; (try with_reducible rfl))
      try simp only [List.getElem_toArray, List.getElem_cons_zero, List.getElem_cons_succ, Act.put, List.setIfInBounds_toArray, List.set_cons_zero, List.set_cons_succ]
      refine wpAnyH_take (i := 14) (oi := _) (v := ?_) rfl (by kernel_rfl) (by kernel_rfl) (by kernel_rfl) (fun _ _ _ h => h) (Or.inl ⟨by rfl, ?_⟩) (by assumption) ?_
      rotate_left 1
      · (intro w hSw; (try dsimp only at hSw); go_simp; (try with_reducible rfl))
      try simp only [List.getElem_toArray, List.getElem_cons_zero, List.getElem_cons_succ, Act.put, List.setIfInBounds_toArray, List.set_cons_zero, List.set_cons_succ]
      refine wpAnyH_take (i := 15) (oi := _) (v := ?_) rfl (by kernel_rfl) (by kernel_rfl) (by kernel_rfl) (fun _ _ _ h => h) (Or.inl ⟨by rfl, ?_⟩) (by assumption) ?_
      rotate_left 1
      · (intro w hSw; (try dsimp only at hSw); go_simp; (try with_reducible rfl))
      try simp only [List.getElem_toArray, List.getElem_cons_zero, List.getElem_cons_succ, Act.put, List.setIfInBounds_toArray, List.set_cons_zero, List.set_cons_succ]
      refine wpAnyH_done (by kernel_rfl) ?_ _
      cases B1
      · have Q := Lib.hid (mt HB1.out.2 Bool.false_ne_true)
        go_wp2_with fail
        go_ret
        exact ⟨false, rfl, ⟨fun h => (by cases h), fun h => absurd (HP.out.1 h).1 Q.out⟩, HB.out⟩
      have Q0 := Lib.hid (HB1.out.1 rfl)
      clear HB1
      go_wp2_with fail
      go_ret
      exact ⟨false, rfl, ⟨fun h => (by cases h), fun h => absurd (HP.out.1 h).2.1 (fun h => by have := H2.out; have := h.1; omega)⟩, HB.out⟩
    exact AllReadyH.nil
  have d2 : decide (2 ≤ arg) = true := decide_eq_true h2
  by_cases h3 : arg < p.caps
  rotate_left
  · have d3 : decide (arg < p.caps) = false := decide_eq_false h3
    have H3 := Lib.hid h3
    clear h3
    go_wp2_with fail
    refine wp_region_held_drew (S := (fun W => W.cell? ⟨w.heap.size + 1, 0, none⟩ = some (.int .i64 4) ∧ W.cell? ⟨w.heap.size + 1, 1, none⟩ = some (.int .i64 out) ∧ W.cell? ⟨w.heap.size + 1, 2, none⟩ = some (.int .i64 arg) ∧ W.cell? ⟨w.heap.size + 1, 3, none⟩ = some (.slice a s c2) ∧ W.cell? ⟨w.heap.size + 1, 4, none⟩ = some (.int .i64 at') ∧ W.cell? ⟨w.heap.size, 0, none⟩ = some (.slice A n c) ∧ W.cell? ⟨w.heap.size, 1, none⟩ = some (.int .i64 p.start) ∧ W.cell? ⟨w.heap.size, 2, none⟩ = some (.int .i64 p.caps))) (by kernel_rfl) (HF.out _ (Below.refl _ _).drew) (fun hHeld => ?_)
    refine wpAnyH_take (i := 0) (oi := _) (v := ?_) rfl (by kernel_rfl) (by kernel_rfl) (by kernel_rfl) (fun _ _ _ h => h) (Or.inl ⟨by rfl, ?_⟩) (by assumption) ?_
    rotate_left 1
    · (intro w hSw; (try dsimp only at hSw); go_simp; (try with_reducible rfl))
    try simp only [List.getElem_toArray, List.getElem_cons_zero, List.getElem_cons_succ, Act.put, List.setIfInBounds_toArray, List.set_cons_zero, List.set_cons_succ]
    refine wpAnyH_take (i := 1) (oi := _) (v := ?_) rfl (by kernel_rfl) (by kernel_rfl) (by kernel_rfl) (fun _ _ _ h => h) (Or.inl ⟨by rfl, ?_⟩) (by assumption) ?_
    rotate_left 1
    · (intro w hSw; (try dsimp only at hSw); go_simp; (try with_reducible rfl))
    try simp only [List.getElem_toArray, List.getElem_cons_zero, List.getElem_cons_succ, Act.put, List.setIfInBounds_toArray, List.set_cons_zero, List.set_cons_succ]
    refine wpAnyH_take (i := 2) (oi := _) (v := ?_) rfl (by kernel_rfl) (by kernel_rfl) (by kernel_rfl) (fun _ _ _ h => h) (Or.inl ⟨by rfl, ?_⟩) (by assumption) ?_
    rotate_left 1
    · (intro w hSw; (try dsimp only at hSw); go_simp; (try with_reducible rfl))
    try simp only [List.getElem_toArray, List.getElem_cons_zero, List.getElem_cons_succ, Act.put, List.setIfInBounds_toArray, List.set_cons_zero, List.set_cons_succ]
    refine wpAnyH_take (i := 4) (oi := _) (v := ?_) rfl (by kernel_rfl) (by kernel_rfl) (by kernel_rfl) (fun _ _ _ h => h) (Or.inl ⟨by rfl, ?_⟩) (by assumption) ?_
    rotate_left 1
    · (intro w hSw; (try dsimp only at hSw); go_simp; (try with_reducible rfl))
    try simp only [List.getElem_toArray, List.getElem_cons_zero, List.getElem_cons_succ, Act.put, List.setIfInBounds_toArray, List.set_cons_zero, List.set_cons_succ]
    refine wpAnyH_take (i := 5) (oi := _) (v := ?_) rfl (by kernel_rfl) (by kernel_rfl) (by kernel_rfl) (fun _ _ _ h => h) (Or.inl ⟨by rfl, ?_⟩) (by assumption) ?_
    rotate_left 1
    · (intro w hSw; (try dsimp only at hSw); go_simp; (try with_reducible rfl))
    try simp only [List.getElem_toArray, List.getElem_cons_zero, List.getElem_cons_succ, Act.put, List.setIfInBounds_toArray, List.set_cons_zero, List.set_cons_succ]
    refine wpAnyH_take (i := 6) (oi := _) (v := ?_) rfl (by kernel_rfl) (by kernel_rfl) (by kernel_rfl) (fun _ _ _ h => h) (Or.inl ⟨by rfl, ?_⟩) (by assumption) ?_
    rotate_left 1
    · (intro w hSw; (try dsimp only at hSw); go_simp; (try with_reducible rfl))
    try simp only [List.getElem_toArray, List.getElem_cons_zero, List.getElem_cons_succ, Act.put, List.setIfInBounds_toArray, List.set_cons_zero, List.set_cons_succ]
    refine wpAnyH_ready (rs := [3]) (by kernel_rfl) (by simp) ?_
    refine AllReadyH.cons (o := _) rfl (fun K hK => ?_) ?_
    · go_simp
      (with_reducible refine (HPL.out _ _ ?_).mono ?_)
      exact HB3.out.drew
      rintro e w4 ⟨B1, rfl, hB, hb⟩
      have HB1 := Lib.hid hB
      have hb := below_of_drew hb
      have HB : Hid (Below w.heap.size w w4) := Lib.hid (below_steps HB.out hb)
      have HB4 := Lib.hid (below_steps (Below.refl _ w3) hb)
      have hS4 := HF.out _ HB4.out
      clear hb hB
      go_wp2_with fail
      refine hK.out _ _ hS4 (fun hHeld => ?_)
      clear hK K
      try simp only [List.getElem_toArray, List.getElem_cons_zero, List.getElem_cons_succ, Act.put, List.setIfInBounds_toArray, List.set_cons_zero, List.set_cons_succ]
      refine wpAnyH_take (i := 7) (oi := _) (v := ?_) rfl (by kernel_rfl) (by kernel_rfl) (by kernel_rfl) (fun _ _ _ h => h) (Or.inl ⟨by rfl, ?_⟩) (by assumption) ?_
      rotate_left 1
      · (intro w hSw; (try dsimp only at hSw); go_simp; (try with_reducible rfl))
      try simp only [List.getElem_toArray, List.getElem_cons_zero, List.getElem_cons_succ, Act.put, List.setIfInBounds_toArray, List.set_cons_zero, List.set_cons_succ]
      refine wpAnyH_take (i := 8) (oi := _) (v := ?_) rfl (by kernel_rfl) (by kernel_rfl) (by kernel_rfl) (fun _ _ _ h => h) (Or.inl ⟨by rfl, ?_⟩) (by assumption) ?_
      rotate_left 1
      · (intro w hSw; (try dsimp only at hSw); go_simp; (try with_reducible rfl))
      try simp only [List.getElem_toArray, List.getElem_cons_zero, List.getElem_cons_succ, Act.put, List.setIfInBounds_toArray, List.set_cons_zero, List.set_cons_succ]
      refine wpAnyH_take (i := 9) (oi := _) (v := ?_) rfl (by kernel_rfl) (by kernel_rfl) (by kernel_rfl) (fun _ _ _ h => h) (Or.inl ⟨by rfl, ?_⟩) (by assumption) ?_
      rotate_left 1
      · (intro w hSw; (try dsimp only at hSw); go_simp; (try with_reducible rfl))
      try simp only [List.getElem_toArray, List.getElem_cons_zero, List.getElem_cons_succ, Act.put, List.setIfInBounds_toArray, List.set_cons_zero, List.set_cons_succ]
      refine wpAnyH_take (i := 10) (oi := _) (v := ?_) rfl (by kernel_rfl) (by kernel_rfl) (by kernel_rfl) (fun _ _ _ h => h) (Or.inl ⟨by rfl, ?_⟩) (by assumption) ?_
      rotate_left 1
      · (intro w hSw; (try dsimp only at hSw); go_simp; (try with_reducible rfl))
      try simp only [List.getElem_toArray, List.getElem_cons_zero, List.getElem_cons_succ, Act.put, List.setIfInBounds_toArray, List.set_cons_zero, List.set_cons_succ]
      refine wpAnyH_take (i := 11) (oi := _) (v := ?_) rfl (by kernel_rfl) (by kernel_rfl) (by kernel_rfl) (fun _ _ _ h => h) (Or.inl ⟨by rfl, ?_⟩) (by assumption) ?_
      rotate_left 1
      · (intro w hSw; (try dsimp only at hSw); go_simp; (try with_reducible rfl))
      try simp only [List.getElem_toArray, List.getElem_cons_zero, List.getElem_cons_succ, Act.put, List.setIfInBounds_toArray, List.set_cons_zero, List.set_cons_succ]
      refine wpAnyH_take (i := 12) (oi := _) (v := ?_) rfl (by kernel_rfl) (by kernel_rfl) (by kernel_rfl) (fun _ _ _ h => h) (Or.inl ⟨by rfl, ?_⟩) (by assumption) ?_
      rotate_left 1
      · (intro w hSw; (try dsimp only at hSw); go_simp; (try with_reducible rfl))
      try simp only [List.getElem_toArray, List.getElem_cons_zero, List.getElem_cons_succ, Act.put, List.setIfInBounds_toArray, List.set_cons_zero, List.set_cons_succ]
      refine wpAnyH_take (i := 13) (oi := _) (v := ?_) rfl (by kernel_rfl) (by kernel_rfl) (by kernel_rfl) (fun _ _ _ h => h) (Or.inl ⟨by rfl, ?_⟩) (by assumption) ?_
      rotate_left 1
      · (intro w hSw; (try dsimp only at hSw); go_simp; (try with_reducible rfl))
      try simp only [List.getElem_toArray, List.getElem_cons_zero, List.getElem_cons_succ, Act.put, List.setIfInBounds_toArray, List.set_cons_zero, List.set_cons_succ]
      refine wpAnyH_take (i := 14) (oi := _) (v := ?_) rfl (by kernel_rfl) (by kernel_rfl) (by kernel_rfl) (fun _ _ _ h => h) (Or.inl ⟨by rfl, ?_⟩) (by assumption) ?_
      rotate_left 1
      · (intro w hSw; (try dsimp only at hSw); go_simp; (try with_reducible rfl))
      try simp only [List.getElem_toArray, List.getElem_cons_zero, List.getElem_cons_succ, Act.put, List.setIfInBounds_toArray, List.set_cons_zero, List.set_cons_succ]
      refine wpAnyH_take (i := 15) (oi := _) (v := ?_) rfl (by kernel_rfl) (by kernel_rfl) (by kernel_rfl) (fun _ _ _ h => h) (Or.inl ⟨by rfl, ?_⟩) (by assumption) ?_
      rotate_left 1
      · (intro w hSw; (try dsimp only at hSw); go_simp; (try with_reducible rfl))
      try simp only [List.getElem_toArray, List.getElem_cons_zero, List.getElem_cons_succ, Act.put, List.setIfInBounds_toArray, List.set_cons_zero, List.set_cons_succ]
      refine wpAnyH_done (by kernel_rfl) ?_ _
      cases B1
      · have Q := Lib.hid (mt HB1.out.2 Bool.false_ne_true)
        go_wp2_with fail
        go_ret
        exact ⟨false, rfl, ⟨fun h => (by cases h), fun h => absurd (HP.out.1 h).1 Q.out⟩, HB.out⟩
      have Q0 := Lib.hid (HB1.out.1 rfl)
      clear HB1
      go_wp2_with fail
      go_ret
      exact ⟨false, rfl, ⟨fun h => (by cases h), fun h => absurd (HP.out.1 h).2.1 (fun h => by have := H3.out; have := h.2; omega)⟩, HB.out⟩
    exact AllReadyH.nil
  have d3 : decide (arg < p.caps) = true := decide_eq_true h3
  have H3 := Lib.hid (And.intro h2 h3)
  clear h2 h3
  go_wp2_with fail
  refine wp_region_held_drew (S := (fun W => W.cell? ⟨w.heap.size + 1, 0, none⟩ = some (.int .i64 4) ∧ W.cell? ⟨w.heap.size + 1, 1, none⟩ = some (.int .i64 out) ∧ W.cell? ⟨w.heap.size + 1, 2, none⟩ = some (.int .i64 arg) ∧ W.cell? ⟨w.heap.size + 1, 3, none⟩ = some (.slice a s c2) ∧ W.cell? ⟨w.heap.size + 1, 4, none⟩ = some (.int .i64 at') ∧ W.cell? ⟨w.heap.size, 0, none⟩ = some (.slice A n c) ∧ W.cell? ⟨w.heap.size, 1, none⟩ = some (.int .i64 p.start) ∧ W.cell? ⟨w.heap.size, 2, none⟩ = some (.int .i64 p.caps))) (by kernel_rfl) (HF.out _ (Below.refl _ _).drew) (fun hHeld => ?_)
  refine wpAnyH_take (i := 0) (oi := _) (v := ?_) rfl (by kernel_rfl) (by kernel_rfl) (by kernel_rfl) (fun _ _ _ h => h) (Or.inl ⟨by rfl, ?_⟩) (by assumption) ?_
  rotate_left 1
  · (intro w hSw; (try dsimp only at hSw); go_simp; (try with_reducible rfl))
  try simp only [List.getElem_toArray, List.getElem_cons_zero, List.getElem_cons_succ, Act.put, List.setIfInBounds_toArray, List.set_cons_zero, List.set_cons_succ]
  refine wpAnyH_take (i := 1) (oi := _) (v := ?_) rfl (by kernel_rfl) (by kernel_rfl) (by kernel_rfl) (fun _ _ _ h => h) (Or.inl ⟨by rfl, ?_⟩) (by assumption) ?_
  rotate_left 1
  · (intro w hSw; (try dsimp only at hSw); go_simp; (try with_reducible rfl))
  try simp only [List.getElem_toArray, List.getElem_cons_zero, List.getElem_cons_succ, Act.put, List.setIfInBounds_toArray, List.set_cons_zero, List.set_cons_succ]
  refine wpAnyH_take (i := 2) (oi := _) (v := ?_) rfl (by kernel_rfl) (by kernel_rfl) (by kernel_rfl) (fun _ _ _ h => h) (Or.inl ⟨by rfl, ?_⟩) (by assumption) ?_
  rotate_left 1
  · (intro w hSw; (try dsimp only at hSw); go_simp; (try with_reducible rfl))
  try simp only [List.getElem_toArray, List.getElem_cons_zero, List.getElem_cons_succ, Act.put, List.setIfInBounds_toArray, List.set_cons_zero, List.set_cons_succ]
  refine wpAnyH_take (i := 4) (oi := _) (v := ?_) rfl (by kernel_rfl) (by kernel_rfl) (by kernel_rfl) (fun _ _ _ h => h) (Or.inl ⟨by rfl, ?_⟩) (by assumption) ?_
  rotate_left 1
  · (intro w hSw; (try dsimp only at hSw); go_simp; (try with_reducible rfl))
  try simp only [List.getElem_toArray, List.getElem_cons_zero, List.getElem_cons_succ, Act.put, List.setIfInBounds_toArray, List.set_cons_zero, List.set_cons_succ]
  refine wpAnyH_take (i := 5) (oi := _) (v := ?_) rfl (by kernel_rfl) (by kernel_rfl) (by kernel_rfl) (fun _ _ _ h => h) (Or.inl ⟨by rfl, ?_⟩) (by assumption) ?_
  rotate_left 1
  · (intro w hSw; (try dsimp only at hSw); go_simp; (try with_reducible rfl))
  try simp only [List.getElem_toArray, List.getElem_cons_zero, List.getElem_cons_succ, Act.put, List.setIfInBounds_toArray, List.set_cons_zero, List.set_cons_succ]
  refine wpAnyH_take (i := 6) (oi := _) (v := ?_) rfl (by kernel_rfl) (by kernel_rfl) (by kernel_rfl) (fun _ _ _ h => h) (Or.inl ⟨by rfl, ?_⟩) (by assumption) ?_
  rotate_left 1
  · (intro w hSw; (try dsimp only at hSw); go_simp; (try with_reducible rfl))
  try simp only [List.getElem_toArray, List.getElem_cons_zero, List.getElem_cons_succ, Act.put, List.setIfInBounds_toArray, List.set_cons_zero, List.set_cons_succ]
  refine wpAnyH_ready (rs := [3]) (by kernel_rfl) (by simp) ?_
  refine AllReadyH.cons (o := _) rfl (fun K hK => ?_) ?_
  · go_simp
    (with_reducible refine (HPL.out _ _ ?_).mono ?_)
    exact HB3.out.drew
    rintro e w4 ⟨B1, rfl, hB, hb⟩
    have HB1 := Lib.hid hB
    have hb := below_of_drew hb
    have HB : Hid (Below w.heap.size w w4) := Lib.hid (below_steps HB.out hb)
    have HB4 := Lib.hid (below_steps (Below.refl _ w3) hb)
    have hS4 := HF.out _ HB4.out
    clear hb hB
    go_wp2_with fail
    refine hK.out _ _ hS4 (fun hHeld => ?_)
    clear hK K
    try simp only [List.getElem_toArray, List.getElem_cons_zero, List.getElem_cons_succ, Act.put, List.setIfInBounds_toArray, List.set_cons_zero, List.set_cons_succ]
    refine wpAnyH_take (i := 7) (oi := _) (v := ?_) rfl (by kernel_rfl) (by kernel_rfl) (by kernel_rfl) (fun _ _ _ h => h) (Or.inl ⟨by rfl, ?_⟩) (by assumption) ?_
    rotate_left 1
    · (intro w hSw; (try dsimp only at hSw); go_simp; (try with_reducible rfl))
    try simp only [List.getElem_toArray, List.getElem_cons_zero, List.getElem_cons_succ, Act.put, List.setIfInBounds_toArray, List.set_cons_zero, List.set_cons_succ]
    refine wpAnyH_take (i := 8) (oi := _) (v := ?_) rfl (by kernel_rfl) (by kernel_rfl) (by kernel_rfl) (fun _ _ _ h => h) (Or.inl ⟨by rfl, ?_⟩) (by assumption) ?_
    rotate_left 1
    · (intro w hSw; (try dsimp only at hSw); go_simp; (try with_reducible rfl))
    try simp only [List.getElem_toArray, List.getElem_cons_zero, List.getElem_cons_succ, Act.put, List.setIfInBounds_toArray, List.set_cons_zero, List.set_cons_succ]
    refine wpAnyH_take (i := 9) (oi := _) (v := ?_) rfl (by kernel_rfl) (by kernel_rfl) (by kernel_rfl) (fun _ _ _ h => h) (Or.inl ⟨by rfl, ?_⟩) (by assumption) ?_
    rotate_left 1
    · (intro w hSw; (try dsimp only at hSw); go_simp; (try with_reducible rfl))
    try simp only [List.getElem_toArray, List.getElem_cons_zero, List.getElem_cons_succ, Act.put, List.setIfInBounds_toArray, List.set_cons_zero, List.set_cons_succ]
    refine wpAnyH_take (i := 10) (oi := _) (v := ?_) rfl (by kernel_rfl) (by kernel_rfl) (by kernel_rfl) (fun _ _ _ h => h) (Or.inl ⟨by rfl, ?_⟩) (by assumption) ?_
    rotate_left 1
    · (intro w hSw; (try dsimp only at hSw); go_simp; (try with_reducible rfl))
    try simp only [List.getElem_toArray, List.getElem_cons_zero, List.getElem_cons_succ, Act.put, List.setIfInBounds_toArray, List.set_cons_zero, List.set_cons_succ]
    refine wpAnyH_take (i := 11) (oi := _) (v := ?_) rfl (by kernel_rfl) (by kernel_rfl) (by kernel_rfl) (fun _ _ _ h => h) (Or.inl ⟨by rfl, ?_⟩) (by assumption) ?_
    rotate_left 1
    · (intro w hSw; (try dsimp only at hSw); go_simp; (try with_reducible rfl))
    try simp only [List.getElem_toArray, List.getElem_cons_zero, List.getElem_cons_succ, Act.put, List.setIfInBounds_toArray, List.set_cons_zero, List.set_cons_succ]
    refine wpAnyH_take (i := 12) (oi := _) (v := ?_) rfl (by kernel_rfl) (by kernel_rfl) (by kernel_rfl) (fun _ _ _ h => h) (Or.inl ⟨by rfl, ?_⟩) (by assumption) ?_
    rotate_left 1
    · (intro w hSw; (try dsimp only at hSw); go_simp; (try with_reducible rfl))
    try simp only [List.getElem_toArray, List.getElem_cons_zero, List.getElem_cons_succ, Act.put, List.setIfInBounds_toArray, List.set_cons_zero, List.set_cons_succ]
    refine wpAnyH_take (i := 13) (oi := _) (v := ?_) rfl (by kernel_rfl) (by kernel_rfl) (by kernel_rfl) (fun _ _ _ h => h) (Or.inl ⟨by rfl, ?_⟩) (by assumption) ?_
    rotate_left 1
    · (intro w hSw; (try dsimp only at hSw); go_simp; (try with_reducible rfl))
    try simp only [List.getElem_toArray, List.getElem_cons_zero, List.getElem_cons_succ, Act.put, List.setIfInBounds_toArray, List.set_cons_zero, List.set_cons_succ]
    refine wpAnyH_take (i := 14) (oi := _) (v := ?_) rfl (by kernel_rfl) (by kernel_rfl) (by kernel_rfl) (fun _ _ _ h => h) (Or.inl ⟨by rfl, ?_⟩) (by assumption) ?_
    rotate_left 1
    · (intro w hSw; (try dsimp only at hSw); go_simp; (try with_reducible rfl))
    try simp only [List.getElem_toArray, List.getElem_cons_zero, List.getElem_cons_succ, Act.put, List.setIfInBounds_toArray, List.set_cons_zero, List.set_cons_succ]
    refine wpAnyH_take (i := 15) (oi := _) (v := ?_) rfl (by kernel_rfl) (by kernel_rfl) (by kernel_rfl) (fun _ _ _ h => h) (Or.inl ⟨by rfl, ?_⟩) (by assumption) ?_
    rotate_left 1
    · (intro w hSw; (try dsimp only at hSw); go_simp; (try with_reducible rfl))
    try simp only [List.getElem_toArray, List.getElem_cons_zero, List.getElem_cons_succ, Act.put, List.setIfInBounds_toArray, List.set_cons_zero, List.set_cons_succ]
    refine wpAnyH_done (by kernel_rfl) ?_ _
    cases B1
    · have Q := Lib.hid (mt HB1.out.2 Bool.false_ne_true)
      go_wp2_with fail
      go_ret
      exact ⟨false, rfl, ⟨fun h => (by cases h), fun h => absurd (HP.out.1 h).1 Q.out⟩, HB.out⟩
    have Q0 := Lib.hid (HB1.out.1 rfl)
    clear HB1
    by_cases q2 : s = 0
    rotate_left
    · have t : ((s : Int) == 0) = false := beq_eq_false_iff_ne.2 (by omega)
      have Q := Lib.hid q2
      clear q2
      go_wp2_with fail
      go_ret
      exact ⟨false, rfl, ⟨fun h => (by cases h), fun h => absurd (HP.out.1 h).2.2.1 Q.out⟩, HB.out⟩
    subst q2
    by_cases q3 : at' = 0
    rotate_left
    · have t : (at' == 0) = false := beq_eq_false_iff_ne.2 q3
      have Q := Lib.hid q3
      clear q3
      go_wp2_with fail
      go_ret
      exact ⟨false, rfl, ⟨fun h => (by cases h), fun h => absurd (HP.out.1 h).2.2.2 Q.out⟩, HB.out⟩
    subst q3
    go_wp2_with fail
    go_ret
    exact ⟨true, rfl, ⟨fun _ => HP.out.2 ⟨Q0.out, H3.out, by trivial, by trivial⟩, fun _ => rfl⟩, HB.out⟩
  exact AllReadyH.nil
set_option maxHeartbeats 1600000 in
set_option maxRecDepth 100000 in
theorem psound5 (p : Pg) (x : Ins) (v u : Value) (w : World) (h : PgV w p v) (g : InsV w x u) (ho : x.op = 5) : Calls Try.prog 133 #[v, u] w (SaysG (SoundI p.ins.length p.caps x) w) := by
  obtain ⟨A, n, c, hn, rfl, hI, hs, hc, hnb⟩ := h.opened
  have HPV := Lib.hid h
  obtain ⟨a, c2, rfl, hR, hbd⟩ := g
  obtain ⟨op, out, arg, set, at'⟩ := x
  simp only at ho
  subst ho
  simp only [insC] at hR ⊢
  obtain ⟨w1, hw1⟩ : ∃ w1, w.alloc (.cells #[.slice A n c, .int .i64 p.start, .int .i64 p.caps] 58) = w1 := ⟨_, rfl⟩
  obtain ⟨hb1, e0, e1, e2, hz1⟩ := box3_new w _ _ _ _ hw1
  obtain ⟨s, hs0⟩ : ∃ s, set.length = s := ⟨_, rfl⟩
  have hsb : s ≤ 9223372036854775807 := by
    obtain ⟨_, _, e, q1, q2, _⟩ := hR
    injection e with _ e2 e3
    unfold maxLen at q2
    omega
  rw [hs0] at hR ⊢
  obtain ⟨w2, hw2⟩ : ∃ w2, w1.alloc (.cells #[.int .i64 5, .int .i64 out, .int .i64 arg, .slice a s c2, .int .i64 at'] 95) = w2 := ⟨_, rfl⟩
  obtain ⟨hb2, ⟨f0, f1, f2, f3, f4⟩, hz2⟩ := box5_new w1 _ _ _ _ _ _ hw2
  have g0 := (hb2.cell (World.block_lt_of_cell? w1 _ e0)).trans e0
  have g1 := (hb2.cell (World.block_lt_of_cell? w1 _ e1)).trans e1
  have g2 := (hb2.cell (World.block_lt_of_cell? w1 _ e2)).trans e2
  have hb := below_steps hb1 hb2
  rw [hz1] at f0 f1 f2 f3 f4
  have HB := Lib.hid hb; have HW1 := Lib.hid hw1; have HW2 := Lib.hid hw2; have HZ1 := Lib.hid hz1
  have HS0 := Lib.hid hs0
  have HPL : Hid (∀ (y : Int) (W : World), Below w2.heap.size w2 W → Calls Try.prog 130 #[.agg #[.slice A n c, .int .i64 p.start, .int .i64 p.caps], .int .i64 y] W (SaysG (PlaceI n y) W)) := Lib.hid fun y W hW => by
    have := pplace_any p _ y W (HPV.out.below (below_steps hb hW))
    rw [hn] at this
    exact this
  have HRG : Hid (∀ (W : World), Below w2.heap.size w2 W → Calls Try.prog 62 #[.slice a s c2] W (SaysG (RightR set) W)) := Lib.hid fun W hW => gright_any _ set W ((hR.below hb).below hW)
  have HS1 : Hid (∀ (k out arg at' : Int), k = 1 ∨ k = 6 → (SoundI n p.caps ⟨k, out, arg, set, at'⟩ ↔ out = 0 ∧ arg = 0 ∧ s = 0 ∧ at' = 0)) := Lib.hid fun k out arg at' h => by rw [← hs0]; exact sound_one n _ _ _ _ _ _ h
  have HS2 : Hid (∀ (out arg at' : Int), (SoundI n p.caps ⟨2, out, arg, set, at'⟩ ↔ PlaceI n out ∧ arg = 0 ∧ (s ≠ 0 ∧ RightR set) ∧ at' = 0)) := Lib.hid fun out arg at' => by rw [← hs0]; exact sound_set n _ _ _ _ _
  have HS3 : Hid (∀ (out arg at' : Int), (SoundI n p.caps ⟨3, out, arg, set, at'⟩ ↔ PlaceI n out ∧ PlaceI n arg ∧ s = 0 ∧ at' = 0)) := Lib.hid fun out arg at' => by rw [← hs0]; exact sound_alt n _ _ _ _ _
  have HS4 : Hid (∀ (out arg at' : Int), (SoundI n p.caps ⟨4, out, arg, set, at'⟩ ↔ PlaceI n out ∧ (2 ≤ arg ∧ arg < p.caps) ∧ s = 0 ∧ at' = 0)) := Lib.hid fun out arg at' => by rw [← hs0]; exact sound_cap n _ _ _ _ _
  have HS5 : Hid (∀ (out arg at' : Int), (SoundI n p.caps ⟨5, out, arg, set, at'⟩ ↔ PlaceI n out ∧ arg = 0 ∧ s = 0 ∧ AtOk at')) := Lib.hid fun out arg at' => by rw [← hs0]; exact sound_at n _ _ _ _ _
  rw [hn]
  obtain ⟨P, hP⟩ : ∃ P, SoundI n p.caps ⟨5, out, arg, set, at'⟩ = P := ⟨_, rfl⟩
  have HPP := Lib.hid hP
  rw [hP]
  clear hn hI hs hc hbd hR hw1 hw2 hb1 hb2 hb hz1 hz2 hs0 hP e0 e1 e2 HPV h
  go_enter Try.func133, Try.ntmps133
  go_upto_region 1 with (fail)
  rw [HW1.out, HW2.out]
  go_big_quiet (fail)
  have hb3 : Below w2.heap.size w2 (w2.drewN nq) := below_draws w2 nq
  have f0' : (w2.drewN nq).cell? ⟨w.heap.size + 1, 0, none⟩ = some (.int .i64 5) := f0
  have f1' : (w2.drewN nq).cell? ⟨w.heap.size + 1, 1, none⟩ = some (.int .i64 out) := f1
  have f2' : (w2.drewN nq).cell? ⟨w.heap.size + 1, 2, none⟩ = some (.int .i64 arg) := f2
  have f3' : (w2.drewN nq).cell? ⟨w.heap.size + 1, 3, none⟩ = some (.slice a s c2) := f3
  have f4' : (w2.drewN nq).cell? ⟨w.heap.size + 1, 4, none⟩ = some (.int .i64 at') := f4
  have g0' : (w2.drewN nq).cell? ⟨w.heap.size, 0, none⟩ = some (.slice A n c) := g0
  have g1' : (w2.drewN nq).cell? ⟨w.heap.size, 1, none⟩ = some (.int .i64 p.start) := g1
  have g2' : (w2.drewN nq).cell? ⟨w.heap.size, 2, none⟩ = some (.int .i64 p.caps) := g2
  generalize w2.drewN nq = w3 at hb3 f0' f1' f2' f3' f4' g0' g1' g2' ⊢
  have HB3 := Lib.hid hb3
  have HB : Hid (Below w.heap.size w w3) := Lib.hid (below_steps HB.out hb3)
  clear f0 f1 f2 f3 f4 g0 g1 g2 hb3
  have HF : Hid (∀ W, Below w3.heap.size w3 W → W.cell? ⟨w.heap.size + 1, 0, none⟩ = some (.int .i64 5) ∧ W.cell? ⟨w.heap.size + 1, 1, none⟩ = some (.int .i64 out) ∧ W.cell? ⟨w.heap.size + 1, 2, none⟩ = some (.int .i64 arg) ∧ W.cell? ⟨w.heap.size + 1, 3, none⟩ = some (.slice a s c2) ∧ W.cell? ⟨w.heap.size + 1, 4, none⟩ = some (.int .i64 at') ∧ W.cell? ⟨w.heap.size, 0, none⟩ = some (.slice A n c) ∧ W.cell? ⟨w.heap.size, 1, none⟩ = some (.int .i64 p.start) ∧ W.cell? ⟨w.heap.size, 2, none⟩ = some (.int .i64 p.caps)) := Lib.hid fun W hW =>
    ⟨cell_on hW f0', cell_on hW f1', cell_on hW f2', cell_on hW f3', cell_on hW f4', cell_on hW g0', cell_on hW g1', cell_on hW g2'⟩
  have HP := Lib.hid ((HPP.out ▸ HS5.out out arg at') : P ↔ _)
  clear HPP HS1 HS2 HS3 HS4 HS5
  go_wp2_with fail
  refine wp_region_held_drew (S := (fun W => W.cell? ⟨w.heap.size + 1, 0, none⟩ = some (.int .i64 5) ∧ W.cell? ⟨w.heap.size + 1, 1, none⟩ = some (.int .i64 out) ∧ W.cell? ⟨w.heap.size + 1, 2, none⟩ = some (.int .i64 arg) ∧ W.cell? ⟨w.heap.size + 1, 3, none⟩ = some (.slice a s c2) ∧ W.cell? ⟨w.heap.size + 1, 4, none⟩ = some (.int .i64 at') ∧ W.cell? ⟨w.heap.size, 0, none⟩ = some (.slice A n c) ∧ W.cell? ⟨w.heap.size, 1, none⟩ = some (.int .i64 p.start) ∧ W.cell? ⟨w.heap.size, 2, none⟩ = some (.int .i64 p.caps))) (by kernel_rfl) (HF.out _ (Below.refl _ _).drew) (fun hHeld => ?_)
  refine wpAnyH_take (i := 0) (oi := _) (v := ?_) rfl (by kernel_rfl) (by kernel_rfl) (by kernel_rfl) (fun _ _ _ h => h) (Or.inl ⟨by rfl, ?_⟩) (by assumption) ?_
  rotate_left 1
  · (intro w hSw; (try dsimp only at hSw); go_simp; (try with_reducible rfl))
  try simp only [List.getElem_toArray, List.getElem_cons_zero, List.getElem_cons_succ, Act.put, List.setIfInBounds_toArray, List.set_cons_zero, List.set_cons_succ]
  refine wpAnyH_take (i := 1) (oi := _) (v := ?_) rfl (by kernel_rfl) (by kernel_rfl) (by kernel_rfl) (fun _ _ _ h => h) (Or.inl ⟨by rfl, ?_⟩) (by assumption) ?_
  rotate_left 1
  · (intro w hSw; (try dsimp only at hSw); go_simp; (try with_reducible rfl))
  try simp only [List.getElem_toArray, List.getElem_cons_zero, List.getElem_cons_succ, Act.put, List.setIfInBounds_toArray, List.set_cons_zero, List.set_cons_succ]
  refine wpAnyH_take (i := 2) (oi := _) (v := ?_) rfl (by kernel_rfl) (by kernel_rfl) (by kernel_rfl) (fun _ _ _ h => h) (Or.inl ⟨by rfl, ?_⟩) (by assumption) ?_
  rotate_left 1
  · (intro w hSw; (try dsimp only at hSw); go_simp; (try with_reducible rfl))
  try simp only [List.getElem_toArray, List.getElem_cons_zero, List.getElem_cons_succ, Act.put, List.setIfInBounds_toArray, List.set_cons_zero, List.set_cons_succ]
  refine wpAnyH_take (i := 4) (oi := _) (v := ?_) rfl (by kernel_rfl) (by kernel_rfl) (by kernel_rfl) (fun _ _ _ h => h) (Or.inl ⟨by rfl, ?_⟩) (by assumption) ?_
  rotate_left 1
  · (intro w hSw; (try dsimp only at hSw); go_simp; (try with_reducible rfl))
  try simp only [List.getElem_toArray, List.getElem_cons_zero, List.getElem_cons_succ, Act.put, List.setIfInBounds_toArray, List.set_cons_zero, List.set_cons_succ]
  refine wpAnyH_take (i := 5) (oi := _) (v := ?_) rfl (by kernel_rfl) (by kernel_rfl) (by kernel_rfl) (fun _ _ _ h => h) (Or.inl ⟨by rfl, ?_⟩) (by assumption) ?_
  rotate_left 1
  · (intro w hSw; (try dsimp only at hSw); go_simp; (try with_reducible rfl))
  try simp only [List.getElem_toArray, List.getElem_cons_zero, List.getElem_cons_succ, Act.put, List.setIfInBounds_toArray, List.set_cons_zero, List.set_cons_succ]
  refine wpAnyH_ready (rs := [3]) (by kernel_rfl) (by simp) ?_
  refine AllReadyH.cons (o := _) rfl (fun K hK => ?_) ?_
  · go_simp
    (with_reducible refine (HPL.out _ _ ?_).mono ?_)
    exact HB3.out.drew
    rintro e w4 ⟨B1, rfl, hB, hb⟩
    have HB1 := Lib.hid hB
    have hb := below_of_drew hb
    have HB : Hid (Below w.heap.size w w4) := Lib.hid (below_steps HB.out hb)
    have HB4 := Lib.hid (below_steps (Below.refl _ w3) hb)
    have hS4 := HF.out _ HB4.out
    clear hb hB
    go_wp2_with fail
    refine hK.out _ _ hS4 (fun hHeld => ?_)
    clear hK K
    try simp only [List.getElem_toArray, List.getElem_cons_zero, List.getElem_cons_succ, Act.put, List.setIfInBounds_toArray, List.set_cons_zero, List.set_cons_succ]
    refine wpAnyH_ready (rs := [6]) (by kernel_rfl) (by simp) ?_
    refine AllReadyH.cons (o := _) rfl (fun K hK => ?_) ?_
    · go_simp
      (with_reducible refine (pisAt12_any _ _).mono ?_)
      rintro e w5 ⟨B2, rfl, hB, rfl⟩
      have HB2 := Lib.hid hB
      have hS5 := HF.out _ HB4.out
      clear hB
      go_wp2_with fail
      refine hK.out _ _ hS5 (fun hHeld => ?_)
      clear hK K
      try simp only [List.getElem_toArray, List.getElem_cons_zero, List.getElem_cons_succ, Act.put, List.setIfInBounds_toArray, List.set_cons_zero, List.set_cons_succ]
      refine wpAnyH_take (i := 7) (oi := _) (v := ?_) rfl (by kernel_rfl) (by kernel_rfl) (by kernel_rfl) (fun _ _ _ h => h) (Or.inl ⟨by rfl, ?_⟩) (by assumption) ?_
      rotate_left 1
      · (intro w hSw; (try dsimp only at hSw); go_simp; (try with_reducible rfl))
      try simp only [List.getElem_toArray, List.getElem_cons_zero, List.getElem_cons_succ, Act.put, List.setIfInBounds_toArray, List.set_cons_zero, List.set_cons_succ]
      refine wpAnyH_take (i := 8) (oi := _) (v := ?_) rfl (by kernel_rfl) (by kernel_rfl) (by kernel_rfl) (fun _ _ _ h => h) (Or.inl ⟨by rfl, ?_⟩) (by assumption) ?_
      rotate_left 1
      · (intro w hSw; (try dsimp only at hSw); go_simp; (try with_reducible rfl))
      try simp only [List.getElem_toArray, List.getElem_cons_zero, List.getElem_cons_succ, Act.put, List.setIfInBounds_toArray, List.set_cons_zero, List.set_cons_succ]
      refine wpAnyH_done (by kernel_rfl) ?_ _
      cases B1
      · have Q := Lib.hid (mt HB1.out.2 Bool.false_ne_true)
        go_wp2_with fail
        go_ret
        exact ⟨false, rfl, ⟨fun h => (by cases h), fun h => absurd (HP.out.1 h).1 Q.out⟩, HB.out⟩
      have Q0 := Lib.hid (HB1.out.1 rfl)
      clear HB1
      by_cases q1 : arg = 0
      rotate_left
      · have t : (arg == 0) = false := beq_eq_false_iff_ne.2 q1
        have Q := Lib.hid q1
        clear q1
        go_wp2_with fail
        go_ret
        exact ⟨false, rfl, ⟨fun h => (by cases h), fun h => absurd (HP.out.1 h).2.1 Q.out⟩, HB.out⟩
      subst q1
      by_cases q2 : s = 0
      rotate_left
      · have t : ((s : Int) == 0) = false := beq_eq_false_iff_ne.2 (by omega)
        have Q := Lib.hid q2
        clear q2
        go_wp2_with fail
        go_ret
        exact ⟨false, rfl, ⟨fun h => (by cases h), fun h => absurd (HP.out.1 h).2.2.1 Q.out⟩, HB.out⟩
      subst q2
      cases B2
      · have Q := Lib.hid (mt HB2.out.2 Bool.false_ne_true)
        go_wp2_with fail
        go_ret
        exact ⟨false, rfl, ⟨fun h => (by cases h), fun h => absurd (HP.out.1 h).2.2.2 Q.out⟩, HB.out⟩
      have Q3 := Lib.hid (HB2.out.1 rfl)
      clear HB2
      go_wp2_with fail
      go_ret
      exact ⟨true, rfl, ⟨fun _ => HP.out.2 ⟨Q0.out, by trivial, by trivial, Q3.out⟩, fun _ => rfl⟩, HB.out⟩
    exact AllReadyH.nil
  exact AllReadyH.nil
set_option maxHeartbeats 1600000 in
set_option maxRecDepth 100000 in
theorem psound0 (p : Pg) (x : Ins) (v u : Value) (w : World) (h : PgV w p v) (g : InsV w x u) (ho : x.op ≠ 1 ∧ x.op ≠ 2 ∧ x.op ≠ 3 ∧ x.op ≠ 4 ∧ x.op ≠ 5 ∧ x.op ≠ 6) : Calls Try.prog 133 #[v, u] w (SaysG (SoundI p.ins.length p.caps x) w) := by
  obtain ⟨A, n, c, hn, rfl, hI, hs, hc, hnb⟩ := h.opened
  have HPV := Lib.hid h
  obtain ⟨a, c2, rfl, hR, hbd⟩ := g
  obtain ⟨op, out, arg, set, at'⟩ := x
  simp only at ho
  have HO := Lib.hid ho
  clear ho
  simp only [insC] at hR ⊢
  obtain ⟨w1, hw1⟩ : ∃ w1, w.alloc (.cells #[.slice A n c, .int .i64 p.start, .int .i64 p.caps] 58) = w1 := ⟨_, rfl⟩
  obtain ⟨hb1, e0, e1, e2, hz1⟩ := box3_new w _ _ _ _ hw1
  obtain ⟨s, hs0⟩ : ∃ s, set.length = s := ⟨_, rfl⟩
  have hsb : s ≤ 9223372036854775807 := by
    obtain ⟨_, _, e, q1, q2, _⟩ := hR
    injection e with _ e2 e3
    unfold maxLen at q2
    omega
  rw [hs0] at hR ⊢
  obtain ⟨w2, hw2⟩ : ∃ w2, w1.alloc (.cells #[.int .i64 op, .int .i64 out, .int .i64 arg, .slice a s c2, .int .i64 at'] 95) = w2 := ⟨_, rfl⟩
  obtain ⟨hb2, ⟨f0, f1, f2, f3, f4⟩, hz2⟩ := box5_new w1 _ _ _ _ _ _ hw2
  have g0 := (hb2.cell (World.block_lt_of_cell? w1 _ e0)).trans e0
  have g1 := (hb2.cell (World.block_lt_of_cell? w1 _ e1)).trans e1
  have g2 := (hb2.cell (World.block_lt_of_cell? w1 _ e2)).trans e2
  have hb := below_steps hb1 hb2
  rw [hz1] at f0 f1 f2 f3 f4
  have HB := Lib.hid hb; have HW1 := Lib.hid hw1; have HW2 := Lib.hid hw2; have HZ1 := Lib.hid hz1
  have HS0 := Lib.hid hs0
  have HPL : Hid (∀ (y : Int) (W : World), Below w2.heap.size w2 W → Calls Try.prog 130 #[.agg #[.slice A n c, .int .i64 p.start, .int .i64 p.caps], .int .i64 y] W (SaysG (PlaceI n y) W)) := Lib.hid fun y W hW => by
    have := pplace_any p _ y W (HPV.out.below (below_steps hb hW))
    rw [hn] at this
    exact this
  have HRG : Hid (∀ (W : World), Below w2.heap.size w2 W → Calls Try.prog 62 #[.slice a s c2] W (SaysG (RightR set) W)) := Lib.hid fun W hW => gright_any _ set W ((hR.below hb).below hW)
  have HS1 : Hid (∀ (k out arg at' : Int), k = 1 ∨ k = 6 → (SoundI n p.caps ⟨k, out, arg, set, at'⟩ ↔ out = 0 ∧ arg = 0 ∧ s = 0 ∧ at' = 0)) := Lib.hid fun k out arg at' h => by rw [← hs0]; exact sound_one n _ _ _ _ _ _ h
  have HS2 : Hid (∀ (out arg at' : Int), (SoundI n p.caps ⟨2, out, arg, set, at'⟩ ↔ PlaceI n out ∧ arg = 0 ∧ (s ≠ 0 ∧ RightR set) ∧ at' = 0)) := Lib.hid fun out arg at' => by rw [← hs0]; exact sound_set n _ _ _ _ _
  have HS3 : Hid (∀ (out arg at' : Int), (SoundI n p.caps ⟨3, out, arg, set, at'⟩ ↔ PlaceI n out ∧ PlaceI n arg ∧ s = 0 ∧ at' = 0)) := Lib.hid fun out arg at' => by rw [← hs0]; exact sound_alt n _ _ _ _ _
  have HS4 : Hid (∀ (out arg at' : Int), (SoundI n p.caps ⟨4, out, arg, set, at'⟩ ↔ PlaceI n out ∧ (2 ≤ arg ∧ arg < p.caps) ∧ s = 0 ∧ at' = 0)) := Lib.hid fun out arg at' => by rw [← hs0]; exact sound_cap n _ _ _ _ _
  have HS5 : Hid (∀ (out arg at' : Int), (SoundI n p.caps ⟨5, out, arg, set, at'⟩ ↔ PlaceI n out ∧ arg = 0 ∧ s = 0 ∧ AtOk at')) := Lib.hid fun out arg at' => by rw [← hs0]; exact sound_at n _ _ _ _ _
  rw [hn]
  obtain ⟨P, hP⟩ : ∃ P, SoundI n p.caps ⟨op, out, arg, set, at'⟩ = P := ⟨_, rfl⟩
  have HPP := Lib.hid hP
  rw [hP]
  clear hn hI hs hc hbd hR hw1 hw2 hb1 hb2 hb hz1 hz2 hs0 hP e0 e1 e2 HPV h
  go_enter Try.func133, Try.ntmps133
  go_upto_region 1 with (fail)
  rw [HW1.out, HW2.out]
  go_big_quiet (fail)
  have hb3 : Below w2.heap.size w2 (w2.drewN nq) := below_draws w2 nq
  have f0' : (w2.drewN nq).cell? ⟨w.heap.size + 1, 0, none⟩ = some (.int .i64 op) := f0
  have f1' : (w2.drewN nq).cell? ⟨w.heap.size + 1, 1, none⟩ = some (.int .i64 out) := f1
  have f2' : (w2.drewN nq).cell? ⟨w.heap.size + 1, 2, none⟩ = some (.int .i64 arg) := f2
  have f3' : (w2.drewN nq).cell? ⟨w.heap.size + 1, 3, none⟩ = some (.slice a s c2) := f3
  have f4' : (w2.drewN nq).cell? ⟨w.heap.size + 1, 4, none⟩ = some (.int .i64 at') := f4
  have g0' : (w2.drewN nq).cell? ⟨w.heap.size, 0, none⟩ = some (.slice A n c) := g0
  have g1' : (w2.drewN nq).cell? ⟨w.heap.size, 1, none⟩ = some (.int .i64 p.start) := g1
  have g2' : (w2.drewN nq).cell? ⟨w.heap.size, 2, none⟩ = some (.int .i64 p.caps) := g2
  generalize w2.drewN nq = w3 at hb3 f0' f1' f2' f3' f4' g0' g1' g2' ⊢
  have HB3 := Lib.hid hb3
  have HB : Hid (Below w.heap.size w w3) := Lib.hid (below_steps HB.out hb3)
  clear f0 f1 f2 f3 f4 g0 g1 g2 hb3
  have HF : Hid (∀ W, Below w3.heap.size w3 W → W.cell? ⟨w.heap.size + 1, 0, none⟩ = some (.int .i64 op) ∧ W.cell? ⟨w.heap.size + 1, 1, none⟩ = some (.int .i64 out) ∧ W.cell? ⟨w.heap.size + 1, 2, none⟩ = some (.int .i64 arg) ∧ W.cell? ⟨w.heap.size + 1, 3, none⟩ = some (.slice a s c2) ∧ W.cell? ⟨w.heap.size + 1, 4, none⟩ = some (.int .i64 at') ∧ W.cell? ⟨w.heap.size, 0, none⟩ = some (.slice A n c) ∧ W.cell? ⟨w.heap.size, 1, none⟩ = some (.int .i64 p.start) ∧ W.cell? ⟨w.heap.size, 2, none⟩ = some (.int .i64 p.caps)) := Lib.hid fun W hW =>
    ⟨cell_on hW f0', cell_on hW f1', cell_on hW f2', cell_on hW f3', cell_on hW f4', cell_on hW g0', cell_on hW g1', cell_on hW g2'⟩
  have HNO : Hid (¬ P) := Lib.hid (HPP.out ▸ sound_none n p.caps op out arg at' set HO.out)
  obtain ⟨o1, o2, o3, o4, o5, o6⟩ := HO.out
  have t1 : (op == 1) = false := beq_eq_false_iff_ne.2 o1
  have t2 : (op == 2) = false := beq_eq_false_iff_ne.2 o2
  have t3 : (op == 3) = false := beq_eq_false_iff_ne.2 o3
  have t4 : (op == 4) = false := beq_eq_false_iff_ne.2 o4
  have t5 : (op == 5) = false := beq_eq_false_iff_ne.2 o5
  have t6 : (op == 6) = false := beq_eq_false_iff_ne.2 o6
  clear o1 o2 o3 o4 o5 o6 HPP HS1 HS2 HS3 HS4 HS5
  go_wp2_with fail
  go_ret
  exact ⟨false, rfl, ⟨fun h => (by cases h), fun h => absurd h HNO.out⟩, HB.out⟩
theorem psound12_any (p : Pg) (x : Ins) (v u : Value) (w : World) (h : PgV w p v) (g : InsV w x u) : Calls Try.prog 133 #[v, u] w (SaysG (SoundI p.ins.length p.caps x) w) := by
  by_cases o1 : x.op = 1
  · exact psound1 p x v u w h g o1
  by_cases o2 : x.op = 2
  · exact psound2 p x v u w h g o2
  by_cases o3 : x.op = 3
  · exact psound3 p x v u w h g o3
  by_cases o4 : x.op = 4
  · exact psound4 p x v u w h g o4
  by_cases o5 : x.op = 5
  · exact psound5 p x v u w h g o5
  by_cases o6 : x.op = 6
  · exact psound6 p x v u w h g o6
  exact psound0 p x v u w h g ⟨o1, o2, o3, o4, o5, o6⟩
end Go.Proofs.Ytnemacejaiifnaa
/- The library's search over instructions, and over ints, by a closure over a box; are all places instructions' places; is a program right. -/
namespace Go.Proofs.Ytnemacejaiifnaa
open Go Go.RowKit

def IdxG (P : Prop) (w : World) (e : Ending) (w' : World) : Prop := ∃ i : Int, e = .returned (.int .i64 i) ∧ (0 ≤ i ↔ P) ∧ -1 ≤ i ∧ Below w.heap.size w w'

set_option maxHeartbeats 1600000 in
set_option maxRecDepth 100000 in
theorem indexI_any (L : List Ins) (P : Ins → Prop) (g q : Nat) (w0 : World) (eg : ∀ args w, (callFunc g args).run Try.prog w = .ok (.enter g args) w) (hg : ∀ x ∈ L, ∀ (v : Value) (W : World), Below w0.heap.size w0 W → InsV W x v → Calls Try.prog g #[v, .pointer (some ⟨q, 0, none⟩)] W (SaysG (P x) W)) (v : Value) (w : World) (hw : Below w0.heap.size w0 w) (h : Inss w v L) :
    Calls Try.prog 149 #[v, .func (.func g) #[] #[.pointer (some ⟨q, 0, none⟩)]] w (IdxG (∃ x ∈ L, P x) w) := by
  have H0 := Lib.hid h; have HW := Lib.hid hw
  obtain ⟨n, hn⟩ : ∃ n, L.length = n := ⟨_, rfl⟩
  obtain ⟨A, c, rfl, h1, h2, -⟩ := h
  have hnb : L.length ≤ 9223372036854775807 := by unfold maxLen at h2; omega
  have HG := Lib.hid hg; have HN := Lib.hid hn
  rw [hn] at H0 h1 hnb ⊢
  obtain ⟨Q, hQ⟩ : ∃ Q : Prop, (∃ x ∈ L, P x) = Q := ⟨_, rfl⟩
  have HQ : Hid (Q ↔ ∃ x ∈ L, P x) := Lib.hid (by rw [hQ])
  rw [hQ]
  clear hg hn hQ hw h2
  go_enter Try.func149, Try.ntmps149
  go_wp2_with fail
  go_loopw [8] (fun i wr => ∃ k : Nat, k ≤ n ∧ i = .int .i64 k ∧ Below w.heap.size w wr ∧ ∀ (j : Nat) (hj : j < L.length), j < k → ¬ P L[j]) (fun i _ => n - (intOf i).toNat)
  case atStart => exact ⟨0, Nat.zero_le _, rfl, Below.refl _ _, fun j hj h => by omega⟩
  case round =>
    obtain ⟨k, hk, rfl, hB, hall⟩ := hrel
    have HB := Lib.hid hB; have HALL := Lib.hid hall
    have hKw := H0.out.below hB
    have HB1 := Lib.hid (below_steps HW.out hB)
    clear hB hall
    by_cases hkn : k < n
    · have hkl : k < L.length := by rw [HN.out]; exact hkn
      obtain ⟨b, o, x, a2, s, c2, rfl, hx, hm, -, -, ⟨k0, k1, k2, k3, k4⟩, -, -, hIV⟩ := hKw.at' k hkl
      have HI := Lib.hid (HG.out x hm _ wr HB1.out hIV)
      have HTK := Lib.hid hx; have HKL := Lib.hid hkl
      clear hKw hx hm
      go_wp2_with fail
      refine HI.out.mono ?_
      rintro e w3 ⟨B, rfl, hq, hb3⟩
      have HB3 := Lib.hid (below_steps HB.out hb3)
      have HNB : Hid (B = false → ¬ P x) := Lib.hid fun e g => by rw [hq.2 g] at e; cases e
      have HYB : Hid (B = true → P x) := Lib.hid hq.1
      clear hb3 hq k0 k1 k2 k3 k4 hIV HI
      cases B
      · have NB := Lib.hid (HNB.out rfl)
        clear HNB HYB
        go_wp2_with fail
        go_roundw
        case rel =>
          refine ⟨k + 1, by omega, by go_num, HB3.out, fun j hj hjk => ?_⟩
          by_cases hjk2 : j < k
          · exact HALL.out j hj hjk2
          · obtain rfl : j = k := by omega
            rw [HTK.out]
            exact NB.out
        case measure => simp [intOf]; omega
      · have YB := Lib.hid (HYB.out rfl)
        clear HNB HYB
        go_wp2_with fail
        go_ret
        exact ⟨k, rfl, ⟨fun _ => HQ.out.2 ⟨_, List.getElem_mem HKL.out, by rw [HTK.out]; exact YB.out⟩, fun _ => by omega⟩, by omega, HB3.out⟩
    · have hnone : ¬ Q := fun h => by
        obtain ⟨q, hq, hp⟩ := HQ.out.1 h
        obtain ⟨j, hj, rfl⟩ := List.mem_iff_getElem.1 hq
        exact HALL.out j hj (by have := HN.out; omega) hp
      have HNO := Lib.hid hnone
      clear hnone hKw
      go_wp2_with fail
      go_ret
      exact ⟨-1, rfl, ⟨fun h => (by omega), fun h => absurd h HNO.out⟩, by omega, HB.out⟩
set_option maxHeartbeats 1600000 in
set_option maxRecDepth 100000 in
theorem containsI_any (L : List Ins) (P : Ins → Prop) (g q : Nat) (w0 : World) (eg : ∀ args w, (callFunc g args).run Try.prog w = .ok (.enter g args) w) (hg : ∀ x ∈ L, ∀ (v : Value) (W : World), Below w0.heap.size w0 W → InsV W x v → Calls Try.prog g #[v, .pointer (some ⟨q, 0, none⟩)] W (SaysG (P x) W)) (v : Value) (w : World) (hw : Below w0.heap.size w0 w) (h : Inss w v L) :
    Calls Try.prog 131 #[v, .func (.func g) #[] #[.pointer (some ⟨q, 0, none⟩)]] w (SaysG (∃ x ∈ L, P x) w) := by
  have HI := Lib.hid (indexI_any L P g q w0 eg hg v w hw h)
  obtain ⟨A, c, rfl, -⟩ := h
  obtain ⟨Q, hQ⟩ : ∃ Q : Prop, (∃ x ∈ L, P x) = Q := ⟨_, rfl⟩
  rw [hQ] at HI ⊢
  clear hg hQ eg hw
  go_enter Try.func131, Try.ntmps131
  go_wp2_with fail
  refine HI.out.mono ?_
  rintro e w' ⟨i, rfl, hq, hi, hb⟩
  have HQ := Lib.hid hq; have HB := Lib.hid hb
  clear hq hb
  by_cases h0 : 0 ≤ i
  · have d0 : decide (0 ≤ i) = true := decide_eq_true h0
    have H0 := Lib.hid h0
    clear h0 hi
    go_wp2_with fail
    go_ret
    exact ⟨true, rfl, ⟨fun _ => HQ.out.1 H0.out, fun _ => rfl⟩, HB.out⟩
  · have d0 : decide (0 ≤ i) = false := decide_eq_false h0
    have H0 := Lib.hid h0
    clear h0 hi
    go_wp2_with fail
    go_ret
    exact ⟨false, rfl, ⟨fun h => (by cases h), fun h => (by have h1 := HQ.out.2 h; have h2 := H0.out; omega)⟩, HB.out⟩

end Go.Proofs.Ytnemacejaiifnaa
/- Are two lists of ints, of runes, the same; has a program too many instructions. -/
namespace Go.Proofs.Ytnemacejaiifnaa
open Go Go.RowKit

/-- The law's: too many instructions and ranges. -/
def totI (L : List Ins) : Nat := L.length + (L.map fun x => x.set.length).sum
def LongPg (p : Pg) : Prop := 2000 < totI p.ins
/-- How many have been counted behind the first k. -/
def cntI (L : List Ins) (k : Nat) : Nat := L.length + ((L.take k).map fun x => x.set.length).sum
theorem cnt_le (L : List Ins) (k : Nat) : cntI L k ≤ totI L := by
  unfold cntI totI
  have h : L.map (fun x => x.set.length) = (L.take k).map (fun x => x.set.length) ++ (L.drop k).map (fun x => x.set.length) := by rw [← List.map_append, List.take_append_drop]
  rw [h, List.sum_append]
  omega
theorem cnt_next (L : List Ins) (k : Nat) (h : k < L.length) : cntI L (k + 1) = cntI L k + L[k].set.length := by
  unfold cntI
  rw [List.take_succ_eq_append_getElem h, List.map_append, List.sum_append]
  simp only [List.map_cons, List.map_nil, List.sum_cons, List.sum_nil]
  omega
theorem cnt_end (L : List Ins) (k : Nat) (h : L.length ≤ k) : cntI L k = totI L := by
  unfold cntI totI
  rw [List.take_of_length_le h]
theorem wrap64_nat (m : Nat) (h : m ≤ 9223372036854775807) : IntKind.i64.wrap (m : Int) = (m : Int) := by
  unfold IntKind.wrap
  simp [IntKind.bits, IntKind.signed]
  omega
set_option maxHeartbeats 1600000 in
set_option maxRecDepth 100000 in
theorem long12_any (p : Pg) (v : Value) (w : World) (h : PgV w p v) : Calls Try.prog 25 #[v] w (SaysG (LongPg p) w) := by
  have H0 := Lib.hid h
  obtain ⟨A, n, c, hn, rfl, hI, hs, hc, hnb⟩ := h.opened
  obtain ⟨w1, hw1⟩ : ∃ w1, w.alloc (.cells #[.slice A n c, .int .i64 p.start, .int .i64 p.caps] 58) = w1 := ⟨_, rfl⟩
  obtain ⟨hb1, e0, e1, e2, hz1⟩ := box3_new w _ _ _ _ hw1
  obtain ⟨P, hP⟩ : ∃ P, LongPg p = P := ⟨_, rfl⟩
  have HP : Hid (P ↔ 2000 < totI p.ins) := Lib.hid (by rw [← hP]; rfl)
  have HIS := Lib.hid (hI.below hb1)
  rw [hP]
  have HB1 := Lib.hid hb1; have HW1 := Lib.hid hw1; have HN := Lib.hid hn
  clear h hI hs hc hw1 hb1 hz1 hP hn H0
  go_enter Try.func25, Try.ntmps25
  go_upto_region 1 with (fail)
  rw [HW1.out]
  go_wp2_with fail
  go_loopw [3, 4] (fun m i wr => ∃ k : Nat, k ≤ n ∧ i = .int .i64 k ∧ m = .int .i64 (cntI p.ins k) ∧ wr = w1 ∧ cntI p.ins k ≤ 2000 + 17592186044416 + n) (fun _ i _ => n - (intOf i).toNat)
  case atStart => exact ⟨0, Nat.zero_le _, rfl, by have := HN.out; simp [cntI, this], rfl, by have := HN.out; simp [cntI, this]⟩
  case round =>
    obtain ⟨k, hk, rfl, rfl, rfl, hbd⟩ := hrel
    obtain ⟨m, hm⟩ : ∃ m, cntI p.ins k = m := ⟨_, rfl⟩
    rw [hm] at hbd ⊢
    have HM := Lib.hid hm; have HBD := Lib.hid hbd
    clear hm hbd
    by_cases hkn : k < n
    · have hkz : decide (k < n) = true := decide_eq_true hkn
      by_cases hmm : m ≤ 2000
      · have hkl : k < p.ins.length := by rw [HN.out]; exact hkn
        obtain ⟨b, o, x, a2, s, c2, rfl, hx, hmem, hs, -, ⟨k0, k1, k2, k3, k4⟩, -, ⟨-, -, -, -, hsl⟩, -⟩ := HIS.out.at' k hkl
        have hnx := cnt_next p.ins k hkl
        rw [hx, hs, HM.out] at hnx
        rw [hs] at hsl
        have HNX := Lib.hid hnx
        have hsum : IntKind.i64.wrap ((m : Int) + (s : Int)) = ((m + s : Nat) : Int) := by rw [← Int.natCast_add]; exact wrap64_nat _ (by omega)
        have HSL := Lib.hid hsl; have HMM := Lib.hid hmm
        have d2 : decide ((m : Int) ≤ 2000) = true := decide_eq_true (by omega)
        clear hx hmem hs hnx hsl
        go_wp2_with fail
        go_roundw
        case rel => exact ⟨k + 1, by omega, by go_num, by rw [HNX.out]; simp, by trivial, by rw [HNX.out]; have := HSL.out; have := HMM.out; omega⟩
        case measure => simp [intOf]; omega
      · have d2 : decide ((m : Int) ≤ 2000) = false := decide_eq_false (by omega)
        have d3 : decide ((2000 : Int) < (m : Int)) = true := decide_eq_true (by omega)
        have hP : P := HP.out.2 (by have := cnt_le p.ins k; have := HM.out; omega)
        have HPP := Lib.hid hP
        clear hP hmm
        go_wp2_with fail
        go_ret
        exact ⟨true, rfl, ⟨fun _ => HPP.out, fun _ => rfl⟩, HB1.out⟩
    · have hkz : decide (k < n) = false := decide_eq_false hkn
      have he := cnt_end p.ins k (by have := HN.out; omega)
      rw [HM.out] at he
      have HE := Lib.hid he
      clear he
      by_cases hmm : m ≤ 2000
      · have d3 : decide ((2000 : Int) < (m : Int)) = false := decide_eq_false (by omega)
        have hP : ¬ P := fun h => by have := HP.out.1 h; have := HE.out; omega
        have HPP := Lib.hid hP
        clear hP hmm
        go_wp2_with fail
        go_ret
        exact ⟨false, rfl, ⟨fun h => (by cases h), fun h => absurd h HPP.out⟩, HB1.out⟩
      · have d3 : decide ((2000 : Int) < (m : Int)) = true := decide_eq_true (by omega)
        have hP : P := HP.out.2 (by have := HE.out; omega)
        have HPP := Lib.hid hP
        clear hP hmm
        go_wp2_with fail
        go_ret
        exact ⟨true, rfl, ⟨fun _ => HPP.out, fun _ => rfl⟩, HB1.out⟩
end Go.Proofs.Ytnemacejaiifnaa
