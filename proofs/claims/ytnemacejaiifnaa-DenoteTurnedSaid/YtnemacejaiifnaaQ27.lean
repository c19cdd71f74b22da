/- Texts merged by program: PBlank. No condition. -/
import Derived.Test.YtnemacejaiifnaaQ26
import Derived.Test.YtnemacejaiifnaaQ24
set_option linter.unusedVariables false
/- Is all blank but for the Op and the Kids: the program's blank. -/
namespace Go.Proofs.Ytnemacejaiifnaa
open Go Go.RowKit

def BlankP (rune : Int) (s : Nat) (at' cap : Int) (name : ByteArray) (mn mx : Int) (lz : Bool) : Prop := rune = 0 ∧ s = 0 ∧ at' = 0 ∧ cap = 0 ∧ name.toList = [] ∧ mn = 0 ∧ mx = 0 ∧ lz = false
set_option maxHeartbeats 1600000 in
set_option maxRecDepth 100000 in
theorem pblank_any (op rune : Int) (A a2 : Option Addr) (n c s c2 : Nat) (at' cap : Int) (name : ByteArray) (mn mx : Int) (lz : Bool) (hsb : s ≤ 17592186044416) (w : World) : Calls Try.prog 66 #[.agg #[.int .i64 op, .slice A n c, .int .i32 rune, .slice a2 s c2, .int .i64 at', .int .i64 cap, .string name, .int .i64 mn, .int .i64 mx, .bool lz]] w (SaysB (BlankP rune s at' cap name mn mx lz) w) := by
  obtain ⟨w1, hw1⟩ : ∃ w1, w.alloc (.cells #[.int .i64 op, .slice A n c, .int .i32 rune, .slice a2 s c2, .int .i64 at', .int .i64 cap, .string name, .int .i64 mn, .int .i64 mx, .bool lz] 27) = w1 := ⟨_, rfl⟩
  have hb1 : Below w.heap.size w w1 := by rw [← hw1]; exact (Below.refl _ _).alloc (Nat.le_refl _) _
  have hE1 := box10_new w 27 (.int .i64 op) (.slice A n c) (.int .i32 rune) (.slice a2 s c2) (.int .i64 at') (.int .i64 cap) (.string name) (.int .i64 mn) (.int .i64 mx) (.bool lz)
  rw [hw1] at hE1
  have HP : Hid (BlankP rune s at' cap name mn mx lz ↔ (rune = 0 ∧ s = 0 ∧ at' = 0 ∧ cap = 0 ∧ name.toList = [] ∧ mn = 0 ∧ mx = 0 ∧ lz = false)) := Lib.hid Iff.rfl
  obtain ⟨P, hP⟩ : ∃ P, BlankP rune s at' cap name mn mx lz = P := ⟨_, rfl⟩
  rw [hP] at HP ⊢
  have HB1 := Lib.hid hb1; have HW1 := Lib.hid hw1
  obtain ⟨e0, e1, e2, e3, e4, e5, e6, e7, e8, e9⟩ := hE1
  clear hP hb1 hw1
  go_enter Try.func66, Try.ntmps66
  go_upto_region 1 with (fail)
  rw [HW1.out]
  by_cases q0 : rune = 0
  rotate_left
  · have t : (rune == 0) = false := beq_eq_false_iff_ne.2 q0
    have Q := Lib.hid q0
    clear q0
    go_wp2_with fail
    go_ret
    exact ⟨false, rfl, ⟨fun h => (by cases h), fun h => absurd (HP.out.1 h).1 Q.out⟩, HB1.out⟩
  subst q0
  by_cases q1 : s = 0
  rotate_left
  · have t : ((s : Int) == 0) = false := beq_eq_false_iff_ne.2 (by omega)
    have Q := Lib.hid q1
    clear q1
    go_wp2_with fail
    go_ret
    exact ⟨false, rfl, ⟨fun h => (by cases h), fun h => absurd (HP.out.1 h).2.1 Q.out⟩, HB1.out⟩
  subst q1
  by_cases q2 : at' = 0
  rotate_left
  · have t : (at' == 0) = false := beq_eq_false_iff_ne.2 q2
    have Q := Lib.hid q2
    clear q2
    go_wp2_with fail
    go_ret
    exact ⟨false, rfl, ⟨fun h => (by cases h), fun h => absurd (HP.out.1 h).2.2.1 Q.out⟩, HB1.out⟩
  subst q2
  by_cases q3 : cap = 0
  rotate_left
  · have t : (cap == 0) = false := beq_eq_false_iff_ne.2 q3
    have Q := Lib.hid q3
    clear q3
    go_wp2_with fail
    go_ret
    exact ⟨false, rfl, ⟨fun h => (by cases h), fun h => absurd (HP.out.1 h).2.2.2.1 Q.out⟩, HB1.out⟩
  subst q3
  by_cases q4 : name.toList = []
  rotate_left
  · have t : name.toList.isEmpty = false := by simpa using q4
    have Q := Lib.hid q4
    clear q4
    go_wp2_with fail
    go_ret
    exact ⟨false, rfl, ⟨fun h => (by cases h), fun h => absurd (HP.out.1 h).2.2.2.2.1 Q.out⟩, HB1.out⟩
  have t4 : name.toList.isEmpty = true := by rw [q4]; rfl
  have Q4 := Lib.hid q4
  clear q4
  by_cases q5 : mn = 0
  rotate_left
  · have t : (mn == 0) = false := beq_eq_false_iff_ne.2 q5
    have Q := Lib.hid q5
    clear q5
    go_wp2_with fail
    go_ret
    exact ⟨false, rfl, ⟨fun h => (by cases h), fun h => absurd (HP.out.1 h).2.2.2.2.2.1 Q.out⟩, HB1.out⟩
  subst q5
  by_cases q6 : mx = 0
  rotate_left
  · have t : (mx == 0) = false := beq_eq_false_iff_ne.2 q6
    have Q := Lib.hid q6
    clear q6
    go_wp2_with fail
    go_ret
    exact ⟨false, rfl, ⟨fun h => (by cases h), fun h => absurd (HP.out.1 h).2.2.2.2.2.2.1 Q.out⟩, HB1.out⟩
  subst q6
  cases lz
  rotate_left
  · go_wp2_with fail
    go_ret
    exact ⟨false, rfl, ⟨fun h => (by cases h), fun h => (by have := (HP.out.1 h).2.2.2.2.2.2.2; cases this)⟩, HB1.out⟩
  go_wp2_with fail
  go_ret
  exact ⟨true, rfl, ⟨fun _ => HP.out.2 (by refine ⟨?_, ?_, ?_, ?_, Q4.out, ?_, ?_, ?_⟩ <;> first | rfl | trivial), fun _ => rfl⟩, HB1.out⟩
end Go.Proofs.Ytnemacejaiifnaa
