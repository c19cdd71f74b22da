/- Texts merged by program: TrFieldsA. No condition. -/
import Derived.Test.YtaaadimkbhkpiaaQ6
import Derived.Test.YtaaadimkbhkpiaaQ4
set_option linter.unusedVariables false
set_option linter.unusedSimpArgs false
/- Has a tree just the fields of its Op: the document's fields, at each Op by itself. -/
namespace Go.Proofs.Ytaaadimkbhkpiaa
open Go Go.RowKit

theorem fields_iff1 (rune : Int) (set : List (Int × Int)) (at' cap : Int) (name : ByteArray) (min max : Int) (lazy : Bool) : FieldsOk ({ op := 1, rune := rune, set := set, at' := at', cap := cap, name := name, min := min, max := max, lazy := lazy } : Fld) ↔ (rune = 0) ∧ (set = []) ∧ (at' = 0) ∧ (cap = 0) ∧ (name.toList = []) ∧ (min = 0) ∧ (max = 0) ∧ (lazy = false) := by
  unfold FieldsOk
  simp only []
  constructor
  · intro h
    obtain ⟨-, -, h3, h4, h5, h6, h10, hl, g3, g4, g5, g6, g10⟩ := h
    refine ⟨h3 (by decide), h4 (by decide), h5 (by decide), (h6 (by decide)).1, (h6 (by decide)).2, (h10 (by decide)).1, (h10 (by decide)).2, (by cases lazy with | false => rfl | true => exact absurd (hl rfl) (by decide))⟩
  · rintro ⟨q0, q1, q2, q3, q4, q5, q6, q7⟩
    refine ⟨by decide, by decide, fun _ => q0, fun _ => q1, fun _ => q2, fun _ => ⟨q3, q4⟩, fun _ => ⟨q5, q6⟩, (fun h => by rw [q7] at h; cases h), fun h => absurd h (by decide), fun h => absurd h (by decide), fun h => absurd h (by decide), fun h => absurd h (by decide), fun h => absurd h (by decide)⟩
set_option maxHeartbeats 1600000 in
set_option maxRecDepth 100000 in
theorem fields_walk1 (x1 : Value) (rune : Int) (a2 : Option Addr) (s c2 : Nat) (set : List (Int × Int)) (at' cap : Int) (name : ByteArray) (min max : Int) (lazy : Bool) (w : World) (hS : Rgs w (.slice a2 s c2) set) (hs : set.length = s) (hsb : s ≤ 17592186044416) (hr : I32 rune) (hmn : I64 min) (hmx : I64 max) : Calls Try.prog 90 #[.agg #[.int .i64 1, x1, .int .i32 rune, .slice a2 s c2, .int .i64 at', .int .i64 cap, .string name, .int .i64 min, .int .i64 max, .bool lazy]] w (SaysB (FieldsOk ({ op := 1, rune := rune, set := set, at' := at', cap := cap, name := name, min := min, max := max, lazy := lazy } : Fld)) w) := by
  obtain ⟨P, hP⟩ : ∃ P, FieldsOk ({ op := 1, rune := rune, set := set, at' := at', cap := cap, name := name, min := min, max := max, lazy := lazy } : Fld) = P := ⟨_, rfl⟩
  have HP : Hid (P ↔ (rune = 0) ∧ (set = []) ∧ (at' = 0) ∧ (cap = 0) ∧ (name.toList = []) ∧ (min = 0) ∧ (max = 0) ∧ (lazy = false)) := Lib.hid (by rw [← hP]; exact fields_iff1 rune set at' cap name min max lazy)
  rw [hP]
  clear hP
  have HB : Hid (∀ o, Below w.heap.size w (w.alloc o)) := Lib.hid fun o => (Below.refl _ _).alloc (Nat.le_refl _) _
  have HS := Lib.hid hS; have HL := Lib.hid hs
  clear hS hs
  go_enter Try.func90, Try.ntmps90
  by_cases b0 : rune = 0
  rotate_left
  · have e1 : (rune == 0) = false := beq_eq_false_iff_ne.2 b0
    have e2 : (rune != 0) = true := bne_iff_ne.2 b0
    have G := Lib.hid b0
    clear b0
    go_wp2
    go_ret
    exact ⟨false, rfl, ⟨fun h => (by cases h), fun h => absurd ((HP.out.1 h).1) G.out⟩, HB.out _⟩
  subst b0
  by_cases b1 : s = 0
  rotate_left
  · have hz : (0 : Int) < (s : Int) := by omega
    have G : Hid (¬ set = []) := Lib.hid fun h => b1 (by rw [← HL.out, h]; rfl)
    clear b1
    go_wp2
    go_ret
    exact ⟨false, rfl, ⟨fun h => (by cases h), fun h => absurd ((HP.out.1 h).2.1) G.out⟩, HB.out _⟩
  subst b1
  have Q1 : Hid (set = []) := Lib.hid (List.eq_nil_of_length_eq_zero HL.out)
  by_cases b2 : at' = 0
  rotate_left
  · have e1 : (at' == 0) = false := beq_eq_false_iff_ne.2 b2
    have e2 : (at' != 0) = true := bne_iff_ne.2 b2
    have G := Lib.hid b2
    clear b2
    go_wp2
    go_ret
    exact ⟨false, rfl, ⟨fun h => (by cases h), fun h => absurd ((HP.out.1 h).2.2.1) G.out⟩, HB.out _⟩
  subst b2
  by_cases b3 : cap = 0
  rotate_left
  · have e1 : (cap == 0) = false := beq_eq_false_iff_ne.2 b3
    have e2 : (cap != 0) = true := bne_iff_ne.2 b3
    have G := Lib.hid b3
    clear b3
    go_wp2
    go_ret
    exact ⟨false, rfl, ⟨fun h => (by cases h), fun h => absurd ((HP.out.1 h).2.2.2.1) G.out⟩, HB.out _⟩
  subst b3
  by_cases b4 : name.toList = []
  rotate_left
  · have e1 : name.toList.isEmpty = false := by simpa using b4
    have G := Lib.hid b4
    clear b4
    go_wp2
    go_ret
    exact ⟨false, rfl, ⟨fun h => (by cases h), fun h => absurd ((HP.out.1 h).2.2.2.2.1) G.out⟩, HB.out _⟩
  have nm1 : name.toList.isEmpty = true := by simpa using b4
  have Q4 := Lib.hid b4
  clear b4
  by_cases b5 : min = 0
  rotate_left
  · have e1 : (min == 0) = false := beq_eq_false_iff_ne.2 b5
    have e2 : (min != 0) = true := bne_iff_ne.2 b5
    have G := Lib.hid b5
    clear b5
    go_wp2
    go_ret
    exact ⟨false, rfl, ⟨fun h => (by cases h), fun h => absurd ((HP.out.1 h).2.2.2.2.2.1) G.out⟩, HB.out _⟩
  subst b5
  by_cases b6 : max = 0
  rotate_left
  · have e1 : (max == 0) = false := beq_eq_false_iff_ne.2 b6
    have e2 : (max != 0) = true := bne_iff_ne.2 b6
    have G := Lib.hid b6
    clear b6
    go_wp2
    go_ret
    exact ⟨false, rfl, ⟨fun h => (by cases h), fun h => absurd ((HP.out.1 h).2.2.2.2.2.2.1) G.out⟩, HB.out _⟩
  subst b6
  cases lazy
  rotate_left
  · go_wp2
    go_ret
    exact ⟨false, rfl, ⟨fun h => (by cases h), fun h => absurd ((HP.out.1 h).2.2.2.2.2.2.2) (by simp)⟩, HB.out _⟩
  go_wp2
  go_ret
  exact ⟨true, rfl, ⟨fun _ => HP.out.2 ⟨(by first | trivial | rfl), Q1.out, (by first | trivial | rfl), (by first | trivial | rfl), Q4.out, (by first | trivial | rfl), (by first | trivial | rfl), (by first | trivial | rfl)⟩, fun _ => rfl⟩, HB.out _⟩
theorem fields_iff2 (rune : Int) (set : List (Int × Int)) (at' cap : Int) (name : ByteArray) (min max : Int) (lazy : Bool) : FieldsOk ({ op := 2, rune := rune, set := set, at' := at', cap := cap, name := name, min := min, max := max, lazy := lazy } : Fld) ↔ (rune = 0) ∧ (set = []) ∧ (at' = 0) ∧ (cap = 0) ∧ (name.toList = []) ∧ (min = 0) ∧ (max = 0) ∧ (lazy = false) := by
  unfold FieldsOk
  simp only []
  constructor
  · intro h
    obtain ⟨-, -, h3, h4, h5, h6, h10, hl, g3, g4, g5, g6, g10⟩ := h
    refine ⟨h3 (by decide), h4 (by decide), h5 (by decide), (h6 (by decide)).1, (h6 (by decide)).2, (h10 (by decide)).1, (h10 (by decide)).2, (by cases lazy with | false => rfl | true => exact absurd (hl rfl) (by decide))⟩
  · rintro ⟨q0, q1, q2, q3, q4, q5, q6, q7⟩
    refine ⟨by decide, by decide, fun _ => q0, fun _ => q1, fun _ => q2, fun _ => ⟨q3, q4⟩, fun _ => ⟨q5, q6⟩, (fun h => by rw [q7] at h; cases h), fun h => absurd h (by decide), fun h => absurd h (by decide), fun h => absurd h (by decide), fun h => absurd h (by decide), fun h => absurd h (by decide)⟩
set_option maxHeartbeats 1600000 in
set_option maxRecDepth 100000 in
theorem fields_walk2 (x1 : Value) (rune : Int) (a2 : Option Addr) (s c2 : Nat) (set : List (Int × Int)) (at' cap : Int) (name : ByteArray) (min max : Int) (lazy : Bool) (w : World) (hS : Rgs w (.slice a2 s c2) set) (hs : set.length = s) (hsb : s ≤ 17592186044416) (hr : I32 rune) (hmn : I64 min) (hmx : I64 max) : Calls Try.prog 90 #[.agg #[.int .i64 2, x1, .int .i32 rune, .slice a2 s c2, .int .i64 at', .int .i64 cap, .string name, .int .i64 min, .int .i64 max, .bool lazy]] w (SaysB (FieldsOk ({ op := 2, rune := rune, set := set, at' := at', cap := cap, name := name, min := min, max := max, lazy := lazy } : Fld)) w) := by
  obtain ⟨P, hP⟩ : ∃ P, FieldsOk ({ op := 2, rune := rune, set := set, at' := at', cap := cap, name := name, min := min, max := max, lazy := lazy } : Fld) = P := ⟨_, rfl⟩
  have HP : Hid (P ↔ (rune = 0) ∧ (set = []) ∧ (at' = 0) ∧ (cap = 0) ∧ (name.toList = []) ∧ (min = 0) ∧ (max = 0) ∧ (lazy = false)) := Lib.hid (by rw [← hP]; exact fields_iff2 rune set at' cap name min max lazy)
  rw [hP]
  clear hP
  have HB : Hid (∀ o, Below w.heap.size w (w.alloc o)) := Lib.hid fun o => (Below.refl _ _).alloc (Nat.le_refl _) _
  have HS := Lib.hid hS; have HL := Lib.hid hs
  clear hS hs
  go_enter Try.func90, Try.ntmps90
  by_cases b0 : rune = 0
  rotate_left
  · have e1 : (rune == 0) = false := beq_eq_false_iff_ne.2 b0
    have e2 : (rune != 0) = true := bne_iff_ne.2 b0
    have G := Lib.hid b0
    clear b0
    go_wp2
    go_ret
    exact ⟨false, rfl, ⟨fun h => (by cases h), fun h => absurd ((HP.out.1 h).1) G.out⟩, HB.out _⟩
  subst b0
  by_cases b1 : s = 0
  rotate_left
  · have hz : (0 : Int) < (s : Int) := by omega
    have G : Hid (¬ set = []) := Lib.hid fun h => b1 (by rw [← HL.out, h]; rfl)
    clear b1
    go_wp2
    go_ret
    exact ⟨false, rfl, ⟨fun h => (by cases h), fun h => absurd ((HP.out.1 h).2.1) G.out⟩, HB.out _⟩
  subst b1
  have Q1 : Hid (set = []) := Lib.hid (List.eq_nil_of_length_eq_zero HL.out)
  by_cases b2 : at' = 0
  rotate_left
  · have e1 : (at' == 0) = false := beq_eq_false_iff_ne.2 b2
    have e2 : (at' != 0) = true := bne_iff_ne.2 b2
    have G := Lib.hid b2
    clear b2
    go_wp2
    go_ret
    exact ⟨false, rfl, ⟨fun h => (by cases h), fun h => absurd ((HP.out.1 h).2.2.1) G.out⟩, HB.out _⟩
  subst b2
  by_cases b3 : cap = 0
  rotate_left
  · have e1 : (cap == 0) = false := beq_eq_false_iff_ne.2 b3
    have e2 : (cap != 0) = true := bne_iff_ne.2 b3
    have G := Lib.hid b3
    clear b3
    go_wp2
    go_ret
    exact ⟨false, rfl, ⟨fun h => (by cases h), fun h => absurd ((HP.out.1 h).2.2.2.1) G.out⟩, HB.out _⟩
  subst b3
  by_cases b4 : name.toList = []
  rotate_left
  · have e1 : name.toList.isEmpty = false := by simpa using b4
    have G := Lib.hid b4
    clear b4
    go_wp2
    go_ret
    exact ⟨false, rfl, ⟨fun h => (by cases h), fun h => absurd ((HP.out.1 h).2.2.2.2.1) G.out⟩, HB.out _⟩
  have nm1 : name.toList.isEmpty = true := by simpa using b4
  have Q4 := Lib.hid b4
  clear b4
  by_cases b5 : min = 0
  rotate_left
  · have e1 : (min == 0) = false := beq_eq_false_iff_ne.2 b5
    have e2 : (min != 0) = true := bne_iff_ne.2 b5
    have G := Lib.hid b5
    clear b5
    go_wp2
    go_ret
    exact ⟨false, rfl, ⟨fun h => (by cases h), fun h => absurd ((HP.out.1 h).2.2.2.2.2.1) G.out⟩, HB.out _⟩
  subst b5
  by_cases b6 : max = 0
  rotate_left
  · have e1 : (max == 0) = false := beq_eq_false_iff_ne.2 b6
    have e2 : (max != 0) = true := bne_iff_ne.2 b6
    have G := Lib.hid b6
    clear b6
    go_wp2
    go_ret
    exact ⟨false, rfl, ⟨fun h => (by cases h), fun h => absurd ((HP.out.1 h).2.2.2.2.2.2.1) G.out⟩, HB.out _⟩
  subst b6
  cases lazy
  rotate_left
  · go_wp2
    go_ret
    exact ⟨false, rfl, ⟨fun h => (by cases h), fun h => absurd ((HP.out.1 h).2.2.2.2.2.2.2) (by simp)⟩, HB.out _⟩
  go_wp2
  go_ret
  exact ⟨true, rfl, ⟨fun _ => HP.out.2 ⟨(by first | trivial | rfl), Q1.out, (by first | trivial | rfl), (by first | trivial | rfl), Q4.out, (by first | trivial | rfl), (by first | trivial | rfl), (by first | trivial | rfl)⟩, fun _ => rfl⟩, HB.out _⟩
theorem fields_iff3 (rune : Int) (set : List (Int × Int)) (at' cap : Int) (name : ByteArray) (min max : Int) (lazy : Bool) : FieldsOk ({ op := 3, rune := rune, set := set, at' := at', cap := cap, name := name, min := min, max := max, lazy := lazy } : Fld) ↔ (set = []) ∧ (at' = 0) ∧ (cap = 0) ∧ (name.toList = []) ∧ (min = 0) ∧ (max = 0) ∧ (lazy = false) ∧ (0 ≤ rune) ∧ (rune ≤ 1114111) := by
  unfold FieldsOk
  simp only []
  constructor
  · intro h
    obtain ⟨-, -, h3, h4, h5, h6, h10, hl, g3, g4, g5, g6, g10⟩ := h
    refine ⟨h4 (by decide), h5 (by decide), (h6 (by decide)).1, (h6 (by decide)).2, (h10 (by decide)).1, (h10 (by decide)).2, (by cases lazy with | false => rfl | true => exact absurd (hl rfl) (by decide)), (g3 (by first | trivial | rfl)).1, (g3 (by first | trivial | rfl)).2⟩
  · rintro ⟨q0, q1, q2, q3, q4, q5, q6, q7, q8⟩
    refine ⟨by decide, by decide, fun h => absurd rfl h, fun _ => q0, fun _ => q1, fun _ => ⟨q2, q3⟩, fun _ => ⟨q4, q5⟩, (fun h => by rw [q6] at h; cases h), fun _ => ⟨q7, q8⟩, fun h => absurd h (by decide), fun h => absurd h (by decide), fun h => absurd h (by decide), fun h => absurd h (by decide)⟩
set_option maxHeartbeats 1600000 in
set_option maxRecDepth 100000 in
theorem fields_walk3 (x1 : Value) (rune : Int) (a2 : Option Addr) (s c2 : Nat) (set : List (Int × Int)) (at' cap : Int) (name : ByteArray) (min max : Int) (lazy : Bool) (w : World) (hS : Rgs w (.slice a2 s c2) set) (hs : set.length = s) (hsb : s ≤ 17592186044416) (hr : I32 rune) (hmn : I64 min) (hmx : I64 max) : Calls Try.prog 90 #[.agg #[.int .i64 3, x1, .int .i32 rune, .slice a2 s c2, .int .i64 at', .int .i64 cap, .string name, .int .i64 min, .int .i64 max, .bool lazy]] w (SaysB (FieldsOk ({ op := 3, rune := rune, set := set, at' := at', cap := cap, name := name, min := min, max := max, lazy := lazy } : Fld)) w) := by
  obtain ⟨P, hP⟩ : ∃ P, FieldsOk ({ op := 3, rune := rune, set := set, at' := at', cap := cap, name := name, min := min, max := max, lazy := lazy } : Fld) = P := ⟨_, rfl⟩
  have HP : Hid (P ↔ (set = []) ∧ (at' = 0) ∧ (cap = 0) ∧ (name.toList = []) ∧ (min = 0) ∧ (max = 0) ∧ (lazy = false) ∧ (0 ≤ rune) ∧ (rune ≤ 1114111)) := Lib.hid (by rw [← hP]; exact fields_iff3 rune set at' cap name min max lazy)
  rw [hP]
  clear hP
  have HB : Hid (∀ o, Below w.heap.size w (w.alloc o)) := Lib.hid fun o => (Below.refl _ _).alloc (Nat.le_refl _) _
  have HS := Lib.hid hS; have HL := Lib.hid hs
  clear hS hs
  go_enter Try.func90, Try.ntmps90
  by_cases b0 : s = 0
  rotate_left
  · have hz : (0 : Int) < (s : Int) := by omega
    have G : Hid (¬ set = []) := Lib.hid fun h => b0 (by rw [← HL.out, h]; rfl)
    clear b0
    go_wp2
    go_ret
    exact ⟨false, rfl, ⟨fun h => (by cases h), fun h => absurd ((HP.out.1 h).1) G.out⟩, HB.out _⟩
  subst b0
  have Q0 : Hid (set = []) := Lib.hid (List.eq_nil_of_length_eq_zero HL.out)
  by_cases b1 : at' = 0
  rotate_left
  · have e1 : (at' == 0) = false := beq_eq_false_iff_ne.2 b1
    have e2 : (at' != 0) = true := bne_iff_ne.2 b1
    have G := Lib.hid b1
    clear b1
    go_wp2
    go_ret
    exact ⟨false, rfl, ⟨fun h => (by cases h), fun h => absurd ((HP.out.1 h).2.1) G.out⟩, HB.out _⟩
  subst b1
  by_cases b2 : cap = 0
  rotate_left
  · have e1 : (cap == 0) = false := beq_eq_false_iff_ne.2 b2
    have e2 : (cap != 0) = true := bne_iff_ne.2 b2
    have G := Lib.hid b2
    clear b2
    go_wp2
    go_ret
    exact ⟨false, rfl, ⟨fun h => (by cases h), fun h => absurd ((HP.out.1 h).2.2.1) G.out⟩, HB.out _⟩
  subst b2
  by_cases b3 : name.toList = []
  rotate_left
  · have e1 : name.toList.isEmpty = false := by simpa using b3
    have G := Lib.hid b3
    clear b3
    go_wp2
    go_ret
    exact ⟨false, rfl, ⟨fun h => (by cases h), fun h => absurd ((HP.out.1 h).2.2.2.1) G.out⟩, HB.out _⟩
  have nm1 : name.toList.isEmpty = true := by simpa using b3
  have Q3 := Lib.hid b3
  clear b3
  by_cases b4 : min = 0
  rotate_left
  · have e1 : (min == 0) = false := beq_eq_false_iff_ne.2 b4
    have e2 : (min != 0) = true := bne_iff_ne.2 b4
    have G := Lib.hid b4
    clear b4
    go_wp2
    go_ret
    exact ⟨false, rfl, ⟨fun h => (by cases h), fun h => absurd ((HP.out.1 h).2.2.2.2.1) G.out⟩, HB.out _⟩
  subst b4
  by_cases b5 : max = 0
  rotate_left
  · have e1 : (max == 0) = false := beq_eq_false_iff_ne.2 b5
    have e2 : (max != 0) = true := bne_iff_ne.2 b5
    have G := Lib.hid b5
    clear b5
    go_wp2
    go_ret
    exact ⟨false, rfl, ⟨fun h => (by cases h), fun h => absurd ((HP.out.1 h).2.2.2.2.2.1) G.out⟩, HB.out _⟩
  subst b5
  cases lazy
  rotate_left
  · go_wp2
    go_ret
    exact ⟨false, rfl, ⟨fun h => (by cases h), fun h => absurd ((HP.out.1 h).2.2.2.2.2.2.1) (by simp)⟩, HB.out _⟩
  by_cases g1 : 0 ≤ rune
  rotate_left
  · have G := Lib.hid g1
    go_wp2
    go_ret
    exact ⟨false, rfl, ⟨fun h => (by cases h), fun h => absurd ((HP.out.1 h).2.2.2.2.2.2.2.1) (by have := G.out; omega)⟩, HB.out _⟩
  by_cases g2 : rune ≤ 1114111
  rotate_left
  · have G := Lib.hid g2
    go_wp2
    go_ret
    exact ⟨false, rfl, ⟨fun h => (by cases h), fun h => absurd ((HP.out.1 h).2.2.2.2.2.2.2.2) (by have := G.out; omega)⟩, HB.out _⟩
  go_wp2
  go_ret
  exact ⟨true, rfl, ⟨fun _ => HP.out.2 ⟨Q0.out, (by first | trivial | rfl), (by first | trivial | rfl), Q3.out, (by first | trivial | rfl), (by first | trivial | rfl), (by first | trivial | rfl), g1, g2⟩, fun _ => rfl⟩, HB.out _⟩
theorem fields_iff4 (rune : Int) (set : List (Int × Int)) (at' cap : Int) (name : ByteArray) (min max : Int) (lazy : Bool) : FieldsOk ({ op := 4, rune := rune, set := set, at' := at', cap := cap, name := name, min := min, max := max, lazy := lazy } : Fld) ↔ (rune = 0) ∧ (at' = 0) ∧ (cap = 0) ∧ (name.toList = []) ∧ (min = 0) ∧ (max = 0) ∧ (lazy = false) ∧ (RightR set) ∧ (set ≠ []) := by
  unfold FieldsOk
  simp only []
  constructor
  · intro h
    obtain ⟨-, -, h3, h4, h5, h6, h10, hl, g3, g4, g5, g6, g10⟩ := h
    refine ⟨h3 (by decide), h5 (by decide), (h6 (by decide)).1, (h6 (by decide)).2, (h10 (by decide)).1, (h10 (by decide)).2, (by cases lazy with | false => rfl | true => exact absurd (hl rfl) (by decide)), (g4 (by first | trivial | rfl)).1, (g4 (by first | trivial | rfl)).2⟩
  · rintro ⟨q0, q1, q2, q3, q4, q5, q6, q7, q8⟩
    refine ⟨by decide, by decide, fun _ => q0, fun h => absurd rfl h, fun _ => q1, fun _ => ⟨q2, q3⟩, fun _ => ⟨q4, q5⟩, (fun h => by rw [q6] at h; cases h), fun h => absurd h (by decide), fun _ => ⟨q7, q8⟩, fun h => absurd h (by decide), fun h => absurd h (by decide), fun h => absurd h (by decide)⟩
set_option maxHeartbeats 1600000 in
set_option maxRecDepth 100000 in
theorem fields_walk4 (x1 : Value) (rune : Int) (a2 : Option Addr) (s c2 : Nat) (set : List (Int × Int)) (at' cap : Int) (name : ByteArray) (min max : Int) (lazy : Bool) (w : World) (hS : Rgs w (.slice a2 s c2) set) (hs : set.length = s) (hsb : s ≤ 17592186044416) (hr : I32 rune) (hmn : I64 min) (hmx : I64 max) : Calls Try.prog 90 #[.agg #[.int .i64 4, x1, .int .i32 rune, .slice a2 s c2, .int .i64 at', .int .i64 cap, .string name, .int .i64 min, .int .i64 max, .bool lazy]] w (SaysB (FieldsOk ({ op := 4, rune := rune, set := set, at' := at', cap := cap, name := name, min := min, max := max, lazy := lazy } : Fld)) w) := by
  obtain ⟨P, hP⟩ : ∃ P, FieldsOk ({ op := 4, rune := rune, set := set, at' := at', cap := cap, name := name, min := min, max := max, lazy := lazy } : Fld) = P := ⟨_, rfl⟩
  have HP : Hid (P ↔ (rune = 0) ∧ (at' = 0) ∧ (cap = 0) ∧ (name.toList = []) ∧ (min = 0) ∧ (max = 0) ∧ (lazy = false) ∧ (RightR set) ∧ (set ≠ [])) := Lib.hid (by rw [← hP]; exact fields_iff4 rune set at' cap name min max lazy)
  rw [hP]
  clear hP
  have HB : Hid (∀ o, Below w.heap.size w (w.alloc o)) := Lib.hid fun o => (Below.refl _ _).alloc (Nat.le_refl _) _
  have HS := Lib.hid hS; have HL := Lib.hid hs
  clear hS hs
  go_enter Try.func90, Try.ntmps90
  by_cases b0 : rune = 0
  rotate_left
  · have e1 : (rune == 0) = false := beq_eq_false_iff_ne.2 b0
    have e2 : (rune != 0) = true := bne_iff_ne.2 b0
    have G := Lib.hid b0
    clear b0
    go_wp2
    go_ret
    exact ⟨false, rfl, ⟨fun h => (by cases h), fun h => absurd ((HP.out.1 h).1) G.out⟩, HB.out _⟩
  subst b0
  by_cases b1 : at' = 0
  rotate_left
  · have e1 : (at' == 0) = false := beq_eq_false_iff_ne.2 b1
    have e2 : (at' != 0) = true := bne_iff_ne.2 b1
    have G := Lib.hid b1
    clear b1
    go_wp2
    go_ret
    exact ⟨false, rfl, ⟨fun h => (by cases h), fun h => absurd ((HP.out.1 h).2.1) G.out⟩, HB.out _⟩
  subst b1
  by_cases b2 : cap = 0
  rotate_left
  · have e1 : (cap == 0) = false := beq_eq_false_iff_ne.2 b2
    have e2 : (cap != 0) = true := bne_iff_ne.2 b2
    have G := Lib.hid b2
    clear b2
    go_wp2
    go_ret
    exact ⟨false, rfl, ⟨fun h => (by cases h), fun h => absurd ((HP.out.1 h).2.2.1) G.out⟩, HB.out _⟩
  subst b2
  by_cases b3 : name.toList = []
  rotate_left
  · have e1 : name.toList.isEmpty = false := by simpa using b3
    have G := Lib.hid b3
    clear b3
    go_wp2
    go_ret
    exact ⟨false, rfl, ⟨fun h => (by cases h), fun h => absurd ((HP.out.1 h).2.2.2.1) G.out⟩, HB.out _⟩
  have nm1 : name.toList.isEmpty = true := by simpa using b3
  have Q3 := Lib.hid b3
  clear b3
  by_cases b4 : min = 0
  rotate_left
  · have e1 : (min == 0) = false := beq_eq_false_iff_ne.2 b4
    have e2 : (min != 0) = true := bne_iff_ne.2 b4
    have G := Lib.hid b4
    clear b4
    go_wp2
    go_ret
    exact ⟨false, rfl, ⟨fun h => (by cases h), fun h => absurd ((HP.out.1 h).2.2.2.2.1) G.out⟩, HB.out _⟩
  subst b4
  by_cases b5 : max = 0
  rotate_left
  · have e1 : (max == 0) = false := beq_eq_false_iff_ne.2 b5
    have e2 : (max != 0) = true := bne_iff_ne.2 b5
    have G := Lib.hid b5
    clear b5
    go_wp2
    go_ret
    exact ⟨false, rfl, ⟨fun h => (by cases h), fun h => absurd ((HP.out.1 h).2.2.2.2.2.1) G.out⟩, HB.out _⟩
  subst b5
  cases lazy
  rotate_left
  · go_wp2
    go_ret
    exact ⟨false, rfl, ⟨fun h => (by cases h), fun h => absurd ((HP.out.1 h).2.2.2.2.2.2.1) (by simp)⟩, HB.out _⟩
  have HRR := Lib.hid (fun W (hb : Below w.heap.size w W) => rright_any (.slice a2 s c2) set W (HS.out.below hb))
  go_wp2_with fail
  refine (HRR.out _ (HB.out _)).mono ?_
  rintro e w2 ⟨B, rfl, hq, dq, rfl⟩
  have HB2 := Lib.hid (below_two (HB.out (.cells #[.int .i64 4, x1, .int .i32 0, .slice a2 s c2, .int .i64 0, .int .i64 0, .string name, .int .i64 0, .int .i64 0, .bool false] 27)) (below_draws _ dq))
  cases B
  · have NR := Lib.hid (show ¬ RightR set from fun h => absurd (hq.2 h) (by simp))
    clear hq
    go_wp2
    go_ret
    exact ⟨false, rfl, ⟨fun h => (by cases h), fun h => absurd (HP.out.1 h).2.2.2.2.2.2.2.1 NR.out⟩, HB2.out⟩
  · have YR := Lib.hid (hq.1 rfl)
    clear hq
    by_cases g2 : s = 0
    · subst g2
      have G : Hid (set = []) := Lib.hid (List.eq_nil_of_length_eq_zero HL.out)
      go_wp2
      go_ret
      exact ⟨false, rfl, ⟨fun h => (by cases h), fun h => absurd G.out (HP.out.1 h).2.2.2.2.2.2.2.2⟩, HB2.out⟩
    · have hz : (0 : Int) < (s : Int) := by omega
      have hz2 : 0 < s := by omega
      have hz3 : decide (0 < s) = true := decide_eq_true hz2
      have G : Hid (¬ set = []) := Lib.hid fun h => g2 (by rw [← HL.out, h]; rfl)
      clear g2
      go_wp2
      go_ret
      exact ⟨true, rfl, ⟨fun _ => HP.out.2 ⟨(by first | trivial | rfl), (by first | trivial | rfl), (by first | trivial | rfl), Q3.out, (by first | trivial | rfl), (by first | trivial | rfl), (by first | trivial | rfl), YR.out, G.out⟩, fun _ => rfl⟩, HB2.out⟩
theorem fields_iff5 (rune : Int) (set : List (Int × Int)) (at' cap : Int) (name : ByteArray) (min max : Int) (lazy : Bool) : FieldsOk ({ op := 5, rune := rune, set := set, at' := at', cap := cap, name := name, min := min, max := max, lazy := lazy } : Fld) ↔ (rune = 0) ∧ (set = []) ∧ (cap = 0) ∧ (name.toList = []) ∧ (min = 0) ∧ (max = 0) ∧ (lazy = false) ∧ (at' = 1 ∨ at' = 2 ∨ at' = 4 ∨ at' = 8 ∨ at' = 16 ∨ at' = 32) := by
  unfold FieldsOk
  simp only []
  constructor
  · intro h
    obtain ⟨-, -, h3, h4, h5, h6, h10, hl, g3, g4, g5, g6, g10⟩ := h
    refine ⟨h3 (by decide), h4 (by decide), (h6 (by decide)).1, (h6 (by decide)).2, (h10 (by decide)).1, (h10 (by decide)).2, (by cases lazy with | false => rfl | true => exact absurd (hl rfl) (by decide)), g5 (by first | trivial | rfl)⟩
  · rintro ⟨q0, q1, q2, q3, q4, q5, q6, q7⟩
    refine ⟨by decide, by decide, fun _ => q0, fun _ => q1, fun h => absurd rfl h, fun _ => ⟨q2, q3⟩, fun _ => ⟨q4, q5⟩, (fun h => by rw [q6] at h; cases h), fun h => absurd h (by decide), fun h => absurd h (by decide), fun _ => q7, fun h => absurd h (by decide), fun h => absurd h (by decide)⟩
set_option maxHeartbeats 1600000 in
set_option maxRecDepth 100000 in
theorem fields_walk5 (x1 : Value) (rune : Int) (a2 : Option Addr) (s c2 : Nat) (set : List (Int × Int)) (at' cap : Int) (name : ByteArray) (min max : Int) (lazy : Bool) (w : World) (hS : Rgs w (.slice a2 s c2) set) (hs : set.length = s) (hsb : s ≤ 17592186044416) (hr : I32 rune) (hmn : I64 min) (hmx : I64 max) : Calls Try.prog 90 #[.agg #[.int .i64 5, x1, .int .i32 rune, .slice a2 s c2, .int .i64 at', .int .i64 cap, .string name, .int .i64 min, .int .i64 max, .bool lazy]] w (SaysB (FieldsOk ({ op := 5, rune := rune, set := set, at' := at', cap := cap, name := name, min := min, max := max, lazy := lazy } : Fld)) w) := by
  obtain ⟨P, hP⟩ : ∃ P, FieldsOk ({ op := 5, rune := rune, set := set, at' := at', cap := cap, name := name, min := min, max := max, lazy := lazy } : Fld) = P := ⟨_, rfl⟩
  have HP : Hid (P ↔ (rune = 0) ∧ (set = []) ∧ (cap = 0) ∧ (name.toList = []) ∧ (min = 0) ∧ (max = 0) ∧ (lazy = false) ∧ (at' = 1 ∨ at' = 2 ∨ at' = 4 ∨ at' = 8 ∨ at' = 16 ∨ at' = 32)) := Lib.hid (by rw [← hP]; exact fields_iff5 rune set at' cap name min max lazy)
  rw [hP]
  clear hP
  have HB : Hid (∀ o, Below w.heap.size w (w.alloc o)) := Lib.hid fun o => (Below.refl _ _).alloc (Nat.le_refl _) _
  have HS := Lib.hid hS; have HL := Lib.hid hs
  clear hS hs
  go_enter Try.func90, Try.ntmps90
  by_cases b0 : rune = 0
  rotate_left
  · have e1 : (rune == 0) = false := beq_eq_false_iff_ne.2 b0
    have e2 : (rune != 0) = true := bne_iff_ne.2 b0
    have G := Lib.hid b0
    clear b0
    go_wp2
    go_ret
    exact ⟨false, rfl, ⟨fun h => (by cases h), fun h => absurd ((HP.out.1 h).1) G.out⟩, HB.out _⟩
  subst b0
  by_cases b1 : s = 0
  rotate_left
  · have hz : (0 : Int) < (s : Int) := by omega
    have G : Hid (¬ set = []) := Lib.hid fun h => b1 (by rw [← HL.out, h]; rfl)
    clear b1
    go_wp2
    go_ret
    exact ⟨false, rfl, ⟨fun h => (by cases h), fun h => absurd ((HP.out.1 h).2.1) G.out⟩, HB.out _⟩
  subst b1
  have Q1 : Hid (set = []) := Lib.hid (List.eq_nil_of_length_eq_zero HL.out)
  by_cases b2 : cap = 0
  rotate_left
  · have e1 : (cap == 0) = false := beq_eq_false_iff_ne.2 b2
    have e2 : (cap != 0) = true := bne_iff_ne.2 b2
    have G := Lib.hid b2
    clear b2
    go_wp2
    go_ret
    exact ⟨false, rfl, ⟨fun h => (by cases h), fun h => absurd ((HP.out.1 h).2.2.1) G.out⟩, HB.out _⟩
  subst b2
  by_cases b3 : name.toList = []
  rotate_left
  · have e1 : name.toList.isEmpty = false := by simpa using b3
    have G := Lib.hid b3
    clear b3
    go_wp2
    go_ret
    exact ⟨false, rfl, ⟨fun h => (by cases h), fun h => absurd ((HP.out.1 h).2.2.2.1) G.out⟩, HB.out _⟩
  have nm1 : name.toList.isEmpty = true := by simpa using b3
  have Q3 := Lib.hid b3
  clear b3
  by_cases b4 : min = 0
  rotate_left
  · have e1 : (min == 0) = false := beq_eq_false_iff_ne.2 b4
    have e2 : (min != 0) = true := bne_iff_ne.2 b4
    have G := Lib.hid b4
    clear b4
    go_wp2
    go_ret
    exact ⟨false, rfl, ⟨fun h => (by cases h), fun h => absurd ((HP.out.1 h).2.2.2.2.1) G.out⟩, HB.out _⟩
  subst b4
  by_cases b5 : max = 0
  rotate_left
  · have e1 : (max == 0) = false := beq_eq_false_iff_ne.2 b5
    have e2 : (max != 0) = true := bne_iff_ne.2 b5
    have G := Lib.hid b5
    clear b5
    go_wp2
    go_ret
    exact ⟨false, rfl, ⟨fun h => (by cases h), fun h => absurd ((HP.out.1 h).2.2.2.2.2.1) G.out⟩, HB.out _⟩
  subst b5
  cases lazy
  rotate_left
  · go_wp2
    go_ret
    exact ⟨false, rfl, ⟨fun h => (by cases h), fun h => absurd ((HP.out.1 h).2.2.2.2.2.2.1) (by simp)⟩, HB.out _⟩
  by_cases g1 : at' = 1
  · subst g1
    go_wp2
    go_ret
    exact ⟨true, rfl, ⟨fun _ => HP.out.2 ⟨(by first | trivial | rfl), Q1.out, (by first | trivial | rfl), Q3.out, (by first | trivial | rfl), (by first | trivial | rfl), (by first | trivial | rfl), (by decide)⟩, fun _ => rfl⟩, HB.out _⟩
  have e1 : (at' == 1) = false := beq_eq_false_iff_ne.2 g1
  by_cases g2 : at' = 2
  · subst g2
    go_wp2
    go_ret
    exact ⟨true, rfl, ⟨fun _ => HP.out.2 ⟨(by first | trivial | rfl), Q1.out, (by first | trivial | rfl), Q3.out, (by first | trivial | rfl), (by first | trivial | rfl), (by first | trivial | rfl), (by decide)⟩, fun _ => rfl⟩, HB.out _⟩
  have e2 : (at' == 2) = false := beq_eq_false_iff_ne.2 g2
  by_cases g4 : at' = 4
  · subst g4
    go_wp2
    go_ret
    exact ⟨true, rfl, ⟨fun _ => HP.out.2 ⟨(by first | trivial | rfl), Q1.out, (by first | trivial | rfl), Q3.out, (by first | trivial | rfl), (by first | trivial | rfl), (by first | trivial | rfl), (by decide)⟩, fun _ => rfl⟩, HB.out _⟩
  have e4 : (at' == 4) = false := beq_eq_false_iff_ne.2 g4
  by_cases g8 : at' = 8
  · subst g8
    go_wp2
    go_ret
    exact ⟨true, rfl, ⟨fun _ => HP.out.2 ⟨(by first | trivial | rfl), Q1.out, (by first | trivial | rfl), Q3.out, (by first | trivial | rfl), (by first | trivial | rfl), (by first | trivial | rfl), (by decide)⟩, fun _ => rfl⟩, HB.out _⟩
  have e8 : (at' == 8) = false := beq_eq_false_iff_ne.2 g8
  by_cases g16 : at' = 16
  · subst g16
    go_wp2
    go_ret
    exact ⟨true, rfl, ⟨fun _ => HP.out.2 ⟨(by first | trivial | rfl), Q1.out, (by first | trivial | rfl), Q3.out, (by first | trivial | rfl), (by first | trivial | rfl), (by first | trivial | rfl), (by decide)⟩, fun _ => rfl⟩, HB.out _⟩
  have e16 : (at' == 16) = false := beq_eq_false_iff_ne.2 g16
  by_cases g32 : at' = 32
  · subst g32
    go_wp2
    go_ret
    exact ⟨true, rfl, ⟨fun _ => HP.out.2 ⟨(by first | trivial | rfl), Q1.out, (by first | trivial | rfl), Q3.out, (by first | trivial | rfl), (by first | trivial | rfl), (by first | trivial | rfl), (by decide)⟩, fun _ => rfl⟩, HB.out _⟩
  have e32 : (at' == 32) = false := beq_eq_false_iff_ne.2 g32
  have G : Hid (¬ (at' = 1 ∨ at' = 2 ∨ at' = 4 ∨ at' = 8 ∨ at' = 16 ∨ at' = 32)) := Lib.hid (by omega)
  clear g1 g2 g4 g8 g16 g32
  go_wp2
  go_ret
  exact ⟨false, rfl, ⟨fun h => (by cases h), fun h => absurd ((HP.out.1 h).2.2.2.2.2.2.2) G.out⟩, HB.out _⟩
theorem fields_iff6 (rune : Int) (set : List (Int × Int)) (at' cap : Int) (name : ByteArray) (min max : Int) (lazy : Bool) : FieldsOk ({ op := 6, rune := rune, set := set, at' := at', cap := cap, name := name, min := min, max := max, lazy := lazy } : Fld) ↔ (rune = 0) ∧ (set = []) ∧ (at' = 0) ∧ (min = 0) ∧ (max = 0) ∧ (lazy = false) ∧ (name.toList = [] ∨ nameB name.toList = true) := by
  unfold FieldsOk
  simp only []
  constructor
  · intro h
    obtain ⟨-, -, h3, h4, h5, h6, h10, hl, g3, g4, g5, g6, g10⟩ := h
    refine ⟨h3 (by decide), h4 (by decide), h5 (by decide), (h10 (by decide)).1, (h10 (by decide)).2, (by cases lazy with | false => rfl | true => exact absurd (hl rfl) (by decide)), g6 (by first | trivial | rfl)⟩
  · rintro ⟨q0, q1, q2, q3, q4, q5, q6⟩
    refine ⟨by decide, by decide, fun _ => q0, fun _ => q1, fun _ => q2, fun h => absurd rfl h, fun _ => ⟨q3, q4⟩, (fun h => by rw [q5] at h; cases h), fun h => absurd h (by decide), fun h => absurd h (by decide), fun h => absurd h (by decide), fun _ => q6, fun h => absurd h (by decide)⟩
set_option maxHeartbeats 1600000 in
set_option maxRecDepth 100000 in
theorem fields_walk6 (x1 : Value) (rune : Int) (a2 : Option Addr) (s c2 : Nat) (set : List (Int × Int)) (at' cap : Int) (name : ByteArray) (min max : Int) (lazy : Bool) (w : World) (hS : Rgs w (.slice a2 s c2) set) (hs : set.length = s) (hsb : s ≤ 17592186044416) (hr : I32 rune) (hmn : I64 min) (hmx : I64 max) : Calls Try.prog 90 #[.agg #[.int .i64 6, x1, .int .i32 rune, .slice a2 s c2, .int .i64 at', .int .i64 cap, .string name, .int .i64 min, .int .i64 max, .bool lazy]] w (SaysB (FieldsOk ({ op := 6, rune := rune, set := set, at' := at', cap := cap, name := name, min := min, max := max, lazy := lazy } : Fld)) w) := by
  obtain ⟨P, hP⟩ : ∃ P, FieldsOk ({ op := 6, rune := rune, set := set, at' := at', cap := cap, name := name, min := min, max := max, lazy := lazy } : Fld) = P := ⟨_, rfl⟩
  have HP : Hid (P ↔ (rune = 0) ∧ (set = []) ∧ (at' = 0) ∧ (min = 0) ∧ (max = 0) ∧ (lazy = false) ∧ (name.toList = [] ∨ nameB name.toList = true)) := Lib.hid (by rw [← hP]; exact fields_iff6 rune set at' cap name min max lazy)
  rw [hP]
  clear hP
  have HB : Hid (∀ o, Below w.heap.size w (w.alloc o)) := Lib.hid fun o => (Below.refl _ _).alloc (Nat.le_refl _) _
  have HS := Lib.hid hS; have HL := Lib.hid hs
  clear hS hs
  go_enter Try.func90, Try.ntmps90
  by_cases b0 : rune = 0
  rotate_left
  · have e1 : (rune == 0) = false := beq_eq_false_iff_ne.2 b0
    have e2 : (rune != 0) = true := bne_iff_ne.2 b0
    have G := Lib.hid b0
    clear b0
    go_wp2
    go_ret
    exact ⟨false, rfl, ⟨fun h => (by cases h), fun h => absurd ((HP.out.1 h).1) G.out⟩, HB.out _⟩
  subst b0
  by_cases b1 : s = 0
  rotate_left
  · have hz : (0 : Int) < (s : Int) := by omega
    have G : Hid (¬ set = []) := Lib.hid fun h => b1 (by rw [← HL.out, h]; rfl)
    clear b1
    go_wp2
    go_ret
    exact ⟨false, rfl, ⟨fun h => (by cases h), fun h => absurd ((HP.out.1 h).2.1) G.out⟩, HB.out _⟩
  subst b1
  have Q1 : Hid (set = []) := Lib.hid (List.eq_nil_of_length_eq_zero HL.out)
  by_cases b2 : at' = 0
  rotate_left
  · have e1 : (at' == 0) = false := beq_eq_false_iff_ne.2 b2
    have e2 : (at' != 0) = true := bne_iff_ne.2 b2
    have G := Lib.hid b2
    clear b2
    go_wp2
    go_ret
    exact ⟨false, rfl, ⟨fun h => (by cases h), fun h => absurd ((HP.out.1 h).2.2.1) G.out⟩, HB.out _⟩
  subst b2
  by_cases b3 : min = 0
  rotate_left
  · have e1 : (min == 0) = false := beq_eq_false_iff_ne.2 b3
    have e2 : (min != 0) = true := bne_iff_ne.2 b3
    have G := Lib.hid b3
    clear b3
    go_wp2
    go_ret
    exact ⟨false, rfl, ⟨fun h => (by cases h), fun h => absurd ((HP.out.1 h).2.2.2.1) G.out⟩, HB.out _⟩
  subst b3
  by_cases b4 : max = 0
  rotate_left
  · have e1 : (max == 0) = false := beq_eq_false_iff_ne.2 b4
    have e2 : (max != 0) = true := bne_iff_ne.2 b4
    have G := Lib.hid b4
    clear b4
    go_wp2
    go_ret
    exact ⟨false, rfl, ⟨fun h => (by cases h), fun h => absurd ((HP.out.1 h).2.2.2.2.1) G.out⟩, HB.out _⟩
  subst b4
  cases lazy
  rotate_left
  · go_wp2
    go_ret
    exact ⟨false, rfl, ⟨fun h => (by cases h), fun h => absurd ((HP.out.1 h).2.2.2.2.2.1) (by simp)⟩, HB.out _⟩
  have HRR := Lib.hid (fun W => name_any name W)
  go_wp2_with fail
  refine (HRR.out _).mono ?_
  rintro e w2 ⟨B, rfl, hq, rfl⟩
  have HNB : Hid (B = false → ¬ nameB name.toList = true) := Lib.hid fun hb h => by rw [hb] at hq; exact absurd (hq.2 h) (by simp)
  have HYB : Hid (B = true → nameB name.toList = true) := Lib.hid hq.1
  clear hq
  by_cases nz : name.toList = []
  · have nm1 : name.toList.isEmpty = true := by simpa using nz
    have NZ := Lib.hid nz
    clear nz HNB HYB
    cases B
    all_goals
      go_wp2
      go_ret
      exact ⟨true, rfl, ⟨fun _ => HP.out.2 ⟨(by first | trivial | rfl), Q1.out, (by first | trivial | rfl), (by first | trivial | rfl), (by first | trivial | rfl), (by first | trivial | rfl), (.inl NZ.out)⟩, fun _ => rfl⟩, HB.out _⟩
  · have nm1 : name.toList.isEmpty = false := by simpa using nz
    have NZ := Lib.hid nz
    clear nz
    cases B
    · have NB := Lib.hid (HNB.out rfl)
      clear HNB HYB
      go_wp2
      go_ret
      exact ⟨false, rfl, ⟨fun h => (by cases h), fun h => absurd ((HP.out.1 h).2.2.2.2.2.2) (fun g => g.elim NZ.out NB.out)⟩, HB.out _⟩
    · have YB := Lib.hid (HYB.out rfl)
      clear HNB HYB
      go_wp2
      go_ret
      exact ⟨true, rfl, ⟨fun _ => HP.out.2 ⟨(by first | trivial | rfl), Q1.out, (by first | trivial | rfl), (by first | trivial | rfl), (by first | trivial | rfl), (by first | trivial | rfl), (.inr YB.out)⟩, fun _ => rfl⟩, HB.out _⟩
end Go.Proofs.Ytaaadimkbhkpiaa
