/- Texts merged by program: TrFieldsB. No condition. -/
import Derived.Test.YtaaadimkbhkpiaaQ6
import Derived.Test.YtaaadimkbhkpiaaQ4
set_option linter.unusedVariables false
set_option linter.unusedSimpArgs false
/- Has a tree just the fields of its Op: the document's fields, at each Op by itself. -/
namespace Go.Proofs.Ytaaadimkbhkpiaa
open Go Go.RowKit

theorem fields_iff7 (rune : Int) (set : List (Int × Int)) (at' cap : Int) (name : ByteArray) (min max : Int) (lazy : Bool) : FieldsOk ({ op := 7, rune := rune, set := set, at' := at', cap := cap, name := name, min := min, max := max, lazy := lazy } : Fld) ↔ (rune = 0) ∧ (set = []) ∧ (at' = 0) ∧ (cap = 0) ∧ (name.toList = []) ∧ (min = 0) ∧ (max = 0) := by
  unfold FieldsOk
  simp only []
  constructor
  · intro h
    obtain ⟨-, -, h3, h4, h5, h6, h10, hl, g3, g4, g5, g6, g10⟩ := h
    refine ⟨h3 (by decide), h4 (by decide), h5 (by decide), (h6 (by decide)).1, (h6 (by decide)).2, (h10 (by decide)).1, (h10 (by decide)).2⟩
  · rintro ⟨q0, q1, q2, q3, q4, q5, q6⟩
    refine ⟨by decide, by decide, fun _ => q0, fun _ => q1, fun _ => q2, fun _ => ⟨q3, q4⟩, fun _ => ⟨q5, q6⟩, fun _ => by decide, fun h => absurd h (by decide), fun h => absurd h (by decide), fun h => absurd h (by decide), fun h => absurd h (by decide), fun h => absurd h (by decide)⟩
set_option maxHeartbeats 1600000 in
set_option maxRecDepth 100000 in
theorem fields_walk7 (x1 : Value) (rune : Int) (a2 : Option Addr) (s c2 : Nat) (set : List (Int × Int)) (at' cap : Int) (name : ByteArray) (min max : Int) (lazy : Bool) (w : World) (hS : Rgs w (.slice a2 s c2) set) (hs : set.length = s) (hsb : s ≤ 17592186044416) (hr : I32 rune) (hmn : I64 min) (hmx : I64 max) : Calls Try.prog 90 #[.agg #[.int .i64 7, x1, .int .i32 rune, .slice a2 s c2, .int .i64 at', .int .i64 cap, .string name, .int .i64 min, .int .i64 max, .bool lazy]] w (SaysB (FieldsOk ({ op := 7, rune := rune, set := set, at' := at', cap := cap, name := name, min := min, max := max, lazy := lazy } : Fld)) w) := by
  obtain ⟨P, hP⟩ : ∃ P, FieldsOk ({ op := 7, rune := rune, set := set, at' := at', cap := cap, name := name, min := min, max := max, lazy := lazy } : Fld) = P := ⟨_, rfl⟩
  have HP : Hid (P ↔ (rune = 0) ∧ (set = []) ∧ (at' = 0) ∧ (cap = 0) ∧ (name.toList = []) ∧ (min = 0) ∧ (max = 0)) := Lib.hid (by rw [← hP]; exact fields_iff7 rune set at' cap name min max lazy)
  rw [hP]
  clear hP
  have HB : Hid (∀ o, Below w.heap.size w (w.alloc o)) := Lib.hid fun o => (Below.refl _ _).alloc (Nat.le_refl _) _
  have HS := Lib.hid hS; have HL := Lib.hid hs
  clear hS hs
  go_enter Try.func90, Try.ntmps90
  by_cases b0 : rune = 0
  rotate_left
  · have e1 : (rune == 0) = false := beq_eq_false_iff_ne.2 b0
    have e2 : (rune != 0) = true := bne_iff_ne.2 b0
    have G := Lib.hid b0
    clear b0
    go_wp2
    go_ret
    exact ⟨false, rfl, ⟨fun h => (by cases h), fun h => absurd ((HP.out.1 h).1) G.out⟩, HB.out _⟩
  subst b0
  by_cases b1 : s = 0
  rotate_left
  · have hz : (0 : Int) < (s : Int) := by omega
    have G : Hid (¬ set = []) := Lib.hid fun h => b1 (by rw [← HL.out, h]; rfl)
    clear b1
    go_wp2
    go_ret
    exact ⟨false, rfl, ⟨fun h => (by cases h), fun h => absurd ((HP.out.1 h).2.1) G.out⟩, HB.out _⟩
  subst b1
  have Q1 : Hid (set = []) := Lib.hid (List.eq_nil_of_length_eq_zero HL.out)
  by_cases b2 : at' = 0
  rotate_left
  · have e1 : (at' == 0) = false := beq_eq_false_iff_ne.2 b2
    have e2 : (at' != 0) = true := bne_iff_ne.2 b2
    have G := Lib.hid b2
    clear b2
    go_wp2
    go_ret
    exact ⟨false, rfl, ⟨fun h => (by cases h), fun h => absurd ((HP.out.1 h).2.2.1) G.out⟩, HB.out _⟩
  subst b2
  by_cases b3 : cap = 0
  rotate_left
  · have e1 : (cap == 0) = false := beq_eq_false_iff_ne.2 b3
    have e2 : (cap != 0) = true := bne_iff_ne.2 b3
    have G := Lib.hid b3
    clear b3
    go_wp2
    go_ret
    exact ⟨false, rfl, ⟨fun h => (by cases h), fun h => absurd ((HP.out.1 h).2.2.2.1) G.out⟩, HB.out _⟩
  subst b3
  by_cases b4 : name.toList = []
  rotate_left
  · have e1 : name.toList.isEmpty = false := by simpa using b4
    have G := Lib.hid b4
    clear b4
    go_wp2
    go_ret
    exact ⟨false, rfl, ⟨fun h => (by cases h), fun h => absurd ((HP.out.1 h).2.2.2.2.1) G.out⟩, HB.out _⟩
  have nm1 : name.toList.isEmpty = true := by simpa using b4
  have Q4 := Lib.hid b4
  clear b4
  by_cases b5 : min = 0
  rotate_left
  · have e1 : (min == 0) = false := beq_eq_false_iff_ne.2 b5
    have e2 : (min != 0) = true := bne_iff_ne.2 b5
    have G := Lib.hid b5
    clear b5
    go_wp2
    go_ret
    exact ⟨false, rfl, ⟨fun h => (by cases h), fun h => absurd ((HP.out.1 h).2.2.2.2.2.1) G.out⟩, HB.out _⟩
  subst b5
  by_cases b6 : max = 0
  rotate_left
  · have e1 : (max == 0) = false := beq_eq_false_iff_ne.2 b6
    have e2 : (max != 0) = true := bne_iff_ne.2 b6
    have G := Lib.hid b6
    clear b6
    go_wp2
    go_ret
    exact ⟨false, rfl, ⟨fun h => (by cases h), fun h => absurd ((HP.out.1 h).2.2.2.2.2.2) G.out⟩, HB.out _⟩
  subst b6
  cases lazy
  all_goals
    go_wp2
    go_ret
    exact ⟨true, rfl, ⟨fun _ => HP.out.2 ⟨(by first | trivial | rfl), Q1.out, (by first | trivial | rfl), (by first | trivial | rfl), Q4.out, (by first | trivial | rfl), (by first | trivial | rfl)⟩, fun _ => rfl⟩, HB.out _⟩
theorem fields_iff8 (rune : Int) (set : List (Int × Int)) (at' cap : Int) (name : ByteArray) (min max : Int) (lazy : Bool) : FieldsOk ({ op := 8, rune := rune, set := set, at' := at', cap := cap, name := name, min := min, max := max, lazy := lazy } : Fld) ↔ (rune = 0) ∧ (set = []) ∧ (at' = 0) ∧ (cap = 0) ∧ (name.toList = []) ∧ (min = 0) ∧ (max = 0) := by
  unfold FieldsOk
  simp only []
  constructor
  · intro h
    obtain ⟨-, -, h3, h4, h5, h6, h10, hl, g3, g4, g5, g6, g10⟩ := h
    refine ⟨h3 (by decide), h4 (by decide), h5 (by decide), (h6 (by decide)).1, (h6 (by decide)).2, (h10 (by decide)).1, (h10 (by decide)).2⟩
  · rintro ⟨q0, q1, q2, q3, q4, q5, q6⟩
    refine ⟨by decide, by decide, fun _ => q0, fun _ => q1, fun _ => q2, fun _ => ⟨q3, q4⟩, fun _ => ⟨q5, q6⟩, fun _ => by decide, fun h => absurd h (by decide), fun h => absurd h (by decide), fun h => absurd h (by decide), fun h => absurd h (by decide), fun h => absurd h (by decide)⟩
set_option maxHeartbeats 1600000 in
set_option maxRecDepth 100000 in
theorem fields_walk8 (x1 : Value) (rune : Int) (a2 : Option Addr) (s c2 : Nat) (set : List (Int × Int)) (at' cap : Int) (name : ByteArray) (min max : Int) (lazy : Bool) (w : World) (hS : Rgs w (.slice a2 s c2) set) (hs : set.length = s) (hsb : s ≤ 17592186044416) (hr : I32 rune) (hmn : I64 min) (hmx : I64 max) : Calls Try.prog 90 #[.agg #[.int .i64 8, x1, .int .i32 rune, .slice a2 s c2, .int .i64 at', .int .i64 cap, .string name, .int .i64 min, .int .i64 max, .bool lazy]] w (SaysB (FieldsOk ({ op := 8, rune := rune, set := set, at' := at', cap := cap, name := name, min := min, max := max, lazy := lazy } : Fld)) w) := by
  obtain ⟨P, hP⟩ : ∃ P, FieldsOk ({ op := 8, rune := rune, set := set, at' := at', cap := cap, name := name, min := min, max := max, lazy := lazy } : Fld) = P := ⟨_, rfl⟩
  have HP : Hid (P ↔ (rune = 0) ∧ (set = []) ∧ (at' = 0) ∧ (cap = 0) ∧ (name.toList = []) ∧ (min = 0) ∧ (max = 0)) := Lib.hid (by rw [← hP]; exact fields_iff8 rune set at' cap name min max lazy)
  rw [hP]
  clear hP
  have HB : Hid (∀ o, Below w.heap.size w (w.alloc o)) := Lib.hid fun o => (Below.refl _ _).alloc (Nat.le_refl _) _
  have HS := Lib.hid hS; have HL := Lib.hid hs
  clear hS hs
  go_enter Try.func90, Try.ntmps90
  by_cases b0 : rune = 0
  rotate_left
  · have e1 : (rune == 0) = false := beq_eq_false_iff_ne.2 b0
    have e2 : (rune != 0) = true := bne_iff_ne.2 b0
    have G := Lib.hid b0
    clear b0
    go_wp2
    go_ret
    exact ⟨false, rfl, ⟨fun h => (by cases h), fun h => absurd ((HP.out.1 h).1) G.out⟩, HB.out _⟩
  subst b0
  by_cases b1 : s = 0
  rotate_left
  · have hz : (0 : Int) < (s : Int) := by omega
    have G : Hid (¬ set = []) := Lib.hid fun h => b1 (by rw [← HL.out, h]; rfl)
    clear b1
    go_wp2
    go_ret
    exact ⟨false, rfl, ⟨fun h => (by cases h), fun h => absurd ((HP.out.1 h).2.1) G.out⟩, HB.out _⟩
  subst b1
  have Q1 : Hid (set = []) := Lib.hid (List.eq_nil_of_length_eq_zero HL.out)
  by_cases b2 : at' = 0
  rotate_left
  · have e1 : (at' == 0) = false := beq_eq_false_iff_ne.2 b2
    have e2 : (at' != 0) = true := bne_iff_ne.2 b2
    have G := Lib.hid b2
    clear b2
    go_wp2
    go_ret
    exact ⟨false, rfl, ⟨fun h => (by cases h), fun h => absurd ((HP.out.1 h).2.2.1) G.out⟩, HB.out _⟩
  subst b2
  by_cases b3 : cap = 0
  rotate_left
  · have e1 : (cap == 0) = false := beq_eq_false_iff_ne.2 b3
    have e2 : (cap != 0) = true := bne_iff_ne.2 b3
    have G := Lib.hid b3
    clear b3
    go_wp2
    go_ret
    exact ⟨false, rfl, ⟨fun h => (by cases h), fun h => absurd ((HP.out.1 h).2.2.2.1) G.out⟩, HB.out _⟩
  subst b3
  by_cases b4 : name.toList = []
  rotate_left
  · have e1 : name.toList.isEmpty = false := by simpa using b4
    have G := Lib.hid b4
    clear b4
    go_wp2
    go_ret
    exact ⟨false, rfl, ⟨fun h => (by cases h), fun h => absurd ((HP.out.1 h).2.2.2.2.1) G.out⟩, HB.out _⟩
  have nm1 : name.toList.isEmpty = true := by simpa using b4
  have Q4 := Lib.hid b4
  clear b4
  by_cases b5 : min = 0
  rotate_left
  · have e1 : (min == 0) = false := beq_eq_false_iff_ne.2 b5
    have e2 : (min != 0) = true := bne_iff_ne.2 b5
    have G := Lib.hid b5
    clear b5
    go_wp2
    go_ret
    exact ⟨false, rfl, ⟨fun h => (by cases h), fun h => absurd ((HP.out.1 h).2.2.2.2.2.1) G.out⟩, HB.out _⟩
  subst b5
  by_cases b6 : max = 0
  rotate_left
  · have e1 : (max == 0) = false := beq_eq_false_iff_ne.2 b6
    have e2 : (max != 0) = true := bne_iff_ne.2 b6
    have G := Lib.hid b6
    clear b6
    go_wp2
    go_ret
    exact ⟨false, rfl, ⟨fun h => (by cases h), fun h => absurd ((HP.out.1 h).2.2.2.2.2.2) G.out⟩, HB.out _⟩
  subst b6
  cases lazy
  all_goals
    go_wp2
    go_ret
    exact ⟨true, rfl, ⟨fun _ => HP.out.2 ⟨(by first | trivial | rfl), Q1.out, (by first | trivial | rfl), (by first | trivial | rfl), Q4.out, (by first | trivial | rfl), (by first | trivial | rfl)⟩, fun _ => rfl⟩, HB.out _⟩
theorem fields_iff9 (rune : Int) (set : List (Int × Int)) (at' cap : Int) (name : ByteArray) (min max : Int) (lazy : Bool) : FieldsOk ({ op := 9, rune := rune, set := set, at' := at', cap := cap, name := name, min := min, max := max, lazy := lazy } : Fld) ↔ (rune = 0) ∧ (set = []) ∧ (at' = 0) ∧ (cap = 0) ∧ (name.toList = []) ∧ (min = 0) ∧ (max = 0) := by
  unfold FieldsOk
  simp only []
  constructor
  · intro h
    obtain ⟨-, -, h3, h4, h5, h6, h10, hl, g3, g4, g5, g6, g10⟩ := h
    refine ⟨h3 (by decide), h4 (by decide), h5 (by decide), (h6 (by decide)).1, (h6 (by decide)).2, (h10 (by decide)).1, (h10 (by decide)).2⟩
  · rintro ⟨q0, q1, q2, q3, q4, q5, q6⟩
    refine ⟨by decide, by decide, fun _ => q0, fun _ => q1, fun _ => q2, fun _ => ⟨q3, q4⟩, fun _ => ⟨q5, q6⟩, fun _ => by decide, fun h => absurd h (by decide), fun h => absurd h (by decide), fun h => absurd h (by decide), fun h => absurd h (by decide), fun h => absurd h (by decide)⟩
set_option maxHeartbeats 1600000 in
set_option maxRecDepth 100000 in
theorem fields_walk9 (x1 : Value) (rune : Int) (a2 : Option Addr) (s c2 : Nat) (set : List (Int × Int)) (at' cap : Int) (name : ByteArray) (min max : Int) (lazy : Bool) (w : World) (hS : Rgs w (.slice a2 s c2) set) (hs : set.length = s) (hsb : s ≤ 17592186044416) (hr : I32 rune) (hmn : I64 min) (hmx : I64 max) : Calls Try.prog 90 #[.agg #[.int .i64 9, x1, .int .i32 rune, .slice a2 s c2, .int .i64 at', .int .i64 cap, .string name, .int .i64 min, .int .i64 max, .bool lazy]] w (SaysB (FieldsOk ({ op := 9, rune := rune, set := set, at' := at', cap := cap, name := name, min := min, max := max, lazy := lazy } : Fld)) w) := by
  obtain ⟨P, hP⟩ : ∃ P, FieldsOk ({ op := 9, rune := rune, set := set, at' := at', cap := cap, name := name, min := min, max := max, lazy := lazy } : Fld) = P := ⟨_, rfl⟩
  have HP : Hid (P ↔ (rune = 0) ∧ (set = []) ∧ (at' = 0) ∧ (cap = 0) ∧ (name.toList = []) ∧ (min = 0) ∧ (max = 0)) := Lib.hid (by rw [← hP]; exact fields_iff9 rune set at' cap name min max lazy)
  rw [hP]
  clear hP
  have HB : Hid (∀ o, Below w.heap.size w (w.alloc o)) := Lib.hid fun o => (Below.refl _ _).alloc (Nat.le_refl _) _
  have HS := Lib.hid hS; have HL := Lib.hid hs
  clear hS hs
  go_enter Try.func90, Try.ntmps90
  by_cases b0 : rune = 0
  rotate_left
  · have e1 : (rune == 0) = false := beq_eq_false_iff_ne.2 b0
    have e2 : (rune != 0) = true := bne_iff_ne.2 b0
    have G := Lib.hid b0
    clear b0
    go_wp2
    go_ret
    exact ⟨false, rfl, ⟨fun h => (by cases h), fun h => absurd ((HP.out.1 h).1) G.out⟩, HB.out _⟩
  subst b0
  by_cases b1 : s = 0
  rotate_left
  · have hz : (0 : Int) < (s : Int) := by omega
    have G : Hid (¬ set = []) := Lib.hid fun h => b1 (by rw [← HL.out, h]; rfl)
    clear b1
    go_wp2
    go_ret
    exact ⟨false, rfl, ⟨fun h => (by cases h), fun h => absurd ((HP.out.1 h).2.1) G.out⟩, HB.out _⟩
  subst b1
  have Q1 : Hid (set = []) := Lib.hid (List.eq_nil_of_length_eq_zero HL.out)
  by_cases b2 : at' = 0
  rotate_left
  · have e1 : (at' == 0) = false := beq_eq_false_iff_ne.2 b2
    have e2 : (at' != 0) = true := bne_iff_ne.2 b2
    have G := Lib.hid b2
    clear b2
    go_wp2
    go_ret
    exact ⟨false, rfl, ⟨fun h => (by cases h), fun h => absurd ((HP.out.1 h).2.2.1) G.out⟩, HB.out _⟩
  subst b2
  by_cases b3 : cap = 0
  rotate_left
  · have e1 : (cap == 0) = false := beq_eq_false_iff_ne.2 b3
    have e2 : (cap != 0) = true := bne_iff_ne.2 b3
    have G := Lib.hid b3
    clear b3
    go_wp2
    go_ret
    exact ⟨false, rfl, ⟨fun h => (by cases h), fun h => absurd ((HP.out.1 h).2.2.2.1) G.out⟩, HB.out _⟩
  subst b3
  by_cases b4 : name.toList = []
  rotate_left
  · have e1 : name.toList.isEmpty = false := by simpa using b4
    have G := Lib.hid b4
    clear b4
    go_wp2
    go_ret
    exact ⟨false, rfl, ⟨fun h => (by cases h), fun h => absurd ((HP.out.1 h).2.2.2.2.1) G.out⟩, HB.out _⟩
  have nm1 : name.toList.isEmpty = true := by simpa using b4
  have Q4 := Lib.hid b4
  clear b4
  by_cases b5 : min = 0
  rotate_left
  · have e1 : (min == 0) = false := beq_eq_false_iff_ne.2 b5
    have e2 : (min != 0) = true := bne_iff_ne.2 b5
    have G := Lib.hid b5
    clear b5
    go_wp2
    go_ret
    exact ⟨false, rfl, ⟨fun h => (by cases h), fun h => absurd ((HP.out.1 h).2.2.2.2.2.1) G.out⟩, HB.out _⟩
  subst b5
  by_cases b6 : max = 0
  rotate_left
  · have e1 : (max == 0) = false := beq_eq_false_iff_ne.2 b6
    have e2 : (max != 0) = true := bne_iff_ne.2 b6
    have G := Lib.hid b6
    clear b6
    go_wp2
    go_ret
    exact ⟨false, rfl, ⟨fun h => (by cases h), fun h => absurd ((HP.out.1 h).2.2.2.2.2.2) G.out⟩, HB.out _⟩
  subst b6
  cases lazy
  all_goals
    go_wp2
    go_ret
    exact ⟨true, rfl, ⟨fun _ => HP.out.2 ⟨(by first | trivial | rfl), Q1.out, (by first | trivial | rfl), (by first | trivial | rfl), Q4.out, (by first | trivial | rfl), (by first | trivial | rfl)⟩, fun _ => rfl⟩, HB.out _⟩
theorem fields_iff10 (rune : Int) (set : List (Int × Int)) (at' cap : Int) (name : ByteArray) (min max : Int) (lazy : Bool) : FieldsOk ({ op := 10, rune := rune, set := set, at' := at', cap := cap, name := name, min := min, max := max, lazy := lazy } : Fld) ↔ (rune = 0) ∧ (set = []) ∧ (at' = 0) ∧ (cap = 0) ∧ (name.toList = []) ∧ (0 ≤ min) ∧ (min ≤ 1000) ∧ (max = -1 ∨ (min ≤ max ∧ max ≤ 1000)) := by
  unfold FieldsOk
  simp only []
  constructor
  · intro h
    obtain ⟨-, -, h3, h4, h5, h6, h10, hl, g3, g4, g5, g6, g10⟩ := h
    refine ⟨h3 (by decide), h4 (by decide), h5 (by decide), (h6 (by decide)).1, (h6 (by decide)).2, (g10 (by first | trivial | rfl)).1.1, (g10 (by first | trivial | rfl)).1.2, (g10 (by first | trivial | rfl)).2⟩
  · rintro ⟨q0, q1, q2, q3, q4, q5, q6, q7⟩
    refine ⟨by decide, by decide, fun _ => q0, fun _ => q1, fun _ => q2, fun _ => ⟨q3, q4⟩, fun h => absurd rfl h, fun _ => by decide, fun h => absurd h (by decide), fun h => absurd h (by decide), fun h => absurd h (by decide), fun h => absurd h (by decide), fun _ => ⟨⟨q5, q6⟩, q7⟩⟩
set_option maxHeartbeats 1600000 in
set_option maxRecDepth 100000 in
theorem fields_walk10 (x1 : Value) (rune : Int) (a2 : Option Addr) (s c2 : Nat) (set : List (Int × Int)) (at' cap : Int) (name : ByteArray) (min max : Int) (lazy : Bool) (w : World) (hS : Rgs w (.slice a2 s c2) set) (hs : set.length = s) (hsb : s ≤ 17592186044416) (hr : I32 rune) (hmn : I64 min) (hmx : I64 max) : Calls Try.prog 90 #[.agg #[.int .i64 10, x1, .int .i32 rune, .slice a2 s c2, .int .i64 at', .int .i64 cap, .string name, .int .i64 min, .int .i64 max, .bool lazy]] w (SaysB (FieldsOk ({ op := 10, rune := rune, set := set, at' := at', cap := cap, name := name, min := min, max := max, lazy := lazy } : Fld)) w) := by
  obtain ⟨P, hP⟩ : ∃ P, FieldsOk ({ op := 10, rune := rune, set := set, at' := at', cap := cap, name := name, min := min, max := max, lazy := lazy } : Fld) = P := ⟨_, rfl⟩
  have HP : Hid (P ↔ (rune = 0) ∧ (set = []) ∧ (at' = 0) ∧ (cap = 0) ∧ (name.toList = []) ∧ (0 ≤ min) ∧ (min ≤ 1000) ∧ (max = -1 ∨ (min ≤ max ∧ max ≤ 1000))) := Lib.hid (by rw [← hP]; exact fields_iff10 rune set at' cap name min max lazy)
  rw [hP]
  clear hP
  have HB : Hid (∀ o, Below w.heap.size w (w.alloc o)) := Lib.hid fun o => (Below.refl _ _).alloc (Nat.le_refl _) _
  have HS := Lib.hid hS; have HL := Lib.hid hs
  clear hS hs
  go_enter Try.func90, Try.ntmps90
  by_cases b0 : rune = 0
  rotate_left
  · have e1 : (rune == 0) = false := beq_eq_false_iff_ne.2 b0
    have e2 : (rune != 0) = true := bne_iff_ne.2 b0
    have G := Lib.hid b0
    clear b0
    go_wp2
    go_ret
    exact ⟨false, rfl, ⟨fun h => (by cases h), fun h => absurd ((HP.out.1 h).1) G.out⟩, HB.out _⟩
  subst b0
  by_cases b1 : s = 0
  rotate_left
  · have hz : (0 : Int) < (s : Int) := by omega
    have G : Hid (¬ set = []) := Lib.hid fun h => b1 (by rw [← HL.out, h]; rfl)
    clear b1
    go_wp2
    go_ret
    exact ⟨false, rfl, ⟨fun h => (by cases h), fun h => absurd ((HP.out.1 h).2.1) G.out⟩, HB.out _⟩
  subst b1
  have Q1 : Hid (set = []) := Lib.hid (List.eq_nil_of_length_eq_zero HL.out)
  by_cases b2 : at' = 0
  rotate_left
  · have e1 : (at' == 0) = false := beq_eq_false_iff_ne.2 b2
    have e2 : (at' != 0) = true := bne_iff_ne.2 b2
    have G := Lib.hid b2
    clear b2
    go_wp2
    go_ret
    exact ⟨false, rfl, ⟨fun h => (by cases h), fun h => absurd ((HP.out.1 h).2.2.1) G.out⟩, HB.out _⟩
  subst b2
  by_cases b3 : cap = 0
  rotate_left
  · have e1 : (cap == 0) = false := beq_eq_false_iff_ne.2 b3
    have e2 : (cap != 0) = true := bne_iff_ne.2 b3
    have G := Lib.hid b3
    clear b3
    go_wp2
    go_ret
    exact ⟨false, rfl, ⟨fun h => (by cases h), fun h => absurd ((HP.out.1 h).2.2.2.1) G.out⟩, HB.out _⟩
  subst b3
  by_cases b4 : name.toList = []
  rotate_left
  · have e1 : name.toList.isEmpty = false := by simpa using b4
    have G := Lib.hid b4
    clear b4
    go_wp2
    go_ret
    exact ⟨false, rfl, ⟨fun h => (by cases h), fun h => absurd ((HP.out.1 h).2.2.2.2.1) G.out⟩, HB.out _⟩
  have nm1 : name.toList.isEmpty = true := by simpa using b4
  have Q4 := Lib.hid b4
  clear b4
  cases lazy
  all_goals
    by_cases g1 : 0 ≤ min
    rotate_left
    · have g1' : min < 0 := by omega
      have G := Lib.hid g1
      go_wp2
      go_ret
      exact ⟨false, rfl, ⟨fun h => (by cases h), fun h => absurd ((HP.out.1 h).2.2.2.2.2.1) (by have := G.out; omega)⟩, HB.out _⟩
    by_cases g2 : min ≤ 1000
    rotate_left
    · have g1' : ¬ min < 0 := by omega
      have g2' : 1000 < min := by omega
      have G := Lib.hid g2
      go_wp2
      go_ret
      exact ⟨false, rfl, ⟨fun h => (by cases h), fun h => absurd ((HP.out.1 h).2.2.2.2.2.2.1) (by have := G.out; omega)⟩, HB.out _⟩
    have g1' : ¬ min < 0 := by omega
    have g2' : ¬ 1000 < min := by omega
    by_cases g3 : max = -1
    · subst g3
      go_wp2
      go_ret
      exact ⟨true, rfl, ⟨fun _ => HP.out.2 ⟨(by first | trivial | rfl), Q1.out, (by first | trivial | rfl), (by first | trivial | rfl), Q4.out, g1, g2, (.inl (by first | trivial | rfl))⟩, fun _ => rfl⟩, HB.out _⟩
    have e3 : (max == -1) = false := beq_eq_false_iff_ne.2 g3
    have G3 := Lib.hid g3
    clear g3
    by_cases g4 : min ≤ max
    rotate_left
    · have G := Lib.hid g4
      go_wp2
      go_ret
      exact ⟨false, rfl, ⟨fun h => (by cases h), fun h => absurd ((HP.out.1 h).2.2.2.2.2.2.2) (fun g => g.elim G3.out fun g => (by have := G.out; have := g.1; omega))⟩, HB.out _⟩
    by_cases g5 : max ≤ 1000
    · go_wp2
      go_ret
      exact ⟨true, rfl, ⟨fun _ => HP.out.2 ⟨(by first | trivial | rfl), Q1.out, (by first | trivial | rfl), (by first | trivial | rfl), Q4.out, g1, g2, (.inr ⟨g4, g5⟩)⟩, fun _ => rfl⟩, HB.out _⟩
    · have G := Lib.hid g5
      go_wp2
      go_ret
      exact ⟨false, rfl, ⟨fun h => (by cases h), fun h => absurd ((HP.out.1 h).2.2.2.2.2.2.2) (fun g => g.elim G3.out fun g => (by have := G.out; have := g.2; omega))⟩, HB.out _⟩
theorem fields_iff11 (rune : Int) (set : List (Int × Int)) (at' cap : Int) (name : ByteArray) (min max : Int) (lazy : Bool) : FieldsOk ({ op := 11, rune := rune, set := set, at' := at', cap := cap, name := name, min := min, max := max, lazy := lazy } : Fld) ↔ (rune = 0) ∧ (set = []) ∧ (at' = 0) ∧ (cap = 0) ∧ (name.toList = []) ∧ (min = 0) ∧ (max = 0) ∧ (lazy = false) := by
  unfold FieldsOk
  simp only []
  constructor
  · intro h
    obtain ⟨-, -, h3, h4, h5, h6, h10, hl, g3, g4, g5, g6, g10⟩ := h
    refine ⟨h3 (by decide), h4 (by decide), h5 (by decide), (h6 (by decide)).1, (h6 (by decide)).2, (h10 (by decide)).1, (h10 (by decide)).2, (by cases lazy with | false => rfl | true => exact absurd (hl rfl) (by decide))⟩
  · rintro ⟨q0, q1, q2, q3, q4, q5, q6, q7⟩
    refine ⟨by decide, by decide, fun _ => q0, fun _ => q1, fun _ => q2, fun _ => ⟨q3, q4⟩, fun _ => ⟨q5, q6⟩, (fun h => by rw [q7] at h; cases h), fun h => absurd h (by decide), fun h => absurd h (by decide), fun h => absurd h (by decide), fun h => absurd h (by decide), fun h => absurd h (by decide)⟩
set_option maxHeartbeats 1600000 in
set_option maxRecDepth 100000 in
theorem fields_walk11 (x1 : Value) (rune : Int) (a2 : Option Addr) (s c2 : Nat) (set : List (Int × Int)) (at' cap : Int) (name : ByteArray) (min max : Int) (lazy : Bool) (w : World) (hS : Rgs w (.slice a2 s c2) set) (hs : set.length = s) (hsb : s ≤ 17592186044416) (hr : I32 rune) (hmn : I64 min) (hmx : I64 max) : Calls Try.prog 90 #[.agg #[.int .i64 11, x1, .int .i32 rune, .slice a2 s c2, .int .i64 at', .int .i64 cap, .string name, .int .i64 min, .int .i64 max, .bool lazy]] w (SaysB (FieldsOk ({ op := 11, rune := rune, set := set, at' := at', cap := cap, name := name, min := min, max := max, lazy := lazy } : Fld)) w) := by
  obtain ⟨P, hP⟩ : ∃ P, FieldsOk ({ op := 11, rune := rune, set := set, at' := at', cap := cap, name := name, min := min, max := max, lazy := lazy } : Fld) = P := ⟨_, rfl⟩
  have HP : Hid (P ↔ (rune = 0) ∧ (set = []) ∧ (at' = 0) ∧ (cap = 0) ∧ (name.toList = []) ∧ (min = 0) ∧ (max = 0) ∧ (lazy = false)) := Lib.hid (by rw [← hP]; exact fields_iff11 rune set at' cap name min max lazy)
  rw [hP]
  clear hP
  have HB : Hid (∀ o, Below w.heap.size w (w.alloc o)) := Lib.hid fun o => (Below.refl _ _).alloc (Nat.le_refl _) _
  have HS := Lib.hid hS; have HL := Lib.hid hs
  clear hS hs
  go_enter Try.func90, Try.ntmps90
  by_cases b0 : rune = 0
  rotate_left
  · have e1 : (rune == 0) = false := beq_eq_false_iff_ne.2 b0
    have e2 : (rune != 0) = true := bne_iff_ne.2 b0
    have G := Lib.hid b0
    clear b0
    go_wp2
    go_ret
    exact ⟨false, rfl, ⟨fun h => (by cases h), fun h => absurd ((HP.out.1 h).1) G.out⟩, HB.out _⟩
  subst b0
  by_cases b1 : s = 0
  rotate_left
  · have hz : (0 : Int) < (s : Int) := by omega
    have G : Hid (¬ set = []) := Lib.hid fun h => b1 (by rw [← HL.out, h]; rfl)
    clear b1
    go_wp2
    go_ret
    exact ⟨false, rfl, ⟨fun h => (by cases h), fun h => absurd ((HP.out.1 h).2.1) G.out⟩, HB.out _⟩
  subst b1
  have Q1 : Hid (set = []) := Lib.hid (List.eq_nil_of_length_eq_zero HL.out)
  by_cases b2 : at' = 0
  rotate_left
  · have e1 : (at' == 0) = false := beq_eq_false_iff_ne.2 b2
    have e2 : (at' != 0) = true := bne_iff_ne.2 b2
    have G := Lib.hid b2
    clear b2
    go_wp2
    go_ret
    exact ⟨false, rfl, ⟨fun h => (by cases h), fun h => absurd ((HP.out.1 h).2.2.1) G.out⟩, HB.out _⟩
  subst b2
  by_cases b3 : cap = 0
  rotate_left
  · have e1 : (cap == 0) = false := beq_eq_false_iff_ne.2 b3
    have e2 : (cap != 0) = true := bne_iff_ne.2 b3
    have G := Lib.hid b3
    clear b3
    go_wp2
    go_ret
    exact ⟨false, rfl, ⟨fun h => (by cases h), fun h => absurd ((HP.out.1 h).2.2.2.1) G.out⟩, HB.out _⟩
  subst b3
  by_cases b4 : name.toList = []
  rotate_left
  · have e1 : name.toList.isEmpty = false := by simpa using b4
    have G := Lib.hid b4
    clear b4
    go_wp2
    go_ret
    exact ⟨false, rfl, ⟨fun h => (by cases h), fun h => absurd ((HP.out.1 h).2.2.2.2.1) G.out⟩, HB.out _⟩
  have nm1 : name.toList.isEmpty = true := by simpa using b4
  have Q4 := Lib.hid b4
  clear b4
  by_cases b5 : min = 0
  rotate_left
  · have e1 : (min == 0) = false := beq_eq_false_iff_ne.2 b5
    have e2 : (min != 0) = true := bne_iff_ne.2 b5
    have G := Lib.hid b5
    clear b5
    go_wp2
    go_ret
    exact ⟨false, rfl, ⟨fun h => (by cases h), fun h => absurd ((HP.out.1 h).2.2.2.2.2.1) G.out⟩, HB.out _⟩
  subst b5
  by_cases b6 : max = 0
  rotate_left
  · have e1 : (max == 0) = false := beq_eq_false_iff_ne.2 b6
    have e2 : (max != 0) = true := bne_iff_ne.2 b6
    have G := Lib.hid b6
    clear b6
    go_wp2
    go_ret
    exact ⟨false, rfl, ⟨fun h => (by cases h), fun h => absurd ((HP.out.1 h).2.2.2.2.2.2.1) G.out⟩, HB.out _⟩
  subst b6
  cases lazy
  rotate_left
  · go_wp2
    go_ret
    exact ⟨false, rfl, ⟨fun h => (by cases h), fun h => absurd ((HP.out.1 h).2.2.2.2.2.2.2) (by simp)⟩, HB.out _⟩
  go_wp2
  go_ret
  exact ⟨true, rfl, ⟨fun _ => HP.out.2 ⟨(by first | trivial | rfl), Q1.out, (by first | trivial | rfl), (by first | trivial | rfl), Q4.out, (by first | trivial | rfl), (by first | trivial | rfl), (by first | trivial | rfl)⟩, fun _ => rfl⟩, HB.out _⟩
theorem fields_iff12 (rune : Int) (set : List (Int × Int)) (at' cap : Int) (name : ByteArray) (min max : Int) (lazy : Bool) : FieldsOk ({ op := 12, rune := rune, set := set, at' := at', cap := cap, name := name, min := min, max := max, lazy := lazy } : Fld) ↔ (rune = 0) ∧ (set = []) ∧ (at' = 0) ∧ (cap = 0) ∧ (name.toList = []) ∧ (min = 0) ∧ (max = 0) ∧ (lazy = false) := by
  unfold FieldsOk
  simp only []
  constructor
  · intro h
    obtain ⟨-, -, h3, h4, h5, h6, h10, hl, g3, g4, g5, g6, g10⟩ := h
    refine ⟨h3 (by decide), h4 (by decide), h5 (by decide), (h6 (by decide)).1, (h6 (by decide)).2, (h10 (by decide)).1, (h10 (by decide)).2, (by cases lazy with | false => rfl | true => exact absurd (hl rfl) (by decide))⟩
  · rintro ⟨q0, q1, q2, q3, q4, q5, q6, q7⟩
    refine ⟨by decide, by decide, fun _ => q0, fun _ => q1, fun _ => q2, fun _ => ⟨q3, q4⟩, fun _ => ⟨q5, q6⟩, (fun h => by rw [q7] at h; cases h), fun h => absurd h (by decide), fun h => absurd h (by decide), fun h => absurd h (by decide), fun h => absurd h (by decide), fun h => absurd h (by decide)⟩
set_option maxHeartbeats 1600000 in
set_option maxRecDepth 100000 in
theorem fields_walk12 (x1 : Value) (rune : Int) (a2 : Option Addr) (s c2 : Nat) (set : List (Int × Int)) (at' cap : Int) (name : ByteArray) (min max : Int) (lazy : Bool) (w : World) (hS : Rgs w (.slice a2 s c2) set) (hs : set.length = s) (hsb : s ≤ 17592186044416) (hr : I32 rune) (hmn : I64 min) (hmx : I64 max) : Calls Try.prog 90 #[.agg #[.int .i64 12, x1, .int .i32 rune, .slice a2 s c2, .int .i64 at', .int .i64 cap, .string name, .int .i64 min, .int .i64 max, .bool lazy]] w (SaysB (FieldsOk ({ op := 12, rune := rune, set := set, at' := at', cap := cap, name := name, min := min, max := max, lazy := lazy } : Fld)) w) := by
  obtain ⟨P, hP⟩ : ∃ P, FieldsOk ({ op := 12, rune := rune, set := set, at' := at', cap := cap, name := name, min := min, max := max, lazy := lazy } : Fld) = P := ⟨_, rfl⟩
  have HP : Hid (P ↔ (rune = 0) ∧ (set = []) ∧ (at' = 0) ∧ (cap = 0) ∧ (name.toList = []) ∧ (min = 0) ∧ (max = 0) ∧ (lazy = false)) := Lib.hid (by rw [← hP]; exact fields_iff12 rune set at' cap name min max lazy)
  rw [hP]
  clear hP
  have HB : Hid (∀ o, Below w.heap.size w (w.alloc o)) := Lib.hid fun o => (Below.refl _ _).alloc (Nat.le_refl _) _
  have HS := Lib.hid hS; have HL := Lib.hid hs
  clear hS hs
  go_enter Try.func90, Try.ntmps90
  by_cases b0 : rune = 0
  rotate_left
  · have e1 : (rune == 0) = false := beq_eq_false_iff_ne.2 b0
    have e2 : (rune != 0) = true := bne_iff_ne.2 b0
    have G := Lib.hid b0
    clear b0
    go_wp2
    go_ret
    exact ⟨false, rfl, ⟨fun h => (by cases h), fun h => absurd ((HP.out.1 h).1) G.out⟩, HB.out _⟩
  subst b0
  by_cases b1 : s = 0
  rotate_left
  · have hz : (0 : Int) < (s : Int) := by omega
    have G : Hid (¬ set = []) := Lib.hid fun h => b1 (by rw [← HL.out, h]; rfl)
    clear b1
    go_wp2
    go_ret
    exact ⟨false, rfl, ⟨fun h => (by cases h), fun h => absurd ((HP.out.1 h).2.1) G.out⟩, HB.out _⟩
  subst b1
  have Q1 : Hid (set = []) := Lib.hid (List.eq_nil_of_length_eq_zero HL.out)
  by_cases b2 : at' = 0
  rotate_left
  · have e1 : (at' == 0) = false := beq_eq_false_iff_ne.2 b2
    have e2 : (at' != 0) = true := bne_iff_ne.2 b2
    have G := Lib.hid b2
    clear b2
    go_wp2
    go_ret
    exact ⟨false, rfl, ⟨fun h => (by cases h), fun h => absurd ((HP.out.1 h).2.2.1) G.out⟩, HB.out _⟩
  subst b2
  by_cases b3 : cap = 0
  rotate_left
  · have e1 : (cap == 0) = false := beq_eq_false_iff_ne.2 b3
    have e2 : (cap != 0) = true := bne_iff_ne.2 b3
    have G := Lib.hid b3
    clear b3
    go_wp2
    go_ret
    exact ⟨false, rfl, ⟨fun h => (by cases h), fun h => absurd ((HP.out.1 h).2.2.2.1) G.out⟩, HB.out _⟩
  subst b3
  by_cases b4 : name.toList = []
  rotate_left
  · have e1 : name.toList.isEmpty = false := by simpa using b4
    have G := Lib.hid b4
    clear b4
    go_wp2
    go_ret
    exact ⟨false, rfl, ⟨fun h => (by cases h), fun h => absurd ((HP.out.1 h).2.2.2.2.1) G.out⟩, HB.out _⟩
  have nm1 : name.toList.isEmpty = true := by simpa using b4
  have Q4 := Lib.hid b4
  clear b4
  by_cases b5 : min = 0
  rotate_left
  · have e1 : (min == 0) = false := beq_eq_false_iff_ne.2 b5
    have e2 : (min != 0) = true := bne_iff_ne.2 b5
    have G := Lib.hid b5
    clear b5
    go_wp2
    go_ret
    exact ⟨false, rfl, ⟨fun h => (by cases h), fun h => absurd ((HP.out.1 h).2.2.2.2.2.1) G.out⟩, HB.out _⟩
  subst b5
  by_cases b6 : max = 0
  rotate_left
  · have e1 : (max == 0) = false := beq_eq_false_iff_ne.2 b6
    have e2 : (max != 0) = true := bne_iff_ne.2 b6
    have G := Lib.hid b6
    clear b6
    go_wp2
    go_ret
    exact ⟨false, rfl, ⟨fun h => (by cases h), fun h => absurd ((HP.out.1 h).2.2.2.2.2.2.1) G.out⟩, HB.out _⟩
  subst b6
  cases lazy
  rotate_left
  · go_wp2
    go_ret
    exact ⟨false, rfl, ⟨fun h => (by cases h), fun h => absurd ((HP.out.1 h).2.2.2.2.2.2.2) (by simp)⟩, HB.out _⟩
  go_wp2
  go_ret
  exact ⟨true, rfl, ⟨fun _ => HP.out.2 ⟨(by first | trivial | rfl), Q1.out, (by first | trivial | rfl), (by first | trivial | rfl), Q4.out, (by first | trivial | rfl), (by first | trivial | rfl), (by first | trivial | rfl)⟩, fun _ => rfl⟩, HB.out _⟩
end Go.Proofs.Ytaaadimkbhkpiaa
