/- Texts merged by program: PSoundF, PSound. No condition. -/
import Derived.Test.YtnemacejaiifnaaQ27
import Derived.Test.YtnemacejaiifnaaQ6
import Derived.Deep.RegionHeld3
set_option linter.unusedVariables false
/- Is all right of a part that can be seen of it alone: the program's sound. -/
namespace Go.Proofs.Ytnemacejaiifnaa
open Go Go.RowKit

/-- Is all right of a part that can be seen of it alone? -/
def SoundF (f : Fld) (n : Nat) : Prop := FieldsOk f ∧ KidsOk f.op n ∧ ¬ (f.op = 6 ∧ f.cap < 1)

theorem len0 {set : List (Int × Int)} {s : Nat} (hs : set.length = s) : set = [] ↔ s = 0 := by rw [← hs]; exact List.length_eq_zero_iff.symm
theorem soundF_1 (rune : Int) (n s : Nat) (set : List (Int × Int)) (at' cap : Int) (name : ByteArray) (mn mx : Int) (lz : Bool) (hs : set.length = s) : SoundF ⟨1, rune, set, at', cap, name, mn, mx, lz⟩ n ↔ (n = 0) ∧ BlankP rune s at' cap name mn mx lz := by
  unfold SoundF FieldsOk KidsOk BlankP
  have h0 := len0 hs
  simp
  grind
theorem soundF_2 (rune : Int) (n s : Nat) (set : List (Int × Int)) (at' cap : Int) (name : ByteArray) (mn mx : Int) (lz : Bool) (hs : set.length = s) : SoundF ⟨2, rune, set, at', cap, name, mn, mx, lz⟩ n ↔ (n = 0) ∧ BlankP rune s at' cap name mn mx lz := by
  unfold SoundF FieldsOk KidsOk BlankP
  have h0 := len0 hs
  simp
  grind
theorem soundF_3 (rune : Int) (n s : Nat) (set : List (Int × Int)) (at' cap : Int) (name : ByteArray) (mn mx : Int) (lz : Bool) (hs : set.length = s) : SoundF ⟨3, rune, set, at', cap, name, mn, mx, lz⟩ n ↔ (n = 0 ∧ 0 ≤ rune ∧ rune ≤ 1114111) ∧ BlankP 0 s at' cap name mn mx lz := by
  unfold SoundF FieldsOk KidsOk BlankP
  have h0 := len0 hs
  simp
  grind
theorem soundF_4 (rune : Int) (n s : Nat) (set : List (Int × Int)) (at' cap : Int) (name : ByteArray) (mn mx : Int) (lz : Bool) (hs : set.length = s) : SoundF ⟨4, rune, set, at', cap, name, mn, mx, lz⟩ n ↔ (n = 0 ∧ 0 < s ∧ RightR set) ∧ BlankP rune 0 at' cap name mn mx lz := by
  unfold SoundF FieldsOk KidsOk BlankP
  have h0 := len0 hs
  simp
  grind
theorem soundF_5 (rune : Int) (n s : Nat) (set : List (Int × Int)) (at' cap : Int) (name : ByteArray) (mn mx : Int) (lz : Bool) (hs : set.length = s) : SoundF ⟨5, rune, set, at', cap, name, mn, mx, lz⟩ n ↔ (n = 0 ∧ (at' = 1 ∨ at' = 2 ∨ at' = 4 ∨ at' = 8 ∨ at' = 16 ∨ at' = 32)) ∧ BlankP rune s 0 cap name mn mx lz := by
  unfold SoundF FieldsOk KidsOk BlankP
  have h0 := len0 hs
  simp
  grind
theorem soundF_6 (rune : Int) (n s : Nat) (set : List (Int × Int)) (at' cap : Int) (name : ByteArray) (mn mx : Int) (lz : Bool) (hs : set.length = s) : SoundF ⟨6, rune, set, at', cap, name, mn, mx, lz⟩ n ↔ (n = 1 ∧ 0 < cap ∧ (name.toList = [] ∨ nameB name.toList = true)) ∧ BlankP rune s at' 0 ⟨#[]⟩ mn mx lz := by
  unfold SoundF FieldsOk KidsOk BlankP
  have h0 := len0 hs
  simp
  grind
theorem soundF_7 (rune : Int) (n s : Nat) (set : List (Int × Int)) (at' cap : Int) (name : ByteArray) (mn mx : Int) (lz : Bool) (hs : set.length = s) : SoundF ⟨7, rune, set, at', cap, name, mn, mx, lz⟩ n ↔ (n = 1) ∧ BlankP rune s at' cap name mn mx false := by
  unfold SoundF FieldsOk KidsOk BlankP
  have h0 := len0 hs
  simp
  grind
theorem soundF_8 (rune : Int) (n s : Nat) (set : List (Int × Int)) (at' cap : Int) (name : ByteArray) (mn mx : Int) (lz : Bool) (hs : set.length = s) : SoundF ⟨8, rune, set, at', cap, name, mn, mx, lz⟩ n ↔ (n = 1) ∧ BlankP rune s at' cap name mn mx false := by
  unfold SoundF FieldsOk KidsOk BlankP
  have h0 := len0 hs
  simp
  grind
theorem soundF_9 (rune : Int) (n s : Nat) (set : List (Int × Int)) (at' cap : Int) (name : ByteArray) (mn mx : Int) (lz : Bool) (hs : set.length = s) : SoundF ⟨9, rune, set, at', cap, name, mn, mx, lz⟩ n ↔ (n = 1) ∧ BlankP rune s at' cap name mn mx false := by
  unfold SoundF FieldsOk KidsOk BlankP
  have h0 := len0 hs
  simp
  grind
theorem soundF_10 (rune : Int) (n s : Nat) (set : List (Int × Int)) (at' cap : Int) (name : ByteArray) (mn mx : Int) (lz : Bool) (hs : set.length = s) : SoundF ⟨10, rune, set, at', cap, name, mn, mx, lz⟩ n ↔ (n = 1 ∧ ((0 ≤ mn ∧ mn ≤ 1000) ∧ (mx = -1 ∨ (mn ≤ mx ∧ mx ≤ 1000)))) ∧ BlankP rune s at' cap name 0 0 false := by
  unfold SoundF FieldsOk KidsOk BlankP
  have h0 := len0 hs
  simp
  grind
theorem soundF_11 (rune : Int) (n s : Nat) (set : List (Int × Int)) (at' cap : Int) (name : ByteArray) (mn mx : Int) (lz : Bool) (hs : set.length = s) : SoundF ⟨11, rune, set, at', cap, name, mn, mx, lz⟩ n ↔ (True) ∧ BlankP rune s at' cap name mn mx lz := by
  unfold SoundF FieldsOk KidsOk BlankP
  have h0 := len0 hs
  simp
  grind
theorem soundF_12 (rune : Int) (n s : Nat) (set : List (Int × Int)) (at' cap : Int) (name : ByteArray) (mn mx : Int) (lz : Bool) (hs : set.length = s) : SoundF ⟨12, rune, set, at', cap, name, mn, mx, lz⟩ n ↔ (0 < n) ∧ BlankP rune s at' cap name mn mx lz := by
  unfold SoundF FieldsOk KidsOk BlankP
  have h0 := len0 hs
  simp
  grind
end Go.Proofs.Ytnemacejaiifnaa
/- Is all right of a part that can be seen of it alone: the program's sound. -/
namespace Go.Proofs.Ytnemacejaiifnaa
open Go Go.RowKit

set_option maxHeartbeats 4000000 in
set_option maxRecDepth 100000 in
theorem psound_1 (rune : Int) (A a2 : Option Addr) (n c s c2 : Nat) (set : List (Int × Int)) (at' cap : Int) (name : ByteArray) (mn mx : Int) (lz : Bool) (w : World) (hS : Rgs w (.slice a2 s c2) set) (hs : set.length = s) (hsb : s ≤ 17592186044416) (hnb : n ≤ 1172812402961) :
    Calls Try.prog 34 #[.agg #[.int .i64 1, .slice A n c, .int .i32 rune, .slice a2 s c2, .int .i64 at', .int .i64 cap, .string name, .int .i64 mn, .int .i64 mx, .bool lz]] w (SaysB (SoundF ⟨1, rune, set, at', cap, name, mn, mx, lz⟩ n) w) := by
  obtain ⟨w1, hw1⟩ : ∃ w1, w.alloc (.cells #[.int .i64 1, .slice A n c, .int .i32 rune, .slice a2 s c2, .int .i64 at', .int .i64 cap, .string name, .int .i64 mn, .int .i64 mx, .bool lz] 27) = w1 := ⟨_, rfl⟩
  have hb1 : Below w.heap.size w w1 := by rw [← hw1]; exact (Below.refl _ _).alloc (Nat.le_refl _) _
  have hE1 : Whole w1 w.heap.size 27 #[.int .i64 1, .slice A n c, .int .i32 rune, .slice a2 s c2, .int .i64 at', .int .i64 cap, .string name, .int .i64 mn, .int .i64 mx, .bool lz] := by rw [← hw1]; exact heap_alloc_new w _
  have HB1 := Lib.hid hb1; have HE1 := Lib.hid hE1; have HW1 := Lib.hid hw1
  have HP := Lib.hid (soundF_1 rune n s set at' cap name mn mx lz hs)
  obtain ⟨P, hP⟩ : ∃ P, SoundF ⟨1, rune, set, at', cap, name, mn, mx, lz⟩ n = P := ⟨_, rfl⟩
  rw [hP] at HP ⊢
  have HSR := Lib.hid hS
  obtain ⟨e0, e1, e2, e3, e4, e5, e6, e7, e8, e9⟩ := hE1.ten
  clear hw1 hb1 hE1 hP hS hs
  go_enter Try.func34, Try.ntmps34
  go_upto_region 1 with (fail)
  rw [HW1.out]
  go_cut [3, 4] (fun s3 s4 wx => s3 = .bool false ∧ s4 = .int .i64 n ∧ wx = w1.drew)
  case first =>
    go_region
    all_goals
      go_wp2
      go_meet
      exact ⟨rfl, rfl, rfl⟩
  case rest =>
    obtain ⟨rfl, rfl, hwc⟩ := hcut
    have hb2 : Below w.heap.size w wc := by rw [hwc]; exact HB1.out.drew
    have hE2 : Whole wc w.heap.size 27 #[.int .i64 1, .slice A n c, .int .i32 rune, .slice a2 s c2, .int .i64 at', .int .i64 cap, .string name, .int .i64 mn, .int .i64 mx, .bool lz] := by rw [hwc]; exact HE1.out
    obtain ⟨w2, hw2⟩ : ∃ w2, w2 = wc := ⟨_, rfl⟩
    subst hw2
    have HB2 := Lib.hid hb2; have HE2 := Lib.hid hE2
    clear e0 e1 e2 e3 e4 e5 e6 e7 e8 e9 hwc HW1 hb2
    obtain ⟨e0, e1, e2, e3, e4, e5, e6, e7, e8, e9⟩ := hE2.ten
    obtain ⟨f0, f1, f2, f3, f4, f5, f6, f7, f8, f9⟩ := whole_free hE2
    clear hE2
    by_cases q0 : n = 0
    rotate_left
    · have NO : Hid (¬ (n = 0)) := Lib.hid (fun h => q0 h)
      have d0 : ((n : Int) == 0) = false := beq_eq_false_iff_ne.2 (by omega)
      clear q0
      have HB3 : Hid (Below w.heap.size w w2) := Lib.hid HB2.out
      go_wp2_with fail
      go_ret
      exact ⟨false, rfl, ⟨fun h => (by cases h), fun h => absurd (HP.out.1 h).1 NO.out⟩, HB3.out⟩
    subst q0
    have YES : Hid ((0 : Nat) = 0) := Lib.hid rfl
    have HB3 : Hid (Below w.heap.size w w2) := Lib.hid HB2.out
    have HBL := Lib.hid (pblank_any 1 (rune) A a2 0 c s c2 (at') (cap) name (mn) (mx) lz (by omega) w2)
    obtain ⟨BQ, hBQ⟩ : ∃ BQ, BlankP (rune) s (at') (cap) name (mn) (mx) lz = BQ := ⟨_, rfl⟩
    rw [hBQ] at HBL HP
    clear hBQ
    go_wp2_with fail
    refine HBL.out.mono ?_
    rintro e w4 ⟨B, rfl, hq, hb4⟩
    have HQ := Lib.hid hq; have HB4 := Lib.hid (below_two HB3.out hb4)
    clear hq hb4
    go_wp2_with fail
    go_ret
    exact ⟨B, rfl, ⟨fun h => HP.out.2 ⟨YES.out, HQ.out.1 h⟩, fun h => HQ.out.2 (HP.out.1 h).2⟩, HB4.out⟩

set_option maxHeartbeats 4000000 in
set_option maxRecDepth 100000 in
theorem psound_2 (rune : Int) (A a2 : Option Addr) (n c s c2 : Nat) (set : List (Int × Int)) (at' cap : Int) (name : ByteArray) (mn mx : Int) (lz : Bool) (w : World) (hS : Rgs w (.slice a2 s c2) set) (hs : set.length = s) (hsb : s ≤ 17592186044416) (hnb : n ≤ 1172812402961) :
    Calls Try.prog 34 #[.agg #[.int .i64 2, .slice A n c, .int .i32 rune, .slice a2 s c2, .int .i64 at', .int .i64 cap, .string name, .int .i64 mn, .int .i64 mx, .bool lz]] w (SaysB (SoundF ⟨2, rune, set, at', cap, name, mn, mx, lz⟩ n) w) := by
  obtain ⟨w1, hw1⟩ : ∃ w1, w.alloc (.cells #[.int .i64 2, .slice A n c, .int .i32 rune, .slice a2 s c2, .int .i64 at', .int .i64 cap, .string name, .int .i64 mn, .int .i64 mx, .bool lz] 27) = w1 := ⟨_, rfl⟩
  have hb1 : Below w.heap.size w w1 := by rw [← hw1]; exact (Below.refl _ _).alloc (Nat.le_refl _) _
  have hE1 : Whole w1 w.heap.size 27 #[.int .i64 2, .slice A n c, .int .i32 rune, .slice a2 s c2, .int .i64 at', .int .i64 cap, .string name, .int .i64 mn, .int .i64 mx, .bool lz] := by rw [← hw1]; exact heap_alloc_new w _
  have HB1 := Lib.hid hb1; have HE1 := Lib.hid hE1; have HW1 := Lib.hid hw1
  have HP := Lib.hid (soundF_2 rune n s set at' cap name mn mx lz hs)
  obtain ⟨P, hP⟩ : ∃ P, SoundF ⟨2, rune, set, at', cap, name, mn, mx, lz⟩ n = P := ⟨_, rfl⟩
  rw [hP] at HP ⊢
  have HSR := Lib.hid hS
  obtain ⟨e0, e1, e2, e3, e4, e5, e6, e7, e8, e9⟩ := hE1.ten
  clear hw1 hb1 hE1 hP hS hs
  go_enter Try.func34, Try.ntmps34
  go_upto_region 1 with (fail)
  rw [HW1.out]
  go_cut [3, 4] (fun s3 s4 wx => s3 = .bool false ∧ s4 = .int .i64 n ∧ wx = w1.drew)
  case first =>
    go_region
    all_goals
      go_wp2
      go_meet
      exact ⟨rfl, rfl, rfl⟩
  case rest =>
    obtain ⟨rfl, rfl, hwc⟩ := hcut
    have hb2 : Below w.heap.size w wc := by rw [hwc]; exact HB1.out.drew
    have hE2 : Whole wc w.heap.size 27 #[.int .i64 2, .slice A n c, .int .i32 rune, .slice a2 s c2, .int .i64 at', .int .i64 cap, .string name, .int .i64 mn, .int .i64 mx, .bool lz] := by rw [hwc]; exact HE1.out
    obtain ⟨w2, hw2⟩ : ∃ w2, w2 = wc := ⟨_, rfl⟩
    subst hw2
    have HB2 := Lib.hid hb2; have HE2 := Lib.hid hE2
    clear e0 e1 e2 e3 e4 e5 e6 e7 e8 e9 hwc HW1 hb2
    obtain ⟨e0, e1, e2, e3, e4, e5, e6, e7, e8, e9⟩ := hE2.ten
    obtain ⟨f0, f1, f2, f3, f4, f5, f6, f7, f8, f9⟩ := whole_free hE2
    clear hE2
    by_cases q0 : n = 0
    rotate_left
    · have NO : Hid (¬ (n = 0)) := Lib.hid (fun h => q0 h)
      have d0 : ((n : Int) == 0) = false := beq_eq_false_iff_ne.2 (by omega)
      clear q0
      have HB3 : Hid (Below w.heap.size w w2) := Lib.hid HB2.out
      go_wp2_with fail
      go_ret
      exact ⟨false, rfl, ⟨fun h => (by cases h), fun h => absurd (HP.out.1 h).1 NO.out⟩, HB3.out⟩
    subst q0
    have YES : Hid ((0 : Nat) = 0) := Lib.hid rfl
    have HB3 : Hid (Below w.heap.size w w2) := Lib.hid HB2.out
    have HBL := Lib.hid (pblank_any 2 (rune) A a2 0 c s c2 (at') (cap) name (mn) (mx) lz (by omega) w2)
    obtain ⟨BQ, hBQ⟩ : ∃ BQ, BlankP (rune) s (at') (cap) name (mn) (mx) lz = BQ := ⟨_, rfl⟩
    rw [hBQ] at HBL HP
    clear hBQ
    go_wp2_with fail
    refine HBL.out.mono ?_
    rintro e w4 ⟨B, rfl, hq, hb4⟩
    have HQ := Lib.hid hq; have HB4 := Lib.hid (below_two HB3.out hb4)
    clear hq hb4
    go_wp2_with fail
    go_ret
    exact ⟨B, rfl, ⟨fun h => HP.out.2 ⟨YES.out, HQ.out.1 h⟩, fun h => HQ.out.2 (HP.out.1 h).2⟩, HB4.out⟩

set_option maxHeartbeats 4000000 in
set_option maxRecDepth 100000 in
theorem psound_3 (rune : Int) (A a2 : Option Addr) (n c s c2 : Nat) (set : List (Int × Int)) (at' cap : Int) (name : ByteArray) (mn mx : Int) (lz : Bool) (w : World) (hS : Rgs w (.slice a2 s c2) set) (hs : set.length = s) (hsb : s ≤ 17592186044416) (hnb : n ≤ 1172812402961) :
    Calls Try.prog 34 #[.agg #[.int .i64 3, .slice A n c, .int .i32 rune, .slice a2 s c2, .int .i64 at', .int .i64 cap, .string name, .int .i64 mn, .int .i64 mx, .bool lz]] w (SaysB (SoundF ⟨3, rune, set, at', cap, name, mn, mx, lz⟩ n) w) := by
  obtain ⟨w1, hw1⟩ : ∃ w1, w.alloc (.cells #[.int .i64 3, .slice A n c, .int .i32 rune, .slice a2 s c2, .int .i64 at', .int .i64 cap, .string name, .int .i64 mn, .int .i64 mx, .bool lz] 27) = w1 := ⟨_, rfl⟩
  have hb1 : Below w.heap.size w w1 := by rw [← hw1]; exact (Below.refl _ _).alloc (Nat.le_refl _) _
  have hE1 : Whole w1 w.heap.size 27 #[.int .i64 3, .slice A n c, .int .i32 rune, .slice a2 s c2, .int .i64 at', .int .i64 cap, .string name, .int .i64 mn, .int .i64 mx, .bool lz] := by rw [← hw1]; exact heap_alloc_new w _
  have HB1 := Lib.hid hb1; have HE1 := Lib.hid hE1; have HW1 := Lib.hid hw1
  have HP := Lib.hid (soundF_3 rune n s set at' cap name mn mx lz hs)
  obtain ⟨P, hP⟩ : ∃ P, SoundF ⟨3, rune, set, at', cap, name, mn, mx, lz⟩ n = P := ⟨_, rfl⟩
  rw [hP] at HP ⊢
  have HSR := Lib.hid hS
  obtain ⟨e0, e1, e2, e3, e4, e5, e6, e7, e8, e9⟩ := hE1.ten
  clear hw1 hb1 hE1 hP hS hs
  go_enter Try.func34, Try.ntmps34
  go_upto_region 1 with (fail)
  rw [HW1.out]
  go_cut [3, 4] (fun s3 s4 wx => s3 = .bool false ∧ s4 = .int .i64 n ∧ wx = w1.drew)
  case first =>
    go_region
    all_goals
      go_wp2
      go_meet
      exact ⟨rfl, rfl, rfl⟩
  case rest =>
    obtain ⟨rfl, rfl, hwc⟩ := hcut
    have hb2 : Below w.heap.size w wc := by rw [hwc]; exact HB1.out.drew
    have hE2 : Whole wc w.heap.size 27 #[.int .i64 3, .slice A n c, .int .i32 rune, .slice a2 s c2, .int .i64 at', .int .i64 cap, .string name, .int .i64 mn, .int .i64 mx, .bool lz] := by rw [hwc]; exact HE1.out
    obtain ⟨w2, hw2⟩ : ∃ w2, w2 = wc := ⟨_, rfl⟩
    subst hw2
    have HB2 := Lib.hid hb2; have HE2 := Lib.hid hE2
    clear e0 e1 e2 e3 e4 e5 e6 e7 e8 e9 hwc HW1 hb2
    obtain ⟨e0, e1, e2, e3, e4, e5, e6, e7, e8, e9⟩ := hE2.ten
    obtain ⟨f0, f1, f2, f3, f4, f5, f6, f7, f8, f9⟩ := whole_free hE2
    clear hE2
    by_cases q0 : n = 0
    rotate_left
    · have NO : Hid (¬ (n = 0 ∧ 0 ≤ rune ∧ rune ≤ 1114111)) := Lib.hid (fun h => q0 h.1)
      have d0 : ((n : Int) == 0) = false := beq_eq_false_iff_ne.2 (by omega)
      clear q0
      have hz00 := HE2.out.store 2 (.int .i32 0)
      simp only [List.setIfInBounds_toArray, List.set_cons_zero, List.set_cons_succ] at hz00
      have hz0 : Whole (w2.setCell ⟨w.heap.size, 2, none⟩ (.int .i32 0)) w.heap.size 27 #[.int .i64 3, .slice A n c, .int .i32 0, .slice a2 s c2, .int .i64 at', .int .i64 cap, .string name, .int .i64 mn, .int .i64 mx, .bool lz] := hz00
      obtain ⟨g00, g01, g02, g03, g04, g05, g06, g07, g08, g09⟩ := hz0.ten
      obtain ⟨k00, k01, k02, k03, k04, k05, k06, k07, k08, k09⟩ := whole_free hz0
      have HB3 : Hid (Below w.heap.size w (w2.setCell ⟨w.heap.size, 2, none⟩ (.int .i32 0))) := Lib.hid (HB2.out.setCell (p := ⟨w.heap.size, 2, none⟩) (Nat.le_refl _) (.int .i32 0))
      clear hz00
      go_wp2_with fail
      go_ret
      exact ⟨false, rfl, ⟨fun h => (by cases h), fun h => absurd (HP.out.1 h).1 NO.out⟩, HB3.out⟩
    subst q0
    by_cases q1 : 0 ≤ rune
    rotate_left
    · have NO : Hid (¬ ((0 : Nat) = 0 ∧ 0 ≤ rune ∧ rune ≤ 1114111)) := Lib.hid (fun h => q1 h.2.1)
      have d1 : decide ((0 : Int) ≤ rune) = false := decide_eq_false q1
      clear q1
      have hz00 := HE2.out.store 2 (.int .i32 0)
      simp only [List.setIfInBounds_toArray, List.set_cons_zero, List.set_cons_succ] at hz00
      have hz0 : Whole (w2.setCell ⟨w.heap.size, 2, none⟩ (.int .i32 0)) w.heap.size 27 #[.int .i64 3, .slice A 0 c, .int .i32 0, .slice a2 s c2, .int .i64 at', .int .i64 cap, .string name, .int .i64 mn, .int .i64 mx, .bool lz] := hz00
      obtain ⟨g00, g01, g02, g03, g04, g05, g06, g07, g08, g09⟩ := hz0.ten
      obtain ⟨k00, k01, k02, k03, k04, k05, k06, k07, k08, k09⟩ := whole_free hz0
      have HB3 : Hid (Below w.heap.size w (w2.setCell ⟨w.heap.size, 2, none⟩ (.int .i32 0))) := Lib.hid (HB2.out.setCell (p := ⟨w.heap.size, 2, none⟩) (Nat.le_refl _) (.int .i32 0))
      clear hz00
      go_wp2_with fail
      go_ret
      exact ⟨false, rfl, ⟨fun h => (by cases h), fun h => absurd (HP.out.1 h).1 NO.out⟩, HB3.out⟩
    have d1 : decide ((0 : Int) ≤ rune) = true := decide_eq_true q1
    by_cases q2 : rune ≤ 1114111
    rotate_left
    · have NO : Hid (¬ ((0 : Nat) = 0 ∧ 0 ≤ rune ∧ rune ≤ 1114111)) := Lib.hid (fun h => q2 h.2.2)
      have d2 : decide (rune ≤ 1114111) = false := decide_eq_false q2
      clear q2 q1
      have hz00 := HE2.out.store 2 (.int .i32 0)
      simp only [List.setIfInBounds_toArray, List.set_cons_zero, List.set_cons_succ] at hz00
      have hz0 : Whole (w2.setCell ⟨w.heap.size, 2, none⟩ (.int .i32 0)) w.heap.size 27 #[.int .i64 3, .slice A 0 c, .int .i32 0, .slice a2 s c2, .int .i64 at', .int .i64 cap, .string name, .int .i64 mn, .int .i64 mx, .bool lz] := hz00
      obtain ⟨g00, g01, g02, g03, g04, g05, g06, g07, g08, g09⟩ := hz0.ten
      obtain ⟨k00, k01, k02, k03, k04, k05, k06, k07, k08, k09⟩ := whole_free hz0
      have HB3 : Hid (Below w.heap.size w (w2.setCell ⟨w.heap.size, 2, none⟩ (.int .i32 0))) := Lib.hid (HB2.out.setCell (p := ⟨w.heap.size, 2, none⟩) (Nat.le_refl _) (.int .i32 0))
      clear hz00
      go_wp2_with fail
      go_ret
      exact ⟨false, rfl, ⟨fun h => (by cases h), fun h => absurd (HP.out.1 h).1 NO.out⟩, HB3.out⟩
    have d2 : decide (rune ≤ 1114111) = true := decide_eq_true q2
    have YES : Hid ((0 : Nat) = 0 ∧ 0 ≤ rune ∧ rune ≤ 1114111) := Lib.hid ⟨rfl, q1, q2⟩
    clear q1 q2
    have hz00 := HE2.out.store 2 (.int .i32 0)
    simp only [List.setIfInBounds_toArray, List.set_cons_zero, List.set_cons_succ] at hz00
    have hz0 : Whole (w2.setCell ⟨w.heap.size, 2, none⟩ (.int .i32 0)) w.heap.size 27 #[.int .i64 3, .slice A 0 c, .int .i32 0, .slice a2 s c2, .int .i64 at', .int .i64 cap, .string name, .int .i64 mn, .int .i64 mx, .bool lz] := hz00
    obtain ⟨g00, g01, g02, g03, g04, g05, g06, g07, g08, g09⟩ := hz0.ten
    obtain ⟨k00, k01, k02, k03, k04, k05, k06, k07, k08, k09⟩ := whole_free hz0
    have HB3 : Hid (Below w.heap.size w (w2.setCell ⟨w.heap.size, 2, none⟩ (.int .i32 0))) := Lib.hid (HB2.out.setCell (p := ⟨w.heap.size, 2, none⟩) (Nat.le_refl _) (.int .i32 0))
    clear hz00
    have HBL := Lib.hid (pblank_any 3 (0) A a2 0 c s c2 (at') (cap) name (mn) (mx) lz (by omega) (w2.setCell ⟨w.heap.size, 2, none⟩ (.int .i32 0)))
    obtain ⟨BQ, hBQ⟩ : ∃ BQ, BlankP (0) s (at') (cap) name (mn) (mx) lz = BQ := ⟨_, rfl⟩
    rw [hBQ] at HBL HP
    clear hBQ
    go_wp2_with fail
    refine HBL.out.mono ?_
    rintro e w4 ⟨B, rfl, hq, hb4⟩
    have HQ := Lib.hid hq; have HB4 := Lib.hid (below_two HB3.out hb4)
    clear hq hb4
    go_wp2_with fail
    go_ret
    exact ⟨B, rfl, ⟨fun h => HP.out.2 ⟨YES.out, HQ.out.1 h⟩, fun h => HQ.out.2 (HP.out.1 h).2⟩, HB4.out⟩

set_option maxHeartbeats 4000000 in
set_option maxRecDepth 100000 in
theorem psound_4 (rune : Int) (A a2 : Option Addr) (n c s c2 : Nat) (set : List (Int × Int)) (at' cap : Int) (name : ByteArray) (mn mx : Int) (lz : Bool) (w : World) (hS : Rgs w (.slice a2 s c2) set) (hs : set.length = s) (hsb : s ≤ 17592186044416) (hnb : n ≤ 1172812402961) :
    Calls Try.prog 34 #[.agg #[.int .i64 4, .slice A n c, .int .i32 rune, .slice a2 s c2, .int .i64 at', .int .i64 cap, .string name, .int .i64 mn, .int .i64 mx, .bool lz]] w (SaysB (SoundF ⟨4, rune, set, at', cap, name, mn, mx, lz⟩ n) w) := by
  obtain ⟨w1, hw1⟩ : ∃ w1, w.alloc (.cells #[.int .i64 4, .slice A n c, .int .i32 rune, .slice a2 s c2, .int .i64 at', .int .i64 cap, .string name, .int .i64 mn, .int .i64 mx, .bool lz] 27) = w1 := ⟨_, rfl⟩
  have hb1 : Below w.heap.size w w1 := by rw [← hw1]; exact (Below.refl _ _).alloc (Nat.le_refl _) _
  have hE1 : Whole w1 w.heap.size 27 #[.int .i64 4, .slice A n c, .int .i32 rune, .slice a2 s c2, .int .i64 at', .int .i64 cap, .string name, .int .i64 mn, .int .i64 mx, .bool lz] := by rw [← hw1]; exact heap_alloc_new w _
  have HB1 := Lib.hid hb1; have HE1 := Lib.hid hE1; have HW1 := Lib.hid hw1
  have HP := Lib.hid (soundF_4 rune n s set at' cap name mn mx lz hs)
  obtain ⟨P, hP⟩ : ∃ P, SoundF ⟨4, rune, set, at', cap, name, mn, mx, lz⟩ n = P := ⟨_, rfl⟩
  rw [hP] at HP ⊢
  have HSR := Lib.hid hS
  obtain ⟨e0, e1, e2, e3, e4, e5, e6, e7, e8, e9⟩ := hE1.ten
  clear hw1 hb1 hE1 hP hS hs
  go_enter Try.func34, Try.ntmps34
  go_upto_region 1 with (fail)
  rw [HW1.out]
  go_cut [3, 4] (fun s3 s4 wx => s3 = .bool false ∧ s4 = .int .i64 n ∧ wx = w1.drew)
  case first =>
    go_region
    all_goals
      go_wp2
      go_meet
      exact ⟨rfl, rfl, rfl⟩
  case rest =>
    obtain ⟨rfl, rfl, hwc⟩ := hcut
    have hb2 : Below w.heap.size w wc := by rw [hwc]; exact HB1.out.drew
    have hE2 : Whole wc w.heap.size 27 #[.int .i64 4, .slice A n c, .int .i32 rune, .slice a2 s c2, .int .i64 at', .int .i64 cap, .string name, .int .i64 mn, .int .i64 mx, .bool lz] := by rw [hwc]; exact HE1.out
    obtain ⟨w2, hw2⟩ : ∃ w2, w2 = wc := ⟨_, rfl⟩
    subst hw2
    have HB2 := Lib.hid hb2; have HE2 := Lib.hid hE2
    clear e0 e1 e2 e3 e4 e5 e6 e7 e8 e9 hwc HW1 hb2
    obtain ⟨e0, e1, e2, e3, e4, e5, e6, e7, e8, e9⟩ := hE2.ten
    obtain ⟨f0, f1, f2, f3, f4, f5, f6, f7, f8, f9⟩ := whole_free hE2
    clear hE2
    by_cases q0 : n = 0
    rotate_left
    · have NO : Hid (¬ (n = 0 ∧ 0 < s ∧ RightR set)) := Lib.hid (fun h => q0 h.1)
      have d0 : ((n : Int) == 0) = false := beq_eq_false_iff_ne.2 (by omega)
      clear q0
      have hz00 := HE2.out.store 3 (.slice none 0 0)
      simp only [List.setIfInBounds_toArray, List.set_cons_zero, List.set_cons_succ] at hz00
      have hz0 : Whole (w2.setCell ⟨w.heap.size, 3, none⟩ (.slice none 0 0)) w.heap.size 27 #[.int .i64 4, .slice A n c, .int .i32 rune, .slice none 0 0, .int .i64 at', .int .i64 cap, .string name, .int .i64 mn, .int .i64 mx, .bool lz] := hz00
      obtain ⟨g00, g01, g02, g03, g04, g05, g06, g07, g08, g09⟩ := hz0.ten
      obtain ⟨k00, k01, k02, k03, k04, k05, k06, k07, k08, k09⟩ := whole_free hz0
      have HB3 : Hid (Below w.heap.size w (w2.setCell ⟨w.heap.size, 3, none⟩ (.slice none 0 0))) := Lib.hid (HB2.out.setCell (p := ⟨w.heap.size, 3, none⟩) (Nat.le_refl _) (.slice none 0 0))
      clear hz00
      go_wp2_with fail
      go_ret
      exact ⟨false, rfl, ⟨fun h => (by cases h), fun h => absurd (HP.out.1 h).1 NO.out⟩, HB3.out⟩
    subst q0
    by_cases q1 : 0 < s
    rotate_left
    · have NO : Hid (¬ ((0 : Nat) = 0 ∧ 0 < s ∧ RightR set)) := Lib.hid (fun h => q1 h.2.1)
      have q11 : s = 0 := by omega
      subst q11
      clear q1
      have hz00 := HE2.out.store 3 (.slice none 0 0)
      simp only [List.setIfInBounds_toArray, List.set_cons_zero, List.set_cons_succ] at hz00
      have hz0 : Whole (w2.setCell ⟨w.heap.size, 3, none⟩ (.slice none 0 0)) w.heap.size 27 #[.int .i64 4, .slice A 0 c, .int .i32 rune, .slice none 0 0, .int .i64 at', .int .i64 cap, .string name, .int .i64 mn, .int .i64 mx, .bool lz] := hz00
      obtain ⟨g00, g01, g02, g03, g04, g05, g06, g07, g08, g09⟩ := hz0.ten
      obtain ⟨k00, k01, k02, k03, k04, k05, k06, k07, k08, k09⟩ := whole_free hz0
      have HB3 : Hid (Below w.heap.size w (w2.setCell ⟨w.heap.size, 3, none⟩ (.slice none 0 0))) := Lib.hid (HB2.out.setCell (p := ⟨w.heap.size, 3, none⟩) (Nat.le_refl _) (.slice none 0 0))
      clear hz00
      go_wp2_with fail
      go_ret
      exact ⟨false, rfl, ⟨fun h => (by cases h), fun h => absurd (HP.out.1 h).1 NO.out⟩, HB3.out⟩
    have d1 : decide ((0 : Int) < (s : Int)) = true := decide_eq_true (by omega)
    have HC := Lib.hid (psetright_any _ set w2 (HSR.out.below HB2.out))
    obtain ⟨QQ, hQQ⟩ : ∃ Q : Prop, (RightR set) = Q := ⟨_, rfl⟩
    rw [hQQ] at HC HP
    clear hQQ
    go_wp2_with fail
    refine HC.out.mono ?_
    rintro e w5 ⟨B, rfl, hq, hb5⟩
    have HNB : Hid (B = false → ¬ QQ) := Lib.hid fun e g => by rw [hq.2 g] at e; cases e
    have HYB : Hid (B = true → QQ) := Lib.hid hq.1
    have hE5 : Whole w5 w.heap.size 27 #[.int .i64 4, .slice A 0 c, .int .i32 rune, .slice a2 s c2, .int .i64 at', .int .i64 cap, .string name, .int .i64 mn, .int .i64 mx, .bool lz] := (hb5.block _ HE2.out.lt).trans HE2.out
    have hb6 := below_two HB2.out hb5
    clear e0 e1 e2 e3 e4 e5 e6 e7 e8 e9 f0 f1 f2 f3 f4 f5 f6 f7 f8 f9 HB2 HE2 hq hb5 HC
    have HB2 := Lib.hid hb6; have HE2 := Lib.hid hE5
    obtain ⟨e0, e1, e2, e3, e4, e5, e6, e7, e8, e9⟩ := hE5.ten
    obtain ⟨f0, f1, f2, f3, f4, f5, f6, f7, f8, f9⟩ := whole_free hE5
    clear hE5 hb6
    cases B
    · have HNN := Lib.hid (HNB.out rfl)
      clear HNB HYB
      have HNB := HNN
      have NO : Hid (¬ ((0 : Nat) = 0 ∧ 0 < s ∧ QQ)) := Lib.hid (fun h => HNB.out h.2.2)
      have hz00 := HE2.out.store 3 (.slice none 0 0)
      simp only [List.setIfInBounds_toArray, List.set_cons_zero, List.set_cons_succ] at hz00
      have hz0 : Whole (w5.setCell ⟨w.heap.size, 3, none⟩ (.slice none 0 0)) w.heap.size 27 #[.int .i64 4, .slice A 0 c, .int .i32 rune, .slice none 0 0, .int .i64 at', .int .i64 cap, .string name, .int .i64 mn, .int .i64 mx, .bool lz] := hz00
      obtain ⟨g00, g01, g02, g03, g04, g05, g06, g07, g08, g09⟩ := hz0.ten
      obtain ⟨k00, k01, k02, k03, k04, k05, k06, k07, k08, k09⟩ := whole_free hz0
      have HB3 : Hid (Below w.heap.size w (w5.setCell ⟨w.heap.size, 3, none⟩ (.slice none 0 0))) := Lib.hid (HB2.out.setCell (p := ⟨w.heap.size, 3, none⟩) (Nat.le_refl _) (.slice none 0 0))
      clear hz00
      go_wp2_with fail
      go_ret
      exact ⟨false, rfl, ⟨fun h => (by cases h), fun h => absurd (HP.out.1 h).1 NO.out⟩, HB3.out⟩
    · have HYY := Lib.hid (HYB.out rfl)
      clear HNB HYB
      have HYB := HYY
      have YES : Hid ((0 : Nat) = 0 ∧ 0 < s ∧ QQ) := Lib.hid ⟨rfl, q1, HYB.out⟩
      have hz00 := HE2.out.store 3 (.slice none 0 0)
      simp only [List.setIfInBounds_toArray, List.set_cons_zero, List.set_cons_succ] at hz00
      have hz0 : Whole (w5.setCell ⟨w.heap.size, 3, none⟩ (.slice none 0 0)) w.heap.size 27 #[.int .i64 4, .slice A 0 c, .int .i32 rune, .slice none 0 0, .int .i64 at', .int .i64 cap, .string name, .int .i64 mn, .int .i64 mx, .bool lz] := hz00
      obtain ⟨g00, g01, g02, g03, g04, g05, g06, g07, g08, g09⟩ := hz0.ten
      obtain ⟨k00, k01, k02, k03, k04, k05, k06, k07, k08, k09⟩ := whole_free hz0
      have HB3 : Hid (Below w.heap.size w (w5.setCell ⟨w.heap.size, 3, none⟩ (.slice none 0 0))) := Lib.hid (HB2.out.setCell (p := ⟨w.heap.size, 3, none⟩) (Nat.le_refl _) (.slice none 0 0))
      clear hz00
      have HBL := Lib.hid (pblank_any 4 (rune) A none 0 c 0 0 (at') (cap) name (mn) (mx) lz (by omega) (w5.setCell ⟨w.heap.size, 3, none⟩ (.slice none 0 0)))
      obtain ⟨BQ, hBQ⟩ : ∃ BQ, BlankP (rune) 0 (at') (cap) name (mn) (mx) lz = BQ := ⟨_, rfl⟩
      rw [hBQ] at HBL HP
      clear hBQ
      go_wp2_with fail
      refine HBL.out.mono ?_
      rintro e w4 ⟨B, rfl, hq, hb4⟩
      have HQ := Lib.hid hq; have HB4 := Lib.hid (below_two HB3.out hb4)
      clear hq hb4
      go_wp2_with fail
      go_ret
      exact ⟨B, rfl, ⟨fun h => HP.out.2 ⟨YES.out, HQ.out.1 h⟩, fun h => HQ.out.2 (HP.out.1 h).2⟩, HB4.out⟩

set_option maxHeartbeats 4000000 in
set_option maxRecDepth 100000 in
theorem psound_5 (rune : Int) (A a2 : Option Addr) (n c s c2 : Nat) (set : List (Int × Int)) (at' cap : Int) (name : ByteArray) (mn mx : Int) (lz : Bool) (w : World) (hS : Rgs w (.slice a2 s c2) set) (hs : set.length = s) (hsb : s ≤ 17592186044416) (hnb : n ≤ 1172812402961) :
    Calls Try.prog 34 #[.agg #[.int .i64 5, .slice A n c, .int .i32 rune, .slice a2 s c2, .int .i64 at', .int .i64 cap, .string name, .int .i64 mn, .int .i64 mx, .bool lz]] w (SaysB (SoundF ⟨5, rune, set, at', cap, name, mn, mx, lz⟩ n) w) := by
  obtain ⟨w1, hw1⟩ : ∃ w1, w.alloc (.cells #[.int .i64 5, .slice A n c, .int .i32 rune, .slice a2 s c2, .int .i64 at', .int .i64 cap, .string name, .int .i64 mn, .int .i64 mx, .bool lz] 27) = w1 := ⟨_, rfl⟩
  have hb1 : Below w.heap.size w w1 := by rw [← hw1]; exact (Below.refl _ _).alloc (Nat.le_refl _) _
  have hE1 : Whole w1 w.heap.size 27 #[.int .i64 5, .slice A n c, .int .i32 rune, .slice a2 s c2, .int .i64 at', .int .i64 cap, .string name, .int .i64 mn, .int .i64 mx, .bool lz] := by rw [← hw1]; exact heap_alloc_new w _
  have HB1 := Lib.hid hb1; have HE1 := Lib.hid hE1; have HW1 := Lib.hid hw1
  have HP := Lib.hid (soundF_5 rune n s set at' cap name mn mx lz hs)
  obtain ⟨P, hP⟩ : ∃ P, SoundF ⟨5, rune, set, at', cap, name, mn, mx, lz⟩ n = P := ⟨_, rfl⟩
  rw [hP] at HP ⊢
  have HSR := Lib.hid hS
  obtain ⟨e0, e1, e2, e3, e4, e5, e6, e7, e8, e9⟩ := hE1.ten
  clear hw1 hb1 hE1 hP hS hs
  go_enter Try.func34, Try.ntmps34
  go_upto_region 1 with (fail)
  rw [HW1.out]
  go_cut [3, 4] (fun s3 s4 wx => s3 = .bool false ∧ s4 = .int .i64 n ∧ wx = w1.drew)
  case first =>
    go_region
    all_goals
      go_wp2
      go_meet
      exact ⟨rfl, rfl, rfl⟩
  case rest =>
    obtain ⟨rfl, rfl, hwc⟩ := hcut
    have hb2 : Below w.heap.size w wc := by rw [hwc]; exact HB1.out.drew
    have hE2 : Whole wc w.heap.size 27 #[.int .i64 5, .slice A n c, .int .i32 rune, .slice a2 s c2, .int .i64 at', .int .i64 cap, .string name, .int .i64 mn, .int .i64 mx, .bool lz] := by rw [hwc]; exact HE1.out
    obtain ⟨w2, hw2⟩ : ∃ w2, w2 = wc := ⟨_, rfl⟩
    subst hw2
    have HB2 := Lib.hid hb2; have HE2 := Lib.hid hE2
    clear e0 e1 e2 e3 e4 e5 e6 e7 e8 e9 hwc HW1 hb2
    obtain ⟨e0, e1, e2, e3, e4, e5, e6, e7, e8, e9⟩ := hE2.ten
    obtain ⟨f0, f1, f2, f3, f4, f5, f6, f7, f8, f9⟩ := whole_free hE2
    clear hE2
    by_cases q0 : n = 0
    rotate_left
    · have NO : Hid (¬ (n = 0 ∧ (at' = 1 ∨ at' = 2 ∨ at' = 4 ∨ at' = 8 ∨ at' = 16 ∨ at' = 32))) := Lib.hid (fun h => q0 h.1)
      have d0 : ((n : Int) == 0) = false := beq_eq_false_iff_ne.2 (by omega)
      clear q0
      have hz00 := HE2.out.store 4 (.int .i64 0)
      simp only [List.setIfInBounds_toArray, List.set_cons_zero, List.set_cons_succ] at hz00
      have hz0 : Whole (w2.setCell ⟨w.heap.size, 4, none⟩ (.int .i64 0)) w.heap.size 27 #[.int .i64 5, .slice A n c, .int .i32 rune, .slice a2 s c2, .int .i64 0, .int .i64 cap, .string name, .int .i64 mn, .int .i64 mx, .bool lz] := hz00
      obtain ⟨g00, g01, g02, g03, g04, g05, g06, g07, g08, g09⟩ := hz0.ten
      obtain ⟨k00, k01, k02, k03, k04, k05, k06, k07, k08, k09⟩ := whole_free hz0
      have HB3 : Hid (Below w.heap.size w (w2.setCell ⟨w.heap.size, 4, none⟩ (.int .i64 0))) := Lib.hid (HB2.out.setCell (p := ⟨w.heap.size, 4, none⟩) (Nat.le_refl _) (.int .i64 0))
      clear hz00
      go_wp2_with fail
      go_ret
      exact ⟨false, rfl, ⟨fun h => (by cases h), fun h => absurd (HP.out.1 h).1 NO.out⟩, HB3.out⟩
    subst q0
    have HC := Lib.hid (pisAt_any at' w2)
    obtain ⟨QQ, hQQ⟩ : ∃ Q : Prop, (at' = 1 ∨ at' = 2 ∨ at' = 4 ∨ at' = 8 ∨ at' = 16 ∨ at' = 32) = Q := ⟨_, rfl⟩
    rw [hQQ] at HC HP
    clear hQQ
    go_wp2_with fail
    refine HC.out.mono ?_
    rintro e w5 ⟨B, rfl, hq, hb5⟩
    have HNB : Hid (B = false → ¬ QQ) := Lib.hid fun e g => by rw [hq.2 g] at e; cases e
    have HYB : Hid (B = true → QQ) := Lib.hid hq.1
    subst hb5
    clear hq HC
    cases B
    · have HNN := Lib.hid (HNB.out rfl)
      clear HNB HYB
      have HNB := HNN
      have NO : Hid (¬ ((0 : Nat) = 0 ∧ QQ)) := Lib.hid (fun h => HNB.out h.2)
      have hz00 := HE2.out.store 4 (.int .i64 0)
      simp only [List.setIfInBounds_toArray, List.set_cons_zero, List.set_cons_succ] at hz00
      have hz0 : Whole (w5.setCell ⟨w.heap.size, 4, none⟩ (.int .i64 0)) w.heap.size 27 #[.int .i64 5, .slice A 0 c, .int .i32 rune, .slice a2 s c2, .int .i64 0, .int .i64 cap, .string name, .int .i64 mn, .int .i64 mx, .bool lz] := hz00
      obtain ⟨g00, g01, g02, g03, g04, g05, g06, g07, g08, g09⟩ := hz0.ten
      obtain ⟨k00, k01, k02, k03, k04, k05, k06, k07, k08, k09⟩ := whole_free hz0
      have HB3 : Hid (Below w.heap.size w (w5.setCell ⟨w.heap.size, 4, none⟩ (.int .i64 0))) := Lib.hid (HB2.out.setCell (p := ⟨w.heap.size, 4, none⟩) (Nat.le_refl _) (.int .i64 0))
      clear hz00
      go_wp2_with fail
      go_ret
      exact ⟨false, rfl, ⟨fun h => (by cases h), fun h => absurd (HP.out.1 h).1 NO.out⟩, HB3.out⟩
    · have HYY := Lib.hid (HYB.out rfl)
      clear HNB HYB
      have HYB := HYY
      have YES : Hid ((0 : Nat) = 0 ∧ QQ) := Lib.hid ⟨rfl, HYB.out⟩
      have hz00 := HE2.out.store 4 (.int .i64 0)
      simp only [List.setIfInBounds_toArray, List.set_cons_zero, List.set_cons_succ] at hz00
      have hz0 : Whole (w5.setCell ⟨w.heap.size, 4, none⟩ (.int .i64 0)) w.heap.size 27 #[.int .i64 5, .slice A 0 c, .int .i32 rune, .slice a2 s c2, .int .i64 0, .int .i64 cap, .string name, .int .i64 mn, .int .i64 mx, .bool lz] := hz00
      obtain ⟨g00, g01, g02, g03, g04, g05, g06, g07, g08, g09⟩ := hz0.ten
      obtain ⟨k00, k01, k02, k03, k04, k05, k06, k07, k08, k09⟩ := whole_free hz0
      have HB3 : Hid (Below w.heap.size w (w5.setCell ⟨w.heap.size, 4, none⟩ (.int .i64 0))) := Lib.hid (HB2.out.setCell (p := ⟨w.heap.size, 4, none⟩) (Nat.le_refl _) (.int .i64 0))
      clear hz00
      have HBL := Lib.hid (pblank_any 5 (rune) A a2 0 c s c2 (0) (cap) name (mn) (mx) lz (by omega) (w5.setCell ⟨w.heap.size, 4, none⟩ (.int .i64 0)))
      obtain ⟨BQ, hBQ⟩ : ∃ BQ, BlankP (rune) s (0) (cap) name (mn) (mx) lz = BQ := ⟨_, rfl⟩
      rw [hBQ] at HBL HP
      clear hBQ
      go_wp2_with fail
      refine HBL.out.mono ?_
      rintro e w4 ⟨B, rfl, hq, hb4⟩
      have HQ := Lib.hid hq; have HB4 := Lib.hid (below_two HB3.out hb4)
      clear hq hb4
      go_wp2_with fail
      go_ret
      exact ⟨B, rfl, ⟨fun h => HP.out.2 ⟨YES.out, HQ.out.1 h⟩, fun h => HQ.out.2 (HP.out.1 h).2⟩, HB4.out⟩

set_option maxHeartbeats 4000000 in
set_option maxRecDepth 100000 in
theorem psound_6 (rune : Int) (A a2 : Option Addr) (n c s c2 : Nat) (set : List (Int × Int)) (at' cap : Int) (name : ByteArray) (mn mx : Int) (lz : Bool) (w : World) (hS : Rgs w (.slice a2 s c2) set) (hs : set.length = s) (hsb : s ≤ 17592186044416) (hnb : n ≤ 1172812402961) :
    Calls Try.prog 34 #[.agg #[.int .i64 6, .slice A n c, .int .i32 rune, .slice a2 s c2, .int .i64 at', .int .i64 cap, .string name, .int .i64 mn, .int .i64 mx, .bool lz]] w (SaysB (SoundF ⟨6, rune, set, at', cap, name, mn, mx, lz⟩ n) w) := by
  obtain ⟨w1, hw1⟩ : ∃ w1, w.alloc (.cells #[.int .i64 6, .slice A n c, .int .i32 rune, .slice a2 s c2, .int .i64 at', .int .i64 cap, .string name, .int .i64 mn, .int .i64 mx, .bool lz] 27) = w1 := ⟨_, rfl⟩
  have hb1 : Below w.heap.size w w1 := by rw [← hw1]; exact (Below.refl _ _).alloc (Nat.le_refl _) _
  have hE1 : Whole w1 w.heap.size 27 #[.int .i64 6, .slice A n c, .int .i32 rune, .slice a2 s c2, .int .i64 at', .int .i64 cap, .string name, .int .i64 mn, .int .i64 mx, .bool lz] := by rw [← hw1]; exact heap_alloc_new w _
  have HB1 := Lib.hid hb1; have HE1 := Lib.hid hE1; have HW1 := Lib.hid hw1
  have HP := Lib.hid (soundF_6 rune n s set at' cap name mn mx lz hs)
  obtain ⟨P, hP⟩ : ∃ P, SoundF ⟨6, rune, set, at', cap, name, mn, mx, lz⟩ n = P := ⟨_, rfl⟩
  rw [hP] at HP ⊢
  have HSR := Lib.hid hS
  obtain ⟨e0, e1, e2, e3, e4, e5, e6, e7, e8, e9⟩ := hE1.ten
  clear hw1 hb1 hE1 hP hS hs
  go_enter Try.func34, Try.ntmps34
  go_upto_region 1 with (fail)
  rw [HW1.out]
  go_cut [3, 4] (fun s3 s4 wx => s3 = .bool false ∧ s4 = .int .i64 n ∧ wx = w1.drew)
  case first =>
    go_region
    all_goals
      go_wp2
      go_meet
      exact ⟨rfl, rfl, rfl⟩
  case rest =>
    obtain ⟨rfl, rfl, hwc⟩ := hcut
    have hb2 : Below w.heap.size w wc := by rw [hwc]; exact HB1.out.drew
    have hE2 : Whole wc w.heap.size 27 #[.int .i64 6, .slice A n c, .int .i32 rune, .slice a2 s c2, .int .i64 at', .int .i64 cap, .string name, .int .i64 mn, .int .i64 mx, .bool lz] := by rw [hwc]; exact HE1.out
    obtain ⟨w2, hw2⟩ : ∃ w2, w2 = wc := ⟨_, rfl⟩
    subst hw2
    have HB2 := Lib.hid hb2; have HE2 := Lib.hid hE2
    clear e0 e1 e2 e3 e4 e5 e6 e7 e8 e9 hwc HW1 hb2
    obtain ⟨e0, e1, e2, e3, e4, e5, e6, e7, e8, e9⟩ := hE2.ten
    obtain ⟨f0, f1, f2, f3, f4, f5, f6, f7, f8, f9⟩ := whole_free hE2
    clear hE2
    by_cases q0 : n = 1
    rotate_left
    · have NO : Hid (¬ (n = 1 ∧ 0 < cap ∧ (name.toList = [] ∨ nameB name.toList = true))) := Lib.hid (fun h => q0 h.1)
      have d0 : ((n : Int) == 1) = false := beq_eq_false_iff_ne.2 (by omega)
      clear q0
      have hz00 := HE2.out.store 5 (.int .i64 0)
      simp only [List.setIfInBounds_toArray, List.set_cons_zero, List.set_cons_succ] at hz00
      have hz0 : Whole (w2.setCell ⟨w.heap.size, 5, none⟩ (.int .i64 0)) w.heap.size 27 #[.int .i64 6, .slice A n c, .int .i32 rune, .slice a2 s c2, .int .i64 at', .int .i64 0, .string name, .int .i64 mn, .int .i64 mx, .bool lz] := hz00
      obtain ⟨g00, g01, g02, g03, g04, g05, g06, g07, g08, g09⟩ := hz0.ten
      obtain ⟨k00, k01, k02, k03, k04, k05, k06, k07, k08, k09⟩ := whole_free hz0
      have hz10 := hz0.store 6 (.string ⟨#[]⟩)
      simp only [List.setIfInBounds_toArray, List.set_cons_zero, List.set_cons_succ] at hz10
      have hz1 : Whole ((w2.setCell ⟨w.heap.size, 5, none⟩ (.int .i64 0)).setCell ⟨w.heap.size, 6, none⟩ (.string ⟨#[]⟩)) w.heap.size 27 #[.int .i64 6, .slice A n c, .int .i32 rune, .slice a2 s c2, .int .i64 at', .int .i64 0, .string ⟨#[]⟩, .int .i64 mn, .int .i64 mx, .bool lz] := hz10
      obtain ⟨g10, g11, g12, g13, g14, g15, g16, g17, g18, g19⟩ := hz1.ten
      obtain ⟨k10, k11, k12, k13, k14, k15, k16, k17, k18, k19⟩ := whole_free hz1
      have HB3 : Hid (Below w.heap.size w ((w2.setCell ⟨w.heap.size, 5, none⟩ (.int .i64 0)).setCell ⟨w.heap.size, 6, none⟩ (.string ⟨#[]⟩))) := Lib.hid ((HB2.out.setCell (p := ⟨w.heap.size, 5, none⟩) (Nat.le_refl _) (.int .i64 0)).setCell (p := ⟨w.heap.size, 6, none⟩) (Nat.le_refl _) (.string ⟨#[]⟩))
      clear hz00
      clear hz10
      go_wp2_with fail
      go_ret
      exact ⟨false, rfl, ⟨fun h => (by cases h), fun h => absurd (HP.out.1 h).1 NO.out⟩, HB3.out⟩
    subst q0
    by_cases q1 : 0 < cap
    rotate_left
    · have NO : Hid (¬ ((1 : Nat) = 1 ∧ 0 < cap ∧ (name.toList = [] ∨ nameB name.toList = true))) := Lib.hid (fun h => q1 h.2.1)
      have d1 : decide ((0 : Int) < cap) = false := decide_eq_false q1
      clear q1
      have hz00 := HE2.out.store 5 (.int .i64 0)
      simp only [List.setIfInBounds_toArray, List.set_cons_zero, List.set_cons_succ] at hz00
      have hz0 : Whole (w2.setCell ⟨w.heap.size, 5, none⟩ (.int .i64 0)) w.heap.size 27 #[.int .i64 6, .slice A 1 c, .int .i32 rune, .slice a2 s c2, .int .i64 at', .int .i64 0, .string name, .int .i64 mn, .int .i64 mx, .bool lz] := hz00
      obtain ⟨g00, g01, g02, g03, g04, g05, g06, g07, g08, g09⟩ := hz0.ten
      obtain ⟨k00, k01, k02, k03, k04, k05, k06, k07, k08, k09⟩ := whole_free hz0
      have hz10 := hz0.store 6 (.string ⟨#[]⟩)
      simp only [List.setIfInBounds_toArray, List.set_cons_zero, List.set_cons_succ] at hz10
      have hz1 : Whole ((w2.setCell ⟨w.heap.size, 5, none⟩ (.int .i64 0)).setCell ⟨w.heap.size, 6, none⟩ (.string ⟨#[]⟩)) w.heap.size 27 #[.int .i64 6, .slice A 1 c, .int .i32 rune, .slice a2 s c2, .int .i64 at', .int .i64 0, .string ⟨#[]⟩, .int .i64 mn, .int .i64 mx, .bool lz] := hz10
      obtain ⟨g10, g11, g12, g13, g14, g15, g16, g17, g18, g19⟩ := hz1.ten
      obtain ⟨k10, k11, k12, k13, k14, k15, k16, k17, k18, k19⟩ := whole_free hz1
      have HB3 : Hid (Below w.heap.size w ((w2.setCell ⟨w.heap.size, 5, none⟩ (.int .i64 0)).setCell ⟨w.heap.size, 6, none⟩ (.string ⟨#[]⟩))) := Lib.hid ((HB2.out.setCell (p := ⟨w.heap.size, 5, none⟩) (Nat.le_refl _) (.int .i64 0)).setCell (p := ⟨w.heap.size, 6, none⟩) (Nat.le_refl _) (.string ⟨#[]⟩))
      clear hz00
      clear hz10
      go_wp2_with fail
      go_ret
      exact ⟨false, rfl, ⟨fun h => (by cases h), fun h => absurd (HP.out.1 h).1 NO.out⟩, HB3.out⟩
    have d1 : decide ((0 : Int) < cap) = true := decide_eq_true q1
    have Q1 := Lib.hid q1
    by_cases q2 : name.toList = []
    · have d2 : name.toList.isEmpty = true := by rw [q2]; rfl
      have YES : Hid ((1 : Nat) = 1 ∧ 0 < cap ∧ (name.toList = [] ∨ nameB name.toList = true)) := Lib.hid ⟨rfl, q1, .inl q2⟩
      clear q1 q2
      have hz00 := HE2.out.store 5 (.int .i64 0)
      simp only [List.setIfInBounds_toArray, List.set_cons_zero, List.set_cons_succ] at hz00
      have hz0 : Whole (w2.setCell ⟨w.heap.size, 5, none⟩ (.int .i64 0)) w.heap.size 27 #[.int .i64 6, .slice A 1 c, .int .i32 rune, .slice a2 s c2, .int .i64 at', .int .i64 0, .string name, .int .i64 mn, .int .i64 mx, .bool lz] := hz00
      obtain ⟨g00, g01, g02, g03, g04, g05, g06, g07, g08, g09⟩ := hz0.ten
      obtain ⟨k00, k01, k02, k03, k04, k05, k06, k07, k08, k09⟩ := whole_free hz0
      have hz10 := hz0.store 6 (.string ⟨#[]⟩)
      simp only [List.setIfInBounds_toArray, List.set_cons_zero, List.set_cons_succ] at hz10
      have hz1 : Whole ((w2.setCell ⟨w.heap.size, 5, none⟩ (.int .i64 0)).setCell ⟨w.heap.size, 6, none⟩ (.string ⟨#[]⟩)) w.heap.size 27 #[.int .i64 6, .slice A 1 c, .int .i32 rune, .slice a2 s c2, .int .i64 at', .int .i64 0, .string ⟨#[]⟩, .int .i64 mn, .int .i64 mx, .bool lz] := hz10
      obtain ⟨g10, g11, g12, g13, g14, g15, g16, g17, g18, g19⟩ := hz1.ten
      obtain ⟨k10, k11, k12, k13, k14, k15, k16, k17, k18, k19⟩ := whole_free hz1
      have HB3 : Hid (Below w.heap.size w ((w2.setCell ⟨w.heap.size, 5, none⟩ (.int .i64 0)).setCell ⟨w.heap.size, 6, none⟩ (.string ⟨#[]⟩))) := Lib.hid ((HB2.out.setCell (p := ⟨w.heap.size, 5, none⟩) (Nat.le_refl _) (.int .i64 0)).setCell (p := ⟨w.heap.size, 6, none⟩) (Nat.le_refl _) (.string ⟨#[]⟩))
      clear hz00
      clear hz10
      have HBL := Lib.hid (pblank_any 6 (rune) A a2 1 c s c2 (at') (0) ⟨#[]⟩ (mn) (mx) lz (by omega) ((w2.setCell ⟨w.heap.size, 5, none⟩ (.int .i64 0)).setCell ⟨w.heap.size, 6, none⟩ (.string ⟨#[]⟩)))
      obtain ⟨BQ, hBQ⟩ : ∃ BQ, BlankP (rune) s (at') (0) ⟨#[]⟩ (mn) (mx) lz = BQ := ⟨_, rfl⟩
      rw [hBQ] at HBL HP
      clear hBQ
      go_wp2_with fail
      refine HBL.out.mono ?_
      rintro e w4 ⟨B, rfl, hq, hb4⟩
      have HQ := Lib.hid hq; have HB4 := Lib.hid (below_two HB3.out hb4)
      clear hq hb4
      go_wp2_with fail
      go_ret
      exact ⟨B, rfl, ⟨fun h => HP.out.2 ⟨YES.out, HQ.out.1 h⟩, fun h => HQ.out.2 (HP.out.1 h).2⟩, HB4.out⟩
    have d2 : name.toList.isEmpty = false := by simpa using q2
    have Q2 := Lib.hid q2
    clear q2
    have HC := Lib.hid (pname_any name w2)
    obtain ⟨QQ, hQQ⟩ : ∃ Q : Prop, (nameB name.toList = true) = Q := ⟨_, rfl⟩
    rw [hQQ] at HC HP
    clear hQQ q1
    go_wp2_with fail
    refine HC.out.mono ?_
    rintro e w5 ⟨B, rfl, hq, hb5⟩
    have HNB : Hid (B = false → ¬ QQ) := Lib.hid fun e g => by rw [hq.2 g] at e; cases e
    have HYB : Hid (B = true → QQ) := Lib.hid hq.1
    have hE5 : Whole w5 w.heap.size 27 #[.int .i64 6, .slice A 1 c, .int .i32 rune, .slice a2 s c2, .int .i64 at', .int .i64 cap, .string name, .int .i64 mn, .int .i64 mx, .bool lz] := (hb5.block _ HE2.out.lt).trans HE2.out
    have hb6 := below_two HB2.out hb5
    clear e0 e1 e2 e3 e4 e5 e6 e7 e8 e9 f0 f1 f2 f3 f4 f5 f6 f7 f8 f9 HB2 HE2 hq hb5 HC
    have HB2 := Lib.hid hb6; have HE2 := Lib.hid hE5
    obtain ⟨e0, e1, e2, e3, e4, e5, e6, e7, e8, e9⟩ := hE5.ten
    obtain ⟨f0, f1, f2, f3, f4, f5, f6, f7, f8, f9⟩ := whole_free hE5
    clear hE5 hb6
    cases B
    · have HNN := Lib.hid (HNB.out rfl)
      clear HNB HYB
      have HNB := HNN
      have NO : Hid (¬ ((1 : Nat) = 1 ∧ 0 < cap ∧ (name.toList = [] ∨ QQ))) := Lib.hid (fun h => h.2.2.elim Q2.out HNB.out)
      have hz00 := HE2.out.store 5 (.int .i64 0)
      simp only [List.setIfInBounds_toArray, List.set_cons_zero, List.set_cons_succ] at hz00
      have hz0 : Whole (w5.setCell ⟨w.heap.size, 5, none⟩ (.int .i64 0)) w.heap.size 27 #[.int .i64 6, .slice A 1 c, .int .i32 rune, .slice a2 s c2, .int .i64 at', .int .i64 0, .string name, .int .i64 mn, .int .i64 mx, .bool lz] := hz00
      obtain ⟨g00, g01, g02, g03, g04, g05, g06, g07, g08, g09⟩ := hz0.ten
      obtain ⟨k00, k01, k02, k03, k04, k05, k06, k07, k08, k09⟩ := whole_free hz0
      have hz10 := hz0.store 6 (.string ⟨#[]⟩)
      simp only [List.setIfInBounds_toArray, List.set_cons_zero, List.set_cons_succ] at hz10
      have hz1 : Whole ((w5.setCell ⟨w.heap.size, 5, none⟩ (.int .i64 0)).setCell ⟨w.heap.size, 6, none⟩ (.string ⟨#[]⟩)) w.heap.size 27 #[.int .i64 6, .slice A 1 c, .int .i32 rune, .slice a2 s c2, .int .i64 at', .int .i64 0, .string ⟨#[]⟩, .int .i64 mn, .int .i64 mx, .bool lz] := hz10
      obtain ⟨g10, g11, g12, g13, g14, g15, g16, g17, g18, g19⟩ := hz1.ten
      obtain ⟨k10, k11, k12, k13, k14, k15, k16, k17, k18, k19⟩ := whole_free hz1
      have HB3 : Hid (Below w.heap.size w ((w5.setCell ⟨w.heap.size, 5, none⟩ (.int .i64 0)).setCell ⟨w.heap.size, 6, none⟩ (.string ⟨#[]⟩))) := Lib.hid ((HB2.out.setCell (p := ⟨w.heap.size, 5, none⟩) (Nat.le_refl _) (.int .i64 0)).setCell (p := ⟨w.heap.size, 6, none⟩) (Nat.le_refl _) (.string ⟨#[]⟩))
      clear hz00
      clear hz10
      go_wp2_with fail
      go_ret
      exact ⟨false, rfl, ⟨fun h => (by cases h), fun h => absurd (HP.out.1 h).1 NO.out⟩, HB3.out⟩
    · have HYY := Lib.hid (HYB.out rfl)
      clear HNB HYB
      have HYB := HYY
      have YES : Hid ((1 : Nat) = 1 ∧ 0 < cap ∧ (name.toList = [] ∨ QQ)) := Lib.hid ⟨rfl, Q1.out, .inr HYB.out⟩
      have hz00 := HE2.out.store 5 (.int .i64 0)
      simp only [List.setIfInBounds_toArray, List.set_cons_zero, List.set_cons_succ] at hz00
      have hz0 : Whole (w5.setCell ⟨w.heap.size, 5, none⟩ (.int .i64 0)) w.heap.size 27 #[.int .i64 6, .slice A 1 c, .int .i32 rune, .slice a2 s c2, .int .i64 at', .int .i64 0, .string name, .int .i64 mn, .int .i64 mx, .bool lz] := hz00
      obtain ⟨g00, g01, g02, g03, g04, g05, g06, g07, g08, g09⟩ := hz0.ten
      obtain ⟨k00, k01, k02, k03, k04, k05, k06, k07, k08, k09⟩ := whole_free hz0
      have hz10 := hz0.store 6 (.string ⟨#[]⟩)
      simp only [List.setIfInBounds_toArray, List.set_cons_zero, List.set_cons_succ] at hz10
      have hz1 : Whole ((w5.setCell ⟨w.heap.size, 5, none⟩ (.int .i64 0)).setCell ⟨w.heap.size, 6, none⟩ (.string ⟨#[]⟩)) w.heap.size 27 #[.int .i64 6, .slice A 1 c, .int .i32 rune, .slice a2 s c2, .int .i64 at', .int .i64 0, .string ⟨#[]⟩, .int .i64 mn, .int .i64 mx, .bool lz] := hz10
      obtain ⟨g10, g11, g12, g13, g14, g15, g16, g17, g18, g19⟩ := hz1.ten
      obtain ⟨k10, k11, k12, k13, k14, k15, k16, k17, k18, k19⟩ := whole_free hz1
      have HB3 : Hid (Below w.heap.size w ((w5.setCell ⟨w.heap.size, 5, none⟩ (.int .i64 0)).setCell ⟨w.heap.size, 6, none⟩ (.string ⟨#[]⟩))) := Lib.hid ((HB2.out.setCell (p := ⟨w.heap.size, 5, none⟩) (Nat.le_refl _) (.int .i64 0)).setCell (p := ⟨w.heap.size, 6, none⟩) (Nat.le_refl _) (.string ⟨#[]⟩))
      clear hz00
      clear hz10
      have HBL := Lib.hid (pblank_any 6 (rune) A a2 1 c s c2 (at') (0) ⟨#[]⟩ (mn) (mx) lz (by omega) ((w5.setCell ⟨w.heap.size, 5, none⟩ (.int .i64 0)).setCell ⟨w.heap.size, 6, none⟩ (.string ⟨#[]⟩)))
      obtain ⟨BQ, hBQ⟩ : ∃ BQ, BlankP (rune) s (at') (0) ⟨#[]⟩ (mn) (mx) lz = BQ := ⟨_, rfl⟩
      rw [hBQ] at HBL HP
      clear hBQ
      go_wp2_with fail
      refine HBL.out.mono ?_
      rintro e w4 ⟨B, rfl, hq, hb4⟩
      have HQ := Lib.hid hq; have HB4 := Lib.hid (below_two HB3.out hb4)
      clear hq hb4
      go_wp2_with fail
      go_ret
      exact ⟨B, rfl, ⟨fun h => HP.out.2 ⟨YES.out, HQ.out.1 h⟩, fun h => HQ.out.2 (HP.out.1 h).2⟩, HB4.out⟩

set_option maxHeartbeats 4000000 in
set_option maxRecDepth 100000 in
theorem psound_7 (rune : Int) (A a2 : Option Addr) (n c s c2 : Nat) (set : List (Int × Int)) (at' cap : Int) (name : ByteArray) (mn mx : Int) (lz : Bool) (w : World) (hS : Rgs w (.slice a2 s c2) set) (hs : set.length = s) (hsb : s ≤ 17592186044416) (hnb : n ≤ 1172812402961) :
    Calls Try.prog 34 #[.agg #[.int .i64 7, .slice A n c, .int .i32 rune, .slice a2 s c2, .int .i64 at', .int .i64 cap, .string name, .int .i64 mn, .int .i64 mx, .bool lz]] w (SaysB (SoundF ⟨7, rune, set, at', cap, name, mn, mx, lz⟩ n) w) := by
  obtain ⟨w1, hw1⟩ : ∃ w1, w.alloc (.cells #[.int .i64 7, .slice A n c, .int .i32 rune, .slice a2 s c2, .int .i64 at', .int .i64 cap, .string name, .int .i64 mn, .int .i64 mx, .bool lz] 27) = w1 := ⟨_, rfl⟩
  have hb1 : Below w.heap.size w w1 := by rw [← hw1]; exact (Below.refl _ _).alloc (Nat.le_refl _) _
  have hE1 : Whole w1 w.heap.size 27 #[.int .i64 7, .slice A n c, .int .i32 rune, .slice a2 s c2, .int .i64 at', .int .i64 cap, .string name, .int .i64 mn, .int .i64 mx, .bool lz] := by rw [← hw1]; exact heap_alloc_new w _
  have HB1 := Lib.hid hb1; have HE1 := Lib.hid hE1; have HW1 := Lib.hid hw1
  have HP := Lib.hid (soundF_7 rune n s set at' cap name mn mx lz hs)
  obtain ⟨P, hP⟩ : ∃ P, SoundF ⟨7, rune, set, at', cap, name, mn, mx, lz⟩ n = P := ⟨_, rfl⟩
  rw [hP] at HP ⊢
  have HSR := Lib.hid hS
  obtain ⟨e0, e1, e2, e3, e4, e5, e6, e7, e8, e9⟩ := hE1.ten
  clear hw1 hb1 hE1 hP hS hs
  go_enter Try.func34, Try.ntmps34
  go_upto_region 1 with (fail)
  rw [HW1.out]
  go_cut [3, 4] (fun s3 s4 wx => s3 = .bool false ∧ s4 = .int .i64 n ∧ wx = w1.drew)
  case first =>
    go_region
    all_goals
      go_wp2
      go_meet
      exact ⟨rfl, rfl, rfl⟩
  case rest =>
    obtain ⟨rfl, rfl, hwc⟩ := hcut
    have hb2 : Below w.heap.size w wc := by rw [hwc]; exact HB1.out.drew
    have hE2 : Whole wc w.heap.size 27 #[.int .i64 7, .slice A n c, .int .i32 rune, .slice a2 s c2, .int .i64 at', .int .i64 cap, .string name, .int .i64 mn, .int .i64 mx, .bool lz] := by rw [hwc]; exact HE1.out
    obtain ⟨w2, hw2⟩ : ∃ w2, w2 = wc := ⟨_, rfl⟩
    subst hw2
    have HB2 := Lib.hid hb2; have HE2 := Lib.hid hE2
    clear e0 e1 e2 e3 e4 e5 e6 e7 e8 e9 hwc HW1 hb2
    obtain ⟨e0, e1, e2, e3, e4, e5, e6, e7, e8, e9⟩ := hE2.ten
    obtain ⟨f0, f1, f2, f3, f4, f5, f6, f7, f8, f9⟩ := whole_free hE2
    clear hE2
    by_cases q0 : n = 1
    rotate_left
    · have NO : Hid (¬ (n = 1)) := Lib.hid (fun h => q0 h)
      have d0 : ((n : Int) == 1) = false := beq_eq_false_iff_ne.2 (by omega)
      clear q0
      have hz00 := HE2.out.store 9 (.bool false)
      simp only [List.setIfInBounds_toArray, List.set_cons_zero, List.set_cons_succ] at hz00
      have hz0 : Whole (w2.setCell ⟨w.heap.size, 9, none⟩ (.bool false)) w.heap.size 27 #[.int .i64 7, .slice A n c, .int .i32 rune, .slice a2 s c2, .int .i64 at', .int .i64 cap, .string name, .int .i64 mn, .int .i64 mx, .bool false] := hz00
      obtain ⟨g00, g01, g02, g03, g04, g05, g06, g07, g08, g09⟩ := hz0.ten
      obtain ⟨k00, k01, k02, k03, k04, k05, k06, k07, k08, k09⟩ := whole_free hz0
      have HB3 : Hid (Below w.heap.size w (w2.setCell ⟨w.heap.size, 9, none⟩ (.bool false))) := Lib.hid (HB2.out.setCell (p := ⟨w.heap.size, 9, none⟩) (Nat.le_refl _) (.bool false))
      clear hz00
      go_wp2_with fail
      go_ret
      exact ⟨false, rfl, ⟨fun h => (by cases h), fun h => absurd (HP.out.1 h).1 NO.out⟩, HB3.out⟩
    subst q0
    have YES : Hid ((1 : Nat) = 1) := Lib.hid rfl
    have hz00 := HE2.out.store 9 (.bool false)
    simp only [List.setIfInBounds_toArray, List.set_cons_zero, List.set_cons_succ] at hz00
    have hz0 : Whole (w2.setCell ⟨w.heap.size, 9, none⟩ (.bool false)) w.heap.size 27 #[.int .i64 7, .slice A 1 c, .int .i32 rune, .slice a2 s c2, .int .i64 at', .int .i64 cap, .string name, .int .i64 mn, .int .i64 mx, .bool false] := hz00
    obtain ⟨g00, g01, g02, g03, g04, g05, g06, g07, g08, g09⟩ := hz0.ten
    obtain ⟨k00, k01, k02, k03, k04, k05, k06, k07, k08, k09⟩ := whole_free hz0
    have HB3 : Hid (Below w.heap.size w (w2.setCell ⟨w.heap.size, 9, none⟩ (.bool false))) := Lib.hid (HB2.out.setCell (p := ⟨w.heap.size, 9, none⟩) (Nat.le_refl _) (.bool false))
    clear hz00
    have HBL := Lib.hid (pblank_any 7 (rune) A a2 1 c s c2 (at') (cap) name (mn) (mx) false (by omega) (w2.setCell ⟨w.heap.size, 9, none⟩ (.bool false)))
    obtain ⟨BQ, hBQ⟩ : ∃ BQ, BlankP (rune) s (at') (cap) name (mn) (mx) false = BQ := ⟨_, rfl⟩
    rw [hBQ] at HBL HP
    clear hBQ
    go_wp2_with fail
    refine HBL.out.mono ?_
    rintro e w4 ⟨B, rfl, hq, hb4⟩
    have HQ := Lib.hid hq; have HB4 := Lib.hid (below_two HB3.out hb4)
    clear hq hb4
    go_wp2_with fail
    go_ret
    exact ⟨B, rfl, ⟨fun h => HP.out.2 ⟨YES.out, HQ.out.1 h⟩, fun h => HQ.out.2 (HP.out.1 h).2⟩, HB4.out⟩

set_option maxHeartbeats 4000000 in
set_option maxRecDepth 100000 in
theorem psound_8 (rune : Int) (A a2 : Option Addr) (n c s c2 : Nat) (set : List (Int × Int)) (at' cap : Int) (name : ByteArray) (mn mx : Int) (lz : Bool) (w : World) (hS : Rgs w (.slice a2 s c2) set) (hs : set.length = s) (hsb : s ≤ 17592186044416) (hnb : n ≤ 1172812402961) :
    Calls Try.prog 34 #[.agg #[.int .i64 8, .slice A n c, .int .i32 rune, .slice a2 s c2, .int .i64 at', .int .i64 cap, .string name, .int .i64 mn, .int .i64 mx, .bool lz]] w (SaysB (SoundF ⟨8, rune, set, at', cap, name, mn, mx, lz⟩ n) w) := by
  obtain ⟨w1, hw1⟩ : ∃ w1, w.alloc (.cells #[.int .i64 8, .slice A n c, .int .i32 rune, .slice a2 s c2, .int .i64 at', .int .i64 cap, .string name, .int .i64 mn, .int .i64 mx, .bool lz] 27) = w1 := ⟨_, rfl⟩
  have hb1 : Below w.heap.size w w1 := by rw [← hw1]; exact (Below.refl _ _).alloc (Nat.le_refl _) _
  have hE1 : Whole w1 w.heap.size 27 #[.int .i64 8, .slice A n c, .int .i32 rune, .slice a2 s c2, .int .i64 at', .int .i64 cap, .string name, .int .i64 mn, .int .i64 mx, .bool lz] := by rw [← hw1]; exact heap_alloc_new w _
  have HB1 := Lib.hid hb1; have HE1 := Lib.hid hE1; have HW1 := Lib.hid hw1
  have HP := Lib.hid (soundF_8 rune n s set at' cap name mn mx lz hs)
  obtain ⟨P, hP⟩ : ∃ P, SoundF ⟨8, rune, set, at', cap, name, mn, mx, lz⟩ n = P := ⟨_, rfl⟩
  rw [hP] at HP ⊢
  have HSR := Lib.hid hS
  obtain ⟨e0, e1, e2, e3, e4, e5, e6, e7, e8, e9⟩ := hE1.ten
  clear hw1 hb1 hE1 hP hS hs
  go_enter Try.func34, Try.ntmps34
  go_upto_region 1 with (fail)
  rw [HW1.out]
  go_cut [3, 4] (fun s3 s4 wx => s3 = .bool false ∧ s4 = .int .i64 n ∧ wx = w1.drew)
  case first =>
    go_region
    all_goals
      go_wp2
      go_meet
      exact ⟨rfl, rfl, rfl⟩
  case rest =>
    obtain ⟨rfl, rfl, hwc⟩ := hcut
    have hb2 : Below w.heap.size w wc := by rw [hwc]; exact HB1.out.drew
    have hE2 : Whole wc w.heap.size 27 #[.int .i64 8, .slice A n c, .int .i32 rune, .slice a2 s c2, .int .i64 at', .int .i64 cap, .string name, .int .i64 mn, .int .i64 mx, .bool lz] := by rw [hwc]; exact HE1.out
    obtain ⟨w2, hw2⟩ : ∃ w2, w2 = wc := ⟨_, rfl⟩
    subst hw2
    have HB2 := Lib.hid hb2; have HE2 := Lib.hid hE2
    clear e0 e1 e2 e3 e4 e5 e6 e7 e8 e9 hwc HW1 hb2
    obtain ⟨e0, e1, e2, e3, e4, e5, e6, e7, e8, e9⟩ := hE2.ten
    obtain ⟨f0, f1, f2, f3, f4, f5, f6, f7, f8, f9⟩ := whole_free hE2
    clear hE2
    by_cases q0 : n = 1
    rotate_left
    · have NO : Hid (¬ (n = 1)) := Lib.hid (fun h => q0 h)
      have d0 : ((n : Int) == 1) = false := beq_eq_false_iff_ne.2 (by omega)
      clear q0
      have hz00 := HE2.out.store 9 (.bool false)
      simp only [List.setIfInBounds_toArray, List.set_cons_zero, List.set_cons_succ] at hz00
      have hz0 : Whole (w2.setCell ⟨w.heap.size, 9, none⟩ (.bool false)) w.heap.size 27 #[.int .i64 8, .slice A n c, .int .i32 rune, .slice a2 s c2, .int .i64 at', .int .i64 cap, .string name, .int .i64 mn, .int .i64 mx, .bool false] := hz00
      obtain ⟨g00, g01, g02, g03, g04, g05, g06, g07, g08, g09⟩ := hz0.ten
      obtain ⟨k00, k01, k02, k03, k04, k05, k06, k07, k08, k09⟩ := whole_free hz0
      have HB3 : Hid (Below w.heap.size w (w2.setCell ⟨w.heap.size, 9, none⟩ (.bool false))) := Lib.hid (HB2.out.setCell (p := ⟨w.heap.size, 9, none⟩) (Nat.le_refl _) (.bool false))
      clear hz00
      go_wp2_with fail
      go_ret
      exact ⟨false, rfl, ⟨fun h => (by cases h), fun h => absurd (HP.out.1 h).1 NO.out⟩, HB3.out⟩
    subst q0
    have YES : Hid ((1 : Nat) = 1) := Lib.hid rfl
    have hz00 := HE2.out.store 9 (.bool false)
    simp only [List.setIfInBounds_toArray, List.set_cons_zero, List.set_cons_succ] at hz00
    have hz0 : Whole (w2.setCell ⟨w.heap.size, 9, none⟩ (.bool false)) w.heap.size 27 #[.int .i64 8, .slice A 1 c, .int .i32 rune, .slice a2 s c2, .int .i64 at', .int .i64 cap, .string name, .int .i64 mn, .int .i64 mx, .bool false] := hz00
    obtain ⟨g00, g01, g02, g03, g04, g05, g06, g07, g08, g09⟩ := hz0.ten
    obtain ⟨k00, k01, k02, k03, k04, k05, k06, k07, k08, k09⟩ := whole_free hz0
    have HB3 : Hid (Below w.heap.size w (w2.setCell ⟨w.heap.size, 9, none⟩ (.bool false))) := Lib.hid (HB2.out.setCell (p := ⟨w.heap.size, 9, none⟩) (Nat.le_refl _) (.bool false))
    clear hz00
    have HBL := Lib.hid (pblank_any 8 (rune) A a2 1 c s c2 (at') (cap) name (mn) (mx) false (by omega) (w2.setCell ⟨w.heap.size, 9, none⟩ (.bool false)))
    obtain ⟨BQ, hBQ⟩ : ∃ BQ, BlankP (rune) s (at') (cap) name (mn) (mx) false = BQ := ⟨_, rfl⟩
    rw [hBQ] at HBL HP
    clear hBQ
    go_wp2_with fail
    refine HBL.out.mono ?_
    rintro e w4 ⟨B, rfl, hq, hb4⟩
    have HQ := Lib.hid hq; have HB4 := Lib.hid (below_two HB3.out hb4)
    clear hq hb4
    go_wp2_with fail
    go_ret
    exact ⟨B, rfl, ⟨fun h => HP.out.2 ⟨YES.out, HQ.out.1 h⟩, fun h => HQ.out.2 (HP.out.1 h).2⟩, HB4.out⟩

set_option maxHeartbeats 4000000 in
set_option maxRecDepth 100000 in
theorem psound_9 (rune : Int) (A a2 : Option Addr) (n c s c2 : Nat) (set : List (Int × Int)) (at' cap : Int) (name : ByteArray) (mn mx : Int) (lz : Bool) (w : World) (hS : Rgs w (.slice a2 s c2) set) (hs : set.length = s) (hsb : s ≤ 17592186044416) (hnb : n ≤ 1172812402961) :
    Calls Try.prog 34 #[.agg #[.int .i64 9, .slice A n c, .int .i32 rune, .slice a2 s c2, .int .i64 at', .int .i64 cap, .string name, .int .i64 mn, .int .i64 mx, .bool lz]] w (SaysB (SoundF ⟨9, rune, set, at', cap, name, mn, mx, lz⟩ n) w) := by
  obtain ⟨w1, hw1⟩ : ∃ w1, w.alloc (.cells #[.int .i64 9, .slice A n c, .int .i32 rune, .slice a2 s c2, .int .i64 at', .int .i64 cap, .string name, .int .i64 mn, .int .i64 mx, .bool lz] 27) = w1 := ⟨_, rfl⟩
  have hb1 : Below w.heap.size w w1 := by rw [← hw1]; exact (Below.refl _ _).alloc (Nat.le_refl _) _
  have hE1 : Whole w1 w.heap.size 27 #[.int .i64 9, .slice A n c, .int .i32 rune, .slice a2 s c2, .int .i64 at', .int .i64 cap, .string name, .int .i64 mn, .int .i64 mx, .bool lz] := by rw [← hw1]; exact heap_alloc_new w _
  have HB1 := Lib.hid hb1; have HE1 := Lib.hid hE1; have HW1 := Lib.hid hw1
  have HP := Lib.hid (soundF_9 rune n s set at' cap name mn mx lz hs)
  obtain ⟨P, hP⟩ : ∃ P, SoundF ⟨9, rune, set, at', cap, name, mn, mx, lz⟩ n = P := ⟨_, rfl⟩
  rw [hP] at HP ⊢
  have HSR := Lib.hid hS
  obtain ⟨e0, e1, e2, e3, e4, e5, e6, e7, e8, e9⟩ := hE1.ten
  clear hw1 hb1 hE1 hP hS hs
  go_enter Try.func34, Try.ntmps34
  go_upto_region 1 with (fail)
  rw [HW1.out]
  go_cut [3, 4] (fun s3 s4 wx => s3 = .bool false ∧ s4 = .int .i64 n ∧ wx = w1.drew)
  case first =>
    go_region
    all_goals
      go_wp2
      go_meet
      exact ⟨rfl, rfl, rfl⟩
  case rest =>
    obtain ⟨rfl, rfl, hwc⟩ := hcut
    have hb2 : Below w.heap.size w wc := by rw [hwc]; exact HB1.out.drew
    have hE2 : Whole wc w.heap.size 27 #[.int .i64 9, .slice A n c, .int .i32 rune, .slice a2 s c2, .int .i64 at', .int .i64 cap, .string name, .int .i64 mn, .int .i64 mx, .bool lz] := by rw [hwc]; exact HE1.out
    obtain ⟨w2, hw2⟩ : ∃ w2, w2 = wc := ⟨_, rfl⟩
    subst hw2
    have HB2 := Lib.hid hb2; have HE2 := Lib.hid hE2
    clear e0 e1 e2 e3 e4 e5 e6 e7 e8 e9 hwc HW1 hb2
    obtain ⟨e0, e1, e2, e3, e4, e5, e6, e7, e8, e9⟩ := hE2.ten
    obtain ⟨f0, f1, f2, f3, f4, f5, f6, f7, f8, f9⟩ := whole_free hE2
    clear hE2
    by_cases q0 : n = 1
    rotate_left
    · have NO : Hid (¬ (n = 1)) := Lib.hid (fun h => q0 h)
      have d0 : ((n : Int) == 1) = false := beq_eq_false_iff_ne.2 (by omega)
      clear q0
      have hz00 := HE2.out.store 9 (.bool false)
      simp only [List.setIfInBounds_toArray, List.set_cons_zero, List.set_cons_succ] at hz00
      have hz0 : Whole (w2.setCell ⟨w.heap.size, 9, none⟩ (.bool false)) w.heap.size 27 #[.int .i64 9, .slice A n c, .int .i32 rune, .slice a2 s c2, .int .i64 at', .int .i64 cap, .string name, .int .i64 mn, .int .i64 mx, .bool false] := hz00
      obtain ⟨g00, g01, g02, g03, g04, g05, g06, g07, g08, g09⟩ := hz0.ten
      obtain ⟨k00, k01, k02, k03, k04, k05, k06, k07, k08, k09⟩ := whole_free hz0
      have HB3 : Hid (Below w.heap.size w (w2.setCell ⟨w.heap.size, 9, none⟩ (.bool false))) := Lib.hid (HB2.out.setCell (p := ⟨w.heap.size, 9, none⟩) (Nat.le_refl _) (.bool false))
      clear hz00
      go_wp2_with fail
      go_ret
      exact ⟨false, rfl, ⟨fun h => (by cases h), fun h => absurd (HP.out.1 h).1 NO.out⟩, HB3.out⟩
    subst q0
    have YES : Hid ((1 : Nat) = 1) := Lib.hid rfl
    have hz00 := HE2.out.store 9 (.bool false)
    simp only [List.setIfInBounds_toArray, List.set_cons_zero, List.set_cons_succ] at hz00
    have hz0 : Whole (w2.setCell ⟨w.heap.size, 9, none⟩ (.bool false)) w.heap.size 27 #[.int .i64 9, .slice A 1 c, .int .i32 rune, .slice a2 s c2, .int .i64 at', .int .i64 cap, .string name, .int .i64 mn, .int .i64 mx, .bool false] := hz00
    obtain ⟨g00, g01, g02, g03, g04, g05, g06, g07, g08, g09⟩ := hz0.ten
    obtain ⟨k00, k01, k02, k03, k04, k05, k06, k07, k08, k09⟩ := whole_free hz0
    have HB3 : Hid (Below w.heap.size w (w2.setCell ⟨w.heap.size, 9, none⟩ (.bool false))) := Lib.hid (HB2.out.setCell (p := ⟨w.heap.size, 9, none⟩) (Nat.le_refl _) (.bool false))
    clear hz00
    have HBL := Lib.hid (pblank_any 9 (rune) A a2 1 c s c2 (at') (cap) name (mn) (mx) false (by omega) (w2.setCell ⟨w.heap.size, 9, none⟩ (.bool false)))
    obtain ⟨BQ, hBQ⟩ : ∃ BQ, BlankP (rune) s (at') (cap) name (mn) (mx) false = BQ := ⟨_, rfl⟩
    rw [hBQ] at HBL HP
    clear hBQ
    go_wp2_with fail
    refine HBL.out.mono ?_
    rintro e w4 ⟨B, rfl, hq, hb4⟩
    have HQ := Lib.hid hq; have HB4 := Lib.hid (below_two HB3.out hb4)
    clear hq hb4
    go_wp2_with fail
    go_ret
    exact ⟨B, rfl, ⟨fun h => HP.out.2 ⟨YES.out, HQ.out.1 h⟩, fun h => HQ.out.2 (HP.out.1 h).2⟩, HB4.out⟩

set_option maxHeartbeats 4000000 in
set_option maxRecDepth 100000 in
theorem psound_10 (rune : Int) (A a2 : Option Addr) (n c s c2 : Nat) (set : List (Int × Int)) (at' cap : Int) (name : ByteArray) (mn mx : Int) (lz : Bool) (w : World) (hS : Rgs w (.slice a2 s c2) set) (hs : set.length = s) (hsb : s ≤ 17592186044416) (hnb : n ≤ 1172812402961) :
    Calls Try.prog 34 #[.agg #[.int .i64 10, .slice A n c, .int .i32 rune, .slice a2 s c2, .int .i64 at', .int .i64 cap, .string name, .int .i64 mn, .int .i64 mx, .bool lz]] w (SaysB (SoundF ⟨10, rune, set, at', cap, name, mn, mx, lz⟩ n) w) := by
  obtain ⟨w1, hw1⟩ : ∃ w1, w.alloc (.cells #[.int .i64 10, .slice A n c, .int .i32 rune, .slice a2 s c2, .int .i64 at', .int .i64 cap, .string name, .int .i64 mn, .int .i64 mx, .bool lz] 27) = w1 := ⟨_, rfl⟩
  have hb1 : Below w.heap.size w w1 := by rw [← hw1]; exact (Below.refl _ _).alloc (Nat.le_refl _) _
  have hE1 : Whole w1 w.heap.size 27 #[.int .i64 10, .slice A n c, .int .i32 rune, .slice a2 s c2, .int .i64 at', .int .i64 cap, .string name, .int .i64 mn, .int .i64 mx, .bool lz] := by rw [← hw1]; exact heap_alloc_new w _
  have HB1 := Lib.hid hb1; have HE1 := Lib.hid hE1; have HW1 := Lib.hid hw1
  have HP := Lib.hid (soundF_10 rune n s set at' cap name mn mx lz hs)
  obtain ⟨P, hP⟩ : ∃ P, SoundF ⟨10, rune, set, at', cap, name, mn, mx, lz⟩ n = P := ⟨_, rfl⟩
  rw [hP] at HP ⊢
  have HSR := Lib.hid hS
  obtain ⟨e0, e1, e2, e3, e4, e5, e6, e7, e8, e9⟩ := hE1.ten
  clear hw1 hb1 hE1 hP hS hs
  go_enter Try.func34, Try.ntmps34
  go_upto_region 1 with (fail)
  rw [HW1.out]
  go_cut [3, 4] (fun s3 s4 wx => s3 = .bool false ∧ s4 = .int .i64 n ∧ wx = w1.drew)
  case first =>
    go_region
    all_goals
      go_wp2
      go_meet
      exact ⟨rfl, rfl, rfl⟩
  case rest =>
    obtain ⟨rfl, rfl, hwc⟩ := hcut
    have hb2 : Below w.heap.size w wc := by rw [hwc]; exact HB1.out.drew
    have hE2 : Whole wc w.heap.size 27 #[.int .i64 10, .slice A n c, .int .i32 rune, .slice a2 s c2, .int .i64 at', .int .i64 cap, .string name, .int .i64 mn, .int .i64 mx, .bool lz] := by rw [hwc]; exact HE1.out
    obtain ⟨w2, hw2⟩ : ∃ w2, w2 = wc := ⟨_, rfl⟩
    subst hw2
    have HB2 := Lib.hid hb2; have HE2 := Lib.hid hE2
    clear e0 e1 e2 e3 e4 e5 e6 e7 e8 e9 hwc HW1 hb2
    obtain ⟨e0, e1, e2, e3, e4, e5, e6, e7, e8, e9⟩ := hE2.ten
    obtain ⟨f0, f1, f2, f3, f4, f5, f6, f7, f8, f9⟩ := whole_free hE2
    clear hE2
    by_cases q0 : n = 1
    rotate_left
    · have NO : Hid (¬ (n = 1 ∧ ((0 ≤ mn ∧ mn ≤ 1000) ∧ (mx = -1 ∨ (mn ≤ mx ∧ mx ≤ 1000))))) := Lib.hid (fun h => q0 h.1)
      have d0 : ((n : Int) == 1) = false := beq_eq_false_iff_ne.2 (by omega)
      clear q0
      have hz00 := HE2.out.store 7 (.int .i64 0)
      simp only [List.setIfInBounds_toArray, List.set_cons_zero, List.set_cons_succ] at hz00
      have hz0 : Whole (w2.setCell ⟨w.heap.size, 7, none⟩ (.int .i64 0)) w.heap.size 27 #[.int .i64 10, .slice A n c, .int .i32 rune, .slice a2 s c2, .int .i64 at', .int .i64 cap, .string name, .int .i64 0, .int .i64 mx, .bool lz] := hz00
      obtain ⟨g00, g01, g02, g03, g04, g05, g06, g07, g08, g09⟩ := hz0.ten
      obtain ⟨k00, k01, k02, k03, k04, k05, k06, k07, k08, k09⟩ := whole_free hz0
      have hz10 := hz0.store 8 (.int .i64 0)
      simp only [List.setIfInBounds_toArray, List.set_cons_zero, List.set_cons_succ] at hz10
      have hz1 : Whole ((w2.setCell ⟨w.heap.size, 7, none⟩ (.int .i64 0)).setCell ⟨w.heap.size, 8, none⟩ (.int .i64 0)) w.heap.size 27 #[.int .i64 10, .slice A n c, .int .i32 rune, .slice a2 s c2, .int .i64 at', .int .i64 cap, .string name, .int .i64 0, .int .i64 0, .bool lz] := hz10
      obtain ⟨g10, g11, g12, g13, g14, g15, g16, g17, g18, g19⟩ := hz1.ten
      obtain ⟨k10, k11, k12, k13, k14, k15, k16, k17, k18, k19⟩ := whole_free hz1
      have hz20 := hz1.store 9 (.bool false)
      simp only [List.setIfInBounds_toArray, List.set_cons_zero, List.set_cons_succ] at hz20
      have hz2 : Whole (((w2.setCell ⟨w.heap.size, 7, none⟩ (.int .i64 0)).setCell ⟨w.heap.size, 8, none⟩ (.int .i64 0)).setCell ⟨w.heap.size, 9, none⟩ (.bool false)) w.heap.size 27 #[.int .i64 10, .slice A n c, .int .i32 rune, .slice a2 s c2, .int .i64 at', .int .i64 cap, .string name, .int .i64 0, .int .i64 0, .bool false] := hz20
      obtain ⟨g20, g21, g22, g23, g24, g25, g26, g27, g28, g29⟩ := hz2.ten
      obtain ⟨k20, k21, k22, k23, k24, k25, k26, k27, k28, k29⟩ := whole_free hz2
      have HB3 : Hid (Below w.heap.size w (((w2.setCell ⟨w.heap.size, 7, none⟩ (.int .i64 0)).setCell ⟨w.heap.size, 8, none⟩ (.int .i64 0)).setCell ⟨w.heap.size, 9, none⟩ (.bool false))) := Lib.hid (((HB2.out.setCell (p := ⟨w.heap.size, 7, none⟩) (Nat.le_refl _) (.int .i64 0)).setCell (p := ⟨w.heap.size, 8, none⟩) (Nat.le_refl _) (.int .i64 0)).setCell (p := ⟨w.heap.size, 9, none⟩) (Nat.le_refl _) (.bool false))
      clear hz00
      clear hz10
      clear hz20
      go_wp2_with fail
      go_ret
      exact ⟨false, rfl, ⟨fun h => (by cases h), fun h => absurd (HP.out.1 h).1 NO.out⟩, HB3.out⟩
    subst q0
    have HC := Lib.hid (pisCount_any mn mx w2)
    obtain ⟨QQ, hQQ⟩ : ∃ Q : Prop, ((0 ≤ mn ∧ mn ≤ 1000) ∧ (mx = -1 ∨ (mn ≤ mx ∧ mx ≤ 1000))) = Q := ⟨_, rfl⟩
    rw [hQQ] at HC HP
    clear hQQ
    go_wp2_with fail
    refine HC.out.mono ?_
    rintro e w5 ⟨B, rfl, hq, hb5⟩
    have HNB : Hid (B = false → ¬ QQ) := Lib.hid fun e g => by rw [hq.2 g] at e; cases e
    have HYB : Hid (B = true → QQ) := Lib.hid hq.1
    subst hb5
    clear hq HC
    cases B
    · have HNN := Lib.hid (HNB.out rfl)
      clear HNB HYB
      have HNB := HNN
      have NO : Hid (¬ ((1 : Nat) = 1 ∧ QQ)) := Lib.hid (fun h => HNB.out h.2)
      have hz00 := HE2.out.store 7 (.int .i64 0)
      simp only [List.setIfInBounds_toArray, List.set_cons_zero, List.set_cons_succ] at hz00
      have hz0 : Whole (w5.setCell ⟨w.heap.size, 7, none⟩ (.int .i64 0)) w.heap.size 27 #[.int .i64 10, .slice A 1 c, .int .i32 rune, .slice a2 s c2, .int .i64 at', .int .i64 cap, .string name, .int .i64 0, .int .i64 mx, .bool lz] := hz00
      obtain ⟨g00, g01, g02, g03, g04, g05, g06, g07, g08, g09⟩ := hz0.ten
      obtain ⟨k00, k01, k02, k03, k04, k05, k06, k07, k08, k09⟩ := whole_free hz0
      have hz10 := hz0.store 8 (.int .i64 0)
      simp only [List.setIfInBounds_toArray, List.set_cons_zero, List.set_cons_succ] at hz10
      have hz1 : Whole ((w5.setCell ⟨w.heap.size, 7, none⟩ (.int .i64 0)).setCell ⟨w.heap.size, 8, none⟩ (.int .i64 0)) w.heap.size 27 #[.int .i64 10, .slice A 1 c, .int .i32 rune, .slice a2 s c2, .int .i64 at', .int .i64 cap, .string name, .int .i64 0, .int .i64 0, .bool lz] := hz10
      obtain ⟨g10, g11, g12, g13, g14, g15, g16, g17, g18, g19⟩ := hz1.ten
      obtain ⟨k10, k11, k12, k13, k14, k15, k16, k17, k18, k19⟩ := whole_free hz1
      have hz20 := hz1.store 9 (.bool false)
      simp only [List.setIfInBounds_toArray, List.set_cons_zero, List.set_cons_succ] at hz20
      have hz2 : Whole (((w5.setCell ⟨w.heap.size, 7, none⟩ (.int .i64 0)).setCell ⟨w.heap.size, 8, none⟩ (.int .i64 0)).setCell ⟨w.heap.size, 9, none⟩ (.bool false)) w.heap.size 27 #[.int .i64 10, .slice A 1 c, .int .i32 rune, .slice a2 s c2, .int .i64 at', .int .i64 cap, .string name, .int .i64 0, .int .i64 0, .bool false] := hz20
      obtain ⟨g20, g21, g22, g23, g24, g25, g26, g27, g28, g29⟩ := hz2.ten
      obtain ⟨k20, k21, k22, k23, k24, k25, k26, k27, k28, k29⟩ := whole_free hz2
      have HB3 : Hid (Below w.heap.size w (((w5.setCell ⟨w.heap.size, 7, none⟩ (.int .i64 0)).setCell ⟨w.heap.size, 8, none⟩ (.int .i64 0)).setCell ⟨w.heap.size, 9, none⟩ (.bool false))) := Lib.hid (((HB2.out.setCell (p := ⟨w.heap.size, 7, none⟩) (Nat.le_refl _) (.int .i64 0)).setCell (p := ⟨w.heap.size, 8, none⟩) (Nat.le_refl _) (.int .i64 0)).setCell (p := ⟨w.heap.size, 9, none⟩) (Nat.le_refl _) (.bool false))
      clear hz00
      clear hz10
      clear hz20
      go_wp2_with fail
      go_ret
      exact ⟨false, rfl, ⟨fun h => (by cases h), fun h => absurd (HP.out.1 h).1 NO.out⟩, HB3.out⟩
    · have HYY := Lib.hid (HYB.out rfl)
      clear HNB HYB
      have HYB := HYY
      have YES : Hid ((1 : Nat) = 1 ∧ QQ) := Lib.hid ⟨rfl, HYB.out⟩
      have hz00 := HE2.out.store 7 (.int .i64 0)
      simp only [List.setIfInBounds_toArray, List.set_cons_zero, List.set_cons_succ] at hz00
      have hz0 : Whole (w5.setCell ⟨w.heap.size, 7, none⟩ (.int .i64 0)) w.heap.size 27 #[.int .i64 10, .slice A 1 c, .int .i32 rune, .slice a2 s c2, .int .i64 at', .int .i64 cap, .string name, .int .i64 0, .int .i64 mx, .bool lz] := hz00
      obtain ⟨g00, g01, g02, g03, g04, g05, g06, g07, g08, g09⟩ := hz0.ten
      obtain ⟨k00, k01, k02, k03, k04, k05, k06, k07, k08, k09⟩ := whole_free hz0
      have hz10 := hz0.store 8 (.int .i64 0)
      simp only [List.setIfInBounds_toArray, List.set_cons_zero, List.set_cons_succ] at hz10
      have hz1 : Whole ((w5.setCell ⟨w.heap.size, 7, none⟩ (.int .i64 0)).setCell ⟨w.heap.size, 8, none⟩ (.int .i64 0)) w.heap.size 27 #[.int .i64 10, .slice A 1 c, .int .i32 rune, .slice a2 s c2, .int .i64 at', .int .i64 cap, .string name, .int .i64 0, .int .i64 0, .bool lz] := hz10
      obtain ⟨g10, g11, g12, g13, g14, g15, g16, g17, g18, g19⟩ := hz1.ten
      obtain ⟨k10, k11, k12, k13, k14, k15, k16, k17, k18, k19⟩ := whole_free hz1
      have hz20 := hz1.store 9 (.bool false)
      simp only [List.setIfInBounds_toArray, List.set_cons_zero, List.set_cons_succ] at hz20
      have hz2 : Whole (((w5.setCell ⟨w.heap.size, 7, none⟩ (.int .i64 0)).setCell ⟨w.heap.size, 8, none⟩ (.int .i64 0)).setCell ⟨w.heap.size, 9, none⟩ (.bool false)) w.heap.size 27 #[.int .i64 10, .slice A 1 c, .int .i32 rune, .slice a2 s c2, .int .i64 at', .int .i64 cap, .string name, .int .i64 0, .int .i64 0, .bool false] := hz20
      obtain ⟨g20, g21, g22, g23, g24, g25, g26, g27, g28, g29⟩ := hz2.ten
      obtain ⟨k20, k21, k22, k23, k24, k25, k26, k27, k28, k29⟩ := whole_free hz2
      have HB3 : Hid (Below w.heap.size w (((w5.setCell ⟨w.heap.size, 7, none⟩ (.int .i64 0)).setCell ⟨w.heap.size, 8, none⟩ (.int .i64 0)).setCell ⟨w.heap.size, 9, none⟩ (.bool false))) := Lib.hid (((HB2.out.setCell (p := ⟨w.heap.size, 7, none⟩) (Nat.le_refl _) (.int .i64 0)).setCell (p := ⟨w.heap.size, 8, none⟩) (Nat.le_refl _) (.int .i64 0)).setCell (p := ⟨w.heap.size, 9, none⟩) (Nat.le_refl _) (.bool false))
      clear hz00
      clear hz10
      clear hz20
      have HBL := Lib.hid (pblank_any 10 (rune) A a2 1 c s c2 (at') (cap) name (0) (0) false (by omega) (((w5.setCell ⟨w.heap.size, 7, none⟩ (.int .i64 0)).setCell ⟨w.heap.size, 8, none⟩ (.int .i64 0)).setCell ⟨w.heap.size, 9, none⟩ (.bool false)))
      obtain ⟨BQ, hBQ⟩ : ∃ BQ, BlankP (rune) s (at') (cap) name (0) (0) false = BQ := ⟨_, rfl⟩
      rw [hBQ] at HBL HP
      clear hBQ
      go_wp2_with fail
      refine HBL.out.mono ?_
      rintro e w4 ⟨B, rfl, hq, hb4⟩
      have HQ := Lib.hid hq; have HB4 := Lib.hid (below_two HB3.out hb4)
      clear hq hb4
      go_wp2_with fail
      go_ret
      exact ⟨B, rfl, ⟨fun h => HP.out.2 ⟨YES.out, HQ.out.1 h⟩, fun h => HQ.out.2 (HP.out.1 h).2⟩, HB4.out⟩

set_option maxHeartbeats 4000000 in
set_option maxRecDepth 100000 in
theorem psound_11 (rune : Int) (A a2 : Option Addr) (n c s c2 : Nat) (set : List (Int × Int)) (at' cap : Int) (name : ByteArray) (mn mx : Int) (lz : Bool) (w : World) (hS : Rgs w (.slice a2 s c2) set) (hs : set.length = s) (hsb : s ≤ 17592186044416) (hnb : n ≤ 1172812402961) :
    Calls Try.prog 34 #[.agg #[.int .i64 11, .slice A n c, .int .i32 rune, .slice a2 s c2, .int .i64 at', .int .i64 cap, .string name, .int .i64 mn, .int .i64 mx, .bool lz]] w (SaysB (SoundF ⟨11, rune, set, at', cap, name, mn, mx, lz⟩ n) w) := by
  obtain ⟨w1, hw1⟩ : ∃ w1, w.alloc (.cells #[.int .i64 11, .slice A n c, .int .i32 rune, .slice a2 s c2, .int .i64 at', .int .i64 cap, .string name, .int .i64 mn, .int .i64 mx, .bool lz] 27) = w1 := ⟨_, rfl⟩
  have hb1 : Below w.heap.size w w1 := by rw [← hw1]; exact (Below.refl _ _).alloc (Nat.le_refl _) _
  have hE1 : Whole w1 w.heap.size 27 #[.int .i64 11, .slice A n c, .int .i32 rune, .slice a2 s c2, .int .i64 at', .int .i64 cap, .string name, .int .i64 mn, .int .i64 mx, .bool lz] := by rw [← hw1]; exact heap_alloc_new w _
  have HB1 := Lib.hid hb1; have HE1 := Lib.hid hE1; have HW1 := Lib.hid hw1
  have HP := Lib.hid (soundF_11 rune n s set at' cap name mn mx lz hs)
  obtain ⟨P, hP⟩ : ∃ P, SoundF ⟨11, rune, set, at', cap, name, mn, mx, lz⟩ n = P := ⟨_, rfl⟩
  rw [hP] at HP ⊢
  have HSR := Lib.hid hS
  obtain ⟨e0, e1, e2, e3, e4, e5, e6, e7, e8, e9⟩ := hE1.ten
  clear hw1 hb1 hE1 hP hS hs
  go_enter Try.func34, Try.ntmps34
  go_upto_region 1 with (fail)
  rw [HW1.out]
  go_cut [3, 4] (fun s3 s4 wx => s3 = .bool false ∧ s4 = .int .i64 n ∧ wx = w1.drew)
  case first =>
    go_region
    all_goals
      go_wp2
      go_meet
      exact ⟨rfl, rfl, rfl⟩
  case rest =>
    obtain ⟨rfl, rfl, hwc⟩ := hcut
    have hb2 : Below w.heap.size w wc := by rw [hwc]; exact HB1.out.drew
    have hE2 : Whole wc w.heap.size 27 #[.int .i64 11, .slice A n c, .int .i32 rune, .slice a2 s c2, .int .i64 at', .int .i64 cap, .string name, .int .i64 mn, .int .i64 mx, .bool lz] := by rw [hwc]; exact HE1.out
    obtain ⟨w2, hw2⟩ : ∃ w2, w2 = wc := ⟨_, rfl⟩
    subst hw2
    have HB2 := Lib.hid hb2; have HE2 := Lib.hid hE2
    clear e0 e1 e2 e3 e4 e5 e6 e7 e8 e9 hwc HW1 hb2
    obtain ⟨e0, e1, e2, e3, e4, e5, e6, e7, e8, e9⟩ := hE2.ten
    obtain ⟨f0, f1, f2, f3, f4, f5, f6, f7, f8, f9⟩ := whole_free hE2
    clear hE2
    have YES : Hid True := Lib.hid trivial
    have HB3 : Hid (Below w.heap.size w w2) := Lib.hid HB2.out
    have HBL := Lib.hid (pblank_any 11 (rune) A a2 n c s c2 (at') (cap) name (mn) (mx) lz (by omega) w2)
    obtain ⟨BQ, hBQ⟩ : ∃ BQ, BlankP (rune) s (at') (cap) name (mn) (mx) lz = BQ := ⟨_, rfl⟩
    rw [hBQ] at HBL HP
    clear hBQ
    go_wp2_with fail
    refine HBL.out.mono ?_
    rintro e w4 ⟨B, rfl, hq, hb4⟩
    have HQ := Lib.hid hq; have HB4 := Lib.hid (below_two HB3.out hb4)
    clear hq hb4
    go_wp2_with fail
    go_ret
    exact ⟨B, rfl, ⟨fun h => HP.out.2 ⟨YES.out, HQ.out.1 h⟩, fun h => HQ.out.2 (HP.out.1 h).2⟩, HB4.out⟩

set_option maxHeartbeats 4000000 in
set_option maxRecDepth 100000 in
theorem psound_12 (rune : Int) (A a2 : Option Addr) (n c s c2 : Nat) (set : List (Int × Int)) (at' cap : Int) (name : ByteArray) (mn mx : Int) (lz : Bool) (w : World) (hS : Rgs w (.slice a2 s c2) set) (hs : set.length = s) (hsb : s ≤ 17592186044416) (hnb : n ≤ 1172812402961) :
    Calls Try.prog 34 #[.agg #[.int .i64 12, .slice A n c, .int .i32 rune, .slice a2 s c2, .int .i64 at', .int .i64 cap, .string name, .int .i64 mn, .int .i64 mx, .bool lz]] w (SaysB (SoundF ⟨12, rune, set, at', cap, name, mn, mx, lz⟩ n) w) := by
  obtain ⟨w1, hw1⟩ : ∃ w1, w.alloc (.cells #[.int .i64 12, .slice A n c, .int .i32 rune, .slice a2 s c2, .int .i64 at', .int .i64 cap, .string name, .int .i64 mn, .int .i64 mx, .bool lz] 27) = w1 := ⟨_, rfl⟩
  have hb1 : Below w.heap.size w w1 := by rw [← hw1]; exact (Below.refl _ _).alloc (Nat.le_refl _) _
  have hE1 : Whole w1 w.heap.size 27 #[.int .i64 12, .slice A n c, .int .i32 rune, .slice a2 s c2, .int .i64 at', .int .i64 cap, .string name, .int .i64 mn, .int .i64 mx, .bool lz] := by rw [← hw1]; exact heap_alloc_new w _
  have HB1 := Lib.hid hb1; have HE1 := Lib.hid hE1; have HW1 := Lib.hid hw1
  have HP := Lib.hid (soundF_12 rune n s set at' cap name mn mx lz hs)
  obtain ⟨P, hP⟩ : ∃ P, SoundF ⟨12, rune, set, at', cap, name, mn, mx, lz⟩ n = P := ⟨_, rfl⟩
  rw [hP] at HP ⊢
  have HSR := Lib.hid hS
  obtain ⟨e0, e1, e2, e3, e4, e5, e6, e7, e8, e9⟩ := hE1.ten
  clear hw1 hb1 hE1 hP hS hs
  go_enter Try.func34, Try.ntmps34
  go_upto_region 1 with (fail)
  rw [HW1.out]
  go_cut [3, 4] (fun s3 s4 wx => s3 = .bool false ∧ s4 = .int .i64 n ∧ wx = w1.drew)
  case first =>
    go_region
    all_goals
      go_wp2
      go_meet
      exact ⟨rfl, rfl, rfl⟩
  case rest =>
    obtain ⟨rfl, rfl, hwc⟩ := hcut
    have hb2 : Below w.heap.size w wc := by rw [hwc]; exact HB1.out.drew
    have hE2 : Whole wc w.heap.size 27 #[.int .i64 12, .slice A n c, .int .i32 rune, .slice a2 s c2, .int .i64 at', .int .i64 cap, .string name, .int .i64 mn, .int .i64 mx, .bool lz] := by rw [hwc]; exact HE1.out
    obtain ⟨w2, hw2⟩ : ∃ w2, w2 = wc := ⟨_, rfl⟩
    subst hw2
    have HB2 := Lib.hid hb2; have HE2 := Lib.hid hE2
    clear e0 e1 e2 e3 e4 e5 e6 e7 e8 e9 hwc HW1 hb2
    obtain ⟨e0, e1, e2, e3, e4, e5, e6, e7, e8, e9⟩ := hE2.ten
    obtain ⟨f0, f1, f2, f3, f4, f5, f6, f7, f8, f9⟩ := whole_free hE2
    clear hE2
    by_cases q0 : 0 < n
    rotate_left
    · have NO : Hid (¬ (0 < n)) := Lib.hid q0
      have q00 : n = 0 := by omega
      subst q00
      clear q0
      have HB3 : Hid (Below w.heap.size w w2) := Lib.hid HB2.out
      go_wp2_with fail
      go_ret
      exact ⟨false, rfl, ⟨fun h => (by cases h), fun h => absurd (HP.out.1 h).1 NO.out⟩, HB3.out⟩
    have d0 : decide ((0 : Int) < (n : Int)) = true := decide_eq_true (by omega)
    have Q0 := Lib.hid q0
    have YES : Hid (0 < n) := Q0
    clear q0
    have HB3 : Hid (Below w.heap.size w w2) := Lib.hid HB2.out
    have HBL := Lib.hid (pblank_any 12 (rune) A a2 n c s c2 (at') (cap) name (mn) (mx) lz (by omega) w2)
    obtain ⟨BQ, hBQ⟩ : ∃ BQ, BlankP (rune) s (at') (cap) name (mn) (mx) lz = BQ := ⟨_, rfl⟩
    rw [hBQ] at HBL HP
    clear hBQ
    go_wp2_with fail
    refine HBL.out.mono ?_
    rintro e w4 ⟨B, rfl, hq, hb4⟩
    have HQ := Lib.hid hq; have HB4 := Lib.hid (below_two HB3.out hb4)
    clear hq hb4
    go_wp2_with fail
    go_ret
    exact ⟨B, rfl, ⟨fun h => HP.out.2 ⟨YES.out, HQ.out.1 h⟩, fun h => HQ.out.2 (HP.out.1 h).2⟩, HB4.out⟩

set_option maxHeartbeats 1600000 in
set_option maxRecDepth 100000 in
theorem psound_out (op : Int) (x1 : Nat) (A a2 : Option Addr) (c s c2 : Nat) (x2 x4 x5 x7 x8 : Int) (x6 : ByteArray) (x9 : Bool) (w : World) (ho : op < 1 ∨ 12 < op) : Calls Try.prog 34 #[.agg #[.int .i64 op, .slice A x1 c, .int .i32 x2, .slice a2 s c2, .int .i64 x4, .int .i64 x5, .string x6, .int .i64 x7, .int .i64 x8, .bool x9]] w fun e w' => e = .returned (.bool false) ∧ Below w.heap.size w w' := by
  obtain ⟨w1, hw1⟩ : ∃ w1, w.alloc (.cells #[.int .i64 op, .slice A x1 c, .int .i32 x2, .slice a2 s c2, .int .i64 x4, .int .i64 x5, .string x6, .int .i64 x7, .int .i64 x8, .bool x9] 27) = w1 := ⟨_, rfl⟩
  have hb1 : Below w.heap.size w w1 := by rw [← hw1]; exact (Below.refl _ _).alloc (Nat.le_refl _) _
  have hE1 := box10_new w 27 (.int .i64 op) (.slice A x1 c) (.int .i32 x2) (.slice a2 s c2) (.int .i64 x4) (.int .i64 x5) (.string x6) (.int .i64 x7) (.int .i64 x8) (.bool x9)
  rw [hw1] at hE1
  have HB1 := Lib.hid hb1; have HW1 := Lib.hid hw1
  obtain ⟨e0, e1, e2, e3, e4, e5, e6, e7, e8, e9⟩ := hE1
  have d1 : (op == 1) = false := beq_eq_false_iff_ne.2 (by omega)
  have d2 : (op == 2) = false := beq_eq_false_iff_ne.2 (by omega)
  have d3 : (op == 3) = false := beq_eq_false_iff_ne.2 (by omega)
  have d4 : (op == 4) = false := beq_eq_false_iff_ne.2 (by omega)
  have d5 : (op == 5) = false := beq_eq_false_iff_ne.2 (by omega)
  have d6 : (op == 6) = false := beq_eq_false_iff_ne.2 (by omega)
  have d7 : (op == 7) = false := beq_eq_false_iff_ne.2 (by omega)
  have d8 : (op == 8) = false := beq_eq_false_iff_ne.2 (by omega)
  have d9 : (op == 9) = false := beq_eq_false_iff_ne.2 (by omega)
  have d10 : (op == 10) = false := beq_eq_false_iff_ne.2 (by omega)
  have d11 : (op == 11) = false := beq_eq_false_iff_ne.2 (by omega)
  have d12 : (op == 12) = false := beq_eq_false_iff_ne.2 (by omega)
  clear hw1 hb1 ho
  go_enter Try.func34, Try.ntmps34
  go_upto_region 1 with (fail)
  rw [HW1.out]
  go_cut [3, 4] (fun s3 s4 wx => s3 = .bool false ∧ s4 = .int .i64 x1 ∧ wx = w1.drew)
  case first =>
    go_region
    all_goals
      go_wp2
      go_meet
      exact ⟨rfl, rfl, rfl⟩
  case rest =>
    obtain ⟨rfl, rfl, rfl⟩ := hcut
    go_wp2_with fail
    go_ret
    exact ⟨rfl, HB1.out.drew⟩

/-- Is all right of a part that can be seen of it alone: at any tree. -/
theorem psound_any (t : Tr) (v : Value) (w : World) (h : Tre w t v) : Calls Try.prog 34 #[v] w (SaysB (SoundF t.fld t.kids.length) w) := by
  obtain ⟨A, n, c, a2, s, c2, hn, hs, rfl, hnb, hsb, hK, hS, hF⟩ := h.opened
  obtain ⟨f, hf⟩ : ∃ f, t.fld = f := ⟨_, rfl⟩
  rw [hf] at hs hS hF ⊢
  rw [hn]
  obtain ⟨op, rune, set, at', cap, name, min, max, lazy⟩ := f
  simp only at hs hS ⊢
  by_cases hb : op < 1 ∨ 12 < op
  · exact (psound_out op _ _ _ _ _ _ _ _ _ _ _ _ _ w hb).mono fun e w' ⟨he, hw⟩ => ⟨false, he, ⟨fun h => (by cases h), fun h => (by have h1 := h.1.1; have h2 := h.1.2.1; simp only at h1 h2; omega)⟩, hw⟩
  · have hk : op = 1 ∨ op = 2 ∨ op = 3 ∨ op = 4 ∨ op = 5 ∨ op = 6 ∨ op = 7 ∨ op = 8 ∨ op = 9 ∨ op = 10 ∨ op = 11 ∨ op = 12 := by omega
    rcases hk with rfl | rfl | rfl | rfl | rfl | rfl | rfl | rfl | rfl | rfl | rfl | rfl
    · exact psound_1 rune A a2 n c s c2 set at' cap name min max lazy w hS hs hsb hnb
    · exact psound_2 rune A a2 n c s c2 set at' cap name min max lazy w hS hs hsb hnb
    · exact psound_3 rune A a2 n c s c2 set at' cap name min max lazy w hS hs hsb hnb
    · exact psound_4 rune A a2 n c s c2 set at' cap name min max lazy w hS hs hsb hnb
    · exact psound_5 rune A a2 n c s c2 set at' cap name min max lazy w hS hs hsb hnb
    · exact psound_6 rune A a2 n c s c2 set at' cap name min max lazy w hS hs hsb hnb
    · exact psound_7 rune A a2 n c s c2 set at' cap name min max lazy w hS hs hsb hnb
    · exact psound_8 rune A a2 n c s c2 set at' cap name min max lazy w hS hs hsb hnb
    · exact psound_9 rune A a2 n c s c2 set at' cap name min max lazy w hS hs hsb hnb
    · exact psound_10 rune A a2 n c s c2 set at' cap name min max lazy w hS hs hsb hnb
    · exact psound_11 rune A a2 n c s c2 set at' cap name min max lazy w hS hs hsb hnb
    · exact psound_12 rune A a2 n c s c2 set at' cap name min max lazy w hS hs hsb hnb
end Go.Proofs.Ytnemacejaiifnaa
