/- The statements of stage 2 that ask one question of the program and of the document. -/
import Derived.Test.YtghpmlkihgiabaaSay
set_option linter.unusedVariables false
namespace Go.Proofs.Ytghpmlkihgiabaa
open Go Go.RowKit


set_option maxHeartbeats 4000000 in
set_option maxRecDepth 100000 in
/-- Whether any list is a set is the document's. -/
theorem sright_any (w : World) (va : Value) (la : List (Int × Int)) (ga : Rgs w va la) :
    Calls Try.prog 3 #[va] w fun e w' => e = .returned (.bool true) ∧ Below w.heap.size w w' := by
  have R_a := Lib.hid ga
  have HT := Lib.hid (Below.refl w.heap.size w)
  clear ga
  by_cases hl : 2000 < la.length
  · have ha := decide_eq_true hl
    go_enter Try.func3, Try.ntmps3
    go_wp2_with fail
    refine (head_any w).mono ?_
    rintro e w1 ⟨rfl, hb⟩
    replace R_a := Lib.hid (R_a.out.below hb)
    replace HT := Lib.hid (HT.out.trans (hb.mono HT.out.size))
    clear hb
    go_wp2_with fail
    refine (long_any _ la w1 R_a.out).mono ?_
    rintro e w2 ⟨rfl, rfl⟩
    rw [ha]
    go_wp2_with fail
    go_ret
    exact ⟨rfl, HT.out⟩
  · have ha := decide_eq_false hl
    go_enter Try.func3, Try.ntmps3
    go_wp2_with fail
    refine (head_any w).mono ?_
    rintro e w1 ⟨rfl, hb⟩
    replace R_a := Lib.hid (R_a.out.below hb)
    replace HT := Lib.hid (HT.out.trans (hb.mono HT.out.size))
    clear hb
    go_wp2_with fail
    refine (long_any _ la w1 R_a.out).mono ?_
    rintro e w2 ⟨rfl, rfl⟩
    rw [ha]
    go_wp2_with fail
    refine (right_any _ la w2 R_a.out).mono ?_
    rintro e w3 hs
    obtain ⟨B1, rfl, H1, hb⟩ := hs
    replace R_a := Lib.hid (R_a.out.below hb)
    replace HT := Lib.hid (HT.out.trans (hb.mono HT.out.size))
    clear hb
    go_wp2_with fail
    refine (rright_any _ la w3 R_a.out).mono ?_
    rintro e w4 hs
    obtain ⟨B2, rfl, H2, hb⟩ := Says.b hs
    clear hs
    replace R_a := Lib.hid (R_a.out.below hb)
    replace HT := Lib.hid (HT.out.trans (hb.mono HT.out.size))
    clear hb
    obtain rfl : B2 = B1 := Bool.eq_iff_iff.2 (H2.trans H1.symm)
    go_wp2_with fail
    go_ret
    exact ⟨rfl, HT.out⟩

set_option maxHeartbeats 4000000 in
set_option maxRecDepth 100000 in
/-- Whether any list has any rune is the document's. -/
theorem shas_any (w : World) (va : Value) (la : List (Int × Int)) (ga : Rgs w va la) (xc : Int) :
    Calls Try.prog 4 #[va, .int .i32 xc] w fun e w' => e = .returned (.bool true) ∧ Below w.heap.size w w' := by
  have R_a := Lib.hid ga
  have HT := Lib.hid (Below.refl w.heap.size w)
  clear ga
  go_enter Try.func4, Try.ntmps4
  go_wp2_with fail
  refine (head_any w).mono ?_
  rintro e w1 ⟨rfl, hb⟩
  replace R_a := Lib.hid (R_a.out.below hb)
  replace HT := Lib.hid (HT.out.trans (hb.mono HT.out.size))
  clear hb
  go_wp2_with fail
  refine (has_any _ la xc w1 R_a.out).mono ?_
  rintro e w2 hs
  obtain ⟨B1, rfl, H1, hb⟩ := hs
  replace R_a := Lib.hid (R_a.out.below hb)
  replace HT := Lib.hid (HT.out.trans (hb.mono HT.out.size))
  clear hb
  go_wp2_with fail
  refine (rhas_any _ la xc w2 R_a.out).mono ?_
  rintro e w3 hs
  obtain ⟨B2, rfl, H2, hb⟩ := Says.b hs
  clear hs
  replace R_a := Lib.hid (R_a.out.below hb)
  replace HT := Lib.hid (HT.out.trans (hb.mono HT.out.size))
  clear hb
  obtain rfl : B2 = B1 := Bool.eq_iff_iff.2 (H2.trans H1.symm)
  go_wp2_with fail
  go_ret
  exact ⟨rfl, HT.out⟩

set_option maxHeartbeats 4000000 in
set_option maxRecDepth 100000 in
/-- What a list does not have is the document's. -/
theorem snot_any (w : World) (va : Value) (la : List (Int × Int)) (ga : Rgs w va la) :
    Calls Try.prog 8 #[va] w fun e w' => e = .returned (.bool true) ∧ Below w.heap.size w w' := by
  have R_a := Lib.hid ga
  have HT := Lib.hid (Below.refl w.heap.size w)
  clear ga
  by_cases hl : 2000 < la.length
  · have ha := decide_eq_true hl
    go_enter Try.func8, Try.ntmps8
    go_wp2_with fail
    refine (head_any w).mono ?_
    rintro e w1 ⟨rfl, hb⟩
    replace R_a := Lib.hid (R_a.out.below hb)
    replace HT := Lib.hid (HT.out.trans (hb.mono HT.out.size))
    clear hb
    go_wp2_with fail
    refine (long_any _ la w1 R_a.out).mono ?_
    rintro e w2 ⟨rfl, rfl⟩
    rw [ha]
    go_wp2_with fail
    go_ret
    exact ⟨rfl, HT.out⟩
  · have ha := decide_eq_false hl
    go_enter Try.func8, Try.ntmps8
    go_wp2_with fail
    refine (head_any w).mono ?_
    rintro e w1 ⟨rfl, hb⟩
    replace R_a := Lib.hid (R_a.out.below hb)
    replace HT := Lib.hid (HT.out.trans (hb.mono HT.out.size))
    clear hb
    go_wp2_with fail
    refine (long_any _ la w1 R_a.out).mono ?_
    rintro e w2 ⟨rfl, rfl⟩
    rw [ha]
    go_wp2_with fail
    refine (not_any _ la w2 R_a.out (by omega)).mono ?_
    rintro e w3 ⟨v1, k1, rfl, hO, hR, hP, hb⟩
    have n1 := right_len k1 0 (by omega) hR
    have Q_1 := Lib.hid hR; have P_1 := Lib.hid hP
    replace R_a := Lib.hid (R_a.out.below hb)
    replace HT := Lib.hid (HT.out.trans (hb.mono HT.out.size))
    clear hb
    have R_1 := Lib.hid hO.rgs
    clear hO hR hP
    go_wp2_with fail
    refine (rnot_any _ la w3 R_a.out (by omega)).mono ?_
    rintro e w4 ⟨v2, k2, rfl, hO, hR, hP, hb⟩
    have n2 := right_len k2 0 (by omega) hR
    have Q_2 := Lib.hid hR; have P_2 := Lib.hid hP
    replace R_a := Lib.hid (R_a.out.below hb)
    replace R_1 := Lib.hid (R_1.out.below hb)
    replace HT := Lib.hid (HT.out.trans (hb.mono HT.out.size))
    clear hb
    have R_2 := Lib.hid hO.rgs
    clear hO hR hP
    go_wp2_with fail
    refine (rsame_any _ _ k1 k2 w4 R_1.out R_2.out).mono ?_
    rintro e w5 hs
    obtain ⟨B, rfl, hq, hb⟩ := Says.b hs
    obtain rfl : B = true := hq.2 (right_eq k1 k2 Q_1.out Q_2.out fun c => (P_1.out c).trans (P_2.out c).symm)
    clear hq hs
    replace R_a := Lib.hid (R_a.out.below hb)
    replace R_1 := Lib.hid (R_1.out.below hb)
    replace R_2 := Lib.hid (R_2.out.below hb)
    replace HT := Lib.hid (HT.out.trans (hb.mono HT.out.size))
    clear hb
    go_wp2_with fail
    go_ret
    exact ⟨rfl, HT.out⟩

set_option maxHeartbeats 4000000 in
set_option maxRecDepth 100000 in
/-- How many runes a list has is the document's. -/
theorem scount_any (w : World) (va : Value) (la : List (Int × Int)) (ga : Rgs w va la) :
    Calls Try.prog 9 #[va] w fun e w' => e = .returned (.bool true) ∧ Below w.heap.size w w' := by
  have R_a := Lib.hid ga
  have HT := Lib.hid (Below.refl w.heap.size w)
  clear ga
  by_cases hl : 2000 < la.length
  · have ha := decide_eq_true hl
    go_enter Try.func9, Try.ntmps9
    go_wp2_with fail
    refine (head_any w).mono ?_
    rintro e w1 ⟨rfl, hb⟩
    replace R_a := Lib.hid (R_a.out.below hb)
    replace HT := Lib.hid (HT.out.trans (hb.mono HT.out.size))
    clear hb
    go_wp2_with fail
    refine (long_any _ la w1 R_a.out).mono ?_
    rintro e w2 ⟨rfl, rfl⟩
    rw [ha]
    go_wp2_with fail
    go_ret
    exact ⟨rfl, HT.out⟩
  · have ha := decide_eq_false hl
    go_enter Try.func9, Try.ntmps9
    go_wp2_with fail
    refine (head_any w).mono ?_
    rintro e w1 ⟨rfl, hb⟩
    replace R_a := Lib.hid (R_a.out.below hb)
    replace HT := Lib.hid (HT.out.trans (hb.mono HT.out.size))
    clear hb
    go_wp2_with fail
    refine (long_any _ la w1 R_a.out).mono ?_
    rintro e w2 ⟨rfl, rfl⟩
    rw [ha]
    go_wp2_with fail
    refine (count_any _ la w2 R_a.out (by omega)).mono ?_
    rintro e w3 ⟨k1, hR, hP, rfl, hb⟩
    have Q_1 := Lib.hid hR; have P_1 := Lib.hid hP; have c_1 := count_bound k1 0 (by omega) hR
    clear hR hP
    replace R_a := Lib.hid (R_a.out.below hb)
    replace HT := Lib.hid (HT.out.trans (hb.mono HT.out.size))
    clear hb
    go_wp2_with fail
    refine (rcount_any _ la w3 R_a.out (by omega)).mono ?_
    rintro e w4 ⟨k2, hR, hP, rfl, hb⟩
    have Q_2 := Lib.hid hR; have P_2 := Lib.hid hP; have c_2 := count_bound k2 0 (by omega) hR
    clear hR hP
    replace R_a := Lib.hid (R_a.out.below hb)
    replace HT := Lib.hid (HT.out.trans (hb.mono HT.out.size))
    clear hb
    obtain rfl : k2 = k1 := right_eq k2 k1 Q_2.out Q_1.out fun c => (P_2.out c).trans (P_1.out c).symm
    go_wp2_with fail
    go_ret
    exact ⟨rfl, HT.out⟩

set_option maxHeartbeats 4000000 in
set_option maxRecDepth 100000 in
/-- What Union of two lists is, is the document's. -/
theorem sunion_any (w : World) (va : Value) (la : List (Int × Int)) (ga : Rgs w va la) (vb : Value) (lb : List (Int × Int)) (gb : Rgs w vb lb) :
    Calls Try.prog 6 #[va, vb] w fun e w' => e = .returned (.bool true) ∧ Below w.heap.size w w' := by
  have R_a := Lib.hid ga
  have R_b := Lib.hid gb
  have HT := Lib.hid (Below.refl w.heap.size w)
  clear ga gb
  by_cases hl : 2000 < la.length
  · have ha := decide_eq_true hl
    go_enter Try.func6, Try.ntmps6
    go_wp2_with fail
    refine (head_any w).mono ?_
    rintro e w1 ⟨rfl, hb⟩
    replace R_a := Lib.hid (R_a.out.below hb)
    replace R_b := Lib.hid (R_b.out.below hb)
    replace HT := Lib.hid (HT.out.trans (hb.mono HT.out.size))
    clear hb
    go_wp2_with fail
    refine (long_any _ la w1 R_a.out).mono ?_
    rintro e w2 ⟨rfl, rfl⟩
    rw [ha]
    go_wp2_with fail
    go_ret
    exact ⟨rfl, HT.out⟩
  · have ha := decide_eq_false hl
    by_cases hm : 2000 < lb.length
    · have hlb := decide_eq_true hm
      go_enter Try.func6, Try.ntmps6
      go_wp2_with fail
      refine (head_any w).mono ?_
      rintro e w1 ⟨rfl, hb⟩
      replace R_a := Lib.hid (R_a.out.below hb)
      replace R_b := Lib.hid (R_b.out.below hb)
      replace HT := Lib.hid (HT.out.trans (hb.mono HT.out.size))
      clear hb
      go_wp2_with fail
      refine (long_any _ la w1 R_a.out).mono ?_
      rintro e w2 ⟨rfl, rfl⟩
      rw [ha]
      go_wp2_with fail
      refine (long_any _ lb w2 R_b.out).mono ?_
      rintro e w3 ⟨rfl, rfl⟩
      rw [hlb]
      go_wp2_with fail
      go_ret
      exact ⟨rfl, HT.out⟩
    · have hlb := decide_eq_false hm
      go_enter Try.func6, Try.ntmps6
      go_wp2_with fail
      refine (head_any w).mono ?_
      rintro e w1 ⟨rfl, hb⟩
      replace R_a := Lib.hid (R_a.out.below hb)
      replace R_b := Lib.hid (R_b.out.below hb)
      replace HT := Lib.hid (HT.out.trans (hb.mono HT.out.size))
      clear hb
      go_wp2_with fail
      refine (long_any _ la w1 R_a.out).mono ?_
      rintro e w2 ⟨rfl, rfl⟩
      rw [ha]
      go_wp2_with fail
      refine (long_any _ lb w2 R_b.out).mono ?_
      rintro e w3 ⟨rfl, rfl⟩
      rw [hlb]
      go_wp2_with fail
      refine (union_any _ _ la lb w3 R_a.out R_b.out (by omega) (by omega)).mono ?_
      rintro e w4 ⟨v1, k1, rfl, hO, hR, hP, hb⟩
      have n1 := right_len k1 0 (by omega) hR
      have Q_1 := Lib.hid hR; have P_1 := Lib.hid hP
      replace R_a := Lib.hid (R_a.out.below hb)
      replace R_b := Lib.hid (R_b.out.below hb)
      replace HT := Lib.hid (HT.out.trans (hb.mono HT.out.size))
      clear hb
      have R_1 := Lib.hid hO.rgs
      clear hO hR hP
      go_wp2_with fail
      refine (runion_any _ _ la lb w4 R_a.out R_b.out (by omega)).mono ?_
      rintro e w5 ⟨v2, k2, rfl, hO, hR, hP, hb⟩
      have n2 := right_len k2 0 (by omega) hR
      have Q_2 := Lib.hid hR; have P_2 := Lib.hid hP
      replace R_a := Lib.hid (R_a.out.below hb)
      replace R_b := Lib.hid (R_b.out.below hb)
      replace R_1 := Lib.hid (R_1.out.below hb)
      replace HT := Lib.hid (HT.out.trans (hb.mono HT.out.size))
      clear hb
      have R_2 := Lib.hid hO.rgs
      clear hO hR hP
      go_wp2_with fail
      refine (rsame_any _ _ k1 k2 w5 R_1.out R_2.out).mono ?_
      rintro e w6 hs
      obtain ⟨B, rfl, hq, hb⟩ := Says.b hs
      obtain rfl : B = true := hq.2 (right_eq k1 k2 Q_1.out Q_2.out fun c => (P_1.out c).trans (P_2.out c).symm)
      clear hq hs
      replace R_a := Lib.hid (R_a.out.below hb)
      replace R_b := Lib.hid (R_b.out.below hb)
      replace R_1 := Lib.hid (R_1.out.below hb)
      replace R_2 := Lib.hid (R_2.out.below hb)
      replace HT := Lib.hid (HT.out.trans (hb.mono HT.out.size))
      clear hb
      go_wp2_with fail
      go_ret
      exact ⟨rfl, HT.out⟩

set_option maxHeartbeats 4000000 in
set_option maxRecDepth 100000 in
/-- What Meet of two lists is, is the document's. -/
theorem smeet_any (w : World) (va : Value) (la : List (Int × Int)) (ga : Rgs w va la) (vb : Value) (lb : List (Int × Int)) (gb : Rgs w vb lb) :
    Calls Try.prog 7 #[va, vb] w fun e w' => e = .returned (.bool true) ∧ Below w.heap.size w w' := by
  have R_a := Lib.hid ga
  have R_b := Lib.hid gb
  have HT := Lib.hid (Below.refl w.heap.size w)
  clear ga gb
  by_cases hl : 2000 < la.length
  · have ha := decide_eq_true hl
    go_enter Try.func7, Try.ntmps7
    go_wp2_with fail
    refine (head_any w).mono ?_
    rintro e w1 ⟨rfl, hb⟩
    replace R_a := Lib.hid (R_a.out.below hb)
    replace R_b := Lib.hid (R_b.out.below hb)
    replace HT := Lib.hid (HT.out.trans (hb.mono HT.out.size))
    clear hb
    go_wp2_with fail
    refine (long_any _ la w1 R_a.out).mono ?_
    rintro e w2 ⟨rfl, rfl⟩
    rw [ha]
    go_wp2_with fail
    go_ret
    exact ⟨rfl, HT.out⟩
  · have ha := decide_eq_false hl
    by_cases hm : 2000 < lb.length
    · have hlb := decide_eq_true hm
      go_enter Try.func7, Try.ntmps7
      go_wp2_with fail
      refine (head_any w).mono ?_
      rintro e w1 ⟨rfl, hb⟩
      replace R_a := Lib.hid (R_a.out.below hb)
      replace R_b := Lib.hid (R_b.out.below hb)
      replace HT := Lib.hid (HT.out.trans (hb.mono HT.out.size))
      clear hb
      go_wp2_with fail
      refine (long_any _ la w1 R_a.out).mono ?_
      rintro e w2 ⟨rfl, rfl⟩
      rw [ha]
      go_wp2_with fail
      refine (long_any _ lb w2 R_b.out).mono ?_
      rintro e w3 ⟨rfl, rfl⟩
      rw [hlb]
      go_wp2_with fail
      go_ret
      exact ⟨rfl, HT.out⟩
    · have hlb := decide_eq_false hm
      go_enter Try.func7, Try.ntmps7
      go_wp2_with fail
      refine (head_any w).mono ?_
      rintro e w1 ⟨rfl, hb⟩
      replace R_a := Lib.hid (R_a.out.below hb)
      replace R_b := Lib.hid (R_b.out.below hb)
      replace HT := Lib.hid (HT.out.trans (hb.mono HT.out.size))
      clear hb
      go_wp2_with fail
      refine (long_any _ la w1 R_a.out).mono ?_
      rintro e w2 ⟨rfl, rfl⟩
      rw [ha]
      go_wp2_with fail
      refine (long_any _ lb w2 R_b.out).mono ?_
      rintro e w3 ⟨rfl, rfl⟩
      rw [hlb]
      go_wp2_with fail
      refine (meet_any _ _ la lb w3 R_a.out R_b.out (by omega) (by omega)).mono ?_
      rintro e w4 ⟨v1, k1, rfl, hO, hR, hP, hb⟩
      have n1 := right_len k1 0 (by omega) hR
      have Q_1 := Lib.hid hR; have P_1 := Lib.hid hP
      replace R_a := Lib.hid (R_a.out.below hb)
      replace R_b := Lib.hid (R_b.out.below hb)
      replace HT := Lib.hid (HT.out.trans (hb.mono HT.out.size))
      clear hb
      have R_1 := Lib.hid hO.rgs
      clear hO hR hP
      go_wp2_with fail
      refine (rmeet_any _ _ la lb w4 R_a.out R_b.out (by omega) (by omega)).mono ?_
      rintro e w5 ⟨v2, k2, rfl, hO, hR, hP, hb⟩
      have n2 := right_len k2 0 (by omega) hR
      have Q_2 := Lib.hid hR; have P_2 := Lib.hid hP
      replace R_a := Lib.hid (R_a.out.below hb)
      replace R_b := Lib.hid (R_b.out.below hb)
      replace R_1 := Lib.hid (R_1.out.below hb)
      replace HT := Lib.hid (HT.out.trans (hb.mono HT.out.size))
      clear hb
      have R_2 := Lib.hid hO.rgs
      clear hO hR hP
      go_wp2_with fail
      refine (rsame_any _ _ k1 k2 w5 R_1.out R_2.out).mono ?_
      rintro e w6 hs
      obtain ⟨B, rfl, hq, hb⟩ := Says.b hs
      obtain rfl : B = true := hq.2 (right_eq k1 k2 Q_1.out Q_2.out fun c => (P_1.out c).trans (P_2.out c).symm)
      clear hq hs
      replace R_a := Lib.hid (R_a.out.below hb)
      replace R_b := Lib.hid (R_b.out.below hb)
      replace R_1 := Lib.hid (R_1.out.below hb)
      replace R_2 := Lib.hid (R_2.out.below hb)
      replace HT := Lib.hid (HT.out.trans (hb.mono HT.out.size))
      clear hb
      go_wp2_with fail
      go_ret
      exact ⟨rfl, HT.out⟩

end Go.Proofs.Ytghpmlkihgiabaa
