/- The set of any list is the document's, and what was handed in stays; the set of one range. -/
import Derived.Test.YtghpmlkihgiabaaSay
set_option linter.unusedVariables false
namespace Go.Proofs.Ytghpmlkihgiabaa
open Go Go.RowKit

set_option maxHeartbeats 4000000 in
set_option maxRecDepth 100000 in
/-- The set of any list is the document's; what was handed in stays. -/
theorem snorm_any (w : World) (va : Value) (la : List (Int × Int)) (ga : Rgs w va la) (hsz : la.length ≤ 17592186044416) :
    Calls Try.prog 5 #[va] w fun e w' => e = .returned (.bool true) ∧ Below w.heap.size w w' := by
  have R_a := Lib.hid ga
  obtain ⟨a1, c1, rfl, -⟩ := ga
  have HT := Lib.hid (Below.refl w.heap.size w)
  go_enter Try.func5, Try.ntmps5
  go_wp2_with fail
  refine (head_any w).mono ?_
  rintro e w1 ⟨rfl, hb⟩
  replace R_a := Lib.hid (R_a.out.below hb)
  replace HT := Lib.hid (HT.out.trans (hb.mono HT.out.size))
  clear hb
  go_wp2_with (at_builtin; refine append_rgs rfl (.tmp 7) (.tmp 8) rfl w1.heap.size _ [] rfl (own_lit' w1 w1.heap.size w1.heap.size rfl (Nat.le_refl _)) a1 la.length c1 la rfl (R_a.out.below ((Below.refl _ w1).alloc (Nat.le_refl _) _)) ?b2 ?b3 ?_)
  case b2 => simp <;> omega
  case b3 => simp
  intro v1 w2 ho1 hg1
  try simp only [List.nil_append] at ho1
  have hb := ((Below.refl _ w1).alloc (Nat.le_refl _) (.cells #[] 33)).grown hg1 (by simp) (by simp [Value.ownBlock])
  have R_o := Lib.hid ho1.rgs
  replace R_a := Lib.hid (R_a.out.below hb)
  replace HT := Lib.hid (HT.out.trans (hb.mono HT.out.size))
  clear hb ho1 hg1
  by_cases hl : 2000 < la.length
  · have ha := decide_eq_true hl
    go_wp2_with fail
    refine (long_any _ la w2 R_a.out).mono ?_
    rintro e w3 ⟨rfl, rfl⟩
    rw [ha]
    go_wp2_with fail
    go_ret
    exact ⟨rfl, HT.out⟩
  · have ha := decide_eq_false hl
    go_wp2_with fail
    refine (long_any _ la w2 R_a.out).mono ?_
    rintro e w3 ⟨rfl, rfl⟩
    rw [ha]
    go_wp2_with fail
    refine (norm_any _ la w3 R_o.out (by omega)).mono ?_
    rintro e w4 ⟨v2, k2, rfl, hO, hR, hP, hb⟩
    have n2 := right_len k2 0 (by omega) hR
    have Q_2 := Lib.hid hR; have P_2 := Lib.hid hP
    replace R_a := Lib.hid (R_a.out.below hb)
    replace R_o := Lib.hid (R_o.out.below hb)
    replace HT := Lib.hid (HT.out.trans (hb.mono HT.out.size))
    have R_2 := Lib.hid hO.rgs
    clear hO hR hP hb
    go_wp2_with fail
    refine (rnorm_any _ la w4 R_a.out (by omega)).mono ?_
    rintro e w5 ⟨v3, k3, rfl, hO, hR, hP, hb⟩
    have Q_3 := Lib.hid hR; have P_3 := Lib.hid hP
    replace R_a := Lib.hid (R_a.out.below hb)
    replace R_o := Lib.hid (R_o.out.below hb)
    replace R_2 := Lib.hid (R_2.out.below hb)
    replace HT := Lib.hid (HT.out.trans (hb.mono HT.out.size))
    have R_3 := Lib.hid hO.rgs
    clear hO hR hP hb
    go_wp2_with fail
    refine (rsame_any _ _ k2 k3 w5 R_2.out R_3.out).mono ?_
    rintro e w6 hs
    obtain ⟨B, rfl, hq, hb⟩ := Says.b hs
    obtain rfl : B = true := hq.2 (right_eq k2 k3 Q_2.out Q_3.out fun c => (P_2.out c).trans (P_3.out c).symm)
    clear hq hs
    replace R_a := Lib.hid (R_a.out.below hb)
    replace R_o := Lib.hid (R_o.out.below hb)
    replace HT := Lib.hid (HT.out.trans (hb.mono HT.out.size))
    clear hb
    go_wp2_with fail
    refine (rsame_any _ _ la la w6 R_o.out R_a.out).mono ?_
    rintro e w7 hs
    obtain ⟨B, rfl, hq, hb⟩ := Says.b hs
    obtain rfl : B = true := hq.2 rfl
    clear hq hs
    replace HT := Lib.hid (HT.out.trans (hb.mono HT.out.size))
    clear hb
    go_wp2_with fail
    go_ret
    exact ⟨rfl, HT.out⟩

set_option maxHeartbeats 4000000 in
set_option maxRecDepth 100000 in
/-- The set of one range has its runes, and no others; of one that falls none. -/
theorem sruns_any (w : World) (lo hi x : Int) (hlo : I32 lo) (hhi : I32 hi) :
    Calls Try.prog 12 #[.int .i32 lo, .int .i32 hi, .int .i32 x] w fun e w' => e = .returned (.bool true) ∧ Below w.heap.size w w' := by
  have HT := Lib.hid (Below.refl w.heap.size w)
  have hlo' := hlo; have hhi' := hhi
  unfold I32 at hlo' hhi'
  have hhas : ∀ c, HasR [(lo, hi)] c ↔ HasR [(max lo 0, min hi 1114111)] c := fun c => by rw [← has_cut (lo, hi)]; rfl
  have hh2 : HasR [(lo, hi)] x ↔ max lo 0 ≤ x ∧ x ≤ min hi 1114111 := by
    rw [hhas, has_one]
    simp only
    omega
  have HH := Lib.hid hhas; have HX := Lib.hid hh2
  clear hhas hh2
  go_enter Try.func12, Try.ntmps12
  go_wp2_with fail
  refine (head_any w).mono ?_
  rintro e w1 ⟨rfl, hb⟩
  replace HT := Lib.hid (HT.out.trans (hb.mono HT.out.size))
  clear hb
  have R_l := Lib.hid (rgs_new w1 lo hi hlo hhi)
  have hbA : Below w1.heap.size w1 (w1.alloc (.cells #[.int .i32 lo, .int .i32 hi] 33)) := (Below.refl _ w1).alloc (Nat.le_refl _) _
  have HTA := Lib.hid (HT.out.trans (hbA.mono HT.out.size))
  clear hbA
  go_wp2_with fail
  refine (norm_any _ [(lo, hi)] _ R_l.out (by simp)).mono ?_
  rintro e w2 ⟨v2, k2, rfl, hO, hR, hP, hb⟩
  replace R_l := Lib.hid (R_l.out.below hb)
  replace HT := Lib.hid (HTA.out.trans (hb.mono HTA.out.size))
  clear hb HTA
  by_cases hxy : min hi 1114111 < max lo 0
  · have hxd : decide (min hi 1114111 < max lo 0) = true := decide_eq_true hxy
    obtain rfl : k2 = [] := right_eq k2 [] hR trivial fun c => by
      rw [hP, HH.out, has_one]
      constructor
      · rintro ⟨_, _, h1, h2⟩
        simp only at h1 h2
        omega
      · intro h
        exact absurd h (has_nil c)
    obtain ⟨a2, c2, rfl, -⟩ := hO.rgs
    clear hO hR hP
    go_wp2_with fail
    refine (count_any _ [(lo, hi)] w2 R_l.out (by simp)).mono ?_
    rintro e w3 ⟨kC, hRC, hPC, rfl, hb⟩
    obtain rfl : kC = [] := right_eq kC [] hRC trivial fun c => by
      rw [hPC, HH.out, has_one]
      constructor
      · rintro ⟨_, _, h1, h2⟩
        simp only at h1 h2
        omega
      · intro h
        exact absurd h (has_nil c)
    rw [show countR [] = 0 from rfl]
    replace R_l := Lib.hid (R_l.out.below hb)
    replace HT := Lib.hid (HT.out.trans (hb.mono HT.out.size))
    clear hb hRC hPC
    go_wp2_with fail
    refine (has_any _ [(lo, hi)] x w3 R_l.out).mono ?_
    rintro e w4 ⟨B, rfl, hq, hb⟩
    obtain rfl : B = false := by
      cases hB : B
      · rfl
      · have := HX.out.1 (hq.1 hB)
        omega
    replace HT := Lib.hid (HT.out.trans (hb.mono HT.out.size))
    clear hb hq
    go_wp2_with fail
    go_ret
    exact ⟨rfl, HT.out⟩
  · have hxd : decide (min hi 1114111 < max lo 0) = false := decide_eq_false hxy
    obtain rfl : k2 = [(max lo 0, min hi 1114111)] := right_eq k2 _ hR ⟨by show 0 ≤ max lo 0; omega, by show max lo 0 ≤ min hi 1114111; omega, by show min hi 1114111 ≤ 1114111; omega, trivial⟩ fun c => by rw [hP, HH.out]
    obtain ⟨a2, c2, rfl, q2, q3, q4, q5, -⟩ := hO.rgs
    rcases q5 with q5 | ⟨b, o, rfl, hc⟩
    · cases q5
    obtain ⟨d1, d2⟩ := hc 0 (by simp)
    simp only [List.getElem_cons_zero, Nat.zero_mul, Nat.add_zero] at d1 d2
    clear hO hR hP hc q4
    go_wp2_with fail
    refine (count_any _ [(lo, hi)] w2 R_l.out (by simp)).mono ?_
    rintro e w3 ⟨kC, hRC, hPC, rfl, hb⟩
    obtain rfl : kC = [(max lo 0, min hi 1114111)] := right_eq kC _ hRC ⟨by show 0 ≤ max lo 0; omega, by show max lo 0 ≤ min hi 1114111; omega, by show min hi 1114111 ≤ 1114111; omega, trivial⟩ fun c => by rw [hPC, HH.out]
    rw [show countR [(max lo 0, min hi 1114111)] = min hi 1114111 - max lo 0 + 1 by simp [countR]]
    replace R_l := Lib.hid (R_l.out.below hb)
    replace HT := Lib.hid (HT.out.trans (hb.mono HT.out.size))
    clear hb hRC hPC
    go_wp2_with fail
    refine (has_any _ [(lo, hi)] x w3 R_l.out).mono ?_
    rintro e w4 ⟨B, rfl, hq, hb⟩
    have hB := Lib.hid (hq.trans HX.out)
    replace HT := Lib.hid (HT.out.trans (hb.mono HT.out.size))
    clear hb hq
    by_cases h1 : max lo 0 ≤ x
    · have h1d : decide (max lo 0 ≤ x) = true := decide_eq_true h1
      by_cases h2 : x ≤ min hi 1114111
      · have h2d : decide (x ≤ min hi 1114111) = true := decide_eq_true h2
        obtain rfl : B = true := hB.out.2 ⟨h1, h2⟩
        clear hB
        go_wp2_with fail
        go_ret
        exact ⟨rfl, HT.out⟩
      · have h2d : decide (x ≤ min hi 1114111) = false := decide_eq_false h2
        obtain rfl : B = false := by
          cases hq : B
          · rfl
          · exact absurd (hB.out.1 hq).2 h2
        clear hB
        go_wp2_with fail
        go_ret
        exact ⟨rfl, HT.out⟩
    · have h1d : decide (max lo 0 ≤ x) = false := decide_eq_false h1
      obtain rfl : B = false := by
        cases hq : B
        · rfl
        · exact absurd (hB.out.1 hq).1 h1
      clear hB
      go_wp2_with fail
      go_ret
      exact ⟨rfl, HT.out⟩
end Go.Proofs.Ytghpmlkihgiabaa
