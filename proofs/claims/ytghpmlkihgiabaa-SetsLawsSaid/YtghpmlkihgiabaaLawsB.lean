/- P2.2: Not twice, Not of a Union, Norm of a set, and what a set has. -/
import Derived.Test.YtghpmlkihgiabaaSay
set_option linter.unusedVariables false
namespace Go.Proofs.Ytghpmlkihgiabaa
open Go Go.RowKit


set_option maxHeartbeats 4000000 in
set_option maxRecDepth 100000 in
/-- Not twice is Norm; Not of a Union is the Meet of both's Not; Norm of a set is it; a rune is in the set just where it is in the list, in Not just where it is not; and both together are all runes. -/
theorem slaws_any (w : World) (va : Value) (la : List (Int × Int)) (ga : Rgs w va la) (vb : Value) (lb : List (Int × Int)) (gb : Rgs w vb lb) (xc : Int) :
    Calls Try.prog 10 #[va, vb, .int .i32 xc] w fun e w' => e = .returned (.bool true) ∧ Below w.heap.size w w' := by
  have R_a := Lib.hid ga
  have R_b := Lib.hid gb
  have HT := Lib.hid (Below.refl w.heap.size w)
  clear ga gb
  by_cases ma : 2000 < la.length
  · have ta := decide_eq_true ma
    go_enter Try.func10, Try.ntmps10
    go_wp2_with fail
    refine (head_any w).mono ?_
    rintro e w1 ⟨rfl, hb⟩
    replace R_a := Lib.hid (R_a.out.below hb)
    replace R_b := Lib.hid (R_b.out.below hb)
    replace HT := Lib.hid (HT.out.trans (hb.mono HT.out.size))
    clear hb
    go_wp2_with fail
    refine (long_any _ la w1 R_a.out).mono ?_
    rintro e w2 ⟨rfl, rfl⟩
    rw [ta]
    go_wp2_with fail
    go_ret
    exact ⟨rfl, HT.out⟩
  · have ta := decide_eq_false ma
    by_cases mb : 2000 < lb.length
    · have tb := decide_eq_true mb
      go_enter Try.func10, Try.ntmps10
      go_wp2_with fail
      refine (head_any w).mono ?_
      rintro e w1 ⟨rfl, hb⟩
      replace R_a := Lib.hid (R_a.out.below hb)
      replace R_b := Lib.hid (R_b.out.below hb)
      replace HT := Lib.hid (HT.out.trans (hb.mono HT.out.size))
      clear hb
      go_wp2_with fail
      refine (long_any _ la w1 R_a.out).mono ?_
      rintro e w2 ⟨rfl, rfl⟩
      rw [ta]
      go_wp2_with fail
      refine (long_any _ lb w2 R_b.out).mono ?_
      rintro e w3 ⟨rfl, rfl⟩
      rw [tb]
      go_wp2_with fail
      go_ret
      exact ⟨rfl, HT.out⟩
    · have tb := decide_eq_false mb
      go_enter Try.func10, Try.ntmps10
      go_wp2_with fail
      refine (head_any w).mono ?_
      rintro e w1 ⟨rfl, hb⟩
      replace R_a := Lib.hid (R_a.out.below hb)
      replace R_b := Lib.hid (R_b.out.below hb)
      replace HT := Lib.hid (HT.out.trans (hb.mono HT.out.size))
      clear hb
      go_wp2_with fail
      refine (long_any _ la w1 R_a.out).mono ?_
      rintro e w2 ⟨rfl, rfl⟩
      rw [ta]
      go_wp2_with fail
      refine (long_any _ lb w2 R_b.out).mono ?_
      rintro e w3 ⟨rfl, rfl⟩
      rw [tb]
      go_wp2_with fail
      refine (norm_any _ la w3 R_a.out (by omega)).mono ?_
      rintro e w4 ⟨vN, kN, rfl, hO, hR, hP, hb⟩
      have nN := right_len kN 0 (by omega) hR
      have Q_N := Lib.hid hR; have P_N := Lib.hid hP
      replace R_a := Lib.hid (R_a.out.below hb)
      replace R_b := Lib.hid (R_b.out.below hb)
      replace HT := Lib.hid (HT.out.trans (hb.mono HT.out.size))
      clear hb
      have R_N := Lib.hid hO.rgs
      clear hO hR hP
      go_wp2_with fail
      refine (not_any _ la w4 R_a.out (by omega)).mono ?_
      rintro e w5 ⟨v1, k1, rfl, hO, hR, hP, hb⟩
      have n1 := right_len k1 0 (by omega) hR
      have Q_1 := Lib.hid hR; have P_1 := Lib.hid hP
      replace R_a := Lib.hid (R_a.out.below hb)
      replace R_b := Lib.hid (R_b.out.below hb)
      replace R_N := Lib.hid (R_N.out.below hb)
      replace HT := Lib.hid (HT.out.trans (hb.mono HT.out.size))
      clear hb
      have R_1 := Lib.hid hO.rgs
      clear hO hR hP
      go_wp2_with fail
      refine (not_any _ k1 w5 R_1.out (by omega)).mono ?_
      rintro e w6 ⟨v2, k2, rfl, hO, hR, hP, hb⟩
      have n2 := right_len k2 0 (by omega) hR
      have Q_2 := Lib.hid hR; have P_2 := Lib.hid hP
      replace R_a := Lib.hid (R_a.out.below hb)
      replace R_b := Lib.hid (R_b.out.below hb)
      replace R_N := Lib.hid (R_N.out.below hb)
      replace R_1 := Lib.hid (R_1.out.below hb)
      replace HT := Lib.hid (HT.out.trans (hb.mono HT.out.size))
      clear hb
      have R_2 := Lib.hid hO.rgs
      clear hO hR hP
      go_wp2_with fail
      refine (rsame_any _ _ k2 kN w6 R_2.out R_N.out).mono ?_
      rintro e w7 hs
      obtain ⟨B, rfl, hq, hb⟩ := Says.b hs
      obtain rfl : B = true := hq.2 (right_eq k2 kN Q_2.out Q_N.out fun c => by
        have ja := fun h : HasR la c => And.intro h.1 h.2.1
        by_cases hr : 0 ≤ c ∧ c ≤ 1114111
        · obtain ⟨h0, h1⟩ := hr
          by_cases ia : HasR la c <;> simp [P_2.out, P_1.out, P_N.out, h0, h1, ia]
        · have h0 : 0 ≤ c → ¬ c ≤ 1114111 := fun a b => hr ⟨a, b⟩
          have ia : ¬ HasR la c := fun h => hr (ja h)
          have hr' : ∀ q : Prop, ¬ (0 ≤ c ∧ c ≤ 1114111 ∧ q) := fun q h => hr ⟨h.1, h.2.1⟩
          simp only [P_2.out, P_1.out, P_N.out, hr', ia, or_self, and_self]
      )
      clear hq hs
      replace R_a := Lib.hid (R_a.out.below hb)
      replace R_b := Lib.hid (R_b.out.below hb)
      replace R_N := Lib.hid (R_N.out.below hb)
      replace R_1 := Lib.hid (R_1.out.below hb)
      replace R_2 := Lib.hid (R_2.out.below hb)
      replace HT := Lib.hid (HT.out.trans (hb.mono HT.out.size))
      clear hb
      clear R_1
      clear R_2
      go_wp2_with fail
      refine (union_any _ _ la lb w7 R_a.out R_b.out (by omega) (by omega)).mono ?_
      rintro e w8 ⟨vU, kU, rfl, hO, hR, hP, hb⟩
      have nU := right_len kU 0 (by omega) hR
      have Q_U := Lib.hid hR; have P_U := Lib.hid hP
      replace R_a := Lib.hid (R_a.out.below hb)
      replace R_b := Lib.hid (R_b.out.below hb)
      replace R_N := Lib.hid (R_N.out.below hb)
      replace HT := Lib.hid (HT.out.trans (hb.mono HT.out.size))
      clear hb
      have R_U := Lib.hid hO.rgs
      clear hO hR hP
      go_wp2_with fail
      refine (not_any _ kU w8 R_U.out (by omega)).mono ?_
      rintro e w9 ⟨v3, k3, rfl, hO, hR, hP, hb⟩
      have n3 := right_len k3 0 (by omega) hR
      have Q_3 := Lib.hid hR; have P_3 := Lib.hid hP
      replace R_a := Lib.hid (R_a.out.below hb)
      replace R_b := Lib.hid (R_b.out.below hb)
      replace R_N := Lib.hid (R_N.out.below hb)
      replace R_U := Lib.hid (R_U.out.below hb)
      replace HT := Lib.hid (HT.out.trans (hb.mono HT.out.size))
      clear hb
      have R_3 := Lib.hid hO.rgs
      clear hO hR hP
      go_wp2_with fail
      refine (not_any _ la w9 R_a.out (by omega)).mono ?_
      rintro e w10 ⟨v4, k4, rfl, hO, hR, hP, hb⟩
      have n4 := right_len k4 0 (by omega) hR
      have Q_4 := Lib.hid hR; have P_4 := Lib.hid hP
      replace R_a := Lib.hid (R_a.out.below hb)
      replace R_b := Lib.hid (R_b.out.below hb)
      replace R_N := Lib.hid (R_N.out.below hb)
      replace R_U := Lib.hid (R_U.out.below hb)
      replace R_3 := Lib.hid (R_3.out.below hb)
      replace HT := Lib.hid (HT.out.trans (hb.mono HT.out.size))
      clear hb
      have R_4 := Lib.hid hO.rgs
      clear hO hR hP
      go_wp2_with fail
      refine (not_any _ lb w10 R_b.out (by omega)).mono ?_
      rintro e w11 ⟨v5, k5, rfl, hO, hR, hP, hb⟩
      have n5 := right_len k5 0 (by omega) hR
      have Q_5 := Lib.hid hR; have P_5 := Lib.hid hP
      replace R_a := Lib.hid (R_a.out.below hb)
      replace R_b := Lib.hid (R_b.out.below hb)
      replace R_N := Lib.hid (R_N.out.below hb)
      replace R_U := Lib.hid (R_U.out.below hb)
      replace R_3 := Lib.hid (R_3.out.below hb)
      replace R_4 := Lib.hid (R_4.out.below hb)
      replace HT := Lib.hid (HT.out.trans (hb.mono HT.out.size))
      clear hb
      have R_5 := Lib.hid hO.rgs
      clear hO hR hP
      go_wp2_with fail
      refine (meet_any _ _ k4 k5 w11 R_4.out R_5.out (by omega) (by omega)).mono ?_
      rintro e w12 ⟨v6, k6, rfl, hO, hR, hP, hb⟩
      have n6 := right_len k6 0 (by omega) hR
      have Q_6 := Lib.hid hR; have P_6 := Lib.hid hP
      replace R_a := Lib.hid (R_a.out.below hb)
      replace R_b := Lib.hid (R_b.out.below hb)
      replace R_N := Lib.hid (R_N.out.below hb)
      replace R_U := Lib.hid (R_U.out.below hb)
      replace R_3 := Lib.hid (R_3.out.below hb)
      replace R_4 := Lib.hid (R_4.out.below hb)
      replace R_5 := Lib.hid (R_5.out.below hb)
      replace HT := Lib.hid (HT.out.trans (hb.mono HT.out.size))
      clear hb
      have R_6 := Lib.hid hO.rgs
      clear hO hR hP
      go_wp2_with fail
      refine (rsame_any _ _ k3 k6 w12 R_3.out R_6.out).mono ?_
      rintro e w13 hs
      obtain ⟨B, rfl, hq, hb⟩ := Says.b hs
      obtain rfl : B = true := hq.2 (right_eq k3 k6 Q_3.out Q_6.out fun c => by
        have ja := fun h : HasR la c => And.intro h.1 h.2.1
        have jb := fun h : HasR lb c => And.intro h.1 h.2.1
        by_cases hr : 0 ≤ c ∧ c ≤ 1114111
        · obtain ⟨h0, h1⟩ := hr
          by_cases ia : HasR la c <;> by_cases ib : HasR lb c <;> simp [P_3.out, P_U.out, P_6.out, P_4.out, P_5.out, h0, h1, ia, ib]
        · have h0 : 0 ≤ c → ¬ c ≤ 1114111 := fun a b => hr ⟨a, b⟩
          have ia : ¬ HasR la c := fun h => hr (ja h); have ib : ¬ HasR lb c := fun h => hr (jb h)
          have hr' : ∀ q : Prop, ¬ (0 ≤ c ∧ c ≤ 1114111 ∧ q) := fun q h => hr ⟨h.1, h.2.1⟩
          simp only [P_3.out, P_U.out, P_6.out, P_4.out, P_5.out, hr', ia, ib, or_self, and_self]
      )
      clear hq hs
      replace R_a := Lib.hid (R_a.out.below hb)
      replace R_b := Lib.hid (R_b.out.below hb)
      replace R_N := Lib.hid (R_N.out.below hb)
      replace R_U := Lib.hid (R_U.out.below hb)
      replace R_3 := Lib.hid (R_3.out.below hb)
      replace R_4 := Lib.hid (R_4.out.below hb)
      replace R_5 := Lib.hid (R_5.out.below hb)
      replace R_6 := Lib.hid (R_6.out.below hb)
      replace HT := Lib.hid (HT.out.trans (hb.mono HT.out.size))
      clear hb
      clear R_U
      clear R_3
      clear R_4
      clear R_5
      clear R_6
      clear R_b
      go_wp2_with fail
      refine (norm_any _ kN w13 R_N.out (by omega)).mono ?_
      rintro e w14 ⟨v7, k7, rfl, hO, hR, hP, hb⟩
      have n7 := right_len k7 0 (by omega) hR
      have Q_7 := Lib.hid hR; have P_7 := Lib.hid hP
      replace R_a := Lib.hid (R_a.out.below hb)
      replace R_N := Lib.hid (R_N.out.below hb)
      replace HT := Lib.hid (HT.out.trans (hb.mono HT.out.size))
      clear hb
      have R_7 := Lib.hid hO.rgs
      clear hO hR hP
      go_wp2_with fail
      refine (rsame_any _ _ k7 kN w14 R_7.out R_N.out).mono ?_
      rintro e w15 hs
      obtain ⟨B, rfl, hq, hb⟩ := Says.b hs
      obtain rfl : B = true := hq.2 (right_eq k7 kN Q_7.out Q_N.out P_7.out)
      clear hq hs
      replace R_a := Lib.hid (R_a.out.below hb)
      replace R_N := Lib.hid (R_N.out.below hb)
      replace R_7 := Lib.hid (R_7.out.below hb)
      replace HT := Lib.hid (HT.out.trans (hb.mono HT.out.size))
      clear hb
      clear R_7
      go_wp2_with fail
      refine (right_any _ kN w15 R_N.out).mono ?_
      rintro e w16 hs
      obtain ⟨BR, rfl, HR, hb⟩ := hs
      replace R_a := Lib.hid (R_a.out.below hb)
      replace R_N := Lib.hid (R_N.out.below hb)
      replace HT := Lib.hid (HT.out.trans (hb.mono HT.out.size))
      clear hb
      obtain rfl : BR = true := HR.2 Q_N.out
      clear HR
      go_wp2_with fail
      refine (has_any _ kN xc w16 R_N.out).mono ?_
      rintro e w17 hs
      obtain ⟨B1, rfl, H1, hb⟩ := hs
      replace R_a := Lib.hid (R_a.out.below hb)
      replace R_N := Lib.hid (R_N.out.below hb)
      replace HT := Lib.hid (HT.out.trans (hb.mono HT.out.size))
      clear hb
      go_wp2_with fail
      refine (has_any _ la xc w17 R_a.out).mono ?_
      rintro e w18 hs
      obtain ⟨B2, rfl, H2, hb⟩ := hs
      replace R_a := Lib.hid (R_a.out.below hb)
      replace R_N := Lib.hid (R_N.out.below hb)
      replace HT := Lib.hid (HT.out.trans (hb.mono HT.out.size))
      clear hb
      obtain rfl : B2 = B1 := Bool.eq_iff_iff.2 (H2.trans ((P_N.out xc).symm.trans H1.symm))
      clear H1 H2
      clear R_N
      by_cases hc0 : xc < 0
      · skip
        go_wp2_with fail
        refine (count_any _ la w18 R_a.out (by omega)).mono ?_
        rintro e w19 ⟨kC, hR, hP, rfl, hb⟩
        have Q_C := Lib.hid hR; have P_C := Lib.hid hP; have c_C := count_bound kC 0 (by omega) hR
        clear hR hP
        replace R_a := Lib.hid (R_a.out.below hb)
        replace HT := Lib.hid (HT.out.trans (hb.mono HT.out.size))
        clear hb
        go_wp2_with fail
        refine (not_any _ la w19 R_a.out (by omega)).mono ?_
        rintro e w20 ⟨vD, kD, rfl, hO, hR, hP, hb⟩
        have nD := right_len kD 0 (by omega) hR
        have Q_D := Lib.hid hR; have P_D := Lib.hid hP
        replace R_a := Lib.hid (R_a.out.below hb)
        replace HT := Lib.hid (HT.out.trans (hb.mono HT.out.size))
        clear hb
        have R_D := Lib.hid hO.rgs
        clear hO hR hP
        go_wp2_with fail
        refine (count_any _ kD w20 R_D.out (by omega)).mono ?_
        rintro e w21 ⟨kE, hR, hP, rfl, hb⟩
        have Q_E := Lib.hid hR; have P_E := Lib.hid hP; have c_E := count_bound kE 0 (by omega) hR
        clear hR hP
        replace R_a := Lib.hid (R_a.out.below hb)
        replace R_D := Lib.hid (R_D.out.below hb)
        replace HT := Lib.hid (HT.out.trans (hb.mono HT.out.size))
        clear hb
        have hsum : countR kC + countR kE = 1114112 := by
          have he : kE = notFrom 0 kC := right_eq kE _ Q_E.out (not_right kC 0 Q_C.out) fun c => by rw [P_E.out, P_D.out, not_has kC 0 c (Int.le_refl _) Q_C.out, P_C.out]
          rw [he, count_not kC 0 (by omega) Q_C.out]
          omega
        go_wp2_with fail
        go_ret
        exact ⟨rfl, HT.out⟩
      · by_cases hc1 : 1114111 < xc
        · skip
          go_wp2_with fail
          refine (count_any _ la w18 R_a.out (by omega)).mono ?_
          rintro e w19 ⟨kC, hR, hP, rfl, hb⟩
          have Q_C := Lib.hid hR; have P_C := Lib.hid hP; have c_C := count_bound kC 0 (by omega) hR
          clear hR hP
          replace R_a := Lib.hid (R_a.out.below hb)
          replace HT := Lib.hid (HT.out.trans (hb.mono HT.out.size))
          clear hb
          go_wp2_with fail
          refine (not_any _ la w19 R_a.out (by omega)).mono ?_
          rintro e w20 ⟨vD, kD, rfl, hO, hR, hP, hb⟩
          have nD := right_len kD 0 (by omega) hR
          have Q_D := Lib.hid hR; have P_D := Lib.hid hP
          replace R_a := Lib.hid (R_a.out.below hb)
          replace HT := Lib.hid (HT.out.trans (hb.mono HT.out.size))
          clear hb
          have R_D := Lib.hid hO.rgs
          clear hO hR hP
          go_wp2_with fail
          refine (count_any _ kD w20 R_D.out (by omega)).mono ?_
          rintro e w21 ⟨kE, hR, hP, rfl, hb⟩
          have Q_E := Lib.hid hR; have P_E := Lib.hid hP; have c_E := count_bound kE 0 (by omega) hR
          clear hR hP
          replace R_a := Lib.hid (R_a.out.below hb)
          replace R_D := Lib.hid (R_D.out.below hb)
          replace HT := Lib.hid (HT.out.trans (hb.mono HT.out.size))
          clear hb
          have hsum : countR kC + countR kE = 1114112 := by
            have he : kE = notFrom 0 kC := right_eq kE _ Q_E.out (not_right kC 0 Q_C.out) fun c => by rw [P_E.out, P_D.out, not_has kC 0 c (Int.le_refl _) Q_C.out, P_C.out]
            rw [he, count_not kC 0 (by omega) Q_C.out]
            omega
          go_wp2_with fail
          go_ret
          exact ⟨rfl, HT.out⟩
        · skip
          go_wp2_with fail
          refine (not_any _ la w18 R_a.out (by omega)).mono ?_
          rintro e w19 ⟨v8, k8, rfl, hO, hR, hP, hb⟩
          have n8 := right_len k8 0 (by omega) hR
          have Q_8 := Lib.hid hR; have P_8 := Lib.hid hP
          replace R_a := Lib.hid (R_a.out.below hb)
          replace HT := Lib.hid (HT.out.trans (hb.mono HT.out.size))
          clear hb
          have R_8 := Lib.hid hO.rgs
          clear hO hR hP
          go_wp2_with fail
          refine (has_any _ k8 xc w19 R_8.out).mono ?_
          rintro e w20 hs
          obtain ⟨B3, rfl, H3, hb⟩ := hs
          replace R_a := Lib.hid (R_a.out.below hb)
          replace R_8 := Lib.hid (R_8.out.below hb)
          replace HT := Lib.hid (HT.out.trans (hb.mono HT.out.size))
          clear hb
          go_wp2_with fail
          refine (has_any _ la xc w20 R_a.out).mono ?_
          rintro e w21 hs
          obtain ⟨B4, rfl, H4, hb⟩ := hs
          replace R_a := Lib.hid (R_a.out.below hb)
          replace R_8 := Lib.hid (R_8.out.below hb)
          replace HT := Lib.hid (HT.out.trans (hb.mono HT.out.size))
          clear hb
          have hne : (B3 = false ∧ B4 = true) ∨ (B3 = true ∧ B4 = false) := by
            have h3 := H3.trans (P_8.out xc)
            by_cases h : HasR la xc
            · have e4 : B4 = true := H4.2 h
              have e3 : B3 = false := by
                cases hB : B3
                · rfl
                · exact absurd h (h3.1 hB).2.2
              exact .inl ⟨e3, e4⟩
            · have e4 : B4 = false := by
                cases hB : B4
                · rfl
                · exact absurd (H4.1 hB) h
              have e3 : B3 = true := h3.2 ⟨by omega, by omega, h⟩
              exact .inr ⟨e3, e4⟩
          clear H3 H4
          clear R_8
          rcases hne with ⟨rfl, rfl⟩ | ⟨rfl, rfl⟩
          · skip
            go_wp2_with fail
            refine (count_any _ la w21 R_a.out (by omega)).mono ?_
            rintro e w22 ⟨kC, hR, hP, rfl, hb⟩
            have Q_C := Lib.hid hR; have P_C := Lib.hid hP; have c_C := count_bound kC 0 (by omega) hR
            clear hR hP
            replace R_a := Lib.hid (R_a.out.below hb)
            replace HT := Lib.hid (HT.out.trans (hb.mono HT.out.size))
            clear hb
            go_wp2_with fail
            refine (not_any _ la w22 R_a.out (by omega)).mono ?_
            rintro e w23 ⟨vD, kD, rfl, hO, hR, hP, hb⟩
            have nD := right_len kD 0 (by omega) hR
            have Q_D := Lib.hid hR; have P_D := Lib.hid hP
            replace R_a := Lib.hid (R_a.out.below hb)
            replace HT := Lib.hid (HT.out.trans (hb.mono HT.out.size))
            clear hb
            have R_D := Lib.hid hO.rgs
            clear hO hR hP
            go_wp2_with fail
            refine (count_any _ kD w23 R_D.out (by omega)).mono ?_
            rintro e w24 ⟨kE, hR, hP, rfl, hb⟩
            have Q_E := Lib.hid hR; have P_E := Lib.hid hP; have c_E := count_bound kE 0 (by omega) hR
            clear hR hP
            replace R_a := Lib.hid (R_a.out.below hb)
            replace R_D := Lib.hid (R_D.out.below hb)
            replace HT := Lib.hid (HT.out.trans (hb.mono HT.out.size))
            clear hb
            have hsum : countR kC + countR kE = 1114112 := by
              have he : kE = notFrom 0 kC := right_eq kE _ Q_E.out (not_right kC 0 Q_C.out) fun c => by rw [P_E.out, P_D.out, not_has kC 0 c (Int.le_refl _) Q_C.out, P_C.out]
              rw [he, count_not kC 0 (by omega) Q_C.out]
              omega
            go_wp2_with fail
            go_ret
            exact ⟨rfl, HT.out⟩
          · skip
            go_wp2_with fail
            refine (count_any _ la w21 R_a.out (by omega)).mono ?_
            rintro e w22 ⟨kC, hR, hP, rfl, hb⟩
            have Q_C := Lib.hid hR; have P_C := Lib.hid hP; have c_C := count_bound kC 0 (by omega) hR
            clear hR hP
            replace R_a := Lib.hid (R_a.out.below hb)
            replace HT := Lib.hid (HT.out.trans (hb.mono HT.out.size))
            clear hb
            go_wp2_with fail
            refine (not_any _ la w22 R_a.out (by omega)).mono ?_
            rintro e w23 ⟨vD, kD, rfl, hO, hR, hP, hb⟩
            have nD := right_len kD 0 (by omega) hR
            have Q_D := Lib.hid hR; have P_D := Lib.hid hP
            replace R_a := Lib.hid (R_a.out.below hb)
            replace HT := Lib.hid (HT.out.trans (hb.mono HT.out.size))
            clear hb
            have R_D := Lib.hid hO.rgs
            clear hO hR hP
            go_wp2_with fail
            refine (count_any _ kD w23 R_D.out (by omega)).mono ?_
            rintro e w24 ⟨kE, hR, hP, rfl, hb⟩
            have Q_E := Lib.hid hR; have P_E := Lib.hid hP; have c_E := count_bound kE 0 (by omega) hR
            clear hR hP
            replace R_a := Lib.hid (R_a.out.below hb)
            replace R_D := Lib.hid (R_D.out.below hb)
            replace HT := Lib.hid (HT.out.trans (hb.mono HT.out.size))
            clear hb
            have hsum : countR kC + countR kE = 1114112 := by
              have he : kE = notFrom 0 kC := right_eq kE _ Q_E.out (not_right kC 0 Q_C.out) fun c => by rw [P_E.out, P_D.out, not_has kC 0 c (Int.le_refl _) Q_C.out, P_C.out]
              rw [he, count_not kC 0 (by omega) Q_C.out]
              omega
            go_wp2_with fail
            go_ret
            exact ⟨rfl, HT.out⟩
end Go.Proofs.Ytghpmlkihgiabaa
