/- Union and Meet do not hang on the order of the lists; a list and itself are its set. -/
import Derived.Test.YtghpmlkihgiabaaSay
set_option linter.unusedVariables false
namespace Go.Proofs.Ytghpmlkihgiabaa
open Go Go.RowKit


set_option maxHeartbeats 4000000 in
set_option maxRecDepth 100000 in
/-- Union and Meet do not hang on which list is first, nor, of three, on which two are put together first; a list and itself are its set. -/
theorem sorder_any (w : World) (va : Value) (la : List (Int × Int)) (ga : Rgs w va la) (vb : Value) (lb : List (Int × Int)) (gb : Rgs w vb lb) (vc : Value) (lc : List (Int × Int)) (gc : Rgs w vc lc) :
    Calls Try.prog 11 #[va, vb, vc] w fun e w' => e = .returned (.bool true) ∧ Below w.heap.size w w' := by
  have R_a := Lib.hid ga
  have R_b := Lib.hid gb
  have R_c := Lib.hid gc
  have HT := Lib.hid (Below.refl w.heap.size w)
  clear ga gb gc
  by_cases ma : 2000 < la.length
  · have ta := decide_eq_true ma
    go_enter Try.func11, Try.ntmps11
    go_wp2_with fail
    refine (head_any w).mono ?_
    rintro e w1 ⟨rfl, hb⟩
    replace R_a := Lib.hid (R_a.out.below hb)
    replace R_b := Lib.hid (R_b.out.below hb)
    replace R_c := Lib.hid (R_c.out.below hb)
    replace HT := Lib.hid (HT.out.trans (hb.mono HT.out.size))
    clear hb
    go_wp2_with fail
    refine (long_any _ la w1 R_a.out).mono ?_
    rintro e w2 ⟨rfl, rfl⟩
    rw [ta]
    go_wp2_with fail
    go_ret
    exact ⟨rfl, HT.out⟩
  · have ta := decide_eq_false ma
    by_cases mb : 2000 < lb.length
    · have tb := decide_eq_true mb
      go_enter Try.func11, Try.ntmps11
      go_wp2_with fail
      refine (head_any w).mono ?_
      rintro e w1 ⟨rfl, hb⟩
      replace R_a := Lib.hid (R_a.out.below hb)
      replace R_b := Lib.hid (R_b.out.below hb)
      replace R_c := Lib.hid (R_c.out.below hb)
      replace HT := Lib.hid (HT.out.trans (hb.mono HT.out.size))
      clear hb
      go_wp2_with fail
      refine (long_any _ la w1 R_a.out).mono ?_
      rintro e w2 ⟨rfl, rfl⟩
      rw [ta]
      go_wp2_with fail
      refine (long_any _ lb w2 R_b.out).mono ?_
      rintro e w3 ⟨rfl, rfl⟩
      rw [tb]
      go_wp2_with fail
      go_ret
      exact ⟨rfl, HT.out⟩
    · have tb := decide_eq_false mb
      by_cases mc : 2000 < lc.length
      · have tc := decide_eq_true mc
        go_enter Try.func11, Try.ntmps11
        go_wp2_with fail
        refine (head_any w).mono ?_
        rintro e w1 ⟨rfl, hb⟩
        replace R_a := Lib.hid (R_a.out.below hb)
        replace R_b := Lib.hid (R_b.out.below hb)
        replace R_c := Lib.hid (R_c.out.below hb)
        replace HT := Lib.hid (HT.out.trans (hb.mono HT.out.size))
        clear hb
        go_wp2_with fail
        refine (long_any _ la w1 R_a.out).mono ?_
        rintro e w2 ⟨rfl, rfl⟩
        rw [ta]
        go_wp2_with fail
        refine (long_any _ lb w2 R_b.out).mono ?_
        rintro e w3 ⟨rfl, rfl⟩
        rw [tb]
        go_wp2_with fail
        refine (long_any _ lc w3 R_c.out).mono ?_
        rintro e w4 ⟨rfl, rfl⟩
        rw [tc]
        go_wp2_with fail
        go_ret
        exact ⟨rfl, HT.out⟩
      · have tc := decide_eq_false mc
        go_enter Try.func11, Try.ntmps11
        go_wp2_with fail
        refine (head_any w).mono ?_
        rintro e w1 ⟨rfl, hb⟩
        replace R_a := Lib.hid (R_a.out.below hb)
        replace R_b := Lib.hid (R_b.out.below hb)
        replace R_c := Lib.hid (R_c.out.below hb)
        replace HT := Lib.hid (HT.out.trans (hb.mono HT.out.size))
        clear hb
        go_wp2_with fail
        refine (long_any _ la w1 R_a.out).mono ?_
        rintro e w2 ⟨rfl, rfl⟩
        rw [ta]
        go_wp2_with fail
        refine (long_any _ lb w2 R_b.out).mono ?_
        rintro e w3 ⟨rfl, rfl⟩
        rw [tb]
        go_wp2_with fail
        refine (long_any _ lc w3 R_c.out).mono ?_
        rintro e w4 ⟨rfl, rfl⟩
        rw [tc]
        go_wp2_with fail
        refine (union_any _ _ la lb w4 R_a.out R_b.out (by omega) (by omega)).mono ?_
        rintro e w5 ⟨v1, k1, rfl, hO, hR, hP, hb⟩
        have n1 := right_len k1 0 (by omega) hR
        have Q_1 := Lib.hid hR; have P_1 := Lib.hid hP
        replace R_a := Lib.hid (R_a.out.below hb)
        replace R_b := Lib.hid (R_b.out.below hb)
        replace R_c := Lib.hid (R_c.out.below hb)
        replace HT := Lib.hid (HT.out.trans (hb.mono HT.out.size))
        clear hb
        have R_1 := Lib.hid hO.rgs
        clear hO hR hP
        go_wp2_with fail
        refine (union_any _ _ lb la w5 R_b.out R_a.out (by omega) (by omega)).mono ?_
        rintro e w6 ⟨v2, k2, rfl, hO, hR, hP, hb⟩
        have n2 := right_len k2 0 (by omega) hR
        have Q_2 := Lib.hid hR; have P_2 := Lib.hid hP
        replace R_a := Lib.hid (R_a.out.below hb)
        replace R_b := Lib.hid (R_b.out.below hb)
        replace R_c := Lib.hid (R_c.out.below hb)
        replace R_1 := Lib.hid (R_1.out.below hb)
        replace HT := Lib.hid (HT.out.trans (hb.mono HT.out.size))
        clear hb
        have R_2 := Lib.hid hO.rgs
        clear hO hR hP
        go_wp2_with fail
        refine (rsame_any _ _ k1 k2 w6 R_1.out R_2.out).mono ?_
        rintro e w7 hs
        obtain ⟨B, rfl, hq, hb⟩ := Says.b hs
        obtain rfl : B = true := hq.2 (right_eq k1 k2 Q_1.out Q_2.out fun c => by
          have ja := fun h : HasR la c => And.intro h.1 h.2.1
          have jb := fun h : HasR lb c => And.intro h.1 h.2.1
          by_cases hr : 0 ≤ c ∧ c ≤ 1114111
          · obtain ⟨h0, h1⟩ := hr
            by_cases ia : HasR la c <;> by_cases ib : HasR lb c <;> simp [P_1.out, P_2.out, h0, h1, ia, ib]
          · have h0 : 0 ≤ c → ¬ c ≤ 1114111 := fun a b => hr ⟨a, b⟩
            have ia : ¬ HasR la c := fun h => hr (ja h); have ib : ¬ HasR lb c := fun h => hr (jb h)
            have hr' : ∀ q : Prop, ¬ (0 ≤ c ∧ c ≤ 1114111 ∧ q) := fun q h => hr ⟨h.1, h.2.1⟩
            simp only [P_1.out, P_2.out, hr', ia, ib, or_self, and_self]
        )
        clear hq hs
        replace R_a := Lib.hid (R_a.out.below hb)
        replace R_b := Lib.hid (R_b.out.below hb)
        replace R_c := Lib.hid (R_c.out.below hb)
        replace R_1 := Lib.hid (R_1.out.below hb)
        replace R_2 := Lib.hid (R_2.out.below hb)
        replace HT := Lib.hid (HT.out.trans (hb.mono HT.out.size))
        clear hb
        clear R_1
        clear R_2
        go_wp2_with fail
        refine (meet_any _ _ la lb w7 R_a.out R_b.out (by omega) (by omega)).mono ?_
        rintro e w8 ⟨v3, k3, rfl, hO, hR, hP, hb⟩
        have n3 := right_len k3 0 (by omega) hR
        have Q_3 := Lib.hid hR; have P_3 := Lib.hid hP
        replace R_a := Lib.hid (R_a.out.below hb)
        replace R_b := Lib.hid (R_b.out.below hb)
        replace R_c := Lib.hid (R_c.out.below hb)
        replace HT := Lib.hid (HT.out.trans (hb.mono HT.out.size))
        clear hb
        have R_3 := Lib.hid hO.rgs
        clear hO hR hP
        go_wp2_with fail
        refine (meet_any _ _ lb la w8 R_b.out R_a.out (by omega) (by omega)).mono ?_
        rintro e w9 ⟨v4, k4, rfl, hO, hR, hP, hb⟩
        have n4 := right_len k4 0 (by omega) hR
        have Q_4 := Lib.hid hR; have P_4 := Lib.hid hP
        replace R_a := Lib.hid (R_a.out.below hb)
        replace R_b := Lib.hid (R_b.out.below hb)
        replace R_c := Lib.hid (R_c.out.below hb)
        replace R_3 := Lib.hid (R_3.out.below hb)
        replace HT := Lib.hid (HT.out.trans (hb.mono HT.out.size))
        clear hb
        have R_4 := Lib.hid hO.rgs
        clear hO hR hP
        go_wp2_with fail
        refine (rsame_any _ _ k3 k4 w9 R_3.out R_4.out).mono ?_
        rintro e w10 hs
        obtain ⟨B, rfl, hq, hb⟩ := Says.b hs
        obtain rfl : B = true := hq.2 (right_eq k3 k4 Q_3.out Q_4.out fun c => by
          have ja := fun h : HasR la c => And.intro h.1 h.2.1
          have jb := fun h : HasR lb c => And.intro h.1 h.2.1
          by_cases hr : 0 ≤ c ∧ c ≤ 1114111
          · obtain ⟨h0, h1⟩ := hr
            by_cases ia : HasR la c <;> by_cases ib : HasR lb c <;> simp [P_3.out, P_4.out, h0, h1, ia, ib]
          · have h0 : 0 ≤ c → ¬ c ≤ 1114111 := fun a b => hr ⟨a, b⟩
            have ia : ¬ HasR la c := fun h => hr (ja h); have ib : ¬ HasR lb c := fun h => hr (jb h)
            have hr' : ∀ q : Prop, ¬ (0 ≤ c ∧ c ≤ 1114111 ∧ q) := fun q h => hr ⟨h.1, h.2.1⟩
            simp only [P_3.out, P_4.out, hr', ia, ib, or_self, and_self]
        )
        clear hq hs
        replace R_a := Lib.hid (R_a.out.below hb)
        replace R_b := Lib.hid (R_b.out.below hb)
        replace R_c := Lib.hid (R_c.out.below hb)
        replace R_3 := Lib.hid (R_3.out.below hb)
        replace R_4 := Lib.hid (R_4.out.below hb)
        replace HT := Lib.hid (HT.out.trans (hb.mono HT.out.size))
        clear hb
        clear R_3
        clear R_4
        go_wp2_with fail
        refine (union_any _ _ la lb w10 R_a.out R_b.out (by omega) (by omega)).mono ?_
        rintro e w11 ⟨v5, k5, rfl, hO, hR, hP, hb⟩
        have n5 := right_len k5 0 (by omega) hR
        have Q_5 := Lib.hid hR; have P_5 := Lib.hid hP
        replace R_a := Lib.hid (R_a.out.below hb)
        replace R_b := Lib.hid (R_b.out.below hb)
        replace R_c := Lib.hid (R_c.out.below hb)
        replace HT := Lib.hid (HT.out.trans (hb.mono HT.out.size))
        clear hb
        have R_5 := Lib.hid hO.rgs
        clear hO hR hP
        go_wp2_with fail
        refine (union_any _ _ k5 lc w11 R_5.out R_c.out (by omega) (by omega)).mono ?_
        rintro e w12 ⟨v6, k6, rfl, hO, hR, hP, hb⟩
        have n6 := right_len k6 0 (by omega) hR
        have Q_6 := Lib.hid hR; have P_6 := Lib.hid hP
        replace R_a := Lib.hid (R_a.out.below hb)
        replace R_b := Lib.hid (R_b.out.below hb)
        replace R_c := Lib.hid (R_c.out.below hb)
        replace R_5 := Lib.hid (R_5.out.below hb)
        replace HT := Lib.hid (HT.out.trans (hb.mono HT.out.size))
        clear hb
        have R_6 := Lib.hid hO.rgs
        clear hO hR hP
        go_wp2_with fail
        refine (union_any _ _ lb lc w12 R_b.out R_c.out (by omega) (by omega)).mono ?_
        rintro e w13 ⟨v7, k7, rfl, hO, hR, hP, hb⟩
        have n7 := right_len k7 0 (by omega) hR
        have Q_7 := Lib.hid hR; have P_7 := Lib.hid hP
        replace R_a := Lib.hid (R_a.out.below hb)
        replace R_b := Lib.hid (R_b.out.below hb)
        replace R_c := Lib.hid (R_c.out.below hb)
        replace R_5 := Lib.hid (R_5.out.below hb)
        replace R_6 := Lib.hid (R_6.out.below hb)
        replace HT := Lib.hid (HT.out.trans (hb.mono HT.out.size))
        clear hb
        have R_7 := Lib.hid hO.rgs
        clear hO hR hP
        go_wp2_with fail
        refine (union_any _ _ la k7 w13 R_a.out R_7.out (by omega) (by omega)).mono ?_
        rintro e w14 ⟨v8, k8, rfl, hO, hR, hP, hb⟩
        have n8 := right_len k8 0 (by omega) hR
        have Q_8 := Lib.hid hR; have P_8 := Lib.hid hP
        replace R_a := Lib.hid (R_a.out.below hb)
        replace R_b := Lib.hid (R_b.out.below hb)
        replace R_c := Lib.hid (R_c.out.below hb)
        replace R_5 := Lib.hid (R_5.out.below hb)
        replace R_6 := Lib.hid (R_6.out.below hb)
        replace R_7 := Lib.hid (R_7.out.below hb)
        replace HT := Lib.hid (HT.out.trans (hb.mono HT.out.size))
        clear hb
        have R_8 := Lib.hid hO.rgs
        clear hO hR hP
        go_wp2_with fail
        refine (rsame_any _ _ k6 k8 w14 R_6.out R_8.out).mono ?_
        rintro e w15 hs
        obtain ⟨B, rfl, hq, hb⟩ := Says.b hs
        obtain rfl : B = true := hq.2 (right_eq k6 k8 Q_6.out Q_8.out fun c => by
          have ja := fun h : HasR la c => And.intro h.1 h.2.1
          have jb := fun h : HasR lb c => And.intro h.1 h.2.1
          have jc := fun h : HasR lc c => And.intro h.1 h.2.1
          by_cases hr : 0 ≤ c ∧ c ≤ 1114111
          · obtain ⟨h0, h1⟩ := hr
            by_cases ia : HasR la c <;> by_cases ib : HasR lb c <;> by_cases ic : HasR lc c <;> simp [P_6.out, P_5.out, P_8.out, P_7.out, h0, h1, ia, ib, ic]
          · have h0 : 0 ≤ c → ¬ c ≤ 1114111 := fun a b => hr ⟨a, b⟩
            have ia : ¬ HasR la c := fun h => hr (ja h); have ib : ¬ HasR lb c := fun h => hr (jb h); have ic : ¬ HasR lc c := fun h => hr (jc h)
            have hr' : ∀ q : Prop, ¬ (0 ≤ c ∧ c ≤ 1114111 ∧ q) := fun q h => hr ⟨h.1, h.2.1⟩
            simp only [P_6.out, P_5.out, P_8.out, P_7.out, hr', ia, ib, ic, or_self, and_self]
        )
        clear hq hs
        replace R_a := Lib.hid (R_a.out.below hb)
        replace R_b := Lib.hid (R_b.out.below hb)
        replace R_c := Lib.hid (R_c.out.below hb)
        replace R_5 := Lib.hid (R_5.out.below hb)
        replace R_6 := Lib.hid (R_6.out.below hb)
        replace R_7 := Lib.hid (R_7.out.below hb)
        replace R_8 := Lib.hid (R_8.out.below hb)
        replace HT := Lib.hid (HT.out.trans (hb.mono HT.out.size))
        clear hb
        clear R_5
        clear R_6
        clear R_7
        clear R_8
        go_wp2_with fail
        refine (meet_any _ _ la lb w15 R_a.out R_b.out (by omega) (by omega)).mono ?_
        rintro e w16 ⟨v9, k9, rfl, hO, hR, hP, hb⟩
        have n9 := right_len k9 0 (by omega) hR
        have Q_9 := Lib.hid hR; have P_9 := Lib.hid hP
        replace R_a := Lib.hid (R_a.out.below hb)
        replace R_b := Lib.hid (R_b.out.below hb)
        replace R_c := Lib.hid (R_c.out.below hb)
        replace HT := Lib.hid (HT.out.trans (hb.mono HT.out.size))
        clear hb
        have R_9 := Lib.hid hO.rgs
        clear hO hR hP
        go_wp2_with fail
        refine (meet_any _ _ k9 lc w16 R_9.out R_c.out (by omega) (by omega)).mono ?_
        rintro e w17 ⟨v10, k10, rfl, hO, hR, hP, hb⟩
        have n10 := right_len k10 0 (by omega) hR
        have Q_10 := Lib.hid hR; have P_10 := Lib.hid hP
        replace R_a := Lib.hid (R_a.out.below hb)
        replace R_b := Lib.hid (R_b.out.below hb)
        replace R_c := Lib.hid (R_c.out.below hb)
        replace R_9 := Lib.hid (R_9.out.below hb)
        replace HT := Lib.hid (HT.out.trans (hb.mono HT.out.size))
        clear hb
        have R_10 := Lib.hid hO.rgs
        clear hO hR hP
        go_wp2_with fail
        refine (meet_any _ _ lb lc w17 R_b.out R_c.out (by omega) (by omega)).mono ?_
        rintro e w18 ⟨v11, k11, rfl, hO, hR, hP, hb⟩
        have n11 := right_len k11 0 (by omega) hR
        have Q_11 := Lib.hid hR; have P_11 := Lib.hid hP
        replace R_a := Lib.hid (R_a.out.below hb)
        replace R_b := Lib.hid (R_b.out.below hb)
        replace R_c := Lib.hid (R_c.out.below hb)
        replace R_9 := Lib.hid (R_9.out.below hb)
        replace R_10 := Lib.hid (R_10.out.below hb)
        replace HT := Lib.hid (HT.out.trans (hb.mono HT.out.size))
        clear hb
        have R_11 := Lib.hid hO.rgs
        clear hO hR hP
        go_wp2_with fail
        refine (meet_any _ _ la k11 w18 R_a.out R_11.out (by omega) (by omega)).mono ?_
        rintro e w19 ⟨v12, k12, rfl, hO, hR, hP, hb⟩
        have n12 := right_len k12 0 (by omega) hR
        have Q_12 := Lib.hid hR; have P_12 := Lib.hid hP
        replace R_a := Lib.hid (R_a.out.below hb)
        replace R_b := Lib.hid (R_b.out.below hb)
        replace R_c := Lib.hid (R_c.out.below hb)
        replace R_9 := Lib.hid (R_9.out.below hb)
        replace R_10 := Lib.hid (R_10.out.below hb)
        replace R_11 := Lib.hid (R_11.out.below hb)
        replace HT := Lib.hid (HT.out.trans (hb.mono HT.out.size))
        clear hb
        have R_12 := Lib.hid hO.rgs
        clear hO hR hP
        go_wp2_with fail
        refine (rsame_any _ _ k10 k12 w19 R_10.out R_12.out).mono ?_
        rintro e w20 hs
        obtain ⟨B, rfl, hq, hb⟩ := Says.b hs
        obtain rfl : B = true := hq.2 (right_eq k10 k12 Q_10.out Q_12.out fun c => by
          have ja := fun h : HasR la c => And.intro h.1 h.2.1
          have jb := fun h : HasR lb c => And.intro h.1 h.2.1
          have jc := fun h : HasR lc c => And.intro h.1 h.2.1
          by_cases hr : 0 ≤ c ∧ c ≤ 1114111
          · obtain ⟨h0, h1⟩ := hr
            by_cases ia : HasR la c <;> by_cases ib : HasR lb c <;> by_cases ic : HasR lc c <;> simp [P_10.out, P_9.out, P_12.out, P_11.out, h0, h1, ia, ib, ic]
          · have h0 : 0 ≤ c → ¬ c ≤ 1114111 := fun a b => hr ⟨a, b⟩
            have ia : ¬ HasR la c := fun h => hr (ja h); have ib : ¬ HasR lb c := fun h => hr (jb h); have ic : ¬ HasR lc c := fun h => hr (jc h)
            have hr' : ∀ q : Prop, ¬ (0 ≤ c ∧ c ≤ 1114111 ∧ q) := fun q h => hr ⟨h.1, h.2.1⟩
            simp only [P_10.out, P_9.out, P_12.out, P_11.out, hr', ia, ib, ic, or_self, and_self]
        )
        clear hq hs
        replace R_a := Lib.hid (R_a.out.below hb)
        replace R_b := Lib.hid (R_b.out.below hb)
        replace R_c := Lib.hid (R_c.out.below hb)
        replace R_9 := Lib.hid (R_9.out.below hb)
        replace R_10 := Lib.hid (R_10.out.below hb)
        replace R_11 := Lib.hid (R_11.out.below hb)
        replace R_12 := Lib.hid (R_12.out.below hb)
        replace HT := Lib.hid (HT.out.trans (hb.mono HT.out.size))
        clear hb
        clear R_9
        clear R_10
        clear R_11
        clear R_12
        go_wp2_with fail
        refine (union_any _ _ la lb w20 R_a.out R_b.out (by omega) (by omega)).mono ?_
        rintro e w21 ⟨v13, k13, rfl, hO, hR, hP, hb⟩
        have n13 := right_len k13 0 (by omega) hR
        have Q_13 := Lib.hid hR; have P_13 := Lib.hid hP
        replace R_a := Lib.hid (R_a.out.below hb)
        replace R_b := Lib.hid (R_b.out.below hb)
        replace R_c := Lib.hid (R_c.out.below hb)
        replace HT := Lib.hid (HT.out.trans (hb.mono HT.out.size))
        clear hb
        have R_13 := Lib.hid hO.rgs
        clear hO hR hP
        go_wp2_with fail
        refine (meet_any _ _ k13 lc w21 R_13.out R_c.out (by omega) (by omega)).mono ?_
        rintro e w22 ⟨v14, k14, rfl, hO, hR, hP, hb⟩
        have n14 := right_len k14 0 (by omega) hR
        have Q_14 := Lib.hid hR; have P_14 := Lib.hid hP
        replace R_a := Lib.hid (R_a.out.below hb)
        replace R_b := Lib.hid (R_b.out.below hb)
        replace R_c := Lib.hid (R_c.out.below hb)
        replace R_13 := Lib.hid (R_13.out.below hb)
        replace HT := Lib.hid (HT.out.trans (hb.mono HT.out.size))
        clear hb
        have R_14 := Lib.hid hO.rgs
        clear hO hR hP
        go_wp2_with fail
        refine (meet_any _ _ la lc w22 R_a.out R_c.out (by omega) (by omega)).mono ?_
        rintro e w23 ⟨v15, k15, rfl, hO, hR, hP, hb⟩
        have n15 := right_len k15 0 (by omega) hR
        have Q_15 := Lib.hid hR; have P_15 := Lib.hid hP
        replace R_a := Lib.hid (R_a.out.below hb)
        replace R_b := Lib.hid (R_b.out.below hb)
        replace R_c := Lib.hid (R_c.out.below hb)
        replace R_13 := Lib.hid (R_13.out.below hb)
        replace R_14 := Lib.hid (R_14.out.below hb)
        replace HT := Lib.hid (HT.out.trans (hb.mono HT.out.size))
        clear hb
        have R_15 := Lib.hid hO.rgs
        clear hO hR hP
        go_wp2_with fail
        refine (meet_any _ _ lb lc w23 R_b.out R_c.out (by omega) (by omega)).mono ?_
        rintro e w24 ⟨v16, k16, rfl, hO, hR, hP, hb⟩
        have n16 := right_len k16 0 (by omega) hR
        have Q_16 := Lib.hid hR; have P_16 := Lib.hid hP
        replace R_a := Lib.hid (R_a.out.below hb)
        replace R_b := Lib.hid (R_b.out.below hb)
        replace R_c := Lib.hid (R_c.out.below hb)
        replace R_13 := Lib.hid (R_13.out.below hb)
        replace R_14 := Lib.hid (R_14.out.below hb)
        replace R_15 := Lib.hid (R_15.out.below hb)
        replace HT := Lib.hid (HT.out.trans (hb.mono HT.out.size))
        clear hb
        have R_16 := Lib.hid hO.rgs
        clear hO hR hP
        go_wp2_with fail
        refine (union_any _ _ k15 k16 w24 R_15.out R_16.out (by omega) (by omega)).mono ?_
        rintro e w25 ⟨v17, k17, rfl, hO, hR, hP, hb⟩
        have n17 := right_len k17 0 (by omega) hR
        have Q_17 := Lib.hid hR; have P_17 := Lib.hid hP
        replace R_a := Lib.hid (R_a.out.below hb)
        replace R_b := Lib.hid (R_b.out.below hb)
        replace R_c := Lib.hid (R_c.out.below hb)
        replace R_13 := Lib.hid (R_13.out.below hb)
        replace R_14 := Lib.hid (R_14.out.below hb)
        replace R_15 := Lib.hid (R_15.out.below hb)
        replace R_16 := Lib.hid (R_16.out.below hb)
        replace HT := Lib.hid (HT.out.trans (hb.mono HT.out.size))
        clear hb
        have R_17 := Lib.hid hO.rgs
        clear hO hR hP
        go_wp2_with fail
        refine (rsame_any _ _ k14 k17 w25 R_14.out R_17.out).mono ?_
        rintro e w26 hs
        obtain ⟨B, rfl, hq, hb⟩ := Says.b hs
        obtain rfl : B = true := hq.2 (right_eq k14 k17 Q_14.out Q_17.out fun c => by
          have ja := fun h : HasR la c => And.intro h.1 h.2.1
          have jb := fun h : HasR lb c => And.intro h.1 h.2.1
          have jc := fun h : HasR lc c => And.intro h.1 h.2.1
          by_cases hr : 0 ≤ c ∧ c ≤ 1114111
          · obtain ⟨h0, h1⟩ := hr
            by_cases ia : HasR la c <;> by_cases ib : HasR lb c <;> by_cases ic : HasR lc c <;> simp [P_14.out, P_13.out, P_17.out, P_15.out, P_16.out, h0, h1, ia, ib, ic]
          · have h0 : 0 ≤ c → ¬ c ≤ 1114111 := fun a b => hr ⟨a, b⟩
            have ia : ¬ HasR la c := fun h => hr (ja h); have ib : ¬ HasR lb c := fun h => hr (jb h); have ic : ¬ HasR lc c := fun h => hr (jc h)
            have hr' : ∀ q : Prop, ¬ (0 ≤ c ∧ c ≤ 1114111 ∧ q) := fun q h => hr ⟨h.1, h.2.1⟩
            simp only [P_14.out, P_13.out, P_17.out, P_15.out, P_16.out, hr', ia, ib, ic, or_self, and_self]
        )
        clear hq hs
        replace R_a := Lib.hid (R_a.out.below hb)
        replace R_b := Lib.hid (R_b.out.below hb)
        replace R_c := Lib.hid (R_c.out.below hb)
        replace R_13 := Lib.hid (R_13.out.below hb)
        replace R_14 := Lib.hid (R_14.out.below hb)
        replace R_15 := Lib.hid (R_15.out.below hb)
        replace R_16 := Lib.hid (R_16.out.below hb)
        replace R_17 := Lib.hid (R_17.out.below hb)
        replace HT := Lib.hid (HT.out.trans (hb.mono HT.out.size))
        clear hb
        clear R_13
        clear R_14
        clear R_15
        clear R_16
        clear R_17
        go_wp2_with fail
        refine (union_any _ _ la la w26 R_a.out R_a.out (by omega) (by omega)).mono ?_
        rintro e w27 ⟨v18, k18, rfl, hO, hR, hP, hb⟩
        have n18 := right_len k18 0 (by omega) hR
        have Q_18 := Lib.hid hR; have P_18 := Lib.hid hP
        replace R_a := Lib.hid (R_a.out.below hb)
        replace R_b := Lib.hid (R_b.out.below hb)
        replace R_c := Lib.hid (R_c.out.below hb)
        replace HT := Lib.hid (HT.out.trans (hb.mono HT.out.size))
        clear hb
        have R_18 := Lib.hid hO.rgs
        clear hO hR hP
        go_wp2_with fail
        refine (norm_any _ la w27 R_a.out (by omega)).mono ?_
        rintro e w28 ⟨v19, k19, rfl, hO, hR, hP, hb⟩
        have n19 := right_len k19 0 (by omega) hR
        have Q_19 := Lib.hid hR; have P_19 := Lib.hid hP
        replace R_a := Lib.hid (R_a.out.below hb)
        replace R_b := Lib.hid (R_b.out.below hb)
        replace R_c := Lib.hid (R_c.out.below hb)
        replace R_18 := Lib.hid (R_18.out.below hb)
        replace HT := Lib.hid (HT.out.trans (hb.mono HT.out.size))
        clear hb
        have R_19 := Lib.hid hO.rgs
        clear hO hR hP
        go_wp2_with fail
        refine (rsame_any _ _ k18 k19 w28 R_18.out R_19.out).mono ?_
        rintro e w29 hs
        obtain ⟨B, rfl, hq, hb⟩ := Says.b hs
        obtain rfl : B = true := hq.2 (right_eq k18 k19 Q_18.out Q_19.out fun c => by
          have ja := fun h : HasR la c => And.intro h.1 h.2.1
          by_cases hr : 0 ≤ c ∧ c ≤ 1114111
          · obtain ⟨h0, h1⟩ := hr
            by_cases ia : HasR la c <;> simp [P_18.out, P_19.out, h0, h1, ia]
          · have h0 : 0 ≤ c → ¬ c ≤ 1114111 := fun a b => hr ⟨a, b⟩
            have ia : ¬ HasR la c := fun h => hr (ja h)
            have hr' : ∀ q : Prop, ¬ (0 ≤ c ∧ c ≤ 1114111 ∧ q) := fun q h => hr ⟨h.1, h.2.1⟩
            simp only [P_18.out, P_19.out, hr', ia, or_self, and_self]
        )
        clear hq hs
        replace R_a := Lib.hid (R_a.out.below hb)
        replace R_b := Lib.hid (R_b.out.below hb)
        replace R_c := Lib.hid (R_c.out.below hb)
        replace R_18 := Lib.hid (R_18.out.below hb)
        replace R_19 := Lib.hid (R_19.out.below hb)
        replace HT := Lib.hid (HT.out.trans (hb.mono HT.out.size))
        clear hb
        clear R_18
        clear R_19
        go_wp2_with fail
        refine (meet_any _ _ la la w29 R_a.out R_a.out (by omega) (by omega)).mono ?_
        rintro e w30 ⟨v20, k20, rfl, hO, hR, hP, hb⟩
        have n20 := right_len k20 0 (by omega) hR
        have Q_20 := Lib.hid hR; have P_20 := Lib.hid hP
        replace R_a := Lib.hid (R_a.out.below hb)
        replace R_b := Lib.hid (R_b.out.below hb)
        replace R_c := Lib.hid (R_c.out.below hb)
        replace HT := Lib.hid (HT.out.trans (hb.mono HT.out.size))
        clear hb
        have R_20 := Lib.hid hO.rgs
        clear hO hR hP
        go_wp2_with fail
        refine (norm_any _ la w30 R_a.out (by omega)).mono ?_
        rintro e w31 ⟨v21, k21, rfl, hO, hR, hP, hb⟩
        have n21 := right_len k21 0 (by omega) hR
        have Q_21 := Lib.hid hR; have P_21 := Lib.hid hP
        replace R_a := Lib.hid (R_a.out.below hb)
        replace R_b := Lib.hid (R_b.out.below hb)
        replace R_c := Lib.hid (R_c.out.below hb)
        replace R_20 := Lib.hid (R_20.out.below hb)
        replace HT := Lib.hid (HT.out.trans (hb.mono HT.out.size))
        clear hb
        have R_21 := Lib.hid hO.rgs
        clear hO hR hP
        go_wp2_with fail
        refine (rsame_any _ _ k20 k21 w31 R_20.out R_21.out).mono ?_
        rintro e w32 hs
        obtain ⟨B, rfl, hq, hb⟩ := Says.b hs
        obtain rfl : B = true := hq.2 (right_eq k20 k21 Q_20.out Q_21.out fun c => by
          have ja := fun h : HasR la c => And.intro h.1 h.2.1
          by_cases hr : 0 ≤ c ∧ c ≤ 1114111
          · obtain ⟨h0, h1⟩ := hr
            by_cases ia : HasR la c <;> simp [P_20.out, P_21.out, h0, h1, ia]
          · have h0 : 0 ≤ c → ¬ c ≤ 1114111 := fun a b => hr ⟨a, b⟩
            have ia : ¬ HasR la c := fun h => hr (ja h)
            have hr' : ∀ q : Prop, ¬ (0 ≤ c ∧ c ≤ 1114111 ∧ q) := fun q h => hr ⟨h.1, h.2.1⟩
            simp only [P_20.out, P_21.out, hr', ia, or_self, and_self]
        )
        clear hq hs
        replace R_a := Lib.hid (R_a.out.below hb)
        replace R_b := Lib.hid (R_b.out.below hb)
        replace R_c := Lib.hid (R_c.out.below hb)
        replace R_20 := Lib.hid (R_20.out.below hb)
        replace R_21 := Lib.hid (R_21.out.below hb)
        replace HT := Lib.hid (HT.out.trans (hb.mono HT.out.size))
        clear hb
        clear R_20
        clear R_21
        go_wp2_with fail
        go_ret
        exact ⟨rfl, HT.out⟩
end Go.Proofs.Ytghpmlkihgiabaa
