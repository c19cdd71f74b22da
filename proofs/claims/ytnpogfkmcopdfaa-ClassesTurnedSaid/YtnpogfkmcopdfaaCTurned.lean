/- What is turned has all runes that the other one does not have. From the program's contracts. -/
import Derived.Test.YtnpogfkmcopdfaaCLaws
set_option linter.unusedVariables false
namespace Go.Proofs.Ytnpogfkmcopdfaa
open Go Go.RowKit

theorem opt_len {o : Option (List (Int × Int))} (h : ∀ l, o = some l → RightR l) : RightR (o.getD []) ∧ (o.getD []).length ≤ 1099511627776 := by
  have hr : RightR (o.getD []) := by
    cases o with
    | none => exact nil_right
    | some l => exact h l rfl
  exact ⟨hr, by have := right_len _ 0 (by omega) hr; omega⟩

set_option maxHeartbeats 800000 in
/-- other, of a set and what it does not have. -/
theorem cother_any (va vb : Value) (l k : List (Int × Int)) (w : World) (ha : Rgs w va l) (hb : Rgs w vb k) (hr : RightR l) (hn : l.length ≤ 1099511627776) (hk : k = notR l) :
    Calls Try.prog 18 #[va, vb] w fun e w' => e = .returned (.bool true) ∧ Below w.heap.size w w' := by
  have HB := Lib.hid hb; have HK := Lib.hid hk
  have HN := Lib.hid (rnotR_any va l w ha hr hn)
  clear ha hb hr hn hk
  go_enter Try.func18, Try.ntmps18
  go_wp2_with fail
  refine HN.out.mono ?_
  rintro e w1 ⟨v1, rfl, ho, hb⟩
  replace HB := Lib.hid (HB.out.below hb)
  have R1 := Lib.hid ho.rgs; have HT := Lib.hid hb
  clear ho hb HN
  go_wp2_with fail
  refine (rsame_any v1 vb _ k w1 R1.out HB.out).mono ?_
  rintro e w2 ⟨B, rfl, hq, q, rfl⟩
  obtain rfl : B = true := hq.2 HK.out.symm
  have HT2 := Lib.hid (below_drewNr HT.out q)
  clear hq
  go_wp2_with fail
  go_ret
  exact ⟨rfl, HT2.out⟩

theorem right_small {l : List (Int × Int)} (h : RightR l) : l.length ≤ 1099511627776 := by
  have := right_len l 0 (by omega) h
  omega
theorem cat_of (s : ByteArray) : ((⟨#[94]⟩ : ByteArray) ++ s).toList = 94 :: s.toList := by
  rw [Lib.toList_data, Lib.toList_data]
  simp
set_option maxHeartbeats 8000000 in
set_option maxRecDepth 100000 in
theorem cturned_any (w : World) (c : Int) (s : ByteArray) (n : Bool) (hs : s.size ≤ 140737488355328) : Calls Try.prog 6 #[.int .u8 c, .string s, .bool n] w fun e w' => e = .returned (.bool true) ∧ Below w.heap.size w w' := by
  go_enter Try.func6, Try.ntmps6
  go_wp2_with fail
  refine (chead_any w).mono ?_
  rintro e w1 ⟨rfl, hb⟩
  have HT := Lib.hid hb
  clear hb
  by_cases c0 : 97 ≤ c ∧ c ≤ 122
  · obtain ⟨c0, c1⟩ := c0
    have HPT := Lib.hid (perl_turn c c0 c1)
    have hwr : IntKind.u8.wrap (c - 32) = c - 32 := by unfold IntKind.wrap; simp [IntKind.bits, IntKind.signed]; omega
    go_wp2_with fail
    refine (perl_any c _).mono ?_
    intro e w2 hp
    by_cases hn : perlR c = none
    · rw [hn] at hp
      obtain ⟨v2, rfl, ho, hb⟩ := post2_form hp
      have HN := Lib.hid hn
      replace HT := Lib.hid (HT.out.trans (hb.mono HT.out.size))
      clear ho hb hp hn
      simp only [Option.isSome_none]
      go_wp2_with fail
      refine (perl_any (c - 32) _).mono ?_
      intro e w3 hp
      rw [HPT.out, HN.out] at hp
      obtain ⟨v3, rfl, ho, hb⟩ := post2_form hp
      replace HT := Lib.hid (HT.out.trans (hb.mono HT.out.size))
      clear ho hb hp HN
      simp only [Option.map_none, Option.isSome_none]
      by_cases h0 : 0 < s.size
      · have hb := byte_94 s[0]
        by_cases hx : s[0] = 94
        · rw [decide_eq_true hx] at hb
          clear hx
          go_wp2_with fail
          go_ret
          exact ⟨rfl, HT.out⟩
        · rw [decide_eq_false hx] at hb
          have hh : s.toList.head? ≠ some 94 := by
            rw [head_of s h0]
            exact fun e => hx (Option.some.inj e)
          have HPH := Lib.hid (posix_hat s.toList hh)
          have HRH := Lib.hid ((prop_hat s.toList n hh).trans (prop_turn s.toList n))
          have HRT := Lib.hid (prop_turn s.toList n)
          have hc1 : ¬ (9223372036854775807 < 1 + s.size) := by omega
          have hc2 : ¬ (9223372036854775807 < (⟨#[94]⟩ : ByteArray).size + s.size) := hc1
          clear hh hx
          as_aux_lemma =>
            go_wp2_with fail
            refine (posix_any s _).mono ?_
            intro e wp hp
            by_cases hn : posixR s.toList = none
            · rw [hn] at hp
              obtain ⟨vp, rfl, ho, hb⟩ := post2_form hp
              have HN := Lib.hid hn
              replace HT := Lib.hid (HT.out.trans (hb.mono HT.out.size))
              clear ho hb hp hn
              simp only [Option.isSome_none]
              go_wp2_with fail
              refine (posix_any _ _).mono ?_
              intro e wq hp
              rw [cat_of, HPH.out, HN.out] at hp
              obtain ⟨vq, rfl, ho, hb⟩ := post2_form hp
              replace HT := Lib.hid (HT.out.trans (hb.mono HT.out.size))
              clear ho hb hp HN
              simp only [Option.map_none, Option.isSome_none]
              go_wp2_with fail
              refine (prop_any s n _).mono ?_
              intro e wp hp
              by_cases hn : propR s.toList n = none
              · rw [hn] at hp
                obtain ⟨vp, rfl, ho, hb⟩ := post2_form hp
                have HN := Lib.hid hn
                replace HT := Lib.hid (HT.out.trans (hb.mono HT.out.size))
                clear ho hb hp hn
                simp only [Option.isSome_none]
                go_wp2_with fail
                refine (prop_any _ n _).mono ?_
                intro e wq hp
                rw [cat_of, HRH.out, HN.out] at hp
                obtain ⟨vq, rfl, ho, hb⟩ := post2_form hp
                replace HT := Lib.hid (HT.out.trans (hb.mono HT.out.size))
                clear ho hb hp
                simp only [Option.map_none, Option.isSome_none]
                go_wp2_with fail
                refine (prop_any s (!n) _).mono ?_
                intro e wx hp
                rw [HRT.out, HN.out] at hp
                obtain ⟨vx, rfl, ho, hb⟩ := post2_form hp
                replace HT := Lib.hid (HT.out.trans (hb.mono HT.out.size))
                clear ho hb hp HN
                simp only [Option.map_none, Option.isSome_none]
                go_wp2_with fail
                go_ret
                exact ⟨rfl, HT.out⟩
              · obtain ⟨l, hl⟩ := Option.ne_none_iff_exists'.1 hn
                rw [hl] at hp
                obtain ⟨vp, rfl, ho, hb⟩ := post2_form hp
                have HN := Lib.hid hl; have R1 := Lib.hid (show Rgs _ vp l from ho.rgs); have RR := Lib.hid (prop_right hl)
                replace HT := Lib.hid (HT.out.trans (hb.mono HT.out.size))
                clear ho hb hp hn hl
                simp only [Option.isSome_some]
                go_wp2_with fail
                refine (prop_any _ n _).mono ?_
                intro e wq hp
                rw [cat_of, HRH.out, HN.out] at hp
                obtain ⟨vq, rfl, ho, hb⟩ := post2_form hp
                replace R1 := Lib.hid (R1.out.below hb)
                have R2 := Lib.hid (show Rgs _ vq (notR l) from ho.rgs)
                replace HT := Lib.hid (HT.out.trans (hb.mono HT.out.size))
                clear ho hb hp
                simp only [Option.map_some, Option.isSome_some]
                go_wp2_with fail
                refine (prop_any s (!n) _).mono ?_
                intro e wx hp
                rw [HRT.out, HN.out] at hp
                obtain ⟨vx, rfl, ho, hb⟩ := post2_form hp
                replace R1 := Lib.hid (R1.out.below hb)
                replace R2 := Lib.hid (R2.out.below hb)
                have R3 := Lib.hid (show Rgs _ vx (notR l) from ho.rgs)
                replace HT := Lib.hid (HT.out.trans (hb.mono HT.out.size))
                clear ho hb hp HN
                simp only [Option.map_some, Option.isSome_some]
                go_wp2_with fail
                refine (cother_any vp vq l _ wx R1.out R2.out RR.out (right_small RR.out) rfl).mono ?_
                rintro e wr ⟨rfl, hb⟩
                replace R2 := Lib.hid (R2.out.below hb)
                replace R3 := Lib.hid (R3.out.below hb)
                replace HT := Lib.hid (HT.out.trans (hb.mono HT.out.size))
                clear hb R1 RR
                go_wp2_with fail
                refine (rsame_any vq vx _ _ wr R2.out R3.out).mono ?_
                rintro e wy ⟨B, rfl, hq, q, rfl⟩
                obtain rfl : B = true := hq.2 rfl
                have HT2 := Lib.hid (below_drewNr HT.out q)
                clear hq
                go_wp2_with fail
                go_ret
                exact ⟨rfl, HT2.out⟩
            · obtain ⟨l, hl⟩ := Option.ne_none_iff_exists'.1 hn
              rw [hl] at hp
              obtain ⟨vp, rfl, ho, hb⟩ := post2_form hp
              have HN := Lib.hid hl; have R1 := Lib.hid (show Rgs _ vp l from ho.rgs); have RR := Lib.hid (posix_right hl)
              replace HT := Lib.hid (HT.out.trans (hb.mono HT.out.size))
              clear ho hb hp hn hl
              simp only [Option.isSome_some]
              go_wp2_with fail
              refine (posix_any _ _).mono ?_
              intro e wq hp
              rw [cat_of, HPH.out, HN.out] at hp
              obtain ⟨vq, rfl, ho, hb⟩ := post2_form hp
              replace R1 := Lib.hid (R1.out.below hb)
              have R2 := Lib.hid (show Rgs _ vq (notR l) from ho.rgs)
              replace HT := Lib.hid (HT.out.trans (hb.mono HT.out.size))
              clear ho hb hp HN
              simp only [Option.map_some, Option.isSome_some]
              go_wp2_with fail
              refine (cother_any vp vq l _ wq R1.out R2.out RR.out (right_small RR.out) rfl).mono ?_
              rintro e wr ⟨rfl, hb⟩
              replace HT := Lib.hid (HT.out.trans (hb.mono HT.out.size))
              clear hb R1 R2 RR
              go_wp2_with fail
              refine (prop_any s n _).mono ?_
              intro e wp hp
              by_cases hn : propR s.toList n = none
              · rw [hn] at hp
                obtain ⟨vp, rfl, ho, hb⟩ := post2_form hp
                have HN := Lib.hid hn
                replace HT := Lib.hid (HT.out.trans (hb.mono HT.out.size))
                clear ho hb hp hn
                simp only [Option.isSome_none]
                go_wp2_with fail
                refine (prop_any _ n _).mono ?_
                intro e wq hp
                rw [cat_of, HRH.out, HN.out] at hp
                obtain ⟨vq, rfl, ho, hb⟩ := post2_form hp
                replace HT := Lib.hid (HT.out.trans (hb.mono HT.out.size))
                clear ho hb hp
                simp only [Option.map_none, Option.isSome_none]
                go_wp2_with fail
                refine (prop_any s (!n) _).mono ?_
                intro e wx hp
                rw [HRT.out, HN.out] at hp
                obtain ⟨vx, rfl, ho, hb⟩ := post2_form hp
                replace HT := Lib.hid (HT.out.trans (hb.mono HT.out.size))
                clear ho hb hp HN
                simp only [Option.map_none, Option.isSome_none]
                go_wp2_with fail
                go_ret
                exact ⟨rfl, HT.out⟩
              · obtain ⟨l, hl⟩ := Option.ne_none_iff_exists'.1 hn
                rw [hl] at hp
                obtain ⟨vp, rfl, ho, hb⟩ := post2_form hp
                have HN := Lib.hid hl; have R1 := Lib.hid (show Rgs _ vp l from ho.rgs); have RR := Lib.hid (prop_right hl)
                replace HT := Lib.hid (HT.out.trans (hb.mono HT.out.size))
                clear ho hb hp hn hl
                simp only [Option.isSome_some]
                go_wp2_with fail
                refine (prop_any _ n _).mono ?_
                intro e wq hp
                rw [cat_of, HRH.out, HN.out] at hp
                obtain ⟨vq, rfl, ho, hb⟩ := post2_form hp
                replace R1 := Lib.hid (R1.out.below hb)
                have R2 := Lib.hid (show Rgs _ vq (notR l) from ho.rgs)
                replace HT := Lib.hid (HT.out.trans (hb.mono HT.out.size))
                clear ho hb hp
                simp only [Option.map_some, Option.isSome_some]
                go_wp2_with fail
                refine (prop_any s (!n) _).mono ?_
                intro e wx hp
                rw [HRT.out, HN.out] at hp
                obtain ⟨vx, rfl, ho, hb⟩ := post2_form hp
                replace R1 := Lib.hid (R1.out.below hb)
                replace R2 := Lib.hid (R2.out.below hb)
                have R3 := Lib.hid (show Rgs _ vx (notR l) from ho.rgs)
                replace HT := Lib.hid (HT.out.trans (hb.mono HT.out.size))
                clear ho hb hp HN
                simp only [Option.map_some, Option.isSome_some]
                go_wp2_with fail
                refine (cother_any vp vq l _ wx R1.out R2.out RR.out (right_small RR.out) rfl).mono ?_
                rintro e wr ⟨rfl, hb⟩
                replace R2 := Lib.hid (R2.out.below hb)
                replace R3 := Lib.hid (R3.out.below hb)
                replace HT := Lib.hid (HT.out.trans (hb.mono HT.out.size))
                clear hb R1 RR
                go_wp2_with fail
                refine (rsame_any vq vx _ _ wr R2.out R3.out).mono ?_
                rintro e wy ⟨B, rfl, hq, q, rfl⟩
                obtain rfl : B = true := hq.2 rfl
                have HT2 := Lib.hid (below_drewNr HT.out q)
                clear hq
                go_wp2_with fail
                go_ret
                exact ⟨rfl, HT2.out⟩
      · have hz : s.size = 0 := by omega
        have hh : s.toList.head? ≠ some 94 := by
          rw [empty_of s h0]
          decide
        have HPH := Lib.hid (posix_hat s.toList hh)
        have HRH := Lib.hid ((prop_hat s.toList n hh).trans (prop_turn s.toList n))
        have HRT := Lib.hid (prop_turn s.toList n)
        have hc1 : ¬ (9223372036854775807 < 1 + s.size) := by omega
        have hc2 : ¬ (9223372036854775807 < (⟨#[94]⟩ : ByteArray).size + s.size) := hc1
        clear hh h0
        as_aux_lemma =>
          go_wp2_with fail
          refine (posix_any s _).mono ?_
          intro e wp hp
          by_cases hn : posixR s.toList = none
          · rw [hn] at hp
            obtain ⟨vp, rfl, ho, hb⟩ := post2_form hp
            have HN := Lib.hid hn
            replace HT := Lib.hid (HT.out.trans (hb.mono HT.out.size))
            clear ho hb hp hn
            simp only [Option.isSome_none]
            go_wp2_with fail
            refine (posix_any _ _).mono ?_
            intro e wq hp
            rw [cat_of, HPH.out, HN.out] at hp
            obtain ⟨vq, rfl, ho, hb⟩ := post2_form hp
            replace HT := Lib.hid (HT.out.trans (hb.mono HT.out.size))
            clear ho hb hp HN
            simp only [Option.map_none, Option.isSome_none]
            go_wp2_with fail
            refine (prop_any s n _).mono ?_
            intro e wp hp
            by_cases hn : propR s.toList n = none
            · rw [hn] at hp
              obtain ⟨vp, rfl, ho, hb⟩ := post2_form hp
              have HN := Lib.hid hn
              replace HT := Lib.hid (HT.out.trans (hb.mono HT.out.size))
              clear ho hb hp hn
              simp only [Option.isSome_none]
              go_wp2_with fail
              refine (prop_any _ n _).mono ?_
              intro e wq hp
              rw [cat_of, HRH.out, HN.out] at hp
              obtain ⟨vq, rfl, ho, hb⟩ := post2_form hp
              replace HT := Lib.hid (HT.out.trans (hb.mono HT.out.size))
              clear ho hb hp
              simp only [Option.map_none, Option.isSome_none]
              go_wp2_with fail
              refine (prop_any s (!n) _).mono ?_
              intro e wx hp
              rw [HRT.out, HN.out] at hp
              obtain ⟨vx, rfl, ho, hb⟩ := post2_form hp
              replace HT := Lib.hid (HT.out.trans (hb.mono HT.out.size))
              clear ho hb hp HN
              simp only [Option.map_none, Option.isSome_none]
              go_wp2_with fail
              go_ret
              exact ⟨rfl, HT.out⟩
            · obtain ⟨l, hl⟩ := Option.ne_none_iff_exists'.1 hn
              rw [hl] at hp
              obtain ⟨vp, rfl, ho, hb⟩ := post2_form hp
              have HN := Lib.hid hl; have R1 := Lib.hid (show Rgs _ vp l from ho.rgs); have RR := Lib.hid (prop_right hl)
              replace HT := Lib.hid (HT.out.trans (hb.mono HT.out.size))
              clear ho hb hp hn hl
              simp only [Option.isSome_some]
              go_wp2_with fail
              refine (prop_any _ n _).mono ?_
              intro e wq hp
              rw [cat_of, HRH.out, HN.out] at hp
              obtain ⟨vq, rfl, ho, hb⟩ := post2_form hp
              replace R1 := Lib.hid (R1.out.below hb)
              have R2 := Lib.hid (show Rgs _ vq (notR l) from ho.rgs)
              replace HT := Lib.hid (HT.out.trans (hb.mono HT.out.size))
              clear ho hb hp
              simp only [Option.map_some, Option.isSome_some]
              go_wp2_with fail
              refine (prop_any s (!n) _).mono ?_
              intro e wx hp
              rw [HRT.out, HN.out] at hp
              obtain ⟨vx, rfl, ho, hb⟩ := post2_form hp
              replace R1 := Lib.hid (R1.out.below hb)
              replace R2 := Lib.hid (R2.out.below hb)
              have R3 := Lib.hid (show Rgs _ vx (notR l) from ho.rgs)
              replace HT := Lib.hid (HT.out.trans (hb.mono HT.out.size))
              clear ho hb hp HN
              simp only [Option.map_some, Option.isSome_some]
              go_wp2_with fail
              refine (cother_any vp vq l _ wx R1.out R2.out RR.out (right_small RR.out) rfl).mono ?_
              rintro e wr ⟨rfl, hb⟩
              replace R2 := Lib.hid (R2.out.below hb)
              replace R3 := Lib.hid (R3.out.below hb)
              replace HT := Lib.hid (HT.out.trans (hb.mono HT.out.size))
              clear hb R1 RR
              go_wp2_with fail
              refine (rsame_any vq vx _ _ wr R2.out R3.out).mono ?_
              rintro e wy ⟨B, rfl, hq, q, rfl⟩
              obtain rfl : B = true := hq.2 rfl
              have HT2 := Lib.hid (below_drewNr HT.out q)
              clear hq
              go_wp2_with fail
              go_ret
              exact ⟨rfl, HT2.out⟩
          · obtain ⟨l, hl⟩ := Option.ne_none_iff_exists'.1 hn
            rw [hl] at hp
            obtain ⟨vp, rfl, ho, hb⟩ := post2_form hp
            have HN := Lib.hid hl; have R1 := Lib.hid (show Rgs _ vp l from ho.rgs); have RR := Lib.hid (posix_right hl)
            replace HT := Lib.hid (HT.out.trans (hb.mono HT.out.size))
            clear ho hb hp hn hl
            simp only [Option.isSome_some]
            go_wp2_with fail
            refine (posix_any _ _).mono ?_
            intro e wq hp
            rw [cat_of, HPH.out, HN.out] at hp
            obtain ⟨vq, rfl, ho, hb⟩ := post2_form hp
            replace R1 := Lib.hid (R1.out.below hb)
            have R2 := Lib.hid (show Rgs _ vq (notR l) from ho.rgs)
            replace HT := Lib.hid (HT.out.trans (hb.mono HT.out.size))
            clear ho hb hp HN
            simp only [Option.map_some, Option.isSome_some]
            go_wp2_with fail
            refine (cother_any vp vq l _ wq R1.out R2.out RR.out (right_small RR.out) rfl).mono ?_
            rintro e wr ⟨rfl, hb⟩
            replace HT := Lib.hid (HT.out.trans (hb.mono HT.out.size))
            clear hb R1 R2 RR
            go_wp2_with fail
            refine (prop_any s n _).mono ?_
            intro e wp hp
            by_cases hn : propR s.toList n = none
            · rw [hn] at hp
              obtain ⟨vp, rfl, ho, hb⟩ := post2_form hp
              have HN := Lib.hid hn
              replace HT := Lib.hid (HT.out.trans (hb.mono HT.out.size))
              clear ho hb hp hn
              simp only [Option.isSome_none]
              go_wp2_with fail
              refine (prop_any _ n _).mono ?_
              intro e wq hp
              rw [cat_of, HRH.out, HN.out] at hp
              obtain ⟨vq, rfl, ho, hb⟩ := post2_form hp
              replace HT := Lib.hid (HT.out.trans (hb.mono HT.out.size))
              clear ho hb hp
              simp only [Option.map_none, Option.isSome_none]
              go_wp2_with fail
              refine (prop_any s (!n) _).mono ?_
              intro e wx hp
              rw [HRT.out, HN.out] at hp
              obtain ⟨vx, rfl, ho, hb⟩ := post2_form hp
              replace HT := Lib.hid (HT.out.trans (hb.mono HT.out.size))
              clear ho hb hp HN
              simp only [Option.map_none, Option.isSome_none]
              go_wp2_with fail
              go_ret
              exact ⟨rfl, HT.out⟩
            · obtain ⟨l, hl⟩ := Option.ne_none_iff_exists'.1 hn
              rw [hl] at hp
              obtain ⟨vp, rfl, ho, hb⟩ := post2_form hp
              have HN := Lib.hid hl; have R1 := Lib.hid (show Rgs _ vp l from ho.rgs); have RR := Lib.hid (prop_right hl)
              replace HT := Lib.hid (HT.out.trans (hb.mono HT.out.size))
              clear ho hb hp hn hl
              simp only [Option.isSome_some]
              go_wp2_with fail
              refine (prop_any _ n _).mono ?_
              intro e wq hp
              rw [cat_of, HRH.out, HN.out] at hp
              obtain ⟨vq, rfl, ho, hb⟩ := post2_form hp
              replace R1 := Lib.hid (R1.out.below hb)
              have R2 := Lib.hid (show Rgs _ vq (notR l) from ho.rgs)
              replace HT := Lib.hid (HT.out.trans (hb.mono HT.out.size))
              clear ho hb hp
              simp only [Option.map_some, Option.isSome_some]
              go_wp2_with fail
              refine (prop_any s (!n) _).mono ?_
              intro e wx hp
              rw [HRT.out, HN.out] at hp
              obtain ⟨vx, rfl, ho, hb⟩ := post2_form hp
              replace R1 := Lib.hid (R1.out.below hb)
              replace R2 := Lib.hid (R2.out.below hb)
              have R3 := Lib.hid (show Rgs _ vx (notR l) from ho.rgs)
              replace HT := Lib.hid (HT.out.trans (hb.mono HT.out.size))
              clear ho hb hp HN
              simp only [Option.map_some, Option.isSome_some]
              go_wp2_with fail
              refine (cother_any vp vq l _ wx R1.out R2.out RR.out (right_small RR.out) rfl).mono ?_
              rintro e wr ⟨rfl, hb⟩
              replace R2 := Lib.hid (R2.out.below hb)
              replace R3 := Lib.hid (R3.out.below hb)
              replace HT := Lib.hid (HT.out.trans (hb.mono HT.out.size))
              clear hb R1 RR
              go_wp2_with fail
              refine (rsame_any vq vx _ _ wr R2.out R3.out).mono ?_
              rintro e wy ⟨B, rfl, hq, q, rfl⟩
              obtain rfl : B = true := hq.2 rfl
              have HT2 := Lib.hid (below_drewNr HT.out q)
              clear hq
              go_wp2_with fail
              go_ret
              exact ⟨rfl, HT2.out⟩
    · obtain ⟨l, hl⟩ := Option.ne_none_iff_exists'.1 hn
      rw [hl] at hp
      obtain ⟨v2, rfl, ho, hb⟩ := post2_form hp
      have HN := Lib.hid hl; have R1 := Lib.hid (show Rgs _ v2 l from ho.rgs); have RR := Lib.hid (perl_right hl)
      replace HT := Lib.hid (HT.out.trans (hb.mono HT.out.size))
      clear ho hb hp hn hl
      simp only [Option.isSome_some]
      go_wp2_with fail
      refine (perl_any (c - 32) _).mono ?_
      intro e w3 hp
      rw [HPT.out, HN.out] at hp
      obtain ⟨v3, rfl, ho, hb⟩ := post2_form hp
      replace R1 := Lib.hid (R1.out.below hb)
      have R2 := Lib.hid (show Rgs _ v3 (notR l) from ho.rgs)
      replace HT := Lib.hid (HT.out.trans (hb.mono HT.out.size))
      clear ho hb hp HN
      simp only [Option.map_some, Option.isSome_some]
      go_wp2_with fail
      refine (cother_any v2 v3 l _ w3 R1.out R2.out RR.out (right_small RR.out) rfl).mono ?_
      rintro e w4 ⟨rfl, hb⟩
      replace HT := Lib.hid (HT.out.trans (hb.mono HT.out.size))
      clear hb R1 R2 RR
      by_cases h0 : 0 < s.size
      · have hb := byte_94 s[0]
        by_cases hx : s[0] = 94
        · rw [decide_eq_true hx] at hb
          clear hx
          go_wp2_with fail
          go_ret
          exact ⟨rfl, HT.out⟩
        · rw [decide_eq_false hx] at hb
          have hh : s.toList.head? ≠ some 94 := by
            rw [head_of s h0]
            exact fun e => hx (Option.some.inj e)
          have HPH := Lib.hid (posix_hat s.toList hh)
          have HRH := Lib.hid ((prop_hat s.toList n hh).trans (prop_turn s.toList n))
          have HRT := Lib.hid (prop_turn s.toList n)
          have hc1 : ¬ (9223372036854775807 < 1 + s.size) := by omega
          have hc2 : ¬ (9223372036854775807 < (⟨#[94]⟩ : ByteArray).size + s.size) := hc1
          clear hh hx
          as_aux_lemma =>
            go_wp2_with fail
            refine (posix_any s _).mono ?_
            intro e wp hp
            by_cases hn : posixR s.toList = none
            · rw [hn] at hp
              obtain ⟨vp, rfl, ho, hb⟩ := post2_form hp
              have HN := Lib.hid hn
              replace HT := Lib.hid (HT.out.trans (hb.mono HT.out.size))
              clear ho hb hp hn
              simp only [Option.isSome_none]
              go_wp2_with fail
              refine (posix_any _ _).mono ?_
              intro e wq hp
              rw [cat_of, HPH.out, HN.out] at hp
              obtain ⟨vq, rfl, ho, hb⟩ := post2_form hp
              replace HT := Lib.hid (HT.out.trans (hb.mono HT.out.size))
              clear ho hb hp HN
              simp only [Option.map_none, Option.isSome_none]
              go_wp2_with fail
              refine (prop_any s n _).mono ?_
              intro e wp hp
              by_cases hn : propR s.toList n = none
              · rw [hn] at hp
                obtain ⟨vp, rfl, ho, hb⟩ := post2_form hp
                have HN := Lib.hid hn
                replace HT := Lib.hid (HT.out.trans (hb.mono HT.out.size))
                clear ho hb hp hn
                simp only [Option.isSome_none]
                go_wp2_with fail
                refine (prop_any _ n _).mono ?_
                intro e wq hp
                rw [cat_of, HRH.out, HN.out] at hp
                obtain ⟨vq, rfl, ho, hb⟩ := post2_form hp
                replace HT := Lib.hid (HT.out.trans (hb.mono HT.out.size))
                clear ho hb hp
                simp only [Option.map_none, Option.isSome_none]
                go_wp2_with fail
                refine (prop_any s (!n) _).mono ?_
                intro e wx hp
                rw [HRT.out, HN.out] at hp
                obtain ⟨vx, rfl, ho, hb⟩ := post2_form hp
                replace HT := Lib.hid (HT.out.trans (hb.mono HT.out.size))
                clear ho hb hp HN
                simp only [Option.map_none, Option.isSome_none]
                go_wp2_with fail
                go_ret
                exact ⟨rfl, HT.out⟩
              · obtain ⟨l, hl⟩ := Option.ne_none_iff_exists'.1 hn
                rw [hl] at hp
                obtain ⟨vp, rfl, ho, hb⟩ := post2_form hp
                have HN := Lib.hid hl; have R1 := Lib.hid (show Rgs _ vp l from ho.rgs); have RR := Lib.hid (prop_right hl)
                replace HT := Lib.hid (HT.out.trans (hb.mono HT.out.size))
                clear ho hb hp hn hl
                simp only [Option.isSome_some]
                go_wp2_with fail
                refine (prop_any _ n _).mono ?_
                intro e wq hp
                rw [cat_of, HRH.out, HN.out] at hp
                obtain ⟨vq, rfl, ho, hb⟩ := post2_form hp
                replace R1 := Lib.hid (R1.out.below hb)
                have R2 := Lib.hid (show Rgs _ vq (notR l) from ho.rgs)
                replace HT := Lib.hid (HT.out.trans (hb.mono HT.out.size))
                clear ho hb hp
                simp only [Option.map_some, Option.isSome_some]
                go_wp2_with fail
                refine (prop_any s (!n) _).mono ?_
                intro e wx hp
                rw [HRT.out, HN.out] at hp
                obtain ⟨vx, rfl, ho, hb⟩ := post2_form hp
                replace R1 := Lib.hid (R1.out.below hb)
                replace R2 := Lib.hid (R2.out.below hb)
                have R3 := Lib.hid (show Rgs _ vx (notR l) from ho.rgs)
                replace HT := Lib.hid (HT.out.trans (hb.mono HT.out.size))
                clear ho hb hp HN
                simp only [Option.map_some, Option.isSome_some]
                go_wp2_with fail
                refine (cother_any vp vq l _ wx R1.out R2.out RR.out (right_small RR.out) rfl).mono ?_
                rintro e wr ⟨rfl, hb⟩
                replace R2 := Lib.hid (R2.out.below hb)
                replace R3 := Lib.hid (R3.out.below hb)
                replace HT := Lib.hid (HT.out.trans (hb.mono HT.out.size))
                clear hb R1 RR
                go_wp2_with fail
                refine (rsame_any vq vx _ _ wr R2.out R3.out).mono ?_
                rintro e wy ⟨B, rfl, hq, q, rfl⟩
                obtain rfl : B = true := hq.2 rfl
                have HT2 := Lib.hid (below_drewNr HT.out q)
                clear hq
                go_wp2_with fail
                go_ret
                exact ⟨rfl, HT2.out⟩
            · obtain ⟨l, hl⟩ := Option.ne_none_iff_exists'.1 hn
              rw [hl] at hp
              obtain ⟨vp, rfl, ho, hb⟩ := post2_form hp
              have HN := Lib.hid hl; have R1 := Lib.hid (show Rgs _ vp l from ho.rgs); have RR := Lib.hid (posix_right hl)
              replace HT := Lib.hid (HT.out.trans (hb.mono HT.out.size))
              clear ho hb hp hn hl
              simp only [Option.isSome_some]
              go_wp2_with fail
              refine (posix_any _ _).mono ?_
              intro e wq hp
              rw [cat_of, HPH.out, HN.out] at hp
              obtain ⟨vq, rfl, ho, hb⟩ := post2_form hp
              replace R1 := Lib.hid (R1.out.below hb)
              have R2 := Lib.hid (show Rgs _ vq (notR l) from ho.rgs)
              replace HT := Lib.hid (HT.out.trans (hb.mono HT.out.size))
              clear ho hb hp HN
              simp only [Option.map_some, Option.isSome_some]
              go_wp2_with fail
              refine (cother_any vp vq l _ wq R1.out R2.out RR.out (right_small RR.out) rfl).mono ?_
              rintro e wr ⟨rfl, hb⟩
              replace HT := Lib.hid (HT.out.trans (hb.mono HT.out.size))
              clear hb R1 R2 RR
              go_wp2_with fail
              refine (prop_any s n _).mono ?_
              intro e wp hp
              by_cases hn : propR s.toList n = none
              · rw [hn] at hp
                obtain ⟨vp, rfl, ho, hb⟩ := post2_form hp
                have HN := Lib.hid hn
                replace HT := Lib.hid (HT.out.trans (hb.mono HT.out.size))
                clear ho hb hp hn
                simp only [Option.isSome_none]
                go_wp2_with fail
                refine (prop_any _ n _).mono ?_
                intro e wq hp
                rw [cat_of, HRH.out, HN.out] at hp
                obtain ⟨vq, rfl, ho, hb⟩ := post2_form hp
                replace HT := Lib.hid (HT.out.trans (hb.mono HT.out.size))
                clear ho hb hp
                simp only [Option.map_none, Option.isSome_none]
                go_wp2_with fail
                refine (prop_any s (!n) _).mono ?_
                intro e wx hp
                rw [HRT.out, HN.out] at hp
                obtain ⟨vx, rfl, ho, hb⟩ := post2_form hp
                replace HT := Lib.hid (HT.out.trans (hb.mono HT.out.size))
                clear ho hb hp HN
                simp only [Option.map_none, Option.isSome_none]
                go_wp2_with fail
                go_ret
                exact ⟨rfl, HT.out⟩
              · obtain ⟨l, hl⟩ := Option.ne_none_iff_exists'.1 hn
                rw [hl] at hp
                obtain ⟨vp, rfl, ho, hb⟩ := post2_form hp
                have HN := Lib.hid hl; have R1 := Lib.hid (show Rgs _ vp l from ho.rgs); have RR := Lib.hid (prop_right hl)
                replace HT := Lib.hid (HT.out.trans (hb.mono HT.out.size))
                clear ho hb hp hn hl
                simp only [Option.isSome_some]
                go_wp2_with fail
                refine (prop_any _ n _).mono ?_
                intro e wq hp
                rw [cat_of, HRH.out, HN.out] at hp
                obtain ⟨vq, rfl, ho, hb⟩ := post2_form hp
                replace R1 := Lib.hid (R1.out.below hb)
                have R2 := Lib.hid (show Rgs _ vq (notR l) from ho.rgs)
                replace HT := Lib.hid (HT.out.trans (hb.mono HT.out.size))
                clear ho hb hp
                simp only [Option.map_some, Option.isSome_some]
                go_wp2_with fail
                refine (prop_any s (!n) _).mono ?_
                intro e wx hp
                rw [HRT.out, HN.out] at hp
                obtain ⟨vx, rfl, ho, hb⟩ := post2_form hp
                replace R1 := Lib.hid (R1.out.below hb)
                replace R2 := Lib.hid (R2.out.below hb)
                have R3 := Lib.hid (show Rgs _ vx (notR l) from ho.rgs)
                replace HT := Lib.hid (HT.out.trans (hb.mono HT.out.size))
                clear ho hb hp HN
                simp only [Option.map_some, Option.isSome_some]
                go_wp2_with fail
                refine (cother_any vp vq l _ wx R1.out R2.out RR.out (right_small RR.out) rfl).mono ?_
                rintro e wr ⟨rfl, hb⟩
                replace R2 := Lib.hid (R2.out.below hb)
                replace R3 := Lib.hid (R3.out.below hb)
                replace HT := Lib.hid (HT.out.trans (hb.mono HT.out.size))
                clear hb R1 RR
                go_wp2_with fail
                refine (rsame_any vq vx _ _ wr R2.out R3.out).mono ?_
                rintro e wy ⟨B, rfl, hq, q, rfl⟩
                obtain rfl : B = true := hq.2 rfl
                have HT2 := Lib.hid (below_drewNr HT.out q)
                clear hq
                go_wp2_with fail
                go_ret
                exact ⟨rfl, HT2.out⟩
      · have hz : s.size = 0 := by omega
        have hh : s.toList.head? ≠ some 94 := by
          rw [empty_of s h0]
          decide
        have HPH := Lib.hid (posix_hat s.toList hh)
        have HRH := Lib.hid ((prop_hat s.toList n hh).trans (prop_turn s.toList n))
        have HRT := Lib.hid (prop_turn s.toList n)
        have hc1 : ¬ (9223372036854775807 < 1 + s.size) := by omega
        have hc2 : ¬ (9223372036854775807 < (⟨#[94]⟩ : ByteArray).size + s.size) := hc1
        clear hh h0
        as_aux_lemma =>
          go_wp2_with fail
          refine (posix_any s _).mono ?_
          intro e wp hp
          by_cases hn : posixR s.toList = none
          · rw [hn] at hp
            obtain ⟨vp, rfl, ho, hb⟩ := post2_form hp
            have HN := Lib.hid hn
            replace HT := Lib.hid (HT.out.trans (hb.mono HT.out.size))
            clear ho hb hp hn
            simp only [Option.isSome_none]
            go_wp2_with fail
            refine (posix_any _ _).mono ?_
            intro e wq hp
            rw [cat_of, HPH.out, HN.out] at hp
            obtain ⟨vq, rfl, ho, hb⟩ := post2_form hp
            replace HT := Lib.hid (HT.out.trans (hb.mono HT.out.size))
            clear ho hb hp HN
            simp only [Option.map_none, Option.isSome_none]
            go_wp2_with fail
            refine (prop_any s n _).mono ?_
            intro e wp hp
            by_cases hn : propR s.toList n = none
            · rw [hn] at hp
              obtain ⟨vp, rfl, ho, hb⟩ := post2_form hp
              have HN := Lib.hid hn
              replace HT := Lib.hid (HT.out.trans (hb.mono HT.out.size))
              clear ho hb hp hn
              simp only [Option.isSome_none]
              go_wp2_with fail
              refine (prop_any _ n _).mono ?_
              intro e wq hp
              rw [cat_of, HRH.out, HN.out] at hp
              obtain ⟨vq, rfl, ho, hb⟩ := post2_form hp
              replace HT := Lib.hid (HT.out.trans (hb.mono HT.out.size))
              clear ho hb hp
              simp only [Option.map_none, Option.isSome_none]
              go_wp2_with fail
              refine (prop_any s (!n) _).mono ?_
              intro e wx hp
              rw [HRT.out, HN.out] at hp
              obtain ⟨vx, rfl, ho, hb⟩ := post2_form hp
              replace HT := Lib.hid (HT.out.trans (hb.mono HT.out.size))
              clear ho hb hp HN
              simp only [Option.map_none, Option.isSome_none]
              go_wp2_with fail
              go_ret
              exact ⟨rfl, HT.out⟩
            · obtain ⟨l, hl⟩ := Option.ne_none_iff_exists'.1 hn
              rw [hl] at hp
              obtain ⟨vp, rfl, ho, hb⟩ := post2_form hp
              have HN := Lib.hid hl; have R1 := Lib.hid (show Rgs _ vp l from ho.rgs); have RR := Lib.hid (prop_right hl)
              replace HT := Lib.hid (HT.out.trans (hb.mono HT.out.size))
              clear ho hb hp hn hl
              simp only [Option.isSome_some]
              go_wp2_with fail
              refine (prop_any _ n _).mono ?_
              intro e wq hp
              rw [cat_of, HRH.out, HN.out] at hp
              obtain ⟨vq, rfl, ho, hb⟩ := post2_form hp
              replace R1 := Lib.hid (R1.out.below hb)
              have R2 := Lib.hid (show Rgs _ vq (notR l) from ho.rgs)
              replace HT := Lib.hid (HT.out.trans (hb.mono HT.out.size))
              clear ho hb hp
              simp only [Option.map_some, Option.isSome_some]
              go_wp2_with fail
              refine (prop_any s (!n) _).mono ?_
              intro e wx hp
              rw [HRT.out, HN.out] at hp
              obtain ⟨vx, rfl, ho, hb⟩ := post2_form hp
              replace R1 := Lib.hid (R1.out.below hb)
              replace R2 := Lib.hid (R2.out.below hb)
              have R3 := Lib.hid (show Rgs _ vx (notR l) from ho.rgs)
              replace HT := Lib.hid (HT.out.trans (hb.mono HT.out.size))
              clear ho hb hp HN
              simp only [Option.map_some, Option.isSome_some]
              go_wp2_with fail
              refine (cother_any vp vq l _ wx R1.out R2.out RR.out (right_small RR.out) rfl).mono ?_
              rintro e wr ⟨rfl, hb⟩
              replace R2 := Lib.hid (R2.out.below hb)
              replace R3 := Lib.hid (R3.out.below hb)
              replace HT := Lib.hid (HT.out.trans (hb.mono HT.out.size))
              clear hb R1 RR
              go_wp2_with fail
              refine (rsame_any vq vx _ _ wr R2.out R3.out).mono ?_
              rintro e wy ⟨B, rfl, hq, q, rfl⟩
              obtain rfl : B = true := hq.2 rfl
              have HT2 := Lib.hid (below_drewNr HT.out q)
              clear hq
              go_wp2_with fail
              go_ret
              exact ⟨rfl, HT2.out⟩
          · obtain ⟨l, hl⟩ := Option.ne_none_iff_exists'.1 hn
            rw [hl] at hp
            obtain ⟨vp, rfl, ho, hb⟩ := post2_form hp
            have HN := Lib.hid hl; have R1 := Lib.hid (show Rgs _ vp l from ho.rgs); have RR := Lib.hid (posix_right hl)
            replace HT := Lib.hid (HT.out.trans (hb.mono HT.out.size))
            clear ho hb hp hn hl
            simp only [Option.isSome_some]
            go_wp2_with fail
            refine (posix_any _ _).mono ?_
            intro e wq hp
            rw [cat_of, HPH.out, HN.out] at hp
            obtain ⟨vq, rfl, ho, hb⟩ := post2_form hp
            replace R1 := Lib.hid (R1.out.below hb)
            have R2 := Lib.hid (show Rgs _ vq (notR l) from ho.rgs)
            replace HT := Lib.hid (HT.out.trans (hb.mono HT.out.size))
            clear ho hb hp HN
            simp only [Option.map_some, Option.isSome_some]
            go_wp2_with fail
            refine (cother_any vp vq l _ wq R1.out R2.out RR.out (right_small RR.out) rfl).mono ?_
            rintro e wr ⟨rfl, hb⟩
            replace HT := Lib.hid (HT.out.trans (hb.mono HT.out.size))
            clear hb R1 R2 RR
            go_wp2_with fail
            refine (prop_any s n _).mono ?_
            intro e wp hp
            by_cases hn : propR s.toList n = none
            · rw [hn] at hp
              obtain ⟨vp, rfl, ho, hb⟩ := post2_form hp
              have HN := Lib.hid hn
              replace HT := Lib.hid (HT.out.trans (hb.mono HT.out.size))
              clear ho hb hp hn
              simp only [Option.isSome_none]
              go_wp2_with fail
              refine (prop_any _ n _).mono ?_
              intro e wq hp
              rw [cat_of, HRH.out, HN.out] at hp
              obtain ⟨vq, rfl, ho, hb⟩ := post2_form hp
              replace HT := Lib.hid (HT.out.trans (hb.mono HT.out.size))
              clear ho hb hp
              simp only [Option.map_none, Option.isSome_none]
              go_wp2_with fail
              refine (prop_any s (!n) _).mono ?_
              intro e wx hp
              rw [HRT.out, HN.out] at hp
              obtain ⟨vx, rfl, ho, hb⟩ := post2_form hp
              replace HT := Lib.hid (HT.out.trans (hb.mono HT.out.size))
              clear ho hb hp HN
              simp only [Option.map_none, Option.isSome_none]
              go_wp2_with fail
              go_ret
              exact ⟨rfl, HT.out⟩
            · obtain ⟨l, hl⟩ := Option.ne_none_iff_exists'.1 hn
              rw [hl] at hp
              obtain ⟨vp, rfl, ho, hb⟩ := post2_form hp
              have HN := Lib.hid hl; have R1 := Lib.hid (show Rgs _ vp l from ho.rgs); have RR := Lib.hid (prop_right hl)
              replace HT := Lib.hid (HT.out.trans (hb.mono HT.out.size))
              clear ho hb hp hn hl
              simp only [Option.isSome_some]
              go_wp2_with fail
              refine (prop_any _ n _).mono ?_
              intro e wq hp
              rw [cat_of, HRH.out, HN.out] at hp
              obtain ⟨vq, rfl, ho, hb⟩ := post2_form hp
              replace R1 := Lib.hid (R1.out.below hb)
              have R2 := Lib.hid (show Rgs _ vq (notR l) from ho.rgs)
              replace HT := Lib.hid (HT.out.trans (hb.mono HT.out.size))
              clear ho hb hp
              simp only [Option.map_some, Option.isSome_some]
              go_wp2_with fail
              refine (prop_any s (!n) _).mono ?_
              intro e wx hp
              rw [HRT.out, HN.out] at hp
              obtain ⟨vx, rfl, ho, hb⟩ := post2_form hp
              replace R1 := Lib.hid (R1.out.below hb)
              replace R2 := Lib.hid (R2.out.below hb)
              have R3 := Lib.hid (show Rgs _ vx (notR l) from ho.rgs)
              replace HT := Lib.hid (HT.out.trans (hb.mono HT.out.size))
              clear ho hb hp HN
              simp only [Option.map_some, Option.isSome_some]
              go_wp2_with fail
              refine (cother_any vp vq l _ wx R1.out R2.out RR.out (right_small RR.out) rfl).mono ?_
              rintro e wr ⟨rfl, hb⟩
              replace R2 := Lib.hid (R2.out.below hb)
              replace R3 := Lib.hid (R3.out.below hb)
              replace HT := Lib.hid (HT.out.trans (hb.mono HT.out.size))
              clear hb R1 RR
              go_wp2_with fail
              refine (rsame_any vq vx _ _ wr R2.out R3.out).mono ?_
              rintro e wy ⟨B, rfl, hq, q, rfl⟩
              obtain rfl : B = true := hq.2 rfl
              have HT2 := Lib.hid (below_drewNr HT.out q)
              clear hq
              go_wp2_with fail
              go_ret
              exact ⟨rfl, HT2.out⟩
  · by_cases c1 : 97 ≤ c
    · have c2 : decide (c ≤ 122) = false := decide_eq_false (fun h => c0 ⟨c1, h⟩)
      clear c0
      by_cases h0 : 0 < s.size
      · have hb := byte_94 s[0]
        by_cases hx : s[0] = 94
        · rw [decide_eq_true hx] at hb
          clear hx
          go_wp2_with fail
          go_ret
          exact ⟨rfl, HT.out⟩
        · rw [decide_eq_false hx] at hb
          have hh : s.toList.head? ≠ some 94 := by
            rw [head_of s h0]
            exact fun e => hx (Option.some.inj e)
          have HPH := Lib.hid (posix_hat s.toList hh)
          have HRH := Lib.hid ((prop_hat s.toList n hh).trans (prop_turn s.toList n))
          have HRT := Lib.hid (prop_turn s.toList n)
          have hc1 : ¬ (9223372036854775807 < 1 + s.size) := by omega
          have hc2 : ¬ (9223372036854775807 < (⟨#[94]⟩ : ByteArray).size + s.size) := hc1
          clear hh hx
          as_aux_lemma =>
            go_wp2_with fail
            refine (posix_any s _).mono ?_
            intro e wp hp
            by_cases hn : posixR s.toList = none
            · rw [hn] at hp
              obtain ⟨vp, rfl, ho, hb⟩ := post2_form hp
              have HN := Lib.hid hn
              replace HT := Lib.hid (HT.out.trans (hb.mono HT.out.size))
              clear ho hb hp hn
              simp only [Option.isSome_none]
              go_wp2_with fail
              refine (posix_any _ _).mono ?_
              intro e wq hp
              rw [cat_of, HPH.out, HN.out] at hp
              obtain ⟨vq, rfl, ho, hb⟩ := post2_form hp
              replace HT := Lib.hid (HT.out.trans (hb.mono HT.out.size))
              clear ho hb hp HN
              simp only [Option.map_none, Option.isSome_none]
              go_wp2_with fail
              refine (prop_any s n _).mono ?_
              intro e wp hp
              by_cases hn : propR s.toList n = none
              · rw [hn] at hp
                obtain ⟨vp, rfl, ho, hb⟩ := post2_form hp
                have HN := Lib.hid hn
                replace HT := Lib.hid (HT.out.trans (hb.mono HT.out.size))
                clear ho hb hp hn
                simp only [Option.isSome_none]
                go_wp2_with fail
                refine (prop_any _ n _).mono ?_
                intro e wq hp
                rw [cat_of, HRH.out, HN.out] at hp
                obtain ⟨vq, rfl, ho, hb⟩ := post2_form hp
                replace HT := Lib.hid (HT.out.trans (hb.mono HT.out.size))
                clear ho hb hp
                simp only [Option.map_none, Option.isSome_none]
                go_wp2_with fail
                refine (prop_any s (!n) _).mono ?_
                intro e wx hp
                rw [HRT.out, HN.out] at hp
                obtain ⟨vx, rfl, ho, hb⟩ := post2_form hp
                replace HT := Lib.hid (HT.out.trans (hb.mono HT.out.size))
                clear ho hb hp HN
                simp only [Option.map_none, Option.isSome_none]
                go_wp2_with fail
                go_ret
                exact ⟨rfl, HT.out⟩
              · obtain ⟨l, hl⟩ := Option.ne_none_iff_exists'.1 hn
                rw [hl] at hp
                obtain ⟨vp, rfl, ho, hb⟩ := post2_form hp
                have HN := Lib.hid hl; have R1 := Lib.hid (show Rgs _ vp l from ho.rgs); have RR := Lib.hid (prop_right hl)
                replace HT := Lib.hid (HT.out.trans (hb.mono HT.out.size))
                clear ho hb hp hn hl
                simp only [Option.isSome_some]
                go_wp2_with fail
                refine (prop_any _ n _).mono ?_
                intro e wq hp
                rw [cat_of, HRH.out, HN.out] at hp
                obtain ⟨vq, rfl, ho, hb⟩ := post2_form hp
                replace R1 := Lib.hid (R1.out.below hb)
                have R2 := Lib.hid (show Rgs _ vq (notR l) from ho.rgs)
                replace HT := Lib.hid (HT.out.trans (hb.mono HT.out.size))
                clear ho hb hp
                simp only [Option.map_some, Option.isSome_some]
                go_wp2_with fail
                refine (prop_any s (!n) _).mono ?_
                intro e wx hp
                rw [HRT.out, HN.out] at hp
                obtain ⟨vx, rfl, ho, hb⟩ := post2_form hp
                replace R1 := Lib.hid (R1.out.below hb)
                replace R2 := Lib.hid (R2.out.below hb)
                have R3 := Lib.hid (show Rgs _ vx (notR l) from ho.rgs)
                replace HT := Lib.hid (HT.out.trans (hb.mono HT.out.size))
                clear ho hb hp HN
                simp only [Option.map_some, Option.isSome_some]
                go_wp2_with fail
                refine (cother_any vp vq l _ wx R1.out R2.out RR.out (right_small RR.out) rfl).mono ?_
                rintro e wr ⟨rfl, hb⟩
                replace R2 := Lib.hid (R2.out.below hb)
                replace R3 := Lib.hid (R3.out.below hb)
                replace HT := Lib.hid (HT.out.trans (hb.mono HT.out.size))
                clear hb R1 RR
                go_wp2_with fail
                refine (rsame_any vq vx _ _ wr R2.out R3.out).mono ?_
                rintro e wy ⟨B, rfl, hq, q, rfl⟩
                obtain rfl : B = true := hq.2 rfl
                have HT2 := Lib.hid (below_drewNr HT.out q)
                clear hq
                go_wp2_with fail
                go_ret
                exact ⟨rfl, HT2.out⟩
            · obtain ⟨l, hl⟩ := Option.ne_none_iff_exists'.1 hn
              rw [hl] at hp
              obtain ⟨vp, rfl, ho, hb⟩ := post2_form hp
              have HN := Lib.hid hl; have R1 := Lib.hid (show Rgs _ vp l from ho.rgs); have RR := Lib.hid (posix_right hl)
              replace HT := Lib.hid (HT.out.trans (hb.mono HT.out.size))
              clear ho hb hp hn hl
              simp only [Option.isSome_some]
              go_wp2_with fail
              refine (posix_any _ _).mono ?_
              intro e wq hp
              rw [cat_of, HPH.out, HN.out] at hp
              obtain ⟨vq, rfl, ho, hb⟩ := post2_form hp
              replace R1 := Lib.hid (R1.out.below hb)
              have R2 := Lib.hid (show Rgs _ vq (notR l) from ho.rgs)
              replace HT := Lib.hid (HT.out.trans (hb.mono HT.out.size))
              clear ho hb hp HN
              simp only [Option.map_some, Option.isSome_some]
              go_wp2_with fail
              refine (cother_any vp vq l _ wq R1.out R2.out RR.out (right_small RR.out) rfl).mono ?_
              rintro e wr ⟨rfl, hb⟩
              replace HT := Lib.hid (HT.out.trans (hb.mono HT.out.size))
              clear hb R1 R2 RR
              go_wp2_with fail
              refine (prop_any s n _).mono ?_
              intro e wp hp
              by_cases hn : propR s.toList n = none
              · rw [hn] at hp
                obtain ⟨vp, rfl, ho, hb⟩ := post2_form hp
                have HN := Lib.hid hn
                replace HT := Lib.hid (HT.out.trans (hb.mono HT.out.size))
                clear ho hb hp hn
                simp only [Option.isSome_none]
                go_wp2_with fail
                refine (prop_any _ n _).mono ?_
                intro e wq hp
                rw [cat_of, HRH.out, HN.out] at hp
                obtain ⟨vq, rfl, ho, hb⟩ := post2_form hp
                replace HT := Lib.hid (HT.out.trans (hb.mono HT.out.size))
                clear ho hb hp
                simp only [Option.map_none, Option.isSome_none]
                go_wp2_with fail
                refine (prop_any s (!n) _).mono ?_
                intro e wx hp
                rw [HRT.out, HN.out] at hp
                obtain ⟨vx, rfl, ho, hb⟩ := post2_form hp
                replace HT := Lib.hid (HT.out.trans (hb.mono HT.out.size))
                clear ho hb hp HN
                simp only [Option.map_none, Option.isSome_none]
                go_wp2_with fail
                go_ret
                exact ⟨rfl, HT.out⟩
              · obtain ⟨l, hl⟩ := Option.ne_none_iff_exists'.1 hn
                rw [hl] at hp
                obtain ⟨vp, rfl, ho, hb⟩ := post2_form hp
                have HN := Lib.hid hl; have R1 := Lib.hid (show Rgs _ vp l from ho.rgs); have RR := Lib.hid (prop_right hl)
                replace HT := Lib.hid (HT.out.trans (hb.mono HT.out.size))
                clear ho hb hp hn hl
                simp only [Option.isSome_some]
                go_wp2_with fail
                refine (prop_any _ n _).mono ?_
                intro e wq hp
                rw [cat_of, HRH.out, HN.out] at hp
                obtain ⟨vq, rfl, ho, hb⟩ := post2_form hp
                replace R1 := Lib.hid (R1.out.below hb)
                have R2 := Lib.hid (show Rgs _ vq (notR l) from ho.rgs)
                replace HT := Lib.hid (HT.out.trans (hb.mono HT.out.size))
                clear ho hb hp
                simp only [Option.map_some, Option.isSome_some]
                go_wp2_with fail
                refine (prop_any s (!n) _).mono ?_
                intro e wx hp
                rw [HRT.out, HN.out] at hp
                obtain ⟨vx, rfl, ho, hb⟩ := post2_form hp
                replace R1 := Lib.hid (R1.out.below hb)
                replace R2 := Lib.hid (R2.out.below hb)
                have R3 := Lib.hid (show Rgs _ vx (notR l) from ho.rgs)
                replace HT := Lib.hid (HT.out.trans (hb.mono HT.out.size))
                clear ho hb hp HN
                simp only [Option.map_some, Option.isSome_some]
                go_wp2_with fail
                refine (cother_any vp vq l _ wx R1.out R2.out RR.out (right_small RR.out) rfl).mono ?_
                rintro e wr ⟨rfl, hb⟩
                replace R2 := Lib.hid (R2.out.below hb)
                replace R3 := Lib.hid (R3.out.below hb)
                replace HT := Lib.hid (HT.out.trans (hb.mono HT.out.size))
                clear hb R1 RR
                go_wp2_with fail
                refine (rsame_any vq vx _ _ wr R2.out R3.out).mono ?_
                rintro e wy ⟨B, rfl, hq, q, rfl⟩
                obtain rfl : B = true := hq.2 rfl
                have HT2 := Lib.hid (below_drewNr HT.out q)
                clear hq
                go_wp2_with fail
                go_ret
                exact ⟨rfl, HT2.out⟩
      · have hz : s.size = 0 := by omega
        have hh : s.toList.head? ≠ some 94 := by
          rw [empty_of s h0]
          decide
        have HPH := Lib.hid (posix_hat s.toList hh)
        have HRH := Lib.hid ((prop_hat s.toList n hh).trans (prop_turn s.toList n))
        have HRT := Lib.hid (prop_turn s.toList n)
        have hc1 : ¬ (9223372036854775807 < 1 + s.size) := by omega
        have hc2 : ¬ (9223372036854775807 < (⟨#[94]⟩ : ByteArray).size + s.size) := hc1
        clear hh h0
        as_aux_lemma =>
          go_wp2_with fail
          refine (posix_any s _).mono ?_
          intro e wp hp
          by_cases hn : posixR s.toList = none
          · rw [hn] at hp
            obtain ⟨vp, rfl, ho, hb⟩ := post2_form hp
            have HN := Lib.hid hn
            replace HT := Lib.hid (HT.out.trans (hb.mono HT.out.size))
            clear ho hb hp hn
            simp only [Option.isSome_none]
            go_wp2_with fail
            refine (posix_any _ _).mono ?_
            intro e wq hp
            rw [cat_of, HPH.out, HN.out] at hp
            obtain ⟨vq, rfl, ho, hb⟩ := post2_form hp
            replace HT := Lib.hid (HT.out.trans (hb.mono HT.out.size))
            clear ho hb hp HN
            simp only [Option.map_none, Option.isSome_none]
            go_wp2_with fail
            refine (prop_any s n _).mono ?_
            intro e wp hp
            by_cases hn : propR s.toList n = none
            · rw [hn] at hp
              obtain ⟨vp, rfl, ho, hb⟩ := post2_form hp
              have HN := Lib.hid hn
              replace HT := Lib.hid (HT.out.trans (hb.mono HT.out.size))
              clear ho hb hp hn
              simp only [Option.isSome_none]
              go_wp2_with fail
              refine (prop_any _ n _).mono ?_
              intro e wq hp
              rw [cat_of, HRH.out, HN.out] at hp
              obtain ⟨vq, rfl, ho, hb⟩ := post2_form hp
              replace HT := Lib.hid (HT.out.trans (hb.mono HT.out.size))
              clear ho hb hp
              simp only [Option.map_none, Option.isSome_none]
              go_wp2_with fail
              refine (prop_any s (!n) _).mono ?_
              intro e wx hp
              rw [HRT.out, HN.out] at hp
              obtain ⟨vx, rfl, ho, hb⟩ := post2_form hp
              replace HT := Lib.hid (HT.out.trans (hb.mono HT.out.size))
              clear ho hb hp HN
              simp only [Option.map_none, Option.isSome_none]
              go_wp2_with fail
              go_ret
              exact ⟨rfl, HT.out⟩
            · obtain ⟨l, hl⟩ := Option.ne_none_iff_exists'.1 hn
              rw [hl] at hp
              obtain ⟨vp, rfl, ho, hb⟩ := post2_form hp
              have HN := Lib.hid hl; have R1 := Lib.hid (show Rgs _ vp l from ho.rgs); have RR := Lib.hid (prop_right hl)
              replace HT := Lib.hid (HT.out.trans (hb.mono HT.out.size))
              clear ho hb hp hn hl
              simp only [Option.isSome_some]
              go_wp2_with fail
              refine (prop_any _ n _).mono ?_
              intro e wq hp
              rw [cat_of, HRH.out, HN.out] at hp
              obtain ⟨vq, rfl, ho, hb⟩ := post2_form hp
              replace R1 := Lib.hid (R1.out.below hb)
              have R2 := Lib.hid (show Rgs _ vq (notR l) from ho.rgs)
              replace HT := Lib.hid (HT.out.trans (hb.mono HT.out.size))
              clear ho hb hp
              simp only [Option.map_some, Option.isSome_some]
              go_wp2_with fail
              refine (prop_any s (!n) _).mono ?_
              intro e wx hp
              rw [HRT.out, HN.out] at hp
              obtain ⟨vx, rfl, ho, hb⟩ := post2_form hp
              replace R1 := Lib.hid (R1.out.below hb)
              replace R2 := Lib.hid (R2.out.below hb)
              have R3 := Lib.hid (show Rgs _ vx (notR l) from ho.rgs)
              replace HT := Lib.hid (HT.out.trans (hb.mono HT.out.size))
              clear ho hb hp HN
              simp only [Option.map_some, Option.isSome_some]
              go_wp2_with fail
              refine (cother_any vp vq l _ wx R1.out R2.out RR.out (right_small RR.out) rfl).mono ?_
              rintro e wr ⟨rfl, hb⟩
              replace R2 := Lib.hid (R2.out.below hb)
              replace R3 := Lib.hid (R3.out.below hb)
              replace HT := Lib.hid (HT.out.trans (hb.mono HT.out.size))
              clear hb R1 RR
              go_wp2_with fail
              refine (rsame_any vq vx _ _ wr R2.out R3.out).mono ?_
              rintro e wy ⟨B, rfl, hq, q, rfl⟩
              obtain rfl : B = true := hq.2 rfl
              have HT2 := Lib.hid (below_drewNr HT.out q)
              clear hq
              go_wp2_with fail
              go_ret
              exact ⟨rfl, HT2.out⟩
          · obtain ⟨l, hl⟩ := Option.ne_none_iff_exists'.1 hn
            rw [hl] at hp
            obtain ⟨vp, rfl, ho, hb⟩ := post2_form hp
            have HN := Lib.hid hl; have R1 := Lib.hid (show Rgs _ vp l from ho.rgs); have RR := Lib.hid (posix_right hl)
            replace HT := Lib.hid (HT.out.trans (hb.mono HT.out.size))
            clear ho hb hp hn hl
            simp only [Option.isSome_some]
            go_wp2_with fail
            refine (posix_any _ _).mono ?_
            intro e wq hp
            rw [cat_of, HPH.out, HN.out] at hp
            obtain ⟨vq, rfl, ho, hb⟩ := post2_form hp
            replace R1 := Lib.hid (R1.out.below hb)
            have R2 := Lib.hid (show Rgs _ vq (notR l) from ho.rgs)
            replace HT := Lib.hid (HT.out.trans (hb.mono HT.out.size))
            clear ho hb hp HN
            simp only [Option.map_some, Option.isSome_some]
            go_wp2_with fail
            refine (cother_any vp vq l _ wq R1.out R2.out RR.out (right_small RR.out) rfl).mono ?_
            rintro e wr ⟨rfl, hb⟩
            replace HT := Lib.hid (HT.out.trans (hb.mono HT.out.size))
            clear hb R1 R2 RR
            go_wp2_with fail
            refine (prop_any s n _).mono ?_
            intro e wp hp
            by_cases hn : propR s.toList n = none
            · rw [hn] at hp
              obtain ⟨vp, rfl, ho, hb⟩ := post2_form hp
              have HN := Lib.hid hn
              replace HT := Lib.hid (HT.out.trans (hb.mono HT.out.size))
              clear ho hb hp hn
              simp only [Option.isSome_none]
              go_wp2_with fail
              refine (prop_any _ n _).mono ?_
              intro e wq hp
              rw [cat_of, HRH.out, HN.out] at hp
              obtain ⟨vq, rfl, ho, hb⟩ := post2_form hp
              replace HT := Lib.hid (HT.out.trans (hb.mono HT.out.size))
              clear ho hb hp
              simp only [Option.map_none, Option.isSome_none]
              go_wp2_with fail
              refine (prop_any s (!n) _).mono ?_
              intro e wx hp
              rw [HRT.out, HN.out] at hp
              obtain ⟨vx, rfl, ho, hb⟩ := post2_form hp
              replace HT := Lib.hid (HT.out.trans (hb.mono HT.out.size))
              clear ho hb hp HN
              simp only [Option.map_none, Option.isSome_none]
              go_wp2_with fail
              go_ret
              exact ⟨rfl, HT.out⟩
            · obtain ⟨l, hl⟩ := Option.ne_none_iff_exists'.1 hn
              rw [hl] at hp
              obtain ⟨vp, rfl, ho, hb⟩ := post2_form hp
              have HN := Lib.hid hl; have R1 := Lib.hid (show Rgs _ vp l from ho.rgs); have RR := Lib.hid (prop_right hl)
              replace HT := Lib.hid (HT.out.trans (hb.mono HT.out.size))
              clear ho hb hp hn hl
              simp only [Option.isSome_some]
              go_wp2_with fail
              refine (prop_any _ n _).mono ?_
              intro e wq hp
              rw [cat_of, HRH.out, HN.out] at hp
              obtain ⟨vq, rfl, ho, hb⟩ := post2_form hp
              replace R1 := Lib.hid (R1.out.below hb)
              have R2 := Lib.hid (show Rgs _ vq (notR l) from ho.rgs)
              replace HT := Lib.hid (HT.out.trans (hb.mono HT.out.size))
              clear ho hb hp
              simp only [Option.map_some, Option.isSome_some]
              go_wp2_with fail
              refine (prop_any s (!n) _).mono ?_
              intro e wx hp
              rw [HRT.out, HN.out] at hp
              obtain ⟨vx, rfl, ho, hb⟩ := post2_form hp
              replace R1 := Lib.hid (R1.out.below hb)
              replace R2 := Lib.hid (R2.out.below hb)
              have R3 := Lib.hid (show Rgs _ vx (notR l) from ho.rgs)
              replace HT := Lib.hid (HT.out.trans (hb.mono HT.out.size))
              clear ho hb hp HN
              simp only [Option.map_some, Option.isSome_some]
              go_wp2_with fail
              refine (cother_any vp vq l _ wx R1.out R2.out RR.out (right_small RR.out) rfl).mono ?_
              rintro e wr ⟨rfl, hb⟩
              replace R2 := Lib.hid (R2.out.below hb)
              replace R3 := Lib.hid (R3.out.below hb)
              replace HT := Lib.hid (HT.out.trans (hb.mono HT.out.size))
              clear hb R1 RR
              go_wp2_with fail
              refine (rsame_any vq vx _ _ wr R2.out R3.out).mono ?_
              rintro e wy ⟨B, rfl, hq, q, rfl⟩
              obtain rfl : B = true := hq.2 rfl
              have HT2 := Lib.hid (below_drewNr HT.out q)
              clear hq
              go_wp2_with fail
              go_ret
              exact ⟨rfl, HT2.out⟩
    · clear c0
      by_cases h0 : 0 < s.size
      · have hb := byte_94 s[0]
        by_cases hx : s[0] = 94
        · rw [decide_eq_true hx] at hb
          clear hx
          go_wp2_with fail
          go_ret
          exact ⟨rfl, HT.out⟩
        · rw [decide_eq_false hx] at hb
          have hh : s.toList.head? ≠ some 94 := by
            rw [head_of s h0]
            exact fun e => hx (Option.some.inj e)
          have HPH := Lib.hid (posix_hat s.toList hh)
          have HRH := Lib.hid ((prop_hat s.toList n hh).trans (prop_turn s.toList n))
          have HRT := Lib.hid (prop_turn s.toList n)
          have hc1 : ¬ (9223372036854775807 < 1 + s.size) := by omega
          have hc2 : ¬ (9223372036854775807 < (⟨#[94]⟩ : ByteArray).size + s.size) := hc1
          clear hh hx
          as_aux_lemma =>
            go_wp2_with fail
            refine (posix_any s _).mono ?_
            intro e wp hp
            by_cases hn : posixR s.toList = none
            · rw [hn] at hp
              obtain ⟨vp, rfl, ho, hb⟩ := post2_form hp
              have HN := Lib.hid hn
              replace HT := Lib.hid (HT.out.trans (hb.mono HT.out.size))
              clear ho hb hp hn
              simp only [Option.isSome_none]
              go_wp2_with fail
              refine (posix_any _ _).mono ?_
              intro e wq hp
              rw [cat_of, HPH.out, HN.out] at hp
              obtain ⟨vq, rfl, ho, hb⟩ := post2_form hp
              replace HT := Lib.hid (HT.out.trans (hb.mono HT.out.size))
              clear ho hb hp HN
              simp only [Option.map_none, Option.isSome_none]
              go_wp2_with fail
              refine (prop_any s n _).mono ?_
              intro e wp hp
              by_cases hn : propR s.toList n = none
              · rw [hn] at hp
                obtain ⟨vp, rfl, ho, hb⟩ := post2_form hp
                have HN := Lib.hid hn
                replace HT := Lib.hid (HT.out.trans (hb.mono HT.out.size))
                clear ho hb hp hn
                simp only [Option.isSome_none]
                go_wp2_with fail
                refine (prop_any _ n _).mono ?_
                intro e wq hp
                rw [cat_of, HRH.out, HN.out] at hp
                obtain ⟨vq, rfl, ho, hb⟩ := post2_form hp
                replace HT := Lib.hid (HT.out.trans (hb.mono HT.out.size))
                clear ho hb hp
                simp only [Option.map_none, Option.isSome_none]
                go_wp2_with fail
                refine (prop_any s (!n) _).mono ?_
                intro e wx hp
                rw [HRT.out, HN.out] at hp
                obtain ⟨vx, rfl, ho, hb⟩ := post2_form hp
                replace HT := Lib.hid (HT.out.trans (hb.mono HT.out.size))
                clear ho hb hp HN
                simp only [Option.map_none, Option.isSome_none]
                go_wp2_with fail
                go_ret
                exact ⟨rfl, HT.out⟩
              · obtain ⟨l, hl⟩ := Option.ne_none_iff_exists'.1 hn
                rw [hl] at hp
                obtain ⟨vp, rfl, ho, hb⟩ := post2_form hp
                have HN := Lib.hid hl; have R1 := Lib.hid (show Rgs _ vp l from ho.rgs); have RR := Lib.hid (prop_right hl)
                replace HT := Lib.hid (HT.out.trans (hb.mono HT.out.size))
                clear ho hb hp hn hl
                simp only [Option.isSome_some]
                go_wp2_with fail
                refine (prop_any _ n _).mono ?_
                intro e wq hp
                rw [cat_of, HRH.out, HN.out] at hp
                obtain ⟨vq, rfl, ho, hb⟩ := post2_form hp
                replace R1 := Lib.hid (R1.out.below hb)
                have R2 := Lib.hid (show Rgs _ vq (notR l) from ho.rgs)
                replace HT := Lib.hid (HT.out.trans (hb.mono HT.out.size))
                clear ho hb hp
                simp only [Option.map_some, Option.isSome_some]
                go_wp2_with fail
                refine (prop_any s (!n) _).mono ?_
                intro e wx hp
                rw [HRT.out, HN.out] at hp
                obtain ⟨vx, rfl, ho, hb⟩ := post2_form hp
                replace R1 := Lib.hid (R1.out.below hb)
                replace R2 := Lib.hid (R2.out.below hb)
                have R3 := Lib.hid (show Rgs _ vx (notR l) from ho.rgs)
                replace HT := Lib.hid (HT.out.trans (hb.mono HT.out.size))
                clear ho hb hp HN
                simp only [Option.map_some, Option.isSome_some]
                go_wp2_with fail
                refine (cother_any vp vq l _ wx R1.out R2.out RR.out (right_small RR.out) rfl).mono ?_
                rintro e wr ⟨rfl, hb⟩
                replace R2 := Lib.hid (R2.out.below hb)
                replace R3 := Lib.hid (R3.out.below hb)
                replace HT := Lib.hid (HT.out.trans (hb.mono HT.out.size))
                clear hb R1 RR
                go_wp2_with fail
                refine (rsame_any vq vx _ _ wr R2.out R3.out).mono ?_
                rintro e wy ⟨B, rfl, hq, q, rfl⟩
                obtain rfl : B = true := hq.2 rfl
                have HT2 := Lib.hid (below_drewNr HT.out q)
                clear hq
                go_wp2_with fail
                go_ret
                exact ⟨rfl, HT2.out⟩
            · obtain ⟨l, hl⟩ := Option.ne_none_iff_exists'.1 hn
              rw [hl] at hp
              obtain ⟨vp, rfl, ho, hb⟩ := post2_form hp
              have HN := Lib.hid hl; have R1 := Lib.hid (show Rgs _ vp l from ho.rgs); have RR := Lib.hid (posix_right hl)
              replace HT := Lib.hid (HT.out.trans (hb.mono HT.out.size))
              clear ho hb hp hn hl
              simp only [Option.isSome_some]
              go_wp2_with fail
              refine (posix_any _ _).mono ?_
              intro e wq hp
              rw [cat_of, HPH.out, HN.out] at hp
              obtain ⟨vq, rfl, ho, hb⟩ := post2_form hp
              replace R1 := Lib.hid (R1.out.below hb)
              have R2 := Lib.hid (show Rgs _ vq (notR l) from ho.rgs)
              replace HT := Lib.hid (HT.out.trans (hb.mono HT.out.size))
              clear ho hb hp HN
              simp only [Option.map_some, Option.isSome_some]
              go_wp2_with fail
              refine (cother_any vp vq l _ wq R1.out R2.out RR.out (right_small RR.out) rfl).mono ?_
              rintro e wr ⟨rfl, hb⟩
              replace HT := Lib.hid (HT.out.trans (hb.mono HT.out.size))
              clear hb R1 R2 RR
              go_wp2_with fail
              refine (prop_any s n _).mono ?_
              intro e wp hp
              by_cases hn : propR s.toList n = none
              · rw [hn] at hp
                obtain ⟨vp, rfl, ho, hb⟩ := post2_form hp
                have HN := Lib.hid hn
                replace HT := Lib.hid (HT.out.trans (hb.mono HT.out.size))
                clear ho hb hp hn
                simp only [Option.isSome_none]
                go_wp2_with fail
                refine (prop_any _ n _).mono ?_
                intro e wq hp
                rw [cat_of, HRH.out, HN.out] at hp
                obtain ⟨vq, rfl, ho, hb⟩ := post2_form hp
                replace HT := Lib.hid (HT.out.trans (hb.mono HT.out.size))
                clear ho hb hp
                simp only [Option.map_none, Option.isSome_none]
                go_wp2_with fail
                refine (prop_any s (!n) _).mono ?_
                intro e wx hp
                rw [HRT.out, HN.out] at hp
                obtain ⟨vx, rfl, ho, hb⟩ := post2_form hp
                replace HT := Lib.hid (HT.out.trans (hb.mono HT.out.size))
                clear ho hb hp HN
                simp only [Option.map_none, Option.isSome_none]
                go_wp2_with fail
                go_ret
                exact ⟨rfl, HT.out⟩
              · obtain ⟨l, hl⟩ := Option.ne_none_iff_exists'.1 hn
                rw [hl] at hp
                obtain ⟨vp, rfl, ho, hb⟩ := post2_form hp
                have HN := Lib.hid hl; have R1 := Lib.hid (show Rgs _ vp l from ho.rgs); have RR := Lib.hid (prop_right hl)
                replace HT := Lib.hid (HT.out.trans (hb.mono HT.out.size))
                clear ho hb hp hn hl
                simp only [Option.isSome_some]
                go_wp2_with fail
                refine (prop_any _ n _).mono ?_
                intro e wq hp
                rw [cat_of, HRH.out, HN.out] at hp
                obtain ⟨vq, rfl, ho, hb⟩ := post2_form hp
                replace R1 := Lib.hid (R1.out.below hb)
                have R2 := Lib.hid (show Rgs _ vq (notR l) from ho.rgs)
                replace HT := Lib.hid (HT.out.trans (hb.mono HT.out.size))
                clear ho hb hp
                simp only [Option.map_some, Option.isSome_some]
                go_wp2_with fail
                refine (prop_any s (!n) _).mono ?_
                intro e wx hp
                rw [HRT.out, HN.out] at hp
                obtain ⟨vx, rfl, ho, hb⟩ := post2_form hp
                replace R1 := Lib.hid (R1.out.below hb)
                replace R2 := Lib.hid (R2.out.below hb)
                have R3 := Lib.hid (show Rgs _ vx (notR l) from ho.rgs)
                replace HT := Lib.hid (HT.out.trans (hb.mono HT.out.size))
                clear ho hb hp HN
                simp only [Option.map_some, Option.isSome_some]
                go_wp2_with fail
                refine (cother_any vp vq l _ wx R1.out R2.out RR.out (right_small RR.out) rfl).mono ?_
                rintro e wr ⟨rfl, hb⟩
                replace R2 := Lib.hid (R2.out.below hb)
                replace R3 := Lib.hid (R3.out.below hb)
                replace HT := Lib.hid (HT.out.trans (hb.mono HT.out.size))
                clear hb R1 RR
                go_wp2_with fail
                refine (rsame_any vq vx _ _ wr R2.out R3.out).mono ?_
                rintro e wy ⟨B, rfl, hq, q, rfl⟩
                obtain rfl : B = true := hq.2 rfl
                have HT2 := Lib.hid (below_drewNr HT.out q)
                clear hq
                go_wp2_with fail
                go_ret
                exact ⟨rfl, HT2.out⟩
      · have hz : s.size = 0 := by omega
        have hh : s.toList.head? ≠ some 94 := by
          rw [empty_of s h0]
          decide
        have HPH := Lib.hid (posix_hat s.toList hh)
        have HRH := Lib.hid ((prop_hat s.toList n hh).trans (prop_turn s.toList n))
        have HRT := Lib.hid (prop_turn s.toList n)
        have hc1 : ¬ (9223372036854775807 < 1 + s.size) := by omega
        have hc2 : ¬ (9223372036854775807 < (⟨#[94]⟩ : ByteArray).size + s.size) := hc1
        clear hh h0
        as_aux_lemma =>
          go_wp2_with fail
          refine (posix_any s _).mono ?_
          intro e wp hp
          by_cases hn : posixR s.toList = none
          · rw [hn] at hp
            obtain ⟨vp, rfl, ho, hb⟩ := post2_form hp
            have HN := Lib.hid hn
            replace HT := Lib.hid (HT.out.trans (hb.mono HT.out.size))
            clear ho hb hp hn
            simp only [Option.isSome_none]
            go_wp2_with fail
            refine (posix_any _ _).mono ?_
            intro e wq hp
            rw [cat_of, HPH.out, HN.out] at hp
            obtain ⟨vq, rfl, ho, hb⟩ := post2_form hp
            replace HT := Lib.hid (HT.out.trans (hb.mono HT.out.size))
            clear ho hb hp HN
            simp only [Option.map_none, Option.isSome_none]
            go_wp2_with fail
            refine (prop_any s n _).mono ?_
            intro e wp hp
            by_cases hn : propR s.toList n = none
            · rw [hn] at hp
              obtain ⟨vp, rfl, ho, hb⟩ := post2_form hp
              have HN := Lib.hid hn
              replace HT := Lib.hid (HT.out.trans (hb.mono HT.out.size))
              clear ho hb hp hn
              simp only [Option.isSome_none]
              go_wp2_with fail
              refine (prop_any _ n _).mono ?_
              intro e wq hp
              rw [cat_of, HRH.out, HN.out] at hp
              obtain ⟨vq, rfl, ho, hb⟩ := post2_form hp
              replace HT := Lib.hid (HT.out.trans (hb.mono HT.out.size))
              clear ho hb hp
              simp only [Option.map_none, Option.isSome_none]
              go_wp2_with fail
              refine (prop_any s (!n) _).mono ?_
              intro e wx hp
              rw [HRT.out, HN.out] at hp
              obtain ⟨vx, rfl, ho, hb⟩ := post2_form hp
              replace HT := Lib.hid (HT.out.trans (hb.mono HT.out.size))
              clear ho hb hp HN
              simp only [Option.map_none, Option.isSome_none]
              go_wp2_with fail
              go_ret
              exact ⟨rfl, HT.out⟩
            · obtain ⟨l, hl⟩ := Option.ne_none_iff_exists'.1 hn
              rw [hl] at hp
              obtain ⟨vp, rfl, ho, hb⟩ := post2_form hp
              have HN := Lib.hid hl; have R1 := Lib.hid (show Rgs _ vp l from ho.rgs); have RR := Lib.hid (prop_right hl)
              replace HT := Lib.hid (HT.out.trans (hb.mono HT.out.size))
              clear ho hb hp hn hl
              simp only [Option.isSome_some]
              go_wp2_with fail
              refine (prop_any _ n _).mono ?_
              intro e wq hp
              rw [cat_of, HRH.out, HN.out] at hp
              obtain ⟨vq, rfl, ho, hb⟩ := post2_form hp
              replace R1 := Lib.hid (R1.out.below hb)
              have R2 := Lib.hid (show Rgs _ vq (notR l) from ho.rgs)
              replace HT := Lib.hid (HT.out.trans (hb.mono HT.out.size))
              clear ho hb hp
              simp only [Option.map_some, Option.isSome_some]
              go_wp2_with fail
              refine (prop_any s (!n) _).mono ?_
              intro e wx hp
              rw [HRT.out, HN.out] at hp
              obtain ⟨vx, rfl, ho, hb⟩ := post2_form hp
              replace R1 := Lib.hid (R1.out.below hb)
              replace R2 := Lib.hid (R2.out.below hb)
              have R3 := Lib.hid (show Rgs _ vx (notR l) from ho.rgs)
              replace HT := Lib.hid (HT.out.trans (hb.mono HT.out.size))
              clear ho hb hp HN
              simp only [Option.map_some, Option.isSome_some]
              go_wp2_with fail
              refine (cother_any vp vq l _ wx R1.out R2.out RR.out (right_small RR.out) rfl).mono ?_
              rintro e wr ⟨rfl, hb⟩
              replace R2 := Lib.hid (R2.out.below hb)
              replace R3 := Lib.hid (R3.out.below hb)
              replace HT := Lib.hid (HT.out.trans (hb.mono HT.out.size))
              clear hb R1 RR
              go_wp2_with fail
              refine (rsame_any vq vx _ _ wr R2.out R3.out).mono ?_
              rintro e wy ⟨B, rfl, hq, q, rfl⟩
              obtain rfl : B = true := hq.2 rfl
              have HT2 := Lib.hid (below_drewNr HT.out q)
              clear hq
              go_wp2_with fail
              go_ret
              exact ⟨rfl, HT2.out⟩
          · obtain ⟨l, hl⟩ := Option.ne_none_iff_exists'.1 hn
            rw [hl] at hp
            obtain ⟨vp, rfl, ho, hb⟩ := post2_form hp
            have HN := Lib.hid hl; have R1 := Lib.hid (show Rgs _ vp l from ho.rgs); have RR := Lib.hid (posix_right hl)
            replace HT := Lib.hid (HT.out.trans (hb.mono HT.out.size))
            clear ho hb hp hn hl
            simp only [Option.isSome_some]
            go_wp2_with fail
            refine (posix_any _ _).mono ?_
            intro e wq hp
            rw [cat_of, HPH.out, HN.out] at hp
            obtain ⟨vq, rfl, ho, hb⟩ := post2_form hp
            replace R1 := Lib.hid (R1.out.below hb)
            have R2 := Lib.hid (show Rgs _ vq (notR l) from ho.rgs)
            replace HT := Lib.hid (HT.out.trans (hb.mono HT.out.size))
            clear ho hb hp HN
            simp only [Option.map_some, Option.isSome_some]
            go_wp2_with fail
            refine (cother_any vp vq l _ wq R1.out R2.out RR.out (right_small RR.out) rfl).mono ?_
            rintro e wr ⟨rfl, hb⟩
            replace HT := Lib.hid (HT.out.trans (hb.mono HT.out.size))
            clear hb R1 R2 RR
            go_wp2_with fail
            refine (prop_any s n _).mono ?_
            intro e wp hp
            by_cases hn : propR s.toList n = none
            · rw [hn] at hp
              obtain ⟨vp, rfl, ho, hb⟩ := post2_form hp
              have HN := Lib.hid hn
              replace HT := Lib.hid (HT.out.trans (hb.mono HT.out.size))
              clear ho hb hp hn
              simp only [Option.isSome_none]
              go_wp2_with fail
              refine (prop_any _ n _).mono ?_
              intro e wq hp
              rw [cat_of, HRH.out, HN.out] at hp
              obtain ⟨vq, rfl, ho, hb⟩ := post2_form hp
              replace HT := Lib.hid (HT.out.trans (hb.mono HT.out.size))
              clear ho hb hp
              simp only [Option.map_none, Option.isSome_none]
              go_wp2_with fail
              refine (prop_any s (!n) _).mono ?_
              intro e wx hp
              rw [HRT.out, HN.out] at hp
              obtain ⟨vx, rfl, ho, hb⟩ := post2_form hp
              replace HT := Lib.hid (HT.out.trans (hb.mono HT.out.size))
              clear ho hb hp HN
              simp only [Option.map_none, Option.isSome_none]
              go_wp2_with fail
              go_ret
              exact ⟨rfl, HT.out⟩
            · obtain ⟨l, hl⟩ := Option.ne_none_iff_exists'.1 hn
              rw [hl] at hp
              obtain ⟨vp, rfl, ho, hb⟩ := post2_form hp
              have HN := Lib.hid hl; have R1 := Lib.hid (show Rgs _ vp l from ho.rgs); have RR := Lib.hid (prop_right hl)
              replace HT := Lib.hid (HT.out.trans (hb.mono HT.out.size))
              clear ho hb hp hn hl
              simp only [Option.isSome_some]
              go_wp2_with fail
              refine (prop_any _ n _).mono ?_
              intro e wq hp
              rw [cat_of, HRH.out, HN.out] at hp
              obtain ⟨vq, rfl, ho, hb⟩ := post2_form hp
              replace R1 := Lib.hid (R1.out.below hb)
              have R2 := Lib.hid (show Rgs _ vq (notR l) from ho.rgs)
              replace HT := Lib.hid (HT.out.trans (hb.mono HT.out.size))
              clear ho hb hp
              simp only [Option.map_some, Option.isSome_some]
              go_wp2_with fail
              refine (prop_any s (!n) _).mono ?_
              intro e wx hp
              rw [HRT.out, HN.out] at hp
              obtain ⟨vx, rfl, ho, hb⟩ := post2_form hp
              replace R1 := Lib.hid (R1.out.below hb)
              replace R2 := Lib.hid (R2.out.below hb)
              have R3 := Lib.hid (show Rgs _ vx (notR l) from ho.rgs)
              replace HT := Lib.hid (HT.out.trans (hb.mono HT.out.size))
              clear ho hb hp HN
              simp only [Option.map_some, Option.isSome_some]
              go_wp2_with fail
              refine (cother_any vp vq l _ wx R1.out R2.out RR.out (right_small RR.out) rfl).mono ?_
              rintro e wr ⟨rfl, hb⟩
              replace R2 := Lib.hid (R2.out.below hb)
              replace R3 := Lib.hid (R3.out.below hb)
              replace HT := Lib.hid (HT.out.trans (hb.mono HT.out.size))
              clear hb R1 RR
              go_wp2_with fail
              refine (rsame_any vq vx _ _ wr R2.out R3.out).mono ?_
              rintro e wy ⟨B, rfl, hq, q, rfl⟩
              obtain rfl : B = true := hq.2 rfl
              have HT2 := Lib.hid (below_drewNr HT.out q)
              clear hq
              go_wp2_with fail
              go_ret
              exact ⟨rfl, HT2.out⟩
end Go.Proofs.Ytnpogfkmcopdfaa
