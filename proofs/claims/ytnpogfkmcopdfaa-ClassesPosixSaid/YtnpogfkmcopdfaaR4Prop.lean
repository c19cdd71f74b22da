/- The document's set of a property's name. -/
import Derived.Test.YtnpogfkmcopdfaaR4Posix
set_option linter.unusedVariables false
namespace Go.Proofs.Ytnpogfkmcopdfaa
open Go Go.RowKit

theorem any_right : RightR (notR []) := notR_right nil_right
theorem name_len {b : List UInt8} {l : List (Int × Int)} (h : nameR b = some l) : l.length ≤ 1099511627776 := by have := right_len l 0 (by omega) (name_right h); omega

set_option maxHeartbeats 1600000 in
theorem rprop_any (s : ByteArray) (n : Bool) (w : World) : Calls Try.prog 15 #[.string s, .bool n] w (Post2 (propR s.toList n) w) := by
  unfold Post2
  by_cases h0 : 0 < s.size
  · have hb := byte_94 s[0]
    by_cases hx : s[0] = 94
    · rw [decide_eq_true hx] at hb
      have hp : propR s.toList n = property2 (s.extract 1 s.size).toList (!n) := by
        unfold propR
        rw [head_of s h0, hx, if_pos rfl, tail_of]
      have HP := Lib.hid hp; have HR := Lib.hid (rnamed_any (s.extract 1 s.size) w)
      clear hx hp
      cases n
      · as_aux_lemma =>
          go_enter Try.func15, Try.ntmps15
          go_wp2_with fail
          refine HR.out.mono ?_
          rintro e w1 ⟨hb, hc⟩
          have HB := Lib.hid hb
          clear hb
          by_cases ha : (s.extract 1 s.size).toList = [65, 110, 121]
          · have q1 : ((s.extract 1 s.size).toList == [65, 110, 121]) = true := by rw [ha]; rfl
            have hq : property1 (s.extract 1 s.size).toList = some (notR []) := by unfold property1; rw [if_pos ha]
            have HQ := Lib.hid hq
            have HCC := Lib.hid hc
            clear ha hq hc
            have hc : ∃ v i, e = .returned (.tuple #[v, .bool i]) := by
              rcases HCC.out with ⟨-, rfl⟩ | ⟨v, l, -, rfl, -⟩
              · exact ⟨_, _, rfl⟩
              · exact ⟨_, _, rfl⟩
            obtain ⟨v, i, rfl⟩ := hc
            clear HCC
            go_wp2_with fail
            refine (rnotR_any _ [] _ (own_none w1 w1.heap.size).rgs nil_right (by decide)).mono ?_
            rintro e w2 ⟨v2, rfl, ho, hb⟩
            have HB2 := Lib.hid (HB.out.trans (hb.mono HB.out.size)); have HO2 := Lib.hid (ho.mono HB.out.size)
            clear ho hb
            go_wp2_with fail
            refine (rnotR_any v2 (notR []) w2 HO2.out.rgs any_right (by decide)).mono ?_
            rintro e w3 ⟨v3, rfl, ho, hb⟩
            have HB3 := Lib.hid (HB2.out.trans (hb.mono HB2.out.size)); have HO3 := Lib.hid (ho.mono HB2.out.size)
            clear ho hb
            go_wp2_with fail
            go_ret2
            exact ⟨HB3.out, .inr ⟨v3, _, by rw [HP.out]; simp [property2, HQ.out], rfl, HO3.out⟩⟩
          · have q1 : ((s.extract 1 s.size).toList == [65, 110, 121]) = false := by simpa using ha
            have hq : property1 (s.extract 1 s.size).toList = nameR (s.extract 1 s.size).toList := by unfold property1; rw [if_neg ha]
            have HQ := Lib.hid hq
            clear ha hq
            rcases hc with ⟨hx, rfl⟩ | ⟨v, k, hx, rfl, ho⟩
            · have HX := Lib.hid hx
              clear hx
              go_wp2_with fail
              go_ret2
              exact ⟨HB.out, .inl ⟨by rw [HP.out]; simp [property2, HQ.out, HX.out], rfl⟩⟩
            · have HX := Lib.hid hx; have HO := Lib.hid ho
              clear hx ho
              go_wp2_with fail
              refine (rnotR_any v k w1 HO.out.rgs (name_right HX.out) (name_len HX.out)).mono ?_
              rintro e w3 ⟨v3, rfl, ho, hb⟩
              have HB3 := Lib.hid (HB.out.trans (hb.mono HB.out.size)); have HO3 := Lib.hid (ho.mono HB.out.size)
              clear ho hb
              go_wp2_with fail
              go_ret2
              exact ⟨HB3.out, .inr ⟨v3, _, by rw [HP.out]; simp [property2, HQ.out, HX.out], rfl, HO3.out⟩⟩
      · as_aux_lemma =>
          go_enter Try.func15, Try.ntmps15
          go_wp2_with fail
          refine HR.out.mono ?_
          rintro e w1 ⟨hb, hc⟩
          have HB := Lib.hid hb
          clear hb
          by_cases ha : (s.extract 1 s.size).toList = [65, 110, 121]
          · have q1 : ((s.extract 1 s.size).toList == [65, 110, 121]) = true := by rw [ha]; rfl
            have hq : property1 (s.extract 1 s.size).toList = some (notR []) := by unfold property1; rw [if_pos ha]
            have HQ := Lib.hid hq
            have HCC := Lib.hid hc
            clear ha hq hc
            have hc : ∃ v i, e = .returned (.tuple #[v, .bool i]) := by
              rcases HCC.out with ⟨-, rfl⟩ | ⟨v, l, -, rfl, -⟩
              · exact ⟨_, _, rfl⟩
              · exact ⟨_, _, rfl⟩
            obtain ⟨v, i, rfl⟩ := hc
            clear HCC
            go_wp2_with fail
            refine (rnotR_any _ [] _ (own_none w1 w1.heap.size).rgs nil_right (by decide)).mono ?_
            rintro e w2 ⟨v2, rfl, ho, hb⟩
            have HB2 := Lib.hid (HB.out.trans (hb.mono HB.out.size)); have HO2 := Lib.hid (ho.mono HB.out.size)
            clear ho hb
            go_wp2_with fail
            go_ret2
            exact ⟨HB2.out, .inr ⟨v2, _, by rw [HP.out]; simp [property2, HQ.out], rfl, HO2.out⟩⟩
          · have q1 : ((s.extract 1 s.size).toList == [65, 110, 121]) = false := by simpa using ha
            have hq : property1 (s.extract 1 s.size).toList = nameR (s.extract 1 s.size).toList := by unfold property1; rw [if_neg ha]
            have HQ := Lib.hid hq
            clear ha hq
            rcases hc with ⟨hx, rfl⟩ | ⟨v, k, hx, rfl, ho⟩
            · have HX := Lib.hid hx
              clear hx
              go_wp2_with fail
              go_ret2
              exact ⟨HB.out, .inl ⟨by rw [HP.out]; simp [property2, HQ.out, HX.out], rfl⟩⟩
            · have HX := Lib.hid hx; have HO := Lib.hid ho
              clear hx ho
              go_wp2_with fail
              go_ret2
              exact ⟨HB.out, .inr ⟨v, k, by rw [HP.out]; simp [property2, HQ.out, HX.out], rfl, HO.out⟩⟩
    · rw [decide_eq_false hx] at hb
      have hp : propR s.toList n = property2 s.toList n := by
        unfold propR
        rw [head_of s h0, if_neg (fun e => hx (Option.some.inj e))]
      have HP := Lib.hid hp; have HR := Lib.hid (rnamed_any s w)
      clear hx hp
      cases n
      · as_aux_lemma =>
          go_enter Try.func15, Try.ntmps15
          go_wp2_with fail
          refine HR.out.mono ?_
          rintro e w1 ⟨hb, hc⟩
          have HB := Lib.hid hb
          clear hb
          by_cases ha : s.toList = [65, 110, 121]
          · have q1 : (s.toList == [65, 110, 121]) = true := by rw [ha]; rfl
            have hq : property1 s.toList = some (notR []) := by unfold property1; rw [if_pos ha]
            have HQ := Lib.hid hq
            have HCC := Lib.hid hc
            clear ha hq hc
            have hc : ∃ v i, e = .returned (.tuple #[v, .bool i]) := by
              rcases HCC.out with ⟨-, rfl⟩ | ⟨v, l, -, rfl, -⟩
              · exact ⟨_, _, rfl⟩
              · exact ⟨_, _, rfl⟩
            obtain ⟨v, i, rfl⟩ := hc
            clear HCC
            go_wp2_with fail
            refine (rnotR_any _ [] _ (own_none w1 w1.heap.size).rgs nil_right (by decide)).mono ?_
            rintro e w2 ⟨v2, rfl, ho, hb⟩
            have HB2 := Lib.hid (HB.out.trans (hb.mono HB.out.size)); have HO2 := Lib.hid (ho.mono HB.out.size)
            clear ho hb
            go_wp2_with fail
            go_ret2
            exact ⟨HB2.out, .inr ⟨v2, _, by rw [HP.out]; simp [property2, HQ.out], rfl, HO2.out⟩⟩
          · have q1 : (s.toList == [65, 110, 121]) = false := by simpa using ha
            have hq : property1 s.toList = nameR s.toList := by unfold property1; rw [if_neg ha]
            have HQ := Lib.hid hq
            clear ha hq
            rcases hc with ⟨hx, rfl⟩ | ⟨v, k, hx, rfl, ho⟩
            · have HX := Lib.hid hx
              clear hx
              go_wp2_with fail
              go_ret2
              exact ⟨HB.out, .inl ⟨by rw [HP.out]; simp [property2, HQ.out, HX.out], rfl⟩⟩
            · have HX := Lib.hid hx; have HO := Lib.hid ho
              clear hx ho
              go_wp2_with fail
              go_ret2
              exact ⟨HB.out, .inr ⟨v, k, by rw [HP.out]; simp [property2, HQ.out, HX.out], rfl, HO.out⟩⟩
      · as_aux_lemma =>
          go_enter Try.func15, Try.ntmps15
          go_wp2_with fail
          refine HR.out.mono ?_
          rintro e w1 ⟨hb, hc⟩
          have HB := Lib.hid hb
          clear hb
          by_cases ha : s.toList = [65, 110, 121]
          · have q1 : (s.toList == [65, 110, 121]) = true := by rw [ha]; rfl
            have hq : property1 s.toList = some (notR []) := by unfold property1; rw [if_pos ha]
            have HQ := Lib.hid hq
            have HCC := Lib.hid hc
            clear ha hq hc
            have hc : ∃ v i, e = .returned (.tuple #[v, .bool i]) := by
              rcases HCC.out with ⟨-, rfl⟩ | ⟨v, l, -, rfl, -⟩
              · exact ⟨_, _, rfl⟩
              · exact ⟨_, _, rfl⟩
            obtain ⟨v, i, rfl⟩ := hc
            clear HCC
            go_wp2_with fail
            refine (rnotR_any _ [] _ (own_none w1 w1.heap.size).rgs nil_right (by decide)).mono ?_
            rintro e w2 ⟨v2, rfl, ho, hb⟩
            have HB2 := Lib.hid (HB.out.trans (hb.mono HB.out.size)); have HO2 := Lib.hid (ho.mono HB.out.size)
            clear ho hb
            go_wp2_with fail
            refine (rnotR_any v2 (notR []) w2 HO2.out.rgs any_right (by decide)).mono ?_
            rintro e w3 ⟨v3, rfl, ho, hb⟩
            have HB3 := Lib.hid (HB2.out.trans (hb.mono HB2.out.size)); have HO3 := Lib.hid (ho.mono HB2.out.size)
            clear ho hb
            go_wp2_with fail
            go_ret2
            exact ⟨HB3.out, .inr ⟨v3, _, by rw [HP.out]; simp [property2, HQ.out], rfl, HO3.out⟩⟩
          · have q1 : (s.toList == [65, 110, 121]) = false := by simpa using ha
            have hq : property1 s.toList = nameR s.toList := by unfold property1; rw [if_neg ha]
            have HQ := Lib.hid hq
            clear ha hq
            rcases hc with ⟨hx, rfl⟩ | ⟨v, k, hx, rfl, ho⟩
            · have HX := Lib.hid hx
              clear hx
              go_wp2_with fail
              go_ret2
              exact ⟨HB.out, .inl ⟨by rw [HP.out]; simp [property2, HQ.out, HX.out], rfl⟩⟩
            · have HX := Lib.hid hx; have HO := Lib.hid ho
              clear hx ho
              go_wp2_with fail
              refine (rnotR_any v k w1 HO.out.rgs (name_right HX.out) (name_len HX.out)).mono ?_
              rintro e w3 ⟨v3, rfl, ho, hb⟩
              have HB3 := Lib.hid (HB.out.trans (hb.mono HB.out.size)); have HO3 := Lib.hid (ho.mono HB.out.size)
              clear ho hb
              go_wp2_with fail
              go_ret2
              exact ⟨HB3.out, .inr ⟨v3, _, by rw [HP.out]; simp [property2, HQ.out, HX.out], rfl, HO3.out⟩⟩
  · have hz : s.size = 0 := by omega
    have hp : propR s.toList n = property2 s.toList n := by
      unfold propR
      rw [empty_of s h0]
      rfl
    have HP := Lib.hid hp; have HR := Lib.hid (rnamed_any s w)
    clear hp
    cases n
    · as_aux_lemma =>
        go_enter Try.func15, Try.ntmps15
        go_wp2_with fail
        refine HR.out.mono ?_
        rintro e w1 ⟨hb, hc⟩
        have HB := Lib.hid hb
        clear hb
        by_cases ha : s.toList = [65, 110, 121]
        · have q1 : (s.toList == [65, 110, 121]) = true := by rw [ha]; rfl
          have hq : property1 s.toList = some (notR []) := by unfold property1; rw [if_pos ha]
          have HQ := Lib.hid hq
          have HCC := Lib.hid hc
          clear ha hq hc
          have hc : ∃ v i, e = .returned (.tuple #[v, .bool i]) := by
            rcases HCC.out with ⟨-, rfl⟩ | ⟨v, l, -, rfl, -⟩
            · exact ⟨_, _, rfl⟩
            · exact ⟨_, _, rfl⟩
          obtain ⟨v, i, rfl⟩ := hc
          clear HCC
          go_wp2_with fail
          refine (rnotR_any _ [] _ (own_none w1 w1.heap.size).rgs nil_right (by decide)).mono ?_
          rintro e w2 ⟨v2, rfl, ho, hb⟩
          have HB2 := Lib.hid (HB.out.trans (hb.mono HB.out.size)); have HO2 := Lib.hid (ho.mono HB.out.size)
          clear ho hb
          go_wp2_with fail
          go_ret2
          exact ⟨HB2.out, .inr ⟨v2, _, by rw [HP.out]; simp [property2, HQ.out], rfl, HO2.out⟩⟩
        · have q1 : (s.toList == [65, 110, 121]) = false := by simpa using ha
          have hq : property1 s.toList = nameR s.toList := by unfold property1; rw [if_neg ha]
          have HQ := Lib.hid hq
          clear ha hq
          rcases hc with ⟨hx, rfl⟩ | ⟨v, k, hx, rfl, ho⟩
          · have HX := Lib.hid hx
            clear hx
            go_wp2_with fail
            go_ret2
            exact ⟨HB.out, .inl ⟨by rw [HP.out]; simp [property2, HQ.out, HX.out], rfl⟩⟩
          · have HX := Lib.hid hx; have HO := Lib.hid ho
            clear hx ho
            go_wp2_with fail
            go_ret2
            exact ⟨HB.out, .inr ⟨v, k, by rw [HP.out]; simp [property2, HQ.out, HX.out], rfl, HO.out⟩⟩
    · as_aux_lemma =>
        go_enter Try.func15, Try.ntmps15
        go_wp2_with fail
        refine HR.out.mono ?_
        rintro e w1 ⟨hb, hc⟩
        have HB := Lib.hid hb
        clear hb
        by_cases ha : s.toList = [65, 110, 121]
        · have q1 : (s.toList == [65, 110, 121]) = true := by rw [ha]; rfl
          have hq : property1 s.toList = some (notR []) := by unfold property1; rw [if_pos ha]
          have HQ := Lib.hid hq
          have HCC := Lib.hid hc
          clear ha hq hc
          have hc : ∃ v i, e = .returned (.tuple #[v, .bool i]) := by
            rcases HCC.out with ⟨-, rfl⟩ | ⟨v, l, -, rfl, -⟩
            · exact ⟨_, _, rfl⟩
            · exact ⟨_, _, rfl⟩
          obtain ⟨v, i, rfl⟩ := hc
          clear HCC
          go_wp2_with fail
          refine (rnotR_any _ [] _ (own_none w1 w1.heap.size).rgs nil_right (by decide)).mono ?_
          rintro e w2 ⟨v2, rfl, ho, hb⟩
          have HB2 := Lib.hid (HB.out.trans (hb.mono HB.out.size)); have HO2 := Lib.hid (ho.mono HB.out.size)
          clear ho hb
          go_wp2_with fail
          refine (rnotR_any v2 (notR []) w2 HO2.out.rgs any_right (by decide)).mono ?_
          rintro e w3 ⟨v3, rfl, ho, hb⟩
          have HB3 := Lib.hid (HB2.out.trans (hb.mono HB2.out.size)); have HO3 := Lib.hid (ho.mono HB2.out.size)
          clear ho hb
          go_wp2_with fail
          go_ret2
          exact ⟨HB3.out, .inr ⟨v3, _, by rw [HP.out]; simp [property2, HQ.out], rfl, HO3.out⟩⟩
        · have q1 : (s.toList == [65, 110, 121]) = false := by simpa using ha
          have hq : property1 s.toList = nameR s.toList := by unfold property1; rw [if_neg ha]
          have HQ := Lib.hid hq
          clear ha hq
          rcases hc with ⟨hx, rfl⟩ | ⟨v, k, hx, rfl, ho⟩
          · have HX := Lib.hid hx
            clear hx
            go_wp2_with fail
            go_ret2
            exact ⟨HB.out, .inl ⟨by rw [HP.out]; simp [property2, HQ.out, HX.out], rfl⟩⟩
          · have HX := Lib.hid hx; have HO := Lib.hid ho
            clear hx ho
            go_wp2_with fail
            refine (rnotR_any v k w1 HO.out.rgs (name_right HX.out) (name_len HX.out)).mono ?_
            rintro e w3 ⟨v3, rfl, ho, hb⟩
            have HB3 := Lib.hid (HB.out.trans (hb.mono HB.out.size)); have HO3 := Lib.hid (ho.mono HB.out.size)
            clear ho hb
            go_wp2_with fail
            go_ret2
            exact ⟨HB3.out, .inr ⟨v3, _, by rw [HP.out]; simp [property2, HQ.out, HX.out], rfl, HO3.out⟩⟩
end Go.Proofs.Ytnpogfkmcopdfaa
