/- The document's set of a name between colons. -/
import Derived.Test.YtnpogfkmcopdfaaR4Perl
import Derived.Test.YtnpogfkmcopdfaaR4Plain
set_option linter.unusedVariables false
namespace Go.Proofs.Ytnpogfkmcopdfaa
open Go Go.RowKit

theorem head_of (s : ByteArray) (h : 0 < s.size) : s.toList.head? = some s[0] := by
  rw [Lib.toList_data]
  obtain ⟨⟨l⟩⟩ := s
  cases l with
  | nil => exact absurd h (by decide)
  | cons x l => rfl
theorem tail_of (s : ByteArray) : (s.extract 1 s.size).toList = s.toList.tail := by
  rw [Lib.extract_toList, Lib.toList_data, Lib.size_eq, List.drop_one]
  exact List.take_of_length_le (by rw [List.length_tail]; exact Nat.le_refl _)
theorem empty_of (s : ByteArray) (h : ¬ 0 < s.size) : s.toList = [] := by
  rw [Lib.toList_data]
  exact List.length_eq_zero_iff.1 (by rw [← Lib.size_eq]; omega)
theorem byte_94 (x : UInt8) : ((x.toNat : Int) == 94) = decide (x = 94) := by
  by_cases h : x = 94
  · subst h
    rfl
  · rw [decide_eq_false h]
    refine beq_eq_false_iff_ne.2 fun e => h (UInt8.toNat_inj.1 ?_)
    show x.toNat = 94
    omega

set_option maxHeartbeats 1600000 in
theorem rposix_any (s : ByteArray) (w : World) : Calls Try.prog 13 #[.string s] w (Post2 (posixR s.toList) w) := by
  unfold Post2
  by_cases h0 : 0 < s.size
  · have hb := byte_94 s[0]
    by_cases hx : s[0] = 94
    · rw [decide_eq_true hx] at hb
      have hp : posixR s.toList = (plainR (s.extract 1 s.size).toList).map notR := by
        unfold posixR
        rw [head_of s h0, hx, if_pos rfl, tail_of]
      have HP := Lib.hid hp; have HR := Lib.hid (rplain_any (s.extract 1 s.size) w)
      clear hx hp
      go_enter Try.func13, Try.ntmps13
      go_wp2_with fail
      refine HR.out.mono ?_
      rintro e w1 ⟨hb, ⟨hx, rfl⟩ | ⟨v, k, hx, rfl, ho⟩⟩
      · have HX := Lib.hid hx; have HB := Lib.hid hb
        clear hx hb
        go_wp2_with fail
        go_ret2
        exact ⟨HB.out, .inl ⟨by rw [HP.out, HX.out]; rfl, rfl⟩⟩
      · have HX := Lib.hid hx; have HB := Lib.hid hb; have HO := Lib.hid ho
        have hlen : k.length ≤ 1099511627776 := by have := right_len k 0 (by omega) (plain_right hx); omega
        have HL := Lib.hid hlen
        clear hx hb ho hlen
        go_wp2_with fail
        refine (rnotR_any v k w1 HO.out.rgs (plain_right HX.out) HL.out).mono ?_
        rintro e w2 ⟨v2, rfl, ho, hb⟩
        have HB2 := Lib.hid (HB.out.trans (hb.mono HB.out.size)); have HO2 := Lib.hid (ho.mono HB.out.size)
        clear ho hb
        go_wp2_with fail
        go_ret2
        exact ⟨HB2.out, .inr ⟨v2, _, by rw [HP.out, HX.out]; rfl, rfl, HO2.out⟩⟩
    · rw [decide_eq_false hx] at hb
      have hp : posixR s.toList = plainR s.toList := by
        unfold posixR
        rw [head_of s h0, if_neg (fun e => hx (Option.some.inj e))]
      have HP := Lib.hid hp; have HR := Lib.hid (rplain_any s w)
      clear hx hp
      go_enter Try.func13, Try.ntmps13
      go_wp2_with fail
      refine HR.out.mono ?_
      rintro e w1 ⟨hb, ⟨hx, rfl⟩ | ⟨v, k, hx, rfl, ho⟩⟩
      · have HX := Lib.hid hx; have HB := Lib.hid hb
        clear hx hb
        go_wp2_with fail
        go_ret2
        exact ⟨HB.out, .inl ⟨by rw [HP.out, HX.out], rfl⟩⟩
      · have HX := Lib.hid hx; have HB := Lib.hid hb; have HO := Lib.hid ho
        clear hx hb ho
        go_wp2_with fail
        go_ret2
        exact ⟨HB.out, .inr ⟨v, k, by rw [HP.out, HX.out], rfl, HO.out⟩⟩
  · have hz : s.size = 0 := by omega
    have hp : posixR s.toList = plainR s.toList := by
      unfold posixR
      rw [empty_of s h0]
      rfl
    have HP := Lib.hid hp; have HR := Lib.hid (rplain_any s w)
    clear hp
    go_enter Try.func13, Try.ntmps13
    go_wp2_with fail
    refine HR.out.mono ?_
    rintro e w1 ⟨hb, ⟨hx, rfl⟩ | ⟨v, k, hx, rfl, ho⟩⟩
    · have HX := Lib.hid hx; have HB := Lib.hid hb
      clear hx hb
      go_wp2_with fail
      go_ret2
      exact ⟨HB.out, .inl ⟨by rw [HP.out, HX.out], rfl⟩⟩
    · have HX := Lib.hid hx; have HB := Lib.hid hb; have HO := Lib.hid ho
      clear hx hb ho
      go_wp2_with fail
      go_ret2
      exact ⟨HB.out, .inr ⟨v, k, by rw [HP.out, HX.out], rfl, HO.out⟩⟩
end Go.Proofs.Ytnpogfkmcopdfaa
