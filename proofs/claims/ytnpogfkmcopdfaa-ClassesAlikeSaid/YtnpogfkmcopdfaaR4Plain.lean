/- The document's set of a name between colons, without a sign ahead. -/
import Derived.Test.YtnpogfkmcopdfaaR4Cls
set_option linter.unusedVariables false
namespace Go.Proofs.Ytnpogfkmcopdfaa
open Go Go.RowKit

set_option maxHeartbeats 4000000 in
set_option maxRecDepth 100000 in
theorem rplain_any (s : ByteArray) (w : World) : Calls Try.prog 26 #[.string s] w (Post2 (plainR s.toList) w) := by
  obtain ⟨b, hb⟩ : ∃ b, s.toList = b := ⟨_, rfl⟩
  unfold Post2
  rw [hb]
  have HS := Lib.hid hb
  clear hb
  go_enter Try.func26, Try.ntmps26
  go_upto_if 5 with (fail)
  rw [HS.out]
  by_cases h0 : b = [97, 108, 110, 117, 109]
  · subst h0
    rw [show (([97, 108, 110, 117, 109] : List UInt8) == [97, 108, 110, 117, 109]) = true by rfl]
    go_wp2_with fail
    refine (rset4_any _ [(48, 57), (65, 90), (97, 122)] _ (rgs_lit w 41 _ _ _ rfl (by unfold AllI32 I32; decide) rfl (by unfold maxLen; decide)) (by decide)).mono ?_
    rintro e w1 ⟨v1, rfl, ho, hb⟩
    have HB := Lib.hid ((((Below.refl _ w).alloc (Nat.le_refl _) _).trans (hb.mono (by simp))))
    have HO := Lib.hid (ho.mono (B' := w.heap.size) (by simp))
    clear ho hb
    go_wp2_with fail
    go_ret2
    exact ⟨HB.out, .inr ⟨v1, _, rfl, rfl, HO.out⟩⟩
  rw [show (b == [97, 108, 110, 117, 109]) = false by simpa using h0]
  go_upto_if 12 with (fail)
  rw [HS.out]
  by_cases h1 : b = [97, 108, 112, 104, 97]
  · subst h1
    rw [show (([97, 108, 112, 104, 97] : List UInt8) == [97, 108, 112, 104, 97]) = true by rfl]
    go_wp2_with fail
    refine (rset4_any _ [(65, 90), (97, 122)] _ (rgs_lit w 41 _ _ _ rfl (by unfold AllI32 I32; decide) rfl (by unfold maxLen; decide)) (by decide)).mono ?_
    rintro e w1 ⟨v1, rfl, ho, hb⟩
    have HB := Lib.hid ((((Below.refl _ w).alloc (Nat.le_refl _) _).trans (hb.mono (by simp))))
    have HO := Lib.hid (ho.mono (B' := w.heap.size) (by simp))
    clear ho hb
    go_wp2_with fail
    go_ret2
    exact ⟨HB.out, .inr ⟨v1, _, rfl, rfl, HO.out⟩⟩
  rw [show (b == [97, 108, 112, 104, 97]) = false by simpa using h1]
  go_upto_if 18 with (fail)
  rw [HS.out]
  by_cases h2 : b = [97, 115, 99, 105, 105]
  · subst h2
    rw [show (([97, 115, 99, 105, 105] : List UInt8) == [97, 115, 99, 105, 105]) = true by rfl]
    go_wp2_with fail
    refine (rset4_any _ [(0, 127)] _ (rgs_lit w 41 _ _ _ rfl (by unfold AllI32 I32; decide) rfl (by unfold maxLen; decide)) (by decide)).mono ?_
    rintro e w1 ⟨v1, rfl, ho, hb⟩
    have HB := Lib.hid ((((Below.refl _ w).alloc (Nat.le_refl _) _).trans (hb.mono (by simp))))
    have HO := Lib.hid (ho.mono (B' := w.heap.size) (by simp))
    clear ho hb
    go_wp2_with fail
    go_ret2
    exact ⟨HB.out, .inr ⟨v1, _, rfl, rfl, HO.out⟩⟩
  rw [show (b == [97, 115, 99, 105, 105]) = false by simpa using h2]
  go_upto_if 23 with (fail)
  rw [HS.out]
  by_cases h3 : b = [98, 108, 97, 110, 107]
  · subst h3
    rw [show (([98, 108, 97, 110, 107] : List UInt8) == [98, 108, 97, 110, 107]) = true by rfl]
    go_wp2_with fail
    refine (rset4_any _ [(9, 9), (32, 32)] _ (rgs_lit w 41 _ _ _ rfl (by unfold AllI32 I32; decide) rfl (by unfold maxLen; decide)) (by decide)).mono ?_
    rintro e w1 ⟨v1, rfl, ho, hb⟩
    have HB := Lib.hid ((((Below.refl _ w).alloc (Nat.le_refl _) _).trans (hb.mono (by simp))))
    have HO := Lib.hid (ho.mono (B' := w.heap.size) (by simp))
    clear ho hb
    go_wp2_with fail
    go_ret2
    exact ⟨HB.out, .inr ⟨v1, _, rfl, rfl, HO.out⟩⟩
  rw [show (b == [98, 108, 97, 110, 107]) = false by simpa using h3]
  go_upto_if 29 with (fail)
  rw [HS.out]
  by_cases h4 : b = [99, 110, 116, 114, 108]
  · subst h4
    rw [show (([99, 110, 116, 114, 108] : List UInt8) == [99, 110, 116, 114, 108]) = true by rfl]
    go_wp2_with fail
    refine (rset4_any _ [(0, 31), (127, 127)] _ (rgs_lit w 41 _ _ _ rfl (by unfold AllI32 I32; decide) rfl (by unfold maxLen; decide)) (by decide)).mono ?_
    rintro e w1 ⟨v1, rfl, ho, hb⟩
    have HB := Lib.hid ((((Below.refl _ w).alloc (Nat.le_refl _) _).trans (hb.mono (by simp))))
    have HO := Lib.hid (ho.mono (B' := w.heap.size) (by simp))
    clear ho hb
    go_wp2_with fail
    go_ret2
    exact ⟨HB.out, .inr ⟨v1, _, rfl, rfl, HO.out⟩⟩
  rw [show (b == [99, 110, 116, 114, 108]) = false by simpa using h4]
  go_upto_if 35 with (fail)
  rw [HS.out]
  by_cases h5 : b = [100, 105, 103, 105, 116]
  · subst h5
    rw [show (([100, 105, 103, 105, 116] : List UInt8) == [100, 105, 103, 105, 116]) = true by rfl]
    go_wp2_with fail
    refine (rset4_any _ [(48, 57)] _ (rgs_lit w 41 _ _ _ rfl (by unfold AllI32 I32; decide) rfl (by unfold maxLen; decide)) (by decide)).mono ?_
    rintro e w1 ⟨v1, rfl, ho, hb⟩
    have HB := Lib.hid ((((Below.refl _ w).alloc (Nat.le_refl _) _).trans (hb.mono (by simp))))
    have HO := Lib.hid (ho.mono (B' := w.heap.size) (by simp))
    clear ho hb
    go_wp2_with fail
    go_ret2
    exact ⟨HB.out, .inr ⟨v1, _, rfl, rfl, HO.out⟩⟩
  rw [show (b == [100, 105, 103, 105, 116]) = false by simpa using h5]
  go_upto_if 40 with (fail)
  rw [HS.out]
  by_cases h6 : b = [103, 114, 97, 112, 104]
  · subst h6
    rw [show (([103, 114, 97, 112, 104] : List UInt8) == [103, 114, 97, 112, 104]) = true by rfl]
    go_wp2_with fail
    refine (rset4_any _ [(33, 126)] _ (rgs_lit w 41 _ _ _ rfl (by unfold AllI32 I32; decide) rfl (by unfold maxLen; decide)) (by decide)).mono ?_
    rintro e w1 ⟨v1, rfl, ho, hb⟩
    have HB := Lib.hid ((((Below.refl _ w).alloc (Nat.le_refl _) _).trans (hb.mono (by simp))))
    have HO := Lib.hid (ho.mono (B' := w.heap.size) (by simp))
    clear ho hb
    go_wp2_with fail
    go_ret2
    exact ⟨HB.out, .inr ⟨v1, _, rfl, rfl, HO.out⟩⟩
  rw [show (b == [103, 114, 97, 112, 104]) = false by simpa using h6]
  go_upto_if 45 with (fail)
  rw [HS.out]
  by_cases h7 : b = [108, 111, 119, 101, 114]
  · subst h7
    rw [show (([108, 111, 119, 101, 114] : List UInt8) == [108, 111, 119, 101, 114]) = true by rfl]
    go_wp2_with fail
    refine (rset4_any _ [(97, 122)] _ (rgs_lit w 41 _ _ _ rfl (by unfold AllI32 I32; decide) rfl (by unfold maxLen; decide)) (by decide)).mono ?_
    rintro e w1 ⟨v1, rfl, ho, hb⟩
    have HB := Lib.hid ((((Below.refl _ w).alloc (Nat.le_refl _) _).trans (hb.mono (by simp))))
    have HO := Lib.hid (ho.mono (B' := w.heap.size) (by simp))
    clear ho hb
    go_wp2_with fail
    go_ret2
    exact ⟨HB.out, .inr ⟨v1, _, rfl, rfl, HO.out⟩⟩
  rw [show (b == [108, 111, 119, 101, 114]) = false by simpa using h7]
  go_upto_if 50 with (fail)
  rw [HS.out]
  by_cases h8 : b = [112, 114, 105, 110, 116]
  · subst h8
    rw [show (([112, 114, 105, 110, 116] : List UInt8) == [112, 114, 105, 110, 116]) = true by rfl]
    go_wp2_with fail
    refine (rset4_any _ [(32, 126)] _ (rgs_lit w 41 _ _ _ rfl (by unfold AllI32 I32; decide) rfl (by unfold maxLen; decide)) (by decide)).mono ?_
    rintro e w1 ⟨v1, rfl, ho, hb⟩
    have HB := Lib.hid ((((Below.refl _ w).alloc (Nat.le_refl _) _).trans (hb.mono (by simp))))
    have HO := Lib.hid (ho.mono (B' := w.heap.size) (by simp))
    clear ho hb
    go_wp2_with fail
    go_ret2
    exact ⟨HB.out, .inr ⟨v1, _, rfl, rfl, HO.out⟩⟩
  rw [show (b == [112, 114, 105, 110, 116]) = false by simpa using h8]
  go_upto_if 55 with (fail)
  rw [HS.out]
  by_cases h9 : b = [112, 117, 110, 99, 116]
  · subst h9
    rw [show (([112, 117, 110, 99, 116] : List UInt8) == [112, 117, 110, 99, 116]) = true by rfl]
    go_wp2_with fail
    refine (rset4_any _ [(33, 47), (58, 64), (91, 96), (123, 126)] _ (rgs_lit w 41 _ _ _ rfl (by unfold AllI32 I32; decide) rfl (by unfold maxLen; decide)) (by decide)).mono ?_
    rintro e w1 ⟨v1, rfl, ho, hb⟩
    have HB := Lib.hid ((((Below.refl _ w).alloc (Nat.le_refl _) _).trans (hb.mono (by simp))))
    have HO := Lib.hid (ho.mono (B' := w.heap.size) (by simp))
    clear ho hb
    go_wp2_with fail
    go_ret2
    exact ⟨HB.out, .inr ⟨v1, _, rfl, rfl, HO.out⟩⟩
  rw [show (b == [112, 117, 110, 99, 116]) = false by simpa using h9]
  go_upto_if 63 with (fail)
  rw [HS.out]
  by_cases h10 : b = [115, 112, 97, 99, 101]
  · subst h10
    rw [show (([115, 112, 97, 99, 101] : List UInt8) == [115, 112, 97, 99, 101]) = true by rfl]
    go_wp2_with fail
    refine (rset4_any _ [(9, 13), (32, 32)] _ (rgs_lit w 41 _ _ _ rfl (by unfold AllI32 I32; decide) rfl (by unfold maxLen; decide)) (by decide)).mono ?_
    rintro e w1 ⟨v1, rfl, ho, hb⟩
    have HB := Lib.hid ((((Below.refl _ w).alloc (Nat.le_refl _) _).trans (hb.mono (by simp))))
    have HO := Lib.hid (ho.mono (B' := w.heap.size) (by simp))
    clear ho hb
    go_wp2_with fail
    go_ret2
    exact ⟨HB.out, .inr ⟨v1, _, rfl, rfl, HO.out⟩⟩
  rw [show (b == [115, 112, 97, 99, 101]) = false by simpa using h10]
  go_upto_if 69 with (fail)
  rw [HS.out]
  by_cases h11 : b = [117, 112, 112, 101, 114]
  · subst h11
    rw [show (([117, 112, 112, 101, 114] : List UInt8) == [117, 112, 112, 101, 114]) = true by rfl]
    go_wp2_with fail
    refine (rset4_any _ [(65, 90)] _ (rgs_lit w 41 _ _ _ rfl (by unfold AllI32 I32; decide) rfl (by unfold maxLen; decide)) (by decide)).mono ?_
    rintro e w1 ⟨v1, rfl, ho, hb⟩
    have HB := Lib.hid ((((Below.refl _ w).alloc (Nat.le_refl _) _).trans (hb.mono (by simp))))
    have HO := Lib.hid (ho.mono (B' := w.heap.size) (by simp))
    clear ho hb
    go_wp2_with fail
    go_ret2
    exact ⟨HB.out, .inr ⟨v1, _, rfl, rfl, HO.out⟩⟩
  rw [show (b == [117, 112, 112, 101, 114]) = false by simpa using h11]
  go_upto_if 74 with (fail)
  rw [HS.out]
  by_cases h12 : b = [119, 111, 114, 100]
  · subst h12
    rw [show (([119, 111, 114, 100] : List UInt8) == [119, 111, 114, 100]) = true by rfl]
    go_wp2_with fail
    refine (rset4_any _ [(48, 57), (65, 90), (95, 95), (97, 122)] _ (rgs_lit w 41 _ _ _ rfl (by unfold AllI32 I32; decide) rfl (by unfold maxLen; decide)) (by decide)).mono ?_
    rintro e w1 ⟨v1, rfl, ho, hb⟩
    have HB := Lib.hid ((((Below.refl _ w).alloc (Nat.le_refl _) _).trans (hb.mono (by simp))))
    have HO := Lib.hid (ho.mono (B' := w.heap.size) (by simp))
    clear ho hb
    go_wp2_with fail
    go_ret2
    exact ⟨HB.out, .inr ⟨v1, _, rfl, rfl, HO.out⟩⟩
  rw [show (b == [119, 111, 114, 100]) = false by simpa using h12]
  go_upto_if 82 with (fail)
  rw [HS.out]
  by_cases h13 : b = [120, 100, 105, 103, 105, 116]
  · subst h13
    rw [show (([120, 100, 105, 103, 105, 116] : List UInt8) == [120, 100, 105, 103, 105, 116]) = true by rfl]
    go_wp2_with fail
    refine (rset4_any _ [(48, 57), (65, 70), (97, 102)] _ (rgs_lit w 41 _ _ _ rfl (by unfold AllI32 I32; decide) rfl (by unfold maxLen; decide)) (by decide)).mono ?_
    rintro e w1 ⟨v1, rfl, ho, hb⟩
    have HB := Lib.hid ((((Below.refl _ w).alloc (Nat.le_refl _) _).trans (hb.mono (by simp))))
    have HO := Lib.hid (ho.mono (B' := w.heap.size) (by simp))
    clear ho hb
    go_wp2_with fail
    go_ret2
    exact ⟨HB.out, .inr ⟨v1, _, rfl, rfl, HO.out⟩⟩
  rw [show (b == [120, 100, 105, 103, 105, 116]) = false by simpa using h13]
  go_wp2_with fail
  go_ret2
  exact ⟨Below.refl _ _, .inl ⟨by unfold plainR; simp [h0, h1, h2, h3, h4, h5, h6, h7, h8, h9, h10, h11, h12, h13], rfl⟩⟩
end Go.Proofs.Ytnpogfkmcopdfaa
