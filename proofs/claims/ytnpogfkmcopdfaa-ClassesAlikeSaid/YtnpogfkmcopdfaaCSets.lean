/- The program's sets of classes: of a small letter, of a name between colons, of all; Not by name. -/
import Derived.Test.YtnpogfkmcopdfaaCRuns
import Derived.Test.YtnpogfkmcopdfaaR4Cls
import Derived.Test.YtnpogfkmcopdfaaOpsN
set_option linter.unusedVariables false
namespace Go.Proofs.Ytnpogfkmcopdfaa
open Go Go.RowKit

/-- The answer is a fresh row of the ranges l. -/
def SetIs (l : List (Int × Int)) (w : World) (e : Ending) (w' : World) : Prop := ∃ v', e = .returned v' ∧ OwnR w' w.heap.size v' l ∧ Below w.heap.size w w'

theorem notP_any (v : Value) (l : List (Int × Int)) (w : World) (h : Rgs w v l) (hr : RightR l) (hn : l.length ≤ 134217728) : Calls Try.prog 21 #[v] w (SetIs (notR l) w) := by
  refine (not_any v l w h hn).mono ?_
  rintro e w1 ⟨v1, k, rfl, hO, hR, hP, hB⟩
  exact ⟨v1, rfl, (notR_is hr hR hP) ▸ hO, hB⟩

set_option maxHeartbeats 800000 in
theorem whole_any (w : World) : Calls Try.prog 29 #[] w (SetIs (notR []) w) := by
  unfold SetIs
  go_enter Try.func29, Try.ntmps29
  go_wp2_with fail
  refine (runs_any _ [(0, 1114111)] _ (ends2_lit w _ _ _ rfl rfl (by unfold AllI32 I32; decide)) (by decide)).mono ?_
  rintro e w1 ⟨v1, rfl, ho, hb⟩
  have HB := Lib.hid ((((Below.refl _ w).alloc (Nat.le_refl _) _).trans (hb.mono (by simp))))
  have HO := Lib.hid (ho.mono (B' := w.heap.size) (by simp))
  clear ho hb
  go_wp2_with fail
  go_ret
  exact ⟨v1, rfl, HO.out, HB.out⟩

set_option maxHeartbeats 1600000 in
set_option maxRecDepth 100000 in
theorem perlSet_any (c : Int) (l : List (Int × Int)) (w : World) (hc : (c = 100 ∧ l = dR) ∨ (c = 115 ∧ l = sR) ∨ (c = 119 ∧ l = wR)) : Calls Try.prog 20 #[.int .u8 c] w (SetIs l w) := by
  unfold SetIs
  rcases hc with ⟨rfl, rfl⟩ | ⟨rfl, rfl⟩ | ⟨rfl, rfl⟩
  · go_enter Try.func20, Try.ntmps20
    go_wp2_with fail
    refine (runs_any _ dR _ (ends2_lit w _ _ _ rfl rfl (by unfold AllI32 I32; decide)) (by decide)).mono ?_
    rintro e w1 ⟨v1, rfl, ho, hb⟩
    have HB := Lib.hid ((((Below.refl _ w).alloc (Nat.le_refl _) _).trans (hb.mono (by simp))))
    have HO := Lib.hid (ho.mono (B' := w.heap.size) (by simp))
    clear ho hb
    go_wp2_with fail
    go_ret
    exact ⟨v1, rfl, HO.out, HB.out⟩
  · go_enter Try.func20, Try.ntmps20
    go_wp2_with fail
    refine (runs_any _ sR _ (ends2_lit w _ _ _ rfl rfl (by unfold AllI32 I32; decide)) (by decide)).mono ?_
    rintro e w1 ⟨v1, rfl, ho, hb⟩
    have HB := Lib.hid ((((Below.refl _ w).alloc (Nat.le_refl _) _).trans (hb.mono (by simp))))
    have HO := Lib.hid (ho.mono (B' := w.heap.size) (by simp))
    clear ho hb
    go_wp2_with fail
    go_ret
    exact ⟨v1, rfl, HO.out, HB.out⟩
  · go_enter Try.func20, Try.ntmps20
    go_wp2_with fail
    refine (runs_any _ wR _ (ends2_lit w _ _ _ rfl rfl (by unfold AllI32 I32; decide)) (by decide)).mono ?_
    rintro e w1 ⟨v1, rfl, ho, hb⟩
    have HB := Lib.hid ((((Below.refl _ w).alloc (Nat.le_refl _) _).trans (hb.mono (by simp))))
    have HO := Lib.hid (ho.mono (B' := w.heap.size) (by simp))
    clear ho hb
    go_wp2_with fail
    go_ret
    exact ⟨v1, rfl, HO.out, HB.out⟩

/-- A set, or nil where there is no such name. -/
def NilPost (o : Option (List (Int × Int))) (w : World) (e : Ending) (w' : World) : Prop :=
  Below w.heap.size w w' ∧ ((o = none ∧ e = .returned (.slice none 0 0)) ∨ ∃ v l, o = some l ∧ l ≠ [] ∧ e = .returned v ∧ OwnR w' w.heap.size v l)

set_option maxHeartbeats 4000000 in
set_option maxRecDepth 100000 in
theorem posixSet_any (s : ByteArray) (w : World) : Calls Try.prog 36 #[.string s] w (NilPost (plainR s.toList) w) := by
  obtain ⟨b, hb⟩ : ∃ b, s.toList = b := ⟨_, rfl⟩
  unfold NilPost
  rw [hb]
  have HS := Lib.hid hb
  clear hb
  go_enter Try.func36, Try.ntmps36
  go_upto_if 4 with (fail)
  rw [HS.out]
  by_cases h0 : b = [97, 108, 110, 117, 109]
  · subst h0
    rw [show (([97, 108, 110, 117, 109] : List UInt8) == [97, 108, 110, 117, 109]) = true by rfl]
    go_wp2_with fail
    refine (runs_any _ [(48, 57), (65, 90), (97, 122)] _ (ends2_lit w _ _ _ rfl rfl (by unfold AllI32 I32; decide)) (by decide)).mono ?_
    rintro e w1 ⟨v1, rfl, ho, hb⟩
    have HB := Lib.hid ((((Below.refl _ w).alloc (Nat.le_refl _) _).trans (hb.mono (by simp))))
    have HO := Lib.hid (ho.mono (B' := w.heap.size) (by simp))
    clear ho hb
    go_wp2_with fail
    go_ret
    exact ⟨HB.out, .inr ⟨v1, _, rfl, by simp, rfl, HO.out⟩⟩
  rw [show (b == [97, 108, 110, 117, 109]) = false by simpa using h0]
  go_upto_if 8 with (fail)
  rw [HS.out]
  by_cases h1 : b = [97, 108, 112, 104, 97]
  · subst h1
    rw [show (([97, 108, 112, 104, 97] : List UInt8) == [97, 108, 112, 104, 97]) = true by rfl]
    go_wp2_with fail
    refine (runs_any _ [(65, 90), (97, 122)] _ (ends2_lit w _ _ _ rfl rfl (by unfold AllI32 I32; decide)) (by decide)).mono ?_
    rintro e w1 ⟨v1, rfl, ho, hb⟩
    have HB := Lib.hid ((((Below.refl _ w).alloc (Nat.le_refl _) _).trans (hb.mono (by simp))))
    have HO := Lib.hid (ho.mono (B' := w.heap.size) (by simp))
    clear ho hb
    go_wp2_with fail
    go_ret
    exact ⟨HB.out, .inr ⟨v1, _, rfl, by simp, rfl, HO.out⟩⟩
  rw [show (b == [97, 108, 112, 104, 97]) = false by simpa using h1]
  go_upto_if 12 with (fail)
  rw [HS.out]
  by_cases h2 : b = [97, 115, 99, 105, 105]
  · subst h2
    rw [show (([97, 115, 99, 105, 105] : List UInt8) == [97, 115, 99, 105, 105]) = true by rfl]
    go_wp2_with fail
    refine (runs_any _ [(0, 127)] _ (ends2_lit w _ _ _ rfl rfl (by unfold AllI32 I32; decide)) (by decide)).mono ?_
    rintro e w1 ⟨v1, rfl, ho, hb⟩
    have HB := Lib.hid ((((Below.refl _ w).alloc (Nat.le_refl _) _).trans (hb.mono (by simp))))
    have HO := Lib.hid (ho.mono (B' := w.heap.size) (by simp))
    clear ho hb
    go_wp2_with fail
    go_ret
    exact ⟨HB.out, .inr ⟨v1, _, rfl, by simp, rfl, HO.out⟩⟩
  rw [show (b == [97, 115, 99, 105, 105]) = false by simpa using h2]
  go_upto_if 16 with (fail)
  rw [HS.out]
  by_cases h3 : b = [98, 108, 97, 110, 107]
  · subst h3
    rw [show (([98, 108, 97, 110, 107] : List UInt8) == [98, 108, 97, 110, 107]) = true by rfl]
    go_wp2_with fail
    refine (runs_any _ [(9, 9), (32, 32)] _ (ends2_lit w _ _ _ rfl rfl (by unfold AllI32 I32; decide)) (by decide)).mono ?_
    rintro e w1 ⟨v1, rfl, ho, hb⟩
    have HB := Lib.hid ((((Below.refl _ w).alloc (Nat.le_refl _) _).trans (hb.mono (by simp))))
    have HO := Lib.hid (ho.mono (B' := w.heap.size) (by simp))
    clear ho hb
    go_wp2_with fail
    go_ret
    exact ⟨HB.out, .inr ⟨v1, _, rfl, by simp, rfl, HO.out⟩⟩
  rw [show (b == [98, 108, 97, 110, 107]) = false by simpa using h3]
  go_upto_if 20 with (fail)
  rw [HS.out]
  by_cases h4 : b = [99, 110, 116, 114, 108]
  · subst h4
    rw [show (([99, 110, 116, 114, 108] : List UInt8) == [99, 110, 116, 114, 108]) = true by rfl]
    go_wp2_with fail
    refine (runs_any _ [(0, 31), (127, 127)] _ (ends2_lit w _ _ _ rfl rfl (by unfold AllI32 I32; decide)) (by decide)).mono ?_
    rintro e w1 ⟨v1, rfl, ho, hb⟩
    have HB := Lib.hid ((((Below.refl _ w).alloc (Nat.le_refl _) _).trans (hb.mono (by simp))))
    have HO := Lib.hid (ho.mono (B' := w.heap.size) (by simp))
    clear ho hb
    go_wp2_with fail
    go_ret
    exact ⟨HB.out, .inr ⟨v1, _, rfl, by simp, rfl, HO.out⟩⟩
  rw [show (b == [99, 110, 116, 114, 108]) = false by simpa using h4]
  go_upto_if 24 with (fail)
  rw [HS.out]
  by_cases h5 : b = [100, 105, 103, 105, 116]
  · subst h5
    rw [show (([100, 105, 103, 105, 116] : List UInt8) == [100, 105, 103, 105, 116]) = true by rfl]
    go_wp2_with fail
    refine (runs_any _ [(48, 57)] _ (ends2_lit w _ _ _ rfl rfl (by unfold AllI32 I32; decide)) (by decide)).mono ?_
    rintro e w1 ⟨v1, rfl, ho, hb⟩
    have HB := Lib.hid ((((Below.refl _ w).alloc (Nat.le_refl _) _).trans (hb.mono (by simp))))
    have HO := Lib.hid (ho.mono (B' := w.heap.size) (by simp))
    clear ho hb
    go_wp2_with fail
    go_ret
    exact ⟨HB.out, .inr ⟨v1, _, rfl, by simp, rfl, HO.out⟩⟩
  rw [show (b == [100, 105, 103, 105, 116]) = false by simpa using h5]
  go_upto_if 28 with (fail)
  rw [HS.out]
  by_cases h6 : b = [103, 114, 97, 112, 104]
  · subst h6
    rw [show (([103, 114, 97, 112, 104] : List UInt8) == [103, 114, 97, 112, 104]) = true by rfl]
    go_wp2_with fail
    refine (runs_any _ [(33, 126)] _ (ends2_lit w _ _ _ rfl rfl (by unfold AllI32 I32; decide)) (by decide)).mono ?_
    rintro e w1 ⟨v1, rfl, ho, hb⟩
    have HB := Lib.hid ((((Below.refl _ w).alloc (Nat.le_refl _) _).trans (hb.mono (by simp))))
    have HO := Lib.hid (ho.mono (B' := w.heap.size) (by simp))
    clear ho hb
    go_wp2_with fail
    go_ret
    exact ⟨HB.out, .inr ⟨v1, _, rfl, by simp, rfl, HO.out⟩⟩
  rw [show (b == [103, 114, 97, 112, 104]) = false by simpa using h6]
  go_upto_if 32 with (fail)
  rw [HS.out]
  by_cases h7 : b = [108, 111, 119, 101, 114]
  · subst h7
    rw [show (([108, 111, 119, 101, 114] : List UInt8) == [108, 111, 119, 101, 114]) = true by rfl]
    go_wp2_with fail
    refine (runs_any _ [(97, 122)] _ (ends2_lit w _ _ _ rfl rfl (by unfold AllI32 I32; decide)) (by decide)).mono ?_
    rintro e w1 ⟨v1, rfl, ho, hb⟩
    have HB := Lib.hid ((((Below.refl _ w).alloc (Nat.le_refl _) _).trans (hb.mono (by simp))))
    have HO := Lib.hid (ho.mono (B' := w.heap.size) (by simp))
    clear ho hb
    go_wp2_with fail
    go_ret
    exact ⟨HB.out, .inr ⟨v1, _, rfl, by simp, rfl, HO.out⟩⟩
  rw [show (b == [108, 111, 119, 101, 114]) = false by simpa using h7]
  go_upto_if 36 with (fail)
  rw [HS.out]
  by_cases h8 : b = [112, 114, 105, 110, 116]
  · subst h8
    rw [show (([112, 114, 105, 110, 116] : List UInt8) == [112, 114, 105, 110, 116]) = true by rfl]
    go_wp2_with fail
    refine (runs_any _ [(32, 126)] _ (ends2_lit w _ _ _ rfl rfl (by unfold AllI32 I32; decide)) (by decide)).mono ?_
    rintro e w1 ⟨v1, rfl, ho, hb⟩
    have HB := Lib.hid ((((Below.refl _ w).alloc (Nat.le_refl _) _).trans (hb.mono (by simp))))
    have HO := Lib.hid (ho.mono (B' := w.heap.size) (by simp))
    clear ho hb
    go_wp2_with fail
    go_ret
    exact ⟨HB.out, .inr ⟨v1, _, rfl, by simp, rfl, HO.out⟩⟩
  rw [show (b == [112, 114, 105, 110, 116]) = false by simpa using h8]
  go_upto_if 40 with (fail)
  rw [HS.out]
  by_cases h9 : b = [112, 117, 110, 99, 116]
  · subst h9
    rw [show (([112, 117, 110, 99, 116] : List UInt8) == [112, 117, 110, 99, 116]) = true by rfl]
    go_wp2_with fail
    refine (runs_any _ [(33, 47), (58, 64), (91, 96), (123, 126)] _ (ends2_lit w _ _ _ rfl rfl (by unfold AllI32 I32; decide)) (by decide)).mono ?_
    rintro e w1 ⟨v1, rfl, ho, hb⟩
    have HB := Lib.hid ((((Below.refl _ w).alloc (Nat.le_refl _) _).trans (hb.mono (by simp))))
    have HO := Lib.hid (ho.mono (B' := w.heap.size) (by simp))
    clear ho hb
    go_wp2_with fail
    go_ret
    exact ⟨HB.out, .inr ⟨v1, _, rfl, by simp, rfl, HO.out⟩⟩
  rw [show (b == [112, 117, 110, 99, 116]) = false by simpa using h9]
  go_upto_if 44 with (fail)
  rw [HS.out]
  by_cases h10 : b = [115, 112, 97, 99, 101]
  · subst h10
    rw [show (([115, 112, 97, 99, 101] : List UInt8) == [115, 112, 97, 99, 101]) = true by rfl]
    go_wp2_with fail
    refine (runs_any _ [(9, 13), (32, 32)] _ (ends2_lit w _ _ _ rfl rfl (by unfold AllI32 I32; decide)) (by decide)).mono ?_
    rintro e w1 ⟨v1, rfl, ho, hb⟩
    have HB := Lib.hid ((((Below.refl _ w).alloc (Nat.le_refl _) _).trans (hb.mono (by simp))))
    have HO := Lib.hid (ho.mono (B' := w.heap.size) (by simp))
    clear ho hb
    go_wp2_with fail
    go_ret
    exact ⟨HB.out, .inr ⟨v1, _, rfl, by simp, rfl, HO.out⟩⟩
  rw [show (b == [115, 112, 97, 99, 101]) = false by simpa using h10]
  go_upto_if 48 with (fail)
  rw [HS.out]
  by_cases h11 : b = [117, 112, 112, 101, 114]
  · subst h11
    rw [show (([117, 112, 112, 101, 114] : List UInt8) == [117, 112, 112, 101, 114]) = true by rfl]
    go_wp2_with fail
    refine (runs_any _ [(65, 90)] _ (ends2_lit w _ _ _ rfl rfl (by unfold AllI32 I32; decide)) (by decide)).mono ?_
    rintro e w1 ⟨v1, rfl, ho, hb⟩
    have HB := Lib.hid ((((Below.refl _ w).alloc (Nat.le_refl _) _).trans (hb.mono (by simp))))
    have HO := Lib.hid (ho.mono (B' := w.heap.size) (by simp))
    clear ho hb
    go_wp2_with fail
    go_ret
    exact ⟨HB.out, .inr ⟨v1, _, rfl, by simp, rfl, HO.out⟩⟩
  rw [show (b == [117, 112, 112, 101, 114]) = false by simpa using h11]
  go_upto_if 52 with (fail)
  rw [HS.out]
  by_cases h12 : b = [119, 111, 114, 100]
  · subst h12
    rw [show (([119, 111, 114, 100] : List UInt8) == [119, 111, 114, 100]) = true by rfl]
    go_wp2_with fail
    refine (runs_any _ [(48, 57), (65, 90), (95, 95), (97, 122)] _ (ends2_lit w _ _ _ rfl rfl (by unfold AllI32 I32; decide)) (by decide)).mono ?_
    rintro e w1 ⟨v1, rfl, ho, hb⟩
    have HB := Lib.hid ((((Below.refl _ w).alloc (Nat.le_refl _) _).trans (hb.mono (by simp))))
    have HO := Lib.hid (ho.mono (B' := w.heap.size) (by simp))
    clear ho hb
    go_wp2_with fail
    go_ret
    exact ⟨HB.out, .inr ⟨v1, _, rfl, by simp, rfl, HO.out⟩⟩
  rw [show (b == [119, 111, 114, 100]) = false by simpa using h12]
  go_upto_if 56 with (fail)
  rw [HS.out]
  by_cases h13 : b = [120, 100, 105, 103, 105, 116]
  · subst h13
    rw [show (([120, 100, 105, 103, 105, 116] : List UInt8) == [120, 100, 105, 103, 105, 116]) = true by rfl]
    go_wp2_with fail
    refine (runs_any _ [(48, 57), (65, 70), (97, 102)] _ (ends2_lit w _ _ _ rfl rfl (by unfold AllI32 I32; decide)) (by decide)).mono ?_
    rintro e w1 ⟨v1, rfl, ho, hb⟩
    have HB := Lib.hid ((((Below.refl _ w).alloc (Nat.le_refl _) _).trans (hb.mono (by simp))))
    have HO := Lib.hid (ho.mono (B' := w.heap.size) (by simp))
    clear ho hb
    go_wp2_with fail
    go_ret
    exact ⟨HB.out, .inr ⟨v1, _, rfl, by simp, rfl, HO.out⟩⟩
  rw [show (b == [120, 100, 105, 103, 105, 116]) = false by simpa using h13]
  have hn : plainR b = none := by
    unfold plainR
    rw [if_neg h0, if_neg h1, if_neg h2, if_neg h3, if_neg h4, if_neg h5, if_neg h6, if_neg h7, if_neg h8, if_neg h9, if_neg h10, if_neg h11, if_neg h12, if_neg h13]
  have HN := Lib.hid hn
  clear hn h0 h1 h2 h3 h4 h5 h6 h7 h8 h9 h10 h11 h12 h13
  go_wp2_with fail
  go_ret
  exact ⟨Below.refl _ _, .inl ⟨HN.out, rfl⟩⟩
end Go.Proofs.Ytnpogfkmcopdfaa
