/- The document's set of a name, or that there is none. -/
import Derived.Test.YtnpogfkmcopdfaaRSet
set_option linter.unusedVariables false
namespace Go.Proofs.Ytnpogfkmcopdfaa
open Go Go.RowKit

theorem rgs_lit (w : World) (t : TypeId) (cs : Array Value) (l : List (Int × Int)) (n : Nat) (h : cs.toList = cellsR l) (hi : AllI32 l) (hn : l.length = n) (hm : n ≤ maxLen) : Rgs (w.alloc (.cells cs t)) (.slice (some ⟨w.heap.size, 0, none⟩) n n) l := by
  subst hn
  refine ⟨_, _, rfl, Nat.le_refl _, hm, fun e => (by cases e), .inr ⟨w.heap.size, 0, rfl, fun i hi' => ?_⟩, hi⟩
  obtain ⟨h1, h2⟩ := cellsR_at l i hi'
  have hc : ∀ j, (w.alloc (.cells cs t)).cell? ⟨w.heap.size, j, none⟩ = cs[j]? := fun j => by rw [World.cell?_alloc_at _ _ _ _ rfl]
  rw [Nat.zero_add, hc, hc, ← Array.getElem?_toList, ← Array.getElem?_toList, h]
  exact ⟨h1, h2⟩

/-- The sets of names. -/
def nameR (b : List UInt8) : Option (List (Int × Int)) :=
  if b = [76, 117] then some [(65, 90), (192, 214), (216, 222), (913, 929), (931, 937), (1040, 1071)] else
  if b = [76, 108] then some [(97, 122), (223, 246), (248, 255), (945, 969), (1072, 1103)] else
  if b = [76] then some [(65, 90), (97, 122), (170, 170), (186, 186), (192, 214), (216, 246), (248, 255), (913, 929), (931, 937), (945, 969), (1040, 1103), (19968, 40959)] else
  if b = [78, 100] then some [(48, 57), (1632, 1641)] else
  if b = [78] then some [(48, 57), (178, 179), (185, 185), (188, 190), (1632, 1641), (8544, 8584)] else
  if b = [80] then some [(33, 35), (37, 42), (44, 47), (58, 59), (63, 64), (91, 93), (95, 95), (123, 123), (125, 125), (161, 161), (167, 167), (171, 171), (182, 183), (187, 187), (191, 191)] else
  if b = [83] then some [(36, 36), (43, 43), (60, 62), (94, 94), (96, 96), (124, 124), (126, 126), (162, 166), (168, 169), (172, 172), (174, 177), (180, 180), (184, 184), (215, 215), (247, 247)] else
  if b = [90] then some [(32, 32), (160, 160), (8192, 8202), (8232, 8233), (8239, 8239), (12288, 12288)] else
  if b = [67, 99] then some [(0, 31), (127, 159)] else
  if b = [76, 97, 116, 105, 110] then some [(65, 90), (97, 122), (170, 170), (186, 186), (192, 214), (216, 246), (248, 591), (8490, 8491)] else
  if b = [71, 114, 101, 101, 107] then some [(880, 883), (885, 887), (890, 893), (895, 895), (900, 900), (902, 902), (904, 906), (908, 908), (910, 929), (931, 993)] else
  if b = [67, 121, 114, 105, 108, 108, 105, 99] then some [(1024, 1156), (1159, 1327)] else
  if b = [72, 97, 110] then some [(19968, 40959)] else
  none
def NamedPost (s : ByteArray) (w : World) (e : Ending) (w' : World) : Prop :=
  Below w.heap.size w w' ∧ ((nameR s.toList = none ∧ e = .returned (.tuple #[.slice none 0 0, .bool false])) ∨ ∃ v l, nameR s.toList = some l ∧ e = .returned (.tuple #[v, .bool true]) ∧ OwnR w' w.heap.size v l)

set_option maxHeartbeats 4000000 in
set_option maxRecDepth 100000 in
theorem rnamed_any (s : ByteArray) (w : World) : Calls Try.prog 28 #[.string s] w (NamedPost s w) := by
  obtain ⟨b, hb⟩ : ∃ b, s.toList = b := ⟨_, rfl⟩
  unfold NamedPost
  rw [hb]
  have HS := Lib.hid hb
  clear hb
  go_enter Try.func28, Try.ntmps28
  go_upto_if 5 with (fail)
  rw [HS.out]
  by_cases h0 : b = [76, 117]
  · subst h0
    rw [show (([76, 117] : List UInt8) == [76, 117]) = true by rfl]
    go_wp2_with fail
    refine (rset_any _ [(65, 90), (192, 214), (216, 222), (913, 929), (931, 937), (1040, 1071)] _ (rgs_lit w 41 _ _ _ rfl (by unfold AllI32 I32; decide) rfl (by unfold maxLen; decide)) (by decide)).mono ?_
    rintro e w1 ⟨v1, rfl, ho, hb⟩
    have HB := Lib.hid ((((Below.refl _ w).alloc (Nat.le_refl _) _).trans (hb.mono (by simp))))
    have HO := Lib.hid (ho.mono (B' := w.heap.size) (by simp))
    clear ho hb
    go_wp2_with fail
    go_ret2
    exact ⟨HB.out, .inr ⟨v1, _, rfl, rfl, HO.out⟩⟩
  rw [show (b == [76, 117]) = false by simpa using h0]
  go_upto_if 15 with (fail)
  rw [HS.out]
  by_cases h1 : b = [76, 108]
  · subst h1
    rw [show (([76, 108] : List UInt8) == [76, 108]) = true by rfl]
    go_wp2_with fail
    refine (rset_any _ [(97, 122), (223, 246), (248, 255), (945, 969), (1072, 1103)] _ (rgs_lit w 41 _ _ _ rfl (by unfold AllI32 I32; decide) rfl (by unfold maxLen; decide)) (by decide)).mono ?_
    rintro e w1 ⟨v1, rfl, ho, hb⟩
    have HB := Lib.hid ((((Below.refl _ w).alloc (Nat.le_refl _) _).trans (hb.mono (by simp))))
    have HO := Lib.hid (ho.mono (B' := w.heap.size) (by simp))
    clear ho hb
    go_wp2_with fail
    go_ret2
    exact ⟨HB.out, .inr ⟨v1, _, rfl, rfl, HO.out⟩⟩
  rw [show (b == [76, 108]) = false by simpa using h1]
  go_upto_if 24 with (fail)
  rw [HS.out]
  by_cases h2 : b = [76]
  · subst h2
    rw [show (([76] : List UInt8) == [76]) = true by rfl]
    go_wp2_with fail
    refine (rset_any _ [(65, 90), (97, 122), (170, 170), (186, 186), (192, 214), (216, 246), (248, 255), (913, 929), (931, 937), (945, 969), (1040, 1103), (19968, 40959)] _ (rgs_lit w 41 _ _ _ rfl (by unfold AllI32 I32; decide) rfl (by unfold maxLen; decide)) (by decide)).mono ?_
    rintro e w1 ⟨v1, rfl, ho, hb⟩
    have HB := Lib.hid ((((Below.refl _ w).alloc (Nat.le_refl _) _).trans (hb.mono (by simp))))
    have HO := Lib.hid (ho.mono (B' := w.heap.size) (by simp))
    clear ho hb
    go_wp2_with fail
    go_ret2
    exact ⟨HB.out, .inr ⟨v1, _, rfl, rfl, HO.out⟩⟩
  rw [show (b == [76]) = false by simpa using h2]
  go_upto_if 40 with (fail)
  rw [HS.out]
  by_cases h3 : b = [78, 100]
  · subst h3
    rw [show (([78, 100] : List UInt8) == [78, 100]) = true by rfl]
    go_wp2_with fail
    refine (rset_any _ [(48, 57), (1632, 1641)] _ (rgs_lit w 41 _ _ _ rfl (by unfold AllI32 I32; decide) rfl (by unfold maxLen; decide)) (by decide)).mono ?_
    rintro e w1 ⟨v1, rfl, ho, hb⟩
    have HB := Lib.hid ((((Below.refl _ w).alloc (Nat.le_refl _) _).trans (hb.mono (by simp))))
    have HO := Lib.hid (ho.mono (B' := w.heap.size) (by simp))
    clear ho hb
    go_wp2_with fail
    go_ret2
    exact ⟨HB.out, .inr ⟨v1, _, rfl, rfl, HO.out⟩⟩
  rw [show (b == [78, 100]) = false by simpa using h3]
  go_upto_if 46 with (fail)
  rw [HS.out]
  by_cases h4 : b = [78]
  · subst h4
    rw [show (([78] : List UInt8) == [78]) = true by rfl]
    go_wp2_with fail
    refine (rset_any _ [(48, 57), (178, 179), (185, 185), (188, 190), (1632, 1641), (8544, 8584)] _ (rgs_lit w 41 _ _ _ rfl (by unfold AllI32 I32; decide) rfl (by unfold maxLen; decide)) (by decide)).mono ?_
    rintro e w1 ⟨v1, rfl, ho, hb⟩
    have HB := Lib.hid ((((Below.refl _ w).alloc (Nat.le_refl _) _).trans (hb.mono (by simp))))
    have HO := Lib.hid (ho.mono (B' := w.heap.size) (by simp))
    clear ho hb
    go_wp2_with fail
    go_ret2
    exact ⟨HB.out, .inr ⟨v1, _, rfl, rfl, HO.out⟩⟩
  rw [show (b == [78]) = false by simpa using h4]
  go_upto_if 56 with (fail)
  rw [HS.out]
  by_cases h5 : b = [80]
  · subst h5
    rw [show (([80] : List UInt8) == [80]) = true by rfl]
    go_wp2_with fail
    refine (rset_any _ [(33, 35), (37, 42), (44, 47), (58, 59), (63, 64), (91, 93), (95, 95), (123, 123), (125, 125), (161, 161), (167, 167), (171, 171), (182, 183), (187, 187), (191, 191)] _ (rgs_lit w 41 _ _ _ rfl (by unfold AllI32 I32; decide) rfl (by unfold maxLen; decide)) (by decide)).mono ?_
    rintro e w1 ⟨v1, rfl, ho, hb⟩
    have HB := Lib.hid ((((Below.refl _ w).alloc (Nat.le_refl _) _).trans (hb.mono (by simp))))
    have HO := Lib.hid (ho.mono (B' := w.heap.size) (by simp))
    clear ho hb
    go_wp2_with fail
    go_ret2
    exact ⟨HB.out, .inr ⟨v1, _, rfl, rfl, HO.out⟩⟩
  rw [show (b == [80]) = false by simpa using h5]
  go_upto_if 75 with (fail)
  rw [HS.out]
  by_cases h6 : b = [83]
  · subst h6
    rw [show (([83] : List UInt8) == [83]) = true by rfl]
    go_wp2_with fail
    refine (rset_any _ [(36, 36), (43, 43), (60, 62), (94, 94), (96, 96), (124, 124), (126, 126), (162, 166), (168, 169), (172, 172), (174, 177), (180, 180), (184, 184), (215, 215), (247, 247)] _ (rgs_lit w 41 _ _ _ rfl (by unfold AllI32 I32; decide) rfl (by unfold maxLen; decide)) (by decide)).mono ?_
    rintro e w1 ⟨v1, rfl, ho, hb⟩
    have HB := Lib.hid ((((Below.refl _ w).alloc (Nat.le_refl _) _).trans (hb.mono (by simp))))
    have HO := Lib.hid (ho.mono (B' := w.heap.size) (by simp))
    clear ho hb
    go_wp2_with fail
    go_ret2
    exact ⟨HB.out, .inr ⟨v1, _, rfl, rfl, HO.out⟩⟩
  rw [show (b == [83]) = false by simpa using h6]
  go_upto_if 94 with (fail)
  rw [HS.out]
  by_cases h7 : b = [90]
  · subst h7
    rw [show (([90] : List UInt8) == [90]) = true by rfl]
    go_wp2_with fail
    refine (rset_any _ [(32, 32), (160, 160), (8192, 8202), (8232, 8233), (8239, 8239), (12288, 12288)] _ (rgs_lit w 41 _ _ _ rfl (by unfold AllI32 I32; decide) rfl (by unfold maxLen; decide)) (by decide)).mono ?_
    rintro e w1 ⟨v1, rfl, ho, hb⟩
    have HB := Lib.hid ((((Below.refl _ w).alloc (Nat.le_refl _) _).trans (hb.mono (by simp))))
    have HO := Lib.hid (ho.mono (B' := w.heap.size) (by simp))
    clear ho hb
    go_wp2_with fail
    go_ret2
    exact ⟨HB.out, .inr ⟨v1, _, rfl, rfl, HO.out⟩⟩
  rw [show (b == [90]) = false by simpa using h7]
  go_upto_if 104 with (fail)
  rw [HS.out]
  by_cases h8 : b = [67, 99]
  · subst h8
    rw [show (([67, 99] : List UInt8) == [67, 99]) = true by rfl]
    go_wp2_with fail
    refine (rset_any _ [(0, 31), (127, 159)] _ (rgs_lit w 41 _ _ _ rfl (by unfold AllI32 I32; decide) rfl (by unfold maxLen; decide)) (by decide)).mono ?_
    rintro e w1 ⟨v1, rfl, ho, hb⟩
    have HB := Lib.hid ((((Below.refl _ w).alloc (Nat.le_refl _) _).trans (hb.mono (by simp))))
    have HO := Lib.hid (ho.mono (B' := w.heap.size) (by simp))
    clear ho hb
    go_wp2_with fail
    go_ret2
    exact ⟨HB.out, .inr ⟨v1, _, rfl, rfl, HO.out⟩⟩
  rw [show (b == [67, 99]) = false by simpa using h8]
  go_upto_if 110 with (fail)
  rw [HS.out]
  by_cases h9 : b = [76, 97, 116, 105, 110]
  · subst h9
    rw [show (([76, 97, 116, 105, 110] : List UInt8) == [76, 97, 116, 105, 110]) = true by rfl]
    go_wp2_with fail
    refine (rset_any _ [(65, 90), (97, 122), (170, 170), (186, 186), (192, 214), (216, 246), (248, 591), (8490, 8491)] _ (rgs_lit w 41 _ _ _ rfl (by unfold AllI32 I32; decide) rfl (by unfold maxLen; decide)) (by decide)).mono ?_
    rintro e w1 ⟨v1, rfl, ho, hb⟩
    have HB := Lib.hid ((((Below.refl _ w).alloc (Nat.le_refl _) _).trans (hb.mono (by simp))))
    have HO := Lib.hid (ho.mono (B' := w.heap.size) (by simp))
    clear ho hb
    go_wp2_with fail
    go_ret2
    exact ⟨HB.out, .inr ⟨v1, _, rfl, rfl, HO.out⟩⟩
  rw [show (b == [76, 97, 116, 105, 110]) = false by simpa using h9]
  go_upto_if 122 with (fail)
  rw [HS.out]
  by_cases h10 : b = [71, 114, 101, 101, 107]
  · subst h10
    rw [show (([71, 114, 101, 101, 107] : List UInt8) == [71, 114, 101, 101, 107]) = true by rfl]
    go_wp2_with fail
    refine (rset_any _ [(880, 883), (885, 887), (890, 893), (895, 895), (900, 900), (902, 902), (904, 906), (908, 908), (910, 929), (931, 993)] _ (rgs_lit w 41 _ _ _ rfl (by unfold AllI32 I32; decide) rfl (by unfold maxLen; decide)) (by decide)).mono ?_
    rintro e w1 ⟨v1, rfl, ho, hb⟩
    have HB := Lib.hid ((((Below.refl _ w).alloc (Nat.le_refl _) _).trans (hb.mono (by simp))))
    have HO := Lib.hid (ho.mono (B' := w.heap.size) (by simp))
    clear ho hb
    go_wp2_with fail
    go_ret2
    exact ⟨HB.out, .inr ⟨v1, _, rfl, rfl, HO.out⟩⟩
  rw [show (b == [71, 114, 101, 101, 107]) = false by simpa using h10]
  go_upto_if 136 with (fail)
  rw [HS.out]
  by_cases h11 : b = [67, 121, 114, 105, 108, 108, 105, 99]
  · subst h11
    rw [show (([67, 121, 114, 105, 108, 108, 105, 99] : List UInt8) == [67, 121, 114, 105, 108, 108, 105, 99]) = true by rfl]
    go_wp2_with fail
    refine (rset_any _ [(1024, 1156), (1159, 1327)] _ (rgs_lit w 41 _ _ _ rfl (by unfold AllI32 I32; decide) rfl (by unfold maxLen; decide)) (by decide)).mono ?_
    rintro e w1 ⟨v1, rfl, ho, hb⟩
    have HB := Lib.hid ((((Below.refl _ w).alloc (Nat.le_refl _) _).trans (hb.mono (by simp))))
    have HO := Lib.hid (ho.mono (B' := w.heap.size) (by simp))
    clear ho hb
    go_wp2_with fail
    go_ret2
    exact ⟨HB.out, .inr ⟨v1, _, rfl, rfl, HO.out⟩⟩
  rw [show (b == [67, 121, 114, 105, 108, 108, 105, 99]) = false by simpa using h11]
  go_upto_if 142 with (fail)
  rw [HS.out]
  by_cases h12 : b = [72, 97, 110]
  · subst h12
    rw [show (([72, 97, 110] : List UInt8) == [72, 97, 110]) = true by rfl]
    go_wp2_with fail
    refine (rset_any _ [(19968, 40959)] _ (rgs_lit w 41 _ _ _ rfl (by unfold AllI32 I32; decide) rfl (by unfold maxLen; decide)) (by decide)).mono ?_
    rintro e w1 ⟨v1, rfl, ho, hb⟩
    have HB := Lib.hid ((((Below.refl _ w).alloc (Nat.le_refl _) _).trans (hb.mono (by simp))))
    have HO := Lib.hid (ho.mono (B' := w.heap.size) (by simp))
    clear ho hb
    go_wp2_with fail
    go_ret2
    exact ⟨HB.out, .inr ⟨v1, _, rfl, rfl, HO.out⟩⟩
  rw [show (b == [72, 97, 110]) = false by simpa using h12]
  go_wp2_with fail
  go_ret2
  exact ⟨Below.refl _ _, .inl ⟨by unfold nameR; simp [h0, h1, h2, h3, h4, h5, h6, h7, h8, h9, h10, h11, h12], rfl⟩⟩
end Go.Proofs.Ytnpogfkmcopdfaa
