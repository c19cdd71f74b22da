/- The program's tellers, and the closure that turns one: names with a sign ahead. -/
import Derived.Test.YtnpogfkmcopdfaaCSets
import Derived.Test.YtnpogfkmcopdfaaCCut
import Derived.Test.YtnpogfkmcopdfaaTNamed
import Derived.Test.YtnpogfkmcopdfaaR4Prop
import Derived.RangeFuncBox
import Derived.WalkSpells
set_option linter.unusedVariables false
namespace Go.Proofs.Ytnpogfkmcopdfaa
open Go Go.RowKit

theorem set_len {l : List (Int × Int)} (h : RightR l) : l.length ≤ 134217728 := by have := right_len l 0 (by omega) h; omega

set_option maxHeartbeats 800000 in
theorem posix0_any (s : ByteArray) (w : World) : Calls Try.prog 25 #[.string s] w (Post2 (plainR s.toList) w) := by
  have HS := Lib.hid (posixSet_any s w)
  have hne := fun (W : World) (a : Option Addr) (n c : Nat) => run_neq_slice_nil_any (P := Try.prog) W 23 37 a n c 0 0 Try.underlying23
  unfold Post2
  go_enter Try.func25, Try.ntmps25
  go_wp2_with fail
  refine HS.out.mono ?_
  rintro e w1 ⟨hb, ⟨hn, rfl⟩ | ⟨v, l, hn, hl0, rfl, ho⟩⟩
  · have HB := Lib.hid hb; have HN := Lib.hid hn
    clear hb hn
    go_wp2_with fail
    go_ret2
    exact ⟨HB.out, .inl ⟨HN.out, rfl⟩⟩
  · have HB := Lib.hid hb; have HN := Lib.hid hn; have HO := Lib.hid ho
    have hl : l.length ≠ 0 := fun h => hl0 (List.eq_nil_of_length_eq_zero h)
    obtain ⟨g, c, rfl⟩ : ∃ g c, v = .slice (some ⟨g, 0, none⟩) l.length c := by
      rcases own_slice2 ho.1 with ⟨-, h⟩ | ⟨g, c, rfl, -⟩
      · exact absurd h hl
      · exact ⟨g, c, rfl⟩
    clear hb hn ho hl hl0
    go_wp2_with fail
    go_ret2
    exact ⟨HB.out, .inr ⟨_, l, HN.out, rfl, HO.out⟩⟩

set_option maxHeartbeats 800000 in
theorem property0_any (s : ByteArray) (w : World) : Calls Try.prog 27 #[.string s] w (Post2 (property1 s.toList) w) := by
  have HS := Lib.hid (named_any s w); have HW := Lib.hid (whole_any w)
  unfold Post2
  by_cases ha : s.toList = [65, 110, 121]
  · have q1 : (s.toList == [65, 110, 121]) = true := by rw [ha]; rfl
    have HQ := Lib.hid (show property1 s.toList = some (notR []) by unfold property1; rw [if_pos ha])
    clear ha
    go_enter Try.func27, Try.ntmps27
    go_wp2_with fail
    refine HW.out.mono ?_
    rintro e w1 ⟨v, rfl, ho, hb⟩
    have HB := Lib.hid hb; have HO := Lib.hid ho
    clear ho hb
    go_wp2_with fail
    go_ret2
    exact ⟨HB.out, .inr ⟨v, _, HQ.out, rfl, HO.out⟩⟩
  · have q1 : (s.toList == [65, 110, 121]) = false := by simpa using ha
    have HQ := Lib.hid (show property1 s.toList = nameR s.toList by unfold property1; rw [if_neg ha])
    clear ha
    go_enter Try.func27, Try.ntmps27
    go_wp2_with fail
    refine HS.out.mono ?_
    rintro e w1 ⟨hb, ⟨hn, rfl⟩ | ⟨v, l, hn, rfl, ho⟩⟩
    · have HB := Lib.hid hb; have HN := Lib.hid hn
      clear hb hn
      go_wp2_with fail
      go_ret2
      exact ⟨HB.out, .inl ⟨by rw [HQ.out]; exact HN.out, rfl⟩⟩
    · have HB := Lib.hid hb; have HN := Lib.hid hn; have HO := Lib.hid ho
      clear hb hn ho
      go_wp2_with fail
      go_ret2
      exact ⟨HB.out, .inr ⟨v, l, by rw [HQ.out]; exact HN.out, rfl, HO.out⟩⟩

/-- What a teller tells, turned by a sign ahead. -/
def turnR (P : List UInt8 → Option (List (Int × Int))) (b : List UInt8) : Option (List (Int × Int)) := if b.head? = some 94 then (P b.tail).map notR else P b

set_option maxHeartbeats 1600000 in
theorem turning_any (g : Nat) (P : List UInt8 → Option (List (Int × Int))) (eg : ∀ args w, (callFunc g args).run Try.prog w = .ok (.enter g args) w)
    (hp : ∀ (s : ByteArray) (w : World), Calls Try.prog g #[.string s] w (Post2 (P s.toList) w)) (hr : ∀ b l, P b = some l → RightR l)
    (s : ByteArray) (q : Nat) (w : World) (hc : w.cell? ⟨q, 0, none⟩ = some (.func (.func g) #[] #[])) :
    Calls Try.prog 34 #[.string s, .pointer (some ⟨q, 0, none⟩)] w (Post2 (turnR P s.toList) w) := by
  have HR := Lib.hid hr
  have HC := Lib.hid (cut_any s w)
  unfold Post2
  clear hr
  go_enter Try.func34, Try.ntmps34
  go_wp2_with fail
  refine HC.out.mono ?_
  rintro e w1 ⟨rfl, ⟨h, rfl⟩ | ⟨h, rfl⟩⟩
  · have HT := Lib.hid (show turnR P s.toList = (P (s.extract 1 s.size).toList).map notR by
      unfold turnR
      rw [tail_of]
      unfold hatB at h
      rw [if_pos (eq_of_beq h)])
    clear h HC
    have HP := Lib.hid (hp (s.extract 1 s.size) w1)
    clear hp
    go_wp2_with fail
    refine HP.out.mono ?_
    rintro e w2 ⟨hb, ⟨hn, rfl⟩ | ⟨v, l, hn, rfl, ho⟩⟩
    · have HB := Lib.hid hb; have HN := Lib.hid hn
      clear hb hn
      go_wp2_with fail
      go_ret2
      exact ⟨HB.out, .inl ⟨by rw [HT.out, HN.out]; rfl, rfl⟩⟩
    · have HB := Lib.hid hb; have HN := Lib.hid hn
      have HV := Lib.hid (notP_any v l w2 ho.rgs (HR.out _ _ hn) (set_len (HR.out _ _ hn)))
      clear hb hn ho
      go_wp2_with fail
      refine HV.out.mono ?_
      rintro e w3 ⟨v3, rfl, ho, hb⟩
      have HB3 := Lib.hid (HB.out.trans (hb.mono HB.out.size)); have HO3 := Lib.hid (ho.mono HB.out.size)
      clear ho hb
      go_wp2_with fail
      go_ret2
      exact ⟨HB3.out, .inr ⟨v3, _, by rw [HT.out, HN.out]; rfl, rfl, HO3.out⟩⟩
  · have HT := Lib.hid (show turnR P s.toList = P s.toList by
      unfold turnR
      unfold hatB at h
      rw [if_neg (fun e => by rw [e] at h; cases h)])
    clear h HC
    have HP := Lib.hid (hp s w1)
    clear hp
    go_wp2_with fail
    refine HP.out.mono ?_
    rintro e w2 ⟨hb, ⟨hn, rfl⟩ | ⟨v, l, hn, rfl, ho⟩⟩
    · have HB := Lib.hid hb; have HN := Lib.hid hn
      clear hb hn
      go_wp2_with fail
      go_ret2
      exact ⟨HB.out, .inl ⟨by rw [HT.out, HN.out], rfl⟩⟩
    · have HB := Lib.hid hb; have HN := Lib.hid hn; have HO := Lib.hid ho
      clear hb hn ho
      go_wp2_with fail
      go_ret2
      exact ⟨HB.out, .inr ⟨v, l, by rw [HT.out, HN.out], rfl, HO.out⟩⟩
end Go.Proofs.Ytnpogfkmcopdfaa
