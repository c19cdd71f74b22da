/- The document's set of a letter; what a dot stands for. -/
import Derived.Test.YtnpogfkmcopdfaaR4Cls
set_option linter.unusedVariables false
namespace Go.Proofs.Ytnpogfkmcopdfaa
open Go Go.RowKit

/-- Not of a set, by name. -/
theorem rnotR_any (v : Value) (l : List (Int × Int)) (w : World) (h : Rgs w v l) (hr : RightR l) (hn : l.length ≤ 1099511627776) :
    Calls Try.prog 23 #[v] w fun e w' => ∃ v', e = .returned v' ∧ OwnR w' w.heap.size v' (notR l) ∧ Below w.heap.size w w' := by
  refine (rnot_any v l w h hn).mono ?_
  rintro e w1 ⟨v1, k, rfl, hO, hR, hP, hB⟩
  exact ⟨v1, rfl, (notR_is hr hR hP) ▸ hO, hB⟩

set_option maxHeartbeats 1600000 in
set_option maxRecDepth 100000 in
theorem rperl_low (c : Int) (w : World) (hc : c = 100 ∨ c = 115 ∨ c = 119) : Calls Try.prog 10 #[.int .u8 c] w (Post2 (perlR c) w) := by
  unfold Post2
  rcases hc with rfl | rfl | rfl
  · go_enter Try.func10, Try.ntmps10
    go_wp2_with fail
    refine (rset4_any _ dR _ (rgs_lit w 41 _ _ _ rfl (by unfold AllI32 I32; decide) rfl (by unfold maxLen; decide)) (by decide)).mono ?_
    rintro e w1 ⟨v1, rfl, ho, hb⟩
    have HB := Lib.hid ((((Below.refl _ w).alloc (Nat.le_refl _) _).trans (hb.mono (by simp))))
    have HO := Lib.hid (ho.mono (B' := w.heap.size) (by simp))
    clear ho hb
    go_wp2_with fail
    go_ret2
    exact ⟨HB.out, .inr ⟨v1, _, rfl, rfl, HO.out⟩⟩
  · go_enter Try.func10, Try.ntmps10
    go_wp2_with fail
    refine (rset4_any _ sR _ (rgs_lit w 41 _ _ _ rfl (by unfold AllI32 I32; decide) rfl (by unfold maxLen; decide)) (by decide)).mono ?_
    rintro e w1 ⟨v1, rfl, ho, hb⟩
    have HB := Lib.hid ((((Below.refl _ w).alloc (Nat.le_refl _) _).trans (hb.mono (by simp))))
    have HO := Lib.hid (ho.mono (B' := w.heap.size) (by simp))
    clear ho hb
    go_wp2_with fail
    go_ret2
    exact ⟨HB.out, .inr ⟨v1, _, rfl, rfl, HO.out⟩⟩
  · go_enter Try.func10, Try.ntmps10
    go_wp2_with fail
    refine (rset4_any _ wR _ (rgs_lit w 41 _ _ _ rfl (by unfold AllI32 I32; decide) rfl (by unfold maxLen; decide)) (by decide)).mono ?_
    rintro e w1 ⟨v1, rfl, ho, hb⟩
    have HB := Lib.hid ((((Below.refl _ w).alloc (Nat.le_refl _) _).trans (hb.mono (by simp))))
    have HO := Lib.hid (ho.mono (B' := w.heap.size) (by simp))
    clear ho hb
    go_wp2_with fail
    go_ret2
    exact ⟨HB.out, .inr ⟨v1, _, rfl, rfl, HO.out⟩⟩

/-- A great letter, by the small one. -/
theorem rperl_great (c d : Int) (l : List (Int × Int)) (w : World) (hcd : (c = 68 ∧ d = 100 ∧ l = dR) ∨ (c = 83 ∧ d = 115 ∧ l = sR) ∨ (c = 87 ∧ d = 119 ∧ l = wR)) : Calls Try.prog 10 #[.int .u8 c] w (Post2 (perlR c) w) := by
  have hl : perlR d = some l := by rcases hcd with ⟨rfl, rfl, rfl⟩ | ⟨rfl, rfl, rfl⟩ | ⟨rfl, rfl, rfl⟩ <;> rfl
  have hk : perlR c = some (notR l) := by rcases hcd with ⟨rfl, rfl, rfl⟩ | ⟨rfl, rfl, rfl⟩ | ⟨rfl, rfl, rfl⟩ <;> rfl
  have hlen : l.length ≤ 4 := by rcases hcd with ⟨rfl, rfl, rfl⟩ | ⟨rfl, rfl, rfl⟩ | ⟨rfl, rfl, rfl⟩ <;> decide
  have HL := Lib.hid hl; have HK := Lib.hid hk; have HN := Lib.hid hlen
  have HP := Lib.hid (rperl_low d w (by omega))
  clear hl hk hlen
  unfold Post2
  rcases hcd with ⟨rfl, rfl, -⟩ | ⟨rfl, rfl, -⟩ | ⟨rfl, rfl, -⟩ <;>
  · go_enter Try.func10, Try.ntmps10
    go_wp2_with fail
    refine HP.out.mono ?_
    rintro e w1 ⟨hb, ⟨hx, -⟩ | ⟨v, k, hx, rfl, ho⟩⟩
    · rw [HL.out] at hx
      cases hx
    rw [HL.out] at hx
    injection hx with hx
    have HX := Lib.hid hx; have HB := Lib.hid hb; have HO := Lib.hid (hx.symm ▸ ho)
    clear hx hb ho
    go_wp2_with fail
    refine (rnotR_any v l w1 HO.out.rgs (perl_right HL.out) (by have := HN.out; omega)).mono ?_
    rintro e w2 ⟨v2, rfl, ho, hb⟩
    have HB2 := Lib.hid (HB.out.trans (hb.mono HB.out.size)); have HO2 := Lib.hid (ho.mono HB.out.size)
    clear ho hb
    go_wp2_with fail
    go_ret2
    exact ⟨HB2.out, .inr ⟨v2, _, HK.out, rfl, HO2.out⟩⟩

set_option maxHeartbeats 1600000 in
theorem rperl_any (c : Int) (w : World) : Calls Try.prog 10 #[.int .u8 c] w (Post2 (perlR c) w) := by
  by_cases k0 : c = 100 ∨ c = 115 ∨ c = 119
  · exact rperl_low c w k0
  by_cases k1 : c = 68
  · exact rperl_great c 100 dR w (.inl ⟨k1, rfl, rfl⟩)
  by_cases k2 : c = 83
  · exact rperl_great c 115 sR w (.inr (.inl ⟨k2, rfl, rfl⟩))
  by_cases k3 : c = 87
  · exact rperl_great c 119 wR w (.inr (.inr ⟨k3, rfl, rfl⟩))
  have hn : perlR c = none := by
    unfold perlR
    rw [if_neg (by omega), if_neg (by omega), if_neg (by omega), if_neg k1, if_neg k2, if_neg k3]
  have HN := Lib.hid hn
  have q0 : (c == 100) = false := beq_eq_false_iff_ne.2 (by omega)
  have q1 : (c == 115) = false := beq_eq_false_iff_ne.2 (by omega)
  have q2 : (c == 119) = false := beq_eq_false_iff_ne.2 (by omega)
  have q3 : (c == 68) = false := beq_eq_false_iff_ne.2 (by omega)
  have q4 : (c == 83) = false := beq_eq_false_iff_ne.2 (by omega)
  have q5 : (c == 87) = false := beq_eq_false_iff_ne.2 (by omega)
  clear hn k0 k1 k2 k3
  unfold Post2
  go_enter Try.func10, Try.ntmps10
  go_wp2_with fail
  go_ret2
  exact ⟨Below.refl _ _, .inl ⟨HN.out, rfl⟩⟩

set_option maxHeartbeats 1600000 in
theorem rdot_any (all : Bool) (w : World) : Calls Try.prog 17 #[.bool all] w fun e w' => ∃ v', e = .returned v' ∧ OwnR w' w.heap.size v' (dotR all) ∧ Below w.heap.size w w' := by
  cases all
  · go_enter Try.func17, Try.ntmps17
    go_wp2_with fail
    refine (rnotR_any _ [(10, 10)] _ (rgs_lit w 37 _ _ _ rfl (by unfold AllI32 I32; decide) rfl (by unfold maxLen; decide)) (by simp [RightR, RightFrom]) (by decide)).mono ?_
    rintro e w1 ⟨v1, rfl, ho, hb⟩
    have HB := Lib.hid ((((Below.refl _ w).alloc (Nat.le_refl _) _).trans (hb.mono (by simp))))
    have HO := Lib.hid (ho.mono (B' := w.heap.size) (by simp))
    clear ho hb
    go_wp2_with fail
    go_ret
    exact ⟨v1, rfl, HO.out, HB.out⟩
  · go_enter Try.func17, Try.ntmps17
    go_wp2_with fail
    refine (rnotR_any _ [] _ (own_none w w.heap.size).rgs nil_right (by decide)).mono ?_
    rintro e w1 ⟨v1, rfl, ho, hb⟩
    have HB := Lib.hid hb
    have HO := Lib.hid ho
    clear ho hb
    go_wp2_with fail
    go_ret
    exact ⟨v1, rfl, HO.out, HB.out⟩
end Go.Proofs.Ytnpogfkmcopdfaa
