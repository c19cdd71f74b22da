/- The walks of InputsKinds: whatever text that can be read: true, and what lay lies as it lay. -/
import Derived.Test.YtiknfakelognpaaHead
import Derived.Test.YtiknfakelognpaaRow
namespace Go.Proofs.Ytiknfakelognpaa
open Go Go.RowKit

set_option maxHeartbeats 400000 in
set_option maxRecDepth 100000 in
theorem kinds_long (A : Option Addr) (n c : Nat) (w : World) (hs : (65536 : Int) < n) :
    Calls Try.prog 3 #[.slice A n c] w (HeadPost w) := by
  go_enter Try.func3, Try.ntmps3
  go_wp2_with fail
  refine (head_any w).mono ?_
  rintro e w1 ⟨rfl, hB⟩
  have HB := Lib.hid hB; clear hB
  go_wp2_with fail
  refine (new_long 1 (.inl rfl) A n c w1 hs).mono ?_
  rintro e w2 ⟨rfl, rfl⟩
  go_wp2_with fail
  refine (new_long 2 (.inr (.inl rfl)) A n c w1 hs).mono ?_
  rintro e w2 ⟨rfl, rfl⟩
  go_wp2_with fail
  refine (new_long 3 (.inr (.inr rfl)) A n c w1 hs).mono ?_
  rintro e w2 ⟨rfl, rfl⟩
  go_wp2
  go_ret
  exact ⟨rfl, HB.out⟩
set_option maxHeartbeats 1000000 in
set_option maxRecDepth 100000 in
theorem kinds_ok (A : Option Addr) (c : Nat) (s : ByteArray) (w : World) (hs : (s.size : Int) ≤ 65536)
    (hconv : ∀ W, Below w.heap.size w W → (convert 22 9 (.slice A s.size c)).run Try.prog W = .ok (.string s) W) :
    Calls Try.prog 3 #[.slice A s.size c] w (HeadPost w) := by
  have HC := Lib.hid hconv; clear hconv
  go_enter Try.func3, Try.ntmps3
  go_wp2_with fail
  refine (head_any w).mono ?_
  rintro e w1 ⟨rfl, hB⟩
  have HB := Lib.hid hB; clear hB
  go_wp2_with fail
  refine (new_one 1 (.inl rfl) A c s w1 hs (HC.out w1 HB.out)).mono ?_
  rintro e w2 ⟨ba, rfl, hb, hI, hB2⟩
  have HB2 := Lib.hid (HB.out.trans (hB2.mono HB.out.size)); have HIa := Lib.hid hI; clear hb hI hB2
  go_wp2_with fail
  refine (new_one 2 (.inr (.inl rfl)) A c s w2 hs (HC.out w2 HB2.out)).mono ?_
  rintro e w3 ⟨bb, rfl, hb, hI, hB3⟩
  have HB3 := Lib.hid (HB2.out.trans (hB3.mono HB2.out.size)); have HIb := Lib.hid hI; have HIa2 := Lib.hid (HIa.out.below hB3); clear hb hI hB3
  go_wp2_with fail
  refine (new_one 3 (.inr (.inr rfl)) A c s w3 hs (HC.out w3 HB3.out)).mono ?_
  rintro e w4 ⟨bc, rfl, hb, hI, hB4⟩
  have HB4 := Lib.hid (HB3.out.trans (hB4.mono HB3.out.size)); have HJc := Lib.hid hI; have HJa := Lib.hid (HIa2.out.below hB4); have HJb := Lib.hid (HIb.out.below hB4); clear hb hI hB4
  obtain ⟨n, hn⟩ : ∃ n : Nat, n = (runesOf s).length := ⟨_, rfl⟩
  have hl : n ≤ s.size := by rw [hn]; exact length_runesOf s
  have HLa := Lib.hid fun q => quiet_here (len_any (HJa.out.below (below_draws w4 q)))
  have HLb := Lib.hid fun q => quiet_here (len_any (HJb.out.below (below_draws w4 q)))
  have HLc := Lib.hid fun q => quiet_here (len_any (HJc.out.below (below_draws w4 q)))
  rw [← hn] at HLa HLb HLc
  have HN := Lib.hid hn; clear hn
  go_wp2_with fail
  go_quiet ((first | (go_at_call 7; with_reducible exact HLa.out _) | (go_at_call 7; with_reducible exact HLb.out _) | (go_at_call 7; with_reducible exact HLc.out _)))
  clear HLa HLb HLc
  have HKa := Lib.hid (HJa.out.below (below_draws w4 nq)); have HKb := Lib.hid (HJb.out.below (below_draws w4 nq)); have HKc := Lib.hid (HJc.out.below (below_draws w4 nq))
  have HB5 := Lib.hid (HB4.out.trans ((below_draws w4 nq).mono HB4.out.size))
  generalize w4.drewN nq = w5 at HKa HKb HKc HB5 ⊢
  go_wp2_with fail
  go_loopw [10] (fun i wr => ∃ m : Nat, m ≤ n + 1 ∧ i = .int .i64 m ∧ Below w5.heap.size w5 wr) (fun i _ => n + 1 - (intOf i).toNat)
  case atStart => exact ⟨0, by omega, rfl, Below.refl _ _⟩
  case round =>
    obtain ⟨m, hm, rfl, hbel⟩ := hrel
    have cla := len_any (HKa.out.below hbel)
    rw [← HN.out] at cla
    have HLa := Lib.hid cla; clear cla
    have HBL := Lib.hid hbel; clear hbel
    by_cases hlt : m ≤ n
    · go_wp2_with (first
        | (go_at_call 7; refine HLa.out.mono ?_; rintro e w' ⟨rfl, rfl⟩))
      obtain ⟨x, hx⟩ : ∃ x, x = runeAt (runesOf s) (m : Int) := ⟨_, rfl⟩
      obtain ⟨y, hy⟩ : ∃ y, y = offAt (offsOf s) (m : Int) := ⟨_, rfl⟩
      obtain ⟨z, hz⟩ : ∃ z, z = atOf (runesOf s) (m : Int) := ⟨_, rfl⟩
      have hmn : (m : Int) ≤ (runesOf s).length := by have := HN.out; omega
      have Ja := fun q => (HKa.out.below HBL.out).below (below_draws wr q)
      have Jb := fun q => (HKb.out.below HBL.out).below (below_draws wr q)
      have Jc := fun q => (HKc.out.below HBL.out).below (below_draws wr q)
      have Xa := Lib.hid fun q => quiet_here (rune_any (Ja q) (m : Int))
      have Xb := Lib.hid fun q => quiet_here (rune_any (Jb q) (m : Int))
      have Xc := Lib.hid fun q => quiet_here (rune_any (Jc q) (m : Int))
      have Ya := Lib.hid fun q => quiet_here (off_any (Ja q) (m : Int))
      have Yb := Lib.hid fun q => quiet_here (off_any (Jb q) (m : Int))
      have Yc := Lib.hid fun q => quiet_here (off_any (Jc q) (m : Int))
      have Za := Lib.hid fun q => quiet_here (at_in (Ja q) (m : Int) (by omega) hmn)
      have Zb := Lib.hid fun q => quiet_here (at_in (Jb q) (m : Int) (by omega) hmn)
      have Zc := Lib.hid fun q => quiet_here (at_in (Jc q) (m : Int) (by omega) hmn)
      rw [← hx] at Xa Xb Xc
      rw [← hy] at Ya Yb Yc
      rw [← hz] at Za Zb Zc
      clear hx hy hz hmn Ja Jb Jc
      go_quiet ((first
        | (go_at_call 8; with_reducible exact Xa.out _)
        | (go_at_call 8; with_reducible exact Xb.out _)
        | (go_at_call 8; with_reducible exact Xc.out _)
        | (go_at_call 9; with_reducible exact Ya.out _)
        | (go_at_call 9; with_reducible exact Yb.out _)
        | (go_at_call 9; with_reducible exact Yc.out _)
        | (go_at_call 10; with_reducible exact Za.out _)
        | (go_at_call 10; with_reducible exact Zb.out _)
        | (go_at_call 10; with_reducible exact Zc.out _)))
      go_wp2
      go_roundw
      case rel => exact ⟨m + 1, by omega, by go_num, HBL.out.trans ((below_draws wr nq).mono HBL.out.size)⟩
      case measure => simp [intOf]; omega
    · go_wp2_with (first
        | (go_at_call 7; refine HLa.out.mono ?_; rintro e w' ⟨rfl, rfl⟩))
      go_ret
      exact ⟨rfl, HB5.out.trans (HBL.out.mono HB5.out.size)⟩

theorem kinds_any (A : Option Addr) (n c : Nat) (zs : List Int) (w : World) (h : IsRow .u8 w A n c zs) :
    Calls Try.prog 3 #[.slice A n c] w (HeadPost w) := by
  by_cases hs : (65536 : Int) < n
  · exact kinds_long A n c w hs
  · obtain ⟨s, rfl, hconv⟩ := conv_row h
    exact kinds_ok A c s w (by omega) hconv
end Go.Proofs.Ytiknfakelognpaa
