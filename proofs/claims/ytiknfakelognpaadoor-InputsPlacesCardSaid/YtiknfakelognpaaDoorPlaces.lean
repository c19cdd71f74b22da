/- The walks of InputsPlaces: whatever kind, whatever text that can be read: true, and what lay lies as it lay. -/
import Derived.Test.YtiknfakelognpaaDoorBegin
import Derived.Test.YtiknfakelognpaaDoorRefAsk
namespace Go.Proofs.YtiknfakelognpaaDoor
open Go Go.RowKit

set_option maxHeartbeats 400000 in
set_option maxRecDepth 100000 in
theorem places_none (k : Int) (A : Option Addr) (n c : Nat) (w : World) (h : ∀ W, Below w.heap.size w W → Calls Tryd.prog 9 #[.int .i64 k, .slice A n c] W (BothNone W)) :
    Calls Tryd.prog 4 #[.int .i64 k, .slice A n c] w (HeadPost w) := by
  have H := Lib.hid h; clear h
  go_enter Tryd.func4, Tryd.ntmps4
  go_wp2_with fail
  refine (head_any w).mono ?_
  rintro e w1 ⟨rfl, hB⟩
  have HB := Lib.hid hB; clear hB
  go_wp2_with fail
  refine (H.out w1 HB.out).mono ?_
  rintro e w2 ⟨rfl, hB2⟩
  have HB2 := Lib.hid (HB.out.trans (hB2.mono HB.out.size)); clear hB2
  go_wp2
  go_ret
  exact ⟨rfl, HB2.out⟩

set_option maxHeartbeats 400000 in
set_option maxRecDepth 100000 in
theorem places_ok (k : Int) (A : Option Addr) (c : Nat) (s : ByteArray) (w : World) (hs : (s.size : Int) ≤ 65536)
    (h : ∀ W, Below w.heap.size w W → Calls Tryd.prog 9 #[.int .i64 k, .slice A s.size c] W (BothPost k s W)) :
    Calls Tryd.prog 4 #[.int .i64 k, .slice A s.size c] w (HeadPost w) := by
  have H := Lib.hid h; clear h
  go_enter Tryd.func4, Tryd.ntmps4
  go_wp2_with fail
  refine (head_any w).mono ?_
  rintro e w1 ⟨rfl, hB⟩
  have HB := Lib.hid hB; clear hB
  go_wp2_with fail
  refine (H.out w1 HB.out).mono ?_
  rintro e w2 ⟨b, d, rfl, hI, hD, hB2⟩
  have HB2 := Lib.hid (HB.out.trans (hB2.mono HB.out.size)); have HI := Lib.hid hI; have HD := Lib.hid hD; clear hI hD hB2
  obtain ⟨n, hn⟩ : ∃ n : Nat, n = (runesOf s).length := ⟨_, rfl⟩
  have cl := rlen_any HD.out
  have hl : n ≤ s.size := by rw [hn]; exact length_runesOf s
  rw [← hn] at cl
  have HL := Lib.hid cl; clear cl hn
  go_wp2_with fail
  go_loop [9] (fun i => ∃ m : Nat, m ≤ n + 5 ∧ i = .int .i64 ((m : Int) - 2)) (fun i => n + 5 - (intOf i + 2).toNat)
  case atStart => exact ⟨0, by omega, rfl⟩
  case round =>
    obtain ⟨m, hm, rfl⟩ := hrel
    by_cases hlt : m ≤ n + 4
    · obtain ⟨z, hz⟩ : ∃ z, z = atOf (runesOf s) ((m : Int) - 2) := ⟨_, rfl⟩
      have ca := at_any HI.out ((m : Int) - 2)
      have cr := rat_any HD.out ((m : Int) - 2)
      rw [← hz] at ca cr
      have HA := Lib.hid ca; have HR := Lib.hid cr
      clear hz ca cr
      go_wp2_with (first
        | (go_at_call 12; refine HL.out.mono ?_; rintro e w' ⟨rfl, rfl⟩)
        | (go_at_call 19; refine HA.out.mono ?_; rintro e w' ⟨rfl, rfl⟩)
        | (go_at_call 20; refine HR.out.mono ?_; rintro e w' ⟨rfl, rfl⟩))
      go_round
      case rel => exact ⟨m + 1, by omega, by go_num⟩
      case measure => simp [intOf]; omega
    · go_wp2_with (first
        | (go_at_call 12; refine HL.out.mono ?_; rintro e w' ⟨rfl, rfl⟩))
      go_ret
      exact ⟨rfl, HB2.out⟩

theorem places_any (k : Int) (A : Option Addr) (n c : Nat) (zs : List Int) (w : World) (h : IsRow .u8 w A n c zs) (hr : n ≤ 140737488355328) (hT : Lib.Utf8Tabs 0 1 w) :
    Calls Tryd.prog 4 #[.int .i64 k, .slice A n c] w (HeadPost w) := by
  rcases both_any k A n c zs w h hr hT with h | ⟨s, rfl, hs, _, h⟩
  · exact places_none k A n c w h
  · exact places_ok k A c s w hs h
end Go.Proofs.YtiknfakelognpaaDoor
