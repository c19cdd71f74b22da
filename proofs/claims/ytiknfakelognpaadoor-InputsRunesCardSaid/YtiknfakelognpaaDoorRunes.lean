/- The walks of InputsRunes: whatever kind, whatever text that can be read: true, and what lay lies as it lay. -/
import Derived.Test.YtiknfakelognpaaDoorBegin
import Derived.Test.YtiknfakelognpaaDoorPlace
namespace Go.Proofs.YtiknfakelognpaaDoor
open Go Go.RowKit

set_option maxHeartbeats 400000 in
set_option maxRecDepth 100000 in
theorem runes_none (k : Int) (A : Option Addr) (n c : Nat) (w : World) (h : ∀ W, Below w.heap.size w W → Calls Tryd.prog 9 #[.int .i64 k, .slice A n c] W (BothNone W)) :
    Calls Tryd.prog 3 #[.int .i64 k, .slice A n c] w (HeadPost w) := by
  have H := Lib.hid h; clear h
  go_enter Tryd.func3, Tryd.ntmps3
  go_wp2_with fail
  refine (head_any w).mono ?_
  rintro e w1 ⟨rfl, hB⟩
  have HB := Lib.hid hB; clear hB
  go_wp2_with fail
  refine (H.out w1 HB.out).mono ?_
  rintro e w2 ⟨rfl, hB2⟩
  have HB2 := Lib.hid (HB.out.trans (hB2.mono HB.out.size)); clear hB2
  go_wp2
  go_ret
  exact ⟨rfl, HB2.out⟩

set_option maxHeartbeats 1000000 in
set_option maxRecDepth 100000 in
theorem runes_ok (k : Int) (A : Option Addr) (c : Nat) (s : ByteArray) (w : World) (hs : (s.size : Int) ≤ 65536)
    (h : ∀ W, Below w.heap.size w W → Calls Tryd.prog 9 #[.int .i64 k, .slice A s.size c] W (BothPost k s W)) :
    Calls Tryd.prog 3 #[.int .i64 k, .slice A s.size c] w (HeadPost w) := by
  have H := Lib.hid h; clear h
  go_enter Tryd.func3, Tryd.ntmps3
  go_wp2_with fail
  refine (head_any w).mono ?_
  rintro e w1 ⟨rfl, hB⟩
  have HB := Lib.hid hB; clear hB
  go_wp2_with fail
  refine (H.out w1 HB.out).mono ?_
  rintro e w2 ⟨b, d, rfl, hI, hD, hB2⟩
  have HB2 := Lib.hid (HB.out.trans (hB2.mono HB.out.size)); have HI := Lib.hid hI; have HD := Lib.hid hD; clear hI hD hB2
  obtain ⟨n, hn⟩ : ∃ n : Nat, n = (runesOf s).length := ⟨_, rfl⟩
  have cl := rlen_any HD.out
  have cp := len_any HI.out
  have hl : n ≤ s.size := by rw [hn]; exact length_runesOf s
  rw [← hn] at cl cp
  have HL := Lib.hid cl; have HP := Lib.hid cp; have HK := Lib.hid (kind_any HI.out); clear cl cp hn
  go_wp2_with (first
    | (go_at_call 10; refine HK.out.mono ?_; rintro e w' ⟨rfl, rfl⟩)
    | (go_at_call 12; refine HL.out.mono ?_; rintro e w' ⟨rfl, rfl⟩)
    | (go_at_call 11; refine HP.out.mono ?_; rintro e w' ⟨rfl, rfl⟩))
  go_loop [9] (fun i => ∃ m : Nat, m ≤ n + 3 ∧ i = .int .i64 ((m : Int) - 1)) (fun i => n + 3 - (intOf i + 1).toNat)
  case atStart => exact ⟨0, by omega, rfl⟩
  case round =>
    obtain ⟨m, hm, rfl⟩ := hrel
    by_cases hlt : m ≤ n + 2
    · obtain ⟨x, hx⟩ : ∃ x, x = runeAt (runesOf s) ((m : Int) - 1) := ⟨_, rfl⟩
      obtain ⟨y, hy⟩ : ∃ y, y = offAt (offsOf s) ((m : Int) - 1) := ⟨_, rfl⟩
      have xa := rune_any HI.out ((m : Int) - 1)
      have xb := rrune_any HD.out ((m : Int) - 1)
      have ya := off_any HI.out ((m : Int) - 1)
      have yb := roff_any HD.out ((m : Int) - 1)
      rw [← hx] at xa xb
      rw [← hy] at ya yb
      have Xa := Lib.hid xa; have Xb := Lib.hid xb; have Ya := Lib.hid ya; have Yb := Lib.hid yb
      clear hx hy xa xb ya yb
      go_wp2_with (first
        | (go_at_call 12; refine HL.out.mono ?_; rintro e w' ⟨rfl, rfl⟩)
        | (go_at_call 13; refine Xa.out.mono ?_; rintro e w' ⟨rfl, rfl⟩)
        | (go_at_call 14; refine Xb.out.mono ?_; rintro e w' ⟨rfl, rfl⟩)
        | (go_at_call 15; refine Ya.out.mono ?_; rintro e w' ⟨rfl, rfl⟩)
        | (go_at_call 16; refine Yb.out.mono ?_; rintro e w' ⟨rfl, rfl⟩))
      go_round
      case rel => exact ⟨m + 1, by omega, by go_num⟩
      case measure => simp [intOf]; omega
    · by_cases h3 : (3000 : Int) < s.size
      · go_wp2_with (first
          | (go_at_call 12; refine HL.out.mono ?_; rintro e w' ⟨rfl, rfl⟩))
        go_ret
        exact ⟨rfl, HB2.out⟩
      · go_wp2_with (first
          | (go_at_call 12; refine HL.out.mono ?_; rintro e w' ⟨rfl, rfl⟩))
        go_loopw [10] (fun i wr => ∃ q : Nat, q ≤ s.size + 3 ∧ i = .int .i64 ((q : Int) - 1) ∧ Below w2.heap.size w2 wr) (fun i _ => s.size + 3 - (intOf i + 1).toNat)
        case atStart => exact ⟨0, by omega, rfl, Below.refl _ _⟩
        case round =>
          obtain ⟨q, hq, rfl, hBw⟩ := hrel
          have HBW := Lib.hid hBw; clear hBw
          by_cases hlq : q ≤ s.size + 2
          · obtain ⟨z, hz⟩ : ∃ z, z = placeOf (offsOf s) ((q : Int) - 1) := ⟨_, rfl⟩
            have za := place_any (HI.out.below HBW.out) ((q : Int) - 1)
            rw [← hz] at za
            have Za := Lib.hid za; have HZ := Lib.hid hz
            clear hz za
            go_wp2_with fail
            refine Za.out.mono ?_
            rintro e w3 ⟨rfl, hB3⟩
            have zb := rplace_any ((HD.out.below HBW.out).below hB3) ((q : Int) - 1)
            rw [← HZ.out] at zb
            have Zb := Lib.hid zb; have HB3 := Lib.hid (HBW.out.trans (hB3.mono HBW.out.size)); clear zb hB3
            go_wp2_with fail
            refine Zb.out.mono ?_
            rintro e w' ⟨rfl, rfl⟩
            go_wp2
            go_roundw
            case rel => exact ⟨q + 1, by omega, by go_num, HB3.out⟩
            case measure => simp [intOf]; omega
          · go_wp2
            go_ret
            exact ⟨rfl, HB2.out.trans (HBW.out.mono HB2.out.size)⟩

theorem runes_any (k : Int) (A : Option Addr) (n c : Nat) (zs : List Int) (w : World) (h : IsRow .u8 w A n c zs) (hr : n ≤ 140737488355328) (hT : Lib.Utf8Tabs 0 1 w) :
    Calls Tryd.prog 3 #[.int .i64 k, .slice A n c] w (HeadPost w) := by
  rcases both_any k A n c zs w h hr hT with h | ⟨s, rfl, hs, _, h⟩
  · exact runes_none k A n c w h
  · exact runes_ok k A c s w hs h
end Go.Proofs.YtiknfakelognpaaDoor
