/- Texts merged by program: SNumber, SProp, PsPlain, SHexL, BrHex. No condition. -/
import Derived.Test.YtmaigjdmjmonbaaGreatDoorK2
import Derived.Test.YtmaigjdmjmonbaaGreatDoorK5
import Derived.Test.YtmaigjdmjmonbaaGreatDoorK6
import Derived.Test.YtmaigjdmjmonbaaGreatDoorK4
import Derived.Test.YtmaigjdmjmonbaaGreatDoorK1
import Derived.Deep.DeepCutAuto
import Derived.Deep.QuietTactic
import Derived.BigQuiet
import Derived.Below
import Derived.Lib.Bytealg
import Derived.Laws.IdiomStrings
set_option linter.unusedVariables false
/- The document's number behind \x, and the name behind \p. -/
namespace Go.Proofs.YtmaigjdmjmonbaaGreatDoor
open Go Go.RowKit

theorem wrap_in32 (n : Int) (h : -2147483648 ≤ n ∧ n ≤ 2147483647) : IntKind.i32.wrap n = n := (IntWalk.i32_left n).trans (IntWalk.wrap32_in n h)
/-- The number of the hexadecimal digits ahead, at most 1114112, onto n; and how many there are. -/
def hexsFrom : List UInt8 → Int → Int × Nat
  | [], n => (n, 0)
  | c :: t, n => if 0 ≤ hexI c.toNat then ((hexsFrom t (min (16 * n + hexI c.toNat) 1114112)).1, (hexsFrom t (min (16 * n + hexI c.toNat) 1114112)).2 + 1) else (n, 0)
theorem hexs_fit : ∀ (l : List UInt8) (n : Int), (hexsFrom l n).2 ≤ l.length
  | [], n => Nat.le_refl _
  | c :: t, n => by
    unfold hexsFrom
    split
    · have := hexs_fit t (min (16 * n + hexI c.toNat) 1114112)
      simp only [List.length_cons]
      omega
    · exact Nat.zero_le _
theorem hexs_low : ∀ (l : List UInt8) (n : Int), 0 ≤ n → 0 ≤ (hexsFrom l n).1
  | [], n, h => h
  | c :: t, n, h => by
    unfold hexsFrom
    split
    · rename_i hc
      exact hexs_low t _ (by omega)
    · exact h
def numberS (s : ByteArray) (i : Nat) : Option (Int × Nat) :=
  if 0 ≤ hexI (headI (leftB s i)) ∧ 0 ≤ hexI (headI (leftB s (i + 1))) then some (16 * hexI (headI (leftB s i)) + hexI (headI (leftB s (i + 1))), i + 2) else
  if ¬ headI (leftB s i) = 123 then none else
  if (hexsFrom (leftB s (i + 1)) 0).2 = 0 then none else
  if ¬ headI (leftB s (i + 1 + (hexsFrom (leftB s (i + 1)) 0).2)) = 125 then none else
  if 1114111 < (hexsFrom (leftB s (i + 1)) 0).1 then none else some ((hexsFrom (leftB s (i + 1)) 0).1, i + 1 + (hexsFrom (leftB s (i + 1)) 0).2 + 1)
def NumPost (o : Option (Int × Nat)) (w : World) (e : Ending) (w' : World) : Prop :=
  Below w.heap.size w w' ∧ ((o = none ∧ e = .returned (.tuple #[.int .i32 0, .int .i64 0, .bool false])) ∨ ∃ v k, o = some (v, k) ∧ e = .returned (.tuple #[.int .i32 v, .int .i64 (k : Int), .bool true]))
theorem drewN_below (w : World) (n : Nat) : Below w.heap.size w (w.drewN n) := by
  induction n with
  | zero => exact Below.refl _ _
  | succ n ih => exact ih.drew

/-- A digit's number, at a byte of a text, in a letter. -/
theorem rhex_at {c : Nat} {a : Int} (h : hexI (c : Int) = a) (hc : c < 256) (W : World) : Calls Tryz.prog 108 #[.int .u8 (c : Int)] W fun e w' => e = .returned (.int .i64 a) ∧ w' = W := h ▸ rhex_any (c : Int) W (by omega) (by omega)

-- NUMBER
theorem numberS_neg {s : ByteArray} {i : Nat} (h : ¬ (0 ≤ hexI (headI (leftB s i)) ∧ 0 ≤ hexI (headI (leftB s (i + 1))))) : numberS s i =
    if ¬ headI (leftB s i) = 123 then none else
    if (hexsFrom (leftB s (i + 1)) 0).2 = 0 then none else
    if ¬ headI (leftB s (i + 1 + (hexsFrom (leftB s (i + 1)) 0).2)) = 125 then none else
    if 1114111 < (hexsFrom (leftB s (i + 1)) 0).1 then none else some ((hexsFrom (leftB s (i + 1)) 0).1, i + 1 + (hexsFrom (leftB s (i + 1)) 0).2 + 1) := by
  unfold numberS
  rw [if_neg h]
set_option maxHeartbeats 3200000 in
set_option maxRecDepth 100000 in
theorem rnumber_any (s : ByteArray) (i : Nat) (w : World) (hs : s.size ≤ 4503599627370496) (hi : i ≤ s.size) :
    Calls Tryz.prog 84 #[.string s, .int .i64 i] w (NumPost (numberS s i) w) := by
  obtain ⟨O, hO⟩ : ∃ O, numberS s i = O := ⟨_, rfl⟩
  rw [hO]
  unfold NumPost
  have hw1 : IntKind.i64.wrap ((i : Int) + 1) = (i : Int) + 1 := wrap_in _ (by omega)
  by_cases hlt : i < s.size
  · have g0 := head_at s i hlt
    obtain ⟨a, ha⟩ : ∃ a, hexI (s[i].toNat : Int) = a := ⟨_, rfl⟩
    have HA := Lib.hid (rhex_at ha (UInt8.toNat_lt _))
    have ha15 : a ≤ 15 := ha ▸ hexI_hi _
    have z0 : (0 : Int) ≤ (i : Int) + 1 := by omega
    have z1 : ((i : Int) + 1).toNat = i + 1 := by omega
    by_cases h1 : i + 1 < s.size
    · have z2 : (i : Int) + 1 < (s.size : Int) := by omega
      have g1 := head_at s (i + 1) h1
      by_cases ha0 : 0 ≤ a
      · obtain ⟨b, hb⟩ : ∃ b, hexI (s[i + 1].toNat : Int) = b := ⟨_, rfl⟩
        have HB := Lib.hid (rhex_at hb (UInt8.toNat_lt _))
        have hb15 : b ≤ 15 := hb ▸ hexI_hi _
        by_cases hb0 : 0 ≤ b
        · have HN := Lib.hid (show O = some (16 * a + b, i + 2) by rw [← hO]; unfold numberS; rw [g0, g1, ha, hb, if_pos ⟨ha0, hb0⟩])
          have hw2 : IntKind.i64.wrap ((i : Int) + 2) = (i : Int) + 2 := wrap_in _ (by omega)
          have hw3 : IntKind.i64.wrap (16 * a) = 16 * a := wrap_in _ (by omega)
          have hw4 : IntKind.i64.wrap (16 * a + b) = 16 * a + b := wrap_in _ (by omega)
          have hw5 : IntKind.i32.wrap (16 * a + b) = 16 * a + b := wrap_in32 _ (by omega)
          have cA : ∀ n, Calls Tryz.prog 108 #[.int .u8 (s[i].toNat : Int)] (w.drewN n) fun e w' => e = .returned (.int .i64 a) ∧ w' = w.drewN n := fun n => HA.out _
          have cB : ∀ n, Calls Tryz.prog 108 #[.int .u8 (s[i + 1].toNat : Int)] (w.drewN n) fun e w' => e = .returned (.int .i64 b) ∧ w' = w.drewN n := fun n => HB.out _
          clear hO g0 g1 ha hb
          go_enter Tryz.func84, Tryz.ntmps84
          go_wp2_with (first | (go_at_call 108; with_reducible refine (HA.out _).mono ?_; rintro e w5 ⟨rfl, rfl⟩) | (go_at_call 108; with_reducible refine (HB.out _).mono ?_; rintro e w5 ⟨rfl, rfl⟩))
          go_big_quiet (first | (go_at_call 108; with_reducible refine Calls.quiet_of_same (cA _)) | (go_at_call 108; with_reducible refine Calls.quiet_of_same (cB _)))
          go_wp2
          go_ret3
          exact ⟨drewN_below _ _, .inr ⟨16 * a + b, i + 2, HN.out, rfl⟩⟩
        · have hne : ¬ s[i].toNat = 123 := fun h => by have h2 : a = -1 := ha.symm.trans (by rw [h]; rfl); omega
          have HN := Lib.hid (show O = none by rw [← hO]; unfold numberS; rw [g0, g1, ha, hb, if_neg (fun h => hb0 h.2), if_pos (by omega)])
          have b0 : ((s[i].toNat : Int) != 123) = true := ne_true_of (by omega)
          clear hO g0 g1 ha hb hne
          go_enter Tryz.func84, Tryz.ntmps84
          go_wp2_with (first | (go_at_call 108; with_reducible refine (HA.out _).mono ?_; rintro e w5 ⟨rfl, rfl⟩) | (go_at_call 108; with_reducible refine (HB.out _).mono ?_; rintro e w5 ⟨rfl, rfl⟩))
          go_ret3
          exact ⟨Below.refl _ _, .inl ⟨HN.out, rfl⟩⟩
      · have hO2 := hO.symm.trans (numberS_neg (s := s) (i := i) (fun h => by have := h.1; rw [g0, ha] at this; exact ha0 this))
        by_cases h123 : s[i].toNat = 123
        · have b0 : ((s[i].toNat : Int) != 123) = false := ne_false_of (by omega)
          have HO := Lib.hid (hO2.trans (if_neg (fun h => h (g0.trans (by omega)))))
          clear hO hO2 g0 g1 ha h123
          go_enter Tryz.func84, Tryz.ntmps84
          go_wp2_with (first | (go_at_call 108; with_reducible refine (HA.out _).mono ?_; rintro e w5 ⟨rfl, rfl⟩))
          go_loopw [7, 8] (fun vn vj wr => ∃ (j k : Nat) (n : Int), i + 1 + k = j ∧ j ≤ s.size ∧ vn = .int .i64 n ∧ vj = .int .i64 j ∧ 0 ≤ n ∧ n ≤ 1114112 ∧ hexsFrom (leftB s (i + 1)) 0 = ((hexsFrom (leftB s j) n).1, (hexsFrom (leftB s j) n).2 + k) ∧ wr = w5) (fun _ vj _ => s.size - (intOf vj).toNat)
          case atStart => exact ⟨i + 1, 0, 0, rfl, hlt, rfl, rfl, by decide, by decide, rfl, rfl⟩
          case round =>
            obtain ⟨j, k, n, hjk, hj, rfl, rfl, hn0, hn1, hd, rfl⟩ := hrel
            have HD := Lib.hid hd; have HJ := Lib.hid hjk
            clear hd
            by_cases hlj : j < s.size
            · have hc := left_cons s j hlj
              obtain ⟨b, hb⟩ : ∃ b, hexI (s[j].toNat : Int) = b := ⟨_, rfl⟩
              have HB := Lib.hid (rhex_at hb (UInt8.toNat_lt _))
              have hw2 : IntKind.i64.wrap ((j : Int) + 1) = (j : Int) + 1 := wrap_in _ (by omega)
              have hb15 : b ≤ 15 := hb ▸ hexI_hi _
              have hblo : -1 ≤ b := hb ▸ hexI_lo _
              by_cases hb0 : 0 ≤ b
              · have HD2 := Lib.hid (show hexsFrom (leftB s (i + 1)) 0 = ((hexsFrom (leftB s (j + 1)) (min (16 * n + b) 1114112)).1, (hexsFrom (leftB s (j + 1)) (min (16 * n + b) 1114112)).2 + 1 + k) by
                  have := HD.out
                  rw [hc, hexsFrom, if_pos (by rw [hb]; exact hb0), hb] at this
                  exact this)
                have hw3 : IntKind.i64.wrap (16 * n) = 16 * n := wrap_in _ (by omega)
                have hw4 : IntKind.i64.wrap (16 * n + b) = 16 * n + b := wrap_in _ (by omega)
                clear hc HD hjk hb
                go_wp2_with (first | (go_at_call 108; with_reducible refine (HB.out _).mono ?_; rintro e w5 ⟨rfl, rfl⟩))
                refine ⟨⟨j + 1, k + 1, min (16 * n + b) 1114112, by have := HJ.out; omega, hlj, congrArg _ (by omega), rfl, by omega, by omega, ?_, trivial⟩, ?_⟩
                · rw [HD2.out]
                  simp only [Prod.mk.injEq, true_and]
                  omega
                · simp only [intOf]
                  omega
              · have HR := Lib.hid (show hexsFrom (leftB s (i + 1)) 0 = (n, k) by
                  have := HD.out
                  rw [hc, hexsFrom, if_neg (by rw [hb]; exact hb0)] at this
                  simpa using this)
                clear hc hb HD
                by_cases hk : k = 0
                · have HN := Lib.hid (HO.out.trans (if_pos (by rw [HR.out]; exact hk)))
                  have b1 : ((j : Int) == (i : Int) + 1) = true := eq_true_of (by omega)
                  clear hk
                  go_wp2_with (first | (go_at_call 108; with_reducible refine (HB.out _).mono ?_; rintro e w5 ⟨rfl, rfl⟩))
                  go_ret3
                  exact ⟨Below.refl _ _, .inl ⟨HN.out, rfl⟩⟩
                have HO2 := Lib.hid (HO.out.trans (if_neg (by rw [HR.out]; exact hk)))
                have b1 : ((j : Int) == (i : Int) + 1) = false := eq_false_of (by omega)
                rw [HR.out] at HO2
                simp only [HJ.out] at HO2
                have g1 := head_at s j hlj
                by_cases h125 : s[j].toNat = 125
                · have b2 : ((s[j].toNat : Int) != 125) = false := ne_false_of (by omega)
                  have HO3 := Lib.hid (HO2.out.trans (if_neg (fun h => h (g1.trans (by omega)))))
                  by_cases hbig : 1114111 < n
                  · have HN := Lib.hid (HO3.out.trans (if_pos hbig))
                    clear hk HO2 HO3 h125 g1
                    go_wp2_with (first | (go_at_call 108; with_reducible refine (HB.out _).mono ?_; rintro e w5 ⟨rfl, rfl⟩))
                    go_ret3
                    exact ⟨Below.refl _ _, .inl ⟨HN.out, rfl⟩⟩
                  · have HN := Lib.hid (HO3.out.trans (if_neg hbig))
                    have hw9 : IntKind.i64.wrap ((j : Int) + 1) = (j : Int) + 1 := wrap_in _ (by omega)
                    have hw8 : IntKind.i32.wrap n = n := wrap_in32 _ (by omega)
                    clear hk HO2 HO3 h125 g1
                    go_wp2_with (first | (go_at_call 108; with_reducible refine (HB.out _).mono ?_; rintro e w5 ⟨rfl, rfl⟩))
                    go_ret3
                    exact ⟨Below.refl _ _, .inr ⟨n, j + 1, HN.out, rfl⟩⟩
                · have b2 : ((s[j].toNat : Int) != 125) = true := ne_true_of (by omega)
                  have HN := Lib.hid (HO2.out.trans (if_pos (fun h => h125 (by rw [g1] at h; omega))))
                  clear hk HO2 h125 g1
                  go_wp2_with (first | (go_at_call 108; with_reducible refine (HB.out _).mono ?_; rintro e w5 ⟨rfl, rfl⟩))
                  go_ret3
                  exact ⟨Below.refl _ _, .inl ⟨HN.out, rfl⟩⟩
            · have HR := Lib.hid (show hexsFrom (leftB s (i + 1)) 0 = (n, k) by
                have := HD.out
                rw [left_nil s j (by omega), hexsFrom] at this
                simpa using this)
              clear HD
              by_cases hk : k = 0
              · have HN := Lib.hid (HO.out.trans (if_pos (by rw [HR.out]; exact hk)))
                have b1 : ((j : Int) == (i : Int) + 1) = true := eq_true_of (by omega)
                clear hk
                go_wp2
                go_ret3
                exact ⟨Below.refl _ _, .inl ⟨HN.out, rfl⟩⟩
              have HO2 := Lib.hid (HO.out.trans (if_neg (by rw [HR.out]; exact hk)))
              have b1 : ((j : Int) == (i : Int) + 1) = false := eq_false_of (by omega)
              rw [HR.out] at HO2
              simp only [HJ.out] at HO2
              have HN := Lib.hid (HO2.out.trans (if_pos (by rw [head_end s j (by omega)]; decide)))
              clear hk HO2
              go_wp2
              go_ret3
              exact ⟨Below.refl _ _, .inl ⟨HN.out, rfl⟩⟩
        · have b0 : ((s[i].toNat : Int) != 123) = true := ne_true_of (by omega)
          have HN := Lib.hid (hO2.trans (if_pos (fun h => h123 (by rw [g0] at h; omega))))
          clear hO hO2 g0 g1 ha h123
          go_enter Tryz.func84, Tryz.ntmps84
          go_wp2_with (first | (go_at_call 108; with_reducible refine (HA.out _).mono ?_; rintro e w5 ⟨rfl, rfl⟩))
          go_ret3
          exact ⟨Below.refl _ _, .inl ⟨HN.out, rfl⟩⟩
    · have z2 : ¬ (i : Int) + 1 < (s.size : Int) := by omega
      have g1 := head_end s (i + 1) (by omega)
      have hO2 := hO.symm.trans (numberS_neg (s := s) (i := i) (fun h => by have := h.2; rw [g1, show hexI (-1 : Int) = -1 from rfl] at this; omega))
      by_cases h123 : s[i].toNat = 123
      · have b0 : ((s[i].toNat : Int) != 123) = false := ne_false_of (by omega)
        have HO := Lib.hid (hO2.trans (if_neg (fun h => h (g0.trans (by omega)))))
        clear hO hO2 g0 g1 ha h123
        go_enter Tryz.func84, Tryz.ntmps84
        go_wp2_with (first | (go_at_call 108; with_reducible refine (HA.out _).mono ?_; rintro e w5 ⟨rfl, rfl⟩))
        go_loopw [7, 8] (fun vn vj wr => ∃ (j k : Nat) (n : Int), i + 1 + k = j ∧ j ≤ s.size ∧ vn = .int .i64 n ∧ vj = .int .i64 j ∧ 0 ≤ n ∧ n ≤ 1114112 ∧ hexsFrom (leftB s (i + 1)) 0 = ((hexsFrom (leftB s j) n).1, (hexsFrom (leftB s j) n).2 + k) ∧ wr = w) (fun _ vj _ => s.size - (intOf vj).toNat)
        case atStart => exact ⟨i + 1, 0, 0, rfl, hlt, rfl, rfl, by decide, by decide, rfl, rfl⟩
        case round =>
          obtain ⟨j, k, n, hjk, hj, rfl, rfl, hn0, hn1, hd, rfl⟩ := hrel
          have HD := Lib.hid hd; have HJ := Lib.hid hjk
          clear hd
          by_cases hlj : j < s.size
          · exact absurd hlj (by omega)
          · have HR := Lib.hid (show hexsFrom (leftB s (i + 1)) 0 = (n, k) by
              have := HD.out
              rw [left_nil s j (by omega), hexsFrom] at this
              simpa using this)
            clear HD
            by_cases hk : k = 0
            · have HN := Lib.hid (HO.out.trans (if_pos (by rw [HR.out]; exact hk)))
              have b1 : ((j : Int) == (i : Int) + 1) = true := eq_true_of (by omega)
              clear hk
              go_wp2
              go_ret3
              exact ⟨Below.refl _ _, .inl ⟨HN.out, rfl⟩⟩
            have HO2 := Lib.hid (HO.out.trans (if_neg (by rw [HR.out]; exact hk)))
            have b1 : ((j : Int) == (i : Int) + 1) = false := eq_false_of (by omega)
            rw [HR.out] at HO2
            simp only [HJ.out] at HO2
            have HN := Lib.hid (HO2.out.trans (if_pos (by rw [head_end s j (by omega)]; decide)))
            clear hk HO2
            go_wp2
            go_ret3
            exact ⟨Below.refl _ _, .inl ⟨HN.out, rfl⟩⟩
      · have b0 : ((s[i].toNat : Int) != 123) = true := ne_true_of (by omega)
        have HN := Lib.hid (hO2.trans (if_pos (fun h => h123 (by rw [g0] at h; omega))))
        clear hO hO2 g0 g1 ha h123
        go_enter Tryz.func84, Tryz.ntmps84
        go_wp2_with (first | (go_at_call 108; with_reducible refine (HA.out _).mono ?_; rintro e w5 ⟨rfl, rfl⟩))
        go_ret3
        exact ⟨Below.refl _ _, .inl ⟨HN.out, rfl⟩⟩
  · have g0 := head_end s i (by omega)
    have HN := Lib.hid (show O = none by rw [← hO]; unfold numberS; rw [g0, if_neg (fun h => by have := h.1; rw [show hexI (-1 : Int) = -1 from rfl] at this; omega), if_pos (by decide)])
    have z2 : ¬ (i : Int) + 1 < (s.size : Int) := by omega
    clear hO g0
    go_enter Tryz.func84, Tryz.ntmps84
    go_wp2_with fail
    go_ret3
    exact ⟨Below.refl _ _, .inl ⟨HN.out, rfl⟩⟩
end Go.Proofs.YtmaigjdmjmonbaaGreatDoor
/- The name behind \p. -/
namespace Go.Proofs.YtmaigjdmjmonbaaGreatDoor
open Go Go.RowKit

/-- How many bytes stand ahead of the next '}', or of the end. -/
def brN : List UInt8 → Nat
  | [] => 0
  | c :: t => if c.toNat = 125 then 0 else brN t + 1
theorem brN_le : ∀ l : List UInt8, brN l ≤ l.length
  | [] => Nat.le_refl _
  | c :: t => by
    unfold brN
    have := brN_le t
    split <;> simp <;> omega
/-- The name behind \p at a place, and the place behind it. -/
def propS (s : ByteArray) (i : Nat) : Option (List UInt8 × Nat) :=
  if s.size ≤ i then none else
  if ¬ headI (leftB s i) = 123 then some ((leftB s i).take (Utf8.decode s i).2, i + (Utf8.decode s i).2) else
  if i + 1 + brN (leftB s (i + 1)) < s.size then some ((leftB s (i + 1)).take (brN (leftB s (i + 1))), i + 1 + brN (leftB s (i + 1)) + 1) else none
def PropPost6 (o : Option (List UInt8 × Nat)) (w : World) (e : Ending) (w' : World) : Prop :=
  Below w.heap.size w w' ∧ ((o = none ∧ e = .returned (.tuple #[.string ⟨#[]⟩, .int .i64 0, .bool false])) ∨ ∃ n k b, o = some (n, k) ∧ b.toList = n ∧ e = .returned (.tuple #[.string b, .int .i64 (k : Int), .bool true]))
theorem extract_left6 (s : ByteArray) (a b : Nat) : (s.extract a b).toList = (leftB s a).take (b - a) := by
  unfold leftB
  rw [Lib.extract_toList, ← Lib.toList_data]

set_option maxHeartbeats 1600000 in
set_option maxRecDepth 100000 in
theorem rproperty6_any (s : ByteArray) (i : Nat) (w : World) (hs : s.size ≤ 4503599627370496) (hi : i ≤ s.size) (hT : Lib.Utf8Tabs 3 4 w) :
    Calls Tryz.prog 85 #[.string s, .int .i64 i] w (PropPost6 (propS s i) w) := by
  obtain ⟨O, hO⟩ : ∃ O, propS s i = O := ⟨_, rfl⟩
  rw [hO]
  unfold PropPost6
  by_cases hlt : i < s.size
  · have g0 := head_at s i hlt
    by_cases h123 : s[i].toNat = 123
    · have b0 : ((s[i].toNat : Int) != 123) = false := ne_false_of (by omega)
      have hw1 : IntKind.i64.wrap ((i : Int) + 1) = (i : Int) + 1 := wrap_in _ (by omega)
      have HO := Lib.hid (show O = if i + 1 + brN (leftB s (i + 1)) < s.size then some ((leftB s (i + 1)).take (brN (leftB s (i + 1))), i + 1 + brN (leftB s (i + 1)) + 1) else none by
        rw [← hO]
        unfold propS
        rw [if_neg (by omega), if_neg (fun h => h (g0.trans (by omega)))])
      clear hO g0 h123 hT
      go_enter Tryz.func85, Tryz.ntmps85
      go_wp2_with fail
      go_loopw [9] (fun vj wr => ∃ j : Nat, i + 1 ≤ j ∧ j ≤ s.size ∧ vj = .int .i64 j ∧ i + 1 + brN (leftB s (i + 1)) = j + brN (leftB s j) ∧ wr = w) (fun vj _ => s.size - (intOf vj).toNat)
      case atStart => exact ⟨i + 1, Nat.le_refl _, hlt, rfl, rfl, rfl⟩
      case round =>
        obtain ⟨j, hij, hj, rfl, hg, rfl⟩ := hrel
        have HG := Lib.hid hg
        clear hg
        by_cases hlj : j < s.size
        · have hw2 : IntKind.i64.wrap ((j : Int) + 1) = (j : Int) + 1 := wrap_in _ (by omega)
          by_cases h125 : s[j].toNat = 125
          · have b1 : ((s[j].toNat : Int) == 125) = true := eq_true_of (by omega)
            have HJ := Lib.hid (show i + 1 + brN (leftB s (i + 1)) = j by
              have := HG.out
              rw [left_cons s j hlj, brN, if_pos h125] at this
              exact this)
            have x2 : (i : Int) + 1 ≤ (j : Int) := by omega
            have x3 : (0 : Int) ≤ (i : Int) + 1 := by omega
            have x4 : ((i : Int) + 1).toNat = i + 1 := by omega
            have HN := Lib.hid (HO.out.trans (if_pos (by rw [HJ.out]; exact hlj)))
            clear h125 HG
            go_wp2
            go_ret3
            refine ⟨Below.refl _ _, .inr ⟨_, j + 1, s.extract (i + 1) j, ?_, rfl, rfl⟩⟩
            rw [HN.out, extract_left6, ← HJ.out, show i + 1 + brN (leftB s (i + 1)) - (i + 1) = brN (leftB s (i + 1)) by omega]
          · have b1 : ((s[j].toNat : Int) == 125) = false := eq_false_of (by omega)
            have HG2 := Lib.hid (show i + 1 + brN (leftB s (i + 1)) = j + 1 + brN (leftB s (j + 1)) by
              have := HG.out
              rw [left_cons s j hlj, brN, if_neg h125] at this
              omega)
            clear h125 HG
            go_wp2
            exact ⟨⟨j + 1, by omega, hlj, rfl, HG2.out, trivial⟩, by simp only [intOf]; omega⟩
        · have HN := Lib.hid (HO.out.trans (if_neg (by have := HG.out; omega)))
          clear HG
          go_wp2
          go_ret3
          exact ⟨Below.refl _ _, .inl ⟨HN.out, rfl⟩⟩
    · have b0 : ((s[i].toNat : Int) != 123) = true := ne_true_of (by omega)
      have HO := Lib.hid (show O = some ((leftB s i).take (Utf8.decode s i).2, i + (Utf8.decode s i).2) by
        rw [← hO]
        unfold propS
        rw [if_neg (by omega), if_pos (by rw [g0]; omega)])
      have hn := decode_width s i hlt
      have hdec := Tryz.utf8_DecodeRuneInString (s.extract i s.size) w hT
      rw [decodeGo_extract s i hlt] at hdec
      obtain ⟨r, hr⟩ : ∃ r, Utf8.decode s i = r := ⟨_, rfl⟩
      obtain ⟨r, n⟩ := r
      rw [hr] at HO hdec hn
      simp only at HO hdec hn
      have HD := Lib.hid hdec
      have hw2 : IntKind.i64.wrap ((i : Int) + (n : Int)) = (i : Int) + (n : Int) := wrap_in _ (by omega)
      have x2 : (i : Int) ≤ (i : Int) + (n : Int) := by omega
      have x3 : (i : Int) + (n : Int) ≤ (s.size : Int) := by omega
      have x4 : ((i : Int) + (n : Int)).toNat = i + n := by omega
      clear hO g0 h123 hT hr hdec
      go_enter Tryz.func85, Tryz.ntmps85
      go_wp2_with fail
      refine HD.out.mono ?_
      rintro e w1 ⟨rfl, hb⟩
      have HB := Lib.hid hb
      clear hb HD
      go_wp2_with fail
      go_ret3
      refine ⟨HB.out, .inr ⟨_, i + n, s.extract i (i + n), ?_, rfl, rfl⟩⟩
      rw [HO.out, extract_left6, show i + n - i = n by omega]
  · have HN := Lib.hid (show O = none by rw [← hO]; unfold propS; rw [if_pos (by omega)])
    clear hO hT
    go_enter Tryz.func85, Tryz.ntmps85
    go_wp2_with fail
    go_ret3
    exact ⟨Below.refl _ _, .inl ⟨HN.out, rfl⟩⟩
end Go.Proofs.YtmaigjdmjmonbaaGreatDoor
/- What the program's reader takes, as lists: digits of a base, what stands ahead of a byte. No condition. -/
namespace Go.Proofs.YtmaigjdmjmonbaaGreatDoor
open Go Go.RowKit

/-- A digit's number; of what is none 16. -/
def digI (c : Int) : Int := if 0 ≤ hexI c then hexI c else 16
theorem digI_is (c : Int) : digI c = if 48 ≤ c ∧ c ≤ 57 then c - 48 else if 97 ≤ c ∧ c ≤ 102 then c - 87 else if 65 ≤ c ∧ c ≤ 70 then c - 55 else 16 := by
  unfold digI hexI
  repeat' split
  all_goals omega
theorem wrap_in8 (n : Int) (h : 0 ≤ n ∧ n ≤ 255) : IntKind.u8.wrap n = n := by
  unfold IntKind.wrap
  simp only [IntKind.signed, IntKind.bits]
  simp
  omega
theorem digI_lo (c : Int) : 0 ≤ digI c := by unfold digI; split <;> omega
theorem digI_hi (c : Int) : digI c ≤ 16 := by unfold digI; have := hexI_hi c; split <;> omega
/-- The number of the digits of a base ahead, so many at most, at most M, onto n; and how many there are. -/
def numsFrom (base M : Int) : List UInt8 → Nat → Int → Int × Nat
  | [], _, n => (n, 0)
  | _ :: _, 0, n => (n, 0)
  | c :: t, m + 1, n => if digI c.toNat < base then ((numsFrom base M t m (min (n * base + digI c.toNat) M)).1, (numsFrom base M t m (min (n * base + digI c.toNat) M)).2 + 1) else (n, 0)
theorem numsFrom_none (base M : Int) (l : List UInt8) (n : Int) : numsFrom base M l 0 n = (n, 0) := by cases l <;> rfl
theorem dig_ten (c : UInt8) : digI c.toNat < 10 ↔ isDig c = true := by
  rw [isDig_iff]
  unfold digI hexI
  have := UInt8.toNat_lt c
  split <;> (repeat' split at *) <;> omega
theorem dig_val (c : UInt8) (h : isDig c = true) : digI c.toNat = (c.toNat : Int) - 48 := by
  obtain ⟨h1, h2⟩ := (isDig_iff c).1 h
  unfold digI hexI
  rw [if_pos (c := (48 : Int) ≤ (c.toNat : Int) ∧ (c.toNat : Int) ≤ 57) (by omega)]
  rw [if_pos (by omega)]
theorem nums_digs : ∀ (l : List UInt8) (m : Nat) (n : Int), l.length ≤ m → numsFrom 10 1001 l m n = digsFrom l n
  | [], m, n, _ => rfl
  | c :: t, 0, n, h => by simp at h
  | c :: t, m + 1, n, h => by
    unfold numsFrom digsFrom
    by_cases hd : isDig c = true
    · rw [if_pos ((dig_ten c).2 hd), if_pos hd, dig_val c hd, nums_digs t m _ (by simpa using h), Int.mul_comm n 10]
    · rw [if_neg (fun e => hd ((dig_ten c).1 e)), if_neg hd]
theorem dig_hex (c : UInt8) : digI c.toNat < 16 ↔ 0 ≤ hexI c.toNat := by
  unfold digI
  have := hexI_hi (c.toNat : Int)
  split <;> omega
theorem nums_hexs : ∀ (l : List UInt8) (m : Nat) (n : Int), l.length ≤ m → numsFrom 16 1114112 l m n = hexsFrom l n
  | [], m, n, _ => rfl
  | c :: t, 0, n, h => by simp at h
  | c :: t, m + 1, n, h => by
    unfold numsFrom hexsFrom
    by_cases hd : 0 ≤ hexI c.toNat
    · have hv : digI c.toNat = hexI c.toNat := by unfold digI; rw [if_pos hd]
      rw [if_pos ((dig_hex c).2 hd), if_pos hd, hv, nums_hexs t m _ (by simpa using h), Int.mul_comm n 16]
    · rw [if_neg (fun e => hd ((dig_hex c).1 e)), if_neg hd]
/-- Two digits at most. -/
theorem nums_two (s : ByteArray) (i : Nat) : numsFrom 16 1114112 (leftB s i) 2 0 =
    if 0 ≤ hexI (headI (leftB s i)) then (if 0 ≤ hexI (headI (leftB s (i + 1))) then (16 * hexI (headI (leftB s i)) + hexI (headI (leftB s (i + 1))), 2) else (hexI (headI (leftB s i)), 1)) else (0, 0) := by
  by_cases h0 : i < s.size
  · have g0 := head_at s i h0
    rw [g0, left_cons s i h0]
    unfold numsFrom
    by_cases hd : 0 ≤ hexI (s[i].toNat : Int)
    · have hv : digI (s[i].toNat : Int) = hexI (s[i].toNat : Int) := by unfold digI; rw [if_pos hd]
      have hh := hexI_hi (s[i].toNat : Int)
      rw [if_pos ((dig_hex _).2 hd), if_pos hd, hv]
      by_cases h1 : i + 1 < s.size
      · have g1 := head_at s (i + 1) h1
        rw [g1, left_cons s (i + 1) h1]
        unfold numsFrom
        by_cases he : 0 ≤ hexI (s[i + 1].toNat : Int)
        · have hv2 : digI (s[i + 1].toNat : Int) = hexI (s[i + 1].toNat : Int) := by unfold digI; rw [if_pos he]
          have hh2 := hexI_hi (s[i + 1].toNat : Int)
          rw [if_pos ((dig_hex _).2 he), if_pos he, hv2, numsFrom_none]
          refine Prod.ext ?_ ?_ <;> dsimp only <;> omega
        · rw [if_neg (fun e => he ((dig_hex _).1 e)), if_neg he]
          refine Prod.ext ?_ ?_ <;> dsimp only <;> omega
      · rw [left_nil s (i + 1) (by omega)]
        rw [show headI [] = -1 from rfl, show hexI (-1) = -1 from rfl, if_neg (by decide)]
        unfold numsFrom
        refine Prod.ext ?_ ?_ <;> dsimp only <;> omega
    · rw [if_neg (fun e => hd ((dig_hex _).1 e)), if_neg hd]
  · rw [left_nil s i (by omega)]
    rfl
/-- How many bytes stand ahead of the next c, or of the end. -/
def toN (c : UInt8) : List UInt8 → Nat
  | [] => 0
  | b :: t => if b = c then 0 else toN c t + 1
theorem toN_le (c : UInt8) : ∀ l : List UInt8, toN c l ≤ l.length
  | [] => Nat.le_refl _
  | b :: t => by
    unfold toN
    have := toN_le c t
    split <;> simp <;> omega
theorem toN_index (c : UInt8) : ∀ l : List UInt8, Lib.indexByte l c = if toN c l < l.length then (toN c l : Int) else -1
  | [] => rfl
  | b :: t => by
    have ih := toN_index c t
    unfold Lib.indexByte toN
    by_cases h : b = c
    · subst h
      simp
    · rw [if_neg h, if_neg (by simpa using h), ih]
      have := toN_le c t
      by_cases hl : toN c t < t.length
      · rw [if_pos hl, if_neg (by simp only [beq_iff_eq]; omega), if_pos (by simp only [List.length_cons]; omega)]
        omega
      · rw [if_neg hl, if_pos (by rfl), if_neg (by simp only [List.length_cons]; omega)]
theorem toN_gt : ∀ l : List UInt8, gtN l = toN 62 l
  | [] => rfl
  | b :: t => by
    unfold gtN toN
    rw [toN_gt t]
    by_cases h : b = 62
    · rw [if_pos h, if_pos (by rw [h]; rfl)]
    · rw [if_neg h, if_neg (fun e => h (UInt8.toNat_inj.1 (by rw [e]; rfl)))]
theorem toN_br : ∀ l : List UInt8, brN l = toN 125 l
  | [] => rfl
  | b :: t => by
    unfold brN toN
    rw [toN_br t]
    by_cases h : b = 125
    · rw [if_pos h, if_pos (by rw [h]; rfl)]
    · rw [if_neg h, if_neg (fun e => h (UInt8.toNat_inj.1 (by rw [e]; rfl)))]
/-- HasPrefix, of what is left of a text. -/
theorem pre_left (s t : ByteArray) (i : Nat) : Lib.hasPrefix (s.extract i s.size).data.toList t.data.toList = preB t.toList (leftB s i) := by
  rw [← Lib.hasPrefix_of_take, ← Lib.toList_data, ← Lib.toList_data, Lib.extract_toList, ← Lib.toList_data]
  unfold preB leftB
  rw [List.take_of_length_le (l := s.toList.drop i) (by rw [List.length_drop, Lib.toList_data, ← Lib.size_eq]; exact Nat.le_refl _)]
  cases h : (s.toList.drop i).take t.toList.length == t.toList
  · rw [Bool.and_false]
  · rw [Bool.and_true]
    have := congrArg List.length (beq_iff_eq.1 h)
    rw [List.length_take] at this
    exact decide_eq_true (by omega)
theorem extract_whole (s : ByteArray) (i : Nat) : (s.extract i s.size).toList = leftB s i := by
  unfold leftB
  rw [Lib.extract_toList, ← Lib.toList_data, List.take_of_length_le (by rw [List.length_drop, Lib.toList_data, ← Lib.size_eq]; exact Nat.le_refl _)]
/-- A byte stands where a text begins with it. -/
theorem pre_one (c : UInt8) (s : ByteArray) (i : Nat) : preB [c] (leftB s i) = decide (headI (leftB s i) = (c.toNat : Int)) := by
  by_cases h : i < s.size
  · rw [left_cons s i h]
    unfold preB headI
    simp only [List.length_singleton, List.take_succ_cons, List.take_zero]
    by_cases e : s[i] = c
    · rw [e]
      simp
    · rw [decide_eq_false (fun h => e (UInt8.toNat_inj.1 (by omega)))]
      exact beq_eq_false_iff_ne.2 fun h => e (List.head_eq_of_cons_eq h)
  · rw [left_nil s i (by omega)]
    unfold preB
    rw [show headI [] = -1 from rfl, decide_eq_false (by omega)]
    rfl
theorem pre_fits {a l : List UInt8} (h : preB a l = true) : a.length ≤ l.length := by
  unfold preB at h
  have := congrArg List.length (beq_iff_eq.1 h)
  rw [List.length_take] at this
  omega
end Go.Proofs.YtmaigjdmjmonbaaGreatDoor
/- Hexadecimal numbers written out are read as they are: plain side. -/
namespace Go.Proofs.YtmaigjdmjmonbaaGreatDoor
open Go Go.RowKit

def hexD (d : Nat) : UInt8 := UInt8.ofNat (if d < 10 then 48 + d else 87 + d)
def hexL (n : Nat) : List UInt8 := if h : n < 16 then [hexD n] else hexL (n / 16) ++ [hexD (n % 16)]
termination_by n
decreasing_by omega
theorem hex_dig (d : Nat) (h : d < 16) : hexI ((hexD d).toNat : Int) = (d : Int) := by
  rcases (show d = 0 ∨ d = 1 ∨ d = 2 ∨ d = 3 ∨ d = 4 ∨ d = 5 ∨ d = 6 ∨ d = 7 ∨ d = 8 ∨ d = 9 ∨ d = 10 ∨ d = 11 ∨ d = 12 ∨ d = 13 ∨ d = 14 ∨ d = 15 by omega) with rfl | rfl | rfl | rfl | rfl | rfl | rfl | rfl | rfl | rfl | rfl | rfl | rfl | rfl | rfl | rfl <;> rfl
theorem hexs_one (d : Nat) (h : d < 16) (t : List UInt8) (n : Int) : hexsFrom (hexD d :: t) n = ((hexsFrom t (min (16 * n + (d : Int)) 1114112)).1, (hexsFrom t (min (16 * n + (d : Int)) 1114112)).2 + 1) := by
  rw [hexsFrom, hex_dig d h, if_pos (by omega)]
theorem hexs_hex : ∀ (u : Nat), u ≤ 1114111 → ∀ rest : List UInt8, hexsFrom (hexL u ++ rest) 0 = ((hexsFrom rest (u : Int)).1, (hexsFrom rest (u : Int)).2 + (hexL u).length) := by
  intro u
  induction u using Nat.strongRecOn with
  | _ u ih =>
    intro hu rest
    rw [hexL]
    by_cases h : u < 16
    · rw [dif_pos h, List.singleton_append, hexs_one u h, show min (16 * (0 : Int) + (u : Int)) 1114112 = (u : Int) by omega]
      rfl
    · rw [dif_neg h, List.append_assoc, ih (u / 16) (by omega) (by omega), List.singleton_append, hexs_one (u % 16) (by omega), show min (16 * ((u / 16 : Nat) : Int) + ((u % 16 : Nat) : Int)) 1114112 = (u : Int) by omega]
      simp only [List.length_append, List.length_singleton, Prod.mk.injEq, true_and]
      omega
theorem hex_pos (u : Nat) : 0 < (hexL u).length := by
  rw [hexL]
  split
  · exact Nat.zero_lt_one
  · simp
theorem hex_len : ∀ u : Nat, (hexL u).length ≤ u + 1 := by
  intro u
  induction u using Nat.strongRecOn with
  | _ u ih =>
    rw [hexL]
    split
    · simp
    · have := ih (u / 16) (by omega)
      simp only [List.length_append, List.length_singleton]
      omega
theorem hexs_noughts : ∀ (k : Nat) (l : List UInt8), hexsFrom (List.replicate k 48 ++ l) 0 = ((hexsFrom l 0).1, (hexsFrom l 0).2 + k)
  | 0, l => rfl
  | k + 1, l => by
    rw [List.replicate_succ, List.cons_append, show (48 : UInt8) = hexD 0 from rfl, hexs_one 0 (by decide), show min (16 * (0 : Int) + ((0 : Nat) : Int)) 1114112 = 0 by decide, show hexD 0 = (48 : UInt8) from rfl, hexs_noughts k l]
    rfl
end Go.Proofs.YtmaigjdmjmonbaaGreatDoor
/- strconv.FormatInt in base 16, of a number of a rune: its hexadecimal digits. -/
namespace Go.Proofs.YtmaigjdmjmonbaaGreatDoor
open Go Go.RowKit

/-- The one place of the library's table that is read. -/
def De64 (w : World) : Prop := w.cell? ⟨6, 15, none⟩ = some (.int .u8 4)
theorem De64.below {w w' : World} (h : De64 w) (hb : Below w.heap.size w w') : De64 w' := (hb.cell (World.block_lt_of_cell? w _ h)).trans h
set_option maxHeartbeats 800000 in
theorem trail64_any (w : World) (h : De64 w) : Calls Tryz.prog 113 #[.int .u64 16] w fun e w' => e = .returned (.int .i64 4) ∧ w' = w := by
  unfold De64 at h
  have e1 : IntKind.u64.wrap (-16) = 18446744073709551600 := by kernel_rfl
  have e2 : bits .and .u64 16 18446744073709551600 = 16 := by kernel_rfl
  have e3 : IntKind.u64.wrap 4573923408821661840 = 4573923408821661840 := by kernel_rfl
  go_enter Tryz.func113, Tryz.ntmps113
  go_wp2
  go_ret
  exact ⟨rfl, rfl⟩
set_option maxHeartbeats 800000 in
theorem trail_any (w : World) (h : De64 w) : Calls Tryz.prog 93 #[.int .u64 16] w fun e w' => e = .returned (.int .i64 4) ∧ w' = w := by
  have HT := Lib.hid (trail64_any w h)
  go_enter Tryz.func93, Tryz.ntmps93
  go_wp2_with fail
  refine HT.out.mono ?_
  rintro e w' ⟨rfl, rfl⟩
  go_wp2_with fail
  go_ret
  exact ⟨rfl, rfl⟩
set_option maxHeartbeats 800000 in
theorem pow2_any (w : World) : Calls Tryz.prog 92 #[.int .i64 16] w fun e w' => e = .returned (.bool true) ∧ w' = w := by
  go_enter Tryz.func92, Tryz.ntmps92
  go_wp2
  go_ret
  exact ⟨rfl, rfl⟩
/-- The row's end holds these bytes. -/
def Ends (W : World) (q : Nat) (D : List UInt8) : Prop := ∃ cs : Array Value, Whole W q 133 cs ∧ cs.size = 65 ∧ D.length ≤ 65 ∧ ∀ (j : Nat) (h : j < D.length), cs[65 - D.length + j]? = some (.int .u8 (D[j].toNat : Int))
theorem Ends.put {W : World} {q : Nat} {D : List UInt8} (h : Ends W q D) (c : UInt8) (k : Nat) (hk : D.length + 1 + k = 65) : Ends (W.setCell ⟨q, k, none⟩ (.int .u8 (c.toNat : Int))) q (c :: D) := by
  obtain ⟨cs, h1, h2, h3, h4⟩ := h
  refine ⟨_, h1.store k _, by simpa using h2, by simp; omega, fun j hj => ?_⟩
  rw [List.length_cons] at hj ⊢
  rw [show 65 - (D.length + 1) + j = k + j by omega]
  cases j with
  | zero => rw [Array.getElem?_setIfInBounds, if_pos (by omega), if_pos (by omega)]; rfl
  | succ j =>
    rw [Array.getElem?_setIfInBounds, if_neg (by omega), List.getElem_cons_succ, ← h4 j (by omega)]
    congr 1
    omega
theorem Ends.cell {W : World} {q : Nat} {D : List UInt8} (h : Ends W q D) (k : Nat) (hk : k < 65) : ∃ v, W.cell? ⟨q, k, none⟩ = some v ∧ W.frozen? ⟨q, k, none⟩ = false := by
  obtain ⟨cs, h1, h2, h3, h4⟩ := h
  exact ⟨cs[k]'(by omega), (h1.cell k).trans (Array.getElem?_eq_getElem (by omega)), h1.free k⟩
theorem and15 (u : Nat) (h : u < 18446744073709551616) : bits .and .u64 (u : Int) 15 = ((u % 16 : Nat) : Int) := by
  show IntKind.u64.wrap ((BitVec.ofInt 64 (u : Int) &&& 15#64).toNat : Int) = _
  rw [BitVec.ofInt_natCast, BitVec.toNat_and, BitVec.toNat_ofNat, show (15#64).toNat = 2 ^ 4 - 1 from rfl, Nat.mod_eq_of_lt h, Nat.and_two_pow_sub_one_eq_mod, IntKind.wrap_u64]
  omega
theorem digit_at (d : Nat) (h : d < 16) (h' : d < (⟨#[48, 49, 50, 51, 52, 53, 54, 55, 56, 57, 97, 98, 99, 100, 101, 102, 103, 104, 105, 106, 107, 108, 109, 110, 111, 112, 113, 114, 115, 116, 117, 118, 119, 120, 121, 122]⟩ : ByteArray).size) : (⟨#[48, 49, 50, 51, 52, 53, 54, 55, 56, 57, 97, 98, 99, 100, 101, 102, 103, 104, 105, 106, 107, 108, 109, 110, 111, 112, 113, 114, 115, 116, 117, 118, 119, 120, 121, 122]⟩ : ByteArray)[d] = hexD d := by
  rcases (show d = 0 ∨ d = 1 ∨ d = 2 ∨ d = 3 ∨ d = 4 ∨ d = 5 ∨ d = 6 ∨ d = 7 ∨ d = 8 ∨ d = 9 ∨ d = 10 ∨ d = 11 ∨ d = 12 ∨ d = 13 ∨ d = 14 ∨ d = 15 by omega) with rfl | rfl | rfl | rfl | rfl | rfl | rfl | rfl | rfl | rfl | rfl | rfl | rfl | rfl | rfl | rfl <;> rfl
theorem hex_short : ∀ (k u : Nat), u < 16 ^ (k + 1) → (hexL u).length ≤ k + 1
  | 0, u, h => by
    rw [hexL, dif_pos (by simpa using h)]
    simp
  | k + 1, u, h => by
    rw [hexL]
    split
    · simp
    · have := hex_short k (u / 16) (by rw [Nat.pow_succ] at h; exact Nat.div_lt_of_lt_mul (by rw [Nat.mul_comm]; exact h))
      simp only [List.length_append, List.length_singleton]
      omega
set_option maxHeartbeats 3200000 in
set_option maxRecDepth 100000 in
theorem fbits_any (n : Nat) (w : World) (hn : n ≤ 1114111) (h : De64 w) :
    Calls Tryz.prog 69 #[.slice none 0 0, .int .u64 n, .int .i64 16, .bool false, .bool false] w fun e w' => ∃ b : ByteArray, e = .returned (.tuple #[.slice none 0 0, .string b]) ∧ b.toList = hexL n ∧ Below w.heap.size w w' := by
  obtain ⟨w1, hw1⟩ : ∃ w1, w.alloc (.cells Tryz.zeroCells133 133) = w1 := ⟨_, rfl⟩
  have hb1 : Below w.heap.size w w1 := by rw [← hw1]; exact (Below.refl _ w).alloc (Nat.le_refl _) _
  have hE1 : Ends w1 w.heap.size [] := by rw [← hw1]; exact ⟨_, heap_alloc_new w _, by kernel_rfl, by decide, fun j h => by cases h⟩
  have HW1 := Lib.hid hw1; have HB1 := Lib.hid hb1; have HE1 := Lib.hid hE1; have HD := Lib.hid h
  clear hw1 hb1 hE1 h
  go_enter Tryz.func69, Tryz.ntmps69
  go_upto_region 4 with (fail)
  rw [HW1.out]
  go_wp2_with fail
  refine (pow2_any _).mono ?_
  rintro e w2 ⟨rfl, rfl⟩
  go_wp2_with fail
  refine (trail_any _ (HD.out.below HB1.out)).mono ?_
  rintro e w3 ⟨rfl, rfl⟩
  go_wp2_with fail
  go_loopw [1, 13] (fun vu vi wr => ∃ (u : Nat) (D : List UInt8), vu = .int .u64 u ∧ u ≤ n ∧ vi = .int .i64 ((65 - D.length : Nat) : Int) ∧ D.length ≤ 20 ∧ hexL n = hexL u ++ D ∧ Ends wr w.heap.size D ∧ Below w.heap.size w wr) (fun vu _ _ => (intOf vu).toNat)
  case atStart => exact ⟨n, [], rfl, Nat.le_refl _, rfl, by decide, by simp, HE1.out, HB1.out⟩
  case round =>
    obtain ⟨u, D, rfl, hu, rfl, hD, hx, hE, hB⟩ := hrel
    have HX := Lib.hid hx; have HE := Lib.hid hE; have HB := Lib.hid hB
    clear hx hE hB
    obtain ⟨k, hk⟩ : ∃ k, 65 - D.length = k + 1 := ⟨64 - D.length, by omega⟩
    have hk65 : k < 65 := by omega
    obtain ⟨v0, hc, hf⟩ := HE.out.cell k hk65
    have HK := Lib.hid hk
    rw [hk]
    clear hk
    by_cases h16 : 16 ≤ u
    · have hm : u % 16 < 16 := Nat.mod_lt _ (by decide)
      have ha := and15 u (by omega)
      obtain ⟨d, hd⟩ : ∃ d, u % 16 = d := ⟨_, rfl⟩
      rw [hd] at ha hm
      have HD16 := Lib.hid hd
      clear hd
      have hlen : D.length + 1 ≤ 6 := by
        have h1 := hex_short 5 n (by omega)
        have h2 := congrArg List.length HX.out
        have h3 := hex_pos u
        rw [List.length_append] at h2
        omega
      go_wp2_with fail
      refine ⟨⟨u / 16, hexD d :: D, congrArg _ (by omega), by omega, congrArg _ (by have := HK.out; rw [List.length_cons]; omega), by rw [List.length_cons]; omega, ?_, ?_, HB.out.setCell (p := ⟨w.heap.size, k, none⟩) (Nat.le_refl _) _⟩, by simp only [intOf]; omega⟩
      · rw [HX.out, hexL, dif_neg (by omega), HD16.out, List.append_assoc]
        rfl
      · rw [digit_at d hm]
        exact HE.out.put _ _ (by have := HK.out; omega)
    · have hu16 : u < 16 := by omega
      clear h16
      go_upto_region 25 with (fail)
      have hE2 := HE.out.put (hexD u) k (by have := HK.out; omega)
      have hB2 := HB.out.setCell (p := ⟨w.heap.size, k, none⟩) (Nat.le_refl _) (.int .u8 ((hexD u).toNat : Int))
      rw [digit_at u hu16]
      generalize wr.setCell ⟨w.heap.size, k, none⟩ (.int .u8 ((hexD u).toNat : Int)) = w5 at hE2 hB2 ⊢
      have hDk : (hexD u :: D).length = 65 - k := by have := HK.out; rw [List.length_cons]; omega
      have hal : Tryz.prog.arrayLen 133 = 65 := by kernel_rfl
      have hsl : ∀ W, (Instr.sliceAt 133 (.pointer (some ⟨w.heap.size, 0, none⟩)) (some (.int .i64 (k : Int))) none none).run Tryz.prog W = .ok (.slice (some ⟨w.heap.size, k, none⟩) (hexD u :: D).length (65 - k)) W := fun W => by
        rw [run_sliceAt_array_l W 133 ⟨w.heap.size, 0, none⟩ (by simp [Program.arrayLen, Program.elem, Tryz.underlying133]) .i64 (k : Int) (by omega) (by rw [hal]; omega), hDk]
        go_simp
        omega
      have hcv : (convert 105 9 (.slice (some ⟨w.heap.size, k, none⟩) (D.length + 1) (65 - k))).run Tryz.prog w5 = .ok (.string ⟨(hexD u :: D).toArray⟩) w5 := by
        refine run_convert_bytes_back w5 105 9 5 ⟨w.heap.size, k, none⟩ (65 - k) (hexD u :: D) Tryz.underlying105 Tryz.underlying5 Tryz.underlying9 (fun j hj => ?_)
        obtain ⟨cs, h1, h2, h3, h4⟩ := hE2
        have h5 := h4 j hj
        rw [hDk, show 65 - (65 - k) + j = k + j by omega] at h5
        rw [show (⟨w.heap.size, k, none⟩ : Addr).add j = ⟨w.heap.size, k + j, none⟩ from by unfold Addr.add; split <;> simp_all]
        exact (h1.cell (k + j)).trans h5
      have HB2 := Lib.hid hB2
      have HXX := Lib.hid (show hexD u :: D = hexL n by rw [HX.out, hexL, dif_pos hu16]; rfl)
      clear hE2 hB2 hDk hal hc hf
      go_wp2_with fail
      go_ret2
      exact ⟨_, rfl, by rw [Lib.toList_data]; exact HXX.out, HB2.out⟩
set_option maxHeartbeats 1600000 in
set_option maxRecDepth 100000 in
theorem hexfmt0_any (n : Nat) (w : World) (hn : n ≤ 1114111) (h : De64 w) :
    Calls Tryz.prog 48 #[.int .i64 n, .int .i64 16] w fun e w' => ∃ b : ByteArray, e = .returned (.string b) ∧ b.toList = hexL n ∧ Below w.heap.size w w' := by
  have HF := Lib.hid (fbits_any n w hn h)
  have x1 : IntKind.u64.wrap (n : Int) = (n : Int) := by rw [IntKind.wrap_u64]; omega
  have x2 : ¬ (n : Int) < 0 := by omega
  clear h
  go_enter Tryz.func48, Tryz.ntmps48
  go_wp2_with fail
  refine HF.out.mono ?_
  rintro e w' ⟨b, rfl, hb, hB⟩
  have HH := Lib.hid hb; have HB := Lib.hid hB
  clear hb hB HF
  go_wp2_with fail
  go_ret
  exact ⟨b, rfl, HH.out, HB.out⟩
set_option maxHeartbeats 1600000 in
theorem hexfmt_any (n : Nat) (w : World) (hn : n ≤ 1114111) (h : De64 w) :
    Calls Tryz.prog 31 #[.int .i64 n, .int .i64 16] w fun e w' => ∃ b : ByteArray, e = .returned (.string b) ∧ b.toList = hexL n ∧ Below w.heap.size w w' := by
  have HF := Lib.hid (hexfmt0_any n w hn h)
  go_enter Tryz.func31, Tryz.ntmps31
  go_wp2_with fail
  refine HF.out.mono ?_
  rintro e w' ⟨b, rfl, hb, hB⟩
  have HH := Lib.hid hb; have HB := Lib.hid hB
  clear hb hB HF
  go_wp2_with fail
  go_ret
  exact ⟨b, rfl, HH.out, HB.out⟩
end Go.Proofs.YtmaigjdmjmonbaaGreatDoor
