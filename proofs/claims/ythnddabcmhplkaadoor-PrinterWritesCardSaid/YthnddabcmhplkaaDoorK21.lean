/- Texts merged by program: PwRune. No condition. -/
import Derived.Test.YthnddabcmhplkaaDoorK18
import Derived.Test.YthnddabcmhplkaaDoorK20
import Derived.Test.YthnddabcmhplkaaDoorK9
set_option linter.unusedVariables false
/- The program's text of a rune. -/
namespace Go.Proofs.YthnddabcmhplkaaDoor
open Go Go.RowKit

set_option maxHeartbeats 800000 in
theorem letter_any (c : Int) (w : World) : Calls Tryd.prog 44 #[.int .i32 c] w fun e w' => e = .returned (.bool ((decide (65 ≤ c) && decide (c ≤ 90)) || (decide (97 ≤ c) && decide (c ≤ 122)))) ∧ w' = w := by
  obtain ⟨B, hB⟩ : ∃ B, ((decide (65 ≤ c) && decide (c ≤ 90)) || (decide (97 ≤ c) && decide (c ≤ 122))) = B := ⟨_, rfl⟩
  rw [hB]
  have HB := Lib.hid hB
  clear hB
  go_enter Tryd.func44, Tryd.ntmps44
  go_wp2_with fail
  all_goals
    go_ret
    refine ⟨congrArg (fun b => Ending.returned (Value.bool b)) ?_, rfl⟩
    rw [← HB.out, Bool.eq_iff_iff]
    simp
    try omega
set_option maxHeartbeats 800000 in
theorem digitc_any (c : Int) (w : World) : Calls Tryd.prog 45 #[.int .i32 c] w fun e w' => e = .returned (.bool (decide (48 ≤ c) && decide (c ≤ 57))) ∧ w' = w := by
  obtain ⟨B, hB⟩ : ∃ B, (decide (48 ≤ c) && decide (c ≤ 57)) = B := ⟨_, rfl⟩
  rw [hB]
  have HB := Lib.hid hB
  clear hB
  go_enter Tryd.func45, Tryd.ntmps45
  go_wp2_with fail
  all_goals
    go_ret
    refine ⟨congrArg (fun b => Ending.returned (Value.bool b)) ?_, rfl⟩
    rw [← HB.out, Bool.eq_iff_iff]
    simp
    try omega
theorem any_map (c : Int) : ∀ l : List UInt8, (l.any fun x => decide ((x.toNat : Int) = c)) = (l.map fun x => (x.toNat : Int)).contains c
  | [] => rfl
  | x :: l => by
    rw [List.any_cons, any_map c l, List.map_cons, List.contains_cons]
    congr 1
    by_cases h : (x.toNat : Int) = c
    · rw [decide_eq_true h, h]; exact (beq_self_eq_true c).symm
    · rw [decide_eq_false h]; exact (beq_eq_false_iff_ne.2 fun e => h e.symm).symm
def itselfB : ByteArray := ⟨#[32, 95, 33, 34, 35, 37, 38, 39, 44, 45, 47, 58, 59, 60, 61, 62, 64, 126, 96]⟩
def signsB : ByteArray := ⟨#[92, 46, 43, 42, 63, 40, 41, 124, 91, 93, 123, 125, 94, 36]⟩
theorem itself_list : itselfB.toList = [32, 95, 33, 34, 35, 37, 38, 39, 44, 45, 47, 58, 59, 60, 61, 62, 64, 126, 96] := by kernel_rfl
theorem signsB_list : signsB.toList = [92, 46, 43, 42, 63, 40, 41, 124, 91, 93, 123, 125, 94, 36] := by kernel_rfl
theorem itself_low : LowB itselfB := ⟨by show 4 ≤ 19; decide, by show 19 ≤ 100; decide, by rw [itself_list]; decide⟩
theorem signs_low : LowB signsB := ⟨by show 4 ≤ 14; decide, by show 14 ≤ 100; decide, by rw [signsB_list]; decide⟩
theorem itself_any (c : Int) : (itselfB.toList.any fun x => decide ((x.toNat : Int) = c)) = [32, 95, 33, 34, 35, 37, 38, 39, 44, 45, 47, 58, 59, 60, 61, 62, 64, 126, 96].contains c := by
  rw [itself_list, any_map]
  rfl
theorem signsB_any (c : Int) : (signsB.toList.any fun x => decide ((x.toNat : Int) = c)) = signR c := by
  unfold signR
  rw [signsB_list, any_map]
  rfl
theorem low_conv (c : Int) (h0 : 0 ≤ c) (h1 : c ≤ 127) : Utf8.encode c = textB [UInt8.ofNat c.toNat] := by
  have hr : IsRune c := by unfold IsRune; omega
  have hl := encode_list c hr
  obtain ⟨d, hd, hc⟩ : ∃ d : UInt8, Lib.encodeRune c = [d] ∧ (d.toNat : Int) = c := by
    unfold Lib.encodeRune
    rw [Lib.encodeRuneZ_one h0 h1]
    exact ⟨_, rfl, by rw [byte_of c h0 (by omega)]; omega⟩
  rw [← textB_of (Utf8.encode c), hl, hd, show c.toNat = d.toNat by omega]
  simp
set_option maxHeartbeats 1600000 in
set_option maxRecDepth 100000 in
theorem ofRune_any (c : Int) (w : World) (h0 : 0 ≤ c) (h1 : c ≤ 1114111) : Calls Tryd.prog 16 #[.int .i32 c] w fun e w' => e = .returned (.string (textB (oneZ c))) ∧ Below w.heap.size w w' := by
  have HL := Lib.hid fun W => letter_any c W
  have HD := Lib.hid fun W => digitc_any c W
  have HI := Lib.hid fun W => has_any itselfB c W itself_low h0 h1
  have HS := Lib.hid fun W => has_any signsB c W signs_low h0 h1
  obtain ⟨n, hn⟩ : ∃ n : Nat, c = n := ⟨c.toNat, by omega⟩
  have HN := Lib.hid fun W => numbered_any n W (by omega)
  rw [← hn] at HN
  unfold itselfB at HI
  unfold signsB at HS
  obtain ⟨bL, hL⟩ : ∃ b, ((decide (65 ≤ c) && decide (c ≤ 90)) || (decide (97 ≤ c) && decide (c ≤ 122))) = b := ⟨_, rfl⟩
  obtain ⟨bD, hD⟩ : ∃ b, (decide (48 ≤ c) && decide (c ≤ 57)) = b := ⟨_, rfl⟩
  obtain ⟨bI, hI⟩ : ∃ b, [32, 95, 33, 34, 35, 37, 38, 39, 44, 45, 47, 58, 59, 60, 61, 62, 64, 126, 96].contains c = b := ⟨_, rfl⟩
  obtain ⟨bS, hS⟩ : ∃ b, signR c = b := ⟨_, rfl⟩
  have hself : selfI c = (bL || bD || bI) := by
    unfold selfI
    rw [← hL, ← hD, ← hI]
    generalize [32, 95, 33, 34, 35, 37, 38, 39, 44, 45, 47, 58, 59, 60, 61, 62, 64, 126, 96].contains c = x
    generalize (decide (48 ≤ c) && decide (c ≤ 57)) = y
    generalize (decide (65 ≤ c) && decide (c ≤ 90)) = z
    generalize (decide (97 ≤ c) && decide (c ≤ 122)) = u
    cases x <;> cases y <;> cases z <;> cases u <;> rfl
  have eI := itself_any c; have eS := signsB_any c
  unfold itselfB at eI
  unfold signsB at eS
  rw [hL] at HL
  rw [hD] at HD
  rw [eI, hI] at HI
  rw [eS, hS] at HS
  have hP : oneZ c = if (bL || bD || bI) = true then [UInt8.ofNat c.toNat] else if bS = true then [92, UInt8.ofNat c.toNat] else 92 :: 120 :: 123 :: (hexL n ++ [125]) := by
    unfold oneZ codeP
    rw [hself, hS, hn]
    rfl
  have hlow : (bL || bD || bI) = true ∨ bS = true → Utf8.encode c = textB [UInt8.ofNat c.toNat] := fun h => by
    refine low_conv c h0 ?_
    rcases h with h | h
    · rw [← hself] at h
      unfold selfI at h
      simp only [Bool.or_eq_true, Bool.and_eq_true, decide_eq_true_eq, List.contains_cons, List.contains_nil, Bool.or_false, beq_iff_eq] at h
      omega
    · rw [← hS] at h
      unfold signR at h
      simp only [List.contains_cons, List.contains_nil, Bool.or_false, Bool.or_eq_true, beq_iff_eq] at h
      omega
  have hcv : ∀ E, Utf8.encode c = E → ∀ W, (convert 21 9 (.int .i32 c)).run Tryd.prog W = .ok (.string E) W := fun E hE W => by
    rw [← hE]
    exact run_convert_int_string W _ _ .i32 c (by rw [Tryd.underlying21]; rfl) Tryd.underlying9
  obtain ⟨O, hO⟩ : ∃ O, oneZ c = O := ⟨_, rfl⟩
  rw [hO] at hP ⊢
  obtain ⟨E, hE⟩ : ∃ E, Utf8.encode c = E := ⟨_, rfl⟩
  replace hcv := hcv E hE
  rw [hE] at hlow
  have HLOW := Lib.hid hlow; have HP := Lib.hid hP
  clear hlow hP hself eI eS hL hD hI hS hn hE hO
  have jE : ∀ (b : UInt8) (w1 : World), Below w.heap.size w w1 → E = textB [b] → Calls Tryd.prog 19 #[.slice (some ⟨w1.heap.size, 0, none⟩) 2 2] (w1.alloc (.cells #[.string ⟨#[92]⟩, .string E] 9)) fun e w' => e = .returned (.string (textB [92, b])) ∧ Below w.heap.size w w' := fun b w1 hw he => by
    refine (joined_new [⟨#[92]⟩, E] w1 2 _ rfl rfl 9 (by decide) ?_).mono fun e w' ⟨h1, h2⟩ => ⟨?_, hw.trans (h2.mono hw.size)⟩
    · rw [he]
      simp [flatB, textB_list, show (⟨#[92]⟩ : ByteArray).toList = [92] by kernel_rfl]
    · rw [h1, he]
      simp [flatB, textB_list, show (⟨#[92]⟩ : ByteArray).toList = [92] by kernel_rfl]
  have JE := Lib.hid jE
  clear jE
  go_enter Tryd.func16, Tryd.ntmps16
  go_wp2_with fail
  refine (HL.out _).mono ?_
  rintro e w1 ⟨rfl, rfl⟩
  cases bL with
  | true =>
    go_wp2_with fail
    go_ret
    exact ⟨by rw [HP.out, HLOW.out (.inl rfl)]; rfl, Below.refl _ _⟩
  | false =>
    go_wp2_with fail
    refine (HD.out _).mono ?_
    rintro e w2 ⟨rfl, rfl⟩
    cases bD with
    | true =>
      go_wp2_with fail
      go_ret
      exact ⟨by rw [HP.out, HLOW.out (.inl rfl)]; rfl, Below.refl _ _⟩
    | false =>
      go_wp2_with fail
      refine (HI.out _).mono ?_
      rintro e w3 ⟨rfl, hb3⟩
      have HB3 := Lib.hid hb3
      clear hb3
      cases bI with
      | true =>
        go_wp2_with fail
        go_ret
        exact ⟨by rw [HP.out, HLOW.out (.inl rfl)]; rfl, HB3.out⟩
      | false =>
        go_wp2_with fail
        refine (HS.out _).mono ?_
        rintro e w4 ⟨rfl, hb4⟩
        have HB4 := Lib.hid (HB3.out.trans (hb4.mono HB3.out.size))
        clear hb4
        cases bS with
        | true =>
          have HJ := Lib.hid (JE.out _ w4 HB4.out (HLOW.out (.inr rfl)))
          go_wp2_with fail
          refine HJ.out.mono ?_
          rintro e w5 ⟨rfl, hb5⟩
          have HB5 := Lib.hid hb5
          clear hb5
          go_wp2_with fail
          go_ret
          exact ⟨by rw [HP.out]; rfl, HB5.out⟩
        | false =>
          go_wp2_with fail
          refine (HN.out _).mono ?_
          rintro e w5 ⟨rfl, hb5⟩
          have HB5 := Lib.hid (HB4.out.trans (hb5.mono HB4.out.size))
          clear hb5
          go_wp2_with fail
          go_ret
          exact ⟨by rw [HP.out]; rfl, HB5.out⟩
end Go.Proofs.YthnddabcmhplkaaDoor
