/- A counted repeat, a named group's beginning, written out, are read as they are. From the program's contracts pcount_any, pgroup_any. -/
import Derived.Test.YtofhckheeijoiaaGreatDoorSTold0
set_option linter.unusedVariables false
namespace Go.Proofs.YtofhckheeijoiaaGreatDoor
open Go Go.RowKit

def okB (c : UInt8) : Bool := letterB c || digitB c
/-- Not begun by a digit, and of a name's length. -/
def firstB (l : List UInt8) : Bool := decide (1 ≤ l.length) && decide (l.length ≤ 32) && !((l.headD 0).toNat ≥ 48 && (l.headD 0).toNat ≤ 57)
theorem named_tail : ∀ (l : List UInt8) (i : Nat), 0 < i → namedFrom i l = l.all okB
  | [], _, _ => rfl
  | c :: t, i, h => by
    rw [namedFrom, named_tail t (i + 1) (by omega), List.all_cons]
    simp only [okB, show decide (0 < i) = true from decide_eq_true h, Bool.true_and]
theorem plain_eq (l : List UInt8) : (firstB l && l.all okB) = nameB l := by
  unfold firstB nameB
  cases l with
  | nil => rfl
  | cons c t =>
    rw [namedFrom, named_tail t (0 + 1) (by omega), List.all_cons, List.headD_cons]
    have hd : digitB c = (decide (48 ≤ c.toNat) && decide (c.toNat ≤ 57)) := rfl
    have hdis : letterB c = true → digitB c = false := fun h => by
      have h1 := (letter_iff c).1 h
      cases hc : digitB c with
      | false => rfl
      | true => have h2 := (digit_iff c).1 hc; omega
    rw [show (decide ((c.toNat) ≥ 48) && decide (c.toNat ≤ 57)) = digitB c from rfl]
    cases hl : letterB c with
    | true => simp [okB, hl, hdis hl]
    | false => cases hdg : digitB c <;> simp [okB, hl, hdg]

theorem itoa_any (n : Nat) (hn : n ≤ 1000) (W : World) (hP : Lib.TabIs Tryz.prog W "internal/strconv.uint64pow10" .u64 Lib.pow10Tab) :
    Calls Tryz.prog 5 #[.int .i64 n] W fun e w' => ∃ b, e = .returned (.string b) ∧ b.toList = Lib.decDigits n ∧ Below W.heap.size W w' := by
  refine (Tryz.strconv_Itoa n (by omega) (by omega) W hP).mono ?_
  rintro e w' ⟨rfl, k, os, rfl⟩
  exact ⟨_, rfl, by rw [Lib.toList_data, itoa_dec], Lib.below_grow _ _ (Nat.le_refl _) _ _⟩

set_option maxHeartbeats 6400000 in
set_option maxRecDepth 100000 in
theorem stold_any (w : World) (least more : Int) (op : Bool) (nm bh : ByteArray) (l0 : 0 ≤ least) (l1 : least ≤ 65535) (m0 : 0 ≤ more) (m1 : more ≤ 65535) (hn : nm.size ≤ 140737488355328) (hb : bh.size ≤ 140737488355328)
    (hT : Lib.Utf8Tabs 1 2 w) (hP : Lib.TabIs Tryz.prog w "internal/strconv.uint64pow10" .u64 Lib.pow10Tab) :
    Calls Tryz.prog 3 #[.int .u16 least, .int .u16 more, .bool op, .string nm, .string bh] w fun e w' => e = .returned (.bool true) ∧ Below w.heap.size w w' := by
  obtain ⟨A, hA, hA1⟩ : ∃ A : Nat, Int.tmod least 1001 = (A : Int) ∧ A ≤ 1000 := ⟨(Int.tmod least 1001).toNat, by rw [Int.tmod_eq_emod_of_nonneg l0]; omega, by rw [Int.tmod_eq_emod_of_nonneg l0]; omega⟩
  obtain ⟨M, hM, hM1⟩ : ∃ M : Nat, Int.tmod more (1001 - (A : Int)) = (M : Int) ∧ A + M ≤ 1000 := ⟨(Int.tmod more (1001 - (A : Int))).toNat, by
    rw [Int.tmod_eq_emod_of_nonneg m0]
    have := Int.emod_nonneg more (show (1001 - (A : Int)) ≠ 0 by omega)
    omega, by
    rw [Int.tmod_eq_emod_of_nonneg m0]
    have h1 := Int.emod_nonneg more (show (1001 - (A : Int)) ≠ 0 by omega)
    have h2 := Int.emod_lt_of_pos more (show 0 < (1001 - (A : Int)) by omega)
    omega⟩
  have HT := Lib.hid hT; have HP := Lib.hid hP
  have HH := Lib.hid (shead_any w hT)
  obtain ⟨B, hB⟩ : ∃ B : Nat, A + M = B := ⟨_, rfl⟩
  have hB1 : B ≤ 1000 := by omega
  have w1 : IntKind.i64.wrap (1001 - (A : Int)) = 1001 - (A : Int) := wrap_in _ (by omega)
  have w2 : IntKind.i64.wrap ((A : Int) + (M : Int)) = (B : Int) := by rw [← hB]; exact (wrap_in _ (by omega)).trans (by omega)
  have w3 : IntKind.i64.wrap least = least := wrap_in _ (by omega)
  have w4 : IntKind.i64.wrap more = more := wrap_in _ (by omega)
  have n0 : ¬ (1001 - (A : Int)) = 0 := by omega
  clear hT hP hM1 l0 l1 m0 m1 hB
  cases op
  ·
    as_aux_lemma =>
      go_enter Tryz.func3, Tryz.ntmps3
      go_wp2_with fail
      refine HH.out.mono ?_
      rintro e x1 ⟨rfl, hb1⟩
      have HB1 := Lib.hid hb1
      clear hb1 HH
      go_wp2_with fail
      refine (itoa_any A (by omega) _ (tab10_below HP.out HB1.out)).mono ?_
      rintro e x2 ⟨b1, rfl, hb1, hb⟩
      have HB2 := Lib.hid (HB1.out.trans (hb.mono HB1.out.size)); have HbA := Lib.hid hb1
      have zb1 : b1.size ≤ 1001 := by have := dec_len A; rw [size_list, hb1]; omega
      clear hb hb1
      go_wp2_with fail
      refine (itoa_any B (by omega) _ (tab10_below HP.out HB2.out)).mono ?_
      rintro e x3 ⟨b2, rfl, hb2, hb⟩
      have HB3 := Lib.hid (HB2.out.trans (hb.mono HB2.out.size)); have HbB := Lib.hid hb2
      have zb2 : b2.size ≤ 1001 := by have := dec_len B; rw [size_list, hb2]; omega
      clear hb hb2
      go_wp2_with fail
      obtain ⟨T, hT⟩ : ∃ T : ByteArray, (⟨#[123]⟩ ++ b1 ++ ⟨#[44]⟩ ++ b2 ++ ⟨#[125]⟩ : ByteArray) = T := ⟨_, rfl⟩
      have hl : (T ++ bh).toList = 123 :: (Lib.decDigits A ++ 44 :: (Lib.decDigits B ++ 125 :: bh.toList)) := by
        rw [← hT]
        simp only [append_list, HbA.out, HbB.out, show (⟨#[123]⟩ : ByteArray).toList = [123] by kernel_rfl, show (⟨#[44]⟩ : ByteArray).toList = [44] by kernel_rfl, show (⟨#[125]⟩ : ByteArray).toList = [125] by kernel_rfl, List.append_assoc, List.cons_append, List.nil_append]
      have hTz : T.size = 1 + (Lib.decDigits A).length + 1 + (Lib.decDigits B).length + 1 := by
        rw [size_list, ← hT]
        simp only [append_list, HbA.out, HbB.out, show (⟨#[123]⟩ : ByteArray).toList = [123] by kernel_rfl, show (⟨#[44]⟩ : ByteArray).toList = [44] by kernel_rfl, show (⟨#[125]⟩ : ByteArray).toList = [125] by kernel_rfl, List.length_append, List.length_singleton]
      have hcn := count_two hA1 hB1 hl
      have hl4 : T.size ≤ 10000 := by have := dec_len A; have := dec_len B; omega
      rw [← hTz] at hcn
      have HC := Lib.hid (pcount_any (T ++ bh) 0 x3 (by rw [ByteArray.size_append]; omega) (Nat.zero_le _))
      rw [hcn] at HC
      have HTT := Lib.hid hT
      clear hl hTz hcn hT
      rw [HTT.out]
      refine HC.out.mono ?_
      rintro e x5 ⟨hb5, ⟨h, _⟩ | ⟨a', b', k', h, rfl⟩⟩
      · cases h
      cases h
      have HB5 := Lib.hid (HB3.out.trans (hb5.mono HB3.out.size))
      clear hb5 HC HTT
      obtain ⟨F, hF⟩ : ∃ F, firstB nm.toList = F := ⟨_, rfl⟩
      have HF := Lib.hid hF
      have hnl : nm.toList.length = nm.size := (size_list nm).symm
      have HNL := Lib.hid hnl
      clear hF hnl
      go_upto_region 11 with (fail)
      go_cut [19] (fun c wx => c = .bool F ∧ wx = x5)
      case first =>
        by_cases q0 : 0 < nm.size
        · by_cases q1 : nm.size ≤ 32
          · have hx0 : (nm.toList.headD 0) = nm[0] := by
              have := left_cons nm 0 q0
              unfold leftB at this
              rw [List.drop_zero] at this
              rw [this]
              rfl
            obtain ⟨x, hx⟩ : ∃ x : Nat, nm[0].toNat = x := ⟨_, rfl⟩
            have hFx : F = !(decide (x ≥ 48) && decide (x ≤ 57)) := by
              rw [← HF.out]
              unfold firstB
              rw [HNL.out, hx0, hx, decide_eq_true q1, decide_eq_true (show 1 ≤ nm.size from q0)]
              rfl
            have HFX := Lib.hid hFx
            clear hFx hx0
            by_cases h48 : 48 ≤ x
            · by_cases h57 : x ≤ 57
              · have f57 : decide ((x : Int) ≤ 57) = true := decide_eq_true (by omega)
                go_wp2
                go_meet
                exact ⟨by rw [HFX.out, decide_eq_true h48, decide_eq_true h57]; rfl, rfl⟩
              · have f57 : decide ((x : Int) ≤ 57) = false := decide_eq_false (by omega)
                go_wp2
                go_meet
                exact ⟨by rw [HFX.out, decide_eq_true h48, decide_eq_false h57]; rfl, rfl⟩
            · go_wp2
              go_meet
              exact ⟨by rw [HFX.out, decide_eq_false h48]; rfl, rfl⟩
          · have HFX := Lib.hid (show F = false by rw [← HF.out]; unfold firstB; rw [HNL.out, decide_eq_false q1, Bool.and_false]; rfl)
            go_wp2
            go_meet
            exact ⟨by rw [HFX.out], rfl⟩
        · have HFX := Lib.hid (show F = false by rw [← HF.out]; unfold firstB; rw [HNL.out, decide_eq_false (show ¬ 1 ≤ nm.size from q0)]; rfl)
          go_wp2
          go_meet
          exact ⟨by rw [HFX.out], rfl⟩
      case rest =>
      obtain ⟨rfl, rfl⟩ := hcut
      as_aux_lemma =>
        go_wp2_with fail
        go_loopw [19, 20] (fun c vi wr => ∃ (k : Nat), k ≤ nm.size ∧ vi = .int .i64 k ∧ c = .bool (F && (nm.toList.take k).all okB) ∧ (∀ c ∈ nm.toList.take k, c.toNat ≠ 62) ∧ wr = wc) (fun _ vi _ => nm.size - (intOf vi).toNat)
        case atStart => exact ⟨0, Nat.zero_le _, rfl, by simp, by simp, rfl⟩
        case round =>
          obtain ⟨k, hk, rfl, rfl, hno, rfl⟩ := hrel
          have HNO := Lib.hid hno
          obtain ⟨P, hP⟩ : ∃ P, (F && (nm.toList.take k).all okB) = P := ⟨_, rfl⟩
          rw [hP]
          have HPP := Lib.hid hP
          clear hno hP
          by_cases hlt : k < nm.size
          · have hsn : nm.toList.take (k + 1) = nm.toList.take k ++ [nm[k]] := by rw [ByteArray.toList_eq, List.take_succ_eq_append_getElem (by simpa using hlt)]; rfl
            have HSN := Lib.hid hsn
            obtain ⟨C, hC⟩ : ∃ C, nm[k] = C := ⟨_, rfl⟩
            have HCC := Lib.hid hC
            obtain ⟨x, hx⟩ : ∃ x : Nat, nm[k].toNat = x := ⟨_, rfl⟩
            have hx2 : C.toNat = x := by rw [← hC]; exact hx
            have HXX := Lib.hid hx2
            have hx255 : x < 256 := by rw [← hx]; exact UInt8.toNat_lt _
            clear hsn hC hx2
            by_cases h62 : x = 62
            · have b0 : ((x : Int) == 62) = true := eq_true_of (by omega)
              go_wp2_with fail
              go_ret
              exact ⟨rfl, HB5.out⟩
            have b0 : ((x : Int) == 62) = false := eq_false_of (by omega)
            obtain ⟨Q, hQ⟩ : ∃ Q, (P && okB C) = Q := ⟨_, rfl⟩
            have HQ := Lib.hid hQ
            clear hQ
            have hw9 : IntKind.i64.wrap ((k : Int) + 1) = (k : Int) + 1 := wrap_in _ (by omega)
            have HQ2 := Lib.hid (show (F && (nm.toList.take (k + 1)).all okB) = Q by rw [HSN.out, List.all_append, ← Bool.and_assoc, HPP.out, ← HQ.out, HCC.out]; simp)
            have HN1 := Lib.hid (show ∀ c ∈ nm.toList.take (k + 1), c.toNat ≠ 62 from fun c hc => by
              rw [HSN.out] at hc
              exact (List.mem_append.1 hc).elim (HNO.out c) (fun hc => by rw [List.mem_singleton.1 hc, HCC.out, HXX.out]; exact h62))
            cases P
            · have HA := Lib.hid (show Q = false by rw [← HQ.out]; rfl)
              go_wp2
              exact ⟨⟨k + 1, hlt, rfl, by rw [HQ2.out, HA.out], HN1.out, trivial⟩, by simp only [intOf]; omega⟩
            · have hok : ∀ b : Bool, (b = true ↔ ((97 ≤ x ∧ x ≤ 122) ∨ (65 ≤ x ∧ x ≤ 90) ∨ x = 95) ∨ (48 ≤ x ∧ x ≤ 57)) → Q = b := fun b h => by
                rw [← HQ.out, Bool.true_and]
                have h1 := letter_iff C
                have h2 := digit_iff C
                rw [HXX.out] at h1 h2
                have h3 : okB C = true ↔ b = true := by rw [h, okB, Bool.or_eq_true, h1, h2]
                cases b <;> cases ho : okB C <;> simp_all
              have HOK := Lib.hid hok
              clear hok
              have hcase : (97 ≤ x ∧ x ≤ 122) ∨ (122 < x) ∨ (65 ≤ x ∧ x ≤ 90) ∨ (x = 95) ∨ (90 < x ∧ x < 97 ∧ x ≠ 95) ∨ (57 < x ∧ x < 65) ∨ (48 ≤ x ∧ x ≤ 57) ∨ (x < 48) := by omega
              rcases hcase with hc | hc | hc | hc | hc | hc | hc | hc
              · have f97 : 97 ≤ x := by omega
                have f65 : 65 ≤ x := by omega
                have f48 : 48 ≤ x := by omega
                have f122 : decide ((x : Int) ≤ 122) = true := decide_eq_true (by omega)
                have f90 : decide ((x : Int) ≤ 90) = false := decide_eq_false (by omega)
                have f57 : decide ((x : Int) ≤ 57) = false := decide_eq_false (by omega)
                have f95 : ((x : Int) == 95) = false := eq_false_of (by omega)
                have HA := Lib.hid (HOK.out true (by simp only [true_iff]; omega))
                clear hc HOK
                as_aux_lemma =>
                  go_wp2
                  all_goals exact ⟨⟨k + 1, hlt, rfl, by rw [HQ2.out, HA.out], HN1.out, trivial⟩, by simp only [intOf]; omega⟩
              · have f97 : 97 ≤ x := by omega
                have f65 : 65 ≤ x := by omega
                have f48 : 48 ≤ x := by omega
                have f122 : decide ((x : Int) ≤ 122) = false := decide_eq_false (by omega)
                have f90 : decide ((x : Int) ≤ 90) = false := decide_eq_false (by omega)
                have f57 : decide ((x : Int) ≤ 57) = false := decide_eq_false (by omega)
                have f95 : ((x : Int) == 95) = false := eq_false_of (by omega)
                have HA := Lib.hid (HOK.out false (by simp only [Bool.false_eq_true, false_iff]; omega))
                clear hc HOK
                as_aux_lemma =>
                  go_wp2
                  all_goals exact ⟨⟨k + 1, hlt, rfl, by rw [HQ2.out, HA.out], HN1.out, trivial⟩, by simp only [intOf]; omega⟩
              · have f97 : ¬ 97 ≤ x := by omega
                have f65 : 65 ≤ x := by omega
                have f48 : 48 ≤ x := by omega
                have f122 : decide ((x : Int) ≤ 122) = true := decide_eq_true (by omega)
                have f90 : decide ((x : Int) ≤ 90) = true := decide_eq_true (by omega)
                have f57 : decide ((x : Int) ≤ 57) = false := decide_eq_false (by omega)
                have f95 : ((x : Int) == 95) = false := eq_false_of (by omega)
                have HA := Lib.hid (HOK.out true (by simp only [true_iff]; omega))
                clear hc HOK
                as_aux_lemma =>
                  go_wp2
                  all_goals exact ⟨⟨k + 1, hlt, rfl, by rw [HQ2.out, HA.out], HN1.out, trivial⟩, by simp only [intOf]; omega⟩
              · have f97 : ¬ 97 ≤ x := by omega
                have f65 : 65 ≤ x := by omega
                have f48 : 48 ≤ x := by omega
                have f122 : decide ((x : Int) ≤ 122) = true := decide_eq_true (by omega)
                have f90 : decide ((x : Int) ≤ 90) = false := decide_eq_false (by omega)
                have f57 : decide ((x : Int) ≤ 57) = false := decide_eq_false (by omega)
                have f95 : ((x : Int) == 95) = true := eq_true_of (by omega)
                have HA := Lib.hid (HOK.out true (by simp only [true_iff]; omega))
                clear hc HOK
                as_aux_lemma =>
                  go_wp2
                  all_goals exact ⟨⟨k + 1, hlt, rfl, by rw [HQ2.out, HA.out], HN1.out, trivial⟩, by simp only [intOf]; omega⟩
              · have f97 : ¬ 97 ≤ x := by omega
                have f65 : 65 ≤ x := by omega
                have f48 : 48 ≤ x := by omega
                have f122 : decide ((x : Int) ≤ 122) = true := decide_eq_true (by omega)
                have f90 : decide ((x : Int) ≤ 90) = false := decide_eq_false (by omega)
                have f57 : decide ((x : Int) ≤ 57) = false := decide_eq_false (by omega)
                have f95 : ((x : Int) == 95) = false := eq_false_of (by omega)
                have HA := Lib.hid (HOK.out false (by simp only [Bool.false_eq_true, false_iff]; omega))
                clear hc HOK
                as_aux_lemma =>
                  go_wp2
                  all_goals exact ⟨⟨k + 1, hlt, rfl, by rw [HQ2.out, HA.out], HN1.out, trivial⟩, by simp only [intOf]; omega⟩
              · have f97 : ¬ 97 ≤ x := by omega
                have f65 : ¬ 65 ≤ x := by omega
                have f48 : 48 ≤ x := by omega
                have f122 : decide ((x : Int) ≤ 122) = true := decide_eq_true (by omega)
                have f90 : decide ((x : Int) ≤ 90) = true := decide_eq_true (by omega)
                have f57 : decide ((x : Int) ≤ 57) = false := decide_eq_false (by omega)
                have f95 : ((x : Int) == 95) = false := eq_false_of (by omega)
                have HA := Lib.hid (HOK.out false (by simp only [Bool.false_eq_true, false_iff]; omega))
                clear hc HOK
                as_aux_lemma =>
                  go_wp2
                  all_goals exact ⟨⟨k + 1, hlt, rfl, by rw [HQ2.out, HA.out], HN1.out, trivial⟩, by simp only [intOf]; omega⟩
              · have f97 : ¬ 97 ≤ x := by omega
                have f65 : ¬ 65 ≤ x := by omega
                have f48 : 48 ≤ x := by omega
                have f122 : decide ((x : Int) ≤ 122) = true := decide_eq_true (by omega)
                have f90 : decide ((x : Int) ≤ 90) = true := decide_eq_true (by omega)
                have f57 : decide ((x : Int) ≤ 57) = true := decide_eq_true (by omega)
                have f95 : ((x : Int) == 95) = false := eq_false_of (by omega)
                have HA := Lib.hid (HOK.out true (by simp only [true_iff]; omega))
                clear hc HOK
                as_aux_lemma =>
                  go_wp2
                  all_goals exact ⟨⟨k + 1, hlt, rfl, by rw [HQ2.out, HA.out], HN1.out, trivial⟩, by simp only [intOf]; omega⟩
              · have f97 : ¬ 97 ≤ x := by omega
                have f65 : ¬ 65 ≤ x := by omega
                have f48 : ¬ 48 ≤ x := by omega
                have f122 : decide ((x : Int) ≤ 122) = true := decide_eq_true (by omega)
                have f90 : decide ((x : Int) ≤ 90) = true := decide_eq_true (by omega)
                have f57 : decide ((x : Int) ≤ 57) = true := decide_eq_true (by omega)
                have f95 : ((x : Int) == 95) = false := eq_false_of (by omega)
                have HA := Lib.hid (HOK.out false (by simp only [Bool.false_eq_true, false_iff]; omega))
                clear hc HOK
                as_aux_lemma =>
                  go_wp2
                  all_goals exact ⟨⟨k + 1, hlt, rfl, by rw [HQ2.out, HA.out], HN1.out, trivial⟩, by simp only [intOf]; omega⟩
          · have hkz : nm.toList.take k = nm.toList := List.take_of_length_le (by rw [HNL.out]; omega)
            have HPN := Lib.hid (show nameB nm.toList = P by rw [← HPP.out, hkz, ← HF.out, plain_eq])
            have HNO2 := Lib.hid (show ∀ c ∈ nm.toList, c.toNat ≠ 62 by have := HNO.out; rw [hkz] at this; exact this)
            clear hkz HPP HNO
            go_wp2_with fail
            as_aux_lemma =>
              have hS0 : (⟨#[40, 63, 80, 60]⟩ ++ nm ++ ⟨#[62]⟩ ++ bh : ByteArray).toList = [40, 63, 80, 60] ++ (nm.toList ++ 62 :: bh.toList) := by
                simp only [append_list, show (⟨#[40, 63, 80, 60]⟩ : ByteArray).toList = [40, 63, 80, 60] by kernel_rfl, show (⟨#[62]⟩ : ByteArray).toList = [62] by kernel_rfl, List.append_assoc, List.cons_append, List.nil_append]
              have hz0 : (⟨#[40, 63, 80, 60]⟩ ++ nm ++ ⟨#[62]⟩ ++ bh : ByteArray).size ≤ 4503599627370496 := by
                rw [size_list, hS0]
                simp only [List.length_append, List.length_cons, List.length_nil, HNL.out, show bh.toList.length = bh.size from (size_list bh).symm]
                omega
              have hq0 := name_told (.inl rfl) HNO2.out hS0
              rw [HPN.out] at hq0
              obtain ⟨S0, hT0⟩ : ∃ S, (⟨#[40, 63, 80, 60]⟩ ++ nm ++ ⟨#[62]⟩ ++ bh : ByteArray) = S := ⟨_, rfl⟩
              rw [hT0] at hz0 hq0
              have HS0 := Lib.hid hT0; have HQ0 := Lib.hid hq0
              clear hS0 hT0 hq0
              have hS1 : (⟨#[40, 63, 60]⟩ ++ nm ++ ⟨#[62]⟩ ++ bh : ByteArray).toList = [40, 63, 60] ++ (nm.toList ++ 62 :: bh.toList) := by
                simp only [append_list, show (⟨#[40, 63, 60]⟩ : ByteArray).toList = [40, 63, 60] by kernel_rfl, show (⟨#[62]⟩ : ByteArray).toList = [62] by kernel_rfl, List.append_assoc, List.cons_append, List.nil_append]
              have hz1 : (⟨#[40, 63, 60]⟩ ++ nm ++ ⟨#[62]⟩ ++ bh : ByteArray).size ≤ 4503599627370496 := by
                rw [size_list, hS1]
                simp only [List.length_append, List.length_cons, List.length_nil, HNL.out, show bh.toList.length = bh.size from (size_list bh).symm]
                omega
              have hq1 := name_told (.inr rfl) HNO2.out hS1
              rw [HPN.out] at hq1
              obtain ⟨S1, hT1⟩ : ∃ S, (⟨#[40, 63, 60]⟩ ++ nm ++ ⟨#[62]⟩ ++ bh : ByteArray) = S := ⟨_, rfl⟩
              rw [hT1] at hz1 hq1
              have HS1 := Lib.hid hT1; have HQ1 := Lib.hid hq1
              clear hS1 hT1 hq1
              rw [HS0.out]
              cases P
              · have HM0 := Lib.hid (show nameS S0 0 = none from HQ0.out); have HM1 := Lib.hid (show nameS S1 0 = none from HQ1.out)
                clear HQ0 HQ1
                refine (pgroup_any S0 0 _ hz0 (Nat.zero_le _)).mono ?_
                rintro e x6 ⟨hb6, ⟨h, rfl⟩ | ⟨n', k', b', h, hbb, rfl⟩⟩
                rotate_left
                · rw [HM0.out] at h
                  cases h
                obtain ⟨Y0, hY⟩ : ∃ Y, min ((endS S0 0 : Int) + 1) (S0.size : Int) = Y := ⟨_, rfl⟩
                rw [hY]
                clear h hY
                unfold wrongV
                have HB6 := Lib.hid (HB5.out.trans (hb6.mono HB5.out.size))
                clear hb6
                go_wp2_with fail
                rw [HS1.out]
                refine (pgroup_any S1 0 _ hz1 (Nat.zero_le _)).mono ?_
                rintro e x7 ⟨hb6, ⟨h, rfl⟩ | ⟨n', k', b', h, hbb, rfl⟩⟩
                rotate_left
                · rw [HM1.out] at h
                  cases h
                obtain ⟨Y1, hY⟩ : ∃ Y, min ((endS S1 0 : Int) + 1) (S1.size : Int) = Y := ⟨_, rfl⟩
                rw [hY]
                clear h hY
                unfold wrongV
                have hE : Whole x7 x6.heap.size 29 #[.int .i64 64, .int .i64 0, .int .i64 Y0] := Whole.below (heap_alloc_new x6 _) hb6 (by simp)
                have hb0 := (HB6.out.alloc HB6.out.size (.cells #[.int .i64 64, .int .i64 0, .int .i64 Y0] 29)).trans (hb6.mono (by simp; have := HB6.out.size; omega))
                obtain ⟨x8, hx8⟩ : ∃ x8, x7.alloc (.cells #[.int .i64 64, .int .i64 0, .int .i64 Y1] 29) = x8 := ⟨_, rfl⟩
                have HB8 := Lib.hid (show Below w.heap.size w x8 by rw [← hx8]; exact hb0.alloc hb0.size _)
                have hE8 : Whole x8 x6.heap.size 29 #[.int .i64 64, .int .i64 0, .int .i64 Y0] := by rw [← hx8]; exact hE.alloc _
                have hF8 : Whole x8 x7.heap.size 29 #[.int .i64 64, .int .i64 0, .int .i64 Y1] := by rw [← hx8]; exact heap_alloc_new x7 _
                have HW8 := Lib.hid hx8
                obtain ⟨e0, e1, e2, -, -, -⟩ := hE8.three
                obtain ⟨f0, f1, f2, -, -, -⟩ := hF8.three
                clear hb6 hE hb0 hx8 hE8 hF8
                go_upto_region 21 with (fail)
                rw [HW8.out]
                go_wp2_with fail
                go_ret
                exact ⟨rfl, HB8.out⟩
              · have HM0 := Lib.hid (show nameS S0 0 = some (nm.toList, 4 + nm.toList.length + 1) from HQ0.out); have HM1 := Lib.hid (show nameS S1 0 = some (nm.toList, 3 + nm.toList.length + 1) from HQ1.out)
                clear HQ0 HQ1
                refine (pgroup_any S0 0 _ hz0 (Nat.zero_le _)).mono ?_
                rintro e x6 ⟨hb6, ⟨h, rfl⟩ | ⟨n', k', b', h, hbb, rfl⟩⟩
                · rw [HM0.out] at h
                  cases h
                rw [HM0.out] at h
                cases h
                have hbn : b' = nm := bytes_eq hbb
                rw [hbn]
                clear hbn hbb b'
                unfold wrongV
                have HB6 := Lib.hid (HB5.out.trans (hb6.mono HB5.out.size))
                clear hb6
                go_wp2_with fail
                rw [HS1.out]
                refine (pgroup_any S1 0 _ hz1 (Nat.zero_le _)).mono ?_
                rintro e x7 ⟨hb6, ⟨h, rfl⟩ | ⟨n', k', b', h, hbb, rfl⟩⟩
                · rw [HM1.out] at h
                  cases h
                rw [HM1.out] at h
                cases h
                have hbn : b' = nm := bytes_eq hbb
                rw [hbn]
                clear hbn hbb b'
                unfold wrongV
                have hE : Whole x7 x6.heap.size 29 #[.int .i64 0, .int .i64 0, .int .i64 0] := Whole.below (heap_alloc_new x6 _) hb6 (by simp)
                have hb0 := (HB6.out.alloc HB6.out.size (.cells #[.int .i64 0, .int .i64 0, .int .i64 0] 29)).trans (hb6.mono (by simp; have := HB6.out.size; omega))
                obtain ⟨x8, hx8⟩ : ∃ x8, x7.alloc (.cells #[.int .i64 0, .int .i64 0, .int .i64 0] 29) = x8 := ⟨_, rfl⟩
                have HB8 := Lib.hid (show Below w.heap.size w x8 by rw [← hx8]; exact hb0.alloc hb0.size _)
                have hE8 : Whole x8 x6.heap.size 29 #[.int .i64 0, .int .i64 0, .int .i64 0] := by rw [← hx8]; exact hE.alloc _
                have hF8 : Whole x8 x7.heap.size 29 #[.int .i64 0, .int .i64 0, .int .i64 0] := by rw [← hx8]; exact heap_alloc_new x7 _
                have HW8 := Lib.hid hx8
                obtain ⟨e0, e1, e2, -, -, -⟩ := hE8.three
                obtain ⟨f0, f1, f2, -, -, -⟩ := hF8.three
                clear hb6 hE hb0 hx8 hE8 hF8
                have hla : ((4 + nm.toList.length + 1 : Nat) : Int) = (nm.size : Int) + 5 := by rw [HNL.out]; omega
                have hlb : ((3 + nm.toList.length + 1 : Nat) : Int) = (nm.size : Int) + 4 := by rw [HNL.out]; omega
                skip
                have v5 : IntKind.i64.wrap ((nm.size : Int) + 5) = (nm.size : Int) + 5 := wrap_in _ (by omega)
                have v4 : IntKind.i64.wrap ((nm.size : Int) + 4) = (nm.size : Int) + 4 := wrap_in _ (by omega)
                go_upto_region 21 with (fail)
                rw [HW8.out]
                go_wp2_with fail
                go_ret
                exact ⟨rfl, HB8.out⟩
  ·
    as_aux_lemma =>
      go_enter Tryz.func3, Tryz.ntmps3
      go_wp2_with fail
      refine HH.out.mono ?_
      rintro e x1 ⟨rfl, hb1⟩
      have HB1 := Lib.hid hb1
      clear hb1 HH
      go_wp2_with fail
      refine (itoa_any A (by omega) _ (tab10_below HP.out HB1.out)).mono ?_
      rintro e x2 ⟨b1, rfl, hb1, hb⟩
      have HB2 := Lib.hid (HB1.out.trans (hb.mono HB1.out.size)); have HbA := Lib.hid hb1
      have zb1 : b1.size ≤ 1001 := by have := dec_len A; rw [size_list, hb1]; omega
      clear hb hb1
      go_wp2_with fail
      refine (itoa_any B (by omega) _ (tab10_below HP.out HB2.out)).mono ?_
      rintro e x3 ⟨b2, rfl, hb2, hb⟩
      have HB3 := Lib.hid (HB2.out.trans (hb.mono HB2.out.size)); have HbB := Lib.hid hb2
      have zb2 : b2.size ≤ 1001 := by have := dec_len B; rw [size_list, hb2]; omega
      clear hb hb2
      go_wp2_with fail
      refine (itoa_any A (by omega) _ (tab10_below HP.out HB3.out)).mono ?_
      rintro e x4 ⟨b3, rfl, hb3, hb⟩
      have HB4 := Lib.hid (HB3.out.trans (hb.mono HB3.out.size)); have HbA := Lib.hid hb3
      have zb3 : b3.size ≤ 1001 := by have := dec_len A; rw [size_list, hb3]; omega
      clear hb hb3
      go_wp2_with fail
      obtain ⟨T, hT⟩ : ∃ T : ByteArray, (⟨#[123]⟩ ++ b3 ++ ⟨#[44, 125]⟩ : ByteArray) = T := ⟨_, rfl⟩
      have hl : (T ++ bh).toList = 123 :: (Lib.decDigits A ++ 44 :: 125 :: bh.toList) := by
        rw [← hT]
        simp only [append_list, HbA.out, show (⟨#[123]⟩ : ByteArray).toList = [123] by kernel_rfl, show (⟨#[44, 125]⟩ : ByteArray).toList = [44, 125] by kernel_rfl, List.append_assoc, List.cons_append, List.nil_append]
      have hTz : T.size = 1 + (Lib.decDigits A).length + 2 := by
        rw [size_list, ← hT]
        simp only [append_list, HbA.out, show (⟨#[123]⟩ : ByteArray).toList = [123] by kernel_rfl, show (⟨#[44, 125]⟩ : ByteArray).toList = [44, 125] by kernel_rfl, List.length_append, List.length_cons, List.length_nil]
      have hcn := count_open hA1 hl
      have hl4 : T.size ≤ 10000 := by have := dec_len A; omega
      rw [← hTz] at hcn
      have HC := Lib.hid (pcount_any (T ++ bh) 0 x4 (by rw [ByteArray.size_append]; omega) (Nat.zero_le _))
      rw [hcn] at HC
      have HTT := Lib.hid hT
      clear hl hTz hcn hT
      rw [HTT.out]
      refine HC.out.mono ?_
      rintro e x5 ⟨hb5, ⟨h, _⟩ | ⟨a', b', k', h, rfl⟩⟩
      · cases h
      cases h
      have HB5 := Lib.hid (HB4.out.trans (hb5.mono HB4.out.size))
      clear hb5 HC HTT
      obtain ⟨F, hF⟩ : ∃ F, firstB nm.toList = F := ⟨_, rfl⟩
      have HF := Lib.hid hF
      have hnl : nm.toList.length = nm.size := (size_list nm).symm
      have HNL := Lib.hid hnl
      clear hF hnl
      go_upto_region 11 with (fail)
      go_cut [19] (fun c wx => c = .bool F ∧ wx = x5)
      case first =>
        by_cases q0 : 0 < nm.size
        · by_cases q1 : nm.size ≤ 32
          · have hx0 : (nm.toList.headD 0) = nm[0] := by
              have := left_cons nm 0 q0
              unfold leftB at this
              rw [List.drop_zero] at this
              rw [this]
              rfl
            obtain ⟨x, hx⟩ : ∃ x : Nat, nm[0].toNat = x := ⟨_, rfl⟩
            have hFx : F = !(decide (x ≥ 48) && decide (x ≤ 57)) := by
              rw [← HF.out]
              unfold firstB
              rw [HNL.out, hx0, hx, decide_eq_true q1, decide_eq_true (show 1 ≤ nm.size from q0)]
              rfl
            have HFX := Lib.hid hFx
            clear hFx hx0
            by_cases h48 : 48 ≤ x
            · by_cases h57 : x ≤ 57
              · have f57 : decide ((x : Int) ≤ 57) = true := decide_eq_true (by omega)
                go_wp2
                go_meet
                exact ⟨by rw [HFX.out, decide_eq_true h48, decide_eq_true h57]; rfl, rfl⟩
              · have f57 : decide ((x : Int) ≤ 57) = false := decide_eq_false (by omega)
                go_wp2
                go_meet
                exact ⟨by rw [HFX.out, decide_eq_true h48, decide_eq_false h57]; rfl, rfl⟩
            · go_wp2
              go_meet
              exact ⟨by rw [HFX.out, decide_eq_false h48]; rfl, rfl⟩
          · have HFX := Lib.hid (show F = false by rw [← HF.out]; unfold firstB; rw [HNL.out, decide_eq_false q1, Bool.and_false]; rfl)
            go_wp2
            go_meet
            exact ⟨by rw [HFX.out], rfl⟩
        · have HFX := Lib.hid (show F = false by rw [← HF.out]; unfold firstB; rw [HNL.out, decide_eq_false (show ¬ 1 ≤ nm.size from q0)]; rfl)
          go_wp2
          go_meet
          exact ⟨by rw [HFX.out], rfl⟩
      case rest =>
      obtain ⟨rfl, rfl⟩ := hcut
      as_aux_lemma =>
        go_wp2_with fail
        go_loopw [19, 20] (fun c vi wr => ∃ (k : Nat), k ≤ nm.size ∧ vi = .int .i64 k ∧ c = .bool (F && (nm.toList.take k).all okB) ∧ (∀ c ∈ nm.toList.take k, c.toNat ≠ 62) ∧ wr = wc) (fun _ vi _ => nm.size - (intOf vi).toNat)
        case atStart => exact ⟨0, Nat.zero_le _, rfl, by simp, by simp, rfl⟩
        case round =>
          obtain ⟨k, hk, rfl, rfl, hno, rfl⟩ := hrel
          have HNO := Lib.hid hno
          obtain ⟨P, hP⟩ : ∃ P, (F && (nm.toList.take k).all okB) = P := ⟨_, rfl⟩
          rw [hP]
          have HPP := Lib.hid hP
          clear hno hP
          by_cases hlt : k < nm.size
          · have hsn : nm.toList.take (k + 1) = nm.toList.take k ++ [nm[k]] := by rw [ByteArray.toList_eq, List.take_succ_eq_append_getElem (by simpa using hlt)]; rfl
            have HSN := Lib.hid hsn
            obtain ⟨C, hC⟩ : ∃ C, nm[k] = C := ⟨_, rfl⟩
            have HCC := Lib.hid hC
            obtain ⟨x, hx⟩ : ∃ x : Nat, nm[k].toNat = x := ⟨_, rfl⟩
            have hx2 : C.toNat = x := by rw [← hC]; exact hx
            have HXX := Lib.hid hx2
            have hx255 : x < 256 := by rw [← hx]; exact UInt8.toNat_lt _
            clear hsn hC hx2
            by_cases h62 : x = 62
            · have b0 : ((x : Int) == 62) = true := eq_true_of (by omega)
              go_wp2_with fail
              go_ret
              exact ⟨rfl, HB5.out⟩
            have b0 : ((x : Int) == 62) = false := eq_false_of (by omega)
            obtain ⟨Q, hQ⟩ : ∃ Q, (P && okB C) = Q := ⟨_, rfl⟩
            have HQ := Lib.hid hQ
            clear hQ
            have hw9 : IntKind.i64.wrap ((k : Int) + 1) = (k : Int) + 1 := wrap_in _ (by omega)
            have HQ2 := Lib.hid (show (F && (nm.toList.take (k + 1)).all okB) = Q by rw [HSN.out, List.all_append, ← Bool.and_assoc, HPP.out, ← HQ.out, HCC.out]; simp)
            have HN1 := Lib.hid (show ∀ c ∈ nm.toList.take (k + 1), c.toNat ≠ 62 from fun c hc => by
              rw [HSN.out] at hc
              exact (List.mem_append.1 hc).elim (HNO.out c) (fun hc => by rw [List.mem_singleton.1 hc, HCC.out, HXX.out]; exact h62))
            cases P
            · have HA := Lib.hid (show Q = false by rw [← HQ.out]; rfl)
              go_wp2
              exact ⟨⟨k + 1, hlt, rfl, by rw [HQ2.out, HA.out], HN1.out, trivial⟩, by simp only [intOf]; omega⟩
            · have hok : ∀ b : Bool, (b = true ↔ ((97 ≤ x ∧ x ≤ 122) ∨ (65 ≤ x ∧ x ≤ 90) ∨ x = 95) ∨ (48 ≤ x ∧ x ≤ 57)) → Q = b := fun b h => by
                rw [← HQ.out, Bool.true_and]
                have h1 := letter_iff C
                have h2 := digit_iff C
                rw [HXX.out] at h1 h2
                have h3 : okB C = true ↔ b = true := by rw [h, okB, Bool.or_eq_true, h1, h2]
                cases b <;> cases ho : okB C <;> simp_all
              have HOK := Lib.hid hok
              clear hok
              have hcase : (97 ≤ x ∧ x ≤ 122) ∨ (122 < x) ∨ (65 ≤ x ∧ x ≤ 90) ∨ (x = 95) ∨ (90 < x ∧ x < 97 ∧ x ≠ 95) ∨ (57 < x ∧ x < 65) ∨ (48 ≤ x ∧ x ≤ 57) ∨ (x < 48) := by omega
              rcases hcase with hc | hc | hc | hc | hc | hc | hc | hc
              · have f97 : 97 ≤ x := by omega
                have f65 : 65 ≤ x := by omega
                have f48 : 48 ≤ x := by omega
                have f122 : decide ((x : Int) ≤ 122) = true := decide_eq_true (by omega)
                have f90 : decide ((x : Int) ≤ 90) = false := decide_eq_false (by omega)
                have f57 : decide ((x : Int) ≤ 57) = false := decide_eq_false (by omega)
                have f95 : ((x : Int) == 95) = false := eq_false_of (by omega)
                have HA := Lib.hid (HOK.out true (by simp only [true_iff]; omega))
                clear hc HOK
                as_aux_lemma =>
                  go_wp2
                  all_goals exact ⟨⟨k + 1, hlt, rfl, by rw [HQ2.out, HA.out], HN1.out, trivial⟩, by simp only [intOf]; omega⟩
              · have f97 : 97 ≤ x := by omega
                have f65 : 65 ≤ x := by omega
                have f48 : 48 ≤ x := by omega
                have f122 : decide ((x : Int) ≤ 122) = false := decide_eq_false (by omega)
                have f90 : decide ((x : Int) ≤ 90) = false := decide_eq_false (by omega)
                have f57 : decide ((x : Int) ≤ 57) = false := decide_eq_false (by omega)
                have f95 : ((x : Int) == 95) = false := eq_false_of (by omega)
                have HA := Lib.hid (HOK.out false (by simp only [Bool.false_eq_true, false_iff]; omega))
                clear hc HOK
                as_aux_lemma =>
                  go_wp2
                  all_goals exact ⟨⟨k + 1, hlt, rfl, by rw [HQ2.out, HA.out], HN1.out, trivial⟩, by simp only [intOf]; omega⟩
              · have f97 : ¬ 97 ≤ x := by omega
                have f65 : 65 ≤ x := by omega
                have f48 : 48 ≤ x := by omega
                have f122 : decide ((x : Int) ≤ 122) = true := decide_eq_true (by omega)
                have f90 : decide ((x : Int) ≤ 90) = true := decide_eq_true (by omega)
                have f57 : decide ((x : Int) ≤ 57) = false := decide_eq_false (by omega)
                have f95 : ((x : Int) == 95) = false := eq_false_of (by omega)
                have HA := Lib.hid (HOK.out true (by simp only [true_iff]; omega))
                clear hc HOK
                as_aux_lemma =>
                  go_wp2
                  all_goals exact ⟨⟨k + 1, hlt, rfl, by rw [HQ2.out, HA.out], HN1.out, trivial⟩, by simp only [intOf]; omega⟩
              · have f97 : ¬ 97 ≤ x := by omega
                have f65 : 65 ≤ x := by omega
                have f48 : 48 ≤ x := by omega
                have f122 : decide ((x : Int) ≤ 122) = true := decide_eq_true (by omega)
                have f90 : decide ((x : Int) ≤ 90) = false := decide_eq_false (by omega)
                have f57 : decide ((x : Int) ≤ 57) = false := decide_eq_false (by omega)
                have f95 : ((x : Int) == 95) = true := eq_true_of (by omega)
                have HA := Lib.hid (HOK.out true (by simp only [true_iff]; omega))
                clear hc HOK
                as_aux_lemma =>
                  go_wp2
                  all_goals exact ⟨⟨k + 1, hlt, rfl, by rw [HQ2.out, HA.out], HN1.out, trivial⟩, by simp only [intOf]; omega⟩
              · have f97 : ¬ 97 ≤ x := by omega
                have f65 : 65 ≤ x := by omega
                have f48 : 48 ≤ x := by omega
                have f122 : decide ((x : Int) ≤ 122) = true := decide_eq_true (by omega)
                have f90 : decide ((x : Int) ≤ 90) = false := decide_eq_false (by omega)
                have f57 : decide ((x : Int) ≤ 57) = false := decide_eq_false (by omega)
                have f95 : ((x : Int) == 95) = false := eq_false_of (by omega)
                have HA := Lib.hid (HOK.out false (by simp only [Bool.false_eq_true, false_iff]; omega))
                clear hc HOK
                as_aux_lemma =>
                  go_wp2
                  all_goals exact ⟨⟨k + 1, hlt, rfl, by rw [HQ2.out, HA.out], HN1.out, trivial⟩, by simp only [intOf]; omega⟩
              · have f97 : ¬ 97 ≤ x := by omega
                have f65 : ¬ 65 ≤ x := by omega
                have f48 : 48 ≤ x := by omega
                have f122 : decide ((x : Int) ≤ 122) = true := decide_eq_true (by omega)
                have f90 : decide ((x : Int) ≤ 90) = true := decide_eq_true (by omega)
                have f57 : decide ((x : Int) ≤ 57) = false := decide_eq_false (by omega)
                have f95 : ((x : Int) == 95) = false := eq_false_of (by omega)
                have HA := Lib.hid (HOK.out false (by simp only [Bool.false_eq_true, false_iff]; omega))
                clear hc HOK
                as_aux_lemma =>
                  go_wp2
                  all_goals exact ⟨⟨k + 1, hlt, rfl, by rw [HQ2.out, HA.out], HN1.out, trivial⟩, by simp only [intOf]; omega⟩
              · have f97 : ¬ 97 ≤ x := by omega
                have f65 : ¬ 65 ≤ x := by omega
                have f48 : 48 ≤ x := by omega
                have f122 : decide ((x : Int) ≤ 122) = true := decide_eq_true (by omega)
                have f90 : decide ((x : Int) ≤ 90) = true := decide_eq_true (by omega)
                have f57 : decide ((x : Int) ≤ 57) = true := decide_eq_true (by omega)
                have f95 : ((x : Int) == 95) = false := eq_false_of (by omega)
                have HA := Lib.hid (HOK.out true (by simp only [true_iff]; omega))
                clear hc HOK
                as_aux_lemma =>
                  go_wp2
                  all_goals exact ⟨⟨k + 1, hlt, rfl, by rw [HQ2.out, HA.out], HN1.out, trivial⟩, by simp only [intOf]; omega⟩
              · have f97 : ¬ 97 ≤ x := by omega
                have f65 : ¬ 65 ≤ x := by omega
                have f48 : ¬ 48 ≤ x := by omega
                have f122 : decide ((x : Int) ≤ 122) = true := decide_eq_true (by omega)
                have f90 : decide ((x : Int) ≤ 90) = true := decide_eq_true (by omega)
                have f57 : decide ((x : Int) ≤ 57) = true := decide_eq_true (by omega)
                have f95 : ((x : Int) == 95) = false := eq_false_of (by omega)
                have HA := Lib.hid (HOK.out false (by simp only [Bool.false_eq_true, false_iff]; omega))
                clear hc HOK
                as_aux_lemma =>
                  go_wp2
                  all_goals exact ⟨⟨k + 1, hlt, rfl, by rw [HQ2.out, HA.out], HN1.out, trivial⟩, by simp only [intOf]; omega⟩
          · have hkz : nm.toList.take k = nm.toList := List.take_of_length_le (by rw [HNL.out]; omega)
            have HPN := Lib.hid (show nameB nm.toList = P by rw [← HPP.out, hkz, ← HF.out, plain_eq])
            have HNO2 := Lib.hid (show ∀ c ∈ nm.toList, c.toNat ≠ 62 by have := HNO.out; rw [hkz] at this; exact this)
            clear hkz HPP HNO
            go_wp2_with fail
            as_aux_lemma =>
              have hS0 : (⟨#[40, 63, 80, 60]⟩ ++ nm ++ ⟨#[62]⟩ ++ bh : ByteArray).toList = [40, 63, 80, 60] ++ (nm.toList ++ 62 :: bh.toList) := by
                simp only [append_list, show (⟨#[40, 63, 80, 60]⟩ : ByteArray).toList = [40, 63, 80, 60] by kernel_rfl, show (⟨#[62]⟩ : ByteArray).toList = [62] by kernel_rfl, List.append_assoc, List.cons_append, List.nil_append]
              have hz0 : (⟨#[40, 63, 80, 60]⟩ ++ nm ++ ⟨#[62]⟩ ++ bh : ByteArray).size ≤ 4503599627370496 := by
                rw [size_list, hS0]
                simp only [List.length_append, List.length_cons, List.length_nil, HNL.out, show bh.toList.length = bh.size from (size_list bh).symm]
                omega
              have hq0 := name_told (.inl rfl) HNO2.out hS0
              rw [HPN.out] at hq0
              obtain ⟨S0, hT0⟩ : ∃ S, (⟨#[40, 63, 80, 60]⟩ ++ nm ++ ⟨#[62]⟩ ++ bh : ByteArray) = S := ⟨_, rfl⟩
              rw [hT0] at hz0 hq0
              have HS0 := Lib.hid hT0; have HQ0 := Lib.hid hq0
              clear hS0 hT0 hq0
              have hS1 : (⟨#[40, 63, 60]⟩ ++ nm ++ ⟨#[62]⟩ ++ bh : ByteArray).toList = [40, 63, 60] ++ (nm.toList ++ 62 :: bh.toList) := by
                simp only [append_list, show (⟨#[40, 63, 60]⟩ : ByteArray).toList = [40, 63, 60] by kernel_rfl, show (⟨#[62]⟩ : ByteArray).toList = [62] by kernel_rfl, List.append_assoc, List.cons_append, List.nil_append]
              have hz1 : (⟨#[40, 63, 60]⟩ ++ nm ++ ⟨#[62]⟩ ++ bh : ByteArray).size ≤ 4503599627370496 := by
                rw [size_list, hS1]
                simp only [List.length_append, List.length_cons, List.length_nil, HNL.out, show bh.toList.length = bh.size from (size_list bh).symm]
                omega
              have hq1 := name_told (.inr rfl) HNO2.out hS1
              rw [HPN.out] at hq1
              obtain ⟨S1, hT1⟩ : ∃ S, (⟨#[40, 63, 60]⟩ ++ nm ++ ⟨#[62]⟩ ++ bh : ByteArray) = S := ⟨_, rfl⟩
              rw [hT1] at hz1 hq1
              have HS1 := Lib.hid hT1; have HQ1 := Lib.hid hq1
              clear hS1 hT1 hq1
              rw [HS0.out]
              cases P
              · have HM0 := Lib.hid (show nameS S0 0 = none from HQ0.out); have HM1 := Lib.hid (show nameS S1 0 = none from HQ1.out)
                clear HQ0 HQ1
                refine (pgroup_any S0 0 _ hz0 (Nat.zero_le _)).mono ?_
                rintro e x6 ⟨hb6, ⟨h, rfl⟩ | ⟨n', k', b', h, hbb, rfl⟩⟩
                rotate_left
                · rw [HM0.out] at h
                  cases h
                obtain ⟨Y0, hY⟩ : ∃ Y, min ((endS S0 0 : Int) + 1) (S0.size : Int) = Y := ⟨_, rfl⟩
                rw [hY]
                clear h hY
                unfold wrongV
                have HB6 := Lib.hid (HB5.out.trans (hb6.mono HB5.out.size))
                clear hb6
                go_wp2_with fail
                rw [HS1.out]
                refine (pgroup_any S1 0 _ hz1 (Nat.zero_le _)).mono ?_
                rintro e x7 ⟨hb6, ⟨h, rfl⟩ | ⟨n', k', b', h, hbb, rfl⟩⟩
                rotate_left
                · rw [HM1.out] at h
                  cases h
                obtain ⟨Y1, hY⟩ : ∃ Y, min ((endS S1 0 : Int) + 1) (S1.size : Int) = Y := ⟨_, rfl⟩
                rw [hY]
                clear h hY
                unfold wrongV
                have hE : Whole x7 x6.heap.size 29 #[.int .i64 64, .int .i64 0, .int .i64 Y0] := Whole.below (heap_alloc_new x6 _) hb6 (by simp)
                have hb0 := (HB6.out.alloc HB6.out.size (.cells #[.int .i64 64, .int .i64 0, .int .i64 Y0] 29)).trans (hb6.mono (by simp; have := HB6.out.size; omega))
                obtain ⟨x8, hx8⟩ : ∃ x8, x7.alloc (.cells #[.int .i64 64, .int .i64 0, .int .i64 Y1] 29) = x8 := ⟨_, rfl⟩
                have HB8 := Lib.hid (show Below w.heap.size w x8 by rw [← hx8]; exact hb0.alloc hb0.size _)
                have hE8 : Whole x8 x6.heap.size 29 #[.int .i64 64, .int .i64 0, .int .i64 Y0] := by rw [← hx8]; exact hE.alloc _
                have hF8 : Whole x8 x7.heap.size 29 #[.int .i64 64, .int .i64 0, .int .i64 Y1] := by rw [← hx8]; exact heap_alloc_new x7 _
                have HW8 := Lib.hid hx8
                obtain ⟨e0, e1, e2, -, -, -⟩ := hE8.three
                obtain ⟨f0, f1, f2, -, -, -⟩ := hF8.three
                clear hb6 hE hb0 hx8 hE8 hF8
                go_upto_region 21 with (fail)
                rw [HW8.out]
                go_wp2_with fail
                go_ret
                exact ⟨rfl, HB8.out⟩
              · have HM0 := Lib.hid (show nameS S0 0 = some (nm.toList, 4 + nm.toList.length + 1) from HQ0.out); have HM1 := Lib.hid (show nameS S1 0 = some (nm.toList, 3 + nm.toList.length + 1) from HQ1.out)
                clear HQ0 HQ1
                refine (pgroup_any S0 0 _ hz0 (Nat.zero_le _)).mono ?_
                rintro e x6 ⟨hb6, ⟨h, rfl⟩ | ⟨n', k', b', h, hbb, rfl⟩⟩
                · rw [HM0.out] at h
                  cases h
                rw [HM0.out] at h
                cases h
                have hbn : b' = nm := bytes_eq hbb
                rw [hbn]
                clear hbn hbb b'
                unfold wrongV
                have HB6 := Lib.hid (HB5.out.trans (hb6.mono HB5.out.size))
                clear hb6
                go_wp2_with fail
                rw [HS1.out]
                refine (pgroup_any S1 0 _ hz1 (Nat.zero_le _)).mono ?_
                rintro e x7 ⟨hb6, ⟨h, rfl⟩ | ⟨n', k', b', h, hbb, rfl⟩⟩
                · rw [HM1.out] at h
                  cases h
                rw [HM1.out] at h
                cases h
                have hbn : b' = nm := bytes_eq hbb
                rw [hbn]
                clear hbn hbb b'
                unfold wrongV
                have hE : Whole x7 x6.heap.size 29 #[.int .i64 0, .int .i64 0, .int .i64 0] := Whole.below (heap_alloc_new x6 _) hb6 (by simp)
                have hb0 := (HB6.out.alloc HB6.out.size (.cells #[.int .i64 0, .int .i64 0, .int .i64 0] 29)).trans (hb6.mono (by simp; have := HB6.out.size; omega))
                obtain ⟨x8, hx8⟩ : ∃ x8, x7.alloc (.cells #[.int .i64 0, .int .i64 0, .int .i64 0] 29) = x8 := ⟨_, rfl⟩
                have HB8 := Lib.hid (show Below w.heap.size w x8 by rw [← hx8]; exact hb0.alloc hb0.size _)
                have hE8 : Whole x8 x6.heap.size 29 #[.int .i64 0, .int .i64 0, .int .i64 0] := by rw [← hx8]; exact hE.alloc _
                have hF8 : Whole x8 x7.heap.size 29 #[.int .i64 0, .int .i64 0, .int .i64 0] := by rw [← hx8]; exact heap_alloc_new x7 _
                have HW8 := Lib.hid hx8
                obtain ⟨e0, e1, e2, -, -, -⟩ := hE8.three
                obtain ⟨f0, f1, f2, -, -, -⟩ := hF8.three
                clear hb6 hE hb0 hx8 hE8 hF8
                have hla : ((4 + nm.toList.length + 1 : Nat) : Int) = (nm.size : Int) + 5 := by rw [HNL.out]; omega
                have hlb : ((3 + nm.toList.length + 1 : Nat) : Int) = (nm.size : Int) + 4 := by rw [HNL.out]; omega
                skip
                have v5 : IntKind.i64.wrap ((nm.size : Int) + 5) = (nm.size : Int) + 5 := wrap_in _ (by omega)
                have v4 : IntKind.i64.wrap ((nm.size : Int) + 4) = (nm.size : Int) + 4 := wrap_in _ (by omega)
                go_upto_region 21 with (fail)
                rw [HW8.out]
                go_wp2_with fail
                go_ret
                exact ⟨rfl, HB8.out⟩
end Go.Proofs.YtofhckheeijoiaaGreatDoor
