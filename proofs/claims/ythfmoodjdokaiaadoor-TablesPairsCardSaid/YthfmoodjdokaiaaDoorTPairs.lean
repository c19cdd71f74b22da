/- Which letters are alike: each of a to z with the great letter, and with two more just k and s; digits and signs below 128 with nothing. From orbit_any. -/
import Derived.Test.YthfmoodjdokaiaaDoorTAlike
set_option linter.unusedVariables false
namespace Go.Proofs.YthfmoodjdokaiaaDoor
open Go Go.RowKit

def pairB (c : Int) : Bool :=
  if 97 ≤ c ∧ c ≤ 122 then (orbR c).contains (c - 32) && (orbR c).length == (if c = 107 ∨ c = 115 then 3 else 2)
  else if 65 ≤ c ∧ c ≤ 90 then (orbR c).contains (c + 32) && (orbR c).length == (if c = 75 ∨ c = 83 then 3 else 2)
  else orbR c == [c]
theorem pair_all : ∀ k : Fin 128, pairB ((k : Nat) : Int) = true := by decide +kernel
theorem pair_of (c : Int) (h0 : 0 ≤ c) (h1 : c ≤ 127) : pairB c = true := by
  have h := pair_all ⟨c.toNat, by omega⟩
  simp only at h
  rwa [Int.toNat_of_nonneg h0] at h

set_option maxHeartbeats 4000000 in
set_option maxRecDepth 100000 in
theorem tpairs_any (w : World) (c : Int) (hc : I32 c) (hT0 : TabsT w) : Calls Tryd.prog 7 #[.int .i32 c] w fun e w' => e = .returned (.bool true) ∧ Below w.heap.size w w' := by
  have H0 := Lib.hid hT0
  have HC := Lib.hid hc
  clear hT0
  go_enter Tryd.func7, Tryd.ntmps7
  go_wp2_with fail
  refine (thead_any w H0.out).mono ?_
  rintro e w1 ⟨rfl, hb⟩
  have HT := Lib.hid hb
  clear hb hc
  go_wp2_with fail
  refine (orbit_any c w1 HC.out (H0.out.below HT.out)).mono ?_
  rintro e w2 ⟨vo, rfl, ho, hb⟩
  have R_o := Lib.hid ho.rns
  replace HT := Lib.hid (HT.out.trans (hb.mono HT.out.size))
  clear ho hb
  by_cases hn0 : c < 0
  · go_wp2_with fail
    go_ret
    exact ⟨rfl, HT.out⟩
  by_cases hn1 : 127 < c
  · go_wp2_with fail
    go_ret
    exact ⟨rfl, HT.out⟩
  have hp := pair_of c (by omega) (by omega)
  have hol := orb_len c
  obtain ⟨og, hog⟩ : ∃ og, orbR c = og := ⟨_, rfl⟩
  unfold pairB at hp
  rw [hog] at R_o hol hp
  have HP := Lib.hid hp
  clear hog hp
  by_cases s0 : 97 ≤ c
  · by_cases s1 : c ≤ 122
    · by_cases k1 : c = 107
      · subst k1
        obtain ⟨ao, co, hvo, -⟩ := R_o.out
        subst hvo
        have hq := HP.out
        rw [if_pos ⟨by omega, by omega⟩, if_pos (.inl rfl)] at hq
        have hmem : (107 - 32) ∈ og := by
          have := (Bool.and_eq_true _ _ ▸ hq).1
          simpa using this
        have hlen : og.length = 3 := by
          have := (Bool.and_eq_true _ _ ▸ hq).2
          simpa using this
        have HM := Lib.hid hmem; have HL := Lib.hid hlen
        clear hq hmem hlen
        go_wp2_with fail
        go_loopw [9, 10] (fun th i wz => ∃ k : Nat, k ≤ og.length ∧ i = .int .i64 k ∧ th = .bool (decide ((107 - 32) ∈ og.take k)) ∧ wz = w2) (fun _ i _ => og.length - (intOf i).toNat)
        case atStart => exact ⟨0, Nat.zero_le _, rfl, by simp, rfl⟩
        case round =>
          obtain ⟨k, hk, rfl, rfl, rfl⟩ := hrel
          by_cases hkl : k < og.length
          · obtain ⟨a3, c3, e, -, -, -, f5, -⟩ := R_o.out
            injection e with e1 e2 e3
            subst e1 e3
            rcases f5 with f5 | ⟨b3, o3, rfl, f7⟩
            · rw [f5] at hkl
              simp at hkl
            have htm := take_mem hkl ((107 - 32))
            obtain ⟨y, hy⟩ : ∃ y, og[k] = y := ⟨_, rfl⟩
            have cy := f7 k hkl
            rw [hy] at cy htm
            obtain ⟨th, hth⟩ : ∃ th, decide ((107 - 32) ∈ og.take k) = th := ⟨_, rfl⟩
            rw [hth]
            have hnx : decide ((107 - 32) ∈ og.take (k + 1)) = (th || decide (y = (107 - 32))) := by
              rw [← hth]
              simp only [htm, Bool.decide_or]
            have HNX := Lib.hid hnx
            clear hy htm f7 hth hnx e2
            cases th
            · go_wp2_with fail
              go_roundw
              case rel => exact ⟨k + 1, by omega, by go_num, by rw [HNX.out]; first | rfl | simp | (congr 1; simp; rfl), by trivial⟩
              case measure => simp [intOf]; omega
            · go_wp2_with fail
              go_roundw
              case rel => exact ⟨k + 1, by omega, by go_num, by rw [HNX.out]; first | rfl | simp | (congr 1; simp; rfl), by trivial⟩
              case measure => simp [intOf]; omega
          · have e : og.take k = og := List.take_of_length_le (by omega)
            have hm : decide ((107 - 32) ∈ og.take k) = true := by rw [e]; exact decide_eq_true HM.out
            rw [hm]
            have hl := HL.out
            have hlz : (og.length : Int) = 3 := by omega
            clear hm e
            go_wp2_with fail
            go_ret
            exact ⟨rfl, HT.out⟩
      by_cases k2 : c = 115
      · subst k2
        obtain ⟨ao, co, hvo, -⟩ := R_o.out
        subst hvo
        have hq := HP.out
        rw [if_pos ⟨by omega, by omega⟩, if_pos (.inr rfl)] at hq
        have hmem : (115 - 32) ∈ og := by
          have := (Bool.and_eq_true _ _ ▸ hq).1
          simpa using this
        have hlen : og.length = 3 := by
          have := (Bool.and_eq_true _ _ ▸ hq).2
          simpa using this
        have HM := Lib.hid hmem; have HL := Lib.hid hlen
        clear hq hmem hlen
        go_wp2_with fail
        go_loopw [9, 10] (fun th i wz => ∃ k : Nat, k ≤ og.length ∧ i = .int .i64 k ∧ th = .bool (decide ((115 - 32) ∈ og.take k)) ∧ wz = w2) (fun _ i _ => og.length - (intOf i).toNat)
        case atStart => exact ⟨0, Nat.zero_le _, rfl, by simp, rfl⟩
        case round =>
          obtain ⟨k, hk, rfl, rfl, rfl⟩ := hrel
          by_cases hkl : k < og.length
          · obtain ⟨a3, c3, e, -, -, -, f5, -⟩ := R_o.out
            injection e with e1 e2 e3
            subst e1 e3
            rcases f5 with f5 | ⟨b3, o3, rfl, f7⟩
            · rw [f5] at hkl
              simp at hkl
            have htm := take_mem hkl ((115 - 32))
            obtain ⟨y, hy⟩ : ∃ y, og[k] = y := ⟨_, rfl⟩
            have cy := f7 k hkl
            rw [hy] at cy htm
            obtain ⟨th, hth⟩ : ∃ th, decide ((115 - 32) ∈ og.take k) = th := ⟨_, rfl⟩
            rw [hth]
            have hnx : decide ((115 - 32) ∈ og.take (k + 1)) = (th || decide (y = (115 - 32))) := by
              rw [← hth]
              simp only [htm, Bool.decide_or]
            have HNX := Lib.hid hnx
            clear hy htm f7 hth hnx e2
            cases th
            · go_wp2_with fail
              go_roundw
              case rel => exact ⟨k + 1, by omega, by go_num, by rw [HNX.out]; first | rfl | simp | (congr 1; simp; rfl), by trivial⟩
              case measure => simp [intOf]; omega
            · go_wp2_with fail
              go_roundw
              case rel => exact ⟨k + 1, by omega, by go_num, by rw [HNX.out]; first | rfl | simp | (congr 1; simp; rfl), by trivial⟩
              case measure => simp [intOf]; omega
          · have e : og.take k = og := List.take_of_length_le (by omega)
            have hm : decide ((115 - 32) ∈ og.take k) = true := by rw [e]; exact decide_eq_true HM.out
            rw [hm]
            have hl := HL.out
            have hlz : (og.length : Int) = 3 := by omega
            clear hm e
            go_wp2_with fail
            go_ret
            exact ⟨rfl, HT.out⟩
      have e1 : 65 ≤ c := by omega
      have d1 : decide (c ≤ 90) = false := decide_eq_false (by omega)
      have q0 : (c == 107) = false := beq_eq_false_iff_ne.2 (by omega)
      have q1 : (c == 75) = false := beq_eq_false_iff_ne.2 (by omega)
      have q2 : (c == 115) = false := beq_eq_false_iff_ne.2 (by omega)
      have q3 : (c == 83) = false := beq_eq_false_iff_ne.2 (by omega)
      obtain ⟨ao, co, hvo, -⟩ := R_o.out
      subst hvo
      have hq := HP.out
      rw [if_pos ⟨s0, s1⟩, if_neg (by omega)] at hq
      have hmem : (c - 32) ∈ og := by
        have := (Bool.and_eq_true _ _ ▸ hq).1
        simpa using this
      have hlen : og.length = 2 := by
        have := (Bool.and_eq_true _ _ ▸ hq).2
        simpa using this
      have HM := Lib.hid hmem; have HL := Lib.hid hlen
      clear hq hmem hlen
      go_wp2_with fail
      go_loopw [9, 10] (fun th i wz => ∃ k : Nat, k ≤ og.length ∧ i = .int .i64 k ∧ th = .bool (decide ((c - 32) ∈ og.take k)) ∧ wz = w2) (fun _ i _ => og.length - (intOf i).toNat)
      case atStart => exact ⟨0, Nat.zero_le _, rfl, by simp, rfl⟩
      case round =>
        obtain ⟨k, hk, rfl, rfl, rfl⟩ := hrel
        by_cases hkl : k < og.length
        · obtain ⟨a3, c3, e, -, -, -, f5, -⟩ := R_o.out
          injection e with e1 e2 e3
          subst e1 e3
          rcases f5 with f5 | ⟨b3, o3, rfl, f7⟩
          · rw [f5] at hkl
            simp at hkl
          have htm := take_mem hkl ((c - 32))
          obtain ⟨y, hy⟩ : ∃ y, og[k] = y := ⟨_, rfl⟩
          have cy := f7 k hkl
          rw [hy] at cy htm
          obtain ⟨th, hth⟩ : ∃ th, decide ((c - 32) ∈ og.take k) = th := ⟨_, rfl⟩
          rw [hth]
          have hnx : decide ((c - 32) ∈ og.take (k + 1)) = (th || decide (y = (c - 32))) := by
            rw [← hth]
            simp only [htm, Bool.decide_or]
          have HNX := Lib.hid hnx
          clear hy htm f7 hth hnx e2
          cases th
          · go_wp2_with fail
            go_roundw
            case rel => exact ⟨k + 1, by omega, by go_num, by rw [HNX.out]; first | rfl | simp | (congr 1; simp; rfl), by trivial⟩
            case measure => simp [intOf]; omega
          · go_wp2_with fail
            go_roundw
            case rel => exact ⟨k + 1, by omega, by go_num, by rw [HNX.out]; first | rfl | simp | (congr 1; simp; rfl), by trivial⟩
            case measure => simp [intOf]; omega
        · have e : og.take k = og := List.take_of_length_le (by omega)
          have hm : decide ((c - 32) ∈ og.take k) = true := by rw [e]; exact decide_eq_true HM.out
          rw [hm]
          have hl := HL.out
          have hlz : (og.length : Int) = 2 := by omega
          clear hm e
          go_wp2_with fail
          go_ret
          exact ⟨rfl, HT.out⟩
    · have e1 : 65 ≤ c := by omega
      have d1 : decide (c ≤ 90) = false := decide_eq_false (by omega)
      have d2 : decide (c ≤ 122) = false := decide_eq_false (by omega)
      obtain ⟨ao, co, hvo, -, -, -, f5, -⟩ := R_o.out
      have hq := HP.out
      rw [if_neg (by omega), if_neg (by omega)] at hq
      have he : og = [c] := by simpa using hq
      rcases f5 with f5 | ⟨b3, o3, hao, f7⟩
      · rw [f5] at he
        cases he
      have c0 := f7 0 (by rw [he]; simp)
      subst hvo hao
      have HEE := Lib.hid he
      simp only [HEE.out, List.getElem_cons_zero, Nat.add_zero] at c0
      rw [show og.length = 1 by rw [HEE.out]; rfl]
      clear hq f7 he
      go_wp2_with fail
      go_ret
      exact ⟨rfl, HT.out⟩
  by_cases g0 : 65 ≤ c
  · by_cases g1 : c ≤ 90
    · by_cases k1 : c = 75
      · subst k1
        obtain ⟨ao, co, hvo, -⟩ := R_o.out
        subst hvo
        have hq := HP.out
        rw [if_neg (by omega), if_pos ⟨by omega, by omega⟩, if_pos (.inl rfl)] at hq
        have hmem : (75 + 32) ∈ og := by
          have := (Bool.and_eq_true _ _ ▸ hq).1
          simpa using this
        have hlen : og.length = 3 := by
          have := (Bool.and_eq_true _ _ ▸ hq).2
          simpa using this
        have HM := Lib.hid hmem; have HL := Lib.hid hlen
        clear hq hmem hlen
        go_wp2_with fail
        go_loopw [9, 10] (fun th i wz => ∃ k : Nat, k ≤ og.length ∧ i = .int .i64 k ∧ th = .bool (decide ((75 + 32) ∈ og.take k)) ∧ wz = w2) (fun _ i _ => og.length - (intOf i).toNat)
        case atStart => exact ⟨0, Nat.zero_le _, rfl, by simp, rfl⟩
        case round =>
          obtain ⟨k, hk, rfl, rfl, rfl⟩ := hrel
          by_cases hkl : k < og.length
          · obtain ⟨a3, c3, e, -, -, -, f5, -⟩ := R_o.out
            injection e with e1 e2 e3
            subst e1 e3
            rcases f5 with f5 | ⟨b3, o3, rfl, f7⟩
            · rw [f5] at hkl
              simp at hkl
            have htm := take_mem hkl ((75 + 32))
            obtain ⟨y, hy⟩ : ∃ y, og[k] = y := ⟨_, rfl⟩
            have cy := f7 k hkl
            rw [hy] at cy htm
            obtain ⟨th, hth⟩ : ∃ th, decide ((75 + 32) ∈ og.take k) = th := ⟨_, rfl⟩
            rw [hth]
            have hnx : decide ((75 + 32) ∈ og.take (k + 1)) = (th || decide (y = (75 + 32))) := by
              rw [← hth]
              simp only [htm, Bool.decide_or]
            have HNX := Lib.hid hnx
            clear hy htm f7 hth hnx e2
            cases th
            · go_wp2_with fail
              go_roundw
              case rel => exact ⟨k + 1, by omega, by go_num, by rw [HNX.out]; first | rfl | simp | (congr 1; simp; rfl), by trivial⟩
              case measure => simp [intOf]; omega
            · go_wp2_with fail
              go_roundw
              case rel => exact ⟨k + 1, by omega, by go_num, by rw [HNX.out]; first | rfl | simp | (congr 1; simp; rfl), by trivial⟩
              case measure => simp [intOf]; omega
          · have e : og.take k = og := List.take_of_length_le (by omega)
            have hm : decide ((75 + 32) ∈ og.take k) = true := by rw [e]; exact decide_eq_true HM.out
            rw [hm]
            have hl := HL.out
            have hlz : (og.length : Int) = 3 := by omega
            clear hm e
            go_wp2_with fail
            go_ret
            exact ⟨rfl, HT.out⟩
      by_cases k2 : c = 83
      · subst k2
        obtain ⟨ao, co, hvo, -⟩ := R_o.out
        subst hvo
        have hq := HP.out
        rw [if_neg (by omega), if_pos ⟨by omega, by omega⟩, if_pos (.inr rfl)] at hq
        have hmem : (83 + 32) ∈ og := by
          have := (Bool.and_eq_true _ _ ▸ hq).1
          simpa using this
        have hlen : og.length = 3 := by
          have := (Bool.and_eq_true _ _ ▸ hq).2
          simpa using this
        have HM := Lib.hid hmem; have HL := Lib.hid hlen
        clear hq hmem hlen
        go_wp2_with fail
        go_loopw [9, 10] (fun th i wz => ∃ k : Nat, k ≤ og.length ∧ i = .int .i64 k ∧ th = .bool (decide ((83 + 32) ∈ og.take k)) ∧ wz = w2) (fun _ i _ => og.length - (intOf i).toNat)
        case atStart => exact ⟨0, Nat.zero_le _, rfl, by simp, rfl⟩
        case round =>
          obtain ⟨k, hk, rfl, rfl, rfl⟩ := hrel
          by_cases hkl : k < og.length
          · obtain ⟨a3, c3, e, -, -, -, f5, -⟩ := R_o.out
            injection e with e1 e2 e3
            subst e1 e3
            rcases f5 with f5 | ⟨b3, o3, rfl, f7⟩
            · rw [f5] at hkl
              simp at hkl
            have htm := take_mem hkl ((83 + 32))
            obtain ⟨y, hy⟩ : ∃ y, og[k] = y := ⟨_, rfl⟩
            have cy := f7 k hkl
            rw [hy] at cy htm
            obtain ⟨th, hth⟩ : ∃ th, decide ((83 + 32) ∈ og.take k) = th := ⟨_, rfl⟩
            rw [hth]
            have hnx : decide ((83 + 32) ∈ og.take (k + 1)) = (th || decide (y = (83 + 32))) := by
              rw [← hth]
              simp only [htm, Bool.decide_or]
            have HNX := Lib.hid hnx
            clear hy htm f7 hth hnx e2
            cases th
            · go_wp2_with fail
              go_roundw
              case rel => exact ⟨k + 1, by omega, by go_num, by rw [HNX.out]; first | rfl | simp | (congr 1; simp; rfl), by trivial⟩
              case measure => simp [intOf]; omega
            · go_wp2_with fail
              go_roundw
              case rel => exact ⟨k + 1, by omega, by go_num, by rw [HNX.out]; first | rfl | simp | (congr 1; simp; rfl), by trivial⟩
              case measure => simp [intOf]; omega
          · have e : og.take k = og := List.take_of_length_le (by omega)
            have hm : decide ((83 + 32) ∈ og.take k) = true := by rw [e]; exact decide_eq_true HM.out
            rw [hm]
            have hl := HL.out
            have hlz : (og.length : Int) = 3 := by omega
            clear hm e
            go_wp2_with fail
            go_ret
            exact ⟨rfl, HT.out⟩
      have q0 : (c == 107) = false := beq_eq_false_iff_ne.2 (by omega)
      have q1 : (c == 75) = false := beq_eq_false_iff_ne.2 (by omega)
      have q2 : (c == 115) = false := beq_eq_false_iff_ne.2 (by omega)
      have q3 : (c == 83) = false := beq_eq_false_iff_ne.2 (by omega)
      obtain ⟨ao, co, hvo, -⟩ := R_o.out
      subst hvo
      have hq := HP.out
      rw [if_neg (by omega), if_pos ⟨g0, g1⟩, if_neg (by omega)] at hq
      have hmem : (c + 32) ∈ og := by
        have := (Bool.and_eq_true _ _ ▸ hq).1
        simpa using this
      have hlen : og.length = 2 := by
        have := (Bool.and_eq_true _ _ ▸ hq).2
        simpa using this
      have HM := Lib.hid hmem; have HL := Lib.hid hlen
      clear hq hmem hlen
      go_wp2_with fail
      go_loopw [9, 10] (fun th i wz => ∃ k : Nat, k ≤ og.length ∧ i = .int .i64 k ∧ th = .bool (decide ((c + 32) ∈ og.take k)) ∧ wz = w2) (fun _ i _ => og.length - (intOf i).toNat)
      case atStart => exact ⟨0, Nat.zero_le _, rfl, by simp, rfl⟩
      case round =>
        obtain ⟨k, hk, rfl, rfl, rfl⟩ := hrel
        by_cases hkl : k < og.length
        · obtain ⟨a3, c3, e, -, -, -, f5, -⟩ := R_o.out
          injection e with e1 e2 e3
          subst e1 e3
          rcases f5 with f5 | ⟨b3, o3, rfl, f7⟩
          · rw [f5] at hkl
            simp at hkl
          have htm := take_mem hkl ((c + 32))
          obtain ⟨y, hy⟩ : ∃ y, og[k] = y := ⟨_, rfl⟩
          have cy := f7 k hkl
          rw [hy] at cy htm
          obtain ⟨th, hth⟩ : ∃ th, decide ((c + 32) ∈ og.take k) = th := ⟨_, rfl⟩
          rw [hth]
          have hnx : decide ((c + 32) ∈ og.take (k + 1)) = (th || decide (y = (c + 32))) := by
            rw [← hth]
            simp only [htm, Bool.decide_or]
          have HNX := Lib.hid hnx
          clear hy htm f7 hth hnx e2
          cases th
          · go_wp2_with fail
            go_roundw
            case rel => exact ⟨k + 1, by omega, by go_num, by rw [HNX.out]; first | rfl | simp | (congr 1; simp; rfl), by trivial⟩
            case measure => simp [intOf]; omega
          · go_wp2_with fail
            go_roundw
            case rel => exact ⟨k + 1, by omega, by go_num, by rw [HNX.out]; first | rfl | simp | (congr 1; simp; rfl), by trivial⟩
            case measure => simp [intOf]; omega
        · have e : og.take k = og := List.take_of_length_le (by omega)
          have hm : decide ((c + 32) ∈ og.take k) = true := by rw [e]; exact decide_eq_true HM.out
          rw [hm]
          have hl := HL.out
          have hlz : (og.length : Int) = 2 := by omega
          clear hm e
          go_wp2_with fail
          go_ret
          exact ⟨rfl, HT.out⟩
    · have d1 : decide (c ≤ 90) = false := decide_eq_false (by omega)
      obtain ⟨ao, co, hvo, -, -, -, f5, -⟩ := R_o.out
      have hq := HP.out
      rw [if_neg (by omega), if_neg (by omega)] at hq
      have he : og = [c] := by simpa using hq
      rcases f5 with f5 | ⟨b3, o3, hao, f7⟩
      · rw [f5] at he
        cases he
      have c0 := f7 0 (by rw [he]; simp)
      subst hvo hao
      have HEE := Lib.hid he
      simp only [HEE.out, List.getElem_cons_zero, Nat.add_zero] at c0
      rw [show og.length = 1 by rw [HEE.out]; rfl]
      clear hq f7 he
      go_wp2_with fail
      go_ret
      exact ⟨rfl, HT.out⟩
  obtain ⟨ao, co, hvo, -, -, -, f5, -⟩ := R_o.out
  have hq := HP.out
  rw [if_neg (by omega), if_neg (by omega)] at hq
  have he : og = [c] := by simpa using hq
  rcases f5 with f5 | ⟨b3, o3, hao, f7⟩
  · rw [f5] at he
    cases he
  have c0 := f7 0 (by rw [he]; simp)
  subst hvo hao
  have HEE := Lib.hid he
  simp only [HEE.out, List.getElem_cons_zero, Nat.add_zero] at c0
  rw [show og.length = 1 by rw [HEE.out]; rfl]
  clear hq f7 he
  go_wp2_with fail
  go_ret
  exact ⟨rfl, HT.out⟩
end Go.Proofs.YthfmoodjdokaiaaDoor
