/- Texts merged by program: PgPins. No condition. -/
import Derived.Test.YthffdmncdoogpaaK17
import Derived.Test.YthffdmncdoogpaaK19
import Derived.Sort.WalkA6
import Derived.Deep.CutBlock
import Derived.Deep.DeepCutAuto
set_option linter.unusedVariables false
/- slices.Sort's partialInsertionSort, of runes. No condition. -/
namespace Go.Proofs.Ythffdmncdoogpaa
open Go Go.RowKit Go.Sort

/-- A sort under way tells a bool. -/
def RowSays (w : World) (blk off : Nat) (r : Array Int × Bool) (e : Ending) (w' : World) : Prop := e = .returned (.bool r.2) ∧ RowAt w blk off r.1 w'

set_option maxHeartbeats 3200000 in
set_option maxRecDepth 100000 in
theorem pinsN_any (blk off cap a b : Nat) (d : Array Int) (w : World) (hH : Holds encN w blk off d) (hab : a < b) (hb : b ≤ d.size) (hsz : d.size < 4611686018427387904) :
    Calls Try.prog 100 #[.slice (some ⟨blk, off, none⟩) d.size cap, .int .i64 a, .int .i64 b] w (RowSays w blk off (partialInsertionSort ltInt d a b)) := by
  have HH := Lib.hid hH
  obtain ⟨R, hR⟩ : ∃ R, partialInsertionSort ltInt d a b = R := ⟨_, rfl⟩
  have HR : Hid (partialIns ltInt a b 5 (a + 1) d = R) := Lib.hid hR
  rw [hR]
  clear hH hR
  go_enter Try.func100, Try.ntmps100
  go_wp2_with fail
  go_loopw [7, 8] (fun vi vs wr => ∃ (i s : Nat) (dk : Array Int), vi = .int .i64 i ∧ vs = .int .i64 s ∧ s ≤ 5 ∧ a < i ∧ i ≤ b ∧ dk.size = d.size ∧ RowAt w blk off dk wr ∧ partialIns ltInt a b (5 - s) i dk = R) (fun _ vs _ => 5 - (intOf vs).toNat)
  case atStart => exact ⟨a + 1, 0, d, by go_num, rfl, by omega, by omega, by omega, rfl, .start HH.out, HR.out⟩
  case round =>
    obtain ⟨i, s, dk, rfl, rfl, hs5, hai, hib, hsk, A, hO⟩ := hrel
    have HA := Lib.hid A; have HO := Lib.hid hO
    clear A hO
    by_cases hs : s < 5
    · have hs' : (s : Int) < 5 := by omega
      obtain ⟨K, hK⟩ : ∃ K, scanSorted ltInt dk b i = K := ⟨_, rfl⟩
      have HK := Lib.hid hK
      clear hK
      go_upto_block 2 with (fail)
      go_cut [7] (fun s7 wx => s7 = .int .i64 K ∧ i ≤ K ∧ K ≤ b ∧ RowAt w blk off dk wx)
      case first =>
        go_wp2_with fail
        go_loopw [7] (fun vi wr2 => ∃ k : Nat, vi = .int .i64 k ∧ i ≤ k ∧ k ≤ b ∧ RowAt w blk off dk wr2 ∧ scanSorted ltInt dk b k = K) (fun vi _ => b - (intOf vi).toNat)
        case atStart => exact ⟨i, rfl, Nat.le_refl _, hib, HA.out, HK.out⟩
        case round =>
          obtain ⟨k, rfl, hik, hkb, A2, hS⟩ := hrel
          obtain ⟨G, hG⟩ : ∃ G : Nat → Int, ∀ t, G t = dk[t]! := ⟨fun t => dk[t]!, fun _ => rfl⟩
          obtain ⟨cw, fw⟩ := cells_gat A2 HH.out hsk hG
          have HA2 := Lib.hid A2; have HS := Lib.hid hS; have HG := Lib.hid hG
          clear A2 hS hG
          by_cases hkb' : k < b
          · go_wp2_with fail
            go_big_quiet (first | (go_at_call 101; refine Calls.quiet_of_same (lessN_any _ _ _)))
            cases hl : ltInt (G k) (G (k - 1))
            · go_wp2_with fail
              go_roundw
              case rel => exact ⟨k + 1, by go_num, by omega, by omega, HA2.out.drewN nq, by rw [← HS.out, scanSorted_go ltInt dk b k hkb' (by rw [← HG.out, ← HG.out]; exact hl)]⟩
              case measure => simp [Go.Proofs.intOf]; omega
            · go_wp2_with fail
              go_meet
              case rel => exact ⟨by rw [← HS.out, scanSorted_stop ltInt dk b k (Or.inr (by rw [← HG.out, ← HG.out]; exact hl))], by have h := scanSorted_stop ltInt dk b k (Or.inr (by rw [← HG.out, ← HG.out]; exact hl)); rw [HS.out] at h; omega, by have h := scanSorted_stop ltInt dk b k (Or.inr (by rw [← HG.out, ← HG.out]; exact hl)); rw [HS.out] at h; omega, HA2.out.drewN nq⟩
          · go_wp2_with fail
            go_big_quiet (fail)
            go_wp2_with fail
            go_meet
            case rel =>
              have h := scanSorted_stop ltInt dk b k (Or.inl hkb')
              rw [HS.out] at h
              exact ⟨by rw [h], by omega, by omega, HA2.out.drewN nq⟩
      case rest =>
        obtain ⟨rfl, hiK, hKb, A2⟩ := hcut
        have HA2 := Lib.hid A2
        clear A2
        by_cases hKe : K = b
        · have hv : R = (dk, true) := by rw [← HO.out, pi_true ltInt a b s i dk hs (by rw [HK.out, hKe])]
          subst hKe
          have HV := Lib.hid hv
          clear hv
          go_wp2_with fail
          go_ret
          exact ⟨by rw [HV.out]; rfl, by rw [HV.out]; exact HA2.out⟩
        have hKe' : ¬ (K : Int) = (b : Int) := by omega
        by_cases h50 : b - a < 50
        · have hv : R = (dk, false) := by rw [← HO.out, pi_short ltInt a b s i dk hs (by rw [HK.out]; exact hKe) h50]
          have HV := Lib.hid hv
          have h50' : (b : Int) - (a : Int) < 50 := by omega
          clear hv
          go_wp2_with fail
          go_ret
          exact ⟨by rw [HV.out]; rfl, by rw [HV.out]; exact HA2.out⟩
        have h50' : ¬ (b : Int) - (a : Int) < 50 := by omega
        have HKE := Lib.hid hKe; have H50 := Lib.hid h50
        clear hKe h50
        go_upto_region 11 with (fail)
        go_cut [] (fun wx => RowAt w blk off (swp dk K (K - 1)) wx)
        case first =>
          obtain ⟨G, hG⟩ : ∃ G : Nat → Int, ∀ t, G t = dk[t]! := ⟨fun t => dk[t]!, fun _ => rfl⟩
          obtain ⟨cw, fw⟩ := cells_gat HA2.out HH.out hsk hG
          have HG := Lib.hid hG
          clear hG
          go_region
          go_wp2_with fail
          go_meet
          case rel => exact HA2.out.swap (by omega) (by omega) (by rw [HG.out]) (by rw [HG.out])
        case rest =>
          have HA3 := Lib.hid hcut
          have hs1 : (swp dk K (K - 1)).size = d.size := by rw [size_swp]; exact hsk
          clear hcut
          have hKa : a < K := by omega
          go_upto_if 61 with (fail)
          go_cut [9] (fun s9 wx => ∃ D : Array Int, D.size = d.size ∧ fixDown ltInt a K (swp dk K (K - 1)) = D ∧ RowAt w blk off D wx)
          case first =>
            by_cases hka : K - a ≥ 2
            · have hka' : (2 : Int) ≤ (K : Int) - (a : Int) := by omega
              go_wp2_with fail
              go_loopw [9] (fun vj wr2 => ∃ (j : Nat) (dj : Array Int), vj = .int .i64 j ∧ j ≤ K - 1 ∧ dj.size = d.size ∧ RowAt w blk off dj wr2 ∧ shiftDown ltInt j dj = shiftDown ltInt (K - 1) (swp dk K (K - 1))) (fun vj _ => (Go.Proofs.intOf vj).toNat)
              case atStart => exact ⟨K - 1, _, by congr 1; omega, Nat.le_refl _, hs1, HA3.out, rfl⟩
              case round =>
                obtain ⟨j, dj, rfl, hjK, hsj, A4, hDn⟩ := hrel
                have HA4 := Lib.hid A4
                have HDn := Lib.hid hDn
                clear A4 hDn
                have hfd : ∀ D, shiftDown ltInt j dj = D → fixDown ltInt a K (swp dk K (K - 1)) = D := fun D h => by unfold fixDown; rw [if_pos hka, ← HDn.out, h]
                have HFD := Lib.hid hfd
                clear hfd
                by_cases hj1 : 1 ≤ j
                · have hj1' : (1 : Int) ≤ (j : Int) := by omega
                  obtain ⟨G, hG⟩ : ∃ G : Nat → Int, ∀ t, G t = dj[t]! := ⟨fun t => dj[t]!, fun _ => rfl⟩
                  obtain ⟨cw, fw⟩ := cells_gat HA4.out HH.out hsj hG
                  have HG := Lib.hid hG
                  clear hG
                  go_wp2_with fail
                  go_big_quiet (first | (go_at_call 101; refine Calls.quiet_of_same (lessN_any _ _ _)))
                  have HA5 := Lib.hid (HA4.out.drewN nq)
                  generalize wr.drewN nq = wr5 at HA5 ⊢
                  clear cw fw nq
                  obtain ⟨cw, fw⟩ := cells_gat HA5.out HH.out hsj HG.out
                  cases hl : ltInt (G j) (G (j - 1))
                  · go_wp2_with fail
                    go_meet
                    case rel => exact ⟨dj, hsj, HFD.out _ (shiftDown_stop ltInt j dj (Or.inr (by rw [← HG.out, ← HG.out]; exact hl))), HA5.out⟩
                  · go_wp2_with fail
                    go_region
                    go_wp2_with fail
                    go_roundw
                    case rel => exact ⟨j - 1, swp dj j (j - 1), by congr 1; omega, by omega, by rw [size_swp]; exact hsj, HA5.out.swap (by omega) (by omega) (by rw [HG.out]) (by rw [HG.out]), by rw [← HDn.out, shiftDown_go ltInt j dj (by omega) (by rw [← HG.out, ← HG.out]; exact hl)]⟩
                    case measure => simp [Go.Proofs.intOf]; omega
                · have hj1' : ¬ (1 : Int) ≤ (j : Int) := by omega
                  go_wp2_with fail
                  go_meet
                  case rel => exact ⟨dj, hsj, HFD.out _ (shiftDown_stop ltInt j dj (Or.inl (by omega))), HA4.out⟩
            · have hka' : ¬ (2 : Int) ≤ (K : Int) - (a : Int) := by omega
              go_wp2_with fail
              go_meet
              case rel => exact ⟨_, hs1, by unfold fixDown; rw [if_neg hka], HA3.out⟩
          case rest =>
            obtain ⟨D, hsD, hD, A6⟩ := hcut
            have HD := Lib.hid hD; have HA6 := Lib.hid A6
            clear hD A6 HA3
            have HFIN : Hid (∀ U, fixUp ltInt b K D = U → partialIns ltInt a b (5 - (s + 1)) K U = R) := Lib.hid fun U h => by rw [← HO.out, pi_go ltInt a b s i K dk hs HK.out HKE.out H50.out, HD.out, h]
            by_cases hkb : b - K ≥ 2
            · have hkb' : (2 : Int) ≤ (b : Int) - (K : Int) := by omega
              go_wp2_with fail
              go_loopw [10] (fun vj wr2 => ∃ (j : Nat) (du : Array Int), vj = .int .i64 j ∧ K + 1 ≤ j ∧ j ≤ b ∧ du.size = d.size ∧ RowAt w blk off du wr2 ∧ shiftUp ltInt b j du = shiftUp ltInt b (K + 1) D) (fun vj _ => b - (Go.Proofs.intOf vj).toNat)
              case atStart => exact ⟨K + 1, _, by go_num, Nat.le_refl _, by omega, hsD, HA6.out, rfl⟩
              case round =>
                obtain ⟨j, du, rfl, hKj, hjb, hsu, A7, hU⟩ := hrel
                have HA7 := Lib.hid A7
                have HU := Lib.hid hU
                clear A7 hU
                have hfu : ∀ X, shiftUp ltInt b j du = X → fixUp ltInt b K D = X := fun X h => by unfold fixUp; rw [if_pos hkb, ← HU.out, h]
                have HFU := Lib.hid hfu
                clear hfu
                by_cases hjl : j < b
                · have hjl' : (j : Int) < (b : Int) := by omega
                  obtain ⟨G, hG⟩ : ∃ G : Nat → Int, ∀ t, G t = du[t]! := ⟨fun t => du[t]!, fun _ => rfl⟩
                  obtain ⟨cw, fw⟩ := cells_gat HA7.out HH.out hsu hG
                  have HG := Lib.hid hG
                  clear hG
                  go_wp2_with fail
                  go_big_quiet (first | (go_at_call 101; refine Calls.quiet_of_same (lessN_any _ _ _)))
                  have HA8 := Lib.hid (HA7.out.drewN nq)
                  generalize wr.drewN nq = wr8 at HA8 ⊢
                  clear cw fw nq
                  obtain ⟨cw, fw⟩ := cells_gat HA8.out HH.out hsu HG.out
                  cases hl : ltInt (G j) (G (j - 1))
                  · go_wp2_with fail
                    go_roundw
                    case rel => exact ⟨K, s + 1, du, rfl, by go_num, by omega, by omega, hKb, hsu, HA8.out, HFIN.out _ (HFU.out _ (shiftUp_stop ltInt b j du (Or.inr (by rw [← HG.out, ← HG.out]; exact hl))))⟩
                    case measure => simp [Go.Proofs.intOf]; omega
                  · go_wp2_with fail
                    go_region
                    go_wp2_with fail
                    go_roundw
                    case rel => exact ⟨j + 1, swp du j (j - 1), by go_num, by omega, by omega, by rw [size_swp]; exact hsu, HA8.out.swap (by omega) (by omega) (by rw [HG.out]) (by rw [HG.out]), by rw [← HU.out, shiftUp_go ltInt b j du hjl (by rw [← HG.out, ← HG.out]; exact hl)]⟩
                    case measure => simp [Go.Proofs.intOf]; omega
                · have hjl' : ¬ (j : Int) < (b : Int) := by omega
                  go_wp2_with fail
                  go_roundw
                  case rel => exact ⟨K, s + 1, du, rfl, by go_num, by omega, by omega, hKb, hsu, HA7.out, HFIN.out _ (HFU.out _ (shiftUp_stop ltInt b j du (Or.inl hjl)))⟩
                  case measure => simp [Go.Proofs.intOf]; omega
            · have hkb' : ¬ (2 : Int) ≤ (b : Int) - (K : Int) := by omega
              go_wp2_with fail
              go_roundw
              case rel => exact ⟨K, s + 1, D, rfl, by go_num, by omega, by omega, hKb, hsD, HA6.out, HFIN.out _ (by unfold fixUp; rw [if_neg hkb])⟩
              case measure => simp [Go.Proofs.intOf]; omega
    · obtain rfl : s = 5 := by omega
      have hv : R = (dk, false) := by rw [← HO.out, pi_end]
      have HV := Lib.hid hv
      clear hv hs
      go_wp2_with fail
      go_ret
      exact ⟨by rw [HV.out]; rfl, by rw [HV.out]; exact HA.out⟩
end Go.Proofs.Ythffdmncdoogpaa
