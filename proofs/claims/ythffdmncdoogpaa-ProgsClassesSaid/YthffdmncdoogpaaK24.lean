/- Texts merged by program: PgPart. No condition. -/
import Derived.Test.YthffdmncdoogpaaK19
import Derived.Sort.WalkC4
set_option linter.unusedVariables false
/- slices.Sort's partition, of runes (the walk by gen12part.py). -/
namespace Go.Proofs.Ythffdmncdoogpaa
open Go Go.RowKit Go.Sort

set_option maxHeartbeats 12800000 in
set_option maxRecDepth 100000 in
theorem partN_any (blk off cap a b pivot : Nat) (d : Array Int) (w : World) (hH : Holds encN w blk off d) (hap : a ≤ pivot) (hpb : pivot < b) (hb : b ≤ d.size) (hsz : d.size < 4611686018427387904) :
    Calls Try.prog 103 #[.slice (some ⟨blk, off, none⟩) d.size cap, .int .i64 a, .int .i64 b, .int .i64 pivot] w fun e w' =>
      e = .returned (.tuple #[.int .i64 (Sort.partition ltInt d a b pivot).1, .bool (Sort.partition ltInt d a b pivot).2.1]) ∧ RowAt w blk off (Sort.partition ltInt d a b pivot).2.2 w' := by
  have hla : a < d.size := by omega
  have hlp : pivot < d.size := by omega
  obtain ⟨G, hG⟩ : ∃ G : Nat → Int, ∀ j, G j = d[j]! := ⟨fun j => d[j]!, fun _ => rfl⟩
  have ca : w.cell? ⟨blk, off + a, none⟩ = some (.int .i32 (G a)) := by rw [hG]; exact (hH a hla).1
  have fa := (hH a hla).2
  have cp : w.cell? ⟨blk, off + pivot, none⟩ = some (.int .i32 (G pivot)) := by rw [hG]; exact (hH pivot hlp).1
  have fp := (hH pivot hlp).2
  obtain ⟨v', hy'⟩ := cell?_setCell_some (w := w) (p := ⟨blk, off + a, none⟩) (x := .int .i32 (G pivot)) (q := ⟨blk, off + pivot, none⟩) cp
  have AG := Lib.hid hG
  have AH := Lib.hid hH
  clear hG hH
  go_enter Try.func103, Try.ntmps103
  go_wp2
  go_region
  go_wp2
  have A1 := Lib.hid ((RowAt.start AH.out).swap (i := a) (j := pivot) (x := .int .i32 (G pivot)) (y := .int .i32 (G a)) hla hlp (by rw [AG.out]) (by rw [AG.out]))
  generalize ((w.setCell ⟨blk, off + a, none⟩ (.int .i32 (G pivot))).setCell ⟨blk, off + pivot, none⟩ (.int .i32 (G a))).drew = W1 at A1 ⊢
  clear ca fa cp fp hy' v' AG
  obtain ⟨i, hi⟩ : ∃ i, i = a + 1 := ⟨_, rfl⟩
  obtain ⟨j, hj⟩ : ∃ j, j = b - 1 := ⟨_, rfl⟩
  obtain ⟨dk, hdk⟩ : ∃ dk, dk = swp d a pivot := ⟨_, rfl⟩
  rw [← hdk] at A1
  have ei : ((a : Int) + 1) = (i : Int) := by omega
  have ej : ((b : Int) - 1) = (j : Int) := by omega
  rw [ei, ej]
  have hai : a < i := by omega
  have hij : i ≤ j + 1 := by omega
  have hjb : j < b := by omega
  have hs : dk.size = d.size := by rw [hdk]; exact size_swp _ _ _
  have HI := Lib.hid hi; have HJ := Lib.hid hj; have HDK := Lib.hid hdk
  clear hi hj hdk ei ej
  obtain ⟨Gk, hGk⟩ : ∃ Gk : Nat → Int, ∀ t, Gk t = dk[t]! := ⟨fun t => dk[t]!, fun _ => rfl⟩
  have HGk := Lib.hid hGk
  clear hGk
  go_loopw [10] (fun vi w1 => ∃ i' : Nat, vi = .int .i64 i' ∧ i ≤ i' ∧ i' ≤ j + 1 ∧ RowAt w blk off dk w1 ∧ Hid (scanUp (fun x => ltInt x dk[a]!) dk j i' = scanUp (fun x => ltInt x dk[a]!) dk j i)) (fun vi _ => j + 1 - (Go.Proofs.intOf vi).toNat)
  case atStart => exact ⟨i, rfl, Nat.le_refl _, hij, A1.out, rfl⟩
  case round =>
    clear A1
    obtain ⟨i', rfl, hii, hij', AU, hsc⟩ := hrel
    replace AU := Lib.hid AU
    obtain ⟨c1, f1⟩ := cells_gat AU.out AH.out hs HGk.out
    clear f1
    by_cases hle : i' ≤ j
    · go_wp2_with fail
      go_big_quiet (first | (go_at_call 101; refine Calls.quiet_of_same (lessN_any _ _ _)))
      go_wp2
      · have ht : ltInt (Gk i') (Gk a) = true := by assumption
        go_roundw
        case rel => exact ⟨i' + 1, by go_num, by omega, by omega, AU.out.drewN nq, (scanUp_go (fun x => ltInt x dk[a]!) dk j i' hle (by rw [← HGk.out a, ← HGk.out i']; exact ht)).symm.trans hsc.out⟩
        case measure => simp [Go.Proofs.intOf]; omega
      · have ht : ltInt (Gk i') (Gk a) = false := by assumption
        have hi2 : Hid (i' = scanUp (fun x => ltInt x dk[a]!) dk j i) := (scanUp_end (fun x => ltInt x dk[a]!) dk j i' (Or.inr (by rw [← HGk.out a, ← HGk.out i']; exact ht))).symm.trans hsc.out
        clear ht
        replace AU := Lib.hid (AU.out.drewN nq)
        generalize wr.drewN nq = Wd at AU ⊢
        clear c1 hsc nq
        go_loopw [11] (fun vj w2 => ∃ j' : Nat, vj = .int .i64 j' ∧ j' ≤ j ∧ i' ≤ j' + 1 ∧ RowAt w blk off dk w2 ∧ Hid (scanDown (fun x => !ltInt x dk[a]!) dk i' j' = scanDown (fun x => !ltInt x dk[a]!) dk i' j)) (fun vj _ => (Go.Proofs.intOf vj).toNat)
        case atStart => exact ⟨j, rfl, Nat.le_refl _, hij', AU.out, rfl⟩
        case round =>
          clear AU
          obtain ⟨j', rfl, hjj, hij2, A2, hsd⟩ := hrel
          replace A2 := Lib.hid A2
          obtain ⟨c2, f2⟩ := cells_gat A2.out AH.out hs HGk.out
          clear f2
          by_cases hle2 : i' ≤ j'
          · go_wp2_with fail
            go_big_quiet (first | (go_at_call 101; refine Calls.quiet_of_same (lessN_any _ _ _)))
            go_wp2
            · have ht : (!ltInt (Gk j') (Gk a)) = true := by assumption
              go_roundw
              case rel => exact ⟨j' - 1, by go_num, by omega, by omega, A2.out.drewN nq, (scanDown_go (fun x => !ltInt x dk[a]!) dk i' j' hle2 (by omega) (by rw [← HGk.out a, ← HGk.out j']; exact ht)).symm.trans hsd.out⟩
              case measure => simp [Go.Proofs.intOf]; omega
            · have ht : (!ltInt (Gk j') (Gk a)) = false := by assumption
              have hj2 : Hid (j' = scanDown (fun x => !ltInt x dk[a]!) dk i' j) := (scanDown_end (fun x => !ltInt x dk[a]!) dk i' j' (Or.inr (by rw [← HGk.out a, ← HGk.out j']; exact ht))).symm.trans hsd.out
              have A3 := Lib.hid (A2.out.drewN nq)
              generalize wr.drewN nq = W3 at A3 ⊢
              clear c2 hsd ht A2 nq
              obtain ⟨c3, f3⟩ := cells_gat A3.out AH.out hs HGk.out
              have hlt3 := part_scans_lt ltInt a i j dk (by omega) hi2.out hj2.out hle2
              obtain ⟨v3, hy3⟩ := cell?_setCell_some (w := W3) (p := ⟨blk, off + i', none⟩) (x := .int .i32 (Gk j')) (q := ⟨blk, off + j', none⟩) (c3 j' (by omega))
              go_wp2
              obtain ⟨R, hR⟩ : ∃ R, partLoop ltInt a (i' + 1) (j' - 1) (swp dk i' j') = R := ⟨_, rfl⟩
              have HP : Hid (Sort.partition ltInt d a b pivot = (R.1, false, swp R.2 R.1 a)) := by rw [← hR]; exact part_first_go ltInt d a b pivot HI.out HJ.out HDK.out hi2.out hj2.out (by omega)
              have HR := Lib.hid hR
              clear hR
              go_region
              go_wp2
              have AS := Lib.hid (A3.out.swap (i := i') (j := j') (x := .int .i32 (Gk j')) (y := .int .i32 (Gk i')) (by omega) (by omega) (by rw [HGk.out]) (by rw [HGk.out]))
              have hs2 : (swp dk i' j').size = d.size := by rw [size_swp]; exact hs
              generalize ((W3.setCell ⟨blk, off + i', none⟩ (.int .i32 (Gk j'))).setCell ⟨blk, off + j', none⟩ (.int .i32 (Gk i'))).drew = W4 at AS ⊢
              clear c3 f3 hy3 v3 A3 HI HJ HDK hi2 hj2 HGk
              go_loopw [10, 11] (fun vi vj wr => ∃ (i j : Nat) (dk : Array Int), vi = .int .i64 i ∧ vj = .int .i64 j ∧ a < i ∧ i ≤ j + 1 ∧ j < b ∧ dk.size = d.size ∧ RowAt w blk off dk wr ∧ partLoop ltInt a i j dk = R)
                (fun vi vj _ => (Go.Proofs.intOf vj).toNat + 1 - (Go.Proofs.intOf vi).toNat)
              case atStart => exact ⟨i' + 1, j' - 1, _, by go_num, by go_num, by omega, by omega, by omega, hs2, AS.out, HR.out⟩
              case round =>
                clear AS HR hs2
                rename Array Int => dk0
                obtain ⟨i, j, dk, rfl, rfl, hai, hij, hjb, hs, A0, heq⟩ := hrel
                have AE := Lib.hid heq
                have A1 := Lib.hid A0
                obtain ⟨Gk, hGk⟩ : ∃ Gk : Nat → Int, ∀ t, Gk t = dk[t]! := ⟨fun t => dk[t]!, fun _ => rfl⟩
                have HGk := Lib.hid hGk
                clear heq A0 hGk
                go_wp2
                go_loopw [10] (fun vi w1 => ∃ i' : Nat, vi = .int .i64 i' ∧ i ≤ i' ∧ i' ≤ j + 1 ∧ RowAt w blk off dk w1 ∧ Hid (scanUp (fun x => ltInt x dk[a]!) dk j i' = scanUp (fun x => ltInt x dk[a]!) dk j i)) (fun vi _ => j + 1 - (Go.Proofs.intOf vi).toNat)
                case atStart => exact ⟨i, rfl, Nat.le_refl _, hij, A1.out, rfl⟩
                case round =>
                  clear A1
                  obtain ⟨i', rfl, hii, hij', AU, hsc⟩ := hrel
                  replace AU := Lib.hid AU
                  obtain ⟨c1, f1⟩ := cells_gat AU.out AH.out hs HGk.out
                  clear f1
                  by_cases hle : i' ≤ j
                  · go_wp2_with fail
                    go_big_quiet (first | (go_at_call 101; refine Calls.quiet_of_same (lessN_any _ _ _)))
                    go_wp2
                    · have ht : ltInt (Gk i') (Gk a) = true := by assumption
                      go_roundw
                      case rel => exact ⟨i' + 1, by go_num, by omega, by omega, AU.out.drewN nq, (scanUp_go (fun x => ltInt x dk[a]!) dk j i' hle (by rw [← HGk.out a, ← HGk.out i']; exact ht)).symm.trans hsc.out⟩
                      case measure => simp [Go.Proofs.intOf]; omega
                    · have ht : ltInt (Gk i') (Gk a) = false := by assumption
                      have hi2 : Hid (i' = scanUp (fun x => ltInt x dk[a]!) dk j i) := (scanUp_end (fun x => ltInt x dk[a]!) dk j i' (Or.inr (by rw [← HGk.out a, ← HGk.out i']; exact ht))).symm.trans hsc.out
                      clear ht
                      replace AU := Lib.hid (AU.out.drewN nq)
                      generalize wr.drewN nq = Wd at AU ⊢
                      clear c1 hsc nq
                      go_loopw [11] (fun vj w2 => ∃ j' : Nat, vj = .int .i64 j' ∧ j' ≤ j ∧ i' ≤ j' + 1 ∧ RowAt w blk off dk w2 ∧ Hid (scanDown (fun x => !ltInt x dk[a]!) dk i' j' = scanDown (fun x => !ltInt x dk[a]!) dk i' j)) (fun vj _ => (Go.Proofs.intOf vj).toNat)
                      case atStart => exact ⟨j, rfl, Nat.le_refl _, hij', AU.out, rfl⟩
                      case round =>
                        clear AU
                        obtain ⟨j', rfl, hjj, hij2, A2, hsd⟩ := hrel
                        replace A2 := Lib.hid A2
                        obtain ⟨c2, f2⟩ := cells_gat A2.out AH.out hs HGk.out
                        clear f2
                        by_cases hle2 : i' ≤ j'
                        · go_wp2_with fail
                          go_big_quiet (first | (go_at_call 101; refine Calls.quiet_of_same (lessN_any _ _ _)))
                          go_wp2
                          · have ht : (!ltInt (Gk j') (Gk a)) = true := by assumption
                            go_roundw
                            case rel => exact ⟨j' - 1, by go_num, by omega, by omega, A2.out.drewN nq, (scanDown_go (fun x => !ltInt x dk[a]!) dk i' j' hle2 (by omega) (by rw [← HGk.out a, ← HGk.out j']; exact ht)).symm.trans hsd.out⟩
                            case measure => simp [Go.Proofs.intOf]; omega
                          · have ht : (!ltInt (Gk j') (Gk a)) = false := by assumption
                            have hj2 : Hid (j' = scanDown (fun x => !ltInt x dk[a]!) dk i' j) := (scanDown_end (fun x => !ltInt x dk[a]!) dk i' j' (Or.inr (by rw [← HGk.out a, ← HGk.out j']; exact ht))).symm.trans hsd.out
                            have A3 := Lib.hid (A2.out.drewN nq)
                            generalize wr.drewN nq = W3 at A3 ⊢
                            clear c2 hsd ht A2 nq
                            obtain ⟨c3, f3⟩ := cells_gat A3.out AH.out hs HGk.out
                            have hlt3 := part_scans_lt ltInt a i j dk (by omega) hi2.out hj2.out hle2
                            obtain ⟨v3, hy3⟩ := cell?_setCell_some (w := W3) (p := ⟨blk, off + i', none⟩) (x := .int .i32 (Gk j')) (q := ⟨blk, off + j', none⟩) (c3 j' (by omega))
                            go_wp2
                            go_region
                            all_goals go_wp2
                            all_goals go_roundw
                            case rel => exact ⟨i' + 1, j' - 1, swp dk i' j', by go_num, by go_num, by omega, by omega, by omega, by rw [size_swp]; exact hs, A3.out.swap (by omega) (by omega) (by rw [HGk.out]) (by rw [HGk.out]), (part_go ltInt a i j dk hi2.out hj2.out (by omega)).symm.trans AE.out⟩
                            case measure => simp [Go.Proofs.intOf]; omega
                        · go_wp2_with fail
                          go_big_quiet (first | (go_at_call 101; refine Calls.quiet_of_same (lessN_any _ _ _)))
                          have hj2 : Hid (j' = scanDown (fun x => !ltInt x dk[a]!) dk i' j) := (scanDown_end (fun x => !ltInt x dk[a]!) dk i' j' (Or.inl hle2)).symm.trans hsd.out
                          clear c2 hsd
                          have A3 := Lib.hid (A2.out.drewN nq)
                          generalize wr.drewN nq = W3 at A3 ⊢
                          obtain ⟨c3, f3⟩ := cells_gat A3.out AH.out hs HGk.out
                          obtain ⟨v3, hy3⟩ := cell?_setCell_some (w := W3) (p := ⟨blk, off + j', none⟩) (x := .int .i32 (Gk a)) (q := ⟨blk, off + a, none⟩) (c3 a (by omega))
                          go_wp2
                          go_region
                          all_goals (try go_wp2)
                          all_goals go_ret2
                          all_goals have e : Sort.partition ltInt d a b pivot = (j', false, swp dk j' a) := by rw [HP.out, ← (part_break ltInt a i j dk hi2.out hj2.out (by omega)).symm.trans AE.out]
                          exact ⟨by rw [e] <;> rfl, by rw [e]; exact A3.out.swap (by omega) (by omega) (by rw [HGk.out]) (by rw [HGk.out])⟩
                  · go_wp2_with fail
                    go_big_quiet (first | (go_at_call 101; refine Calls.quiet_of_same (lessN_any _ _ _)))
                    go_wp2
                    have hi2 : Hid (i' = scanUp (fun x => ltInt x dk[a]!) dk j i) := (scanUp_end (fun x => ltInt x dk[a]!) dk j i' (Or.inl hle)).symm.trans hsc.out
                    replace AU := Lib.hid (AU.out.drewN nq)
                    generalize wr.drewN nq = Wd at AU ⊢
                    clear c1 hsc nq
                    go_loopw [11] (fun vj w2 => ∃ j' : Nat, vj = .int .i64 j' ∧ j' ≤ j ∧ i' ≤ j' + 1 ∧ RowAt w blk off dk w2 ∧ Hid (scanDown (fun x => !ltInt x dk[a]!) dk i' j' = scanDown (fun x => !ltInt x dk[a]!) dk i' j)) (fun vj _ => (Go.Proofs.intOf vj).toNat)
                    case atStart => exact ⟨j, rfl, Nat.le_refl _, hij', AU.out, rfl⟩
                    case round =>
                      clear AU
                      obtain ⟨j', rfl, hjj, hij2, A2, hsd⟩ := hrel
                      replace A2 := Lib.hid A2
                      obtain ⟨c2, f2⟩ := cells_gat A2.out AH.out hs HGk.out
                      clear f2
                      by_cases hle2 : i' ≤ j'
                      · exfalso; omega
                      · go_wp2_with fail
                        go_big_quiet (first | (go_at_call 101; refine Calls.quiet_of_same (lessN_any _ _ _)))
                        have hj2 : Hid (j' = scanDown (fun x => !ltInt x dk[a]!) dk i' j) := (scanDown_end (fun x => !ltInt x dk[a]!) dk i' j' (Or.inl hle2)).symm.trans hsd.out
                        clear c2 hsd
                        have A3 := Lib.hid (A2.out.drewN nq)
                        generalize wr.drewN nq = W3 at A3 ⊢
                        obtain ⟨c3, f3⟩ := cells_gat A3.out AH.out hs HGk.out
                        obtain ⟨v3, hy3⟩ := cell?_setCell_some (w := W3) (p := ⟨blk, off + j', none⟩) (x := .int .i32 (Gk a)) (q := ⟨blk, off + a, none⟩) (c3 a (by omega))
                        go_wp2
                        go_region
                        all_goals (try go_wp2)
                        all_goals go_ret2
                        all_goals have e : Sort.partition ltInt d a b pivot = (j', false, swp dk j' a) := by rw [HP.out, ← (part_break ltInt a i j dk hi2.out hj2.out (by omega)).symm.trans AE.out]
                        exact ⟨by rw [e] <;> rfl, by rw [e]; exact A3.out.swap (by omega) (by omega) (by rw [HGk.out]) (by rw [HGk.out])⟩
          · go_wp2_with fail
            go_big_quiet (first | (go_at_call 101; refine Calls.quiet_of_same (lessN_any _ _ _)))
            have hj2 : Hid (j' = scanDown (fun x => !ltInt x dk[a]!) dk i' j) := (scanDown_end (fun x => !ltInt x dk[a]!) dk i' j' (Or.inl hle2)).symm.trans hsd.out
            clear c2 hsd
            have A3 := Lib.hid (A2.out.drewN nq)
            generalize wr.drewN nq = W3 at A3 ⊢
            obtain ⟨c3, f3⟩ := cells_gat A3.out AH.out hs HGk.out
            obtain ⟨v3, hy3⟩ := cell?_setCell_some (w := W3) (p := ⟨blk, off + j', none⟩) (x := .int .i32 (Gk a)) (q := ⟨blk, off + a, none⟩) (c3 a (by omega))
            go_wp2
            go_region
            all_goals (try go_wp2)
            all_goals go_ret2
            all_goals have e : Sort.partition ltInt d a b pivot = (j', true, swp dk j' a) := part_first_break ltInt d a b pivot HI.out HJ.out HDK.out hi2.out hj2.out (by omega)
            exact ⟨by rw [e] <;> rfl, by rw [e]; exact A3.out.swap (by omega) (by omega) (by rw [HGk.out]) (by rw [HGk.out])⟩
    · go_wp2_with fail
      go_big_quiet (first | (go_at_call 101; refine Calls.quiet_of_same (lessN_any _ _ _)))
      go_wp2
      have hi2 : Hid (i' = scanUp (fun x => ltInt x dk[a]!) dk j i) := (scanUp_end (fun x => ltInt x dk[a]!) dk j i' (Or.inl hle)).symm.trans hsc.out
      replace AU := Lib.hid (AU.out.drewN nq)
      generalize wr.drewN nq = Wd at AU ⊢
      clear c1 hsc nq
      go_loopw [11] (fun vj w2 => ∃ j' : Nat, vj = .int .i64 j' ∧ j' ≤ j ∧ i' ≤ j' + 1 ∧ RowAt w blk off dk w2 ∧ Hid (scanDown (fun x => !ltInt x dk[a]!) dk i' j' = scanDown (fun x => !ltInt x dk[a]!) dk i' j)) (fun vj _ => (Go.Proofs.intOf vj).toNat)
      case atStart => exact ⟨j, rfl, Nat.le_refl _, hij', AU.out, rfl⟩
      case round =>
        clear AU
        obtain ⟨j', rfl, hjj, hij2, A2, hsd⟩ := hrel
        replace A2 := Lib.hid A2
        obtain ⟨c2, f2⟩ := cells_gat A2.out AH.out hs HGk.out
        clear f2
        by_cases hle2 : i' ≤ j'
        · exfalso; omega
        · go_wp2_with fail
          go_big_quiet (first | (go_at_call 101; refine Calls.quiet_of_same (lessN_any _ _ _)))
          have hj2 : Hid (j' = scanDown (fun x => !ltInt x dk[a]!) dk i' j) := (scanDown_end (fun x => !ltInt x dk[a]!) dk i' j' (Or.inl hle2)).symm.trans hsd.out
          clear c2 hsd
          have A3 := Lib.hid (A2.out.drewN nq)
          generalize wr.drewN nq = W3 at A3 ⊢
          obtain ⟨c3, f3⟩ := cells_gat A3.out AH.out hs HGk.out
          obtain ⟨v3, hy3⟩ := cell?_setCell_some (w := W3) (p := ⟨blk, off + j', none⟩) (x := .int .i32 (Gk a)) (q := ⟨blk, off + a, none⟩) (c3 a (by omega))
          go_wp2
          go_region
          all_goals (try go_wp2)
          all_goals go_ret2
          all_goals have e : Sort.partition ltInt d a b pivot = (j', true, swp dk j' a) := part_first_break ltInt d a b pivot HI.out HJ.out HDK.out hi2.out hj2.out (by omega)
          exact ⟨by rw [e] <;> rfl, by rw [e]; exact A3.out.swap (by omega) (by omega) (by rw [HGk.out]) (by rw [HGk.out])⟩
end Go.Proofs.Ythffdmncdoogpaa
