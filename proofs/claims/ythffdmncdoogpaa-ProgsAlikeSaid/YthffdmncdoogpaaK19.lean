/- Texts merged by program: PgPartEq. No condition. -/
import Derived.Test.YthffdmncdoogpaaK18
import Derived.Sort.WalkC
set_option linter.unusedVariables false
/- slices.Sort's partitionEqual, of runes (the walk by gen12parteq.py). -/
namespace Go.Proofs.Ythffdmncdoogpaa
open Go Go.RowKit Go.Sort

theorem cells_gat {w wr : World} {blk off : Nat} {d dk : Array Int} {G : Nat → Int} (h : RowAt w blk off dk wr) (h0 : Holds encN w blk off d) (hs : dk.size = d.size) (hG : ∀ t, G t = dk[t]!) :
    (∀ t, t < d.size → wr.cell? ⟨blk, off + t, none⟩ = some (.int .i32 (G t))) ∧ (∀ t, t < d.size → wr.frozen? ⟨blk, off + t, none⟩ = false) :=
  ⟨fun t ht => by rw [hG]; exact (h.holds h0 hs t (by omega)).1, fun t ht => (h.holds h0 hs t (by omega)).2⟩

set_option maxHeartbeats 6400000 in
set_option maxRecDepth 100000 in
theorem parteqN_any (blk off cap a b pivot : Nat) (d : Array Int) (w : World) (hH : Holds encN w blk off d) (hap : a ≤ pivot) (hpb : pivot < b) (hb : b ≤ d.size) (hsz : d.size < 4611686018427387904) :
    Calls Try.prog 102 #[.slice (some ⟨blk, off, none⟩) d.size cap, .int .i64 a, .int .i64 b, .int .i64 pivot] w fun e w' =>
      e = .returned (.int .i64 (Sort.partitionEqual ltInt d a b pivot).1) ∧ RowAt w blk off (Sort.partitionEqual ltInt d a b pivot).2 w' := by
  have hla : a < d.size := by omega
  have hlp : pivot < d.size := by omega
  obtain ⟨G, hG⟩ : ∃ G : Nat → Int, ∀ j, G j = d[j]! := ⟨fun j => d[j]!, fun _ => rfl⟩
  have ca : w.cell? ⟨blk, off + a, none⟩ = some (.int .i32 (G a)) := by rw [hG]; exact (hH a hla).1
  have fa := (hH a hla).2
  have cp : w.cell? ⟨blk, off + pivot, none⟩ = some (.int .i32 (G pivot)) := by rw [hG]; exact (hH pivot hlp).1
  have fp := (hH pivot hlp).2
  obtain ⟨v', hy'⟩ := cell?_setCell_some (w := w) (p := ⟨blk, off + a, none⟩) (x := .int .i32 (G pivot)) (q := ⟨blk, off + pivot, none⟩) cp
  have AG := Lib.hid hG
  have AH := Lib.hid hH
  clear hG hH
  go_enter Try.func102, Try.ntmps102
  go_wp2
  go_region
  go_wp2
  go_loopw [9, 10] (fun vi vj wr => ∃ (i j : Nat) (dk : Array Int), vi = .int .i64 i ∧ vj = .int .i64 j ∧ a < i ∧ i ≤ j + 1 ∧ j < b ∧ dk.size = d.size ∧ RowAt w blk off dk wr ∧ partEqLoop ltInt a i j dk = partEqLoop ltInt a (a + 1) (b - 1) (swp d a pivot))
    (fun vi vj _ => (Go.Proofs.intOf vj).toNat + 1 - (Go.Proofs.intOf vi).toNat)
  case atStart => exact ⟨a + 1, b - 1, swp d a pivot, by go_num, by go_num, by omega, by omega, by omega, size_swp _ _ _, (RowAt.start AH.out).swap hla hlp (by rw [AG.out]) (by rw [AG.out]), rfl⟩
  case round =>
    obtain ⟨i, j, dk, rfl, rfl, hai, hij, hjb, hs, A0, heq⟩ := hrel
    clear ca fa cp fp hy' v' AG
    have AE := Lib.hid heq
    have A1 := Lib.hid A0
    obtain ⟨Gk, hGk⟩ : ∃ Gk : Nat → Int, ∀ t, Gk t = dk[t]! := ⟨fun t => dk[t]!, fun _ => rfl⟩
    have HGk := Lib.hid hGk
    clear heq A0 hGk
    go_wp2
    go_loopw [9] (fun vi w1 => ∃ i' : Nat, vi = .int .i64 i' ∧ i ≤ i' ∧ i' ≤ j + 1 ∧ RowAt w blk off dk w1 ∧ Hid (scanUp (fun x => !ltInt dk[a]! x) dk j i' = scanUp (fun x => !ltInt dk[a]! x) dk j i)) (fun vi _ => j + 1 - (Go.Proofs.intOf vi).toNat)
    case atStart => exact ⟨i, rfl, Nat.le_refl _, hij, A1.out, rfl⟩
    case round =>
      clear A1
      obtain ⟨i', rfl, hii, hij', AU, hsc⟩ := hrel
      replace AU := Lib.hid AU
      obtain ⟨c1, f1⟩ := cells_gat AU.out AH.out hs HGk.out
      clear f1
      by_cases hle : i' ≤ j
      · go_wp2_with fail
        go_big_quiet (first | (go_at_call 101; refine Calls.quiet_of_same (lessN_any _ _ _)))
        go_wp2
        · have ht : (!ltInt (Gk a) (Gk i')) = true := by assumption
          go_roundw
          case rel => exact ⟨i' + 1, by go_num, by omega, by omega, AU.out.drewN nq, (scanUp_go (fun x => !ltInt dk[a]! x) dk j i' hle (by rw [← HGk.out a, ← HGk.out i']; exact ht)).symm.trans hsc.out⟩
          case measure => simp [Go.Proofs.intOf]; omega
        · have ht : (!ltInt (Gk a) (Gk i')) = false := by assumption
          have hi2 : Hid (i' = scanUp (fun x => !ltInt dk[a]! x) dk j i) := (scanUp_end (fun x => !ltInt dk[a]! x) dk j i' (Or.inr (by rw [← HGk.out a, ← HGk.out i']; exact ht))).symm.trans hsc.out
          clear ht
          replace AU := Lib.hid (AU.out.drewN nq)
          generalize wr.drewN nq = Wd at AU ⊢
          clear c1 hsc
          go_loopw [10] (fun vj w2 => ∃ j' : Nat, vj = .int .i64 j' ∧ j' ≤ j ∧ i' ≤ j' + 1 ∧ RowAt w blk off dk w2 ∧ Hid (scanDown (fun x => ltInt dk[a]! x) dk i' j' = scanDown (fun x => ltInt dk[a]! x) dk i' j)) (fun vj _ => (Go.Proofs.intOf vj).toNat)
          case atStart => exact ⟨j, rfl, Nat.le_refl _, hij', AU.out, rfl⟩
          case round =>
            clear AU
            obtain ⟨j', rfl, hjj, hij2, A2, hsd⟩ := hrel
            replace A2 := Lib.hid A2
            obtain ⟨c2, f2⟩ := cells_gat A2.out AH.out hs HGk.out
            clear f2
            by_cases hle2 : i' ≤ j'
            · go_wp2_with fail
              go_big_quiet (first | (go_at_call 101; refine Calls.quiet_of_same (lessN_any _ _ _)))
              go_wp2
              · have ht : ltInt (Gk a) (Gk j') = true := by assumption
                go_roundw
                case rel => exact ⟨j' - 1, by go_num, by omega, by omega, A2.out.drewN nq, (scanDown_go (fun x => ltInt dk[a]! x) dk i' j' hle2 (by omega) (by rw [← HGk.out a, ← HGk.out j']; exact ht)).symm.trans hsd.out⟩
                case measure => simp [Go.Proofs.intOf]; omega
              · have ht : ltInt (Gk a) (Gk j') = false := by assumption
                have hj2 : Hid (j' = scanDown (fun x => ltInt dk[a]! x) dk i' j) := (scanDown_end (fun x => ltInt dk[a]! x) dk i' j' (Or.inr (by rw [← HGk.out a, ← HGk.out j']; exact ht))).symm.trans hsd.out
                have A3 := Lib.hid (A2.out.drewN nq)
                generalize wr.drewN nq = W3 at A3 ⊢
                clear c2 hsd ht A2
                obtain ⟨c3, f3⟩ := cells_gat A3.out AH.out hs HGk.out
                obtain ⟨v3, hy3⟩ := cell?_setCell_some (w := W3) (p := ⟨blk, off + i', none⟩) (x := .int .i32 (Gk j')) (q := ⟨blk, off + j', none⟩) (c3 j' (by omega))
                have hlt3 := scans_lt ltInt a i j dk (by omega) hi2.out hj2.out hle2
                go_wp2
                go_region
                all_goals go_wp2
                all_goals go_roundw
                case rel => exact ⟨i' + 1, j' - 1, swp dk i' j', by go_num, by go_num, by omega, by omega, by omega, by rw [size_swp]; exact hs, A3.out.swap (by omega) (by omega) (by rw [HGk.out]) (by rw [HGk.out]), by rw [← AE.out]; exact (partEq_go ltInt a i j dk hi2.out hj2.out (by omega)).symm⟩
                case measure => simp [Go.Proofs.intOf]; omega
            · go_wp2_with fail
              go_big_quiet (first | (go_at_call 101; refine Calls.quiet_of_same (lessN_any _ _ _)))
              have hj2 : Hid (j' = scanDown (fun x => ltInt dk[a]! x) dk i' j) := (scanDown_end (fun x => ltInt dk[a]! x) dk i' j' (Or.inl hle2)).symm.trans hsd.out
              clear c2 hsd
              have A3 := A2.out.drewN nq
              generalize wr.drewN nq = W3 at A3 ⊢
              have HA3 := Lib.hid A3
              clear A3
              go_wp2
              go_ret
              have e := partEq_break ltInt a i j dk hi2.out hj2.out (by omega)
              refine ⟨?_, ?_⟩
              · unfold Sort.partitionEqual; rw [← AE.out, e]; rfl
              · unfold Sort.partitionEqual; rw [← AE.out, e]; exact HA3.out
      · go_wp2_with fail
        go_big_quiet (first | (go_at_call 101; refine Calls.quiet_of_same (lessN_any _ _ _)))
        go_wp2
        have hi2 : Hid (i' = scanUp (fun x => !ltInt dk[a]! x) dk j i) := (scanUp_end (fun x => !ltInt dk[a]! x) dk j i' (Or.inl hle)).symm.trans hsc.out
        replace AU := Lib.hid (AU.out.drewN nq)
        generalize wr.drewN nq = Wd at AU ⊢
        clear c1 hsc
        go_loopw [10] (fun vj w2 => ∃ j' : Nat, vj = .int .i64 j' ∧ j' ≤ j ∧ i' ≤ j' + 1 ∧ RowAt w blk off dk w2 ∧ Hid (scanDown (fun x => ltInt dk[a]! x) dk i' j' = scanDown (fun x => ltInt dk[a]! x) dk i' j)) (fun vj _ => (Go.Proofs.intOf vj).toNat)
        case atStart => exact ⟨j, rfl, Nat.le_refl _, hij', AU.out, rfl⟩
        case round =>
          clear AU
          obtain ⟨j', rfl, hjj, hij2, A2, hsd⟩ := hrel
          replace A2 := Lib.hid A2
          obtain ⟨c2, f2⟩ := cells_gat A2.out AH.out hs HGk.out
          clear f2
          by_cases hle2 : i' ≤ j'
          · exfalso; omega
          · go_wp2_with fail
            go_big_quiet (first | (go_at_call 101; refine Calls.quiet_of_same (lessN_any _ _ _)))
            have hj2 : Hid (j' = scanDown (fun x => ltInt dk[a]! x) dk i' j) := (scanDown_end (fun x => ltInt dk[a]! x) dk i' j' (Or.inl hle2)).symm.trans hsd.out
            clear c2 hsd
            have A3 := A2.out.drewN nq
            generalize wr.drewN nq = W3 at A3 ⊢
            have HA3 := Lib.hid A3
            clear A3
            go_wp2
            go_ret
            have e := partEq_break ltInt a i j dk hi2.out hj2.out (by omega)
            refine ⟨?_, ?_⟩
            · unfold Sort.partitionEqual; rw [← AE.out, e]; rfl
            · unfold Sort.partitionEqual; rw [← AE.out, e]; exact HA3.out
end Go.Proofs.Ythffdmncdoogpaa
