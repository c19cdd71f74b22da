/- Texts merged by program: PxRIndex. No condition. -/
import Derived.Test.YtaaadimkbhkpiaaDoorK24
import Derived.Test.YtaaadimkbhkpiaaDoorK32
import Derived.BigQuiet
import Derived.Deep.Cut
set_option linter.unusedVariables false
/- Index: the document's. No condition. -/
namespace Go.Proofs.YtaaadimkbhkpiaaDoor
open Go Go.RowKit

set_option maxHeartbeats 3200000 in
set_option maxRecDepth 100000 in
theorem rindex_any (B : Nat) (kk : Int) (s : ByteArray) (d : Nat) (w : World) (hin : RefIn w B kk s d) (v : Value) (l : List Int) (hR : Rns w v l) (hlen : l.length ≤ 1000000000000) (f : Int) (hf : I64 f) :
    Calls Tryd.prog 7 #[.pointer (some ⟨d, 0, none⟩), v, .int .i64 f] w fun e w' => ∃ r : Int, e = .returned (.int .i64 r) ∧ IndexIs (runesOf s) l (max f 0) r ∧ Below w.heap.size w w' := by
  obtain ⟨A, cc, rfl, hlc, hcm, -, hrow, -⟩ := id hR
  have HROW := Lib.hid hrow; have HIN := Lib.hid hin
  obtain ⟨hs1, -, g, cg, a, c, a', c', hwh, -, hra, -⟩ := id hin
  have HRA := Lib.hid hra; have HWH := Lib.hid hwh
  have HRL : Hid ((runesOf s).length ≤ 2147483648) := Lib.hid (by have := length_runesOf s; omega)
  obtain ⟨M, hM, hMf⟩ : ∃ M : Nat, max f 0 = (M : Int) ∧ ((0 ≤ f ∧ f = M) ∨ (f < 0 ∧ M = 0)) := ⟨(max f 0).toNat, by omega, by omega⟩
  have hk64 : (M : Int) ≤ 9223372036854775807 := by have := hf.2; omega
  rw [hM]
  obtain ⟨n, hn⟩ : ∃ n, (runesOf s).length = n := ⟨_, rfl⟩
  obtain ⟨m, hm⟩ : ∃ m, l.length = m := ⟨_, rfl⟩
  have HN := Lib.hid hn; have HMM := Lib.hid hm
  rw [hn] at HRL HWH
  rw [hm] at hlc hlen ⊢
  have hrl := HRL.out
  have HLEN : Hid (∀ W, Below w.heap.size w W → Calls Tryd.prog 15 #[.pointer (some ⟨d, 0, none⟩)] W fun e w' => e = .returned (.int .i64 (n : Nat)) ∧ W = w') := Lib.hid fun W hW => by
    have h := rlen_any (HIN.out.below hW)
    rw [HN.out] at h
    exact h
  clear hR hrow hin hwh hra hM hn hm hf
  rcases hMf with ⟨h0, rfl⟩ | ⟨h0, hM0⟩
  all_goals
    go_enter Tryd.func7, Tryd.ntmps7
    go_wp2_with fail
    go_loopw [7] (fun at' wr => ∃ k : Nat, at' = .int .i64 (k : Int) ∧ M ≤ k ∧ (k : Int) ≤ 9223372036854775807 ∧ (∀ j, M ≤ j → j < k → ¬ Lies (runesOf s) l j) ∧ Below w.heap.size w wr) (fun at' _ => n + 1 - (intOf at').toNat)
    case atStart => exact ⟨M, by first | rfl | (rw [hM0, show max f 0 = 0 by omega]; rfl) | (rw [hM0]; rfl), Nat.le_refl _, hk64, fun j h1 h2 => by omega, Below.refl _ _⟩
    case round =>
      obtain ⟨k, rfl, hMk, hk64, hno, hbr⟩ := hrel
      have HNO := Lib.hid hno; have HBR := Lib.hid hbr
      have HLW := Lib.hid (HLEN.out wr hbr)
      clear hno hbr
      by_cases hkn : k ≤ n
      · have hd1 : decide ((k : Int) ≤ (n : Int)) = true := decide_eq_true (by omega)
        have hsub : wrap64 ((n : Int) - (k : Int)) = (n : Int) - (k : Int) := IntWalk.wrap64_in _ ⟨by omega, by omega⟩
        by_cases hmn : m ≤ n - k
        · have hd2 : decide ((m : Int) ≤ (n : Int) - (k : Int)) = true := decide_eq_true (by omega)
          go_upto_region 6 with (go_at_call 15; refine HLW.out.mono ?_; rintro e w' ⟨rfl, rfl⟩)
          clear hd1 hd2 hsub
          obtain ⟨wo, rfl⟩ : ∃ W, W = wr := ⟨_, rfl⟩
          go_loopw [8, 9] (fun fl i wr => ∃ (p : Nat) (D : Bool), p ≤ m ∧ fl = .bool D ∧ i = .int .i64 (p : Int) ∧ Below wo.heap.size wo wr ∧ (D = true → ∀ q, q < p → runeAt (runesOf s) ((k + q : Nat) : Int) = l.getD q 0) ∧ (D = false → ∃ q, q < m ∧ runeAt (runesOf s) ((k + q : Nat) : Int) ≠ l.getD q 0)) (fun _ i _ => m - (intOf i).toNat)
          case atStart => exact ⟨0, true, by omega, rfl, rfl, Below.refl _ _, fun _ q hq => by omega, fun e => by simp at e⟩
          case round =>
            obtain ⟨p, D, hp, rfl, rfl, hbz, hy, hn⟩ := hrel
            have HBZ := Lib.hid hbz; have HY := Lib.hid hy; have HNN := Lib.hid hn
            clear hbz hy hn
            by_cases hpm : p < m
            · have hd3 : decide ((p : Int) < (m : Int)) = true := decide_eq_true (by omega)
              cases D
              · have HNL : Hid (¬ Lies (runesOf s) l k) := Lib.hid fun h => by
                  obtain ⟨q, hq, hne⟩ := HNN.out rfl
                  exact hne (h.2 q (by rw [HMM.out]; exact hq))
                go_wp2_with fail
                exact ⟨⟨k + 1, by go_num, by omega, by omega, fun j h1 h2 => by
                  by_cases e : j = k
                  · subst e; exact HNL.out
                  · exact HNO.out j h1 (by omega), HBR.out.trans (HBZ.out.mono HBR.out.size)⟩, by simp only [intOf]; omega⟩
              · have hbw : Below w.heap.size w wr := HBR.out.trans (HBZ.out.mono HBR.out.size)
                have lift : ∀ {a : Addr} {u : Value}, w.cell? a = some u → wr.cell? a = some u := fun h => (hbw.cell (World.block_lt_of_cell? w _ h)).trans h
                have hpl : p < l.length := by rw [HMM.out]; exact hpm
                have hkr : k + p < (runesOf s).length := by rw [HN.out]; omega
                obtain ⟨gr, rfl, -, hcr⟩ := HRA.out (k + p) hkr
                rcases HROW.out with h | ⟨b, o, rfl, hc⟩
                · rw [h] at hpl; simp at hpl
                have c1 := lift (hc p hpl)
                have c2 := lift hcr
                have c3 : wr.cell? ⟨d, 2, none⟩ = some (.slice (some ⟨gr, 0, none⟩) n c) := lift ((HWH.out.cell 2).trans rfl)
                have e1 : runeAt (runesOf s) ((k + p : Nat) : Int) = (runesOf s)[k + p] := runeAt_in _ _ hkr
                have e2 : l.getD p 0 = l[p] := by simp [List.getD, hpl]
                obtain ⟨X, hX⟩ : ∃ X, (runesOf s)[k + p] = X := ⟨_, rfl⟩
                obtain ⟨Y, hYY⟩ : ∃ Y, l[p] = Y := ⟨_, rfl⟩
                rw [hX] at c2 e1
                rw [hYY] at c1 e2
                have HE1 := Lib.hid e1; have HE2 := Lib.hid e2
                have e8 : IntKind.i64.wrap ((k : Int) + (p : Int)) = (k : Int) + (p : Int) := (IntWalk.i64_left _).trans (IntWalk.wrap64_in _ ⟨by omega, by omega⟩)
                have hkp : k + p < n := by omega
                clear hbw lift hpl hkr hcr hc e1 e2 hX hYY
                by_cases hXY : X = Y
                · subst hXY
                  go_upto_region 8 with (fail)
                  go_quiet (fail)
                  go_wp2_with fail
                  refine ⟨⟨p + 1, true, by omega, by first | rfl | simp, by go_num, HBZ.out.trans ((below_draws wr _).mono HBZ.out.size), fun _ q hq => ?_, fun e => by simp at e⟩, by simp only [intOf]; omega⟩
                  by_cases e : q = p
                  · subst e; rw [HE1.out, HE2.out]
                  · exact HY.out rfl q (by omega)
                · have hbe : (X == Y) = false := beq_eq_false_iff_ne.2 hXY
                  go_upto_region 8 with (fail)
                  go_quiet (fail)
                  go_wp2_with fail
                  refine ⟨⟨p + 1, false, by omega, by first | rfl | simp, by go_num, HBZ.out.trans ((below_draws wr _).mono HBZ.out.size), fun e => by simp at e, fun _ => ⟨p, hpm, by rw [HE1.out, HE2.out]; exact hXY⟩⟩, by simp only [intOf]; omega⟩
            · have hd3 : decide ((p : Int) < (m : Int)) = false := decide_eq_false (by omega)
              have hpm' : p = m := by omega
              cases D
              · have HNL : Hid (¬ Lies (runesOf s) l k) := Lib.hid fun h => by
                  obtain ⟨q, hq, hne⟩ := HNN.out rfl
                  exact hne (h.2 q (by rw [HMM.out]; exact hq))
                go_wp2_with fail
                exact ⟨⟨k + 1, by go_num, by omega, by omega, fun j h1 h2 => by
                  by_cases e : j = k
                  · subst e; exact HNL.out
                  · exact HNO.out j h1 (by omega), HBR.out.trans (HBZ.out.mono HBR.out.size)⟩, by simp only [intOf]; omega⟩
              · have HLI : Hid (Lies (runesOf s) l k) := Lib.hid ⟨by rw [HN.out, HMM.out]; omega, fun q hq => HY.out rfl q (by rw [HMM.out] at hq; omega)⟩
                go_wp2_with fail
                go_ret
                exact ⟨_, rfl, .inr ⟨k, rfl, by omega, HLI.out, fun j h1 h2 => HNO.out j (by omega) h2⟩, HBR.out.trans (HBZ.out.mono HBR.out.size)⟩
        · have hd2 : decide ((m : Int) ≤ (n : Int) - (k : Int)) = false := decide_eq_false (by omega)
          have HIS : Hid (IndexIs (runesOf s) l M (-1)) := Lib.hid (.inl ⟨rfl, fun j hj hL => by
            by_cases e : j < k
            · exact HNO.out j (by omega) e hL
            · have := hL.1; rw [HN.out, HMM.out] at this; omega⟩)
          go_wp2_with (go_at_call 15; refine HLW.out.mono ?_; rintro e w' ⟨rfl, rfl⟩)
          go_ret
          exact ⟨_, rfl, HIS.out, HBR.out⟩
      · have hd1 : decide ((k : Int) ≤ (n : Int)) = false := decide_eq_false (by omega)
        have HIS : Hid (IndexIs (runesOf s) l M (-1)) := Lib.hid (.inl ⟨rfl, fun j hj hL => by
          by_cases e : j < k
          · exact HNO.out j (by omega) e hL
          · have := hL.1; rw [HN.out, HMM.out] at this; omega⟩)
        go_wp2_with (go_at_call 15; refine HLW.out.mono ?_; rintro e w' ⟨rfl, rfl⟩)
        go_ret
        exact ⟨_, rfl, HIS.out, HBR.out⟩
end Go.Proofs.YtaaadimkbhkpiaaDoor
