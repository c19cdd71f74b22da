/- unicode/utf8.Valid over a list of bytes says just whether they are UTF-8. -/
import Derived.Test.YticghidkbpkefaaDoorWord
import Derived.Shelf.Unicode.WordAny
import Derived.Lib.ValidAsc
import Derived.Laws.BitsAllLaws
import Derived.Below
import Derived.Deep.LoopGhost
import Derived.Deep.DeepMust
import Derived.Deep.CutBlock
import Derived.Deep.DeepCutAuto
set_option linter.unusedVariables false
namespace Go.Proofs.YticghidkbpkefaaDoor
open Go Go.RowKit Go.Lib

theorem below_drewNq {B : Nat} {a w : World} (h : Below B a w) : ∀ q, Below B a (w.drewN q)
  | 0 => h
  | q + 1 => (below_drewNq h q).drew
set_option maxRecDepth 100000 in
theorem and7q : ∀ X : Fin 256, bits .and .u8 ((X.val : Nat) : Int) 7 = ((X.val % 8 : Nat) : Int) := by decide
theorem bytes_belowV {w w' : World} {b o : Nat} {s : ByteArray} (h : Lib.Bytes w b o s) (hb : Below w.heap.size w w') : Lib.Bytes w' b o s := fun i hi =>
  (hb.cell (World.block_lt_of_cell? w _ (h i hi))).trans (h i hi)
theorem tabs_belowV {w w' : World} {g3 g4 : Nat} (h : Lib.Utf8Tabs g3 g4 w) (hb : Below w.heap.size w w') : Lib.Utf8Tabs g3 g4 w' := by
  obtain ⟨h1, h2⟩ := h
  refine ⟨fun i hi => ?_, fun i hi => ⟨?_, ?_⟩⟩
  · exact (hb.cell (World.block_lt_of_cell? w _ (h1 i hi))).trans (h1 i hi)
  · exact (hb.cell (World.block_lt_of_cell? w _ (h2 i hi).1)).trans (h2 i hi).1
  · exact (hb.cell (World.block_lt_of_cell? w _ (h2 i hi).2)).trans (h2 i hi).2
theorem bytes_ext {w : World} {g o : Nat} {t : ByteArray} (h : Lib.Bytes w g o t) (k : Nat) : Lib.Bytes w g (o + k) (t.extract k t.size) := fun i hi => by
  have hs := Lib.ext_size t k
  have h1 := h (k + i) (by omega)
  rw [show o + k + i = o + (k + i) by omega, h1]
  simp [ByteArray.getElem_extract]

set_option maxHeartbeats 16000000 in
set_option maxRecDepth 1000000 in
theorem valid_some (g o c : Nat) (s : ByteArray) (w : World) (hs : s.size ≤ 2147483648) (hc : s.size ≤ c) (hb : Lib.Bytes w g o s) (hT : Lib.Utf8Tabs 0 1 w) :
    Calls Tryd.prog 25 #[.slice (some ⟨g, o, none⟩) s.size c] w fun e w' => e = .returned (.bool (Lib.validD s.data.toList)) ∧ Below w.heap.size w w' := by
  obtain ⟨ANS, hANS⟩ : ∃ ANS, Lib.validD s.data.toList = ANS := ⟨_, rfl⟩
  rw [hANS]
  have hsi : (s.size : Int) ≤ (c : Int) := by omega
  go_enter Tryd.func25, Tryd.ntmps25
  go_wp2
  go_loopg [0] (s.size + 1) (fun gk s0 wx => Below w.heap.size w wx ∧ ∃ (t : ByteArray) (ot : Nat), s0 = .slice (some ⟨g, ot, none⟩) t.size t.size ∧ Lib.validD t.data.toList = ANS ∧ t.size < gk ∧ t.size ≤ 2147483648 ∧ Lib.Bytes w g ot t)
  case atStart => exact ⟨Below.refl _ _, s, o, rfl, hANS, by omega, hs, hb⟩
  case round =>
    obtain ⟨hbw, t, ot, rfl, hv, hg, hts, hwt⟩ := hrel
    clear hANS hb hs hc hsi
    have hTr := tabs_belowV hT hbw
    have hrt := bytes_belowV hwt hbw
    by_cases h0 : 0 < t.size
    · obtain ⟨g', rfl⟩ : ∃ g', gk = g' + 1 := ⟨gk - 1, by omega⟩
      have h0z : (0 : Int) < (t.size : Int) := by omega
      obtain ⟨x0, hx0⟩ : ∃ x0, t.get! 0 = x0 := ⟨_, rfl⟩
      have hs0 : t[0]'(by omega) = x0 := by rw [← hx0]; exact (Utf8W.get!_of_lt t 0 (by omega)).symm
      have hx0lt : x0.toNat < 256 := x0.toNat_lt
      have k0 := hrt 0 (by omega)
      rw [hs0, Nat.add_zero] at k0
      by_cases hasc : x0.toNat < 128
      · -- a byte below 128: the fast path
        as_aux_lemma =>
          have hascz : (x0.toNat : Int) < 128 := by omega
          have a1 : Lib.Asc t 1 := Lib.asc_one t h0 (by rw [hx0]; exact hasc)
          obtain ⟨t1, ht1⟩ : ∃ t1, t.extract 1 t.size = t1 := ⟨_, rfl⟩
          have z1 : t1.size + 1 = t.size := by rw [← ht1, Lib.ext_size]; omega
          have z1' : t.size - 1 = t1.size := by omega
          have v1 : Lib.validD t1.data.toList = ANS := by rw [← ht1, Lib.valid_skip t 1 a1]; exact hv
          have w1 : Lib.Bytes w g (ot + 1) t1 := ht1 ▸ bytes_ext hwt 1
          have lez1 : (1 : Int) ≤ (t.size : Int) := by omega
          clear hTr hT hv a1 hrt hwt
          by_cases c8 : 8 < t1.size
          · have c8z : (8 : Int) < (t1.size : Int) := by omega
            have n1 : ¬ (t.size = 1) := by omega
            obtain ⟨A1, hA1⟩ : ∃ A1, Lib.leNat [t1.get! 0, t1.get! 1, t1.get! 2, t1.get! 3, t1.get! 4, t1.get! 5, t1.get! 6, t1.get! 7] = A1 := ⟨_, rfl⟩
            have lA1 : A1 < 18446744073709551616 := hA1 ▸ Lib.word_lt t1
            have cW1 : ∀ W, Lib.Bytes W g (ot + 1) t1 → Calls Tryd.prog 35 #[.slice (some ⟨g, ot + 1, none⟩) t1.size t1.size] W fun e w' => e = .returned (.int .u64 A1) ∧ ∃ q, w' = W.drewN q := fun W hW => by rw [← hA1]; exact w8_any t1 g (ot + 1) t1.size W (by omega) hW
            have kA1 := Lib.word_asc t1 (by omega)
            rw [hA1] at kA1
            have hand1 : bits .and .u64 (A1 : Int) 9259542123273814144 = ((A1 &&& 9259542123273814144 : Nat) : Int) := u64_and_nat A1 9259542123273814144 lA1 (by omega)
            obtain ⟨Z1, hZ1⟩ : ∃ Z1, A1 &&& 9259542123273814144 = Z1 := ⟨_, rfl⟩
            rw [hZ1] at hand1 kA1
            have wr1 := bytes_belowV w1 hbw
            have cw1 := cW1 _ wr1
            clear cW1
            by_cases hz1 : Z1 = 0
            · have hz1b : ((Z1 : Int) == 0) = true := by simp [hz1]
              have a8 : Lib.Asc t1 8 := kA1.1 hz1
              obtain ⟨t2, ht2⟩ : ∃ t2, t1.extract 8 t1.size = t2 := ⟨_, rfl⟩
              have z2 : t2.size + 8 = t1.size := by rw [← ht2, Lib.ext_size]; omega
              have z2' : t1.size - 8 = t2.size := by omega
              have n2 : ¬ (t1.size = 8) := by omega
              have l8z : (8 : Int) ≤ (t1.size : Int) := by omega
              have v2 : Lib.validD t2.data.toList = ANS := by rw [← ht2, Lib.valid_skip t1 8 a8]; exact v1
              have w2 : Lib.Bytes w g (ot + 1 + 8) t2 := ht2 ▸ bytes_ext w1 8
              clear kA1 a8 v1
              go_wp2_with (go_at_call 35; go_must (refine cw1.mono ?_; rintro e W1 ⟨rfl, q1, rfl⟩))
              have hb1 : Below w.heap.size w (wr.drewN q1) := below_drewNq hbw q1
              clear cw1 k0 wr1
              generalize wr.drewN q1 = wq at hb1 ⊢
              clear hbw
              by_cases c16 : 16 < t2.size
              · have c16z : (16 : Int) < (t2.size : Int) := by omega
                have s8z : (8 : Int) ≤ (t2.size : Int) := by omega
                have s16z : (16 : Int) ≤ (t2.size : Int) := by omega
                have n8 : ¬ (t2.size = 8) := by omega
                have n16 : ¬ (t2.size = 16) := by omega
                obtain ⟨t2b, ht2b⟩ : ∃ t2b, t2.extract 8 t2.size = t2b := ⟨_, rfl⟩
                have z2b : t2b.size + 8 = t2.size := by rw [← ht2b, Lib.ext_size]; omega
                have z2b' : t2.size - 8 = t2b.size := by omega
                have w2b : Lib.Bytes w g (ot + 1 + 8 + 8) t2b := ht2b ▸ bytes_ext w2 8
                obtain ⟨A2, hA2⟩ : ∃ A2, Lib.leNat [t2.get! 0, t2.get! 1, t2.get! 2, t2.get! 3, t2.get! 4, t2.get! 5, t2.get! 6, t2.get! 7] = A2 := ⟨_, rfl⟩
                have lA2 : A2 < 18446744073709551616 := hA2 ▸ Lib.word_lt t2
                have wq2 := bytes_belowV w2 hb1
                have wq2b := bytes_belowV w2b hb1
                have cW2 : ∀ q, Calls Tryd.prog 35 #[.slice (some ⟨g, ot + 1 + 8, none⟩) t2.size t2.size] (wq.drewN q) fun e w' => e = .returned (.int .u64 A2) ∧ ∃ q', w' = (wq.drewN q).drewN q' := fun q => by rw [← hA2]; exact w8_any t2 g (ot + 1 + 8) t2.size _ (by omega) (wq2.drewN q)
                have kA2 := Lib.word_asc t2 (by omega)
                rw [hA2] at kA2
                obtain ⟨A3, hA3⟩ : ∃ A3, Lib.leNat [t2b.get! 0, t2b.get! 1, t2b.get! 2, t2b.get! 3, t2b.get! 4, t2b.get! 5, t2b.get! 6, t2b.get! 7] = A3 := ⟨_, rfl⟩
                have lA3 : A3 < 18446744073709551616 := hA3 ▸ Lib.word_lt t2b
                have cW3 : ∀ q, Calls Tryd.prog 35 #[.slice (some ⟨g, ot + 1 + 8 + 8, none⟩) t2b.size t2b.size] (wq.drewN q) fun e w' => e = .returned (.int .u64 A3) ∧ ∃ q', w' = (wq.drewN q).drewN q' := fun q => by rw [← hA3]; exact w8_any t2b g (ot + 1 + 8 + 8) t2b.size _ (by omega) (wq2b.drewN q)
                have kA3 := Lib.word_asc t2b (by omega)
                rw [hA3] at kA3
                have hor2 : bits .or .u64 (A2 : Int) (A3 : Int) = ((A2 ||| A3 : Nat) : Int) := u64_or_nat A2 A3 lA2 lA3
                have lor2 : A2 ||| A3 < 18446744073709551616 := Nat.or_lt_two_pow (n := 64) lA2 lA3
                have hand2 : bits .and .u64 ((A2 ||| A3 : Nat) : Int) 9259542123273814144 = (((A2 ||| A3) &&& 9259542123273814144 : Nat) : Int) := u64_and_nat _ 9259542123273814144 lor2 (by omega)
                have k2 : (A2 ||| A3) &&& 9259542123273814144 = 0 → Lib.Asc t2 16 := fun h0' => by
                  obtain ⟨e1, e2⟩ := (Lib.or_mask A2 A3 _).1 h0'
                  exact Lib.asc_add t2 8 8 (kA2.1 e1) (by rw [ht2b]; exact kA3.1 e2)
                obtain ⟨O2, hO2⟩ : ∃ O2, A2 ||| A3 = O2 := ⟨_, rfl⟩
                rw [hO2] at hor2 hand2 k2
                obtain ⟨Z2, hZ2⟩ : ∃ Z2, O2 &&& 9259542123273814144 = Z2 := ⟨_, rfl⟩
                rw [hZ2] at hand2 k2
                clear kA2 kA3 lor2 hO2 hZ2 wq2 wq2b w2b
                by_cases hz2 : Z2 = 0
                · have hz2b : ((Z2 : Int) == 0) = true := by simp [hz2]
                  have a16 := k2 hz2
                  obtain ⟨t3, ht3⟩ : ∃ t3, t2.extract 16 t2.size = t3 := ⟨_, rfl⟩
                  have z3 : t3.size + 16 = t2.size := by rw [← ht3, Lib.ext_size]; omega
                  have z3' : t2.size - 16 = t3.size := by omega
                  have v3 : Lib.validD t3.data.toList = ANS := by rw [← ht3, Lib.valid_skip t2 16 a16]; exact v2
                  have w3 : Lib.Bytes w g (ot + 1 + 8 + 16) t3 := ht3 ▸ bytes_ext w2 16
                  clear k2 a16 v2 w2
                  go_big_quiet (first | (go_at_call 35; with_reducible refine Calls.quiet_of (cW2 _)) | (go_at_call 35; with_reducible refine Calls.quiet_of (cW3 _)))
                  have hb2 : Below w.heap.size w (wq.drewN nq) := below_drewNq hb1 nq
                  clear cW2 cW3
                  generalize wq.drewN nq = wq2 at hb2 ⊢
                  clear hb1
                  go_wp2
                  -- 32 bytes a round
                  go_loopg [0] (t3.size + 1) (fun g2 s0 wx => Below w.heap.size w wx ∧ ∃ (u : ByteArray) (ou : Nat), s0 = .slice (some ⟨g, ou, none⟩) u.size u.size ∧ Lib.validD u.data.toList = ANS ∧ u.size < g2 ∧ u.size ≤ t3.size ∧ Lib.Bytes w g ou u)
                  case atStart => exact ⟨hb2, t3, _, rfl, v3, by omega, Nat.le_refl _, w3⟩
                  case round =>
                    obtain ⟨hbu, u, ou, rfl, vu, hgu, hut, wu⟩ := hrel
                    by_cases c32 : 32 < u.size
                    · obtain ⟨g3, rfl⟩ : ∃ g3, gk = g3 + 1 := ⟨gk - 1, by omega⟩
                      have c32z : (32 : Int) < (u.size : Int) := by omega
                      have s8u : (8 : Int) ≤ (u.size : Int) := by omega
                      have s16u : (16 : Int) ≤ (u.size : Int) := by omega
                      have s24u : (24 : Int) ≤ (u.size : Int) := by omega
                      have s32u : (32 : Int) ≤ (u.size : Int) := by omega
                      have m8 : ¬ (u.size = 8) := by omega
                      have m16 : ¬ (u.size = 16) := by omega
                      have m24 : ¬ (u.size = 24) := by omega
                      have m32 : ¬ (u.size = 32) := by omega
                      have bu := bytes_belowV wu hbu
                      obtain ⟨B0, hB0⟩ : ∃ B0, Lib.leNat [u.get! 0, u.get! 1, u.get! 2, u.get! 3, u.get! 4, u.get! 5, u.get! 6, u.get! 7] = B0 := ⟨_, rfl⟩
                      have lB0 : B0 < 18446744073709551616 := hB0 ▸ Lib.word_lt u
                      have cB0 : ∀ q, Calls Tryd.prog 35 #[.slice (some ⟨g, ou, none⟩) u.size u.size] (wr.drewN q) fun e w' => e = .returned (.int .u64 B0) ∧ ∃ q', w' = (wr.drewN q).drewN q' := fun q => by rw [← hB0]; exact w8_any u g (ou) u.size _ (by omega) (bu.drewN q)
                      have kB0 := Lib.word_asc u (by omega)
                      rw [hB0] at kB0
                      obtain ⟨u1, hu1⟩ : ∃ ub, u.extract 8 u.size = ub := ⟨_, rfl⟩
                      have zu_1 : u1.size + 8 = u.size := by rw [← hu1, Lib.ext_size]; omega
                      have zu_1' : u.size - 8 = u1.size := by omega
                      have bu1 : Lib.Bytes wr g (ou + 8) u1 := hu1 ▸ bytes_ext bu 8
                      obtain ⟨B1, hB1⟩ : ∃ B0, Lib.leNat [u1.get! 0, u1.get! 1, u1.get! 2, u1.get! 3, u1.get! 4, u1.get! 5, u1.get! 6, u1.get! 7] = B0 := ⟨_, rfl⟩
                      have lB1 : B1 < 18446744073709551616 := hB1 ▸ Lib.word_lt u1
                      have cB1 : ∀ q, Calls Tryd.prog 35 #[.slice (some ⟨g, ou + 8, none⟩) u1.size u1.size] (wr.drewN q) fun e w' => e = .returned (.int .u64 B1) ∧ ∃ q', w' = (wr.drewN q).drewN q' := fun q => by rw [← hB1]; exact w8_any u1 g (ou + 8) u1.size _ (by omega) (bu1.drewN q)
                      have kB1 := Lib.word_asc u1 (by omega)
                      rw [hB1] at kB1
                      obtain ⟨u2, hu2⟩ : ∃ ub, u.extract 16 u.size = ub := ⟨_, rfl⟩
                      have zu_2 : u2.size + 16 = u.size := by rw [← hu2, Lib.ext_size]; omega
                      have zu_2' : u.size - 16 = u2.size := by omega
                      have bu2 : Lib.Bytes wr g (ou + 16) u2 := hu2 ▸ bytes_ext bu 16
                      obtain ⟨B2, hB2⟩ : ∃ B0, Lib.leNat [u2.get! 0, u2.get! 1, u2.get! 2, u2.get! 3, u2.get! 4, u2.get! 5, u2.get! 6, u2.get! 7] = B0 := ⟨_, rfl⟩
                      have lB2 : B2 < 18446744073709551616 := hB2 ▸ Lib.word_lt u2
                      have cB2 : ∀ q, Calls Tryd.prog 35 #[.slice (some ⟨g, ou + 16, none⟩) u2.size u2.size] (wr.drewN q) fun e w' => e = .returned (.int .u64 B2) ∧ ∃ q', w' = (wr.drewN q).drewN q' := fun q => by rw [← hB2]; exact w8_any u2 g (ou + 16) u2.size _ (by omega) (bu2.drewN q)
                      have kB2 := Lib.word_asc u2 (by omega)
                      rw [hB2] at kB2
                      obtain ⟨u3, hu3⟩ : ∃ ub, u.extract 24 u.size = ub := ⟨_, rfl⟩
                      have zu_3 : u3.size + 24 = u.size := by rw [← hu3, Lib.ext_size]; omega
                      have zu_3' : u.size - 24 = u3.size := by omega
                      have bu3 : Lib.Bytes wr g (ou + 24) u3 := hu3 ▸ bytes_ext bu 24
                      obtain ⟨B3, hB3⟩ : ∃ B0, Lib.leNat [u3.get! 0, u3.get! 1, u3.get! 2, u3.get! 3, u3.get! 4, u3.get! 5, u3.get! 6, u3.get! 7] = B0 := ⟨_, rfl⟩
                      have lB3 : B3 < 18446744073709551616 := hB3 ▸ Lib.word_lt u3
                      have cB3 : ∀ q, Calls Tryd.prog 35 #[.slice (some ⟨g, ou + 24, none⟩) u3.size u3.size] (wr.drewN q) fun e w' => e = .returned (.int .u64 B3) ∧ ∃ q', w' = (wr.drewN q).drewN q' := fun q => by rw [← hB3]; exact w8_any u3 g (ou + 24) u3.size _ (by omega) (bu3.drewN q)
                      have kB3 := Lib.word_asc u3 (by omega)
                      rw [hB3] at kB3
                      have ho1 : bits .or .u64 (B0 : Int) (B1 : Int) = ((B0 ||| B1 : Nat) : Int) := u64_or_nat B0 B1 lB0 lB1
                      have ho2 : bits .or .u64 (B2 : Int) (B3 : Int) = ((B2 ||| B3 : Nat) : Int) := u64_or_nat B2 B3 lB2 lB3
                      have lo1 : B0 ||| B1 < 18446744073709551616 := Nat.or_lt_two_pow (n := 64) lB0 lB1
                      have lo2 : B2 ||| B3 < 18446744073709551616 := Nat.or_lt_two_pow (n := 64) lB2 lB3
                      have ho3 : bits .or .u64 ((B0 ||| B1 : Nat) : Int) ((B2 ||| B3 : Nat) : Int) = (((B0 ||| B1) ||| (B2 ||| B3) : Nat) : Int) := u64_or_nat _ _ lo1 lo2
                      have lo3 : (B0 ||| B1) ||| (B2 ||| B3) < 18446744073709551616 := Nat.or_lt_two_pow (n := 64) lo1 lo2
                      have hand3 : bits .and .u64 (((B0 ||| B1) ||| (B2 ||| B3) : Nat) : Int) 9259542123273814144 = ((((B0 ||| B1) ||| (B2 ||| B3)) &&& 9259542123273814144 : Nat) : Int) := u64_and_nat _ 9259542123273814144 lo3 (by omega)
                      have k3 : ((B0 ||| B1) ||| (B2 ||| B3)) &&& 9259542123273814144 = 0 → Lib.Asc u 32 := fun h0' => by
                        obtain ⟨e01, e23⟩ := (Lib.or_mask _ _ _).1 h0'
                        obtain ⟨e0, e1⟩ := (Lib.or_mask _ _ _).1 e01
                        obtain ⟨e2, e3⟩ := (Lib.or_mask _ _ _).1 e23
                        have s16 : Lib.Asc u 16 := Lib.asc_add u 8 8 (kB0.1 e0) (by rw [hu1]; exact kB1.1 e1)
                        have s24 : Lib.Asc u 24 := Lib.asc_add u 16 8 s16 (by rw [hu2]; exact kB2.1 e2)
                        exact Lib.asc_add u 24 8 s24 (by rw [hu3]; exact kB3.1 e3)
                      obtain ⟨P1, hP1⟩ : ∃ P1, B0 ||| B1 = P1 := ⟨_, rfl⟩
                      obtain ⟨P2, hP2⟩ : ∃ P2, B2 ||| B3 = P2 := ⟨_, rfl⟩
                      rw [hP1, hP2] at ho3 hand3 k3
                      rw [hP1] at ho1
                      rw [hP2] at ho2
                      obtain ⟨P3, hP3⟩ : ∃ P3, P1 ||| P2 = P3 := ⟨_, rfl⟩
                      rw [hP3] at ho3 hand3 k3
                      obtain ⟨Z3, hZ3⟩ : ∃ Z3, P3 &&& 9259542123273814144 = Z3 := ⟨_, rfl⟩
                      rw [hZ3] at hand3 k3
                      clear kB0 kB1 kB2 kB3 lo1 lo2 lo3 hP1 hP2 hP3 hZ3 bu bu1 bu2 bu3
                      by_cases hz3 : Z3 = 0
                      · have hz3b : ((Z3 : Int) == 0) = true := by simp [hz3]
                        have a32 := k3 hz3
                        obtain ⟨u5, hu5⟩ : ∃ v2, u.extract 32 u.size = v2 := ⟨_, rfl⟩
                        have zu5 : u5.size + 32 = u.size := by rw [← hu5, Lib.ext_size]; omega
                        have zu5' : u.size - 32 = u5.size := by omega
                        have vu5 : Lib.validD u5.data.toList = ANS := by rw [← hu5, Lib.valid_skip u 32 a32]; exact vu
                        have wu5 : Lib.Bytes w g (ou + 32) u5 := hu5 ▸ bytes_ext wu 32
                        go_wp2_with fail
                        go_big_quiet (first | (go_at_call 35; with_reducible refine Calls.quiet_of (cB0 _)) | (go_at_call 35; with_reducible refine Calls.quiet_of (cB1 _)) | (go_at_call 35; with_reducible refine Calls.quiet_of (cB2 _)) | (go_at_call 35; with_reducible refine Calls.quiet_of (cB3 _)))
                        go_wp2
                        go_roundg g3
                        case measure => omega
                        case rel => exact ⟨below_drewNq hbu nq, u5, _, rfl, vu5, by omega, by omega, wu5⟩
                      · have hz3b : ((Z3 : Int) == 0) = false := by simp; omega
                        go_wp2_with fail
                        go_big_quiet (first | (go_at_call 35; with_reducible refine Calls.quiet_of (cB0 _)) | (go_at_call 35; with_reducible refine Calls.quiet_of (cB1 _)) | (go_at_call 35; with_reducible refine Calls.quiet_of (cB2 _)) | (go_at_call 35; with_reducible refine Calls.quiet_of (cB3 _)))
                        go_wp2
                        go_roundg g'
                        case measure => omega
                        case rel => exact ⟨below_drewNq hbu nq, u, _, rfl, vu, by omega, by omega, wu⟩
                    · have c32z : ¬ ((32 : Int) < (u.size : Int)) := by omega
                      have c32b : decide ((32 : Int) < (u.size : Int)) = false := decide_eq_false c32z
                      go_wp2_with fail
                      go_big_quiet (fail)
                      go_wp2
                      go_roundg g'
                      case measure => omega
                      case rel => exact ⟨below_drewNq hbu nq, u, _, rfl, vu, by omega, by omega, wu⟩
                · have hz2b : ((Z2 : Int) == 0) = false := by simp; omega
                  go_big_quiet (first | (go_at_call 35; with_reducible refine Calls.quiet_of (cW2 _)) | (go_at_call 35; with_reducible refine Calls.quiet_of (cW3 _)))
                  go_wp2
                  go_roundg g'
                  case measure => omega
                  case rel => exact ⟨below_drewNq hb1 nq, t2, _, rfl, v2, by omega, by omega, w2⟩
              · have c16z : ¬ ((16 : Int) < (t2.size : Int)) := by omega
                have c16b : decide ((16 : Int) < (t2.size : Int)) = false := decide_eq_false c16z
                go_big_quiet (fail)
                go_wp2
                go_roundg g'
                case measure => omega
                case rel => exact ⟨below_drewNq hb1 nq, t2, _, rfl, v2, by omega, by omega, w2⟩
            · have hz1b : ((Z1 : Int) == 0) = false := by simp; omega
              go_wp2_with (go_at_call 35; go_must (refine cw1.mono ?_; rintro e W1 ⟨rfl, q1, rfl⟩))
              go_roundg g'
              case measure => omega
              case rel => exact ⟨below_drewNq hbw q1, t1, _, rfl, v1, by omega, by omega, w1⟩
          · have c8z : ¬ ((8 : Int) < (t1.size : Int)) := by omega
            by_cases n1 : t.size = 1
            · have z0 : t1.size = 0 := by omega
              have z1'' : 1 - 1 = t1.size := by omega
              have w1' : Lib.Bytes w g ot t1 := fun i hi => by omega
              have n1z : (t.size : Int) = 1 := by omega
              go_wp2
              go_roundg g'
              case measure => omega
              case rel => exact ⟨hbw, t1, _, by rw [z0], v1, by omega, by omega, w1'⟩
            · go_wp2
              go_roundg g'
              case measure => omega
              case rel => exact ⟨hbw, t1, _, rfl, v1, by omega, by omega, w1⟩
      · -- a lead byte from 128 on
        have hge : 128 ≤ x0.toNat := by omega
        have hascz : ¬ ((x0.toNat : Int) < 128) := by omega
        obtain ⟨x1, hx1⟩ : ∃ x1, t.get! 1 = x1 := ⟨_, rfl⟩
        obtain ⟨x2, hx2⟩ : ∃ x2, t.get! 2 = x2 := ⟨_, rfl⟩
        obtain ⟨x3, hx3⟩ : ∃ x3, t.get! 3 = x3 := ⟨_, rfl⟩
        have l1 := x1.toNat_lt; have l2 := x2.toNat_lt; have l3 := x3.toNat_lt
        have hne : t.data.toList ≠ [] := fun h => by rw [Lib.size_eq, h] at h0; simp at h0
        have hlead := Lib.validD_lead t.data.toList hne (by rw [Lib.getD_get!', hx0]; exact hge)
        rw [Lib.getD_get!', Lib.getD_get!', Lib.getD_get!', Lib.getD_get!', hx0, hx1, hx2, hx3, ← Lib.size_eq, hv] at hlead
        have hc0 := hTr.1 x0.toNat hx0lt
        have hXlt : Lib.firstT x0.toNat < 256 := by rcases Lib.firstT_cases x0.toNat with h | h | h | h | h | h | h | h | h <;> omega
        obtain ⟨X, hX⟩ : ∃ X, Lib.firstT x0.toNat = X := ⟨_, rfl⟩
        rw [hX] at hc0 hXlt hlead
        have h7 := and7q ⟨X, hXlt⟩
        simp only at h7
        have ha0 : wr.cell? ⟨1, X / 16 * 2, none⟩ = some (.int .u8 (Lib.accLo (X / 16))) := by rw [Nat.mul_comm]; exact (hTr.2 (X / 16) (by omega)).1
        have ha1 : wr.cell? ⟨1, X / 16 * 2 + 1, none⟩ = some (.int .u8 (Lib.accHi (X / 16))) := by rw [Nat.mul_comm]; exact (hTr.2 (X / 16) (by omega)).2
        obtain ⟨LO, hLO⟩ : ∃ LO, Lib.accLo (X / 16) = LO := ⟨_, rfl⟩
        obtain ⟨HI, hHI⟩ : ∃ HI, Lib.accHi (X / 16) = HI := ⟨_, rfl⟩
        rw [hLO] at ha0 hlead
        rw [hHI] at ha1 hlead
        obtain ⟨SZ, hSZ⟩ : ∃ SZ, X % 8 = SZ := ⟨_, rfl⟩
        rw [hSZ] at hlead
        clear hTr hT hX hv hLO hHI hne
        by_cases s2 : SZ = 2
        · subst s2
          have hSZz : (X : Int) % 8 = 2 := by omega
          simp only [Lib.checkN, Nat.reduceEqDiff, if_true, if_false] at hlead
          as_aux_lemma =>
            go_upto_region 18 with fail
            go_cut [103] from 85 to 103 (fun c wx => c = .bool (decide (t.size < 2 ∨ x1.toNat < LO ∨ HI < x1.toNat)) ∧ Below w.heap.size w wx)
            case first =>
              by_cases q0 : t.size < 2
              · have q0z : (t.size : Int) < 2 := by omega
                go_big_quiet (fail)
                go_wp2
                go_meet
                exact ⟨congrArg Value.bool (decide_eq_true (p := t.size < 2 ∨ x1.toNat < LO ∨ HI < x1.toNat) (by omega)).symm, below_drewNq (hbw.alloc hbw.size _) _⟩
              · have q0z : ¬ ((t.size : Int) < 2) := by omega
                have hz1 : (1 : Int) < (t.size : Int) := by omega
                have hp1 : 1 < t.size := by omega
                have hs1 : t[1]'(by omega) = x1 := by rw [← hx1]; exact (Utf8W.get!_of_lt t 1 (by omega)).symm
                have k1 : ∀ o, (wr.alloc o).cell? ⟨g, ot + 1, none⟩ = some (.int .u8 (x1.toNat : Int)) := fun o => by rw [← hs1]; exact bytes_belowV hwt (hbw.alloc hbw.size o) 1 hp1
                by_cases q1 : x1.toNat < LO
                · have q1z : (x1.toNat : Int) < (LO : Int) := by omega
                  go_big_quiet (fail)
                  go_wp2
                  go_meet
                  exact ⟨congrArg Value.bool (decide_eq_true (p := t.size < 2 ∨ x1.toNat < LO ∨ HI < x1.toNat) (by omega)).symm, below_drewNq (hbw.alloc hbw.size _) _⟩
                · have q1z : ¬ ((x1.toNat : Int) < (LO : Int)) := by omega
                  by_cases q2 : HI < x1.toNat
                  · have q2z : (HI : Int) < (x1.toNat : Int) := by omega
                    go_big_quiet (fail)
                    go_wp2
                    go_meet
                    exact ⟨congrArg Value.bool (decide_eq_true (p := t.size < 2 ∨ x1.toNat < LO ∨ HI < x1.toNat) (by omega)).symm, below_drewNq (hbw.alloc hbw.size _) _⟩
                  · have q2z : ¬ ((HI : Int) < (x1.toNat : Int)) := by omega
                    go_big_quiet (fail)
                    go_wp2
                    go_meet
                    exact ⟨congrArg Value.bool (decide_eq_false (p := t.size < 2 ∨ x1.toNat < LO ∨ HI < x1.toNat) (by omega)).symm, below_drewNq (hbw.alloc hbw.size _) _⟩
            case rest =>
              obtain ⟨rfl, hbc⟩ := hcut
              by_cases hb : t.size < 2 ∨ x1.toNat < LO ∨ HI < x1.toNat
              · have hbd : decide (t.size < 2 ∨ x1.toNat < LO ∨ HI < x1.toNat) = true := decide_eq_true hb
                rw [if_pos hb] at hlead
                go_wp2
                all_goals (go_ret; exact ⟨by first | rfl | rw [hlead], hbc⟩)
              · have hbd : decide (t.size < 2 ∨ x1.toNat < LO ∨ HI < x1.toNat) = false := decide_eq_false hb
                rw [if_neg hb] at hlead
                have lez : (2 : Int) ≤ (t.size : Int) := by omega
                by_cases nn : t.size = 2
                · have nz : (t.size : Int) = 2 := by omega
                  go_wp2
                  go_roundg g'
                  case measure => omega
                  case rel => exact ⟨hbc, t.extract 2 t.size, ot, by rw [show (t.extract 2 t.size).size = 0 by rw [Lib.ext_size]; omega], by rw [Lib.ext_list, hlead], by rw [Lib.ext_size]; omega, by rw [Lib.ext_size]; omega, fun i hi => absurd hi (by rw [Lib.ext_size]; omega)⟩
                · go_wp2
                  go_roundg g'
                  case measure => omega
                  case rel => exact ⟨hbc, t.extract 2 t.size, ot + 2, by rw [Lib.ext_size], by rw [Lib.ext_list, hlead], by rw [Lib.ext_size]; omega, by rw [Lib.ext_size]; omega, bytes_ext hwt 2⟩
        by_cases s3 : SZ = 3
        · subst s3
          have hSZz : (X : Int) % 8 = 3 := by omega
          simp only [Lib.checkN, Nat.reduceEqDiff, if_true, if_false] at hlead
          as_aux_lemma =>
            go_upto_region 22 with fail
            go_cut [138] from 108 to 138 (fun c wx => c = .bool (decide (t.size < 3 ∨ x1.toNat < LO ∨ HI < x1.toNat ∨ x2.toNat < 128 ∨ 191 < x2.toNat)) ∧ Below w.heap.size w wx)
            case first =>
              by_cases q0 : t.size < 3
              · have q0z : (t.size : Int) < 3 := by omega
                go_big_quiet (fail)
                go_wp2
                go_meet
                exact ⟨congrArg Value.bool (decide_eq_true (p := t.size < 3 ∨ x1.toNat < LO ∨ HI < x1.toNat ∨ x2.toNat < 128 ∨ 191 < x2.toNat) (by omega)).symm, below_drewNq (hbw.alloc hbw.size _) _⟩
              · have q0z : ¬ ((t.size : Int) < 3) := by omega
                have hz1 : (1 : Int) < (t.size : Int) := by omega
                have hp1 : 1 < t.size := by omega
                have hs1 : t[1]'(by omega) = x1 := by rw [← hx1]; exact (Utf8W.get!_of_lt t 1 (by omega)).symm
                have k1 : ∀ o, (wr.alloc o).cell? ⟨g, ot + 1, none⟩ = some (.int .u8 (x1.toNat : Int)) := fun o => by rw [← hs1]; exact bytes_belowV hwt (hbw.alloc hbw.size o) 1 hp1
                have hz2 : (2 : Int) < (t.size : Int) := by omega
                have hp2 : 2 < t.size := by omega
                have hs2 : t[2]'(by omega) = x2 := by rw [← hx2]; exact (Utf8W.get!_of_lt t 2 (by omega)).symm
                have k2 : ∀ o, (wr.alloc o).cell? ⟨g, ot + 2, none⟩ = some (.int .u8 (x2.toNat : Int)) := fun o => by rw [← hs2]; exact bytes_belowV hwt (hbw.alloc hbw.size o) 2 hp2
                by_cases q1 : x1.toNat < LO
                · have q1z : (x1.toNat : Int) < (LO : Int) := by omega
                  go_big_quiet (fail)
                  go_wp2
                  go_meet
                  exact ⟨congrArg Value.bool (decide_eq_true (p := t.size < 3 ∨ x1.toNat < LO ∨ HI < x1.toNat ∨ x2.toNat < 128 ∨ 191 < x2.toNat) (by omega)).symm, below_drewNq (hbw.alloc hbw.size _) _⟩
                · have q1z : ¬ ((x1.toNat : Int) < (LO : Int)) := by omega
                  by_cases q2 : HI < x1.toNat
                  · have q2z : (HI : Int) < (x1.toNat : Int) := by omega
                    go_big_quiet (fail)
                    go_wp2
                    go_meet
                    exact ⟨congrArg Value.bool (decide_eq_true (p := t.size < 3 ∨ x1.toNat < LO ∨ HI < x1.toNat ∨ x2.toNat < 128 ∨ 191 < x2.toNat) (by omega)).symm, below_drewNq (hbw.alloc hbw.size _) _⟩
                  · have q2z : ¬ ((HI : Int) < (x1.toNat : Int)) := by omega
                    by_cases q3 : x2.toNat < 128
                    · have q3z : (x2.toNat : Int) < 128 := by omega
                      go_big_quiet (fail)
                      go_wp2
                      go_meet
                      exact ⟨congrArg Value.bool (decide_eq_true (p := t.size < 3 ∨ x1.toNat < LO ∨ HI < x1.toNat ∨ x2.toNat < 128 ∨ 191 < x2.toNat) (by omega)).symm, below_drewNq (hbw.alloc hbw.size _) _⟩
                    · have q3z : ¬ ((x2.toNat : Int) < 128) := by omega
                      by_cases q4 : 191 < x2.toNat
                      · have q4z : (191 : Int) < (x2.toNat : Int) := by omega
                        go_big_quiet (fail)
                        go_wp2
                        go_meet
                        exact ⟨congrArg Value.bool (decide_eq_true (p := t.size < 3 ∨ x1.toNat < LO ∨ HI < x1.toNat ∨ x2.toNat < 128 ∨ 191 < x2.toNat) (by omega)).symm, below_drewNq (hbw.alloc hbw.size _) _⟩
                      · have q4z : ¬ ((191 : Int) < (x2.toNat : Int)) := by omega
                        go_big_quiet (fail)
                        go_wp2
                        go_meet
                        exact ⟨congrArg Value.bool (decide_eq_false (p := t.size < 3 ∨ x1.toNat < LO ∨ HI < x1.toNat ∨ x2.toNat < 128 ∨ 191 < x2.toNat) (by omega)).symm, below_drewNq (hbw.alloc hbw.size _) _⟩
            case rest =>
              obtain ⟨rfl, hbc⟩ := hcut
              by_cases hb : t.size < 3 ∨ x1.toNat < LO ∨ HI < x1.toNat ∨ x2.toNat < 128 ∨ 191 < x2.toNat
              · have hbd : decide (t.size < 3 ∨ x1.toNat < LO ∨ HI < x1.toNat ∨ x2.toNat < 128 ∨ 191 < x2.toNat) = true := decide_eq_true hb
                rw [if_pos hb] at hlead
                go_wp2
                all_goals (go_ret; exact ⟨by first | rfl | rw [hlead], hbc⟩)
              · have hbd : decide (t.size < 3 ∨ x1.toNat < LO ∨ HI < x1.toNat ∨ x2.toNat < 128 ∨ 191 < x2.toNat) = false := decide_eq_false hb
                rw [if_neg hb] at hlead
                have lez : (3 : Int) ≤ (t.size : Int) := by omega
                by_cases nn : t.size = 3
                · have nz : (t.size : Int) = 3 := by omega
                  go_wp2
                  go_roundg g'
                  case measure => omega
                  case rel => exact ⟨hbc, t.extract 3 t.size, ot, by rw [show (t.extract 3 t.size).size = 0 by rw [Lib.ext_size]; omega], by rw [Lib.ext_list, hlead], by rw [Lib.ext_size]; omega, by rw [Lib.ext_size]; omega, fun i hi => absurd hi (by rw [Lib.ext_size]; omega)⟩
                · go_wp2
                  go_roundg g'
                  case measure => omega
                  case rel => exact ⟨hbc, t.extract 3 t.size, ot + 3, by rw [Lib.ext_size], by rw [Lib.ext_list, hlead], by rw [Lib.ext_size]; omega, by rw [Lib.ext_size]; omega, bytes_ext hwt 3⟩
        by_cases s4 : SZ = 4
        · subst s4
          have hSZz : (X : Int) % 8 = 4 := by omega
          simp only [Lib.checkN, Nat.reduceEqDiff, if_true, if_false] at hlead
          as_aux_lemma =>
            go_upto_region 26 with fail
            go_cut [185] from 143 to 185 (fun c wx => c = .bool (decide (t.size < 4 ∨ x1.toNat < LO ∨ HI < x1.toNat ∨ x2.toNat < 128 ∨ 191 < x2.toNat ∨ x3.toNat < 128 ∨ 191 < x3.toNat)) ∧ Below w.heap.size w wx)
            case first =>
              by_cases q0 : t.size < 4
              · have q0z : (t.size : Int) < 4 := by omega
                go_big_quiet (fail)
                go_wp2
                go_meet
                exact ⟨congrArg Value.bool (decide_eq_true (p := t.size < 4 ∨ x1.toNat < LO ∨ HI < x1.toNat ∨ x2.toNat < 128 ∨ 191 < x2.toNat ∨ x3.toNat < 128 ∨ 191 < x3.toNat) (by omega)).symm, below_drewNq (hbw.alloc hbw.size _) _⟩
              · have q0z : ¬ ((t.size : Int) < 4) := by omega
                have hz1 : (1 : Int) < (t.size : Int) := by omega
                have hp1 : 1 < t.size := by omega
                have hs1 : t[1]'(by omega) = x1 := by rw [← hx1]; exact (Utf8W.get!_of_lt t 1 (by omega)).symm
                have k1 : ∀ o, (wr.alloc o).cell? ⟨g, ot + 1, none⟩ = some (.int .u8 (x1.toNat : Int)) := fun o => by rw [← hs1]; exact bytes_belowV hwt (hbw.alloc hbw.size o) 1 hp1
                have hz2 : (2 : Int) < (t.size : Int) := by omega
                have hp2 : 2 < t.size := by omega
                have hs2 : t[2]'(by omega) = x2 := by rw [← hx2]; exact (Utf8W.get!_of_lt t 2 (by omega)).symm
                have k2 : ∀ o, (wr.alloc o).cell? ⟨g, ot + 2, none⟩ = some (.int .u8 (x2.toNat : Int)) := fun o => by rw [← hs2]; exact bytes_belowV hwt (hbw.alloc hbw.size o) 2 hp2
                have hz3 : (3 : Int) < (t.size : Int) := by omega
                have hp3 : 3 < t.size := by omega
                have hs3 : t[3]'(by omega) = x3 := by rw [← hx3]; exact (Utf8W.get!_of_lt t 3 (by omega)).symm
                have k3 : ∀ o, (wr.alloc o).cell? ⟨g, ot + 3, none⟩ = some (.int .u8 (x3.toNat : Int)) := fun o => by rw [← hs3]; exact bytes_belowV hwt (hbw.alloc hbw.size o) 3 hp3
                by_cases q1 : x1.toNat < LO
                · have q1z : (x1.toNat : Int) < (LO : Int) := by omega
                  go_big_quiet (fail)
                  go_wp2
                  go_meet
                  exact ⟨congrArg Value.bool (decide_eq_true (p := t.size < 4 ∨ x1.toNat < LO ∨ HI < x1.toNat ∨ x2.toNat < 128 ∨ 191 < x2.toNat ∨ x3.toNat < 128 ∨ 191 < x3.toNat) (by omega)).symm, below_drewNq (hbw.alloc hbw.size _) _⟩
                · have q1z : ¬ ((x1.toNat : Int) < (LO : Int)) := by omega
                  by_cases q2 : HI < x1.toNat
                  · have q2z : (HI : Int) < (x1.toNat : Int) := by omega
                    go_big_quiet (fail)
                    go_wp2
                    go_meet
                    exact ⟨congrArg Value.bool (decide_eq_true (p := t.size < 4 ∨ x1.toNat < LO ∨ HI < x1.toNat ∨ x2.toNat < 128 ∨ 191 < x2.toNat ∨ x3.toNat < 128 ∨ 191 < x3.toNat) (by omega)).symm, below_drewNq (hbw.alloc hbw.size _) _⟩
                  · have q2z : ¬ ((HI : Int) < (x1.toNat : Int)) := by omega
                    by_cases q3 : x2.toNat < 128
                    · have q3z : (x2.toNat : Int) < 128 := by omega
                      go_big_quiet (fail)
                      go_wp2
                      go_meet
                      exact ⟨congrArg Value.bool (decide_eq_true (p := t.size < 4 ∨ x1.toNat < LO ∨ HI < x1.toNat ∨ x2.toNat < 128 ∨ 191 < x2.toNat ∨ x3.toNat < 128 ∨ 191 < x3.toNat) (by omega)).symm, below_drewNq (hbw.alloc hbw.size _) _⟩
                    · have q3z : ¬ ((x2.toNat : Int) < 128) := by omega
                      by_cases q4 : 191 < x2.toNat
                      · have q4z : (191 : Int) < (x2.toNat : Int) := by omega
                        go_big_quiet (fail)
                        go_wp2
                        go_meet
                        exact ⟨congrArg Value.bool (decide_eq_true (p := t.size < 4 ∨ x1.toNat < LO ∨ HI < x1.toNat ∨ x2.toNat < 128 ∨ 191 < x2.toNat ∨ x3.toNat < 128 ∨ 191 < x3.toNat) (by omega)).symm, below_drewNq (hbw.alloc hbw.size _) _⟩
                      · have q4z : ¬ ((191 : Int) < (x2.toNat : Int)) := by omega
                        by_cases q5 : x3.toNat < 128
                        · have q5z : (x3.toNat : Int) < 128 := by omega
                          go_big_quiet (fail)
                          go_wp2
                          go_meet
                          exact ⟨congrArg Value.bool (decide_eq_true (p := t.size < 4 ∨ x1.toNat < LO ∨ HI < x1.toNat ∨ x2.toNat < 128 ∨ 191 < x2.toNat ∨ x3.toNat < 128 ∨ 191 < x3.toNat) (by omega)).symm, below_drewNq (hbw.alloc hbw.size _) _⟩
                        · have q5z : ¬ ((x3.toNat : Int) < 128) := by omega
                          by_cases q6 : 191 < x3.toNat
                          · have q6z : (191 : Int) < (x3.toNat : Int) := by omega
                            go_big_quiet (fail)
                            go_wp2
                            go_meet
                            exact ⟨congrArg Value.bool (decide_eq_true (p := t.size < 4 ∨ x1.toNat < LO ∨ HI < x1.toNat ∨ x2.toNat < 128 ∨ 191 < x2.toNat ∨ x3.toNat < 128 ∨ 191 < x3.toNat) (by omega)).symm, below_drewNq (hbw.alloc hbw.size _) _⟩
                          · have q6z : ¬ ((191 : Int) < (x3.toNat : Int)) := by omega
                            go_big_quiet (fail)
                            go_wp2
                            go_meet
                            exact ⟨congrArg Value.bool (decide_eq_false (p := t.size < 4 ∨ x1.toNat < LO ∨ HI < x1.toNat ∨ x2.toNat < 128 ∨ 191 < x2.toNat ∨ x3.toNat < 128 ∨ 191 < x3.toNat) (by omega)).symm, below_drewNq (hbw.alloc hbw.size _) _⟩
            case rest =>
              obtain ⟨rfl, hbc⟩ := hcut
              by_cases hb : t.size < 4 ∨ x1.toNat < LO ∨ HI < x1.toNat ∨ x2.toNat < 128 ∨ 191 < x2.toNat ∨ x3.toNat < 128 ∨ 191 < x3.toNat
              · have hbd : decide (t.size < 4 ∨ x1.toNat < LO ∨ HI < x1.toNat ∨ x2.toNat < 128 ∨ 191 < x2.toNat ∨ x3.toNat < 128 ∨ 191 < x3.toNat) = true := decide_eq_true hb
                rw [if_pos hb] at hlead
                go_wp2
                all_goals (go_ret; exact ⟨by first | rfl | rw [hlead], hbc⟩)
              · have hbd : decide (t.size < 4 ∨ x1.toNat < LO ∨ HI < x1.toNat ∨ x2.toNat < 128 ∨ 191 < x2.toNat ∨ x3.toNat < 128 ∨ 191 < x3.toNat) = false := decide_eq_false hb
                rw [if_neg hb] at hlead
                have lez : (4 : Int) ≤ (t.size : Int) := by omega
                by_cases nn : t.size = 4
                · have nz : (t.size : Int) = 4 := by omega
                  go_wp2
                  go_roundg g'
                  case measure => omega
                  case rel => exact ⟨hbc, t.extract 4 t.size, ot, by rw [show (t.extract 4 t.size).size = 0 by rw [Lib.ext_size]; omega], by rw [Lib.ext_list, hlead], by rw [Lib.ext_size]; omega, by rw [Lib.ext_size]; omega, fun i hi => absurd hi (by rw [Lib.ext_size]; omega)⟩
                · go_wp2
                  go_roundg g'
                  case measure => omega
                  case rel => exact ⟨hbc, t.extract 4 t.size, ot + 4, by rw [Lib.ext_size], by rw [Lib.ext_list, hlead], by rw [Lib.ext_size]; omega, by rw [Lib.ext_size]; omega, bytes_ext hwt 4⟩
        · -- 'default: return false'
          as_aux_lemma =>
            have e2 : ¬ ((X : Int) % 8 = 2) := by omega
            have e3 : ¬ ((X : Int) % 8 = 3) := by omega
            have e4 : ¬ ((X : Int) % 8 = 4) := by omega
            have e2b : (((X : Int) % 8) == 2) = false := by simp; omega
            have e3b : (((X : Int) % 8) == 3) = false := by simp; omega
            have e4b : (((X : Int) % 8) == 4) = false := by simp; omega
            simp only [Lib.checkN, s2, s3, s4, if_false] at hlead
            go_wp2
            all_goals (go_ret; exact ⟨by first | rfl | rw [hlead], hbw.alloc hbw.size _⟩)
    · have h0z : ¬ ((0 : Int) < (t.size : Int)) := by omega
      have ht0 : t.data.toList = [] := List.eq_nil_of_length_eq_zero (by rw [← Lib.size_eq]; omega)
      rw [ht0, Lib.validD_nil] at hv
      subst hv
      go_wp2
      go_ret
      exact ⟨rfl, hbw⟩

set_option maxHeartbeats 1000000 in
set_option maxRecDepth 1000000 in
theorem valid_empty (A : Option Addr) (c : Nat) (w : World) :
    Calls Tryd.prog 25 #[.slice A 0 c] w fun e w' => e = .returned (.bool true) ∧ Below w.heap.size w w' := by
  go_enter Tryd.func25, Tryd.ntmps25
  go_wp2
  go_loopg [0] 1 (fun gk s0 wx => Below w.heap.size w wx ∧ ∃ (B : Option Addr), s0 = .slice B 0 0)
  case atStart => exact ⟨Below.refl _ _, _, rfl⟩
  case round =>
    obtain ⟨hbw, B, rfl⟩ := hrel
    go_wp2
    go_ret
    exact ⟨rfl, hbw⟩

end Go.Proofs.YticghidkbpkefaaDoor
