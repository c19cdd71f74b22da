/- Texts merged by program: PxStandsL. No condition. -/
import Derived.Test.YtaaadimkbhkpiaaK39
import Derived.Test.YtaaadimkbhkpiaaK40
set_option linter.unusedVariables false
/- PrefixStands. No condition. -/
namespace Go.Proofs.Ytaaadimkbhkpiaa
open Go Go.RowKit

theorem runeAt_i32 (s : ByteArray) (i : Int) : I32 (runeAt (runesOf s) i) := by
  unfold runeAt I32
  split
  · rename_i h
    have hk : i.toNat < (runesOf s).length := by omega
    have h := runesFrom_isRune s _ _ (runesOf s)[i.toNat] (List.getElem_mem hk)
    simp only [List.getD, List.getElem?_eq_getElem hk, Option.getD_some]
    unfold IsRune at h
    omega
  · omega
/-- The runes of R from I on, d of them. -/
def cutN (R : List Int) (I d : Nat) : List Int := (List.range d).map fun j => runeAt R ((I + j : Nat) : Int)
theorem cutN_len (R : List Int) (I d : Nat) : (cutN R I d).length = d := by simp [cutN]
theorem cutN_next (R : List Int) (I d : Nat) : cutN R I (d + 1) = cutN R I d ++ [runeAt R ((I + d : Nat) : Int)] := by simp [cutN, List.range_succ]
theorem cutN_lies (R : List Int) (I d : Nat) (h : I + d ≤ R.length) : Lies R (cutN R I d) I := ⟨by rw [cutN_len]; exact h, fun k hk => by
  rw [cutN_len] at hk
  simp [cutN, List.getD, hk]⟩
theorem cutN_get (R : List Int) (I d : Nat) {k : Nat} (hk : k < d) : (cutN R I d).getD k 0 = runeAt R ((I + k : Nat) : Int) := by simp [cutN, List.getD, hk]
theorem index_at {R l : List Int} {i : Nat} {r : Int} (h : IndexIs R l i r) (hl : Lies R l i) : r = i := by
  rcases h with ⟨-, h⟩ | ⟨j, rfl, h1, h2, h3⟩
  · exact absurd hl (h i (Int.le_refl _))
  · by_cases e : i < j
    · exact absurd hl (h3 i (Int.le_refl _) e)
    · omega
theorem index_upto {R l : List Int} {i : Nat} {r : Int} (h : IndexIs R l 0 r) (hl : Lies R l i) : ∃ j : Nat, r = j ∧ j ≤ i ∧ Lies R l j := by
  rcases h with ⟨-, h⟩ | ⟨j, rfl, h1, h2, h3⟩
  · exact absurd hl (h i (by omega))
  · refine ⟨j, rfl, ?_, h2⟩
    by_cases e : i < j
    · exact absurd hl (h3 i (by omega) e)
    · omega

set_option maxHeartbeats 3200000 in
set_option maxRecDepth 100000 in
theorem prefixStands_any (w : World) (A : Option Addr) (n c : Nat) (zs : List Int) (h : IsRow .u8 w A n c zs) (a b : Int) (ha : (Lit.int .u8 a).wf = true) (hb : (Lit.int .u8 b).wf = true) : Calls Try.prog 9 #[.slice A n c, .int .u8 a, .int .u8 b] w (HeadPost w) := by
  obtain ⟨s, hs, hconv⟩ := conv_row h
  have ha2 : 0 ≤ a ∧ a ≤ 255 := by simp [Lit.wf, IntKind.min, IntKind.max, IntKind.bits, IntKind.signed] at ha; omega
  have hb2 : 0 ≤ b ∧ b ≤ 255 := by simp [Lit.wf, IntKind.min, IntKind.max, IntKind.bits, IntKind.signed] at hb; omega
  have HC := Lib.hid hconv
  subst hs
  clear hconv h ha hb
  go_enter Try.func9, Try.ntmps9
  go_wp2_with fail
  refine (phead14_any w).mono ?_
  rintro e w1 ⟨rfl, hB⟩
  have HB := Lib.hid hB
  clear hB
  by_cases hlong : (65536 : Int) < s.size
  · have HT := Lib.hid (text_long A s.size c w1 hlong)
    clear hlong
    go_wp2_with fail
    refine HT.out.mono ?_
    rintro e w2 ⟨rfl, rfl⟩
    go_wp2_with fail
    go_ret
    exact ⟨rfl, HB.out⟩
  have HT := Lib.hid (text_ok A c s w1 (by omega) (HC.out w1 HB.out))
  go_wp2_with fail
  refine HT.out.mono ?_
  rintro e w2 ⟨ib, rfl, hin, hb2⟩
  have HB2 := Lib.hid (below_two HB.out hb2)
  have HIN := Lib.hid hin
  have hnl := length_runesOf s
  obtain ⟨N, hN⟩ : ∃ N, (runesOf s).length = N := ⟨_, rfl⟩
  have HN := Lib.hid hN
  have HLN : Hid (∀ W, Below w2.heap.size w2 W → Calls Try.prog 17 #[.pointer (some ⟨ib, 1, none⟩)] W fun e w' => e = .returned (.int .i64 (N : Nat)) ∧ W = w') := Lib.hid fun W hW => by
    have h := len_any (HIN.out.below hW)
    rw [HN.out] at h
    exact h
  rw [hN] at hnl
  have hss : s.size ≤ 65536 := by omega
  clear hin hb2 hN hlong
  by_cases hN0 : N = 0
  · subst hN0
    go_wp2_with fail
    refine (HLN.out w2 (Below.refl _ _)).mono ?_
    rintro e w' ⟨rfl, rfl⟩
    go_wp2_with fail
    go_ret
    exact ⟨rfl, HB2.out⟩
  have hn0 : ((N : Int) == 0) = false := beq_eq_false_iff_ne.2 (by omega)
  by_cases hbig : 3000 < s.size
  · have hz : decide ((3000 : Int) < (s.size : Int)) = true := decide_eq_true (by omega)
    go_wp2_with fail
    refine (HLN.out w2 (Below.refl _ _)).mono ?_
    rintro e w' ⟨rfl, rfl⟩
    go_wp2_with fail
    go_ret
    exact ⟨rfl, HB2.out⟩
  have hz : decide ((3000 : Int) < (s.size : Int)) = false := decide_eq_false (by omega)
  go_upto_region 5 with (go_at_call 17; refine (HLN.out w2 (Below.refl _ _)).mono ?_; rintro e w' ⟨rfl, rfl⟩)
  go_upto_region 6 with (go_at_call 17; refine (HLN.out w2 (Below.refl _ _)).mono ?_; rintro e w' ⟨rfl, rfl⟩)
  have hm1 := Int.emod_nonneg a (show (N : Int) ≠ 0 by omega)
  have hm2 := Int.emod_lt_of_pos a (show (0 : Int) < N by omega)
  obtain ⟨I, hI⟩ : ∃ I : Nat, a % (N : Int) = (I : Int) := ⟨(a % (N : Int)).toNat, by omega⟩
  have hIN : I < N := by omega
  rw [hI]
  clear hm1 hm2 hI hn0
  have hsub : wrap64 ((N : Int) - (I : Int)) = (N : Int) - (I : Int) := IntWalk.wrap64_in _ ⟨by omega, by omega⟩
  have hne : (((N : Int) - (I : Int) + 1) == 0) = false := beq_eq_false_iff_ne.2 (by omega)
  go_upto_region 7 with (go_at_call 17; refine (HLN.out w2 (Below.refl _ _)).mono ?_; rintro e w' ⟨rfl, rfl⟩)
  have hm1 := Int.emod_nonneg b (show (N : Int) - (I : Int) + 1 ≠ 0 by omega)
  have hm2 := Int.emod_lt_of_pos b (show (0 : Int) < (N : Int) - (I : Int) + 1 by omega)
  obtain ⟨D, hD⟩ : ∃ D : Nat, b % ((N : Int) - (I : Int) + 1) = (D : Int) := ⟨(b % ((N : Int) - (I : Int) + 1)).toNat, by omega⟩
  rw [hD]
  have hDN : I + D ≤ N := by omega
  have eK : wrap64 ((I : Int) + (D : Int)) = ((I + D : Nat) : Int) := by rw [IntWalk.wrap64_in _ ⟨by omega, by omega⟩]; omega
  rw [eK]
  obtain ⟨K, hK⟩ : ∃ K, I + D = K := ⟨_, rfl⟩
  rw [hK] at hDN ⊢
  have HKD := Lib.hid hK
  have hIK : I ≤ K := by omega
  clear hm1 hm2 hD eK hne hsub hN0 hbig hz HT hK
  have HRU : Hid (∀ (W : World) (i : Int), Below w2.heap.size w2 W → Calls Try.prog 29 #[.pointer (some ⟨ib, 1, none⟩), .int .i64 i] W fun e w' => e = .returned (.int .i32 (runeAt (runesOf s) i)) ∧ W = w') := Lib.hid fun W i hW => rune_any (HIN.out.below hW) i
  have HR32 : Hid (∀ i, I32 (runeAt (runesOf s) i)) := Lib.hid (runeAt_i32 s)
  go_wp2_with fail
  go_loopw [11, 12] (fun vm i wr => ∃ d : Nat, I + d ≤ K ∧ i = .int .i64 ((I + d : Nat) : Int) ∧ OwnN wr w2.heap.size vm (cutN (runesOf s) I d) ∧ Below w2.heap.size w2 wr) (fun _ i _ => K - (intOf i).toNat)
  case atStart => exact ⟨0, by omega, rfl, ownN_none _ _, Below.refl _ _⟩
  case round =>
    obtain ⟨d, hd, rfl, hv, hbr⟩ := hrel
    have HV := Lib.hid hv; have HBR := Lib.hid hbr
    clear hv hbr
    obtain ⟨J, hJ⟩ : ∃ J, I + d = J := ⟨_, rfl⟩
    have HJ := Lib.hid hJ
    rw [hJ] at hd ⊢
    clear hJ
    by_cases hJK : J < K
    · have hde : decide ((J : Int) < (K : Int)) = true := decide_eq_true (by omega)
      have hru := HRU.out wr (J : Int) HBR.out
      have hxi := HR32.out (J : Int)
      have hnx := cutN_next (runesOf s) I d
      rw [HJ.out] at hnx
      obtain ⟨x, hx⟩ : ∃ x, runeAt (runesOf s) (J : Int) = x := ⟨_, rfl⟩
      rw [hx] at hru hxi hnx
      have HRX := Lib.hid hru; have HNX := Lib.hid hnx
      have hb1 : Below w2.heap.size wr (wr.alloc (.cells #[.int .i32 x] 21)) := (Below.refl _ wr).alloc HBR.out.size _
      have HO1 := Lib.hid (HV.out.below ((Below.refl _ wr).alloc (Nat.le_refl _) (.cells #[.int .i32 x] 21)))
      have HB1 := Lib.hid hb1
      have HR1 := Lib.hid (rns_new wr x hxi)
      clear hru hnx hx hb1 hxi
      go_wp2_with (first | (go_at_call 29; refine HRX.out.mono ?_; rintro e w' ⟨rfl, rfl⟩) | (at_builtin; refine append_rns rfl (.tmp 58) (.tmp 64) rfl w2.heap.size u11 (cutN (runesOf s) I d) rfl HO1.out (some ⟨wr.heap.size, 0, none⟩) 1 1 [x] rfl HR1.out ?c1 ?c2 ?_))
      case c1 => rw [cutN_len]; have := HJ.out; simp; omega
      case c2 => exact Nat.le_trans HBR.out.size HB1.out.size
      intro v3 w3 h3 hg3
      have HB3 := Lib.hid (HBR.out.trans (HB1.out.grown hg3 (Nat.le_trans HBR.out.size HB1.out.size) (fun j hj => (HO1.out.1.lt j hj).1)))
      rw [← HNX.out] at h3
      have H3 := Lib.hid h3
      clear h3 hg3
      go_wp2_with fail
      exact ⟨⟨d + 1, by have := HJ.out; omega, by have := HJ.out; go_num, H3.out, HB3.out⟩, by simp only [intOf]; omega⟩
    · have hde : decide ((J : Int) < (K : Int)) = false := decide_eq_false (by omega)
      have hJe : J = K := by omega
      have hdD : d = D := by have := HJ.out; have := HKD.out; omega
      subst hdD
      obtain ⟨l, hl⟩ : ∃ l, cutN (runesOf s) I d = l := ⟨_, rfl⟩
      have HLI := Lib.hid (cutN_lies (runesOf s) I d (by rw [HN.out, HJ.out]; omega))
      have hll := cutN_len (runesOf s) I d
      rw [hl] at HLI hll HV
      have HLD := Lib.hid hll.symm
      have hIX : Hid (∀ (W : World) (f : Int), Below wr.heap.size wr W → I64 f → Calls Try.prog 28 #[.pointer (some ⟨ib, 0, none⟩), u11, .int .i64 f] W fun e w' => ∃ r : Int, e = .returned (.int .i64 r) ∧ IndexIs (runesOf s) l (max f 0) r ∧ Below W.heap.size W w') := Lib.hid fun W f hW hf =>
        index_any _ 2 s ib W ((HIN.out.below HBR.out).below hW) u11 l (HV.out.rns.below hW) (by rw [hll]; have := HJ.out; omega) f hf
      have HRN := Lib.hid HV.out.rns
      obtain ⟨xa, xc, rfl, -, -, -, hrow, -⟩ := HV.out.rns
      have HROW := Lib.hid hrow
      rw [hll] at HRN hIX ⊢
      have hdl : d ≤ 65536 := by have := HJ.out; omega
      clear hl hde hJK hrow hll
      go_wp2_with fail
      refine (hIX.out wr 0 (Below.refl _ _) (by unfold I64; omega)).mono ?_
      rintro e w3 ⟨r, rfl, hr, hb3⟩
      obtain ⟨q, rfl, hqI, hq⟩ := index_upto hr HLI.out
      have HB3 := Lib.hid hb3; have HQ := Lib.hid hq
      clear hr hb3 hq
      have hz0 : decide ((q : Int) < 0) = false := decide_eq_false (by omega)
      have hz1 : decide ((I : Int) < (q : Int)) = false := decide_eq_false (by omega)
      have hRL : Below w2.heap.size w2 w3 := HBR.out.trans (HB3.out.mono HBR.out.size)
      have HRL := Lib.hid hRL
      have hqd : q + d ≤ N := by have := HQ.out.1; rw [HN.out, ← HLD.out] at this; exact this
      clear hRL
      go_wp2_with fail
      obtain ⟨wo, rfl⟩ : ∃ W, W = wr := ⟨_, rfl⟩
      go_loopw [14] (fun i wz => ∃ m : Nat, m ≤ d ∧ i = .int .i64 (m : Int) ∧ Below w3.heap.size w3 wz) (fun i _ => d - (intOf i).toNat)
      case atStart => exact ⟨0, by omega, rfl, Below.refl _ _⟩
      case round =>
        obtain ⟨m, hm, rfl, hbz⟩ := hrel
        have HBZ := Lib.hid hbz
        by_cases hmd : m < d
        · have hde : decide ((m : Int) < (d : Int)) = true := decide_eq_true (by omega)
          have hml : m < l.length := by rw [← HLD.out]; exact hmd
          rcases HROW.out with h | ⟨b', o', rfl, hc⟩
          · rw [h] at hml; simp at hml
          have c1 : wr.cell? ⟨b', o' + m, none⟩ = some (.int .i32 l[m]) := by
            have h1 := hc m hml
            have h2 : Below wo.heap.size wo wr := HB3.out.trans (hbz.mono HB3.out.size)
            exact (h2.cell (World.block_lt_of_cell? wo _ h1)).trans h1
          have hq1 := HQ.out.2 m hml
          have hgd : l.getD m 0 = l[m] := by simp [List.getD, hml]
          rw [hgd] at hq1
          have HR2 : Hid (∀ k, Calls Try.prog 29 #[.pointer (some ⟨ib, 1, none⟩), .int .i64 ((q : Int) + (m : Int))] (wr.drewN k) fun e w' => e = .returned (.int .i32 l[m]) ∧ wr.drewN k = w') := Lib.hid fun k => by
            have h2 : Below w2.heap.size w2 (wr.drewN k) := HRL.out.trans ((hbz.trans ((below_draws wr k).mono hbz.size)).mono HRL.out.size)
            have h := HRU.out (wr.drewN k) ((q : Int) + (m : Int)) h2
            rw [show ((q : Int) + (m : Int)) = ((q + m : Nat) : Int) by omega, hq1] at h
            rw [show ((q : Int) + (m : Int)) = ((q + m : Nat) : Int) by omega]
            exact h
          obtain ⟨y, hy⟩ : ∃ y, l[m] = y := ⟨_, rfl⟩
          rw [hy] at c1 HR2
          have e8 : IntKind.i64.wrap ((q : Int) + (m : Int)) = (q : Int) + (m : Int) := (IntWalk.i64_left _).trans (IntWalk.wrap64_in _ ⟨by omega, by omega⟩)
          clear hbz hq1 hgd hy hc hml
          go_upto_region 18 with (fail)
          go_quiet (first | (go_at_call 29; refine quiet_here (HR2.out _)))
          go_wp2_with fail
          exact ⟨⟨m + 1, by omega, by go_num, HBZ.out.trans ((below_draws wr _).mono HBZ.out.size)⟩, by simp only [intOf]; omega⟩
        · have hde : decide ((m : Int) < (d : Int)) = false := decide_eq_false (by omega)
          clear hbz
          have hI9 : (I : Int) ≤ 9223372036854775807 := by omega
          have HIX := Lib.hid (hIX.out wr (I : Int) (HB3.out.trans (HBZ.out.mono HB3.out.size)) ⟨by omega, by omega⟩)
          go_wp2_with fail
          refine HIX.out.mono ?_
          rintro e w4 ⟨r2, rfl, hr2, hb4⟩
          rw [show max (I : Int) 0 = (I : Int) by omega] at hr2
          obtain rfl := index_at hr2 HLI.out
          have HB4 := Lib.hid (HB2.out.trans ((HRL.out.trans ((HBZ.out.trans (hb4.mono HBZ.out.size)).mono HRL.out.size)).mono HB2.out.size))
          clear hr2 hb4
          go_wp2_with fail
          go_ret
          exact ⟨rfl, HB4.out⟩
end Go.Proofs.Ytaaadimkbhkpiaa
