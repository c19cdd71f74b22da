/- Texts merged by program: DnTurnL. No condition. -/
import Derived.Test.YtnemacejaiifnaaQ31
import Derived.Test.YtnemacejaiifnaaQ37
import Derived.Test.YtnemacejaiifnaaQ40
import Derived.Test.YtnemacejaiifnaaQ45
import Derived.Test.YtnemacejaiifnaaQ47
import Derived.Test.YtnemacejaiifnaaQ41
import Derived.Test.YtnemacejaiifnaaQ48
import Derived.Test.YtnemacejaiifnaaQ49
import Derived.Test.YtnemacejaiifnaaQ2
import Derived.Deep.RegionLaw
import Derived.Deep.Cut
import Derived.BigQuiet
set_option linter.unusedVariables false
set_option linter.unusedSimpArgs false
/- DenoteTurned. No condition. -/
namespace Go.Proofs.Ytnemacejaiifnaa
open Go Go.RowKit

theorem laid1 (R : List Int) (t : Tr) (h : ShapedP t) (hw : weightR t ≤ 300) : ∃ q, Mat R 0 t q ∧ ∃ n, Numd R.length 4000 n 2000 4000 q := by
  have p := weight_pos t h
  obtain ⟨q, m1, n1⟩ := mat_has R 0 4000 t h (by omega) (by omega) 0
  exact ⟨q, m1, _, n1.up (by omega) (by omega)⟩

set_option maxHeartbeats 3200000 in
set_option maxRecDepth 100000 in
theorem denoteTurned_any (w : World) (v : Value) (t : Tr) (h : Tre w t v) (A : Option Addr) (n c : Nat) (zs : List Int) (hz : IsRow .u8 w A n c zs) : Calls Try.prog 4 #[v, .slice A n c] w (HeadPost w) := by
  obtain ⟨s, hs, hconv⟩ := conv_row hz
  subst hs
  have HC := Lib.hid hconv
  have hsz : s.size ≤ 9223372036854775807 := by
    rcases hz with ⟨-, h1, -⟩ | ⟨x, -, h1, h2, -⟩
    · omega
    · unfold maxLen at h2; omega
  clear hconv hz
  have h0 := h
  obtain ⟨A1, n1, c1, a2, s1, c2, hn, hs, rfl, hnb, hsb, hK, hS, hF⟩ := h.opened
  obtain ⟨f, hf⟩ : ∃ f, t.fld = f := ⟨_, rfl⟩
  rw [hf] at h0 ⊢
  obtain ⟨w1, hw1⟩ : ∃ w1, w.alloc (.cells #[.int .i64 f.op, .slice A1 n1 c1, .int .i32 f.rune, .slice a2 s1 c2, .int .i64 f.at', .int .i64 f.cap, .string f.name, .int .i64 f.min, .int .i64 f.max, .bool f.lazy] 27) = w1 := ⟨_, rfl⟩
  have hb1 : Below w.heap.size w w1 := by rw [← hw1]; exact (Below.refl _ _).alloc (Nat.le_refl _) _
  have hE1 : Box10 w1 w.heap.size (.int .i64 f.op) (.slice A1 n1 c1) (.int .i32 f.rune) (.slice a2 s1 c2) (.int .i64 f.at') (.int .i64 f.cap) (.string f.name) (.int .i64 f.min) (.int .i64 f.max) (.bool f.lazy) := by rw [← hw1]; exact box10_new w _ _ _ _ _ _ _ _ _ _ _
  have HW1 := Lib.hid hw1; have HT := Lib.hid hb1; have HE := Lib.hid hE1; have H0 := Lib.hid (h0.below hb1)
  clear hb1 hE1 hw1 hK hS hn hs hF h h0 hf
  go_enter Try.func4, Try.ntmps4
  go_upto_region 1 with (fail)
  rw [HW1.out]
  clear HW1
  go_wp2_with fail
  refine (dhead_any w1).mono ?_
  rintro e w2 ⟨rfl, hb⟩
  replace H0 := Lib.hid (H0.out.below hb); replace HE := Lib.hid (HE.out.below hb)
  replace HT := Lib.hid (HT.out.trans (hb.mono HT.out.size))
  clear hb
  have HGR : Hid (∀ W V, Tre W t V → Calls Try.prog 11 #[V, .slice A s.size c] W (GreatPost s.size t W)) := Lib.hid fun W V h => great_any W _ t h A s.size c hsz
  by_cases hlong : (65536 : Int) < s.size
  · have HTX := Lib.hid (text_long A s.size c w2 hlong)
    obtain ⟨b0, b1, b2, b3, b4, b5, b6, b7, b8, b9⟩ := HE.out
    go_wp2_with fail
    refine HTX.out.mono ?_
    rintro e w' ⟨rfl, rfl⟩
    go_wp2_with fail
    refine (HGR.out w2 _ H0.out).mono ?_
    rintro e w3 ⟨B, rfl, hB, hb⟩
    have HT3 := Lib.hid (HT.out.trans (hb.mono HT.out.size))
    clear hb b0 b1 b2 b3 b4 b5 b6 b7 b8 b9
    cases B
    · exfalso; have := hB rfl; omega
    · clear hB
      go_wp2_with fail
      go_ret
      exact ⟨rfl, HT3.out⟩
  have HTX := Lib.hid (text_ok A c s w2 (by omega) (HC.out w2 HT.out))
  clear hlong
  go_wp2_with fail
  refine HTX.out.mono ?_
  rintro e w3 ⟨ib, rfl, hin, hb⟩
  replace H0 := Lib.hid (H0.out.below hb); replace HE := Lib.hid (HE.out.below hb)
  replace HT := Lib.hid (HT.out.trans (hb.mono HT.out.size)); have HIN := Lib.hid hin
  clear hb hin HTX
  obtain ⟨b0, b1, b2, b3, b4, b5, b6, b7, b8, b9⟩ := HE.out
  go_wp2_with fail
  refine (HGR.out w3 _ H0.out).mono ?_
  rintro e w4 ⟨B, rfl, hB, hb⟩
  replace H0 := Lib.hid (H0.out.below hb); replace HE := Lib.hid (HE.out.below hb)
  replace HT := Lib.hid (HT.out.trans (hb.mono HT.out.size)); replace HIN := Lib.hid (HIN.out.below hb)
  clear hb b0 b1 b2 b3 b4 b5 b6 b7 b8 b9 HGR
  cases B
  case true =>
    clear hB
    go_wp2_with fail
    go_ret
    exact ⟨rfl, HT.out⟩
  obtain ⟨hs60, hp120, hw300⟩ := hB rfl
  clear hB
  have HRT := Lib.hid (pright_any t (by omega) _ w4 H0.out)
  obtain ⟨b0, b1, b2, b3, b4, b5, b6, b7, b8, b9⟩ := HE.out
  go_wp2_with fail
  refine HRT.out.mono ?_
  rintro e w5 ⟨B, rfl, hB, hb⟩
  replace H0 := Lib.hid (H0.out.below hb); replace HE := Lib.hid (HE.out.below hb)
  replace HT := Lib.hid (HT.out.trans (hb.mono HT.out.size)); replace HIN := Lib.hid (HIN.out.below hb)
  clear hb b0 b1 b2 b3 b4 b5 b6 b7 b8 b9 HRT
  cases B
  case false =>
    clear hB
    go_wp2_with fail
    go_ret
    exact ⟨rfl, HT.out⟩
  have hr : RightT t := hB.1 rfl
  clear hB
  have HLI : Hid (∀ W, Below w5.heap.size w5 W → Calls Try.prog 15 #[.pointer (some ⟨ib, 1, none⟩)] W fun e w' => e = .returned (.int .i64 ((runesOf s).length : Nat)) ∧ W = w') := Lib.hid fun W hW => len_any (HIN.out.below hW)
  have hnl := length_runesOf s
  obtain ⟨R, hR⟩ : ∃ R, (runesOf s).length = R := ⟨_, rfl⟩
  rw [hR] at HLI hnl
  by_cases hout : (7 : Int) < (R : Int)
  · have hd2 : decide ((7 : Int) < (R : Int)) = true := decide_eq_true hout
    as_aux_lemma =>
      go_wp2_with fail
      refine (HLI.out _ (Below.refl _ _)).mono ?_
      rintro e w' ⟨rfl, rfl⟩
      go_wp2_with fail
      go_ret
      exact ⟨rfl, HT.out⟩
  have hd2 : decide ((7 : Int) < (R : Int)) = false := decide_eq_false hout
  have hR7 : R ≤ 7 := by omega
  have sht : ShapedP t := hr.2.2.1
  have SHT := Lib.hid sht; have HRR := Lib.hid hR
  have HRV : Hid ((runesOf (turnT (runesOf s))) = (runesOf s).reverse ∧ (runesOf (turnT (runesOf s))).length = R) := Lib.hid (by
    have := runes_turnT (runesOf s) (runesFrom_isRune s _ _)
    exact ⟨this, by rw [this, List.length_reverse, hR]⟩)
  have HTU := Lib.hid (pturnedT_any t (by omega) _ _ w5 (fun b hb => hb) H0.out.foot)
  have HRI := Lib.hid hr
  clear hout hr sht
  go_wp2_with fail
  refine (HLI.out _ (Below.refl _ _)).mono ?_
  rintro e w' ⟨rfl, rfl⟩
  obtain ⟨b0, b1, b2, b3, b4, b5, b6, b7, b8, b9⟩ := HE.out
  go_wp2_with fail
  clear hd2
  refine HTU.out.mono ?_
  rintro e w6 ⟨vu, U, rfl, hU, hu, hb⟩
  have hU : U = turnedT t := by
    rcases hU with ⟨-, h⟩ | ⟨h, -⟩
    · exact h
    · exact absurd HRI.out h
  subst hU
  have hu := hu.tre
  have hu0 := hu
  obtain ⟨A3, n3, c3, a4, s3, c4, hn, hs, rfl, hnb2, hsb2, hK, hS, hF⟩ := hu.opened
  obtain ⟨g, hg⟩ : ∃ g, (turnedT t).fld = g := ⟨_, rfl⟩
  rw [hg] at hu0 ⊢
  obtain ⟨w7, hw7⟩ : ∃ x, w6.alloc (.cells #[.int .i64 g.op, .slice A3 n3 c3, .int .i32 g.rune, .slice a4 s3 c4, .int .i64 g.at', .int .i64 g.cap, .string g.name, .int .i64 g.min, .int .i64 g.max, .bool g.lazy] 27) = x := ⟨_, rfl⟩
  have hb7 : Below w6.heap.size w6 w7 := by rw [← hw7]; exact (Below.refl _ _).alloc (Nat.le_refl _) _
  have hE7 : Box10 w7 w6.heap.size (.int .i64 g.op) (.slice A3 n3 c3) (.int .i32 g.rune) (.slice a4 s3 c4) (.int .i64 g.at') (.int .i64 g.cap) (.string g.name) (.int .i64 g.min) (.int .i64 g.max) (.bool g.lazy) := by rw [← hw7]; exact box10_new w6 _ _ _ _ _ _ _ _ _ _ _
  have HW7 := Lib.hid hw7
  have hb67 := hb.trans (hb7.mono hb.size)
  replace H0 := Lib.hid (H0.out.below hb67); replace HE := Lib.hid (HE.out.below hb67)
  replace HT := Lib.hid (HT.out.trans (hb67.mono HT.out.size)); replace HIN := Lib.hid (HIN.out.below hb67)
  have HB7 := Lib.hid hb67
  have HU := Lib.hid hE7; have H1 := Lib.hid (hu0.below hb7)
  obtain ⟨bu, hbu⟩ : ∃ b, w6.heap.size = b := ⟨_, rfl⟩
  have HBU := Lib.hid hbu
  rw [hbu] at HU
  clear hK hS hn hs hF hu hu0 hg hb hb7 hE7 hw7 hb67 hbu b0 b1 b2 b3 b4 b5 b6 b7 b8 b9 HTU
  have HBA := Lib.hid (inTurned_any HIN.out (by have := HRR.out; omega) (by omega))
  go_wp2_with fail
  rw [HW7.out, HBU.out]
  refine HBA.out.mono ?_
  rintro e w8 ⟨ibk, rfl, hin2, hb⟩
  replace H0 := Lib.hid (H0.out.below hb); replace HE := Lib.hid (HE.out.below hb)
  replace H1 := Lib.hid (H1.out.below hb); replace HU := Lib.hid (HU.out.below hb)
  replace HT := Lib.hid (HT.out.trans (hb.mono HT.out.size)); replace HIN := Lib.hid (HIN.out.below hb)
  replace HB7 := Lib.hid (HB7.out.trans (hb.mono HB7.out.size)); have HIK := Lib.hid hin2
  clear hb hin2 HBA HW7 HBU
  have hwu := weight_turned t SHT.out
  have hpu := parts_turned t SHT.out
  obtain ⟨qt, mt, nt⟩ := laid1 (runesOf s) t SHT.out hw300
  obtain ⟨qu, mu', nu⟩ := laid1 (runesOf (turnT (runesOf s))) (turnedT t) (shaped_turned t SHT.out) (by omega)
  have hsz2 : (turnT (runesOf s)).size ≤ 60 := by have := turnT_le (runesOf s); have := HRR.out; omega
  have LT : Hid (∀ W, Below w8.heap.size w8 W → ∀ a : Nat, a ≤ R → Calls Try.prog 14 #[.agg #[.int .i64 f.op, .slice A1 n1 c1, .int .i32 f.rune, .slice a2 s1 c2, .int .i64 f.at', .int .i64 f.cap, .string f.name, .int .i64 f.min, .int .i64 f.max, .bool f.lazy], .int .i64 0, .pointer (some ⟨ib, 0, none⟩), .int .i64 (a : Int)] W (ListQ (runesOf s) t qt a W)) := Lib.hid fun W hW a ha =>
    list_q (H0.out.below hW) (HIN.out.below hW) hs60 (by omega) (by rw [HRR.out]; exact ha) SHT.out mt nt
  have LU : Hid (∀ W, Below w8.heap.size w8 W → ∀ a : Nat, a ≤ R → Calls Try.prog 14 #[.agg #[.int .i64 g.op, .slice A3 n3 c3, .int .i32 g.rune, .slice a4 s3 c4, .int .i64 g.at', .int .i64 g.cap, .string g.name, .int .i64 g.min, .int .i64 g.max, .bool g.lazy], .int .i64 0, .pointer (some ⟨ibk, 0, none⟩), .int .i64 (a : Int)] W (ListQ (runesOf (turnT (runesOf s))) (turnedT t) qu a W)) := Lib.hid fun W hW a ha =>
    list_q (H1.out.below hW) (HIK.out.below hW) hsz2 (by omega) (by rw [HRV.out.2]; exact ha) (shaped_turned t SHT.out) mu' nu
  have HLI8 := Lib.hid (HLI.out w8 HB7.out)
  clear hwu hpu mt nt mu' nu hsz2 hnl HLI HB7 hp120 hw300 hs60 H0 H1 HIN HIK HRI hsz HC
  go_wp2_with fail
  refine HLI8.out.mono ?_
  rintro e w' ⟨rfl, rfl⟩
  clear HLI8
  go_wp2_with fail
  go_loopw [10] (fun k wr => ∃ m : Nat, m ≤ R + 1 ∧ k = .int .i64 (m : Int) ∧ Below w8.heap.size w8 wr) (fun k _ => R + 1 - (intOf k).toNat)
  case atStart => exact ⟨0, by omega, rfl, Below.refl _ _⟩
  case round =>
    obtain ⟨m, hmR, rfl, hbr⟩ := hrel
    have HBR := Lib.hid hbr
    clear hbr
    by_cases hm : m ≤ R
    case neg =>
      have hmd : decide ((m : Int) ≤ (R : Int)) = false := decide_eq_false (by omega)
      have HFF := Lib.hid (HT.out.trans (HBR.out.mono HT.out.size))
      as_aux_lemma =>
        go_wp2_with fail
        go_ret
        exact ⟨rfl, HFF.out⟩
    have hmd : decide ((m : Int) ≤ (R : Int)) = true := decide_eq_true (by omega)
    obtain ⟨b0, b1, b2, b3, b4, b5, b6, b7, b8, b9⟩ := HE.out.below HBR.out
    have HLW := Lib.hid (LT.out wr HBR.out m hm)
    go_upto_region 12 with (go_at_call 14; refine HLW.out.mono ?_; rintro e w11 ⟨ev1, L1, rfl, hv1, hb9, hf1, -, hh1⟩)
    have HV1 := Lib.hid hv1; have HF1 := Lib.hid hf1; have HH1 := Lib.hid hh1
    have HB11 := Lib.hid (HBR.out.trans (hb9.mono HBR.out.size))
    clear hv1 hb9 hf1 hh1 b0 b1 b2 b3 b4 b5 b6 b7 b8 b9 HLW HBR
    obtain ⟨A5, c5, rfl, hle5, hlm5⟩ := HV1.out.sl
    obtain ⟨N, hN⟩ : ∃ N, L1.length = N := ⟨_, rfl⟩
    rw [hN] at hle5 HV1 ⊢
    have HN := Lib.hid hN
    have hNb : N ≤ 9223372036854775807 := by unfold maxLen at hlm5; omega
    clear hN hlm5
    go_wp2_with fail
    obtain ⟨wo, rfl⟩ : ∃ W, W = w11 := ⟨_, rfl⟩
    go_loopw [12] (fun k wr => ∃ p : Nat, p ≤ N ∧ k = .int .i64 (p : Int) ∧ Below wo.heap.size wo wr) (fun k _ => N - (intOf k).toNat)
    case atStart => exact ⟨0, by omega, rfl, Below.refl _ _⟩
    case round =>
      obtain ⟨p, hp, rfl, hbz⟩ := hrel
      have HBZ := Lib.hid hbz
      have HBW := Lib.hid (HB11.out.trans (hbz.mono HB11.out.size))
      clear hbz
      by_cases hpN : p < N
      · have hpd : decide ((p : Int) < (N : Int)) = true := decide_eq_true (by omega)
        have hpl : p < L1.length := by rw [HN.out]; exact hpN
        obtain ⟨gl, r, rc, rfl, k1, hrc, hrm, k2⟩ := ends_row (HV1.out.below HBZ.out) (fun o ho => ⟨by have := (HF1.out o ho).1; have := HRR.out; have := HRV.out.2; omega, (HF1.out o ho).2⟩) p hpl
        have HO1 := Lib.hid (HF1.out _ (List.getElem_mem hpl)).1
        have htr := (HH1.out _).1 (hasE_iff.2 ⟨_, List.getElem_mem hpl, rfl⟩)
        obtain ⟨o1, ho⟩ : ∃ o1, (L1[p]'hpl).1 = o1 := ⟨_, rfl⟩
        rw [ho] at k2 HO1 htr
        have ho1 : o1 ≤ R := by have := HO1.out; have := HRR.out; have := HRV.out.2; omega
        obtain ⟨x, hx⟩ : ∃ x, R - o1 = x := ⟨_, rfl⟩
        obtain ⟨y, hy⟩ : ∃ y, R - m = y := ⟨_, rfl⟩
        have e1 : IntKind.i64.wrap ((R : Int) - (o1 : Int)) = (x : Int) := by rw [show (R : Int) - (o1 : Int) = (x : Int) by omega]; exact (IntWalk.i64_left _).trans (IntWalk.wrap64_in _ ⟨by omega, by omega⟩)
        have e2 : IntKind.i64.wrap ((R : Int) - (m : Int)) = (y : Int) := by rw [show (R : Int) - (m : Int) = (y : Int) by omega]; exact (IntWalk.i64_left _).trans (IntWalk.wrap64_in _ ⟨by omega, by omega⟩)
        have HTR := Lib.hid (show TreeR (runesOf (turnT (runesOf s))) (turnedT t) x y by rw [HRV.out.1, ← hx, ← hy, ← HRR.out]; exact (turned_fits (runesOf s) t SHT.out m o1 (by have := HRR.out; omega) (by have := HRR.out; omega)).1 htr)
        clear htr
        have HD := Lib.hid (HBW.out)
        have hS : Hid (∀ W, Below wr.heap.size wr W → (fun W' => W'.cell? ⟨bu, 0, none⟩ = some (.int .i64 g.op) ∧ W'.cell? ⟨bu, 1, none⟩ = some (.slice A3 n3 c3) ∧ W'.cell? ⟨bu, 2, none⟩ = some (.int .i32 g.rune) ∧ W'.cell? ⟨bu, 3, none⟩ = some (.slice a4 s3 c4) ∧ W'.cell? ⟨bu, 4, none⟩ = some (.int .i64 g.at') ∧ W'.cell? ⟨bu, 5, none⟩ = some (.int .i64 g.cap) ∧ W'.cell? ⟨bu, 6, none⟩ = some (.string g.name) ∧ W'.cell? ⟨bu, 7, none⟩ = some (.int .i64 g.min) ∧ W'.cell? ⟨bu, 8, none⟩ = some (.int .i64 g.max) ∧ W'.cell? ⟨bu, 9, none⟩ = some (.bool g.lazy) ∧ W'.cell? ⟨gl, p, none⟩ = some (.slice (some ⟨r, 0, none⟩) 2 rc) ∧ W'.cell? ⟨r, 1, none⟩ = some (.int .i64 (o1 : Int))) W) := Lib.hid fun W hW => by
          obtain ⟨d0, d1, d2, d3, d4, d5, d6, d7, d8, d9⟩ := HU.out.below (HD.out.trans (hW.mono HD.out.size))
          have lift : ∀ {a : Addr} {u : Value}, wr.cell? a = some u → W.cell? a = some u := fun h => (hW.cell (World.block_lt_of_cell? wr _ h)).trans h
          exact ⟨d0, d1, d2, d3, d4, d5, d6, d7, d8, d9, lift k1, lift k2⟩
        clear ho k1 k2
        as_aux_lemma =>
          go_upto_region 15 with (fail)
          obtain ⟨u0, hu0⟩ : ∃ x, wr.drew = x := ⟨_, rfl⟩
          have hb0 : Below wr.heap.size wr u0 := by rw [← hu0]; exact (Below.refl _ _).drew
          have HU0 := Lib.hid hb0
          have HD0 := Lib.hid (HD.out.trans (hb0.mono HD.out.size))
          refine wp_onlyP ?_
          refine wp_region_held_drew (S := (fun W' => W'.cell? ⟨bu, 0, none⟩ = some (.int .i64 g.op) ∧ W'.cell? ⟨bu, 1, none⟩ = some (.slice A3 n3 c3) ∧ W'.cell? ⟨bu, 2, none⟩ = some (.int .i32 g.rune) ∧ W'.cell? ⟨bu, 3, none⟩ = some (.slice a4 s3 c4) ∧ W'.cell? ⟨bu, 4, none⟩ = some (.int .i64 g.at') ∧ W'.cell? ⟨bu, 5, none⟩ = some (.int .i64 g.cap) ∧ W'.cell? ⟨bu, 6, none⟩ = some (.string g.name) ∧ W'.cell? ⟨bu, 7, none⟩ = some (.int .i64 g.min) ∧ W'.cell? ⟨bu, 8, none⟩ = some (.int .i64 g.max) ∧ W'.cell? ⟨bu, 9, none⟩ = some (.bool g.lazy) ∧ W'.cell? ⟨gl, p, none⟩ = some (.slice (some ⟨r, 0, none⟩) 2 rc) ∧ W'.cell? ⟨r, 1, none⟩ = some (.int .i64 (o1 : Int)))) (by kernel_rfl) (by rw [hu0]; exact hS.out _ HU0.out) (fun hHeld => ?_)
          rw [hu0] at hHeld ⊢
          clear hu0 hb0
          refine wpAnyH_take (i := 0) (oi := _) (v := ?_) rfl (by kernel_rfl) (by kernel_rfl) (by kernel_rfl) (fun _ _ _ h => h) (Or.inl ⟨by rfl, ?_⟩) hHeld ?_
          rotate_left 1
          · (intro w hSw; (try dsimp only at hSw); go_simp; (try with_reducible rfl))
          try simp only [List.getElem_toArray, List.getElem_cons_zero, List.getElem_cons_succ, Act.put, List.setIfInBounds_toArray, List.set_cons_zero, List.set_cons_succ]
          refine wpAnyH_take (i := 1) (oi := _) (v := ?_) rfl (by kernel_rfl) (by kernel_rfl) (by kernel_rfl) (fun _ _ _ h => h) (Or.inl ⟨by rfl, ?_⟩) hHeld ?_
          rotate_left 1
          · (intro w hSw; (try dsimp only at hSw); go_simp; (try with_reducible rfl))
          try simp only [List.getElem_toArray, List.getElem_cons_zero, List.getElem_cons_succ, Act.put, List.setIfInBounds_toArray, List.set_cons_zero, List.set_cons_succ]
          refine wpAnyH_take (i := 2) (oi := _) (v := ?_) rfl (by kernel_rfl) (by kernel_rfl) (by kernel_rfl) (fun _ _ _ h => h) (Or.inl ⟨by rfl, ?_⟩) hHeld ?_
          rotate_left 1
          · (intro w hSw; (try dsimp only at hSw); go_simp; (try with_reducible rfl))
          try simp only [List.getElem_toArray, List.getElem_cons_zero, List.getElem_cons_succ, Act.put, List.setIfInBounds_toArray, List.set_cons_zero, List.set_cons_succ]
          refine wpAnyH_take (i := 3) (oi := _) (v := ?_) rfl (by kernel_rfl) (by kernel_rfl) (by kernel_rfl) (fun _ _ _ h => h) (Or.inl ⟨by rfl, ?_⟩) hHeld ?_
          rotate_left 1
          · (intro w hSw; (try dsimp only at hSw); go_simp; (try with_reducible rfl))
          try simp only [List.getElem_toArray, List.getElem_cons_zero, List.getElem_cons_succ, Act.put, List.setIfInBounds_toArray, List.set_cons_zero, List.set_cons_succ]
          refine wpAnyH_take (i := 4) (oi := _) (v := ?_) rfl (by kernel_rfl) (by kernel_rfl) (by kernel_rfl) (fun _ _ _ h => h) (Or.inl ⟨by rfl, ?_⟩) hHeld ?_
          rotate_left 1
          · (intro w hSw; (try dsimp only at hSw); go_simp; (try with_reducible rfl))
          try simp only [List.getElem_toArray, List.getElem_cons_zero, List.getElem_cons_succ, Act.put, List.setIfInBounds_toArray, List.set_cons_zero, List.set_cons_succ]
          refine wpAnyH_take (i := 5) (oi := _) (v := ?_) rfl (by kernel_rfl) (by kernel_rfl) (by kernel_rfl) (fun _ _ _ h => h) (Or.inl ⟨by rfl, ?_⟩) hHeld ?_
          rotate_left 1
          · (intro w hSw; (try dsimp only at hSw); go_simp; (try with_reducible rfl))
          try simp only [List.getElem_toArray, List.getElem_cons_zero, List.getElem_cons_succ, Act.put, List.setIfInBounds_toArray, List.set_cons_zero, List.set_cons_succ]
          refine wpAnyH_take (i := 6) (oi := _) (v := ?_) rfl (by kernel_rfl) (by kernel_rfl) (by kernel_rfl) (fun _ _ _ h => h) (Or.inl ⟨by rfl, ?_⟩) hHeld ?_
          rotate_left 1
          · (intro w hSw; (try dsimp only at hSw); go_simp; (try with_reducible rfl))
          try simp only [List.getElem_toArray, List.getElem_cons_zero, List.getElem_cons_succ, Act.put, List.setIfInBounds_toArray, List.set_cons_zero, List.set_cons_succ]
          refine wpAnyH_take (i := 7) (oi := _) (v := ?_) rfl (by kernel_rfl) (by kernel_rfl) (by kernel_rfl) (fun _ _ _ h => h) (Or.inl ⟨by rfl, ?_⟩) hHeld ?_
          rotate_left 1
          · (intro w hSw; (try dsimp only at hSw); go_simp; (try with_reducible rfl))
          try simp only [List.getElem_toArray, List.getElem_cons_zero, List.getElem_cons_succ, Act.put, List.setIfInBounds_toArray, List.set_cons_zero, List.set_cons_succ]
          refine wpAnyH_take (i := 8) (oi := _) (v := ?_) rfl (by kernel_rfl) (by kernel_rfl) (by kernel_rfl) (fun _ _ _ h => h) (Or.inl ⟨by rfl, ?_⟩) hHeld ?_
          rotate_left 1
          · (intro w hSw; (try dsimp only at hSw); go_simp; (try with_reducible rfl))
          try simp only [List.getElem_toArray, List.getElem_cons_zero, List.getElem_cons_succ, Act.put, List.setIfInBounds_toArray, List.set_cons_zero, List.set_cons_succ]
          refine wpAnyH_take (i := 9) (oi := _) (v := ?_) rfl (by kernel_rfl) (by kernel_rfl) (by kernel_rfl) (fun _ _ _ h => h) (Or.inl ⟨by rfl, ?_⟩) hHeld ?_
          rotate_left 1
          · (intro w hSw; (try dsimp only at hSw); go_simp; (try with_reducible rfl))
          try simp only [List.getElem_toArray, List.getElem_cons_zero, List.getElem_cons_succ, Act.put, List.setIfInBounds_toArray, List.set_cons_zero, List.set_cons_succ]
          refine wpAnyH_take (i := 11) (oi := _) (v := ?_) rfl (by kernel_rfl) (by kernel_rfl) (by kernel_rfl) (fun _ _ _ h => h) (Or.inl ⟨by rfl, ?_⟩) hHeld ?_
          rotate_left 1
          · (intro w hSw; (try dsimp only at hSw); go_simp; (try with_reducible rfl))
          try simp only [List.getElem_toArray, List.getElem_cons_zero, List.getElem_cons_succ, Act.put, List.setIfInBounds_toArray, List.set_cons_zero, List.set_cons_succ]
          refine wpAnyH_take (i := 12) (oi := _) (v := ?_) rfl (by kernel_rfl) (by kernel_rfl) (by kernel_rfl) (fun _ _ _ h => h) (Or.inl ⟨by rfl, ?_⟩) hHeld ?_
          rotate_left 1
          · (intro w hSw; (try dsimp only at hSw); go_simp; (try with_reducible rfl))
          try simp only [List.getElem_toArray, List.getElem_cons_zero, List.getElem_cons_succ, Act.put, List.setIfInBounds_toArray, List.set_cons_zero, List.set_cons_succ]
          refine wpAnyH_take (i := 13) (oi := _) (v := ?_) rfl (by kernel_rfl) (by kernel_rfl) (by kernel_rfl) (fun _ _ _ h => h) (Or.inl ⟨by rfl, ?_⟩) hHeld ?_
          rotate_left 1
          · (intro w hSw; (try dsimp only at hSw); go_simp; (try with_reducible rfl))
          try simp only [List.getElem_toArray, List.getElem_cons_zero, List.getElem_cons_succ, Act.put, List.setIfInBounds_toArray, List.set_cons_zero, List.set_cons_succ]
          refine wpAnyH_ready (rs := [10]) (by kernel_rfl) (by simp) ?_
          refine AllReadyH.cons (o := _) rfl (fun K hK => ?_) ?_
          · go_simp
            refine (LU.out _ HD0.out x (by omega)).mono ?_
            rintro e u1 ⟨ev7, L7, rfl, hv7, hb7, hf7, -, hh7⟩
            have HU1 := Lib.hid (HU0.out.trans (hb7.mono HU0.out.size)); have HV7 := Lib.hid hv7; have HF7 := Lib.hid hf7; have HH7 := Lib.hid hh7
            dsimp only
            clear hv7 hb7 hf7 hh7
            refine hK.out _ _ (hS.out _ HU1.out) (fun hHeld => ?_)
            clear hK K
            try simp only [List.getElem_toArray, List.getElem_cons_zero, List.getElem_cons_succ, Act.put, List.setIfInBounds_toArray, List.set_cons_zero, List.set_cons_succ]
            refine wpAnyH_ready (rs := [14]) (by kernel_rfl) (by simp) ?_
            refine AllReadyH.cons (o := _) rfl (fun K hK => ?_) ?_
            · go_simp
              refine (ends_any HV7.out (fun o ho => ⟨by have := (HF7.out o ho).1; have := HRR.out; have := HRV.out.2; omega, (HF7.out o ho).2⟩) y (by omega)).mono ?_
              rintro e w' ⟨rfl, rfl⟩
              rw [(HH7.out y).2 HTR.out]
              dsimp only
              refine hK.out _ _ (hS.out _ HU1.out) (fun hHeld => ?_)
              clear hK K
              try simp only [List.getElem_toArray, List.getElem_cons_zero, List.getElem_cons_succ, Act.put, List.setIfInBounds_toArray, List.set_cons_zero, List.set_cons_succ]
              refine wpAnyH_take (i := 15) (oi := _) (v := ?_) rfl (by kernel_rfl) (by kernel_rfl) (by kernel_rfl) (fun _ _ _ h => h) (Or.inl ⟨by rfl, ?_⟩) hHeld ?_
              rotate_left 1
              · (intro w hSw; (try dsimp only at hSw); go_simp; (try with_reducible rfl))
              try simp only [List.getElem_toArray, List.getElem_cons_zero, List.getElem_cons_succ, Act.put, List.setIfInBounds_toArray, List.set_cons_zero, List.set_cons_succ]
              refine wpAnyH_done (by kernel_rfl) ?_ _
              dsimp only [onlyP]
              go_wp2_with fail
              exact ⟨⟨p + 1, by omega, by go_num, HBZ.out.trans (HU1.out.mono HBZ.out.size)⟩, by simp only [intOf]; omega⟩
            exact AllReadyH.nil
          exact AllReadyH.nil
      · have hpd : decide ((p : Int) < (N : Int)) = false := decide_eq_false (by omega)
        have HB12 := Lib.hid (HBW.out)
        obtain ⟨d0, d1, d2, d3, d4, d5, d6, d7, d8, d9⟩ := HU.out.below HB12.out
        have HLW := Lib.hid (LU.out wr HB12.out m hm)
        go_upto_region 18 with (go_at_call 14; refine HLW.out.mono ?_; rintro e w12 ⟨ev1, L2, rfl, hv1, hb9, hf1, -, hh1⟩)
        have HV2 := Lib.hid hv1; have HF2 := Lib.hid hf1; have HH2 := Lib.hid hh1
        replace HB11 := Lib.hid (HB12.out.trans (hb9.mono HB12.out.size))
        clear hv1 hb9 hf1 hh1 d0 d1 d2 d3 d4 d5 d6 d7 d8 d9 HV1 HF1 HH1 HLW HBZ HBW HB12 HN hle5 hNb hpN hpd hp
        obtain ⟨w11, rfl⟩ : ∃ W, W = w12 := ⟨_, rfl⟩
        obtain ⟨A5, c5, rfl, hle5, hlm5⟩ := HV2.out.sl
        obtain ⟨N, hN⟩ : ∃ N, L2.length = N := ⟨_, rfl⟩
        rw [hN] at hle5 HV2 ⊢
        have HN := Lib.hid hN
        have hNb : N ≤ 9223372036854775807 := by unfold maxLen at hlm5; omega
        clear hN hlm5
        go_wp2_with fail
        obtain ⟨wo, rfl⟩ : ∃ W, W = w11 := ⟨_, rfl⟩
        go_loopw [14] (fun k wr => ∃ p : Nat, p ≤ N ∧ k = .int .i64 (p : Int) ∧ Below wo.heap.size wo wr) (fun k _ => N - (intOf k).toNat)
        case atStart => exact ⟨0, by omega, rfl, Below.refl _ _⟩
        case round =>
          obtain ⟨p, hp, rfl, hbz⟩ := hrel
          have HBZ := Lib.hid hbz
          have HBW := Lib.hid (HB11.out.trans (hbz.mono HB11.out.size))
          clear hbz
          by_cases hpN : p < N
          · have hpd : decide ((p : Int) < (N : Int)) = true := decide_eq_true (by omega)
            have hpl : p < L2.length := by rw [HN.out]; exact hpN
            obtain ⟨gl, r, rc, rfl, k1, hrc, hrm, k2⟩ := ends_row (HV2.out.below HBZ.out) (fun o ho => ⟨by have := (HF2.out o ho).1; have := HRR.out; have := HRV.out.2; omega, (HF2.out o ho).2⟩) p hpl
            have HO1 := Lib.hid (HF2.out _ (List.getElem_mem hpl)).1
            have htr := (HH2.out _).1 (hasE_iff.2 ⟨_, List.getElem_mem hpl, rfl⟩)
            obtain ⟨o1, ho⟩ : ∃ o1, (L2[p]'hpl).1 = o1 := ⟨_, rfl⟩
            rw [ho] at k2 HO1 htr
            have ho1 : o1 ≤ R := by have := HO1.out; have := HRR.out; have := HRV.out.2; omega
            obtain ⟨x, hx⟩ : ∃ x, R - o1 = x := ⟨_, rfl⟩
            obtain ⟨y, hy⟩ : ∃ y, R - m = y := ⟨_, rfl⟩
            have e1 : IntKind.i64.wrap ((R : Int) - (o1 : Int)) = (x : Int) := by rw [show (R : Int) - (o1 : Int) = (x : Int) by omega]; exact (IntWalk.i64_left _).trans (IntWalk.wrap64_in _ ⟨by omega, by omega⟩)
            have e2 : IntKind.i64.wrap ((R : Int) - (m : Int)) = (y : Int) := by rw [show (R : Int) - (m : Int) = (y : Int) by omega]; exact (IntWalk.i64_left _).trans (IntWalk.wrap64_in _ ⟨by omega, by omega⟩)
            have HTR := Lib.hid (show TreeR (runesOf s) t x y by refine (turned_fits (runesOf s) t SHT.out x y (by have := HRR.out; omega) (by have := HRR.out; omega)).2 ?_; rw [HRR.out, show R - y = m by omega, show R - x = o1 by omega, ← HRV.out.1]; exact htr)
            clear htr
            have HD := Lib.hid (HBW.out)
            have hS : Hid (∀ W, Below wr.heap.size wr W → (fun W' => W'.cell? ⟨w.heap.size, 0, none⟩ = some (.int .i64 f.op) ∧ W'.cell? ⟨w.heap.size, 1, none⟩ = some (.slice A1 n1 c1) ∧ W'.cell? ⟨w.heap.size, 2, none⟩ = some (.int .i32 f.rune) ∧ W'.cell? ⟨w.heap.size, 3, none⟩ = some (.slice a2 s1 c2) ∧ W'.cell? ⟨w.heap.size, 4, none⟩ = some (.int .i64 f.at') ∧ W'.cell? ⟨w.heap.size, 5, none⟩ = some (.int .i64 f.cap) ∧ W'.cell? ⟨w.heap.size, 6, none⟩ = some (.string f.name) ∧ W'.cell? ⟨w.heap.size, 7, none⟩ = some (.int .i64 f.min) ∧ W'.cell? ⟨w.heap.size, 8, none⟩ = some (.int .i64 f.max) ∧ W'.cell? ⟨w.heap.size, 9, none⟩ = some (.bool f.lazy) ∧ W'.cell? ⟨gl, p, none⟩ = some (.slice (some ⟨r, 0, none⟩) 2 rc) ∧ W'.cell? ⟨r, 1, none⟩ = some (.int .i64 (o1 : Int))) W) := Lib.hid fun W hW => by
              obtain ⟨d0, d1, d2, d3, d4, d5, d6, d7, d8, d9⟩ := HE.out.below (HD.out.trans (hW.mono HD.out.size))
              have lift : ∀ {a : Addr} {u : Value}, wr.cell? a = some u → W.cell? a = some u := fun h => (hW.cell (World.block_lt_of_cell? wr _ h)).trans h
              exact ⟨d0, d1, d2, d3, d4, d5, d6, d7, d8, d9, lift k1, lift k2⟩
            clear ho k1 k2
            as_aux_lemma =>
              go_upto_region 21 with (fail)
              obtain ⟨u0, hu0⟩ : ∃ x, wr.drew = x := ⟨_, rfl⟩
              have hb0 : Below wr.heap.size wr u0 := by rw [← hu0]; exact (Below.refl _ _).drew
              have HU0 := Lib.hid hb0
              have HD0 := Lib.hid (HD.out.trans (hb0.mono HD.out.size))
              refine wp_onlyP ?_
              refine wp_region_held_drew (S := (fun W' => W'.cell? ⟨w.heap.size, 0, none⟩ = some (.int .i64 f.op) ∧ W'.cell? ⟨w.heap.size, 1, none⟩ = some (.slice A1 n1 c1) ∧ W'.cell? ⟨w.heap.size, 2, none⟩ = some (.int .i32 f.rune) ∧ W'.cell? ⟨w.heap.size, 3, none⟩ = some (.slice a2 s1 c2) ∧ W'.cell? ⟨w.heap.size, 4, none⟩ = some (.int .i64 f.at') ∧ W'.cell? ⟨w.heap.size, 5, none⟩ = some (.int .i64 f.cap) ∧ W'.cell? ⟨w.heap.size, 6, none⟩ = some (.string f.name) ∧ W'.cell? ⟨w.heap.size, 7, none⟩ = some (.int .i64 f.min) ∧ W'.cell? ⟨w.heap.size, 8, none⟩ = some (.int .i64 f.max) ∧ W'.cell? ⟨w.heap.size, 9, none⟩ = some (.bool f.lazy) ∧ W'.cell? ⟨gl, p, none⟩ = some (.slice (some ⟨r, 0, none⟩) 2 rc) ∧ W'.cell? ⟨r, 1, none⟩ = some (.int .i64 (o1 : Int)))) (by kernel_rfl) (by rw [hu0]; exact hS.out _ HU0.out) (fun hHeld => ?_)
              rw [hu0] at hHeld ⊢
              clear hu0 hb0
              refine wpAnyH_take (i := 0) (oi := _) (v := ?_) rfl (by kernel_rfl) (by kernel_rfl) (by kernel_rfl) (fun _ _ _ h => h) (Or.inl ⟨by rfl, ?_⟩) hHeld ?_
              rotate_left 1
              · (intro w hSw; (try dsimp only at hSw); go_simp; (try with_reducible rfl))
              try simp only [List.getElem_toArray, List.getElem_cons_zero, List.getElem_cons_succ, Act.put, List.setIfInBounds_toArray, List.set_cons_zero, List.set_cons_succ]
              refine wpAnyH_take (i := 1) (oi := _) (v := ?_) rfl (by kernel_rfl) (by kernel_rfl) (by kernel_rfl) (fun _ _ _ h => h) (Or.inl ⟨by rfl, ?_⟩) hHeld ?_
              rotate_left 1
              · (intro w hSw; (try dsimp only at hSw); go_simp; (try with_reducible rfl))
              try simp only [List.getElem_toArray, List.getElem_cons_zero, List.getElem_cons_succ, Act.put, List.setIfInBounds_toArray, List.set_cons_zero, List.set_cons_succ]
              refine wpAnyH_take (i := 2) (oi := _) (v := ?_) rfl (by kernel_rfl) (by kernel_rfl) (by kernel_rfl) (fun _ _ _ h => h) (Or.inl ⟨by rfl, ?_⟩) hHeld ?_
              rotate_left 1
              · (intro w hSw; (try dsimp only at hSw); go_simp; (try with_reducible rfl))
              try simp only [List.getElem_toArray, List.getElem_cons_zero, List.getElem_cons_succ, Act.put, List.setIfInBounds_toArray, List.set_cons_zero, List.set_cons_succ]
              refine wpAnyH_take (i := 3) (oi := _) (v := ?_) rfl (by kernel_rfl) (by kernel_rfl) (by kernel_rfl) (fun _ _ _ h => h) (Or.inl ⟨by rfl, ?_⟩) hHeld ?_
              rotate_left 1
              · (intro w hSw; (try dsimp only at hSw); go_simp; (try with_reducible rfl))
              try simp only [List.getElem_toArray, List.getElem_cons_zero, List.getElem_cons_succ, Act.put, List.setIfInBounds_toArray, List.set_cons_zero, List.set_cons_succ]
              refine wpAnyH_take (i := 4) (oi := _) (v := ?_) rfl (by kernel_rfl) (by kernel_rfl) (by kernel_rfl) (fun _ _ _ h => h) (Or.inl ⟨by rfl, ?_⟩) hHeld ?_
              rotate_left 1
              · (intro w hSw; (try dsimp only at hSw); go_simp; (try with_reducible rfl))
              try simp only [List.getElem_toArray, List.getElem_cons_zero, List.getElem_cons_succ, Act.put, List.setIfInBounds_toArray, List.set_cons_zero, List.set_cons_succ]
              refine wpAnyH_take (i := 5) (oi := _) (v := ?_) rfl (by kernel_rfl) (by kernel_rfl) (by kernel_rfl) (fun _ _ _ h => h) (Or.inl ⟨by rfl, ?_⟩) hHeld ?_
              rotate_left 1
              · (intro w hSw; (try dsimp only at hSw); go_simp; (try with_reducible rfl))
              try simp only [List.getElem_toArray, List.getElem_cons_zero, List.getElem_cons_succ, Act.put, List.setIfInBounds_toArray, List.set_cons_zero, List.set_cons_succ]
              refine wpAnyH_take (i := 6) (oi := _) (v := ?_) rfl (by kernel_rfl) (by kernel_rfl) (by kernel_rfl) (fun _ _ _ h => h) (Or.inl ⟨by rfl, ?_⟩) hHeld ?_
              rotate_left 1
              · (intro w hSw; (try dsimp only at hSw); go_simp; (try with_reducible rfl))
              try simp only [List.getElem_toArray, List.getElem_cons_zero, List.getElem_cons_succ, Act.put, List.setIfInBounds_toArray, List.set_cons_zero, List.set_cons_succ]
              refine wpAnyH_take (i := 7) (oi := _) (v := ?_) rfl (by kernel_rfl) (by kernel_rfl) (by kernel_rfl) (fun _ _ _ h => h) (Or.inl ⟨by rfl, ?_⟩) hHeld ?_
              rotate_left 1
              · (intro w hSw; (try dsimp only at hSw); go_simp; (try with_reducible rfl))
              try simp only [List.getElem_toArray, List.getElem_cons_zero, List.getElem_cons_succ, Act.put, List.setIfInBounds_toArray, List.set_cons_zero, List.set_cons_succ]
              refine wpAnyH_take (i := 8) (oi := _) (v := ?_) rfl (by kernel_rfl) (by kernel_rfl) (by kernel_rfl) (fun _ _ _ h => h) (Or.inl ⟨by rfl, ?_⟩) hHeld ?_
              rotate_left 1
              · (intro w hSw; (try dsimp only at hSw); go_simp; (try with_reducible rfl))
              try simp only [List.getElem_toArray, List.getElem_cons_zero, List.getElem_cons_succ, Act.put, List.setIfInBounds_toArray, List.set_cons_zero, List.set_cons_succ]
              refine wpAnyH_take (i := 9) (oi := _) (v := ?_) rfl (by kernel_rfl) (by kernel_rfl) (by kernel_rfl) (fun _ _ _ h => h) (Or.inl ⟨by rfl, ?_⟩) hHeld ?_
              rotate_left 1
              · (intro w hSw; (try dsimp only at hSw); go_simp; (try with_reducible rfl))
              try simp only [List.getElem_toArray, List.getElem_cons_zero, List.getElem_cons_succ, Act.put, List.setIfInBounds_toArray, List.set_cons_zero, List.set_cons_succ]
              refine wpAnyH_take (i := 11) (oi := _) (v := ?_) rfl (by kernel_rfl) (by kernel_rfl) (by kernel_rfl) (fun _ _ _ h => h) (Or.inl ⟨by rfl, ?_⟩) hHeld ?_
              rotate_left 1
              · (intro w hSw; (try dsimp only at hSw); go_simp; (try with_reducible rfl))
              try simp only [List.getElem_toArray, List.getElem_cons_zero, List.getElem_cons_succ, Act.put, List.setIfInBounds_toArray, List.set_cons_zero, List.set_cons_succ]
              refine wpAnyH_take (i := 12) (oi := _) (v := ?_) rfl (by kernel_rfl) (by kernel_rfl) (by kernel_rfl) (fun _ _ _ h => h) (Or.inl ⟨by rfl, ?_⟩) hHeld ?_
              rotate_left 1
              · (intro w hSw; (try dsimp only at hSw); go_simp; (try with_reducible rfl))
              try simp only [List.getElem_toArray, List.getElem_cons_zero, List.getElem_cons_succ, Act.put, List.setIfInBounds_toArray, List.set_cons_zero, List.set_cons_succ]
              refine wpAnyH_take (i := 13) (oi := _) (v := ?_) rfl (by kernel_rfl) (by kernel_rfl) (by kernel_rfl) (fun _ _ _ h => h) (Or.inl ⟨by rfl, ?_⟩) hHeld ?_
              rotate_left 1
              · (intro w hSw; (try dsimp only at hSw); go_simp; (try with_reducible rfl))
              try simp only [List.getElem_toArray, List.getElem_cons_zero, List.getElem_cons_succ, Act.put, List.setIfInBounds_toArray, List.set_cons_zero, List.set_cons_succ]
              refine wpAnyH_ready (rs := [10]) (by kernel_rfl) (by simp) ?_
              refine AllReadyH.cons (o := _) rfl (fun K hK => ?_) ?_
              · go_simp
                refine (LT.out _ HD0.out x (by omega)).mono ?_
                rintro e u1 ⟨ev7, L7, rfl, hv7, hb7, hf7, -, hh7⟩
                have HU1 := Lib.hid (HU0.out.trans (hb7.mono HU0.out.size)); have HV7 := Lib.hid hv7; have HF7 := Lib.hid hf7; have HH7 := Lib.hid hh7
                dsimp only
                clear hv7 hb7 hf7 hh7
                refine hK.out _ _ (hS.out _ HU1.out) (fun hHeld => ?_)
                clear hK K
                try simp only [List.getElem_toArray, List.getElem_cons_zero, List.getElem_cons_succ, Act.put, List.setIfInBounds_toArray, List.set_cons_zero, List.set_cons_succ]
                refine wpAnyH_ready (rs := [14]) (by kernel_rfl) (by simp) ?_
                refine AllReadyH.cons (o := _) rfl (fun K hK => ?_) ?_
                · go_simp
                  refine (ends_any HV7.out (fun o ho => ⟨by have := (HF7.out o ho).1; have := HRR.out; have := HRV.out.2; omega, (HF7.out o ho).2⟩) y (by omega)).mono ?_
                  rintro e w' ⟨rfl, rfl⟩
                  rw [(HH7.out y).2 HTR.out]
                  dsimp only
                  refine hK.out _ _ (hS.out _ HU1.out) (fun hHeld => ?_)
                  clear hK K
                  try simp only [List.getElem_toArray, List.getElem_cons_zero, List.getElem_cons_succ, Act.put, List.setIfInBounds_toArray, List.set_cons_zero, List.set_cons_succ]
                  refine wpAnyH_take (i := 15) (oi := _) (v := ?_) rfl (by kernel_rfl) (by kernel_rfl) (by kernel_rfl) (fun _ _ _ h => h) (Or.inl ⟨by rfl, ?_⟩) hHeld ?_
                  rotate_left 1
                  · (intro w hSw; (try dsimp only at hSw); go_simp; (try with_reducible rfl))
                  try simp only [List.getElem_toArray, List.getElem_cons_zero, List.getElem_cons_succ, Act.put, List.setIfInBounds_toArray, List.set_cons_zero, List.set_cons_succ]
                  refine wpAnyH_done (by kernel_rfl) ?_ _
                  dsimp only [onlyP]
                  go_wp2_with fail
                  exact ⟨⟨p + 1, by omega, by go_num, HBZ.out.trans (HU1.out.mono HBZ.out.size)⟩, by simp only [intOf]; omega⟩
                exact AllReadyH.nil
              exact AllReadyH.nil
          · have hpd : decide ((p : Int) < (N : Int)) = false := decide_eq_false (by omega)
            as_aux_lemma =>
              go_wp2_with fail
              exact ⟨⟨m + 1, by omega, by go_num, HBW.out⟩, by simp only [intOf]; omega⟩
end Go.Proofs.Ytnemacejaiifnaa
