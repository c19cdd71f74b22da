/- Texts merged by program: DnPartsL. No condition. -/
import Derived.Test.YtnemacejaiifnaaQ31
import Derived.Test.YtnemacejaiifnaaQ47
import Derived.Test.YtnemacejaiifnaaQ29
import Derived.Test.YtnemacejaiifnaaQ48
import Derived.Test.YtnemacejaiifnaaQ49
import Derived.Test.YtnemacejaiifnaaQ2
import Derived.Deep.RegionLaw
import Derived.Deep.Cut
import Derived.BigQuiet
set_option linter.unusedVariables false
set_option linter.unusedSimpArgs false
/- DenoteParts. No condition. -/
namespace Go.Proofs.Ytnemacejaiifnaa
open Go Go.RowKit

theorem kds2X {w : World} {b : Nat} {ty : TypeId} {t u : Tr} {x0 x1 x2 x3 x4 x5 x6 x7 x8 x9 y0 y1 y2 y3 y4 y5 y6 y7 y8 y9 : Value} (h : Whole w b ty #[x0, x1, x2, x3, x4, x5, x6, x7, x8, x9, y0, y1, y2, y3, y4, y5, y6, y7, y8, y9])
    (hT : Tre w t (.agg #[x0, x1, x2, x3, x4, x5, x6, x7, x8, x9])) (hU : Tre w u (.agg #[y0, y1, y2, y3, y4, y5, y6, y7, y8, y9])) : Kds w [t, u] (.slice (some ⟨b, 0, none⟩) 2 2) := by
  refine ⟨_, 2, rfl, Nat.le_refl _, by unfold maxLen; omega, by simp, fun e => (by cases e), .inr ⟨b, 0, rfl, trivial, fun i hi => ?_⟩⟩
  have : i = 0 ∨ i = 1 := by simp at hi; omega
  have ten : ∀ j, j < 10 → j = 0 ∨ j = 1 ∨ j = 2 ∨ j = 3 ∨ j = 4 ∨ j = 5 ∨ j = 6 ∨ j = 7 ∨ j = 8 ∨ j = 9 := fun j hj => by omega
  rcases this with rfl | rfl
  · exact ⟨_, cellsAt10 fun j hj => by rw [h.cell]; rcases ten j hj with rfl | rfl | rfl | rfl | rfl | rfl | rfl | rfl | rfl | rfl <;> rfl, hT⟩
  · exact ⟨_, cellsAt10 fun j hj => by rw [h.cell]; rcases ten j hj with rfl | rfl | rfl | rfl | rfl | rfl | rfl | rfl | rfl | rfl <;> rfl, hU⟩

set_option maxHeartbeats 3200000 in
set_option maxRecDepth 100000 in
theorem denoteParts_any (w : World) (va : Value) (ta : Tr) (ha : Tre w ta va) (vb : Value) (tb : Tr) (hb' : Tre w tb vb) (A : Option Addr) (n c : Nat) (zs : List Int) (hz : IsRow .u8 w A n c zs) (i : Int) (hi : I64 i) : Calls Try.prog 6 #[va, vb, .slice A n c, .int .i64 i] w (HeadPost w) := by
  obtain ⟨s, hs, hconv⟩ := conv_row hz
  subst hs
  have HC := Lib.hid hconv
  have hsz : s.size ≤ 9223372036854775807 := by
    rcases hz with ⟨-, h1, -⟩ | ⟨x, -, h1, h2, -⟩
    · omega
    · unfold maxLen at h2; omega
  clear hconv hz
  have ha0 := ha
  have hb0 := hb'
  obtain ⟨A1, n1, c1, a2, s1, c2, hn, hs, rfl, hnb, hsb, hK, hS, hF⟩ := ha.opened
  obtain ⟨A3, n3, c3, a4, s3, c4, hn2, hs2, rfl, hnb2, hsb2, hK2, hS2, hF2⟩ := hb'.opened
  obtain ⟨f, hf⟩ : ∃ f, ta.fld = f := ⟨_, rfl⟩
  obtain ⟨g, hg⟩ : ∃ g, tb.fld = g := ⟨_, rfl⟩
  rw [hf] at ha0 ⊢
  rw [hg] at hb0 ⊢
  obtain ⟨w1, hw1⟩ : ∃ x, w.alloc (.cells #[.int .i64 f.op, .slice A1 n1 c1, .int .i32 f.rune, .slice a2 s1 c2, .int .i64 f.at', .int .i64 f.cap, .string f.name, .int .i64 f.min, .int .i64 f.max, .bool f.lazy] 27) = x := ⟨_, rfl⟩
  obtain ⟨w2, hw2⟩ : ∃ x, w1.alloc (.cells #[.int .i64 g.op, .slice A3 n3 c3, .int .i32 g.rune, .slice a4 s3 c4, .int .i64 g.at', .int .i64 g.cap, .string g.name, .int .i64 g.min, .int .i64 g.max, .bool g.lazy] 27) = x := ⟨_, rfl⟩
  have hb1 : Below w.heap.size w w1 := by rw [← hw1]; exact (Below.refl _ _).alloc (Nat.le_refl _) _
  have hb2 : Below w1.heap.size w1 w2 := by rw [← hw2]; exact (Below.refl _ _).alloc (Nat.le_refl _) _
  have hs1 : w1.heap.size = w.heap.size + 1 := by rw [← hw1]; simp
  have hE1 : Box10 w1 w.heap.size (.int .i64 f.op) (.slice A1 n1 c1) (.int .i32 f.rune) (.slice a2 s1 c2) (.int .i64 f.at') (.int .i64 f.cap) (.string f.name) (.int .i64 f.min) (.int .i64 f.max) (.bool f.lazy) := by rw [← hw1]; exact box10_new w _ _ _ _ _ _ _ _ _ _ _
  have hE2 : Box10 w2 (w.heap.size + 1) (.int .i64 g.op) (.slice A3 n3 c3) (.int .i32 g.rune) (.slice a4 s3 c4) (.int .i64 g.at') (.int .i64 g.cap) (.string g.name) (.int .i64 g.min) (.int .i64 g.max) (.bool g.lazy) := by rw [← hw2, ← hs1]; exact box10_new w1 _ _ _ _ _ _ _ _ _ _ _
  have HW1 := Lib.hid hw1; have HW2 := Lib.hid hw2; have HS1 := Lib.hid hs1
  have HT := Lib.hid (hb1.trans (hb2.mono hb1.size)); have HE := Lib.hid (hE1.below hb2); have HG := Lib.hid hE2
  have H0 := Lib.hid ((ha0.below hb1).below hb2); have H1 := Lib.hid ((hb0.below hb1).below hb2)
  clear hb1 hb2 hE1 hE2 hw1 hw2 hK hS hn hs hF hK2 hS2 hn2 hs2 hF2 ha hb' ha0 hb0 hf hg hs1
  go_enter Try.func6, Try.ntmps6
  go_upto_region 1 with (fail)
  rw [HW1.out, HW2.out]
  clear HW1 HW2
  go_wp2_with fail
  refine (dhead_any w2).mono ?_
  rintro e w3 ⟨rfl, hb⟩
  replace H0 := Lib.hid (H0.out.below hb); replace HE := Lib.hid (HE.out.below hb)
  replace H1 := Lib.hid (H1.out.below hb); replace HG := Lib.hid (HG.out.below hb)
  replace HT := Lib.hid (HT.out.trans (hb.mono HT.out.size))
  clear hb
  -- the Cat of both, in its box
  have mkb : ∀ W3 : World, Below w3.heap.size w3 W3 → ∃ W4 W5 : World, W3.alloc (.cells #[.int .i64 f.op, .slice A1 n1 c1, .int .i32 f.rune, .slice a2 s1 c2, .int .i64 f.at', .int .i64 f.cap, .string f.name, .int .i64 f.min, .int .i64 f.max, .bool f.lazy, .int .i64 g.op, .slice A3 n3 c3, .int .i32 g.rune, .slice a4 s3 c4, .int .i64 g.at', .int .i64 g.cap, .string g.name, .int .i64 g.min, .int .i64 g.max, .bool g.lazy] 27) = W4 ∧
      W4.alloc (.cells #[.int .i64 11, .slice (some ⟨W3.heap.size, 0, none⟩) 2 2, .int .i32 0, .slice none 0 0, .int .i64 0, .int .i64 0, .string ⟨#[]⟩, .int .i64 0, .int .i64 0, .bool false] 27) = W5 ∧
      W4.heap.size = W3.heap.size + 1 ∧ Below W3.heap.size W3 W5 ∧ Box10 W5 (W3.heap.size + 1) (.int .i64 11) (.slice (some ⟨W3.heap.size, 0, none⟩) 2 2) (.int .i32 0) (.slice none 0 0) (.int .i64 0) (.int .i64 0) (.string ⟨#[]⟩) (.int .i64 0) (.int .i64 0) (.bool false) ∧
      Tre W5 (opX 11 0 [ta, tb]) (.agg #[.int .i64 11, .slice (some ⟨W3.heap.size, 0, none⟩) 2 2, .int .i32 0, .slice none 0 0, .int .i64 0, .int .i64 0, .string ⟨#[]⟩, .int .i64 0, .int .i64 0, .bool false]) := fun W3 hW => by
    obtain ⟨W4, h4⟩ : ∃ x, W3.alloc (.cells #[.int .i64 f.op, .slice A1 n1 c1, .int .i32 f.rune, .slice a2 s1 c2, .int .i64 f.at', .int .i64 f.cap, .string f.name, .int .i64 f.min, .int .i64 f.max, .bool f.lazy, .int .i64 g.op, .slice A3 n3 c3, .int .i32 g.rune, .slice a4 s3 c4, .int .i64 g.at', .int .i64 g.cap, .string g.name, .int .i64 g.min, .int .i64 g.max, .bool g.lazy] 27) = x := ⟨_, rfl⟩
    obtain ⟨W5, h5⟩ : ∃ x, W4.alloc (.cells #[.int .i64 11, .slice (some ⟨W3.heap.size, 0, none⟩) 2 2, .int .i32 0, .slice none 0 0, .int .i64 0, .int .i64 0, .string ⟨#[]⟩, .int .i64 0, .int .i64 0, .bool false] 27) = x := ⟨_, rfl⟩
    have b4 : Below W3.heap.size W3 W4 := by rw [← h4]; exact (Below.refl _ _).alloc (Nat.le_refl _) _
    have b5 : Below W4.heap.size W4 W5 := by rw [← h5]; exact (Below.refl _ _).alloc (Nat.le_refl _) _
    have z4 : W4.heap.size = W3.heap.size + 1 := by rw [← h4]; simp
    have k4 : Whole W4 W3.heap.size 27 #[.int .i64 f.op, .slice A1 n1 c1, .int .i32 f.rune, .slice a2 s1 c2, .int .i64 f.at', .int .i64 f.cap, .string f.name, .int .i64 f.min, .int .i64 f.max, .bool f.lazy, .int .i64 g.op, .slice A3 n3 c3, .int .i32 g.rune, .slice a4 s3 c4, .int .i64 g.at', .int .i64 g.cap, .string g.name, .int .i64 g.min, .int .i64 g.max, .bool g.lazy] := by rw [← h4]; exact heap_alloc_new W3 _
    have b35 := b4.trans (b5.mono b4.size)
    exact ⟨W4, W5, h4, h5, z4, b35, by rw [← h5, ← z4]; exact box10_new W4 _ _ _ _ _ _ _ _ _ _ _, opX_tre (kds2X (k4.below b5 k4.lt) ((H0.out.below hW).below b35) ((H1.out.below hW).below b35)) (by decide) (by decide)⟩
  have MKB := Lib.hid mkb
  clear mkb
  have HGR : Hid (∀ W V, Tre W (opX 11 0 [ta, tb]) V → Calls Try.prog 11 #[V, .slice A s.size c] W (GreatPost s.size (opX 11 0 [ta, tb]) W)) := Lib.hid fun W V h => great_any W _ _ h A s.size c hsz
  by_cases hlong : (65536 : Int) < s.size
  · have HTX := Lib.hid (text_long A s.size c w3 hlong)
    obtain ⟨b0, b1, b2, b3, b4, b5, b6, b7, b8, b9⟩ := HE.out
    obtain ⟨d0, d1, d2, d3, d4, d5, d6, d7, d8, d9⟩ := HG.out
    obtain ⟨w4, w5, h4, h5, z4, b35, bx, tx⟩ := MKB.out w3 (Below.refl _ _)
    have HW4 := Lib.hid h4; have HW5 := Lib.hid h5; have HB5 := Lib.hid b35; have HX := Lib.hid bx; have HTX5 := Lib.hid tx
    clear h4 h5 z4 b35 bx tx
    go_wp2_with fail
    refine HTX.out.mono ?_
    rintro e w' ⟨rfl, rfl⟩
    go_wp2_with fail
    rw [HW4.out, HW5.out]
    refine (HGR.out w5 _ HTX5.out).mono ?_
    rintro e w6 ⟨B, rfl, hB, hb⟩
    have HT6 := Lib.hid (HT.out.trans ((HB5.out.trans (hb.mono HB5.out.size)).mono HT.out.size))
    clear hb b0 b1 b2 b3 b4 b5 b6 b7 b8 b9 d0 d1 d2 d3 d4 d5 d6 d7 d8 d9
    cases B
    · exfalso; have := hB rfl; omega
    · clear hB
      go_wp2_with fail
      go_ret
      exact ⟨rfl, HT6.out⟩
  have HTX := Lib.hid (text_ok A c s w3 (by omega) (HC.out w3 HT.out))
  clear hlong
  go_wp2_with fail
  refine HTX.out.mono ?_
  rintro e w4 ⟨ib, rfl, hin, hb⟩
  replace H0 := Lib.hid (H0.out.below hb); replace HE := Lib.hid (HE.out.below hb)
  replace H1 := Lib.hid (H1.out.below hb); replace HG := Lib.hid (HG.out.below hb)
  replace HT := Lib.hid (HT.out.trans (hb.mono HT.out.size))
  have HB4 := Lib.hid hb; have HIN := Lib.hid hin
  clear hb hin HTX
  obtain ⟨w5, w6, h4, h5, z4, b35, bx, tx⟩ := MKB.out w4 HB4.out
  have HW4 := Lib.hid h4; have HW5 := Lib.hid h5; have HB5 := Lib.hid b35
  clear h4 h5 z4 b35
  obtain ⟨b0, b1, b2, b3, b4, b5, b6, b7, b8, b9⟩ := HE.out
  obtain ⟨d0, d1, d2, d3, d4, d5, d6, d7, d8, d9⟩ := HG.out
  go_wp2_with fail
  rw [HW4.out, HW5.out]
  clear b0 b1 b2 b3 b4 b5 b6 b7 b8 b9 d0 d1 d2 d3 d4 d5 d6 d7 d8 d9 HW4 HW5
  replace H0 := Lib.hid (H0.out.below HB5.out); replace HE := Lib.hid (HE.out.below HB5.out)
  replace H1 := Lib.hid (H1.out.below HB5.out); replace HG := Lib.hid (HG.out.below HB5.out)
  replace HT := Lib.hid (HT.out.trans (HB5.out.mono HT.out.size)); replace HIN := Lib.hid (HIN.out.below HB5.out)
  replace HB4 := Lib.hid (HB4.out.trans (HB5.out.mono HB4.out.size))
  have HX := Lib.hid bx; have HX5 := Lib.hid tx
  clear bx tx HB5
  obtain ⟨bo, hbo⟩ : ∃ b, w4.heap.size = b := ⟨_, rfl⟩
  rw [hbo] at HX HX5 ⊢
  clear hbo
  refine (HGR.out w6 _ HX5.out).mono ?_
  rintro e w7 ⟨B, rfl, hB, hb⟩
  replace H0 := Lib.hid (H0.out.below hb); replace HE := Lib.hid (HE.out.below hb)
  replace H1 := Lib.hid (H1.out.below hb); replace HG := Lib.hid (HG.out.below hb)
  replace HT := Lib.hid (HT.out.trans (hb.mono HT.out.size)); replace HIN := Lib.hid (HIN.out.below hb)
  replace HX := Lib.hid (HX.out.below hb); replace HX5 := Lib.hid (HX5.out.below hb); replace HB4 := Lib.hid (HB4.out.trans (hb.mono HB4.out.size))
  clear hb HGR
  cases B
  case true =>
    clear hB
    go_wp2_with fail
    go_ret
    exact ⟨rfl, HT.out⟩
  obtain ⟨hs60, hp120, hw300⟩ := hB rfl
  clear hB
  have hps : partsR (opX 11 0 [ta, tb]) = 1 + (partsR ta + partsR tb) := by rw [opX_parts]; simp
  have HSH := Lib.hid (pshaped_any (opX 11 0 [ta, tb]) (by omega) _ w7 HX5.out)
  obtain ⟨b0, b1, b2, b3, b4, b5, b6, b7, b8, b9⟩ := HX.out
  go_wp2_with fail
  refine HSH.out.mono ?_
  rintro e w8 ⟨B, rfl, hB, hb⟩
  replace H0 := Lib.hid (H0.out.below hb); replace HE := Lib.hid (HE.out.below hb)
  replace H1 := Lib.hid (H1.out.below hb); replace HG := Lib.hid (HG.out.below hb)
  replace HT := Lib.hid (HT.out.trans (hb.mono HT.out.size)); replace HIN := Lib.hid (HIN.out.below hb)
  replace HX := Lib.hid (HX.out.below hb); replace HX5 := Lib.hid (HX5.out.below hb); replace HB4 := Lib.hid (HB4.out.trans (hb.mono HB4.out.size))
  clear hb b0 b1 b2 b3 b4 b5 b6 b7 b8 b9 HSH
  cases B
  case false =>
    clear hB
    go_wp2_with fail
    go_ret
    exact ⟨rfl, HT.out⟩
  have hsh := hB.1 rfl
  clear hB
  by_cases hneg : i < 0
  · have hd1 : decide (i < 0) = true := decide_eq_true hneg
    as_aux_lemma =>
      go_wp2_with fail
      go_ret
      exact ⟨rfl, HT.out⟩
  have hd1 : decide (i < 0) = false := decide_eq_false hneg
  obtain ⟨a, rfl⟩ : ∃ a : Nat, i = (a : Int) := ⟨i.toNat, by omega⟩
  clear hneg
  have HLI : Hid (∀ W, Below w8.heap.size w8 W → Calls Try.prog 15 #[.pointer (some ⟨ib, 1, none⟩)] W fun e w' => e = .returned (.int .i64 ((runesOf s).length : Nat)) ∧ W = w') := Lib.hid fun W hW => len_any (HIN.out.below hW)
  have hnl := length_runesOf s
  obtain ⟨R, hR⟩ : ∃ R, (runesOf s).length = R := ⟨_, rfl⟩
  rw [hR] at HLI hnl
  by_cases hout : (R : Int) < (a : Int)
  · have hd2 : decide ((R : Int) < (a : Int)) = true := decide_eq_true hout
    as_aux_lemma =>
      go_wp2_with fail
      refine (HLI.out _ (Below.refl _ _)).mono ?_
      rintro e w' ⟨rfl, rfl⟩
      go_wp2_with fail
      go_ret
      exact ⟨rfl, HT.out⟩
  have hd2 : decide ((R : Int) < (a : Int)) = false := decide_eq_false hout
  have haR : a ≤ R := by omega
  go_wp2_with fail
  refine (HLI.out _ (Below.refl _ _)).mono ?_
  rintro e w' ⟨rfl, rfl⟩
  clear hd1 hout
  go_upto_region 6 with (fail)
  clear hd2
  obtain ⟨sha, shb⟩ : ShapedP ta ∧ ShapedP tb := by
    have := ((shapedP_iff _).1 hsh).2.2.2
    exact ⟨this _ (by simp [opX_kids]), this _ (by simp [opX_kids])⟩
  have hwt : weightR ta + weightR tb ≤ 300 := by
    have := weight_one (t := opX 11 0 [ta, tb]) (.inr (.inr (.inr rfl))) (by omega)
    simp [opX_kids] at this
    omega
  obtain ⟨qa, qb, qx, qq, qs, qc, laid⟩ := laid6 (runesOf s) ta tb sha shb hwt
  have LD := Lib.hid laid; have SHA := Lib.hid sha; have SHB := Lib.hid shb; have SHC := Lib.hid hsh
  have SHX := Lib.hid (opX_shapedP (op := 12) (ks := [ta, tb]) (.inr (.inr (.inr ⟨rfl, by simp⟩))) (by simpa using ⟨sha, shb⟩))
  have SHQ := Lib.hid (opX_shapedP (op := 9) (ks := [ta]) (.inr (.inl ⟨rfl, rfl⟩)) (by simpa using sha))
  have SHS := Lib.hid (opX_shapedP (op := 7) (ks := [ta]) (.inl ⟨rfl, rfl⟩) (by simpa using sha))
  have PX := Lib.hid (show partsR (opX 12 0 [ta, tb]) ≤ 1000 by rw [opX_parts]; simp; omega)
  have PQ := Lib.hid (show partsR (opX 9 0 [ta]) ≤ 1000 by rw [opX_parts]; simp; omega)
  have PS := Lib.hid (show partsR (opX 7 0 [ta]) ≤ 1000 by rw [opX_parts]; simp; omega)
  have PC := Lib.hid (show partsR (opX 11 0 [ta, tb]) ≤ 1000 by omega)
  have PA := Lib.hid (show partsR ta ≤ 1000 by omega); have PB := Lib.hid (show partsR tb ≤ 1000 by omega)
  have HR := Lib.hid (show a ≤ (runesOf s).length by omega); have HRR := Lib.hid hR
  clear sha shb hwt laid hsh hps hp120 hw300 hR
  have hR60 : R ≤ 60 := by omega
  have HK2 : Hid (∀ W, Below w8.heap.size w8 W → ∃ U, W.alloc (.cells #[.int .i64 f.op, .slice A1 n1 c1, .int .i32 f.rune, .slice a2 s1 c2, .int .i64 f.at', .int .i64 f.cap, .string f.name, .int .i64 f.min, .int .i64 f.max, .bool f.lazy, .int .i64 g.op, .slice A3 n3 c3, .int .i32 g.rune, .slice a4 s3 c4, .int .i64 g.at', .int .i64 g.cap, .string g.name, .int .i64 g.min, .int .i64 g.max, .bool g.lazy] 27) = U ∧ Below W.heap.size W U ∧ Tre U (opX 12 0 [ta, tb]) (.agg #[.int .i64 12, .slice (some ⟨W.heap.size, 0, none⟩) 2 2, .int .i32 0, .slice none 0 0, .int .i64 0, .int .i64 0, .string ⟨#[]⟩, .int .i64 0, .int .i64 0, .bool false])) := Lib.hid fun W hW => by
    obtain ⟨U, hU⟩ : ∃ x, W.alloc (.cells #[.int .i64 f.op, .slice A1 n1 c1, .int .i32 f.rune, .slice a2 s1 c2, .int .i64 f.at', .int .i64 f.cap, .string f.name, .int .i64 f.min, .int .i64 f.max, .bool f.lazy, .int .i64 g.op, .slice A3 n3 c3, .int .i32 g.rune, .slice a4 s3 c4, .int .i64 g.at', .int .i64 g.cap, .string g.name, .int .i64 g.min, .int .i64 g.max, .bool g.lazy] 27) = x := ⟨_, rfl⟩
    have bU : Below W.heap.size W U := by rw [← hU]; exact (Below.refl _ _).alloc (Nat.le_refl _) _
    have k4 : Whole U W.heap.size 27 #[.int .i64 f.op, .slice A1 n1 c1, .int .i32 f.rune, .slice a2 s1 c2, .int .i64 f.at', .int .i64 f.cap, .string f.name, .int .i64 f.min, .int .i64 f.max, .bool f.lazy, .int .i64 g.op, .slice A3 n3 c3, .int .i32 g.rune, .slice a4 s3 c4, .int .i64 g.at', .int .i64 g.cap, .string g.name, .int .i64 g.min, .int .i64 g.max, .bool g.lazy] := by rw [← hU]; exact heap_alloc_new W _
    exact ⟨U, hU, bU, opX_tre (kds2X k4 ((H0.out.below hW).below bU) ((H1.out.below hW).below bU)) (by decide) (by decide)⟩
  have HK1 : Hid (∀ W op, (op = 7 ∨ op = 9) → Below w8.heap.size w8 W → ∃ U, W.alloc (.cells #[.int .i64 f.op, .slice A1 n1 c1, .int .i32 f.rune, .slice a2 s1 c2, .int .i64 f.at', .int .i64 f.cap, .string f.name, .int .i64 f.min, .int .i64 f.max, .bool f.lazy] 27) = U ∧ Below W.heap.size W U ∧ Tre U (opX op 0 [ta]) (.agg #[.int .i64 op, .slice (some ⟨W.heap.size, 0, none⟩) 1 1, .int .i32 0, .slice none 0 0, .int .i64 0, .int .i64 0, .string ⟨#[]⟩, .int .i64 0, .int .i64 0, .bool false])) := Lib.hid fun W op ho hW => by
    obtain ⟨U, hU⟩ : ∃ x, W.alloc (.cells #[.int .i64 f.op, .slice A1 n1 c1, .int .i32 f.rune, .slice a2 s1 c2, .int .i64 f.at', .int .i64 f.cap, .string f.name, .int .i64 f.min, .int .i64 f.max, .bool f.lazy] 27) = x := ⟨_, rfl⟩
    have bU : Below W.heap.size W U := by rw [← hU]; exact (Below.refl _ _).alloc (Nat.le_refl _) _
    have k4 : Whole U W.heap.size 27 #[.int .i64 f.op, .slice A1 n1 c1, .int .i32 f.rune, .slice a2 s1 c2, .int .i64 f.at', .int .i64 f.cap, .string f.name, .int .i64 f.min, .int .i64 f.max, .bool f.lazy] := by rw [← hU]; exact heap_alloc_new W _
    exact ⟨U, hU, bU, opX_tre (kds1X k4 ((H0.out.below hW).below bU)) (by omega) (by decide)⟩
  -- l
  obtain ⟨b0, b1, b2, b3, b4, b5, b6, b7, b8, b9⟩ := HE.out
  go_upto_region 7 with (go_at_call 14; refine (list_q H0.out HIN.out hs60 PA.out HR.out SHA.out LD.out.ma LD.out.na).mono ?_; rintro e w9 ⟨ev1, L1, rfl, hv1, hb9, hf1, hq1, hh1⟩)
  have HV1 := Lib.hid hv1; have HB9 := Lib.hid hb9; have HF1 := Lib.hid hf1; have HQ1 := Lib.hid hq1; have HH1 := Lib.hid hh1
  clear hv1 hb9 hf1 hq1 hh1 b0 b1 b2 b3 b4 b5 b6 b7 b8 b9
  -- m
  obtain ⟨b0, b1, b2, b3, b4, b5, b6, b7, b8, b9⟩ := HG.out.below HB9.out
  go_upto_region 8 with (go_at_call 14; refine (list_q (H1.out.below HB9.out) (HIN.out.below HB9.out) hs60 PB.out HR.out SHB.out LD.out.mb LD.out.nb).mono ?_; rintro e w10 ⟨ev2, L2, rfl, hv2, hb10, hf2, -, hh2⟩)
  have HV2 := Lib.hid hv2; have HB10 := Lib.hid hb10; have HF2 := Lib.hid hf2; have HH2 := Lib.hid hh2
  have HC10 := Lib.hid (HB9.out.trans (hb10.mono HB9.out.size))
  clear hv2 hb10 hf2 hh2 b0 b1 b2 b3 b4 b5 b6 b7 b8 b9
  -- x
  obtain ⟨b0, b1, b2, b3, b4, b5, b6, b7, b8, b9⟩ := HE.out.below HC10.out
  obtain ⟨d0, d1, d2, d3, d4, d5, d6, d7, d8, d9⟩ := HG.out.below HC10.out
  obtain ⟨u1, hu, hbu, htu⟩ := HK2.out w10 HC10.out
  have HU := Lib.hid hu; have HBU := Lib.hid hbu; have HTU := Lib.hid htu
  clear hu hbu htu
  go_upto_region 9 with (go_at_call 14; rw [HU.out]; refine (list_q HTU.out ((HIN.out.below HC10.out).below HBU.out) hs60 PX.out HR.out SHX.out LD.out.mx LD.out.nx).mono ?_; rintro e w11 ⟨ev3, L3, rfl, hv3, hb11, hf3, hq3, hh3⟩)
  have HV3 := Lib.hid hv3; have HB11 := Lib.hid (HBU.out.trans (hb11.mono HBU.out.size)); have HF3 := Lib.hid hf3; have HQ3 := Lib.hid hq3; have HH3 := Lib.hid hh3
  have HC11 := Lib.hid (HC10.out.trans (HB11.out.mono HC10.out.size))
  clear hv3 hb11 hf3 hq3 hh3 b0 b1 b2 b3 b4 b5 b6 b7 b8 b9 d0 d1 d2 d3 d4 d5 d6 d7 d8 d9 HU HBU HTU
  -- q
  obtain ⟨b0, b1, b2, b3, b4, b5, b6, b7, b8, b9⟩ := HE.out.below HC11.out
  obtain ⟨u2, hu, hbu, htu⟩ := HK1.out w11 9 (.inr rfl) HC11.out
  have HU := Lib.hid hu; have HBU := Lib.hid hbu; have HTU := Lib.hid htu
  clear hu hbu htu
  go_upto_region 10 with (go_at_call 14; rw [HU.out]; refine (list_q HTU.out ((HIN.out.below HC11.out).below HBU.out) hs60 PQ.out HR.out SHQ.out LD.out.mq LD.out.nq).mono ?_; rintro e w12 ⟨ev4, L4, rfl, hv4, hb12, hf4, -, hh4⟩)
  have HV4 := Lib.hid hv4; have HB12 := Lib.hid (HBU.out.trans (hb12.mono HBU.out.size)); have HF4 := Lib.hid hf4; have HH4 := Lib.hid hh4
  have HC12 := Lib.hid (HC11.out.trans (HB12.out.mono HC11.out.size))
  clear hv4 hb12 hf4 hh4 b0 b1 b2 b3 b4 b5 b6 b7 b8 b9 HU HBU HTU
  -- s
  obtain ⟨b0, b1, b2, b3, b4, b5, b6, b7, b8, b9⟩ := HE.out.below HC12.out
  obtain ⟨u3, hu, hbu, htu⟩ := HK1.out w12 7 (.inl rfl) HC12.out
  have HU := Lib.hid hu; have HBU := Lib.hid hbu; have HTU := Lib.hid htu
  clear hu hbu htu
  go_upto_region 11 with (go_at_call 14; rw [HU.out]; refine (list_q HTU.out ((HIN.out.below HC12.out).below HBU.out) hs60 PS.out HR.out SHS.out LD.out.ms LD.out.ns).mono ?_; rintro e w13 ⟨ev5, L5, rfl, hv5, hb13, hf5, -, hh5⟩)
  have HV5 := Lib.hid hv5; have HB13 := Lib.hid (HBU.out.trans (hb13.mono HBU.out.size)); have HF5 := Lib.hid hf5; have HH5 := Lib.hid hh5
  have HC13 := Lib.hid (HC12.out.trans (HB13.out.mono HC12.out.size))
  clear hv5 hb13 hf5 hh5 b0 b1 b2 b3 b4 b5 b6 b7 b8 b9 HU HBU HTU
  -- c
  obtain ⟨b0, b1, b2, b3, b4, b5, b6, b7, b8, b9⟩ := HX.out.below HC13.out
  go_upto_region 12 with (go_at_call 14; refine (list_q (HX5.out.below HC13.out) (HIN.out.below HC13.out) hs60 PC.out HR.out SHC.out LD.out.mc LD.out.nc).mono ?_; rintro e w14 ⟨ev6, L6, rfl, hv6, hb14, hf6, -, hh6⟩)
  have HV6 := Lib.hid hv6; have HB14 := Lib.hid hb14; have HF6 := Lib.hid hf6; have HH6 := Lib.hid hh6
  have HC14 := Lib.hid (HC13.out.trans (hb14.mono HC13.out.size))
  clear hv6 hb14 hf6 hh6 b0 b1 b2 b3 b4 b5 b6 b7 b8 b9
  -- the ends, in the last memory
  have c45 := HB14.out; have c35 := HB13.out.trans (c45.mono HB13.out.size); have c25 := HB12.out.trans (c35.mono HB12.out.size); have c15 := HB11.out.trans (c25.mono HB11.out.size); have c05 := HB10.out.trans (c15.mono HB10.out.size)
  have EV1 := Lib.hid (HV1.out.below c05)
  have EV2 := Lib.hid (HV2.out.below c15)
  have EV3 := Lib.hid (HV3.out.below c25)
  have EV4 := Lib.hid (HV4.out.below c35)
  have EV5 := Lib.hid (HV5.out.below c45)
  have EV6 := Lib.hid (HV6.out)
  clear c45 c35 c25 c15 c05 HV1 HV2 HV3 HV4 HV5 HV6
  have HL1 : Hid (∀ o ∈ L1, o.1 ≤ 60 ∧ o.2.length = 2) := Lib.hid fun o ho => ⟨by have := (HF1.out o ho).1; have := HRR.out; omega, (HF1.out o ho).2⟩
  have HL2 : Hid (∀ o ∈ L2, o.1 ≤ 60 ∧ o.2.length = 2) := Lib.hid fun o ho => ⟨by have := (HF2.out o ho).1; have := HRR.out; omega, (HF2.out o ho).2⟩
  have HL3 : Hid (∀ o ∈ L3, o.1 ≤ 60 ∧ o.2.length = 2) := Lib.hid fun o ho => ⟨by have := (HF3.out o ho).1; have := HRR.out; omega, (HF3.out o ho).2⟩
  have HL4 : Hid (∀ o ∈ L4, o.1 ≤ 60 ∧ o.2.length = 2) := Lib.hid fun o ho => ⟨by have := (HF4.out o ho).1; have := HRR.out; omega, (HF4.out o ho).2⟩
  have HL5 : Hid (∀ o ∈ L5, o.1 ≤ 60 ∧ o.2.length = 2) := Lib.hid fun o ho => ⟨by have := (HF5.out o ho).1; have := HRR.out; omega, (HF5.out o ho).2⟩
  have HL6 : Hid (∀ o ∈ L6, o.1 ≤ 60 ∧ o.2.length = 2) := Lib.hid fun o ho => ⟨by have := (HF6.out o ho).1; have := HRR.out; omega, (HF6.out o ho).2⟩
  have HE1 := Lib.hid (fun (W : World) (hW : Below w14.heap.size w14 W) (j : Nat) (hj : j ≤ 60) => ends_any (EV1.out.below hW) HL1.out j hj)
  have HE2 := Lib.hid (fun (W : World) (hW : Below w14.heap.size w14 W) (j : Nat) (hj : j ≤ 60) => ends_any (EV2.out.below hW) HL2.out j hj)
  have HE3 := Lib.hid (fun (W : World) (hW : Below w14.heap.size w14 W) (j : Nat) (hj : j ≤ 60) => ends_any (EV3.out.below hW) HL3.out j hj)
  have HE4 := Lib.hid (fun (W : World) (hW : Below w14.heap.size w14 W) (j : Nat) (hj : j ≤ 60) => ends_any (EV4.out.below hW) HL4.out j hj)
  have HE5 := Lib.hid (fun (W : World) (hW : Below w14.heap.size w14 W) (j : Nat) (hj : j ≤ 60) => ends_any (EV5.out.below hW) HL5.out j hj)
  have HE6 := Lib.hid (fun (W : World) (hW : Below w14.heap.size w14 W) (j : Nat) (hj : j ≤ 60) => ends_any (EV6.out.below hW) HL6.out j hj)
  have HST : Hid (∀ m, hasE L3 m = (hasE L1 m || hasE L2 m) ∧ hasE L4 m = (hasE L1 m || decide (m = a)) ∧ (hasE L1 m = true → hasE L5 m = true)) := Lib.hid fun m => by
    refine ⟨Bool.eq_iff_iff.2 ?_, Bool.eq_iff_iff.2 ?_, fun h => ?_⟩
    · rw [Bool.or_eq_true, HH3.out, HH1.out, HH2.out, alt_fits]
    · rw [Bool.or_eq_true, HH4.out, HH1.out, quest_fits, decide_eq_true_eq]
    · rw [HH5.out, star_fits]; exact .step ((HH1.out m).1 h) .refl
  have HSA : Hid (hasE L5 a = true) := Lib.hid (by rw [HH5.out, star_fits]; exact .refl)
  have HSC : Hid (∀ m, hasE L6 m = true ↔ ∃ o ∈ L1, TreeR (runesOf s) tb o.1 m) := Lib.hid fun m => by
    rw [HH6.out, cat_fits]
    constructor
    · rintro ⟨k, h1, h2⟩; obtain ⟨o, ho, rfl⟩ := hasE_iff.1 ((HH1.out k).2 h1); exact ⟨o, ho, h2⟩
    · rintro ⟨o, ho, h⟩; exact ⟨o.1, (HH1.out o.1).1 (hasE_iff.2 ⟨o, ho, rfl⟩), h⟩
  have HHD : Hid (∀ o, L1.head? = some o → L3.head? = some o) := Lib.hid fun o ho => by
    obtain ⟨r, er⟩ := LD.out.head
    have h3 := HQ3.out
    rw [er] at h3
    exact endsQ_head HQ1.out h3 o ho
  clear HH1 HH2 HH3 HH4 HH5 HH6 HQ1 HQ3
  obtain ⟨A5, c5, rfl, hle5, hlm5⟩ := EV1.out.sl
  obtain ⟨A6, c6, rfl, hle6, hlm6⟩ := EV3.out.sl
  obtain ⟨N, hN⟩ : ∃ N, L1.length = N := ⟨_, rfl⟩
  obtain ⟨N3, hN3⟩ : ∃ N, L3.length = N := ⟨_, rfl⟩
  rw [hN] at hle5 HE1 EV1 ⊢
  rw [hN3] at hle6 HE3 EV3 ⊢
  have HN := Lib.hid hN; have HN3 := Lib.hid hN3
  have hNb : N ≤ 9223372036854775807 := by unfold maxLen at hlm5; omega
  have hNb3 : N3 ≤ 9223372036854775807 := by unfold maxLen at hlm6; omega
  have HF := Lib.hid (HT.out.trans (HC14.out.mono HT.out.size))
  clear hN hN3 hlm5 hlm6 HB9 HB10 HB11 HB12 HB13 HB14 HC10 HC11 HC12 HC13 HK1 HK2 SHX SHQ SHS SHC PX PQ PS PC HX HX5 HE H0
  go_wp2_with fail
  go_loopw [18] (fun k wr => ∃ m : Nat, a ≤ m ∧ m ≤ R + 1 ∧ k = .int .i64 (m : Int) ∧ Below w14.heap.size w14 wr) (fun k _ => R + 1 - (intOf k).toNat)
  case atStart => exact ⟨a, Nat.le_refl _, by omega, rfl, Below.refl _ _⟩
  case round =>
    obtain ⟨m, hma, hmR, rfl, hbr⟩ := hrel
    have HBR := Lib.hid hbr
    by_cases hm : m ≤ R
    · have hmd : decide ((m : Int) ≤ (R : Int)) = true := decide_eq_true (by omega)
      obtain ⟨hx, hq, hs⟩ := HST.out m
      have E1 := HE1.out wr hbr m (by omega)
      have E2 := HE2.out wr hbr m (by omega)
      have E3 := HE3.out wr hbr m (by omega)
      have E4 := HE4.out wr hbr m (by omega)
      have E5 := HE5.out wr hbr m (by omega)
      have HLW := Lib.hid (HLI.out wr (HC14.out.trans (hbr.mono HC14.out.size)))
      clear hbr
      by_cases hl : hasE L1 m = true
      · rw [show hasE L3 m = true by rw [hx, hl]; rfl] at E3
        rw [show hasE L4 m = true by rw [hq, hl]; rfl] at E4
        rw [hs hl] at E5
        rw [hl] at E1
        replace E1 := Lib.hid E1; replace E2 := Lib.hid E2; replace E3 := Lib.hid E3; replace E4 := Lib.hid E4; replace E5 := Lib.hid E5
        clear hx hq hs hl
        go_wp2_with fail
        refine HLW.out.mono ?_
        rintro e w' ⟨rfl, rfl⟩
        go_wp2_with fail
        refine E3.out.mono ?_
        rintro e w' ⟨rfl, rfl⟩
        go_wp2_with fail
        refine E1.out.mono ?_
        rintro e w' ⟨rfl, rfl⟩
        go_wp2_with fail
        refine E4.out.mono ?_
        rintro e w' ⟨rfl, rfl⟩
        go_wp2_with fail
        refine E1.out.mono ?_
        rintro e w' ⟨rfl, rfl⟩
        go_wp2_with fail
        refine E1.out.mono ?_
        rintro e w' ⟨rfl, rfl⟩
        go_wp2_with fail
        refine E5.out.mono ?_
        rintro e w' ⟨rfl, rfl⟩
        clear E1 E2 E3 E4 E5
        go_wp2_with fail
        obtain ⟨wo, rfl⟩ : ∃ W, W = wr := ⟨_, rfl⟩
        go_loopw [19, 20] (fun is k wr => ∃ (p : Nat) (B : Bool), p ≤ N ∧ k = .int .i64 (p : Int) ∧ is = .bool B ∧ (B = true ↔ ∃ q, q < p ∧ ∃ o, L1[q]? = some o ∧ TreeR (runesOf s) tb o.1 m) ∧ Below wo.heap.size wo wr) (fun _ k _ => N - (intOf k).toNat)
        case atStart => exact ⟨0, false, by omega, rfl, rfl, ⟨fun h => (by cases h), fun ⟨q, h, _⟩ => (by omega)⟩, Below.refl _ _⟩
        case round =>
          obtain ⟨p, B, hp, rfl, rfl, hB, hbz⟩ := hrel
          have HBI := Lib.hid hB; have HBZ := Lib.hid hbz
          have HBW := Lib.hid (HBR.out.trans (hbz.mono HBR.out.size))
          clear hB hbz
          by_cases hpN : p < N
          · have hpd : decide ((p : Int) < (N : Int)) = true := decide_eq_true (by omega)
            cases B
            case true =>
              have HNX : Hid ((true = true ↔ ∃ q, q < p + 1 ∧ ∃ o, L1[q]? = some o ∧ TreeR (runesOf s) tb o.1 m)) := Lib.hid ⟨fun _ => by obtain ⟨q, h1, h2⟩ := HBI.out.1 rfl; exact ⟨q, by omega, h2⟩, fun _ => rfl⟩
              as_aux_lemma =>
                go_upto_region 21 with (fail)
                go_quiet (fail)
                go_wp2_with fail
                exact ⟨⟨p + 1, true, by omega, by go_num, rfl, HNX.out, HBZ.out.trans ((below_draws wr _).mono HBZ.out.size)⟩, by simp only [intOf]; omega⟩
            have hpl : p < L1.length := by rw [HN.out]; exact hpN
            obtain ⟨gl, r, rc, rfl, k1, hrc, hrm, k2⟩ := ends_row (EV1.out.below HBW.out) HL1.out p hpl
            have HO1 := Lib.hid (HF1.out _ (List.getElem_mem hpl)).1
            obtain ⟨o1, ho⟩ : ∃ o1, (L1[p]'hpl).1 = o1 := ⟨_, rfl⟩
            rw [ho] at k2 HO1
            have HNX : Hid (∀ B', (B' = true ↔ TreeR (runesOf s) tb o1 m) → (B' = true ↔ ∃ q, q < p + 1 ∧ ∃ o, L1[q]? = some o ∧ TreeR (runesOf s) tb o.1 m)) := Lib.hid fun B' hB' => by
              rw [hB']
              constructor
              · intro h; exact ⟨p, by omega, _, List.getElem?_eq_getElem hpl, by rw [ho]; exact h⟩
              · rintro ⟨q, hq, o, h1, h2⟩
                by_cases e : q = p
                · subst e; rw [List.getElem?_eq_getElem hpl] at h1; injection h1 with h1; rw [← ho, h1]; exact h2
                · exact absurd (HBI.out.2 ⟨q, by omega, o, h1, h2⟩) (by simp)
            have HD := Lib.hid (HC14.out.trans (HBW.out.mono HC14.out.size))
            have hS : Hid (∀ W, Below wr.heap.size wr W → (fun W' => W'.cell? ⟨w.heap.size + 1, 0, none⟩ = some (.int .i64 g.op) ∧ W'.cell? ⟨w.heap.size + 1, 1, none⟩ = some (.slice A3 n3 c3) ∧ W'.cell? ⟨w.heap.size + 1, 2, none⟩ = some (.int .i32 g.rune) ∧ W'.cell? ⟨w.heap.size + 1, 3, none⟩ = some (.slice a4 s3 c4) ∧ W'.cell? ⟨w.heap.size + 1, 4, none⟩ = some (.int .i64 g.at') ∧ W'.cell? ⟨w.heap.size + 1, 5, none⟩ = some (.int .i64 g.cap) ∧ W'.cell? ⟨w.heap.size + 1, 6, none⟩ = some (.string g.name) ∧ W'.cell? ⟨w.heap.size + 1, 7, none⟩ = some (.int .i64 g.min) ∧ W'.cell? ⟨w.heap.size + 1, 8, none⟩ = some (.int .i64 g.max) ∧ W'.cell? ⟨w.heap.size + 1, 9, none⟩ = some (.bool g.lazy) ∧ W'.cell? ⟨gl, p, none⟩ = some (.slice (some ⟨r, 0, none⟩) 2 rc) ∧ W'.cell? ⟨r, 1, none⟩ = some (.int .i64 (o1 : Int))) W) := Lib.hid fun W hW => by
              obtain ⟨d0, d1, d2, d3, d4, d5, d6, d7, d8, d9⟩ := HG.out.below (HD.out.trans (hW.mono HD.out.size))
              have lift : ∀ {a : Addr} {u : Value}, wr.cell? a = some u → W.cell? a = some u := fun h => (hW.cell (World.block_lt_of_cell? wr _ h)).trans h
              exact ⟨d0, d1, d2, d3, d4, d5, d6, d7, d8, d9, lift k1, lift k2⟩
            clear ho k1 k2
            as_aux_lemma =>
              go_upto_region 21 with (fail)
              obtain ⟨u0, hu0⟩ : ∃ x, wr.drew = x := ⟨_, rfl⟩
              have hb0 : Below wr.heap.size wr u0 := by rw [← hu0]; exact (Below.refl _ _).drew
              have HU0 := Lib.hid hb0
              have HD0 := Lib.hid (HD.out.trans (hb0.mono HD.out.size))
              refine wp_onlyP ?_
              refine wp_region_held_drew (S := (fun W' => W'.cell? ⟨w.heap.size + 1, 0, none⟩ = some (.int .i64 g.op) ∧ W'.cell? ⟨w.heap.size + 1, 1, none⟩ = some (.slice A3 n3 c3) ∧ W'.cell? ⟨w.heap.size + 1, 2, none⟩ = some (.int .i32 g.rune) ∧ W'.cell? ⟨w.heap.size + 1, 3, none⟩ = some (.slice a4 s3 c4) ∧ W'.cell? ⟨w.heap.size + 1, 4, none⟩ = some (.int .i64 g.at') ∧ W'.cell? ⟨w.heap.size + 1, 5, none⟩ = some (.int .i64 g.cap) ∧ W'.cell? ⟨w.heap.size + 1, 6, none⟩ = some (.string g.name) ∧ W'.cell? ⟨w.heap.size + 1, 7, none⟩ = some (.int .i64 g.min) ∧ W'.cell? ⟨w.heap.size + 1, 8, none⟩ = some (.int .i64 g.max) ∧ W'.cell? ⟨w.heap.size + 1, 9, none⟩ = some (.bool g.lazy) ∧ W'.cell? ⟨gl, p, none⟩ = some (.slice (some ⟨r, 0, none⟩) 2 rc) ∧ W'.cell? ⟨r, 1, none⟩ = some (.int .i64 (o1 : Int)))) (by kernel_rfl) (by rw [hu0]; exact hS.out _ HU0.out) (fun hHeld => ?_)
              rw [hu0] at hHeld ⊢
              clear hu0 hb0
              refine wpAnyH_take (i := 0) (oi := _) (v := ?_) rfl (by kernel_rfl) (by kernel_rfl) (by kernel_rfl) (fun _ _ _ h => h) (Or.inl ⟨by rfl, ?_⟩) hHeld ?_
              rotate_left 1
              · (intro w hSw; (try dsimp only at hSw); go_simp; (try with_reducible rfl))
              try simp only [List.getElem_toArray, List.getElem_cons_zero, List.getElem_cons_succ, Act.put, List.setIfInBounds_toArray, List.set_cons_zero, List.set_cons_succ]
              refine wpAnyH_take (i := 1) (oi := _) (v := ?_) rfl (by kernel_rfl) (by kernel_rfl) (by kernel_rfl) (fun _ _ _ h => h) (Or.inl ⟨by rfl, ?_⟩) hHeld ?_
              rotate_left 1
              · (intro w hSw; (try dsimp only at hSw); go_simp; (try with_reducible rfl))
              try simp only [List.getElem_toArray, List.getElem_cons_zero, List.getElem_cons_succ, Act.put, List.setIfInBounds_toArray, List.set_cons_zero, List.set_cons_succ]
              refine wpAnyH_take (i := 2) (oi := _) (v := ?_) rfl (by kernel_rfl) (by kernel_rfl) (by kernel_rfl) (fun _ _ _ h => h) (Or.inl ⟨by rfl, ?_⟩) hHeld ?_
              rotate_left 1
              · (intro w hSw; (try dsimp only at hSw); go_simp; (try with_reducible rfl))
              try simp only [List.getElem_toArray, List.getElem_cons_zero, List.getElem_cons_succ, Act.put, List.setIfInBounds_toArray, List.set_cons_zero, List.set_cons_succ]
              refine wpAnyH_take (i := 3) (oi := _) (v := ?_) rfl (by kernel_rfl) (by kernel_rfl) (by kernel_rfl) (fun _ _ _ h => h) (Or.inl ⟨by rfl, ?_⟩) hHeld ?_
              rotate_left 1
              · (intro w hSw; (try dsimp only at hSw); go_simp; (try with_reducible rfl))
              try simp only [List.getElem_toArray, List.getElem_cons_zero, List.getElem_cons_succ, Act.put, List.setIfInBounds_toArray, List.set_cons_zero, List.set_cons_succ]
              refine wpAnyH_take (i := 4) (oi := _) (v := ?_) rfl (by kernel_rfl) (by kernel_rfl) (by kernel_rfl) (fun _ _ _ h => h) (Or.inl ⟨by rfl, ?_⟩) hHeld ?_
              rotate_left 1
              · (intro w hSw; (try dsimp only at hSw); go_simp; (try with_reducible rfl))
              try simp only [List.getElem_toArray, List.getElem_cons_zero, List.getElem_cons_succ, Act.put, List.setIfInBounds_toArray, List.set_cons_zero, List.set_cons_succ]
              refine wpAnyH_take (i := 5) (oi := _) (v := ?_) rfl (by kernel_rfl) (by kernel_rfl) (by kernel_rfl) (fun _ _ _ h => h) (Or.inl ⟨by rfl, ?_⟩) hHeld ?_
              rotate_left 1
              · (intro w hSw; (try dsimp only at hSw); go_simp; (try with_reducible rfl))
              try simp only [List.getElem_toArray, List.getElem_cons_zero, List.getElem_cons_succ, Act.put, List.setIfInBounds_toArray, List.set_cons_zero, List.set_cons_succ]
              refine wpAnyH_take (i := 6) (oi := _) (v := ?_) rfl (by kernel_rfl) (by kernel_rfl) (by kernel_rfl) (fun _ _ _ h => h) (Or.inl ⟨by rfl, ?_⟩) hHeld ?_
              rotate_left 1
              · (intro w hSw; (try dsimp only at hSw); go_simp; (try with_reducible rfl))
              try simp only [List.getElem_toArray, List.getElem_cons_zero, List.getElem_cons_succ, Act.put, List.setIfInBounds_toArray, List.set_cons_zero, List.set_cons_succ]
              refine wpAnyH_take (i := 7) (oi := _) (v := ?_) rfl (by kernel_rfl) (by kernel_rfl) (by kernel_rfl) (fun _ _ _ h => h) (Or.inl ⟨by rfl, ?_⟩) hHeld ?_
              rotate_left 1
              · (intro w hSw; (try dsimp only at hSw); go_simp; (try with_reducible rfl))
              try simp only [List.getElem_toArray, List.getElem_cons_zero, List.getElem_cons_succ, Act.put, List.setIfInBounds_toArray, List.set_cons_zero, List.set_cons_succ]
              refine wpAnyH_take (i := 8) (oi := _) (v := ?_) rfl (by kernel_rfl) (by kernel_rfl) (by kernel_rfl) (fun _ _ _ h => h) (Or.inl ⟨by rfl, ?_⟩) hHeld ?_
              rotate_left 1
              · (intro w hSw; (try dsimp only at hSw); go_simp; (try with_reducible rfl))
              try simp only [List.getElem_toArray, List.getElem_cons_zero, List.getElem_cons_succ, Act.put, List.setIfInBounds_toArray, List.set_cons_zero, List.set_cons_succ]
              refine wpAnyH_take (i := 9) (oi := _) (v := ?_) rfl (by kernel_rfl) (by kernel_rfl) (by kernel_rfl) (fun _ _ _ h => h) (Or.inl ⟨by rfl, ?_⟩) hHeld ?_
              rotate_left 1
              · (intro w hSw; (try dsimp only at hSw); go_simp; (try with_reducible rfl))
              try simp only [List.getElem_toArray, List.getElem_cons_zero, List.getElem_cons_succ, Act.put, List.setIfInBounds_toArray, List.set_cons_zero, List.set_cons_succ]
              refine wpAnyH_take (i := 11) (oi := _) (v := ?_) rfl (by kernel_rfl) (by kernel_rfl) (by kernel_rfl) (fun _ _ _ h => h) (Or.inl ⟨by rfl, ?_⟩) hHeld ?_
              rotate_left 1
              · (intro w hSw; (try dsimp only at hSw); go_simp; (try with_reducible rfl))
              try simp only [List.getElem_toArray, List.getElem_cons_zero, List.getElem_cons_succ, Act.put, List.setIfInBounds_toArray, List.set_cons_zero, List.set_cons_succ]
              refine wpAnyH_ready (rs := [10]) (by kernel_rfl) (by simp) ?_
              refine AllReadyH.cons (o := _) rfl (fun K hK => ?_) ?_
              · go_simp
                refine (list_q (H1.out.below HD0.out) (HIN.out.below HD0.out) hs60 PB.out HO1.out SHB.out LD.out.mb LD.out.nb).mono ?_
                rintro e u1 ⟨ev7, L7, rfl, hv7, hb7, hf7, -, hh7⟩
                have HU1 := Lib.hid (HU0.out.trans (hb7.mono HU0.out.size)); have HV7 := Lib.hid hv7; have HF7 := Lib.hid hf7; have HH7 := Lib.hid hh7
                dsimp only
                clear hv7 hb7 hf7 hh7
                refine hK.out _ _ (hS.out _ HU1.out) (fun hHeld => ?_)
                clear hK K
                try simp only [List.getElem_toArray, List.getElem_cons_zero, List.getElem_cons_succ, Act.put, List.setIfInBounds_toArray, List.set_cons_zero, List.set_cons_succ]
                refine wpAnyH_ready (rs := [12]) (by kernel_rfl) (by simp) ?_
                refine AllReadyH.cons (o := _) rfl (fun K hK => ?_) ?_
                · go_simp
                  refine (ends_any HV7.out (fun o ho => ⟨by have := (HF7.out o ho).1; have := HRR.out; omega, (HF7.out o ho).2⟩) m (by omega)).mono ?_
                  rintro e w' ⟨rfl, rfl⟩
                  dsimp only
                  refine hK.out _ _ (hS.out _ HU1.out) (fun hHeld => ?_)
                  clear hK K
                  try simp only [List.getElem_toArray, List.getElem_cons_zero, List.getElem_cons_succ, Act.put, List.setIfInBounds_toArray, List.set_cons_zero, List.set_cons_succ]
                  refine wpAnyH_take (i := 13) (oi := _) (v := ?_) rfl (by kernel_rfl) (by kernel_rfl) (by kernel_rfl) (fun _ _ _ h => h) (Or.inl ⟨by rfl, ?_⟩) hHeld ?_
                  rotate_left 1
                  · (intro w hSw; (try dsimp only at hSw); go_simp; (try with_reducible rfl))
                  try simp only [List.getElem_toArray, List.getElem_cons_zero, List.getElem_cons_succ, Act.put, List.setIfInBounds_toArray, List.set_cons_zero, List.set_cons_succ]
                  refine wpAnyH_take (i := 14) (oi := _) (v := ?_) rfl (by kernel_rfl) (by kernel_rfl) (by kernel_rfl) (fun _ _ _ h => h) (Or.inl ⟨by rfl, ?_⟩) hHeld ?_
                  rotate_left 1
                  · (intro w hSw; (try dsimp only at hSw); go_simp; (try with_reducible rfl))
                  try simp only [List.getElem_toArray, List.getElem_cons_zero, List.getElem_cons_succ, Act.put, List.setIfInBounds_toArray, List.set_cons_zero, List.set_cons_succ]
                  refine wpAnyH_done (by kernel_rfl) ?_ _
                  dsimp only [onlyP]
                  go_wp2_with fail
                  exact ⟨⟨p + 1, hasE L7 m, by omega, by go_num, rfl, HNX.out _ (HH7.out m), HBZ.out.trans (HU1.out.mono HBZ.out.size)⟩, by simp only [intOf]; omega⟩
                exact AllReadyH.nil
              exact AllReadyH.nil
          · have hpd : decide ((p : Int) < (N : Int)) = false := decide_eq_false (by omega)
            have E6 := HE6.out wr HBW.out m (by omega)
            have hBc : hasE L6 m = B := by
              refine Bool.eq_iff_iff.2 ((HSC.out m).trans (Iff.trans ?_ HBI.out.symm))
              constructor
              · rintro ⟨o, ho, h⟩
                obtain ⟨q, hq, rfl⟩ := List.mem_iff_getElem.1 ho
                exact ⟨q, by have := HN.out; omega, _, List.getElem?_eq_getElem hq, h⟩
              · rintro ⟨q, hq, o, h1, h2⟩
                exact ⟨o, List.mem_of_getElem? h1, h2⟩
            rw [hBc] at E6
            have hnB : (B != B) = false := by simp
            clear hBc
            as_aux_lemma =>
              go_wp2_with fail
              refine E6.mono ?_
              rintro e w' ⟨rfl, rfl⟩
              go_wp2_with fail
              exact ⟨⟨m + 1, by omega, by omega, by go_num, HBW.out⟩, by simp only [intOf]; omega⟩
      · replace hl : hasE L1 m = false := by simpa using hl
        obtain ⟨bm, hbm⟩ : ∃ b, hasE L2 m = b := ⟨_, rfl⟩
        obtain ⟨bq, hbq⟩ : ∃ b, decide (m = a) = b := ⟨_, rfl⟩
        rw [show hasE L3 m = bm by rw [hx, hl, hbm]; rfl] at E3
        rw [show hasE L4 m = bq by rw [hq, hl, hbq]; rfl] at E4
        rw [hl] at E1
        rw [hbm] at E2
        have hmq : ((m : Int) == (a : Int)) = bq := by rw [← hbq]; by_cases e : m = a <;> simp [e, Int.natCast_inj]
        have hn1 : (bm != bm) = false := by simp
        have hn2 : (bq != bq) = false := by simp
        replace E1 := Lib.hid E1; replace E2 := Lib.hid E2; replace E3 := Lib.hid E3; replace E4 := Lib.hid E4; replace E5 := Lib.hid E5
        clear hx hq hs hl hbm hbq
        go_wp2_with fail
        refine HLW.out.mono ?_
        rintro e w' ⟨rfl, rfl⟩
        go_wp2_with fail
        refine E3.out.mono ?_
        rintro e w' ⟨rfl, rfl⟩
        go_wp2_with fail
        refine E1.out.mono ?_
        rintro e w' ⟨rfl, rfl⟩
        go_wp2_with fail
        refine E2.out.mono ?_
        rintro e w' ⟨rfl, rfl⟩
        go_wp2_with fail
        refine E4.out.mono ?_
        rintro e w' ⟨rfl, rfl⟩
        go_wp2_with fail
        refine E1.out.mono ?_
        rintro e w' ⟨rfl, rfl⟩
        go_wp2_with fail
        refine E1.out.mono ?_
        rintro e w' ⟨rfl, rfl⟩
        clear hmq hn1 hn2
        clear E1 E2 E3 E4 E5
        go_wp2_with fail
        obtain ⟨wo, rfl⟩ : ∃ W, W = wr := ⟨_, rfl⟩
        go_loopw [19, 20] (fun is k wr => ∃ (p : Nat) (B : Bool), p ≤ N ∧ k = .int .i64 (p : Int) ∧ is = .bool B ∧ (B = true ↔ ∃ q, q < p ∧ ∃ o, L1[q]? = some o ∧ TreeR (runesOf s) tb o.1 m) ∧ Below wo.heap.size wo wr) (fun _ k _ => N - (intOf k).toNat)
        case atStart => exact ⟨0, false, by omega, rfl, rfl, ⟨fun h => (by cases h), fun ⟨q, h, _⟩ => (by omega)⟩, Below.refl _ _⟩
        case round =>
          obtain ⟨p, B, hp, rfl, rfl, hB, hbz⟩ := hrel
          have HBI := Lib.hid hB; have HBZ := Lib.hid hbz
          have HBW := Lib.hid (HBR.out.trans (hbz.mono HBR.out.size))
          clear hB hbz
          by_cases hpN : p < N
          · have hpd : decide ((p : Int) < (N : Int)) = true := decide_eq_true (by omega)
            cases B
            case true =>
              have HNX : Hid ((true = true ↔ ∃ q, q < p + 1 ∧ ∃ o, L1[q]? = some o ∧ TreeR (runesOf s) tb o.1 m)) := Lib.hid ⟨fun _ => by obtain ⟨q, h1, h2⟩ := HBI.out.1 rfl; exact ⟨q, by omega, h2⟩, fun _ => rfl⟩
              as_aux_lemma =>
                go_upto_region 21 with (fail)
                go_quiet (fail)
                go_wp2_with fail
                exact ⟨⟨p + 1, true, by omega, by go_num, rfl, HNX.out, HBZ.out.trans ((below_draws wr _).mono HBZ.out.size)⟩, by simp only [intOf]; omega⟩
            have hpl : p < L1.length := by rw [HN.out]; exact hpN
            obtain ⟨gl, r, rc, rfl, k1, hrc, hrm, k2⟩ := ends_row (EV1.out.below HBW.out) HL1.out p hpl
            have HO1 := Lib.hid (HF1.out _ (List.getElem_mem hpl)).1
            obtain ⟨o1, ho⟩ : ∃ o1, (L1[p]'hpl).1 = o1 := ⟨_, rfl⟩
            rw [ho] at k2 HO1
            have HNX : Hid (∀ B', (B' = true ↔ TreeR (runesOf s) tb o1 m) → (B' = true ↔ ∃ q, q < p + 1 ∧ ∃ o, L1[q]? = some o ∧ TreeR (runesOf s) tb o.1 m)) := Lib.hid fun B' hB' => by
              rw [hB']
              constructor
              · intro h; exact ⟨p, by omega, _, List.getElem?_eq_getElem hpl, by rw [ho]; exact h⟩
              · rintro ⟨q, hq, o, h1, h2⟩
                by_cases e : q = p
                · subst e; rw [List.getElem?_eq_getElem hpl] at h1; injection h1 with h1; rw [← ho, h1]; exact h2
                · exact absurd (HBI.out.2 ⟨q, by omega, o, h1, h2⟩) (by simp)
            have HD := Lib.hid (HC14.out.trans (HBW.out.mono HC14.out.size))
            have hS : Hid (∀ W, Below wr.heap.size wr W → (fun W' => W'.cell? ⟨w.heap.size + 1, 0, none⟩ = some (.int .i64 g.op) ∧ W'.cell? ⟨w.heap.size + 1, 1, none⟩ = some (.slice A3 n3 c3) ∧ W'.cell? ⟨w.heap.size + 1, 2, none⟩ = some (.int .i32 g.rune) ∧ W'.cell? ⟨w.heap.size + 1, 3, none⟩ = some (.slice a4 s3 c4) ∧ W'.cell? ⟨w.heap.size + 1, 4, none⟩ = some (.int .i64 g.at') ∧ W'.cell? ⟨w.heap.size + 1, 5, none⟩ = some (.int .i64 g.cap) ∧ W'.cell? ⟨w.heap.size + 1, 6, none⟩ = some (.string g.name) ∧ W'.cell? ⟨w.heap.size + 1, 7, none⟩ = some (.int .i64 g.min) ∧ W'.cell? ⟨w.heap.size + 1, 8, none⟩ = some (.int .i64 g.max) ∧ W'.cell? ⟨w.heap.size + 1, 9, none⟩ = some (.bool g.lazy) ∧ W'.cell? ⟨gl, p, none⟩ = some (.slice (some ⟨r, 0, none⟩) 2 rc) ∧ W'.cell? ⟨r, 1, none⟩ = some (.int .i64 (o1 : Int))) W) := Lib.hid fun W hW => by
              obtain ⟨d0, d1, d2, d3, d4, d5, d6, d7, d8, d9⟩ := HG.out.below (HD.out.trans (hW.mono HD.out.size))
              have lift : ∀ {a : Addr} {u : Value}, wr.cell? a = some u → W.cell? a = some u := fun h => (hW.cell (World.block_lt_of_cell? wr _ h)).trans h
              exact ⟨d0, d1, d2, d3, d4, d5, d6, d7, d8, d9, lift k1, lift k2⟩
            clear ho k1 k2
            as_aux_lemma =>
              go_upto_region 21 with (fail)
              obtain ⟨u0, hu0⟩ : ∃ x, wr.drew = x := ⟨_, rfl⟩
              have hb0 : Below wr.heap.size wr u0 := by rw [← hu0]; exact (Below.refl _ _).drew
              have HU0 := Lib.hid hb0
              have HD0 := Lib.hid (HD.out.trans (hb0.mono HD.out.size))
              refine wp_onlyP ?_
              refine wp_region_held_drew (S := (fun W' => W'.cell? ⟨w.heap.size + 1, 0, none⟩ = some (.int .i64 g.op) ∧ W'.cell? ⟨w.heap.size + 1, 1, none⟩ = some (.slice A3 n3 c3) ∧ W'.cell? ⟨w.heap.size + 1, 2, none⟩ = some (.int .i32 g.rune) ∧ W'.cell? ⟨w.heap.size + 1, 3, none⟩ = some (.slice a4 s3 c4) ∧ W'.cell? ⟨w.heap.size + 1, 4, none⟩ = some (.int .i64 g.at') ∧ W'.cell? ⟨w.heap.size + 1, 5, none⟩ = some (.int .i64 g.cap) ∧ W'.cell? ⟨w.heap.size + 1, 6, none⟩ = some (.string g.name) ∧ W'.cell? ⟨w.heap.size + 1, 7, none⟩ = some (.int .i64 g.min) ∧ W'.cell? ⟨w.heap.size + 1, 8, none⟩ = some (.int .i64 g.max) ∧ W'.cell? ⟨w.heap.size + 1, 9, none⟩ = some (.bool g.lazy) ∧ W'.cell? ⟨gl, p, none⟩ = some (.slice (some ⟨r, 0, none⟩) 2 rc) ∧ W'.cell? ⟨r, 1, none⟩ = some (.int .i64 (o1 : Int)))) (by kernel_rfl) (by rw [hu0]; exact hS.out _ HU0.out) (fun hHeld => ?_)
              rw [hu0] at hHeld ⊢
              clear hu0 hb0
              refine wpAnyH_take (i := 0) (oi := _) (v := ?_) rfl (by kernel_rfl) (by kernel_rfl) (by kernel_rfl) (fun _ _ _ h => h) (Or.inl ⟨by rfl, ?_⟩) hHeld ?_
              rotate_left 1
              · (intro w hSw; (try dsimp only at hSw); go_simp; (try with_reducible rfl))
              try simp only [List.getElem_toArray, List.getElem_cons_zero, List.getElem_cons_succ, Act.put, List.setIfInBounds_toArray, List.set_cons_zero, List.set_cons_succ]
              refine wpAnyH_take (i := 1) (oi := _) (v := ?_) rfl (by kernel_rfl) (by kernel_rfl) (by kernel_rfl) (fun _ _ _ h => h) (Or.inl ⟨by rfl, ?_⟩) hHeld ?_
              rotate_left 1
              · (intro w hSw; (try dsimp only at hSw); go_simp; (try with_reducible rfl))
              try simp only [List.getElem_toArray, List.getElem_cons_zero, List.getElem_cons_succ, Act.put, List.setIfInBounds_toArray, List.set_cons_zero, List.set_cons_succ]
              refine wpAnyH_take (i := 2) (oi := _) (v := ?_) rfl (by kernel_rfl) (by kernel_rfl) (by kernel_rfl) (fun _ _ _ h => h) (Or.inl ⟨by rfl, ?_⟩) hHeld ?_
              rotate_left 1
              · (intro w hSw; (try dsimp only at hSw); go_simp; (try with_reducible rfl))
              try simp only [List.getElem_toArray, List.getElem_cons_zero, List.getElem_cons_succ, Act.put, List.setIfInBounds_toArray, List.set_cons_zero, List.set_cons_succ]
              refine wpAnyH_take (i := 3) (oi := _) (v := ?_) rfl (by kernel_rfl) (by kernel_rfl) (by kernel_rfl) (fun _ _ _ h => h) (Or.inl ⟨by rfl, ?_⟩) hHeld ?_
              rotate_left 1
              · (intro w hSw; (try dsimp only at hSw); go_simp; (try with_reducible rfl))
              try simp only [List.getElem_toArray, List.getElem_cons_zero, List.getElem_cons_succ, Act.put, List.setIfInBounds_toArray, List.set_cons_zero, List.set_cons_succ]
              refine wpAnyH_take (i := 4) (oi := _) (v := ?_) rfl (by kernel_rfl) (by kernel_rfl) (by kernel_rfl) (fun _ _ _ h => h) (Or.inl ⟨by rfl, ?_⟩) hHeld ?_
              rotate_left 1
              · (intro w hSw; (try dsimp only at hSw); go_simp; (try with_reducible rfl))
              try simp only [List.getElem_toArray, List.getElem_cons_zero, List.getElem_cons_succ, Act.put, List.setIfInBounds_toArray, List.set_cons_zero, List.set_cons_succ]
              refine wpAnyH_take (i := 5) (oi := _) (v := ?_) rfl (by kernel_rfl) (by kernel_rfl) (by kernel_rfl) (fun _ _ _ h => h) (Or.inl ⟨by rfl, ?_⟩) hHeld ?_
              rotate_left 1
              · (intro w hSw; (try dsimp only at hSw); go_simp; (try with_reducible rfl))
              try simp only [List.getElem_toArray, List.getElem_cons_zero, List.getElem_cons_succ, Act.put, List.setIfInBounds_toArray, List.set_cons_zero, List.set_cons_succ]
              refine wpAnyH_take (i := 6) (oi := _) (v := ?_) rfl (by kernel_rfl) (by kernel_rfl) (by kernel_rfl) (fun _ _ _ h => h) (Or.inl ⟨by rfl, ?_⟩) hHeld ?_
              rotate_left 1
              · (intro w hSw; (try dsimp only at hSw); go_simp; (try with_reducible rfl))
              try simp only [List.getElem_toArray, List.getElem_cons_zero, List.getElem_cons_succ, Act.put, List.setIfInBounds_toArray, List.set_cons_zero, List.set_cons_succ]
              refine wpAnyH_take (i := 7) (oi := _) (v := ?_) rfl (by kernel_rfl) (by kernel_rfl) (by kernel_rfl) (fun _ _ _ h => h) (Or.inl ⟨by rfl, ?_⟩) hHeld ?_
              rotate_left 1
              · (intro w hSw; (try dsimp only at hSw); go_simp; (try with_reducible rfl))
              try simp only [List.getElem_toArray, List.getElem_cons_zero, List.getElem_cons_succ, Act.put, List.setIfInBounds_toArray, List.set_cons_zero, List.set_cons_succ]
              refine wpAnyH_take (i := 8) (oi := _) (v := ?_) rfl (by kernel_rfl) (by kernel_rfl) (by kernel_rfl) (fun _ _ _ h => h) (Or.inl ⟨by rfl, ?_⟩) hHeld ?_
              rotate_left 1
              · (intro w hSw; (try dsimp only at hSw); go_simp; (try with_reducible rfl))
              try simp only [List.getElem_toArray, List.getElem_cons_zero, List.getElem_cons_succ, Act.put, List.setIfInBounds_toArray, List.set_cons_zero, List.set_cons_succ]
              refine wpAnyH_take (i := 9) (oi := _) (v := ?_) rfl (by kernel_rfl) (by kernel_rfl) (by kernel_rfl) (fun _ _ _ h => h) (Or.inl ⟨by rfl, ?_⟩) hHeld ?_
              rotate_left 1
              · (intro w hSw; (try dsimp only at hSw); go_simp; (try with_reducible rfl))
              try simp only [List.getElem_toArray, List.getElem_cons_zero, List.getElem_cons_succ, Act.put, List.setIfInBounds_toArray, List.set_cons_zero, List.set_cons_succ]
              refine wpAnyH_take (i := 11) (oi := _) (v := ?_) rfl (by kernel_rfl) (by kernel_rfl) (by kernel_rfl) (fun _ _ _ h => h) (Or.inl ⟨by rfl, ?_⟩) hHeld ?_
              rotate_left 1
              · (intro w hSw; (try dsimp only at hSw); go_simp; (try with_reducible rfl))
              try simp only [List.getElem_toArray, List.getElem_cons_zero, List.getElem_cons_succ, Act.put, List.setIfInBounds_toArray, List.set_cons_zero, List.set_cons_succ]
              refine wpAnyH_ready (rs := [10]) (by kernel_rfl) (by simp) ?_
              refine AllReadyH.cons (o := _) rfl (fun K hK => ?_) ?_
              · go_simp
                refine (list_q (H1.out.below HD0.out) (HIN.out.below HD0.out) hs60 PB.out HO1.out SHB.out LD.out.mb LD.out.nb).mono ?_
                rintro e u1 ⟨ev7, L7, rfl, hv7, hb7, hf7, -, hh7⟩
                have HU1 := Lib.hid (HU0.out.trans (hb7.mono HU0.out.size)); have HV7 := Lib.hid hv7; have HF7 := Lib.hid hf7; have HH7 := Lib.hid hh7
                dsimp only
                clear hv7 hb7 hf7 hh7
                refine hK.out _ _ (hS.out _ HU1.out) (fun hHeld => ?_)
                clear hK K
                try simp only [List.getElem_toArray, List.getElem_cons_zero, List.getElem_cons_succ, Act.put, List.setIfInBounds_toArray, List.set_cons_zero, List.set_cons_succ]
                refine wpAnyH_ready (rs := [12]) (by kernel_rfl) (by simp) ?_
                refine AllReadyH.cons (o := _) rfl (fun K hK => ?_) ?_
                · go_simp
                  refine (ends_any HV7.out (fun o ho => ⟨by have := (HF7.out o ho).1; have := HRR.out; omega, (HF7.out o ho).2⟩) m (by omega)).mono ?_
                  rintro e w' ⟨rfl, rfl⟩
                  dsimp only
                  refine hK.out _ _ (hS.out _ HU1.out) (fun hHeld => ?_)
                  clear hK K
                  try simp only [List.getElem_toArray, List.getElem_cons_zero, List.getElem_cons_succ, Act.put, List.setIfInBounds_toArray, List.set_cons_zero, List.set_cons_succ]
                  refine wpAnyH_take (i := 13) (oi := _) (v := ?_) rfl (by kernel_rfl) (by kernel_rfl) (by kernel_rfl) (fun _ _ _ h => h) (Or.inl ⟨by rfl, ?_⟩) hHeld ?_
                  rotate_left 1
                  · (intro w hSw; (try dsimp only at hSw); go_simp; (try with_reducible rfl))
                  try simp only [List.getElem_toArray, List.getElem_cons_zero, List.getElem_cons_succ, Act.put, List.setIfInBounds_toArray, List.set_cons_zero, List.set_cons_succ]
                  refine wpAnyH_take (i := 14) (oi := _) (v := ?_) rfl (by kernel_rfl) (by kernel_rfl) (by kernel_rfl) (fun _ _ _ h => h) (Or.inl ⟨by rfl, ?_⟩) hHeld ?_
                  rotate_left 1
                  · (intro w hSw; (try dsimp only at hSw); go_simp; (try with_reducible rfl))
                  try simp only [List.getElem_toArray, List.getElem_cons_zero, List.getElem_cons_succ, Act.put, List.setIfInBounds_toArray, List.set_cons_zero, List.set_cons_succ]
                  refine wpAnyH_done (by kernel_rfl) ?_ _
                  dsimp only [onlyP]
                  go_wp2_with fail
                  exact ⟨⟨p + 1, hasE L7 m, by omega, by go_num, rfl, HNX.out _ (HH7.out m), HBZ.out.trans (HU1.out.mono HBZ.out.size)⟩, by simp only [intOf]; omega⟩
                exact AllReadyH.nil
              exact AllReadyH.nil
          · have hpd : decide ((p : Int) < (N : Int)) = false := decide_eq_false (by omega)
            have E6 := HE6.out wr HBW.out m (by omega)
            have hBc : hasE L6 m = B := by
              refine Bool.eq_iff_iff.2 ((HSC.out m).trans (Iff.trans ?_ HBI.out.symm))
              constructor
              · rintro ⟨o, ho, h⟩
                obtain ⟨q, hq, rfl⟩ := List.mem_iff_getElem.1 ho
                exact ⟨q, by have := HN.out; omega, _, List.getElem?_eq_getElem hq, h⟩
              · rintro ⟨q, hq, o, h1, h2⟩
                exact ⟨o, List.mem_of_getElem? h1, h2⟩
            rw [hBc] at E6
            have hnB : (B != B) = false := by simp
            clear hBc
            as_aux_lemma =>
              go_wp2_with fail
              refine E6.mono ?_
              rintro e w' ⟨rfl, rfl⟩
              go_wp2_with fail
              exact ⟨⟨m + 1, by omega, by omega, by go_num, HBW.out⟩, by simp only [intOf]; omega⟩
    · have hmd : decide ((m : Int) ≤ (R : Int)) = false := decide_eq_false (by omega)
      have E5 := HE5.out
      have HLW := Lib.hid (HLI.out wr (HC14.out.trans (hbr.mono HC14.out.size)))
      have HEW : Hid (∀ q, Calls Try.prog 18 #[ev5, .int .i64 (a : Int)] (wr.drewN q) fun e w' => e = .returned (.bool true) ∧ wr.drewN q = w') := Lib.hid fun q => by
        have h := HE5.out (wr.drewN q) (HBR.out.trans ((below_draws wr q).mono HBR.out.size)) a (by omega)
        rw [HSA.out] at h
        exact h
      have HFF := Lib.hid (HF.out.trans (hbr.mono HF.out.size))
      by_cases h0 : N = 0
      · subst h0
        clear hbr E5
        as_aux_lemma =>
          go_upto_region 24 with (go_at_call 15; refine HLW.out.mono ?_; rintro e w' ⟨rfl, rfl⟩)
          go_quiet (first | (go_at_call 18; refine quiet_here (HEW.out _)))
          go_wp2_with fail
          go_ret
          exact ⟨rfl, HFF.out.trans ((below_draws wr _).mono HFF.out.size)⟩
      · have hp1 : 0 < L1.length := by have := HN.out; omega
        obtain ⟨o, ho⟩ : ∃ o, L1.head? = some o := by cases L1 with | nil => simp at hp1 | cons x l => exact ⟨x, rfl⟩
        have ho3 := HHD.out o ho
        have hp3 : 0 < L3.length := by cases L3 with | nil => simp at ho3 | cons x l => simp
        obtain ⟨gl, r, rc, rfl, k1, hrc, hrm, k2⟩ := ends_row (EV1.out.below hbr) HL1.out 0 hp1
        obtain ⟨gx, r3, rc3, rfl, k3, hrc3, hrm3, k4⟩ := ends_row (EV3.out.below hbr) HL3.out 0 hp3
        have e1 : (L1[0]'hp1).1 = o.1 := by cases L1 with | nil => simp at hp1 | cons x l => simp at ho; rw [← ho]; rfl
        have e3 : (L3[0]'hp3).1 = o.1 := by cases L3 with | nil => simp at hp3 | cons x l => simp at ho3; rw [← ho3]; rfl
        rw [e1] at k2
        rw [e3] at k4
        obtain ⟨o1, ho1⟩ : ∃ o1, o.1 = o1 := ⟨_, rfl⟩
        rw [ho1] at k2 k4
        have hN0 : ((N : Int) == 0) = false := beq_eq_false_iff_ne.2 (by omega)
        have hn3 : 0 < N3 := by rw [← HN3.out]; exact hp3
        have hn1 : 0 < N := by omega
        clear hbr E5 ho ho3 e1 e3 ho1 hp1 hp3 h0
        as_aux_lemma =>
          go_upto_region 24 with (go_at_call 15; refine HLW.out.mono ?_; rintro e w' ⟨rfl, rfl⟩)
          go_quiet (first | (go_at_call 18; refine quiet_here (HEW.out _)))
          go_wp2_with fail
          go_ret
          exact ⟨rfl, HFF.out.trans ((below_draws wr _).mono HFF.out.size)⟩
end Go.Proofs.Ytnemacejaiifnaa
