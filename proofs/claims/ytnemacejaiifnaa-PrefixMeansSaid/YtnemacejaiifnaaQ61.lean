/- Texts merged by program: PxMeansL. No condition. -/
import Derived.Test.YtnemacejaiifnaaQ60
import Derived.Test.YtnemacejaiifnaaQ48
import Derived.Test.YtnemacejaiifnaaQ49
set_option linter.unusedVariables false
/- PrefixMeans. No condition. -/
namespace Go.Proofs.Ytnemacejaiifnaa
open Go Go.RowKit

set_option maxHeartbeats 3200000 in
set_option maxRecDepth 100000 in
theorem prefixMeans_any (w : World) (v : Value) (t : Tr) (h : Tre w t v) (A : Option Addr) (n c : Nat) (zs : List Int) (hz : IsRow .u8 w A n c zs) (i : Int) (hi : I64 i) : Calls Try.prog 7 #[v, .slice A n c, .int .i64 i] w (HeadPost w) := by
  obtain ⟨s, hs, hconv⟩ := conv_row hz
  subst hs
  have HC := Lib.hid hconv
  have hsz : s.size ≤ 9223372036854775807 := by
    rcases hz with ⟨-, h1, -⟩ | ⟨x, -, h1, h2, -⟩
    · omega
    · unfold maxLen at h2; omega
  clear hconv hz
  have h0 := h
  obtain ⟨A1, n1, c1, a2, s1, c2, hn, hs, rfl, hnb, hsb, hK, hS, hF⟩ := h.opened
  obtain ⟨w1, hw1⟩ : ∃ w1, w.alloc (.cells #[.int .i64 t.fld.op, .slice A1 n1 c1, .int .i32 t.fld.rune, .slice a2 s1 c2, .int .i64 t.fld.at', .int .i64 t.fld.cap, .string t.fld.name, .int .i64 t.fld.min, .int .i64 t.fld.max, .bool t.fld.lazy] 27) = w1 := ⟨_, rfl⟩
  have hb1 : Below w.heap.size w w1 := by rw [← hw1]; exact (Below.refl _ _).alloc (Nat.le_refl _) _
  have hE1 : Box10 w1 w.heap.size (.int .i64 t.fld.op) (.slice A1 n1 c1) (.int .i32 t.fld.rune) (.slice a2 s1 c2) (.int .i64 t.fld.at') (.int .i64 t.fld.cap) (.string t.fld.name) (.int .i64 t.fld.min) (.int .i64 t.fld.max) (.bool t.fld.lazy) := by rw [← hw1]; exact box10_new w _ _ _ _ _ _ _ _ _ _ _
  have HW1 := Lib.hid hw1; have HT := Lib.hid hb1; have HE := Lib.hid hE1; have H0 := Lib.hid (h0.below hb1)
  obtain ⟨f, hf⟩ : ∃ f, t.fld = f := ⟨_, rfl⟩
  rw [hf] at HW1 HE H0 ⊢
  clear hb1 hE1 hw1 hK hS hn hs hF h h0 hf
  go_enter Try.func7, Try.ntmps7
  go_upto_region 1 with (fail)
  rw [HW1.out]
  clear HW1
  go_wp2_with fail
  refine (phead14_any w1).mono ?_
  rintro e w2 ⟨rfl, hb⟩
  replace H0 := Lib.hid (H0.out.below hb); replace HE := Lib.hid (HE.out.below hb)
  replace HT := Lib.hid (HT.out.trans (hb.mono HT.out.size))
  clear hb
  have HGR : Hid (∀ W, Below w2.heap.size w2 W → Calls Try.prog 11 #[.agg #[.int .i64 f.op, .slice A1 n1 c1, .int .i32 f.rune, .slice a2 s1 c2, .int .i64 f.at', .int .i64 f.cap, .string f.name, .int .i64 f.min, .int .i64 f.max, .bool f.lazy], .slice A s.size c] W (GreatPost s.size t W)) := Lib.hid fun W hW => great_any W _ t (H0.out.below hW) A s.size c hsz
  by_cases hlong : (65536 : Int) < s.size
  · have HTX := Lib.hid (text_long A s.size c w2 hlong)
    obtain ⟨b0, b1, b2, b3, b4, b5, b6, b7, b8, b9⟩ := HE.out
    go_upto_region 3 with (go_at_call 10; refine HTX.out.mono ?_; rintro e w' ⟨rfl, rfl⟩)
    go_wp2_with fail
    refine (HGR.out w2 (Below.refl _ _)).mono ?_
    rintro e w3 ⟨B, rfl, hB, hb⟩
    have HT3 := Lib.hid (HT.out.trans (hb.mono HT.out.size))
    clear hb b0 b1 b2 b3 b4 b5 b6 b7 b8 b9
    cases B
    · exfalso; have := hB rfl; omega
    · clear hB
      go_wp2_with fail
      go_ret
      exact ⟨rfl, HT3.out⟩
  have HTX := Lib.hid (text_ok A c s w2 (by omega) (HC.out w2 HT.out))
  clear hlong
  go_upto_region 2 with (fail)
  go_upto_region 3 with (go_at_call 10; refine HTX.out.mono ?_; rintro e w3 ⟨ib, rfl, hin, hb⟩)
  have HB3 := Lib.hid hb
  replace H0 := Lib.hid (H0.out.below hb); replace HE := Lib.hid (HE.out.below hb)
  replace HT := Lib.hid (HT.out.trans (hb.mono HT.out.size))
  have HIN := Lib.hid hin
  clear hb hin
  obtain ⟨b0, b1, b2, b3, b4, b5, b6, b7, b8, b9⟩ := HE.out
  go_wp2_with fail
  refine (HGR.out w3 HB3.out).mono ?_
  rintro e w4 ⟨B, rfl, hB, hb⟩
  replace H0 := Lib.hid (H0.out.below hb); replace HE := Lib.hid (HE.out.below hb)
  replace HT := Lib.hid (HT.out.trans (hb.mono HT.out.size)); replace HIN := Lib.hid (HIN.out.below hb)
  clear hb b0 b1 b2 b3 b4 b5 b6 b7 b8 b9
  cases B
  case true =>
    clear hB
    go_wp2_with fail
    go_ret
    exact ⟨rfl, HT.out⟩
  obtain ⟨hs60, hp120, hw300⟩ := hB rfl
  clear hB
  have HPF := Lib.hid (pprefix_any t (by omega) _ w4 H0.out)
  have HLS : Hid (∀ W, Below w4.heap.size w4 W → Calls Try.prog 14 #[.agg #[.int .i64 f.op, .slice A1 n1 c1, .int .i32 f.rune, .slice a2 s1 c2, .int .i64 f.at', .int .i64 f.cap, .string f.name, .int .i64 f.min, .int .i64 f.max, .bool f.lazy], .int .i64 0, .pointer (some ⟨ib, 0, none⟩), .int .i64 i] W (ListPost s 0 t i W)) := Lib.hid fun W hW => list_small t _ 0 ib _ 2 s i W (H0.out.below hW) (HIN.out.below hW) hs60 hp120 hw300 (by omega)
  have hnl := length_runesOf s
  clear hw300
  obtain ⟨b0, b1, b2, b3, b4, b5, b6, b7, b8, b9⟩ := HE.out
  go_wp2_with fail
  refine HPF.out.mono ?_
  rintro e w5 ⟨vp, rfl, hvp, hb⟩
  have HB5 := Lib.hid hb
  replace H0 := Lib.hid (H0.out.below hb); replace HE := Lib.hid (HE.out.below hb)
  replace HT := Lib.hid (HT.out.trans (hb.mono HT.out.size)); replace HIN := Lib.hid (HIN.out.below hb)
  have HVP := Lib.hid hvp.rns
  have hpl : (preF t).1.length ≤ 120 := by
    by_cases hsh : ShapedP t
    · rw [preF_yes hsh]; have := preT_len t; omega
    · rw [preF_no hsh]; simp
  clear hb hvp b0 b1 b2 b3 b4 b5 b6 b7 b8 b9 hp120
  obtain ⟨b0, b1, b2, b3, b4, b5, b6, b7, b8, b9⟩ := HE.out
  obtain ⟨px, pc, rfl, -⟩ := HVP.out
  go_wp2_with fail
  refine (HLS.out w5 HB5.out).mono ?_
  rintro e w6 ⟨ev, E, L, rfl, -, hend, hb, hways⟩
  have hfit := ways_fit hways
  have HEV := Lib.hid (hend.ev fun o ho => by have := (hfit o ho).2.2.2.len; omega)
  have HLEN2 : Hid (∀ o ∈ L, o.2.length = 2) := Lib.hid fun o ho => (hfit o ho).2.2.2.len
  have HEA := Lib.hid (means_each hways)
  have HTH : Hid ((preF t).2 = true → _) := Lib.hid (means_there hways)
  have HFI : Hid (∀ o ∈ L, 0 ≤ i ∧ i ≤ (o.1 : Int) ∧ o.1 ≤ (runesOf s).length) := Lib.hid fun o ho => ⟨(hfit o ho).1, (hfit o ho).2.1, (hfit o ho).2.2.1⟩
  replace HT := Lib.hid (HT.out.trans (hb.mono HT.out.size)); replace HIN := Lib.hid (HIN.out.below hb); replace HVP := Lib.hid (HVP.out.below hb)
  clear hb hend hways hfit b0 b1 b2 b3 b4 b5 b6 b7 b8 b9
  obtain ⟨ea, ec, rfl, hle, hlm⟩ := HEV.out.sl
  have HAT := Lib.hid (HEV.out.at' ea L.length ec rfl)
  have HIX : Hid (∀ W, Below w6.heap.size w6 W → Calls Try.prog 23 #[.pointer (some ⟨ib, 0, none⟩), .slice px (preF t).1.length pc, .int .i64 i] W fun e w' => ∃ r : Int, e = .returned (.int .i64 r) ∧ IndexIs (runesOf s) (preF t).1 (max i 0) r ∧ Below W.heap.size W w') := Lib.hid fun W hW => index_any _ 2 s ib W (HIN.out.below hW) _ _ (HVP.out.below hW) (by omega) i hi
  obtain ⟨P, hP⟩ : ∃ P, preF t = P := ⟨_, rfl⟩
  rw [hP] at HEA HTH HIX HVP hpl ⊢
  obtain ⟨p1, p2⟩ := P
  dsimp only at HEA HTH HIX HVP hpl ⊢
  obtain ⟨N, hN⟩ : ∃ N, L.length = N := ⟨_, rfl⟩
  have HNN := Lib.hid hN
  rw [hN] at hle ⊢
  clear hP hN
  have hi1 := hi.1
  have hi2 := hi.2
  have HLI : Hid (∀ W, Below w6.heap.size w6 W → Calls Try.prog 15 #[.pointer (some ⟨ib, 1, none⟩)] W fun e w' => e = .returned (.int .i64 ((runesOf s).length : Nat)) ∧ W = w') := Lib.hid fun W hW => len_any (HIN.out.below hW)
  obtain ⟨R, hR⟩ : ∃ R, (runesOf s).length = R := ⟨_, rfl⟩
  have HRR := Lib.hid hR
  rw [hR] at hnl HLI HTH HEA HFI
  have hNb : N ≤ 9223372036854775807 := by unfold maxLen at hlm; omega
  clear hR hi hlm
  go_wp2_with fail
  go_loopw [12] (fun k wr => ∃ m : Nat, m ≤ N ∧ k = .int .i64 (m : Int) ∧ Below w6.heap.size w6 wr) (fun k _ => N - (intOf k).toNat)
  case atStart => exact ⟨0, by omega, rfl, Below.refl _ _⟩
  case round =>
    obtain ⟨m, hm, rfl, hbr⟩ := hrel
    have HBR := Lib.hid hbr
    by_cases hmN : m < N
    · have hmd : decide ((m : Int) < (N : Int)) = true := decide_eq_true (by omega)
      have hml : m < L.length := by rw [HNN.out]; exact hmN
      obtain ⟨g, r, rc, rfl, c1, hrc, hrm, hcell⟩ := HAT.out m hml
      have lift : ∀ {a : Addr} {u : Value}, w6.cell? a = some u → wr.cell? a = some u := fun h => (hbr.cell (World.block_lt_of_cell? w6 _ h)).trans h
      have ho := List.getElem_mem hml
      have h2 := HLEN2.out _ ho
      obtain ⟨hx1, hx2, hx3, hx4, hx5⟩ := HEA.out _ ho
      obtain ⟨hy1, hy2, hy3⟩ := HFI.out _ ho
      have hr1 : 1 < (rowOf L[m]).length := by simp [rowOf, h2]
      have c2 := lift (hcell 1 hr1)
      have e1 : (rowOf L[m])[1] = (L[m].1 : Int) := by simp [rowOf]
      rw [e1] at c2
      rw [h2] at c1 hrc
      have c1 := lift c1
      obtain ⟨o1, ho1⟩ : ∃ o, L[m].1 = o := ⟨_, rfl⟩
      rw [ho1] at c2 hx3 hx4 hy2 hy3
      have HX5 := Lib.hid hx5
      have hIX := Lib.hid (HIX.out wr hbr)
      clear hcell lift ho h2 e1 ho1 hx5 hr1 hml hbr
      have hlt : decide ((o1 : Int) - i < (p1.length : Int)) = false := decide_eq_false (by omega)
      have hsub : wrap64 ((o1 : Int) - i) = (o1 : Int) - i := IntWalk.wrap64_in _ ⟨by omega, by omega⟩
      cases p2
      · clear hx4
        as_aux_lemma =>
          go_wp2_with fail
          refine hIX.out.mono ?_
          rintro e w7 ⟨q, rfl, hq, hb7⟩
          obtain rfl := HX5.out q hq
          have HB7 := Lib.hid (HBR.out.trans (hb7.mono HBR.out.size))
          clear hq hb7
          go_wp2_with fail
          exact ⟨⟨m + 1, by omega, by go_num, HB7.out⟩, by simp only [intOf]; omega⟩
      · have hx6 := hx4 rfl
        have hne : (((o1 : Int) - i) != (p1.length : Int)) = false := by rw [hx6]; simp
        clear hx4
        as_aux_lemma =>
          go_wp2_with fail
          refine hIX.out.mono ?_
          rintro e w7 ⟨q, rfl, hq, hb7⟩
          obtain rfl := HX5.out q hq
          have HB7 := Lib.hid (HBR.out.trans (hb7.mono HBR.out.size))
          clear hq hb7
          go_wp2_with fail
          exact ⟨⟨m + 1, by omega, by go_num, HB7.out⟩, by simp only [intOf]; omega⟩
    · have hmd : decide ((m : Int) < (N : Int)) = false := decide_eq_false (by omega)
      clear hbr
      have hfin : Hid (∀ W, Below wr.heap.size wr W → Below w.heap.size w W) := Lib.hid fun W hW => HT.out.trans ((HBR.out.trans (hW.mono HBR.out.size)).mono HT.out.size)
      have HLW := Lib.hid (HLI.out wr HBR.out)
      have HXW := Lib.hid (HIX.out wr HBR.out)
      have hN0 : N = 0 ↔ L = [] := by rw [← HNN.out]; exact List.length_eq_zero_iff
      by_cases h0 : 0 ≤ i
      · have hd0 : decide (0 ≤ i) = true := decide_eq_true h0
        by_cases h1 : i ≤ (R : Int)
        · have hd1 : decide (i ≤ (R : Int)) = true := decide_eq_true h1
          as_aux_lemma =>
            go_wp2_with fail
            refine HLW.out.mono ?_
            rintro e w' ⟨rfl, rfl⟩
            go_wp2_with fail
            refine HXW.out.mono ?_
            rintro e w7 ⟨q, rfl, hq, hb7⟩
            have HF7 := Lib.hid (hfin.out w7 hb7)
            have HQ := Lib.hid hq
            clear hb7 hq
            cases p2
            · go_wp2_with fail
              go_ret
              exact ⟨rfl, HF7.out⟩
            · have hth := ((HTH.out rfl).2 q h0 h1 HQ.out)
              by_cases hL : L = []
              · have hz : N = 0 := hN0.2 hL
                subst hz
                have hqi : (q == i) = false := beq_eq_false_iff_ne.2 fun e => hth.1 e hL
                clear hth hN0
                go_wp2_with fail
                go_ret
                exact ⟨rfl, HF7.out⟩
              · have hqi : q = i := hth.2 hL
                have hz : decide (0 < (N : Int)) = true := decide_eq_true (by have : N ≠ 0 := fun e => hL (hN0.1 e); omega)
                subst hqi
                have hN1 : 0 < N := by have : N ≠ 0 := fun e => hL (hN0.1 e); omega
                clear hth hN0
                go_wp2_with fail
                go_ret
                exact ⟨rfl, HF7.out⟩
        · have hd1 : decide (i ≤ (R : Int)) = false := decide_eq_false h1
          as_aux_lemma =>
            have HF7 := Lib.hid (hfin.out wr (Below.refl _ _))
            have hno : p2 = true → N = 0 := fun e => hN0.2 ((HTH.out e).1 fun h => h1 h.2)
            clear hN0
            go_wp2_with fail
            refine HLW.out.mono ?_
            rintro e w' ⟨rfl, rfl⟩
            cases p2
            · clear hno
              go_wp2_with fail
              go_ret
              exact ⟨rfl, HF7.out⟩
            · have hz : N = 0 := hno rfl
              subst hz
              go_wp2_with fail
              go_ret
              exact ⟨rfl, HF7.out⟩
      · have hd0 : decide (0 ≤ i) = false := decide_eq_false h0
        as_aux_lemma =>
          have HF7 := Lib.hid (hfin.out wr (Below.refl _ _))
          have hno : p2 = true → N = 0 := fun e => hN0.2 ((HTH.out e).1 fun h => h0 h.1)
          clear hN0
          cases p2
          · clear hno
            go_wp2_with fail
            go_ret
            exact ⟨rfl, HF7.out⟩
          · have hz : N = 0 := hno rfl
            subst hz
            go_wp2_with fail
            go_ret
            exact ⟨rfl, HF7.out⟩
end Go.Proofs.Ytnemacejaiifnaa
