/- Texts merged by program: DnPlacesL. No condition. -/
import Derived.Test.YtnemacejaiifnaaQ47
import Derived.Test.YtnemacejaiifnaaQ41
import Derived.Test.YtnemacejaiifnaaQ48
import Derived.Test.YtnemacejaiifnaaQ49
import Derived.BigQuiet
set_option linter.unusedVariables false
/- DenotePlaces. No condition. -/
set_option linter.unusedSimpArgs false
namespace Go.Proofs.Ytnemacejaiifnaa
open Go Go.RowKit

theorem rowOf_get {o : Out} {k : Nat} (hk : k < (rowOf o).length) (h1 : k ≠ 1) : (rowOf o)[k] = o.2.getD k 0 := by
  have h2 : k < o.2.length := by simpa [rowOf] using hk
  simp [rowOf, List.getElem_set, Ne.symm h1, List.getD, h2]
theorem ways_once {R : List Int} {G : Nat} {t : Tr} {i : Int} {L : List Out} (h : WaysOf R G t i L) : (L.map Prod.fst).Nodup := by
  rcases h with ⟨-, rfl⟩ | ⟨a, q, n, W, -, -, -, -, -, -, -, rfl⟩
  · exact List.nodup_nil
  · exact (firsts_nodup [] W).1
theorem ways_nil {R : List Int} {G : Nat} {t : Tr} {i : Int} {L : List Out} (h : WaysOf R G t i L) (hn : ¬ (0 ≤ i ∧ i ≤ (R.length : Int))) : L = [] := by
  rcases h with ⟨-, rfl⟩ | ⟨a, q, n, W, rfl, ha, -⟩
  · rfl
  · exact absurd ⟨by omega, by omega⟩ hn

set_option maxHeartbeats 3200000 in
set_option maxRecDepth 100000 in
theorem denotePlaces_any (w : World) (v : Value) (t : Tr) (h : Tre w t v) (A : Option Addr) (n c : Nat) (zs : List Int) (hz : IsRow .u8 w A n c zs) (i : Int) (hi : I64 i) : Calls Try.prog 3 #[v, .slice A n c, .int .i64 i] w (HeadPost w) := by
  obtain ⟨s, hs, hconv⟩ := conv_row hz
  subst hs
  have HC := Lib.hid hconv
  have hsz : s.size ≤ 9223372036854775807 := by
    rcases hz with ⟨-, h1, -⟩ | ⟨x, -, h1, h2, -⟩
    · omega
    · unfold maxLen at h2; omega
  clear hconv hz
  have h0 := h
  obtain ⟨A1, n1, c1, a2, s1, c2, hn, hs, rfl, hnb, hsb, hK, hS, hF⟩ := h.opened
  obtain ⟨w1, hw1⟩ : ∃ w1, w.alloc (.cells #[.int .i64 t.fld.op, .slice A1 n1 c1, .int .i32 t.fld.rune, .slice a2 s1 c2, .int .i64 t.fld.at', .int .i64 t.fld.cap, .string t.fld.name, .int .i64 t.fld.min, .int .i64 t.fld.max, .bool t.fld.lazy] 27) = w1 := ⟨_, rfl⟩
  have hb1 : Below w.heap.size w w1 := by rw [← hw1]; exact (Below.refl _ _).alloc (Nat.le_refl _) _
  have hE1 : Box10 w1 w.heap.size (.int .i64 t.fld.op) (.slice A1 n1 c1) (.int .i32 t.fld.rune) (.slice a2 s1 c2) (.int .i64 t.fld.at') (.int .i64 t.fld.cap) (.string t.fld.name) (.int .i64 t.fld.min) (.int .i64 t.fld.max) (.bool t.fld.lazy) := by rw [← hw1]; exact box10_new w _ _ _ _ _ _ _ _ _ _ _
  have HW1 := Lib.hid hw1; have HT := Lib.hid hb1; have HE := Lib.hid hE1; have H0 := Lib.hid (h0.below hb1)
  obtain ⟨f, hf⟩ : ∃ f, t.fld = f := ⟨_, rfl⟩
  rw [hf] at HW1 HE H0 ⊢
  clear hb1 hE1 hw1 hK hS hn hs hF h h0 hf
  go_enter Try.func3, Try.ntmps3
  go_upto_region 1 with (fail)
  rw [HW1.out]
  clear HW1
  go_wp2_with fail
  refine (dhead_any w1).mono ?_
  rintro e w2 ⟨rfl, hb⟩
  replace H0 := Lib.hid (H0.out.below hb); replace HE := Lib.hid (HE.out.below hb)
  replace HT := Lib.hid (HT.out.trans (hb.mono HT.out.size))
  clear hb
  have HGR : Hid (∀ W, Below w2.heap.size w2 W → Calls Try.prog 11 #[.agg #[.int .i64 f.op, .slice A1 n1 c1, .int .i32 f.rune, .slice a2 s1 c2, .int .i64 f.at', .int .i64 f.cap, .string f.name, .int .i64 f.min, .int .i64 f.max, .bool f.lazy], .slice A s.size c] W (GreatPost s.size t W)) := Lib.hid fun W hW => great_any W _ t (H0.out.below hW) A s.size c hsz
  by_cases hlong : (65536 : Int) < s.size
  · have HTX := Lib.hid (text_long A s.size c w2 hlong)
    obtain ⟨b0, b1, b2, b3, b4, b5, b6, b7, b8, b9⟩ := HE.out
    go_upto_region 3 with (go_at_call 10; refine HTX.out.mono ?_; rintro e w' ⟨rfl, rfl⟩)
    go_wp2_with fail
    refine (HGR.out w2 (Below.refl _ _)).mono ?_
    rintro e w3 ⟨B, rfl, hB, hb⟩
    have HT3 := Lib.hid (HT.out.trans (hb.mono HT.out.size))
    clear hb b0 b1 b2 b3 b4 b5 b6 b7 b8 b9
    cases B
    · exfalso; have := hB rfl; omega
    · clear hB
      go_wp2_with fail
      go_ret
      exact ⟨rfl, HT3.out⟩
  have HTX := Lib.hid (text_ok A c s w2 (by omega) (HC.out w2 HT.out))
  clear hlong
  go_upto_region 2 with (fail)
  go_upto_region 3 with (go_at_call 10; refine HTX.out.mono ?_; rintro e w3 ⟨ib, rfl, hin, hb⟩)
  have HB3 := Lib.hid hb
  replace H0 := Lib.hid (H0.out.below hb); replace HE := Lib.hid (HE.out.below hb)
  replace HT := Lib.hid (HT.out.trans (hb.mono HT.out.size))
  have HIN := Lib.hid hin
  clear hb hin
  obtain ⟨b0, b1, b2, b3, b4, b5, b6, b7, b8, b9⟩ := HE.out
  go_wp2_with fail
  refine (HGR.out w3 HB3.out).mono ?_
  rintro e w4 ⟨B, rfl, hB, hb⟩
  replace H0 := Lib.hid (H0.out.below hb); replace HE := Lib.hid (HE.out.below hb)
  replace HT := Lib.hid (HT.out.trans (hb.mono HT.out.size)); replace HIN := Lib.hid (HIN.out.below hb)
  clear hb b0 b1 b2 b3 b4 b5 b6 b7 b8 b9
  cases B
  case true =>
    clear hB
    go_wp2_with fail
    go_ret
    exact ⟨rfl, HT.out⟩
  obtain ⟨hs60, hp120, hw300⟩ := hB rfl
  clear hB
  have HRT := Lib.hid (pright_any t (by omega) _ w4 H0.out)
  have HCP : Hid (∀ W V, Below w4.heap.size w4 W → Tre W t V → Calls Try.prog 13 #[V] W (CapsPost t W)) := Lib.hid fun W V hW hV => pcaps_any t (by omega) V W hV
  obtain ⟨b0, b1, b2, b3, b4, b5, b6, b7, b8, b9⟩ := HE.out
  go_wp2_with fail
  refine HRT.out.mono ?_
  rintro e w5 ⟨B, rfl, hB, hb⟩
  have HB5 := Lib.hid hb
  replace H0 := Lib.hid (H0.out.below hb); replace HE := Lib.hid (HE.out.below hb)
  replace HT := Lib.hid (HT.out.trans (hb.mono HT.out.size)); replace HIN := Lib.hid (HIN.out.below hb)
  clear hb b0 b1 b2 b3 b4 b5 b6 b7 b8 b9
  cases B
  case false =>
    clear hB
    go_wp2_with fail
    go_ret
    exact ⟨rfl, HT.out⟩
  have hr : RightT t := hB.1 rfl
  have HCC := Lib.hid (HCP.out w5 _ HB5.out H0.out)
  obtain ⟨G, hG⟩ : ∃ G, (groupsT t).length = G := ⟨_, rfl⟩
  have hG120 : G ≤ 120 := by have := groupsT_len t; omega
  have HCN : Hid ((capsNames t).length = G + 1) := Lib.hid (by unfold capsNames; simp [hG])
  have HLS : Hid (∀ W, Below w5.heap.size w5 W → Calls Try.prog 14 #[.agg #[.int .i64 f.op, .slice A1 n1 c1, .int .i32 f.rune, .slice a2 s1 c2, .int .i64 f.at', .int .i64 f.cap, .string f.name, .int .i64 f.min, .int .i64 f.max, .bool f.lazy], .int .i64 (G : Int), .pointer (some ⟨ib, 0, none⟩), .int .i64 i] W (ListPost s G t i W)) := Lib.hid fun W hW => list_small t _ G ib _ 2 s i W (H0.out.below hW) (HIN.out.below hW) hs60 hp120 hw300 (by omega)
  have hnl := length_runesOf s
  have HR := Lib.hid hr
  clear hB hr hG hw300 hp120
  obtain ⟨b0, b1, b2, b3, b4, b5, b6, b7, b8, b9⟩ := HE.out
  go_wp2_with fail
  refine HCC.out.mono ?_
  rintro e w6 ⟨hb, ⟨hn, rfl⟩ | ⟨-, vc, rfl, hvc⟩⟩
  · exact absurd HR.out hn
  obtain ⟨ca, cc, rfl, -, -, -⟩ := hvc.srs
  have HB6 := Lib.hid hb
  replace HE := Lib.hid (HE.out.below hb)
  replace HT := Lib.hid (HT.out.trans (hb.mono HT.out.size)); replace HIN := Lib.hid (HIN.out.below hb)
  rw [HCN.out]
  clear hb hvc b0 b1 b2 b3 b4 b5 b6 b7 b8 b9
  obtain ⟨b0, b1, b2, b3, b4, b5, b6, b7, b8, b9⟩ := HE.out
  go_wp2_with fail
  refine (HLS.out w6 HB6.out).mono ?_
  rintro e w7 ⟨ev, E, L, rfl, -, hend, hb, hways⟩
  have hfit := ways_fit hways
  have HEV := Lib.hid (hend.ev fun o ho => by have := (hfit o ho).2.2.2.len; omega)
  have HFI := Lib.hid hfit
  have HND := Lib.hid (ways_once hways)
  have HNO := Lib.hid (ways_nil hways)
  replace HT := Lib.hid (HT.out.trans (hb.mono HT.out.size)); replace HIN := Lib.hid (HIN.out.below hb)
  clear hb hend hways hfit b0 b1 b2 b3 b4 b5 b6 b7 b8 b9
  obtain ⟨ea, ec, rfl, hle, hlm⟩ := HEV.out.sl
  have HAT := Lib.hid (HEV.out.at' ea L.length ec rfl)
  obtain ⟨N, hN⟩ : ∃ N, L.length = N := ⟨_, rfl⟩
  have HNN := Lib.hid hN
  rw [hN] at hle ⊢
  have hi1 := hi.1
  have hi2 := hi.2
  have HLI : Hid (∀ W, Below w7.heap.size w7 W → Calls Try.prog 15 #[.pointer (some ⟨ib, 1, none⟩)] W fun e w' => e = .returned (.int .i64 ((runesOf s).length : Nat)) ∧ W = w') := Lib.hid fun W hW => len_any (HIN.out.below hW)
  obtain ⟨R, hR⟩ : ∃ R, (runesOf s).length = R := ⟨_, rfl⟩
  rw [hR] at hnl HLI HFI HNO
  have hNb : N ≤ 9223372036854775807 := by unfold maxLen at hlm; omega
  -- one end: its row in every later memory
  have HROW : Hid (∀ (W : World), Below w7.heap.size w7 W → ∀ (m : Nat), m < N → ∃ (g r rc o1 : Nat) (K : List Int), ea = some ⟨g, 0, none⟩ ∧ W.cell? ⟨g, m, none⟩ = some (.slice (some ⟨r, 0, none⟩) (2 * G + 2) rc) ∧ 2 * G + 2 ≤ rc ∧ rc ≤ maxLen ∧ L[m]?.map Prod.fst = some o1 ∧
      W.cell? ⟨r, 0, none⟩ = some (.int .i64 i) ∧ W.cell? ⟨r, 1, none⟩ = some (.int .i64 (o1 : Int)) ∧ 0 ≤ i ∧ i ≤ (o1 : Int) ∧ o1 ≤ R ∧
      ∀ k : Nat, 1 ≤ k → k ≤ G → ∃ x y : Int, W.cell? ⟨r, 2 * k, none⟩ = some (.int .i64 x) ∧ W.cell? ⟨r, 2 * k + 1, none⟩ = some (.int .i64 y) ∧ ((x = -1 ∧ y = -1) ∨ (i ≤ x ∧ x ≤ y ∧ y ≤ (o1 : Int)))) := Lib.hid fun W hW m hm => by
    have hml : m < L.length := by rw [HNN.out]; exact hm
    obtain ⟨g, r, rc, h1, c1, hrc, hrm, hcell⟩ := HAT.out m hml
    have lift : ∀ {a : Addr} {u : Value}, w7.cell? a = some u → W.cell? a = some u := fun h => (hW.cell (World.block_lt_of_cell? w7 _ h)).trans h
    obtain ⟨f1, f2, f3, f4⟩ := HFI.out _ (List.getElem_mem hml)
    have hl := f4.len
    have hrl : (rowOf L[m]).length = 2 * G + 2 := by simp [rowOf, hl]; omega
    rw [hl] at c1 hrc
    refine ⟨g, r, rc, L[m].1, [], h1, by rw [show 2 * G + 2 = 2 * (G + 1) by omega]; exact lift c1, by omega, hrm, by simp [hml], ?_, ?_, f1, f2, f3, fun k k1 k2 => ?_⟩
    · have h0 := lift (hcell 0 (by omega))
      rw [rowOf_get _ (by omega), f4.zero] at h0
      exact h0
    · have h0 := lift (hcell 1 (by omega))
      rw [show (rowOf L[m])[1]'(by omega) = (L[m].1 : Int) by simp [rowOf]] at h0
      exact h0
    · have h0 := lift (hcell (2 * k) (by omega))
      have h2 := lift (hcell (2 * k + 1) (by omega))
      rw [rowOf_get _ (by omega)] at h0 h2
      exact ⟨_, _, h0, h2, f4.shut k k1 k2 (fun h => h)⟩
  have HDIS : Hid (∀ (k m a b : Nat), k < m → m < N → L[k]?.map Prod.fst = some a → L[m]?.map Prod.fst = some b → a ≠ b) := Lib.hid fun k m a b h1 h2 ha hb e => by
    subst e
    have hk : k < L.length := by rw [HNN.out]; omega
    have hml : m < L.length := by rw [HNN.out]; omega
    have hp := List.pairwise_iff_getElem.1 HND.out k m (by simpa using hk) (by simpa using hml) h1
    simp only [List.getElem_map] at hp
    simp [hk] at ha
    simp [hml] at hb
    exact hp (ha.trans hb.symm)
  have HNIL : Hid (¬ (0 ≤ i ∧ i ≤ (R : Int)) → N = 0) := Lib.hid fun h => by rw [← HNN.out, HNO.out h]; rfl
  clear hR hi hlm HAT HEV HFI HND hN
  go_wp2_with fail
  go_loopw [11] (fun k wr => ∃ m : Nat, m ≤ N ∧ k = .int .i64 (m : Int) ∧ Below w7.heap.size w7 wr) (fun k _ => N - (intOf k).toNat)
  case atStart => exact ⟨0, by omega, rfl, Below.refl _ _⟩
  case round =>
    obtain ⟨m, hm, rfl, hbr⟩ := hrel
    have HBR := Lib.hid hbr
    by_cases hmN : m < N
    · have hmd : decide ((m : Int) < (N : Int)) = true := decide_eq_true (by omega)
      obtain ⟨g, r, rc, o1, -, rfl, c1, hrc, hrm, hLm, c2, c3, hx0, hx1, hx2, hgr⟩ := HROW.out wr hbr m hmN
      have HG := Lib.hid hgr; have HLM := Lib.hid hLm
      obtain ⟨ln, hln⟩ : ∃ ln, 2 * G + 2 = ln := ⟨_, rfl⟩
      have HLN := Lib.hid hln
      rw [hln] at c1 hrc
      have e1 : IntKind.i64.wrap (2 * (G : Int)) = 2 * (G : Int) := (IntWalk.i64_left _).trans (IntWalk.wrap64_in _ ⟨by omega, by omega⟩)
      have e2 : IntKind.i64.wrap (2 * (G : Int) + 2) = 2 * (G : Int) + 2 := (IntWalk.i64_left _).trans (IntWalk.wrap64_in _ ⟨by omega, by omega⟩)
      have hne0 : ((ln : Int) != 2 * (G : Int) + 2) = false := by rw [show (ln : Int) = 2 * (G : Int) + 2 by omega]; simp
      have hd1 : decide ((o1 : Int) < i) = false := decide_eq_false (by omega)
      have hd2 : decide ((R : Int) < (o1 : Int)) = false := decide_eq_false (by omega)
      have hl2 : 2 ≤ ln := by omega
      have HLW := Lib.hid (fun q => HLI.out (wr.drewN q) (hbr.trans ((below_draws wr q).mono hbr.size)))
      clear hbr hgr hLm hln
      go_upto_region 11 with (fail)
      go_quiet (first | (go_at_call 15; refine quiet_here (HLW.out _)))
      obtain ⟨W1, hW1⟩ : ∃ x, wr.drewN nq = x := ⟨_, rfl⟩
      have hb1 : Below wr.heap.size wr W1 := by rw [← hW1]; exact below_draws wr nq
      have lift1 : ∀ {a : Addr} {u : Value}, wr.cell? a = some u → W1.cell? a = some u := fun h => (hb1.cell (World.block_lt_of_cell? wr _ h)).trans h
      have HB1 := Lib.hid (HBR.out.trans (hb1.mono HBR.out.size)); have HB0 := Lib.hid hb1
      have HD3 := Lib.hid (lift1 c3)
      have HG1 : Hid (∀ k : Nat, 1 ≤ k → k ≤ G → ∃ x y : Int, W1.cell? ⟨r, 2 * k, none⟩ = some (.int .i64 x) ∧ W1.cell? ⟨r, 2 * k + 1, none⟩ = some (.int .i64 y) ∧ ((x = -1 ∧ y = -1) ∨ (i ≤ x ∧ x ≤ y ∧ y ≤ (o1 : Int)))) := Lib.hid fun k k1 k2 => by
        obtain ⟨x, y, h1, h2, h3⟩ := HG.out k k1 k2
        exact ⟨x, y, lift1 h1, lift1 h2, h3⟩
      rw [hW1]
      clear hW1 hb1 lift1 HG e1 e2 hne0 hd1 hd2 hmd c1 c2 c3 HLW
      obtain ⟨wo, rfl⟩ : ∃ W, W = wr := ⟨_, rfl⟩
      go_wp2_with fail
      go_loopw [13] (fun q wr => ∃ k : Nat, k ≤ m ∧ q = .int .i64 (k : Int) ∧ Below W1.heap.size W1 wr) (fun q _ => m - (intOf q).toNat)
      case atStart => exact ⟨0, by omega, rfl, Below.refl _ _⟩
      case round =>
        obtain ⟨k, hk, rfl, hbz⟩ := hrel
        have HBZ := Lib.hid hbz
        have lift2 : ∀ {a : Addr} {u : Value}, W1.cell? a = some u → wr.cell? a = some u := fun h => (hbz.cell (World.block_lt_of_cell? W1 _ h)).trans h
        by_cases hkm : k < m
        · have hkd : decide ((k : Int) < (m : Int)) = true := decide_eq_true (by omega)
          obtain ⟨g2, r2, rc2, o2, -, eg, c4, hrc2, hrm2, hLk, -, c5, -⟩ := HROW.out W1 HB1.out k (by omega)
          obtain rfl : g = g2 := by simpa using eg
          have hoo : o2 ≠ o1 := HDIS.out k m o2 o1 hkm hmN hLk HLM.out
          have hoe : ((o2 : Int) == (o1 : Int)) = false := beq_eq_false_iff_ne.2 (by omega)
          rw [HLN.out] at c4 hrc2
          have c4 := lift2 c4
          have c5 := lift2 c5
          have c6 := lift2 HD3.out
          have hkN : k < N := by omega
          clear hbz lift2 eg hLk hoo
          as_aux_lemma =>
            go_upto_region 16 with (fail)
            go_quiet (fail)
            go_wp2_with fail
            exact ⟨⟨k + 1, by omega, by go_num, HBZ.out.trans ((below_draws wr _).mono HBZ.out.size)⟩, by simp only [intOf]; omega⟩
        · have hkd : decide ((k : Int) < (m : Int)) = false := decide_eq_false (by omega)
          have hbz2 : Below wo.heap.size wo wr := HB0.out.trans (hbz.mono HB0.out.size)
          clear lift2 hbz
          go_wp2_with fail
          clear hkd
          obtain ⟨wz, rfl⟩ : ∃ W, W = wr := ⟨_, rfl⟩
          go_loopw [14] (fun q wr => ∃ k : Nat, 1 ≤ k ∧ k ≤ G + 1 ∧ q = .int .i64 (k : Int) ∧ Below W1.heap.size W1 wr) (fun q _ => G + 1 - (intOf q).toNat)
          case atStart => exact ⟨1, by omega, by omega, rfl, HBZ.out⟩
          case round =>
            obtain ⟨p, hp1, hp2, rfl, hby⟩ := hrel
            have HBY := Lib.hid hby
            by_cases hpG : p ≤ G
            · have hpd : decide ((p : Int) ≤ (G : Int)) = true := decide_eq_true (by omega)
              obtain ⟨x, y, e3, e4, e5⟩ := HG1.out p hp1 hpG
              have lift3 : ∀ {a : Addr} {u : Value}, W1.cell? a = some u → wr.cell? a = some u := fun h => (hby.cell (World.block_lt_of_cell? W1 _ h)).trans h
              have c7 := lift3 e3
              have c8 := lift3 e4
              have c9 := lift3 HD3.out
              have q1 : IntKind.i64.wrap (2 * (p : Int)) = 2 * (p : Int) := (IntWalk.i64_left _).trans (IntWalk.wrap64_in _ ⟨by omega, by omega⟩)
              have q2 : IntKind.i64.wrap (2 * (p : Int) + 1) = 2 * (p : Int) + 1 := (IntWalk.i64_left _).trans (IntWalk.wrap64_in _ ⟨by omega, by omega⟩)
              have hpl : 2 * p + 1 < ln := by have := HLN.out; omega
              clear lift3 e3 e4 hby
              rcases e5 with ⟨rfl, rfl⟩ | ⟨f1, f2, f3⟩
              · as_aux_lemma =>
                  go_upto_region 22 with (fail)
                  go_quiet (fail)
                  go_wp2_with fail
                  exact ⟨⟨p + 1, by omega, by omega, by go_num, HBY.out.trans ((below_draws wr _).mono HBY.out.size)⟩, by simp only [intOf]; omega⟩
              · have hx9 : (x == -1) = false := beq_eq_false_iff_ne.2 (by omega)
                have hy1 : decide (x < i) = false := decide_eq_false (by omega)
                have hy2 : decide (y < x) = false := decide_eq_false (by omega)
                have hy3 : decide ((o1 : Int) < y) = false := decide_eq_false (by omega)
                as_aux_lemma =>
                  go_upto_region 22 with (fail)
                  go_quiet (fail)
                  go_wp2_with fail
                  exact ⟨⟨p + 1, by omega, by omega, by go_num, HBY.out.trans ((below_draws wr _).mono HBY.out.size)⟩, by simp only [intOf]; omega⟩
            · have hpd : decide ((p : Int) ≤ (G : Int)) = false := decide_eq_false (by omega)
              clear hby
              as_aux_lemma =>
                go_wp2_with fail
                exact ⟨⟨m + 1, by omega, by go_num, HB1.out.trans (HBY.out.mono HB1.out.size)⟩, by simp only [intOf]; omega⟩
    · have hmd : decide ((m : Int) < (N : Int)) = false := decide_eq_false (by omega)
      have HLW := Lib.hid (HLI.out wr hbr)
      have HF := Lib.hid (HT.out.trans (hbr.mono HT.out.size))
      clear hbr
      by_cases h0 : 0 ≤ i
      · have hd0 : decide (0 ≤ i) = true := decide_eq_true h0
        by_cases h1 : i ≤ (R : Int)
        · have hd1 : decide (i ≤ (R : Int)) = true := decide_eq_true h1
          as_aux_lemma =>
            go_wp2_with fail
            refine HLW.out.mono ?_
            rintro e w' ⟨rfl, rfl⟩
            go_wp2_with fail
            go_ret
            exact ⟨rfl, HF.out⟩
        · have hd1 : decide (i ≤ (R : Int)) = false := decide_eq_false h1
          have hz : N = 0 := HNIL.out fun h => h1 h.2
          subst hz
          as_aux_lemma =>
            go_wp2_with fail
            refine HLW.out.mono ?_
            rintro e w' ⟨rfl, rfl⟩
            go_wp2_with fail
            go_ret
            exact ⟨rfl, HF.out⟩
      · have hd0 : decide (0 ≤ i) = false := decide_eq_false h0
        have hz : N = 0 := HNIL.out fun h => h0 h.1
        subst hz
        as_aux_lemma =>
          go_wp2_with fail
          go_ret
          exact ⟨rfl, HF.out⟩
end Go.Proofs.Ytnemacejaiifnaa
