/- Texts merged by program: CoHead, CoSizesL, CoGroupsL, CoSimple, CoRightL. No condition. -/
import Derived.Test.YthffdmncdoogpaaK28
import Derived.Test.YthffdmncdoogpaaK35
import Derived.Test.YthffdmncdoogpaaK8
import Derived.Test.YthffdmncdoogpaaK3
import Derived.Test.YthffdmncdoogpaaK11
import Derived.Test.YthffdmncdoogpaaK6
import Derived.Test.YthffdmncdoogpaaK18
import Derived.Test.YthffdmncdoogpaaK27
import Derived.Test.YthffdmncdoogpaaK32
set_option linter.unusedVariables false
/- The fixed question of the laws of compile. No condition. -/
namespace Go.Proofs.Ythffdmncdoogpaa
open Go Go.RowKit

def starTr : Tr := .mk (opF 7 false) [aTr]
theorem star_shaped : ShapedP starTr := by
  rw [shapedP_iff]
  refine ⟨fieldsOk_op (by omega) (by omega) (by omega) (by omega) (by omega) (by omega) (by omega) (by simp), ⟨fun _ => rfl, by simp [starTr, Tr.fld, opF], by simp [starTr, Tr.fld, opF]⟩, by simp [starTr, Tr.fld, opF], fun k hk => ?_⟩
  obtain rfl : k = aTr := by simpa [starTr, Tr.kids] using hk
  exact a_shaped
theorem star_norep : NoRep starTr := by
  rw [noRep_iff]
  refine ⟨by simp [starTr, Tr.fld, opF], fun k hk => ?_⟩
  obtain rfl : k = aTr := by simpa [starTr, Tr.kids] using hk
  rw [noRep_iff]
  exact ⟨by simp [aTr, Tr.fld, aFld], by simp [aTr, Tr.kids]⟩
theorem star_code : codeT 0 starTr 0 [⟨1, 0, 0, [], 0⟩] = (1, [⟨1, 0, 0, [], 0⟩, ⟨3, 2, 0, [], 0⟩, ⟨2, 1, 0, [(97, 97)], 0⟩]) := by
  rw [codeT_loop (k := aTr) (.inl rfl) rfl]
  unfold loopC
  rw [codeT_rune (t := aTr) rfl]
  rfl
theorem star_size : sizeT 0 starTr = 2 := by
  rw [sizeT_eq]
  have h : sizeT 0 aTr = 1 := by
    rw [sizeT_eq]
    simp [aTr, Tr.kids, Tr.fld, aFld, ownN]
  simp [starTr, Tr.kids, Tr.fld, opF, ownN, h]
theorem star_comp : compT starTr 0 = (⟨[⟨1, 0, 0, [], 0⟩, ⟨3, 2, 0, [], 0⟩, ⟨2, 1, 0, [(97, 97)], 0⟩], 1, 2⟩, 0) := by
  unfold compT
  rw [if_neg (fun h => h ⟨by omega, by omega, star_shaped, star_norep⟩), star_size, if_neg (by omega), star_code]
  rfl
theorem zero_comp : compT noTr 0 = (zeroPg, 51) := by
  unfold compT
  rw [if_pos]
  rintro ⟨-, -, h, -⟩
  obtain ⟨hf, -⟩ := (shapedP_iff noTr).1 h
  have := hf.1
  simp [noTr, Tr.fld] at this
theorem star_tre {w : World} {b : Nat} (h : CellsAt w b 0 #[.int .i64 3, .slice none 0 0, .int .i32 97, .slice none 0 0, .int .i64 0, .int .i64 0, .string ⟨#[]⟩, .int .i64 0, .int .i64 0, .bool false]) : Tre w starTr (.agg #[.int .i64 7, .slice (some ⟨b, 0, none⟩) 1 1, .int .i32 0, .slice none 0 0, .int .i64 0, .int .i64 0, .string ⟨#[]⟩, .int .i64 0, .int .i64 0, .bool false]) := by
  rw [tre_iff]
  refine ⟨_, _, rfl, nil_rgs w, ⟨⟨by decide, by decide⟩, ⟨by decide, by decide⟩, ⟨by decide, by decide⟩, ⟨by decide, by decide⟩, ⟨by decide, by decide⟩, ⟨by decide, by decide⟩, show (0 : Nat) ≤ _ by omega, show ([] : List (Int × Int)).length ≤ _ by simp⟩, some ⟨b, 0, none⟩, 1, rfl, by simp [starTr, Tr.kids], by unfold maxLen; omega, by simp [starTr, Tr.kids], by simp, .inr ⟨b, 0, rfl, trivial, fun i hi => ?_⟩⟩
  have hi' : i < 1 := hi
  obtain rfl : i = 0 := by omega
  exact ⟨_, by simpa using h, a_tre w⟩
theorem star_parts : partsR starTr ≤ 10000000000 ∧ nodesR starTr ≤ 1000000 := by
  have h : partsR starTr = 2 := by
    rw [starTr, partsS_mk, sumS_cons, a_parts]
    simp [opF, sumS]
  exact ⟨by omega, Nat.le_trans (nodesR_parts _) (by omega)⟩
theorem noTr_parts : partsR noTr ≤ 10000000000 ∧ nodesR noTr ≤ 1000000 := by
  have h : partsR noTr = 1 := by
    rw [partsR_eq]
    simp [noTr, Tr.kids, Tr.fld]
  exact ⟨by omega, Nat.le_trans (nodesR_parts _) (by omega)⟩

set_option maxHeartbeats 4000000 in
set_option maxRecDepth 100000 in
theorem head13_any (w : World) : Calls Try.prog 18 #[] w fun e w' => e = .returned (.bool true) ∧ Below w.heap.size w w' := by
  obtain ⟨w1, hw1⟩ : ∃ w1, w.alloc (.cells #[.int .i64 3, .slice none 0 0, .int .i32 97, .slice none 0 0, .int .i64 0, .int .i64 0, .string ⟨#[]⟩, .int .i64 0, .int .i64 0, .bool false] 45) = w1 := ⟨_, rfl⟩
  have hb1 : Below w.heap.size w w1 := by rw [← hw1]; exact (Below.refl _ _).alloc (Nat.le_refl _) _
  have hc1 : CellsAt w1 w.heap.size 0 #[.int .i64 3, .slice none 0 0, .int .i32 97, .slice none 0 0, .int .i64 0, .int .i64 0, .string ⟨#[]⟩, .int .i64 0, .int .i64 0, .bool false] := by rw [← hw1]; exact cellsAt_new w _ _
  have HC := Lib.hid (pcompile_any starTr star_parts.1 star_parts.2 0 (r64_small _ (by omega)) _ w1 (star_tre hc1))
  have HB1 := Lib.hid hb1; have HW1 := Lib.hid hw1
  clear hb1 hc1 hw1
  go_enter Try.func18, Try.ntmps18
  go_wp2_with fail
  rw [HW1.out]
  refine HC.out.mono ?_
  rintro e w2 ⟨v, rfl, hP, hb2⟩
  rw [star_comp] at hP ⊢
  obtain ⟨A, n, c, hn, rfl, hI, -, -, -⟩ := hP.opened
  obtain rfl : n = 3 := hn.symm
  obtain ⟨b, o, x, a, s, c2, rfl, hx, -, -, -, ⟨k0, k1, k2, k3, k4⟩, -⟩ := hI.at' 1 (by decide)
  obtain rfl : x = ⟨3, 2, 0, [], 0⟩ := hx.symm
  obtain ⟨w3, hw3⟩ : ∃ w3, w2.alloc (.cells #[.slice (some ⟨b, o, none⟩) 3 c, .int .i64 1, .int .i64 2] 24) = w3 := ⟨_, rfl⟩
  obtain ⟨hb3, e0, e1, e2, hz3⟩ := box3_new w2 _ _ _ _ hw3
  have q1 := cell_on hb3 k1
  have HB3 := Lib.hid (below_steps (below_steps HB1.out hb2) hb3)
  have HF : Hid (∀ W, Below w3.heap.size w3 W → W.cell? ⟨w2.heap.size, 0, none⟩ = some (.slice (some ⟨b, o, none⟩) 3 c) ∧ W.cell? ⟨w2.heap.size, 1, none⟩ = some (.int .i64 1) ∧ W.cell? ⟨b, o + 1 * 5 + 1, none⟩ = some (.int .i64 2)) := Lib.hid fun W hW => ⟨cell_on hW e0, cell_on hW e1, cell_on hW q1⟩
  have HC2 := Lib.hid (pcompile_any noTr noTr_parts.1 noTr_parts.2 0 (r64_small _ (by omega)) _ w3 (noTr_tre (fun _ => True) w3))
  have HW3 := Lib.hid hw3
  clear hP hn hI hx k0 k1 k2 k3 k4 hb2 hb3 hw3 e0 e1 e2 hz3 q1
  simp only
  go_upto_region 2 with (fail)
  rw [HW3.out]
  go_wp2_with fail
  refine HC2.out.mono ?_
  rintro e w4 ⟨v, rfl, hP, hb4⟩
  rw [zero_comp] at hP ⊢
  obtain ⟨A, n, c5, hn, rfl, -, -, -, -⟩ := hP.opened
  obtain ⟨w5, hw5⟩ : ∃ w5, w4.alloc (.cells #[.slice A n c5, .int .i64 0, .int .i64 0] 24) = w5 := ⟨_, rfl⟩
  have hb5 : Below w4.heap.size w4 w5 := by rw [← hw5]; exact (Below.refl _ _).alloc (Nat.le_refl _) _
  have HB5 := Lib.hid (below_steps (below_steps HB3.out hb4) hb5)
  obtain ⟨e0, e1, q1⟩ := HF.out w5 (below_steps hb4 hb5)
  have HW5 := Lib.hid hw5
  clear hP hn hb4 hb5 hw5
  simp only [zeroPg]
  go_upto_region 3 with (fail)
  rw [HW5.out]
  simp only [Nat.one_mul] at q1
  go_wp2_with fail
  go_ret
  exact ⟨rfl, HB5.out⟩
end Go.Proofs.Ythffdmncdoogpaa
/- CompileSizes. No condition. -/
namespace Go.Proofs.Ythffdmncdoogpaa
open Go Go.RowKit

/-- What a program of a tree has: so many instructions, the first one matches. -/
theorem comp_first (t : Tr) (g : Int) (h : (compT t g).2 = 0) : (0 ≤ g ∧ g ≤ 2000) ∧ ShapedP t ∧ NoRep t ∧ sizeT g t ≤ 9999 ∧ (compT t g).1 = ⟨(codeT g t 0 [⟨1, 0, 0, [], 0⟩]).2, (codeT g t 0 [⟨1, 0, 0, [], 0⟩]).1, 2 * g + 2⟩ := by
  unfold compT at h ⊢
  split at h
  · simp at h
  · rename_i h1
    split at h
    · simp at h
    · rename_i h2
      have h3 := Classical.not_not.1 h1
      refine ⟨⟨h3.1, h3.2.1⟩, h3.2.2.1, h3.2.2.2, by omega, ?_⟩
      rw [if_neg h1, if_neg h2]
theorem comp_none (t : Tr) (g : Int) (h : (compT t g).2 ≠ 0) : (compT t g).1 = zeroPg ∧ ((compT t g).2 = 51 ∨ (compT t g).2 = 2) := by
  unfold compT at h ⊢
  split
  · exact ⟨rfl, .inl rfl⟩
  · rename_i h1
    split
    · exact ⟨rfl, .inr rfl⟩
    · rename_i h2
      rw [if_neg h1, if_neg h2] at h
      exact absurd rfl h
theorem comp_len (t : Tr) (g : Int) (h : (compT t g).2 = 0) : (compT t g).1.ins.length = 1 + sizeT g t ∧ (compT t g).1.ins[0]? = some ⟨1, 0, 0, [], 0⟩ := by
  obtain ⟨hg, hs, hn, -, e⟩ := comp_first t g h
  have hok := plain_ok (g := g) hs hn
  rw [e]
  refine ⟨?_, ?_⟩
  · show (codeT g t 0 [⟨1, 0, 0, [], 0⟩]).2.length = _
    rw [hok.len]
    simp
  · show (codeT g t 0 [⟨1, 0, 0, [], 0⟩]).2[0]? = _
    rw [hok.keep _ _ _ (by simp)]
    rfl

set_option maxHeartbeats 4000000 in
set_option maxRecDepth 100000 in
theorem compileSizes_any (w : World) (g : Int) (hg : R64 g) (v : Value) (t : Tr) (h : Tre w t v) : Calls Try.prog 7 #[v, .int .i64 g] w fun e w' => e = .returned (.bool true) ∧ Below w.heap.size w w' := by
  have h0 := h
  obtain ⟨A, n, c, a2, s, c2, hn, hs, rfl, hnb, hsb, hK, hS, hF⟩ := h.opened
  obtain ⟨w1, hw1⟩ : ∃ w1, w.alloc (.cells #[.int .i64 t.fld.op, .slice A n c, .int .i32 t.fld.rune, .slice a2 s c2, .int .i64 t.fld.at', .int .i64 t.fld.cap, .string t.fld.name, .int .i64 t.fld.min, .int .i64 t.fld.max, .bool t.fld.lazy] 45) = w1 := ⟨_, rfl⟩
  have hb1 : Below w.heap.size w w1 := by rw [← hw1]; exact (Below.refl _ _).alloc (Nat.le_refl _) _
  have hE1 : Box10 w1 w.heap.size (.int .i64 t.fld.op) (.slice A n c) (.int .i32 t.fld.rune) (.slice a2 s c2) (.int .i64 t.fld.at') (.int .i64 t.fld.cap) (.string t.fld.name) (.int .i64 t.fld.min) (.int .i64 t.fld.max) (.bool t.fld.lazy) := by rw [← hw1]; exact box10_new w _ _ _ _ _ _ _ _ _ _ _
  have HW1 := Lib.hid hw1; have HT := Lib.hid hb1; have HE := Lib.hid hE1; have H0 := Lib.hid (h0.below hb1); have HG := Lib.hid hg
  obtain ⟨f, hf⟩ : ∃ f, t.fld = f := ⟨_, rfl⟩
  rw [hf] at HW1 HE H0 ⊢
  clear hb1 hE1 hw1 hK hS hn hs hF h h0 hf hg
  go_enter Try.func7, Try.ntmps7
  go_wp2_with fail
  rw [HW1.out]
  clear HW1
  go_wp2_with fail
  refine (head13_any w1).mono ?_
  rintro e w2 ⟨rfl, hb⟩
  replace H0 := Lib.hid (H0.out.below hb); replace HE := Lib.hid (HE.out.below hb)
  replace HT := Lib.hid (HT.out.trans (hb.mono HT.out.size))
  clear hb
  obtain ⟨b0, b1, b2, b3, b4, b5, b6, b7, b8, b9⟩ := HE.out
  go_wp2_with fail
  refine (parts_any 30000 (by omega) t _ w2 H0.out).mono ?_
  rintro e w3 ⟨r, rfl, hr1, hr2, hr3, hb⟩
  replace H0 := Lib.hid (H0.out.below hb); replace HE := Lib.hid (HE.out.below hb)
  replace HT := Lib.hid (HT.out.trans (hb.mono HT.out.size))
  have HR1 := Lib.hid hr1; have HR2 := Lib.hid hr2
  clear hb hr1 hr2 b0 b1 b2 b3 b4 b5 b6 b7 b8 b9
  by_cases hlt : 30000 < r
  · have hz : decide ((30000 : Int) < (r : Int)) = true := decide_eq_true (by omega)
    have hz2 : (30000 : Int) < (r : Int) := by omega
    go_wp2_with fail
    go_ret
    exact ⟨rfl, HT.out⟩
  have hz : ¬ (30000 : Int) < (r : Int) := by omega
  have hp : partsR t ≤ 30000 := by
    rcases Nat.lt_or_ge 30000 (partsR t) with h | h
    · have := HR2.out h
      omega
    · omega
  have HP := Lib.hid (show partsR t ≤ 10000000000 by omega)
  have HND := Lib.hid (show nodesR t ≤ 1000000 from Nat.le_trans (nodesR_parts t) (by omega))
  clear HR1 HR2 hlt hp
  obtain ⟨b0, b1, b2, b3, b4, b5, b6, b7, b8, b9⟩ := HE.out
  go_wp2_with fail
  refine (pweight_any t HP.out _ w3 H0.out).mono ?_
  rintro e w4 ⟨rfl, hb⟩
  replace H0 := Lib.hid (H0.out.below hb); replace HE := Lib.hid (HE.out.below hb)
  replace HT := Lib.hid (HT.out.trans (hb.mono HT.out.size))
  obtain ⟨W, hW⟩ : ∃ W, weightR t = W := ⟨_, rfl⟩
  have HWT := Lib.hid hW
  rw [hW]
  have hW9 : W ≤ 4001 := by rw [← hW, weightR_eq]; exact weightN_le _ _ _
  clear hb b0 b1 b2 b3 b4 b5 b6 b7 b8 b9 hW
  by_cases hbig : 4000 < W
  · have hz2 : (4000 : Int) < (W : Int) := by omega
    go_wp2_with fail
    go_ret
    exact ⟨rfl, HT.out⟩
  have hz2 : ¬ (4000 : Int) < (W : Int) := by omega
  have HBG := Lib.hid hbig
  clear hbig
  have HC := Lib.hid (pcompile_any t HP.out HND.out g HG.out _ w4 H0.out)
  obtain ⟨b0, b1, b2, b3, b4, b5, b6, b7, b8, b9⟩ := HE.out
  go_wp2_with fail
  refine HC.out.mono ?_
  rintro e w5 ⟨v, rfl, hP, hb⟩
  replace H0 := Lib.hid (H0.out.below hb); replace HE := Lib.hid (HE.out.below hb)
  replace HT := Lib.hid (HT.out.trans (hb.mono HT.out.size))
  obtain ⟨A5, n5, c5, hn5, rfl, hI, -, -, hn5b⟩ := hP.opened
  obtain ⟨S5, hS5⟩ : ∃ S, (compT t g).1.start = S := ⟨_, rfl⟩
  obtain ⟨K5, hK5⟩ : ∃ S, (compT t g).1.caps = S := ⟨_, rfl⟩
  obtain ⟨er, her⟩ : ∃ S, (compT t g).2 = S := ⟨_, rfl⟩
  rw [hS5, hK5, her]
  obtain ⟨w6, hw6⟩ : ∃ w6, w5.alloc (.cells #[.slice A5 n5 c5, .int .i64 S5, .int .i64 K5] 24) = w6 := ⟨_, rfl⟩
  obtain ⟨hb6, e0, e1, e2, hz6⟩ := box3_new w5 _ _ _ _ hw6
  have HW6 := Lib.hid hw6
  replace H0 := Lib.hid (H0.out.below hb6); replace HE := Lib.hid (HE.out.below hb6)
  replace HT := Lib.hid (HT.out.trans (hb6.mono HT.out.size))
  have HI := Lib.hid (hI.below hb6); have HER := Lib.hid her; have HN5 := Lib.hid hn5
  clear hP hb hb6 hz6 hw6 hI her hS5 hK5 hn5 b0 b1 b2 b3 b4 b5 b6 b7 b8 b9
  go_upto_region 5 with (fail)
  rw [HW6.out]
  by_cases h0 : er = 0
  · subst h0
    obtain ⟨hl, hf0⟩ := comp_len t g HER.out
    obtain ⟨-, hs, hn, -, -⟩ := comp_first t g HER.out
    have hwt := size_weight g t hs hn
    rw [HWT.out] at hwt
    rw [HN5.out] at hl
    have hpos : 0 < (compT t g).1.ins.length := by rw [HN5.out]; omega
    obtain ⟨b, o, x, a, s6, c6, rfl, hx, -, -, -, ⟨k0, -⟩, -⟩ := HI.out.at' 0 hpos
    have hx0 : x = ⟨1, 0, 0, [], 0⟩ := by
      rw [List.getElem?_eq_getElem hpos, hx] at hf0
      exact Option.some.inj hf0
    subst hx0
    simp only [Nat.zero_mul, Nat.add_zero] at k0
    have hle : decide ((n5 : Int) ≤ (W : Int) + 1) = true := decide_eq_true (by have := HBG.out; omega)
    have hn0 : 0 < n5 := by omega
    have hwr : IntKind.i64.wrap ((W : Int) + 1) = (W : Int) + 1 := co_wrap _ (by omega)
    have HQ : Hid (∀ w', Below w6.heap.size w6 w' → w'.cell? ⟨w5.heap.size, 0, none⟩ = some (.slice (some ⟨b, o, none⟩) n5 c5) ∧ w'.cell? ⟨b, o, none⟩ = some (.int .i64 1)) := Lib.hid fun w' hw' => ⟨cell_on hw' e0, cell_on hw' k0⟩
    have HWC : Hid (∀ w', Below w6.heap.size w6 w' → Calls Try.prog 24 #[.agg #[.int .i64 f.op, .slice A n c, .int .i32 f.rune, .slice a2 s c2, .int .i64 f.at', .int .i64 f.cap, .string f.name, .int .i64 f.min, .int .i64 f.max, .bool f.lazy]] w' (SaysN W w')) := Lib.hid fun w' hw' => by
      rw [← HWT.out]
      exact pweight_any t HP.out _ w' (H0.out.below hw')
    obtain ⟨b0, b1, b2, b3, b4, b5, b6, b7, b8, b9⟩ := HE.out
    clear hl hf0 hs hn hwt hpos hx
    go_region_law (first | (go_simp; refine (HWC.out _ ?hb).mono ?_; (case hb => first | exact Below.refl _ _ | exact (Below.refl _ _).drew | exact below_draws _ _); rintro e w7 ⟨rfl, hb7⟩; have hb67 : Below w6.heap.size w6 w7 := (by first | exact hb7 | exact below_of_drew hb7); obtain ⟨z0, z1⟩ := HQ.out w7 hb67; have HB67 := Lib.hid hb67; clear hb7 hb67))
    all_goals
      go_wp2_with fail
      go_ret
      exact ⟨rfl, HT.out.trans (HB67.out.mono HT.out.size)⟩
  · have hne : (er != 0) = true := by simpa using h0
    have hne2 : ¬ er = 0 := h0
    obtain ⟨b0, b1, b2, b3, b4, b5, b6, b7, b8, b9⟩ := HE.out
    go_big_quiet (fail)
    go_wp2_with fail
    go_ret
    exact ⟨rfl, HT.out.trans ((below_draws w6 _).mono HT.out.size)⟩
end Go.Proofs.Ythffdmncdoogpaa
/- CompileGroups. No condition. -/
namespace Go.Proofs.Ythffdmncdoogpaa
open Go Go.RowKit

theorem groups_cap (t : Tr) : ShapedP t → ∀ y ∈ groupsT t, 1 ≤ y.fld.cap := by
  refine Tr.ind (P := fun t => ShapedP t → ∀ y ∈ groupsT t, 1 ≤ y.fld.cap) (fun t ih hs y hy => ?_) t
  obtain ⟨-, -, hc, hks⟩ := (shapedP_iff t).1 hs
  rw [groupsT_eq, List.mem_append] at hy
  rcases hy with hy | hy
  · split at hy
    · rename_i h6
      obtain rfl : y = t := by simpa using hy
      have : ¬ y.fld.cap < 1 := fun e => hc ⟨h6, e⟩
      omega
    · cases hy
  · obtain ⟨l, hl, hy⟩ := List.mem_flatten.1 hy
    obtain ⟨k, hk, rfl⟩ := List.mem_map.1 hl
    exact ih k hk (hks k hk) y hy
/-- The places that a program keeps are those of groups that are asked for. -/
theorem comp_caps (t : Tr) (g : Int) (h : (compT t g).2 = 0) : ∀ x ∈ (compT t g).1.ins, x.op = 4 → x.arg.tdiv 2 ≤ g ∧ (∃ y ∈ groupsT t, y.fld.cap = x.arg.tdiv 2) ∧ 0 ≤ x.arg.tdiv 2 ∧ x.arg.tdiv 2 ≤ 2000 := by
  obtain ⟨hg, hs, hn, h9, e⟩ := comp_first t g h
  have hok := code_ok g 100000000000 (fun x => x.op = 4 → x.arg.tdiv 2 ≤ g ∧ (∃ y ∈ groupsT t, y.fld.cap = x.arg.tdiv 2) ∧ 0 ≤ x.arg.tdiv 2 ∧ x.arg.tdiv 2 ≤ 2000) t hs hn ⟨by simp, fun _ _ _ _ _ => by simp, fun _ _ _ _ => by simp, fun _ _ _ _ => by simp, fun k _ y hy hc => ?_⟩
  · rw [e]
    exact (hok.all 0 [⟨1, 0, 0, [], 0⟩] (by omega) (by simp only [List.length_singleton]; omega) (by simp)).2
  · have hy1 : 1 ≤ y.fld.cap := groups_cap t hs y hy
    have q1 : (2 * y.fld.cap).tdiv 2 = y.fld.cap := by rw [Int.tdiv_eq_ediv_of_nonneg (by omega)]; omega
    have q2 : (2 * y.fld.cap + 1).tdiv 2 = y.fld.cap := by rw [Int.tdiv_eq_ediv_of_nonneg (by omega)]; omega
    simp only [q1, q2]
    exact ⟨fun _ => ⟨hc, ⟨y, hy, rfl⟩, by omega, by omega⟩, fun _ => ⟨hc, ⟨y, hy, rfl⟩, by omega, by omega⟩⟩

set_option maxHeartbeats 4000000 in
set_option maxRecDepth 100000 in
theorem compileGroups_any (w : World) (g : Int) (hg : R64 g) (v : Value) (t : Tr) (h : Tre w t v) : Calls Try.prog 6 #[v, .int .i64 g] w fun e w' => e = .returned (.bool true) ∧ Below w.heap.size w w' := by
  have h0 := h
  obtain ⟨A, n, c, a2, s, c2, hn, hs, rfl, hnb, hsb, hK, hS, hF⟩ := h.opened
  obtain ⟨w1, hw1⟩ : ∃ w1, w.alloc (.cells #[.int .i64 t.fld.op, .slice A n c, .int .i32 t.fld.rune, .slice a2 s c2, .int .i64 t.fld.at', .int .i64 t.fld.cap, .string t.fld.name, .int .i64 t.fld.min, .int .i64 t.fld.max, .bool t.fld.lazy] 45) = w1 := ⟨_, rfl⟩
  have hb1 : Below w.heap.size w w1 := by rw [← hw1]; exact (Below.refl _ _).alloc (Nat.le_refl _) _
  have hE1 : Box10 w1 w.heap.size (.int .i64 t.fld.op) (.slice A n c) (.int .i32 t.fld.rune) (.slice a2 s c2) (.int .i64 t.fld.at') (.int .i64 t.fld.cap) (.string t.fld.name) (.int .i64 t.fld.min) (.int .i64 t.fld.max) (.bool t.fld.lazy) := by rw [← hw1]; exact box10_new w _ _ _ _ _ _ _ _ _ _ _
  have HW1 := Lib.hid hw1; have HT := Lib.hid hb1; have HE := Lib.hid hE1; have H0 := Lib.hid (h0.below hb1); have HG := Lib.hid hg
  obtain ⟨f, hf⟩ : ∃ f, t.fld = f := ⟨_, rfl⟩
  rw [hf] at HW1 HE H0 ⊢
  clear hb1 hE1 hw1 hK hS hn hs hF h h0 hf hg
  go_enter Try.func6, Try.ntmps6
  go_wp2_with fail
  rw [HW1.out]
  clear HW1
  go_wp2_with fail
  refine (head13_any w1).mono ?_
  rintro e w2 ⟨rfl, hb⟩
  replace H0 := Lib.hid (H0.out.below hb); replace HE := Lib.hid (HE.out.below hb)
  replace HT := Lib.hid (HT.out.trans (hb.mono HT.out.size))
  clear hb
  obtain ⟨b0, b1, b2, b3, b4, b5, b6, b7, b8, b9⟩ := HE.out
  go_wp2_with fail
  refine (parts_any 30000 (by omega) t _ w2 H0.out).mono ?_
  rintro e w3 ⟨r, rfl, hr1, hr2, hr3, hb⟩
  replace H0 := Lib.hid (H0.out.below hb); replace HE := Lib.hid (HE.out.below hb)
  replace HT := Lib.hid (HT.out.trans (hb.mono HT.out.size))
  have HR1 := Lib.hid hr1; have HR2 := Lib.hid hr2
  clear hb hr1 hr2 b0 b1 b2 b3 b4 b5 b6 b7 b8 b9
  by_cases hlt : 30000 < r
  · have hz : decide ((30000 : Int) < (r : Int)) = true := decide_eq_true (by omega)
    have hz2 : (30000 : Int) < (r : Int) := by omega
    go_wp2_with fail
    go_ret
    exact ⟨rfl, HT.out⟩
  have hz : ¬ (30000 : Int) < (r : Int) := by omega
  have hp : partsR t ≤ 30000 := by
    rcases Nat.lt_or_ge 30000 (partsR t) with h | h
    · have := HR2.out h
      omega
    · omega
  have HP := Lib.hid (show partsR t ≤ 10000000000 by omega)
  have HND := Lib.hid (show nodesR t ≤ 1000000 from Nat.le_trans (nodesR_parts t) (by omega))
  clear HR1 HR2 hlt hp
  have HC := Lib.hid (pcompile_any t HP.out HND.out g HG.out _ w3 H0.out)
  obtain ⟨b0, b1, b2, b3, b4, b5, b6, b7, b8, b9⟩ := HE.out
  go_wp2_with fail
  refine HC.out.mono ?_
  rintro e w5 ⟨v, rfl, hP, hb⟩
  replace H0 := Lib.hid (H0.out.below hb); replace HE := Lib.hid (HE.out.below hb)
  replace HT := Lib.hid (HT.out.trans (hb.mono HT.out.size))
  obtain ⟨A5, n5, c5, hn5, rfl, hI, -, -, hn5b⟩ := hP.opened
  obtain ⟨S5, hS5⟩ : ∃ S, (compT t g).1.start = S := ⟨_, rfl⟩
  obtain ⟨K5, hK5⟩ : ∃ S, (compT t g).1.caps = S := ⟨_, rfl⟩
  obtain ⟨er, her⟩ : ∃ S, (compT t g).2 = S := ⟨_, rfl⟩
  rw [hS5, hK5, her]
  obtain ⟨w6, hw6⟩ : ∃ w6, w5.alloc (.cells #[.slice A5 n5 c5, .int .i64 S5, .int .i64 K5] 24) = w6 := ⟨_, rfl⟩
  obtain ⟨hb6, e0, e1, e2, hz6⟩ := box3_new w5 _ _ _ _ hw6
  have HW6 := Lib.hid hw6
  replace H0 := Lib.hid (H0.out.below hb6); replace HE := Lib.hid (HE.out.below hb6)
  replace HT := Lib.hid (HT.out.trans (hb6.mono HT.out.size))
  have HI := Lib.hid (hI.below hb6); have HER := Lib.hid her; have HN5 := Lib.hid hn5; have HK5 := Lib.hid hK5
  clear hP hb hb6 hz6 hw6 hI her hS5 hK5 hn5 b0 b1 b2 b3 b4 b5 b6 b7 b8 b9
  by_cases h0 : er = 0
  rotate_left
  · have hne : (er != 0) = true := by simpa using h0
    have hne2 : ¬ er = 0 := h0
    go_upto_region 5 with (fail)
    rw [HW6.out]
    go_wp2_with fail
    go_ret
    exact ⟨rfl, HT.out⟩
  subst h0
  have hc := comp_caps t g HER.out
  obtain ⟨-, hs, -, -, hcp⟩ := comp_first t g HER.out
  have HCAP := Lib.hid hc
  have hK5' : K5 = 2 * g + 2 := by rw [← HK5.out, hcp]
  subst hK5'
  have hgb : 0 ≤ g ∧ g ≤ 2000 := (comp_first t g HER.out).1
  have HGR := Lib.hid (groups_any t HP.out (fun b => b < w6.heap.size) _ w6 (fun b h => h) H0.out.foot)
  have hGL : (groupsT t).length ≤ 1172812402961 := Nat.le_trans (groupsT_len t) (by have := HP.out; omega)
  have HGL := Lib.hid hGL
  obtain ⟨b0, b1, b2, b3, b4, b5, b6, b7, b8, b9⟩ := HE.out
  clear hc hs hcp hGL
  go_upto_region 5 with (fail)
  rw [HW6.out]
  go_wp2_with fail
  refine HGR.out.mono ?_
  rintro e w7 ⟨v7, rfl, ho7, hb7⟩
  have hK7 := ho7.kds HGL.out
  obtain ⟨A7, n7, c7, rfl⟩ : ∃ a n c, v7 = .slice a n c := ho7.slice
  have hn7 : n7 = (groupsT t).length := by
    obtain ⟨A', c', e, -⟩ := hK7
    injection e
  have HK7 := Lib.hid hK7; have HN7 := Lib.hid hn7
  replace HT := Lib.hid (HT.out.trans (hb7.mono HT.out.size))
  have HI7 := Lib.hid (HI.out.below hb7)
  have HF7 : Hid (∀ W, Below w7.heap.size w7 W → W.cell? ⟨w5.heap.size, 0, none⟩ = some (.slice A5 n5 c5) ∧ W.cell? ⟨w5.heap.size, 2, none⟩ = some (.int .i64 (2 * g + 2))) := Lib.hid fun W hW => ⟨cell_on hW (cell_on hb7 e0), cell_on hW (cell_on hb7 e2)⟩
  have hnb7 : n7 ≤ 1172812402961 := by rw [hn7]; exact HGL.out
  clear ho7 hb7 hK7 hn7 e0 e1 e2 b0 b1 b2 b3 b4 b5 b6 b7 b8 b9
  have hw1 : IntKind.i64.wrap (2 * g) = 2 * g := co_wrap _ (by omega)
  have hw2 : IntKind.i64.wrap (2 * g + 2) = 2 * g + 2 := co_wrap _ (by omega)
  go_wp2_with fail
  go_loopw [9] (fun i wr => ∃ k : Nat, k ≤ n5 ∧ i = .int .i64 k ∧ Below w7.heap.size w7 wr) (fun i _ => n5 - (intOf i).toNat)
  case atStart => exact ⟨0, Nat.zero_le _, rfl, Below.refl _ _⟩
  case round =>
    obtain ⟨k, hk, rfl, hB⟩ := hrel
    obtain ⟨wo, rfl⟩ : ∃ W, W = wr := ⟨_, rfl⟩
    have HB := Lib.hid hB
    obtain ⟨z0, z2⟩ := HF7.out wo hB
    by_cases hkn : k < n5
    · have hkl : k < (compT t g).1.ins.length := by rw [HN5.out]; exact hkn
      obtain ⟨b, o, x, a, s6, c6, rfl, hx, hm, -, -, ⟨k0, k1, k2, k3, k4⟩, -⟩ := (HI7.out.below hB).at' k hkl
      have HXM := Lib.hid (HCAP.out x hm)
      obtain ⟨w8, hw8⟩ : ∃ W, wo.alloc (.cells #[.int .i64 x.op, .int .i64 x.out, .int .i64 x.arg, .slice a s6 c6, .int .i64 x.at'] 39) = W := ⟨_, rfl⟩
      obtain ⟨hb8, ⟨x0, x1, x2, x3, x4⟩, hs8⟩ := box5_new wo _ _ _ _ _ _ hw8
      have HB8 := Lib.hid (below_steps hB hb8)
      have HW8 := Lib.hid hw8
      clear hB hkl hx hm hw8 hb8 hs8
      go_upto_region 12 with (fail)
      rw [HW8.out]
      obtain ⟨z0', z2'⟩ := HF7.out w8 HB8.out
      clear k0 k1 k2 k3 k4 z0 z2
      obtain ⟨op, hop⟩ : ∃ op, x.op = op := ⟨_, rfl⟩
      rw [hop] at x0
      by_cases h4 : op = 4
      · subst h4
        have hcap := HXM.out hop
        obtain ⟨q, hq⟩ : ∃ q, x.arg.tdiv 2 = q := ⟨_, rfl⟩
        have hwq : IntKind.i64.wrap (x.arg.tdiv 2) = q := by rw [hq]; exact co_wrap _ (by omega)
        rw [hq] at hcap
        obtain ⟨hq1, hq2, hq3, hq4⟩ := hcap
        have HQ2 := Lib.hid hq2
        have HQ := Lib.hid hq
        clear hop hq2
        go_wp2_with fail
        go_loopw [11, 12] (fun th i wy => ∃ (m : Nat) (B : Bool), m ≤ n7 ∧ i = .int .i64 m ∧ th = .bool B ∧ Below w8.heap.size w8 wy ∧ (B = true ↔ ∃ j, j < m ∧ ∃ y, (groupsT t)[j]? = some y ∧ y.fld.cap = q)) (fun _ i _ => n7 - (intOf i).toNat)
        case atStart => exact ⟨0, false, Nat.zero_le _, rfl, rfl, Below.refl _ _, by simp⟩
        case round =>
          obtain ⟨m, B, hm, rfl, rfl, hBy, hBq⟩ := hrel
          obtain ⟨wy, rfl⟩ : ∃ W, W = wr := ⟨_, rfl⟩
          have HBY := Lib.hid hBy; have HBQ := Lib.hid hBq
          by_cases hmn : m < n7
          · have hml : m < (groupsT t).length := by rw [← HN7.out]; exact hmn
            obtain ⟨gb, go', tk, kv, sv, rfl, htk, -, ⟨-, -, -, -, -, d5, -, -, -, -⟩, -⟩ := (HK7.out.below (below_steps HB8.out hBy)).kid m hml
            have a2 : wy.cell? ⟨wo.heap.size, 2, none⟩ = some (.int .i64 x.arg) := cell_on hBy x2
            have HTK := Lib.hid (show (groupsT t)[m]? = some tk by rw [List.getElem?_eq_getElem hml, htk])
            obtain ⟨cp, hcp⟩ : ∃ cp, tk.fld.cap = cp := ⟨_, rfl⟩
            rw [hcp] at d5
            have HCP := Lib.hid hcp
            clear hBy hBq hml htk hcp
            go_upto_region 17 with (fail)
            cases B
            · obtain ⟨D, hD⟩ : ∃ D, (cp == q) = D := ⟨_, rfl⟩
              have HD := Lib.hid hD
              go_big_quiet (fail)
              go_wp2_with fail
              go_roundw
              case rel =>
                refine ⟨m + 1, D, by omega, by go_num, rfl, HBY.out.trans ((below_draws _ _).mono HBY.out.size), ?_⟩
                have h1 := HBQ.out
                have h2 := HD.out
                constructor
                · intro h
                  subst h
                  exact ⟨m, by omega, tk, HTK.out, by rw [HCP.out]; simpa using h2⟩
                · rintro ⟨j, hj, y, hy, hyq⟩
                  by_cases hjm : j < m
                  · have := h1.2 ⟨j, hjm, y, hy, hyq⟩
                    cases this
                  · obtain rfl : j = m := by omega
                    rw [HTK.out] at hy
                    obtain rfl := Option.some.inj hy
                    rw [← h2, ← HCP.out, hyq]
                    simp
              case measure => simp [intOf]; omega
            · go_big_quiet (fail)
              go_wp2_with fail
              go_roundw
              case rel =>
                refine ⟨m + 1, true, by omega, by go_num, rfl, HBY.out.trans ((below_draws _ _).mono HBY.out.size), ⟨fun _ => ?_, fun _ => rfl⟩⟩
                obtain ⟨j, hj, h⟩ := HBQ.out.1 rfl
                exact ⟨j, by omega, h⟩
              case measure => simp [intOf]; omega
          · obtain rfl : m = n7 := by omega
            have hBt : B = true := hBq.2 (by
              obtain ⟨y, hy, hyq⟩ := HQ2.out
              obtain ⟨j, hj, rfl⟩ := List.mem_iff_getElem.1 hy
              exact ⟨j, by rw [HN7.out]; exact hj, _, List.getElem?_eq_getElem hj, hyq⟩)
            subst hBt
            have a2 : wy.cell? ⟨wo.heap.size, 2, none⟩ = some (.int .i64 x.arg) := cell_on hBy x2
            have hqg : decide (g < q) = false := decide_eq_false (by omega)
            have hqg2 : ¬ g < q := by omega
            have HBZ := Lib.hid (below_steps HB8.out hBy)
            clear hBy hBq
            go_wp2_with fail
            go_roundw
            case rel => exact ⟨k + 1, by omega, by go_num, HBZ.out⟩
            case measure => simp [intOf]; omega
      · have n4 : (op != 4) = true := by simpa using h4
        have n4' : ¬ op = 4 := h4
        clear hop
        go_wp2_with fail
        go_roundw
        case rel => exact ⟨k + 1, by omega, by go_num, HB8.out⟩
        case measure => simp [intOf]; omega
    · obtain rfl : k = n5 := by omega
      have HBF := Lib.hid (HT.out.trans (hB.mono HT.out.size))
      clear hB
      go_wp2_with fail
      go_ret
      exact ⟨rfl, HBF.out⟩
end Go.Proofs.Ythffdmncdoogpaa
/- How great the program of a plain tree is; each program is right. No condition. -/
namespace Go.Proofs.Ythffdmncdoogpaa

/-- A program of a tree is right. -/
theorem comp_right (t : Tr) (g : Int) (h : (compT t g).2 = 0) : RightPg (compT t g).1 := by
  obtain ⟨hg, hs, hn, h9, e⟩ := comp_first t g h
  obtain ⟨hl, -⟩ := comp_len t g h
  have hok := code_ok g (1 + sizeT g t) (SoundI (1 + sizeT g t) (2 * g + 2)) t hs hn
    ⟨.inl ⟨.inr rfl, rfl, rfl, rfl, rfl⟩, fun k s hk hr hne => .inr (.inl ⟨rfl, ⟨by simp only; omega, by simp only; omega⟩, rfl, ⟨hne, hr⟩, rfl⟩),
      fun k a hk ha => .inr (.inr (.inr (.inr ⟨rfl, ⟨by simp only; omega, by simp only; omega⟩, rfl, rfl, ha⟩))),
      fun a b ha hb => .inr (.inr (.inl ⟨rfl, ⟨by simp only; omega, by simp only; omega⟩, ⟨by simp only; omega, by simp only; omega⟩, rfl, rfl⟩)),
      fun k hk y hy hc => by
        have h1 := groups_cap t hs y hy
        exact ⟨.inr (.inr (.inr (.inl ⟨rfl, ⟨by simp only; omega, by simp only; omega⟩, ⟨by simp only; omega, by simp only; omega⟩, rfl, rfl⟩))), .inr (.inr (.inr (.inl ⟨rfl, ⟨by simp only; omega, by simp only; omega⟩, ⟨by simp only; omega, by simp only; omega⟩, rfl, rfl⟩)))⟩⟩
  have hall := hok.all 0 [⟨1, 0, 0, [], 0⟩] (by omega) (by simp only [List.length_singleton]; omega) (fun x hx => by
    obtain rfl : x = ⟨1, 0, 0, [], 0⟩ := by simpa using hx
    exact .inl ⟨.inl rfl, rfl, rfl, rfl, rfl⟩)
  unfold RightPg
  rw [hl]
  refine ⟨by omega, by omega, ?_, ?_, ?_, ?_, ?_⟩
  · rw [e]
    exact ⟨by simp only; omega, by have := hall.1; simp only; omega⟩
  · rw [e]; simp only; omega
  · rw [e]; simp only; omega
  · rw [e]; simp only; omega
  · rw [e]
    exact hall.2

def sumZ (g : Int) (l : List Tr) : Nat := (l.map (sizeT g)).sum
def sumNd (l : List Tr) : Nat := (l.map nodesR).sum
theorem sumZ_cons (g : Int) (x : Tr) (l : List Tr) : sumZ g (x :: l) = sizeT g x + sumZ g l := by simp [sumZ]
theorem sumNd_cons (x : Tr) (l : List Tr) : sumNd (x :: l) = nodesR x + sumNd l := by simp [sumNd]
theorem sumZ_app (g : Int) (a b : List Tr) : sumZ g (a ++ b) = sumZ g a + sumZ g b := by simp [sumZ]
theorem sumNd_app (a b : List Tr) : sumNd (a ++ b) = sumNd a + sumNd b := by simp [sumNd]
theorem sumZ_mem (g : Int) {x : Tr} : ∀ {l : List Tr}, x ∈ l → sizeT g x ≤ sumZ g l
  | y :: l, h => by
    rw [sumZ_cons]
    rcases List.mem_cons.1 h with rfl | h
    · omega
    · have := sumZ_mem g h
      omega
theorem sumNd_mem {x : Tr} : ∀ {l : List Tr}, x ∈ l → nodesR x ≤ sumNd l
  | y :: l, h => by
    rw [sumNd_cons]
    rcases List.mem_cons.1 h with rfl | h
    · omega
    · have := sumNd_mem h
      omega
theorem size_mk (g : Int) (f : Fld) (l : List Tr) : sizeT g (.mk f l) = ownN g f l.length + sumZ g l := sizeT_eq g _
theorem nodes_mk (f : Fld) (l : List Tr) : nodesR (.mk f l) = 1 + sumNd l := nodesR_eq _
theorem size_eq' (g : Int) (t : Tr) : sizeT g t = ownN g t.fld t.kids.length + sumZ g t.kids := sizeT_eq g _
theorem nodes_eq' (t : Tr) : nodesR t = 1 + sumNd t.kids := nodesR_eq _
theorem splice_few (g : Int) (x : Tr) : sumZ g (spliceT x) ≤ sizeT g x ∧ sumNd (spliceT x) ≤ nodesR x := by
  unfold spliceT
  rw [size_eq' g x, nodes_eq' x]
  split
  · exact ⟨by simp [sumZ], by simp [sumNd]⟩
  · split
    · exact ⟨by omega, by omega⟩
    · rw [sumZ_cons, sumNd_cons, size_eq' g x, nodes_eq' x]
      exact ⟨by simp [sumZ], by simp [sumNd]⟩
theorem spliced_few (g : Int) : ∀ l : List Tr, sumZ g (spliced l) ≤ sumZ g l ∧ sumNd (spliced l) ≤ sumNd l
  | [] => ⟨by simp [spliced, sumZ], by simp [spliced, sumNd]⟩
  | x :: l => by
    have h := splice_few g x
    have ih := spliced_few g l
    have e : spliced (x :: l) = spliceT x ++ spliced l := rfl
    rw [e, sumZ_app, sumNd_app, sumZ_cons, sumNd_cons]
    omega
theorem cat_few (g : Int) (l : List Tr) : sizeT g (catT l) ≤ sumZ g l ∧ nodesR (catT l) ≤ 1 + sumNd l := by
  match l with
  | [] => exact ⟨by show sizeT g (.mk _ _) ≤ _; rw [size_mk]; simp [ownN, opF, sumZ], by show nodesR (.mk _ _) ≤ _; rw [nodes_mk]; simp⟩
  | [x] => exact ⟨by show sizeT g x ≤ _; rw [sumZ_cons]; omega, by show nodesR x ≤ _; rw [sumNd_cons]; omega⟩
  | x :: y :: l => exact ⟨by show sizeT g (.mk _ _) ≤ _; rw [size_mk]; simp [ownN, opF], by show nodesR (.mk _ _) ≤ _; rw [nodes_mk]; omega⟩
theorem none_mem : ∀ {l : List Tr} {x : Tr}, firstNone l = some x → x ∈ l
  | y :: l, x, h => by
    unfold firstNone at h
    split at h
    · obtain rfl := Option.some.inj h
      simp
    · exact List.mem_cons_of_mem _ (none_mem h)
theorem joined_few (g : Int) (l : List Tr) : sizeT g (joinedT l) ≤ sumZ g l ∧ nodesR (joinedT l) ≤ 1 + sumNd l := by
  unfold joinedT
  rcases h : firstNone l with _ | x
  · have h1 := cat_few g (spliced l)
    have h2 := spliced_few g l
    simp only [Option.getD_none]
    omega
  · have h1 := none_mem h
    have h2 := sumZ_mem g h1
    have h3 := sumNd_mem h1
    simp only [Option.getD_some]
    omega
theorem looped_few (g : Int) (f : Fld) (hf : f.op = 7 ∨ f.op = 8 ∨ f.op = 9) (x : Tr) : sizeT g (loopedT f x) ≤ 1 + sizeT g x ∧ nodesR (loopedT f x) ≤ 1 + nodesR x := by
  have he : sizeT g emptyT = 0 ∧ nodesR emptyT = 1 := ⟨by show sizeT g (.mk _ _) = _; rw [size_mk]; simp [ownN, opF, sumZ], by show nodesR (.mk _ _) = _; rw [nodes_mk]; simp [sumNd]⟩
  have hm : sizeT g (.mk f [x]) = 1 + sizeT g x ∧ nodesR (.mk f [x]) = 1 + nodesR x := ⟨by
    rw [size_mk]
    unfold ownN
    rw [if_neg (by omega), if_neg (by omega), if_neg (by omega)]
    simp [sumZ], by rw [nodes_mk]; simp [sumNd]⟩
  unfold loopedT
  repeat' split
  all_goals omega
theorem rest_few (g : Int) (z : Bool) (x : Tr) : ∀ n, sizeT g (restT z x n) ≤ (n + 1) * (sizeT g x + 1) ∧ nodesR (restT z x n) ≤ (n + 1) * (nodesR x + 2)
  | 0 => by
    have h := looped_few g (opF 9 z) (.inr (.inr rfl)) x
    show sizeT g (loopedT _ _) ≤ _ ∧ nodesR (loopedT _ _) ≤ _
    omega
  | n + 1 => by
    have h := looped_few g (opF 9 z) (.inr (.inr rfl)) (joinedT [x, restT z x n])
    have h2 := joined_few g [x, restT z x n]
    have ih := rest_few g z x n
    rw [sumZ_cons, sumZ_cons, sumNd_cons, sumNd_cons] at h2
    have e1 : sumZ g [] = 0 := rfl
    have e2 : sumNd [] = 0 := rfl
    have m1 : (n + 1 + 1) * (sizeT g x + 1) = (n + 1) * (sizeT g x + 1) + (sizeT g x + 1) := Nat.succ_mul _ _
    have m2 : (n + 1 + 1) * (nodesR x + 2) = (n + 1) * (nodesR x + 2) + (nodesR x + 2) := Nat.succ_mul _ _
    show sizeT g (loopedT _ _) ≤ _ ∧ nodesR (loopedT _ _) ≤ _
    rw [m1, m2]
    omega
theorem sumZ_rep (g : Int) (n : Nat) (x : Tr) : sumZ g (List.replicate n x) = n * sizeT g x ∧ sumNd (List.replicate n x) = n * nodesR x := by
  simp [sumZ, sumNd, List.map_replicate, List.sum_replicate_nat]
/-- A counted repeat, k times at most. -/
theorem repeated_few (g : Int) (f : Fld) (x : Tr) (k : Nat) (h0 : 0 ≤ f.min) (hk1 : 1 ≤ k) (hkm : f.min ≤ k) (hkM : f.max ≤ k) (hm : f.max = -1 ∨ f.min ≤ f.max) :
    sizeT g (repeatedT f x) ≤ k * sizeT g x + k + 1 ∧ nodesR (repeatedT f x) ≤ k * nodesR x + 2 * k + 2 := by
  have hx1 : sizeT g x ≤ k * sizeT g x := Nat.le_mul_of_pos_left _ hk1
  have hx2 : nodesR x ≤ k * nodesR x := Nat.le_mul_of_pos_left _ hk1
  unfold repeatedT
  split
  · have h := looped_few g (opF 7 f.lazy) (.inl rfl) x
    omega
  · split
    · rename_i h1 h2
      have h3 : 1 ≤ f.min := by omega
      have h := joined_few g (List.replicate (f.min - 1).toNat x ++ [loopedT (opF 8 f.lazy) x])
      have hl := looped_few g (opF 8 f.lazy) (.inr (.inl rfl)) x
      rw [sumZ_app, sumNd_app, (sumZ_rep g _ x).1, (sumZ_rep g _ x).2, sumZ_cons, sumNd_cons] at h
      have e1 : sumZ g [] = 0 := rfl
      have e2 : sumNd [] = 0 := rfl
      obtain ⟨m, hm'⟩ : ∃ m : Nat, (f.min - 1).toNat = m := ⟨_, rfl⟩
      rw [hm'] at h ⊢
      have hmk : m + 1 ≤ k := by omega
      have q1 : (m + 1) * sizeT g x ≤ k * sizeT g x := Nat.mul_le_mul_right _ hmk
      have q2 : (m + 1) * nodesR x ≤ k * nodesR x := Nat.mul_le_mul_right _ hmk
      rw [Nat.succ_mul] at q1 q2
      omega
    · split
      · rename_i h1 h2 h3
        have h := joined_few g (List.replicate f.min.toNat x)
        rw [(sumZ_rep g _ x).1, (sumZ_rep g _ x).2] at h
        obtain ⟨m, hm'⟩ : ∃ m : Nat, f.min.toNat = m := ⟨_, rfl⟩
        rw [hm'] at h ⊢
        have q1 : m * sizeT g x ≤ k * sizeT g x := Nat.mul_le_mul_right _ (by omega)
        have q2 : m * nodesR x ≤ k * nodesR x := Nat.mul_le_mul_right _ (by omega)
        omega
      · rename_i h1 h2 h3
        have h := joined_few g (List.replicate f.min.toNat x ++ [restT f.lazy x ((f.max - f.min).toNat - 1)])
        have hr := rest_few g f.lazy x ((f.max - f.min).toNat - 1)
        rw [sumZ_app, sumNd_app, (sumZ_rep g _ x).1, (sumZ_rep g _ x).2, sumZ_cons, sumNd_cons] at h
        have e1 : sumZ g [] = 0 := rfl
        have e2 : sumNd [] = 0 := rfl
        obtain ⟨m, hm'⟩ : ∃ m : Nat, f.min.toNat = m := ⟨_, rfl⟩
        obtain ⟨d, hd⟩ : ∃ d : Nat, (f.max - f.min).toNat = d := ⟨_, rfl⟩
        have hd1 : 1 ≤ d := by omega
        rw [hm', hd] at h
        rw [hd, Nat.sub_add_cancel hd1] at hr
        rw [hm', hd]
        have hmd : m + d ≤ k := by omega
        have q1 : (m + d) * sizeT g x ≤ k * sizeT g x := Nat.mul_le_mul_right _ hmd
        have q2 : (m + d) * nodesR x ≤ k * nodesR x := Nat.mul_le_mul_right _ hmd
        rw [Nat.add_mul] at q1 q2
        have r1 : d * (sizeT g x + 1) = d * sizeT g x + d := by rw [Nat.mul_add, Nat.mul_one]
        have r2 : d * (nodesR x + 2) = d * nodesR x + 2 * d := by rw [Nat.mul_add]; omega
        omega
theorem filter_few (g : Int) (p : Tr → Bool) : ∀ l : List Tr, sumZ g (l.filter p) ≤ sumZ g l ∧ sumNd (l.filter p) ≤ sumNd l ∧ (l.filter p).length ≤ l.length
  | [] => ⟨Nat.le_refl _, Nat.le_refl _, Nat.le_refl _⟩
  | x :: l => by
    have ih := filter_few g p l
    rw [List.filter_cons]
    split
    · rw [sumZ_cons, sumNd_cons, sumZ_cons, sumNd_cons, List.length_cons, List.length_cons]
      omega
    · rw [sumZ_cons, sumNd_cons, List.length_cons]
      omega
theorem alt_few (g : Int) (f : Fld) (hf : f.op = 12) (l : List Tr) (n : Nat) (hn : l.length ≤ n) (h1 : 1 ≤ n) : sizeT g (altT f l) ≤ sumZ g l + n ∧ nodesR (altT f l) ≤ 1 + sumNd l := by
  match l with
  | [] => exact ⟨by show sizeT g (.mk _ _) ≤ _; rw [size_mk]; simp [ownN, opF, sumZ]; omega, by show nodesR (.mk _ _) ≤ _; rw [nodes_mk]; omega⟩
  | [x] => exact ⟨by show sizeT g x ≤ _; rw [sumZ_cons]; omega, by show nodesR x ≤ _; rw [sumNd_cons]; omega⟩
  | x :: y :: l =>
    refine ⟨?_, by show nodesR (.mk _ _) ≤ _; rw [nodes_mk]; omega⟩
    show sizeT g (.mk f _) ≤ _
    rw [size_mk]
    unfold ownN
    rw [if_neg (by omega), if_neg (by omega), if_pos hf]
    omega
/-- The plain tree of a tree that is not too heavy has no more instructions than that is heavy. -/
theorem simple_great (g : Int) (t : Tr) : ShapedP t → weightR t ≤ 4000 → sizeT g (simpleT t) ≤ weightR t ∧ nodesR (simpleT t) ≤ 2 * weightR t := by
  refine Tr.ind (P := fun t => ShapedP t → weightR t ≤ 4000 → sizeT g (simpleT t) ≤ weightR t ∧ nodesR (simpleT t) ≤ 2 * weightR t) (fun t ih hs hw => ?_) t
  obtain ⟨hf, hk, -, hks⟩ := (shapedP_iff t).1 hs
  have hkw := kid_weight t hs hw
  have hsum : ∀ l : List Tr, (∀ k ∈ l, sizeT g (simpleT k) ≤ weightR k ∧ nodesR (simpleT k) ≤ 2 * weightR k) → sumZ g (l.map simpleT) ≤ (l.map weightR).sum ∧ sumNd (l.map simpleT) ≤ 2 * (l.map weightR).sum := by
    intro l
    induction l with
    | nil => intro _; exact ⟨by simp [sumZ], by simp [sumNd]⟩
    | cons x l ih =>
      intro h
      have h1 := h x (by simp)
      have h2 := ih fun k hk => h k (by simp [hk])
      rw [List.map_cons, sumZ_cons, sumNd_cons, List.map_cons, List.sum_cons]
      omega
  have hS := hsum t.kids fun k hk => ih k hk (hks k hk) (kid_one t hs hw k hk)
  have hlen : (t.kids.map simpleT).length = t.kids.length := List.length_map _
  have hwe := weightR_eq t
  rw [simpleT_eq]
  generalize (t.kids.map weightR).sum = S at *
  have hone : t.kids.length = 1 → ∃ x, t.kids.map simpleT = [x] ∧ sizeT g x ≤ S ∧ nodesR x ≤ 2 * S := fun h1 => by
    obtain ⟨x, hx⟩ := one_kid (l := t.kids.map simpleT) (by rw [hlen]; exact h1)
    rw [hx, sumZ_cons, sumNd_cons] at hS
    exact ⟨x, hx, by omega, by omega⟩
  have f1 := hf.1
  have f2 := hf.2.1
  have f13 := hf.2.2.2.2.2.2.2.2.2.2.2.2
  unfold madeT
  unfold weightN at hwe
  by_cases h6 : t.fld.op = 6
  · rw [if_pos h6]
    rw [if_pos h6] at hwe
    unfold clipR at hwe
    obtain ⟨x, hx, hz, hd⟩ := hone (hk.1 (.inl h6))
    clear hone
    rw [hx, List.headD_cons]
    split
    · omega
    · rw [size_mk, nodes_mk, sumZ_cons, sumNd_cons]
      have e1 : sumZ g [] = 0 := rfl
      have e2 : sumNd [] = 0 := rfl
      have ho : ownN g t.fld [x].length ≤ 2 := by
        unfold ownN
        rw [if_neg (by omega), if_pos h6]
        split <;> omega
      omega
  rw [if_neg h6]
  rw [if_neg h6] at hwe
  by_cases h7 : t.fld.op = 7 ∨ t.fld.op = 8 ∨ t.fld.op = 9
  · rw [if_pos h7]
    rw [if_pos (by omega)] at hwe
    unfold clipR at hwe
    have h1k := hk.1 (by clear hone; omega)
    obtain ⟨x, hx, hz, hd⟩ := hone h1k
    clear hone
    rw [hx, List.headD_cons]
    have h := looped_few g t.fld h7 x
    omega
  rw [if_neg h7]
  by_cases h10 : t.fld.op = 10
  · rw [if_pos h10]
    rw [if_neg (by omega), if_pos h10] at hwe
    have h1k := hk.1 (by clear hone; omega)
    obtain ⟨x, hx, hz, hd⟩ := hone h1k
    clear hone
    rw [hx, List.headD_cons]
    obtain ⟨⟨m0, m1⟩, mm⟩ := f13 h10
    obtain ⟨k, hkk⟩ : ∃ k : Nat, (max (max t.fld.min t.fld.max) 1).toNat = k := ⟨_, rfl⟩
    have hk1 : 1 ≤ k := by omega
    have hk9 : k ≤ 1000 := by omega
    rw [hkk] at hwe
    have hck : clipR k = k := by unfold clipR; omega
    have hcs : clipR S = S := by unfold clipR; omega
    rw [hck, hcs] at hwe
    have h := repeated_few g t.fld x k m0 hk1 (by omega) (by omega) (by omega)
    have q1 : k * sizeT g x ≤ k * S := Nat.mul_le_mul_left _ hz
    have q2 : k * nodesR x ≤ k * (2 * S) := Nat.mul_le_mul_left _ hd
    have q3 : k * (2 * S) = 2 * (k * S) := by rw [Nat.mul_left_comm]
    unfold clipR at hwe
    omega
  clear hone
  rw [if_neg h10]
  by_cases h11 : t.fld.op = 11
  · rw [if_pos h11]
    rw [if_pos (by omega)] at hwe
    unfold clipR at hwe
    have h := joined_few g (t.kids.map simpleT)
    omega
  rw [if_neg h11]
  rw [if_neg (by omega), if_neg h10] at hwe
  by_cases h12 : t.fld.op = 12
  · rw [if_pos h12]
    rw [if_pos h12] at hwe
    unfold clipR at hwe
    have hl := hk.2.1 h12
    have h1 := filter_few g (fun k => k.fld.op != 1) (t.kids.map simpleT)
    have h := alt_few g t.fld h12 ((t.kids.map simpleT).filter fun k => k.fld.op != 1) t.kids.length (by omega) hl
    omega
  · rw [if_neg h12]
    rw [if_neg h12] at hwe
    have h0 : t.kids = [] := List.eq_nil_of_length_eq_zero (by have := hk.2.2; omega)
    rw [size_mk, nodes_mk, h0]
    have ho : ownN g t.fld (([] : List Tr).map simpleT).length ≤ 1 := by
      unfold ownN
      repeat' split
      all_goals first | omega | simp
    have e1 : sumZ g (([] : List Tr).map simpleT) = 0 := rfl
    have e2 : sumNd (([] : List Tr).map simpleT) = 0 := rfl
    omega
theorem plain_norep (t : Tr) : PlainT t → NoRep t := by
  refine Tr.ind (P := fun t => PlainT t → NoRep t) (fun t ih h => ?_) t
  obtain ⟨h1, h2⟩ := (plainT_iff t).1 h
  exact (noRep_iff t).2 ⟨h1.1, fun k hk => ih k hk (h2 k hk)⟩
/-- Of a right tree, made plain, there is a program. -/
theorem simple_comp (t : Tr) (h : RightT t) (g : Int) (hg : 0 ≤ g ∧ g ≤ 2000) : (compT (simpleT t) g).2 = 0 := by
  obtain ⟨-, hw, hs, -⟩ := h
  obtain ⟨g1, g2⟩ := simple_good t hs
  have hz := simple_great g t hs hw
  unfold compT
  rw [if_neg (fun h => h ⟨hg.1, hg.2, g1, plain_norep _ g2⟩), if_neg (by omega)]
end Go.Proofs.Ythffdmncdoogpaa
/- CompileRight. No condition. -/
namespace Go.Proofs.Ythffdmncdoogpaa
open Go Go.RowKit

set_option maxHeartbeats 4000000 in
set_option maxRecDepth 100000 in
theorem compileRight_any (w : World) (g : Int) (hg : R64 g) (v : Value) (t : Tr) (h : Tre w t v) : Calls Try.prog 5 #[v, .int .i64 g] w fun e w' => e = .returned (.bool true) ∧ Below w.heap.size w w' := by
  have h0 := h
  obtain ⟨A, n, c, a2, s, c2, hn, hs, rfl, hnb, hsb, hK, hS, hF⟩ := h.opened
  obtain ⟨w1, hw1⟩ : ∃ w1, w.alloc (.cells #[.int .i64 t.fld.op, .slice A n c, .int .i32 t.fld.rune, .slice a2 s c2, .int .i64 t.fld.at', .int .i64 t.fld.cap, .string t.fld.name, .int .i64 t.fld.min, .int .i64 t.fld.max, .bool t.fld.lazy] 45) = w1 := ⟨_, rfl⟩
  have hb1 : Below w.heap.size w w1 := by rw [← hw1]; exact (Below.refl _ _).alloc (Nat.le_refl _) _
  have hE1 : Box10 w1 w.heap.size (.int .i64 t.fld.op) (.slice A n c) (.int .i32 t.fld.rune) (.slice a2 s c2) (.int .i64 t.fld.at') (.int .i64 t.fld.cap) (.string t.fld.name) (.int .i64 t.fld.min) (.int .i64 t.fld.max) (.bool t.fld.lazy) := by rw [← hw1]; exact box10_new w _ _ _ _ _ _ _ _ _ _ _
  have HW1 := Lib.hid hw1; have HT := Lib.hid hb1; have HE := Lib.hid hE1; have H0 := Lib.hid (h0.below hb1); have HG := Lib.hid hg
  obtain ⟨f, hf⟩ : ∃ f, t.fld = f := ⟨_, rfl⟩
  rw [hf] at HW1 HE H0 ⊢
  clear hb1 hE1 hw1 hK hS hn hs hF h h0 hf hg
  go_enter Try.func5, Try.ntmps5
  go_wp2_with fail
  rw [HW1.out]
  clear HW1
  go_wp2_with fail
  refine (head13_any w1).mono ?_
  rintro e w2 ⟨rfl, hb⟩
  replace H0 := Lib.hid (H0.out.below hb); replace HE := Lib.hid (HE.out.below hb)
  replace HT := Lib.hid (HT.out.trans (hb.mono HT.out.size))
  clear hb
  obtain ⟨b0, b1, b2, b3, b4, b5, b6, b7, b8, b9⟩ := HE.out
  go_wp2_with fail
  refine (parts_any 30000 (by omega) t _ w2 H0.out).mono ?_
  rintro e w3 ⟨r, rfl, hr1, hr2, hr3, hb⟩
  replace H0 := Lib.hid (H0.out.below hb); replace HE := Lib.hid (HE.out.below hb)
  replace HT := Lib.hid (HT.out.trans (hb.mono HT.out.size))
  have HR1 := Lib.hid hr1; have HR2 := Lib.hid hr2
  clear hb hr1 hr2 b0 b1 b2 b3 b4 b5 b6 b7 b8 b9
  by_cases hlt : 30000 < r
  · have hz : decide ((30000 : Int) < (r : Int)) = true := decide_eq_true (by omega)
    have hz2 : (30000 : Int) < (r : Int) := by omega
    go_wp2_with fail
    go_ret
    exact ⟨rfl, HT.out⟩
  have hz : ¬ (30000 : Int) < (r : Int) := by omega
  have hp : partsR t ≤ 30000 := by
    rcases Nat.lt_or_ge 30000 (partsR t) with h | h
    · have := HR2.out h
      omega
    · omega
  have HP := Lib.hid (show partsR t ≤ 10000000000 by omega)
  have HND := Lib.hid (show nodesR t ≤ 1000000 from Nat.le_trans (nodesR_parts t) (by omega))
  clear HR1 HR2 hlt hp
  have HC := Lib.hid (pcompile_any t HP.out HND.out g HG.out _ w3 H0.out)
  obtain ⟨b0, b1, b2, b3, b4, b5, b6, b7, b8, b9⟩ := HE.out
  go_wp2_with fail
  refine HC.out.mono ?_
  rintro e w5 ⟨v, rfl, hP, hb⟩
  replace H0 := Lib.hid (H0.out.below hb); replace HE := Lib.hid (HE.out.below hb)
  replace HT := Lib.hid (HT.out.trans (hb.mono HT.out.size))
  obtain ⟨A5, n5, c5, hn5, rfl, hI, -, -, hn5b⟩ := hP.opened
  obtain ⟨S5, hS5⟩ : ∃ S, (compT t g).1.start = S := ⟨_, rfl⟩
  obtain ⟨K5, hK5⟩ : ∃ S, (compT t g).1.caps = S := ⟨_, rfl⟩
  obtain ⟨er, her⟩ : ∃ S, (compT t g).2 = S := ⟨_, rfl⟩
  have hP' := hP
  rw [hS5, hK5] at hP'
  rw [hS5, hK5, her]
  obtain ⟨w6, hw6⟩ : ∃ w6, w5.alloc (.cells #[.slice A5 n5 c5, .int .i64 S5, .int .i64 K5] 24) = w6 := ⟨_, rfl⟩
  obtain ⟨hb6, e0, e1, e2, hz6⟩ := box3_new w5 _ _ _ _ hw6
  have HW6 := Lib.hid hw6
  replace H0 := Lib.hid (H0.out.below hb6); replace HE := Lib.hid (HE.out.below hb6)
  replace HT := Lib.hid (HT.out.trans (hb6.mono HT.out.size))
  have HPG := Lib.hid (hP'.below hb6)
  have HI := Lib.hid (hI.below hb6); have HER := Lib.hid her; have HN5 := Lib.hid hn5; have HK5 := Lib.hid hK5
  clear hP hP' hb hb6 hz6 hw6 hI her hS5 hK5 hn5 b0 b1 b2 b3 b4 b5 b6 b7 b8 b9
  have HCK := Lib.hid (pcheck_any _ _ w6 HPG.out)
  obtain ⟨b0, b1, b2, b3, b4, b5, b6, b7, b8, b9⟩ := HE.out
  go_upto_region 5 with (fail)
  rw [HW6.out]
  by_cases h0 : er = 0
  · subst h0
    have hr5 := comp_right t g HER.out
    have HR5 := Lib.hid hr5
    clear hr5
    go_wp2_with fail
    refine HCK.out.mono ?_
    rintro e w7 ⟨rk, rfl, hrk, hb7⟩
    obtain rfl : rk = 0 := by
      rcases hrk with ⟨h, -⟩ | ⟨-, h⟩
      · exact h
      · exact absurd HR5.out h
    replace H0 := Lib.hid (H0.out.below hb7); replace HE := Lib.hid (HE.out.below hb7)
    replace HT := Lib.hid (HT.out.trans (hb7.mono HT.out.size))
    clear hrk hb7 e0 e1 e2 b0 b1 b2 b3 b4 b5 b6 b7 b8 b9
    obtain ⟨b0, b1, b2, b3, b4, b5, b6, b7, b8, b9⟩ := HE.out
    go_wp2_with fail
    refine (pright_any t HP.out _ w7 H0.out).mono ?_
    rintro e w8 ⟨B, rfl, hq, hb⟩
    have hEt := HE.out.below hb
    have HT8 := Lib.hid (HT.out.trans (hb.mono HT.out.size)); have HQ := Lib.hid hq; have H08 := Lib.hid (H0.out.below hb)
    clear hb hq b0 b1 b2 b3 b4 b5 b6 b7 b8 b9
    obtain ⟨b0, b1, b2, b3, b4, b5, b6, b7, b8, b9⟩ := hEt
    cases B
    · clear HQ
      go_wp2_with fail
      go_ret
      exact ⟨rfl, HT8.out⟩
    have HRT : Hid (RightT t) := Lib.hid (HQ.out.1 rfl)
    clear HQ
    by_cases hlo : g < 0
    · have d1 : decide (g < 0) = true := decide_eq_true hlo
      clear hlo
      go_wp2_with fail
      go_ret
      exact ⟨rfl, HT8.out⟩
    have d1 : decide (g < 0) = false := decide_eq_false hlo
    by_cases hhi : 2000 < g
    · have d2 : decide (2000 < g) = true := decide_eq_true hhi
      clear hlo hhi
      go_wp2_with fail
      go_ret
      exact ⟨rfl, HT8.out⟩
    have d2 : decide (2000 < g) = false := decide_eq_false hhi
    have HGB := Lib.hid (show 0 ≤ g ∧ g ≤ 2000 from ⟨by omega, by omega⟩)
    clear hlo hhi
    have HSM := Lib.hid (smSimpleTop_any t HP.out (fun b => b < w8.heap.size) _ w8 (fun b h => h) H08.out.foot)
    go_wp2_with fail
    refine HSM.out.mono ?_
    rintro e w9 ⟨T, hpo, v9, rfl, ht9, hb9⟩
    have hTs : T = simpleT t := by
      rcases hpo with ⟨-, h⟩ | ⟨h, -⟩
      · exact h
      · exact absurd HRT.out h
    have hT9 := ht9.tre
    obtain ⟨kv9, sv9, rfl, ⟨m1, m2, m3, rfl⟩, ⟨p1, p2, p3, rfl⟩⟩ := ht9.ten
    have HC9 := Lib.hid (pcompile_any T (by rw [hTs]; exact simple_few HRT.out) (by rw [hTs]; have h := (simple_great 0 t HRT.out.2.2.1 HRT.out.2.1).2; have h2 := HRT.out.2.1; omega) g HG.out _ w9 hT9)
    have HER9 := Lib.hid (show (compT T g).2 = 0 by rw [hTs]; exact simple_comp t HRT.out g HGB.out)
    have HT9 := Lib.hid (HT8.out.trans (hb9.mono HT8.out.size))
    clear hpo hTs hT9 ht9 hb9 b0 b1 b2 b3 b4 b5 b6 b7 b8 b9
    obtain ⟨tf, htf⟩ : ∃ tf, T.fld = tf := ⟨_, rfl⟩
    rw [htf] at HC9 ⊢
    clear htf
    go_wp2_with fail
    refine HC9.out.mono ?_
    rintro e wa ⟨va, rfl, hPa, hba⟩
    obtain ⟨Aa, na, ca, hna, rfl, -, -, -, -⟩ := hPa.opened
    obtain ⟨Sa, hSa⟩ : ∃ S, (compT T g).1.start = S := ⟨_, rfl⟩
    obtain ⟨Ka, hKa⟩ : ∃ S, (compT T g).1.caps = S := ⟨_, rfl⟩
    rw [hSa, hKa] at hPa
    rw [hSa, hKa, HER9.out]
    obtain ⟨wb, hwb⟩ : ∃ wb, wa.alloc (.cells #[.slice Aa na ca, .int .i64 Sa, .int .i64 Ka] 24) = wb := ⟨_, rfl⟩
    obtain ⟨hbb, y0, y1, y2, hzb⟩ := box3_new wa _ _ _ _ hwb
    have HWB := Lib.hid hwb
    have HTB := Lib.hid (HT9.out.trans ((below_steps hba hbb).mono HT9.out.size))
    have HCB := Lib.hid (pcheck_any _ _ wb (hPa.below hbb))
    have HRB := Lib.hid (comp_right T g HER9.out)
    clear hPa hba hna hSa hKa hwb hbb hzb
    go_upto_region 10 with (fail)
    rw [HWB.out]
    go_wp2_with fail
    refine HCB.out.mono ?_
    rintro e wc ⟨rc, rfl, hrc, hbc⟩
    obtain rfl : rc = 0 := by
      rcases hrc with ⟨h, -⟩ | ⟨-, h⟩
      · exact h
      · exact absurd HRB.out h
    have HTC := Lib.hid (HTB.out.trans (hbc.mono HTB.out.size))
    clear hrc hbc y0 y1 y2
    go_wp2_with fail
    go_ret
    exact ⟨rfl, HTC.out⟩
  · have hne : (er != 0) = true := by simpa using h0
    have hne2 : ¬ er = 0 := h0
    have hz0 : n5 = 0 := by
      rw [← HN5.out, (comp_none t g (by rw [HER.out]; exact h0)).1]
      rfl
    subst hz0
    go_wp2_with fail
    refine (pright_any t HP.out _ w6 H0.out).mono ?_
    rintro e w8 ⟨B, rfl, hq, hb⟩
    have hEt := HE.out.below hb
    have HT8 := Lib.hid (HT.out.trans (hb.mono HT.out.size)); have HQ := Lib.hid hq; have H08 := Lib.hid (H0.out.below hb)
    clear hb hq b0 b1 b2 b3 b4 b5 b6 b7 b8 b9
    obtain ⟨b0, b1, b2, b3, b4, b5, b6, b7, b8, b9⟩ := hEt
    cases B
    · clear HQ
      go_wp2_with fail
      go_ret
      exact ⟨rfl, HT8.out⟩
    have HRT : Hid (RightT t) := Lib.hid (HQ.out.1 rfl)
    clear HQ
    by_cases hlo : g < 0
    · have d1 : decide (g < 0) = true := decide_eq_true hlo
      clear hlo
      go_wp2_with fail
      go_ret
      exact ⟨rfl, HT8.out⟩
    have d1 : decide (g < 0) = false := decide_eq_false hlo
    by_cases hhi : 2000 < g
    · have d2 : decide (2000 < g) = true := decide_eq_true hhi
      clear hlo hhi
      go_wp2_with fail
      go_ret
      exact ⟨rfl, HT8.out⟩
    have d2 : decide (2000 < g) = false := decide_eq_false hhi
    have HGB := Lib.hid (show 0 ≤ g ∧ g ≤ 2000 from ⟨by omega, by omega⟩)
    clear hlo hhi
    have HSM := Lib.hid (smSimpleTop_any t HP.out (fun b => b < w8.heap.size) _ w8 (fun b h => h) H08.out.foot)
    go_wp2_with fail
    refine HSM.out.mono ?_
    rintro e w9 ⟨T, hpo, v9, rfl, ht9, hb9⟩
    have hTs : T = simpleT t := by
      rcases hpo with ⟨-, h⟩ | ⟨h, -⟩
      · exact h
      · exact absurd HRT.out h
    have hT9 := ht9.tre
    obtain ⟨kv9, sv9, rfl, ⟨m1, m2, m3, rfl⟩, ⟨p1, p2, p3, rfl⟩⟩ := ht9.ten
    have HC9 := Lib.hid (pcompile_any T (by rw [hTs]; exact simple_few HRT.out) (by rw [hTs]; have h := (simple_great 0 t HRT.out.2.2.1 HRT.out.2.1).2; have h2 := HRT.out.2.1; omega) g HG.out _ w9 hT9)
    have HER9 := Lib.hid (show (compT T g).2 = 0 by rw [hTs]; exact simple_comp t HRT.out g HGB.out)
    have HT9 := Lib.hid (HT8.out.trans (hb9.mono HT8.out.size))
    clear hpo hTs hT9 ht9 hb9 b0 b1 b2 b3 b4 b5 b6 b7 b8 b9
    obtain ⟨tf, htf⟩ : ∃ tf, T.fld = tf := ⟨_, rfl⟩
    rw [htf] at HC9 ⊢
    clear htf
    go_wp2_with fail
    refine HC9.out.mono ?_
    rintro e wa ⟨va, rfl, hPa, hba⟩
    obtain ⟨Aa, na, ca, hna, rfl, -, -, -, -⟩ := hPa.opened
    obtain ⟨Sa, hSa⟩ : ∃ S, (compT T g).1.start = S := ⟨_, rfl⟩
    obtain ⟨Ka, hKa⟩ : ∃ S, (compT T g).1.caps = S := ⟨_, rfl⟩
    rw [hSa, hKa] at hPa
    rw [hSa, hKa, HER9.out]
    obtain ⟨wb, hwb⟩ : ∃ wb, wa.alloc (.cells #[.slice Aa na ca, .int .i64 Sa, .int .i64 Ka] 24) = wb := ⟨_, rfl⟩
    obtain ⟨hbb, y0, y1, y2, hzb⟩ := box3_new wa _ _ _ _ hwb
    have HWB := Lib.hid hwb
    have HTB := Lib.hid (HT9.out.trans ((below_steps hba hbb).mono HT9.out.size))
    have HCB := Lib.hid (pcheck_any _ _ wb (hPa.below hbb))
    have HRB := Lib.hid (comp_right T g HER9.out)
    clear hPa hba hna hSa hKa hwb hbb hzb
    go_upto_region 10 with (fail)
    rw [HWB.out]
    go_wp2_with fail
    refine HCB.out.mono ?_
    rintro e wc ⟨rc, rfl, hrc, hbc⟩
    obtain rfl : rc = 0 := by
      rcases hrc with ⟨h, -⟩ | ⟨-, h⟩
      · exact h
      · exact absurd HRB.out h
    have HTC := Lib.hid (HTB.out.trans (hbc.mono HTB.out.size))
    clear hrc hbc y0 y1 y2
    go_wp2_with fail
    go_ret
    exact ⟨rfl, HTC.out⟩
end Go.Proofs.Ythffdmncdoogpaa
