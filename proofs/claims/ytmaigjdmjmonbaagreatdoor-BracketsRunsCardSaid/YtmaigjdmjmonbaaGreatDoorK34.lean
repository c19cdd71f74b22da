/- Texts merged by program: PbClass, PbTabs, BrLaws, BrTurned. No condition. -/
import Derived.Test.YtmaigjdmjmonbaaGreatDoorK27
import Derived.Test.YtmaigjdmjmonbaaGreatDoorK29
import Derived.Test.YtmaigjdmjmonbaaGreatDoorK30
import Derived.Test.YtmaigjdmjmonbaaGreatDoorK15
import Derived.Test.YtmaigjdmjmonbaaGreatDoorK33
import Derived.Test.YtmaigjdmjmonbaaGreatDoorK19
import Derived.Test.YtmaigjdmjmonbaaGreatDoorK10
set_option linter.unusedVariables false
/- The program's Class: as the document says. -/
namespace Go.Proofs.YtmaigjdmjmonbaaGreatDoor
open Go Go.RowKit

theorem third_cell (w : World) (a b : Obj) (c : Array Value) (t : TypeId) : Whole (((w.alloc a).alloc b).alloc (.cells c t)) (w.heap.size + 1 + 1) t c := by
  have h := heap_alloc_new ((w.alloc a).alloc b) (.cells c t)
  rw [World.size_alloc, World.size_alloc] at h
  exact h

set_option maxHeartbeats 6400000 in
set_option maxRecDepth 100000 in
theorem pclass_any (s : ByteArray) (i : Nat) (f : Int) (w : World) (hs : s.size ≤ 900000) (hi : i ≤ s.size) (hT : Lib.Utf8Tabs 3 4 w) (hT0 : TabsT w) :
    Calls Tryz.prog 8 #[.string s, .int .i64 i, .int .i64 f] w (ClassPost (classS s i (flagB f 32)) (flagB f 1) (notB s i) w) := by
  obtain ⟨p, hp⟩ : ∃ p, (bits .and .i64 f 32 != 0) = p := ⟨_, rfl⟩
  obtain ⟨fo, hfo⟩ : ∃ p, (bits .and .i64 f 1 != 0) = p := ⟨_, rfl⟩
  rw [show flagB f 32 = p from hp, show flagB f 1 = fo from hfo]
  have hs' : s.size ≤ 4503599627370496 := by omega
  have hmf : ∀ (fn : Fn) (first cap : Array Value) (w : World), (Instr.makeFunc fn first cap).run Tryz.prog w = .ok (.func fn first cap) w := fun _ _ _ _ => rfl
  obtain ⟨w3, hw3⟩ : ∃ w3, ((w.alloc (.cells #[.string s] 9)).alloc (.cells #[.int .i64 i] 3)).alloc (.cells #[.int .i64 0, .int .i64 0, .int .i64 0] 27) = w3 := ⟨_, rfl⟩
  have hb3 : Below w.heap.size w w3 := by rw [← hw3]; exact (((Below.refl _ w).alloc (Nat.le_refl _) _).alloc (by simp) _).alloc (by simp; omega) _
  have hz3 : w3.heap.size = w.heap.size + 1 + 1 + 1 := by rw [← hw3]; simp
  have hE0 : Whole w3 w.heap.size 9 #[.string s] := by rw [← hw3]; exact Whole.alloc (Whole.alloc (heap_alloc_new w _) _) _
  have hE1 : Whole w3 (w.heap.size + 1) 3 #[.int .i64 i] := by rw [← hw3]; exact Whole.alloc (second_new w _ _ _) _
  have hE2 : Whole w3 (w.heap.size + 1 + 1) 27 #[.int .i64 0, .int .i64 0, .int .i64 0] := by rw [← hw3]; exact third_cell w _ _ _ _
  have HW3 := Lib.hid hw3; have HB3 := Lib.hid hb3; have HZ3 := Lib.hid hz3; have HE0 := Lib.hid hE0; have HE1 := Lib.hid hE1; have HE2 := Lib.hid hE2; have HT := Lib.hid hT; have HT0 := Lib.hid hT0
  clear hw3 hb3 hz3 hE0 hE1 hE2 hT hT0
  go_enter_defers Tryz.func8, Tryz.ntmps8
  go_wp2_with fail
  rw [HW3.out]
  refine (pbAt_any s i w3 hs' hi).mono ?_
  rintro e w4 ⟨rfl, hb4⟩
  obtain ⟨q, hq⟩ : ∃ q, w4.heap.size = q := ⟨_, rfl⟩
  obtain ⟨w5, hw5⟩ : ∃ w5, w4.alloc (.cells #[.string s, .int .i64 i, .bool p, .slice none 0 0] 50) = w5 := ⟨_, rfl⟩
  have hB3 : w3.heap.size ≤ q := by rw [← hq]; exact hb4.size
  have HW5 := Lib.hid hw5; have HQ := Lib.hid hq; have HBQ := Lib.hid hB3
  have HR5 := Lib.hid (show RdSt w5 w3.heap.size q p s (.slice none 0 0) [] i from ⟨by rw [← hw5, ← hq]; exact heap_alloc_new w4 _, own_none _ _⟩)
  have HB5 := Lib.hid (show Below w3.heap.size w3 w5 by rw [← hw5]; exact hb4.alloc hb4.size _)
  clear hb4 hw5 hq hB3
  go_upto_region 3 with (fail)
  rw [HW5.out, HQ.out]
  clear HW5 HQ
  have hpre : preB (⟨#[91]⟩ : ByteArray).toList (leftB s i) = decide (headI (leftB s i) = 91) := by
    rw [show (⟨#[91]⟩ : ByteArray).toList = [91] by kernel_rfl]
    exact pre_one 91 s i
  by_cases h91 : headI (leftB s i) = 91
  rotate_left
  · have HT1 := Lib.hid (pbTake_no q _ _ s ⟨#[91]⟩ i w5 hs' (by decide) hi HR5.out.rd (hpre.trans (decide_eq_false h91)))
    have HC := Lib.hid (show classS s i p = .bad 1 i i by unfold classS; rw [if_pos h91])
    clear hpre h91
    go_wp2_with fail
    refine HT1.out.mono ?_
    rintro e w6 ⟨rfl, ht⟩
    have HB6 := Lib.hid (ht.below HB5.out HB5.out.size HBQ.out)
    have HF0 := Lib.hid (HE0.out.below HB6.out HE0.out.lt); have HF1 := Lib.hid (HE1.out.below HB6.out HE1.out.lt); have HF2 := Lib.hid (HE2.out.below HB6.out HE2.out.lt)
    clear ht
    have e1 : w6.cell? ⟨w.heap.size + 1, 0, none⟩ = some (.int .i64 i) := HF1.out.cell 0
    obtain ⟨g0, g1, g2, m0, m1, m2⟩ := HF2.out.three
    go_wp2_with fail
    go_region
    go_wp2_with fail
    refine leaves_cons (f := 18) (args := #[.pointer (some ⟨w.heap.size + 1 + 1, 0, none⟩), .pointer (some ⟨w.heap.size + 1, 0, none⟩), .pointer (some ⟨w.heap.size, 0, none⟩)]) (by simp) (by simp [go_sem]) ?_
    refine (catch_idle _ _ _ _).mono ?_
    rintro e u' w'' ⟨rfl, rfl, rfl⟩
    refine ⟨_, results_ttw Tryz.results8 _ rfl (Whole.drew (set3_whole HF2.out _ _ _)) rfl, ?_⟩
    unfold ClassPost
    rw [HC.out]
    exact ⟨Below.drew (set3_below (HB3.out.trans (HB6.out.mono HB3.out.size)) (by omega) _ _ _), rfl⟩
  · have HT1 := Lib.hid (pbTake_yes q _ _ s ⟨#[91]⟩ i w5 hs' (by decide) hi HR5.out.rd (hpre.trans (decide_eq_true h91)))
    have hlt := head_in (s := s) (i := i) (by omega)
    have hcl : classS s i p = itemsS s i p (s.size + 1) (i + 1 + (if notB s i then 1 else 0)) true [] := by
      unfold classS
      rw [if_neg (fun h => h h91)]
    have hpre2 : preB (⟨#[94]⟩ : ByteArray).toList (leftB s (i + 1)) = notB s i := by
      rw [show (⟨#[94]⟩ : ByteArray).toList = [94] by kernel_rfl]
      exact pre_one 94 s (i + 1)
    have hjn : i + 1 + (if notB s i then 1 else 0) ≤ s.size := by
      by_cases h : notB s i = true
      · rw [if_pos h]
        have := head_in (s := s) (i := i + 1) (by have := of_decide_eq_true h; omega)
        omega
      · rw [if_neg h]
        omega
    obtain ⟨nb, hnb⟩ : ∃ nb, notB s i = nb := ⟨_, rfl⟩
    rw [hnb] at hcl hpre2 hjn
    have HNB := Lib.hid hnb
    have HTN := fun W hr => (pbTake_any q 50 [.bool p, .slice none 0 0] s ⟨#[94]⟩ (i + 1) W hs' (by decide) (by omega) hr).mono (fun e w' ⟨b, hb, he, ht⟩ => show e = Ending.returned (.bool nb) ∧ Took q 50 [.bool p, .slice none 0 0] s (i + 1 + (if nb then 1 else 0)) W w' by
      have hbn : b = nb := hb.symm.trans hpre2
      subst hbn
      refine ⟨he, ?_⟩
      cases b
      · exact ht
      · exact ht)
    have HTN := Lib.hid HTN
    obtain ⟨j, hj⟩ : ∃ j, i + 1 + (if nb then 1 else 0) = j := ⟨_, rfl⟩
    rw [hj] at hcl hjn HTN
    have HC := Lib.hid hcl; have HJ := Lib.hid hjn
    clear hpre h91 hlt hcl hpre2 hjn hnb hj
    go_wp2_with fail
    refine HT1.out.mono ?_
    rintro e w6 ⟨rfl, ht⟩
    have HR6 := Lib.hid (HR5.out.took ht); have HB6 := Lib.hid (ht.below HB5.out HB5.out.size HBQ.out)
    clear ht
    go_wp2_with fail
    refine (HTN.out w6 HR6.out.rd).mono ?_
    rintro e w7 ⟨rfl, ht⟩
    have HR7 := Lib.hid (HR6.out.took ht); have HB7 := Lib.hid (ht.below HB6.out HB6.out.size HBQ.out)
    clear ht
    have HIT := Lib.hid (pbItems_any w3.heap.size q p s i j w7 hs HJ.out HR7.out HB7.out.size HBQ.out (fun W hb => Utf8Tabs_below HT.out (HB3.out.trans ((HB7.out.trans hb).mono HB3.out.size))))
    obtain ⟨R, hR⟩ : ∃ R, itemsS s i p (s.size + 1) j true [] = R := ⟨_, rfl⟩
    rw [hR] at HIT HC
    clear hR
    go_wp2_with fail
    refine HIT.out.mono ?_
    rintro e w8 ⟨hb8, hres⟩
    have HB8 := Lib.hid (HB7.out.trans hb8)
    have HG2 := Lib.hid (HE2.out.below HB8.out HE2.out.lt)
    have HG1 := Lib.hid (HE1.out.below HB8.out HE1.out.lt)
    have HG0 := Lib.hid (HE0.out.below HB8.out HE0.out.lt)
    clear hb8 HIT HTN HT1
    cases R with
    | bad c a b =>
      obtain ⟨V, he, hV⟩ := hres
      unfold thrown at he
      subst he
      go_wp2_with fail
      refine leaves_cons (f := 18) (args := #[.pointer (some ⟨w.heap.size + 1 + 1, 0, none⟩), .pointer (some ⟨w.heap.size + 1, 0, none⟩), .pointer (some ⟨w.heap.size, 0, none⟩)]) (by simp) (by simp [go_sem]) ?_
      rcases hV with hV | ⟨hV, hc, ha, hb⟩
      · unfold wrongV at hV
        subst hV
        refine (catch_wrong _ _ _ 0 0 0 c a b [] w8 HG2.out).mono ?_
        rintro e u' w9 ⟨rfl, rfl, hW, hg⟩
        refine ⟨_, results_ttw Tryz.results8 _ rfl hW rfl, ?_⟩
        unfold ClassPost
        rw [HC.out]
        exact ⟨(HB3.out.trans (HB8.out.mono HB3.out.size)).grown hg (Nat.le_trans HB3.out.size HB8.out.size) (fun k e => by cases e; omega), rfl⟩
      · subst hV hc ha hb
        refine (catch_ended _ _ _ s a 0 0 0 [] w8 HG2.out (HG1.out.cell 0) (HG0.out.cell 0)).mono ?_
        rintro e u' w9 ⟨rfl, rfl, hW, hg⟩
        refine ⟨_, results_ttw Tryz.results8 _ rfl hW rfl, ?_⟩
        unfold ClassPost
        rw [HC.out]
        exact ⟨(HB3.out.trans (HB8.out.mono HB3.out.size)).grown hg (Nat.le_trans HB3.out.size HB8.out.size) (fun k e => by cases e; omega), rfl⟩
    | item all n =>
      obtain ⟨v8, ls, sp, rfl, hls, hfl, hlen, hns, hr8⟩ := hres
      have htot : totL ls ≤ 134217728 := by rw [← flat_length, hfl]; omega
      have HCC := Lib.hid (concat_any v8 ls w8 hls (by omega))
      rw [hfl] at HCC
      have HR8 := Lib.hid hr8; have HQZ := Lib.hid (show w3.heap.size ≤ w8.heap.size from HB8.out.size)
      have HLEN8 := Lib.hid (show all.length ≤ 134217728 by omega)
      obtain ⟨b8, o8, c8, hv8, -⟩ := hls
      subst hv8
      clear hfl hlen hns hr8 htot
      go_wp2_with fail
      refine HCC.out.mono ?_
      rintro e w9 ⟨v9, rfl, ho9, hb9⟩
      have HB9 := Lib.hid (HB8.out.trans (hb9.mono HB8.out.size)); have HO9 := Lib.hid ho9; have HBZ9 := Lib.hid hb9
      clear ho9 hb9 HCC
      have HNN := Lib.hid (norm_any v9 all w9 HO9.out.rgs HLEN8.out)
      obtain ⟨A9, c9, hv9, -⟩ := HO9.out.rgs
      subst hv9
      go_wp2_with fail
      refine HNN.out.mono ?_
      rintro e w10 ⟨v10, k10, rfl, ho, hr, hh, hb⟩
      have HB10 := Lib.hid (HB9.out.trans (hb.mono HB9.out.size)); have HO10 := Lib.hid (ho.mono HBZ9.out.size); have HK10 := Lib.hid hr; have HH10 := Lib.hid hh; have HBZ10 := Lib.hid (HBZ9.out.trans (hb.mono HBZ9.out.size))
      have HLEN10 := Lib.hid (show k10.length ≤ 1114112 by have := right_len k10 0 (by omega) hr; omega)
      clear ho hr hh hb HNN
      cases fo <;> cases nb
      · go_wp2_with fail
        have HRN := Lib.hid (HR8.out.below HBZ10.out)
        have HF10 := Lib.hid (HE2.out.below HB10.out (by have := HZ3.out; omega))
        have d1 := HRN.out.c1
        obtain ⟨g0, g1, g2, m0, m1, m2⟩ := HF10.out.three
        go_wp2_with fail
        go_region
        go_wp2_with fail
        refine leaves_cons (f := 18) (args := #[.pointer (some ⟨w.heap.size + 1 + 1, 0, none⟩), .pointer (some ⟨w.heap.size + 1, 0, none⟩), .pointer (some ⟨w.heap.size, 0, none⟩)]) (by simp) (by simp [go_sem]) ?_
        refine (catch_idle _ _ _ _).mono ?_
        rintro e u' w'' ⟨rfl, rfl, rfl⟩
        refine ⟨_, results_ttw Tryz.results8 _ rfl (Whole.drew (set3_whole HF10.out _ _ _)) rfl, ?_⟩
        unfold ClassPost
        rw [HC.out]
        refine ⟨Below.drew (set3_below (HB3.out.trans (HB10.out.mono HB3.out.size)) (by omega) _ _ _), _, k10, rfl, OwnR.below (own_set3 (HO10.out.mono (by have := HB3.out.size; have := HBQ.out; have := HQZ.out; omega)) (fun g hg => by have := own_ge HO10.out g hg; have := HZ3.out; have := HBQ.out; have := HQZ.out; omega) _ _ _) (Below.refl _ _).drew, HK10.out, fun c => ?_⟩
        unfold ClassHas FoldHas
        rw [HNB.out, if_neg (by decide), if_neg (by decide), HH10.out c]
      · go_wp2_with fail
        refine (not_any v10 k10 w10 HO10.out.rgs (by have := HLEN10.out; omega)).mono ?_
        rintro e w12 ⟨v12, k12, rfl, ho, hr, hh, hb⟩
        have HB12 := Lib.hid (HB10.out.trans (hb.mono HB10.out.size)); have HO12 := Lib.hid (ho.mono HBZ10.out.size); have HK12 := Lib.hid hr; have HH12 := Lib.hid hh; have HBZ12 := Lib.hid (HBZ10.out.trans (hb.mono HBZ10.out.size))
        clear ho hr hh hb
        have HRN := Lib.hid (HR8.out.below HBZ12.out)
        have HF12 := Lib.hid (HE2.out.below HB12.out (by have := HZ3.out; omega))
        have d1 := HRN.out.c1
        obtain ⟨g0, g1, g2, m0, m1, m2⟩ := HF12.out.three
        go_wp2_with fail
        go_region
        go_wp2_with fail
        refine leaves_cons (f := 18) (args := #[.pointer (some ⟨w.heap.size + 1 + 1, 0, none⟩), .pointer (some ⟨w.heap.size + 1, 0, none⟩), .pointer (some ⟨w.heap.size, 0, none⟩)]) (by simp) (by simp [go_sem]) ?_
        refine (catch_idle _ _ _ _).mono ?_
        rintro e u' w'' ⟨rfl, rfl, rfl⟩
        refine ⟨_, results_ttw Tryz.results8 _ rfl (Whole.drew (set3_whole HF12.out _ _ _)) rfl, ?_⟩
        unfold ClassPost
        rw [HC.out]
        refine ⟨Below.drew (set3_below (HB3.out.trans (HB12.out.mono HB3.out.size)) (by omega) _ _ _), _, k12, rfl, OwnR.below (own_set3 (HO12.out.mono (by have := HB3.out.size; have := HBQ.out; have := HQZ.out; omega)) (fun g hg => by have := own_ge HO12.out g hg; have := HZ3.out; have := HBQ.out; have := HQZ.out; omega) _ _ _) (Below.refl _ _).drew, HK12.out, fun c => ?_⟩
        unfold ClassHas FoldHas
        rw [HNB.out, if_pos rfl, if_neg (by decide), HH12.out c, HH10.out c]
      · go_wp2_with fail
        refine (fold_any v10 k10 w10 HO10.out.rgs HLEN10.out (HT0.out.below (HB3.out.trans (HB10.out.mono HB3.out.size)))).mono ?_
        rintro e w11 ⟨v11, k11, rfl, ho, hr, hh, hb⟩
        have HB11 := Lib.hid (HB10.out.trans (hb.mono HB10.out.size)); have HO11 := Lib.hid (ho.mono HBZ10.out.size); have HK11 := Lib.hid hr; have HH11 := Lib.hid hh; have HBZ11 := Lib.hid (HBZ10.out.trans (hb.mono HBZ10.out.size))
        have HLEN11 := Lib.hid (show k11.length ≤ 134217728 by have := right_len k11 0 (by omega) hr; omega)
        clear ho hr hh hb
        have HRN := Lib.hid (HR8.out.below HBZ11.out)
        have HF11 := Lib.hid (HE2.out.below HB11.out (by have := HZ3.out; omega))
        have d1 := HRN.out.c1
        obtain ⟨g0, g1, g2, m0, m1, m2⟩ := HF11.out.three
        go_wp2_with fail
        go_region
        go_wp2_with fail
        refine leaves_cons (f := 18) (args := #[.pointer (some ⟨w.heap.size + 1 + 1, 0, none⟩), .pointer (some ⟨w.heap.size + 1, 0, none⟩), .pointer (some ⟨w.heap.size, 0, none⟩)]) (by simp) (by simp [go_sem]) ?_
        refine (catch_idle _ _ _ _).mono ?_
        rintro e u' w'' ⟨rfl, rfl, rfl⟩
        refine ⟨_, results_ttw Tryz.results8 _ rfl (Whole.drew (set3_whole HF11.out _ _ _)) rfl, ?_⟩
        unfold ClassPost
        rw [HC.out]
        refine ⟨Below.drew (set3_below (HB3.out.trans (HB11.out.mono HB3.out.size)) (by omega) _ _ _), _, k11, rfl, OwnR.below (own_set3 (HO11.out.mono (by have := HB3.out.size; have := HBQ.out; have := HQZ.out; omega)) (fun g hg => by have := own_ge HO11.out g hg; have := HZ3.out; have := HBQ.out; have := HQZ.out; omega) _ _ _) (Below.refl _ _).drew, HK11.out, fun c => ?_⟩
        unfold ClassHas FoldHas
        rw [HNB.out, if_neg (by decide), if_pos rfl, HH11.out c, fold_same HH10.out c]
        rfl
      · go_wp2_with fail
        refine (fold_any v10 k10 w10 HO10.out.rgs HLEN10.out (HT0.out.below (HB3.out.trans (HB10.out.mono HB3.out.size)))).mono ?_
        rintro e w11 ⟨v11, k11, rfl, ho, hr, hh, hb⟩
        have HB11 := Lib.hid (HB10.out.trans (hb.mono HB10.out.size)); have HO11 := Lib.hid (ho.mono HBZ10.out.size); have HK11 := Lib.hid hr; have HH11 := Lib.hid hh; have HBZ11 := Lib.hid (HBZ10.out.trans (hb.mono HBZ10.out.size))
        have HLEN11 := Lib.hid (show k11.length ≤ 134217728 by have := right_len k11 0 (by omega) hr; omega)
        clear ho hr hh hb
        go_wp2_with fail
        refine (not_any v11 k11 w11 HO11.out.rgs (by have := HLEN11.out; omega)).mono ?_
        rintro e w12 ⟨v12, k12, rfl, ho, hr, hh, hb⟩
        have HB12 := Lib.hid (HB11.out.trans (hb.mono HB11.out.size)); have HO12 := Lib.hid (ho.mono HBZ11.out.size); have HK12 := Lib.hid hr; have HH12 := Lib.hid hh; have HBZ12 := Lib.hid (HBZ11.out.trans (hb.mono HBZ11.out.size))
        clear ho hr hh hb
        have HRN := Lib.hid (HR8.out.below HBZ12.out)
        have HF12 := Lib.hid (HE2.out.below HB12.out (by have := HZ3.out; omega))
        have d1 := HRN.out.c1
        obtain ⟨g0, g1, g2, m0, m1, m2⟩ := HF12.out.three
        go_wp2_with fail
        go_region
        go_wp2_with fail
        refine leaves_cons (f := 18) (args := #[.pointer (some ⟨w.heap.size + 1 + 1, 0, none⟩), .pointer (some ⟨w.heap.size + 1, 0, none⟩), .pointer (some ⟨w.heap.size, 0, none⟩)]) (by simp) (by simp [go_sem]) ?_
        refine (catch_idle _ _ _ _).mono ?_
        rintro e u' w'' ⟨rfl, rfl, rfl⟩
        refine ⟨_, results_ttw Tryz.results8 _ rfl (Whole.drew (set3_whole HF12.out _ _ _)) rfl, ?_⟩
        unfold ClassPost
        rw [HC.out]
        refine ⟨Below.drew (set3_below (HB3.out.trans (HB12.out.mono HB3.out.size)) (by omega) _ _ _), _, k12, rfl, OwnR.below (own_set3 (HO12.out.mono (by have := HB3.out.size; have := HBQ.out; have := HQZ.out; omega)) (fun g hg => by have := own_ge HO12.out g hg; have := HZ3.out; have := HBQ.out; have := HQZ.out; omega) _ _ _) (Below.refl _ _).drew, HK12.out, fun c => ?_⟩
        unfold ClassHas FoldHas
        rw [HNB.out, if_pos rfl, if_pos rfl, HH12.out c, HH11.out c, fold_same HH10.out c]
        rfl
end Go.Proofs.YtmaigjdmjmonbaaGreatDoor
/- What stage 7's calls read of tables: those of utf8, and those of letters; the program's Class and the document's, by both. -/
namespace Go.Proofs.YtmaigjdmjmonbaaGreatDoor
open Go Go.RowKit

def Tabs7 (w : World) : Prop := Lib.Utf8Tabs 3 4 w ∧ TabsT w
theorem Tabs7.below {w w' : World} (h : Tabs7 w) (hb : Below w.heap.size w w') : Tabs7 w' := ⟨Utf8Tabs_below h.1 hb, h.2.below hb⟩
theorem pclass7_any (s : ByteArray) (i : Nat) (f : Int) (w : World) (hs : s.size ≤ 900000) (hi : i ≤ s.size) (hT : Tabs7 w) :
    Calls Tryz.prog 8 #[.string s, .int .i64 i, .int .i64 f] w (ClassPost (classS s i (flagB f 32)) (flagB f 1) (notB s i) w) := pclass_any s i f w hs hi hT.1 hT.2
theorem rclass7_any (s : ByteArray) (i : Nat) (f : Int) (w : World) (hs : s.size ≤ 900000) (hi : i ≤ s.size) (hT : Tabs7 w) :
    Calls Tryz.prog 9 #[.string s, .int .i64 i, .int .i64 f] w (ClassPost (classS s i (flagB f 32)) (flagB f 1) (notB s i) w) := rclass_any s i f w hs hi hT.1
end Go.Proofs.YtmaigjdmjmonbaaGreatDoor
/- The fixed question of stage 7; classes as the document says. From the program's contract pclass7_any. -/
namespace Go.Proofs.YtmaigjdmjmonbaaGreatDoor
open Go Go.RowKit

/-- A class's three answers, in letters. -/
theorem class_form (R : ItemR) (fo nt : Bool) : ∃ (n x y z : Int) (l : List (Int × Int)), (∀ all k, R = .item all k → n = k ∧ x = 0 ∧ y = 0 ∧ z = 0) ∧ (∀ c a b, R = .bad c a b → n = 0 ∧ x = c ∧ y = a ∧ z = b ∧ l = []) ∧ ∀ w e w', ClassPost R fo nt w e w' →
    ∃ v, e = .returned (.tuple #[v, .int .i64 n, .agg #[.int .i64 x, .int .i64 y, .int .i64 z]]) ∧ OwnR w' w.heap.size v l ∧ Below w.heap.size w w' ∧ RightR l ∧ ∀ all k, R = .item all k → ∀ c, HasR l c ↔ ClassHas fo nt all c := by
  cases R with
  | bad c a b =>
    exact ⟨0, c, a, b, [], (fun _ _ h => (by cases h)), (fun _ _ _ h => (by cases h; exact ⟨rfl, rfl, rfl, rfl, rfl⟩)), (fun w e w' ⟨hb, h⟩ => ⟨.slice none 0 0, h, own_none _ _, hb, trivial, (fun _ _ h => (by cases h))⟩)⟩
  | item all k =>
    by_cases h : ∃ l, RightR l ∧ ∀ c, HasR l c ↔ ClassHas fo nt all c
    · obtain ⟨l, h1, h2⟩ := h
      refine ⟨k, 0, 0, 0, l, (fun _ _ h => (by cases h; exact ⟨rfl, rfl, rfl, rfl⟩)), (fun _ _ _ h => (by cases h)), (fun w e w' ⟨hb, v, l2, he, ho, hr, hh⟩ => ?_)⟩
      have hl : l2 = l := right_eq l2 l hr h1 (fun c => (hh c).trans (h2 c).symm)
      subst hl
      exact ⟨v, he, ho, hb, hr, (fun _ _ h => (by cases h; exact hh))⟩
    · exact ⟨k, 0, 0, 0, [], (fun _ _ h => (by cases h; exact ⟨rfl, rfl, rfl, rfl⟩)), (fun _ _ _ h => (by cases h)), (fun w e w' ⟨hb, v, l2, he, ho, hr, hh⟩ => absurd ⟨l2, hr, hh⟩ h)⟩
theorem place_in (i : Int) (s : ByteArray) : (i < 0 ∨ (s.size : Int) < i) ∨ ∃ j : Nat, i = j ∧ j ≤ s.size := by
  by_cases h : i < 0 ∨ (s.size : Int) < i
  · exact .inl h
  · exact .inr ⟨i.toNat, by omega, by omega⟩

theorem head_class : classS ⟨#[91, 97, 45, 99, 120, 93]⟩ 0 false = .item [(97, 99), (120, 120)] 6 := by kernel_rfl
theorem head_open : classS ⟨#[91, 97]⟩ 0 false = .bad 71 0 2 := by kernel_rfl
theorem flag_none (k : Int) (h : k = 1 ∨ k = 32) : flagB 0 k = false := by rcases h with rfl | rfl <;> kernel_rfl

set_option maxHeartbeats 1600000 in
set_option maxRecDepth 100000 in
theorem bhead_any (w : World) (hT : Tabs7 w) : Calls Tryz.prog 7 #[] w fun e w' => e = .returned (.bool true) ∧ Below w.heap.size w w' := by
  have HP := Lib.hid (pclass7_any ⟨#[91, 97, 45, 99, 120, 93]⟩ 0 0 w (by decide) (Nat.zero_le _) hT)
  have HQ := Lib.hid (fun W (h : Tabs7 W) => pclass7_any ⟨#[91, 97]⟩ 0 0 W (by decide) (Nat.zero_le _) h)
  rw [flag_none 32 (.inr rfl), head_class] at HP
  rw [flag_none 32 (.inr rfl), head_open] at HQ
  have HT := Lib.hid hT
  clear hT
  go_enter Tryz.func7, Tryz.ntmps7
  go_wp2_with fail
  refine HP.out.mono ?_
  rintro e w1 ⟨hb, v, l, he, ho, hr, hh⟩
  have hl : l = [(97, 99), (120, 120)] := right_eq l _ hr ⟨by decide, by decide, by decide, by decide, by decide, by decide, trivial⟩ (fun c => (hh c).trans (by rw [flag_none 1 (.inl rfl), show notB ⟨#[91, 97, 45, 99, 120, 93]⟩ 0 = false by kernel_rfl]; unfold ClassHas FoldHas; rw [if_neg (by decide), if_neg (by decide)]))
  replace he : e = .returned (.tuple #[v, .int .i64 6, .agg #[.int .i64 0, .int .i64 0, .int .i64 0]]) := he
  subst hl he
  obtain ⟨a, c, rfl, -, -, -, f5, -⟩ := ho.rgs
  rcases f5 with f5 | ⟨b, o, rfl, hc⟩
  · cases f5
  have hbl : b < w1.heap.size := World.block_lt_of_cell? w1 _ (hc 0 (by decide)).1
  obtain ⟨c1, c2⟩ := hc 0 (by decide)
  simp only [List.getElem_cons_zero, Nat.add_zero, Nat.zero_mul, List.length_cons, List.length_nil, Nat.zero_add] at c1 c2 ⊢
  have HB := Lib.hid hb; have C2 := Lib.hid c2
  clear hb hc ho hr hh HP c1 c2
  obtain ⟨w2, hw2⟩ : ∃ w2, w1.alloc (.cells #[.int .i64 0, .int .i64 0, .int .i64 0] 27) = w2 := ⟨_, rfl⟩
  have HY2 := Lib.hid (show Whole w2 w1.heap.size 27 #[.int .i64 0, .int .i64 0, .int .i64 0] by rw [← hw2]; exact heap_alloc_new w1 _)
  have Hb2 := Lib.hid (show Below w1.heap.size w1 w2 by rw [← hw2]; exact (Below.refl _ w1).alloc (Nat.le_refl _) _)
  have HS2 := Lib.hid (show w2.heap.size = w1.heap.size + 1 by rw [← hw2]; simp)
  have HW2 := Lib.hid hw2
  clear hw2
  go_upto_region 2 with (fail)
  rw [HW2.out]
  have HB2 := Lib.hid (HB.out.trans (Hb2.out.mono HB.out.size))
  go_wp2_with fail
  refine (HQ.out w2 (Tabs7.below HT.out HB2.out)).mono ?_
  rintro e w3 ⟨hb, he⟩
  replace he : e = .returned (.tuple #[.slice none 0 0, .int .i64 0, .agg #[.int .i64 71, .int .i64 0, .int .i64 2]]) := he
  subst he
  have HB3 := Lib.hid (HB2.out.trans (hb.mono HB2.out.size))
  have HY3 := Lib.hid (HY2.out.below hb (by have := HS2.out; omega))
  have C3 := Lib.hid ((hb.cell (by have := HS2.out; simp only; omega)).trans ((Hb2.out.cell (by simpa using hbl)).trans C2.out))
  clear hb HQ
  obtain ⟨w4, hw4⟩ : ∃ w4, w3.alloc (.cells #[.int .i64 71, .int .i64 0, .int .i64 2] 27) = w4 := ⟨_, rfl⟩
  have HZ4 := Lib.hid (show Whole w4 w3.heap.size 27 #[.int .i64 71, .int .i64 0, .int .i64 2] by rw [← hw4]; exact heap_alloc_new w3 _)
  have Hb4 := Lib.hid (show Below w3.heap.size w3 w4 by rw [← hw4]; exact (Below.refl _ w3).alloc (Nat.le_refl _) _)
  have HY4 := Lib.hid (show Whole w4 w1.heap.size 27 #[.int .i64 0, .int .i64 0, .int .i64 0] by rw [← hw4]; exact HY3.out.alloc _)
  have c4 := (Hb4.out.cell (World.block_lt_of_cell? w3 _ C3.out)).trans C3.out
  have HW4 := Lib.hid hw4
  clear hw4
  go_upto_region 3 with (fail)
  rw [HW4.out]
  obtain ⟨f0, f1, f2, -, -, -⟩ := HY4.out.three
  obtain ⟨g0, g1, g2, -, -, -⟩ := HZ4.out.three
  go_wp2_with fail
  go_ret
  exact ⟨rfl, HB3.out.trans (Hb4.out.mono HB3.out.size)⟩

set_option maxHeartbeats 3200000 in
set_option maxRecDepth 100000 in
theorem bclasses_any (w : World) (s : ByteArray) (i f : Int) (hs : s.size ≤ 4503599627370496) (hT : Tabs7 w) : Calls Tryz.prog 3 #[.string s, .int .i64 i, .int .i64 f] w fun e w' => e = .returned (.bool true) ∧ Below w.heap.size w w' := by
  have HT := Lib.hid hT
  have HH := Lib.hid (bhead_any w hT)
  clear hT
  go_enter Tryz.func3, Tryz.ntmps3
  go_wp2_with fail
  refine HH.out.mono ?_
  rintro e w1 ⟨rfl, hb⟩
  have HB := Lib.hid hb
  clear hb HH
  rcases place_in i s with h | ⟨j, rfl, hj⟩
  · by_cases h0 : i < 0
    · clear h
      go_wp2_with fail
      go_ret
      exact ⟨rfl, HB.out⟩
    · have h1 : (s.size : Int) < i := h.resolve_left h0
      clear h
      go_wp2_with fail
      go_ret
      exact ⟨rfl, HB.out⟩
  by_cases hbig : 3000 < s.size
  · go_wp2_with fail
    go_ret
    exact ⟨rfl, HB.out⟩
  obtain ⟨n, x, y, z, l, -, -, hf⟩ := class_form (classS s j (flagB f 32)) (flagB f 1) (notB s j)
  have HF := Lib.hid hf
  have hsz : s.size ≤ 900000 := by omega
  clear hf
  go_wp2_with fail
  refine (pclass7_any s j f _ hsz hj (Tabs7.below HT.out HB.out)).mono ?_
  intro e w2 hp
  obtain ⟨v, rfl, ho, hb, -, -⟩ := HF.out _ _ _ hp
  obtain ⟨A, n1, cA, hvs⟩ : ∃ A n1 cA, v = .slice A n1 cA := by obtain ⟨A, cA, hvs, -⟩ := ho.rgs; exact ⟨_, _, _, hvs⟩
  subst hvs
  replace HB := Lib.hid (HB.out.trans (hb.mono HB.out.size))
  have R2 := Lib.hid ho.rgs
  clear hb hp ho
  obtain ⟨w3, hw3⟩ : ∃ w3, w2.alloc (.cells #[.int .i64 x, .int .i64 y, .int .i64 z] 27) = w3 := ⟨_, rfl⟩
  have hb3 : Below w2.heap.size w2 w3 := by rw [← hw3]; exact (Below.refl _ w2).alloc (Nat.le_refl _) _
  have HB3 := Lib.hid (HB.out.trans (hb3.mono HB.out.size))
  have HS3 := Lib.hid (show w3.heap.size = w2.heap.size + 1 by rw [← hw3]; simp)
  have HF3 := Lib.hid (show Whole w3 w2.heap.size 27 #[.int .i64 x, .int .i64 y, .int .i64 z] by rw [← hw3]; exact heap_alloc_new w2 _)
  have HW3 := Lib.hid hw3; have R3 := Lib.hid (R2.out.below hb3)
  clear hb3 hw3
  go_upto_region 5 with (fail)
  rw [HW3.out]
  go_wp2_with fail
  refine (rclass7_any s j f _ hsz hj (Tabs7.below HT.out HB3.out)).mono ?_
  intro e w4 hp
  obtain ⟨v4, rfl, ho, hb, -, -⟩ := HF.out _ _ _ hp
  obtain ⟨B, n2, cB, hvs⟩ : ∃ B n2 cB, v4 = .slice B n2 cB := by obtain ⟨A, cA, hvs, -⟩ := ho.rgs; exact ⟨_, _, _, hvs⟩
  subst hvs
  have HB4 := Lib.hid (HB3.out.trans (hb.mono HB3.out.size))
  have HF4 := Lib.hid (HF3.out.below hb (by have := HS3.out; omega))
  have R4 := Lib.hid (R3.out.below hb); have R5 := Lib.hid ho.rgs
  clear hb hp ho
  obtain ⟨w5, hw5⟩ : ∃ w5, w4.alloc (.cells #[.int .i64 x, .int .i64 y, .int .i64 z] 27) = w5 := ⟨_, rfl⟩
  have hb5 : Below w4.heap.size w4 w5 := by rw [← hw5]; exact (Below.refl _ w4).alloc (Nat.le_refl _) _
  have HB5 := Lib.hid (HB4.out.trans (hb5.mono HB4.out.size))
  have HF5 := Lib.hid (show Whole w5 w4.heap.size 27 #[.int .i64 x, .int .i64 y, .int .i64 z] by rw [← hw5]; exact heap_alloc_new w4 _)
  have HG5 := Lib.hid (show Whole w5 w2.heap.size 27 #[.int .i64 x, .int .i64 y, .int .i64 z] by rw [← hw5]; exact HF4.out.alloc _)
  have HSM := Lib.hid (rsame_any _ _ l l w5 (R4.out.below hb5) (R5.out.below hb5))
  have HW5 := Lib.hid hw5
  clear hb5 hw5
  go_upto_region 6 with (fail)
  rw [HW5.out]
  go_wp2_with fail
  refine HSM.out.mono ?_
  rintro e w6 ⟨b, rfl, hbb, q, rfl⟩
  have hbt : b = true := hbb.2 (by first | trivial | rfl)
  subst hbt
  obtain ⟨d0, d1, d2, -, -, -⟩ := HF5.out.three
  obtain ⟨g0, g1, g2, -, -, -⟩ := HG5.out.three
  clear hbb
  go_wp2_with fail
  go_ret
  exact ⟨rfl, below_drewNr HB5.out _⟩
end Go.Proofs.YtmaigjdmjmonbaaGreatDoor
/- A class with ^ has what the same one without does not have; with FlagFold whole orbits. From the program's contract pclass7_any. -/
namespace Go.Proofs.YtmaigjdmjmonbaaGreatDoor
open Go Go.RowKit

theorem orbit_closed {l all : List (Int × Int)} (h : ∀ c, HasR l c ↔ ClassHas true false all c) {c y : Int} (hy : y ∈ orbR c) : HasR l y ↔ HasR l c := by
  have hr : 0 ≤ c ∧ c ≤ 1114111 := Classical.byContradiction fun hn => by
    rw [orb_none (by omega)] at hy
    cases hy
  have hyc := orb_same c y hy
  have hcc := orb_self c hr.1 hr.2
  rw [h, h]
  unfold ClassHas FoldHas
  simp only [Bool.false_eq_true, if_false, if_true]
  constructor
  · rintro ⟨d, h1, h2⟩
    exact ⟨d, h1, by rw [← orb_same d y h2, hyc]; exact hcc⟩
  · rintro ⟨d, h1, h2⟩
    exact ⟨d, h1, by rw [← orb_same d c h2]; exact hy⟩
theorem turned_same {l1 l2 k all : List (Int × Int)} {fo : Bool} (hr : RightR l2) (hk : RightR k) (h1 : ∀ c, HasR l1 c ↔ ClassHas fo false all c) (h2 : ∀ c, HasR l2 c ↔ ClassHas fo true all c) (hh : ∀ c, HasR k c ↔ (0 ≤ c ∧ c ≤ 1114111 ∧ ¬ HasR l1 c)) : k = l2 := by
  refine right_eq k l2 hk hr fun c => ?_
  rw [hh, h1, h2]
  unfold ClassHas
  rw [if_neg (by decide), if_pos rfl]

set_option maxHeartbeats 6400000 in
set_option maxRecDepth 100000 in
theorem bturned_any (w : World) (it : ByteArray) (f c : Int) (hs : it.size ≤ 4503599627370496) (hc : I32 c) (hT : Tabs7 w) : Calls Tryz.prog 4 #[.string it, .int .i64 f, .int .i32 c] w fun e w' => e = .returned (.bool true) ∧ Below w.heap.size w w' := by
  have HT := Lib.hid hT; have HC := Lib.hid hc
  have HH := Lib.hid (bhead_any w hT)
  clear hT hc
  by_cases hbig : 3000 < it.size
  · have k0 : (3000 : Int) < (it.size : Int) := by omega
    go_enter Tryz.func4, Tryz.ntmps4
    go_wp2_with fail
    refine HH.out.mono ?_
    rintro e w1 ⟨rfl, hb⟩
    have HB := Lib.hid hb
    clear hb HH
    go_wp2_with fail
    go_ret
    exact ⟨rfl, HB.out⟩
  have k0 : ¬ (3000 : Int) < (it.size : Int) := by omega
  by_cases hz : 0 < it.size
  · have k1 : (0 : Int) < (it.size : Int) := by omega
    by_cases h94 : (it[0].toNat : Int) = 94
    · have b0 := eq_true_of h94
      go_enter Tryz.func4, Tryz.ntmps4
      go_wp2_with fail
      refine HH.out.mono ?_
      rintro e w1 ⟨rfl, hb⟩
      have HB := Lib.hid hb
      clear hb HH
      go_wp2_with fail
      go_ret
      exact ⟨rfl, HB.out⟩
    have b0 := eq_false_of h94
    have h0 : it.toList.head? ≠ some 94 := by
      rw [show it.toList = leftB it 0 from rfl, left_cons it 0 hz]
      intro e
      refine h94 ?_
      rw [Option.some.inj e]
      rfl
    clear h94
    obtain ⟨hn1, hn2, hlk⟩ := open_like it (flagB f 32) h0
    have hsz1 : (openB it).size ≤ 900000 := by rw [openB_size]; omega
    have hsz2 : (openN it).size ≤ 900000 := by rw [openN_size]; omega
    have hp1 := fun W hW => pclass7_any (openB it) 0 f W hsz1 (Nat.zero_le _) hW
    have hp2 := fun W hW => pclass7_any (openN it) 0 f W hsz2 (Nat.zero_le _) hW
    have hp3 := fun W hW => pclass7_any (openB it) 0 (bits .or .i64 f 1) W hsz1 (Nat.zero_le _) hW
    rw [hn1] at hp1
    rw [hn2] at hp2
    rw [hn1, flag_high, flag_fold] at hp3
    have hok := class_ok (openB it) 0 (flagB f 32)
    obtain ⟨R1, hR1⟩ : ∃ R, classS (openB it) 0 (flagB f 32) = R := ⟨_, rfl⟩
    obtain ⟨R2, hR2⟩ : ∃ R, classS (openN it) 0 (flagB f 32) = R := ⟨_, rfl⟩
    rw [hR1] at hp1 hp3 hlk hok
    rw [hR2] at hp2 hlk
    obtain ⟨n1, x1, y1, z1, l1, hi1, hb1, hf1⟩ := class_form R1 (flagB f 1) false
    obtain ⟨n2, x2, y2, z2, l2, hi2, hb2, hf2⟩ := class_form R2 (flagB f 1) true
    obtain ⟨n3, x3, y3, z3, l3, hi3, hb3, hf3⟩ := class_form R1 true false
    have hD : x2 = x1 ∧ x3 = x1 ∧ ((¬ x1 = 0 ∧ l3 = []) ∨ (x1 = 0 ∧ n2 = n1 + 1 ∧ 0 ≤ n1 ∧ n1 ≤ 900000 ∧ ∃ all k k', R1 = .item all k ∧ R2 = .item all k')) := by
      cases R1 with
      | bad cc a b =>
        have hpos : (0 : Int) < cc := hok
        obtain ⟨a', b', rfl⟩ := hlk
        obtain ⟨-, rfl, -⟩ := hb1 _ _ _ rfl
        obtain ⟨-, rfl, -⟩ := hb2 _ _ _ rfl
        obtain ⟨-, rfl, -, -, rfl⟩ := hb3 _ _ _ rfl
        exact ⟨rfl, rfl, .inl ⟨by omega, rfl⟩⟩
      | item all k =>
        replace hlk : R2 = .item all (k + 1) := hlk
        obtain ⟨rfl, rfl, -⟩ := hi1 _ _ rfl
        obtain ⟨rfl, rfl, -⟩ := hi2 _ _ hlk
        obtain ⟨-, rfl, -⟩ := hi3 _ _ rfl
        have : k ≤ (openB it).size := hok
        exact ⟨rfl, rfl, .inr ⟨rfl, rfl, by omega, by omega, all, k, k + 1, rfl, hlk⟩⟩
    obtain ⟨rfl, rfl, hD⟩ := hD
    have HD := Lib.hid hD; have HP1 := Lib.hid hp1; have HP2 := Lib.hid hp2; have HP3 := Lib.hid hp3; have HF1 := Lib.hid hf1; have HF2 := Lib.hid hf2; have HF3 := Lib.hid hf3
    clear hD hp1 hp2 hp3 hf1 hf2 hf3 hi1 hi2 hi3 hb1 hb2 hb3 hlk hok hR1 hR2 hn1 hn2 hsz1 hsz2
    go_enter Tryz.func4, Tryz.ntmps4
    go_wp2_with fail
    refine HH.out.mono ?_
    rintro e w1 ⟨rfl, hb⟩
    have HB := Lib.hid hb
    clear hb HH
    go_wp2_with fail
    refine (HP1.out _ (Tabs7.below HT.out HB.out)).mono ?_
    intro e wa1 hp
    obtain ⟨v1, rfl, ho, hb, hr, hh⟩ := HF1.out _ _ _ hp
    obtain ⟨A1, m1, cA1, hvs⟩ : ∃ A m cA, v1 = .slice A m cA := by obtain ⟨A, cA, hvs, -⟩ := ho.rgs; exact ⟨_, _, _, hvs⟩
    subst hvs
    have HBa1 := Lib.hid (HB.out.trans (hb.mono HB.out.size))
    have RA1 := Lib.hid ho.rgs; have RR1 := Lib.hid hr; have HA1 := Lib.hid hh
    clear hb hp ho hr hh
    obtain ⟨wb1, hw⟩ : ∃ W, wa1.alloc (.cells #[.int .i64 x3, .int .i64 y1, .int .i64 z1] 27) = W := ⟨_, rfl⟩
    have hb : Below wa1.heap.size wa1 wb1 := by rw [← hw]; exact (Below.refl _ wa1).alloc (Nat.le_refl _) _
    have HB1 := Lib.hid (HBa1.out.trans (hb.mono HBa1.out.size))
    have HS1 := Lib.hid (show wb1.heap.size = wa1.heap.size + 1 by rw [← hw]; simp)
    have HX1 := Lib.hid (show Whole wb1 wa1.heap.size 27 #[.int .i64 x3, .int .i64 y1, .int .i64 z1] by rw [← hw]; exact heap_alloc_new wa1 _)
    have G1 := Lib.hid (RA1.out.below hb)
    have HW1 := Lib.hid hw
    clear hb hw
    go_upto_region 5 with (fail)
    rw [HW1.out]
    go_wp2_with fail
    refine (HP2.out _ (Tabs7.below HT.out HB1.out)).mono ?_
    intro e wa2 hp
    obtain ⟨v2, rfl, ho, hb, hr, hh⟩ := HF2.out _ _ _ hp
    obtain ⟨A2, m2, cA2, hvs⟩ : ∃ A m cA, v2 = .slice A m cA := by obtain ⟨A, cA, hvs, -⟩ := ho.rgs; exact ⟨_, _, _, hvs⟩
    subst hvs
    have HBa2 := Lib.hid (HB1.out.trans (hb.mono HB1.out.size))
    replace G1 := Lib.hid (G1.out.below hb); replace HX1 := Lib.hid (HX1.out.below hb (World.block_lt_of_cell? _ ⟨wa1.heap.size, 0, none⟩ HX1.out.three.1))
    have RA2 := Lib.hid ho.rgs; have RR2 := Lib.hid hr; have HA2 := Lib.hid hh
    clear hb hp ho hr hh
    obtain ⟨wb2, hw⟩ : ∃ W, wa2.alloc (.cells #[.int .i64 x3, .int .i64 y2, .int .i64 z2] 27) = W := ⟨_, rfl⟩
    have hb : Below wa2.heap.size wa2 wb2 := by rw [← hw]; exact (Below.refl _ wa2).alloc (Nat.le_refl _) _
    have HB2 := Lib.hid (HBa2.out.trans (hb.mono HBa2.out.size))
    have HS2 := Lib.hid (show wb2.heap.size = wa2.heap.size + 1 by rw [← hw]; simp)
    have HX2 := Lib.hid (show Whole wb2 wa2.heap.size 27 #[.int .i64 x3, .int .i64 y2, .int .i64 z2] by rw [← hw]; exact heap_alloc_new wa2 _)
    have G2 := Lib.hid (RA2.out.below hb)
    replace G1 := Lib.hid (G1.out.below hb); replace HX1 := Lib.hid (HX1.out.below hb (World.block_lt_of_cell? _ ⟨wa1.heap.size, 0, none⟩ HX1.out.three.1))
    have HW2 := Lib.hid hw
    clear hb hw
    go_upto_region 6 with (fail)
    rw [HW2.out]
    obtain ⟨a0, a1, a2, -, -, -⟩ := HX1.out.three
    obtain ⟨b1, b2, b3, -, -, -⟩ := HX2.out.three
    rcases HD.out with ⟨hx, hl3⟩ | ⟨hx, hnn, hn0, hn9, all, kk, kk', hr1, hr2⟩
    · have e0 := eq_false_of hx
      have HPRE := Lib.hid (show ∀ y, y ∈ orbR c → (HasR l3 y ↔ HasR l3 c) from fun y _ => by rw [hl3]; simp [HasR])
      have HZ := HX1
      clear hx hl3 HD HX1
      go_wp2_with fail
      refine (HP3.out _ (Tabs7.below HT.out HB2.out)).mono ?_
      intro e wa3 hp
      obtain ⟨v3, rfl, ho, hb, hr, hh⟩ := HF3.out _ _ _ hp
      obtain ⟨A3, m3, cA3, hvs⟩ : ∃ A m cA, v3 = .slice A m cA := by obtain ⟨A, cA, hvs, -⟩ := ho.rgs; exact ⟨_, _, _, hvs⟩
      subst hvs
      have HBa3 := Lib.hid (HB2.out.trans (hb.mono HB2.out.size))
      replace HZ := Lib.hid (HZ.out.below hb (World.block_lt_of_cell? _ ⟨wa1.heap.size, 0, none⟩ HZ.out.three.1))
      have RA3 := Lib.hid ho.rgs; have RR3 := Lib.hid hr; have HA3 := Lib.hid hh
      clear hb hp ho hr hh
      obtain ⟨wb3, hw⟩ : ∃ W, wa3.alloc (.cells #[.int .i64 x3, .int .i64 y3, .int .i64 z3] 27) = W := ⟨_, rfl⟩
      have hb : Below wa3.heap.size wa3 wb3 := by rw [← hw]; exact (Below.refl _ wa3).alloc (Nat.le_refl _) _
      have HB3 := Lib.hid (HBa3.out.trans (hb.mono HBa3.out.size))
      have HS3 := Lib.hid (show wb3.heap.size = wa3.heap.size + 1 by rw [← hw]; simp)
      have HX3 := Lib.hid (show Whole wb3 wa3.heap.size 27 #[.int .i64 x3, .int .i64 y3, .int .i64 z3] by rw [← hw]; exact heap_alloc_new wa3 _)
      have G3 := Lib.hid (RA3.out.below hb)
      replace HZ := Lib.hid (HZ.out.below hb (World.block_lt_of_cell? _ ⟨wa1.heap.size, 0, none⟩ HZ.out.three.1))
      have HW3 := Lib.hid hw
      clear hb hw
      go_upto_region 9 with (fail)
      rw [HW3.out]
      have HOC := HPRE
      go_wp2_with fail
      refine (rorbit_any c _ HC.out).mono ?_
      rintro e w8 ⟨v8, rfl, ho, hb⟩
      have HB8 := Lib.hid (HB3.out.trans (hb.mono HB3.out.size))
      have HZ8 := Lib.hid (HZ.out.below hb (World.block_lt_of_cell? _ ⟨wa1.heap.size, 0, none⟩ HZ.out.three.1))
      have HX8 := Lib.hid (HX3.out.below hb (World.block_lt_of_cell? _ ⟨wa3.heap.size, 0, none⟩ HX3.out.three.1))
      have HN8 := Lib.hid ho.rns
      have G8 := Lib.hid (G3.out.below hb)
      obtain ⟨og, hog⟩ : ∃ og, orbR c = og := ⟨_, rfl⟩
      rw [hog] at HN8 HOC
      obtain ⟨ao, co, hvo, -⟩ := HN8.out
      subst hvo
      clear ho hb hog
      go_wp2_with fail
      go_loopw [18] (fun vi wr => ∃ k : Nat, k ≤ og.length ∧ vi = .int .i64 k ∧ ∃ q, wr = w8.drewN q) (fun vi _ => og.length - (intOf vi).toNat)
      case atStart => exact ⟨0, Nat.zero_le _, rfl, 0, rfl⟩
      case round =>
        obtain ⟨k, hk, rfl, qq, rfl⟩ := hrel
        by_cases hkl : k < og.length
        · obtain ⟨a3, c3, e, g3, g4, -, f5, f6⟩ := HN8.out
          have hlen : og.length ≤ 9223372036854775807 := by unfold maxLen at g4; omega
          injection e with e1 e2 e3
          subst e1 e3
          rcases f5 with f5 | ⟨b3, o3, rfl, f7⟩
          · rw [f5] at hkl
            simp at hkl
          obtain ⟨y, hy⟩ : ∃ y, og[k] = y := ⟨_, rfl⟩
          have cy := f7 k hkl
          have hym : og[k] ∈ og := List.getElem_mem hkl
          rw [hy] at cy hym
          have HIF := Lib.hid (HOC.out y hym)
          have hwk : IntKind.i64.wrap ((k : Int) + 1) = (k : Int) + 1 := wrap_in _ (by omega)
          clear hy hym f6 f7 e2 g3 g4
          go_wp2_with fail
          refine (rhas_any _ l3 y _ (G8.out.below (drewN_below w8 qq))).mono ?_
          rintro e w9 ⟨B1, rfl, h1, q1, rfl⟩
          have H1 := Lib.hid h1
          clear h1
          go_wp2_with fail
          refine (rhas_any _ l3 c _ (G8.out.below (drewN_below w8 _))).mono ?_
          rintro e w10 ⟨B2, rfl, h2, q2, rfl⟩
          obtain rfl : B1 = B2 := by rw [Bool.eq_iff_iff, H1.out, h2]; exact HIF.out
          obtain ⟨q3, hq3⟩ : ∃ q3, (w8.drewN (qq + q1)).drewN q2 = w8.drewN q3 := ⟨_, World.drewN_drewN _ _ _⟩
          rw [hq3]
          clear h2 H1 HIF hq3
          cases B1 <;>
          · go_wp2
            exact ⟨⟨k + 1, by omega, rfl, q3, rfl⟩, by simp only [intOf]; omega⟩
        · obtain ⟨p0, p1, p2, -, -, -⟩ := HZ8.out.three
          obtain ⟨r0, r1, r2, -, -, -⟩ := HX8.out.three
          go_wp2
          go_ret
          exact ⟨rfl, below_drewNr HB8.out qq⟩
    · have e0 := eq_true_of hx
      subst hnn
      have hwn : IntKind.i64.wrap (n1 + 1) = n1 + 1 := wrap_in _ (by omega)
      have HSA := Lib.hid (fun k (hk : RightR k) (hh : ∀ c, HasR k c ↔ (0 ≤ c ∧ c ≤ 1114111 ∧ ¬ HasR l1 c)) => turned_same RR2.out hk (HA1.out all kk hr1) (HA2.out all kk' hr2) hh)
      have hl1 := right_len l1 0 (by omega) RR1.out
      have HL1 := Lib.hid (show l1.length ≤ 1099511627776 by omega)
      have HR1 := Lib.hid hr1
      clear HD hl1 hr1 hr2 hx
      go_wp2_with fail
      refine (rnot_any _ l1 _ G1.out HL1.out).mono ?_
      rintro e w6 ⟨v6, k6, rfl, ho, hr, hh, hb⟩
      have hk6 := HSA.out k6 hr hh
      subst hk6
      have HB6 := Lib.hid (HB2.out.trans (hb.mono HB2.out.size))
      have HY1 := Lib.hid (HX1.out.below hb (World.block_lt_of_cell? _ ⟨wa1.heap.size, 0, none⟩ HX1.out.three.1))
      have HSM := Lib.hid (rsame_any _ _ k6 k6 w6 ho.rgs (G2.out.below hb))
      clear ho hr hh hb a0 a1 a2 b1 b2 b3
      obtain ⟨a0, a1, a2, -, -, -⟩ := HY1.out.three
      go_wp2_with fail
      refine HSM.out.mono ?_
      rintro e w7 ⟨b, rfl, hbb, q, rfl⟩
      have hbt : b = true := hbb.2 (by first | trivial | rfl)
      subst hbt
      have HB7 := Lib.hid (below_drewNr HB6.out q)
      clear hbb
      go_wp2_with fail
      have HZ := Lib.hid (HY1.out.below (drewN_below w6 q) (World.block_lt_of_cell? _ ⟨wa1.heap.size, 0, none⟩ HY1.out.three.1))
      clear HX1 HY1 a0 a1 a2
      refine (HP3.out _ (Tabs7.below HT.out HB7.out)).mono ?_
      intro e wa3 hp
      obtain ⟨v3, rfl, ho, hb, hr, hh⟩ := HF3.out _ _ _ hp
      obtain ⟨A3, m3, cA3, hvs⟩ : ∃ A m cA, v3 = .slice A m cA := by obtain ⟨A, cA, hvs, -⟩ := ho.rgs; exact ⟨_, _, _, hvs⟩
      subst hvs
      have HBa3 := Lib.hid (HB7.out.trans (hb.mono HB7.out.size))
      replace HZ := Lib.hid (HZ.out.below hb (World.block_lt_of_cell? _ ⟨wa1.heap.size, 0, none⟩ HZ.out.three.1))
      have RA3 := Lib.hid ho.rgs; have RR3 := Lib.hid hr; have HA3 := Lib.hid hh
      clear hb hp ho hr hh
      obtain ⟨wb3, hw⟩ : ∃ W, wa3.alloc (.cells #[.int .i64 x3, .int .i64 y3, .int .i64 z3] 27) = W := ⟨_, rfl⟩
      have hb : Below wa3.heap.size wa3 wb3 := by rw [← hw]; exact (Below.refl _ wa3).alloc (Nat.le_refl _) _
      have HB3 := Lib.hid (HBa3.out.trans (hb.mono HBa3.out.size))
      have HS3 := Lib.hid (show wb3.heap.size = wa3.heap.size + 1 by rw [← hw]; simp)
      have HX3 := Lib.hid (show Whole wb3 wa3.heap.size 27 #[.int .i64 x3, .int .i64 y3, .int .i64 z3] by rw [← hw]; exact heap_alloc_new wa3 _)
      have G3 := Lib.hid (RA3.out.below hb)
      replace HZ := Lib.hid (HZ.out.below hb (World.block_lt_of_cell? _ ⟨wa1.heap.size, 0, none⟩ HZ.out.three.1))
      have HW3 := Lib.hid hw
      clear hb hw
      go_upto_region 9 with (fail)
      rw [HW3.out]
      have HOC := Lib.hid (show ∀ y, y ∈ orbR c → (HasR l3 y ↔ HasR l3 c) from fun y hy => orbit_closed (HA3.out all kk HR1.out) hy)
      go_wp2_with fail
      refine (rorbit_any c _ HC.out).mono ?_
      rintro e w8 ⟨v8, rfl, ho, hb⟩
      have HB8 := Lib.hid (HB3.out.trans (hb.mono HB3.out.size))
      have HZ8 := Lib.hid (HZ.out.below hb (World.block_lt_of_cell? _ ⟨wa1.heap.size, 0, none⟩ HZ.out.three.1))
      have HX8 := Lib.hid (HX3.out.below hb (World.block_lt_of_cell? _ ⟨wa3.heap.size, 0, none⟩ HX3.out.three.1))
      have HN8 := Lib.hid ho.rns
      have G8 := Lib.hid (G3.out.below hb)
      obtain ⟨og, hog⟩ : ∃ og, orbR c = og := ⟨_, rfl⟩
      rw [hog] at HN8 HOC
      obtain ⟨ao, co, hvo, -⟩ := HN8.out
      subst hvo
      clear ho hb hog
      go_wp2_with fail
      go_loopw [18] (fun vi wr => ∃ k : Nat, k ≤ og.length ∧ vi = .int .i64 k ∧ ∃ q, wr = w8.drewN q) (fun vi _ => og.length - (intOf vi).toNat)
      case atStart => exact ⟨0, Nat.zero_le _, rfl, 0, rfl⟩
      case round =>
        obtain ⟨k, hk, rfl, qq, rfl⟩ := hrel
        by_cases hkl : k < og.length
        · obtain ⟨a3, c3, e, g3, g4, -, f5, f6⟩ := HN8.out
          have hlen : og.length ≤ 9223372036854775807 := by unfold maxLen at g4; omega
          injection e with e1 e2 e3
          subst e1 e3
          rcases f5 with f5 | ⟨b3, o3, rfl, f7⟩
          · rw [f5] at hkl
            simp at hkl
          obtain ⟨y, hy⟩ : ∃ y, og[k] = y := ⟨_, rfl⟩
          have cy := f7 k hkl
          have hym : og[k] ∈ og := List.getElem_mem hkl
          rw [hy] at cy hym
          have HIF := Lib.hid (HOC.out y hym)
          have hwk : IntKind.i64.wrap ((k : Int) + 1) = (k : Int) + 1 := wrap_in _ (by omega)
          clear hy hym f6 f7 e2 g3 g4
          go_wp2_with fail
          refine (rhas_any _ l3 y _ (G8.out.below (drewN_below w8 qq))).mono ?_
          rintro e w9 ⟨B1, rfl, h1, q1, rfl⟩
          have H1 := Lib.hid h1
          clear h1
          go_wp2_with fail
          refine (rhas_any _ l3 c _ (G8.out.below (drewN_below w8 _))).mono ?_
          rintro e w10 ⟨B2, rfl, h2, q2, rfl⟩
          obtain rfl : B1 = B2 := by rw [Bool.eq_iff_iff, H1.out, h2]; exact HIF.out
          obtain ⟨q3, hq3⟩ : ∃ q3, (w8.drewN (qq + q1)).drewN q2 = w8.drewN q3 := ⟨_, World.drewN_drewN _ _ _⟩
          rw [hq3]
          clear h2 H1 HIF hq3
          cases B1 <;>
          · go_wp2
            exact ⟨⟨k + 1, by omega, rfl, q3, rfl⟩, by simp only [intOf]; omega⟩
        · obtain ⟨p0, p1, p2, -, -, -⟩ := HZ8.out.three
          obtain ⟨r0, r1, r2, -, -, -⟩ := HX8.out.three
          go_wp2
          go_ret
          exact ⟨rfl, below_drewNr HB8.out qq⟩
  have k1 : ¬ (0 : Int) < (it.size : Int) := by omega
  have h0 : it.toList.head? ≠ some 94 := by
    rw [show it.toList = leftB it 0 from rfl, left_nil it 0 (by omega)]
    intro e
    cases e
  obtain ⟨hn1, hn2, hlk⟩ := open_like it (flagB f 32) h0
  have hsz1 : (openB it).size ≤ 900000 := by rw [openB_size]; omega
  have hsz2 : (openN it).size ≤ 900000 := by rw [openN_size]; omega
  have hp1 := fun W hW => pclass7_any (openB it) 0 f W hsz1 (Nat.zero_le _) hW
  have hp2 := fun W hW => pclass7_any (openN it) 0 f W hsz2 (Nat.zero_le _) hW
  have hp3 := fun W hW => pclass7_any (openB it) 0 (bits .or .i64 f 1) W hsz1 (Nat.zero_le _) hW
  rw [hn1] at hp1
  rw [hn2] at hp2
  rw [hn1, flag_high, flag_fold] at hp3
  have hok := class_ok (openB it) 0 (flagB f 32)
  obtain ⟨R1, hR1⟩ : ∃ R, classS (openB it) 0 (flagB f 32) = R := ⟨_, rfl⟩
  obtain ⟨R2, hR2⟩ : ∃ R, classS (openN it) 0 (flagB f 32) = R := ⟨_, rfl⟩
  rw [hR1] at hp1 hp3 hlk hok
  rw [hR2] at hp2 hlk
  obtain ⟨n1, x1, y1, z1, l1, hi1, hb1, hf1⟩ := class_form R1 (flagB f 1) false
  obtain ⟨n2, x2, y2, z2, l2, hi2, hb2, hf2⟩ := class_form R2 (flagB f 1) true
  obtain ⟨n3, x3, y3, z3, l3, hi3, hb3, hf3⟩ := class_form R1 true false
  have hD : x2 = x1 ∧ x3 = x1 ∧ ((¬ x1 = 0 ∧ l3 = []) ∨ (x1 = 0 ∧ n2 = n1 + 1 ∧ 0 ≤ n1 ∧ n1 ≤ 900000 ∧ ∃ all k k', R1 = .item all k ∧ R2 = .item all k')) := by
    cases R1 with
    | bad cc a b =>
      have hpos : (0 : Int) < cc := hok
      obtain ⟨a', b', rfl⟩ := hlk
      obtain ⟨-, rfl, -⟩ := hb1 _ _ _ rfl
      obtain ⟨-, rfl, -⟩ := hb2 _ _ _ rfl
      obtain ⟨-, rfl, -, -, rfl⟩ := hb3 _ _ _ rfl
      exact ⟨rfl, rfl, .inl ⟨by omega, rfl⟩⟩
    | item all k =>
      replace hlk : R2 = .item all (k + 1) := hlk
      obtain ⟨rfl, rfl, -⟩ := hi1 _ _ rfl
      obtain ⟨rfl, rfl, -⟩ := hi2 _ _ hlk
      obtain ⟨-, rfl, -⟩ := hi3 _ _ rfl
      have : k ≤ (openB it).size := hok
      exact ⟨rfl, rfl, .inr ⟨rfl, rfl, by omega, by omega, all, k, k + 1, rfl, hlk⟩⟩
  obtain ⟨rfl, rfl, hD⟩ := hD
  have HD := Lib.hid hD; have HP1 := Lib.hid hp1; have HP2 := Lib.hid hp2; have HP3 := Lib.hid hp3; have HF1 := Lib.hid hf1; have HF2 := Lib.hid hf2; have HF3 := Lib.hid hf3
  clear hD hp1 hp2 hp3 hf1 hf2 hf3 hi1 hi2 hi3 hb1 hb2 hb3 hlk hok hR1 hR2 hn1 hn2 hsz1 hsz2
  go_enter Tryz.func4, Tryz.ntmps4
  go_wp2_with fail
  refine HH.out.mono ?_
  rintro e w1 ⟨rfl, hb⟩
  have HB := Lib.hid hb
  clear hb HH
  go_wp2_with fail
  refine (HP1.out _ (Tabs7.below HT.out HB.out)).mono ?_
  intro e wa1 hp
  obtain ⟨v1, rfl, ho, hb, hr, hh⟩ := HF1.out _ _ _ hp
  obtain ⟨A1, m1, cA1, hvs⟩ : ∃ A m cA, v1 = .slice A m cA := by obtain ⟨A, cA, hvs, -⟩ := ho.rgs; exact ⟨_, _, _, hvs⟩
  subst hvs
  have HBa1 := Lib.hid (HB.out.trans (hb.mono HB.out.size))
  have RA1 := Lib.hid ho.rgs; have RR1 := Lib.hid hr; have HA1 := Lib.hid hh
  clear hb hp ho hr hh
  obtain ⟨wb1, hw⟩ : ∃ W, wa1.alloc (.cells #[.int .i64 x3, .int .i64 y1, .int .i64 z1] 27) = W := ⟨_, rfl⟩
  have hb : Below wa1.heap.size wa1 wb1 := by rw [← hw]; exact (Below.refl _ wa1).alloc (Nat.le_refl _) _
  have HB1 := Lib.hid (HBa1.out.trans (hb.mono HBa1.out.size))
  have HS1 := Lib.hid (show wb1.heap.size = wa1.heap.size + 1 by rw [← hw]; simp)
  have HX1 := Lib.hid (show Whole wb1 wa1.heap.size 27 #[.int .i64 x3, .int .i64 y1, .int .i64 z1] by rw [← hw]; exact heap_alloc_new wa1 _)
  have G1 := Lib.hid (RA1.out.below hb)
  have HW1 := Lib.hid hw
  clear hb hw
  go_upto_region 5 with (fail)
  rw [HW1.out]
  go_wp2_with fail
  refine (HP2.out _ (Tabs7.below HT.out HB1.out)).mono ?_
  intro e wa2 hp
  obtain ⟨v2, rfl, ho, hb, hr, hh⟩ := HF2.out _ _ _ hp
  obtain ⟨A2, m2, cA2, hvs⟩ : ∃ A m cA, v2 = .slice A m cA := by obtain ⟨A, cA, hvs, -⟩ := ho.rgs; exact ⟨_, _, _, hvs⟩
  subst hvs
  have HBa2 := Lib.hid (HB1.out.trans (hb.mono HB1.out.size))
  replace G1 := Lib.hid (G1.out.below hb); replace HX1 := Lib.hid (HX1.out.below hb (World.block_lt_of_cell? _ ⟨wa1.heap.size, 0, none⟩ HX1.out.three.1))
  have RA2 := Lib.hid ho.rgs; have RR2 := Lib.hid hr; have HA2 := Lib.hid hh
  clear hb hp ho hr hh
  obtain ⟨wb2, hw⟩ : ∃ W, wa2.alloc (.cells #[.int .i64 x3, .int .i64 y2, .int .i64 z2] 27) = W := ⟨_, rfl⟩
  have hb : Below wa2.heap.size wa2 wb2 := by rw [← hw]; exact (Below.refl _ wa2).alloc (Nat.le_refl _) _
  have HB2 := Lib.hid (HBa2.out.trans (hb.mono HBa2.out.size))
  have HS2 := Lib.hid (show wb2.heap.size = wa2.heap.size + 1 by rw [← hw]; simp)
  have HX2 := Lib.hid (show Whole wb2 wa2.heap.size 27 #[.int .i64 x3, .int .i64 y2, .int .i64 z2] by rw [← hw]; exact heap_alloc_new wa2 _)
  have G2 := Lib.hid (RA2.out.below hb)
  replace G1 := Lib.hid (G1.out.below hb); replace HX1 := Lib.hid (HX1.out.below hb (World.block_lt_of_cell? _ ⟨wa1.heap.size, 0, none⟩ HX1.out.three.1))
  have HW2 := Lib.hid hw
  clear hb hw
  go_upto_region 6 with (fail)
  rw [HW2.out]
  obtain ⟨a0, a1, a2, -, -, -⟩ := HX1.out.three
  obtain ⟨b1, b2, b3, -, -, -⟩ := HX2.out.three
  rcases HD.out with ⟨hx, hl3⟩ | ⟨hx, hnn, hn0, hn9, all, kk, kk', hr1, hr2⟩
  · have e0 := eq_false_of hx
    have HPRE := Lib.hid (show ∀ y, y ∈ orbR c → (HasR l3 y ↔ HasR l3 c) from fun y _ => by rw [hl3]; simp [HasR])
    have HZ := HX1
    clear hx hl3 HD HX1
    go_wp2_with fail
    refine (HP3.out _ (Tabs7.below HT.out HB2.out)).mono ?_
    intro e wa3 hp
    obtain ⟨v3, rfl, ho, hb, hr, hh⟩ := HF3.out _ _ _ hp
    obtain ⟨A3, m3, cA3, hvs⟩ : ∃ A m cA, v3 = .slice A m cA := by obtain ⟨A, cA, hvs, -⟩ := ho.rgs; exact ⟨_, _, _, hvs⟩
    subst hvs
    have HBa3 := Lib.hid (HB2.out.trans (hb.mono HB2.out.size))
    replace HZ := Lib.hid (HZ.out.below hb (World.block_lt_of_cell? _ ⟨wa1.heap.size, 0, none⟩ HZ.out.three.1))
    have RA3 := Lib.hid ho.rgs; have RR3 := Lib.hid hr; have HA3 := Lib.hid hh
    clear hb hp ho hr hh
    obtain ⟨wb3, hw⟩ : ∃ W, wa3.alloc (.cells #[.int .i64 x3, .int .i64 y3, .int .i64 z3] 27) = W := ⟨_, rfl⟩
    have hb : Below wa3.heap.size wa3 wb3 := by rw [← hw]; exact (Below.refl _ wa3).alloc (Nat.le_refl _) _
    have HB3 := Lib.hid (HBa3.out.trans (hb.mono HBa3.out.size))
    have HS3 := Lib.hid (show wb3.heap.size = wa3.heap.size + 1 by rw [← hw]; simp)
    have HX3 := Lib.hid (show Whole wb3 wa3.heap.size 27 #[.int .i64 x3, .int .i64 y3, .int .i64 z3] by rw [← hw]; exact heap_alloc_new wa3 _)
    have G3 := Lib.hid (RA3.out.below hb)
    replace HZ := Lib.hid (HZ.out.below hb (World.block_lt_of_cell? _ ⟨wa1.heap.size, 0, none⟩ HZ.out.three.1))
    have HW3 := Lib.hid hw
    clear hb hw
    go_upto_region 9 with (fail)
    rw [HW3.out]
    have HOC := HPRE
    go_wp2_with fail
    refine (rorbit_any c _ HC.out).mono ?_
    rintro e w8 ⟨v8, rfl, ho, hb⟩
    have HB8 := Lib.hid (HB3.out.trans (hb.mono HB3.out.size))
    have HZ8 := Lib.hid (HZ.out.below hb (World.block_lt_of_cell? _ ⟨wa1.heap.size, 0, none⟩ HZ.out.three.1))
    have HX8 := Lib.hid (HX3.out.below hb (World.block_lt_of_cell? _ ⟨wa3.heap.size, 0, none⟩ HX3.out.three.1))
    have HN8 := Lib.hid ho.rns
    have G8 := Lib.hid (G3.out.below hb)
    obtain ⟨og, hog⟩ : ∃ og, orbR c = og := ⟨_, rfl⟩
    rw [hog] at HN8 HOC
    obtain ⟨ao, co, hvo, -⟩ := HN8.out
    subst hvo
    clear ho hb hog
    go_wp2_with fail
    go_loopw [18] (fun vi wr => ∃ k : Nat, k ≤ og.length ∧ vi = .int .i64 k ∧ ∃ q, wr = w8.drewN q) (fun vi _ => og.length - (intOf vi).toNat)
    case atStart => exact ⟨0, Nat.zero_le _, rfl, 0, rfl⟩
    case round =>
      obtain ⟨k, hk, rfl, qq, rfl⟩ := hrel
      by_cases hkl : k < og.length
      · obtain ⟨a3, c3, e, g3, g4, -, f5, f6⟩ := HN8.out
        have hlen : og.length ≤ 9223372036854775807 := by unfold maxLen at g4; omega
        injection e with e1 e2 e3
        subst e1 e3
        rcases f5 with f5 | ⟨b3, o3, rfl, f7⟩
        · rw [f5] at hkl
          simp at hkl
        obtain ⟨y, hy⟩ : ∃ y, og[k] = y := ⟨_, rfl⟩
        have cy := f7 k hkl
        have hym : og[k] ∈ og := List.getElem_mem hkl
        rw [hy] at cy hym
        have HIF := Lib.hid (HOC.out y hym)
        have hwk : IntKind.i64.wrap ((k : Int) + 1) = (k : Int) + 1 := wrap_in _ (by omega)
        clear hy hym f6 f7 e2 g3 g4
        go_wp2_with fail
        refine (rhas_any _ l3 y _ (G8.out.below (drewN_below w8 qq))).mono ?_
        rintro e w9 ⟨B1, rfl, h1, q1, rfl⟩
        have H1 := Lib.hid h1
        clear h1
        go_wp2_with fail
        refine (rhas_any _ l3 c _ (G8.out.below (drewN_below w8 _))).mono ?_
        rintro e w10 ⟨B2, rfl, h2, q2, rfl⟩
        obtain rfl : B1 = B2 := by rw [Bool.eq_iff_iff, H1.out, h2]; exact HIF.out
        obtain ⟨q3, hq3⟩ : ∃ q3, (w8.drewN (qq + q1)).drewN q2 = w8.drewN q3 := ⟨_, World.drewN_drewN _ _ _⟩
        rw [hq3]
        clear h2 H1 HIF hq3
        cases B1 <;>
        · go_wp2
          exact ⟨⟨k + 1, by omega, rfl, q3, rfl⟩, by simp only [intOf]; omega⟩
      · obtain ⟨p0, p1, p2, -, -, -⟩ := HZ8.out.three
        obtain ⟨r0, r1, r2, -, -, -⟩ := HX8.out.three
        go_wp2
        go_ret
        exact ⟨rfl, below_drewNr HB8.out qq⟩
  · have e0 := eq_true_of hx
    subst hnn
    have hwn : IntKind.i64.wrap (n1 + 1) = n1 + 1 := wrap_in _ (by omega)
    have HSA := Lib.hid (fun k (hk : RightR k) (hh : ∀ c, HasR k c ↔ (0 ≤ c ∧ c ≤ 1114111 ∧ ¬ HasR l1 c)) => turned_same RR2.out hk (HA1.out all kk hr1) (HA2.out all kk' hr2) hh)
    have hl1 := right_len l1 0 (by omega) RR1.out
    have HL1 := Lib.hid (show l1.length ≤ 1099511627776 by omega)
    have HR1 := Lib.hid hr1
    clear HD hl1 hr1 hr2 hx
    go_wp2_with fail
    refine (rnot_any _ l1 _ G1.out HL1.out).mono ?_
    rintro e w6 ⟨v6, k6, rfl, ho, hr, hh, hb⟩
    have hk6 := HSA.out k6 hr hh
    subst hk6
    have HB6 := Lib.hid (HB2.out.trans (hb.mono HB2.out.size))
    have HY1 := Lib.hid (HX1.out.below hb (World.block_lt_of_cell? _ ⟨wa1.heap.size, 0, none⟩ HX1.out.three.1))
    have HSM := Lib.hid (rsame_any _ _ k6 k6 w6 ho.rgs (G2.out.below hb))
    clear ho hr hh hb a0 a1 a2 b1 b2 b3
    obtain ⟨a0, a1, a2, -, -, -⟩ := HY1.out.three
    go_wp2_with fail
    refine HSM.out.mono ?_
    rintro e w7 ⟨b, rfl, hbb, q, rfl⟩
    have hbt : b = true := hbb.2 (by first | trivial | rfl)
    subst hbt
    have HB7 := Lib.hid (below_drewNr HB6.out q)
    clear hbb
    go_wp2_with fail
    have HZ := Lib.hid (HY1.out.below (drewN_below w6 q) (World.block_lt_of_cell? _ ⟨wa1.heap.size, 0, none⟩ HY1.out.three.1))
    clear HX1 HY1 a0 a1 a2
    refine (HP3.out _ (Tabs7.below HT.out HB7.out)).mono ?_
    intro e wa3 hp
    obtain ⟨v3, rfl, ho, hb, hr, hh⟩ := HF3.out _ _ _ hp
    obtain ⟨A3, m3, cA3, hvs⟩ : ∃ A m cA, v3 = .slice A m cA := by obtain ⟨A, cA, hvs, -⟩ := ho.rgs; exact ⟨_, _, _, hvs⟩
    subst hvs
    have HBa3 := Lib.hid (HB7.out.trans (hb.mono HB7.out.size))
    replace HZ := Lib.hid (HZ.out.below hb (World.block_lt_of_cell? _ ⟨wa1.heap.size, 0, none⟩ HZ.out.three.1))
    have RA3 := Lib.hid ho.rgs; have RR3 := Lib.hid hr; have HA3 := Lib.hid hh
    clear hb hp ho hr hh
    obtain ⟨wb3, hw⟩ : ∃ W, wa3.alloc (.cells #[.int .i64 x3, .int .i64 y3, .int .i64 z3] 27) = W := ⟨_, rfl⟩
    have hb : Below wa3.heap.size wa3 wb3 := by rw [← hw]; exact (Below.refl _ wa3).alloc (Nat.le_refl _) _
    have HB3 := Lib.hid (HBa3.out.trans (hb.mono HBa3.out.size))
    have HS3 := Lib.hid (show wb3.heap.size = wa3.heap.size + 1 by rw [← hw]; simp)
    have HX3 := Lib.hid (show Whole wb3 wa3.heap.size 27 #[.int .i64 x3, .int .i64 y3, .int .i64 z3] by rw [← hw]; exact heap_alloc_new wa3 _)
    have G3 := Lib.hid (RA3.out.below hb)
    replace HZ := Lib.hid (HZ.out.below hb (World.block_lt_of_cell? _ ⟨wa1.heap.size, 0, none⟩ HZ.out.three.1))
    have HW3 := Lib.hid hw
    clear hb hw
    go_upto_region 9 with (fail)
    rw [HW3.out]
    have HOC := Lib.hid (show ∀ y, y ∈ orbR c → (HasR l3 y ↔ HasR l3 c) from fun y hy => orbit_closed (HA3.out all kk HR1.out) hy)
    go_wp2_with fail
    refine (rorbit_any c _ HC.out).mono ?_
    rintro e w8 ⟨v8, rfl, ho, hb⟩
    have HB8 := Lib.hid (HB3.out.trans (hb.mono HB3.out.size))
    have HZ8 := Lib.hid (HZ.out.below hb (World.block_lt_of_cell? _ ⟨wa1.heap.size, 0, none⟩ HZ.out.three.1))
    have HX8 := Lib.hid (HX3.out.below hb (World.block_lt_of_cell? _ ⟨wa3.heap.size, 0, none⟩ HX3.out.three.1))
    have HN8 := Lib.hid ho.rns
    have G8 := Lib.hid (G3.out.below hb)
    obtain ⟨og, hog⟩ : ∃ og, orbR c = og := ⟨_, rfl⟩
    rw [hog] at HN8 HOC
    obtain ⟨ao, co, hvo, -⟩ := HN8.out
    subst hvo
    clear ho hb hog
    go_wp2_with fail
    go_loopw [18] (fun vi wr => ∃ k : Nat, k ≤ og.length ∧ vi = .int .i64 k ∧ ∃ q, wr = w8.drewN q) (fun vi _ => og.length - (intOf vi).toNat)
    case atStart => exact ⟨0, Nat.zero_le _, rfl, 0, rfl⟩
    case round =>
      obtain ⟨k, hk, rfl, qq, rfl⟩ := hrel
      by_cases hkl : k < og.length
      · obtain ⟨a3, c3, e, g3, g4, -, f5, f6⟩ := HN8.out
        have hlen : og.length ≤ 9223372036854775807 := by unfold maxLen at g4; omega
        injection e with e1 e2 e3
        subst e1 e3
        rcases f5 with f5 | ⟨b3, o3, rfl, f7⟩
        · rw [f5] at hkl
          simp at hkl
        obtain ⟨y, hy⟩ : ∃ y, og[k] = y := ⟨_, rfl⟩
        have cy := f7 k hkl
        have hym : og[k] ∈ og := List.getElem_mem hkl
        rw [hy] at cy hym
        have HIF := Lib.hid (HOC.out y hym)
        have hwk : IntKind.i64.wrap ((k : Int) + 1) = (k : Int) + 1 := wrap_in _ (by omega)
        clear hy hym f6 f7 e2 g3 g4
        go_wp2_with fail
        refine (rhas_any _ l3 y _ (G8.out.below (drewN_below w8 qq))).mono ?_
        rintro e w9 ⟨B1, rfl, h1, q1, rfl⟩
        have H1 := Lib.hid h1
        clear h1
        go_wp2_with fail
        refine (rhas_any _ l3 c _ (G8.out.below (drewN_below w8 _))).mono ?_
        rintro e w10 ⟨B2, rfl, h2, q2, rfl⟩
        obtain rfl : B1 = B2 := by rw [Bool.eq_iff_iff, H1.out, h2]; exact HIF.out
        obtain ⟨q3, hq3⟩ : ∃ q3, (w8.drewN (qq + q1)).drewN q2 = w8.drewN q3 := ⟨_, World.drewN_drewN _ _ _⟩
        rw [hq3]
        clear h2 H1 HIF hq3
        cases B1 <;>
        · go_wp2
          exact ⟨⟨k + 1, by omega, rfl, q3, rfl⟩, by simp only [intOf]; omega⟩
      · obtain ⟨p0, p1, p2, -, -, -⟩ := HZ8.out.three
        obtain ⟨r0, r1, r2, -, -, -⟩ := HX8.out.three
        go_wp2
        go_ret
        exact ⟨rfl, below_drewNr HB8.out qq⟩
end Go.Proofs.YtmaigjdmjmonbaaGreatDoor
