/- Texts merged by program. No condition. -/
import Derived.Test.YthnddabcmhplkaaGreatDoorK34
import Derived.Test.YthnddabcmhplkaaGreatDoorK36
import Derived.Test.YthnddabcmhplkaaGreatDoorK37
import Derived.Test.YthnddabcmhplkaaGreatDoorK40
set_option maxHeartbeats 6400000
set_option maxRecDepth 100000
set_option linter.unusedVariables false
namespace Go.Proofs.YthnddabcmhplkaaGreatDoor
open Go Go.RowKit
theorem third_cell (w : World) (a b : Obj) (c : Array Value) (t : TypeId) : Whole (((w.alloc a).alloc b).alloc (.cells c t)) (w.heap.size + 1 + 1) t c := by
 have h := heap_alloc_new ((w.alloc a).alloc b) (.cells c t)
 rw [World.size_alloc,World.size_alloc] at h
 exact h
theorem pclass_any (s : ByteArray) (i : Nat) (f : Int) (w : World) (hs : s.size ≤ 900000) (hi : i ≤ s.size) (hT : Lib.Utf8Tabs 0 1 w) (hT0 : TabsT w) :
  Calls Tryz.prog 43 #[.string s,.int .i64 i,.int .i64 f] w (ClassPost (classS s i (flagB f 32)) (flagB f 1) (notB s i) w) := by
 obtain ⟨p,hp⟩ : ∃ p,(bits .and .i64 f 32 != 0) = p := ⟨_,rfl⟩
 obtain ⟨fo,hfo⟩ : ∃ p,(bits .and .i64 f 1 != 0) = p := ⟨_,rfl⟩
 rw [show flagB f 32 = p from hp,show flagB f 1 = fo from hfo]
 have hs' : s.size ≤ 4503599627370496 := by omega
 have hmf : ∀ (fn : Fn) (first cap : Array Value) (w : World),(Instr.makeFunc fn first cap).run Tryz.prog w = .ok (.func fn first cap) w := fun _ _ _ _ => rfl
 obtain ⟨w3,hw3⟩ : ∃ w3,((w.alloc (.cells #[.string s] 9)).alloc (.cells #[.int .i64 i] 3)).alloc (.cells #[.int .i64 0,.int .i64 0,.int .i64 0] 32) = w3 := ⟨_,rfl⟩
 have hb3 : Below w.heap.size w w3 := by rw [← hw3];exact (((Below.refl _ w).alloc (Nat.le_refl _) _).alloc (by simp) _).alloc (by simp;omega) _
 have hz3 : w3.heap.size = w.heap.size + 1 + 1 + 1 := by rw [← hw3];simp
 have hE0 : Whole w3 w.heap.size 9 #[.string s] := by rw [← hw3];exact Whole.alloc (Whole.alloc (heap_alloc_new w _) _) _
 have hE1 : Whole w3 (w.heap.size + 1) 3 #[.int .i64 i] := by rw [← hw3];exact Whole.alloc (second_new w _ _ _) _
 have hE2 : Whole w3 (w.heap.size + 1 + 1) 32 #[.int .i64 0,.int .i64 0,.int .i64 0] := by rw [← hw3];exact third_cell w _ _ _ _
 have HW3 := Hd hw3;have HB3 := Hd hb3;have HZ3 := Hd hz3;have HE0 := Hd hE0;have HE1 := Hd hE1;have HE2 := Hd hE2;have HT := Hd hT;have HT0 := Hd hT0
 clear hw3 hb3 hz3 hE0 hE1 hE2 hT hT0
 go_enter_defers Tryz.func43,Tryz.ntmps43
 go_wp2_with fail
 rw [HW3.out]
 refine (pbAt_any s i w3 hs' hi).mono ?_
 rintro e w4 ⟨rfl,hb4⟩
 obtain ⟨q,hq⟩ : ∃ q,w4.heap.size = q := ⟨_,rfl⟩
 obtain ⟨w5,hw5⟩ : ∃ w5,w4.alloc (.cells #[.string s,.int .i64 i,.bool p,.slice none 0 0] 110) = w5 := ⟨_,rfl⟩
 have hB3 : w3.heap.size ≤ q := by rw [← hq];exact hb4.size
 have HW5 := Hd hw5;have HQ := Hd hq;have HBQ := Hd hB3
 have HR5 := Hd (show RdSt w5 w3.heap.size q p s (.slice none 0 0) [] i from ⟨by rw [← hw5,← hq];exact heap_alloc_new w4 _,own_none _ _⟩)
 have HB5 := Hd (show Below w3.heap.size w3 w5 by rw [← hw5];exact hb4.alloc hb4.size _)
 clear hb4 hw5 hq hB3
 go_upto_region 3 with (fail)
 rw [HW5.out,HQ.out]
 clear HW5 HQ
 have hpre : preB (⟨#[91]⟩ : ByteArray).toList (leftB s i) = decide (headI (leftB s i) = 91) := by
  rw [show (⟨#[91]⟩ : ByteArray).toList = [91] by kernel_rfl]
  exact pre_one 91 s i
 by_cases h91 : headI (leftB s i) = 91
 rotate_left
 ·have HT1 := Hd (pbTake_no q _ _ s ⟨#[91]⟩ i w5 hs' (by decide) hi HR5.out.rd (hpre.trans (decide_eq_false h91)))
  have HC := Hd (show classS s i p = .bad 1 i i by unfold classS;rw [if_pos h91])
  clear hpre h91
  go_wp2_with fail
  refine HT1.out.mono ?_
  rintro e w6 ⟨rfl,ht⟩
  have HB6 := Hd (ht.below HB5.out HB5.out.size HBQ.out)
  have HF0 := Hd (HE0.out.below HB6.out HE0.out.lt);have HF1 := Hd (HE1.out.below HB6.out HE1.out.lt);have HF2 := Hd (HE2.out.below HB6.out HE2.out.lt)
  clear ht
  have e1 : w6.cell? ⟨w.heap.size + 1,0,none⟩ = some (.int .i64 i) := HF1.out.cell 0
  obtain ⟨g0,g1,g2,m0,m1,m2⟩ := HF2.out.three
  go_wp2_with fail
  go_region
  go_wp2_with fail
  refine leaves_cons (f := 62) (args := #[.pointer (some ⟨w.heap.size + 1 + 1,0,none⟩),.pointer (some ⟨w.heap.size + 1,0,none⟩),.pointer (some ⟨w.heap.size,0,none⟩)]) (by simp) (by simp [go_sem]) ?_
  refine (catch_idle _ _ _ _).mono ?_
  rintro e u' w'' ⟨rfl,rfl,rfl⟩
  refine ⟨_,results_ttw Tryz.results43 _ rfl (Whole.drew (set3_whole HF2.out _ _ _)) rfl,?_⟩
  unfold ClassPost
  rw [HC.out]
  exact ⟨Below.drew (set3_below (HB3.out.trans (HB6.out.mono HB3.out.size)) (by omega) _ _ _),rfl⟩
 ·have HT1 := Hd (pbTake_yes q _ _ s ⟨#[91]⟩ i w5 hs' (by decide) hi HR5.out.rd (hpre.trans (decide_eq_true h91)))
  have hlt := head_in (s := s) (i := i) (by omega)
  have hcl : classS s i p = itemsS s i p (s.size + 1) (i + 1 + (if notB s i then 1 else 0)) true [] := by
   unfold classS
   rw [if_neg (fun h => h h91)]
  have hpre2 : preB (⟨#[94]⟩ : ByteArray).toList (leftB s (i + 1)) = notB s i := by
   rw [show (⟨#[94]⟩ : ByteArray).toList = [94] by kernel_rfl]
   exact pre_one 94 s (i + 1)
  have hjn : i + 1 + (if notB s i then 1 else 0) ≤ s.size := by
   by_cases h : notB s i = true
   ·rw [if_pos h]
    have := head_in (s := s) (i := i + 1) (by have := of_decide_eq_true h;omega)
    omega
   ·rw [if_neg h]
    omega
  obtain ⟨nb,hnb⟩ : ∃ nb,notB s i = nb := ⟨_,rfl⟩
  rw [hnb] at hcl hpre2 hjn
  have HNB := Hd hnb
  have HTN := fun W hr => (pbTake_any q 110 [.bool p,.slice none 0 0] s ⟨#[94]⟩ (i + 1) W hs' (by decide) (by omega) hr).mono (fun e w' ⟨b,hb,he,ht⟩ => show e = Ending.returned (.bool nb) ∧ Took q 110 [.bool p,.slice none 0 0] s (i + 1 + (if nb then 1 else 0)) W w' by
   have hbn : b = nb := hb.symm.trans hpre2
   subst hbn
   refine ⟨he,?_⟩
   cases b
   ·exact ht
   ·exact ht)
  have HTN := Hd HTN
  obtain ⟨j,hj⟩ : ∃ j,i + 1 + (if nb then 1 else 0) = j := ⟨_,rfl⟩
  rw [hj] at hcl hjn HTN
  have HC := Hd hcl;have HJ := Hd hjn
  clear hpre h91 hlt hcl hpre2 hjn hnb hj
  go_wp2_with fail
  refine HT1.out.mono ?_
  rintro e w6 ⟨rfl,ht⟩
  have HR6 := Hd (HR5.out.took ht);have HB6 := Hd (ht.below HB5.out HB5.out.size HBQ.out)
  clear ht
  go_wp2_with fail
  refine (HTN.out w6 HR6.out.rd).mono ?_
  rintro e w7 ⟨rfl,ht⟩
  have HR7 := Hd (HR6.out.took ht);have HB7 := Hd (ht.below HB6.out HB6.out.size HBQ.out)
  clear ht
  have HIT := Hd (pbItems_any w3.heap.size q p s i j w7 hs HJ.out HR7.out HB7.out.size HBQ.out (fun W hb => Utf8Tabs_below HT.out (HB3.out.trans ((HB7.out.trans hb).mono HB3.out.size))))
  obtain ⟨R,hR⟩ : ∃ R,itemsS s i p (s.size + 1) j true [] = R := ⟨_,rfl⟩
  rw [hR] at HIT HC
  clear hR
  go_wp2_with fail
  refine HIT.out.mono ?_
  rintro e w8 ⟨hb8,hres⟩
  have HB8 := Hd (HB7.out.trans hb8)
  have HG2 := Hd (HE2.out.below HB8.out HE2.out.lt)
  have HG1 := Hd (HE1.out.below HB8.out HE1.out.lt)
  have HG0 := Hd (HE0.out.below HB8.out HE0.out.lt)
  clear hb8 HIT HTN HT1
  cases R with
  | bad c a b =>
   obtain ⟨V,he,hV⟩ := hres
   unfold thrown at he
   subst he
   go_wp2_with fail
   refine leaves_cons (f := 62) (args := #[.pointer (some ⟨w.heap.size + 1 + 1,0,none⟩),.pointer (some ⟨w.heap.size + 1,0,none⟩),.pointer (some ⟨w.heap.size,0,none⟩)]) (by simp) (by simp [go_sem]) ?_
   rcases hV with hV | ⟨hV,hc,ha,hb⟩
   ·unfold wrongV at hV
    subst hV
    refine (catch_wrong _ _ _ 0 0 0 c a b [] w8 HG2.out).mono ?_
    rintro e u' w9 ⟨rfl,rfl,hW,hg⟩
    refine ⟨_,results_ttw Tryz.results43 _ rfl hW rfl,?_⟩
    unfold ClassPost
    rw [HC.out]
    exact ⟨(HB3.out.trans (HB8.out.mono HB3.out.size)).grown hg (Nat.le_trans HB3.out.size HB8.out.size) (fun k e => by cases e;omega),rfl⟩
   ·subst hV hc ha hb
    refine (catch_ended _ _ _ s a 0 0 0 [] w8 HG2.out (HG1.out.cell 0) (HG0.out.cell 0)).mono ?_
    rintro e u' w9 ⟨rfl,rfl,hW,hg⟩
    refine ⟨_,results_ttw Tryz.results43 _ rfl hW rfl,?_⟩
    unfold ClassPost
    rw [HC.out]
    exact ⟨(HB3.out.trans (HB8.out.mono HB3.out.size)).grown hg (Nat.le_trans HB3.out.size HB8.out.size) (fun k e => by cases e;omega),rfl⟩
  | item all n =>
   obtain ⟨v8,ls,sp,rfl,hls,hfl,hlen,hns,hr8⟩ := hres
   have htot : totL ls ≤ 134217728 := by rw [← flat_length,hfl];omega
   have HCC := Hd (concat_any v8 ls w8 hls (by omega))
   rw [hfl] at HCC
   have HR8 := Hd hr8;have HQZ := Hd (show w3.heap.size ≤ w8.heap.size from HB8.out.size)
   have HLEN8 := Hd (show all.length ≤ 134217728 by omega)
   obtain ⟨b8,o8,c8,hv8,-⟩ := hls
   subst hv8
   clear hfl hlen hns hr8 htot
   go_wp2_with fail
   refine HCC.out.mono ?_
   rintro e w9 ⟨v9,rfl,ho9,hb9⟩
   have HB9 := Hd (HB8.out.trans (hb9.mono HB8.out.size));have HO9 := Hd ho9;have HBZ9 := Hd hb9
   clear ho9 hb9 HCC
   have HNN := Hd (norm_any v9 all w9 HO9.out.rgs HLEN8.out)
   obtain ⟨A9,c9,hv9,-⟩ := HO9.out.rgs
   subst hv9
   go_wp2_with fail
   refine HNN.out.mono ?_
   rintro e w10 ⟨v10,k10,rfl,ho,hr,hh,hb⟩
   have HB10 := Hd (HB9.out.trans (hb.mono HB9.out.size));have HO10 := Hd (ho.mono HBZ9.out.size);have HK10 := Hd hr;have HH10 := Hd hh;have HBZ10 := Hd (HBZ9.out.trans (hb.mono HBZ9.out.size))
   have HLEN10 := Hd (show k10.length ≤ 1114112 by have := right_len k10 0 (by omega) hr;omega)
   clear ho hr hh hb HNN
   cases fo <;> cases nb
   ·go_wp2_with fail
    have HRN := Hd (HR8.out.below HBZ10.out)
    have HF10 := Hd (HE2.out.below HB10.out (by have := HZ3.out;omega))
    have d1 := HRN.out.c1
    obtain ⟨g0,g1,g2,m0,m1,m2⟩ := HF10.out.three
    go_wp2_with fail
    go_region
    go_wp2_with fail
    refine leaves_cons (f := 62) (args := #[.pointer (some ⟨w.heap.size + 1 + 1,0,none⟩),.pointer (some ⟨w.heap.size + 1,0,none⟩),.pointer (some ⟨w.heap.size,0,none⟩)]) (by simp) (by simp [go_sem]) ?_
    refine (catch_idle _ _ _ _).mono ?_
    rintro e u' w'' ⟨rfl,rfl,rfl⟩
    refine ⟨_,results_ttw Tryz.results43 _ rfl (Whole.drew (set3_whole HF10.out _ _ _)) rfl,?_⟩
    unfold ClassPost
    rw [HC.out]
    refine ⟨Below.drew (set3_below (HB3.out.trans (HB10.out.mono HB3.out.size)) (by omega) _ _ _),_,k10,rfl,OwnR.below (own_set3 (HO10.out.mono (by have := HB3.out.size;have := HBQ.out;have := HQZ.out;omega)) (fun g hg => by have := own_ge HO10.out g hg;have := HZ3.out;have := HBQ.out;have := HQZ.out;omega) _ _ _) (Below.refl _ _).drew,HK10.out,fun c => ?_⟩
    unfold ClassHas FoldHas
    rw [HNB.out,if_neg (by decide),if_neg (by decide),HH10.out c]
   ·go_wp2_with fail
    refine (not_any v10 k10 w10 HO10.out.rgs (by have := HLEN10.out;omega)).mono ?_
    rintro e w12 ⟨v12,k12,rfl,ho,hr,hh,hb⟩
    have HB12 := Hd (HB10.out.trans (hb.mono HB10.out.size));have HO12 := Hd (ho.mono HBZ10.out.size);have HK12 := Hd hr;have HH12 := Hd hh;have HBZ12 := Hd (HBZ10.out.trans (hb.mono HBZ10.out.size))
    clear ho hr hh hb
    have HRN := Hd (HR8.out.below HBZ12.out)
    have HF12 := Hd (HE2.out.below HB12.out (by have := HZ3.out;omega))
    have d1 := HRN.out.c1
    obtain ⟨g0,g1,g2,m0,m1,m2⟩ := HF12.out.three
    go_wp2_with fail
    go_region
    go_wp2_with fail
    refine leaves_cons (f := 62) (args := #[.pointer (some ⟨w.heap.size + 1 + 1,0,none⟩),.pointer (some ⟨w.heap.size + 1,0,none⟩),.pointer (some ⟨w.heap.size,0,none⟩)]) (by simp) (by simp [go_sem]) ?_
    refine (catch_idle _ _ _ _).mono ?_
    rintro e u' w'' ⟨rfl,rfl,rfl⟩
    refine ⟨_,results_ttw Tryz.results43 _ rfl (Whole.drew (set3_whole HF12.out _ _ _)) rfl,?_⟩
    unfold ClassPost
    rw [HC.out]
    refine ⟨Below.drew (set3_below (HB3.out.trans (HB12.out.mono HB3.out.size)) (by omega) _ _ _),_,k12,rfl,OwnR.below (own_set3 (HO12.out.mono (by have := HB3.out.size;have := HBQ.out;have := HQZ.out;omega)) (fun g hg => by have := own_ge HO12.out g hg;have := HZ3.out;have := HBQ.out;have := HQZ.out;omega) _ _ _) (Below.refl _ _).drew,HK12.out,fun c => ?_⟩
    unfold ClassHas FoldHas
    rw [HNB.out,if_pos rfl,if_neg (by decide),HH12.out c,HH10.out c]
   ·go_wp2_with fail
    refine (fold_any v10 k10 w10 HO10.out.rgs HLEN10.out (HT0.out.below (HB3.out.trans (HB10.out.mono HB3.out.size)))).mono ?_
    rintro e w11 ⟨v11,k11,rfl,ho,hr,hh,hb⟩
    have HB11 := Hd (HB10.out.trans (hb.mono HB10.out.size));have HO11 := Hd (ho.mono HBZ10.out.size);have HK11 := Hd hr;have HH11 := Hd hh;have HBZ11 := Hd (HBZ10.out.trans (hb.mono HBZ10.out.size))
    have HLEN11 := Hd (show k11.length ≤ 134217728 by have := right_len k11 0 (by omega) hr;omega)
    clear ho hr hh hb
    have HRN := Hd (HR8.out.below HBZ11.out)
    have HF11 := Hd (HE2.out.below HB11.out (by have := HZ3.out;omega))
    have d1 := HRN.out.c1
    obtain ⟨g0,g1,g2,m0,m1,m2⟩ := HF11.out.three
    go_wp2_with fail
    go_region
    go_wp2_with fail
    refine leaves_cons (f := 62) (args := #[.pointer (some ⟨w.heap.size + 1 + 1,0,none⟩),.pointer (some ⟨w.heap.size + 1,0,none⟩),.pointer (some ⟨w.heap.size,0,none⟩)]) (by simp) (by simp [go_sem]) ?_
    refine (catch_idle _ _ _ _).mono ?_
    rintro e u' w'' ⟨rfl,rfl,rfl⟩
    refine ⟨_,results_ttw Tryz.results43 _ rfl (Whole.drew (set3_whole HF11.out _ _ _)) rfl,?_⟩
    unfold ClassPost
    rw [HC.out]
    refine ⟨Below.drew (set3_below (HB3.out.trans (HB11.out.mono HB3.out.size)) (by omega) _ _ _),_,k11,rfl,OwnR.below (own_set3 (HO11.out.mono (by have := HB3.out.size;have := HBQ.out;have := HQZ.out;omega)) (fun g hg => by have := own_ge HO11.out g hg;have := HZ3.out;have := HBQ.out;have := HQZ.out;omega) _ _ _) (Below.refl _ _).drew,HK11.out,fun c => ?_⟩
    unfold ClassHas FoldHas
    rw [HNB.out,if_neg (by decide),if_pos rfl,HH11.out c,fold_same HH10.out c]
    rfl
   ·go_wp2_with fail
    refine (fold_any v10 k10 w10 HO10.out.rgs HLEN10.out (HT0.out.below (HB3.out.trans (HB10.out.mono HB3.out.size)))).mono ?_
    rintro e w11 ⟨v11,k11,rfl,ho,hr,hh,hb⟩
    have HB11 := Hd (HB10.out.trans (hb.mono HB10.out.size));have HO11 := Hd (ho.mono HBZ10.out.size);have HK11 := Hd hr;have HH11 := Hd hh;have HBZ11 := Hd (HBZ10.out.trans (hb.mono HBZ10.out.size))
    have HLEN11 := Hd (show k11.length ≤ 134217728 by have := right_len k11 0 (by omega) hr;omega)
    clear ho hr hh hb
    go_wp2_with fail
    refine (not_any v11 k11 w11 HO11.out.rgs (by have := HLEN11.out;omega)).mono ?_
    rintro e w12 ⟨v12,k12,rfl,ho,hr,hh,hb⟩
    have HB12 := Hd (HB11.out.trans (hb.mono HB11.out.size));have HO12 := Hd (ho.mono HBZ11.out.size);have HK12 := Hd hr;have HH12 := Hd hh;have HBZ12 := Hd (HBZ11.out.trans (hb.mono HBZ11.out.size))
    clear ho hr hh hb
    have HRN := Hd (HR8.out.below HBZ12.out)
    have HF12 := Hd (HE2.out.below HB12.out (by have := HZ3.out;omega))
    have d1 := HRN.out.c1
    obtain ⟨g0,g1,g2,m0,m1,m2⟩ := HF12.out.three
    go_wp2_with fail
    go_region
    go_wp2_with fail
    refine leaves_cons (f := 62) (args := #[.pointer (some ⟨w.heap.size + 1 + 1,0,none⟩),.pointer (some ⟨w.heap.size + 1,0,none⟩),.pointer (some ⟨w.heap.size,0,none⟩)]) (by simp) (by simp [go_sem]) ?_
    refine (catch_idle _ _ _ _).mono ?_
    rintro e u' w'' ⟨rfl,rfl,rfl⟩
    refine ⟨_,results_ttw Tryz.results43 _ rfl (Whole.drew (set3_whole HF12.out _ _ _)) rfl,?_⟩
    unfold ClassPost
    rw [HC.out]
    refine ⟨Below.drew (set3_below (HB3.out.trans (HB12.out.mono HB3.out.size)) (by omega) _ _ _),_,k12,rfl,OwnR.below (own_set3 (HO12.out.mono (by have := HB3.out.size;have := HBQ.out;have := HQZ.out;omega)) (fun g hg => by have := own_ge HO12.out g hg;have := HZ3.out;have := HBQ.out;have := HQZ.out;omega) _ _ _) (Below.refl _ _).drew,HK12.out,fun c => ?_⟩
    unfold ClassHas FoldHas
    rw [HNB.out,if_pos rfl,if_pos rfl,HH12.out c,HH11.out c,fold_same HH10.out c]
    rfl
def Tabs7 (w : World) : Prop := Lib.Utf8Tabs 0 1 w ∧ TabsT w
theorem Tabs7.below {w w' : World} (h : Tabs7 w) (hb : Below w.heap.size w w') : Tabs7 w' := ⟨Utf8Tabs_below h.1 hb,h.2.below hb⟩
theorem pclass7_any (s : ByteArray) (i : Nat) (f : Int) (w : World) (hs : s.size ≤ 900000) (hi : i ≤ s.size) (hT : Tabs7 w) :
  Calls Tryz.prog 43 #[.string s,.int .i64 i,.int .i64 f] w (ClassPost (classS s i (flagB f 32)) (flagB f 1) (notB s i) w) := pclass_any s i f w hs hi hT.1 hT.2
end Go.Proofs.YthnddabcmhplkaaGreatDoor
