/- Texts merged by program. No condition. -/
import Derived.Test.YthnddabcmhplkaaGreatDoorK11
import Derived.Test.YthnddabcmhplkaaGreatDoorK49
set_option maxHeartbeats 6400000
set_option maxRecDepth 100000
set_option linter.unusedVariables false
namespace Go.Proofs.YthnddabcmhplkaaGreatDoor
open Go Go.RowKit
attribute [local go_sem] jump_ret jump_normal jump_exit jump_goto
theorem RdIn.four {W : World} {q : Nat} {t : TypeId} {r : List Value} {s : ByteArray} {j : Nat} (h : RdIn W q t r s j) : W.cell? ⟨q,0,none⟩ = some (.string s) ∧ W.cell? ⟨q,1,none⟩ = some (.int .i64 j) ∧ W.frozen? ⟨q,0,none⟩ = false ∧ W.frozen? ⟨q,1,none⟩ = false := ⟨h.c0,h.c1,h.f0,h.f1⟩
theorem RdIn.again {W : World} {q : Nat} {t : TypeId} {r : List Value} {s : ByteArray} {j : Nat} (h : RdIn W q t r s j) (k : Nat) : RdIn ((W.setCell ⟨q,0,none⟩ (.string s)).setCell ⟨q,1,none⟩ (.int .i64 k)) q t r s k := by
 have := (Whole.store h 0 (.string s)).store 1 (.int .i64 (k : Int))
 simpa [RdIn] using this
theorem gt_skip : ∀ (a l : List UInt8),preB a l = true → (∀ c ∈ a,c ≠ 62) → gtN l = a.length + toN 62 (l.drop a.length)
 | [],l,_,_ => by simp [toN_gt]
 | c :: a,[],h,_ => by simp [preB] at h
 | c :: a,b :: l,h,hc => by
  have hb : b = c := by
   unfold preB at h
   exact List.head_eq_of_cons_eq (beq_iff_eq.1 h)
  have ht : preB a l = true := by
   unfold preB at h ⊢
   exact beq_iff_eq.2 (List.tail_eq_of_cons_eq (beq_iff_eq.1 h))
  have ih := gt_skip a l ht (fun x hx => hc x (List.mem_cons_of_mem _ hx))
  have hne : b.toNat ≠ 62 := fun e => hc c (by simp) (by rw [← hb];exact UInt8.toNat_inj.1 (by rw [e];rfl))
  rw [gtN,if_neg hne,ih,List.length_cons,List.drop_succ_cons]
  omega
theorem name_at {s : ByteArray} {i : Nat} (a : List UInt8) (hp : preB a (leftB s i) = true) (ha : ∀ c ∈ a,c ≠ 62) (hf : fromS s i = some (i + a.length)) :
  nameS s i = if i + a.length + toN 62 (leftB s (i + a.length)) < s.size ∧ nameB ((leftB s (i + a.length)).take (toN 62 (leftB s (i + a.length)))) = true then some ((leftB s (i + a.length)).take (toN 62 (leftB s (i + a.length))),i + a.length + toN 62 (leftB s (i + a.length)) + 1) else none := by
 have he : endS s i = i + a.length + toN 62 (leftB s (i + a.length)) := by
  unfold endS
  rw [gt_skip a _ hp ha,left_drop]
  omega
 unfold nameS
 rw [hf]
 dsimp only
 rw [he,Nat.add_sub_cancel_left]
 by_cases hc : i + a.length + toN 62 (leftB s (i + a.length)) < s.size ∧ nameB ((leftB s (i + a.length)).take (toN 62 (leftB s (i + a.length)))) = true
 ·rw [if_pos hc,if_pos ⟨hc.1,by omega,hc.2⟩]
 ·rw [if_neg hc,if_neg (fun h => hc ⟨h.1,h.2.2⟩)]
theorem pgroup_any (s : ByteArray) (i : Nat) (w : World) (hs : s.size ≤ 4503599627370496) (hi : i ≤ s.size) :
  Calls Tryz.prog 78 #[.string s,.int .i64 i] w (SNamePost s i w) := by
 obtain ⟨w1,hw1⟩ : ∃ w1,w.alloc (.cells #[.int .i64 0,.int .i64 0,.int .i64 0] 32) = w1 := ⟨_,rfl⟩
 have hE1 : Whole w1 w.heap.size 32 #[.int .i64 0,.int .i64 0,.int .i64 0] := by rw [← hw1];exact heap_alloc_new w _
 have hb1 : Below w.heap.size w w1 := by rw [← hw1];exact (Below.refl _ w).alloc (Nat.le_refl _) _
 have hs1 : w1.heap.size = w.heap.size + 1 := by rw [← hw1];simp
 have HW1 := Hd hw1;have HE1 := Hd hE1;have HB1 := Hd hb1;have HS1 := Hd hs1
 clear hw1 hE1 hb1 hs1
 obtain ⟨O,hO⟩ : ∃ O,nameS s i = O := ⟨_,rfl⟩
 obtain ⟨E,hE⟩ : ∃ E,endS s i = E := ⟨_,rfl⟩
 have hm : i + toN 62 (leftB s i) = E := by rw [← hE];unfold endS;rw [toN_gt]
 unfold SNamePost
 rw [hO,hE]
 have HO := Hd hO;have HM := Hd hm
 clear hO hE hm
 go_enter Tryz.func78,Tryz.ntmps78
 go_upto_region 1 with (fail)
 rw [HW1.out]
 refine wp_scope_fwd 0 rfl ?_
 go_wp2_with fail
 refine (preader_any s i _ hs hi).mono ?_
 rintro e w2 ⟨rfl,hb2⟩
 obtain ⟨w3,hw3⟩ : ∃ w3,w2.alloc (.cells #[.string s,.int .i64 i] 132) = w3 := ⟨_,rfl⟩
 have hR3 : RdIn w3 w2.heap.size 132 [] s i := by rw [← hw3];exact heap_alloc_new w2 _
 have hbb := HB1.out.trans (hb2.mono HB1.out.size)
 have hb3 : Below w.heap.size w w3 := by rw [← hw3];exact hbb.alloc hbb.size _
 have hE3 : Whole w3 w.heap.size 32 #[.int .i64 0,.int .i64 0,.int .i64 0] := by rw [← hw3];exact (HE1.out.below hb2 (by have := HS1.out;omega)).alloc _
 have hq : w.heap.size < w2.heap.size := Nat.lt_of_lt_of_le (by have := HS1.out;omega) hb2.size
 have HW3 := Hd hw3;have HR3 := Hd hR3;have HB2 := Hd hb3;have HE2 := Hd hE3
 clear hw3 hR3 hb3 hbb hb2 hE3 HW1 HB1 HE1 HS1
 go_upto_region 2 with (fail)
 rw [HW3.out]
 generalize w2.heap.size = q at HR3 hq ⊢
 have HQ := Hd hq;have HT3 := Hd (Took.none HR3.out)
 clear HW3 hq
 have HP := Hd (ptake_any q 132 [] s ⟨#[40,63,80,60]⟩ i w3 hs (by decide) hi HT3.out.2)
 unfold TakePost at HP
 rw [show (⟨#[40,63,80,60]⟩ : ByteArray).toList = [40,63,80,60] by kernel_rfl] at HP
 cases hp4 : preB [40,63,80,60] (leftB s i)
 ·rw [hp4] at HP
  go_wp2_with fail
  refine HP.out.mono ?_
  rintro e w4 ⟨b,rfl,rfl,ht4⟩
  have HT4 := Hd (show Took q 132 [] s i w3 w4 from ht4)
  clear ht4 HP
  have HP := Hd (ptake_any q 132 [] s ⟨#[40,63,60]⟩ i w4 hs (by decide) hi HT4.out.2)
  unfold TakePost at HP
  rw [show (⟨#[40,63,60]⟩ : ByteArray).toList = [40,63,60] by kernel_rfl] at HP
  cases hp3 : preB [40,63,60] (leftB s i)
  ·rw [hp3] at HP
   have HX := Hd (show O = none by rw [← HO.out];unfold nameS fromS;rw [hp4,hp3];rfl)
   clear hp4 hp3
   go_wp2_with fail
   refine HP.out.mono ?_
   rintro e w5 ⟨b,rfl,rfl,ht5⟩
   have HT5 := Hd (show Took q 132 [] s i w3 w5 from HT4.out.trans ht5)
   clear ht5 HP
   go_wp2_with fail
   go_step3
   refine ⟨rfl,?_⟩
   go_wp2_with fail
   refine (preader_any s i _ hs hi).mono ?_
   rintro e w9 ⟨rfl,hb9⟩
   have HR9 := Hd (HT5.out.2.below hb9)
   have HG9 := Hd (tk_trans HT5.out.1 (tk_below hb9 (some q)))
   obtain ⟨c0,c1,f0,f1⟩ := HR9.out.four
   obtain ⟨w10,hw10⟩ : ∃ w10,(w9.setCell ⟨q,0,none⟩ (.string s)).setCell ⟨q,1,none⟩ (.int .i64 i) = w10 := ⟨_,rfl⟩
   have HT10 := Hd (show Took q 132 [] s i w3 w10 by rw [← hw10];exact ⟨tk_trans HG9.out (tk_trans (tk_set _ _ _ _) (tk_set _ _ _ _)),HR9.out.again i⟩)
   have HW10 := Hd hw10
   clear hb9 hw10
   go_upto_region 9 with (fail)
   rw [HW10.out]
   clear c0 c1 f0 f1 HW10
   have HU := Hd (ptakeTo_any q 132 [] s 62 i w10 hs hi HT10.out.2)
   unfold ToPost at HU
   rw [HM.out] at HU
   go_wp2_with fail
   refine HU.out.mono ?_
   rintro e w11 ⟨b9,rfl,hb9,ht11⟩
   have HT11 := Hd (HT10.out.trans ht11)
   have HE11 := Hd (HT11.out.whole HE2.out (Nat.ne_of_lt HQ.out))
   obtain ⟨d0,d1,d2,z0,z1,z2⟩ := HE11.out.three
   have c1 := HT11.out.2.c1
   have x9 : ((min (E + 1) s.size : Nat) : Int) = min ((E : Int) + 1) s.size := by omega
   have HX9 := Hd x9
   clear ht11 HU hb9 x9
   go_wp2_with fail
   go_region
   go_wp2_with fail
   rw [Exit.noGoto_ret]
   refine bodyPost_ret (results_ttw Tryz.results78 _ rfl (set3_whole HE11.out _ _ _).drew rfl) rfl ?_
   exact ⟨(set3_below (HT11.out.below HB2.out HB2.out.size (Nat.le_of_lt HQ.out)) (Nat.le_refl _) _ _ _).drew,.inl ⟨HX.out,by rw [← HX9.out];rfl⟩⟩
  ·rw [hp3] at HP
   have hf : fromS s i = some (i + [(40 : UInt8),63,60].length) := by unfold fromS;rw [hp4,hp3];rfl
   have hn := name_at [40,63,60] hp3 (by decide) hf
   have hb := pre_fits hp3
   rw [left_length] at hb
   simp only [List.length_cons,List.length_nil,Nat.zero_add,Nat.reduceAdd] at hn hb
   have HNA := Hd hn
   have hi3 : i + 3 ≤ s.size := by omega
   clear hp4 hp3 hn hf hb
   go_wp2_with fail
   refine HP.out.mono ?_
   rintro e w5 ⟨b,rfl,rfl,ht5⟩
   have HT5 := Hd (show Took q 132 [] s (i + 3) w3 w5 from HT4.out.trans ht5)
   clear ht5 HP
   have HXR := Hd (show O = (if i + 3 + toN 62 (leftB s (i + 3)) < s.size ∧ nameB ((leftB s (i + 3)).take (toN 62 (leftB s (i + 3)))) = true then some ((leftB s (i + 3)).take (toN 62 (leftB s (i + 3))),i + 3 + toN 62 (leftB s (i + 3)) + 1) else none) from HO.out.symm.trans (HNA.out))
   have HU := Hd (ptakeTo_any q 132 [] s 62 (i + 3) _ hs hi3 HT5.out.2)
   unfold ToPost at HU
   obtain ⟨k,hk⟩ : ∃ k,toN 62 (leftB s (i + 3)) = k := ⟨_,rfl⟩
   rw [hk] at HU HXR
   clear hk
   go_wp2_with fail
   refine HU.out.mono ?_
   rintro e w6 ⟨nb,rfl,hnb,ht6⟩
   have HT6 := Hd (HT5.out.trans ht6);have HNB := Hd hnb
   clear ht6 hnb HU
   have HT7 := HT6
   by_cases hkl : i + 3 + k < s.size
   ·rw [decide_eq_true hkl]
    rw [← HNB.out] at HXR
    have hsz : nb.size ≤ 4503599627370496 := by
     have h1 : nb.toList.length = nb.size := by rw [Lib.toList_data,← Lib.size_eq]
     have h2 := congrArg List.length HNB.out
     rw [List.length_take,left_length] at h2
     omega
    have HN := Hd (pisname_any nb w6 hsz)
    obtain ⟨B,hB⟩ : ∃ B,nameB nb.toList = B := ⟨_,rfl⟩
    rw [hB] at HN HXR
    clear hB
    go_wp2_with fail
    refine HN.out.mono ?_
    rintro e w7 ⟨rfl,hb7⟩
    have HT7 := Hd (show Took q 132 [] s _ w3 w7 from ⟨tk_trans HT6.out.1 (tk_below hb7 _),HT6.out.2.below hb7⟩)
    clear hb7 HN
    cases B
    ·have HX := Hd (HXR.out.trans (if_neg (fun h => absurd h.2 (by decide))))
     clear HXR
     go_wp2_with fail
     go_step3
     refine ⟨rfl,?_⟩
     go_wp2_with fail
     refine (preader_any s i _ hs hi).mono ?_
     rintro e w9 ⟨rfl,hb9⟩
     have HR9 := Hd (HT7.out.2.below hb9)
     have HG9 := Hd (tk_trans HT7.out.1 (tk_below hb9 (some q)))
     obtain ⟨c0,c1,f0,f1⟩ := HR9.out.four
     obtain ⟨w10,hw10⟩ : ∃ w10,(w9.setCell ⟨q,0,none⟩ (.string s)).setCell ⟨q,1,none⟩ (.int .i64 i) = w10 := ⟨_,rfl⟩
     have HT10 := Hd (show Took q 132 [] s i w3 w10 by rw [← hw10];exact ⟨tk_trans HG9.out (tk_trans (tk_set _ _ _ _) (tk_set _ _ _ _)),HR9.out.again i⟩)
     have HW10 := Hd hw10
     clear hb9 hw10
     go_upto_region 9 with (fail)
     rw [HW10.out]
     clear c0 c1 f0 f1 HW10
     have HU := Hd (ptakeTo_any q 132 [] s 62 i w10 hs hi HT10.out.2)
     unfold ToPost at HU
     rw [HM.out] at HU
     go_wp2_with fail
     refine HU.out.mono ?_
     rintro e w11 ⟨b9,rfl,hb9,ht11⟩
     have HT11 := Hd (HT10.out.trans ht11)
     have HE11 := Hd (HT11.out.whole HE2.out (Nat.ne_of_lt HQ.out))
     obtain ⟨d0,d1,d2,z0,z1,z2⟩ := HE11.out.three
     have c1 := HT11.out.2.c1
     have x9 : ((min (E + 1) s.size : Nat) : Int) = min ((E : Int) + 1) s.size := by omega
     have HX9 := Hd x9
     clear ht11 HU hb9 x9
     go_wp2_with fail
     go_region
     go_wp2_with fail
     rw [Exit.noGoto_ret]
     refine bodyPost_ret (results_ttw Tryz.results78 _ rfl (set3_whole HE11.out _ _ _).drew rfl) rfl ?_
     exact ⟨(set3_below (HT11.out.below HB2.out HB2.out.size (Nat.le_of_lt HQ.out)) (Nat.le_refl _) _ _ _).drew,.inl ⟨HX.out,by rw [← HX9.out];rfl⟩⟩
    ·have HX := Hd (HXR.out.trans (if_pos ⟨hkl,rfl⟩))
     clear HXR
     have HE9 := Hd (HT7.out.whole HE2.out (Nat.ne_of_lt HQ.out))
     obtain ⟨d0,d1,d2,z0,z1,z2⟩ := HE9.out.three
     have c1 := HT7.out.2.c1
     have x9 : min (i + 3 + k + 1) s.size = i + 3 + k + 1 := by omega
     rw [x9] at c1
     clear x9 hsz
     go_wp2_with fail
     go_region
     go_wp2_with fail
     rw [jump_ret]
     refine bodyPost_ret (results_ttw Tryz.results78 _ rfl (set3_whole HE9.out _ _ _).drew rfl) rfl ?_
     exact ⟨(set3_below (HT7.out.below HB2.out HB2.out.size (Nat.le_of_lt HQ.out)) (Nat.le_refl _) _ _ _).drew,.inr ⟨_,_,nb,HX.out,rfl,rfl⟩⟩
   ·rw [decide_eq_false hkl]
    have HX := Hd (HXR.out.trans (if_neg (fun h => hkl h.1)))
    clear HXR
    go_wp2_with fail
    go_step3
    refine ⟨rfl,?_⟩
    go_wp2_with fail
    refine (preader_any s i _ hs hi).mono ?_
    rintro e w9 ⟨rfl,hb9⟩
    have HR9 := Hd (HT7.out.2.below hb9)
    have HG9 := Hd (tk_trans HT7.out.1 (tk_below hb9 (some q)))
    obtain ⟨c0,c1,f0,f1⟩ := HR9.out.four
    obtain ⟨w10,hw10⟩ : ∃ w10,(w9.setCell ⟨q,0,none⟩ (.string s)).setCell ⟨q,1,none⟩ (.int .i64 i) = w10 := ⟨_,rfl⟩
    have HT10 := Hd (show Took q 132 [] s i w3 w10 by rw [← hw10];exact ⟨tk_trans HG9.out (tk_trans (tk_set _ _ _ _) (tk_set _ _ _ _)),HR9.out.again i⟩)
    have HW10 := Hd hw10
    clear hb9 hw10
    go_upto_region 9 with (fail)
    rw [HW10.out]
    clear c0 c1 f0 f1 HW10
    have HU := Hd (ptakeTo_any q 132 [] s 62 i w10 hs hi HT10.out.2)
    unfold ToPost at HU
    rw [HM.out] at HU
    go_wp2_with fail
    refine HU.out.mono ?_
    rintro e w11 ⟨b9,rfl,hb9,ht11⟩
    have HT11 := Hd (HT10.out.trans ht11)
    have HE11 := Hd (HT11.out.whole HE2.out (Nat.ne_of_lt HQ.out))
    obtain ⟨d0,d1,d2,z0,z1,z2⟩ := HE11.out.three
    have c1 := HT11.out.2.c1
    have x9 : ((min (E + 1) s.size : Nat) : Int) = min ((E : Int) + 1) s.size := by omega
    have HX9 := Hd x9
    clear ht11 HU hb9 x9
    go_wp2_with fail
    go_region
    go_wp2_with fail
    rw [Exit.noGoto_ret]
    refine bodyPost_ret (results_ttw Tryz.results78 _ rfl (set3_whole HE11.out _ _ _).drew rfl) rfl ?_
    exact ⟨(set3_below (HT11.out.below HB2.out HB2.out.size (Nat.le_of_lt HQ.out)) (Nat.le_refl _) _ _ _).drew,.inl ⟨HX.out,by rw [← HX9.out];rfl⟩⟩
 ·rw [hp4] at HP
  have hf : fromS s i = some (i + [(40 : UInt8),63,80,60].length) := by unfold fromS;rw [hp4];rfl
  have hn := name_at [40,63,80,60] hp4 (by decide) hf
  have hb := pre_fits hp4
  rw [left_length] at hb
  simp only [List.length_cons,List.length_nil,Nat.zero_add,Nat.reduceAdd] at hn hb
  have HNA := Hd hn
  have hi3 : i + 4 ≤ s.size := by omega
  clear hp4 hn hf hb
  go_wp2_with fail
  refine HP.out.mono ?_
  rintro e w5 ⟨b,rfl,rfl,ht5⟩
  have HT5 := Hd (show Took q 132 [] s (i + 4) w3 w5 from ht5)
  clear ht5 HP
  have HXR := Hd (show O = (if i + 4 + toN 62 (leftB s (i + 4)) < s.size ∧ nameB ((leftB s (i + 4)).take (toN 62 (leftB s (i + 4)))) = true then some ((leftB s (i + 4)).take (toN 62 (leftB s (i + 4))),i + 4 + toN 62 (leftB s (i + 4)) + 1) else none) from HO.out.symm.trans (HNA.out))
  have HU := Hd (ptakeTo_any q 132 [] s 62 (i + 4) _ hs hi3 HT5.out.2)
  unfold ToPost at HU
  obtain ⟨k,hk⟩ : ∃ k,toN 62 (leftB s (i + 4)) = k := ⟨_,rfl⟩
  rw [hk] at HU HXR
  clear hk
  go_wp2_with fail
  refine HU.out.mono ?_
  rintro e w6 ⟨nb,rfl,hnb,ht6⟩
  have HT6 := Hd (HT5.out.trans ht6);have HNB := Hd hnb
  clear ht6 hnb HU
  have HT7 := HT6
  by_cases hkl : i + 4 + k < s.size
  ·rw [decide_eq_true hkl]
   rw [← HNB.out] at HXR
   have hsz : nb.size ≤ 4503599627370496 := by
    have h1 : nb.toList.length = nb.size := by rw [Lib.toList_data,← Lib.size_eq]
    have h2 := congrArg List.length HNB.out
    rw [List.length_take,left_length] at h2
    omega
   have HN := Hd (pisname_any nb w6 hsz)
   obtain ⟨B,hB⟩ : ∃ B,nameB nb.toList = B := ⟨_,rfl⟩
   rw [hB] at HN HXR
   clear hB
   go_wp2_with fail
   refine HN.out.mono ?_
   rintro e w7 ⟨rfl,hb7⟩
   have HT7 := Hd (show Took q 132 [] s _ w3 w7 from ⟨tk_trans HT6.out.1 (tk_below hb7 _),HT6.out.2.below hb7⟩)
   clear hb7 HN
   cases B
   ·have HX := Hd (HXR.out.trans (if_neg (fun h => absurd h.2 (by decide))))
    clear HXR
    go_wp2_with fail
    go_step3
    refine ⟨rfl,?_⟩
    go_wp2_with fail
    refine (preader_any s i _ hs hi).mono ?_
    rintro e w9 ⟨rfl,hb9⟩
    have HR9 := Hd (HT7.out.2.below hb9)
    have HG9 := Hd (tk_trans HT7.out.1 (tk_below hb9 (some q)))
    obtain ⟨c0,c1,f0,f1⟩ := HR9.out.four
    obtain ⟨w10,hw10⟩ : ∃ w10,(w9.setCell ⟨q,0,none⟩ (.string s)).setCell ⟨q,1,none⟩ (.int .i64 i) = w10 := ⟨_,rfl⟩
    have HT10 := Hd (show Took q 132 [] s i w3 w10 by rw [← hw10];exact ⟨tk_trans HG9.out (tk_trans (tk_set _ _ _ _) (tk_set _ _ _ _)),HR9.out.again i⟩)
    have HW10 := Hd hw10
    clear hb9 hw10
    go_upto_region 9 with (fail)
    rw [HW10.out]
    clear c0 c1 f0 f1 HW10
    have HU := Hd (ptakeTo_any q 132 [] s 62 i w10 hs hi HT10.out.2)
    unfold ToPost at HU
    rw [HM.out] at HU
    go_wp2_with fail
    refine HU.out.mono ?_
    rintro e w11 ⟨b9,rfl,hb9,ht11⟩
    have HT11 := Hd (HT10.out.trans ht11)
    have HE11 := Hd (HT11.out.whole HE2.out (Nat.ne_of_lt HQ.out))
    obtain ⟨d0,d1,d2,z0,z1,z2⟩ := HE11.out.three
    have c1 := HT11.out.2.c1
    have x9 : ((min (E + 1) s.size : Nat) : Int) = min ((E : Int) + 1) s.size := by omega
    have HX9 := Hd x9
    clear ht11 HU hb9 x9
    go_wp2_with fail
    go_region
    go_wp2_with fail
    rw [Exit.noGoto_ret]
    refine bodyPost_ret (results_ttw Tryz.results78 _ rfl (set3_whole HE11.out _ _ _).drew rfl) rfl ?_
    exact ⟨(set3_below (HT11.out.below HB2.out HB2.out.size (Nat.le_of_lt HQ.out)) (Nat.le_refl _) _ _ _).drew,.inl ⟨HX.out,by rw [← HX9.out];rfl⟩⟩
   ·have HX := Hd (HXR.out.trans (if_pos ⟨hkl,rfl⟩))
    clear HXR
    have HE9 := Hd (HT7.out.whole HE2.out (Nat.ne_of_lt HQ.out))
    obtain ⟨d0,d1,d2,z0,z1,z2⟩ := HE9.out.three
    have c1 := HT7.out.2.c1
    have x9 : min (i + 4 + k + 1) s.size = i + 4 + k + 1 := by omega
    rw [x9] at c1
    clear x9 hsz
    go_wp2_with fail
    go_region
    go_wp2_with fail
    rw [jump_ret]
    refine bodyPost_ret (results_ttw Tryz.results78 _ rfl (set3_whole HE9.out _ _ _).drew rfl) rfl ?_
    exact ⟨(set3_below (HT7.out.below HB2.out HB2.out.size (Nat.le_of_lt HQ.out)) (Nat.le_refl _) _ _ _).drew,.inr ⟨_,_,nb,HX.out,rfl,rfl⟩⟩
  ·rw [decide_eq_false hkl]
   have HX := Hd (HXR.out.trans (if_neg (fun h => hkl h.1)))
   clear HXR
   go_wp2_with fail
   go_step3
   refine ⟨rfl,?_⟩
   go_wp2_with fail
   refine (preader_any s i _ hs hi).mono ?_
   rintro e w9 ⟨rfl,hb9⟩
   have HR9 := Hd (HT7.out.2.below hb9)
   have HG9 := Hd (tk_trans HT7.out.1 (tk_below hb9 (some q)))
   obtain ⟨c0,c1,f0,f1⟩ := HR9.out.four
   obtain ⟨w10,hw10⟩ : ∃ w10,(w9.setCell ⟨q,0,none⟩ (.string s)).setCell ⟨q,1,none⟩ (.int .i64 i) = w10 := ⟨_,rfl⟩
   have HT10 := Hd (show Took q 132 [] s i w3 w10 by rw [← hw10];exact ⟨tk_trans HG9.out (tk_trans (tk_set _ _ _ _) (tk_set _ _ _ _)),HR9.out.again i⟩)
   have HW10 := Hd hw10
   clear hb9 hw10
   go_upto_region 9 with (fail)
   rw [HW10.out]
   clear c0 c1 f0 f1 HW10
   have HU := Hd (ptakeTo_any q 132 [] s 62 i w10 hs hi HT10.out.2)
   unfold ToPost at HU
   rw [HM.out] at HU
   go_wp2_with fail
   refine HU.out.mono ?_
   rintro e w11 ⟨b9,rfl,hb9,ht11⟩
   have HT11 := Hd (HT10.out.trans ht11)
   have HE11 := Hd (HT11.out.whole HE2.out (Nat.ne_of_lt HQ.out))
   obtain ⟨d0,d1,d2,z0,z1,z2⟩ := HE11.out.three
   have c1 := HT11.out.2.c1
   have x9 : ((min (E + 1) s.size : Nat) : Int) = min ((E : Int) + 1) s.size := by omega
   have HX9 := Hd x9
   clear ht11 HU hb9 x9
   go_wp2_with fail
   go_region
   go_wp2_with fail
   rw [Exit.noGoto_ret]
   refine bodyPost_ret (results_ttw Tryz.results78 _ rfl (set3_whole HE11.out _ _ _).drew rfl) rfl ?_
   exact ⟨(set3_below (HT11.out.below HB2.out HB2.out.size (Nat.le_of_lt HQ.out)) (Nat.le_refl _) _ _ _).drew,.inl ⟨HX.out,by rw [← HX9.out];rfl⟩⟩
end Go.Proofs.YthnddabcmhplkaaGreatDoor
