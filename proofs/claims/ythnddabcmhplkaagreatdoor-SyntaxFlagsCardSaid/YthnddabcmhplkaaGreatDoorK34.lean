/- Texts merged by program. No condition. -/
import Derived.Test.YthnddabcmhplkaaGreatDoorSq
import Derived.Test.YthnddabcmhplkaaGreatDoorK33
set_option maxHeartbeats 12800000
set_option maxRecDepth 100000
set_option linter.unusedVariables false
namespace Go.Proofs.YthnddabcmhplkaaGreatDoor
open Go Go.RowKit
theorem pre_cons (a c : UInt8) (l t : List UInt8) : preB (a :: l) (c :: t) = (c == a && preB l t) := by
 unfold preB
 rw [List.length_cons,List.take_succ_cons]
 rfl
theorem pre_two (a b : UInt8) (s : ByteArray) (i : Nat) : preB [a,b] (leftB s i) = decide (headI (leftB s i) = (a.toNat : Int) ∧ headI (leftB s (i + 1)) = (b.toNat : Int)) := by
 by_cases h : i < s.size
 ·have h1 := pre_one b s (i + 1)
  have h0 := head_at s i h
  rw [left_cons s i h] at h0 ⊢
  rw [pre_cons,h1,h0]
  by_cases e : s[i] = a
  ·rw [e]
   simp
  ·rw [beq_eq_false_iff_ne.2 e,Bool.false_and,decide_eq_false (fun h => e (UInt8.toNat_inj.1 (by omega)))]
 ·rw [left_nil s i (by omega),decide_eq_false (fun h => by have := h.1;simp only [headI] at this;omega)]
  rfl
theorem pbTake_yes (q : Nat) (t : TypeId) (r : List Value) (s part : ByteArray) (i : Nat) (w : World) (hs : s.size ≤ 4503599627370496) (hp : part.size ≤ 100) (hi : i ≤ s.size) (h : RdIn w q t r s i) (hy : preB part.toList (leftB s i) = true) :
  Calls Tryz.prog 64 #[.pointer (some ⟨q,0,none⟩),.string part] w fun e w' => e = .returned (.bool true) ∧ Took q t r s (i + part.size) w w' := by
 refine (pbTake_any q t r s part i w hs hp hi h).mono ?_
 rintro e w' ⟨b,hb,rfl,ht⟩
 rw [hy] at hb
 subst hb
 exact ⟨rfl,ht⟩
theorem pbTake_no (q : Nat) (t : TypeId) (r : List Value) (s part : ByteArray) (i : Nat) (w : World) (hs : s.size ≤ 4503599627370496) (hp : part.size ≤ 100) (hi : i ≤ s.size) (h : RdIn w q t r s i) (hy : preB part.toList (leftB s i) = false) :
  Calls Tryz.prog 64 #[.pointer (some ⟨q,0,none⟩),.string part] w fun e w' => e = .returned (.bool false) ∧ Took q t r s i w w' := by
 refine (pbTake_any q t r s part i w hs hp hi h).mono ?_
 rintro e w' ⟨b,hb,rfl,ht⟩
 rw [hy] at hb
 subst hb
 exact ⟨rfl,ht⟩
theorem RdIn.two {W : World} {q : Nat} {t : TypeId} {r : List Value} {s s2 : ByteArray} {j : Nat} (h : RdIn W q t r s j) (k : Nat) (hs : s2 = s) : RdIn ((W.setCell ⟨q,0,none⟩ (.string s2)).setCell ⟨q,1,none⟩ (.int .i64 k)) q t r s k := by
 subst hs
 have := Whole.store (Whole.store h 0 (.string s2)) 1 (.int .i64 (k : Int))
 simpa [RdIn] using this
def NamedBPost (q : Nat) (t : TypeId) (r : List Value) (s : ByteArray) (i : Nat) (w : World) (e : Ending) (w' : World) : Prop :=
 match colS s i with
 | none => e = .returned (.tuple #[.slice none 0 0,.bool false]) ∧ Took q t r s i w w'
 | some k => match posixR ((leftB s (i + 2)).take (k - (i + 2))) with
  | none => e = thrown (.iface 32 (wrongV 72 i (k + 2 : Nat))) ∧ Took q t r s (k + 2) w w'
  | some l => ∃ v,e = .returned (.tuple #[v,.bool true]) ∧ OwnR w' w.heap.size v l ∧ Took q t r s (k + 2) w w'
theorem pbNamed_any (q : Nat) (r : List Value) (s : ByteArray) (i : Nat) (w : World) (hs : s.size ≤ 4503599627370496) (hi : i ≤ s.size) (h : RdIn w q 110 r s i) :
  Calls Tryz.prog 104 #[.pointer (some ⟨q,0,none⟩)] w (NamedBPost q 110 r s i w) := by
 have c0 := h.c0;have c1 := h.c1;have hql := h.lt
 obtain ⟨w1,hw1⟩ : ∃ w1,w.alloc (.cells #[.string s,.int .i64 i] 107) = w1 := ⟨_,rfl⟩
 have hb1 : Below w.heap.size w w1 := by rw [← hw1];exact (Below.refl _ w).alloc (Nat.le_refl _) _
 have hE1 : Whole w1 w.heap.size 107 #[.string s,.int .i64 i] := by rw [← hw1];exact heap_alloc_new w _
 have HW1 := Hd hw1;have HB1 := Hd hb1;have HE1 := Hd hE1;have HR1 := Hd (h.below hb1);have HNE := Hd (show w.heap.size ≠ q by omega)
 have HG1 := Hd (tk_below hb1 (some q))
 clear hw1 hb1 hE1 h hql
 have hpre : preB (⟨#[91,58]⟩ : ByteArray).toList (leftB s i) = decide (headI (leftB s i) = 91 ∧ headI (leftB s (i + 1)) = 58) := by
  rw [show (⟨#[91,58]⟩ : ByteArray).toList = [91,58] by kernel_rfl]
  exact pre_two 91 58 s i
 by_cases hc : headI (leftB s i) = 91 ∧ headI (leftB s (i + 1)) = 58
 ·have HT := Hd (pbTake_yes q _ r s ⟨#[91,58]⟩ i w1 hs (by decide) hi HR1.out (hpre.trans (decide_eq_true hc)))
  have hi2 : i + 2 ≤ s.size := by
   have := head_in (s := s) (i := i + 1) (by omega)
   omega
  have hn := colN_le (leftB s (i + 2))
  rw [left_length] at hn
  have hcol : colS s i = if headI (leftB s (i + 2 + colN (leftB s (i + 2)))) = 58 ∧ headI (leftB s (i + 2 + colN (leftB s (i + 2)) + 1)) = 93 then some (i + 2 + colN (leftB s (i + 2))) else none := by
   unfold colS
   rw [if_neg (fun h => h hc)]
  have HS := Hd (fun W (h : RdIn W q 110 r s (i + 2)) => pbSome_any q _ r s (i + 2) W hs hi2 h)
  unfold SomePost at HS
  obtain ⟨n,hn'⟩ : ∃ n,colN (leftB s (i + 2)) = n := ⟨_,rfl⟩
  rw [hn'] at hn hcol HS
  have hk : i + 2 + n ≤ s.size := by omega
  have hpre2 : preB (⟨#[58,93]⟩ : ByteArray).toList (leftB s (i + 2 + n)) = decide (headI (leftB s (i + 2 + n)) = 58 ∧ headI (leftB s (i + 2 + n + 1)) = 93) := by
   rw [show (⟨#[58,93]⟩ : ByteArray).toList = [58,93] by kernel_rfl]
   exact pre_two 58 93 s (i + 2 + n)
  clear hpre hc
  by_cases hd : headI (leftB s (i + 2 + n)) = 58 ∧ headI (leftB s (i + 2 + n + 1)) = 93
  ·have HC := Hd (hcol.trans (if_pos hd))
   have HT2 := Hd (fun W (h : RdIn W q 110 r s (i + 2 + n)) => pbTake_yes q _ r s ⟨#[58,93]⟩ (i + 2 + n) W hs (by decide) hk h (hpre2.trans (decide_eq_true hd)))
   clear hcol hpre2 hd hn hn'
   go_enter Tryz.func104,Tryz.ntmps104
   go_upto_region 2 with (fail)
   rw [HW1.out]
   clear c0 c1
   go_wp2_with fail
   refine HT.out.mono ?_
   rintro e w2 ⟨rfl,ht2⟩
   have HK2 := Hd ht2
   clear ht2
   go_wp2_with fail
   refine (HS.out _ HK2.out.2).mono ?_
   rintro e w3 ⟨x,rfl,hx,ht3⟩
   have HK3 := Hd (HK2.out.trans ht3);have HX := Hd hx
   clear ht3 hx HK2
   go_wp2_with fail
   refine (HT2.out _ HK3.out.2).mono ?_
   rintro e w4 ⟨rfl,ht4⟩
   have HK4 := Hd (HK3.out.trans ht4)
   clear ht4 HK3
   have HE4 := Hd (HK4.out.whole HE1.out HNE.out)
   have HP := Hd (posix_any x w4)
   rw [HX.out] at HP
   go_wp2_with fail
   refine HP.out.mono ?_
   rintro e w5 ⟨hb5,⟨hn,rfl⟩ | ⟨v,l,hn,rfl,ho⟩⟩
   ·have HK5 := Hd (HK4.out.trans ⟨tk_below hb5 _,HK4.out.2.below hb5⟩)
    have HE5 := Hd (HE4.out.below hb5 HE4.out.lt)
    have HN := Hd hn
    have e1 : w5.cell? ⟨w.heap.size,1,none⟩ = some (.int .i64 i) := HE5.out.cell 1
    clear hb5 hn
    go_wp2_with fail
    refine (pbRefuse_any q _ r s (i + 2 + n + 2) i w5 HK5.out.2).mono ?_
    rintro e w6 ⟨he,rfl⟩
    unfold thrown at he
    subst he
    go_wp2_with fail
    refine ⟨rfl,?_⟩
    unfold NamedBPost
    rw [HC.out]
    simp only
    rw [show i + 2 + n - (i + 2) = n by omega,HN.out]
    exact ⟨rfl,tk_trans HG1.out HK5.out.1,HK5.out.2⟩
   ·have HK5 := Hd (HK4.out.trans ⟨tk_below hb5 _,HK4.out.2.below hb5⟩)
    have HO := Hd (ho.mono (B' := w.heap.size) (Nat.le_trans HG1.out.size HK4.out.1.size));have HN := Hd hn
    clear hb5 ho hn
    go_wp2_with fail
    go_ret2
    unfold NamedBPost
    rw [HC.out]
    simp only
    rw [show i + 2 + n - (i + 2) = n by omega,HN.out]
    exact ⟨v,rfl,HO.out,tk_trans HG1.out HK5.out.1,HK5.out.2⟩
  ·have HC := Hd (hcol.trans (if_neg hd))
   have HT2 := Hd (fun W (h : RdIn W q 110 r s (i + 2 + n)) => pbTake_no q _ r s ⟨#[58,93]⟩ (i + 2 + n) W hs (by decide) hk h (hpre2.trans (decide_eq_false hd)))
   clear hcol hpre2 hd hn hn'
   go_enter Tryz.func104,Tryz.ntmps104
   go_upto_region 2 with (fail)
   rw [HW1.out]
   clear c0 c1
   go_wp2_with fail
   refine HT.out.mono ?_
   rintro e w2 ⟨rfl,ht2⟩
   have HK2 := Hd ht2
   clear ht2
   go_wp2_with fail
   refine (HS.out _ HK2.out.2).mono ?_
   rintro e w3 ⟨x,rfl,hx,ht3⟩
   have HK3 := Hd (HK2.out.trans ht3)
   clear ht3 hx HK2
   go_wp2_with fail
   refine (HT2.out _ HK3.out.2).mono ?_
   rintro e w4 ⟨rfl,ht4⟩
   have HK4 := Hd (HK3.out.trans ht4)
   clear ht4 HK3
   have HE4 := Hd (HK4.out.whole HE1.out HNE.out)
   have e0 : w4.cell? ⟨w.heap.size,0,none⟩ = some (.string s) := HE4.out.cell 0
   have e1 : w4.cell? ⟨w.heap.size,1,none⟩ = some (.int .i64 i) := HE4.out.cell 1
   have d0 := HK4.out.2.c0;have d1 := HK4.out.2.c1;have f0 := HK4.out.2.f0;have f1 := HK4.out.2.f1
   go_wp2_with fail
   go_ret2
   unfold NamedBPost
   rw [HC.out]
   exact ⟨rfl,tk_trans HG1.out (tk_trans HK4.out.1 (tk_trans (tk_set _ _ _ _) (tk_set _ _ _ _))),HK4.out.2.two i rfl⟩
 ·have HT := Hd (pbTake_no q _ r s ⟨#[91,58]⟩ i w1 hs (by decide) hi HR1.out (hpre.trans (decide_eq_false hc)))
  have HC := Hd (show colS s i = none by unfold colS;rw [if_pos hc])
  clear hpre hc
  go_enter Tryz.func104,Tryz.ntmps104
  go_upto_region 2 with (fail)
  rw [HW1.out]
  clear c0 c1
  go_wp2_with fail
  refine HT.out.mono ?_
  rintro e w4 ⟨rfl,ht4⟩
  have HK4 := Hd ht4
  clear ht4
  have HE4 := Hd (HK4.out.whole HE1.out HNE.out)
  have e0 : w4.cell? ⟨w.heap.size,0,none⟩ = some (.string s) := HE4.out.cell 0
  have e1 : w4.cell? ⟨w.heap.size,1,none⟩ = some (.int .i64 i) := HE4.out.cell 1
  have d0 := HK4.out.2.c0;have d1 := HK4.out.2.c1;have f0 := HK4.out.2.f0;have f1 := HK4.out.2.f1
  go_wp2_with fail
  go_ret2
  unfold NamedBPost
  rw [HC.out]
  exact ⟨rfl,tk_trans HG1.out (tk_trans HK4.out.1 (tk_trans (tk_set _ _ _ _) (tk_set _ _ _ _))),HK4.out.2.two i rfl⟩
theorem results_et {fn : Func} {p q : Tmp} (h : fn.results = #[.cell p 115,.tmp q]) (tmps : Array Value) {w : World} {a : Nat} {es : Array Value} (ha : tmps.getD p undef = .pointer (some ⟨a,0,none⟩)) (hE : Whole w a 115 es) (he : es.size = 4) :
  (results fn tmps).run Tryz.prog w = .ok (.tuple #[.agg es,tmps.getD q undef]) w := by
 have ha' : tmps[p]?.getD undef = .pointer (some ⟨a,0,none⟩) := by simpa using ha
 simp [results,h,ha',asAddr,run_esc hE he]
def LetterPost (o : Option (Int × List (Int × Int) × Int)) (w : World) (e : Ending) (w' : World) : Prop :=
 Below w.heap.size w w' ∧ ((o = none ∧ e = .returned (.tuple #[escV 0 0 (.slice none 0 0) 0,.bool false])) ∨ ∃ k l a v,o = some (k,l,a) ∧ e = .returned (.tuple #[escV k 0 v a,.bool true]) ∧ OwnR w' w.heap.size v l)
theorem psletter_any (c : Int) (w : World) : Calls Tryz.prog 113 #[.int .i32 c] w (LetterPost (perlsR c) w) := by
 obtain ⟨O,hO⟩ : ∃ O,perlsR c = O := ⟨_,rfl⟩
 rw [hO]
 obtain ⟨w1,hw1⟩ : ∃ w1,w.alloc (.cells #[.int .i64 0,.int .i32 0,.slice none 0 0,.int .i64 0] 115) = w1 := ⟨_,rfl⟩
 have hE1 : Whole w1 w.heap.size 115 #[.int .i64 0,.int .i32 0,.slice none 0 0,.int .i64 0] := by rw [← hw1];exact heap_alloc_new w _
 have hb1 : Below w.heap.size w w1 := by rw [← hw1];exact (Below.refl _ w).alloc (Nat.le_refl _) _
 have hs1 : w1.heap.size = w.heap.size + 1 := by rw [← hw1];simp
 have HW1 := Hd hw1;have HE1 := Hd hE1;have HB1 := Hd hb1;have HS1 := Hd hs1
 obtain ⟨c0,c1,c2,c3,z0,z1,z2,z3⟩ := HE1.out.four
 clear hw1 hE1 hb1 hs1
 unfold LetterPost
 by_cases h100 : c = 100
 ·subst h100
  have HO := Hd (show O = match perlR 100 with | none => none | some l => some (2,l,0) by rw [← hO];rfl)
  clear hO
  go_enter Tryz.func113,Tryz.ntmps113
  go_upto_region 1 with (fail)
  rw [HW1.out]
  go_wp2_with fail
  refine (perl_any 100 _).mono ?_
  rintro e w2 ⟨hb,⟨hn,rfl⟩ | ⟨v,l,hn,rfl,ho⟩⟩
  ·have HN := Hd (show O = none by rw [HO.out,hn])
   have HB2 := Hd (HB1.out.trans (hb.mono HB1.out.size))
   have hE2 := HE1.out.below hb (by have := HS1.out;omega)
   have HE2 := Hd hE2
   clear c0 c1 c2 c3 z0 z1 z2 z3
   obtain ⟨c0,c1,c2,c3,z0,z1,z2,z3⟩ := hE2.four
   exact absurd hn (by decide)
  ·have HN := Hd (show O = some (2,l,0) by rw [HO.out,hn])
   have HB2 := Hd (HB1.out.trans (hb.mono HB1.out.size))
   have hE2 := HE1.out.below hb (by have := HS1.out;omega)
   have HE2 := Hd hE2;have HOW := Hd ho
   clear c0 c1 c2 c3 z0 z1 z2 z3
   obtain ⟨c0,c1,c2,c3,z0,z1,z2,z3⟩ := hE2.four
   obtain ⟨A,cA,hvs,-⟩ := ho.rgs
   subst hvs
   clear hb hn hE2 ho
   go_wp2_with fail
   refine bodyPost_ret (results_et Tryz.results113 _ rfl (set4_whole HE2.out _ _ _ _) rfl) rfl ?_
   exact ⟨set4_below HB2.out (Nat.le_refl _) _ _ _ _,.inr ⟨2,l,0,_,HN.out,rfl,own_set4 (HOW.out.mono HB1.out.size) (fun g hg => by have := own_ge HOW.out g hg;have := HS1.out;omega) _ _ _ _⟩⟩
 have g100 := eq_false_of h100
 by_cases h115 : c = 115
 ·subst h115
  have HO := Hd (show O = match perlR 115 with | none => none | some l => some (2,l,0) by rw [← hO];rfl)
  clear hO
  go_enter Tryz.func113,Tryz.ntmps113
  go_upto_region 1 with (fail)
  rw [HW1.out]
  go_wp2_with fail
  refine (perl_any 115 _).mono ?_
  rintro e w2 ⟨hb,⟨hn,rfl⟩ | ⟨v,l,hn,rfl,ho⟩⟩
  ·have HN := Hd (show O = none by rw [HO.out,hn])
   have HB2 := Hd (HB1.out.trans (hb.mono HB1.out.size))
   have hE2 := HE1.out.below hb (by have := HS1.out;omega)
   have HE2 := Hd hE2
   clear c0 c1 c2 c3 z0 z1 z2 z3
   obtain ⟨c0,c1,c2,c3,z0,z1,z2,z3⟩ := hE2.four
   exact absurd hn (by decide)
  ·have HN := Hd (show O = some (2,l,0) by rw [HO.out,hn])
   have HB2 := Hd (HB1.out.trans (hb.mono HB1.out.size))
   have hE2 := HE1.out.below hb (by have := HS1.out;omega)
   have HE2 := Hd hE2;have HOW := Hd ho
   clear c0 c1 c2 c3 z0 z1 z2 z3
   obtain ⟨c0,c1,c2,c3,z0,z1,z2,z3⟩ := hE2.four
   obtain ⟨A,cA,hvs,-⟩ := ho.rgs
   subst hvs
   clear hb hn hE2 ho
   go_wp2_with fail
   refine bodyPost_ret (results_et Tryz.results113 _ rfl (set4_whole HE2.out _ _ _ _) rfl) rfl ?_
   exact ⟨set4_below HB2.out (Nat.le_refl _) _ _ _ _,.inr ⟨2,l,0,_,HN.out,rfl,own_set4 (HOW.out.mono HB1.out.size) (fun g hg => by have := own_ge HOW.out g hg;have := HS1.out;omega) _ _ _ _⟩⟩
 have g115 := eq_false_of h115
 by_cases h119 : c = 119
 ·subst h119
  have HO := Hd (show O = match perlR 119 with | none => none | some l => some (2,l,0) by rw [← hO];rfl)
  clear hO
  go_enter Tryz.func113,Tryz.ntmps113
  go_upto_region 1 with (fail)
  rw [HW1.out]
  go_wp2_with fail
  refine (perl_any 119 _).mono ?_
  rintro e w2 ⟨hb,⟨hn,rfl⟩ | ⟨v,l,hn,rfl,ho⟩⟩
  ·have HN := Hd (show O = none by rw [HO.out,hn])
   have HB2 := Hd (HB1.out.trans (hb.mono HB1.out.size))
   have hE2 := HE1.out.below hb (by have := HS1.out;omega)
   have HE2 := Hd hE2
   clear c0 c1 c2 c3 z0 z1 z2 z3
   obtain ⟨c0,c1,c2,c3,z0,z1,z2,z3⟩ := hE2.four
   exact absurd hn (by decide)
  ·have HN := Hd (show O = some (2,l,0) by rw [HO.out,hn])
   have HB2 := Hd (HB1.out.trans (hb.mono HB1.out.size))
   have hE2 := HE1.out.below hb (by have := HS1.out;omega)
   have HE2 := Hd hE2;have HOW := Hd ho
   clear c0 c1 c2 c3 z0 z1 z2 z3
   obtain ⟨c0,c1,c2,c3,z0,z1,z2,z3⟩ := hE2.four
   obtain ⟨A,cA,hvs,-⟩ := ho.rgs
   subst hvs
   clear hb hn hE2 ho
   go_wp2_with fail
   refine bodyPost_ret (results_et Tryz.results113 _ rfl (set4_whole HE2.out _ _ _ _) rfl) rfl ?_
   exact ⟨set4_below HB2.out (Nat.le_refl _) _ _ _ _,.inr ⟨2,l,0,_,HN.out,rfl,own_set4 (HOW.out.mono HB1.out.size) (fun g hg => by have := own_ge HOW.out g hg;have := HS1.out;omega) _ _ _ _⟩⟩
 have g119 := eq_false_of h119
 by_cases h68 : c = 68
 ·subst h68
  have HO := Hd (show O = match perlR 68 with | none => none | some l => some (2,l,0) by rw [← hO];rfl)
  clear hO
  go_enter Tryz.func113,Tryz.ntmps113
  go_upto_region 1 with (fail)
  rw [HW1.out]
  go_wp2_with fail
  refine (perl_any 68 _).mono ?_
  rintro e w2 ⟨hb,⟨hn,rfl⟩ | ⟨v,l,hn,rfl,ho⟩⟩
  ·have HN := Hd (show O = none by rw [HO.out,hn])
   have HB2 := Hd (HB1.out.trans (hb.mono HB1.out.size))
   have hE2 := HE1.out.below hb (by have := HS1.out;omega)
   have HE2 := Hd hE2
   clear c0 c1 c2 c3 z0 z1 z2 z3
   obtain ⟨c0,c1,c2,c3,z0,z1,z2,z3⟩ := hE2.four
   exact absurd hn (by decide)
  ·have HN := Hd (show O = some (2,l,0) by rw [HO.out,hn])
   have HB2 := Hd (HB1.out.trans (hb.mono HB1.out.size))
   have hE2 := HE1.out.below hb (by have := HS1.out;omega)
   have HE2 := Hd hE2;have HOW := Hd ho
   clear c0 c1 c2 c3 z0 z1 z2 z3
   obtain ⟨c0,c1,c2,c3,z0,z1,z2,z3⟩ := hE2.four
   obtain ⟨A,cA,hvs,-⟩ := ho.rgs
   subst hvs
   clear hb hn hE2 ho
   go_wp2_with fail
   refine bodyPost_ret (results_et Tryz.results113 _ rfl (set4_whole HE2.out _ _ _ _) rfl) rfl ?_
   exact ⟨set4_below HB2.out (Nat.le_refl _) _ _ _ _,.inr ⟨2,l,0,_,HN.out,rfl,own_set4 (HOW.out.mono HB1.out.size) (fun g hg => by have := own_ge HOW.out g hg;have := HS1.out;omega) _ _ _ _⟩⟩
 have g68 := eq_false_of h68
 by_cases h83 : c = 83
 ·subst h83
  have HO := Hd (show O = match perlR 83 with | none => none | some l => some (2,l,0) by rw [← hO];rfl)
  clear hO
  go_enter Tryz.func113,Tryz.ntmps113
  go_upto_region 1 with (fail)
  rw [HW1.out]
  go_wp2_with fail
  refine (perl_any 83 _).mono ?_
  rintro e w2 ⟨hb,⟨hn,rfl⟩ | ⟨v,l,hn,rfl,ho⟩⟩
  ·have HN := Hd (show O = none by rw [HO.out,hn])
   have HB2 := Hd (HB1.out.trans (hb.mono HB1.out.size))
   have hE2 := HE1.out.below hb (by have := HS1.out;omega)
   have HE2 := Hd hE2
   clear c0 c1 c2 c3 z0 z1 z2 z3
   obtain ⟨c0,c1,c2,c3,z0,z1,z2,z3⟩ := hE2.four
   exact absurd hn (by decide)
  ·have HN := Hd (show O = some (2,l,0) by rw [HO.out,hn])
   have HB2 := Hd (HB1.out.trans (hb.mono HB1.out.size))
   have hE2 := HE1.out.below hb (by have := HS1.out;omega)
   have HE2 := Hd hE2;have HOW := Hd ho
   clear c0 c1 c2 c3 z0 z1 z2 z3
   obtain ⟨c0,c1,c2,c3,z0,z1,z2,z3⟩ := hE2.four
   obtain ⟨A,cA,hvs,-⟩ := ho.rgs
   subst hvs
   clear hb hn hE2 ho
   go_wp2_with fail
   refine bodyPost_ret (results_et Tryz.results113 _ rfl (set4_whole HE2.out _ _ _ _) rfl) rfl ?_
   exact ⟨set4_below HB2.out (Nat.le_refl _) _ _ _ _,.inr ⟨2,l,0,_,HN.out,rfl,own_set4 (HOW.out.mono HB1.out.size) (fun g hg => by have := own_ge HOW.out g hg;have := HS1.out;omega) _ _ _ _⟩⟩
 have g83 := eq_false_of h83
 by_cases h87 : c = 87
 ·subst h87
  have HO := Hd (show O = match perlR 87 with | none => none | some l => some (2,l,0) by rw [← hO];rfl)
  clear hO
  go_enter Tryz.func113,Tryz.ntmps113
  go_upto_region 1 with (fail)
  rw [HW1.out]
  go_wp2_with fail
  refine (perl_any 87 _).mono ?_
  rintro e w2 ⟨hb,⟨hn,rfl⟩ | ⟨v,l,hn,rfl,ho⟩⟩
  ·have HN := Hd (show O = none by rw [HO.out,hn])
   have HB2 := Hd (HB1.out.trans (hb.mono HB1.out.size))
   have hE2 := HE1.out.below hb (by have := HS1.out;omega)
   have HE2 := Hd hE2
   clear c0 c1 c2 c3 z0 z1 z2 z3
   obtain ⟨c0,c1,c2,c3,z0,z1,z2,z3⟩ := hE2.four
   exact absurd hn (by decide)
  ·have HN := Hd (show O = some (2,l,0) by rw [HO.out,hn])
   have HB2 := Hd (HB1.out.trans (hb.mono HB1.out.size))
   have hE2 := HE1.out.below hb (by have := HS1.out;omega)
   have HE2 := Hd hE2;have HOW := Hd ho
   clear c0 c1 c2 c3 z0 z1 z2 z3
   obtain ⟨c0,c1,c2,c3,z0,z1,z2,z3⟩ := hE2.four
   obtain ⟨A,cA,hvs,-⟩ := ho.rgs
   subst hvs
   clear hb hn hE2 ho
   go_wp2_with fail
   refine bodyPost_ret (results_et Tryz.results113 _ rfl (set4_whole HE2.out _ _ _ _) rfl) rfl ?_
   exact ⟨set4_below HB2.out (Nat.le_refl _) _ _ _ _,.inr ⟨2,l,0,_,HN.out,rfl,own_set4 (HOW.out.mono HB1.out.size) (fun g hg => by have := own_ge HOW.out g hg;have := HS1.out;omega) _ _ _ _⟩⟩
 have g87 := eq_false_of h87
 by_cases h65 : c = 65
 ·subst h65
  have HO := Hd (show O = some (3,[],1) by rw [← hO];rfl)
  clear hO
  go_enter Tryz.func113,Tryz.ntmps113
  go_upto_region 1 with (fail)
  rw [HW1.out]
  go_wp2_with fail
  refine bodyPost_ret (results_et Tryz.results113 _ rfl (set4_whole HE1.out _ _ _ _) rfl) rfl ?_
  exact ⟨set4_below HB1.out (Nat.le_refl _) _ _ _ _,.inr ⟨3,[],1,.slice none 0 0,HO.out,rfl,own_none _ _⟩⟩
 have g65 := eq_false_of h65
 by_cases h122 : c = 122
 ·subst h122
  have HO := Hd (show O = some (3,[],2) by rw [← hO];rfl)
  clear hO
  go_enter Tryz.func113,Tryz.ntmps113
  go_upto_region 1 with (fail)
  rw [HW1.out]
  go_wp2_with fail
  refine bodyPost_ret (results_et Tryz.results113 _ rfl (set4_whole HE1.out _ _ _ _) rfl) rfl ?_
  exact ⟨set4_below HB1.out (Nat.le_refl _) _ _ _ _,.inr ⟨3,[],2,.slice none 0 0,HO.out,rfl,own_none _ _⟩⟩
 have g122 := eq_false_of h122
 by_cases h98 : c = 98
 ·subst h98
  have HO := Hd (show O = some (3,[],16) by rw [← hO];rfl)
  clear hO
  go_enter Tryz.func113,Tryz.ntmps113
  go_upto_region 1 with (fail)
  rw [HW1.out]
  go_wp2_with fail
  refine bodyPost_ret (results_et Tryz.results113 _ rfl (set4_whole HE1.out _ _ _ _) rfl) rfl ?_
  exact ⟨set4_below HB1.out (Nat.le_refl _) _ _ _ _,.inr ⟨3,[],16,.slice none 0 0,HO.out,rfl,own_none _ _⟩⟩
 have g98 := eq_false_of h98
 by_cases h66 : c = 66
 ·subst h66
  have HO := Hd (show O = some (3,[],32) by rw [← hO];rfl)
  clear hO
  go_enter Tryz.func113,Tryz.ntmps113
  go_upto_region 1 with (fail)
  rw [HW1.out]
  go_wp2_with fail
  refine bodyPost_ret (results_et Tryz.results113 _ rfl (set4_whole HE1.out _ _ _ _) rfl) rfl ?_
  exact ⟨set4_below HB1.out (Nat.le_refl _) _ _ _ _,.inr ⟨3,[],32,.slice none 0 0,HO.out,rfl,own_none _ _⟩⟩
 have g66 := eq_false_of h66
 by_cases h81 : c = 81
 ·subst h81
  have HO := Hd (show O = some (4,[],0) by rw [← hO];rfl)
  clear hO
  go_enter Tryz.func113,Tryz.ntmps113
  go_upto_region 1 with (fail)
  rw [HW1.out]
  go_wp2_with fail
  refine bodyPost_ret (results_et Tryz.results113 _ rfl (set4_whole HE1.out _ _ _ _) rfl) rfl ?_
  exact ⟨set4_below HB1.out (Nat.le_refl _) _ _ _ _,.inr ⟨4,[],0,.slice none 0 0,HO.out,rfl,own_none _ _⟩⟩
 have g81 := eq_false_of h81
 have HO := Hd (show O = none by
  rw [← hO]
  unfold perlsR placeI perlR
  rw [if_neg h65,if_neg h122,if_neg h98,if_neg h66,if_neg (fun h => h rfl),if_neg h81]
  split
  ·rfl
  ·first | rfl | rw [if_neg h100,if_neg h115,if_neg h119,if_neg h68,if_neg h83,if_neg h87])
 clear hO h100 h115 h119 h68 h83 h87 h65 h122 h98 h66 h81
 go_enter Tryz.func113,Tryz.ntmps113
 go_upto_region 1 with (fail)
 rw [HW1.out]
 go_wp2_with fail
 refine bodyPost_ret (results_et Tryz.results113 _ rfl (set4_whole HE1.out _ _ _ _) rfl) rfl ?_
 exact ⟨set4_below HB1.out (Nat.le_refl _) _ _ _ _,.inl ⟨HO.out,rfl⟩⟩
def aloneS (c : Int) (p : Bool) : Option (Int × Int × List (Int × Int) × Int) :=
 if (oneP c).2 = true then some (1,(oneP c).1,[],0) else if p = true then (match perlsR c with | none => none | some (k,l,a) => some (k,0,l,a)) else none
theorem sign_letter {c : Int} (h : 0 ≤ letterI c) : signI c = false := by
 unfold letterI at h
 have : c = 97 ∨ c = 102 ∨ c = 110 ∨ c = 114 ∨ c = 116 ∨ c = 118 := by
  revert h
  repeat' split
  all_goals first | (intro _;simp_all) | (intro h;exact absurd h (by decide))
 rcases this with rfl | rfl | rfl | rfl | rfl | rfl <;> rfl
theorem alone_esc (s : ByteArray) (c : Int) (b : Nat) (p : Bool) (h1 : ¬ c = 120) (h2 : ¬ (c = 112 ∨ c = 80)) : escC s c b p = match aloneS c p with | none => .bad 61 b | some (k,r,l,a) => .esc k r l a b := by
 by_cases hl : 0 ≤ letterI c
 ·have ho : oneP c = (letterI c,true) := by unfold oneP;rw [if_pos hl]
  unfold escC aloneS
  rw [ho,if_neg (by rw [sign_letter hl];decide),if_pos hl]
  rfl
 ·have ho : oneP c = (c,signI c) := by unfold oneP;rw [if_neg hl]
  unfold escC aloneS
  rw [ho]
  cases hs : signI c
  ·rw [if_neg (by decide),if_neg hl,if_neg h1,if_neg h2]
   cases perlsR c with
   | none => cases p <;> rfl
   | some x => obtain ⟨k,l,a⟩ := x;cases p <;> rfl
  ·rw [if_pos rfl]
   rfl
def AlonePost (o : Option (Int × Int × List (Int × Int) × Int)) (w : World) (e : Ending) (w' : World) : Prop :=
 Below w.heap.size w w' ∧ ((o = none ∧ e = .returned (.tuple #[escV 0 0 (.slice none 0 0) 0,.bool false])) ∨ ∃ k r l a v,o = some (k,r,l,a) ∧ e = .returned (.tuple #[escV k r v a,.bool true]) ∧ OwnR w' w.heap.size v l)
theorem palone_any (q : Nat) (c : Int) (p : Bool) (w : World) (hc : w.cell? ⟨q,2,none⟩ = some (.bool p)) : Calls Tryz.prog 91 #[.pointer (some ⟨q,0,none⟩),.int .i32 c] w (AlonePost (aloneS c p) w) := by
 obtain ⟨O,hO⟩ : ∃ O,aloneS c p = O := ⟨_,rfl⟩
 rw [hO]
 unfold aloneS at hO
 obtain ⟨w1,hw1⟩ : ∃ w1,w.alloc (.cells #[.int .i64 0,.int .i32 0,.slice none 0 0,.int .i64 0] 115) = w1 := ⟨_,rfl⟩
 have hE1 : Whole w1 w.heap.size 115 #[.int .i64 0,.int .i32 0,.slice none 0 0,.int .i64 0] := by rw [← hw1];exact heap_alloc_new w _
 have hb1 : Below w.heap.size w w1 := by rw [← hw1];exact (Below.refl _ w).alloc (Nat.le_refl _) _
 have hs1 : w1.heap.size = w.heap.size + 1 := by rw [← hw1];simp
 have hc1 : w1.cell? ⟨q,2,none⟩ = some (.bool p) := (hb1.cell (World.block_lt_of_cell? w _ hc)).trans hc
 have HW1 := Hd hw1;have HE1 := Hd hE1;have HB1 := Hd hb1;have HS1 := Hd hs1
 have H1 := Hd (pone_any c w1)
 obtain ⟨⟨m,is⟩,hm⟩ : ∃ x,oneP c = x := ⟨_,rfl⟩
 rw [hm] at H1 hO
 dsimp only at H1 hO
 have HO := Hd hO
 obtain ⟨c0,c1,c2,c3,z0,z1,z2,z3⟩ := HE1.out.four
 clear hw1 hE1 hb1 hs1 hc hm hO
 unfold AlonePost
 go_enter Tryz.func91,Tryz.ntmps91
 go_upto_region 1 with (fail)
 rw [HW1.out]
 go_wp2_with fail
 refine H1.out.mono ?_
 rintro e w2 ⟨rfl,rfl⟩
 cases is
 ·cases p
  ·have HN := Hd (show O = none from HO.out.symm)
   go_wp2_with fail
   refine bodyPost_ret (results_et Tryz.results91 _ rfl (set4_whole HE1.out _ _ _ _) rfl) rfl ?_
   exact ⟨set4_below HB1.out (Nat.le_refl _) _ _ _ _,.inl ⟨HN.out,rfl⟩⟩
  ·have HN := Hd (show O = match perlsR c with | none => none | some (k,l,a) => some (k,0,l,a) from HO.out.symm)
   have HL := Hd (psletter_any c w2)
   clear HO
   go_wp2_with fail
   refine HL.out.mono ?_
   rintro e w3 ⟨hb,⟨hn,rfl⟩ | ⟨k,l,a,v,hn,rfl,ho⟩⟩
   ·have HX := Hd (show O = none by rw [HN.out,hn])
    have HB2 := Hd (HB1.out.trans (hb.mono HB1.out.size))
    have hE2 := HE1.out.below hb (by have := HS1.out;omega)
    have HE2 := Hd hE2
    clear c0 c1 c2 c3 z0 z1 z2 z3
    obtain ⟨c0,c1,c2,c3,z0,z1,z2,z3⟩ := hE2.four
    clear hb hn hE2
    unfold escV
    go_wp2_with fail
    refine bodyPost_ret (results_et Tryz.results91 _ rfl (set4_whole HE2.out _ _ _ _) rfl) rfl ?_
    exact ⟨set4_below HB2.out (Nat.le_refl _) _ _ _ _,.inl ⟨HX.out,rfl⟩⟩
   ·have HX := Hd (show O = some (k,0,l,a) by rw [HN.out,hn])
    have HB2 := Hd (HB1.out.trans (hb.mono HB1.out.size))
    have hE2 := HE1.out.below hb (by have := HS1.out;omega)
    have HE2 := Hd hE2;have HOW := Hd ho
    clear c0 c1 c2 c3 z0 z1 z2 z3
    obtain ⟨c0,c1,c2,c3,z0,z1,z2,z3⟩ := hE2.four
    obtain ⟨A,cA,hvs,-⟩ := ho.rgs
    subst hvs
    clear hb hn hE2 ho
    unfold escV
    go_wp2_with fail
    refine bodyPost_ret (results_et Tryz.results91 _ rfl (set4_whole HE2.out _ _ _ _) rfl) rfl ?_
    exact ⟨set4_below HB2.out (Nat.le_refl _) _ _ _ _,.inr ⟨k,0,l,a,_,HX.out,rfl,own_set4 (HOW.out.mono HB1.out.size) (fun g hg => by have := own_ge HOW.out g hg;have := HS1.out;omega) _ _ _ _⟩⟩
 ·have HN := Hd (show O = some (1,m,[],0) from HO.out.symm)
  go_wp2_with fail
  refine bodyPost_ret (results_et Tryz.results91 _ rfl (set4_whole HE1.out _ _ _ _) rfl) rfl ?_
  exact ⟨set4_below HB1.out (Nat.le_refl _) _ _ _ _,.inr ⟨1,m,[],0,.slice none 0 0,HN.out,rfl,own_none _ _⟩⟩
end Go.Proofs.YthnddabcmhplkaaGreatDoor
namespace Go.Proofs.YthnddabcmhplkaaGreatDoor
open Go Go.RowKit
structure EscSt (w : World) (q : Nat) (s : ByteArray) (p : Bool) (j : Nat) (xs ys : Array Value) (W : World) : Prop where
 bl : Below w.heap.size w W
 a : Whole W w.heap.size 115 #[.int .i64 0,.int .i32 0,.slice none 0 0,.int .i64 0]
 b : Whole W (w.heap.size + 1) 32 #[.int .i64 0,.int .i64 0,.int .i64 0]
 r : RdIn W q 140 [.bool p] s j
 x : Whole W (q + 1) 115 xs
 y : Whole W (q + 1 + 1) 32 ys
 lt : w.heap.size + 1 < q
section
variable {w : World} {q : Nat} {s : ByteArray} {p : Bool} {j : Nat} {xs ys : Array Value} {W W' : World}
theorem EscSt.took (h : EscSt w q s p j xs ys W) {k : Nat} (ht : Took q 140 [.bool p] s k W W') : EscSt w q s p k xs ys W' := by
 have := h.lt
 exact ⟨ht.below h.bl h.bl.size (by omega),ht.whole h.a (by omega),ht.whole h.b (by omega),ht.2,ht.whole h.x (by omega),ht.whole h.y (by omega),h.lt⟩
theorem EscSt.below (h : EscSt w q s p j xs ys W) (hb : Below W.heap.size W W') : EscSt w q s p j xs ys W' :=
 ⟨h.bl.trans (hb.mono h.bl.size),h.a.below hb h.a.lt,h.b.below hb h.b.lt,h.r.below hb,h.x.below hb h.x.lt,h.y.below hb h.y.lt,h.lt⟩
theorem EscSt.drew (h : EscSt w q s p j xs ys W) : EscSt w q s p j xs ys W.drew := h.below (Below.refl _ _).drew
theorem EscSt.putX (h : EscSt w q s p j xs ys W) (i : Nat) (u : Value) : EscSt w q s p j (xs.setIfInBounds i u) ys (W.setCell ⟨q + 1,i,none⟩ u) := by
 have := h.lt
 exact ⟨h.bl.setCell (p := ⟨q + 1,i,none⟩) (by simp;omega) u,h.a.far (by omega) i u,h.b.far (by omega) i u,Whole.far h.r (by omega) i u,h.x.store i u,h.y.far (by omega) i u,h.lt⟩
theorem EscSt.putY (h : EscSt w q s p j xs ys W) (i : Nat) (u : Value) : EscSt w q s p j xs (ys.setIfInBounds i u) (W.setCell ⟨q + 1 + 1,i,none⟩ u) := by
 have := h.lt
 exact ⟨h.bl.setCell (p := ⟨q + 1 + 1,i,none⟩) (by simp;omega) u,h.a.far (by omega) i u,h.b.far (by omega) i u,Whole.far h.r (by omega) i u,h.x.far (by omega) i u,h.y.store i u,h.lt⟩
end
theorem EscSt.y02 {w : World} {q : Nat} {s : ByteArray} {p : Bool} {j : Nat} {xs : Array Value} {y0 y1 y2 : Value} {W : World} (h : EscSt w q s p j xs #[y0,y1,y2] W) (u v : Value) : EscSt w q s p j xs #[u,y1,v] (((W.setCell ⟨q + 1 + 1,0,none⟩ u).setCell ⟨q + 1 + 1,2,none⟩ v)) := by
 have := (h.putY 0 u).putY 2 v
 simp only [List.setIfInBounds_toArray,List.set_cons_zero,List.set_cons_succ] at this
 exact this
theorem EscSt.x0 {w : World} {q : Nat} {s : ByteArray} {p : Bool} {j : Nat} {ys : Array Value} {x0 x1 x2 x3 : Value} {W : World} (h : EscSt w q s p j #[x0,x1,x2,x3] ys W) (u : Value) : EscSt w q s p j #[u,x1,x2,x3] ys (W.setCell ⟨q + 1,0,none⟩ u) := by
 have := h.putX 0 u
 simp only [List.setIfInBounds_toArray,List.set_cons_zero] at this
 exact this
theorem EscSt.x1 {w : World} {q : Nat} {s : ByteArray} {p : Bool} {j : Nat} {ys : Array Value} {x0 x1 x2 x3 : Value} {W : World} (h : EscSt w q s p j #[x0,x1,x2,x3] ys W) (u : Value) : EscSt w q s p j #[x0,u,x2,x3] ys (W.setCell ⟨q + 1,1,none⟩ u) := by
 have := h.putX 1 u
 simp only [List.setIfInBounds_toArray,List.set_cons_zero,List.set_cons_succ] at this
 exact this
theorem EscSt.x2 {w : World} {q : Nat} {s : ByteArray} {p : Bool} {j : Nat} {ys : Array Value} {x0 x1 x2 x3 : Value} {W : World} (h : EscSt w q s p j #[x0,x1,x2,x3] ys W) (u : Value) : EscSt w q s p j #[x0,x1,u,x3] ys (W.setCell ⟨q + 1,2,none⟩ u) := by
 have := h.putX 2 u
 simp only [List.setIfInBounds_toArray,List.set_cons_zero,List.set_cons_succ] at this
 exact this
theorem EscSt.x4 {w : World} {q : Nat} {s : ByteArray} {p : Bool} {j : Nat} {ys : Array Value} {x0 x1 x2 x3 : Value} {W : World} (h : EscSt w q s p j #[x0,x1,x2,x3] ys W) (u0 u1 u2 u3 : Value) : EscSt w q s p j #[u0,u1,u2,u3] ys ((((W.setCell ⟨q + 1,0,none⟩ u0).setCell ⟨q + 1,1,none⟩ u1).setCell ⟨q + 1,2,none⟩ u2).setCell ⟨q + 1,3,none⟩ u3) := by
 have := (((h.putX 0 u0).putX 1 u1).putX 2 u2).putX 3 u3
 simp only [List.setIfInBounds_toArray,List.set_cons_zero,List.set_cons_succ] at this
 exact this
theorem own_put {w : World} {B b : Nat} {v : Value} {l : List (Int × Int)} (h : OwnR w B v l) (hB : ∀ g,v.ownBlock = some g → g ≠ b) (k : Nat) (u : Value) : OwnR (w.setCell ⟨b,k,none⟩ u) B v l := by
 refine ⟨?_,h.2⟩
 rcases h.1.2 with ⟨rfl,h0⟩ | ⟨q,cap,cur,rfl,h1,hh,h2⟩
 ·exact ⟨h.1.1,.inl ⟨rfl,h0⟩⟩
 ·refine ⟨h.1.1,.inr ⟨q,cap,cur,rfl,h1,?_,h2⟩⟩
  rw [Below.heap_setCell _ _ _ _ (hB q (by simp [Value.ownBlock]))]
  exact hh
end Go.Proofs.YthnddabcmhplkaaGreatDoor
namespace Go.Proofs.YthnddabcmhplkaaGreatDoor
open Go Go.RowKit
attribute [local go_sem] jump_ret jump_normal jump_exit jump_goto
theorem own_drew {w : World} {B : Nat} {v : Value} {l : List (Int × Int)} (h : OwnR w B v l) : OwnR w.drew B v l := h
theorem pescape_any (s : ByteArray) (i : Nat) (p : Bool) (w : World) (hs : s.size ≤ 4503599627370496) (hi : i ≤ s.size) (hT : Lib.Utf8Tabs 0 1 w) :
  Calls Tryz.prog 68 #[.string s,.int .i64 i,.bool p] w (EscPost (escS s i p) i w) := by
 obtain ⟨O,hO⟩ : ∃ O,escS s i p = O := ⟨_,rfl⟩
 rw [hO]
 obtain ⟨w1,hw1⟩ : ∃ w1,(w.alloc (.cells #[.int .i64 0,.int .i32 0,.slice none 0 0,.int .i64 0] 115)).alloc (.cells #[.int .i64 0,.int .i64 0,.int .i64 0] 32) = w1 := ⟨_,rfl⟩
 have hE1 : Whole w1 w.heap.size 115 #[.int .i64 0,.int .i32 0,.slice none 0 0,.int .i64 0] := by rw [← hw1];exact Whole.alloc (heap_alloc_new w _) _
 have hF1 : Whole w1 (w.heap.size + 1) 32 #[.int .i64 0,.int .i64 0,.int .i64 0] := by
  rw [← hw1]
  have := heap_alloc_new (w.alloc (.cells #[.int .i64 0,.int .i32 0,.slice none 0 0,.int .i64 0] 115)) (.cells #[.int .i64 0,.int .i64 0,.int .i64 0] 32)
  simpa [Whole] using this
 have hb1 : Below w.heap.size w w1 := by rw [← hw1];exact ((Below.refl _ w).alloc (Nat.le_refl _) _).alloc (by simp) _
 have hs1 : w1.heap.size = w.heap.size + 2 := by rw [← hw1];simp
 have hl3 : 0 < w.heap.size := World.block_lt_of_cell? w ⟨_,0,none⟩ (hT.1 0 (by decide))
 have hl4 : 1 < w.heap.size := World.block_lt_of_cell? w ⟨_,2 * 0,none⟩ (hT.2 0 (by decide)).1
 have HW1 := Hd hw1;have HE1 := Hd hE1;have HF1 := Hd hF1;have HB1 := Hd hb1;have HS1 := Hd hs1;have HT := Hd hT;have HO := Hd hO;have HL3 := Hd hl3;have HL4 := Hd hl4
 clear hw1 hE1 hF1 hb1 hs1 hT hO hl3 hl4
 go_enter Tryz.func68,Tryz.ntmps68
 go_upto_region 1 with (fail)
 rw [HW1.out]
 refine wp_scope_fwd 0 rfl ?_
 go_wp2_with fail
 refine (preader_any s i _ hs hi).mono ?_
 rintro e w2 ⟨rfl,hb2⟩
 obtain ⟨w3,hw3⟩ : ∃ w3,((w2.alloc (.cells #[.string s,.int .i64 i,.bool p] 140)).alloc (.cells #[.int .i64 0,.int .i32 0,.slice none 0 0,.int .i64 0] 115)).alloc (.cells #[.int .i64 1,.int .i64 i,.int .i64 i] 32) = w3 := ⟨_,rfl⟩
 have hS3 : EscSt w w2.heap.size s p i #[.int .i64 0,.int .i32 0,.slice none 0 0,.int .i64 0] #[.int .i64 1,.int .i64 i,.int .i64 i] w3 := by
  have hbb := HB1.out.trans (hb2.mono HB1.out.size)
  have hlt : w.heap.size + 1 < w2.heap.size := Nat.lt_of_lt_of_le (by have := HS1.out;omega) hb2.size
  have e1 := HE1.out.below hb2 (by have := HS1.out;omega)
  have f1 := HF1.out.below hb2 (by have := HS1.out;omega)
  rw [← hw3]
  refine ⟨((hbb.alloc hbb.size _).alloc (by simp;omega) _).alloc (by simp;omega) _,((e1.alloc _).alloc _).alloc _,((f1.alloc _).alloc _).alloc _,Whole.alloc (Whole.alloc (heap_alloc_new w2 _) _) _,?_,?_,hlt⟩
  ·have := Whole.alloc (heap_alloc_new (w2.alloc (.cells #[.string s,.int .i64 i,.bool p] 140)) (.cells #[.int .i64 0,.int .i32 0,.slice none 0 0,.int .i64 0] 115)) (.cells #[.int .i64 1,.int .i64 i,.int .i64 i] 32)
   simpa [Whole] using this
  ·have := heap_alloc_new ((w2.alloc (.cells #[.string s,.int .i64 i,.bool p] 140)).alloc (.cells #[.int .i64 0,.int .i32 0,.slice none 0 0,.int .i64 0] 115)) (.cells #[.int .i64 1,.int .i64 i,.int .i64 i] 32)
   simpa [Whole] using this
 have HW3 := Hd hw3;have HS3 := Hd hS3
 clear hw3 hS3 hb2 HW1 HB1 HE1 HF1 HS1
 go_upto_region 7 with (fail)
 rw [HW3.out]
 generalize w2.heap.size = q at HS3 ⊢
 have hq := HS3.out.lt
 clear HW3
 by_cases h92 : headI (leftB s i) = 92
 ·have hlt : i + 1 ≤ s.size := head_in (by omega)
  have HP := Hd (ptake_yes q _ _ s 92 i w3 hs hi HS3.out.r 92 rfl h92)
  have HO2 := Hd (HO.out.symm.trans (if_neg (fun h => h h92)))
  clear h92 HO
  go_wp2_with fail
  refine HP.out.mono ?_
  rintro e w4 ⟨rfl,ht4⟩
  have HS4 := Hd (HS3.out.took ht4)
  clear ht4 HP
  obtain ⟨y0,y1,y2,f0,f1,f2⟩ := HS4.out.y.three
  have r1 := HS4.out.r.c1
  go_wp2_with fail
  go_region
  clear y0 y1 y2 f0 f1 f2 r1
  have hS5 := (HS4.out.y02 (.int .i64 62) (.int .i64 ((i : Int) + 1))).drew
  generalize ((w4.setCell ⟨q + 1 + 1,0,none⟩ (.int .i64 62)).setCell ⟨q + 1 + 1,2,none⟩ (.int .i64 ((i : Int) + 1))).drew = w5 at hS5 ⊢
  have HS5 := Hd hS5
  clear hS5
  obtain ⟨⟨cn,n⟩,hr⟩ : ∃ x,runeP s (i + 1) = x := ⟨_,rfl⟩
  have HU := Hd (ptakeRune_any q _ _ s (i + 1) w5 hs hlt HS5.out.r (Utf8Tabs_below HT.out HS5.out.bl))
  have hfit := runeP_fit hlt
  unfold RunePost at HU
  rw [hr] at HU hfit
  dsimp only at HU hfit
  obtain ⟨b,hb⟩ : ∃ b,i + 1 + n = b := ⟨_,rfl⟩
  rw [hb] at HU hfit
  by_cases hend : i + 1 = s.size
  ·have hn : n = 0 := by
    have : runeP s (i + 1) = (65533,0) := by unfold runeP;rw [if_neg (by omega)]
    rw [this] at hr
    exact (congrArg Prod.snd hr).symm
   have HX := Hd (HO2.out.trans (if_pos hend))
   rw [show decide (0 < n) = false from decide_eq_false (by omega)] at HU
   clear hr hb hend HO2
   go_wp2_with fail
   refine HU.out.mono ?_
   rintro e w6 ⟨rfl,ht6⟩
   have HS6 := Hd (HS5.out.took ht6)
   clear ht6 HU
   go_wp2_with fail
   go_step3
   refine ⟨rfl,?_⟩
   obtain ⟨a0,a1,a2,a3,e0,e1,e2,e3⟩ := HS6.out.a.four
   obtain ⟨b0,b1,b2,g0,g1,g2⟩ := HS6.out.b.three
   obtain ⟨y0,y1,y2,-,-,-⟩ := HS6.out.y.three
   go_wp2_with fail
   go_region
   go_wp2_with fail
   rw [Exit.noGoto_ret]
   obtain ⟨r1,r2⟩ := both_whole HS6.out.a HS6.out.b (by omega)
   refine bodyPost_ret (results_etw Tryz.results68 _ rfl r1.drew rfl rfl r2.drew rfl) rfl ?_
   unfold EscPost
   rw [HX.out]
   exact ⟨Below.drew (set3_below (set4_below HS6.out.bl (Nat.le_refl _) _ _ _ _) (Nat.le_succ _) _ _ _),rfl⟩
  have hlt1 : i + 1 < s.size := by omega
  have hr1 : Utf8.decode s (i + 1) = (cn,n) := by
   rw [← hr]
   unfold runeP
   rw [if_pos hlt1]
  have hn0 := decode_some s (i + 1) hlt1
  have HO3 := Hd (HO2.out.trans (if_neg hend))
  rw [hr1] at HO3 hn0
  dsimp only at HO3 hn0
  rw [hb] at HO3
  rw [show decide (0 < n) = true from decide_eq_true hn0] at HU
  obtain ⟨c,hc⟩ : ∃ c : Int,(cn : Int) = c := ⟨_,rfl⟩
  rw [hc] at HO3 HU
  clear hr hr1 hn0 hb hend HO2 hc
  go_wp2_with fail
  refine HU.out.mono ?_
  rintro e w6 ⟨rfl,ht6⟩
  have HS6 := Hd (HS5.out.took ht6)
  clear ht6 HU
  obtain ⟨y0,y1,y2,f0,f1,f2⟩ := HS6.out.y.three
  have r1 := HS6.out.r.c1
  go_wp2_with fail
  go_region
  clear y0 y1 y2 f0 f1 f2 r1
  have hS7 := (HS6.out.y02 (.int .i64 61) (.int .i64 (b : Int))).drew
  generalize ((w6.setCell ⟨q + 1 + 1,0,none⟩ (.int .i64 61)).setCell ⟨q + 1 + 1,2,none⟩ (.int .i64 (b : Int))).drew = w7 at hS7 ⊢
  have HS7 := Hd hS7
  clear hS7
  by_cases h120 : c = 120
  ·subst h120
   have HO4 := Hd (show O = match numberS s b with | none => .bad 61 b | some (v,k) => .esc 1 v [] 0 k from HO3.out)
   clear HO3
   obtain ⟨x0,x1,x2,x3,e0,e1,e2,e3⟩ := HS7.out.x.four
   go_upto_region 17 with (fail)
   clear x0 x1 x2 x3 e0 e1 e2 e3
   have hS8 := HS7.out.x0 (.int .i64 1)
   generalize w7.setCell ⟨q + 1,0,none⟩ (.int .i64 1) = w8 at hS8 ⊢
   have HS8 := Hd hS8
   clear hS8
   have HM := Hd (phex_any q _ _ s b w8 hs hfit HS8.out.r)
   go_wp2_with fail
   refine HM.out.mono ?_
   rintro e w9 (⟨v,k,hm,rfl,ht9⟩ | ⟨hm,v,k,hks,rfl,ht9⟩)
   ·have HX := Hd (show O = .esc 1 v [] 0 k by rw [HO4.out,hm])
    have HS9 := Hd (HS8.out.took ht9)
    clear hm ht9 HO4 HM
    obtain ⟨x0,x1,x2,x3,e0,e1,e2,e3⟩ := HS9.out.x.four
    go_upto_region 18 with (fail)
    clear x0 x1 x2 x3 e0 e1 e2 e3
    have hS10 := HS9.out.x1 (.int .i32 v)
    generalize w9.setCell ⟨q + 1,1,none⟩ (.int .i32 v) = w10 at hS10 ⊢
    have HS10 := Hd hS10
    clear hS10
    obtain ⟨a0,a1,a2,a3,e0,e1,e2,e3⟩ := HS10.out.a.four
    obtain ⟨b0,b1,b2,g0,g1,g2⟩ := HS10.out.b.three
    obtain ⟨x0,x1,x2,x3,-,-,-,-⟩ := HS10.out.x.four
    have r1 := HS10.out.r.c1
    go_wp2_with fail
    go_region
    go_wp2_with fail
    rw [jump_ret]
    obtain ⟨r1,r2⟩ := both_whole HS10.out.a HS10.out.b (by omega)
    refine bodyPost_ret (results_etw Tryz.results68 _ rfl r1.drew rfl rfl r2.drew rfl) rfl ?_
    unfold EscPost
    rw [HX.out]
    refine ⟨Below.drew (set3_below (set4_below HS10.out.bl (Nat.le_refl _) _ _ _ _) (Nat.le_succ _) _ _ _),⟨.slice none 0 0,rfl,?_⟩⟩
    exact own_none _ _
   ·have HX := Hd (show O = .bad 61 b by rw [HO4.out,hm])
    have HS9 := Hd (HS8.out.took ht9)
    clear hm ht9 HO4 HM
    obtain ⟨x0,x1,x2,x3,e0,e1,e2,e3⟩ := HS9.out.x.four
    go_upto_region 18 with (fail)
    clear x0 x1 x2 x3 e0 e1 e2 e3
    have hS10 := HS9.out.x1 (.int .i32 v)
    generalize w9.setCell ⟨q + 1,1,none⟩ (.int .i32 v) = w10 at hS10 ⊢
    have HS10 := Hd hS10
    clear hS10
    go_wp2_with fail
    go_step3
    refine ⟨rfl,?_⟩
    obtain ⟨a0,a1,a2,a3,e0,e1,e2,e3⟩ := HS10.out.a.four
    obtain ⟨b0,b1,b2,g0,g1,g2⟩ := HS10.out.b.three
    obtain ⟨y0,y1,y2,-,-,-⟩ := HS10.out.y.three
    go_wp2_with fail
    go_region
    go_wp2_with fail
    rw [Exit.noGoto_ret]
    obtain ⟨r1,r2⟩ := both_whole HS10.out.a HS10.out.b (by omega)
    refine bodyPost_ret (results_etw Tryz.results68 _ rfl r1.drew rfl rfl r2.drew rfl) rfl ?_
    unfold EscPost
    rw [HX.out]
    exact ⟨Below.drew (set3_below (set4_below HS10.out.bl (Nat.le_refl _) _ _ _ _) (Nat.le_succ _) _ _ _),rfl⟩
  have b120 := eq_false_of h120
  by_cases hp : c = 112 ∨ c = 80
  ·have HM := Hd (pprop6_any q _ _ s b w7 hs hfit HS7.out.r (Utf8Tabs_below HT.out HS7.out.bl) (fun e => by have := HL3.out;omega) (fun e => by have := HL4.out;omega))
   obtain ⟨up,hup⟩ : ∃ up,decide (c = 80) = up := ⟨_,rfl⟩
   have HO4 := Hd (show O = match propS s b with | none => .bad 61 b | some (nm,k) => match propR nm up with | none => .bad 63 k | some l => .esc 2 0 l 0 k by
    rw [HO3.out,← hup]
    rcases hp with rfl | rfl <;> rfl)
   have hb80 : (c == 80) = up := by
    rw [← hup]
    by_cases h : c = 80
    ·rw [decide_eq_true h,eq_true_of h]
    ·rw [decide_eq_false h,eq_false_of h]
   have hor : (c == 112) = true ∨ c = 80 := by
    rcases hp with h | h
    ·exact .inl (eq_true_of h)
    ·exact .inr h
   have HB80 := Hd hb80
   clear hup hp HO3 h120 hb80
   rcases hor with b112 | h80
   ·have b80 := HB80.out
    go_wp2_with fail
    refine HM.out.mono ?_
    rintro e w8 (⟨nm,k,nb,hm,hnb,hks,rfl,ht8⟩ | ⟨hm,nb,k,hks,rfl,ht8⟩)
    ·have HO5 := Hd (show O = match propR nm up with | none => .bad 63 k | some l => .esc 2 0 l 0 k by rw [HO4.out,hm])
     have HS8 := Hd (HS7.out.took ht8)
     clear hm ht8 HO4 HM
     obtain ⟨y0,y1,y2,f0,f1,f2⟩ := HS8.out.y.three
     have r1 := HS8.out.r.c1
     go_wp2_with fail
     go_region
     clear y0 y1 y2 f0 f1 f2 r1
     have hS9 := (HS8.out.y02 (.int .i64 63) (.int .i64 (k : Int))).drew
     generalize ((w8.setCell ⟨q + 1 + 1,0,none⟩ (.int .i64 63)).setCell ⟨q + 1 + 1,2,none⟩ (.int .i64 (k : Int))).drew = w9 at hS9 ⊢
     have HS9 := Hd hS9
     clear hS9
     obtain ⟨x0,x1,x2,x3,e0,e1,e2,e3⟩ := HS9.out.x.four
     go_upto_region 25 with (fail)
     clear x0 x1 x2 x3 e0 e1 e2 e3
     have hS10 := HS9.out.x0 (.int .i64 2)
     generalize w9.setCell ⟨q + 1,0,none⟩ (.int .i64 2) = w10 at hS10 ⊢
     have HS10 := Hd hS10
     clear hS10
     have HPR := Hd (prop_any nb up w10)
     rw [hnb] at HPR
     have hsz := HS10.out.y.lt
     clear hnb
     go_wp2_with fail
     refine HPR.out.mono ?_
     rintro e w11 ⟨hb11,⟨hq2,rfl⟩ | ⟨v,l,hq2,rfl,ho⟩⟩
     ·have HX := Hd (show O = .bad 63 k by rw [HO5.out,hq2])
      have HS11 := Hd (HS10.out.below hb11)
      clear hq2 hb11 HPR HO5
      obtain ⟨x0,x1,x2,x3,e0,e1,e2,e3⟩ := HS11.out.x.four
      go_upto_region 26 with (fail)
      clear x0 x1 x2 x3 e0 e1 e2 e3
      have hS12 := HS11.out.x2 (.slice none 0 0)
      generalize w11.setCell ⟨q + 1,2,none⟩ (.slice none 0 0) = w12 at hS12 ⊢
      have HS12 := Hd hS12
      clear hS12
      go_wp2_with fail
      go_step3
      refine ⟨rfl,?_⟩
      obtain ⟨a0,a1,a2,a3,e0,e1,e2,e3⟩ := HS12.out.a.four
      obtain ⟨b0,b1,b2,g0,g1,g2⟩ := HS12.out.b.three
      obtain ⟨y0,y1,y2,-,-,-⟩ := HS12.out.y.three
      go_wp2_with fail
      go_region
      go_wp2_with fail
      rw [Exit.noGoto_ret]
      obtain ⟨r1,r2⟩ := both_whole HS12.out.a HS12.out.b (by omega)
      refine bodyPost_ret (results_etw Tryz.results68 _ rfl r1.drew rfl rfl r2.drew rfl) rfl ?_
      unfold EscPost
      rw [HX.out]
      exact ⟨Below.drew (set3_below (set4_below HS12.out.bl (Nat.le_refl _) _ _ _ _) (Nat.le_succ _) _ _ _),rfl⟩
     ·have HX := Hd (show O = .esc 2 0 l 0 k by rw [HO5.out,hq2])
      have HS11 := Hd (HS10.out.below hb11)
      have HOW := Hd ho;have HGE := Hd (own_ge ho)
      obtain ⟨A,cA,hvs,-⟩ := ho.rgs
      subst hvs
      clear hq2 hb11 HPR HO5 ho
      obtain ⟨x0,x1,x2,x3,e0,e1,e2,e3⟩ := HS11.out.x.four
      go_upto_region 26 with (fail)
      clear x0 x1 x2 x3 e0 e1 e2 e3
      have hS12 := HS11.out.x2 (.slice A l.length cA)
      have hO12 := own_put (b := q + 1) HOW.out (fun g hg => by have := HGE.out g hg;omega) 2 (.slice A l.length cA)
      generalize w11.setCell ⟨q + 1,2,none⟩ (.slice A l.length cA) = w12 at hS12 hO12 ⊢
      have HS12 := Hd hS12;have HOX := Hd hO12
      clear hS12 hO12
      obtain ⟨a0,a1,a2,a3,e0,e1,e2,e3⟩ := HS12.out.a.four
      obtain ⟨b0,b1,b2,g0,g1,g2⟩ := HS12.out.b.three
      obtain ⟨x0,x1,x2,x3,-,-,-,-⟩ := HS12.out.x.four
      have r1 := HS12.out.r.c1
      go_wp2_with fail
      go_region
      go_wp2_with fail
      rw [jump_ret]
      obtain ⟨r1,r2⟩ := both_whole HS12.out.a HS12.out.b (by omega)
      refine bodyPost_ret (results_etw Tryz.results68 _ rfl r1.drew rfl rfl r2.drew rfl) rfl ?_
      unfold EscPost
      rw [HX.out]
      refine ⟨Below.drew (set3_below (set4_below HS12.out.bl (Nat.le_refl _) _ _ _ _) (Nat.le_succ _) _ _ _),⟨.slice A l.length cA,rfl,?_⟩⟩
      have hlo := HS10.out.bl.size
      have hlt9 := HS10.out.lt
      refine own_drew ?_
      refine own_set3 ?_ (fun g hg => by have := HGE.out g hg;omega) _ _ _
      exact own_set4 (HOX.out.mono hlo) (fun g hg => by have := HGE.out g hg;omega) _ _ _ _
    ·have HX := Hd (show O = .bad 61 b by rw [HO4.out,hm])
     have HS8 := Hd (HS7.out.took ht8)
     clear hm ht8 HO4 HM
     go_wp2_with fail
     go_step3
     refine ⟨rfl,?_⟩
     obtain ⟨a0,a1,a2,a3,e0,e1,e2,e3⟩ := HS8.out.a.four
     obtain ⟨b0,b1,b2,g0,g1,g2⟩ := HS8.out.b.three
     obtain ⟨y0,y1,y2,-,-,-⟩ := HS8.out.y.three
     go_wp2_with fail
     go_region
     go_wp2_with fail
     rw [Exit.noGoto_ret]
     obtain ⟨r1,r2⟩ := both_whole HS8.out.a HS8.out.b (by omega)
     refine bodyPost_ret (results_etw Tryz.results68 _ rfl r1.drew rfl rfl r2.drew rfl) rfl ?_
     unfold EscPost
     rw [HX.out]
     exact ⟨Below.drew (set3_below (set4_below HS8.out.bl (Nat.le_refl _) _ _ _ _) (Nat.le_succ _) _ _ _),rfl⟩
   ·subst h80
    obtain rfl : true = up := HB80.out
    clear b120 HB80
    go_wp2_with fail
    refine HM.out.mono ?_
    rintro e w8 (⟨nm,k,nb,hm,hnb,hks,rfl,ht8⟩ | ⟨hm,nb,k,hks,rfl,ht8⟩)
    ·have HO5 := Hd (show O = match propR nm true with | none => .bad 63 k | some l => .esc 2 0 l 0 k by rw [HO4.out,hm])
     have HS8 := Hd (HS7.out.took ht8)
     clear hm ht8 HO4 HM
     obtain ⟨y0,y1,y2,f0,f1,f2⟩ := HS8.out.y.three
     have r1 := HS8.out.r.c1
     go_wp2_with fail
     go_region
     clear y0 y1 y2 f0 f1 f2 r1
     have hS9 := (HS8.out.y02 (.int .i64 63) (.int .i64 (k : Int))).drew
     generalize ((w8.setCell ⟨q + 1 + 1,0,none⟩ (.int .i64 63)).setCell ⟨q + 1 + 1,2,none⟩ (.int .i64 (k : Int))).drew = w9 at hS9 ⊢
     have HS9 := Hd hS9
     clear hS9
     obtain ⟨x0,x1,x2,x3,e0,e1,e2,e3⟩ := HS9.out.x.four
     go_upto_region 25 with (fail)
     clear x0 x1 x2 x3 e0 e1 e2 e3
     have hS10 := HS9.out.x0 (.int .i64 2)
     generalize w9.setCell ⟨q + 1,0,none⟩ (.int .i64 2) = w10 at hS10 ⊢
     have HS10 := Hd hS10
     clear hS10
     have HPR := Hd (prop_any nb true w10)
     rw [hnb] at HPR
     have hsz := HS10.out.y.lt
     clear hnb
     go_wp2_with fail
     refine HPR.out.mono ?_
     rintro e w11 ⟨hb11,⟨hq2,rfl⟩ | ⟨v,l,hq2,rfl,ho⟩⟩
     ·have HX := Hd (show O = .bad 63 k by rw [HO5.out,hq2])
      have HS11 := Hd (HS10.out.below hb11)
      clear hq2 hb11 HPR HO5
      obtain ⟨x0,x1,x2,x3,e0,e1,e2,e3⟩ := HS11.out.x.four
      go_upto_region 26 with (fail)
      clear x0 x1 x2 x3 e0 e1 e2 e3
      have hS12 := HS11.out.x2 (.slice none 0 0)
      generalize w11.setCell ⟨q + 1,2,none⟩ (.slice none 0 0) = w12 at hS12 ⊢
      have HS12 := Hd hS12
      clear hS12
      go_wp2_with fail
      go_step3
      refine ⟨rfl,?_⟩
      obtain ⟨a0,a1,a2,a3,e0,e1,e2,e3⟩ := HS12.out.a.four
      obtain ⟨b0,b1,b2,g0,g1,g2⟩ := HS12.out.b.three
      obtain ⟨y0,y1,y2,-,-,-⟩ := HS12.out.y.three
      go_wp2_with fail
      go_region
      go_wp2_with fail
      rw [Exit.noGoto_ret]
      obtain ⟨r1,r2⟩ := both_whole HS12.out.a HS12.out.b (by omega)
      refine bodyPost_ret (results_etw Tryz.results68 _ rfl r1.drew rfl rfl r2.drew rfl) rfl ?_
      unfold EscPost
      rw [HX.out]
      exact ⟨Below.drew (set3_below (set4_below HS12.out.bl (Nat.le_refl _) _ _ _ _) (Nat.le_succ _) _ _ _),rfl⟩
     ·have HX := Hd (show O = .esc 2 0 l 0 k by rw [HO5.out,hq2])
      have HS11 := Hd (HS10.out.below hb11)
      have HOW := Hd ho;have HGE := Hd (own_ge ho)
      obtain ⟨A,cA,hvs,-⟩ := ho.rgs
      subst hvs
      clear hq2 hb11 HPR HO5 ho
      obtain ⟨x0,x1,x2,x3,e0,e1,e2,e3⟩ := HS11.out.x.four
      go_upto_region 26 with (fail)
      clear x0 x1 x2 x3 e0 e1 e2 e3
      have hS12 := HS11.out.x2 (.slice A l.length cA)
      have hO12 := own_put (b := q + 1) HOW.out (fun g hg => by have := HGE.out g hg;omega) 2 (.slice A l.length cA)
      generalize w11.setCell ⟨q + 1,2,none⟩ (.slice A l.length cA) = w12 at hS12 hO12 ⊢
      have HS12 := Hd hS12;have HOX := Hd hO12
      clear hS12 hO12
      obtain ⟨a0,a1,a2,a3,e0,e1,e2,e3⟩ := HS12.out.a.four
      obtain ⟨b0,b1,b2,g0,g1,g2⟩ := HS12.out.b.three
      obtain ⟨x0,x1,x2,x3,-,-,-,-⟩ := HS12.out.x.four
      have r1 := HS12.out.r.c1
      go_wp2_with fail
      go_region
      go_wp2_with fail
      rw [jump_ret]
      obtain ⟨r1,r2⟩ := both_whole HS12.out.a HS12.out.b (by omega)
      refine bodyPost_ret (results_etw Tryz.results68 _ rfl r1.drew rfl rfl r2.drew rfl) rfl ?_
      unfold EscPost
      rw [HX.out]
      refine ⟨Below.drew (set3_below (set4_below HS12.out.bl (Nat.le_refl _) _ _ _ _) (Nat.le_succ _) _ _ _),⟨.slice A l.length cA,rfl,?_⟩⟩
      have hlo := HS10.out.bl.size
      have hlt9 := HS10.out.lt
      refine own_drew ?_
      refine own_set3 ?_ (fun g hg => by have := HGE.out g hg;omega) _ _ _
      exact own_set4 (HOX.out.mono hlo) (fun g hg => by have := HGE.out g hg;omega) _ _ _ _
    ·have HX := Hd (show O = .bad 61 b by rw [HO4.out,hm])
     have HS8 := Hd (HS7.out.took ht8)
     clear hm ht8 HO4 HM
     go_wp2_with fail
     go_step3
     refine ⟨rfl,?_⟩
     obtain ⟨a0,a1,a2,a3,e0,e1,e2,e3⟩ := HS8.out.a.four
     obtain ⟨b0,b1,b2,g0,g1,g2⟩ := HS8.out.b.three
     obtain ⟨y0,y1,y2,-,-,-⟩ := HS8.out.y.three
     go_wp2_with fail
     go_region
     go_wp2_with fail
     rw [Exit.noGoto_ret]
     obtain ⟨r1,r2⟩ := both_whole HS8.out.a HS8.out.b (by omega)
     refine bodyPost_ret (results_etw Tryz.results68 _ rfl r1.drew rfl rfl r2.drew rfl) rfl ?_
     unfold EscPost
     rw [HX.out]
     exact ⟨Below.drew (set3_below (set4_below HS8.out.bl (Nat.le_refl _) _ _ _ _) (Nat.le_succ _) _ _ _),rfl⟩
  have b112 := eq_false_of (fun h => hp (.inl h))
  have b80 := eq_false_of (fun h => hp (.inr h))
  have HO4 := Hd (HO3.out.trans (alone_esc s c b p h120 hp))
  have HM := Hd (palone_any q c p w7 (Whole.cell HS7.out.r 2))
  clear HO3 h120 hp
  go_wp2_with fail
  refine HM.out.mono ?_
  rintro e w8 ⟨hb8,⟨hm,rfl⟩ | ⟨k,r,l,a,v,hm,rfl,ho⟩⟩
  ·have HX := Hd (show O = .bad 61 b by rw [HO4.out,hm])
   have HS8 := Hd (HS7.out.below hb8)
   clear hm hb8 HO4 HM
   obtain ⟨x0,x1,x2,x3,e0,e1,e2,e3⟩ := HS8.out.x.four
   unfold escV
   go_upto_region 14 with (fail)
   clear x0 x1 x2 x3 e0 e1 e2 e3
   have hS9 := HS8.out.x4 (.int .i64 0) (.int .i32 0) (.slice none 0 0) (.int .i64 0)
   generalize ((((w8.setCell ⟨q + 1,0,none⟩ (.int .i64 0)).setCell ⟨q + 1,1,none⟩ (.int .i32 0)).setCell ⟨q + 1,2,none⟩ (.slice none 0 0)).setCell ⟨q + 1,3,none⟩ (.int .i64 0)) = w9 at hS9  ⊢
   have HS9 := Hd hS9
   clear hS9
   go_wp2_with fail
   go_step3
   refine ⟨rfl,?_⟩
   obtain ⟨a0,a1,a2,a3,e0,e1,e2,e3⟩ := HS9.out.a.four
   obtain ⟨b0,b1,b2,g0,g1,g2⟩ := HS9.out.b.three
   obtain ⟨y0,y1,y2,-,-,-⟩ := HS9.out.y.three
   go_wp2_with fail
   go_region
   go_wp2_with fail
   rw [Exit.noGoto_ret]
   obtain ⟨r1,r2⟩ := both_whole HS9.out.a HS9.out.b (by omega)
   refine bodyPost_ret (results_etw Tryz.results68 _ rfl r1.drew rfl rfl r2.drew rfl) rfl ?_
   unfold EscPost
   rw [HX.out]
   exact ⟨Below.drew (set3_below (set4_below HS9.out.bl (Nat.le_refl _) _ _ _ _) (Nat.le_succ _) _ _ _),rfl⟩
  ·have HX := Hd (show O = .esc k r l a b by rw [HO4.out,hm])
   have HS8 := Hd (HS7.out.below hb8)
   have hsz := HS7.out.y.lt
   have HOW := Hd ho;have HGE := Hd (own_ge ho)
   obtain ⟨A,cA,hvs,-⟩ := ho.rgs
   subst hvs
   clear hm hb8 HO4 HM ho
   obtain ⟨x0,x1,x2,x3,e0,e1,e2,e3⟩ := HS8.out.x.four
   unfold escV
   go_upto_region 14 with (fail)
   clear x0 x1 x2 x3 e0 e1 e2 e3
   have hS9 := HS8.out.x4 (.int .i64 k) (.int .i32 r) (.slice A l.length cA) (.int .i64 a)
   have hO9 := (own_put (b := q + 1) (own_put (b := q + 1) (own_put (b := q + 1) (own_put (b := q + 1) HOW.out (fun g hg => by have := HGE.out g hg;omega) 0 (.int .i64 k)) (fun g hg => by have := HGE.out g hg;omega) 1 (.int .i32 r)) (fun g hg => by have := HGE.out g hg;omega) 2 (.slice A l.length cA)) (fun g hg => by have := HGE.out g hg;omega) 3 (.int .i64 a))
   generalize ((((w8.setCell ⟨q + 1,0,none⟩ (.int .i64 k)).setCell ⟨q + 1,1,none⟩ (.int .i32 r)).setCell ⟨q + 1,2,none⟩ (.slice A l.length cA)).setCell ⟨q + 1,3,none⟩ (.int .i64 a)) = w9 at hS9 hO9 ⊢
   have HS9 := Hd hS9;have HOX := Hd hO9
   clear hS9 hO9
   obtain ⟨a0,a1,a2,a3,e0,e1,e2,e3⟩ := HS9.out.a.four
   obtain ⟨b0,b1,b2,g0,g1,g2⟩ := HS9.out.b.three
   obtain ⟨x0,x1,x2,x3,-,-,-,-⟩ := HS9.out.x.four
   have r1 := HS9.out.r.c1
   go_wp2_with fail
   go_region
   go_wp2_with fail
   rw [jump_ret]
   obtain ⟨r1,r2⟩ := both_whole HS9.out.a HS9.out.b (by omega)
   refine bodyPost_ret (results_etw Tryz.results68 _ rfl r1.drew rfl rfl r2.drew rfl) rfl ?_
   unfold EscPost
   rw [HX.out]
   refine ⟨Below.drew (set3_below (set4_below HS9.out.bl (Nat.le_refl _) _ _ _ _) (Nat.le_succ _) _ _ _),⟨.slice A l.length cA,rfl,?_⟩⟩
   have hlo := HS7.out.bl.size
   have hlt9 := HS7.out.lt
   refine own_drew ?_
   refine own_set3 ?_ (fun g hg => by have := HGE.out g hg;omega) _ _ _
   exact own_set4 (HOX.out.mono hlo) (fun g hg => by have := HGE.out g hg;omega) _ _ _ _
 ·have HX := Hd (HO.out.symm.trans (if_pos h92))
  have HP := Hd (ptake_no q _ _ s 92 i w3 hs hi HS3.out.r 92 rfl h92)
  clear h92 HO
  go_wp2_with fail
  refine HP.out.mono ?_
  rintro e w4 ⟨rfl,ht4⟩
  have HS4 := Hd (HS3.out.took ht4)
  clear ht4 HP
  go_wp2_with fail
  go_step3
  refine ⟨rfl,?_⟩
  obtain ⟨a0,a1,a2,a3,e0,e1,e2,e3⟩ := HS4.out.a.four
  obtain ⟨b0,b1,b2,g0,g1,g2⟩ := HS4.out.b.three
  obtain ⟨y0,y1,y2,-,-,-⟩ := HS4.out.y.three
  go_wp2_with fail
  go_region
  go_wp2_with fail
  rw [Exit.noGoto_ret]
  obtain ⟨r1,r2⟩ := both_whole HS4.out.a HS4.out.b (by omega)
  refine bodyPost_ret (results_etw Tryz.results68 _ rfl r1.drew rfl rfl r2.drew rfl) rfl ?_
  unfold EscPost
  rw [HX.out]
  exact ⟨Below.drew (set3_below (set4_below HS4.out.bl (Nat.le_refl _) _ _ _ _) (Nat.le_succ _) _ _ _),rfl⟩
end Go.Proofs.YthnddabcmhplkaaGreatDoor
namespace Go.Proofs.YthnddabcmhplkaaGreatDoor
open Go Go.RowKit
theorem results_e {fn : Func} {p : Tmp} (h : fn.results = #[.cell p 115]) (tmps : Array Value) {w : World} {a : Nat} {es : Array Value} (ha : tmps.getD p undef = .pointer (some ⟨a,0,none⟩)) (hE : Whole w a 115 es) (he : es.size = 4) :
  (results fn tmps).run Tryz.prog w = .ok (.agg es) w := by
 have ha' : tmps[p]?.getD undef = .pointer (some ⟨a,0,none⟩) := by simpa using ha
 simp [results,h,ha',asAddr,run_esc hE he]
theorem second_new (w : World) (o : Obj) (cs : Array Value) (t : TypeId) : Whole ((w.alloc o).alloc (.cells cs t)) (w.heap.size + 1) t cs := by
 have h := heap_alloc_new (w.alloc o) (.cells cs t)
 rw [World.size_alloc] at h
 exact h
structure Near (z z' : Nat) (w w' : World) : Prop where
 os : w'.os = w.os
 tape : w'.tape = w.tape
 output : w'.output = w.output
 size : w.heap.size ≤ w'.heap.size
 block : ∀ k,k < w.heap.size → k ≠ z → k ≠ z' → w'.heap[k]? = w.heap[k]?
theorem Near.refl (z z' : Nat) (w : World) : Near z z' w w := ⟨rfl,rfl,rfl,Nat.le_refl _,fun _ _ _ _ => rfl⟩
theorem Near.alloc {z z' : Nat} {w w' : World} (h : Near z z' w w') (o : Obj) : Near z z' w (w'.alloc o) :=
 ⟨h.os,h.tape,h.output,by have := h.size;simp;omega,fun k hk h1 h2 => (Below.heap_alloc w' o k (Nat.lt_of_lt_of_le hk h.size)).trans (h.block k hk h1 h2)⟩
theorem Near.set {z z' b j : Nat} {w w' : World} (h : Near z z' w w') (hb : b = z ∨ b = z' ∨ w.heap.size ≤ b) (u : Value) (f : Option Nat) : Near z z' w (w'.setCell ⟨b,j,f⟩ u) :=
 ⟨h.os,h.tape,h.output,by have := h.size;simp [World.setCell];omega,fun k hk h1 h2 => (Below.heap_setCell w' _ u k (by rcases hb with e | e | e <;> simp only <;> omega)).trans (h.block k hk h1 h2)⟩
theorem near_cells {z z' q : Nat} {w w' : World} (h : Near z z' w w') (hq : q < w.heap.size) (h1 : q ≠ z) (h2 : q ≠ z') {v0 v1 v2 : Value} (d0 : w.cell? ⟨q,0,none⟩ = some v0) (d1 : w.cell? ⟨q,1,none⟩ = some v1) (d2 : w.cell? ⟨q,2,none⟩ = some v2) :
  w'.cell? ⟨q,0,none⟩ = some v0 ∧ w'.cell? ⟨q,1,none⟩ = some v1 ∧ w'.cell? ⟨q,2,none⟩ = some v2 :=
 have e := h.block q hq h1 h2
 ⟨(World.cell?_of_block (a := ⟨q,0,none⟩) e).trans d0,(World.cell?_of_block (a := ⟨q,1,none⟩) e).trans d1,(World.cell?_of_block (a := ⟨q,2,none⟩) e).trans d2⟩
theorem Near.below {z z' B : Nat} {w0 w w' : World} (h : Near z z' w w') (hb : Below B w0 w) (hB : B ≤ w.heap.size) (h1 : B ≤ z) (h2 : B ≤ z') : Below B w0 w' :=
 hb.trans ⟨h.os,h.tape,h.output,h.size,fun k hk => h.block k (by omega) (by omega) (by omega)⟩
def EscIs (Q : EscR) (i : Nat) (w' : World) (B : Nat) (k x : Int) (v : Value) (a n c f t : Int) : Prop :=
 match Q with
 | .esc k0 x0 l a0 n0 => k = k0 ∧ x = x0 ∧ a = a0 ∧ n = n0 ∧ c = 0 ∧ OwnR w' B v l
 | .bad c0 till => c = c0 ∧ f = i ∧ t = till
theorem esc_any {Q : EscR} {i : Nat} {w w' : World} {e : Ending} (h : EscPost Q i w e w') :
  ∃ k x A m cA a n c f t,e = .returned (.tuple #[.agg #[.int .i64 k,.int .i32 x,.slice A m cA,.int .i64 a],.int .i64 n,.agg #[.int .i64 c,.int .i64 f,.int .i64 t]]) ∧ Below w.heap.size w w' ∧ EscIs Q i w' w.heap.size k x (.slice A m cA) a n c f t := by
 obtain ⟨hb,h⟩ := h
 cases Q with
 | esc k r l a n =>
  obtain ⟨v,he,ho⟩ := h
  obtain ⟨A,cA,rfl,-⟩ := ho.rgs
  exact ⟨k,r,A,_,cA,a,n,0,0,0,he,hb,rfl,rfl,rfl,rfl,rfl,ho⟩
 | bad c till => exact ⟨0,0,none,0,0,0,0,c,i,till,h,hb,rfl,rfl,rfl⟩
theorem EscIs.near {Q : EscR} {i : Nat} {w w' : World} {B B' z z' : Nat} {k x : Int} {v : Value} {a n c f t : Int} (h : EscIs Q i w B k x v a n c f t) (hn : Near z z' w w') (hz : z < B ∨ w.heap.size ≤ z) (hz' : z' < B ∨ w.heap.size ≤ z') (hB : B' ≤ B) : EscIs Q i w' B' k x v a n c f t := by
 cases Q with
 | bad c0 till => exact h
 | esc k0 x0 l a0 n0 =>
  obtain ⟨h1,h2,h3,h4,h5,h6⟩ := h
  refine ⟨h1,h2,h3,h4,h5,OwnR.mono ⟨own_other h6.1 fun b hb => ?_,h6.2⟩ hB⟩
  have hl := (own_kind h6.1 hb).lt
  have hg := own_ge h6 b hb
  exact hn.block b hl (by omega) (by omega)
theorem tk_new {w w' : World} {q b : Nat} (h : w.grownBy w' (some q)) (hb : w.heap.size ≤ b) (x0 x1 x2 x3 : Value) : w.grownBy (set4 w' b x0 x1 x2 x3) (some q) :=
 ⟨h.os,h.tape,h.output,by rw [set4_size];exact h.size,fun k hk hn => (set4_other (by omega) _ _ _ _).trans (h.block k hk hn)⟩
def OneOut (R : EscR) (q : Nat) (t : TypeId) (r : List Value) (s : ByteArray) (i : Nat) (w : World) (e : Ending) (w' : World) : Prop :=
 match R with
 | .bad c till => e = thrown (.iface 32 (wrongV c i till)) ∧ Took q t r s i w w'
 | .esc k x l a n => ∃ v,e = .returned (escV k x v a) ∧ OwnR w' w.heap.size v l ∧ Took q t r s n w w'
def OneBPost (p : Bool) (q : Nat) (t : TypeId) (r : List Value) (s : ByteArray) (i : Nat) (w : World) (e : Ending) (w' : World) : Prop :=
 if i < s.size then OneOut (oneS s i p) q t r s i w e w' else e = thrown endedV ∧ Took q t r s i w w'
theorem pbOne_any (q : Nat) (p : Bool) (sp : Value) (s : ByteArray) (i : Nat) (w : World) (hs : s.size ≤ 4503599627370496) (hi : i ≤ s.size) (h : RdIn w q 110 [.bool p,sp] s i) (hT : Lib.Utf8Tabs 0 1 w) :
  Calls Tryz.prog 105 #[.pointer (some ⟨q,0,none⟩)] w (OneBPost p q 110 [.bool p,sp] s i w) := by
 have hql := h.lt
 obtain ⟨w1,hw1⟩ : ∃ w1,w.alloc (.cells #[.int .i64 0,.int .i32 0,.slice none 0 0,.int .i64 0] 115) = w1 := ⟨_,rfl⟩
 have hb1 : Below w.heap.size w w1 := by rw [← hw1];exact (Below.refl _ w).alloc (Nat.le_refl _) _
 have hE1 : Whole w1 w.heap.size 115 #[.int .i64 0,.int .i32 0,.slice none 0 0,.int .i64 0] := by rw [← hw1];exact heap_alloc_new w _
 have HW1 := Hd hw1;have HE1 := Hd hE1;have HR1 := Hd (h.below hb1);have HNE := Hd (show w.heap.size ≠ q by omega);have HQL := Hd hql
 have HG1 := Hd (tk_below hb1 (some q));have HT := Hd (Utf8Tabs_below hT hb1);have HB1 := Hd hb1
 have hs1 : w1.heap.size = w.heap.size + 1 := by rw [← hw1];simp
 have HS1 := Hd hs1
 clear hw1 hb1 hE1 h hT hql hs1
 have HL := Hd (pbLeft_any q _ _ s i w1 hi HR1.out)
 have hpre : preB (⟨#[92]⟩ : ByteArray).toList (leftB s i) = decide (headI (leftB s i) = 92) := by
  rw [show (⟨#[92]⟩ : ByteArray).toList = [92] by kernel_rfl]
  exact pre_one 92 s i
 have HP : ∀ W,Calls Tryz.prog 48 #[.string (s.extract i s.size),.string ⟨#[92]⟩] W fun e w' => e = .returned (.bool (decide (headI (leftB s i) = 92))) ∧ w' = W := fun W => by
  have := Tryz.strings_HasPrefix (s.extract i s.size) ⟨#[92]⟩ W
  rw [pre_left,hpre] at this
  exact this
 by_cases h92 : headI (leftB s i) = 92
 ·have hlt := head_in (s := s) (i := i) (by omega)
  have HX := fun W (h : Lib.Utf8Tabs 0 1 W) => pescape_any s i p W hs hi h
  have HO := show oneS s i p = escS s i p from if_pos h92
  have HOK := Hd (escS_ok s i p hlt)
  obtain ⟨Q,hQ⟩ : ∃ Q,escS s i p = Q := ⟨_,rfl⟩
  rw [hQ] at HX HO HOK
  have HX := Hd HX;have HO := Hd HO
  rw [decide_eq_true h92] at HP
  have HP := Hd HP
  have HI := Hd hlt
  clear hpre h92 hlt hQ
  go_enter Tryz.func105,Tryz.ntmps105
  go_upto_region 1 with (fail)
  rw [HW1.out]
  go_wp2_with fail
  refine HL.out.mono ?_
  rintro e w2 ⟨rfl,k,rfl⟩
  have HR2 := Hd (HR1.out.drewN k);have HG2 := Hd (tk_trans HG1.out (tk_drewN w1 k (some q)));have HE2 := Hd (HE1.out.below (drewN_below w1 k) HE1.out.lt)
  have HT2 := Hd (Utf8Tabs_below HT.out (drewN_below w1 k));have HS2 := Hd (show w.heap.size + 1 ≤ (w1.drewN k).heap.size from Nat.le_trans (by have := HS1.out;omega) (drewN_below w1 k).size)
  generalize w1.drewN k = w2 at HR2 HG2 HE2 HT2 HS2 ⊢
  go_wp2_with fail
  refine (HP.out _).mono ?_
  rintro e w3 ⟨rfl,rfl⟩
  have c0 := HR2.out.c0;have c1 := HR2.out.c1
  have c2 : w3.cell? ⟨q,2,none⟩ = some (.bool p) := Whole.cell HR2.out 2
  have hlq : q < w3.heap.size := HR2.out.lt
  have c0a : ∀ o,(w3.alloc o).cell? ⟨q,0,none⟩ = some (.string s) := fun o => (World.cell?_alloc_old _ _ _ (by simp;omega)).trans c0
  have c1a : ∀ o,(w3.alloc o).cell? ⟨q,1,none⟩ = some (.int .i64 i) := fun o => (World.cell?_alloc_old _ _ _ (by simp;omega)).trans c1
  have c2a : ∀ o,(w3.alloc o).cell? ⟨q,2,none⟩ = some (.bool p) := fun o => (World.cell?_alloc_old _ _ _ (by simp;omega)).trans c2
  have c0b : ∀ o o',((w3.alloc o).alloc o').cell? ⟨q,0,none⟩ = some (.string s) := fun o o' => (World.cell?_alloc_old _ _ _ (by simp;omega)).trans (c0a o)
  have c1b : ∀ o o',((w3.alloc o).alloc o').cell? ⟨q,1,none⟩ = some (.int .i64 i) := fun o o' => (World.cell?_alloc_old _ _ _ (by simp;omega)).trans (c1a o)
  have c2b : ∀ o o',((w3.alloc o).alloc o').cell? ⟨q,2,none⟩ = some (.bool p) := fun o o' => (World.cell?_alloc_old _ _ _ (by simp;omega)).trans (c2a o)
  go_upto_region 3 with (fail)
  go_cut [3,4,5] (fun s3 s4 s5 wx => ∃ a b k x A m cA al n c f t,s3 = .pointer (some ⟨a,0,none⟩) ∧ s4 = .int .i64 n ∧ s5 = .pointer (some ⟨b,0,none⟩) ∧ Whole wx a 115 #[.int .i64 k,.int .i32 x,.slice A m cA,.int .i64 al] ∧ Whole wx b 32 #[.int .i64 c,.int .i64 f,.int .i64 t] ∧ EscIs Q i wx w3.heap.size k x (.slice A m cA) al n c f t ∧ Below w3.heap.size w3 wx ∧ w3.heap.size ≤ a ∧ w3.heap.size ≤ b)
  case first =>
   refine wp_region_held_drew (S := fun w' => w'.cell? ⟨q,0,none⟩ = some (.string s) ∧ w'.cell? ⟨q,1,none⟩ = some (.int .i64 i) ∧ w'.cell? ⟨q,2,none⟩ = some (.bool p)) (by kernel_rfl) ⟨c0,c1,c2⟩ (fun hHeld => ?_)
   refine tk8 0 (v := ?_) rfl (Or.inl ⟨by rfl,?_⟩) hHeld ?_
   rotate_left 1
   ·(intro w hSw;(try dsimp only at hSw);go_simp;(try with_reducible rfl))
   try simp only [lay8]
   refine tk8 1 (v := ?_) rfl (Or.inl ⟨by rfl,?_⟩) hHeld ?_
   rotate_left 1
   ·(intro w hSw;(try dsimp only at hSw);go_simp;(try with_reducible rfl))
   try simp only [lay8]
   refine tk8 2 (v := ?_) rfl (Or.inl ⟨by rfl,?_⟩) hHeld ?_
   rotate_left 1
   ·(intro w hSw;(try dsimp only at hSw);go_simp;(try with_reducible rfl))
   try simp only [lay8]
   refine tk8 3 (v := ?_) rfl (Or.inl ⟨by rfl,?_⟩) hHeld ?_
   rotate_left 1
   ·(intro w hSw;(try dsimp only at hSw);go_simp;(try with_reducible rfl))
   try simp only [lay8]
   refine tk8 4 (v := ?_) rfl (Or.inl ⟨by rfl,?_⟩) hHeld ?_
   rotate_left 1
   ·(intro w hSw;(try dsimp only at hSw);go_simp;(try with_reducible rfl))
   try simp only [lay8]
   refine tk8 5 (v := ?_) rfl (Or.inl ⟨by rfl,?_⟩) hHeld ?_
   rotate_left 1
   ·(intro w hSw;(try dsimp only at hSw);go_simp;(try with_reducible rfl))
   try simp only [lay8]
   refine tk8 6 (v := ?_) rfl (Or.inl ⟨by rfl,?_⟩) hHeld ?_
   rotate_left 1
   ·(intro w hSw;(try dsimp only at hSw);go_simp;(try with_reducible rfl))
   try simp only [lay8]
   refine tk8 7 (v := ?_) rfl (Or.inl ⟨by rfl,?_⟩) hHeld ?_
   rotate_left 1
   ·(intro w hSw;(try dsimp only at hSw);go_simp;(try with_reducible rfl))
   try simp only [lay8]
   refine tk8 8 (v := ?_) rfl (Or.inl ⟨by rfl,?_⟩) hHeld ?_
   rotate_left 1
   ·(intro w hSw;(try dsimp only at hSw);go_simp;(try with_reducible rfl))
   try simp only [lay8]
   refine tk8 9 (v := ?_) rfl (Or.inl ⟨by rfl,?_⟩) hHeld ?_
   rotate_left 1
   ·(intro w hSw;(try dsimp only at hSw);go_simp;(try with_reducible rfl))
   try simp only [lay8]
   refine tk8 10 (v := ?_) rfl (Or.inl ⟨by rfl,?_⟩) hHeld ?_
   rotate_left 1
   ·(intro w hSw;(try dsimp only at hSw);go_simp;(try with_reducible rfl))
   try simp only [lay8]
   refine tk8 11 (v := ?_) rfl (Or.inl ⟨by rfl,?_⟩) hHeld ?_
   rotate_left 1
   ·(intro w hSw;(try dsimp only at hSw);go_simp;(try with_reducible rfl))
   try simp only [lay8]
   refine tk8 12 (v := ?_) rfl (Or.inl ⟨by rfl,?_⟩) hHeld ?_
   rotate_left 1
   ·(intro w hSw;(try dsimp only at hSw);go_simp;(try with_reducible rfl))
   try simp only [lay8]
   refine tk8 13 (v := ?_) rfl (Or.inl ⟨by rfl,?_⟩) hHeld ?_
   rotate_left 1
   ·(intro w hSw;(try dsimp only at hSw);go_simp;(try with_reducible rfl))
   try simp only [lay8]
   refine wpAnyH_ready (rs := [14,19,20]) (by kernel_rfl) (by simp) ?_
   refine AllReadyH.cons (o := _) rfl (fun K hK => ?_) ?_
   ·go_simp
    have hx0 : Below w3.heap.size w3 (w3.drew) := (Below.refl _ _).drew
    refine (HX.out _ (Utf8Tabs_below HT2.out hx0)).mono ?_
    intro e w4 hp
    obtain ⟨k,x,A,m,cA,al,n,c,f,t,rfl,hb4,hes⟩ := esc_any hp
    clear hp
    have HB4 := Hd (hx0.trans (hb4.mono hx0.size))
    have HS4 := Hd hb4.size
    have HES := Hd hes
    clear hes
    have d0 : w4.cell? ⟨q,0,none⟩ = some (.string s) := (hb4.cell (by first | (simp;done) | (simp;omega))).trans (c0)
    have d1 : w4.cell? ⟨q,1,none⟩ = some (.int .i64 i) := (hb4.cell (by first | (simp;done) | (simp;omega))).trans (c1)
    have d2 : w4.cell? ⟨q,2,none⟩ = some (.bool p) := (hb4.cell (by first | (simp;done) | (simp;omega))).trans (c2)
    have hq4 : q < w4.heap.size := by have h0 := hb4.size;simp at h0;omega
    have HQ4 := Hd hq4
    clear hb4 hx0 hq4
    go_wp2_with fail
    refine hK.out _ _ ⟨d0,d1,d2⟩ (fun hHeld => ?_)
    clear hK K
    try simp only [lay8]
    refine tk8 15 (v := ?_) rfl (Or.inl ⟨by rfl,?_⟩) hHeld ?_
    rotate_left 1
    ·(intro w hSw;(try dsimp only at hSw);go_simp;(try with_reducible rfl))
    try simp only [lay8]
    refine tk8 16 (v := ?_) rfl (Or.inl ⟨by rfl,?_⟩) hHeld ?_
    rotate_left 1
    ·(intro w hSw;(try dsimp only at hSw);go_simp;(try with_reducible rfl))
    try simp only [lay8]
    refine tk8 17 (v := ?_) rfl (Or.inl ⟨by rfl,?_⟩) hHeld ?_
    rotate_left 1
    ·(intro w hSw;(try dsimp only at hSw);go_simp;(try with_reducible rfl))
    try simp only [lay8]
    refine tk8 18 (v := ?_) rfl (Or.inl ⟨by rfl,?_⟩) hHeld ?_
    rotate_left 1
    ·(intro w hSw;(try dsimp only at hSw);go_simp;(try with_reducible rfl))
    try simp only [lay8]
    refine wpAnyH_ready (rs := [19,20]) (by kernel_rfl) (by simp) ?_
    refine AllReadyH.cons (o := _) rfl (fun K hK => ?_) ?_
    ·go_simp
     refine hK.out _ _ (near_cells (z := w4.heap.size) (z' := w4.heap.size) (by with_reducible ((repeat first | exact Near.refl _ _ _ | refine Near.alloc ?_ _ | refine Near.set ?_ ?_ _ _);all_goals first | exact Or.inl rfl | exact Or.inr (Or.inl rfl) | exact Or.inr (Or.inr (Nat.le_refl _)) | exact Or.inr (Or.inr (Nat.le_succ _)))) HQ4.out (by have := HQ4.out;omega) (by have := HQ4.out;omega) d0 d1 d2) (fun hHeld => ?_)
     clear hK K
     try simp only [lay8]
     refine wpAnyH_ready (rs := [20]) (by kernel_rfl) (by simp) ?_
     refine AllReadyH.cons (o := _) rfl (fun K hK => ?_) ?_
     ·go_simp
      refine hK.out _ _ (near_cells (z := w4.heap.size) (z' := w4.heap.size) (by with_reducible ((repeat first | exact Near.refl _ _ _ | refine Near.alloc ?_ _ | refine Near.set ?_ ?_ _ _);all_goals first | exact Or.inl rfl | exact Or.inr (Or.inl rfl) | exact Or.inr (Or.inr (Nat.le_refl _)) | exact Or.inr (Or.inr (Nat.le_succ _)))) HQ4.out (by have := HQ4.out;omega) (by have := HQ4.out;omega) d0 d1 d2) (fun hHeld => ?_)
      clear hK K
      try simp only [lay8]
      refine wpAnyH_ready (rs := [21]) (by kernel_rfl) (by simp) ?_
      refine AllReadyH.cons (o := _) rfl (fun K hK => ?_) ?_
      ·go_simp
       refine hK.out _ _ (near_cells (z := w4.heap.size) (z' := w4.heap.size) (by with_reducible ((repeat first | exact Near.refl _ _ _ | refine Near.alloc ?_ _ | refine Near.set ?_ ?_ _ _);all_goals first | exact Or.inl rfl | exact Or.inr (Or.inl rfl) | exact Or.inr (Or.inr (Nat.le_refl _)) | exact Or.inr (Or.inr (Nat.le_succ _)))) HQ4.out (by have := HQ4.out;omega) (by have := HQ4.out;omega) d0 d1 d2) (fun hHeld => ?_)
       clear hK K
       try simp only [lay8]
       refine tk8 22 (v := ?_) rfl (Or.inl ⟨by rfl,?_⟩) hHeld ?_
       rotate_left 1
       ·(intro w hSw;(try dsimp only at hSw);go_simp;(try with_reducible rfl))
       try simp only [lay8]
       refine wpAnyH_ready (rs := [23]) (by kernel_rfl) (by simp) ?_
       refine AllReadyH.cons (o := _) rfl (fun K hK => ?_) ?_
       ·go_simp
        refine hK.out _ _ (near_cells (z := w4.heap.size) (z' := w4.heap.size) (by with_reducible ((repeat first | exact Near.refl _ _ _ | refine Near.alloc ?_ _ | refine Near.set ?_ ?_ _ _);all_goals first | exact Or.inl rfl | exact Or.inr (Or.inl rfl) | exact Or.inr (Or.inr (Nat.le_refl _)) | exact Or.inr (Or.inr (Nat.le_succ _)))) HQ4.out (by have := HQ4.out;omega) (by have := HQ4.out;omega) d0 d1 d2) (fun hHeld => ?_)
        clear hK K
        try simp only [lay8]
        refine wpAnyH_done (by kernel_rfl) ?_ _
        have hsz4 := HS4.out
        (try simp at hsz4)
        go_wp2_with fail
        go_meet
        refine ⟨w4.heap.size,(w4.heap.size + 1),k,x,A,m,cA,al,n,c,f,t,rfl,rfl,rfl,?_,?_,?_,?_,by omega,by omega⟩
        ·exact Whole.alloc (heap_alloc_new w4 _) _
        ·exact second_new w4 _ _ _
        ·refine HES.out.near (z := w4.heap.size) (z' := w4.heap.size) (((Near.refl _ _ _).alloc _).alloc _) ?_ ?_ ?_
         all_goals (try simp)
         all_goals (try omega)
        ·exact Near.below (z := w4.heap.size) (z' := w4.heap.size) (((Near.refl _ _ _).alloc _).alloc _) HB4.out (by omega) (by omega) (by omega)
       exact AllReadyH.nil
      exact AllReadyH.nil
     exact AllReadyH.nil
    refine AllReadyH.cons (o := _) rfl (fun K hK => ?_) ?_
    ·go_simp
     refine hK.out _ _ (near_cells (z := w4.heap.size) (z' := w4.heap.size) (by with_reducible ((repeat first | exact Near.refl _ _ _ | refine Near.alloc ?_ _ | refine Near.set ?_ ?_ _ _);all_goals first | exact Or.inl rfl | exact Or.inr (Or.inl rfl) | exact Or.inr (Or.inr (Nat.le_refl _)) | exact Or.inr (Or.inr (Nat.le_succ _)))) HQ4.out (by have := HQ4.out;omega) (by have := HQ4.out;omega) d0 d1 d2) (fun hHeld => ?_)
     clear hK K
     try simp only [lay8]
     refine wpAnyH_ready (rs := [19]) (by kernel_rfl) (by simp) ?_
     refine AllReadyH.cons (o := _) rfl (fun K hK => ?_) ?_
     ·go_simp
      refine hK.out _ _ (near_cells (z := w4.heap.size) (z' := w4.heap.size) (by with_reducible ((repeat first | exact Near.refl _ _ _ | refine Near.alloc ?_ _ | refine Near.set ?_ ?_ _ _);all_goals first | exact Or.inl rfl | exact Or.inr (Or.inl rfl) | exact Or.inr (Or.inr (Nat.le_refl _)) | exact Or.inr (Or.inr (Nat.le_succ _)))) HQ4.out (by have := HQ4.out;omega) (by have := HQ4.out;omega) d0 d1 d2) (fun hHeld => ?_)
      clear hK K
      try simp only [lay8]
      refine wpAnyH_ready (rs := [21]) (by kernel_rfl) (by simp) ?_
      refine AllReadyH.cons (o := _) rfl (fun K hK => ?_) ?_
      ·go_simp
       refine hK.out _ _ (near_cells (z := w4.heap.size) (z' := w4.heap.size) (by with_reducible ((repeat first | exact Near.refl _ _ _ | refine Near.alloc ?_ _ | refine Near.set ?_ ?_ _ _);all_goals first | exact Or.inl rfl | exact Or.inr (Or.inl rfl) | exact Or.inr (Or.inr (Nat.le_refl _)) | exact Or.inr (Or.inr (Nat.le_succ _)))) HQ4.out (by have := HQ4.out;omega) (by have := HQ4.out;omega) d0 d1 d2) (fun hHeld => ?_)
       clear hK K
       try simp only [lay8]
       refine tk8 22 (v := ?_) rfl (Or.inl ⟨by rfl,?_⟩) hHeld ?_
       rotate_left 1
       ·(intro w hSw;(try dsimp only at hSw);go_simp;(try with_reducible rfl))
       try simp only [lay8]
       refine wpAnyH_ready (rs := [23]) (by kernel_rfl) (by simp) ?_
       refine AllReadyH.cons (o := _) rfl (fun K hK => ?_) ?_
       ·go_simp
        refine hK.out _ _ (near_cells (z := w4.heap.size) (z' := w4.heap.size) (by with_reducible ((repeat first | exact Near.refl _ _ _ | refine Near.alloc ?_ _ | refine Near.set ?_ ?_ _ _);all_goals first | exact Or.inl rfl | exact Or.inr (Or.inl rfl) | exact Or.inr (Or.inr (Nat.le_refl _)) | exact Or.inr (Or.inr (Nat.le_succ _)))) HQ4.out (by have := HQ4.out;omega) (by have := HQ4.out;omega) d0 d1 d2) (fun hHeld => ?_)
        clear hK K
        try simp only [lay8]
        refine wpAnyH_done (by kernel_rfl) ?_ _
        have hsz4 := HS4.out
        (try simp at hsz4)
        go_wp2_with fail
        go_meet
        refine ⟨(w4.heap.size + 1),w4.heap.size,k,x,A,m,cA,al,n,c,f,t,rfl,rfl,rfl,?_,?_,?_,?_,by omega,by omega⟩
        ·exact second_new w4 _ _ _
        ·exact Whole.alloc (heap_alloc_new w4 _) _
        ·refine HES.out.near (z := w4.heap.size) (z' := w4.heap.size) (((Near.refl _ _ _).alloc _).alloc _) ?_ ?_ ?_
         all_goals (try simp)
         all_goals (try omega)
        ·exact Near.below (z := w4.heap.size) (z' := w4.heap.size) (((Near.refl _ _ _).alloc _).alloc _) HB4.out (by omega) (by omega) (by omega)
       exact AllReadyH.nil
      exact AllReadyH.nil
     exact AllReadyH.nil
    exact AllReadyH.nil
   refine AllReadyH.cons (o := _) rfl (fun K hK => ?_) ?_
   ·go_simp
    refine hK.out _ _ ⟨c0a _,c1a _,c2a _⟩ (fun hHeld => ?_)
    clear hK K
    try simp only [lay8]
    refine wpAnyH_ready (rs := [14,20]) (by kernel_rfl) (by simp) ?_
    refine AllReadyH.cons (o := _) rfl (fun K hK => ?_) ?_
    ·go_simp
     have hx0 : Below w3.heap.size w3 ((w3.alloc (.cells #[.int .i64 0,.int .i32 0,.slice none 0 0,.int .i64 0] 115)).drew) := ((Below.refl _ w3).alloc (Nat.le_refl _) _).drew
     refine (HX.out _ (Utf8Tabs_below HT2.out hx0)).mono ?_
     intro e w4 hp
     obtain ⟨k,x,A,m,cA,al,n,c,f,t,rfl,hb4,hes⟩ := esc_any hp
     clear hp
     have HB4 := Hd (hx0.trans (hb4.mono hx0.size))
     have HS4 := Hd hb4.size
     have HES := Hd hes
     clear hes
     have d0 : w4.cell? ⟨q,0,none⟩ = some (.string s) := (hb4.cell (by first | (simp;done) | (simp;omega))).trans (c0a _)
     have d1 : w4.cell? ⟨q,1,none⟩ = some (.int .i64 i) := (hb4.cell (by first | (simp;done) | (simp;omega))).trans (c1a _)
     have d2 : w4.cell? ⟨q,2,none⟩ = some (.bool p) := (hb4.cell (by first | (simp;done) | (simp;omega))).trans (c2a _)
     have hq4 : q < w4.heap.size := by have h0 := hb4.size;simp at h0;omega
     have HQ4 := Hd hq4
     have hkE : Whole w4 w3.heap.size 115 #[.int .i64 0,.int .i32 0,.slice none 0 0,.int .i64 0] := Whole.below (show Whole ((w3.alloc (.cells #[.int .i64 0,.int .i32 0,.slice none 0 0,.int .i64 0] 115)).drew) w3.heap.size 115 #[.int .i64 0,.int .i32 0,.slice none 0 0,.int .i64 0] from heap_alloc_new w3 _) hb4 (by first | (simp;done) | (simp;omega))
     have hkEj0 : w4.cell? ⟨w3.heap.size,0,none⟩ = some (.int .i64 0) := hkE.cell 0
     have hkEf0 : w4.frozen? ⟨w3.heap.size,0,none⟩ = false := hkE.free 0
     have hkEq0 : ∀ o,(w4.alloc o).cell? ⟨w3.heap.size,0,none⟩ = some (.int .i64 0) := fun o => (hkE.alloc o).cell 0
     have hkEg0 : ∀ o,(w4.alloc o).frozen? ⟨w3.heap.size,0,none⟩ = false := fun o => (hkE.alloc o).free 0
     have hkEj1 : w4.cell? ⟨w3.heap.size,1,none⟩ = some (.int .i32 0) := hkE.cell 1
     have hkEf1 : w4.frozen? ⟨w3.heap.size,1,none⟩ = false := hkE.free 1
     have hkEq1 : ∀ o,(w4.alloc o).cell? ⟨w3.heap.size,1,none⟩ = some (.int .i32 0) := fun o => (hkE.alloc o).cell 1
     have hkEg1 : ∀ o,(w4.alloc o).frozen? ⟨w3.heap.size,1,none⟩ = false := fun o => (hkE.alloc o).free 1
     have hkEj2 : w4.cell? ⟨w3.heap.size,2,none⟩ = some (.slice none 0 0) := hkE.cell 2
     have hkEf2 : w4.frozen? ⟨w3.heap.size,2,none⟩ = false := hkE.free 2
     have hkEq2 : ∀ o,(w4.alloc o).cell? ⟨w3.heap.size,2,none⟩ = some (.slice none 0 0) := fun o => (hkE.alloc o).cell 2
     have hkEg2 : ∀ o,(w4.alloc o).frozen? ⟨w3.heap.size,2,none⟩ = false := fun o => (hkE.alloc o).free 2
     have hkEj3 : w4.cell? ⟨w3.heap.size,3,none⟩ = some (.int .i64 0) := hkE.cell 3
     have hkEf3 : w4.frozen? ⟨w3.heap.size,3,none⟩ = false := hkE.free 3
     have hkEq3 : ∀ o,(w4.alloc o).cell? ⟨w3.heap.size,3,none⟩ = some (.int .i64 0) := fun o => (hkE.alloc o).cell 3
     have hkEg3 : ∀ o,(w4.alloc o).frozen? ⟨w3.heap.size,3,none⟩ = false := fun o => (hkE.alloc o).free 3
     have HhkE := Hd hkE
     clear hkE
     have hz0 : w3.heap.size ≠ w4.heap.size := by have h0 := hb4.size;simp at h0;omega
     have hz1 := hz0.symm
     clear hb4 hx0 hq4
     go_wp2_with fail
     refine hK.out _ _ ⟨d0,d1,d2⟩ (fun hHeld => ?_)
     clear hK K
     try simp only [lay8]
     refine tk8 15 (v := ?_) rfl (Or.inl ⟨by rfl,?_⟩) hHeld ?_
     rotate_left 1
     ·(intro w hSw;(try dsimp only at hSw);go_simp;(try with_reducible rfl))
     try simp only [lay8]
     refine tk8 16 (v := ?_) rfl (Or.inl ⟨by rfl,?_⟩) hHeld ?_
     rotate_left 1
     ·(intro w hSw;(try dsimp only at hSw);go_simp;(try with_reducible rfl))
     try simp only [lay8]
     refine tk8 17 (v := ?_) rfl (Or.inl ⟨by rfl,?_⟩) hHeld ?_
     rotate_left 1
     ·(intro w hSw;(try dsimp only at hSw);go_simp;(try with_reducible rfl))
     try simp only [lay8]
     refine tk8 18 (v := ?_) rfl (Or.inl ⟨by rfl,?_⟩) hHeld ?_
     rotate_left 1
     ·(intro w hSw;(try dsimp only at hSw);go_simp;(try with_reducible rfl))
     try simp only [lay8]
     refine wpAnyH_ready (rs := [20]) (by kernel_rfl) (by simp) ?_
     refine AllReadyH.cons (o := _) rfl (fun K hK => ?_) ?_
     ·go_simp
      refine hK.out _ _ (near_cells (z := w3.heap.size) (z' := w4.heap.size) (by with_reducible ((repeat first | exact Near.refl _ _ _ | refine Near.alloc ?_ _ | refine Near.set ?_ ?_ _ _);all_goals first | exact Or.inl rfl | exact Or.inr (Or.inl rfl) | exact Or.inr (Or.inr (Nat.le_refl _)) | exact Or.inr (Or.inr (Nat.le_succ _)))) HQ4.out (by have := HQ4.out;omega) (by have := HQ4.out;omega) d0 d1 d2) (fun hHeld => ?_)
      clear hK K
      try simp only [lay8]
      refine wpAnyH_ready (rs := [21]) (by kernel_rfl) (by simp) ?_
      refine AllReadyH.cons (o := _) rfl (fun K hK => ?_) ?_
      ·go_simp
       refine hK.out _ _ (near_cells (z := w3.heap.size) (z' := w4.heap.size) (by with_reducible ((repeat first | exact Near.refl _ _ _ | refine Near.alloc ?_ _ | refine Near.set ?_ ?_ _ _);all_goals first | exact Or.inl rfl | exact Or.inr (Or.inl rfl) | exact Or.inr (Or.inr (Nat.le_refl _)) | exact Or.inr (Or.inr (Nat.le_succ _)))) HQ4.out (by have := HQ4.out;omega) (by have := HQ4.out;omega) d0 d1 d2) (fun hHeld => ?_)
       clear hK K
       try simp only [lay8]
       refine tk8 22 (v := ?_) rfl (Or.inl ⟨by rfl,?_⟩) hHeld ?_
       rotate_left 1
       ·(intro w hSw;(try dsimp only at hSw);go_simp;(try with_reducible rfl))
       try simp only [lay8]
       refine wpAnyH_ready (rs := [23]) (by kernel_rfl) (by simp) ?_
       refine AllReadyH.cons (o := _) rfl (fun K hK => ?_) ?_
       ·go_simp
        refine hK.out _ _ (near_cells (z := w3.heap.size) (z' := w4.heap.size) (by with_reducible ((repeat first | exact Near.refl _ _ _ | refine Near.alloc ?_ _ | refine Near.set ?_ ?_ _ _);all_goals first | exact Or.inl rfl | exact Or.inr (Or.inl rfl) | exact Or.inr (Or.inr (Nat.le_refl _)) | exact Or.inr (Or.inr (Nat.le_succ _)))) HQ4.out (by have := HQ4.out;omega) (by have := HQ4.out;omega) d0 d1 d2) (fun hHeld => ?_)
        clear hK K
        try simp only [lay8]
        refine wpAnyH_done (by kernel_rfl) ?_ _
        have hsz4 := HS4.out
        (try simp at hsz4)
        go_wp2_with fail
        go_meet
        refine ⟨w3.heap.size,w4.heap.size,k,x,A,m,cA,al,n,c,f,t,rfl,rfl,rfl,?_,?_,?_,?_,by omega,by omega⟩
        ·exact (set3_other (by omega) _ _ _).trans (set4_whole (Whole.alloc HhkE.out _) _ _ _ _)
        ·exact set3_whole ((set4_other (by omega) _ _ _ _).trans (heap_alloc_new w4 _)) _ _ _
        ·refine HES.out.near (z := w3.heap.size) (z' := w4.heap.size) (((((((((Near.refl _ _ _).alloc _).set (Or.inl rfl) _ _).set (Or.inl rfl) _ _).set (Or.inl rfl) _ _).set (Or.inl rfl) _ _).set (Or.inr (Or.inl rfl)) _ _).set (Or.inr (Or.inl rfl)) _ _).set (Or.inr (Or.inl rfl)) _ _) ?_ ?_ ?_
         all_goals (try simp)
         all_goals (try omega)
        ·exact Near.below (z := w3.heap.size) (z' := w4.heap.size) (((((((((Near.refl _ _ _).alloc _).set (Or.inl rfl) _ _).set (Or.inl rfl) _ _).set (Or.inl rfl) _ _).set (Or.inl rfl) _ _).set (Or.inr (Or.inl rfl)) _ _).set (Or.inr (Or.inl rfl)) _ _).set (Or.inr (Or.inl rfl)) _ _) HB4.out (by omega) (by omega) (by omega)
       exact AllReadyH.nil
      exact AllReadyH.nil
     exact AllReadyH.nil
    refine AllReadyH.cons (o := _) rfl (fun K hK => ?_) ?_
    ·go_simp
     refine hK.out _ _ ⟨c0b _ _,c1b _ _,c2b _ _⟩ (fun hHeld => ?_)
     clear hK K
     try simp only [lay8]
     refine wpAnyH_ready (rs := [14]) (by kernel_rfl) (by simp) ?_
     refine AllReadyH.cons (o := _) rfl (fun K hK => ?_) ?_
     ·go_simp
      have hx0 : Below w3.heap.size w3 (((w3.alloc (.cells #[.int .i64 0,.int .i32 0,.slice none 0 0,.int .i64 0] 115)).alloc (.cells #[.int .i64 0,.int .i64 0,.int .i64 0] 32)).drew) := (((Below.refl _ w3).alloc (Nat.le_refl _) _).alloc (by simp) _).drew
      refine (HX.out _ (Utf8Tabs_below HT2.out hx0)).mono ?_
      intro e w4 hp
      obtain ⟨k,x,A,m,cA,al,n,c,f,t,rfl,hb4,hes⟩ := esc_any hp
      clear hp
      have HB4 := Hd (hx0.trans (hb4.mono hx0.size))
      have HS4 := Hd hb4.size
      have HES := Hd hes
      clear hes
      have d0 : w4.cell? ⟨q,0,none⟩ = some (.string s) := (hb4.cell (by first | (simp;done) | (simp;omega))).trans (c0b _ _)
      have d1 : w4.cell? ⟨q,1,none⟩ = some (.int .i64 i) := (hb4.cell (by first | (simp;done) | (simp;omega))).trans (c1b _ _)
      have d2 : w4.cell? ⟨q,2,none⟩ = some (.bool p) := (hb4.cell (by first | (simp;done) | (simp;omega))).trans (c2b _ _)
      have hq4 : q < w4.heap.size := by have h0 := hb4.size;simp at h0;omega
      have HQ4 := Hd hq4
      have hkE : Whole w4 w3.heap.size 115 #[.int .i64 0,.int .i32 0,.slice none 0 0,.int .i64 0] := Whole.below (show Whole (((w3.alloc (.cells #[.int .i64 0,.int .i32 0,.slice none 0 0,.int .i64 0] 115)).alloc (.cells #[.int .i64 0,.int .i64 0,.int .i64 0] 32)).drew) w3.heap.size 115 #[.int .i64 0,.int .i32 0,.slice none 0 0,.int .i64 0] from Whole.alloc (heap_alloc_new w3 _) _) hb4 (by first | (simp;done) | (simp;omega))
      have hkEj0 : w4.cell? ⟨w3.heap.size,0,none⟩ = some (.int .i64 0) := hkE.cell 0
      have hkEf0 : w4.frozen? ⟨w3.heap.size,0,none⟩ = false := hkE.free 0
      have hkEj1 : w4.cell? ⟨w3.heap.size,1,none⟩ = some (.int .i32 0) := hkE.cell 1
      have hkEf1 : w4.frozen? ⟨w3.heap.size,1,none⟩ = false := hkE.free 1
      have hkEj2 : w4.cell? ⟨w3.heap.size,2,none⟩ = some (.slice none 0 0) := hkE.cell 2
      have hkEf2 : w4.frozen? ⟨w3.heap.size,2,none⟩ = false := hkE.free 2
      have hkEj3 : w4.cell? ⟨w3.heap.size,3,none⟩ = some (.int .i64 0) := hkE.cell 3
      have hkEf3 : w4.frozen? ⟨w3.heap.size,3,none⟩ = false := hkE.free 3
      have HhkE := Hd hkE
      clear hkE
      have hkW : Whole w4 (w3.heap.size + 1) 32 #[.int .i64 0,.int .i64 0,.int .i64 0] := Whole.below (show Whole (((w3.alloc (.cells #[.int .i64 0,.int .i32 0,.slice none 0 0,.int .i64 0] 115)).alloc (.cells #[.int .i64 0,.int .i64 0,.int .i64 0] 32)).drew) (w3.heap.size + 1) 32 #[.int .i64 0,.int .i64 0,.int .i64 0] from second_new w3 _ _ _) hb4 (by first | (simp;done) | (simp;omega))
      have hkWj0 : w4.cell? ⟨(w3.heap.size + 1),0,none⟩ = some (.int .i64 0) := hkW.cell 0
      have hkWf0 : w4.frozen? ⟨(w3.heap.size + 1),0,none⟩ = false := hkW.free 0
      have hkWj1 : w4.cell? ⟨(w3.heap.size + 1),1,none⟩ = some (.int .i64 0) := hkW.cell 1
      have hkWf1 : w4.frozen? ⟨(w3.heap.size + 1),1,none⟩ = false := hkW.free 1
      have hkWj2 : w4.cell? ⟨(w3.heap.size + 1),2,none⟩ = some (.int .i64 0) := hkW.cell 2
      have hkWf2 : w4.frozen? ⟨(w3.heap.size + 1),2,none⟩ = false := hkW.free 2
      have HhkW := Hd hkW
      clear hkW
      have hz0 : w3.heap.size ≠ w4.heap.size := by have h0 := hb4.size;simp at h0;omega
      have hz1 := hz0.symm
      clear hb4 hx0 hq4
      go_wp2_with fail
      refine hK.out _ _ ⟨d0,d1,d2⟩ (fun hHeld => ?_)
      clear hK K
      try simp only [lay8]
      refine tk8 15 (v := ?_) rfl (Or.inl ⟨by rfl,?_⟩) hHeld ?_
      rotate_left 1
      ·(intro w hSw;(try dsimp only at hSw);go_simp;(try with_reducible rfl))
      try simp only [lay8]
      refine tk8 16 (v := ?_) rfl (Or.inl ⟨by rfl,?_⟩) hHeld ?_
      rotate_left 1
      ·(intro w hSw;(try dsimp only at hSw);go_simp;(try with_reducible rfl))
      try simp only [lay8]
      refine tk8 17 (v := ?_) rfl (Or.inl ⟨by rfl,?_⟩) hHeld ?_
      rotate_left 1
      ·(intro w hSw;(try dsimp only at hSw);go_simp;(try with_reducible rfl))
      try simp only [lay8]
      refine tk8 18 (v := ?_) rfl (Or.inl ⟨by rfl,?_⟩) hHeld ?_
      rotate_left 1
      ·(intro w hSw;(try dsimp only at hSw);go_simp;(try with_reducible rfl))
      try simp only [lay8]
      refine wpAnyH_ready (rs := [21]) (by kernel_rfl) (by simp) ?_
      refine AllReadyH.cons (o := _) rfl (fun K hK => ?_) ?_
      ·go_simp
       refine hK.out _ _ (near_cells (z := w3.heap.size) (z' := (w3.heap.size + 1)) (by with_reducible ((repeat first | exact Near.refl _ _ _ | refine Near.alloc ?_ _ | refine Near.set ?_ ?_ _ _);all_goals first | exact Or.inl rfl | exact Or.inr (Or.inl rfl) | exact Or.inr (Or.inr (Nat.le_refl _)) | exact Or.inr (Or.inr (Nat.le_succ _)))) HQ4.out (by have := HQ4.out;omega) (by have := HQ4.out;omega) d0 d1 d2) (fun hHeld => ?_)
       clear hK K
       try simp only [lay8]
       refine tk8 22 (v := ?_) rfl (Or.inl ⟨by rfl,?_⟩) hHeld ?_
       rotate_left 1
       ·(intro w hSw;(try dsimp only at hSw);go_simp;(try with_reducible rfl))
       try simp only [lay8]
       refine wpAnyH_ready (rs := [23]) (by kernel_rfl) (by simp) ?_
       refine AllReadyH.cons (o := _) rfl (fun K hK => ?_) ?_
       ·go_simp
        refine hK.out _ _ (near_cells (z := w3.heap.size) (z' := (w3.heap.size + 1)) (by with_reducible ((repeat first | exact Near.refl _ _ _ | refine Near.alloc ?_ _ | refine Near.set ?_ ?_ _ _);all_goals first | exact Or.inl rfl | exact Or.inr (Or.inl rfl) | exact Or.inr (Or.inr (Nat.le_refl _)) | exact Or.inr (Or.inr (Nat.le_succ _)))) HQ4.out (by have := HQ4.out;omega) (by have := HQ4.out;omega) d0 d1 d2) (fun hHeld => ?_)
        clear hK K
        try simp only [lay8]
        refine wpAnyH_done (by kernel_rfl) ?_ _
        have hsz4 := HS4.out
        (try simp at hsz4)
        go_wp2_with fail
        go_meet
        refine ⟨w3.heap.size,(w3.heap.size + 1),k,x,A,m,cA,al,n,c,f,t,rfl,rfl,rfl,?_,?_,?_,?_,by omega,by omega⟩
        ·exact (set3_other (by omega) _ _ _).trans (set4_whole HhkE.out _ _ _ _)
        ·exact set3_whole ((set4_other (by omega) _ _ _ _).trans HhkW.out) _ _ _
        ·refine HES.out.near (z := w3.heap.size) (z' := (w3.heap.size + 1)) ((((((((Near.refl _ _ _).set (Or.inl rfl) _ _).set (Or.inl rfl) _ _).set (Or.inl rfl) _ _).set (Or.inl rfl) _ _).set (Or.inr (Or.inl rfl)) _ _).set (Or.inr (Or.inl rfl)) _ _).set (Or.inr (Or.inl rfl)) _ _) ?_ ?_ ?_
         all_goals (try simp)
         all_goals (try omega)
        ·exact Near.below (z := w3.heap.size) (z' := (w3.heap.size + 1)) ((((((((Near.refl _ _ _).set (Or.inl rfl) _ _).set (Or.inl rfl) _ _).set (Or.inl rfl) _ _).set (Or.inl rfl) _ _).set (Or.inr (Or.inl rfl)) _ _).set (Or.inr (Or.inl rfl)) _ _).set (Or.inr (Or.inl rfl)) _ _) HB4.out (by omega) (by omega) (by omega)
       exact AllReadyH.nil
      exact AllReadyH.nil
     exact AllReadyH.nil
    exact AllReadyH.nil
   refine AllReadyH.cons (o := _) rfl (fun K hK => ?_) ?_
   ·go_simp
    refine hK.out _ _ ⟨c0a _,c1a _,c2a _⟩ (fun hHeld => ?_)
    clear hK K
    try simp only [lay8]
    refine wpAnyH_ready (rs := [14,19]) (by kernel_rfl) (by simp) ?_
    refine AllReadyH.cons (o := _) rfl (fun K hK => ?_) ?_
    ·go_simp
     have hx0 : Below w3.heap.size w3 ((w3.alloc (.cells #[.int .i64 0,.int .i64 0,.int .i64 0] 32)).drew) := ((Below.refl _ w3).alloc (Nat.le_refl _) _).drew
     refine (HX.out _ (Utf8Tabs_below HT2.out hx0)).mono ?_
     intro e w4 hp
     obtain ⟨k,x,A,m,cA,al,n,c,f,t,rfl,hb4,hes⟩ := esc_any hp
     clear hp
     have HB4 := Hd (hx0.trans (hb4.mono hx0.size))
     have HS4 := Hd hb4.size
     have HES := Hd hes
     clear hes
     have d0 : w4.cell? ⟨q,0,none⟩ = some (.string s) := (hb4.cell (by first | (simp;done) | (simp;omega))).trans (c0a _)
     have d1 : w4.cell? ⟨q,1,none⟩ = some (.int .i64 i) := (hb4.cell (by first | (simp;done) | (simp;omega))).trans (c1a _)
     have d2 : w4.cell? ⟨q,2,none⟩ = some (.bool p) := (hb4.cell (by first | (simp;done) | (simp;omega))).trans (c2a _)
     have hq4 : q < w4.heap.size := by have h0 := hb4.size;simp at h0;omega
     have HQ4 := Hd hq4
     have hkW : Whole w4 w3.heap.size 32 #[.int .i64 0,.int .i64 0,.int .i64 0] := Whole.below (show Whole ((w3.alloc (.cells #[.int .i64 0,.int .i64 0,.int .i64 0] 32)).drew) w3.heap.size 32 #[.int .i64 0,.int .i64 0,.int .i64 0] from heap_alloc_new w3 _) hb4 (by first | (simp;done) | (simp;omega))
     have hkWj0 : w4.cell? ⟨w3.heap.size,0,none⟩ = some (.int .i64 0) := hkW.cell 0
     have hkWf0 : w4.frozen? ⟨w3.heap.size,0,none⟩ = false := hkW.free 0
     have hkWq0 : ∀ o,(w4.alloc o).cell? ⟨w3.heap.size,0,none⟩ = some (.int .i64 0) := fun o => (hkW.alloc o).cell 0
     have hkWg0 : ∀ o,(w4.alloc o).frozen? ⟨w3.heap.size,0,none⟩ = false := fun o => (hkW.alloc o).free 0
     have hkWj1 : w4.cell? ⟨w3.heap.size,1,none⟩ = some (.int .i64 0) := hkW.cell 1
     have hkWf1 : w4.frozen? ⟨w3.heap.size,1,none⟩ = false := hkW.free 1
     have hkWq1 : ∀ o,(w4.alloc o).cell? ⟨w3.heap.size,1,none⟩ = some (.int .i64 0) := fun o => (hkW.alloc o).cell 1
     have hkWg1 : ∀ o,(w4.alloc o).frozen? ⟨w3.heap.size,1,none⟩ = false := fun o => (hkW.alloc o).free 1
     have hkWj2 : w4.cell? ⟨w3.heap.size,2,none⟩ = some (.int .i64 0) := hkW.cell 2
     have hkWf2 : w4.frozen? ⟨w3.heap.size,2,none⟩ = false := hkW.free 2
     have hkWq2 : ∀ o,(w4.alloc o).cell? ⟨w3.heap.size,2,none⟩ = some (.int .i64 0) := fun o => (hkW.alloc o).cell 2
     have hkWg2 : ∀ o,(w4.alloc o).frozen? ⟨w3.heap.size,2,none⟩ = false := fun o => (hkW.alloc o).free 2
     have HhkW := Hd hkW
     clear hkW
     have hz0 : w3.heap.size ≠ w4.heap.size := by have h0 := hb4.size;simp at h0;omega
     have hz1 := hz0.symm
     clear hb4 hx0 hq4
     go_wp2_with fail
     refine hK.out _ _ ⟨d0,d1,d2⟩ (fun hHeld => ?_)
     clear hK K
     try simp only [lay8]
     refine tk8 15 (v := ?_) rfl (Or.inl ⟨by rfl,?_⟩) hHeld ?_
     rotate_left 1
     ·(intro w hSw;(try dsimp only at hSw);go_simp;(try with_reducible rfl))
     try simp only [lay8]
     refine tk8 16 (v := ?_) rfl (Or.inl ⟨by rfl,?_⟩) hHeld ?_
     rotate_left 1
     ·(intro w hSw;(try dsimp only at hSw);go_simp;(try with_reducible rfl))
     try simp only [lay8]
     refine tk8 17 (v := ?_) rfl (Or.inl ⟨by rfl,?_⟩) hHeld ?_
     rotate_left 1
     ·(intro w hSw;(try dsimp only at hSw);go_simp;(try with_reducible rfl))
     try simp only [lay8]
     refine tk8 18 (v := ?_) rfl (Or.inl ⟨by rfl,?_⟩) hHeld ?_
     rotate_left 1
     ·(intro w hSw;(try dsimp only at hSw);go_simp;(try with_reducible rfl))
     try simp only [lay8]
     refine wpAnyH_ready (rs := [19]) (by kernel_rfl) (by simp) ?_
     refine AllReadyH.cons (o := _) rfl (fun K hK => ?_) ?_
     ·go_simp
      refine hK.out _ _ (near_cells (z := w3.heap.size) (z' := w4.heap.size) (by with_reducible ((repeat first | exact Near.refl _ _ _ | refine Near.alloc ?_ _ | refine Near.set ?_ ?_ _ _);all_goals first | exact Or.inl rfl | exact Or.inr (Or.inl rfl) | exact Or.inr (Or.inr (Nat.le_refl _)) | exact Or.inr (Or.inr (Nat.le_succ _)))) HQ4.out (by have := HQ4.out;omega) (by have := HQ4.out;omega) d0 d1 d2) (fun hHeld => ?_)
      clear hK K
      try simp only [lay8]
      refine wpAnyH_ready (rs := [21]) (by kernel_rfl) (by simp) ?_
      refine AllReadyH.cons (o := _) rfl (fun K hK => ?_) ?_
      ·go_simp
       refine hK.out _ _ (near_cells (z := w3.heap.size) (z' := w4.heap.size) (by with_reducible ((repeat first | exact Near.refl _ _ _ | refine Near.alloc ?_ _ | refine Near.set ?_ ?_ _ _);all_goals first | exact Or.inl rfl | exact Or.inr (Or.inl rfl) | exact Or.inr (Or.inr (Nat.le_refl _)) | exact Or.inr (Or.inr (Nat.le_succ _)))) HQ4.out (by have := HQ4.out;omega) (by have := HQ4.out;omega) d0 d1 d2) (fun hHeld => ?_)
       clear hK K
       try simp only [lay8]
       refine tk8 22 (v := ?_) rfl (Or.inl ⟨by rfl,?_⟩) hHeld ?_
       rotate_left 1
       ·(intro w hSw;(try dsimp only at hSw);go_simp;(try with_reducible rfl))
       try simp only [lay8]
       refine wpAnyH_ready (rs := [23]) (by kernel_rfl) (by simp) ?_
       refine AllReadyH.cons (o := _) rfl (fun K hK => ?_) ?_
       ·go_simp
        refine hK.out _ _ (near_cells (z := w3.heap.size) (z' := w4.heap.size) (by with_reducible ((repeat first | exact Near.refl _ _ _ | refine Near.alloc ?_ _ | refine Near.set ?_ ?_ _ _);all_goals first | exact Or.inl rfl | exact Or.inr (Or.inl rfl) | exact Or.inr (Or.inr (Nat.le_refl _)) | exact Or.inr (Or.inr (Nat.le_succ _)))) HQ4.out (by have := HQ4.out;omega) (by have := HQ4.out;omega) d0 d1 d2) (fun hHeld => ?_)
        clear hK K
        try simp only [lay8]
        refine wpAnyH_done (by kernel_rfl) ?_ _
        have hsz4 := HS4.out
        (try simp at hsz4)
        go_wp2_with fail
        go_meet
        refine ⟨w4.heap.size,w3.heap.size,k,x,A,m,cA,al,n,c,f,t,rfl,rfl,rfl,?_,?_,?_,?_,by omega,by omega⟩
        ·exact (set3_other (by omega) _ _ _).trans (heap_alloc_new w4 _)
        ·exact set3_whole (Whole.alloc HhkW.out _) _ _ _
        ·refine HES.out.near (z := w3.heap.size) (z' := w4.heap.size) (((((Near.refl _ _ _).alloc _).set (Or.inl rfl) _ _).set (Or.inl rfl) _ _).set (Or.inl rfl) _ _) ?_ ?_ ?_
         all_goals (try simp)
         all_goals (try omega)
        ·exact Near.below (z := w3.heap.size) (z' := w4.heap.size) (((((Near.refl _ _ _).alloc _).set (Or.inl rfl) _ _).set (Or.inl rfl) _ _).set (Or.inl rfl) _ _) HB4.out (by omega) (by omega) (by omega)
       exact AllReadyH.nil
      exact AllReadyH.nil
     exact AllReadyH.nil
    refine AllReadyH.cons (o := _) rfl (fun K hK => ?_) ?_
    ·go_simp
     refine hK.out _ _ ⟨c0b _ _,c1b _ _,c2b _ _⟩ (fun hHeld => ?_)
     clear hK K
     try simp only [lay8]
     refine wpAnyH_ready (rs := [14]) (by kernel_rfl) (by simp) ?_
     refine AllReadyH.cons (o := _) rfl (fun K hK => ?_) ?_
     ·go_simp
      have hx0 : Below w3.heap.size w3 (((w3.alloc (.cells #[.int .i64 0,.int .i64 0,.int .i64 0] 32)).alloc (.cells #[.int .i64 0,.int .i32 0,.slice none 0 0,.int .i64 0] 115)).drew) := (((Below.refl _ w3).alloc (Nat.le_refl _) _).alloc (by simp) _).drew
      refine (HX.out _ (Utf8Tabs_below HT2.out hx0)).mono ?_
      intro e w4 hp
      obtain ⟨k,x,A,m,cA,al,n,c,f,t,rfl,hb4,hes⟩ := esc_any hp
      clear hp
      have HB4 := Hd (hx0.trans (hb4.mono hx0.size))
      have HS4 := Hd hb4.size
      have HES := Hd hes
      clear hes
      have d0 : w4.cell? ⟨q,0,none⟩ = some (.string s) := (hb4.cell (by first | (simp;done) | (simp;omega))).trans (c0b _ _)
      have d1 : w4.cell? ⟨q,1,none⟩ = some (.int .i64 i) := (hb4.cell (by first | (simp;done) | (simp;omega))).trans (c1b _ _)
      have d2 : w4.cell? ⟨q,2,none⟩ = some (.bool p) := (hb4.cell (by first | (simp;done) | (simp;omega))).trans (c2b _ _)
      have hq4 : q < w4.heap.size := by have h0 := hb4.size;simp at h0;omega
      have HQ4 := Hd hq4
      have hkW : Whole w4 w3.heap.size 32 #[.int .i64 0,.int .i64 0,.int .i64 0] := Whole.below (show Whole (((w3.alloc (.cells #[.int .i64 0,.int .i64 0,.int .i64 0] 32)).alloc (.cells #[.int .i64 0,.int .i32 0,.slice none 0 0,.int .i64 0] 115)).drew) w3.heap.size 32 #[.int .i64 0,.int .i64 0,.int .i64 0] from Whole.alloc (heap_alloc_new w3 _) _) hb4 (by first | (simp;done) | (simp;omega))
      have hkWj0 : w4.cell? ⟨w3.heap.size,0,none⟩ = some (.int .i64 0) := hkW.cell 0
      have hkWf0 : w4.frozen? ⟨w3.heap.size,0,none⟩ = false := hkW.free 0
      have hkWj1 : w4.cell? ⟨w3.heap.size,1,none⟩ = some (.int .i64 0) := hkW.cell 1
      have hkWf1 : w4.frozen? ⟨w3.heap.size,1,none⟩ = false := hkW.free 1
      have hkWj2 : w4.cell? ⟨w3.heap.size,2,none⟩ = some (.int .i64 0) := hkW.cell 2
      have hkWf2 : w4.frozen? ⟨w3.heap.size,2,none⟩ = false := hkW.free 2
      have HhkW := Hd hkW
      clear hkW
      have hkE : Whole w4 (w3.heap.size + 1) 115 #[.int .i64 0,.int .i32 0,.slice none 0 0,.int .i64 0] := Whole.below (show Whole (((w3.alloc (.cells #[.int .i64 0,.int .i64 0,.int .i64 0] 32)).alloc (.cells #[.int .i64 0,.int .i32 0,.slice none 0 0,.int .i64 0] 115)).drew) (w3.heap.size + 1) 115 #[.int .i64 0,.int .i32 0,.slice none 0 0,.int .i64 0] from second_new w3 _ _ _) hb4 (by first | (simp;done) | (simp;omega))
      have hkEj0 : w4.cell? ⟨(w3.heap.size + 1),0,none⟩ = some (.int .i64 0) := hkE.cell 0
      have hkEf0 : w4.frozen? ⟨(w3.heap.size + 1),0,none⟩ = false := hkE.free 0
      have hkEj1 : w4.cell? ⟨(w3.heap.size + 1),1,none⟩ = some (.int .i32 0) := hkE.cell 1
      have hkEf1 : w4.frozen? ⟨(w3.heap.size + 1),1,none⟩ = false := hkE.free 1
      have hkEj2 : w4.cell? ⟨(w3.heap.size + 1),2,none⟩ = some (.slice none 0 0) := hkE.cell 2
      have hkEf2 : w4.frozen? ⟨(w3.heap.size + 1),2,none⟩ = false := hkE.free 2
      have hkEj3 : w4.cell? ⟨(w3.heap.size + 1),3,none⟩ = some (.int .i64 0) := hkE.cell 3
      have hkEf3 : w4.frozen? ⟨(w3.heap.size + 1),3,none⟩ = false := hkE.free 3
      have HhkE := Hd hkE
      clear hkE
      have hz0 : w3.heap.size ≠ w4.heap.size := by have h0 := hb4.size;simp at h0;omega
      have hz1 := hz0.symm
      clear hb4 hx0 hq4
      go_wp2_with fail
      refine hK.out _ _ ⟨d0,d1,d2⟩ (fun hHeld => ?_)
      clear hK K
      try simp only [lay8]
      refine tk8 15 (v := ?_) rfl (Or.inl ⟨by rfl,?_⟩) hHeld ?_
      rotate_left 1
      ·(intro w hSw;(try dsimp only at hSw);go_simp;(try with_reducible rfl))
      try simp only [lay8]
      refine tk8 16 (v := ?_) rfl (Or.inl ⟨by rfl,?_⟩) hHeld ?_
      rotate_left 1
      ·(intro w hSw;(try dsimp only at hSw);go_simp;(try with_reducible rfl))
      try simp only [lay8]
      refine tk8 17 (v := ?_) rfl (Or.inl ⟨by rfl,?_⟩) hHeld ?_
      rotate_left 1
      ·(intro w hSw;(try dsimp only at hSw);go_simp;(try with_reducible rfl))
      try simp only [lay8]
      refine tk8 18 (v := ?_) rfl (Or.inl ⟨by rfl,?_⟩) hHeld ?_
      rotate_left 1
      ·(intro w hSw;(try dsimp only at hSw);go_simp;(try with_reducible rfl))
      try simp only [lay8]
      refine wpAnyH_ready (rs := [21]) (by kernel_rfl) (by simp) ?_
      refine AllReadyH.cons (o := _) rfl (fun K hK => ?_) ?_
      ·go_simp
       refine hK.out _ _ (near_cells (z := w3.heap.size) (z' := (w3.heap.size + 1)) (by with_reducible ((repeat first | exact Near.refl _ _ _ | refine Near.alloc ?_ _ | refine Near.set ?_ ?_ _ _);all_goals first | exact Or.inl rfl | exact Or.inr (Or.inl rfl) | exact Or.inr (Or.inr (Nat.le_refl _)) | exact Or.inr (Or.inr (Nat.le_succ _)))) HQ4.out (by have := HQ4.out;omega) (by have := HQ4.out;omega) d0 d1 d2) (fun hHeld => ?_)
       clear hK K
       try simp only [lay8]
       refine tk8 22 (v := ?_) rfl (Or.inl ⟨by rfl,?_⟩) hHeld ?_
       rotate_left 1
       ·(intro w hSw;(try dsimp only at hSw);go_simp;(try with_reducible rfl))
       try simp only [lay8]
       refine wpAnyH_ready (rs := [23]) (by kernel_rfl) (by simp) ?_
       refine AllReadyH.cons (o := _) rfl (fun K hK => ?_) ?_
       ·go_simp
        refine hK.out _ _ (near_cells (z := w3.heap.size) (z' := (w3.heap.size + 1)) (by with_reducible ((repeat first | exact Near.refl _ _ _ | refine Near.alloc ?_ _ | refine Near.set ?_ ?_ _ _);all_goals first | exact Or.inl rfl | exact Or.inr (Or.inl rfl) | exact Or.inr (Or.inr (Nat.le_refl _)) | exact Or.inr (Or.inr (Nat.le_succ _)))) HQ4.out (by have := HQ4.out;omega) (by have := HQ4.out;omega) d0 d1 d2) (fun hHeld => ?_)
        clear hK K
        try simp only [lay8]
        refine wpAnyH_done (by kernel_rfl) ?_ _
        have hsz4 := HS4.out
        (try simp at hsz4)
        go_wp2_with fail
        go_meet
        refine ⟨(w3.heap.size + 1),w3.heap.size,k,x,A,m,cA,al,n,c,f,t,rfl,rfl,rfl,?_,?_,?_,?_,by omega,by omega⟩
        ·exact (set3_other (by omega) _ _ _).trans (set4_whole HhkE.out _ _ _ _)
        ·exact set3_whole ((set4_other (by omega) _ _ _ _).trans HhkW.out) _ _ _
        ·refine HES.out.near (z := w3.heap.size) (z' := (w3.heap.size + 1)) ((((((((Near.refl _ _ _).set (Or.inr (Or.inl rfl)) _ _).set (Or.inr (Or.inl rfl)) _ _).set (Or.inr (Or.inl rfl)) _ _).set (Or.inr (Or.inl rfl)) _ _).set (Or.inl rfl) _ _).set (Or.inl rfl) _ _).set (Or.inl rfl) _ _) ?_ ?_ ?_
         all_goals (try simp)
         all_goals (try omega)
        ·exact Near.below (z := w3.heap.size) (z' := (w3.heap.size + 1)) ((((((((Near.refl _ _ _).set (Or.inr (Or.inl rfl)) _ _).set (Or.inr (Or.inl rfl)) _ _).set (Or.inr (Or.inl rfl)) _ _).set (Or.inr (Or.inl rfl)) _ _).set (Or.inl rfl) _ _).set (Or.inl rfl) _ _).set (Or.inl rfl) _ _) HB4.out (by omega) (by omega) (by omega)
       exact AllReadyH.nil
      exact AllReadyH.nil
     exact AllReadyH.nil
    exact AllReadyH.nil
   exact AllReadyH.nil
  case rest =>
   obtain ⟨a,b,k,x,A,m,cA,al,n,c,f,t,rfl,rfl,rfl,hE,hW,hes,hb,ha',hb'⟩ := hcut
   have HES := Hd hes;have HEE := Hd hE;have HWW := Hd hW;have HBC := Hd hb
   have HRC := Hd (HR2.out.below hb);have HEC := Hd (HE2.out.below hb HE2.out.lt)
   obtain ⟨k0,k1,k2,k3,m0,m1,m2,m3⟩ := hE.four
   obtain ⟨l0,l1,l2,n0,n1,n2⟩ := hW.three
   obtain ⟨u0,u1,u2,u3,v0,v1,v2,v3⟩ := HEC.out.four
   clear c0 c1 c2 c0a c1a c2a c0b c1b c2b
   have f1 := HRC.out.f1;have d1 := HRC.out.c1
   clear hes hE hW hb
   cases Q with
   | bad c0 till =>
    obtain ⟨hc,hf,ht⟩ := HES.out
    subst hc hf ht
    have b1 : (c != 0) = true := ne_true_of (by have : 0 < c := HOK.out;omega)
    go_wp2_with fail
    refine ⟨rfl,?_⟩
    unfold OneBPost
    rw [if_pos HI.out,HO.out]
    exact ⟨rfl,tk_trans HG2.out (tk_below HBC.out _),HRC.out⟩
   | esc k0' x0 l a0 n0' =>
    obtain ⟨h1,h2,h3,h4,h5,h6⟩ := HES.out
    subst h1 h2 h3 h4 h5
    have HOW := Hd h6
    have hqa : q ≠ a := by have := hlq;omega
    have haq := hqa.symm
    have hwa : w.heap.size ≠ a := by have := HS2.out;omega
    have haw := hwa.symm
    have hwq : w.heap.size ≠ q := HNE.out
    have hqw := hwq.symm
    clear h6 hlq ha' hb'
    go_wp2_with fail
    have hge := own_ge HOW.out
    have hl3 := HR2.out.lt
    have hl4 := HS2.out
    have hl5 := HQL.out
    have hR : Whole (set4 (wc.setCell ⟨q,1,none⟩ (.int .i64 (n0' : Int))) w.heap.size (.int .i64 k) (.int .i32 x) (.slice A m cA) (.int .i64 al)) w.heap.size 115 #[.int .i64 k,.int .i32 x,.slice A m cA,.int .i64 al] := set4_whole (HEC.out.far hwq 1 _) _ _ _ _
    refine bodyPost_ret (results_e Tryz.results105 _ rfl hR rfl) rfl ?_
    unfold OneBPost
    rw [if_pos HI.out,HO.out]
    refine ⟨_,rfl,OwnR.mono (own_set4 (own_put HOW.out (fun g hg => by have := hge g hg;omega) 1 _) (fun g hg => by have := hge g hg;omega) _ _ _ _) (by omega),?_,(set4_other (by omega) _ _ _ _).trans (HRC.out.put _ _ rfl)⟩
    exact tk_new (tk_trans (tk_trans HG2.out (tk_below HBC.out _)) (tk_set _ _ _ _)) (Nat.le_refl _) _ _ _ _
 ·have HX := fun W (h : Lib.Utf8Tabs 0 1 W) (hr : RdIn W q 110 [.bool p,sp] s i) => pbRune_any q _ _ s i W hs hi hr h
  have hOS : i < s.size → oneS s i p = .esc 1 ((runeP s i).1 : Int) [] 0 (i + (runeP s i).2) := fun hlt => by
   unfold oneS runeP
   rw [if_neg h92,if_pos hlt]
  rw [decide_eq_false h92] at HP
  have HP := Hd HP;have HX := Hd HX;have HOS := Hd hOS
  clear hpre h92 hOS
  go_enter Tryz.func105,Tryz.ntmps105
  go_upto_region 1 with (fail)
  rw [HW1.out]
  go_wp2_with fail
  refine HL.out.mono ?_
  rintro e w2 ⟨rfl,k,rfl⟩
  have HR2 := Hd (HR1.out.drewN k);have HG2 := Hd (tk_trans HG1.out (tk_drewN w1 k (some q)));have HE2 := Hd (HE1.out.below (drewN_below w1 k) HE1.out.lt)
  have HT2 := Hd (Utf8Tabs_below HT.out (drewN_below w1 k))
  generalize w1.drewN k = w2 at HR2 HG2 HE2 HT2 ⊢
  go_wp2_with fail
  refine (HP.out _).mono ?_
  rintro e w3 ⟨rfl,rfl⟩
  go_wp2_with fail
  refine (HX.out _ HT2.out HR2.out).mono ?_
  rintro e w4 ⟨ht,he⟩
  have HK := Hd ht;have HE4 := Hd (ht.whole HE2.out HNE.out)
  clear ht HX
  by_cases hlt : i < s.size
  ·have he := he.trans (if_pos hlt)
   have HO := Hd (HOS.out hlt);have HI := Hd hlt
   clear HOS hlt
   generalize (runeP s i).1 = c at he HO
   generalize (runeP s i).2 = n at HK HO
   subst he
   obtain ⟨u0,u1,u2,u3,v0,v1,v2,v3⟩ := HE4.out.four
   go_wp2_with fail
   have hR : Whole (set4 w4 w.heap.size (.int .i64 1) (.int .i32 (c : Int)) (.slice none 0 0) (.int .i64 0)) w.heap.size 115 #[.int .i64 1,.int .i32 (c : Int),.slice none 0 0,.int .i64 0] := set4_whole HE4.out _ _ _ _
   refine bodyPost_ret (results_e Tryz.results105 _ rfl hR rfl) rfl ?_
   unfold OneBPost
   rw [if_pos HI.out,HO.out]
   have hl5 := HQL.out
   exact ⟨_,rfl,own_none _ _,tk_new (tk_trans HG2.out HK.out.1) (Nat.le_refl _) _ _ _ _,(set4_other (by omega) _ _ _ _).trans HK.out.2⟩
  ·have he := he.trans (if_neg hlt)
   have HI := Hd hlt
   have HN := Hd (show (runeP s i).2 = 0 by unfold runeP;rw [if_neg hlt])
   clear HOS hlt
   rw [HN.out] at HK
   unfold thrown at he
   subst he
   go_wp2_with fail
   refine ⟨rfl,?_⟩
   unfold OneBPost
   rw [if_neg HI.out]
   exact ⟨rfl,tk_trans HG2.out HK.out.1,HK.out.2⟩
structure RdSt (W : World) (B q : Nat) (p : Bool) (s : ByteArray) (sp : Value) (ks : List (Int × Int)) (j : Nat) : Prop where
 rd : RdIn W q 110 [.bool p,sp] s j
 own : OwnR W B sp ks
theorem RdSt.kind {W : World} {B q : Nat} {p : Bool} {s : ByteArray} {sp : Value} {ks : List (Int × Int)} {j : Nat} (h : RdSt W B q p s sp ks j) : Kind W q 110 := Whole.kind h.rd
theorem RdSt.apart {W : World} {B q : Nat} {p : Bool} {s : ByteArray} {sp : Value} {ks : List (Int × Int)} {j : Nat} (h : RdSt W B q p s sp ks j) : sp.ownBlock ≠ some q := fun e => ((own_kind h.own.1 e).ne h.kind (by decide)) rfl
theorem RdSt.took {W W' : World} {B q : Nat} {p : Bool} {s : ByteArray} {sp : Value} {ks : List (Int × Int)} {j k : Nat} (h : RdSt W B q p s sp ks j) (ht : Took q 110 [.bool p,sp] s k W W') : RdSt W' B q p s sp ks k :=
 ⟨ht.2,own_other h.own.1 fun b hb => ht.1.block b (own_kind h.own.1 hb).lt (fun e => h.apart (hb.trans e)),h.own.2⟩
def SpotR (w : World) (sp sp' : Value) : Prop := sp'.ownBlock = sp.ownBlock ∨ ∃ g,sp'.ownBlock = some g ∧ w.heap.size ≤ g
theorem step_append_keep {w : World} {ops : Array Oper} {o : Oper} {a : Act} {Kk : Act → World → Prop} {Q : Exit → Act → World → Prop} {E : Prop} (hgd : o.guard = none) (x y : Operand)
  (ho : o.op = .call { callee := .builtin .append,args := #[x,y],argTypes := #[26,26] })
  (base : Nat) (v : Value) (O : List (Int × Int)) (hs : a.eval x = v) (hown : OwnR w base v O)
  (g : Nat) (x1 x2 : Int) (hx : a.eval y = .slice (some ⟨g,0,none⟩) 1 1) (ht : Rgs w (.slice (some ⟨g,0,none⟩) 1 1) [(x1,x2)]) (hn : O.length ≤ 8796093022208) (hbase : base ≤ w.heap.size)
  (h : ∀ v' w',OwnR w' base v' (O ++ [(x1,x2)]) → Keeps none v O.length w w' → (∃ g c',v' = .slice (some ⟨g,0,none⟩) (O.length + 1) c' ∧ (v.ownBlock = some g ∨ g = w.heap.size)) → Kk (a.put o.dst v') w') :
  if Region.wanted o (yielded ops a.tmps) = true then Oper.wp Tryz.prog o a w Kk Q else E := by
 have hw : Region.wanted o (yielded ops a.tmps) = true := by
  unfold Region.wanted
  rw [hgd]
 rw [if_pos hw]
 obtain ⟨v',w',hr,g1,g2,g3⟩ := run_append_keep w base v O o.type hown ⟨g,0,none⟩ 1 x1 x2 ht hn hbase
 unfold Oper.wp execOp
 simp only [ho,resolve,invoke,builtin,Sem.run_bind,Sem.run_pure,Result.andThen_ok,List.map_toArray,List.map_cons,List.map_nil,hs,hx,hr]
 exact h v' w' g1 g2 g3
theorem item_last {W : World} {B g c : Nat} {ks : List (Int × Int)} {x1 x2 : Int} (h : OwnR W B (.slice (some ⟨g,0,none⟩) (ks.length + 1) c) (ks ++ [(x1,x2)])) :
  ItemV W (.slice (some ⟨g,ks.length * 2,none⟩) 1 1) [(x1,x2)] (.slice (some ⟨g,0,none⟩) (ks.length + 1) c) (ks.length + 1) := by
 obtain ⟨a,c',h1,h2,h3,h4,h5,h6⟩ := h.rgs
 rcases h5 with h5 | ⟨b,o,rfl,hc⟩
 ·simp at h5
 injection h1 with e1 e2 e3
 have e1 := Option.some.inj e1
 have e4 := congrArg Addr.block e1
 have e5 := congrArg Addr.off e1
 simp only at e4 e5
 subst e4 e5
 have hk := hc ks.length (by simp)
 rw [Nat.zero_add,List.getElem_append_right (Nat.le_refl _)] at hk
 simp only [Nat.sub_self,List.getElem_cons_zero] at hk
 refine ⟨⟨_,1,rfl,Nat.le_refl _,by decide,fun e => (by cases e),.inr ⟨g,ks.length * 2,rfl,fun i hi => ?_⟩,fun r hr => h6 r (List.mem_append_right _ hr)⟩,.inr ⟨g,ks.length * 2,1,rfl,own_kind h.1 rfl,fun _ => ?_⟩⟩
 ·have : i = 0 := by simpa using hi
  subst this
  simpa using hk
 ·simp
  omega
theorem own_cap {W : World} {B g c n : Nat} {l : List (Int × Int)} (h : OwnR W B (.slice (some ⟨g,0,none⟩) (n + 1) c) l) : (n : Int) + 1 ≤ (c : Int) := by
 rcases h.1.2 with ⟨h1,_⟩ | ⟨g',cap,cur,h1,_,_,h2,_⟩
 ·cases h1
 ·injection h1 with e1 e2 e3
  subst e3
  omega
def HoldPost (B q : Nat) (p : Bool) (s : ByteArray) (sp : Value) (ks : List (Int × Int)) (x1 x2 : Int) (j : Nat) (w : World) (e : Ending) (w' : World) : Prop :=
 ∃ v sp',e = .returned v ∧ RdSt w' B q p s sp' (ks ++ [(x1,x2)]) j ∧ Keeps (some q) sp ks.length w w' ∧ SpotR w sp sp' ∧ ItemV w' v [(x1,x2)] sp' (ks.length + 1)
theorem pbKeep_any (B q : Nat) (p : Bool) (s : ByteArray) (sp : Value) (ks : List (Int × Int)) (x1 x2 : Int) (j : Nat) (w : World) (h : RdSt w B q p s sp ks j) (hn : ks.length ≤ 8796093022208) (hB : B ≤ w.heap.size) (h1 : I32 x1) (h2 : I32 x2) :
  Calls Tryz.prog 108 #[.pointer (some ⟨q,0,none⟩),.agg #[.int .i32 x1,.int .i32 x2]] w (HoldPost B q p s sp ks x1 x2 j w) := by
 have hq := h.rd.lt
 obtain ⟨w1,hw1⟩ : ∃ w1,w.alloc (.cells #[.int .i32 x1,.int .i32 x2] 51) = w1 := ⟨_,rfl⟩
 have hb1 : Below w.heap.size w w1 := by rw [← hw1];exact (Below.refl _ w).alloc (Nat.le_refl _) _
 have hE1 : Whole w1 w.heap.size 51 #[.int .i32 x1,.int .i32 x2] := by rw [← hw1];exact heap_alloc_new w _
 have hs1 : w1.heap.size = w.heap.size + 1 := by rw [← hw1];simp
 obtain ⟨A,cA,hsp,-⟩ := h.own.rgs
 subst hsp
 have c3 : w1.cell? ⟨q,3,none⟩ = some (.slice A ks.length cA) := (hb1.cell (p := ⟨q,3,none⟩) hq).trans (Whole.cell h.rd 3)
 have r0 : w1.cell? ⟨w.heap.size,0,none⟩ = some (.int .i32 x1) := hE1.cell 0
 have r1 : w1.cell? ⟨w.heap.size,1,none⟩ = some (.int .i32 x2) := hE1.cell 1
 have c3a : ∀ o,(w1.alloc o).cell? ⟨q,3,none⟩ = some (.slice A ks.length cA) := fun o => (World.cell?_alloc_old _ _ _ (by simp;omega)).trans c3
 have HW1 := Hd hw1;have HB1 := Hd hb1;have HS1 := Hd hs1;have HH := Hd h;have HQ := Hd hq;have HI1 := Hd h1;have HI2 := Hd h2
 clear hw1 hb1 hE1 hs1 h hq h1 h2
 go_enter Tryz.func108,Tryz.ntmps108
 go_upto_region 1 with (fail)
 rw [HW1.out]
 go_region_law (first | (refine step_append_keep rfl (.tmp 10) (.tmp 12) rfl B (.slice A ks.length cA) ks rfl (HH.out.own.below (HB1.out.trans (((Below.refl _ w1).alloc (Nat.le_refl _) _).drew.mono HB1.out.size))) w1.heap.size x1 x2 rfl ((rgs_new w1 x1 x2 HI1.out HI2.out).below (Below.refl _ _).drew) hn ?hb ?_;(case hb => (have := HS1.out;simp;omega));intro v2 w2 ho2 hk2 hp2;obtain ⟨g2,c2,rfl,hat⟩ := hp2;have hr2 : RdIn w2 q 110 [.bool p,.slice A ks.length cA] s j := hk2.whole (Whole.below HH.out.rd (HB1.out.trans (((Below.refl _ w1).alloc (Nat.le_refl _) _).drew.mono HB1.out.size)) HQ.out) (by simp) HH.out.apart;have hcap : (ks.length : Int) + 1 ≤ (c2 : Int) := own_cap ho2;have d3 : w2.cell? ⟨q,3,none⟩ = some (.slice A ks.length cA) := Whole.cell hr2 3;have f3 : w2.frozen? ⟨q,3,none⟩ = false := Whole.free hr2 3;have HR2 := Hd hr2;have HO2 := Hd ho2;have HK2 := Hd hk2;have HAT := Hd hat;clear hr2 ho2 hk2 hat))
 have x0 : IntKind.i64.wrap (((ks.length + 1 : Nat) : Int) - 1) = (ks.length : Int) := by rw [wrap_in _ (by omega)];omega
 have x0' : IntKind.i64.wrap ((ks.length : Int) + 1 - 1) = (ks.length : Int) := by rw [wrap_in _ (by omega)];omega
 all_goals
  go_wp2
  go_ret
  have hgq : g2 ≠ q := (own_kind HO2.out.1 rfl).ne (Whole.kind HR2.out) (by decide)
  have hown := own_put HO2.out (fun g hg => by have : g2 = g := (by simpa [Value.ownBlock] using hg);omega) 3 (.slice (some ⟨g2,0,none⟩) (ks.length + 1) c2) (b := q)
  refine ⟨_,_,rfl,⟨?_,hown⟩,?_,?_,item_last hown⟩
  ·have := Whole.store HR2.out 3 (.slice (some ⟨g2,0,none⟩) (ks.length + 1) c2)
   simpa [RdIn] using this
  ·exact ((Keeps.of_grown (tk_below HB1.out _)).trans (Keeps.of_grown (tk_below ((Below.refl _ w1).alloc (Nat.le_refl _) _).drew _))).trans (HK2.out.of_none.trans (Keeps.of_grown (tk_set _ _ _ _)))
  ·rcases HAT.out with e | e
   ·exact .inl e.symm
   ·exact .inr ⟨g2,rfl,by rw [e];have := HS1.out;simp;omega⟩
def ItemBPost (B q : Nat) (p : Bool) (s : ByteArray) (sp : Value) (ks : List (Int × Int)) (j : Nat) (w : World) (e : Ending) (w' : World) : Prop :=
 if j < s.size then
  match itemS s j p with
  | .item l n => ∃ v sp' ks',e = .returned v ∧ RdSt w' B q p s sp' ks' n ∧ Keeps (some q) sp ks.length w w' ∧ SpotR w sp sp' ∧ ks.length ≤ ks'.length ∧ ks'.length ≤ ks.length + 1 ∧ ItemV w' v l sp' ks'.length
  | .bad c a b => e = thrown (.iface 32 (wrongV c a b)) ∧ Keeps (some q) sp ks.length w w'
 else e = thrown endedV ∧ Keeps (some q) sp ks.length w w'
theorem colS_in {s : ByteArray} {j k : Nat} (h : colS s j = some k) : j < s.size := by
 have := colS_le h
 omega
theorem itemS_col {s : ByteArray} {j k : Nat} {p : Bool} (h : colS s j = some k) : itemS s j p = match posixR ((leftB s (j + 2)).take (k - (j + 2))) with
  | none => .bad 72 j (k + 2)
  | some l => .item l (k + 2) := by
 unfold itemS
 rw [h]
 rfl
theorem itemS_one {s : ByteArray} {j : Nat} {p : Bool} (h : colS s j = none) : itemS s j p = match oneS s j p with
  | .bad c till => .bad c j till
  | .esc k r l a n => if k = 2 then .item l n else if k ≠ 1 then .bad 72 j n else rangeS s j r n p := by
 unfold itemS
 rw [h]
 rfl
theorem rangeS_no {s : ByteArray} {i n : Nat} {r : Int} {p : Bool} (h : dashB s n = false) : rangeS s i r n p = .item [(r,r)] n := by
 unfold rangeS
 exact if_neg (of_decide_eq_false h)
theorem rangeS_yes {s : ByteArray} {i n : Nat} {r : Int} {p : Bool} (h : dashB s n = true) : rangeS s i r n p = match oneS s (n + 1) p with
  | .bad c till => .bad c (n + 1) till
  | .esc k r2 _ _ n2 => if k ≠ 1 ∨ r2 < r then .bad 72 i n2 else .item [(r,r2)] n2 := by
 unfold rangeS
 exact if_pos (of_decide_eq_true h)
theorem dash_in {s : ByteArray} {n : Nat} (h : dashB s n = true) : n + 1 < s.size := head_in (of_decide_eq_true h).2.1
theorem one_out {p : Bool} {q : Nat} {t : TypeId} {r : List Value} {s : ByteArray} {i : Nat} {w w' : World} {e : Ending} (hlt : i < s.size) (h : OneBPost p q t r s i w e w') : OneOut (oneS s i p) q t r s i w e w' := by
 unfold OneBPost at h
 rwa [if_pos hlt] at h
theorem dash_no {q : Nat} {t : TypeId} {r : List Value} {s : ByteArray} {i : Nat} {w w' : World} {e : Ending} (hd : dashB s i = false) (h : DashPost q t r s i w e w') : e = .returned (.bool false) ∧ Took q t r s i w w' := by
 unfold DashPost at h
 rw [hd] at h
 exact h
theorem dash_yes {q : Nat} {t : TypeId} {r : List Value} {s : ByteArray} {i : Nat} {w w' : World} {e : Ending} (hd : dashB s i = true) (h : DashPost q t r s i w e w') : e = .returned (.bool true) ∧ Took q t r s (i + 1) w w' := by
 unfold DashPost at h
 rw [hd] at h
 exact h
theorem own_low {w : World} {B : Nat} {sp : Value} {ks : List (Int × Int)} (h : OwnR w B sp ks) : ∀ b,sp.ownBlock = some b → b < w.heap.size := fun b hb => (own_kind h.1 hb).lt
theorem pbItem_any (B q : Nat) (p : Bool) (s : ByteArray) (sp : Value) (ks : List (Int × Int)) (j : Nat) (w : World) (hs : s.size ≤ 4503599627370496) (hj : j ≤ s.size) (h : RdSt w B q p s sp ks j) (hn : ks.length ≤ 8796093022208) (hB : B ≤ w.heap.size) (hq : B ≤ q)
  (hT : ∀ W,Below B w W → Lib.Utf8Tabs 0 1 W) :
  Calls Tryz.prog 86 #[.pointer (some ⟨q,0,none⟩)] w (ItemBPost B q p s sp ks j w) := by
 have c1 := h.rd.c1
 have HN := pbNamed_any q [.bool p,sp] s j w hs hj h.rd
 have HH := Hd h;have HT := Hd hT
 clear h hT
 cases hK : colS s j with
 | some k =>
  have hlt := colS_in hK
  have hit := itemS_col (p := p) hK
  unfold NamedBPost at HN
  rw [hK] at HN
  simp only at HN
  cases hP : posixR ((leftB s (j + 2)).take (k - (j + 2))) with
  | none =>
   rw [hP] at HN hit
   have HN := Hd HN;have HI := Hd hit;have HL := Hd hlt
   clear hK hP hit hlt
   go_enter Tryz.func86,Tryz.ntmps86
   go_wp2_with fail
   refine HN.out.mono ?_
   rintro e w1 ⟨he,ht⟩
   unfold thrown at he
   subst he
   have HK := Hd ht
   clear ht
   go_wp2_with fail
   refine ⟨rfl,?_⟩
   unfold ItemBPost
   rw [if_pos HL.out,HI.out]
   exact ⟨rfl,Keeps.of_grown HK.out.1⟩
  | some l =>
   rw [hP] at HN hit
   have HN := Hd HN;have HI := Hd hit;have HL := Hd hlt
   clear hK hP hit hlt
   go_enter Tryz.func86,Tryz.ntmps86
   go_wp2_with fail
   refine HN.out.mono ?_
   rintro e w1 ⟨v,rfl,ho,ht⟩
   have HK := Hd ht;have HO := Hd ho
   clear ht ho
   go_wp2_with fail
   go_ret
   unfold ItemBPost
   rw [if_pos HL.out,HI.out]
   exact ⟨v,sp,ks,rfl,HH.out.took HK.out,Keeps.of_grown HK.out.1,.inl rfl,Nat.le_refl _,Nat.le_succ _,ItemV.own HO.out (own_low HH.out.own)⟩
 | none =>
  have hit := itemS_one (p := p) hK
  unfold NamedBPost at HN
  rw [hK] at HN
  simp only at HN
  have HN := Hd HN
  clear hK
  by_cases hlt : j < s.size
  rotate_left
  ·have HL := Hd hlt
   clear hit hlt
   go_enter Tryz.func86,Tryz.ntmps86
   go_wp2_with fail
   refine HN.out.mono ?_
   rintro e w1 ⟨rfl,ht⟩
   have HK := Hd ht;have HB1 := Hd (ht.below (Below.refl B w) hB hq)
   clear ht
   go_wp2_with fail
   refine (pbOne_any q p sp s j w1 hs hj HK.out.2 (HT.out _ HB1.out)).mono ?_
   intro e w2 ho
   unfold OneBPost at ho
   rw [if_neg HL.out] at ho
   obtain ⟨he,ht⟩ := ho
   unfold thrown at he
   subst he
   have HK2 := Hd (HK.out.trans ht)
   clear ht
   go_wp2_with fail
   refine ⟨rfl,?_⟩
   unfold ItemBPost
   rw [if_neg HL.out]
   exact ⟨rfl,Keeps.of_grown HK2.out.1⟩
  have hok := oneS_ok s j p hlt
  obtain ⟨R1,hR1⟩ : ∃ R,oneS s j p = R := ⟨_,rfl⟩
  have HO1 := fun W hr hT => (pbOne_any q p sp s j W hs hj hr hT).mono (fun e w' ho => one_out hlt ho)
  rw [hR1] at hit hok HO1
  have HO1 := Hd HO1;have HL := Hd hlt
  clear hlt hR1
  cases R1 with
  | bad c till =>
   have HI := Hd hit
   clear hit hok
   go_enter Tryz.func86,Tryz.ntmps86
   go_wp2_with fail
   refine HN.out.mono ?_
   rintro e w1 ⟨rfl,ht⟩
   have HK := Hd ht;have HB1 := Hd (ht.below (Below.refl B w) hB hq)
   clear ht
   go_wp2_with fail
   refine (HO1.out w1 HK.out.2 (HT.out _ HB1.out)).mono ?_
   rintro e w2 ⟨he,ht⟩
   unfold thrown at he
   subst he
   have HK2 := Hd (HK.out.trans ht)
   clear ht
   go_wp2_with fail
   refine ⟨rfl,?_⟩
   unfold ItemBPost
   rw [if_pos HL.out,HI.out]
   exact ⟨rfl,Keeps.of_grown HK2.out.1⟩
  | esc k x l a n =>
   obtain ⟨hok1,hok2,hok3,hok4,hok5⟩ := hok
   have HJ := Hd hok1;have HNS := Hd hok2;have HX0 := Hd hok3;have HX1 := Hd hok4
   clear hok1 hok2 hok3 hok4 hok5
   simp only at hit
   by_cases h2 : k = 2
   ·subst h2
    have HI := Hd (hit.trans (if_pos rfl))
    clear hit
    go_enter Tryz.func86,Tryz.ntmps86
    go_wp2_with fail
    refine HN.out.mono ?_
    rintro e w1 ⟨rfl,ht⟩
    have HK := Hd ht;have HB1 := Hd (ht.below (Below.refl B w) hB hq)
    clear ht
    go_wp2_with fail
    refine (HO1.out w1 HK.out.2 (HT.out _ HB1.out)).mono ?_
    rintro e w2 ⟨v,he,ho,ht⟩
    unfold escV at he
    obtain ⟨A,cA,hv,-⟩ := ho.rgs
    subst hv
    subst he
    have HK2 := Hd (HK.out.trans ht);have HO := Hd ho;have HZ := Hd HK.out.1.size
    clear ht ho
    go_wp2_with fail
    go_ret
    unfold ItemBPost
    rw [if_pos HL.out,HI.out]
    have hst := HH.out.took HK2.out
    have hb3 : Below w2.heap.size w2 (w2.alloc (.cells #[.int .i64 2,.int .i32 x,.slice A l.length cA,.int .i64 a] 115)) := (Below.refl _ w2).alloc (Nat.le_refl _) _
    exact ⟨_,sp,ks,rfl,⟨hst.rd.below hb3,hst.own.below hb3⟩,(Keeps.of_grown HK2.out.1).trans (Keeps.of_grown (tk_below hb3 _)),.inl rfl,Nat.le_refl _,Nat.le_succ _,ItemV.own (OwnR.mono (HO.out.below hb3) HZ.out) (own_low HH.out.own)⟩
   ·have b2 := eq_false_of h2
    by_cases h1 : k = 1
    rotate_left
    ·have b1 := eq_false_of h1
     have b3 := ne_true_of h1
     have HI := Hd ((hit.trans (if_neg h2)).trans (if_pos h1))
     clear hit h1 h2
     go_enter Tryz.func86,Tryz.ntmps86
     go_wp2_with fail
     refine HN.out.mono ?_
     rintro e w1 ⟨rfl,ht⟩
     have HK := Hd ht;have HB1 := Hd (ht.below (Below.refl B w) hB hq)
     clear ht
     go_wp2_with fail
     refine (HO1.out w1 HK.out.2 (HT.out _ HB1.out)).mono ?_
     rintro e w2 ⟨v,he,ho,ht⟩
     unfold escV at he
     obtain ⟨A,cA,hv,-⟩ := ho.rgs
     subst hv
     subst he
     have hK2 := HK.out.trans ht
     obtain ⟨w3,hw3⟩ : ∃ w3,w2.alloc (.cells #[.int .i64 k,.int .i32 x,.slice A l.length cA,.int .i64 a] 115) = w3 := ⟨_,rfl⟩
     obtain ⟨w4,hw4⟩ : ∃ w4,w3.alloc (.cells #[.int .i64 k,.int .i32 x,.slice A l.length cA,.int .i64 a] 115) = w4 := ⟨_,rfl⟩
     have hb3 : Below w2.heap.size w2 w3 := by rw [← hw3];exact (Below.refl _ _).alloc (Nat.le_refl _) _
     have hb4 : Below w3.heap.size w3 w4 := by rw [← hw4];exact (Below.refl _ _).alloc (Nat.le_refl _) _
     have hE3 : Whole w3 w2.heap.size 115 #[.int .i64 k,.int .i32 x,.slice A l.length cA,.int .i64 a] := by rw [← hw3];exact heap_alloc_new _ _
     have hF4 : Whole w4 w3.heap.size 115 #[.int .i64 k,.int .i32 x,.slice A l.length cA,.int .i64 a] := by rw [← hw4];exact heap_alloc_new _ _
     have hE4 := hE3.below hb4 hE3.lt
     have hz : w3.heap.size = w2.heap.size + 1 := by rw [← hw3];simp
     have hst2 := HH.out.took hK2
     have hst4 : RdSt w4 B q p s sp ks n := ⟨(hst2.rd.below hb3).below hb4,(hst2.own.below hb3).below hb4⟩
     have HG4 := Hd (tk_trans hK2.1 (tk_trans (tk_below hb3 (some q)) (tk_below hb4 (some q))))
     have HQ := Hd (show q < w2.heap.size from hst2.rd.lt);have HZ := Hd hz;have HS0 := Hd hK2.1.size
     have HW3 := Hd hw3;have HW4 := Hd hw4;have HE3 := Hd hE3;have HE4 := Hd hE4;have HF4 := Hd hF4;have HST := Hd hst4
     clear ht ho hw3 hw4 hb3 hb4 hE3 hE4 hF4 hz hst2 hst4 hK2
     go_upto_region 6 with (fail)
     rw [HW3.out]
     obtain ⟨e0,e1,e2,e3,f0,f1,f2,f3⟩ := HE3.out.four
     go_upto_region 9 with (fail)
     rw [HW4.out]
     clear e0 e1 e2 e3 f0 f1 f2 f3
     obtain ⟨e0,e1,e2,e3,f0,f1,f2,f3⟩ := HE4.out.four
     obtain ⟨g0,g1,g2,g3,m0,m1,m2,m3⟩ := HF4.out.four
     go_wp2_with fail
     refine (pbRefuse_any q _ _ s n j w4 HST.out.rd).mono ?_
     rintro e w5 ⟨he,rfl⟩
     unfold thrown at he
     subst he
     go_wp2_with fail
     refine ⟨rfl,?_⟩
     unfold ItemBPost
     rw [if_pos HL.out,HI.out]
     exact ⟨rfl,Keeps.of_grown HG4.out⟩
    subst h1
    have hit := (hit.trans (if_neg h2)).trans (if_neg (fun h => h rfl))
    clear b2 h2
    have HD := fun W hr => pbDash_any q 110 [.bool p,sp] s n W hs HNS.out hr
    cases hD : dashB s n with
    | false =>
     have HI := Hd (hit.trans (rangeS_no hD))
     have HD := Hd (fun W hr => (HD W hr).mono (fun e w' h => dash_no hD h))
     clear hit hD
     go_enter Tryz.func86,Tryz.ntmps86
     go_wp2_with fail
     refine HN.out.mono ?_
     rintro e w1 ⟨rfl,ht⟩
     have HK := Hd ht;have HB1 := Hd (ht.below (Below.refl B w) hB hq)
     clear ht
     go_wp2_with fail
     refine (HO1.out w1 HK.out.2 (HT.out _ HB1.out)).mono ?_
     rintro e w2 ⟨v,he,ho,ht⟩
     unfold escV at he
     obtain ⟨A,cA,hv,-⟩ := ho.rgs
     subst hv
     subst he
     have hK2 := HK.out.trans ht
     obtain ⟨w3,hw3⟩ : ∃ w3,w2.alloc (.cells #[.int .i64 1,.int .i32 x,.slice A l.length cA,.int .i64 a] 115) = w3 := ⟨_,rfl⟩
     obtain ⟨w4,hw4⟩ : ∃ w4,w3.alloc (.cells #[.int .i64 1,.int .i32 x,.slice A l.length cA,.int .i64 a] 115) = w4 := ⟨_,rfl⟩
     have hb3 : Below w2.heap.size w2 w3 := by rw [← hw3];exact (Below.refl _ _).alloc (Nat.le_refl _) _
     have hb4 : Below w3.heap.size w3 w4 := by rw [← hw4];exact (Below.refl _ _).alloc (Nat.le_refl _) _
     have hE3 : Whole w3 w2.heap.size 115 #[.int .i64 1,.int .i32 x,.slice A l.length cA,.int .i64 a] := by rw [← hw3];exact heap_alloc_new _ _
     have hF4 : Whole w4 w3.heap.size 115 #[.int .i64 1,.int .i32 x,.slice A l.length cA,.int .i64 a] := by rw [← hw4];exact heap_alloc_new _ _
     have hE4 := hE3.below hb4 hE3.lt
     have hz : w3.heap.size = w2.heap.size + 1 := by rw [← hw3];simp
     have hst2 := HH.out.took hK2
     have hst4 : RdSt w4 B q p s sp ks n := ⟨(hst2.rd.below hb3).below hb4,(hst2.own.below hb3).below hb4⟩
     have HG4 := Hd (tk_trans hK2.1 (tk_trans (tk_below hb3 (some q)) (tk_below hb4 (some q))))
     have HQ := Hd (show q < w2.heap.size from hst2.rd.lt);have HZ := Hd hz;have HS0 := Hd hK2.1.size
     have HW3 := Hd hw3;have HW4 := Hd hw4;have HE3 := Hd hE3;have HE4 := Hd hE4;have HF4 := Hd hF4;have HST := Hd hst4
     clear ht ho hw3 hw4 hb3 hb4 hE3 hE4 hF4 hz hst2 hst4 hK2
     go_upto_region 6 with (fail)
     rw [HW3.out]
     obtain ⟨e0,e1,e2,e3,f0,f1,f2,f3⟩ := HE3.out.four
     go_upto_region 9 with (fail)
     rw [HW4.out]
     clear e0 e1 e2 e3 f0 f1 f2 f3
     obtain ⟨e0,e1,e2,e3,f0,f1,f2,f3⟩ := HE4.out.four
     obtain ⟨g0,g1,g2,g3,m0,m1,m2,m3⟩ := HF4.out.four
     go_wp2_with fail
     refine (HD.out w4 HST.out.rd).mono ?_
     rintro e w5 ⟨rfl,ht⟩
     have HST5 := Hd (HST.out.took ht);have HG5 := Hd (tk_trans HG4.out ht.1)
     have hE5 := ht.whole HE4.out (by have := HQ.out;omega)
     have hF5 := ht.whole HF4.out (by have := HQ.out;have := HZ.out;omega)
     clear ht e0 e1 e2 e3 f0 f1 f2 f3 g0 g1 g2 g3 m0 m1 m2 m3
     obtain ⟨e0,e1,e2,e3,f0,f1,f2,f3⟩ := hE5.four
     obtain ⟨g0,g1,g2,g3,m0,m1,m2,m3⟩ := hF5.four
     clear hE5 hF5
     go_wp2_with fail
     refine (pbKeep_any B q p s sp ks x x n w5 HST5.out hn (Nat.le_trans hB HG5.out.size) (i32_of HX0.out HX1.out) (i32_of HX0.out HX1.out)).mono ?_
     rintro e w6 ⟨v,sp',rfl,hst,hk,hsp,hi⟩
     have H6 := Hd (And.intro hst (And.intro hk (And.intro hsp hi)))
     clear hst hk hsp hi
     go_wp2_with fail
     go_ret
     unfold ItemBPost
     rw [if_pos HL.out,HI.out]
     obtain ⟨hst,hk,hsp,hi⟩ := H6.out
     exact ⟨v,sp',_,rfl,hst,(Keeps.of_grown HG5.out).trans hk,hsp.imp id (fun ⟨g,h1,h2⟩ => ⟨g,h1,Nat.le_trans HG5.out.size h2⟩),by simp,by simp,by simpa using hi⟩
    | true =>
     have hlt2 := dash_in hD
     have hit := hit.trans (rangeS_yes hD)
     have HD := Hd (fun W hr => (HD W hr).mono (fun e w' h => dash_yes hD h))
     have hok2 := oneS_ok s (n + 1) p hlt2
     have HO2 := fun W hr hT => (pbOne_any q p sp s (n + 1) W hs (Nat.le_of_lt hlt2) hr hT).mono (fun e w' ho => one_out hlt2 ho)
     obtain ⟨R2,hR2⟩ : ∃ R,oneS s (n + 1) p = R := ⟨_,rfl⟩
     rw [hR2] at hit hok2 HO2
     have HO2 := Hd HO2
     clear hR2 hD hlt2
     cases R2 with
     | bad c till =>
      have HI := Hd hit
      clear hit hok2
      go_enter Tryz.func86,Tryz.ntmps86
      go_wp2_with fail
      refine HN.out.mono ?_
      rintro e w1 ⟨rfl,ht⟩
      have HK := Hd ht;have HB1 := Hd (ht.below (Below.refl B w) hB hq)
      clear ht
      go_wp2_with fail
      refine (HO1.out w1 HK.out.2 (HT.out _ HB1.out)).mono ?_
      rintro e w2 ⟨v,he,ho,ht⟩
      unfold escV at he
      obtain ⟨A,cA,hv,-⟩ := ho.rgs
      subst hv
      subst he
      have hK2 := HK.out.trans ht
      obtain ⟨w3,hw3⟩ : ∃ w3,w2.alloc (.cells #[.int .i64 1,.int .i32 x,.slice A l.length cA,.int .i64 a] 115) = w3 := ⟨_,rfl⟩
      obtain ⟨w4,hw4⟩ : ∃ w4,w3.alloc (.cells #[.int .i64 1,.int .i32 x,.slice A l.length cA,.int .i64 a] 115) = w4 := ⟨_,rfl⟩
      have hb3 : Below w2.heap.size w2 w3 := by rw [← hw3];exact (Below.refl _ _).alloc (Nat.le_refl _) _
      have hb4 : Below w3.heap.size w3 w4 := by rw [← hw4];exact (Below.refl _ _).alloc (Nat.le_refl _) _
      have hE3 : Whole w3 w2.heap.size 115 #[.int .i64 1,.int .i32 x,.slice A l.length cA,.int .i64 a] := by rw [← hw3];exact heap_alloc_new _ _
      have hF4 : Whole w4 w3.heap.size 115 #[.int .i64 1,.int .i32 x,.slice A l.length cA,.int .i64 a] := by rw [← hw4];exact heap_alloc_new _ _
      have hE4 := hE3.below hb4 hE3.lt
      have hz : w3.heap.size = w2.heap.size + 1 := by rw [← hw3];simp
      have hst2 := HH.out.took hK2
      have hst4 : RdSt w4 B q p s sp ks n := ⟨(hst2.rd.below hb3).below hb4,(hst2.own.below hb3).below hb4⟩
      have HG4 := Hd (tk_trans hK2.1 (tk_trans (tk_below hb3 (some q)) (tk_below hb4 (some q))))
      have HQ := Hd (show q < w2.heap.size from hst2.rd.lt);have HZ := Hd hz;have HS0 := Hd hK2.1.size
      have HW3 := Hd hw3;have HW4 := Hd hw4;have HE3 := Hd hE3;have HE4 := Hd hE4;have HF4 := Hd hF4;have HST := Hd hst4
      clear ht ho hw3 hw4 hb3 hb4 hE3 hE4 hF4 hz hst2 hst4 hK2
      go_upto_region 6 with (fail)
      rw [HW3.out]
      obtain ⟨e0,e1,e2,e3,f0,f1,f2,f3⟩ := HE3.out.four
      go_upto_region 9 with (fail)
      rw [HW4.out]
      clear e0 e1 e2 e3 f0 f1 f2 f3
      obtain ⟨e0,e1,e2,e3,f0,f1,f2,f3⟩ := HE4.out.four
      obtain ⟨g0,g1,g2,g3,m0,m1,m2,m3⟩ := HF4.out.four
      go_wp2_with fail
      refine (HD.out w4 HST.out.rd).mono ?_
      rintro e w5 ⟨rfl,ht⟩
      have HST5 := Hd (HST.out.took ht);have HG5 := Hd (tk_trans HG4.out ht.1)
      clear ht
      go_wp2_with fail
      refine (HO2.out w5 HST5.out.rd (HT.out _ ((Below.refl B w).grown HG5.out hB (fun k e => by cases e;exact hq)))).mono ?_
      rintro e w6 ⟨he,ht⟩
      unfold thrown at he
      subst he
      have HG6 := Hd (tk_trans HG5.out ht.1)
      clear ht
      go_wp2_with fail
      refine ⟨rfl,?_⟩
      unfold ItemBPost
      rw [if_pos HL.out,HI.out]
      exact ⟨rfl,Keeps.of_grown HG6.out⟩
     | esc k2 x2 l2 a2 n2 =>
      obtain ⟨-,hok3,hok4,hok5,-⟩ := hok2
      have HY0 := Hd hok4;have HY1 := Hd hok5
      clear hok3 hok4 hok5
      simp only at hit
      go_enter Tryz.func86,Tryz.ntmps86
      go_wp2_with fail
      refine HN.out.mono ?_
      rintro e w1 ⟨rfl,ht⟩
      have HK := Hd ht;have HB1 := Hd (ht.below (Below.refl B w) hB hq)
      clear ht
      go_wp2_with fail
      refine (HO1.out w1 HK.out.2 (HT.out _ HB1.out)).mono ?_
      rintro e w2 ⟨v,he,ho,ht⟩
      unfold escV at he
      obtain ⟨A,cA,hv,-⟩ := ho.rgs
      subst hv
      subst he
      have hK2 := HK.out.trans ht
      obtain ⟨w3,hw3⟩ : ∃ w3,w2.alloc (.cells #[.int .i64 1,.int .i32 x,.slice A l.length cA,.int .i64 a] 115) = w3 := ⟨_,rfl⟩
      obtain ⟨w4,hw4⟩ : ∃ w4,w3.alloc (.cells #[.int .i64 1,.int .i32 x,.slice A l.length cA,.int .i64 a] 115) = w4 := ⟨_,rfl⟩
      have hb3 : Below w2.heap.size w2 w3 := by rw [← hw3];exact (Below.refl _ _).alloc (Nat.le_refl _) _
      have hb4 : Below w3.heap.size w3 w4 := by rw [← hw4];exact (Below.refl _ _).alloc (Nat.le_refl _) _
      have hE3 : Whole w3 w2.heap.size 115 #[.int .i64 1,.int .i32 x,.slice A l.length cA,.int .i64 a] := by rw [← hw3];exact heap_alloc_new _ _
      have hF4 : Whole w4 w3.heap.size 115 #[.int .i64 1,.int .i32 x,.slice A l.length cA,.int .i64 a] := by rw [← hw4];exact heap_alloc_new _ _
      have hE4 := hE3.below hb4 hE3.lt
      have hz : w3.heap.size = w2.heap.size + 1 := by rw [← hw3];simp
      have hst2 := HH.out.took hK2
      have hst4 : RdSt w4 B q p s sp ks n := ⟨(hst2.rd.below hb3).below hb4,(hst2.own.below hb3).below hb4⟩
      have HG4 := Hd (tk_trans hK2.1 (tk_trans (tk_below hb3 (some q)) (tk_below hb4 (some q))))
      have HQ := Hd (show q < w2.heap.size from hst2.rd.lt);have HZ := Hd hz;have HS0 := Hd hK2.1.size
      have HW3 := Hd hw3;have HW4 := Hd hw4;have HE3 := Hd hE3;have HE4 := Hd hE4;have HF4 := Hd hF4;have HST := Hd hst4
      clear ht ho hw3 hw4 hb3 hb4 hE3 hE4 hF4 hz hst2 hst4 hK2
      go_upto_region 6 with (fail)
      rw [HW3.out]
      obtain ⟨e0,e1,e2,e3,f0,f1,f2,f3⟩ := HE3.out.four
      go_upto_region 9 with (fail)
      rw [HW4.out]
      clear e0 e1 e2 e3 f0 f1 f2 f3
      obtain ⟨e0,e1,e2,e3,f0,f1,f2,f3⟩ := HE4.out.four
      obtain ⟨g0,g1,g2,g3,m0,m1,m2,m3⟩ := HF4.out.four
      go_wp2_with fail
      refine (HD.out w4 HST.out.rd).mono ?_
      rintro e w5 ⟨rfl,ht⟩
      have HST5 := Hd (HST.out.took ht);have HG5 := Hd (tk_trans HG4.out ht.1)
      have HE5 := Hd (ht.whole HE4.out (by have := HQ.out;omega))
      have HF5 := Hd (ht.whole HF4.out (by have := HQ.out;have := HZ.out;omega))
      clear ht e0 e1 e2 e3 f0 f1 f2 f3 g0 g1 g2 g3 m0 m1 m2 m3
      go_wp2_with fail
      refine (HO2.out w5 HST5.out.rd (HT.out _ ((Below.refl B w).grown HG5.out hB (fun k e => by cases e;exact hq)))).mono ?_
      rintro e w6 ⟨v2,he,ho,ht⟩
      unfold escV at he
      obtain ⟨A2,cA2,hv,-⟩ := ho.rgs
      subst hv
      subst he
      have HST6 := Hd (HST5.out.took ht);have HG6 := Hd (tk_trans HG5.out ht.1)
      have HE6 := Hd (ht.whole HE5.out (by have := HQ.out;omega))
      have HF6 := Hd (ht.whole HF5.out (by have := HQ.out;have := HZ.out;omega))
      clear ht ho
      obtain ⟨g0,g1,g2,g3,m0,m1,m2,m3⟩ := HF6.out.four
      obtain ⟨w7,hw7⟩ : ∃ w7,(((w6.setCell ⟨w3.heap.size,0,none⟩ (.int .i64 k2)).setCell ⟨w3.heap.size,1,none⟩ (.int .i32 x2)).setCell ⟨w3.heap.size,2,none⟩ (.slice A2 l2.length cA2)).setCell ⟨w3.heap.size,3,none⟩ (.int .i64 a2) = w7 := ⟨_,rfl⟩
      have hw8 : set4 w6 w3.heap.size (.int .i64 k2) (.int .i32 x2) (.slice A2 l2.length cA2) (.int .i64 a2) = w7 := hw7
      have hq7 := HQ.out
      have hz7 := HZ.out
      have HF7 := Hd (show Whole w7 w3.heap.size 115 #[.int .i64 k2,.int .i32 x2,.slice A2 l2.length cA2,.int .i64 a2] by rw [← hw8];exact set4_whole HF6.out _ _ _ _)
      have HE7 := Hd (show Whole w7 w2.heap.size 115 #[.int .i64 1,.int .i32 x,.slice A l.length cA,.int .i64 a] by rw [← hw8];exact (set4_other (by omega) _ _ _ _).trans HE6.out)
      have HST7 := Hd (show RdSt w7 B q p s sp ks n2 by rw [← hw8];exact ⟨(set4_other (by omega) _ _ _ _).trans HST6.out.rd,own_set4 HST6.out.own (fun g hg => (own_kind HST6.out.own.1 hg).ne (Whole.kind HF6.out) (by decide)) _ _ _ _⟩)
      have HG7 := Hd (show w.grownBy w7 (some q) by rw [← hw8];exact tk_new HG6.out (by have := HS0.out;omega) _ _ _ _)
      have HW7 := Hd hw7
      clear hw7 hw8 hq7 hz7
      go_upto_region 11 with (fail)
      rw [HW7.out]
      clear g0 g1 g2 g3 m0 m1 m2 m3
      obtain ⟨g0,g1,g2,g3,m0,m1,m2,m3⟩ := HF7.out.four
      obtain ⟨e0,e1,e2,e3,f0,f1,f2,f3⟩ := HE7.out.four
      by_cases hk2 : k2 = 1
      ·have b1 := ne_false_of hk2
       by_cases hx : x2 < x
       ·have b3 : decide (x2 < x) = true := decide_eq_true hx
        have HI := Hd (hit.trans (if_pos (.inr hx)))
        clear hit hk2
        go_wp2_with fail
        refine (pbRefuse_any q _ _ s n2 j w7 HST7.out.rd).mono ?_
        rintro e w8 ⟨he,rfl⟩
        unfold thrown at he
        subst he
        go_wp2_with fail
        refine ⟨rfl,?_⟩
        unfold ItemBPost
        rw [if_pos HL.out,HI.out]
        exact ⟨rfl,Keeps.of_grown HG7.out⟩
       ·have b3 : decide (x2 < x) = false := decide_eq_false hx
        have HI := Hd (hit.trans (if_neg (fun h => h.elim (fun g => g hk2) hx)))
        clear hit hk2
        go_wp2_with fail
        refine (pbKeep_any B q p s sp ks x x2 n2 w7 HST7.out hn (Nat.le_trans hB HG7.out.size) (i32_of HX0.out HX1.out) (i32_of HY0.out HY1.out)).mono ?_
        rintro e w8 ⟨v,sp',rfl,hst,hk,hsp,hi⟩
        have H6 := Hd (And.intro hst (And.intro hk (And.intro hsp hi)))
        clear hst hk hsp hi
        go_wp2_with fail
        go_ret
        unfold ItemBPost
        rw [if_pos HL.out,HI.out]
        obtain ⟨hst,hk,hsp,hi⟩ := H6.out
        exact ⟨v,sp',_,rfl,hst,(Keeps.of_grown HG7.out).trans hk,hsp.imp id (fun ⟨g,h1,h2⟩ => ⟨g,h1,Nat.le_trans HG7.out.size h2⟩),by simp,by simp,by simpa using hi⟩
      ·have b1 := ne_true_of hk2
       have HI := Hd (hit.trans (if_pos (.inl hk2)))
       clear hit hk2
       go_wp2_with fail
       refine (pbRefuse_any q _ _ s n2 j w7 HST7.out.rd).mono ?_
       rintro e w8 ⟨he,rfl⟩
       unfold thrown at he
       subst he
       go_wp2_with fail
       refine ⟨rfl,?_⟩
       unfold ItemBPost
       rw [if_pos HL.out,HI.out]
       exact ⟨rfl,Keeps.of_grown HG7.out⟩
theorem info_lists : (Tryz.prog.info? 26).map (fun i => (i.zero,i.size,i.bytes)) = some (some (.slice none 0 0),1,24) := by kernel_rfl
def OwnV (w : World) (B : Nat) (v : Value) (vs : List Value) : Prop := w.ownsRow B 26 1 v vs.length vs
theorem append_vs {w : World} {ops : Array Oper} {rest : List Oper} {o : Oper} {a : Act} {Q : Exit → Act → World → Prop} (hgd : o.guard = none) (x y : Operand)
  (ho : o.op = .call { callee := .builtin .append,args := #[x,y],argTypes := #[111,111] })
  (base : Nat) (v : Value) (vs : List Value) (hs : a.eval x = v) (hown : OwnV w base v vs)
  (g : Nat) (u : Value) (hx : a.eval y = .slice (some ⟨g,0,none⟩) 1 1) (ht : w.cell? ⟨g,0,none⟩ = some u) (h1 : u.oneCell' = true) (hn : vs.length ≤ 1099511627776) (hbase : base ≤ w.heap.size)
  (h : ∀ v' w',OwnV w' base v' (vs ++ [u]) → w.grownBy w' v.ownBlock → wpList Tryz.prog ops Q rest (a.put o.dst v') w') : wpList Tryz.prog ops Q (o :: rest) a w := by
 obtain ⟨i,hi,hz,hsize,hby⟩ := info_parts info_lists
 refine wpList_append_own w hgd x y 111 ho base 26 i (.slice none 0 0) 1 24 Tryz.underlying111 hi hz hsize hby rfl (by omega) v vs.length vs hs hown ⟨g,0,none⟩ 1 1 [u] hx rfl ?_ (by simpa using h1) (by unfold maxLen;omega) (by omega) hbase (fun v' w' g1 g2 _ => h v' w' ?_ g2)
 ·intro j z hj
  match j,hj with
  | 0,hj =>
   simp at hj
   subst hj
   rw [show (⟨g,0,none⟩ : Addr).add 0 = ⟨g,0,none⟩ by simp [Addr.add]]
   exact ht
  | j + 1,hj => simp at hj
 ·unfold OwnV
  rw [List.length_append]
  exact g1
def ItemsV (w : World) (sp : Value) (n : Nat) : List Value → List (List (Int × Int)) → Prop
 | [],[] => True
 | v :: vs,l :: ls => ItemV w v l sp n ∧ ItemsV w sp n vs ls
 | _,_ => False
theorem ItemsV.length {w : World} {sp : Value} {n : Nat} : ∀ {vs : List Value} {ls : List (List (Int × Int))},ItemsV w sp n vs ls → vs.length = ls.length
 | [],[],_ => rfl
 | _ :: _,_ :: _,h => by simp [ItemsV.length h.2]
theorem ItemsV.map {w w' : World} {sp sp' : Value} {n n' : Nat} (f : ∀ v l,ItemV w v l sp n → ItemV w' v l sp' n') : ∀ {vs : List Value} {ls : List (List (Int × Int))},ItemsV w sp n vs ls → ItemsV w' sp' n' vs ls
 | [],[],_ => trivial
 | _ :: _,_ :: _,h => ⟨f _ _ h.1,ItemsV.map f h.2⟩
theorem ItemsV.snoc {w : World} {sp : Value} {n : Nat} {v : Value} {l : List (Int × Int)} (hv : ItemV w v l sp n) : ∀ {vs : List Value} {ls : List (List (Int × Int))},ItemsV w sp n vs ls → ItemsV w sp n (vs ++ [v]) (ls ++ [l])
 | [],[],_ => ⟨hv,trivial⟩
 | _ :: _,_ :: _,h => ⟨h.1,ItemsV.snoc hv h.2⟩
theorem ItemsV.at {w : World} {sp : Value} {n : Nat} : ∀ {vs : List Value} {ls : List (List (Int × Int))},ItemsV w sp n vs ls → ∀ i (h : i < ls.length),∃ u,vs[i]? = some u ∧ Rgs w u ls[i]
 | [],[],_,i,h => by simp at h
 | v :: _,_ :: _,h,0,_ => ⟨v,rfl,h.1.rgs⟩
 | _ :: vs,_ :: ls,h,i + 1,hi => by
  obtain ⟨u,h1,h2⟩ := ItemsV.at h.2 i (by simpa using hi)
  exact ⟨u,by simpa using h1,by simpa using h2⟩
theorem ItemsV.lss {w : World} {B : Nat} {sp v : Value} {n : Nat} {vs : List Value} {ls : List (List (Int × Int))} (h : ItemsV w sp n vs ls) (ho : OwnV w B v vs) (h0 : 0 < ls.length) : Lss w v ls := by
 have hl := h.length
 have hcells := fun g hg => World.ownsRow.cells (g := g) ho hg
 rcases ho.2 with ⟨_,h1⟩ | ⟨g,cap,cur,rfl,h1,h2,h3,h4,h5,h6⟩
 ·omega
 ·refine ⟨g,0,cap,by rw [hl],by omega,h4,fun i hi => ?_⟩
  obtain ⟨u,hu,hr⟩ := h.at i hi
  refine ⟨u,?_,hr⟩
  have := cell_of_row w g i _ _ _ h2
  rw [Nat.zero_add,this]
  have h7 : vs[i]? = cur[i]? := by
   rw [← h6,List.getElem?_take_of_lt (by omega),Array.getElem?_toList]
  rw [← h7]
  exact hu
def ItemsBPost (B q : Nat) (p : Bool) (s : ByteArray) (at' : Nat) (R : ItemR) (w : World) (e : Ending) (w' : World) : Prop :=
 Below B w w' ∧ match R with
  | .item all n => ∃ v ls sp,e = .returned v ∧ Lss w' v ls ∧ ls.flatten = all ∧ all.length ≤ 17 * s.size ∧ n ≤ s.size ∧ RdIn w' q 110 [.bool p,sp] s n
  | .bad c a b => ∃ V,e = thrown V ∧ (V = .iface 32 (wrongV c a b) ∨ (V = endedV ∧ c = 71 ∧ a = at' ∧ b = s.size))
theorem items_end {s : ByteArray} {at' m i : Nat} {p f : Bool} {all : List (Int × Int)} (h : ¬ i < s.size) : itemsS s at' p (m + 1) i f all = .bad 71 at' s.size := by
 rw [itemsS,if_pos (by omega)]
theorem items_close {s : ByteArray} {at' m i : Nat} {p : Bool} {all : List (Int × Int)} (h : headI (leftB s i) = 93) : itemsS s at' p (m + 1) i false all = .item all (i + 1) := by
 have := head_in (s := s) (i := i) (by omega)
 rw [itemsS,if_neg (by omega),if_pos ⟨h,rfl⟩]
theorem items_more {s : ByteArray} {at' m i : Nat} {p f : Bool} {all : List (Int × Int)} (h : i < s.size) (hf : f = true ∨ ¬ headI (leftB s i) = 93) : itemsS s at' p (m + 1) i f all = match itemS s i p with
  | .bad c a b => .bad c a b
  | .item l n => itemsS s at' p m n false (all ++ l) := by
 rw [itemsS,if_neg (by omega),if_neg (fun g => hf.elim (fun e => by rw [e] at g;cases g.2) (fun e => e g.1))]
 rfl
theorem item_out {B q : Nat} {p : Bool} {s : ByteArray} {sp : Value} {ks : List (Int × Int)} {j : Nat} {w w' : World} {e : Ending} (hlt : j < s.size) (h : ItemBPost B q p s sp ks j w e w') :
  match itemS s j p with
  | .item l n => ∃ v sp' ks',e = .returned v ∧ RdSt w' B q p s sp' ks' n ∧ Keeps (some q) sp ks.length w w' ∧ SpotR w sp sp' ∧ ks.length ≤ ks'.length ∧ ks'.length ≤ ks.length + 1 ∧ ItemV w' v l sp' ks'.length
  | .bad c a b => e = thrown (.iface 32 (wrongV c a b)) ∧ Keeps (some q) sp ks.length w w' := by
 unfold ItemBPost at h
 rwa [if_pos hlt] at h
theorem item_end {B q : Nat} {p : Bool} {s : ByteArray} {sp : Value} {ks : List (Int × Int)} {j : Nat} {w w' : World} {e : Ending} (hlt : ¬ j < s.size) (h : ItemBPost B q p s sp ks j w e w') : e = thrown endedV ∧ Keeps (some q) sp ks.length w w' := by
 unfold ItemBPost at h
 rwa [if_neg hlt] at h
theorem RdSt.low {W : World} {B q : Nat} {p : Bool} {s : ByteArray} {sp : Value} {ks : List (Int × Int)} {j : Nat} (h : RdSt W B q p s sp ks j) : ∀ b,sp.ownBlock = some b → B ≤ b := fun b hb => own_ge h.own b hb
theorem Rgs.slice {w : World} {v : Value} {l : List (Int × Int)} (h : Rgs w v l) : ∃ a c,v = .slice a l.length c := by
 obtain ⟨a,c,h,-⟩ := h
 exact ⟨a,c,h⟩
theorem ItemV.below {w w' : World} {v sp : Value} {l : List (Int × Int)} {n : Nat} (h : ItemV w v l sp n) (hb : Below w.heap.size w w') : ItemV w' v l sp n := h.grown (tk_below hb none) (t := 3) (fun b e => by cases e) (by decide)
theorem RdSt.below {W W' : World} {B q : Nat} {p : Bool} {s : ByteArray} {sp : Value} {ks : List (Int × Int)} {j : Nat} (h : RdSt W B q p s sp ks j) (hb : Below W.heap.size W W') : RdSt W' B q p s sp ks j := ⟨h.rd.below hb,h.own.below hb⟩
theorem RdSt.grown {W W' : World} {B q : Nat} {p : Bool} {s : ByteArray} {sp : Value} {ks : List (Int × Int)} {j : Nat} (h : RdSt W B q p s sp ks j) {row : Option Nat} (hg : W.grownBy W' row) (hr : ∀ b,row = some b → Kind W b 26) : RdSt W' B q p s sp ks j :=
 ⟨Whole.grown h.rd hg (fun e => (hr q e).ne h.kind (by decide) rfl),own_other h.own.1 fun b hb => hg.block b (own_kind h.own.1 hb).lt (fun e => (hr b e.symm).ne (own_kind h.own.1 hb) (by decide) rfl),h.own.2⟩
theorem own_ge_v {w : World} {B : Nat} {v : Value} {vs : List Value} (h : OwnV w B v vs) : ∀ k,v.ownBlock = some k → B ≤ k := fun k hk => by
 rcases h.2 with ⟨rfl,_⟩ | ⟨g,cap,cur,rfl,h1,_⟩
 ·simp [Value.ownBlock] at hk
 ·obtain rfl : g = k := by simpa [Value.ownBlock] using hk
  exact h1
theorem OwnV.other {w w' : World} {B q : Nat} {v sp : Value} {n : Nat} {t : TypeId} {vs : List Value} (h : OwnV w B v vs) (hk : Keeps (some q) sp n w w') (hq : Kind w q t) (hne : t ≠ 26) (hs : ∀ b,sp.ownBlock = some b → Kind w b 51) : OwnV w' B v vs :=
 own_other h fun b hb => hk.block b (own_kind h hb).lt (fun e => (hq.ne (own_kind h hb) hne) (Option.some.inj e)) (fun e => (hs b e).ne (own_kind h hb) (by decide) rfl)
theorem pbItems_any (B q : Nat) (p : Bool) (s : ByteArray) (at' j : Nat) (w : World) (hs : s.size ≤ 900000) (hj : j ≤ s.size) (h : RdSt w B q p s (.slice none 0 0) [] j) (hB : B ≤ w.heap.size) (hq : B ≤ q)
  (hT : ∀ W,Below B w W → Lib.Utf8Tabs 0 1 W) :
  Calls Tryz.prog 66 #[.pointer (some ⟨q,0,none⟩)] w (ItemsBPost B q p s at' (itemsS s at' p (s.size + 1) j true []) w) := by
 obtain ⟨R,hR⟩ : ∃ R,itemsS s at' p (s.size + 1) j true [] = R := ⟨_,rfl⟩
 rw [hR]
 have hs' : s.size ≤ 4503599627370496 := by omega
 have HH := Hd h;have HT := Hd hT;have HR := Hd hR
 clear h hT hR
 go_enter Tryz.func66,Tryz.ntmps66
 go_wp2_with fail
 refine (pbItem_any B q p s _ [] j w hs' hj HH.out (by simp) hB hq HT.out).mono ?_
 intro e w1 ho
 by_cases hlt : j < s.size
 rotate_left
 ·obtain ⟨he,hk⟩ := item_end hlt ho
  unfold thrown at he
  subst he
  have HB1 := Hd (hk.below (Below.refl B w) hB (fun b e => by cases e;exact hq) HH.out.low)
  have HX := Hd (HR.out.symm.trans (items_end hlt))
  clear ho hk
  go_wp2_with fail
  refine ⟨rfl,HB1.out,?_⟩
  rw [HX.out]
  exact ⟨_,rfl,.inr ⟨rfl,rfl,rfl,rfl⟩⟩
 have ho := item_out hlt ho
 have hok := itemS_ok s j p hlt
 have hfew := fun l n (h : itemS s j p = .item l n) => itemS_few h
 have hmore := HR.out.symm.trans (items_more hlt (.inl rfl))
 obtain ⟨I1,hI1⟩ : ∃ I,itemS s j p = I := ⟨_,rfl⟩
 rw [hI1] at ho hok hfew hmore
 clear hI1
 cases I1 with
 | bad c a b =>
  obtain ⟨he,hk⟩ := ho
  unfold thrown at he
  subst he
  have HB1 := Hd (hk.below (Below.refl B w) hB (fun b e => by cases e;exact hq) HH.out.low)
  have HX := Hd hmore
  clear hk hok hfew hmore
  go_wp2_with fail
  refine ⟨rfl,HB1.out,?_⟩
  rw [HX.out]
  exact ⟨_,rfl,.inl rfl⟩
 | item l n =>
  obtain ⟨v,sp1,ks1,rfl,hst,hk,hsp,hk1,hk2,hiv⟩ := ho
  obtain ⟨hn1,hn2,-⟩ := hok
  have hf := hfew l n rfl
  obtain ⟨A,cA,hv⟩ := hiv.rgs.slice
  subst hv
  have hB1 := hk.below (Below.refl B w) hB (fun b e => by cases e;exact hq) HH.out.low
  obtain ⟨w2,hw2⟩ : ∃ w2,w1.alloc (.cells #[.slice A l.length cA] 26) = w2 := ⟨_,rfl⟩
  have hb2 : Below w1.heap.size w1 w2 := by rw [← hw2];exact (Below.refl _ _).alloc (Nat.le_refl _) _
  have hB1s : B ≤ w1.heap.size := Nat.le_trans hB hB1.size
  have hown : OwnV w2 B (.slice (some ⟨w1.heap.size,0,none⟩) 1 1) [.slice A l.length cA] := by
   rw [← hw2]
   exact World.ownsRow_lit w1 #[.slice A l.length cA] 1 hB1s (by decide) rfl
  have HST := Hd (hst.below hb2);have HI := Hd (show ItemsV w2 sp1 ks1.length [.slice A l.length cA] [l] from ⟨hiv.below hb2,trivial⟩)
  have HW := Hd hw2;have HO := Hd hown;have HM := Hd hmore;have HB2 := Hd (hB1.trans (hb2.mono hB1s));have HK1 := Hd (show ks1.length ≤ n by simp at hk2;omega)
  clear hst hk hsp hk1 hk2 hiv hfew hmore hB1 hw2 hb2 hB1s hown
  clear ho
  go_wp2_with fail
  rw [HW.out]
  go_loopw [3] (fun vi wr => ∃ (i m : Nat) (ls : List (List (Int × Int))) (vs : List Value) (sp : Value) (ks : List (Int × Int)),RdSt wr B q p s sp ks i ∧ i ≤ s.size ∧ ks.length ≤ i ∧ OwnV wr B vi vs ∧ ItemsV wr sp ks.length vs ls ∧ 0 < ls.length ∧ ls.length ≤ i ∧ ls.flatten.length ≤ 17 * i ∧ s.size < i + m ∧ itemsS s at' p m i false ls.flatten = R ∧ Below B w wr) (fun _ wr => s.size + 1 - (intOf ((wr.cell? ⟨q,1,none⟩).getD undef)).toNat)
  case atStart => exact ⟨n,s.size,[l],_,sp1,ks1,HST.out,hn2,HK1.out,HO.out,HI.out,by simp,by simp;omega,by simp;omega,by omega,by rw [HM.out];simp,HB2.out⟩
  case round =>
   obtain ⟨i,m,ls,vs,sp,ks,hst,his,hks,hown,hiv,hl0,hl1,hlf,him,hit,hbr⟩ := hrel
   clear HST HI HW HO HM HB2 HK1 hf hn1 hn2
   obtain ⟨A0,c0',hv0⟩ := own_slice hown
   subst hv0
   have c1 := hst.rd.c1
   have hlv := hiv.length
   have HST := Hd hst;have HOW := Hd hown;have HIV := Hd hiv;have HBR := Hd hbr;have HL0 := Hd hl0;have HL1 := Hd hl1;have HLF := Hd hlf;have HKS := Hd hks;have HLV := Hd hlv;have HIS := Hd his;have HIM := Hd him
   have hpre : preB (⟨#[93]⟩ : ByteArray).toList (leftB s i) = decide (headI (leftB s i) = 93) := by
    rw [show (⟨#[93]⟩ : ByteArray).toList = [93] by kernel_rfl]
    exact pre_one 93 s i
   clear hst hown hiv hbr hl0 hl1 hlf hks hlv
   cases m with
   | zero => exact absurd him (by omega)
   | succ m =>
    clear him his
    by_cases h93 : headI (leftB s i) = 93
    ·have HT1 := Hd (pbTake_yes q _ _ s ⟨#[93]⟩ i wr hs' (by decide) HIS.out HST.out.rd (hpre.trans (decide_eq_true h93)))
     have HX := Hd (hit.symm.trans (items_close h93))
     have HJ := Hd (head_in (s := s) (i := i) (by omega))
     clear hpre hit h93
     go_wp2_with fail
     refine HT1.out.mono ?_
     rintro e w3 ⟨rfl,ht⟩
     have HST3 := Hd (HST.out.took ht)
     have hkp : Keeps (some q) sp ks.length wr w3 := Keeps.of_grown ht.1
     have HOW3 := Hd (HOW.out.other hkp HST.out.kind (by decide) (fun b hb => own_kind HST.out.own.1 hb))
     have HIV3 := Hd (ItemsV.map (fun v l h => h.keeps hkp HST.out.kind (by decide) (.inl rfl) (Nat.le_refl _)) HIV.out)
     have HB3 := Hd (ht.below HBR.out (Nat.le_trans hB HBR.out.size) hq)
     clear ht hkp
     go_wp2_with fail
     go_ret
     refine ⟨HB3.out,?_⟩
     rw [HX.out]
     exact ⟨_,ls,sp,rfl,HIV3.out.lss HOW3.out HL0.out,rfl,Nat.le_trans HLF.out (by have := HJ.out;omega),HJ.out,HST3.out.rd⟩
    ·have HT1 := Hd (pbTake_no q _ _ s ⟨#[93]⟩ i wr hs' (by decide) HIS.out HST.out.rd (hpre.trans (decide_eq_false h93)))
     have HN93 := Hd h93;have HIT := Hd hit
     clear hpre hit h93
     go_wp2_with fail
     refine HT1.out.mono ?_
     rintro e w3 ⟨rfl,ht⟩
     have HST3 := Hd (HST.out.took ht)
     have hkp : Keeps (some q) sp ks.length wr w3 := Keeps.of_grown ht.1
     have HOW3 := Hd (HOW.out.other hkp HST.out.kind (by decide) (fun b hb => own_kind HST.out.own.1 hb))
     have HIV3 := Hd (ItemsV.map (fun v l h => h.keeps hkp HST.out.kind (by decide) (.inl rfl) (Nat.le_refl _)) HIV.out)
     have HB3 := Hd (ht.below HBR.out (Nat.le_trans hB HBR.out.size) hq)
     clear ht hkp
     go_wp2_with fail
     refine (pbItem_any B q p s sp ks i w3 hs' HIS.out HST3.out (by have := HKS.out;have := HIS.out;omega) (Nat.le_trans hB HB3.out.size) hq (fun W hb => HT.out W (HB3.out.trans hb))).mono ?_
     intro e w4 ho
     by_cases hlt : i < s.size
     rotate_left
     ·obtain ⟨he,hk⟩ := item_end hlt ho
      unfold thrown at he
      subst he
      have HB4 := Hd (hk.below HB3.out (Nat.le_trans hB HB3.out.size) (fun b e => by cases e;exact hq) HST3.out.low)
      have HX := Hd (HIT.out.symm.trans (items_end hlt))
      clear ho hk
      go_wp2_with fail
      refine ⟨rfl,HB4.out,?_⟩
      rw [HX.out]
      exact ⟨_,rfl,.inr ⟨rfl,rfl,rfl,rfl⟩⟩
     have ho := item_out hlt ho
     have hok := itemS_ok s i p hlt
     have hfew := fun l n (h : itemS s i p = .item l n) => itemS_few h
     have hmore := HIT.out.symm.trans (items_more hlt (.inr HN93.out))
     obtain ⟨I1,hI1⟩ : ∃ I,itemS s i p = I := ⟨_,rfl⟩
     rw [hI1] at ho hok hfew hmore
     clear hI1
     cases I1 with
     | bad c a b =>
      obtain ⟨he,hk⟩ := ho
      unfold thrown at he
      subst he
      have HB4 := Hd (hk.below HB3.out (Nat.le_trans hB HB3.out.size) (fun b e => by cases e;exact hq) HST3.out.low)
      have HX := Hd hmore
      clear hk hok hfew hmore
      go_wp2_with fail
      refine ⟨rfl,HB4.out,?_⟩
      rw [HX.out]
      exact ⟨_,rfl,.inl rfl⟩
     | item l2 n2 =>
      obtain ⟨v,sp4,ks4,rfl,hst,hk,hsp,hk1,hk2,hiv⟩ := ho
      obtain ⟨hn1,hn2,-⟩ := hok
      have hf := hfew l2 n2 rfl
      obtain ⟨A4,cA4,hv⟩ := hiv.rgs.slice
      subst hv
      have HST4 := Hd hst;have HI4 := Hd hiv;have HM := Hd hmore
      have HOW4 := Hd (HOW3.out.other hk HST3.out.kind (by decide) (fun b hb => own_kind HST3.out.own.1 hb))
      have HIV4 := Hd (ItemsV.map (fun v l h => h.keeps hk HST3.out.kind (by decide) hsp hk1) HIV3.out)
      have HB4 := Hd (hk.below HB3.out (Nat.le_trans hB HB3.out.size) (fun b e => by cases e;exact hq) HST3.out.low)
      have HK4 := Hd (show ks4.length ≤ n2 by have := HKS.out;omega)
      have HN := Hd (And.intro hn1 (And.intro hn2 hf))
      have hb5 : Below w4.heap.size w4 (w4.alloc (.cells #[.slice A4 l2.length cA4] 26)) := (Below.refl _ _).alloc (Nat.le_refl _) _
      have HB5 := Hd hb5
      have hsz4 : B ≤ w4.heap.size := Nat.le_trans hB HB4.out.size
      clear hst hk hsp hk1 hk2 hiv hfew hmore hn1 hn2 hf hb5 hlt
      go_wp2_with (at_builtin;refine append_vs rfl (.tmp 12) (.tmp 15) rfl B (.slice A0 vs.length c0') vs rfl (own_other HOW4.out (fun b hb => HB5.out.block b (own_kind HOW4.out hb).lt)) w4.heap.size (.slice A4 l2.length cA4) rfl ?hc rfl ?hn ?hb ?_)
      case hc => simp
      case hn => have := HLV.out;have := HL1.out;have := HIS.out;omega
      case hb => simp;omega
      intro v5 w5 ho5 hg5
      have hrow : ∀ b,(Value.slice A0 vs.length c0').ownBlock = some b → Kind (w4.alloc (.cells #[.slice A4 l2.length cA4] 26)) b 26 := fun b hb => own_kind (own_other HOW4.out (fun b hb => HB5.out.block b (own_kind HOW4.out hb).lt)) hb
      have HST5 := Hd ((HST4.out.below HB5.out).grown hg5 hrow)
      have HIV5 := Hd (ItemsV.map (fun v l h => h.grown hg5 hrow (by decide)) (ItemsV.snoc (HI4.out.below HB5.out) (ItemsV.map (fun v l h => h.below HB5.out) HIV4.out)))
      have HO5 := Hd ho5
      have HB6 := Hd ((HB4.out.alloc hsz4 _).grown hg5 (by simp;omega) (fun k hk => own_ge_v HOW4.out k hk))
      clear ho5 hg5 hrow
      have d1 := HST5.out.rd.c1
      go_wp2
      refine ⟨⟨n2,m,ls ++ [l2],vs ++ [.slice A4 l2.length cA4],sp4,ks4,HST5.out,HN.out.2.1,HK4.out,HO5.out,HIV5.out,by simp,by have := HL1.out;have := HN.out.1;simp;omega,?_,by have := HN.out.1;have := HIM.out;omega,?_,HB6.out⟩,?_⟩
      ·have h1 := HN.out.2.2
       have h2 := HLF.out
       have h3 := HN.out.1
       simp only [List.flatten_append,List.flatten_cons,List.flatten_nil,List.append_nil,List.length_append]
       omega
      ·rw [HM.out]
       simp
      ·have h1 := HN.out.1
       have h2 := HN.out.2.1
       rw [d1,c1]
       simp only [Option.getD_some,intOf]
       omega
end Go.Proofs.YthnddabcmhplkaaGreatDoor
