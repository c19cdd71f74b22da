/- Texts merged by program. No condition. -/
import Derived.Test.YthnddabcmhplkaaGreatDoorK5
import Derived.StillTailTactics
set_option maxHeartbeats 40000000
set_option maxRecDepth 100000
set_option linter.unusedVariables false
namespace Go.Proofs.YthnddabcmhplkaaGreatDoor
open Go Go.RowKit
theorem name_ext {a b : ByteArray} (h : a.toList = b.toList) : a = b := by
 rw [ByteArray.toList_eq,ByteArray.toList_eq] at h
 exact ByteArray.ext (Array.toList_inj.1 h)
theorem tr_ext {a b : Tr} (h0 : a.fld.set = b.fld.set) (h1 : a.fld.op = b.fld.op) (h2 : a.fld.rune = b.fld.rune) (h3 : a.fld.at' = b.fld.at') (h4 : a.fld.cap = b.fld.cap) (h5 : a.fld.name = b.fld.name) (h6 : a.fld.min = b.fld.min) (h7 : a.fld.max = b.fld.max) (h8 : a.fld.lazy = b.fld.lazy) (h9 : a.kids = b.kids) : a = b := by
 obtain ⟨⟨a0,a1,a2,a3,a4,a5,a6,a7,a8⟩,ak⟩ := a
 obtain ⟨⟨b0,b1,b2,b3,b4,b5,b6,b7,b8⟩,bk⟩ := b
 simp only [Tr.fld,Tr.kids] at *
 subst h0 h1 h2 h3 h4 h5 h6 h7 h8 h9
 rfl
def SameOf (a : Tr) : Prop := ∀ (b : Tr) (va vb : Value) (w : World),Tre w a va → Tre w b vb → Calls Tryz.prog 6 #[va,vb] w (SaysB (a = b) w)
theorem same_any (a : Tr) : SameOf a := by
 refine Tr.ind (P := SameOf) (fun a ih b va vb w ha hb => ?_) a
 have IH := Hd ih
 obtain ⟨A,n,c,a2,s,c2,hn,hs,rfl,hnb,hsb,hK,hS,-⟩ := ha.opened
 obtain ⟨D,m,d,d2,r,e2,hm,hr,rfl,hmb,hrb,hL,hR,-⟩ := hb.opened
 obtain ⟨w1,hw1⟩ : ∃ w1,(w.alloc (.cells #[.int .i64 a.fld.op,.slice A n c,.int .i32 a.fld.rune,.slice a2 s c2,.int .i64 a.fld.at',.int .i64 a.fld.cap,.string a.fld.name,.int .i64 a.fld.min,.int .i64 a.fld.max,.bool a.fld.lazy] 29)).alloc (.cells #[.int .i64 b.fld.op,.slice D m d,.int .i32 b.fld.rune,.slice d2 r e2,.int .i64 b.fld.at',.int .i64 b.fld.cap,.string b.fld.name,.int .i64 b.fld.min,.int .i64 b.fld.max,.bool b.fld.lazy] 29) = w1 := ⟨_,rfl⟩
 have hb1 : Below w.heap.size w w1 := by rw [← hw1];exact ((Below.refl _ w).alloc (Nat.le_refl _) _).alloc (by simp) _
 have hE1 : Box10 w1 w.heap.size (.int .i64 a.fld.op) (.slice A n c) (.int .i32 a.fld.rune) (.slice a2 s c2) (.int .i64 a.fld.at') (.int .i64 a.fld.cap) (.string a.fld.name) (.int .i64 a.fld.min) (.int .i64 a.fld.max) (.bool a.fld.lazy) := by rw [← hw1];exact Box10.below (box10_new w _ _ _ _ _ _ _ _ _ _ _) ((Below.refl _ _).alloc (Nat.le_refl _) _)
 have hF1 : Box10 w1 (w.heap.size + 1) (.int .i64 b.fld.op) (.slice D m d) (.int .i32 b.fld.rune) (.slice d2 r e2) (.int .i64 b.fld.at') (.int .i64 b.fld.cap) (.string b.fld.name) (.int .i64 b.fld.min) (.int .i64 b.fld.max) (.bool b.fld.lazy) := by
  rw [← hw1]
  have := box10_new (w.alloc (.cells #[.int .i64 a.fld.op,.slice A n c,.int .i32 a.fld.rune,.slice a2 s c2,.int .i64 a.fld.at',.int .i64 a.fld.cap,.string a.fld.name,.int .i64 a.fld.min,.int .i64 a.fld.max,.bool a.fld.lazy] 29)) 29 (.int .i64 b.fld.op) (.slice D m d) (.int .i32 b.fld.rune) (.slice d2 r e2) (.int .i64 b.fld.at') (.int .i64 b.fld.cap) (.string b.fld.name) (.int .i64 b.fld.min) (.int .i64 b.fld.max) (.bool b.fld.lazy)
  simpa using this
 have HB1 := Hd hb1;have HE1 := Hd hE1;have HF1 := Hd hF1;have HW1 := Hd hw1
 have HK := Hd (hK.below hb1);have HL := Hd (hL.below hb1);have HN := Hd hn;have HM := Hd hm
 have HSS := Hd (rsame_any _ _ _ _ w1 (hS.below hb1) (hR.below hb1))
 obtain ⟨P,hP⟩ : ∃ P,(a = b) = P := ⟨_,rfl⟩
 have HAB : Hid (a = b → P) := Hd fun h => hP ▸ h
 have HBA : Hid (P → a = b) := Hd fun h => hP ▸ h
 rw [hP]
 obtain ⟨f0,f1,f2,f3,f4,f5,f6,f7,f8,f9⟩ := hE1
 obtain ⟨g0,g1,g2,g3,g4,g5,g6,g7,g8,g9⟩ := hF1
 clear ha hb ih hb1 hw1 hK hL hS hR hn hm hs hr hP
 go_enter Tryz.func6,Tryz.ntmps6
 go_wp2_with fail
 rw [HW1.out]
 go_wp2_with fail
 refine HSS.out.mono ?_
 rintro e w2 ⟨B,rfl,hq,q,hw2⟩
 have hb2 := below_draws w1 q
 rw [← hw2] at hb2
 have HB2 := Hd (below_two HB1.out hb2);have HE2 := Hd (HE1.out.below hb2);have HF2 := Hd (HF1.out.below hb2);have HK2 := Hd (HK.out.below hb2);have HL2 := Hd (HL.out.below hb2)
 have HNB : Hid (B = false → ¬ a.fld.set = b.fld.set) := Hd fun e g => by rw [hq.2 g] at e;cases e
 have HYB : Hid (B = true → a.fld.set = b.fld.set) := Hd hq.1
 clear hw2 hb2 hq HSS f0 f1 f2 f3 f4 f5 f6 f7 f8 f9 g0 g1 g2 g3 g4 g5 g6 g7 g8 g9
 obtain ⟨f0,f1,f2,f3,f4,f5,f6,f7,f8,f9⟩ := HE2.out
 obtain ⟨g0,g1,g2,g3,g4,g5,g6,g7,g8,g9⟩ := HF2.out
 cases B
 ·have NB := Hd (HNB.out rfl)
  clear HNB HYB
  go_wp2_with fail
  go_ret
  exact ⟨false,rfl,⟨fun h => (by cases h),fun h => absurd (congrArg (fun t : Tr => t.fld.set) (HBA.out h)) NB.out⟩,HB2.out⟩
 have YB := Hd (HYB.out rfl)
 clear HNB HYB
 obtain ⟨x0,hx0⟩ : ∃ x,a.fld.op = x := ⟨_,rfl⟩
 obtain ⟨y0,hy0⟩ : ∃ y,b.fld.op = y := ⟨_,rfl⟩
 rw [hx0] at f0
 rw [hy0] at g0
 have X0 := Hd hx0;have Y0 := Hd hy0
 clear hx0 hy0
 obtain ⟨x2,hx2⟩ : ∃ x,a.fld.rune = x := ⟨_,rfl⟩
 obtain ⟨y2,hy2⟩ : ∃ y,b.fld.rune = y := ⟨_,rfl⟩
 rw [hx2] at f2
 rw [hy2] at g2
 have X2 := Hd hx2;have Y2 := Hd hy2
 clear hx2 hy2
 obtain ⟨x4,hx4⟩ : ∃ x,a.fld.at' = x := ⟨_,rfl⟩
 obtain ⟨y4,hy4⟩ : ∃ y,b.fld.at' = y := ⟨_,rfl⟩
 rw [hx4] at f4
 rw [hy4] at g4
 have X4 := Hd hx4;have Y4 := Hd hy4
 clear hx4 hy4
 obtain ⟨x5,hx5⟩ : ∃ x,a.fld.cap = x := ⟨_,rfl⟩
 obtain ⟨y5,hy5⟩ : ∃ y,b.fld.cap = y := ⟨_,rfl⟩
 rw [hx5] at f5
 rw [hy5] at g5
 have X5 := Hd hx5;have Y5 := Hd hy5
 clear hx5 hy5
 obtain ⟨x6,hx6⟩ : ∃ x,a.fld.name = x := ⟨_,rfl⟩
 obtain ⟨y6,hy6⟩ : ∃ y,b.fld.name = y := ⟨_,rfl⟩
 rw [hx6] at f6
 rw [hy6] at g6
 have X6 := Hd hx6;have Y6 := Hd hy6
 clear hx6 hy6
 obtain ⟨x7,hx7⟩ : ∃ x,a.fld.min = x := ⟨_,rfl⟩
 obtain ⟨y7,hy7⟩ : ∃ y,b.fld.min = y := ⟨_,rfl⟩
 rw [hx7] at f7
 rw [hy7] at g7
 have X7 := Hd hx7;have Y7 := Hd hy7
 clear hx7 hy7
 obtain ⟨x8,hx8⟩ : ∃ x,a.fld.max = x := ⟨_,rfl⟩
 obtain ⟨y8,hy8⟩ : ∃ y,b.fld.max = y := ⟨_,rfl⟩
 rw [hx8] at f8
 rw [hy8] at g8
 have X8 := Hd hx8;have Y8 := Hd hy8
 clear hx8 hy8
 obtain ⟨x9,hx9⟩ : ∃ x,a.fld.lazy = x := ⟨_,rfl⟩
 obtain ⟨y9,hy9⟩ : ∃ y,b.fld.lazy = y := ⟨_,rfl⟩
 rw [hx9] at f9
 rw [hy9] at g9
 have X9 := Hd hx9;have Y9 := Hd hy9
 clear hx9 hy9
 by_cases q0 : x0 = y0
 rotate_left
 ·have e1 : (x0 == y0) = false := beq_eq_false_iff_ne.2 q0
  have e2 : (x0 != y0) = true := bne_iff_ne.2 q0
  have NQ := Hd q0
  clear q0
  go_wp2_with fail
  go_ret
  exact ⟨false,rfl,⟨fun h => (by cases h),fun h => absurd (show x0 = y0 by rw [← X0.out,← Y0.out,HBA.out h]) NQ.out⟩,HB2.out⟩
 subst q0
 by_cases q2 : x2 = y2
 rotate_left
 ·have e1 : (x2 == y2) = false := beq_eq_false_iff_ne.2 q2
  have e2 : (x2 != y2) = true := bne_iff_ne.2 q2
  have NQ := Hd q2
  clear q2
  go_wp2_with fail
  go_ret
  exact ⟨false,rfl,⟨fun h => (by cases h),fun h => absurd (show x2 = y2 by rw [← X2.out,← Y2.out,HBA.out h]) NQ.out⟩,HB2.out⟩
 subst q2
 by_cases q4 : x4 = y4
 rotate_left
 ·have e1 : (x4 == y4) = false := beq_eq_false_iff_ne.2 q4
  have e2 : (x4 != y4) = true := bne_iff_ne.2 q4
  have NQ := Hd q4
  clear q4
  go_wp2_with fail
  go_ret
  exact ⟨false,rfl,⟨fun h => (by cases h),fun h => absurd (show x4 = y4 by rw [← X4.out,← Y4.out,HBA.out h]) NQ.out⟩,HB2.out⟩
 subst q4
 by_cases q5 : x5 = y5
 rotate_left
 ·have e1 : (x5 == y5) = false := beq_eq_false_iff_ne.2 q5
  have e2 : (x5 != y5) = true := bne_iff_ne.2 q5
  have NQ := Hd q5
  clear q5
  go_wp2_with fail
  go_ret
  exact ⟨false,rfl,⟨fun h => (by cases h),fun h => absurd (show x5 = y5 by rw [← X5.out,← Y5.out,HBA.out h]) NQ.out⟩,HB2.out⟩
 subst q5
 by_cases q6 : x6.toList = y6.toList
 rotate_left
 ·have e1 : (x6.toList == y6.toList) = false := by simpa using q6
  have e2 : (x6.toList != y6.toList) = true := by simpa using q6
  have NQ : Hid (¬ x6 = y6) := Hd fun h => q6 (by rw [h])
  clear q6
  go_wp2_with fail
  go_ret
  exact ⟨false,rfl,⟨fun h => (by cases h),fun h => absurd (show x6 = y6 by rw [← X6.out,← Y6.out,HBA.out h]) NQ.out⟩,HB2.out⟩
 obtain rfl : x6 = y6 := name_ext q6
 clear q6
 by_cases q7 : x7 = y7
 rotate_left
 ·have e1 : (x7 == y7) = false := beq_eq_false_iff_ne.2 q7
  have e2 : (x7 != y7) = true := bne_iff_ne.2 q7
  have NQ := Hd q7
  clear q7
  go_wp2_with fail
  go_ret
  exact ⟨false,rfl,⟨fun h => (by cases h),fun h => absurd (show x7 = y7 by rw [← X7.out,← Y7.out,HBA.out h]) NQ.out⟩,HB2.out⟩
 subst q7
 by_cases q8 : x8 = y8
 rotate_left
 ·have e1 : (x8 == y8) = false := beq_eq_false_iff_ne.2 q8
  have e2 : (x8 != y8) = true := bne_iff_ne.2 q8
  have NQ := Hd q8
  clear q8
  go_wp2_with fail
  go_ret
  exact ⟨false,rfl,⟨fun h => (by cases h),fun h => absurd (show x8 = y8 by rw [← X8.out,← Y8.out,HBA.out h]) NQ.out⟩,HB2.out⟩
 subst q8
 by_cases q9 : x9 = y9
 rotate_left
 ·cases x9
  all_goals cases y9
  ·exact absurd rfl q9
  ·clear q9
   go_wp2_with fail
   go_ret
   exact ⟨false,rfl,⟨fun h => (by cases h),fun h => absurd (X9.out.symm.trans ((congrArg (fun t : Tr => t.fld.lazy) (HBA.out h)).trans Y9.out)) (by decide)⟩,HB2.out⟩
  ·clear q9
   go_wp2_with fail
   go_ret
   exact ⟨false,rfl,⟨fun h => (by cases h),fun h => absurd (X9.out.symm.trans ((congrArg (fun t : Tr => t.fld.lazy) (HBA.out h)).trans Y9.out)) (by decide)⟩,HB2.out⟩
  ·exact absurd rfl q9
 subst q9
 by_cases qn : n = m
 rotate_left
 ·have e1 : ((n : Int) == (m : Int)) = false := beq_eq_false_iff_ne.2 (by omega)
  have e2 : ((n : Int) != (m : Int)) = true := bne_iff_ne.2 (by omega)
  have NQ := Hd qn
  clear qn
  go_wp2_with fail
  go_ret
  exact ⟨false,rfl,⟨fun h => (by cases h),fun h => absurd (show n = m by rw [← HN.out,← HM.out,HBA.out h]) NQ.out⟩,HB2.out⟩
 subst qn
 go_wp2_with fail
 go_loopw [6] (fun i wr => ∃ k : Nat,k ≤ n ∧ i = .int .i64 k ∧ Below w2.heap.size w2 wr ∧ a.kids.take k = b.kids.take k) (fun i _ => n - (intOf i).toNat)
 case atStart => exact ⟨0,Nat.zero_le _,rfl,Below.refl _ _,by simp⟩
 case round =>
  obtain ⟨k,hk,rfl,hB,hQ⟩ := hrel
  have HB := Hd hB;have HQ := Hd hQ
  clear f0 f1 f2 f3 f4 f5 f6 f7 f8 f9 g0 g1 g2 g3 g4 g5 g6 g7 g8 g9
  obtain ⟨-,f1,-⟩ := HE2.out.below hB
  obtain ⟨-,g1,-⟩ := HF2.out.below hB
  have hKa := HK2.out.below hB
  have hKb := HL2.out.below hB
  clear hB hQ
  by_cases hkn : k < n
  ·have hka : k < a.kids.length := by rw [HN.out];exact hkn
   have hkb : k < b.kids.length := by rw [HM.out];exact hkn
   obtain ⟨ba,oa,ta,ka,sa,rfl,hta,hma,⟨a0,a1,a2',a3,a4,a5,a6,a7,a8,a9⟩,hTa⟩ := hKa.kid k hka
   obtain ⟨bb,ob,tb,kb,sb,rfl,htb,hmb',⟨b0,b1,b2',b3,b4,b5,b6,b7,b8,b9⟩,hTb⟩ := hKb.kid k hkb
   have HI := Hd (fun W (hW : Below _ _ W) => IH.out ta hma tb _ _ W (hTa.below hW) (hTb.below hW))
   have hsa : a.kids.take (k + 1) = a.kids.take k ++ [ta] := by rw [List.take_succ_eq_append_getElem hka,hta]
   have hsb' : b.kids.take (k + 1) = b.kids.take k ++ [tb] := by rw [List.take_succ_eq_append_getElem hkb,htb]
   have HSA := Hd hsa;have HSB := Hd hsb';have HTA := Hd hta;have HTB := Hd htb
   have hlz : (k : Int) < (n : Int) := by omega
   clear hKa hKb hta htb hma hmb' hTa hTb hsa hsb'
   go_upto_region 7 with (fail)
   go_still_tail 10,(by kernel_rfl)
   have hdr : Below wr.heap.size wr wr.drew := (Below.refl _ _).drew
   have HDR := Hd hdr
   have hbz := HB.out.size
   clear hdr
   change wpList _ _ _ _ _ wr.drew
   go_wp2_with fail
   refine (HI.out _ HDR.out).mono ?_
   rintro e w4 ⟨B,rfl,hq,hb4⟩
   have HB4 := Hd (below_two (below_two HB.out HDR.out) hb4)
   have HNB : Hid (B = false → ¬ ta = tb) := Hd fun e g => by rw [hq.2 g] at e;cases e
   have HYB : Hid (B = true → ta = tb) := Hd hq.1
   clear hb4 hq f1 g1 a0 a1 a2' a3 a4 a5 a6 a7 a8 a9 b0 b1 b2' b3 b4 b5 b6 b7 b8 b9
   cases B
   ·have NB := Hd (HNB.out rfl)
    clear HNB HYB
    go_wp2_with fail
    go_ret
    exact ⟨false,rfl,⟨fun h => (by cases h),fun h => absurd (by rw [← HTA.out,← HTB.out];simp only [HBA.out h]) NB.out⟩,below_two HB2.out HB4.out⟩
   ·have YB := Hd (HYB.out rfl)
    clear HNB HYB
    go_wp2_with fail
    go_roundw
    case rel => exact ⟨k + 1,by omega,by go_num,HB4.out,by rw [HSA.out,HSB.out,HQ.out,YB.out]⟩
    case measure => simp [intOf];omega
  ·have hka : a.kids.take k = a.kids := List.take_of_length_le (by rw [HN.out];omega)
   have hkb : b.kids.take k = b.kids := List.take_of_length_le (by rw [HM.out];omega)
   have hq := HQ.out
   rw [hka,hkb] at hq
   have HQ2 := Hd hq
   clear hka hkb hq hKa hKb
   go_wp2_with fail
   go_ret
   exact ⟨true,rfl,⟨fun _ => HAB.out (tr_ext YB.out (X0.out.trans Y0.out.symm) (X2.out.trans Y2.out.symm) (X4.out.trans Y4.out.symm) (X5.out.trans Y5.out.symm) (X6.out.trans Y6.out.symm) (X7.out.trans Y7.out.symm) (X8.out.trans Y8.out.symm) (X9.out.trans Y9.out.symm) HQ2.out),fun _ => rfl⟩,below_two HB2.out HB.out⟩
end Go.Proofs.YthnddabcmhplkaaGreatDoor
