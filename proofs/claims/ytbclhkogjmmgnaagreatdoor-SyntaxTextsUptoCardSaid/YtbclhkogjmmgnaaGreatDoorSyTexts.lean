/- SyntaxTexts, of texts of at most 2^20 bytes. From the program's contracts pparse_any, pquote_any. -/
import Derived.Test.YtbclhkogjmmgnaaGreatDoorK58
import Derived.Test.YtbclhkogjmmgnaaGreatDoorK63
set_option maxHeartbeats 1600000
set_option maxRecDepth 100000
set_option linter.unusedVariables false
namespace Go.Proofs.YtbclhkogjmmgnaaGreatDoor
open Go Go.RowKit
theorem valid8_any (s : ByteArray) (w : World) (hs : s.size ≤ 4503599627370496) (hT : TabsY w) : Calls Tryz.prog 14 #[.string s] w fun e w' => e = .returned (.bool (Lib.validD s.data.toList)) ∧ Below w.heap.size w w' :=
 Any.utf8_ValidString Tryz.validR s w (by omega) hT.utf8
theorem sytexts_any (s : ByteArray) (p q : Bool) (w : World) (hs : s.size ≤ 1048576) (hT : TabsY w) : Calls Tryz.prog 5 #[.string s,.bool p,.bool q] w fun e w' => e = .returned (.bool true) ∧ Below w.heap.size w w' := by
 have HH := Hd (shead_any w hT)
 have HT := Hd hT
 obtain ⟨Q,hQ⟩ : ∃ Q,quoteY s = Q := ⟨_,rfl⟩
 have HP := Hd (fun W => pquote_any s W hs)
 have HX := Hd (fun (f : Int) (hf : f = 0 ∨ f = 1 ∨ f = 32 ∨ f = 33) (hv : Lib.validD s.data.toList = true) (hq : Q.size ≤ 1024) => show ∃ t,parseY Q f = .tree t ∧ parseY s (bits .or .i64 f 2) = .tree t by subst hQ;exact texts_read s f hf (by rw [Lib.toList_data];exact hv) hq)
 have HV := Hd (fun W (h : TabsY W) => valid8_any s W (by omega) h)
 rw [hQ] at HP
 clear hT hQ
 obtain ⟨V,hV⟩ : ∃ V,Lib.validD s.data.toList = V := ⟨_,rfl⟩
 rw [hV] at HX HV
 clear hV
 go_enter Tryz.func5,Tryz.ntmps5
 go_wp2_with fail
 refine HH.out.mono ?_
 rintro e w1 ⟨rfl,hb⟩
 have HB := Hd hb
 clear hb HH
 go_wp2_with fail
 refine (HP.out _).mono ?_
 rintro e w2 ⟨rfl,hb⟩
 replace HB := Hd (HB.out.trans (hb.mono HB.out.size))
 clear hb HP
 by_cases hbig : 1024 < Q.size
 ·go_wp2_with fail
  go_ret
  exact ⟨rfl,HB.out⟩
 go_wp2_with fail
 refine (HV.out _ (HT.out.below HB.out)).mono ?_
 rintro e w3 ⟨rfl,hb⟩
 replace HB := Hd (HB.out.trans (hb.mono HB.out.size))
 clear hb HV
 cases V
 ·go_wp2_with fail
  go_ret
  exact ⟨rfl,HB.out⟩
 cases p <;> cases q
 ·go_wp2_with fail
  obtain ⟨t,e1,e2⟩ := HX.out 0 (by simp) (by first | trivial | rfl) (by omega)
  have P1 := Hd (fun W (h : TabsY W) => e1 ▸ pparse_any Q 0 W (by omega) h)
  have P2 := Hd (fun W (h : TabsY W) => e2 ▸ pparse_any s (bits .or .i64 0 2) W (by omega) h)
  clear HX e1 e2
  refine (P1.out _ (HT.out.below HB.out)).mono ?_
  rintro e w4 ⟨hb,v,he,ht⟩
  have ht0 := ht
  obtain ⟨Ax,nx,cx,Bx,mx,ex,-,-,hv,-,-,-,-,-⟩ := ht.opened
  subst hv
  obtain ⟨d0x,d2x,d4x,d5x,d6x,d7x,d8x,d9x,hd⟩ : ∃ d0x d2x d4x d5x d6x d7x d8x d9x,Value.agg #[.int .i64 t.fld.op,.slice Ax nx cx,.int .i32 t.fld.rune,.slice Bx mx ex,.int .i64 t.fld.at',.int .i64 t.fld.cap,.string t.fld.name,.int .i64 t.fld.min,.int .i64 t.fld.max,.bool t.fld.lazy] = .agg #[.int .i64 d0x,.slice Ax nx cx,.int .i32 d2x,.slice Bx mx ex,.int .i64 d4x,.int .i64 d5x,.string d6x,.int .i64 d7x,.int .i64 d8x,.bool d9x] := ⟨_,_,_,_,_,_,_,_,rfl⟩
  rw [hd] at ht0
  replace he : e = .returned (.tuple #[.agg #[.int .i64 d0x,.slice Ax nx cx,.int .i32 d2x,.slice Bx mx ex,.int .i64 d4x,.int .i64 d5x,.string d6x,.int .i64 d7x,.int .i64 d8x,.bool d9x],.agg #[.int .i64 0,.int .i64 0,.int .i64 0]]) := by rw [he,← hd];rfl
  subst he
  obtain ⟨w5,hw5⟩ : ∃ w5,(w4.alloc (.cells #[.int .i64 d0x,.slice Ax nx cx,.int .i32 d2x,.slice Bx mx ex,.int .i64 d4x,.int .i64 d5x,.string d6x,.int .i64 d7x,.int .i64 d8x,.bool d9x] 31)).alloc (.cells #[.int .i64 0,.int .i64 0,.int .i64 0] 34) = w5 := ⟨_,rfl⟩
  obtain ⟨n1,n2,n3,n4⟩ := pair_new w4 #[.int .i64 d0x,.slice Ax nx cx,.int .i32 d2x,.slice Bx mx ex,.int .i64 d4x,.int .i64 d5x,.string d6x,.int .i64 d7x,.int .i64 d8x,.bool d9x] #[.int .i64 0,.int .i64 0,.int .i64 0]
  rw [hw5] at n1 n2 n3 n4
  have HW5 := Hd hw5;have HS5 := Hd n4;have T1 := Hd n1;have W1 := Hd n2;have R1 := Hd (ht0.below n3)
  replace HB := Hd (HB.out.trans ((hb.trans (n3.mono hb.size)).mono HB.out.size))
  clear hw5 n1 n2 n3 n4 hb P1 hd ht ht0
  go_upto_region 11 with (fail)
  rw [HW5.out]
  clear HW5
  go_wp2_with fail
  refine (P2.out w5 (HT.out.below HB.out)).mono ?_
  rintro e w6 ⟨hb,v,he,ht⟩
  have ht0 := ht
  obtain ⟨Ay,ny,cy,By,my,ey,-,-,hv,-,-,-,-,-⟩ := ht.opened
  subst hv
  obtain ⟨d0y,d2y,d4y,d5y,d6y,d7y,d8y,d9y,hd⟩ : ∃ d0y d2y d4y d5y d6y d7y d8y d9y,Value.agg #[.int .i64 t.fld.op,.slice Ay ny cy,.int .i32 t.fld.rune,.slice By my ey,.int .i64 t.fld.at',.int .i64 t.fld.cap,.string t.fld.name,.int .i64 t.fld.min,.int .i64 t.fld.max,.bool t.fld.lazy] = .agg #[.int .i64 d0y,.slice Ay ny cy,.int .i32 d2y,.slice By my ey,.int .i64 d4y,.int .i64 d5y,.string d6y,.int .i64 d7y,.int .i64 d8y,.bool d9y] := ⟨_,_,_,_,_,_,_,_,rfl⟩
  rw [hd] at ht0
  replace he : e = .returned (.tuple #[.agg #[.int .i64 d0y,.slice Ay ny cy,.int .i32 d2y,.slice By my ey,.int .i64 d4y,.int .i64 d5y,.string d6y,.int .i64 d7y,.int .i64 d8y,.bool d9y],.agg #[.int .i64 0,.int .i64 0,.int .i64 0]]) := by rw [he,← hd];rfl
  subst he
  obtain ⟨w7,hw7⟩ : ∃ w7,(w6.alloc (.cells #[.int .i64 d0y,.slice Ay ny cy,.int .i32 d2y,.slice By my ey,.int .i64 d4y,.int .i64 d5y,.string d6y,.int .i64 d7y,.int .i64 d8y,.bool d9y] 31)).alloc (.cells #[.int .i64 0,.int .i64 0,.int .i64 0] 34) = w7 := ⟨_,rfl⟩
  obtain ⟨n1,n2,n3,n4⟩ := pair_new w6 #[.int .i64 d0y,.slice Ay ny cy,.int .i32 d2y,.slice By my ey,.int .i64 d4y,.int .i64 d5y,.string d6y,.int .i64 d7y,.int .i64 d8y,.bool d9y] #[.int .i64 0,.int .i64 0,.int .i64 0]
  rw [hw7] at n1 n2 n3 n4
  have hs5 := HS5.out
  have hb7 := hb.trans (n3.mono hb.size)
  have HW7 := Hd hw7
  have u1 := T1.out.below hb7 (by omega)
  have u2 := W1.out.below hb7 (by omega)
  have HSM := Hd (fun W (h : Below w7.heap.size w7 W) => same_any t t _ _ W ((R1.out.below hb7).below h) ((ht0.below n3).below h))
  replace HB := Hd (HB.out.trans (hb7.mono HB.out.size))
  have t10 : w7.cell? ⟨w4.heap.size,0,none⟩ = some (.int .i64 d0x) := u1.cell 0
  have t11 : w7.cell? ⟨w4.heap.size,1,none⟩ = some (.slice Ax nx cx) := u1.cell 1
  have t12 : w7.cell? ⟨w4.heap.size,2,none⟩ = some (.int .i32 d2x) := u1.cell 2
  have t13 : w7.cell? ⟨w4.heap.size,3,none⟩ = some (.slice Bx mx ex) := u1.cell 3
  have t14 : w7.cell? ⟨w4.heap.size,4,none⟩ = some (.int .i64 d4x) := u1.cell 4
  have t15 : w7.cell? ⟨w4.heap.size,5,none⟩ = some (.int .i64 d5x) := u1.cell 5
  have t16 : w7.cell? ⟨w4.heap.size,6,none⟩ = some (.string d6x) := u1.cell 6
  have t17 : w7.cell? ⟨w4.heap.size,7,none⟩ = some (.int .i64 d7x) := u1.cell 7
  have t18 : w7.cell? ⟨w4.heap.size,8,none⟩ = some (.int .i64 d8x) := u1.cell 8
  have t19 : w7.cell? ⟨w4.heap.size,9,none⟩ = some (.bool d9x) := u1.cell 9
  have t20 : w7.cell? ⟨w6.heap.size,0,none⟩ = some (.int .i64 d0y) := n1.cell 0
  have t21 : w7.cell? ⟨w6.heap.size,1,none⟩ = some (.slice Ay ny cy) := n1.cell 1
  have t22 : w7.cell? ⟨w6.heap.size,2,none⟩ = some (.int .i32 d2y) := n1.cell 2
  have t23 : w7.cell? ⟨w6.heap.size,3,none⟩ = some (.slice By my ey) := n1.cell 3
  have t24 : w7.cell? ⟨w6.heap.size,4,none⟩ = some (.int .i64 d4y) := n1.cell 4
  have t25 : w7.cell? ⟨w6.heap.size,5,none⟩ = some (.int .i64 d5y) := n1.cell 5
  have t26 : w7.cell? ⟨w6.heap.size,6,none⟩ = some (.string d6y) := n1.cell 6
  have t27 : w7.cell? ⟨w6.heap.size,7,none⟩ = some (.int .i64 d7y) := n1.cell 7
  have t28 : w7.cell? ⟨w6.heap.size,8,none⟩ = some (.int .i64 d8y) := n1.cell 8
  have t29 : w7.cell? ⟨w6.heap.size,9,none⟩ = some (.bool d9y) := n1.cell 9
  have o1 : w7.cell? ⟨w4.heap.size + 1,0,none⟩ = some (.int .i64 0) := u2.cell 0
  have o2 : w7.cell? ⟨w6.heap.size + 1,0,none⟩ = some (.int .i64 0) := n2.cell 0
  clear hw7 n1 n2 n3 n4 hb hb7 hs5 HS5 P2 T1 W1 R1 u1 u2 hd ht ht0
  go_upto_region 12 with (fail)
  rw [HW7.out]
  clear HW7
  go_wp2_with fail
  refine (HSM.out _ (by first | exact Below.refl _ w7 | exact (Below.refl _ w7).drew)).mono ?_
  rintro e w8 ⟨B,rfl,hq,hb⟩
  obtain rfl := (show true = B from (hq.2 (by first | trivial | rfl)).symm)
  have HB8 := Hd (HB.out.trans (hb.mono HB.out.size))
  clear hq hb
  go_wp2_with fail
  go_ret
  exact ⟨rfl,HB8.out⟩
 ·go_wp2_with fail
  rw [show bits .or .i64 0 1 = 1 by kernel_rfl]
  obtain ⟨t,e1,e2⟩ := HX.out 1 (by simp) (by first | trivial | rfl) (by omega)
  have P1 := Hd (fun W (h : TabsY W) => e1 ▸ pparse_any Q 1 W (by omega) h)
  have P2 := Hd (fun W (h : TabsY W) => e2 ▸ pparse_any s (bits .or .i64 1 2) W (by omega) h)
  clear HX e1 e2
  refine (P1.out _ (HT.out.below HB.out)).mono ?_
  rintro e w4 ⟨hb,v,he,ht⟩
  have ht0 := ht
  obtain ⟨Ax,nx,cx,Bx,mx,ex,-,-,hv,-,-,-,-,-⟩ := ht.opened
  subst hv
  obtain ⟨d0x,d2x,d4x,d5x,d6x,d7x,d8x,d9x,hd⟩ : ∃ d0x d2x d4x d5x d6x d7x d8x d9x,Value.agg #[.int .i64 t.fld.op,.slice Ax nx cx,.int .i32 t.fld.rune,.slice Bx mx ex,.int .i64 t.fld.at',.int .i64 t.fld.cap,.string t.fld.name,.int .i64 t.fld.min,.int .i64 t.fld.max,.bool t.fld.lazy] = .agg #[.int .i64 d0x,.slice Ax nx cx,.int .i32 d2x,.slice Bx mx ex,.int .i64 d4x,.int .i64 d5x,.string d6x,.int .i64 d7x,.int .i64 d8x,.bool d9x] := ⟨_,_,_,_,_,_,_,_,rfl⟩
  rw [hd] at ht0
  replace he : e = .returned (.tuple #[.agg #[.int .i64 d0x,.slice Ax nx cx,.int .i32 d2x,.slice Bx mx ex,.int .i64 d4x,.int .i64 d5x,.string d6x,.int .i64 d7x,.int .i64 d8x,.bool d9x],.agg #[.int .i64 0,.int .i64 0,.int .i64 0]]) := by rw [he,← hd];rfl
  subst he
  obtain ⟨w5,hw5⟩ : ∃ w5,(w4.alloc (.cells #[.int .i64 d0x,.slice Ax nx cx,.int .i32 d2x,.slice Bx mx ex,.int .i64 d4x,.int .i64 d5x,.string d6x,.int .i64 d7x,.int .i64 d8x,.bool d9x] 31)).alloc (.cells #[.int .i64 0,.int .i64 0,.int .i64 0] 34) = w5 := ⟨_,rfl⟩
  obtain ⟨n1,n2,n3,n4⟩ := pair_new w4 #[.int .i64 d0x,.slice Ax nx cx,.int .i32 d2x,.slice Bx mx ex,.int .i64 d4x,.int .i64 d5x,.string d6x,.int .i64 d7x,.int .i64 d8x,.bool d9x] #[.int .i64 0,.int .i64 0,.int .i64 0]
  rw [hw5] at n1 n2 n3 n4
  have HW5 := Hd hw5;have HS5 := Hd n4;have T1 := Hd n1;have W1 := Hd n2;have R1 := Hd (ht0.below n3)
  replace HB := Hd (HB.out.trans ((hb.trans (n3.mono hb.size)).mono HB.out.size))
  clear hw5 n1 n2 n3 n4 hb P1 hd ht ht0
  go_upto_region 11 with (fail)
  rw [HW5.out]
  clear HW5
  go_wp2_with fail
  refine (P2.out w5 (HT.out.below HB.out)).mono ?_
  rintro e w6 ⟨hb,v,he,ht⟩
  have ht0 := ht
  obtain ⟨Ay,ny,cy,By,my,ey,-,-,hv,-,-,-,-,-⟩ := ht.opened
  subst hv
  obtain ⟨d0y,d2y,d4y,d5y,d6y,d7y,d8y,d9y,hd⟩ : ∃ d0y d2y d4y d5y d6y d7y d8y d9y,Value.agg #[.int .i64 t.fld.op,.slice Ay ny cy,.int .i32 t.fld.rune,.slice By my ey,.int .i64 t.fld.at',.int .i64 t.fld.cap,.string t.fld.name,.int .i64 t.fld.min,.int .i64 t.fld.max,.bool t.fld.lazy] = .agg #[.int .i64 d0y,.slice Ay ny cy,.int .i32 d2y,.slice By my ey,.int .i64 d4y,.int .i64 d5y,.string d6y,.int .i64 d7y,.int .i64 d8y,.bool d9y] := ⟨_,_,_,_,_,_,_,_,rfl⟩
  rw [hd] at ht0
  replace he : e = .returned (.tuple #[.agg #[.int .i64 d0y,.slice Ay ny cy,.int .i32 d2y,.slice By my ey,.int .i64 d4y,.int .i64 d5y,.string d6y,.int .i64 d7y,.int .i64 d8y,.bool d9y],.agg #[.int .i64 0,.int .i64 0,.int .i64 0]]) := by rw [he,← hd];rfl
  subst he
  obtain ⟨w7,hw7⟩ : ∃ w7,(w6.alloc (.cells #[.int .i64 d0y,.slice Ay ny cy,.int .i32 d2y,.slice By my ey,.int .i64 d4y,.int .i64 d5y,.string d6y,.int .i64 d7y,.int .i64 d8y,.bool d9y] 31)).alloc (.cells #[.int .i64 0,.int .i64 0,.int .i64 0] 34) = w7 := ⟨_,rfl⟩
  obtain ⟨n1,n2,n3,n4⟩ := pair_new w6 #[.int .i64 d0y,.slice Ay ny cy,.int .i32 d2y,.slice By my ey,.int .i64 d4y,.int .i64 d5y,.string d6y,.int .i64 d7y,.int .i64 d8y,.bool d9y] #[.int .i64 0,.int .i64 0,.int .i64 0]
  rw [hw7] at n1 n2 n3 n4
  have hs5 := HS5.out
  have hb7 := hb.trans (n3.mono hb.size)
  have HW7 := Hd hw7
  have u1 := T1.out.below hb7 (by omega)
  have u2 := W1.out.below hb7 (by omega)
  have HSM := Hd (fun W (h : Below w7.heap.size w7 W) => same_any t t _ _ W ((R1.out.below hb7).below h) ((ht0.below n3).below h))
  replace HB := Hd (HB.out.trans (hb7.mono HB.out.size))
  have t10 : w7.cell? ⟨w4.heap.size,0,none⟩ = some (.int .i64 d0x) := u1.cell 0
  have t11 : w7.cell? ⟨w4.heap.size,1,none⟩ = some (.slice Ax nx cx) := u1.cell 1
  have t12 : w7.cell? ⟨w4.heap.size,2,none⟩ = some (.int .i32 d2x) := u1.cell 2
  have t13 : w7.cell? ⟨w4.heap.size,3,none⟩ = some (.slice Bx mx ex) := u1.cell 3
  have t14 : w7.cell? ⟨w4.heap.size,4,none⟩ = some (.int .i64 d4x) := u1.cell 4
  have t15 : w7.cell? ⟨w4.heap.size,5,none⟩ = some (.int .i64 d5x) := u1.cell 5
  have t16 : w7.cell? ⟨w4.heap.size,6,none⟩ = some (.string d6x) := u1.cell 6
  have t17 : w7.cell? ⟨w4.heap.size,7,none⟩ = some (.int .i64 d7x) := u1.cell 7
  have t18 : w7.cell? ⟨w4.heap.size,8,none⟩ = some (.int .i64 d8x) := u1.cell 8
  have t19 : w7.cell? ⟨w4.heap.size,9,none⟩ = some (.bool d9x) := u1.cell 9
  have t20 : w7.cell? ⟨w6.heap.size,0,none⟩ = some (.int .i64 d0y) := n1.cell 0
  have t21 : w7.cell? ⟨w6.heap.size,1,none⟩ = some (.slice Ay ny cy) := n1.cell 1
  have t22 : w7.cell? ⟨w6.heap.size,2,none⟩ = some (.int .i32 d2y) := n1.cell 2
  have t23 : w7.cell? ⟨w6.heap.size,3,none⟩ = some (.slice By my ey) := n1.cell 3
  have t24 : w7.cell? ⟨w6.heap.size,4,none⟩ = some (.int .i64 d4y) := n1.cell 4
  have t25 : w7.cell? ⟨w6.heap.size,5,none⟩ = some (.int .i64 d5y) := n1.cell 5
  have t26 : w7.cell? ⟨w6.heap.size,6,none⟩ = some (.string d6y) := n1.cell 6
  have t27 : w7.cell? ⟨w6.heap.size,7,none⟩ = some (.int .i64 d7y) := n1.cell 7
  have t28 : w7.cell? ⟨w6.heap.size,8,none⟩ = some (.int .i64 d8y) := n1.cell 8
  have t29 : w7.cell? ⟨w6.heap.size,9,none⟩ = some (.bool d9y) := n1.cell 9
  have o1 : w7.cell? ⟨w4.heap.size + 1,0,none⟩ = some (.int .i64 0) := u2.cell 0
  have o2 : w7.cell? ⟨w6.heap.size + 1,0,none⟩ = some (.int .i64 0) := n2.cell 0
  clear hw7 n1 n2 n3 n4 hb hb7 hs5 HS5 P2 T1 W1 R1 u1 u2 hd ht ht0
  go_upto_region 12 with (fail)
  rw [HW7.out]
  clear HW7
  go_wp2_with fail
  refine (HSM.out _ (by first | exact Below.refl _ w7 | exact (Below.refl _ w7).drew)).mono ?_
  rintro e w8 ⟨B,rfl,hq,hb⟩
  obtain rfl := (show true = B from (hq.2 (by first | trivial | rfl)).symm)
  have HB8 := Hd (HB.out.trans (hb.mono HB.out.size))
  clear hq hb
  go_wp2_with fail
  go_ret
  exact ⟨rfl,HB8.out⟩
 ·go_wp2_with fail
  rw [show bits .or .i64 0 32 = 32 by kernel_rfl]
  obtain ⟨t,e1,e2⟩ := HX.out 32 (by simp) (by first | trivial | rfl) (by omega)
  have P1 := Hd (fun W (h : TabsY W) => e1 ▸ pparse_any Q 32 W (by omega) h)
  have P2 := Hd (fun W (h : TabsY W) => e2 ▸ pparse_any s (bits .or .i64 32 2) W (by omega) h)
  clear HX e1 e2
  refine (P1.out _ (HT.out.below HB.out)).mono ?_
  rintro e w4 ⟨hb,v,he,ht⟩
  have ht0 := ht
  obtain ⟨Ax,nx,cx,Bx,mx,ex,-,-,hv,-,-,-,-,-⟩ := ht.opened
  subst hv
  obtain ⟨d0x,d2x,d4x,d5x,d6x,d7x,d8x,d9x,hd⟩ : ∃ d0x d2x d4x d5x d6x d7x d8x d9x,Value.agg #[.int .i64 t.fld.op,.slice Ax nx cx,.int .i32 t.fld.rune,.slice Bx mx ex,.int .i64 t.fld.at',.int .i64 t.fld.cap,.string t.fld.name,.int .i64 t.fld.min,.int .i64 t.fld.max,.bool t.fld.lazy] = .agg #[.int .i64 d0x,.slice Ax nx cx,.int .i32 d2x,.slice Bx mx ex,.int .i64 d4x,.int .i64 d5x,.string d6x,.int .i64 d7x,.int .i64 d8x,.bool d9x] := ⟨_,_,_,_,_,_,_,_,rfl⟩
  rw [hd] at ht0
  replace he : e = .returned (.tuple #[.agg #[.int .i64 d0x,.slice Ax nx cx,.int .i32 d2x,.slice Bx mx ex,.int .i64 d4x,.int .i64 d5x,.string d6x,.int .i64 d7x,.int .i64 d8x,.bool d9x],.agg #[.int .i64 0,.int .i64 0,.int .i64 0]]) := by rw [he,← hd];rfl
  subst he
  obtain ⟨w5,hw5⟩ : ∃ w5,(w4.alloc (.cells #[.int .i64 d0x,.slice Ax nx cx,.int .i32 d2x,.slice Bx mx ex,.int .i64 d4x,.int .i64 d5x,.string d6x,.int .i64 d7x,.int .i64 d8x,.bool d9x] 31)).alloc (.cells #[.int .i64 0,.int .i64 0,.int .i64 0] 34) = w5 := ⟨_,rfl⟩
  obtain ⟨n1,n2,n3,n4⟩ := pair_new w4 #[.int .i64 d0x,.slice Ax nx cx,.int .i32 d2x,.slice Bx mx ex,.int .i64 d4x,.int .i64 d5x,.string d6x,.int .i64 d7x,.int .i64 d8x,.bool d9x] #[.int .i64 0,.int .i64 0,.int .i64 0]
  rw [hw5] at n1 n2 n3 n4
  have HW5 := Hd hw5;have HS5 := Hd n4;have T1 := Hd n1;have W1 := Hd n2;have R1 := Hd (ht0.below n3)
  replace HB := Hd (HB.out.trans ((hb.trans (n3.mono hb.size)).mono HB.out.size))
  clear hw5 n1 n2 n3 n4 hb P1 hd ht ht0
  go_upto_region 11 with (fail)
  rw [HW5.out]
  clear HW5
  go_wp2_with fail
  refine (P2.out w5 (HT.out.below HB.out)).mono ?_
  rintro e w6 ⟨hb,v,he,ht⟩
  have ht0 := ht
  obtain ⟨Ay,ny,cy,By,my,ey,-,-,hv,-,-,-,-,-⟩ := ht.opened
  subst hv
  obtain ⟨d0y,d2y,d4y,d5y,d6y,d7y,d8y,d9y,hd⟩ : ∃ d0y d2y d4y d5y d6y d7y d8y d9y,Value.agg #[.int .i64 t.fld.op,.slice Ay ny cy,.int .i32 t.fld.rune,.slice By my ey,.int .i64 t.fld.at',.int .i64 t.fld.cap,.string t.fld.name,.int .i64 t.fld.min,.int .i64 t.fld.max,.bool t.fld.lazy] = .agg #[.int .i64 d0y,.slice Ay ny cy,.int .i32 d2y,.slice By my ey,.int .i64 d4y,.int .i64 d5y,.string d6y,.int .i64 d7y,.int .i64 d8y,.bool d9y] := ⟨_,_,_,_,_,_,_,_,rfl⟩
  rw [hd] at ht0
  replace he : e = .returned (.tuple #[.agg #[.int .i64 d0y,.slice Ay ny cy,.int .i32 d2y,.slice By my ey,.int .i64 d4y,.int .i64 d5y,.string d6y,.int .i64 d7y,.int .i64 d8y,.bool d9y],.agg #[.int .i64 0,.int .i64 0,.int .i64 0]]) := by rw [he,← hd];rfl
  subst he
  obtain ⟨w7,hw7⟩ : ∃ w7,(w6.alloc (.cells #[.int .i64 d0y,.slice Ay ny cy,.int .i32 d2y,.slice By my ey,.int .i64 d4y,.int .i64 d5y,.string d6y,.int .i64 d7y,.int .i64 d8y,.bool d9y] 31)).alloc (.cells #[.int .i64 0,.int .i64 0,.int .i64 0] 34) = w7 := ⟨_,rfl⟩
  obtain ⟨n1,n2,n3,n4⟩ := pair_new w6 #[.int .i64 d0y,.slice Ay ny cy,.int .i32 d2y,.slice By my ey,.int .i64 d4y,.int .i64 d5y,.string d6y,.int .i64 d7y,.int .i64 d8y,.bool d9y] #[.int .i64 0,.int .i64 0,.int .i64 0]
  rw [hw7] at n1 n2 n3 n4
  have hs5 := HS5.out
  have hb7 := hb.trans (n3.mono hb.size)
  have HW7 := Hd hw7
  have u1 := T1.out.below hb7 (by omega)
  have u2 := W1.out.below hb7 (by omega)
  have HSM := Hd (fun W (h : Below w7.heap.size w7 W) => same_any t t _ _ W ((R1.out.below hb7).below h) ((ht0.below n3).below h))
  replace HB := Hd (HB.out.trans (hb7.mono HB.out.size))
  have t10 : w7.cell? ⟨w4.heap.size,0,none⟩ = some (.int .i64 d0x) := u1.cell 0
  have t11 : w7.cell? ⟨w4.heap.size,1,none⟩ = some (.slice Ax nx cx) := u1.cell 1
  have t12 : w7.cell? ⟨w4.heap.size,2,none⟩ = some (.int .i32 d2x) := u1.cell 2
  have t13 : w7.cell? ⟨w4.heap.size,3,none⟩ = some (.slice Bx mx ex) := u1.cell 3
  have t14 : w7.cell? ⟨w4.heap.size,4,none⟩ = some (.int .i64 d4x) := u1.cell 4
  have t15 : w7.cell? ⟨w4.heap.size,5,none⟩ = some (.int .i64 d5x) := u1.cell 5
  have t16 : w7.cell? ⟨w4.heap.size,6,none⟩ = some (.string d6x) := u1.cell 6
  have t17 : w7.cell? ⟨w4.heap.size,7,none⟩ = some (.int .i64 d7x) := u1.cell 7
  have t18 : w7.cell? ⟨w4.heap.size,8,none⟩ = some (.int .i64 d8x) := u1.cell 8
  have t19 : w7.cell? ⟨w4.heap.size,9,none⟩ = some (.bool d9x) := u1.cell 9
  have t20 : w7.cell? ⟨w6.heap.size,0,none⟩ = some (.int .i64 d0y) := n1.cell 0
  have t21 : w7.cell? ⟨w6.heap.size,1,none⟩ = some (.slice Ay ny cy) := n1.cell 1
  have t22 : w7.cell? ⟨w6.heap.size,2,none⟩ = some (.int .i32 d2y) := n1.cell 2
  have t23 : w7.cell? ⟨w6.heap.size,3,none⟩ = some (.slice By my ey) := n1.cell 3
  have t24 : w7.cell? ⟨w6.heap.size,4,none⟩ = some (.int .i64 d4y) := n1.cell 4
  have t25 : w7.cell? ⟨w6.heap.size,5,none⟩ = some (.int .i64 d5y) := n1.cell 5
  have t26 : w7.cell? ⟨w6.heap.size,6,none⟩ = some (.string d6y) := n1.cell 6
  have t27 : w7.cell? ⟨w6.heap.size,7,none⟩ = some (.int .i64 d7y) := n1.cell 7
  have t28 : w7.cell? ⟨w6.heap.size,8,none⟩ = some (.int .i64 d8y) := n1.cell 8
  have t29 : w7.cell? ⟨w6.heap.size,9,none⟩ = some (.bool d9y) := n1.cell 9
  have o1 : w7.cell? ⟨w4.heap.size + 1,0,none⟩ = some (.int .i64 0) := u2.cell 0
  have o2 : w7.cell? ⟨w6.heap.size + 1,0,none⟩ = some (.int .i64 0) := n2.cell 0
  clear hw7 n1 n2 n3 n4 hb hb7 hs5 HS5 P2 T1 W1 R1 u1 u2 hd ht ht0
  go_upto_region 12 with (fail)
  rw [HW7.out]
  clear HW7
  go_wp2_with fail
  refine (HSM.out _ (by first | exact Below.refl _ w7 | exact (Below.refl _ w7).drew)).mono ?_
  rintro e w8 ⟨B,rfl,hq,hb⟩
  obtain rfl := (show true = B from (hq.2 (by first | trivial | rfl)).symm)
  have HB8 := Hd (HB.out.trans (hb.mono HB.out.size))
  clear hq hb
  go_wp2_with fail
  go_ret
  exact ⟨rfl,HB8.out⟩
 ·go_wp2_with fail
  rw [show bits .or .i64 0 32 = 32 by kernel_rfl,show bits .or .i64 32 1 = 33 by kernel_rfl]
  obtain ⟨t,e1,e2⟩ := HX.out 33 (by simp) (by first | trivial | rfl) (by omega)
  have P1 := Hd (fun W (h : TabsY W) => e1 ▸ pparse_any Q 33 W (by omega) h)
  have P2 := Hd (fun W (h : TabsY W) => e2 ▸ pparse_any s (bits .or .i64 33 2) W (by omega) h)
  clear HX e1 e2
  refine (P1.out _ (HT.out.below HB.out)).mono ?_
  rintro e w4 ⟨hb,v,he,ht⟩
  have ht0 := ht
  obtain ⟨Ax,nx,cx,Bx,mx,ex,-,-,hv,-,-,-,-,-⟩ := ht.opened
  subst hv
  obtain ⟨d0x,d2x,d4x,d5x,d6x,d7x,d8x,d9x,hd⟩ : ∃ d0x d2x d4x d5x d6x d7x d8x d9x,Value.agg #[.int .i64 t.fld.op,.slice Ax nx cx,.int .i32 t.fld.rune,.slice Bx mx ex,.int .i64 t.fld.at',.int .i64 t.fld.cap,.string t.fld.name,.int .i64 t.fld.min,.int .i64 t.fld.max,.bool t.fld.lazy] = .agg #[.int .i64 d0x,.slice Ax nx cx,.int .i32 d2x,.slice Bx mx ex,.int .i64 d4x,.int .i64 d5x,.string d6x,.int .i64 d7x,.int .i64 d8x,.bool d9x] := ⟨_,_,_,_,_,_,_,_,rfl⟩
  rw [hd] at ht0
  replace he : e = .returned (.tuple #[.agg #[.int .i64 d0x,.slice Ax nx cx,.int .i32 d2x,.slice Bx mx ex,.int .i64 d4x,.int .i64 d5x,.string d6x,.int .i64 d7x,.int .i64 d8x,.bool d9x],.agg #[.int .i64 0,.int .i64 0,.int .i64 0]]) := by rw [he,← hd];rfl
  subst he
  obtain ⟨w5,hw5⟩ : ∃ w5,(w4.alloc (.cells #[.int .i64 d0x,.slice Ax nx cx,.int .i32 d2x,.slice Bx mx ex,.int .i64 d4x,.int .i64 d5x,.string d6x,.int .i64 d7x,.int .i64 d8x,.bool d9x] 31)).alloc (.cells #[.int .i64 0,.int .i64 0,.int .i64 0] 34) = w5 := ⟨_,rfl⟩
  obtain ⟨n1,n2,n3,n4⟩ := pair_new w4 #[.int .i64 d0x,.slice Ax nx cx,.int .i32 d2x,.slice Bx mx ex,.int .i64 d4x,.int .i64 d5x,.string d6x,.int .i64 d7x,.int .i64 d8x,.bool d9x] #[.int .i64 0,.int .i64 0,.int .i64 0]
  rw [hw5] at n1 n2 n3 n4
  have HW5 := Hd hw5;have HS5 := Hd n4;have T1 := Hd n1;have W1 := Hd n2;have R1 := Hd (ht0.below n3)
  replace HB := Hd (HB.out.trans ((hb.trans (n3.mono hb.size)).mono HB.out.size))
  clear hw5 n1 n2 n3 n4 hb P1 hd ht ht0
  go_upto_region 11 with (fail)
  rw [HW5.out]
  clear HW5
  go_wp2_with fail
  refine (P2.out w5 (HT.out.below HB.out)).mono ?_
  rintro e w6 ⟨hb,v,he,ht⟩
  have ht0 := ht
  obtain ⟨Ay,ny,cy,By,my,ey,-,-,hv,-,-,-,-,-⟩ := ht.opened
  subst hv
  obtain ⟨d0y,d2y,d4y,d5y,d6y,d7y,d8y,d9y,hd⟩ : ∃ d0y d2y d4y d5y d6y d7y d8y d9y,Value.agg #[.int .i64 t.fld.op,.slice Ay ny cy,.int .i32 t.fld.rune,.slice By my ey,.int .i64 t.fld.at',.int .i64 t.fld.cap,.string t.fld.name,.int .i64 t.fld.min,.int .i64 t.fld.max,.bool t.fld.lazy] = .agg #[.int .i64 d0y,.slice Ay ny cy,.int .i32 d2y,.slice By my ey,.int .i64 d4y,.int .i64 d5y,.string d6y,.int .i64 d7y,.int .i64 d8y,.bool d9y] := ⟨_,_,_,_,_,_,_,_,rfl⟩
  rw [hd] at ht0
  replace he : e = .returned (.tuple #[.agg #[.int .i64 d0y,.slice Ay ny cy,.int .i32 d2y,.slice By my ey,.int .i64 d4y,.int .i64 d5y,.string d6y,.int .i64 d7y,.int .i64 d8y,.bool d9y],.agg #[.int .i64 0,.int .i64 0,.int .i64 0]]) := by rw [he,← hd];rfl
  subst he
  obtain ⟨w7,hw7⟩ : ∃ w7,(w6.alloc (.cells #[.int .i64 d0y,.slice Ay ny cy,.int .i32 d2y,.slice By my ey,.int .i64 d4y,.int .i64 d5y,.string d6y,.int .i64 d7y,.int .i64 d8y,.bool d9y] 31)).alloc (.cells #[.int .i64 0,.int .i64 0,.int .i64 0] 34) = w7 := ⟨_,rfl⟩
  obtain ⟨n1,n2,n3,n4⟩ := pair_new w6 #[.int .i64 d0y,.slice Ay ny cy,.int .i32 d2y,.slice By my ey,.int .i64 d4y,.int .i64 d5y,.string d6y,.int .i64 d7y,.int .i64 d8y,.bool d9y] #[.int .i64 0,.int .i64 0,.int .i64 0]
  rw [hw7] at n1 n2 n3 n4
  have hs5 := HS5.out
  have hb7 := hb.trans (n3.mono hb.size)
  have HW7 := Hd hw7
  have u1 := T1.out.below hb7 (by omega)
  have u2 := W1.out.below hb7 (by omega)
  have HSM := Hd (fun W (h : Below w7.heap.size w7 W) => same_any t t _ _ W ((R1.out.below hb7).below h) ((ht0.below n3).below h))
  replace HB := Hd (HB.out.trans (hb7.mono HB.out.size))
  have t10 : w7.cell? ⟨w4.heap.size,0,none⟩ = some (.int .i64 d0x) := u1.cell 0
  have t11 : w7.cell? ⟨w4.heap.size,1,none⟩ = some (.slice Ax nx cx) := u1.cell 1
  have t12 : w7.cell? ⟨w4.heap.size,2,none⟩ = some (.int .i32 d2x) := u1.cell 2
  have t13 : w7.cell? ⟨w4.heap.size,3,none⟩ = some (.slice Bx mx ex) := u1.cell 3
  have t14 : w7.cell? ⟨w4.heap.size,4,none⟩ = some (.int .i64 d4x) := u1.cell 4
  have t15 : w7.cell? ⟨w4.heap.size,5,none⟩ = some (.int .i64 d5x) := u1.cell 5
  have t16 : w7.cell? ⟨w4.heap.size,6,none⟩ = some (.string d6x) := u1.cell 6
  have t17 : w7.cell? ⟨w4.heap.size,7,none⟩ = some (.int .i64 d7x) := u1.cell 7
  have t18 : w7.cell? ⟨w4.heap.size,8,none⟩ = some (.int .i64 d8x) := u1.cell 8
  have t19 : w7.cell? ⟨w4.heap.size,9,none⟩ = some (.bool d9x) := u1.cell 9
  have t20 : w7.cell? ⟨w6.heap.size,0,none⟩ = some (.int .i64 d0y) := n1.cell 0
  have t21 : w7.cell? ⟨w6.heap.size,1,none⟩ = some (.slice Ay ny cy) := n1.cell 1
  have t22 : w7.cell? ⟨w6.heap.size,2,none⟩ = some (.int .i32 d2y) := n1.cell 2
  have t23 : w7.cell? ⟨w6.heap.size,3,none⟩ = some (.slice By my ey) := n1.cell 3
  have t24 : w7.cell? ⟨w6.heap.size,4,none⟩ = some (.int .i64 d4y) := n1.cell 4
  have t25 : w7.cell? ⟨w6.heap.size,5,none⟩ = some (.int .i64 d5y) := n1.cell 5
  have t26 : w7.cell? ⟨w6.heap.size,6,none⟩ = some (.string d6y) := n1.cell 6
  have t27 : w7.cell? ⟨w6.heap.size,7,none⟩ = some (.int .i64 d7y) := n1.cell 7
  have t28 : w7.cell? ⟨w6.heap.size,8,none⟩ = some (.int .i64 d8y) := n1.cell 8
  have t29 : w7.cell? ⟨w6.heap.size,9,none⟩ = some (.bool d9y) := n1.cell 9
  have o1 : w7.cell? ⟨w4.heap.size + 1,0,none⟩ = some (.int .i64 0) := u2.cell 0
  have o2 : w7.cell? ⟨w6.heap.size + 1,0,none⟩ = some (.int .i64 0) := n2.cell 0
  clear hw7 n1 n2 n3 n4 hb hb7 hs5 HS5 P2 T1 W1 R1 u1 u2 hd ht ht0
  go_upto_region 12 with (fail)
  rw [HW7.out]
  clear HW7
  go_wp2_with fail
  refine (HSM.out _ (by first | exact Below.refl _ w7 | exact (Below.refl _ w7).drew)).mono ?_
  rintro e w8 ⟨B,rfl,hq,hb⟩
  obtain rfl := (show true = B from (hq.2 (by first | trivial | rfl)).symm)
  have HB8 := Hd (HB.out.trans (hb.mono HB.out.size))
  clear hq hb
  go_wp2_with fail
  go_ret
  exact ⟨rfl,HB8.out⟩
end Go.Proofs.YtbclhkogjmmgnaaGreatDoor
