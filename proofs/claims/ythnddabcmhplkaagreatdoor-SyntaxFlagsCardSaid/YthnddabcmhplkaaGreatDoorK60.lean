/- Texts merged by program. No condition. -/
import Derived.Test.YthnddabcmhplkaaGreatDoorK58
import Derived.Test.YthnddabcmhplkaaGreatDoorK59
set_option maxHeartbeats 1600000
set_option maxRecDepth 100000
set_option linter.unusedVariables false
namespace Go.Proofs.YthnddabcmhplkaaGreatDoor
open Go Go.RowKit
def Told9 (R : ParseR) (w : World) (e : Ending) (w' : World) : Prop :=
 ∃ d0 A n c d2 B m k d4 d5 d6 d7 d8 d9 E a b,e = .returned (.tuple #[.agg #[.int .i64 d0,.slice A n c,.int .i32 d2,.slice B m k,.int .i64 d4,.int .i64 d5,.string d6,.int .i64 d7,.int .i64 d8,.bool d9],.agg #[.int .i64 E,.int .i64 a,.int .i64 b]]) ∧ Below w.heap.size w w' ∧
  ((E = 0 ∧ ∃ t,R = .tree t ∧ Tre w' t (.agg #[.int .i64 d0,.slice A n c,.int .i32 d2,.slice B m k,.int .i64 d4,.int .i64 d5,.string d6,.int .i64 d7,.int .i64 d8,.bool d9])) ∨ (E ≠ 0 ∧ ∃ x y,R = .bad E x y))
theorem told_any (s : ByteArray) (f : Int) (w : World) (hs : s.size ≤ 4503599627370496) (hT : TabsY w) : Calls Tryz.prog 5 #[.string s,.int .i64 f] w (Told9 (parseY s f) w) := by
 refine (pparse_any s f w hs hT).mono ?_
 intro e w' ⟨hb,h⟩
 have hok := parse_ok s f
 cases hR : parseY s f with
 | bad c a b =>
  rw [hR] at h hok
  exact ⟨_,_,_,_,_,_,_,_,_,_,_,_,_,_,_,_,_,h,hb,.inr ⟨by have := hok.1;omega,_,_,rfl⟩⟩
 | tree t =>
  rw [hR] at h
  obtain ⟨v,he,ht⟩ := h
  have ht0 := ht
  obtain ⟨A,n,c,B,m,k,-,-,hv,-,-,-,-,-⟩ := ht.opened
  subst hv
  exact ⟨_,_,_,_,_,_,_,_,_,_,_,_,_,_,_,_,_,he,hb,.inl ⟨rfl,t,rfl,ht0⟩⟩
theorem mask_all9 : ∀ n : Fin 32,n.val &&& 29 = n.val → bits .or .i64 (n.val : Int) 32 = flgB (bits .and .i64 (n.val : Int) 1 != 0) (bits .and .i64 (n.val : Int) 4 != 0) (bits .and .i64 (n.val : Int) 8 != 0) (bits .and .i64 (n.val : Int) 16 != 0) := by decide +kernel
theorem mask29 (f F : Int) (h : bits .and .i64 f 29 = F) : bits .or .i64 F 32 = flgB (bits .and .i64 F 1 != 0) (bits .and .i64 F 4 != 0) (bits .and .i64 F 8 != 0) (bits .and .i64 F 16 != 0) := by
 have hn : (BitVec.ofInt 64 f &&& 29#64).toNat ≤ 29 := by
  rw [BitVec.toNat_and]
  exact Nat.and_le_right
 have hm : (BitVec.ofInt 64 f &&& 29#64).toNat &&& 29 = (BitVec.ofInt 64 f &&& 29#64).toNat := by
  rw [BitVec.toNat_and]
  show ((BitVec.ofInt 64 f).toNat &&& 29) &&& 29 = _
  rw [Nat.and_assoc,Nat.and_self]
  rfl
 obtain ⟨N,hN⟩ : ∃ N,(BitVec.ofInt 64 f &&& 29#64).toNat = N := ⟨_,rfl⟩
 rw [hN] at hn hm
 have e : F = (N : Int) := by
  rw [← h]
  show IntKind.i64.wrap (((BitVec.ofInt 64 f &&& 29#64).toNat : Nat) : Int) = _
  rw [hN]
  exact wrap_in _ (by omega)
 rw [e]
 exact mask_all9 ⟨N,by omega⟩ hm
theorem small9 {L : ByteArray} {l : List UInt8} (h : L.toList = l) (hl : l.length ≤ 4) : L.size ≤ 4 := by
 have := congrArg List.length h
 rw [Lib.toList_data,Array.length_toList] at this
 show L.data.size ≤ 4
 omega
theorem append_list9 (a b : ByteArray) : (a ++ b).toList = a.toList ++ b.toList := by rw [Lib.toList_data,Lib.toList_data,Lib.toList_data,Joins.data_append]
theorem syflags_any (s : ByteArray) (f : Int) (w : World) (hs : s.size ≤ 140737488355328) (hT : TabsY w) : Calls Tryz.prog 3 #[.string s,.int .i64 f] w fun e w' => e = .returned (.bool true) ∧ Below w.heap.size w w' := by
 have HH := Hd (shead_any w hT)
 have HT := Hd hT
 obtain ⟨F,hF⟩ : ∃ F,bits .and .i64 f 29 = F := ⟨_,rfl⟩
 have HM := Hd (mask29 f F hF)
 have HF := Hd hF
 clear hT hF
 obtain ⟨p1,hp1⟩ : ∃ p,(bits .and .i64 F 1 != 0) = p := ⟨_,rfl⟩
 obtain ⟨p2,hp2⟩ : ∃ p,(bits .and .i64 F 4 != 0) = p := ⟨_,rfl⟩
 obtain ⟨p3,hp3⟩ : ∃ p,(bits .and .i64 F 8 != 0) = p := ⟨_,rfl⟩
 obtain ⟨p4,hp4⟩ : ∃ p,(bits .and .i64 F 16 != 0) = p := ⟨_,rfl⟩
 rw [hp1,hp2,hp3,hp4] at HM
 go_enter Tryz.func3,Tryz.ntmps3
 go_wp2_with fail
 refine HH.out.mono ?_
 rintro e w1 ⟨rfl,hb⟩
 have HB := Hd hb
 clear hb HH
 go_upto_region 3 with (fail)
 rw [HF.out]
 go_upto_if 20 with (fail)
 go_cut [7] (fun s7 wx => ∃ L : ByteArray,s7 = .string L ∧ L.toList = (if p1 then [105] else []) ∧ wx = w1)
 case first =>
  cases p1
  ·have q : bits .and .i64 F 1 = 0 := by simpa using hp1
   go_wp2
   go_meet
   exact ⟨_,rfl,by kernel_rfl,rfl⟩
  ·have q : ¬ bits .and .i64 F 1 = 0 := by simpa using hp1
   go_wp2
   go_meet
   exact ⟨_,rfl,by kernel_rfl,rfl⟩
 case rest =>
 obtain ⟨L1,rfl,hL1,rfl⟩ := hcut
 have zL1 : L1.size ≤ 4 := small9 hL1 (by cases p1 <;> decide)
 go_upto_if 25 with (fail)
 go_cut [7] (fun s7 wx => ∃ L : ByteArray,s7 = .string L ∧ L.toList = (if p1 then [105] else []) ++ (if p2 then [109] else []) ∧ wx = wc)
 case first =>
  cases p2
  ·have q : bits .and .i64 F 4 = 0 := by simpa using hp2
   go_wp2
   go_meet
   exact ⟨_,rfl,hL1.trans (by simp),rfl⟩
  ·have q : ¬ bits .and .i64 F 4 = 0 := by simpa using hp2
   go_wp2
   go_meet
   exact ⟨_,rfl,by rw [append_list9,hL1];first | rfl | kernel_rfl,rfl⟩
 case rest =>
 obtain ⟨L2,rfl,hL2,rfl⟩ := hcut
 have zL2 : L2.size ≤ 4 := small9 hL2 (by cases p1 <;> cases p2 <;> decide)
 go_upto_if 30 with (fail)
 go_cut [7] (fun s7 wx => ∃ L : ByteArray,s7 = .string L ∧ L.toList = (if p1 then [105] else []) ++ (if p2 then [109] else []) ++ (if p3 then [115] else []) ∧ wx = wc)
 case first =>
  cases p3
  ·have q : bits .and .i64 F 8 = 0 := by simpa using hp3
   go_wp2
   go_meet
   exact ⟨_,rfl,hL2.trans (by simp),rfl⟩
  ·have q : ¬ bits .and .i64 F 8 = 0 := by simpa using hp3
   go_wp2
   go_meet
   exact ⟨_,rfl,by rw [append_list9,hL2];first | rfl | kernel_rfl,rfl⟩
 case rest =>
 obtain ⟨L3,rfl,hL3,rfl⟩ := hcut
 have zL3 : L3.size ≤ 4 := small9 hL3 (by cases p1 <;> cases p2 <;> cases p3 <;> decide)
 go_upto_if 35 with (fail)
 go_cut [7] (fun s7 wx => ∃ L : ByteArray,s7 = .string L ∧ L.toList = (if p1 then [105] else []) ++ (if p2 then [109] else []) ++ (if p3 then [115] else []) ++ (if p4 then [85] else []) ∧ wx = wc)
 case first =>
  cases p4
  ·have q : bits .and .i64 F 16 = 0 := by simpa using hp4
   go_wp2
   go_meet
   exact ⟨_,rfl,hL3.trans (by simp),rfl⟩
  ·have q : ¬ bits .and .i64 F 16 = 0 := by simpa using hp4
   go_wp2
   go_meet
   exact ⟨_,rfl,by rw [append_list9,hL3];first | rfl | kernel_rfl,rfl⟩
 case rest =>
 obtain ⟨L4,rfl,hL4,rfl⟩ := hcut
 have zL4 : L4.size ≤ 4 := small9 hL4 (by cases p1 <;> cases p2 <;> cases p3 <;> cases p4 <;> decide)
 have hL5 : L4.toList = letB p1 p2 p3 p4 := hL4
 obtain ⟨t1,ht1⟩ : ∃ t1,(⟨#[40,63]⟩ : ByteArray) ++ L4 ++ ⟨#[41]⟩ ++ s = t1 := ⟨_,rfl⟩
 obtain ⟨t2,ht2⟩ : ∃ t2,(⟨#[40,63]⟩ : ByteArray) ++ L4 ++ ⟨#[58]⟩ ++ s ++ ⟨#[41,107]⟩ = t2 := ⟨_,rfl⟩
 have l1 : t1.toList = 40 :: 63 :: (letB p1 p2 p3 p4 ++ 41 :: (s.toList ++ [])) := by
  rw [← ht1]
  simp only [append_list9,hL5,show (⟨#[40,63]⟩ : ByteArray).toList = [40,63] by kernel_rfl,show (⟨#[41]⟩ : ByteArray).toList = [41] by kernel_rfl,List.append_assoc,List.cons_append,List.nil_append,List.append_nil]
 have l2 : t2.toList = 40 :: 63 :: (letB p1 p2 p3 p4 ++ 58 :: (s.toList ++ [41,107])) := by
  rw [← ht2]
  simp only [append_list9,hL5,show (⟨#[40,63]⟩ : ByteArray).toList = [40,63] by kernel_rfl,show (⟨#[58]⟩ : ByteArray).toList = [58] by kernel_rfl,show (⟨#[41,107]⟩ : ByteArray).toList = [41,107] by kernel_rfl,List.append_assoc,List.cons_append,List.nil_append]
 have z1 : t1.size ≤ s.size + 8 := by
  rw [← ht1]
  simp only [ByteArray.size_append]
  rw [show (⟨#[40,63]⟩ : ByteArray).size = 2 from rfl,show (⟨#[41]⟩ : ByteArray).size = 1 from rfl]
  omega
 have z2 : t2.size ≤ s.size + 10 := by
  rw [← ht2]
  simp only [ByteArray.size_append]
  rw [show (⟨#[40,63]⟩ : ByteArray).size = 2 from rfl,show (⟨#[58]⟩ : ByteArray).size = 1 from rfl,show (⟨#[41,107]⟩ : ByteArray).size = 2 from rfl]
  omega
 obtain ⟨G,hG⟩ : ∃ G,bits .or .i64 F 32 = G := ⟨_,rfl⟩
 have hfr := flags_read s t1 t2 p1 p2 p3 p4 l1 l2
 rw [← HM.out,hG] at hfr
 obtain ⟨Rx,hRx⟩ : ∃ R,parseY s G = R := ⟨_,rfl⟩
 obtain ⟨Ry,hRy⟩ : ∃ R,parseY t1 32 = R := ⟨_,rfl⟩
 obtain ⟨Rz,hRz⟩ : ∃ R,parseY t2 32 = R := ⟨_,rfl⟩
 rw [hRx,hRy,hRz] at hfr
 have HFR := Hd hfr
 have PX := Hd (fun W (h : TabsY W) => hRx ▸ told_any s G W (by omega) h)
 have PY := Hd (fun W (h : TabsY W) => hRy ▸ told_any t1 32 W (by omega) h)
 have PZ := Hd (fun W (h : TabsY W) => hRz ▸ told_any t2 32 W (by omega) h)
 have HG := Hd hG;have H1 := Hd ht1;have H2 := Hd ht2
 clear l1 l2 hfr hRx hRy hRz z1 z2 hG ht1 ht2 hL1 hL2 hL3 HM hp1 hp2 hp3 hp4 hL4 hL5
 go_wp2_with fail
 rw [HG.out]
 refine (PX.out _ (HT.out.below HB.out)).mono ?_
 rintro e w2 ⟨d0x,Ax,nx,cx,d2x,Bx,mx,ex,d4x,d5x,d6x,d7x,d8x,d9x,Ex,px,qx,rfl,hb,hR⟩
 obtain ⟨w3,hw⟩ : ∃ w3,(w2.alloc (.cells #[.int .i64 d0x,.slice Ax nx cx,.int .i32 d2x,.slice Bx mx ex,.int .i64 d4x,.int .i64 d5x,.string d6x,.int .i64 d7x,.int .i64 d8x,.bool d9x] 29)).alloc (.cells #[.int .i64 Ex,.int .i64 px,.int .i64 qx] 32) = w3 := ⟨_,rfl⟩
 obtain ⟨n1,n2,n3,n4⟩ := pair_new w2 #[.int .i64 d0x,.slice Ax nx cx,.int .i32 d2x,.slice Bx mx ex,.int .i64 d4x,.int .i64 d5x,.string d6x,.int .i64 d7x,.int .i64 d8x,.bool d9x] #[.int .i64 Ex,.int .i64 px,.int .i64 qx]
 rw [hw] at n1 n2 n3 n4
 have hR' : (Ex = 0 ∧ ∃ t,Rx = .tree t ∧ Tre w3 t (.agg #[.int .i64 d0x,.slice Ax nx cx,.int .i32 d2x,.slice Bx mx ex,.int .i64 d4x,.int .i64 d5x,.string d6x,.int .i64 d7x,.int .i64 d8x,.bool d9x])) ∨ (Ex ≠ 0 ∧ ∃ y z,Rx = .bad Ex y z) := hR.imp (fun ⟨g1,t,g2,g3⟩ => ⟨g1,t,g2,g3.below n3⟩) id
 have HW := Hd hw;have Tx := Hd n1;have Vx := Hd n2;have Zx := Hd n4;have Rx' := Hd hR';have Hx := Hd (hb.trans (n3.mono hb.size))
 replace HB := Hd (HB.out.trans ((hb.trans (n3.mono hb.size)).mono HB.out.size))
 clear hw n1 n2 n3 n4 hb hR hR' PX
 go_upto_region 13 with (fail)
 rw [HW.out]
 clear HW
 go_wp2_with fail
 rw [H1.out]
 refine (PY.out _ (HT.out.below HB.out)).mono ?_
 rintro e w4 ⟨d0y,Ay,ny,cy,d2y,By,my,ey,d4y,d5y,d6y,d7y,d8y,d9y,Ey,py,qy,rfl,hb,hR⟩
 obtain ⟨w5,hw⟩ : ∃ w5,(w4.alloc (.cells #[.int .i64 d0y,.slice Ay ny cy,.int .i32 d2y,.slice By my ey,.int .i64 d4y,.int .i64 d5y,.string d6y,.int .i64 d7y,.int .i64 d8y,.bool d9y] 29)).alloc (.cells #[.int .i64 Ey,.int .i64 py,.int .i64 qy] 32) = w5 := ⟨_,rfl⟩
 obtain ⟨n1,n2,n3,n4⟩ := pair_new w4 #[.int .i64 d0y,.slice Ay ny cy,.int .i32 d2y,.slice By my ey,.int .i64 d4y,.int .i64 d5y,.string d6y,.int .i64 d7y,.int .i64 d8y,.bool d9y] #[.int .i64 Ey,.int .i64 py,.int .i64 qy]
 rw [hw] at n1 n2 n3 n4
 have hR' : (Ey = 0 ∧ ∃ t,Ry = .tree t ∧ Tre w5 t (.agg #[.int .i64 d0y,.slice Ay ny cy,.int .i32 d2y,.slice By my ey,.int .i64 d4y,.int .i64 d5y,.string d6y,.int .i64 d7y,.int .i64 d8y,.bool d9y])) ∨ (Ey ≠ 0 ∧ ∃ y z,Ry = .bad Ey y z) := hR.imp (fun ⟨g1,t,g2,g3⟩ => ⟨g1,t,g2,g3.below n3⟩) id
 have HW := Hd hw;have Ty := Hd n1;have Vy := Hd n2;have Zy := Hd n4;have Ry' := Hd hR';have Hy := Hd (hb.trans (n3.mono hb.size))
 replace HB := Hd (HB.out.trans ((hb.trans (n3.mono hb.size)).mono HB.out.size))
 clear hw n1 n2 n3 n4 hb hR hR' PY
 go_upto_region 14 with (fail)
 rw [HW.out]
 clear HW
 go_wp2_with fail
 rw [H2.out]
 refine (PZ.out _ (HT.out.below HB.out)).mono ?_
 rintro e w6 ⟨d0z,Az,nz,cz,d2z,Bz,mz,ez,d4z,d5z,d6z,d7z,d8z,d9z,Ez,pz,qz,rfl,hb,hR⟩
 obtain ⟨w7,hw⟩ : ∃ w7,(w6.alloc (.cells #[.int .i64 d0z,.slice Az nz cz,.int .i32 d2z,.slice Bz mz ez,.int .i64 d4z,.int .i64 d5z,.string d6z,.int .i64 d7z,.int .i64 d8z,.bool d9z] 29)).alloc (.cells #[.int .i64 Ez,.int .i64 pz,.int .i64 qz] 32) = w7 := ⟨_,rfl⟩
 obtain ⟨n1,n2,n3,n4⟩ := pair_new w6 #[.int .i64 d0z,.slice Az nz cz,.int .i32 d2z,.slice Bz mz ez,.int .i64 d4z,.int .i64 d5z,.string d6z,.int .i64 d7z,.int .i64 d8z,.bool d9z] #[.int .i64 Ez,.int .i64 pz,.int .i64 qz]
 rw [hw] at n1 n2 n3 n4
 have hR' : (Ez = 0 ∧ ∃ t,Rz = .tree t ∧ Tre w7 t (.agg #[.int .i64 d0z,.slice Az nz cz,.int .i32 d2z,.slice Bz mz ez,.int .i64 d4z,.int .i64 d5z,.string d6z,.int .i64 d7z,.int .i64 d8z,.bool d9z])) ∨ (Ez ≠ 0 ∧ ∃ y z,Rz = .bad Ez y z) := hR.imp (fun ⟨g1,t,g2,g3⟩ => ⟨g1,t,g2,g3.below n3⟩) id
 have HW := Hd hw;have Tz := Hd n1;have Vz := Hd n2;have Zz := Hd n4;have Rz' := Hd hR';have Hz := Hd (hb.trans (n3.mono hb.size))
 replace HB := Hd (HB.out.trans ((hb.trans (n3.mono hb.size)).mono HB.out.size))
 clear hw n1 n2 n3 n4 hb hR hR' PZ
 go_upto_region 15 with (fail)
 rw [HW.out]
 clear HW
 have zx := Zx.out
 have zy := Zy.out
 have b37 := Hy.out.trans (Hz.out.mono Hy.out.size)
 have ux := Tx.out.below b37 (by omega)
 have vx := Vx.out.below b37 (by omega)
 have uy := Ty.out.below Hz.out (by omega)
 have vy := Vy.out.below Hz.out (by omega)
 have uz := Tz.out
 have vz := Vz.out
 have f1 : w7.cell? ⟨w2.heap.size + 1,0,none⟩ = some (.int .i64 Ex) := vx.cell 0
 have f2 : w7.cell? ⟨w4.heap.size + 1,0,none⟩ = some (.int .i64 Ey) := vy.cell 0
 have f3 : w7.cell? ⟨w6.heap.size + 1,0,none⟩ = some (.int .i64 Ez) := vz.cell 0
 have x0 : w7.cell? ⟨w2.heap.size,0,none⟩ = some (.int .i64 d0x) := ux.cell 0
 have x1 : w7.cell? ⟨w2.heap.size,1,none⟩ = some (.slice Ax nx cx) := ux.cell 1
 have x2 : w7.cell? ⟨w2.heap.size,2,none⟩ = some (.int .i32 d2x) := ux.cell 2
 have x3 : w7.cell? ⟨w2.heap.size,3,none⟩ = some (.slice Bx mx ex) := ux.cell 3
 have x4 : w7.cell? ⟨w2.heap.size,4,none⟩ = some (.int .i64 d4x) := ux.cell 4
 have x5 : w7.cell? ⟨w2.heap.size,5,none⟩ = some (.int .i64 d5x) := ux.cell 5
 have x6 : w7.cell? ⟨w2.heap.size,6,none⟩ = some (.string d6x) := ux.cell 6
 have x7 : w7.cell? ⟨w2.heap.size,7,none⟩ = some (.int .i64 d7x) := ux.cell 7
 have x8 : w7.cell? ⟨w2.heap.size,8,none⟩ = some (.int .i64 d8x) := ux.cell 8
 have x9 : w7.cell? ⟨w2.heap.size,9,none⟩ = some (.bool d9x) := ux.cell 9
 have y0 : w7.cell? ⟨w4.heap.size,0,none⟩ = some (.int .i64 d0y) := uy.cell 0
 have y1 : w7.cell? ⟨w4.heap.size,1,none⟩ = some (.slice Ay ny cy) := uy.cell 1
 have y2 : w7.cell? ⟨w4.heap.size,2,none⟩ = some (.int .i32 d2y) := uy.cell 2
 have y3 : w7.cell? ⟨w4.heap.size,3,none⟩ = some (.slice By my ey) := uy.cell 3
 have y4 : w7.cell? ⟨w4.heap.size,4,none⟩ = some (.int .i64 d4y) := uy.cell 4
 have y5 : w7.cell? ⟨w4.heap.size,5,none⟩ = some (.int .i64 d5y) := uy.cell 5
 have y6 : w7.cell? ⟨w4.heap.size,6,none⟩ = some (.string d6y) := uy.cell 6
 have y7 : w7.cell? ⟨w4.heap.size,7,none⟩ = some (.int .i64 d7y) := uy.cell 7
 have y8 : w7.cell? ⟨w4.heap.size,8,none⟩ = some (.int .i64 d8y) := uy.cell 8
 have y9 : w7.cell? ⟨w4.heap.size,9,none⟩ = some (.bool d9y) := uy.cell 9
 have k0 : w7.cell? ⟨w6.heap.size,0,none⟩ = some (.int .i64 d0z) := uz.cell 0
 have k1 : w7.cell? ⟨w6.heap.size,1,none⟩ = some (.slice Az nz cz) := uz.cell 1
 have HB7 := Hd b37
 clear zx zy b37 ux vx uy vy uz vz Tx Vx Ty Vy Tz Vz
 by_cases hE1 : Ex = 0
 case neg =>
  have ey : ¬ Ey = 0 := fun g => by
   have h1 := Rx'.out.resolve_left fun q => hE1 q.1
   obtain ⟨-,a,b,h1⟩ := h1
   obtain ⟨c0,x0,z0,h2⟩ := HFR.out.1 ⟨_,_,_,h1⟩
   rcases Ry'.out with ⟨-,t,h3,-⟩ | ⟨h3,-⟩
   ·rw [h2] at h3
    cases h3
   ·exact h3 g
  have eyy : (Ey != 0) = true := by simpa using ey
  go_wp2_with fail
  go_ret
  exact ⟨rfl,HB.out⟩
 case pos =>
  subst hE1
  obtain ⟨T,hT1,hT2⟩ : ∃ T,Rx = .tree T ∧ Tre w3 T (.agg #[.int .i64 d0x,.slice Ax nx cx,.int .i32 d2x,.slice Bx mx ex,.int .i64 d4x,.int .i64 d5x,.string d6x,.int .i64 d7x,.int .i64 d8x,.bool d9x]) := by
   rcases Rx'.out with ⟨-,t,h1,h2⟩ | ⟨h1,-⟩
   ·exact ⟨t,h1,h2⟩
   ·exact absurd rfl h1
  have HTX := Hd hT2
  by_cases h9 : 900 < s.size
  ·go_wp2_with fail
   go_ret
   exact ⟨rfl,HB.out⟩
  by_cases hn9 : 900 < nx
  ·go_wp2_with fail
   go_ret
   exact ⟨rfl,HB.out⟩
  obtain ⟨g1,g2⟩ := HFR.out.2 T hT1 (by omega)
  have hey : Ey = 0 ∧ Tre w5 T (.agg #[.int .i64 d0y,.slice Ay ny cy,.int .i32 d2y,.slice By my ey,.int .i64 d4y,.int .i64 d5y,.string d6y,.int .i64 d7y,.int .i64 d8y,.bool d9y]) := by
   rcases Ry'.out with ⟨h0,t,h1,h2⟩ | ⟨-,a,b,h1⟩
   ·rw [g1] at h1
    cases h1
    exact ⟨h0,h2⟩
   ·rw [g1] at h1
    cases h1
  obtain ⟨rfl,hT3⟩ := hey
  have HSM := Hd (fun W (h : Below w7.heap.size w7 W) => same_any T T _ _ W ((hT2.below HB7.out).below h) ((hT3.below Hz.out).below h))
  have G2 := Hd g2
  clear hT1 hT2 hT3 g1 g2 HFR Rx' Ry'
  go_wp2_with fail
  refine (HSM.out _ (by first | exact Below.refl _ w7 | exact (Below.refl _ w7).drew)).mono ?_
  rintro e w8 ⟨B,rfl,hq,hb⟩
  obtain rfl := (show true = B from (hq.2 (by first | trivial | rfl)).symm)
  have HB8 := Hd (HB.out.trans (hb.mono HB.out.size))
  have j1 := (hb.cell (p := ⟨w6.heap.size + 1,0,none⟩) (World.block_lt_of_cell? w7 _ f3)).trans f3
  have j2 := (hb.cell (p := ⟨w6.heap.size,0,none⟩) (World.block_lt_of_cell? w7 _ k0)).trans k0
  have j3 := (hb.cell (p := ⟨w6.heap.size,1,none⟩) (World.block_lt_of_cell? w7 _ k1)).trans k1
  clear hq HSM
  by_cases hE3 : Ez = 0
  ·subst hE3
   have hT3 : Tre w7 (.mk (fldY 11) [T,runeY 107]) (.agg #[.int .i64 d0z,.slice Az nz cz,.int .i32 d2z,.slice Bz mz ez,.int .i64 d4z,.int .i64 d5z,.string d6z,.int .i64 d7z,.int .i64 d8z,.bool d9z]) := by
    rcases Rz'.out with ⟨-,t,h1,h2⟩ | ⟨h1,-⟩
    ·rcases G2.out with ⟨c0,x0,z0,h3,-⟩ | h3
     ·rw [h3] at h1
      cases h1
     ·rw [h3] at h1
      cases h1
      exact h2
    ·exact absurd rfl h1
   obtain ⟨A,n,c,a2,m,c2,hn,hm,hv,-,-,hK,-,-⟩ := hT3.opened
   have v0 : Value.int .i64 d0z = .int .i64 11 := Option.some.inj (congrArg (fun v => match v with | Value.agg cs => cs[0]? | _ => none) hv)
   have v1 : Value.slice Az nz cz = .slice A n c := Option.some.inj (congrArg (fun v => match v with | Value.agg cs => cs[1]? | _ => none) hv)
   obtain rfl : d0z = 11 := by injection v0
   obtain ⟨rfl,rfl,rfl⟩ : Az = A ∧ nz = n ∧ cz = c := by
    injection v1 with q1 q2 q3
    exact ⟨q1,q2,q3⟩
   obtain rfl : nz = 2 := hn.symm
   obtain ⟨b,o,rfl,-,kv,sv,hc,-⟩ := hK.at' 1 (show 1 < 2 by decide)
   have i0 : w7.cell? ⟨b,o + 1 * 10 + 0,none⟩ = some (.int .i64 3) := hc 0 (by rw [treC_size];decide)
   have i2 : w7.cell? ⟨b,o + 1 * 10 + 2,none⟩ = some (.int .i32 107) := hc 2 (by rw [treC_size];decide)
   have j4 := (hb.cell (p := ⟨b,o + 1 * 10 + 0,none⟩) (World.block_lt_of_cell? w7 _ i0)).trans i0
   have j5 := (hb.cell (p := ⟨b,o + 1 * 10 + 2,none⟩) (World.block_lt_of_cell? w7 _ i2)).trans i2
   simp only [Nat.one_mul,Nat.add_zero] at j4 j5
   clear hT3 hn hm hv hK hc v0 v1 i0 i2 hb
   go_wp2_with fail
   go_ret
   exact ⟨rfl,HB8.out⟩
  ·have hz : Ez = 84 ∨ Ez = 86 ∨ Ez = 87 := by
    rcases Rz'.out with ⟨h1,-⟩ | ⟨-,a,b,h1⟩
    ·exact absurd h1 hE3
    ·rcases G2.out with ⟨c0,x0,z0,h3,h4⟩ | h3
     ·rw [h3] at h1
      cases h1
      exact h4
     ·rw [h3] at h1
      cases h1
   clear hb Rz'
   rcases hz with rfl | rfl | rfl
   all_goals
    go_wp2_with fail
    go_ret
    exact ⟨rfl,HB8.out⟩
end Go.Proofs.YthnddabcmhplkaaGreatDoor
