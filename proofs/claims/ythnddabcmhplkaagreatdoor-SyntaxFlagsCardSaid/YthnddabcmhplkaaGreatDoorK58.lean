/- Texts merged by program. No condition. -/
import Derived.Shelf.Unicode.ValidAny
import Derived.Test.YthnddabcmhplkaaGreatDoorK52
import Derived.Test.YthnddabcmhplkaaGreatDoorK56
set_option maxHeartbeats 6400000
set_option maxRecDepth 100000
namespace Go.Proofs
open Go.Shelf
def Tryz.validR_ren : Go.Shelf.Ren := ⟨fun | 196 => 11 | 259 => 18 | n => n,fun | 9 => 9 | 4 => 4 | 3 => 3 | 5 => 5 | 12 => 12 | 119 => 53 | 0 => 0 | 46 => 57 | 139 => 56 | 138 => 55 | 53 => 62 | n => n,fun | 3 => 0 | 4 => 1 | n => n⟩
theorem Tryz.validR : Go.Proofs.Lays.n196 Tryz.prog Tryz.validR_ren := {
 mixed := by kernel_rfl
 f196 := Tryz.func11.trans (congrArg some (by kernel_rfl))
 f259 := Tryz.func18.trans (congrArg some (by kernel_rfl))
 t0 := Tryz.underlying0
 a0 := Tryz.isAgg0
 z0 := Tryz.sizeOf0
 v0 := Tryz.zeroValue0
 t3 := Tryz.underlying3
 a3 := Tryz.isAgg3
 z3 := Tryz.sizeOf3
 v3 := Tryz.zeroValue3
 t4 := Tryz.underlying4
 a4 := Tryz.isAgg4
 z4 := Tryz.sizeOf4
 v4 := Tryz.zeroValue4
 t5 := Tryz.underlying5
 a5 := Tryz.isAgg5
 z5 := Tryz.sizeOf5
 v5 := Tryz.zeroValue5
 t9 := Tryz.underlying9
 a9 := Tryz.isAgg9
 z9 := Tryz.sizeOf9
 v9 := Tryz.zeroValue9
 t12 := Tryz.underlying12
 a12 := Tryz.isAgg12
 z12 := Tryz.sizeOf12
 v12 := Tryz.zeroValue12
 t46 := Tryz.underlying57
 a46 := Tryz.isAgg57
 z46 := Tryz.sizeOf57
 v46 := Tryz.zeroValue57
 t53 := Tryz.underlying62
 a53 := Tryz.isAgg62
 z53 := Tryz.sizeOf62
 v53 := Tryz.zeroValue62
 t119 := Tryz.underlying53
 a119 := Tryz.isAgg53
 z119 := Tryz.sizeOf53
 t138 := Tryz.underlying55
 a138 := Tryz.isAgg55
 z138 := Tryz.sizeOf55
 v138 := Tryz.zeroValue55
 t139 := Tryz.underlying56
 a139 := Tryz.isAgg56
 z139 := Tryz.sizeOf56
 v139 := Tryz.zeroValue56
 g3 := by kernel_rfl
 g4 := by kernel_rfl }
end Go.Proofs
set_option linter.unusedVariables false
namespace Go.Proofs.YthnddabcmhplkaaGreatDoor
open Go Go.RowKit
theorem pyvalid_any (s : ByteArray) (w : World) (hs : s.size ≤ 4503599627370496) (hT : TabsY w) : Calls Tryz.prog 11 #[.string s] w fun e w' => e = .returned (.bool (Lib.validD s.data.toList)) ∧ Below w.heap.size w w' :=
 Any.utf8_ValidString Tryz.validR s w (by omega) hT.utf8
def admitC (s : ByteArray) (f : Int) : Option Int := if f < 0 ∨ 63 < f then some 1 else if 1024 < s.size then some 2 else if Lib.validD s.data.toList = false then some 81 else none
def AdmitPost (R : Option Int) (w : World) (e : Ending) (w' : World) : Prop := Below w.heap.size w w' ∧ match R with
 | some c => e = thrown (.iface 30 (.int .i64 c))
 | none => e = .returned (.tuple #[])
theorem pyadmit_any (q : Nat) (f : Int) (s : ByteArray) (j : Nat) (nv : Value) (w : World) (hs : s.size ≤ 4503599627370496) (hT : TabsY w) (h : SrIn w q f s j nv) :
  Calls Tryz.prog 8 #[.pointer (some ⟨q,0,none⟩)] w (AdmitPost (admitC s f) w) := by
 have HV := Hd (pyvalid_any s w hs hT)
 obtain ⟨R,hR⟩ : ∃ R,admitC s f = R := ⟨_,rfl⟩
 rw [hR]
 unfold admitC at hR
 obtain ⟨V,hV⟩ : ∃ V,Lib.validD s.data.toList = V := ⟨_,rfl⟩
 rw [hV] at HV hR
 have HR := Hd hR
 obtain ⟨c0,c1,c2,c3⟩ := h.cells
 clear hT hR hV c2 c3 h
 by_cases h0 : f < 0
 ·have b0 : decide (f < 0) = true := decide_eq_true h0
  have HE : Hid (R = some 1) := Hd (by rw [← HR.out,if_pos (.inl h0)])
  clear h0 HR
  go_enter Tryz.func8,Tryz.ntmps8
  go_wp2
  rw [HE.out]
  exact ⟨rfl,Below.refl _ _,rfl⟩
 have b0 : decide (f < 0) = false := decide_eq_false h0
 by_cases h1 : 63 < f
 ·have b1 : decide (63 < f) = true := decide_eq_true h1
  have HE : Hid (R = some 1) := Hd (by rw [← HR.out,if_pos (.inr h1)])
  clear h0 h1 HR
  go_enter Tryz.func8,Tryz.ntmps8
  go_wp2
  rw [HE.out]
  exact ⟨rfl,Below.refl _ _,rfl⟩
 have b1 : decide (63 < f) = false := decide_eq_false h1
 have HR1 : Hid ((if 1024 < s.size then some 2 else if V = false then some 81 else none) = R) := Hd (by rw [← HR.out,if_neg (show ¬ (f < 0 ∨ 63 < f) by omega)])
 clear HR h0 h1
 by_cases h2 : 1024 < s.size
 ·have HE : Hid (R = some 2) := Hd (by rw [← HR1.out,if_pos h2])
  clear HR1
  go_enter Tryz.func8,Tryz.ntmps8
  go_wp2
  rw [HE.out]
  exact ⟨rfl,Below.refl _ _,rfl⟩
 have HR2 : Hid ((if V = false then some 81 else none) = R) := Hd (by rw [← HR1.out,if_neg h2])
 clear HR1
 cases V
 ·have HE : Hid (R = some 81) := Hd HR2.out.symm
  clear HR2
  go_enter Tryz.func8,Tryz.ntmps8
  go_wp2_with fail
  refine HV.out.mono ?_
  rintro e w2 ⟨rfl,hb⟩
  have HB := Hd hb
  clear hb
  go_wp2
  rw [HE.out]
  exact ⟨rfl,HB.out,rfl⟩
 ·have HE : Hid (R = none) := Hd HR2.out.symm
  clear HR2
  go_enter Tryz.func8,Tryz.ntmps8
  go_wp2_with fail
  refine HV.out.mono ?_
  rintro e w2 ⟨rfl,hb⟩
  have HB := Hd hb
  clear hb
  go_wp2
  go_end0
  rw [HE.out]
  exact ⟨HB.out,rfl⟩
def allY (s : ByteArray) (f : Int) : ParseR :=
 if flagY f 2 = true then boundY s (catY (litY s (flagY f 1) s.size 0)) else
 match partsY s (roundsY s) 0 f [] [] with
 | .bad c a b => .bad c a b
 | .ok l i _ _ => if i < s.size then .bad 84 0 s.size else boundY s (altY l)
theorem parse_all (s : ByteArray) (f : Int) : parseY s f = match admitC s f with
  | some c => .bad c 0 s.size
  | none => allY s f := by
 unfold parseY admitC
 rw [Lib.toList_data]
 split
 ·rfl
 ·split
  ·rfl
  ·split
   ·rfl
   ·rfl
def AllPost (B : Nat) (s : ByteArray) (R : ParseR) (w : World) (e : Ending) (w' : World) : Prop := Below B w w' ∧ match R with
 | .tree t => ∃ v,e = .returned v ∧ TreF (fun b => w.heap.size ≤ b) w' t v
 | .bad c a b => Thrown s c a b e
theorem lit_leaves (s : ByteArray) (fold : Bool) : ∀ n i : Nat,∀ x ∈ litY s fold n i,∃ d : Fld,x = .mk d [] ∧ d.op ≤ 5
 | 0,_,x,h => by cases h
 | n + 1,i,x,h => by
  rw [litY] at h
  split at h
  ·cases h
  ·rcases List.mem_cons.1 h with rfl | h
   ·exact atom_leaf _ _
   ·exact lit_leaves s fold n _ x h
theorem text_kds {w : World} {lo : Nat} {v : Value} {L : List Tr} (h : OwnT (fun k => lo ≤ k) w lo v L) (hn : L.length ≤ 1024) : KdsF (fun b => lo ≤ b ∧ b < w.heap.size) w L v := by
 have hk : ∀ b,v.ownBlock = some b → lo ≤ b := fun b hb => by
  obtain ⟨L',hl,ho,ht⟩ := h
  exact (ho.lt b hb).1
 exact (h.kdsG (G := fun b => lo ≤ b) (by omega) hk fun b hb => hb).same (fun _ _ _ => rfl) fun b hb hl => ⟨hb,hl⟩
theorem pytakeAll_any (B q : Nat) (s : ByteArray) (f : Int) (w : World) (hs : s.size ≤ 1024) (hf : FlagsIn f) (h : SrSt w B q f s 0 (.slice none 0 0) []) (hT : TabB B w) (hB : B ≤ w.heap.size) (hqB : B ≤ q) :
  Calls Tryz.prog 9 #[.pointer (some ⟨q,0,none⟩)] w (AllPost B s (allY s f) w) := by
 obtain ⟨R,hR⟩ : ∃ R,allY s f = R := ⟨_,rfl⟩
 rw [hR]
 unfold allY at hR
 obtain ⟨w1,hw1⟩ : ∃ w1,w.alloc (.cells #[.int .i64 0,.slice none 0 0,.int .i32 0,.slice none 0 0,.int .i64 0,.int .i64 0,.string ⟨#[]⟩,.int .i64 0,.int .i64 0,.bool false] 29) = w1 := ⟨_,rfl⟩
 obtain ⟨hE1,hb1,hs1⟩ := box_tree w #[.int .i64 0,.slice none 0 0,.int .i32 0,.slice none 0 0,.int .i64 0,.int .i64 0,.string ⟨#[]⟩,.int .i64 0,.int .i64 0,.bool false]
 rw [hw1] at hE1 hb1 hs1
 have HW1 := Hd hw1;have HE1 := Hd hE1;have HS1 := Hd hs1;have HB1 := Hd hb1;have HWT1 := Hd (Went.of_took h (Tk.of_below h.rd hb1));have HH := Hd h;have HT := Hd hT;have HF := Hd hf;have HS := Hd hs;have HR := Hd hR;have HT1 := Hd (hT.below hB hb1);have HQ := Hd h.rd.lt
 have HHAS := Hd (fun W => pyhas_any f 2 W)
 clear hw1 hE1 hb1 hs1 h hT hf hs hR
 obtain ⟨c0,c1,c2,c3⟩ := HWT1.out.st.rd.cells
 clear c1 c2 c3
 go_enter Tryz.func9,Tryz.ntmps9
 go_upto_region 1 with (fail)
 rw [HW1.out]
 by_cases h2 : flagY f 2 = true
 ·
  rw [h2] at HHAS
  have HRX : Hid (R = .tree (catY (litY s (flagY f 1) s.size 0))) := Hd (by rw [← HR.out,if_pos h2];exact cat_bound s _ (lit_leaves s _ _ _) (Nat.le_trans (lit_len s _ _ _) HS.out))
  clear HR h2
  obtain ⟨L,hL⟩ : ∃ L,litY s (flagY f 1) s.size 0 = L := ⟨_,rfl⟩
  rw [hL] at HRX
  have HTX := Hd (fun W hT => pytext_any f s W (by have := HS.out;omega) hT)
  rw [hL] at HTX
  have HLEN := Hd (show L.length ≤ 1024 by rw [← hL];exact Nat.le_trans (lit_len s _ _ _) HS.out)
  clear hL
  go_wp2_with fail
  refine (HHAS.out _).mono ?_
  rintro e w2 ⟨rfl,hb2⟩
  have HWT2 := Hd (HWT1.out.below hb2);have HE2 := Hd (HE1.out.below hb2 HE1.out.lt);have HTB2 := Hd (HT1.out.below (Nat.le_trans hB HB1.out.size) hb2);have HB2 := Hd (HB1.out.trans (hb2.mono HB1.out.size))
  clear c0 hb2 HHAS
  obtain ⟨c0,c1,c2,c3⟩ := HWT2.out.st.rd.cells
  clear c2 c3
  go_wp2_with fail
  go_region_with (first
   | (go_at_call 14;refine (HTX.out _ (HTB2.out.below (Nat.le_trans hB HB2.out.size) (Below.refl _ _).drew).now.1.2).mono ?_;rintro e w3 ⟨v3,rfl,ho3,hb3⟩;have hk3 := text_kds ho3 HLEN.out;obtain ⟨A3,cA3,hv3,-⟩ := hk3;subst hv3)
   | (go_at_call 13;refine (pyjoined_any 11 (by decide) _ L _ _ (fun b hb => hb.2) (text_kds ho3 HLEN.out)).mono ?_;rintro e w4 ⟨v4,rfl,ht4,hb4⟩;obtain ⟨kv,sv,rfl,⟨y1,y2,y3,rfl⟩,⟨y4,y5,y6,rfl⟩⟩ := ht4.ten;have HE4 := Hd ((HE2.out.below hb3.of_drew HE2.out.lt).below hb4 (Nat.lt_of_lt_of_le HE2.out.lt hb3.of_drew.size));obtain ⟨r0,r1,r2,r3,r4,r5,r6,r7,r8,r9⟩ := HE4.out.ten;obtain ⟨z0,z1,z2,z3,z4,z5,z6,z7,z8,z9⟩ := whole_free HE4.out))
  all_goals
   have HZ := Hd (show Below B w w4 from ((HB2.out.trans (hb3.of_drew.mono HB2.out.size)).trans (hb4.mono (by have := hb3.of_drew.size;have := HB2.out.size;omega))).mono hB)
   have HT4 := Hd (show TreF (fun b => w.heap.size ≤ b ∧ b ≠ w.heap.size) w4 (joinY 11 L) _ from ht4.same (fun _ _ _ => rfl) fun b hb _ => by have h := hb.1;have := HE2.out.lt;have e : w2.drew.heap.size = w2.heap.size := rfl;omega)
   clear hb3 hb4 ht4 ho3 HTX HTB2
   go_wp2_with fail
   refine treeV_ret Tryz.results9 w.heap.size rfl HE4.out ?_
   rw [HRX.out,← join_cat]
   refine ⟨set10_below HZ.out hB _ _ _ _ _ _ _ _ _ _,_,rfl,?_⟩
   exact (treF_set10 HT4.out (fun k hk => hk.2) _ _ _ _ _ _ _ _ _ _).same (fun _ _ _ => rfl) (fun k hk _ => hk.1)
 ·have h2' : flagY f 2 = false := by simpa using h2
  rw [h2'] at HHAS
  have HRX : Hid ((match partsY s (roundsY s) 0 f [] [] with
   | .bad c a b => ParseR.bad c a b
   | .ok l i _ _ => if i < s.size then .bad 84 0 s.size else boundY s (altY l)) = R) := Hd (by rw [← HR.out,if_neg h2])
  have hmore := (read_more s (roundsY s)).1 0 f [] [] (Nat.zero_le _) HF.out
  have HPA := Hd (fun W (h1 : SrSt W B q f s 0 (.slice none 0 0) []) h2 h3 => pyall_any B q s HS.out s.size (roundsY s) 0 (Nat.zero_le _) (by omega) (by unfold roundsY;omega) f [] (.slice none 0 0) W HF.out (Nat.le_refl _) h1 h2 h3 hqB)
  obtain ⟨Q,hQ⟩ : ∃ Q,partsY s (roundsY s) 0 f [] [] = Q := ⟨_,rfl⟩
  rw [hQ] at HRX HPA hmore
  have HMORE := Hd hmore
  clear hQ hmore h2 h2' HR
  go_wp2_with fail
  refine (HHAS.out _).mono ?_
  rintro e w2 ⟨rfl,hb2⟩
  have HWT2 := Hd (HWT1.out.below hb2);have HE2 := Hd (HE1.out.below hb2 HE1.out.lt);have HTB2 := Hd (HT1.out.below (Nat.le_trans hB HB1.out.size) hb2);have HB2 := Hd (HB1.out.trans (hb2.mono HB1.out.size))
  clear c0 hb2 HHAS
  have HPP := Hd (HPA.out w2 HWT2.out.st HTB2.out (Nat.le_trans hB HB2.out.size))
  clear HPA
  go_wp2_with fail
  refine HPP.out.mono ?_
  intro e w3 hp
  cases Q with
  | bad c a b =>
   have HRR : Hid (R = .bad c a b) := Hd HRX.out.symm
   have hp2 := TreePost.from HWT2.out hp
   obtain ⟨he,hst⟩ := hp2
   have HY := Hd (show Below B w w3 from hst.below (Below.refl B w) hB hqB (fun b hb => by simp [Value.ownBlock] at hb))
   clear hp hst
   rcases he with he | ⟨ha,hb,he⟩
   ·unfold thrown at he
    subst he
    go_wp2
    refine ⟨rfl,?_⟩
    rw [HRR.out]
    exact ⟨HY.out,.inl rfl⟩
   ·have HAB := Hd (And.intro ha hb)
    clear ha hb
    unfold thrown at he
    subst he
    go_wp2
    refine ⟨rfl,?_⟩
    rw [HRR.out]
    exact ⟨HY.out,.inr ⟨HAB.out.1,HAB.out.2,rfl⟩⟩
  | ok l0 i0 f0 ns0 =>
   obtain ⟨y1,y2,y3,y4,y5,y6,nv0,rfl,ht3,hw3⟩ := TreePost.ten hp
   obtain ⟨m1,m2,m3,m4,m5,m6⟩ := HMORE.out
   have HR0 : Hid ((if i0 < s.size then ParseR.bad 84 0 s.size else boundY s (altY l0)) = R) := Hd HRX.out
   have hparts : partsR (altY l0) ≤ 10000000000 := by
    have h1 := altY_parts l0
    have h2 := HS.out
    rw [PK_is,sumP_nil] at m4
    have : (i0 - 0) * 1114120 ≤ 1024 * 1114120 := Nat.mul_le_mul_right _ (by omega)
    omega
   obtain ⟨t,ht⟩ : ∃ t,altY l0 = t := ⟨_,rfl⟩
   rw [ht] at ht3 HR0 hparts ⊢
   have HWT3 := Hd (HWT2.out.trans hw3);have HE3 := Hd (hw3.steps.whole HE2.out (HWT2.out.st.fr (Whole.kind HE2.out) (by decide) (by decide)))
   have HT3 := Hd (ht3.same (G := fun b => w2.heap.size ≤ b ∧ b < w3.heap.size) (fun _ _ _ => rfl) fun b hb hl => ⟨hb.1,hl⟩)
   have HPT := Hd hparts;have HI := Hd m2;have HL2 := Hd (show w.heap.size < w2.heap.size from HE2.out.lt);have HL3 := Hd (show w2.heap.size ≤ w3.heap.size from hw3.steps.size)
   clear hp ht3 hw3 ht m1 m2 m3 m4 m5 m6 HMORE HRX HPP hparts
   obtain ⟨w4,hw4⟩ : ∃ w4,w3.alloc (.cells #[.int .i64 0,.slice none 0 0,.int .i32 0,.slice none 0 0,.int .i64 0,.int .i64 0,.string ⟨#[]⟩,.int .i64 0,.int .i64 0,.bool false] 29) = w4 := ⟨_,rfl⟩
   obtain ⟨hX4,hb4,hs4⟩ := box_tree w3 #[.int .i64 0,.slice none 0 0,.int .i32 0,.slice none 0 0,.int .i64 0,.int .i64 0,.string ⟨#[]⟩,.int .i64 0,.int .i64 0,.bool false]
   rw [hw4] at hX4 hb4 hs4
   obtain ⟨r0,r1,r2,r3,r4,r5,r6,r7,r8,r9⟩ := hX4.ten
   obtain ⟨z0,z1,z2,z3,z4,z5,z6,z7,z8,z9⟩ := whole_free hX4
   have HX4 := Hd hX4;have HB4 := Hd hb4;have HS4 := Hd hs4
   clear hX4 hb4 hs4
   go_upto_region 4 with (fail)
   clear r0 r1 r2 r3 r4 r5 r6 r7 r8 r9 z0 z1 z2 z3 z4 z5 z6 z7 z8 z9 hw4
   obtain ⟨w5,hw5⟩ : ∃ w5,set10 w4 w3.heap.size (.int .i64 t.fld.op) (.slice y1 y2 y3) (.int .i32 t.fld.rune) (.slice y4 y5 y6) (.int .i64 t.fld.at') (.int .i64 t.fld.cap) (.string t.fld.name) (.int .i64 t.fld.min) (.int .i64 t.fld.max) (.bool t.fld.lazy) = w5 := ⟨_,rfl⟩
   have HWT5 := Hd (show Went B q s (.slice none 0 0) w w5 f0 i0 ns0 nv0 by rw [← hw5];exact (HWT3.out.below HB4.out).setTen (by have := HL2.out;have := HL3.out;omega) (HWT3.out.st.free (Nat.le_refl _)) _ _ _ _ _ _ _ _ _ _)
   have HX5 := Hd (show Whole w5 w3.heap.size 29 #[.int .i64 t.fld.op,.slice y1 y2 y3,.int .i32 t.fld.rune,.slice y4 y5 y6,.int .i64 t.fld.at',.int .i64 t.fld.cap,.string t.fld.name,.int .i64 t.fld.min,.int .i64 t.fld.max,.bool t.fld.lazy] by rw [← hw5];exact set10_whole HX4.out _ _ _ _ _ _ _ _ _ _)
   have HE5 := Hd (show Whole w5 w.heap.size 29 #[.int .i64 0,.slice none 0 0,.int .i32 0,.slice none 0 0,.int .i64 0,.int .i64 0,.string ⟨#[]⟩,.int .i64 0,.int .i64 0,.bool false] by rw [← hw5];exact (set10_same w4 w3.heap.size _ _ _ _ _ _ _ _ _ _ w.heap.size (by have := HL2.out;have := HL3.out;omega) (by have := HL2.out;have := HL3.out;have := HS4.out;omega)).trans (HE3.out.below HB4.out HE3.out.lt))
   have HT5 := Hd (show TreF (fun b => w2.heap.size ≤ b ∧ b < w3.heap.size) w5 t (.agg #[.int .i64 t.fld.op,.slice y1 y2 y3,.int .i32 t.fld.rune,.slice y4 y5 y6,.int .i64 t.fld.at',.int .i64 t.fld.cap,.string t.fld.name,.int .i64 t.fld.min,.int .i64 t.fld.max,.bool t.fld.lazy]) by rw [← hw5];exact treF_set10 (HT3.out.same (same_below HB4.out) fun b hb _ => hb) (fun k hk => by have := hk.2;omega) _ _ _ _ _ _ _ _ _ _)
   have HBB5 := Hd (show Below B w w5 from HWT5.out.steps.below (Below.refl B w) hB hqB (fun b hb => by simp [Value.ownBlock] at hb))
   unfold set10 at hw5
   rw [hw5]
   clear hw5 HX4 HB4 HS4 HE3 HT3 HWT3
   obtain ⟨c0,c1,c2,c3⟩ := HWT5.out.st.rd.cells
   clear c0 c3
   by_cases h3 : i0 < s.size
   ·have HRR : Hid (R = .bad 84 0 s.size) := Hd (by rw [← HR0.out,if_pos h3])
    clear HR0
    go_wp2_with fail
    go_big_quiet (fail)
    go_wp2
    rw [HRR.out]
    exact ⟨rfl,HBB5.out.trans ((below_draws w5 _).mono (Nat.le_trans hB HWT5.out.steps.size)),.inr ⟨rfl,rfl,rfl⟩⟩
   ·have HRR : Hid (boundY s t = R) := Hd (by rw [← HR0.out,if_neg h3])
    clear HR0
    go_wp2_with fail
    go_big_quiet (fail)
    obtain ⟨w6,hw6⟩ : ∃ w6,w5.drewN nq = w6 := ⟨_,rfl⟩
    have hb6 : Below w5.heap.size w5 w6 := by rw [← hw6];exact below_draws w5 nq
    rw [hw6]
    have HX6 := Hd (HX5.out.below hb6 HX5.out.lt);have HE6 := Hd (HE5.out.below hb6 HE5.out.lt);have HT6 := Hd (HT5.out.same (same_below hb6) fun b hb _ => hb);have HBB6 := Hd (HBB5.out.trans (hb6.mono (Nat.le_trans hB HWT5.out.steps.size)));have HS6 := Hd (Nat.le_trans HWT5.out.steps.size hb6.size)
    clear hw6 hb6 c1 c2 h3
    have HD := Hd (pdepth_any t HPT.out _ w6 HT6.out.tre)
    unfold boundY at HRR
    obtain ⟨D,hD⟩ : ∃ D,depthR t = D := ⟨_,rfl⟩
    rw [hD] at HD HRR
    clear hD
    obtain ⟨r0,r1,r2,r3,r4,r5,r6,r7,r8,r9⟩ := HX6.out.ten
    go_wp2_with fail
    refine HD.out.mono ?_
    rintro e w7 ⟨rfl,hb7⟩
    have HX7 := Hd (HX6.out.below hb7 HX6.out.lt);have HE7 := Hd (HE6.out.below hb7 HE6.out.lt);have HT7 := Hd (HT6.out.same (same_below hb7) fun b hb _ => hb);have HBB7 := Hd (HBB6.out.trans (hb7.mono (Nat.le_trans hB HS6.out)));have HS7 := Hd (Nat.le_trans HS6.out hb7.size)
    clear hb7 r0 r1 r2 r3 r4 r5 r6 r7 r8 r9
    by_cases hd : 50 < D
    ·have HRE : Hid (R = .bad 86 0 s.size) := Hd (by rw [← HRR.out,if_pos hd])
     clear HRR
     go_wp2
     rw [HRE.out]
     exact ⟨rfl,HBB7.out,.inr ⟨rfl,rfl,rfl⟩⟩
    have HRD : Hid ((if 4000 < weightR t then ParseR.bad 87 0 s.size else .tree t) = R) := Hd (by rw [← HRR.out,if_neg hd])
    clear HRR
    have HG := Hd (pweight_any t HPT.out _ w7 HT7.out.tre)
    obtain ⟨G,hG⟩ : ∃ G,weightR t = G := ⟨_,rfl⟩
    rw [hG] at HG HRD
    clear hG
    obtain ⟨r0,r1,r2,r3,r4,r5,r6,r7,r8,r9⟩ := HX7.out.ten
    go_wp2_with fail
    refine HG.out.mono ?_
    rintro e w8 ⟨rfl,hb8⟩
    have HX8 := Hd (HX7.out.below hb8 HX7.out.lt);have HE8 := Hd (HE7.out.below hb8 HE7.out.lt);have HT8 := Hd (HT7.out.same (same_below hb8) fun b hb _ => hb);have HBB8 := Hd (HBB7.out.trans (hb8.mono (Nat.le_trans hB HS7.out)))
    clear hb8 r0 r1 r2 r3 r4 r5 r6 r7 r8 r9
    by_cases hg : 4000 < G
    ·have HRE : Hid (R = .bad 87 0 s.size) := Hd (by rw [← HRD.out,if_pos hg])
     clear HRD
     go_wp2
     rw [HRE.out]
     exact ⟨rfl,HBB8.out,.inr ⟨rfl,rfl,rfl⟩⟩
    have HRE : Hid (R = .tree t) := Hd (by rw [← HRD.out,if_neg hg])
    clear HRD
    obtain ⟨r0,r1,r2,r3,r4,r5,r6,r7,r8,r9⟩ := HX8.out.ten
    obtain ⟨s0,s1,s2,s3,s4,s5,s6,s7,s8,s9⟩ := HE8.out.ten
    obtain ⟨z0,z1,z2,z3,z4,z5,z6,z7,z8,z9⟩ := whole_free HE8.out
    go_wp2_with fail
    refine treeV_ret Tryz.results9 w.heap.size rfl HE8.out ?_
    rw [HRE.out]
    refine ⟨set10_below HBB8.out hB _ _ _ _ _ _ _ _ _ _,_,rfl,?_⟩
    exact (treF_set10 HT8.out (fun k hk => by have := hk.1;have := HL2.out;omega) _ _ _ _ _ _ _ _ _ _).same (fun _ _ _ => rfl) (fun k hk _ => by have := hk.1;have := HL2.out;omega)
theorem catch8_idle (p r : Addr) (w : World) : CallsD Tryz.prog 7 #[.pointer (some p),.pointer (some r)] .returning w fun e u' w' => e = .returned (.tuple #[]) ∧ u' = .returning ∧ w' = w := by
 have ha : ∀ W,(Instr.typeAssert .nilIface 20 32 true).run Tryz.prog W = .ok (.tuple #[.agg #[.int .i64 0,.int .i64 0,.int .i64 0],.bool false]) W := fun W => by kernel_rfl
 have hb : ∀ W,(Instr.typeAssert .nilIface 20 30 true).run Tryz.prog W = .ok (.tuple #[.int .i64 0,.bool false]) W := fun W => by kernel_rfl
 refine callsD_of_wpS Tryz.func7 rfl fun c₀ cs hu => ?_
 apply wpS_seq
 apply wpS_region
 simp [wpOpsS,go_sem,recoverD,hu,Tryz.ntmps7,Exit.thenS]
 refine wpS_of_wp ?_
 simp only [Array.replicate_succ,Array.replicate_zero,List.push_toArray,List.nil_append,List.cons_append]
 go_wp2
 clear ha hb
 cases c₀
 simp_all [bodyPostS,results,Tryz.results7]
theorem catch8_wrong (p r : Nat) (x1 x2 x3 c a b : Int) (older : List PanicEntry) (w : World) (hr : Whole w p 32 #[.int .i64 x1,.int .i64 x2,.int .i64 x3]) :
  CallsD Tryz.prog 7 #[.pointer (some ⟨p,0,none⟩),.pointer (some ⟨r,0,none⟩)] (.panicking ({ v := .iface 32 (.agg #[.int .i64 c,.int .i64 a,.int .i64 b]),recovered := false } :: older)) w fun e u' w' =>
   e = .returned (.tuple #[]) ∧ u' = .panicking ({ v := .iface 32 (.agg #[.int .i64 c,.int .i64 a,.int .i64 b]),recovered := true } :: older) ∧ Whole w' p 32 #[.int .i64 c,.int .i64 a,.int .i64 b] ∧ w.grownBy w' (some p) := by
 have ha : ∀ W v,(Instr.typeAssert (.iface 32 v) 20 32 true).run Tryz.prog W = .ok (.tuple #[v,.bool true]) W := fun W v => by kernel_rfl
 obtain ⟨w1,hw1⟩ : ∃ w1,w.alloc (.cells #[.int .i64 c,.int .i64 a,.int .i64 b] 32) = w1 := ⟨_,rfl⟩
 have hb1 : Below w.heap.size w w1 := by rw [← hw1];exact (Below.refl _ w).alloc (Nat.le_refl _) _
 have hE1 : Whole w1 w.heap.size 32 #[.int .i64 c,.int .i64 a,.int .i64 b] := by rw [← hw1];exact heap_alloc_new w _
 have HP1 := Hd (hr.below hb1 hr.lt);have HW1 := Hd hw1;have HE1 := Hd hE1;have HG1 := Hd (tk_below hb1 (some p));have HLT := Hd hr.lt
 clear hw1 hb1 hE1 hr
 refine callsD_of_wpS Tryz.func7 rfl fun c₀ cs hu => ?_
 apply wpS_seq
 apply wpS_region
 simp [wpOpsS,go_sem,recoverD,hu,Tryz.ntmps7,Exit.thenS]
 refine wpS_of_wp ?_
 simp only [Array.replicate_succ,Array.replicate_zero,List.push_toArray,List.nil_append,List.cons_append]
 go_upto_region 3 with (fail)
 rw [HW1.out]
 obtain ⟨e0,e1,e2,f0,f1,f2⟩ := HE1.out.three
 obtain ⟨g0,g1,g2,m0,m1,m2⟩ := HP1.out.three
 go_wp2
 have HX := Hd (And.intro (set3_whole HP1.out (.int .i64 c) (.int .i64 a) (.int .i64 b)) (tk_trans HG1.out (tk_set3 w1 p (.int .i64 c) (.int .i64 a) (.int .i64 b))))
 clear ha e0 e1 e2 f0 f1 f2 g0 g1 g2 m0 m1 m2 HP1 HE1 HG1 HW1
 cases c₀
 simp_all [bodyPostS,results,Tryz.results7]
 exact HX.out
theorem catch8_errno (p r : Nat) (s : ByteArray) (x1 x2 x3 c : Int) (older : List PanicEntry) (w : World) (hr : Whole w p 32 #[.int .i64 x1,.int .i64 x2,.int .i64 x3]) (hs : w.cell? ⟨r,0,none⟩ = some (.string s)) :
  CallsD Tryz.prog 7 #[.pointer (some ⟨p,0,none⟩),.pointer (some ⟨r,0,none⟩)] (.panicking ({ v := .iface 30 (.int .i64 c),recovered := false } :: older)) w fun e u' w' =>
   e = .returned (.tuple #[]) ∧ u' = .panicking ({ v := .iface 30 (.int .i64 c),recovered := true } :: older) ∧ Whole w' p 32 #[.int .i64 c,.int .i64 0,.int .i64 s.size] ∧ w.grownBy w' (some p) := by
 have ha : ∀ W,(Instr.typeAssert (.iface 30 (.int .i64 c)) 20 32 true).run Tryz.prog W = .ok (.tuple #[.agg #[.int .i64 0,.int .i64 0,.int .i64 0],.bool false]) W := fun W => by kernel_rfl
 have hb : ∀ W,(Instr.typeAssert (.iface 30 (.int .i64 c)) 20 30 true).run Tryz.prog W = .ok (.tuple #[.int .i64 c,.bool true]) W := fun W => by kernel_rfl
 have HP1 := Hd hr
 clear hr
 refine callsD_of_wpS Tryz.func7 rfl fun c₀ cs hu => ?_
 apply wpS_seq
 apply wpS_region
 simp [wpOpsS,go_sem,recoverD,hu,Tryz.ntmps7,Exit.thenS]
 refine wpS_of_wp ?_
 simp only [Array.replicate_succ,Array.replicate_zero,List.push_toArray,List.nil_append,List.cons_append]
 obtain ⟨g0,g1,g2,m0,m1,m2⟩ := HP1.out.three
 go_wp2
 have HX := Hd (And.intro (set3_whole HP1.out (.int .i64 c) (.int .i64 0) (.int .i64 s.size)) (tk_set3 w p (.int .i64 c) (.int .i64 0) (.int .i64 s.size)))
 clear ha hb g0 g1 g2 m0 m1 m2 hs HP1
 cases c₀
 simp_all [bodyPostS,results,Tryz.results7]
 exact HX.out
theorem results_rw {fn : Func} {p q : Tmp} (h : fn.results = #[.cell p 29,.cell q 32]) (tmps : Array Value) {w : World} {a b : Nat} {es cs : Array Value} (ha : tmps.getD p undef = .pointer (some ⟨a,0,none⟩)) (hE : Whole w a 29 es) (he : es.size = 10) (hq : tmps.getD q undef = .pointer (some ⟨b,0,none⟩)) (hW : Whole w b 32 cs) (hn : cs.size = 3) :
  (results fn tmps).run Tryz.prog w = .ok (.tuple #[.agg es,.agg cs]) w := by
 have ha' : tmps[p]?.getD undef = .pointer (some ⟨a,0,none⟩) := by simpa using ha
 have hq' : tmps[q]?.getD undef = .pointer (some ⟨b,0,none⟩) := by simpa using hq
 simp [results,h,ha',hq',asAddr,run8_tree hE he,run_wrong hW hn]
theorem admit_none {s : ByteArray} {f : Int} (h : admitC s f = none) : FlagsIn f ∧ s.size ≤ 1024 := by
 unfold admitC at h
 split at h
 ·cases h
 ·split at h
  ·cases h
  ·unfold FlagsIn
   omega
theorem pparse_any (s : ByteArray) (f : Int) (w : World) (hs : s.size ≤ 4503599627370496) (hT : TabsY w) : Calls Tryz.prog 5 #[.string s,.int .i64 f] w (ParsePost (parseY s f) w) := by
 have hmf : ∀ (fn : Fn) (first cap : Array Value) (w : World),(Instr.makeFunc fn first cap).run Tryz.prog w = .ok (.func fn first cap) w := fun _ _ _ _ => rfl
 obtain ⟨w3,hw3⟩ : ∃ w3,((w.alloc (.cells #[.string s] 9)).alloc (.cells #[.int .i64 0,.slice none 0 0,.int .i32 0,.slice none 0 0,.int .i64 0,.int .i64 0,.string ⟨#[]⟩,.int .i64 0,.int .i64 0,.bool false] 29)).alloc (.cells #[.int .i64 0,.int .i64 0,.int .i64 0] 32) = w3 := ⟨_,rfl⟩
 have hb3 : Below w.heap.size w w3 := by rw [← hw3];exact (((Below.refl _ w).alloc (Nat.le_refl _) _).alloc (by simp) _).alloc (by simp;omega) _
 have hz3 : w3.heap.size = w.heap.size + 1 + 1 + 1 := by rw [← hw3];simp
 have hE0 : Whole w3 w.heap.size 9 #[.string s] := by rw [← hw3];exact Whole.alloc (Whole.alloc (heap_alloc_new w _) _) _
 have hE1 : Whole w3 (w.heap.size + 1) 29 #[.int .i64 0,.slice none 0 0,.int .i32 0,.slice none 0 0,.int .i64 0,.int .i64 0,.string ⟨#[]⟩,.int .i64 0,.int .i64 0,.bool false] := by rw [← hw3];exact Whole.alloc (second_new w _ _ _) _
 have hE2 : Whole w3 (w.heap.size + 1 + 1) 32 #[.int .i64 0,.int .i64 0,.int .i64 0] := by rw [← hw3];exact third_cell w _ _ _ _
 have HW3 := Hd hw3;have HB3 := Hd hb3;have HZ3 := Hd hz3;have HE0 := Hd hE0;have HE1 := Hd hE1;have HE2 := Hd hE2;have HT := Hd hT;have HS := Hd hs
 clear hw3 hb3 hz3 hE0 hE1 hE2 hT
 obtain ⟨C,hC⟩ : ∃ C,admitC s f = C := ⟨_,rfl⟩
 have HADC := Hd hC
 obtain ⟨R,hR⟩ : ∃ R,parseY s f = R := ⟨_,rfl⟩
 rw [hR]
 have hR2 := (parse_all s f).symm.trans hR
 rw [hC] at hR2
 have HR := Hd hR2
 clear hR2
 have HAD := Hd (fun q j nv W (h1 : TabsY W) (h2 : SrIn W q f s j nv) => pyadmit_any q f s j nv W HS.out h1 h2)
 rw [hC] at HAD
 clear hC hR
 go_enter_defers Tryz.func5,Tryz.ntmps5
 go_upto_region 2 with (fail)
 rw [HW3.out]
 obtain ⟨w4,hw4⟩ : ∃ w4,w3.alloc (.cells #[.int .i64 0,.string ⟨#[]⟩,.int .i64 0,.slice none 0 0] 41) = w4 := ⟨_,rfl⟩
 have hb4 : Below w3.heap.size w3 w4 := by rw [← hw4];exact (Below.refl _ w3).alloc (Nat.le_refl _) _
 have hX4 : Whole w4 w3.heap.size 41 #[.int .i64 0,.string ⟨#[]⟩,.int .i64 0,.slice none 0 0] := by rw [← hw4];exact heap_alloc_new w3 _
 have e0 : w3.cell? ⟨w.heap.size,0,none⟩ = some (.string s) := HE0.out.cell 0
 obtain ⟨l0,l1,l2,l3,n0,n1,n2,n3⟩ := hX4.four
 have HB4 := Hd hb4;have HX4 := Hd hX4
 clear hb4 hX4
 go_upto_region 3 with (fail)
 clear hw4 l0 l1 l2 l3 n0 n1 n2 n3 e0
 obtain ⟨w5,hw5⟩ : ∃ w5,set4 w4 w3.heap.size (.int .i64 f) (.string s) (.int .i64 0) (.slice none 0 0) = w5 := ⟨_,rfl⟩
 have HR5 := Hd (show SrIn w5 w3.heap.size f s 0 (.slice none 0 0) by rw [← hw5];exact set4_whole HX4.out _ _ _ _)
 have HB5 := Hd (show Below w3.heap.size w3 w5 by rw [← hw5];exact set4_below HB4.out (Nat.le_refl _) _ _ _ _)
 unfold set4 at hw5
 rw [hw5]
 clear hw5 HX4 HB4
 have HT5 := Hd (show TabB w3.heap.size w5 from fun W hW => HT.out.below (HB3.out.trans ((HB5.out.trans hW).mono HB3.out.size)))
 have HA := Hd (HAD.out w3.heap.size 0 (.slice none 0 0) w5 HT5.out.now HR5.out)
 clear HAD
 cases C with
 | some c =>
  go_wp2_with fail
  refine HA.out.mono ?_
  rintro e w6 ⟨hb6,he⟩
  have HB6 := Hd (HB5.out.trans (hb6.mono HB5.out.size))
  have HF0 := Hd (HE0.out.below (HB6.out) HE0.out.lt);have HF1 := Hd (HE1.out.below HB6.out HE1.out.lt);have HF2 := Hd (HE2.out.below HB6.out HE2.out.lt)
  clear hb6 HA
  replace he : e = thrown (.iface 30 (.int .i64 c)) := he
  unfold thrown at he
  subst he
  go_wp2_with fail
  refine leaves_cons (f := 7) (args := #[.pointer (some ⟨w.heap.size + 1 + 1,0,none⟩),.pointer (some ⟨w.heap.size,0,none⟩)]) (by simp) (by simp [go_sem]) ?_
  refine (catch8_errno _ _ s 0 0 0 c [] w6 HF2.out (HF0.out.cell 0)).mono ?_
  rintro e u' w9 ⟨rfl,rfl,hW,hg⟩
  refine ⟨_,results_rw Tryz.results5 _ rfl (Whole.grown HF1.out hg (fun e => by have := Option.some.inj e;omega)) rfl rfl hW rfl,?_⟩
  unfold ParsePost
  rw [← HR.out]
  exact ⟨(HB3.out.trans (HB6.out.mono HB3.out.size)).grown hg (Nat.le_trans HB3.out.size HB6.out.size) (fun k e => by cases e;omega),rfl⟩
 | none =>
  obtain ⟨hf,hn⟩ := admit_none HADC.out
  have HFN := Hd (And.intro hf hn)
  clear hf hn
  go_wp2_with fail
  refine HA.out.mono ?_
  rintro e w6 ⟨hb6,he⟩
  obtain rfl : e = .returned (.tuple #[]) := he
  have HB6 := Hd (HB5.out.trans (hb6.mono HB5.out.size))
  have HST6 := Hd (show SrSt w6 w3.heap.size w3.heap.size f s 0 (.slice none 0 0) [] from ⟨HR5.out.below hb6,World.ownsRow_nil _ _ _ _⟩)
  have HT6 := Hd (HT5.out.next (hb6.mono HB5.out.size))
  have HTA := Hd (pytakeAll_any w3.heap.size w3.heap.size s f w6 HFN.out.2 HFN.out.1 HST6.out HT6.out HB6.out.size (Nat.le_refl _))
  have HRA : Hid (allY s f = R) := Hd HR.out
  rw [HRA.out] at HTA
  clear hb6 HA HR
  go_wp2_with fail
  refine HTA.out.mono ?_
  rintro e w7 ⟨hb7,he⟩
  have HB7 := Hd (HB6.out.trans hb7)
  have HG0 := Hd (HE0.out.below HB7.out HE0.out.lt);have HG1 := Hd (HE1.out.below HB7.out HE1.out.lt);have HG2 := Hd (HE2.out.below HB7.out HE2.out.lt)
  clear hb7 HTA
  cases R with
  | bad c a b =>
   rcases he with he | ⟨ha,hb,he⟩
   ·unfold thrown wrongV at he
    subst he
    go_wp2_with fail
    refine leaves_cons (f := 7) (args := #[.pointer (some ⟨w.heap.size + 1 + 1,0,none⟩),.pointer (some ⟨w.heap.size,0,none⟩)]) (by simp) (by simp [go_sem]) ?_
    refine (catch8_wrong _ _ 0 0 0 c a b [] w7 HG2.out).mono ?_
    rintro e u' w9 ⟨rfl,rfl,hW,hg⟩
    refine ⟨_,results_rw Tryz.results5 _ rfl (Whole.grown HG1.out hg (fun e => by have := Option.some.inj e;omega)) rfl rfl hW rfl,?_⟩
    unfold ParsePost
    exact ⟨(HB3.out.trans (HB7.out.mono HB3.out.size)).grown hg (Nat.le_trans HB3.out.size HB7.out.size) (fun k e => by cases e;omega),rfl⟩
   ·subst ha
    have HBB := Hd hb
    clear hb
    unfold thrown at he
    subst he
    go_wp2_with fail
    refine leaves_cons (f := 7) (args := #[.pointer (some ⟨w.heap.size + 1 + 1,0,none⟩),.pointer (some ⟨w.heap.size,0,none⟩)]) (by simp) (by simp [go_sem]) ?_
    refine (catch8_errno _ _ s 0 0 0 c [] w7 HG2.out (HG0.out.cell 0)).mono ?_
    rintro e u' w9 ⟨rfl,rfl,hW,hg⟩
    refine ⟨_,results_rw Tryz.results5 _ rfl (Whole.grown HG1.out hg (fun e => by have := Option.some.inj e;omega)) rfl rfl hW rfl,?_⟩
    unfold ParsePost
    rw [HBB.out]
    exact ⟨(HB3.out.trans (HB7.out.mono HB3.out.size)).grown hg (Nat.le_trans HB3.out.size HB7.out.size) (fun k e => by cases e;omega),rfl⟩
  | tree t =>
   obtain ⟨v,he,ht⟩ := he
   obtain ⟨kv,sv,rfl,⟨y1,y2,y3,rfl⟩,⟨y4,y5,y6,rfl⟩⟩ := ht.ten
   subst he
   have HT7 := Hd ht
   clear ht
   obtain ⟨r0,r1,r2,r3,r4,r5,r6,r7,r8,r9⟩ := HG1.out.ten
   obtain ⟨z0,z1,z2,z3,z4,z5,z6,z7,z8,z9⟩ := whole_free HG1.out
   obtain ⟨g0,g1,g2,m0,m1,m2⟩ := HG2.out.three
   go_wp2_with fail
   refine leaves_cons (f := 7) (args := #[.pointer (some ⟨w.heap.size + 1 + 1,0,none⟩),.pointer (some ⟨w.heap.size,0,none⟩)]) (by simp) (by simp [go_sem]) ?_
   refine (catch8_idle _ _ _).mono ?_
   rintro e u' w'' ⟨rfl,rfl,rfl⟩
   have hT := set10_whole HG1.out (.int .i64 t.fld.op) (.slice y1 y2 y3) (.int .i32 t.fld.rune) (.slice y4 y5 y6) (.int .i64 t.fld.at') (.int .i64 t.fld.cap) (.string t.fld.name) (.int .i64 t.fld.min) (.int .i64 t.fld.max) (.bool t.fld.lazy)
   have hTF := treF_set10 HT7.out (b := w.heap.size + 1) (fun k hk => by have := HB6.out.size;have := HZ3.out;omega) (.int .i64 t.fld.op) (.slice y1 y2 y3) (.int .i32 t.fld.rune) (.slice y4 y5 y6) (.int .i64 t.fld.at') (.int .i64 t.fld.cap) (.string t.fld.name) (.int .i64 t.fld.min) (.int .i64 t.fld.max) (.bool t.fld.lazy)
   have hW := (set10_same w7 (w.heap.size + 1) (.int .i64 t.fld.op) (.slice y1 y2 y3) (.int .i32 t.fld.rune) (.slice y4 y5 y6) (.int .i64 t.fld.at') (.int .i64 t.fld.cap) (.string t.fld.name) (.int .i64 t.fld.min) (.int .i64 t.fld.max) (.bool t.fld.lazy) (w.heap.size + 1 + 1) (by omega) HG2.out.lt).trans HG2.out
   have hB := set10_below (b := w.heap.size + 1) (HB3.out.trans (HB7.out.mono HB3.out.size)) (by omega) (.int .i64 t.fld.op) (.slice y1 y2 y3) (.int .i32 t.fld.rune) (.slice y4 y5 y6) (.int .i64 t.fld.at') (.int .i64 t.fld.cap) (.string t.fld.name) (.int .i64 t.fld.min) (.int .i64 t.fld.max) (.bool t.fld.lazy)
   refine ⟨_,results_rw Tryz.results5 _ rfl ((set3_other (b := w.heap.size + 1 + 1) (by omega) (.int .i64 0) (.int .i64 0) (.int .i64 0)).trans hT) rfl rfl (set3_whole hW (.int .i64 0) (.int .i64 0) (.int .i64 0)) rfl,?_⟩
   unfold ParsePost
   refine ⟨set3_below hB (by omega) _ _ _,_,rfl,?_⟩
   exact TreF.tre (hTF.same (G := fun _ => True) (fun k hk _ => set3_other (by have := HB6.out.size;have := HZ3.out;omega) _ _ _) fun _ _ _ => trivial)
def headT : Tr := .mk (fldY 12) [runeY 97,repeatedY 42 0 0 false (runeY 98)]
theorem head_parts : partsY ⟨#[97,124,98,42]⟩ (roundsY ⟨#[97,124,98,42]⟩) 0 0 [] [] = .ok [runeY 97,repeatedY 42 0 0 false (runeY 98)] 4 0 [] := by kernel_rfl
theorem head_open : partsY ⟨#[40,97]⟩ (roundsY ⟨#[40,97]⟩) 0 0 [] [] = .bad 84 0 2 := by kernel_rfl
theorem flagY_none (k : Int) (h : k = 1 ∨ k = 2 ∨ k = 32) : flagY 0 k = false := by rcases h with rfl | rfl | rfl <;> kernel_rfl
theorem head_depth : depthR headT = 3 := by
 unfold headT runeY repeatedY
 simp only [depthR_eq,Tr.kids,List.map_cons,List.map_nil,maxL]
 rfl
theorem head_weight : weightR headT = 5 := by
 unfold headT runeY repeatedY
 simp only [weightR_eq,Tr.kids,Tr.fld,List.map_cons,List.map_nil]
 rfl
theorem head_valid : Lib.validD (⟨#[97,124,98,42]⟩ : ByteArray).toList = true := by kernel_rfl
theorem open_valid : Lib.validD (⟨#[40,97]⟩ : ByteArray).toList = true := by kernel_rfl
theorem head_tree : parseY ⟨#[97,124,98,42]⟩ 0 = .tree headT := by
 unfold parseY
 rw [if_neg (by decide),if_neg (by decide),head_valid,if_neg (by decide),flagY_none 2 (by simp),if_neg (by decide),head_parts]
 show (if (4 : Nat) < 4 then _ else boundY _ headT) = _
 rw [if_neg (by decide)]
 unfold boundY
 rw [head_depth,head_weight,if_neg (by decide),if_neg (by decide)]
theorem head_bad : parseY ⟨#[40,97]⟩ 0 = .bad 84 0 2 := by
 unfold parseY
 rw [if_neg (by decide),if_neg (by decide),open_valid,if_neg (by decide),flagY_none 2 (by simp),if_neg (by decide),head_open]
theorem pair_new (w : World) (cs ds : Array Value) : Whole ((w.alloc (.cells cs 29)).alloc (.cells ds 32)) w.heap.size 29 cs ∧ Whole ((w.alloc (.cells cs 29)).alloc (.cells ds 32)) (w.heap.size + 1) 32 ds ∧
  Below w.heap.size w ((w.alloc (.cells cs 29)).alloc (.cells ds 32)) ∧ ((w.alloc (.cells cs 29)).alloc (.cells ds 32)).heap.size = w.heap.size + 2 := by
 refine ⟨Whole.alloc (heap_alloc_new w _) _,?_,((Below.refl _ w).alloc (Nat.le_refl _) _).alloc (by simp) _,by simp⟩
 have := heap_alloc_new (w.alloc (.cells cs 29)) (.cells ds 32)
 simpa [Whole] using this
theorem shead_any (w : World) (hT : TabsY w) : Calls Tryz.prog 4 #[] w fun e w' => e = .returned (.bool true) ∧ Below w.heap.size w w' := by
 have HP := Hd (pparse_any ⟨#[97,124,98,42]⟩ 0 w (by decide) hT)
 have HQ := Hd (fun W (h : TabsY W) => pparse_any ⟨#[40,97]⟩ 0 W (by decide) h)
 rw [head_tree] at HP
 rw [head_bad] at HQ
 have HT := Hd hT
 clear hT
 go_enter Tryz.func4,Tryz.ntmps4
 go_wp2_with fail
 refine HP.out.mono ?_
 rintro e w1 ⟨hb,v,he,ht⟩
 obtain ⟨A,n,c,a2,m,c2,hn,hm,hv,-,-,hK,-,-⟩ := ht.opened
 obtain rfl : n = 2 := hn.symm
 obtain rfl : m = 0 := hm.symm
 replace hv : v = .agg #[.int .i64 12,.slice A 2 c,.int .i32 0,.slice a2 0 c2,.int .i64 0,.int .i64 0,.string ⟨#[]⟩,.int .i64 0,.int .i64 0,.bool false] := hv
 subst hv
 obtain ⟨b,o,rfl,-,kv,sv,hc,-⟩ := hK.at' 1 (by decide)
 have k0 : w1.cell? ⟨b,o + 1 * 10 + 0,none⟩ = some (.int .i64 7) := hc 0 (by rw [treC_size];decide)
 replace he : e = .returned (.tuple #[.agg #[.int .i64 12,.slice (some ⟨b,o,none⟩) 2 c,.int .i32 0,.slice a2 0 c2,.int .i64 0,.int .i64 0,.string ⟨#[]⟩,.int .i64 0,.int .i64 0,.bool false],.agg #[.int .i64 0,.int .i64 0,.int .i64 0]]) := he
 subst he
 obtain ⟨w2,hw2⟩ : ∃ w2,(w1.alloc (.cells #[.int .i64 12,.slice (some ⟨b,o,none⟩) 2 c,.int .i32 0,.slice a2 0 c2,.int .i64 0,.int .i64 0,.string ⟨#[]⟩,.int .i64 0,.int .i64 0,.bool false] 29)).alloc (.cells #[.int .i64 0,.int .i64 0,.int .i64 0] 32) = w2 := ⟨_,rfl⟩
 obtain ⟨n1,n2,n3,n4⟩ := pair_new w1 #[.int .i64 12,.slice (some ⟨b,o,none⟩) 2 c,.int .i32 0,.slice a2 0 c2,.int .i64 0,.int .i64 0,.string ⟨#[]⟩,.int .i64 0,.int .i64 0,.bool false] #[.int .i64 0,.int .i64 0,.int .i64 0]
 rw [hw2] at n1 n2 n3 n4
 have HW2 := Hd hw2;have N1 := Hd n1;have N2 := Hd n2;have HB2 := Hd (hb.trans (n3.mono hb.size));have HS2 := Hd n4
 have K2 := Hd ((n3.cell (p := ⟨b,o + 1 * 10 + 0,none⟩) (World.block_lt_of_cell? w1 _ k0)).trans k0)
 clear hw2 n1 n2 n3 n4 k0 hc hK ht hb HP
 go_upto_region 2 with (fail)
 rw [HW2.out]
 go_wp2_with fail
 refine (HQ.out w2 (HT.out.below HB2.out)).mono ?_
 rintro e w3 ⟨hb,he⟩
 replace he : e = .returned (.tuple #[.agg #[.int .i64 0,.slice none 0 0,.int .i32 0,.slice none 0 0,.int .i64 0,.int .i64 0,.string ⟨#[]⟩,.int .i64 0,.int .i64 0,.bool false],.agg #[.int .i64 84,.int .i64 0,.int .i64 2]]) := he
 subst he
 obtain ⟨w4,hw4⟩ : ∃ w4,(w3.alloc (.cells #[.int .i64 0,.slice none 0 0,.int .i32 0,.slice none 0 0,.int .i64 0,.int .i64 0,.string ⟨#[]⟩,.int .i64 0,.int .i64 0,.bool false] 29)).alloc (.cells #[.int .i64 84,.int .i64 0,.int .i64 2] 32) = w4 := ⟨_,rfl⟩
 obtain ⟨n1,n2,n3,n4⟩ := pair_new w3 #[.int .i64 0,.slice none 0 0,.int .i32 0,.slice none 0 0,.int .i64 0,.int .i64 0,.string ⟨#[]⟩,.int .i64 0,.int .i64 0,.bool false] #[.int .i64 84,.int .i64 0,.int .i64 2]
 rw [hw4] at n1 n2 n3 n4
 have hs2 := HS2.out
 have m1 := (N1.out.below hb (by omega)).below n3 (Nat.lt_of_lt_of_le (show w1.heap.size < w2.heap.size by omega) hb.size)
 have m2 := (N2.out.below hb (by omega)).below n3 (Nat.lt_of_lt_of_le (show w1.heap.size + 1 < w2.heap.size by omega) hb.size)
 have kb := World.block_lt_of_cell? w2 _ K2.out
 have k4 := (n3.cell (p := ⟨b,o + 1 * 10 + 0,none⟩) (Nat.lt_of_lt_of_le kb hb.size)).trans ((hb.cell (p := ⟨b,o + 1 * 10 + 0,none⟩) kb).trans K2.out)
 have HW4 := Hd hw4;have HB4 := Hd (HB2.out.trans ((hb.trans (n3.mono hb.size)).mono HB2.out.size))
 have t0 : w4.cell? ⟨w1.heap.size,0,none⟩ = some (.int .i64 12) := m1.cell 0
 have t1 : w4.cell? ⟨w1.heap.size,1,none⟩ = some (.slice (some ⟨b,o,none⟩) 2 c) := m1.cell 1
 have e0 : w4.cell? ⟨w1.heap.size + 1,0,none⟩ = some (.int .i64 0) := m2.cell 0
 have g0 : w4.cell? ⟨w3.heap.size + 1,0,none⟩ = some (.int .i64 84) := n2.cell 0
 simp only [Nat.one_mul,Nat.add_zero] at k4
 clear hw4 n1 n2 n3 n4 m1 m2 kb hb hs2 HQ
 go_upto_region 3 with (fail)
 rw [HW4.out]
 go_wp2_with fail
 go_ret
 exact ⟨rfl,HB4.out⟩
end Go.Proofs.YthnddabcmhplkaaGreatDoor
