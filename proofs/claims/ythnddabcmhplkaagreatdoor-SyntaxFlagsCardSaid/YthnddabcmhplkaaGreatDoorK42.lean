/- Texts merged by program. No condition. -/
import Derived.Test.YthnddabcmhplkaaGreatDoorK41
import Derived.Test.YthnddabcmhplkaaGreatDoorK21
set_option maxHeartbeats 3200000
set_option maxRecDepth 100000
set_option linter.unusedVariables false
namespace Go.Proofs.YthnddabcmhplkaaGreatDoor
open Go Go.RowKit
def TabsY (w : World) : Prop := Tabs7 w ∧ ∃ m : Int,w.cell? ⟨4,0,none⟩ = some (.int .i64 m)
theorem TabsY.below {w w' : World} (h : TabsY w) (hb : Below w.heap.size w w') : TabsY w' := ⟨h.1.below hb,by
 obtain ⟨m,hm⟩ := h.2
 exact ⟨m,(hb.cell (World.block_lt_of_cell? w _ hm)).trans hm⟩⟩
theorem TabsY.utf8 {w : World} (h : TabsY w) : Lib.Utf8Tabs 0 1 w := h.1.1
def NewPost8 (G : Nat → Prop) (t : Tr) (w : World) (e : Ending) (w' : World) : Prop := ∃ v,e = .returned v ∧ TreF G w' t v ∧ Below w.heap.size w w'
theorem rgs_off {w w' : World} {v : Value} {l : List (Int × Int)} {b : Nat} (h : Rgs w v l) (hb : ∀ k,v.ownBlock = some k → k < b) (hs : ∀ k,k < b → w'.heap[k]? = w.heap[k]?) : Rgs w' v l := by
 refine (rgs_same (F := fun k => k < b) (G := fun _ => True) h (.inr fun k hk => hb k hk) (fun k hk _ => hs k hk) fun _ _ _ => trivial).1
theorem Rgs.own_lt {w : World} {v : Value} {l : List (Int × Int)} (h : Rgs w v l) (h0 : l ≠ []) : ∀ k,v.ownBlock = some k → k < w.heap.size := fun k hk => by
 obtain ⟨a,c,rfl,h2,h3,h4,h5,h6⟩ := h
 rcases h5 with h5 | ⟨b,o,rfl,hc⟩
 ·exact absurd h5 h0
 ·have : b = k := by simpa [Value.ownBlock] using hk
  subst this
  exact World.block_lt_of_cell? w _ (hc 0 (List.length_pos_iff.2 h0)).1
theorem pyofSet_any (v : Value) (l : List (Int × Int)) (w : World) (h : Rgs w v l) (hl : l.length ≤ 17592186044416) (G : Nat → Prop) (hG : ∀ b,v.ownBlock = some b → G b) :
  Calls Tryz.prog 25 #[v] w (NewPost8 G (setY l) w) := by
 have HV := Hd h
 obtain ⟨a,c,hv,-⟩ := h
 subst hv
 obtain ⟨n,hn⟩ : ∃ n,l.length = n := ⟨_,rfl⟩
 rw [hn] at HV hG hl ⊢
 obtain ⟨w1,hw1⟩ : ∃ w1,w.alloc (.cells #[.int .i64 0,.slice none 0 0,.int .i32 0,.slice none 0 0,.int .i64 0,.int .i64 0,.string ⟨#[]⟩,.int .i64 0,.int .i64 0,.bool false] 29) = w1 := ⟨_,rfl⟩
 obtain ⟨hE1,hb1,hs1⟩ := box_tree w #[.int .i64 0,.slice none 0 0,.int .i32 0,.slice none 0 0,.int .i64 0,.int .i64 0,.string ⟨#[]⟩,.int .i64 0,.int .i64 0,.bool false]
 rw [hw1] at hE1 hb1 hs1
 have HW1 := Hd hw1;have HE1 := Hd hE1;have HB1 := Hd hb1;have HS1 := Hd hs1;have HN := Hd hn
 clear hw1 hE1 hb1 hs1 hn
 go_enter Tryz.func25,Tryz.ntmps25
 go_upto_region 1 with (fail)
 rw [HW1.out]
 obtain ⟨r0,r1,r2,r3,r4,r5,r6,r7,r8,r9⟩ := HE1.out.ten
 obtain ⟨z0,z1,z2,z3,z4,z5,z6,z7,z8,z9⟩ := whole_free HE1.out
 by_cases h0 : n = 0
 ·have b0 : ((n : Int) == 0) = true := beq_iff_eq.2 (by omega)
  have hl0 : l = [] := List.eq_nil_of_length_eq_zero (HN.out.trans h0)
  have HL := Hd hl0
  clear h0 hl0
  go_wp2_with fail
  refine treeV_ret Tryz.results25 w.heap.size rfl HE1.out ?_
  refine ⟨_,rfl,?_,set10_below HB1.out (Nat.le_refl _) _ _ _ _ _ _ _ _ _ _⟩
  unfold setY
  rw [if_pos HL.out]
  exact treF_none _ _ (fldY 1) rfl (fldY_ok (by decide) (by decide))
 ·have b0 : ((n : Int) == 0) = false := beq_eq_false_iff_ne.2 (by omega)
  have hl0 : l ≠ [] := fun e => h0 (by rw [← HN.out,e];rfl)
  have HL := Hd hl0;have HG := Hd hG;have HLL := Hd hl
  clear h0 hl0 hG hl
  go_wp2_with fail
  refine treeV_ret Tryz.results25 w.heap.size rfl HE1.out ?_
  refine ⟨_,rfl,?_,set10_below HB1.out (Nat.le_refl _) _ _ _ _ _ _ _ _ _ _⟩
  unfold setY someY
  rw [if_neg HL.out]
  refine treF_leaf G _ ⟨4,0,l,0,0,⟨#[]⟩,0,0,false⟩ (.slice a n c) (rgs_off (b := w.heap.size) HV.out (HV.out.own_lt HL.out) fun k hk => ?_) (.inr HG.out) ?_
  ·exact (set10_below HB1.out (Nat.le_refl _) _ _ _ _ _ _ _ _ _ _).block k hk
  ·exact fld_ok (by decide) (by unfold I32;decide) (by decide) (by decide) (by decide) (by decide) (Nat.zero_le _) (by rw [HN.out];exact HLL.out)
theorem pyjoined_any (op : Int) (hop : 0 ≤ op ∧ op ≤ 12) (v : Value) (l : List Tr) (w : World) (G : Nat → Prop) (hG : ∀ b,G b → b < w.heap.size) (h : KdsF G w l v) :
  Calls Tryz.prog 13 #[.int .i64 op,v] w (NewPost8 G (joinY op l) w) := by
 have HV := Hd h
 obtain ⟨A,c,hv,h2,h3,h4,h5,h6⟩ := h
 subst hv
 obtain ⟨n,hn⟩ : ∃ n,l.length = n := ⟨_,rfl⟩
 rw [hn] at HV h2 h4 ⊢
 obtain ⟨w1,hw1⟩ : ∃ w1,w.alloc (.cells #[.int .i64 0,.slice none 0 0,.int .i32 0,.slice none 0 0,.int .i64 0,.int .i64 0,.string ⟨#[]⟩,.int .i64 0,.int .i64 0,.bool false] 29) = w1 := ⟨_,rfl⟩
 obtain ⟨hE1,hb1,hs1⟩ := box_tree w #[.int .i64 0,.slice none 0 0,.int .i32 0,.slice none 0 0,.int .i64 0,.int .i64 0,.string ⟨#[]⟩,.int .i64 0,.int .i64 0,.bool false]
 rw [hw1] at hE1 hb1 hs1
 have HW1 := Hd hw1;have HE1 := Hd hE1;have HB1 := Hd hb1;have HS1 := Hd hs1;have HN := Hd hn;have HG := Hd hG;have HOP := Hd hop;have H6 := Hd h6
 clear hw1 hE1 hb1 hs1 hn h5 h6 hG hop
 go_enter Tryz.func13,Tryz.ntmps13
 go_upto_region 1 with (fail)
 rw [HW1.out]
 obtain ⟨r0,r1,r2,r3,r4,r5,r6,r7,r8,r9⟩ := HE1.out.ten
 obtain ⟨z0,z1,z2,z3,z4,z5,z6,z7,z8,z9⟩ := whole_free HE1.out
 by_cases h0 : n = 0
 ·have b0 : ((n : Int) == 0) = true := beq_iff_eq.2 (by omega)
  have HL := Hd (show l = [] from List.eq_nil_of_length_eq_zero (HN.out.trans h0))
  clear h0
  go_wp2_with fail
  refine treeV_ret Tryz.results13 w.heap.size rfl HE1.out ?_
  refine ⟨_,rfl,?_,set10_below HB1.out (Nat.le_refl _) _ _ _ _ _ _ _ _ _ _⟩
  rw [HL.out]
  exact treF_none _ _ (fldY 2) rfl (fldY_ok (by decide) (by decide))
 have b0 : ((n : Int) == 0) = false := beq_eq_false_iff_ne.2 (by omega)
 by_cases h1 : n = 1
 ·subst h1
  obtain ⟨x,hx⟩ : ∃ x,l = [x] := by
   match l,HN.out with
   | [x],_ => exact ⟨x,rfl⟩
  subst hx
  obtain ⟨b,o,rfl,hb,hc⟩ := H6.out.resolve_left (by simp)
  obtain ⟨cs,q1,q2⟩ := hc 0 (by simp)
  have q2 : TreF G w x (.agg cs) := q2
  obtain ⟨kv,sv,e,⟨k1,k2,k3,rfl⟩,⟨s1,s2,s3,rfl⟩⟩ := q2.ten
  injection e with e
  subst e
  have q1' : CellsAt w1 b o _ := (show CellsAt w b (o + 0 * 10) _ from q1).below HB1.out |> fun h => by rwa [Nat.zero_mul,Nat.add_zero] at h
  obtain ⟨u0,u1,u2,u3,u4,u5,u6,u7,u8,u9⟩ := CellsAt.ten (f := x.fld) (kv := .slice k1 k2 k3) (sv := .slice s1 s2 s3) q1'
  have HT := Hd q2
  clear h0 b0 hc q1 q2 q1' hb h2 h4
  go_wp2_with fail
  refine treeV_ret Tryz.results13 w.heap.size rfl HE1.out ?_
  exact ⟨_,rfl,treF_set10 (HT.out.same (same_below HB1.out) fun _ h _ => h) (fun k hk => Nat.ne_of_lt (HG.out k hk)) _ _ _ _ _ _ _ _ _ _,set10_below HB1.out (Nat.le_refl _) _ _ _ _ _ _ _ _ _ _⟩
 ·have b1 : ((n : Int) == 1) = false := beq_eq_false_iff_ne.2 (by omega)
  have HJ : Hid (joinY op l = .mk (fldY op) l) := Hd (by
   have := HN.out
   match l with
   | [] => exact absurd this.symm h0
   | [x] => exact absurd this.symm h1
   | x :: y :: l => rfl)
  clear h0 h1
  go_wp2_with fail
  refine treeV_ret Tryz.results13 w.heap.size rfl HE1.out ?_
  refine ⟨_,rfl,?_,set10_below HB1.out (Nat.le_refl _) _ _ _ _ _ _ _ _ _ _⟩
  rw [HJ.out]
  exact treF_set10 ((treF_node HV.out rfl (fldY_ok HOP.out.1 HOP.out.2)).same (same_below HB1.out) fun _ h _ => h) (fun k hk => Nat.ne_of_lt (HG.out k hk)) _ _ _ _ _ _ _ _ _ _
theorem fold_one {c d : Int} (h0 : 0 ≤ c) (h1 : c ≤ 1114111) : FoldP [(c,c)] d ↔ d ∈ orbR c := by
 unfold FoldP
 constructor
 ·rintro ⟨e,h,hd⟩
  obtain ⟨a,b,r,hr,h2,h3⟩ := h
  have := List.mem_singleton.1 hr
  subst this
  have : e = c := by simp only at h2 h3;omega
  subst this
  exact hd
 ·intro h
  exact ⟨c,⟨h0,h1,(c,c),by simp,Int.le_refl _,Int.le_refl _⟩,h⟩
theorem orb_big {c : Int} (h : 2 ≤ (orbR c).length) : 0 ≤ c ∧ c ≤ 1114111 := by
 refine ⟨?_,?_⟩
 ·refine Int.not_lt.1 fun hc => ?_
  rw [orb_none (.inl hc)] at h
  simp at h
 ·refine Int.not_lt.1 fun hc => ?_
  rw [orb_none (.inr hc)] at h
  simp at h
theorem atom_fold {c : Int} {k : List (Int × Int)} (hr : RightR k) (hh : ∀ d,HasR k d ↔ FoldP [(c,c)] d) (h2 : 2 ≤ (orbR c).length) : setY k = someY (setB fun d => (orbR c).contains d) := by
 obtain ⟨h0,h1⟩ := orb_big h2
 have e : k = setB fun d => (orbR c).contains d := setB_is hr fun d => by
  rw [hh d,fold_one h0 h1]
  constructor
  ·intro h
   have := orb_rune c h0 h1 d h
   exact ⟨this.1,this.2,by simpa using h⟩
  ·rintro ⟨-,-,h⟩
   simpa using h
 have hne : k ≠ [] := by
  intro e0
  have := (hh c).2 ((fold_one h0 h1).2 (orb_self c h0 h1))
  rw [e0] at this
  obtain ⟨_,_,r,hr,_⟩ := this
  cases hr
 unfold setY
 rw [if_neg hne,e]
theorem pyedge_any (f x y : Int) (hx : -1000 ≤ x ∧ x ≤ 2000) (hy : -1000 ≤ y ∧ y ≤ 2000) (w : World) (G : Nat → Prop) :
  Calls Tryz.prog 73 #[.agg #[.int .i64 f],.int .i64 x,.int .i64 y] w (NewPost8 G (atY (if flagY f 4 = true then y else x)) w) := by
 obtain ⟨w1,hw1⟩ : ∃ w1,(w.alloc (.cells #[.int .i64 f] 38)).alloc (.cells #[.int .i64 0,.slice none 0 0,.int .i32 0,.slice none 0 0,.int .i64 0,.int .i64 0,.string ⟨#[]⟩,.int .i64 0,.int .i64 0,.bool false] 29) = w1 := ⟨_,rfl⟩
 obtain ⟨k0,hE1,hb1,hs1⟩ := box_flags w f #[.int .i64 0,.slice none 0 0,.int .i32 0,.slice none 0 0,.int .i64 0,.int .i64 0,.string ⟨#[]⟩,.int .i64 0,.int .i64 0,.bool false]
 rw [hw1] at k0 hE1 hb1 hs1
 have HW1 := Hd hw1;have HE1 := Hd hE1;have HB1 := Hd hb1;have HS1 := Hd hs1;have HX := Hd hx;have HY := Hd hy
 clear hw1 hE1 hb1 hs1 hx hy
 have HH := Hd (pyhas_any f 4)
 obtain ⟨Z,hZ⟩ : ∃ Z,(if flagY f 4 = true then y else x) = Z := ⟨_,rfl⟩
 rw [hZ]
 obtain ⟨B,hB⟩ : ∃ B,flagY f 4 = B := ⟨_,rfl⟩
 rw [hB] at HH hZ
 have HZ := Hd hZ
 clear hB hZ
 go_enter Tryz.func73,Tryz.ntmps73
 go_upto_region 1 with (fail)
 rw [HW1.out]
 go_wp2_with fail
 refine (HH.out w1).mono ?_
 rintro e w2 ⟨rfl,hb2⟩
 have HB2 := Hd (HB1.out.trans (hb2.mono HB1.out.size))
 have HE2 := Hd (HE1.out.below hb2 HE1.out.lt)
 clear hb2 k0
 obtain ⟨r0,r1,r2,r3,r4,r5,r6,r7,r8,r9⟩ := HE2.out.ten
 obtain ⟨z0,z1,z2,z3,z4,z5,z6,z7,z8,z9⟩ := whole_free HE2.out
 cases B
 ·go_wp2_with fail
  refine treeV_ret Tryz.results73 (w.heap.size + 1) rfl HE2.out ?_
  refine ⟨_,rfl,?_,set10_below HB2.out (Nat.le_succ _) _ _ _ _ _ _ _ _ _ _⟩
  rw [← HZ.out,if_neg (by decide)]
  exact treF_none _ _ ⟨5,0,[],x,0,⟨#[]⟩,0,0,false⟩ rfl (fld_ok (by decide) (by unfold I32;decide) HX.out (by decide) (by decide) (by decide) (Nat.zero_le _) (Nat.zero_le _))
 ·go_wp2_with fail
  refine treeV_ret Tryz.results73 (w.heap.size + 1) rfl HE2.out ?_
  refine ⟨_,rfl,?_,set10_below HB2.out (Nat.le_succ _) _ _ _ _ _ _ _ _ _ _⟩
  rw [← HZ.out,if_pos trivial]
  exact treF_none _ _ ⟨5,0,[],y,0,⟨#[]⟩,0,0,false⟩ rfl (fld_ok (by decide) (by unfold I32;decide) HY.out (by decide) (by decide) (by decide) (Nat.zero_le _) (Nat.zero_le _))
theorem pyitself_any (f c : Int) (hc : I32 c) (w : World) (hT : TabsT w) :
  Calls Tryz.prog 19 #[.agg #[.int .i64 f],.int .i32 c] w (NewPost8 (fun k => w.heap.size ≤ k) (atomY c (flagY f 1)) w) := by
 obtain ⟨w1,hw1⟩ : ∃ w1,(w.alloc (.cells #[.int .i64 f] 38)).alloc (.cells #[.int .i64 0,.slice none 0 0,.int .i32 0,.slice none 0 0,.int .i64 0,.int .i64 0,.string ⟨#[]⟩,.int .i64 0,.int .i64 0,.bool false] 29) = w1 := ⟨_,rfl⟩
 obtain ⟨k0,hE1,hb1,hs1⟩ := box_flags w f #[.int .i64 0,.slice none 0 0,.int .i32 0,.slice none 0 0,.int .i64 0,.int .i64 0,.string ⟨#[]⟩,.int .i64 0,.int .i64 0,.bool false]
 rw [hw1] at k0 hE1 hb1 hs1
 have HW1 := Hd hw1;have HE1 := Hd hE1;have HB1 := Hd hb1;have HS1 := Hd hs1;have HC := Hd hc;have HT := Hd hT
 clear hw1 hE1 hb1 hs1 hc hT
 have HH := Hd (pyhas_any f 1)
 obtain ⟨B,hB⟩ : ∃ B,flagY f 1 = B := ⟨_,rfl⟩
 rw [hB] at HH ⊢
 clear hB
 go_enter Tryz.func19,Tryz.ntmps19
 go_upto_region 1 with (fail)
 rw [HW1.out]
 go_wp2_with fail
 refine (HH.out w1).mono ?_
 rintro e w2 ⟨rfl,hb2⟩
 have HB2 := Hd (HB1.out.trans (hb2.mono HB1.out.size))
 have HE2 := Hd (HE1.out.below hb2 HE1.out.lt)
 have HS2 := Hd (show w.heap.size + 2 ≤ w2.heap.size by have := HS1.out;have := hb2.size;omega)
 clear hb2 k0
 cases B
 ·obtain ⟨r0,r1,r2,r3,r4,r5,r6,r7,r8,r9⟩ := HE2.out.ten
  obtain ⟨z0,z1,z2,z3,z4,z5,z6,z7,z8,z9⟩ := whole_free HE2.out
  go_wp2_with fail
  refine treeV_ret Tryz.results19 (w.heap.size + 1) rfl HE2.out ?_
  refine ⟨_,rfl,?_,set10_below HB2.out (Nat.le_succ _) _ _ _ _ _ _ _ _ _ _⟩
  unfold atomY
  rw [if_neg (fun h => by cases h.1)]
  exact treF_none _ _ ⟨3,c,[],0,0,⟨#[]⟩,0,0,false⟩ rfl (fld_ok (by decide) HC.out (by decide) (by decide) (by decide) (by decide) (Nat.zero_le _) (Nat.zero_le _))
 ·go_wp2_with fail
  refine (orbit_any c w2 HC.out (HT.out.below HB2.out)).mono ?_
  rintro e w3 ⟨v3,rfl,ho3,hb3⟩
  have HB3 := Hd (HB2.out.trans (hb3.mono HB2.out.size))
  have HE3 := Hd (HE2.out.below hb3 HE2.out.lt)
  have HS3 := Hd (show w.heap.size + 2 ≤ w3.heap.size by have := HS2.out;have := hb3.size;omega)
  obtain ⟨a3,c3,hv3,-⟩ := ho3.rns
  subst hv3
  clear ho3 hb3
  obtain ⟨n,hn⟩ : ∃ n,(orbR c).length = n := ⟨_,rfl⟩
  rw [hn]
  obtain ⟨r0,r1,r2,r3,r4,r5,r6,r7,r8,r9⟩ := HE3.out.ten
  obtain ⟨z0,z1,z2,z3,z4,z5,z6,z7,z8,z9⟩ := whole_free HE3.out
  by_cases h2 : 2 ≤ n
  ·have x0 : decide ((1 : Int) < (n : Int)) = true := decide_eq_true (by omega)
   have x1 : (1 : Int) < (n : Int) := by omega
   have HN := Hd (show 2 ≤ (orbR c).length by omega)
   clear hn h2 r0 r1 r2 r3 r4 r5 r6 r7 r8 r9 z0 z1 z2 z3 z4 z5 z6 z7 z8 z9
   go_upto_region 2 with (fail)
   obtain ⟨w4,hw4⟩ : ∃ w4,w3.alloc (.cells #[.int .i32 c,.int .i32 c] 51) = w4 := ⟨_,rfl⟩
   have HR4 := Hd (rgs_new w3 c c HC.out HC.out)
   have HB34 := Hd ((Below.refl _ w3).alloc (Nat.le_refl _) (.cells #[.int .i32 c,.int .i32 c] 51))
   rw [hw4] at HR4 HB34
   have HB4 := Hd (HB3.out.trans (HB34.out.mono HB3.out.size))
   have HE4 := Hd (HE3.out.below HB34.out HE3.out.lt)
   have HF := Hd (fold_any _ _ w4 HR4.out (by simp) (HT.out.below HB4.out))
   have HW4 := Hd hw4
   clear hw4
   go_wp2_with fail
   rw [HW4.out]
   refine HF.out.mono ?_
   rintro e w5 ⟨v5,k5,rfl,ho,hr,hh,hb5⟩
   have HB5 := Hd (HB4.out.trans (hb5.mono HB4.out.size))
   have HE5 := Hd (HE4.out.below hb5 HE4.out.lt)
   have HA := Hd (atom_fold hr hh HN.out)
   have HS := Hd (pyofSet_any v5 k5 w5 ho.rgs (by have := right8_small hr;omega) (fun k => w4.heap.size ≤ k) (fun b hb => own_ge ho b hb))
   clear ho hr hh hb5
   go_wp2_with fail
   refine HS.out.mono ?_
   rintro e w6 ⟨v6,rfl,ht,hb6⟩
   obtain ⟨kv,sv,rfl,⟨y1,y2,y3,rfl⟩,⟨y4,y5,y6,rfl⟩⟩ := ht.ten
   have HT6 := Hd ht;have HB6 := Hd (HB5.out.trans (hb6.mono HB5.out.size));have HE6 := Hd (HE5.out.below hb6 HE5.out.lt)
   clear ht hb6
   obtain ⟨r0,r1,r2,r3,r4,r5,r6,r7,r8,r9⟩ := HE6.out.ten
   obtain ⟨z0,z1,z2,z3,z4,z5,z6,z7,z8,z9⟩ := whole_free HE6.out
   go_wp2_with fail
   refine treeV_ret Tryz.results19 (w.heap.size + 1) rfl HE6.out ?_
   refine ⟨_,rfl,?_,set10_below HB6.out (Nat.le_succ _) _ _ _ _ _ _ _ _ _ _⟩
   unfold atomY
   rw [if_pos ⟨rfl,HN.out⟩,← HA.out]
   have h4 : w.heap.size + 2 ≤ w4.heap.size := by have := HS3.out;have := HB34.out.size;omega
   exact (treF_set10 HT6.out (fun k hk => by omega) _ _ _ _ _ _ _ _ _ _).same (fun _ _ _ => rfl) (fun k hk _ => by omega)
  ·have x0 : decide ((1 : Int) < (n : Int)) = false := decide_eq_false (by omega)
   have x1 : ¬ (1 : Int) < (n : Int) := by omega
   have HN := Hd (show ¬ 2 ≤ (orbR c).length by omega)
   clear hn h2
   go_wp2_with fail
   refine treeV_ret Tryz.results19 (w.heap.size + 1) rfl HE3.out ?_
   refine ⟨_,rfl,?_,set10_below HB3.out (Nat.le_succ _) _ _ _ _ _ _ _ _ _ _⟩
   unfold atomY
   rw [if_neg (fun h => HN.out h.2)]
   exact treF_none _ _ ⟨3,c,[],0,0,⟨#[]⟩,0,0,false⟩ rfl (fld_ok (by decide) HC.out (by decide) (by decide) (by decide) (by decide) (Nat.zero_le _) (Nat.zero_le _))
def meantY (f c : Int) : Tr := if c = 46 then setY (dotR (flagY f 8)) else if c = 94 then atY (if flagY f 4 = true then 4 else 1) else if c = 36 then atY (if flagY f 4 = true then 8 else 2) else atomY c (flagY f 1)
theorem plain_meant (s : ByteArray) (i : Nat) (f : Int) (ns : List (List UInt8)) : plainY s i f ns = .ok [meantY f ((Utf8.decode s i).1 : Nat)] (i + (Utf8.decode s i).2) f ns := by
 unfold plainY meantY
 simp only
 repeat' split
 all_goals rfl
theorem pymeant_any (f c : Int) (hc : I32 c) (w : World) (hT : TabsT w) :
  Calls Tryz.prog 47 #[.agg #[.int .i64 f],.int .i32 c] w (NewPost8 (fun k => w.heap.size ≤ k) (meantY f c) w) := by
 obtain ⟨w1,hw1⟩ : ∃ w1,(w.alloc (.cells #[.int .i64 f] 38)).alloc (.cells #[.int .i64 0,.slice none 0 0,.int .i32 0,.slice none 0 0,.int .i64 0,.int .i64 0,.string ⟨#[]⟩,.int .i64 0,.int .i64 0,.bool false] 29) = w1 := ⟨_,rfl⟩
 obtain ⟨k0,hE1,hb1,hs1⟩ := box_flags w f #[.int .i64 0,.slice none 0 0,.int .i32 0,.slice none 0 0,.int .i64 0,.int .i64 0,.string ⟨#[]⟩,.int .i64 0,.int .i64 0,.bool false]
 rw [hw1] at k0 hE1 hb1 hs1
 have HW1 := Hd hw1;have HE1 := Hd hE1;have HB1 := Hd hb1;have HS1 := Hd hs1;have HC := Hd hc;have HT := Hd (hT.below hb1)
 clear hw1 hE1 hb1 hs1 hc hT
 have HEND : ∀ (t : Tr) (w2 : World) (v : Value),TreF (fun k => w.heap.size + 2 ≤ k) w2 t v → Below w1.heap.size w1 w2 → ∃ y1 y2 y3 y4 y5 y6,v = .agg #[.int .i64 t.fld.op,.slice y1 y2 y3,.int .i32 t.fld.rune,.slice y4 y5 y6,.int .i64 t.fld.at',.int .i64 t.fld.cap,.string t.fld.name,.int .i64 t.fld.min,.int .i64 t.fld.max,.bool t.fld.lazy] ∧ Whole w2 (w.heap.size + 1) 29 #[.int .i64 0,.slice none 0 0,.int .i32 0,.slice none 0 0,.int .i64 0,.int .i64 0,.string ⟨#[]⟩,.int .i64 0,.int .i64 0,.bool false] ∧
   NewPost8 (fun k => w.heap.size ≤ k) t w (.returned v) (set10 w2 (w.heap.size + 1) (.int .i64 t.fld.op) (.slice y1 y2 y3) (.int .i32 t.fld.rune) (.slice y4 y5 y6) (.int .i64 t.fld.at') (.int .i64 t.fld.cap) (.string t.fld.name) (.int .i64 t.fld.min) (.int .i64 t.fld.max) (.bool t.fld.lazy)) := by
  intro t w2 v ht hb
  obtain ⟨kv,sv,rfl,⟨y1,y2,y3,rfl⟩,⟨y4,y5,y6,rfl⟩⟩ := ht.ten
  exact ⟨y1,y2,y3,y4,y5,y6,rfl,HE1.out.below hb HE1.out.lt,_,rfl,(treF_set10 ht (fun k hk => by omega) _ _ _ _ _ _ _ _ _ _).same (fun _ _ _ => rfl) (fun k hk _ => by omega),set10_below (HB1.out.trans (hb.mono HB1.out.size)) (Nat.le_succ _) _ _ _ _ _ _ _ _ _ _⟩
 have HEND := Hd HEND
 obtain ⟨T,hTT⟩ : ∃ T,meantY f c = T := ⟨_,rfl⟩
 rw [hTT]
 unfold meantY at hTT
 by_cases h1 : c = 46
 ·subst h1
  have HTT := Hd ((if_pos rfl).symm.trans hTT)
  have HH := Hd (pyhas_any f 8 w1)
  obtain ⟨B,hB⟩ : ∃ B,flagY f 8 = B := ⟨_,rfl⟩
  rw [hB] at HH HTT
  clear hB hTT
  go_enter Tryz.func47,Tryz.ntmps47
  go_upto_region 1 with (fail)
  rw [HW1.out]
  go_wp2_with fail
  refine HH.out.mono ?_
  rintro e w2 ⟨rfl,hb2⟩
  have HB2 := Hd hb2
  clear hb2 k0
  go_wp2_with fail
  refine (dot_any B w2).mono ?_
  rintro e w3 ⟨v3,rfl,ho,hb3⟩
  have HB3 := Hd (HB2.out.trans (hb3.mono HB2.out.size))
  have HS := Hd (pyofSet_any v3 (dotR B) w3 ho.rgs (by have := right8_small (dot_right B);omega) (fun k => w.heap.size + 2 ≤ k) (fun b hb => by have := own_ge ho b hb;have := HS1.out;have := HB2.out.size;omega))
  rw [HTT.out] at HS
  clear ho hb3 HH
  go_wp2_with fail
  refine HS.out.mono ?_
  rintro e w4 ⟨v4,rfl,ht,hb4⟩
  obtain ⟨y1,y2,y3,y4,y5,y6,rfl,hE4,hP⟩ := HEND.out _ w4 v4 ht (HB3.out.trans (hb4.mono HB3.out.size))
  have HE4 := Hd hE4;have HP := Hd hP
  clear ht hb4 hE4 hP HEND
  obtain ⟨r0,r1,r2,r3,r4,r5,r6,r7,r8,r9⟩ := HE4.out.ten
  obtain ⟨z0,z1,z2,z3,z4,z5,z6,z7,z8,z9⟩ := whole_free HE4.out
  go_wp2_with fail
  refine treeV_ret Tryz.results47 (w.heap.size + 1) rfl HE4.out ?_
  exact HP.out
 have c1 : (c == 46) = false := eq_false_of h1
 rw [if_neg h1] at hTT
 by_cases h2 : c = 94
 ·subst h2
  have HTT := Hd ((if_pos rfl).symm.trans hTT)
  have HA := Hd (pyedge_any f 1 4 (by decide) (by decide) w1 (fun k => w.heap.size + 2 ≤ k))
  rw [HTT.out] at HA
  clear hTT c1
  go_enter Tryz.func47,Tryz.ntmps47
  go_upto_region 1 with (fail)
  rw [HW1.out]
  go_wp2_with fail
  refine HA.out.mono ?_
  rintro e w4 ⟨v4,rfl,ht,hb4⟩
  obtain ⟨y1,y2,y3,y4,y5,y6,rfl,hE4,hP⟩ := HEND.out _ w4 v4 ht hb4
  have HE4 := Hd hE4;have HP := Hd hP
  clear ht hb4 hE4 hP HEND k0
  obtain ⟨r0,r1,r2,r3,r4,r5,r6,r7,r8,r9⟩ := HE4.out.ten
  obtain ⟨z0,z1,z2,z3,z4,z5,z6,z7,z8,z9⟩ := whole_free HE4.out
  go_wp2_with fail
  refine treeV_ret Tryz.results47 (w.heap.size + 1) rfl HE4.out ?_
  exact HP.out
 have c2 : (c == 94) = false := eq_false_of h2
 rw [if_neg h2] at hTT
 by_cases h3 : c = 36
 ·subst h3
  have HTT := Hd ((if_pos rfl).symm.trans hTT)
  have HA := Hd (pyedge_any f 2 8 (by decide) (by decide) w1 (fun k => w.heap.size + 2 ≤ k))
  rw [HTT.out] at HA
  clear hTT c1 c2
  go_enter Tryz.func47,Tryz.ntmps47
  go_upto_region 1 with (fail)
  rw [HW1.out]
  go_wp2_with fail
  refine HA.out.mono ?_
  rintro e w4 ⟨v4,rfl,ht,hb4⟩
  obtain ⟨y1,y2,y3,y4,y5,y6,rfl,hE4,hP⟩ := HEND.out _ w4 v4 ht hb4
  have HE4 := Hd hE4;have HP := Hd hP
  clear ht hb4 hE4 hP HEND k0
  obtain ⟨r0,r1,r2,r3,r4,r5,r6,r7,r8,r9⟩ := HE4.out.ten
  obtain ⟨z0,z1,z2,z3,z4,z5,z6,z7,z8,z9⟩ := whole_free HE4.out
  go_wp2_with fail
  refine treeV_ret Tryz.results47 (w.heap.size + 1) rfl HE4.out ?_
  exact HP.out
 have c3 : (c == 36) = false := eq_false_of h3
 have HTT := Hd ((if_neg h3).symm.trans hTT)
 have HA := Hd (pyitself_any f c HC.out w1 HT.out)
 rw [HTT.out] at HA
 clear hTT h1 h2 h3
 go_enter Tryz.func47,Tryz.ntmps47
 go_upto_region 1 with (fail)
 rw [HW1.out]
 go_wp2_with fail
 refine HA.out.mono ?_
 rintro e w4 ⟨v4,rfl,ht,hb4⟩
 obtain ⟨y1,y2,y3,y4,y5,y6,rfl,hE4,hP⟩ := HEND.out _ w4 v4 (ht.same (fun _ _ _ => rfl) fun k hk _ => by have := HS1.out;omega) hb4
 have HE4 := Hd hE4;have HP := Hd hP
 clear ht hb4 hE4 hP HEND k0
 obtain ⟨r0,r1,r2,r3,r4,r5,r6,r7,r8,r9⟩ := HE4.out.ten
 obtain ⟨z0,z1,z2,z3,z4,z5,z6,z7,z8,z9⟩ := whole_free HE4.out
 go_wp2_with fail
 refine treeV_ret Tryz.results47 (w.heap.size + 1) rfl HE4.out ?_
 exact HP.out
def timesV (c a b : Int) (lz : Bool) : Value := .agg #[.int .i64 (opY c),.slice none 0 0,.int .i32 0,.slice none 0 0,.int .i64 0,.int .i64 0,.string ⟨#[]⟩,.int .i64 (if c = 123 then a else 0),.int .i64 (if c = 123 then b else 0),.bool lz]
def TimesPost (q : Nat) (f : Int) (s : ByteArray) (j : Nat) (nv : Value) (O : Option (Int × Int × Int × Nat)) (w : World) (e : Ending) (w' : World) : Prop :=
 match O with
 | none => e = .returned (.tuple #[treZero,.bool false]) ∧ Tk q f s j nv w w'
 | some (c,a,b,k) => e = .returned (.tuple #[timesV c a b false,.bool true]) ∧ Tk q f s k nv w w'
theorem Tk.setTen {q : Nat} {f : Int} {s : ByteArray} {j : Nat} {nv : Value} {w w2 : World} (h : Tk q f s j nv w w2) {b : Nat} (hb : w.heap.size ≤ b) (hq : q < w.heap.size) (x0 x1 x2 x3 x4 x5 x6 x7 x8 x9 : Value) : Tk q f s j nv w (set10 w2 b x0 x1 x2 x3 x4 x5 x6 x7 x8 x9) := by
 have hs := set10_same w2 b x0 x1 x2 x3 x4 x5 x6 x7 x8 x9
 have hz := set10_size w2 b x0 x1 x2 x3 x4 x5 x6 x7 x8 x9
 have hB := set10_below (Below.refl b w2) (Nat.le_refl b) x0 x1 x2 x3 x4 x5 x6 x7 x8 x9
 have ho := hB.os;have hp := hB.tape;have hu := hB.output
 clear hB
 generalize set10 w2 b x0 x1 x2 x3 x4 x5 x6 x7 x8 x9 = w3 at hs hz ho hp hu ⊢
 refine ⟨⟨ho.trans h.1.os,hp.trans h.1.tape,hu.trans h.1.output,by rw [hz];exact h.1.size,fun k hk hn => (hs k (show k ≠ b by omega) (Nat.lt_of_lt_of_le hk h.1.size)).trans (h.1.block k hk hn)⟩,?_⟩
 have e := hs q (show q ≠ b by omega) h.2.lt
 unfold SrIn Whole
 rw [e]
 exact h.2
theorem rep_sign {s : ByteArray} {j : Nat} {c : Int} (h : headI (leftB s j) = c) (hc : c = 42 ∨ c = 43 ∨ c = 63) : repY s j = some (c,0,0,j + 1) := by
 unfold repY
 rw [h,if_pos hc]
theorem rep_count {s : ByteArray} {j : Nat} (h1 : ¬ headI (leftB s j) = 42) (h2 : ¬ headI (leftB s j) = 43) (h3 : ¬ headI (leftB s j) = 63) : repY s j = match countS s j with
  | none => none
  | some (a,b,k) => some (123,a,b,k) := by
 unfold repY
 rw [if_neg (by omega)]
 rfl
theorem pytimes_any (q : Nat) (f : Int) (s : ByteArray) (j : Nat) (nv : Value) (w : World) (hs : s.size ≤ 4503599627370496) (hj : j ≤ s.size) (h : SrIn w q f s j nv) :
  Calls Tryz.prog 57 #[.pointer (some ⟨q,0,none⟩)] w (TimesPost q f s j nv (repY s j) w) := by
 obtain ⟨w1,hw1⟩ : ∃ w1,w.alloc (.cells #[.int .i64 0,.slice none 0 0,.int .i32 0,.slice none 0 0,.int .i64 0,.int .i64 0,.string ⟨#[]⟩,.int .i64 0,.int .i64 0,.bool false] 29) = w1 := ⟨_,rfl⟩
 obtain ⟨hE1,hb1,hs1⟩ := box_tree w #[.int .i64 0,.slice none 0 0,.int .i32 0,.slice none 0 0,.int .i64 0,.int .i64 0,.string ⟨#[]⟩,.int .i64 0,.int .i64 0,.bool false]
 rw [hw1] at hE1 hb1 hs1
 have HW1 := Hd hw1;have HE1 := Hd hE1;have HS1 := Hd hs1;have HK1 := Hd (Tk.of_below h hb1);have HQ := Hd h.lt;have HJ := Hd hj
 clear hw1 hE1 hb1 hs1 h hj
 have HN := Hd (fun c (hc : ¬ headI (leftB s j) = (c : UInt8).toNat) W (hr : SrIn W q f s j nv) => pytake_no q f s c j nv W hs HJ.out hr hc)
 have HY := Hd (fun c (hc : headI (leftB s j) = (c : UInt8).toNat) W (hr : SrIn W q f s j nv) => pytake_yes q f s c j nv W hs HJ.out hr hc)
 obtain ⟨O,hO⟩ : ∃ O,repY s j = O := ⟨_,rfl⟩
 rw [hO]
 have HO := Hd hO
 clear hO
 by_cases h42 : headI (leftB s j) = ((42 : UInt8).toNat : Int)
 ·have HC := Hd (HO.out.symm.trans (rep_sign (c := 42) h42 (by decide)))
  have H42 := Hd h42
  clear h42
  go_enter Tryz.func57,Tryz.ntmps57
  go_upto_region 1 with (fail)
  rw [HW1.out]
  go_wp2_with fail
  refine (HY.out 42 H42.out w1 HK1.out.2).mono ?_
  rintro e w2 ⟨rfl,ht⟩
  have HK2 := Hd (HK1.out.trans ht);have HE2 := Hd (ht.whole HE1.out (by have := HQ.out;omega))
  clear ht
  obtain ⟨r0,r1,r2,r3,r4,r5,r6,r7,r8,r9⟩ := HE2.out.ten
  obtain ⟨z0,z1,z2,z3,z4,z5,z6,z7,z8,z9⟩ := whole_free HE2.out
  go_wp2_with fail
  refine treeB_ret Tryz.results57 w.heap.size true rfl rfl HE2.out ?_
  rw [HC.out]
  exact ⟨rfl,HK2.out.setTen (Nat.le_refl _) HQ.out _ _ _ _ _ _ _ _ _ _⟩
 have H42 := Hd h42
 by_cases h43 : headI (leftB s j) = ((43 : UInt8).toNat : Int)
 ·have HC := Hd (HO.out.symm.trans (rep_sign (c := 43) h43 (by decide)))
  have H43 := Hd h43
  clear h43
  go_enter Tryz.func57,Tryz.ntmps57
  go_upto_region 1 with (fail)
  rw [HW1.out]
  go_wp2_with fail
  refine (HN.out 42 H42.out w1 HK1.out.2).mono ?_
  rintro e wa0 ⟨rfl,ht⟩
  have HKa0 := Hd (HK1.out.trans ht);have HEa0 := Hd (ht.whole HE1.out (by have := HQ.out;omega))
  clear ht
  go_wp2_with fail
  refine (HY.out 43 H43.out wa0 HKa0.out.2).mono ?_
  rintro e w2 ⟨rfl,ht⟩
  have HK2 := Hd (HKa0.out.trans ht);have HE2 := Hd (ht.whole HEa0.out (by have := HQ.out;omega))
  clear ht
  obtain ⟨r0,r1,r2,r3,r4,r5,r6,r7,r8,r9⟩ := HE2.out.ten
  obtain ⟨z0,z1,z2,z3,z4,z5,z6,z7,z8,z9⟩ := whole_free HE2.out
  go_wp2_with fail
  refine treeB_ret Tryz.results57 w.heap.size true rfl rfl HE2.out ?_
  rw [HC.out]
  exact ⟨rfl,HK2.out.setTen (Nat.le_refl _) HQ.out _ _ _ _ _ _ _ _ _ _⟩
 have H43 := Hd h43
 by_cases h63 : headI (leftB s j) = ((63 : UInt8).toNat : Int)
 ·have HC := Hd (HO.out.symm.trans (rep_sign (c := 63) h63 (by decide)))
  have H63 := Hd h63
  clear h63
  go_enter Tryz.func57,Tryz.ntmps57
  go_upto_region 1 with (fail)
  rw [HW1.out]
  go_wp2_with fail
  refine (HN.out 42 H42.out w1 HK1.out.2).mono ?_
  rintro e wa0 ⟨rfl,ht⟩
  have HKa0 := Hd (HK1.out.trans ht);have HEa0 := Hd (ht.whole HE1.out (by have := HQ.out;omega))
  clear ht
  go_wp2_with fail
  refine (HN.out 43 H43.out wa0 HKa0.out.2).mono ?_
  rintro e wa1 ⟨rfl,ht⟩
  have HKa1 := Hd (HKa0.out.trans ht);have HEa1 := Hd (ht.whole HEa0.out (by have := HQ.out;omega))
  clear ht
  go_wp2_with fail
  refine (HY.out 63 H63.out wa1 HKa1.out.2).mono ?_
  rintro e w2 ⟨rfl,ht⟩
  have HK2 := Hd (HKa1.out.trans ht);have HE2 := Hd (ht.whole HEa1.out (by have := HQ.out;omega))
  clear ht
  obtain ⟨r0,r1,r2,r3,r4,r5,r6,r7,r8,r9⟩ := HE2.out.ten
  obtain ⟨z0,z1,z2,z3,z4,z5,z6,z7,z8,z9⟩ := whole_free HE2.out
  go_wp2_with fail
  refine treeB_ret Tryz.results57 w.heap.size true rfl rfl HE2.out ?_
  rw [HC.out]
  exact ⟨rfl,HK2.out.setTen (Nat.le_refl _) HQ.out _ _ _ _ _ _ _ _ _ _⟩
 have H63 := Hd h63
 have HC := Hd (HO.out.symm.trans (rep_count h42 h43 h63))
 clear h42 h43 h63
 go_enter Tryz.func57,Tryz.ntmps57
 go_upto_region 1 with (fail)
 rw [HW1.out]
 go_wp2_with fail
 refine (HN.out 42 H42.out w1 HK1.out.2).mono ?_
 rintro e wa0 ⟨rfl,ht⟩
 have HKa0 := Hd (HK1.out.trans ht);have HEa0 := Hd (ht.whole HE1.out (by have := HQ.out;omega))
 clear ht
 go_wp2_with fail
 refine (HN.out 43 H43.out wa0 HKa0.out.2).mono ?_
 rintro e wa1 ⟨rfl,ht⟩
 have HKa1 := Hd (HKa0.out.trans ht);have HEa1 := Hd (ht.whole HEa0.out (by have := HQ.out;omega))
 clear ht
 go_wp2_with fail
 refine (HN.out 63 H63.out wa1 HKa1.out.2).mono ?_
 rintro e wa2 ⟨rfl,ht⟩
 have HKa2 := Hd (HKa1.out.trans ht);have HEa2 := Hd (ht.whole HEa1.out (by have := HQ.out;omega))
 clear ht
 have HP := Hd (fun W => pcount_any s j W hs HJ.out)
 obtain ⟨c0,c1,c2,c3⟩ := HKa2.out.2.cells
 clear c0 c3
 obtain ⟨R,hR⟩ : ∃ R,countS s j = R := ⟨_,rfl⟩
 rw [hR] at HC HP
 clear hR
 unfold CountPost at HP
 cases R with
 | none =>
  have HC : Hid (O = none) := HC
  go_wp2_with fail
  go_region_with (go_at_call 77;refine (HP.out _).mono ?_;rintro e w2 ⟨hb2,hr⟩;obtain rfl : e = .returned (.tuple #[.int .i64 0,.int .i64 0,.int .i64 0,.bool false]) := by (rcases hr with ⟨-,h⟩ | ⟨_,_,_,h,-⟩;exact h;cases h))
  all_goals
   have HK2 := Hd (HKa2.out.below (hb2.of_drew))
   have HE2 := Hd (HEa2.out.below hb2.of_drew HEa2.out.lt)
   clear hb2 hr c1 c2
   obtain ⟨r0,r1,r2,r3,r4,r5,r6,r7,r8,r9⟩ := HE2.out.ten
   obtain ⟨z0,z1,z2,z3,z4,z5,z6,z7,z8,z9⟩ := whole_free HE2.out
   go_wp2_with fail
   refine treeB_ret Tryz.results57 w.heap.size false rfl rfl HE2.out ?_
   rw [HC.out]
   exact ⟨rfl,HK2.out.setTen (Nat.le_refl _) HQ.out _ _ _ _ _ _ _ _ _ _⟩
 | some r =>
  obtain ⟨a,b,k⟩ := r
  have HC : Hid (O = some (123,a,b,k)) := HC
  go_wp2_with fail
  go_region_with (go_at_call 77;refine (HP.out _).mono ?_;rintro e w2 ⟨hb2,hr⟩;obtain rfl : e = .returned (.tuple #[.int .i64 a,.int .i64 b,.int .i64 (k : Int),.bool true]) := by (rcases hr with ⟨h,-⟩ | ⟨_,_,_,h,h2⟩;cases h;cases h;exact h2))
  all_goals
   have HK2 := Hd (HKa2.out.below (hb2.of_drew))
   have HE2 := Hd (HEa2.out.below hb2.of_drew HEa2.out.lt)
   clear hb2 hr c1 c2
   obtain ⟨r0,r1,r2,r3,r4,r5,r6,r7,r8,r9⟩ := HE2.out.ten
   obtain ⟨z0,z1,z2,z3,z4,z5,z6,z7,z8,z9⟩ := whole_free HE2.out
   obtain ⟨f0,f2,f3⟩ := HK2.out.2.frees
   obtain ⟨c0,c1,c2,c3⟩ := HK2.out.2.cells
   have hne : q ≠ w.heap.size := by have := HQ.out;omega
   have HK3 := Hd (HK2.out.putJ k (k : Int) rfl)
   have HE3 := Hd (HE2.out.far (g' := q) (fun e => hne e.symm) 2 (.int .i64 (k : Int)))
   clear c0 c1 c3 f0 f3
   go_wp2_with fail
   refine treeB_ret Tryz.results57 w.heap.size true rfl rfl HE3.out ?_
   rw [HC.out]
   exact ⟨rfl,HK3.out.setTen (Nat.le_refl _) HQ.out _ _ _ _ _ _ _ _ _ _⟩
def RepPost (q : Nat) (f : Int) (s : ByteArray) (j : Nat) (nv : Value) (atom : Bool) (O : Option (Int × Int × Int × Nat)) (w : World) (e : Ending) (w' : World) : Prop :=
 match O with
 | none => e = .returned (.tuple #[treZero,.bool false]) ∧ Tk q f s j nv w w'
 | some (c,a,b,k) => if atom = false then e = thrown (.iface 32 (wrongV 82 j k)) ∧ w.grownBy w' (some q) else if sizedY c a b = false then e = thrown (.iface 32 (wrongV 85 j k)) ∧ w.grownBy w' (some q)
  else e = .returned (.tuple #[timesV c a b (lazyY s k f != flagY f 16),.bool true]) ∧ Tk q f s (if lazyY s k f = true then k + 1 else k) nv w w'
theorem Tk.setOne {q : Nat} {f : Int} {s : ByteArray} {j : Nat} {nv : Value} {w w2 : World} (h : Tk q f s j nv w w2) {b : Nat} (hb : w.heap.size ≤ b) (hq : q < w.heap.size) (i : Nat) (u : Value) : Tk q f s j nv w (w2.setCell ⟨b,i,none⟩ u) := by
 have hg := tk_set w2 b i u
 refine ⟨⟨hg.os.trans h.1.os,hg.tape.trans h.1.tape,hg.output.trans h.1.output,Nat.le_trans h.1.size hg.size,fun k hk hn => (hg.block k (Nat.lt_of_lt_of_le hk h.1.size) (fun e => by have := Option.some.inj e;omega)).trans (h.1.block k hk hn)⟩,?_⟩
 exact Whole.far h.2 (show q ≠ b by omega) i u
theorem rep_82 {q : Nat} {f : Int} {s : ByteArray} {j k : Nat} {nv : Value} {c a b : Int} {w w' : World} (h : w.grownBy w' (some q)) : RepPost q f s j nv false (some (c,a,b,k)) w (thrown (.iface 32 (wrongV 82 j k))) w' := by
 unfold RepPost
 dsimp only
 rw [if_pos rfl]
 exact ⟨rfl,h⟩
theorem rep_85 {q : Nat} {f : Int} {s : ByteArray} {j k : Nat} {nv : Value} {c a b : Int} {w w' : World} (hz : sizedY c a b = false) (h : w.grownBy w' (some q)) : RepPost q f s j nv true (some (c,a,b,k)) w (thrown (.iface 32 (wrongV 85 j k))) w' := by
 unfold RepPost
 dsimp only
 rw [if_neg (by decide),if_pos hz]
 exact ⟨rfl,h⟩
theorem rep_ok8 {q : Nat} {f : Int} {s : ByteArray} {j k : Nat} {nv : Value} {c a b : Int} {w w' : World} {lz sw : Bool} {v : Value} (hz : sizedY c a b = true) (hl : lazyY s k f = lz) (hsw : flagY f 16 = sw) (hv : timesV c a b (lz != sw) = v) (h : Tk q f s (if lz = true then k + 1 else k) nv w w') : RepPost q f s j nv true (some (c,a,b,k)) w (.returned (.tuple #[v,.bool true])) w' := by
 unfold RepPost
 dsimp only
 rw [if_neg (by decide),if_neg (by rw [hz];decide),hl,hsw,hv]
 exact ⟨rfl,h⟩
theorem sized_cases {c a b : Int} (hc : c = 42 ∨ c = 43 ∨ c = 63 ∨ c = 123) (ha : 0 ≤ a) (hb : b = -1 ∨ 0 ≤ b) : ∃ m M : Int,(if c = 123 then a else 0) = m ∧ (if c = 123 then b else 0) = M ∧
  ((sizedY c a b = true ∧ max m M ≤ 1000 ∧ -1 ≤ M ∧ 0 ≤ m ∧ (M < 0 ∨ m ≤ M)) ∨ (sizedY c a b = false ∧ (1000 < max m M ∨ (max m M ≤ 1000 ∧ 0 ≤ M ∧ M < m)))) := by
 refine ⟨_,_,rfl,rfl,?_⟩
 unfold sizedY
 by_cases h : c = 123
 ·subst h
  simp only [if_true]
  by_cases h1 : a ≤ 1000 ∧ b ≤ 1000 ∧ (b = -1 ∨ a ≤ b)
  ·refine .inl ⟨?_,by omega,by omega,by omega,by omega⟩
   simp [h1.1,h1.2.1,h1.2.2]
  ·refine .inr ⟨?_,by omega⟩
   simp
   omega
 ·rw [if_neg h,if_neg h]
  refine .inl ⟨by simp [h],by decide,by decide,by decide,.inr (by decide)⟩
theorem lazy_if (s : ByteArray) (k : Nat) (f : Int) : lazyY s k f = (flagY f 32 && preB [63] (leftB s k)) := by
 unfold lazyY
 rw [pre_one]
 rfl
theorem pyrepeat_any (q : Nat) (f : Int) (s : ByteArray) (j : Nat) (nv : Value) (atom : Bool) (w : World) (hs : s.size ≤ 4503599627370496) (hj : j ≤ s.size) (h : SrIn w q f s j nv) :
  Calls Tryz.prog 40 #[.pointer (some ⟨q,0,none⟩),.bool atom] w (RepPost q f s j nv atom (repY s j) w) := by
 obtain ⟨w1,hw1⟩ : ∃ w1,w.alloc (.cells #[.int .i64 0,.slice none 0 0,.int .i32 0,.slice none 0 0,.int .i64 0,.int .i64 0,.string ⟨#[]⟩,.int .i64 0,.int .i64 0,.bool false] 29) = w1 := ⟨_,rfl⟩
 obtain ⟨hE1,hb1,hs1⟩ := box_tree w #[.int .i64 0,.slice none 0 0,.int .i32 0,.slice none 0 0,.int .i64 0,.int .i64 0,.string ⟨#[]⟩,.int .i64 0,.int .i64 0,.bool false]
 rw [hw1] at hE1 hb1 hs1
 have HW1 := Hd hw1;have HE1 := Hd hE1;have HS1 := Hd hs1;have HK1 := Hd (Tk.of_below h hb1);have HQ := Hd h.lt;have HJ := Hd hj
 clear hw1 hE1 hb1 hs1 h hj
 obtain ⟨c0,c1,c2,c3⟩ := HK1.out.2.cells
 clear c0 c1 c3
 have HT := Hd (pytimes_any q f s j nv w1 hs HJ.out HK1.out.2)
 obtain ⟨O,hO⟩ : ∃ O,repY s j = O := ⟨_,rfl⟩
 rw [hO] at HT ⊢
 unfold TimesPost at HT
 cases O with
 | none =>
  clear hO
  go_enter Tryz.func40,Tryz.ntmps40
  go_upto_region 1 with (fail)
  rw [HW1.out]
  go_wp2_with fail
  refine HT.out.mono ?_
  rintro e w2 ⟨he,ht⟩
  unfold treZero at he
  subst he
  have HK2 := Hd (HK1.out.trans ht);have HE2 := Hd (ht.whole HE1.out (by have := HQ.out;omega))
  clear ht HT c2
  obtain ⟨w3,hw3⟩ : ∃ w3,w2.alloc (.cells #[.int .i64 0,.slice none 0 0,.int .i32 0,.slice none 0 0,.int .i64 0,.int .i64 0,.string ⟨#[]⟩,.int .i64 0,.int .i64 0,.bool false] 29) = w3 := ⟨_,rfl⟩
  obtain ⟨hE3,hb3,hs3⟩ := box_tree w2 #[.int .i64 0,.slice none 0 0,.int .i32 0,.slice none 0 0,.int .i64 0,.int .i64 0,.string ⟨#[]⟩,.int .i64 0,.int .i64 0,.bool false]
  rw [hw3] at hE3 hb3 hs3
  have HW3 := Hd hw3;have HK3 := Hd (HK2.out.below hb3);have HE3 := Hd (HE2.out.below hb3 HE2.out.lt)
  clear hw3 hE3 hb3 hs3
  go_upto_region 3 with (fail)
  rw [HW3.out]
  obtain ⟨r0,r1,r2,r3,r4,r5,r6,r7,r8,r9⟩ := HE3.out.ten
  obtain ⟨z0,z1,z2,z3,z4,z5,z6,z7,z8,z9⟩ := whole_free HE3.out
  go_wp2_with fail
  refine treeB_ret Tryz.results40 w.heap.size false rfl rfl HE3.out ?_
  exact ⟨rfl,HK3.out.setTen (Nat.le_refl _) HQ.out _ _ _ _ _ _ _ _ _ _⟩
 | some r =>
  obtain ⟨c,a,b,k⟩ := r
  obtain ⟨g1,g2,g3,g4,g5⟩ := rep_ok hO
  obtain ⟨m,M,hm,hM,hcases⟩ := sized_cases g3 g4 g5
  clear hO g3 g4 g5
  have HG1 := Hd g1;have HG2 := Hd g2
  clear g1 g2
  obtain ⟨op,hop⟩ : ∃ o,opY c = o := ⟨_,rfl⟩
  have HTV := Hd (fun lz => show timesV c a b lz = .agg #[.int .i64 op,.slice none 0 0,.int .i32 0,.slice none 0 0,.int .i64 0,.int .i64 0,.string ⟨#[]⟩,.int .i64 m,.int .i64 M,.bool lz] by unfold timesV;rw [hop,hm,hM])
  have HCS := Hd hcases
  clear hop hm hM hcases
  have HR := Hd (fun (x : Int) W (hr : SrIn W q f s k nv) => pyrefuse_any q f s k nv x j W hr)
  obtain ⟨sz,hsz⟩ : ∃ z,sizedY c a b = z := ⟨_,rfl⟩
  rw [hsz] at HCS
  have HSZ := Hd hsz
  clear hsz
  go_enter Tryz.func40,Tryz.ntmps40
  go_upto_region 1 with (fail)
  rw [HW1.out]
  go_wp2_with fail
  refine HT.out.mono ?_
  rintro e w2 ⟨he,ht⟩
  rw [HTV.out false] at he
  subst he
  have HK2 := Hd (HK1.out.trans ht);have HE2 := Hd (ht.whole HE1.out (by have := HQ.out;omega))
  clear ht HT c2
  obtain ⟨w3,hw3⟩ : ∃ w3,w2.alloc (.cells #[.int .i64 op,.slice none 0 0,.int .i32 0,.slice none 0 0,.int .i64 0,.int .i64 0,.string ⟨#[]⟩,.int .i64 m,.int .i64 M,.bool false] 29) = w3 := ⟨_,rfl⟩
  obtain ⟨hE3,hb3,hs3⟩ := box_tree w2 #[.int .i64 op,.slice none 0 0,.int .i32 0,.slice none 0 0,.int .i64 0,.int .i64 0,.string ⟨#[]⟩,.int .i64 m,.int .i64 M,.bool false]
  rw [hw3] at hE3 hb3 hs3
  have HW3 := Hd hw3;have HK3 := Hd (HK2.out.below hb3);have HE3 := Hd (HE2.out.below hb3 HE2.out.lt);have HA3 := Hd hE3
  have HQ2 := Hd (show w.heap.size < w2.heap.size by have := HS1.out;have := HE2.out.lt;omega)
  clear hw3 hE3 hb3 hs3
  go_upto_region 3 with (fail)
  rw [HW3.out]
  obtain ⟨b0,b1,b2,b3,b4,b5,b6,b7,b8,b9⟩ := HA3.out.ten
  obtain ⟨y0,y1,y2,y3,y4,y5,y6,y7,y8,y9⟩ := whole_free HA3.out
  cases atom with
  | false =>
   clear b0 b1 b2 b3 b4 b5 b6 b7 b8 b9 y0 y1 y2 y3 y4 y5 y6 y7 y8 y9 HCS
   go_wp2_with fail
   refine (HR.out 82 w3 HK3.out.2).mono ?_
   rintro e w4 ⟨he,rfl⟩
   unfold thrown at he
   subst he
   go_wp2
   exact ⟨rfl,rep_82 HK3.out.1⟩
  | true =>
   cases sz with
   | false =>
    rcases HCS.out with ⟨h,-⟩ | ⟨-,h⟩
    ·cases h
    ·rcases h with h | ⟨h1,h2,h3⟩
     ·have x1 : (1000 : Int) < max m M := h
      have x2 : decide ((1000 : Int) < max m M) = true := decide_eq_true h
      clear h
      go_wp2_with fail
      refine (HR.out 85 w3 HK3.out.2).mono ?_
      rintro e w4 ⟨he,rfl⟩
      unfold thrown at he
      subst he
      go_wp2
      exact ⟨rfl,rep_85 HSZ.out HK3.out.1⟩
     ·have x1 : ¬ (1000 : Int) < max m M := by omega
      have x2 : decide ((1000 : Int) < max m M) = false := decide_eq_false x1
      have x3 : decide ((0 : Int) ≤ M) = true := decide_eq_true h2
      have x4 : decide (M < m) = true := decide_eq_true h3
      go_wp2_with fail
      refine (HR.out 85 w3 HK3.out.2).mono ?_
      rintro e w4 ⟨he,rfl⟩
      unfold thrown at he
      subst he
      go_wp2
      exact ⟨rfl,rep_85 HSZ.out HK3.out.1⟩
   | true =>
    obtain ⟨h1,h2,h3,h4⟩ : max m M ≤ 1000 ∧ -1 ≤ M ∧ 0 ≤ m ∧ (M < 0 ∨ m ≤ M) := by
     rcases HCS.out with ⟨-,h⟩ | ⟨h,-⟩
     ·exact h
     ·cases h
    have x1 : ¬ (1000 : Int) < max m M := by omega
    have x2 : decide ((1000 : Int) < max m M) = false := decide_eq_false x1
    obtain ⟨G,hG,hG2⟩ : ∃ G : Bool,decide ((0 : Int) ≤ M) = G ∧ (G = true → decide (M < m) = false) := ⟨_,rfl,fun h => decide_eq_false (by have := of_decide_eq_true h;omega)⟩
    have HH := Hd (fun x W => pyhas_any f x W)
    obtain ⟨P,hP⟩ : ∃ P,flagY f 32 = P := ⟨_,rfl⟩
    obtain ⟨U,hU⟩ : ∃ U,flagY f 16 = U := ⟨_,rfl⟩
    have HPP := Hd hP;have HU := Hd hU
    have HTK := Hd (fun W (hr : SrIn W q f s k nv) => pytake_any q f s ⟨#[63]⟩ k nv W hs (by show 1 ≤ 100;decide) HG2.out hr)
    obtain ⟨D,hD⟩ : ∃ D,preB [63] (leftB s k) = D := ⟨_,rfl⟩
    rw [show (⟨#[63]⟩ : ByteArray).toList = [63] from by rw [Lib.toList_data],hD] at HTK
    have HLZ := Hd (show lazyY s k f = (P && D) by rw [lazy_if,hP,hD])
    clear hP hU hD h1 h2 h3 h4 HCS
    obtain ⟨c0,c1,c2,c3⟩ := HK3.out.2.cells
    clear c1 c2 c3
    cases G with
    | true =>
     have x4 := hG2 rfl
     clear hG2
     go_wp2_with fail
     refine (HH.out 32 w3).mono ?_
     rintro e w4 ⟨rfl,hb4⟩
     rw [HPP.out]
     have HK4 := Hd (HK3.out.below hb4);have HE4 := Hd (HE3.out.below hb4 HE3.out.lt);have HA4 := Hd (HA3.out.below hb4 HA3.out.lt)
     clear hb4 b0 b1 b2 b3 b4 b5 b6 b7 b8 b9 y0 y1 y2 y3 y4 y5 y6 y7 y8 y9 c0
     cases P with
     | false =>
      obtain ⟨c0,c1,c2,c3⟩ := HK4.out.2.cells
      clear c1 c2 c3
      go_wp2_with fail
      refine (HH.out 16 w4).mono ?_
      rintro e w5 ⟨rfl,hb5⟩
      rw [HU.out]
      have HK5 := Hd (HK4.out.below hb5);have HE5 := Hd (HE4.out.below hb5 HE4.out.lt);have HA5 := Hd (HA4.out.below hb5 HA4.out.lt)
      clear hb5 c0
      cases U with
      | false =>
       have y9 : w5.frozen? ⟨w2.heap.size,9,none⟩ = false := (whole_free HA5.out).2.2.2.2.2.2.2.2.2
       have b9 := HA5.out.cell 9
       have hne : w.heap.size ≠ w2.heap.size := by have := HQ2.out;omega
       obtain ⟨w7,hw7⟩ : ∃ w7,w5.setCell ⟨w2.heap.size,9,none⟩ (.bool false) = w7 := ⟨_,rfl⟩
       have HK7 := Hd (show Tk q f s (if false = true then k + 1 else k) nv w w7 by rw [← hw7];exact HK5.out.setOne (by have := HQ2.out;omega) HQ.out 9 _)
       have HE7 := Hd (show Whole w7 w.heap.size 29 _ by rw [← hw7];exact HE5.out.far hne 9 (.bool false))
       have hA7 := HA5.out.store 9 (.bool false)
       rw [hw7] at hA7
       have HA7 := Hd (show Whole w7 w2.heap.size 29 #[.int .i64 op,.slice none 0 0,.int .i32 0,.slice none 0 0,.int .i64 0,.int .i64 0,.string ⟨#[]⟩,.int .i64 m,.int .i64 M,.bool false] from hA7)
       have HW7 := Hd hw7
       clear hne hw7 hA7
       go_upto_region 11 with (fail)
       rw [HW7.out]
       clear b9 y9
       obtain ⟨b0,b1,b2,b3,b4,b5,b6,b7,b8,b9⟩ := HA7.out.ten
       obtain ⟨r0,r1,r2,r3,r4,r5,r6,r7,r8,r9⟩ := HE7.out.ten
       obtain ⟨z0,z1,z2,z3,z4,z5,z6,z7,z8,z9⟩ := whole_free HE7.out
       go_wp2_with fail
       refine treeB_ret Tryz.results40 w.heap.size true rfl rfl HE7.out ?_
       exact rep_ok8 HSZ.out HLZ.out HU.out (HTV.out _) (HK7.out.setTen (Nat.le_refl _) HQ.out _ _ _ _ _ _ _ _ _ _)
      | true =>
       have y9 : w5.frozen? ⟨w2.heap.size,9,none⟩ = false := (whole_free HA5.out).2.2.2.2.2.2.2.2.2
       have b9 := HA5.out.cell 9
       have hne : w.heap.size ≠ w2.heap.size := by have := HQ2.out;omega
       obtain ⟨w7,hw7⟩ : ∃ w7,w5.setCell ⟨w2.heap.size,9,none⟩ (.bool true) = w7 := ⟨_,rfl⟩
       have HK7 := Hd (show Tk q f s (if false = true then k + 1 else k) nv w w7 by rw [← hw7];exact HK5.out.setOne (by have := HQ2.out;omega) HQ.out 9 _)
       have HE7 := Hd (show Whole w7 w.heap.size 29 _ by rw [← hw7];exact HE5.out.far hne 9 (.bool true))
       have hA7 := HA5.out.store 9 (.bool true)
       rw [hw7] at hA7
       have HA7 := Hd (show Whole w7 w2.heap.size 29 #[.int .i64 op,.slice none 0 0,.int .i32 0,.slice none 0 0,.int .i64 0,.int .i64 0,.string ⟨#[]⟩,.int .i64 m,.int .i64 M,.bool true] from hA7)
       have HW7 := Hd hw7
       clear hne hw7 hA7
       go_upto_region 11 with (fail)
       rw [HW7.out]
       clear b9 y9
       obtain ⟨b0,b1,b2,b3,b4,b5,b6,b7,b8,b9⟩ := HA7.out.ten
       obtain ⟨r0,r1,r2,r3,r4,r5,r6,r7,r8,r9⟩ := HE7.out.ten
       obtain ⟨z0,z1,z2,z3,z4,z5,z6,z7,z8,z9⟩ := whole_free HE7.out
       go_wp2_with fail
       refine treeB_ret Tryz.results40 w.heap.size true rfl rfl HE7.out ?_
       exact rep_ok8 HSZ.out HLZ.out HU.out (HTV.out _) (HK7.out.setTen (Nat.le_refl _) HQ.out _ _ _ _ _ _ _ _ _ _)
     | true =>
      go_wp2_with fail
      refine (HTK.out w4 HK4.out.2).mono ?_
      rintro e w5 ⟨rfl,ht5⟩
      have HK5 := Hd (HK4.out.trans ht5);have HE5 := Hd (ht5.whole HE4.out (by have := HQ.out;omega));have HA5 := Hd (ht5.whole HA4.out (by have := HQ.out;have := HQ2.out;omega))
      clear ht5
      obtain ⟨c0,c1,c2,c3⟩ := HK5.out.2.cells
      clear c1 c2 c3
      go_wp2_with fail
      refine (HH.out 16 w5).mono ?_
      rintro e w6 ⟨rfl,hb6⟩
      rw [HU.out]
      have HK6 := Hd (HK5.out.below hb6);have HE6 := Hd (HE5.out.below hb6 HE5.out.lt);have HA6 := Hd (HA5.out.below hb6 HA5.out.lt)
      clear hb6 c0
      cases D with
      | false =>
       cases U with
       | false =>
        have y9 : w6.frozen? ⟨w2.heap.size,9,none⟩ = false := (whole_free HA6.out).2.2.2.2.2.2.2.2.2
        have b9 := HA6.out.cell 9
        have hne : w.heap.size ≠ w2.heap.size := by have := HQ2.out;omega
        obtain ⟨w7,hw7⟩ : ∃ w7,w6.setCell ⟨w2.heap.size,9,none⟩ (.bool false) = w7 := ⟨_,rfl⟩
        have HK7 := Hd (show Tk q f s (if false = true then k + 1 else k) nv w w7 by rw [← hw7];exact HK6.out.setOne (by have := HQ2.out;omega) HQ.out 9 _)
        have HE7 := Hd (show Whole w7 w.heap.size 29 _ by rw [← hw7];exact HE6.out.far hne 9 (.bool false))
        have hA7 := HA6.out.store 9 (.bool false)
        rw [hw7] at hA7
        have HA7 := Hd (show Whole w7 w2.heap.size 29 #[.int .i64 op,.slice none 0 0,.int .i32 0,.slice none 0 0,.int .i64 0,.int .i64 0,.string ⟨#[]⟩,.int .i64 m,.int .i64 M,.bool false] from hA7)
        have HW7 := Hd hw7
        clear hne hw7 hA7
        go_upto_region 11 with (fail)
        rw [HW7.out]
        clear b9 y9
        obtain ⟨b0,b1,b2,b3,b4,b5,b6,b7,b8,b9⟩ := HA7.out.ten
        obtain ⟨r0,r1,r2,r3,r4,r5,r6,r7,r8,r9⟩ := HE7.out.ten
        obtain ⟨z0,z1,z2,z3,z4,z5,z6,z7,z8,z9⟩ := whole_free HE7.out
        go_wp2_with fail
        refine treeB_ret Tryz.results40 w.heap.size true rfl rfl HE7.out ?_
        exact rep_ok8 HSZ.out HLZ.out HU.out (HTV.out _) (HK7.out.setTen (Nat.le_refl _) HQ.out _ _ _ _ _ _ _ _ _ _)
       | true =>
        have y9 : w6.frozen? ⟨w2.heap.size,9,none⟩ = false := (whole_free HA6.out).2.2.2.2.2.2.2.2.2
        have b9 := HA6.out.cell 9
        have hne : w.heap.size ≠ w2.heap.size := by have := HQ2.out;omega
        obtain ⟨w7,hw7⟩ : ∃ w7,w6.setCell ⟨w2.heap.size,9,none⟩ (.bool true) = w7 := ⟨_,rfl⟩
        have HK7 := Hd (show Tk q f s (if false = true then k + 1 else k) nv w w7 by rw [← hw7];exact HK6.out.setOne (by have := HQ2.out;omega) HQ.out 9 _)
        have HE7 := Hd (show Whole w7 w.heap.size 29 _ by rw [← hw7];exact HE6.out.far hne 9 (.bool true))
        have hA7 := HA6.out.store 9 (.bool true)
        rw [hw7] at hA7
        have HA7 := Hd (show Whole w7 w2.heap.size 29 #[.int .i64 op,.slice none 0 0,.int .i32 0,.slice none 0 0,.int .i64 0,.int .i64 0,.string ⟨#[]⟩,.int .i64 m,.int .i64 M,.bool true] from hA7)
        have HW7 := Hd hw7
        clear hne hw7 hA7
        go_upto_region 11 with (fail)
        rw [HW7.out]
        clear b9 y9
        obtain ⟨b0,b1,b2,b3,b4,b5,b6,b7,b8,b9⟩ := HA7.out.ten
        obtain ⟨r0,r1,r2,r3,r4,r5,r6,r7,r8,r9⟩ := HE7.out.ten
        obtain ⟨z0,z1,z2,z3,z4,z5,z6,z7,z8,z9⟩ := whole_free HE7.out
        go_wp2_with fail
        refine treeB_ret Tryz.results40 w.heap.size true rfl rfl HE7.out ?_
        exact rep_ok8 HSZ.out HLZ.out HU.out (HTV.out _) (HK7.out.setTen (Nat.le_refl _) HQ.out _ _ _ _ _ _ _ _ _ _)
      | true =>
       cases U with
       | false =>
        have y9 : w6.frozen? ⟨w2.heap.size,9,none⟩ = false := (whole_free HA6.out).2.2.2.2.2.2.2.2.2
        have b9 := HA6.out.cell 9
        have hne : w.heap.size ≠ w2.heap.size := by have := HQ2.out;omega
        obtain ⟨w7,hw7⟩ : ∃ w7,w6.setCell ⟨w2.heap.size,9,none⟩ (.bool true) = w7 := ⟨_,rfl⟩
        have HK7 := Hd (show Tk q f s (if true = true then k + 1 else k) nv w w7 by rw [← hw7];exact HK6.out.setOne (by have := HQ2.out;omega) HQ.out 9 _)
        have HE7 := Hd (show Whole w7 w.heap.size 29 _ by rw [← hw7];exact HE6.out.far hne 9 (.bool true))
        have hA7 := HA6.out.store 9 (.bool true)
        rw [hw7] at hA7
        have HA7 := Hd (show Whole w7 w2.heap.size 29 #[.int .i64 op,.slice none 0 0,.int .i32 0,.slice none 0 0,.int .i64 0,.int .i64 0,.string ⟨#[]⟩,.int .i64 m,.int .i64 M,.bool true] from hA7)
        have HW7 := Hd hw7
        clear hne hw7 hA7
        go_upto_region 11 with (fail)
        rw [HW7.out]
        clear b9 y9
        obtain ⟨b0,b1,b2,b3,b4,b5,b6,b7,b8,b9⟩ := HA7.out.ten
        obtain ⟨r0,r1,r2,r3,r4,r5,r6,r7,r8,r9⟩ := HE7.out.ten
        obtain ⟨z0,z1,z2,z3,z4,z5,z6,z7,z8,z9⟩ := whole_free HE7.out
        go_wp2_with fail
        refine treeB_ret Tryz.results40 w.heap.size true rfl rfl HE7.out ?_
        exact rep_ok8 HSZ.out HLZ.out HU.out (HTV.out _) (HK7.out.setTen (Nat.le_refl _) HQ.out _ _ _ _ _ _ _ _ _ _)
       | true =>
        have y9 : w6.frozen? ⟨w2.heap.size,9,none⟩ = false := (whole_free HA6.out).2.2.2.2.2.2.2.2.2
        have b9 := HA6.out.cell 9
        have hne : w.heap.size ≠ w2.heap.size := by have := HQ2.out;omega
        obtain ⟨w7,hw7⟩ : ∃ w7,w6.setCell ⟨w2.heap.size,9,none⟩ (.bool false) = w7 := ⟨_,rfl⟩
        have HK7 := Hd (show Tk q f s (if true = true then k + 1 else k) nv w w7 by rw [← hw7];exact HK6.out.setOne (by have := HQ2.out;omega) HQ.out 9 _)
        have HE7 := Hd (show Whole w7 w.heap.size 29 _ by rw [← hw7];exact HE6.out.far hne 9 (.bool false))
        have hA7 := HA6.out.store 9 (.bool false)
        rw [hw7] at hA7
        have HA7 := Hd (show Whole w7 w2.heap.size 29 #[.int .i64 op,.slice none 0 0,.int .i32 0,.slice none 0 0,.int .i64 0,.int .i64 0,.string ⟨#[]⟩,.int .i64 m,.int .i64 M,.bool false] from hA7)
        have HW7 := Hd hw7
        clear hne hw7 hA7
        go_upto_region 11 with (fail)
        rw [HW7.out]
        clear b9 y9
        obtain ⟨b0,b1,b2,b3,b4,b5,b6,b7,b8,b9⟩ := HA7.out.ten
        obtain ⟨r0,r1,r2,r3,r4,r5,r6,r7,r8,r9⟩ := HE7.out.ten
        obtain ⟨z0,z1,z2,z3,z4,z5,z6,z7,z8,z9⟩ := whole_free HE7.out
        go_wp2_with fail
        refine treeB_ret Tryz.results40 w.heap.size true rfl rfl HE7.out ?_
        exact rep_ok8 HSZ.out HLZ.out HU.out (HTV.out _) (HK7.out.setTen (Nat.le_refl _) HQ.out _ _ _ _ _ _ _ _ _ _)
    | false =>
     clear hG2
     go_wp2_with fail
     refine (HH.out 32 w3).mono ?_
     rintro e w4 ⟨rfl,hb4⟩
     rw [HPP.out]
     have HK4 := Hd (HK3.out.below hb4);have HE4 := Hd (HE3.out.below hb4 HE3.out.lt);have HA4 := Hd (HA3.out.below hb4 HA3.out.lt)
     clear hb4 b0 b1 b2 b3 b4 b5 b6 b7 b8 b9 y0 y1 y2 y3 y4 y5 y6 y7 y8 y9 c0
     cases P with
     | false =>
      obtain ⟨c0,c1,c2,c3⟩ := HK4.out.2.cells
      clear c1 c2 c3
      go_wp2_with fail
      refine (HH.out 16 w4).mono ?_
      rintro e w5 ⟨rfl,hb5⟩
      rw [HU.out]
      have HK5 := Hd (HK4.out.below hb5);have HE5 := Hd (HE4.out.below hb5 HE4.out.lt);have HA5 := Hd (HA4.out.below hb5 HA4.out.lt)
      clear hb5 c0
      cases U with
      | false =>
       have y9 : w5.frozen? ⟨w2.heap.size,9,none⟩ = false := (whole_free HA5.out).2.2.2.2.2.2.2.2.2
       have b9 := HA5.out.cell 9
       have hne : w.heap.size ≠ w2.heap.size := by have := HQ2.out;omega
       obtain ⟨w7,hw7⟩ : ∃ w7,w5.setCell ⟨w2.heap.size,9,none⟩ (.bool false) = w7 := ⟨_,rfl⟩
       have HK7 := Hd (show Tk q f s (if false = true then k + 1 else k) nv w w7 by rw [← hw7];exact HK5.out.setOne (by have := HQ2.out;omega) HQ.out 9 _)
       have HE7 := Hd (show Whole w7 w.heap.size 29 _ by rw [← hw7];exact HE5.out.far hne 9 (.bool false))
       have hA7 := HA5.out.store 9 (.bool false)
       rw [hw7] at hA7
       have HA7 := Hd (show Whole w7 w2.heap.size 29 #[.int .i64 op,.slice none 0 0,.int .i32 0,.slice none 0 0,.int .i64 0,.int .i64 0,.string ⟨#[]⟩,.int .i64 m,.int .i64 M,.bool false] from hA7)
       have HW7 := Hd hw7
       clear hne hw7 hA7
       go_upto_region 11 with (fail)
       rw [HW7.out]
       clear b9 y9
       obtain ⟨b0,b1,b2,b3,b4,b5,b6,b7,b8,b9⟩ := HA7.out.ten
       obtain ⟨r0,r1,r2,r3,r4,r5,r6,r7,r8,r9⟩ := HE7.out.ten
       obtain ⟨z0,z1,z2,z3,z4,z5,z6,z7,z8,z9⟩ := whole_free HE7.out
       go_wp2_with fail
       refine treeB_ret Tryz.results40 w.heap.size true rfl rfl HE7.out ?_
       exact rep_ok8 HSZ.out HLZ.out HU.out (HTV.out _) (HK7.out.setTen (Nat.le_refl _) HQ.out _ _ _ _ _ _ _ _ _ _)
      | true =>
       have y9 : w5.frozen? ⟨w2.heap.size,9,none⟩ = false := (whole_free HA5.out).2.2.2.2.2.2.2.2.2
       have b9 := HA5.out.cell 9
       have hne : w.heap.size ≠ w2.heap.size := by have := HQ2.out;omega
       obtain ⟨w7,hw7⟩ : ∃ w7,w5.setCell ⟨w2.heap.size,9,none⟩ (.bool true) = w7 := ⟨_,rfl⟩
       have HK7 := Hd (show Tk q f s (if false = true then k + 1 else k) nv w w7 by rw [← hw7];exact HK5.out.setOne (by have := HQ2.out;omega) HQ.out 9 _)
       have HE7 := Hd (show Whole w7 w.heap.size 29 _ by rw [← hw7];exact HE5.out.far hne 9 (.bool true))
       have hA7 := HA5.out.store 9 (.bool true)
       rw [hw7] at hA7
       have HA7 := Hd (show Whole w7 w2.heap.size 29 #[.int .i64 op,.slice none 0 0,.int .i32 0,.slice none 0 0,.int .i64 0,.int .i64 0,.string ⟨#[]⟩,.int .i64 m,.int .i64 M,.bool true] from hA7)
       have HW7 := Hd hw7
       clear hne hw7 hA7
       go_upto_region 11 with (fail)
       rw [HW7.out]
       clear b9 y9
       obtain ⟨b0,b1,b2,b3,b4,b5,b6,b7,b8,b9⟩ := HA7.out.ten
       obtain ⟨r0,r1,r2,r3,r4,r5,r6,r7,r8,r9⟩ := HE7.out.ten
       obtain ⟨z0,z1,z2,z3,z4,z5,z6,z7,z8,z9⟩ := whole_free HE7.out
       go_wp2_with fail
       refine treeB_ret Tryz.results40 w.heap.size true rfl rfl HE7.out ?_
       exact rep_ok8 HSZ.out HLZ.out HU.out (HTV.out _) (HK7.out.setTen (Nat.le_refl _) HQ.out _ _ _ _ _ _ _ _ _ _)
     | true =>
      go_wp2_with fail
      refine (HTK.out w4 HK4.out.2).mono ?_
      rintro e w5 ⟨rfl,ht5⟩
      have HK5 := Hd (HK4.out.trans ht5);have HE5 := Hd (ht5.whole HE4.out (by have := HQ.out;omega));have HA5 := Hd (ht5.whole HA4.out (by have := HQ.out;have := HQ2.out;omega))
      clear ht5
      obtain ⟨c0,c1,c2,c3⟩ := HK5.out.2.cells
      clear c1 c2 c3
      go_wp2_with fail
      refine (HH.out 16 w5).mono ?_
      rintro e w6 ⟨rfl,hb6⟩
      rw [HU.out]
      have HK6 := Hd (HK5.out.below hb6);have HE6 := Hd (HE5.out.below hb6 HE5.out.lt);have HA6 := Hd (HA5.out.below hb6 HA5.out.lt)
      clear hb6 c0
      cases D with
      | false =>
       cases U with
       | false =>
        have y9 : w6.frozen? ⟨w2.heap.size,9,none⟩ = false := (whole_free HA6.out).2.2.2.2.2.2.2.2.2
        have b9 := HA6.out.cell 9
        have hne : w.heap.size ≠ w2.heap.size := by have := HQ2.out;omega
        obtain ⟨w7,hw7⟩ : ∃ w7,w6.setCell ⟨w2.heap.size,9,none⟩ (.bool false) = w7 := ⟨_,rfl⟩
        have HK7 := Hd (show Tk q f s (if false = true then k + 1 else k) nv w w7 by rw [← hw7];exact HK6.out.setOne (by have := HQ2.out;omega) HQ.out 9 _)
        have HE7 := Hd (show Whole w7 w.heap.size 29 _ by rw [← hw7];exact HE6.out.far hne 9 (.bool false))
        have hA7 := HA6.out.store 9 (.bool false)
        rw [hw7] at hA7
        have HA7 := Hd (show Whole w7 w2.heap.size 29 #[.int .i64 op,.slice none 0 0,.int .i32 0,.slice none 0 0,.int .i64 0,.int .i64 0,.string ⟨#[]⟩,.int .i64 m,.int .i64 M,.bool false] from hA7)
        have HW7 := Hd hw7
        clear hne hw7 hA7
        go_upto_region 11 with (fail)
        rw [HW7.out]
        clear b9 y9
        obtain ⟨b0,b1,b2,b3,b4,b5,b6,b7,b8,b9⟩ := HA7.out.ten
        obtain ⟨r0,r1,r2,r3,r4,r5,r6,r7,r8,r9⟩ := HE7.out.ten
        obtain ⟨z0,z1,z2,z3,z4,z5,z6,z7,z8,z9⟩ := whole_free HE7.out
        go_wp2_with fail
        refine treeB_ret Tryz.results40 w.heap.size true rfl rfl HE7.out ?_
        exact rep_ok8 HSZ.out HLZ.out HU.out (HTV.out _) (HK7.out.setTen (Nat.le_refl _) HQ.out _ _ _ _ _ _ _ _ _ _)
       | true =>
        have y9 : w6.frozen? ⟨w2.heap.size,9,none⟩ = false := (whole_free HA6.out).2.2.2.2.2.2.2.2.2
        have b9 := HA6.out.cell 9
        have hne : w.heap.size ≠ w2.heap.size := by have := HQ2.out;omega
        obtain ⟨w7,hw7⟩ : ∃ w7,w6.setCell ⟨w2.heap.size,9,none⟩ (.bool true) = w7 := ⟨_,rfl⟩
        have HK7 := Hd (show Tk q f s (if false = true then k + 1 else k) nv w w7 by rw [← hw7];exact HK6.out.setOne (by have := HQ2.out;omega) HQ.out 9 _)
        have HE7 := Hd (show Whole w7 w.heap.size 29 _ by rw [← hw7];exact HE6.out.far hne 9 (.bool true))
        have hA7 := HA6.out.store 9 (.bool true)
        rw [hw7] at hA7
        have HA7 := Hd (show Whole w7 w2.heap.size 29 #[.int .i64 op,.slice none 0 0,.int .i32 0,.slice none 0 0,.int .i64 0,.int .i64 0,.string ⟨#[]⟩,.int .i64 m,.int .i64 M,.bool true] from hA7)
        have HW7 := Hd hw7
        clear hne hw7 hA7
        go_upto_region 11 with (fail)
        rw [HW7.out]
        clear b9 y9
        obtain ⟨b0,b1,b2,b3,b4,b5,b6,b7,b8,b9⟩ := HA7.out.ten
        obtain ⟨r0,r1,r2,r3,r4,r5,r6,r7,r8,r9⟩ := HE7.out.ten
        obtain ⟨z0,z1,z2,z3,z4,z5,z6,z7,z8,z9⟩ := whole_free HE7.out
        go_wp2_with fail
        refine treeB_ret Tryz.results40 w.heap.size true rfl rfl HE7.out ?_
        exact rep_ok8 HSZ.out HLZ.out HU.out (HTV.out _) (HK7.out.setTen (Nat.le_refl _) HQ.out _ _ _ _ _ _ _ _ _ _)
      | true =>
       cases U with
       | false =>
        have y9 : w6.frozen? ⟨w2.heap.size,9,none⟩ = false := (whole_free HA6.out).2.2.2.2.2.2.2.2.2
        have b9 := HA6.out.cell 9
        have hne : w.heap.size ≠ w2.heap.size := by have := HQ2.out;omega
        obtain ⟨w7,hw7⟩ : ∃ w7,w6.setCell ⟨w2.heap.size,9,none⟩ (.bool true) = w7 := ⟨_,rfl⟩
        have HK7 := Hd (show Tk q f s (if true = true then k + 1 else k) nv w w7 by rw [← hw7];exact HK6.out.setOne (by have := HQ2.out;omega) HQ.out 9 _)
        have HE7 := Hd (show Whole w7 w.heap.size 29 _ by rw [← hw7];exact HE6.out.far hne 9 (.bool true))
        have hA7 := HA6.out.store 9 (.bool true)
        rw [hw7] at hA7
        have HA7 := Hd (show Whole w7 w2.heap.size 29 #[.int .i64 op,.slice none 0 0,.int .i32 0,.slice none 0 0,.int .i64 0,.int .i64 0,.string ⟨#[]⟩,.int .i64 m,.int .i64 M,.bool true] from hA7)
        have HW7 := Hd hw7
        clear hne hw7 hA7
        go_upto_region 11 with (fail)
        rw [HW7.out]
        clear b9 y9
        obtain ⟨b0,b1,b2,b3,b4,b5,b6,b7,b8,b9⟩ := HA7.out.ten
        obtain ⟨r0,r1,r2,r3,r4,r5,r6,r7,r8,r9⟩ := HE7.out.ten
        obtain ⟨z0,z1,z2,z3,z4,z5,z6,z7,z8,z9⟩ := whole_free HE7.out
        go_wp2_with fail
        refine treeB_ret Tryz.results40 w.heap.size true rfl rfl HE7.out ?_
        exact rep_ok8 HSZ.out HLZ.out HU.out (HTV.out _) (HK7.out.setTen (Nat.le_refl _) HQ.out _ _ _ _ _ _ _ _ _ _)
       | true =>
        have y9 : w6.frozen? ⟨w2.heap.size,9,none⟩ = false := (whole_free HA6.out).2.2.2.2.2.2.2.2.2
        have b9 := HA6.out.cell 9
        have hne : w.heap.size ≠ w2.heap.size := by have := HQ2.out;omega
        obtain ⟨w7,hw7⟩ : ∃ w7,w6.setCell ⟨w2.heap.size,9,none⟩ (.bool false) = w7 := ⟨_,rfl⟩
        have HK7 := Hd (show Tk q f s (if true = true then k + 1 else k) nv w w7 by rw [← hw7];exact HK6.out.setOne (by have := HQ2.out;omega) HQ.out 9 _)
        have HE7 := Hd (show Whole w7 w.heap.size 29 _ by rw [← hw7];exact HE6.out.far hne 9 (.bool false))
        have hA7 := HA6.out.store 9 (.bool false)
        rw [hw7] at hA7
        have HA7 := Hd (show Whole w7 w2.heap.size 29 #[.int .i64 op,.slice none 0 0,.int .i32 0,.slice none 0 0,.int .i64 0,.int .i64 0,.string ⟨#[]⟩,.int .i64 m,.int .i64 M,.bool false] from hA7)
        have HW7 := Hd hw7
        clear hne hw7 hA7
        go_upto_region 11 with (fail)
        rw [HW7.out]
        clear b9 y9
        obtain ⟨b0,b1,b2,b3,b4,b5,b6,b7,b8,b9⟩ := HA7.out.ten
        obtain ⟨r0,r1,r2,r3,r4,r5,r6,r7,r8,r9⟩ := HE7.out.ten
        obtain ⟨z0,z1,z2,z3,z4,z5,z6,z7,z8,z9⟩ := whole_free HE7.out
        go_wp2_with fail
        refine treeB_ret Tryz.results40 w.heap.size true rfl rfl HE7.out ?_
        exact rep_ok8 HSZ.out HLZ.out HU.out (HTV.out _) (HK7.out.setTen (Nat.le_refl _) HQ.out _ _ _ _ _ _ _ _ _ _)
def onlyY (s : ByteArray) (j : Nat) (f c a b : Int) (k : Nat) : Option (Int × Nat × Nat) :=
 if sizedY c a b = false then some (85,j,k) else
 match repY s (if lazyY s k f = true then k + 1 else k) with
 | none => none
 | some (c2,a2,b2,n2) => if sizedY c2 a2 b2 = false then some (85,if lazyY s k f = true then k + 1 else k,n2) else some (83,j,if lazyY s n2 f = true then n2 + 1 else n2)
theorem repeat_only (s : ByteArray) (j : Nat) (f : Int) (ns : List (List UInt8)) (l : List Tr) (x : Tr) (c a b : Int) (k : Nat) : repeatY s j f ns l x c a b k = match onlyY s j f c a b k with
  | some (x,y,z) => .bad x y z
  | none => .ok (l ++ [repeatedY c a b (lazyY s k f != flagY f 16) x]) (if lazyY s k f = true then k + 1 else k) f ns := by
 unfold repeatY onlyY
 by_cases h : sizedY c a b = false
 ·rw [if_pos h,if_pos h]
 ·rw [if_neg h,if_neg h]
  simp only
  cases repY s (if lazyY s k f = true then k + 1 else k) with
  | none => rfl
  | some r =>
   obtain ⟨c2,a2,b2,n2⟩ := r
   simp only
   by_cases h2 : sizedY c2 a2 b2 = false
   ·rw [if_pos h2,if_pos h2]
   ·rw [if_neg h2,if_neg h2]
theorem rep_of82 {q : Nat} {f : Int} {s : ByteArray} {j k : Nat} {nv : Value} {c a b : Int} {w w' : World} {e : Ending} (h : RepPost q f s j nv false (some (c,a,b,k)) w e w') : e = thrown (.iface 32 (wrongV 82 j k)) ∧ w.grownBy w' (some q) := by
 unfold RepPost at h
 dsimp only at h
 rwa [if_pos rfl] at h
theorem rep_of85 {q : Nat} {f : Int} {s : ByteArray} {j k : Nat} {nv : Value} {c a b : Int} {w w' : World} {e : Ending} (hz : sizedY c a b = false) (h : RepPost q f s j nv true (some (c,a,b,k)) w e w') : e = thrown (.iface 32 (wrongV 85 j k)) ∧ w.grownBy w' (some q) := by
 unfold RepPost at h
 dsimp only at h
 rwa [if_neg (by simp),if_pos hz] at h
theorem rep_of {q : Nat} {f : Int} {s : ByteArray} {j k k2 : Nat} {nv V : Value} {c a b : Int} {w w' : World} {e : Ending} (hz : ¬ sizedY c a b = false) (hk : (if lazyY s k f = true then k + 1 else k) = k2) (hv : timesV c a b (lazyY s k f != flagY f 16) = V) (h : RepPost q f s j nv true (some (c,a,b,k)) w e w') : e = .returned (.tuple #[V,.bool true]) ∧ Tk q f s k2 nv w w' := by
 unfold RepPost at h
 dsimp only at h
 rwa [if_neg (by simp),if_neg hz,hk,hv] at h
def OnlyPost (q : Nat) (f : Int) (s : ByteArray) (j : Nat) (nv : Value) (atom : Bool) (O : Option (Int × Int × Int × Nat)) (w : World) (e : Ending) (w' : World) : Prop :=
 match O with
 | none => e = .returned (.tuple #[treZero,.bool false]) ∧ Tk q f s j nv w w'
 | some (c,a,b,k) => match (if atom = false then some (82,j,k) else onlyY s j f c a b k) with
  | some (x,y,z) => e = thrown (.iface 32 (wrongV x y z)) ∧ w.grownBy w' (some q)
  | none => e = .returned (.tuple #[timesV c a b (lazyY s k f != flagY f 16),.bool true]) ∧ Tk q f s (if lazyY s k f = true then k + 1 else k) nv w w'
theorem only_bad {q : Nat} {f : Int} {s : ByteArray} {j k : Nat} {nv : Value} {atom : Bool} {c a b x : Int} {y z : Nat} {w w' : World} (hz : (if atom = false then some (82,j,k) else onlyY s j f c a b k) = some (x,y,z)) (h : w.grownBy w' (some q)) : OnlyPost q f s j nv atom (some (c,a,b,k)) w (thrown (.iface 32 (wrongV x y z))) w' := by
 unfold OnlyPost
 dsimp only
 rw [hz]
 exact ⟨rfl,h⟩
theorem only_ok {q : Nat} {f : Int} {s : ByteArray} {j k k2 : Nat} {nv : Value} {c a b : Int} {w w' : World} {v : Value} (hz : onlyY s j f c a b k = none) (hv : timesV c a b (lazyY s k f != flagY f 16) = v) (hk : (if lazyY s k f = true then k + 1 else k) = k2) (h : Tk q f s k2 nv w w') : OnlyPost q f s j nv true (some (c,a,b,k)) w (.returned (.tuple #[v,.bool true])) w' := by
 unfold OnlyPost
 dsimp only
 rw [if_neg (by decide),hz,hv,hk]
 exact ⟨rfl,h⟩
theorem pyonly_any (q : Nat) (f : Int) (s : ByteArray) (j : Nat) (nv : Value) (atom : Bool) (w : World) (hs : s.size ≤ 4503599627370496) (hj : j ≤ s.size) (h : SrIn w q f s j nv) :
  Calls Tryz.prog 28 #[.pointer (some ⟨q,0,none⟩),.bool atom] w (OnlyPost q f s j nv atom (repY s j) w) := by
 obtain ⟨w1,hw1⟩ : ∃ w1,w.alloc (.cells #[.int .i64 0,.slice none 0 0,.int .i32 0,.slice none 0 0,.int .i64 0,.int .i64 0,.string ⟨#[]⟩,.int .i64 0,.int .i64 0,.bool false] 29) = w1 := ⟨_,rfl⟩
 obtain ⟨hE1,hb1,hs1⟩ := box_tree w #[.int .i64 0,.slice none 0 0,.int .i32 0,.slice none 0 0,.int .i64 0,.int .i64 0,.string ⟨#[]⟩,.int .i64 0,.int .i64 0,.bool false]
 rw [hw1] at hE1 hb1 hs1
 have HW1 := Hd hw1;have HE1 := Hd hE1;have HS1 := Hd hs1;have HK1 := Hd (Tk.of_below h hb1);have HQ := Hd h.lt;have HJ := Hd hj
 clear hw1 hE1 hb1 hs1 h hj
 obtain ⟨c0,c1,c2,c3⟩ := HK1.out.2.cells
 clear c0 c1 c3
 have HT := Hd (pyrepeat_any q f s j nv atom w1 hs HJ.out HK1.out.2)
 obtain ⟨O,hO⟩ : ∃ O,repY s j = O := ⟨_,rfl⟩
 rw [hO] at HT ⊢
 cases O with
 | none =>
  clear hO
  go_enter Tryz.func28,Tryz.ntmps28
  go_upto_region 1 with (fail)
  rw [HW1.out]
  go_wp2_with fail
  refine HT.out.mono ?_
  rintro e w2 ⟨he,ht⟩
  unfold treZero at he
  subst he
  have HK2 := Hd (HK1.out.trans ht);have HE2 := Hd (ht.whole HE1.out (by have := HQ.out;omega))
  clear ht HT c2
  obtain ⟨w3,hw3⟩ : ∃ w3,w2.alloc (.cells #[.int .i64 0,.slice none 0 0,.int .i32 0,.slice none 0 0,.int .i64 0,.int .i64 0,.string ⟨#[]⟩,.int .i64 0,.int .i64 0,.bool false] 29) = w3 := ⟨_,rfl⟩
  obtain ⟨hE3,hb3,hs3⟩ := box_tree w2 #[.int .i64 0,.slice none 0 0,.int .i32 0,.slice none 0 0,.int .i64 0,.int .i64 0,.string ⟨#[]⟩,.int .i64 0,.int .i64 0,.bool false]
  rw [hw3] at hE3 hb3 hs3
  have HW3 := Hd hw3;have HK3 := Hd (HK2.out.below hb3);have HE3 := Hd (HE2.out.below hb3 HE2.out.lt)
  clear hw3 hE3 hb3 hs3
  go_upto_region 3 with (fail)
  rw [HW3.out]
  obtain ⟨r0,r1,r2,r3,r4,r5,r6,r7,r8,r9⟩ := HE3.out.ten
  obtain ⟨z0,z1,z2,z3,z4,z5,z6,z7,z8,z9⟩ := whole_free HE3.out
  go_wp2_with fail
  refine treeB_ret Tryz.results28 w.heap.size false rfl rfl HE3.out ?_
  exact ⟨rfl,HK3.out.setTen (Nat.le_refl _) HQ.out _ _ _ _ _ _ _ _ _ _⟩
 | some r =>
  obtain ⟨c,a,b,k⟩ := r
  obtain ⟨g1,g2,-⟩ := rep_ok hO
  clear hO
  obtain ⟨k2,hk2⟩ : ∃ k2,(if lazyY s k f = true then k + 1 else k) = k2 := ⟨_,rfl⟩
  have hk2s : k2 ≤ s.size := by
   rw [← hk2]
   split
   ·rename_i h
    exact lazy_in h
   ·exact g2
  cases atom with
  | false =>
   go_enter Tryz.func28,Tryz.ntmps28
   go_upto_region 1 with (fail)
   rw [HW1.out]
   go_wp2_with fail
   refine HT.out.mono ?_
   intro e w2 hp
   obtain ⟨he,hg⟩ := rep_of82 hp
   unfold thrown at he
   subst he
   have HG := Hd (tk_trans HK1.out.1 hg)
   clear hg
   go_wp2
   exact ⟨rfl,only_bad (if_pos rfl) HG.out⟩
  | true =>
   by_cases hz : sizedY c a b = false
   ·have HO : Hid (onlyY s j f c a b k = some (85,j,k)) := Hd (by unfold onlyY;rw [if_pos hz])
    have HZ := Hd hz
    clear hz hk2
    go_enter Tryz.func28,Tryz.ntmps28
    go_upto_region 1 with (fail)
    rw [HW1.out]
    go_wp2_with fail
    refine HT.out.mono ?_
    intro e w2 hp
    obtain ⟨he,hg⟩ := rep_of85 HZ.out hp
    unfold thrown at he
    subst he
    have HG := Hd (tk_trans HK1.out.1 hg)
    clear hg
    go_wp2
    exact ⟨rfl,only_bad ((if_neg (by decide)).trans HO.out) HG.out⟩
   obtain ⟨V,hV⟩ : ∃ V,timesV c a b (lazyY s k f != flagY f 16) = V := ⟨_,rfl⟩
   obtain ⟨op,m,M,lz,hVV⟩ : ∃ op m M lz,V = .agg #[.int .i64 op,.slice none 0 0,.int .i32 0,.slice none 0 0,.int .i64 0,.int .i64 0,.string ⟨#[]⟩,.int .i64 m,.int .i64 M,.bool lz] := ⟨_,_,_,_,hV.symm⟩
   subst hVV
   have HV := Hd hV
   have hon : onlyY s j f c a b k = match repY s k2 with
     | none => none
     | some (c2,a2,b2,n2) => if sizedY c2 a2 b2 = false then some (85,k2,n2) else some (83,j,if lazyY s n2 f = true then n2 + 1 else n2) := by
    unfold onlyY
    rw [if_neg hz,hk2]
   have HZ := Hd hz;have HK2Y := Hd hk2;have HK2S := Hd hk2s
   have HU := Hd (fun W (hr : SrIn W q f s k2 nv) => pyrepeat_any q f s k2 nv true W hs HK2S.out hr)
   obtain ⟨O2,hO2⟩ : ∃ O,repY s k2 = O := ⟨_,rfl⟩
   rw [hO2] at hon HU
   have HON := Hd hon
   clear hz hk2 hk2s hV hon
   go_enter Tryz.func28,Tryz.ntmps28
   go_upto_region 1 with (fail)
   rw [HW1.out]
   go_wp2_with fail
   refine HT.out.mono ?_
   intro e w2 hp
   obtain ⟨he,ht⟩ := rep_of HZ.out HK2Y.out HV.out hp
   subst he
   have HK2 := Hd (HK1.out.trans ht);have HE2 := Hd (ht.whole HE1.out (by have := HQ.out;omega))
   clear ht HT c2 hp
   obtain ⟨w3,hw3⟩ : ∃ w3,w2.alloc (.cells #[.int .i64 op,.slice none 0 0,.int .i32 0,.slice none 0 0,.int .i64 0,.int .i64 0,.string ⟨#[]⟩,.int .i64 m,.int .i64 M,.bool lz] 29) = w3 := ⟨_,rfl⟩
   obtain ⟨hE3,hb3,hs3⟩ := box_tree w2 #[.int .i64 op,.slice none 0 0,.int .i32 0,.slice none 0 0,.int .i64 0,.int .i64 0,.string ⟨#[]⟩,.int .i64 m,.int .i64 M,.bool lz]
   rw [hw3] at hE3 hb3 hs3
   have HW3 := Hd hw3;have HK3 := Hd (HK2.out.below hb3);have HE3 := Hd (HE2.out.below hb3 HE2.out.lt);have HA3 := Hd hE3
   have HQ2 := Hd (show w.heap.size < w2.heap.size by have := HS1.out;have := HE2.out.lt;omega)
   clear hw3 hE3 hb3 hs3
   go_upto_region 3 with (fail)
   rw [HW3.out]
   go_wp2_with fail
   refine (HU.out w3 HK3.out.2).mono ?_
   intro e w4 hp
   cases O2 with
   | none =>
    obtain ⟨he,ht⟩ := hp
    unfold treZero at he
    subst he
    have HK4 := Hd (HK3.out.trans ht);have HE4 := Hd (ht.whole HE3.out (by have := HQ.out;omega));have HA4 := Hd (ht.whole HA3.out (by have := HQ.out;have := HQ2.out;omega))
    clear ht HU
    obtain ⟨w5,hw5⟩ : ∃ w5,w4.alloc (.cells #[.int .i64 0,.slice none 0 0,.int .i32 0,.slice none 0 0,.int .i64 0,.int .i64 0,.string ⟨#[]⟩,.int .i64 0,.int .i64 0,.bool false] 29) = w5 := ⟨_,rfl⟩
    obtain ⟨-,hb5,-⟩ := box_tree w4 #[.int .i64 0,.slice none 0 0,.int .i32 0,.slice none 0 0,.int .i64 0,.int .i64 0,.string ⟨#[]⟩,.int .i64 0,.int .i64 0,.bool false]
    rw [hw5] at hb5
    have HW5 := Hd hw5;have HK5 := Hd (HK4.out.below hb5);have HE5 := Hd (HE4.out.below hb5 HE4.out.lt);have HA5 := Hd (HA4.out.below hb5 HA4.out.lt)
    clear hw5 hb5
    go_upto_region 6 with (fail)
    rw [HW5.out]
    obtain ⟨b0,b1,b2,b3,b4,b5,b6,b7,b8,b9⟩ := HA5.out.ten
    obtain ⟨r0,r1,r2,r3,r4,r5,r6,r7,r8,r9⟩ := HE5.out.ten
    obtain ⟨z0,z1,z2,z3,z4,z5,z6,z7,z8,z9⟩ := whole_free HE5.out
    go_wp2_with fail
    refine treeB_ret Tryz.results28 w.heap.size true rfl rfl HE5.out ?_
    exact only_ok HON.out HV.out HK2Y.out (HK5.out.setTen (Nat.le_refl _) HQ.out _ _ _ _ _ _ _ _ _ _)
   | some r2 =>
    obtain ⟨c2,a2,b2,n2⟩ := r2
    by_cases hz2 : sizedY c2 a2 b2 = false
    ·have HO : Hid (onlyY s j f c a b k = some (85,k2,n2)) := Hd (by rw [HON.out];dsimp only;rw [if_pos hz2])
     obtain ⟨he,hg⟩ := rep_of85 hz2 hp
     unfold thrown at he
     subst he
     have HG := Hd (tk_trans HK3.out.1 hg)
     clear hg hz2 HU
     go_wp2
     exact ⟨rfl,only_bad ((if_neg (by decide)).trans HO.out) HG.out⟩
    ·have HO : Hid (onlyY s j f c a b k = some (83,j,if lazyY s n2 f = true then n2 + 1 else n2)) := Hd (by rw [HON.out];dsimp only;rw [if_neg hz2])
     obtain ⟨n3,hn3⟩ : ∃ n3,(if lazyY s n2 f = true then n2 + 1 else n2) = n3 := ⟨_,rfl⟩
     rw [hn3] at HO
     obtain ⟨he,ht⟩ := rep_of hz2 hn3 rfl hp
     unfold timesV at he
     obtain ⟨op2,hop2⟩ : ∃ o,opY c2 = o := ⟨_,rfl⟩
     obtain ⟨m2,hm2⟩ : ∃ o,(if c2 = 123 then a2 else 0) = o := ⟨_,rfl⟩
     obtain ⟨M2,hM2⟩ : ∃ o,(if c2 = 123 then b2 else 0) = o := ⟨_,rfl⟩
     obtain ⟨l2,hl2⟩ : ∃ o,(lazyY s n2 f != flagY f 16) = o := ⟨_,rfl⟩
     rw [hop2,hm2,hM2,hl2] at he
     subst he
     have HK4 := Hd (HK3.out.trans ht)
     clear ht HU hz2 hn3 hp hop2 hm2 hM2 hl2
     obtain ⟨w5,hw5⟩ : ∃ w5,w4.alloc (.cells #[.int .i64 op2,.slice none 0 0,.int .i32 0,.slice none 0 0,.int .i64 0,.int .i64 0,.string ⟨#[]⟩,.int .i64 m2,.int .i64 M2,.bool l2] 29) = w5 := ⟨_,rfl⟩
     obtain ⟨-,hb5,-⟩ := box_tree w4 #[.int .i64 op2,.slice none 0 0,.int .i32 0,.slice none 0 0,.int .i64 0,.int .i64 0,.string ⟨#[]⟩,.int .i64 m2,.int .i64 M2,.bool l2]
     rw [hw5] at hb5
     have HW5 := Hd hw5;have HK5 := Hd (HK4.out.below hb5)
     clear hw5 hb5
     go_upto_region 6 with (fail)
     rw [HW5.out]
     go_wp2_with fail
     refine (pyrefuse_any q f s n3 nv 83 j w5 HK5.out.2).mono ?_
     rintro e w6 ⟨he,rfl⟩
     unfold thrown at he
     subst he
     go_wp2
     exact ⟨rfl,only_bad ((if_neg (by decide)).trans HO.out) HK5.out.1⟩
end Go.Proofs.YthnddabcmhplkaaGreatDoor
