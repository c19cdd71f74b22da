/- Texts merged by program. No condition. -/
import Derived.Test.YthnddabcmhplkaaGreatDoorK42
import Derived.Test.YthnddabcmhplkaaGreatDoorK43
import Derived.Test.YthnddabcmhplkaaGreatDoorK45
set_option maxHeartbeats 6400000
set_option maxRecDepth 100000
set_option linter.unusedVariables false
namespace Go.Proofs.YthnddabcmhplkaaGreatDoor
open Go Go.RowKit
theorem fold_set {l k : List (Int × Int)} (hr : RightR k) (hh : ∀ d,HasR k d ↔ FoldP l d) : k = setB (foldB l) := setB_is hr fun d => by
 rw [hh d,foldB_iff]
 constructor
 ·intro h
  obtain ⟨e,he,hd⟩ := h
  have := orb_rune e he.1 he.2.1 d hd
  exact ⟨this.1,this.2,e,he,hd⟩
 ·exact fun h => h.2.2
theorem pynamed_any (f : Int) (v : Value) (l : List (Int × Int)) (w : World) (h : Rgs w v l) (hl : l.length ≤ 1114112) (hT : TabsT w) (lo : Nat) (hlo : lo ≤ w.heap.size) (hv : ∀ b,v.ownBlock = some b → lo ≤ b ∧ b < w.heap.size) :
  Calls Tryz.prog 70 #[.agg #[.int .i64 f],v] w (NewPost8 (fun k => lo ≤ k) (setY (if flagY f 1 = true then setB (foldB l) else l)) w) := by
 obtain ⟨w1,hw1⟩ : ∃ w1,(w.alloc (.cells #[.int .i64 f] 38)).alloc (.cells #[.int .i64 0,.slice none 0 0,.int .i32 0,.slice none 0 0,.int .i64 0,.int .i64 0,.string ⟨#[]⟩,.int .i64 0,.int .i64 0,.bool false] 29) = w1 := ⟨_,rfl⟩
 obtain ⟨k0,hE1,hb1,hs1⟩ := box_flags w f #[.int .i64 0,.slice none 0 0,.int .i32 0,.slice none 0 0,.int .i64 0,.int .i64 0,.string ⟨#[]⟩,.int .i64 0,.int .i64 0,.bool false]
 rw [hw1] at k0 hE1 hb1 hs1
 have HW1 := Hd hw1;have HE1 := Hd hE1;have HB1 := Hd hb1;have HS1 := Hd hs1;have HT := Hd (hT.below hb1);have HR1 := Hd (h.below hb1);have HLO := Hd hlo;have HV := Hd hv
 clear hw1 hE1 hb1 hs1 hT hlo hv
 have HEND : ∀ (t : Tr) (w2 : World) (v : Value),TreF (fun k => lo ≤ k ∧ k ≠ w.heap.size + 1) w2 t v → Below w1.heap.size w1 w2 → ∃ y1 y2 y3 y4 y5 y6,v = .agg #[.int .i64 t.fld.op,.slice y1 y2 y3,.int .i32 t.fld.rune,.slice y4 y5 y6,.int .i64 t.fld.at',.int .i64 t.fld.cap,.string t.fld.name,.int .i64 t.fld.min,.int .i64 t.fld.max,.bool t.fld.lazy] ∧ Whole w2 (w.heap.size + 1) 29 #[.int .i64 0,.slice none 0 0,.int .i32 0,.slice none 0 0,.int .i64 0,.int .i64 0,.string ⟨#[]⟩,.int .i64 0,.int .i64 0,.bool false] ∧
   NewPost8 (fun k => lo ≤ k) t w (.returned v) (set10 w2 (w.heap.size + 1) (.int .i64 t.fld.op) (.slice y1 y2 y3) (.int .i32 t.fld.rune) (.slice y4 y5 y6) (.int .i64 t.fld.at') (.int .i64 t.fld.cap) (.string t.fld.name) (.int .i64 t.fld.min) (.int .i64 t.fld.max) (.bool t.fld.lazy)) := by
  intro t w2 v ht hb
  obtain ⟨kv,sv,rfl,⟨y1,y2,y3,rfl⟩,⟨y4,y5,y6,rfl⟩⟩ := ht.ten
  exact ⟨y1,y2,y3,y4,y5,y6,rfl,HE1.out.below hb HE1.out.lt,_,rfl,(treF_set10 ht (fun k hk => hk.2) _ _ _ _ _ _ _ _ _ _).same (fun _ _ _ => rfl) (fun k hk _ => hk.1),set10_below (HB1.out.trans (hb.mono HB1.out.size)) (Nat.le_succ _) _ _ _ _ _ _ _ _ _ _⟩
 have HEND := Hd HEND
 obtain ⟨T,hTT⟩ : ∃ T,(if flagY f 1 = true then setB (foldB l) else l) = T := ⟨_,rfl⟩
 rw [hTT]
 have HH := Hd (pyhas_any f 1 w1)
 obtain ⟨B,hB⟩ : ∃ B,flagY f 1 = B := ⟨_,rfl⟩
 rw [hB] at HH hTT
 have HTT := Hd hTT
 obtain ⟨a0,c0,hv0,-⟩ := h
 subst hv0
 clear hB hTT
 go_enter Tryz.func70,Tryz.ntmps70
 go_upto_region 1 with (fail)
 rw [HW1.out]
 go_wp2_with fail
 refine HH.out.mono ?_
 rintro e w2 ⟨rfl,hb2⟩
 have HB2 := Hd hb2
 clear hb2 k0 HH
 cases B
 ·have hTl : T = l := HTT.out.symm
  subst hTl
  have HS := Hd (pyofSet_any _ _ w2 (HR1.out.below HB2.out) (by omega) (fun k => lo ≤ k ∧ k ≠ w.heap.size + 1) (fun b hb => ⟨(HV.out b hb).1,by have := (HV.out b hb).2;omega⟩))
  clear HTT
  go_wp2_with fail
  refine HS.out.mono ?_
  rintro e w4 ⟨v4,rfl,ht,hb4⟩
  obtain ⟨y1,y2,y3,y4,y5,y6,rfl,hE4,hP⟩ := HEND.out _ w4 v4 ht (HB2.out.trans (hb4.mono HB2.out.size))
  have HE4 := Hd hE4;have HP := Hd hP
  clear ht hb4 hE4 hP HEND
  obtain ⟨r0,r1,r2,r3,r4,r5,r6,r7,r8,r9⟩ := HE4.out.ten
  obtain ⟨z0,z1,z2,z3,z4,z5,z6,z7,z8,z9⟩ := whole_free HE4.out
  go_wp2_with fail
  refine treeV_ret Tryz.results70 (w.heap.size + 1) rfl HE4.out ?_
  exact HP.out
 ·have HF := Hd (fold_any _ l w2 (HR1.out.below HB2.out) hl (HT.out.below HB2.out))
  go_wp2_with fail
  refine HF.out.mono ?_
  rintro e w3 ⟨v3,k3,rfl,ho,hr,hh,hb3⟩
  have HB3 := Hd (HB2.out.trans (hb3.mono HB2.out.size))
  have hTk : k3 = T := (fold_set hr hh).trans HTT.out
  have HS := Hd (pyofSet_any v3 k3 w3 ho.rgs (by have := right8_small hr;omega) (fun k => lo ≤ k ∧ k ≠ w.heap.size + 1) (fun b hb => by have := own_ge ho b hb;have := HS1.out;have := HB2.out.size;have := HLO.out;omega))
  rw [hTk] at HS
  obtain ⟨a3,c3,hv3,-⟩ := ho.rgs
  subst hv3
  clear ho hr hh hb3 hTk HF HTT
  go_wp2_with fail
  refine HS.out.mono ?_
  rintro e w4 ⟨v4,rfl,ht,hb4⟩
  obtain ⟨y1,y2,y3,y4,y5,y6,rfl,hE4,hP⟩ := HEND.out _ w4 v4 ht (HB3.out.trans (hb4.mono HB3.out.size))
  have HE4 := Hd hE4;have HP := Hd hP
  clear ht hb4 hE4 hP HEND
  obtain ⟨r0,r1,r2,r3,r4,r5,r6,r7,r8,r9⟩ := HE4.out.ten
  obtain ⟨z0,z1,z2,z3,z4,z5,z6,z7,z8,z9⟩ := whole_free HE4.out
  go_wp2_with fail
  refine treeV_ret Tryz.results70 (w.heap.size + 1) rfl HE4.out ?_
  exact HP.out
theorem OwnT.apart {F : Nat → Prop} {w w' : World} {B it : Nat} {v : Value} {T : List Tr} (h : OwnT F w B v T) (hg : ∀ k,k < w.heap.size → k ≠ it → w'.heap[k]? = w.heap[k]?) (hit : it < B) (hF : ∀ b,F b → b ≠ it) : OwnT F w' B v T := by
 obtain ⟨L,hl,ho,ht⟩ := h
 exact ⟨L,hl,own_other ho fun b hb => hg b (own_kind ho hb).lt (by have := (ho.lt b hb).1;omega),fun i h h' => (ht i h h').same (fun b hb hlt => hg b hlt (hF b hb.2)) fun b hb _ => hb⟩
def TextPost (L : List Tr) (w : World) (e : Ending) (w' : World) : Prop := ∃ v,e = .returned v ∧ OwnT (fun k => w.heap.size ≤ k) w' w.heap.size v L ∧ Below w.heap.size w w'
def TxRel (f : Int) (s : ByteArray) (w0 : World) (it : Nat) (fo : Bool) (vs : Value) (wr : World) : Prop :=
 ∃ (pos fuel : Nat) (T : List Tr) (va : Option Addr) (vn vc : Nat),vs = .slice va vn vc ∧ OwnT (fun k => it < k) wr (it + 1) (.slice va vn vc) T ∧ wr.heap[it]? = some (.stringIter s pos) ∧ Below it w0 wr ∧ T ++ litY s fo fuel pos = litY s fo s.size 0 ∧ s.size ≤ pos + fuel ∧ T.length ≤ pos ∧ pos ≤ s.size
theorem pytext_any (f : Int) (s : ByteArray) (w : World) (hs : s.size ≤ 1048576) (hT : TabsT w) :
  Calls Tryz.prog 14 #[.agg #[.int .i64 f],.string s] w (TextPost (litY s (flagY f 1) s.size 0) w) := by
 obtain ⟨w1,hw1⟩ : ∃ w1,w.alloc (.cells #[.int .i64 f] 38) = w1 := ⟨_,rfl⟩
 have hb1 : Below w.heap.size w w1 := by rw [← hw1];exact (Below.refl _ w).alloc (Nat.le_refl _) _
 have hE1 : Whole w1 w.heap.size 38 #[.int .i64 f] := by rw [← hw1];exact heap_alloc_new w _
 have hs1 : w1.heap.size = w.heap.size + 1 := by rw [← hw1];simp
 have HW1 := Hd hw1;have HE1 := Hd hE1;have HB1 := Hd hb1;have HS1 := Hd hs1;have HT := Hd (hT.below hb1);have HS := Hd hs
 clear hw1 hE1 hb1 hs1 hT hs
 obtain ⟨L,hL⟩ : ∃ L,litY s (flagY f 1) s.size 0 = L := ⟨_,rfl⟩
 rw [hL]
 have HL := Hd hL
 clear hL
 go_enter Tryz.func14,Tryz.ntmps14
 go_upto_region 1 with (fail)
 rw [HW1.out]
 go_wp2_with fail
 go_loopw [5] (fun vs wr => TxRel f s w1 w1.heap.size (flagY f 1) vs wr) (fun _ wr => s.size - wr.iterPos w1.heap.size)
 case atStart =>
  exact ⟨0,s.size,[],none,0,0,rfl,ownT_none _ _ _,World.iter_heap w1 s 0,(Below.refl _ w1).alloc (Nat.le_refl _) _,rfl,by omega,Nat.zero_le _,Nat.zero_le _⟩
 case round =>
  obtain ⟨pos,fuel,T,va,vn,vc,rfl,ho,hit,hB,h1,h2,h3,h4⟩ := hrel
  have H1 := Hd h1
  clear h1
  by_cases hp : pos < s.size
  ·have hwd := decode_some s pos hp
   have hwe := decode_width s pos hp
   have hcr := Lib.rune_le s pos
   obtain ⟨c,hc⟩ : ∃ c : Nat,c = (Utf8.decode s pos).1 := ⟨_,rfl⟩
   obtain ⟨np,hnp⟩ : ∃ np,pos + (Utf8.decode s pos).2 = np := ⟨_,rfl⟩
   obtain ⟨wi,hwi⟩ : ∃ wi : World,wi = wr.iterAt w1.heap.size s np := ⟨_,rfl⟩
   have hnx : ∀ ty,(Instr.next (.pointer (some ⟨w1.heap.size,0,none⟩)) true ty).run Tryz.prog wr = .ok (.tuple #[.bool true,.int .i64 pos,.int .i32 c]) wi := fun ty => by rw [hc,hwi,← hnp];exact Lib.run_next_any_at wr w1.heap.size s pos ty hit hp
   have hoi : OwnT (fun k => w1.heap.size < k) wi (w1.heap.size + 1) (.slice va vn vc) T := by rw [hwi];exact ho.apart (fun k _ hk => Lib.iterAt_other wr w1.heap.size k s np hk) (Nat.lt_succ_self _) (fun b hb => by omega)
   have hiti : wi.heap[w1.heap.size]? = some (.stringIter s np) := by rw [hwi];exact Lib.iterAt_heap wr w1.heap.size s pos np hit
   have hBi : Below w1.heap.size w1 wi := by rw [hwi];exact Lib.below_iterAt hB (Nat.le_refl _) s np
   have hsz : w1.heap.size < wi.heap.size := (Array.getElem?_eq_some_iff.1 hiti).1
   have hcI : I32 (c : Int) := by unfold I32;omega
   have hlit : litY s (flagY f 1) fuel pos = atomY (c : Int) (flagY f 1) :: litY s (flagY f 1) (fuel - 1) np := by
    obtain ⟨fu,rfl⟩ : ∃ fu,fuel = fu + 1 := ⟨fuel - 1,by omega⟩
    rw [litY,if_neg (by omega),hc,hnp]
    rfl
   have HLIT := Hd hlit;have HOI := Hd hoi;have HITI := Hd hiti;have HBI := Hd hBi;have HSZ := Hd hsz;have HCI := Hd hcI;have HNP := Hd hnp;have HWD := Hd hwd;have HWE := Hd hwe;have HIT := Hd hit
   have HH := Hd (pyitself_any f c hcI wi (HT.out.below hBi))
   have k0 := (HE1.out.below hBi HE1.out.lt).cell 0
   clear hlit ho hoi hiti hBi hsz hcI hc hwi hB hit hnp hwd hwe hcr
   go_wp2_with fail
   refine HH.out.mono ?_
   rintro e w2 ⟨v2,rfl,ht,hb2⟩
   obtain ⟨kv,sv,rfl,⟨y1,y2,y3,rfl⟩,⟨y4,y5,y6,rfl⟩⟩ := ht.ten
   have HO2 := Hd (HOI.out.below hb2)
   have HK2 := Hd (kds_one ht (fun b => Off (.slice va vn vc) b ∧ w1.heap.size < b) (fun b hb _ => ⟨fun e => by have := HOI.out.off b hb;exact this e,by have := HSZ.out;omega⟩))
   have HB2 := Hd (HBI.out.trans (hb2.mono HBI.out.size))
   have HI2 := Hd ((hb2.block _ (by have := HSZ.out;omega)).trans HITI.out)
   have HS2 := Hd (show w1.heap.size < w2.heap.size by have := HSZ.out;have := hb2.size;omega)
   have HLT := Hd (show T.length + 1 ≤ 1172812402961 by have := HS.out;omega)
   unfold treC at HK2
   clear ht hb2 HH k0
   go_wp2_with (at_builtin;refine append_trs rfl (.tmp 13) (.tmp 17) rfl (fun k => w1.heap.size < k) (w1.heap.size + 1) _ T rfl (HO2.out.below ((Below.refl _ w2).alloc (Nat.le_refl _) _)) (some ⟨w2.heap.size,0,none⟩) 1 1 [atomY (c : Int) (flagY f 1)] rfl HK2.out (by simpa using HLT.out) (by have := HS2.out;simp;omega) ?_;intro v3 w3 ho3 hg3 _;obtain ⟨x1,x2,x3,rfl⟩ := ho3.slice;have HO3 := Hd ho3;have HB3 := Hd ((HB2.out.alloc HB2.out.size _).grown hg3 (by have := HS2.out;simp;omega) (fun j hj => (by have := HO2.out.base j hj;omega)));have HI3 := Hd ((hg3.block _ (by have := HS2.out;simp;omega) (fun e => (by have := HO2.out.base _ e.symm;omega))).trans ((Below.heap_alloc w2 _ _ HS2.out).trans HI2.out));clear ho3 hg3)
   go_roundw
   case rel =>
    refine ⟨np,fuel - 1,T ++ [atomY (c : Int) (flagY f 1)],_,_,_,rfl,HO3.out,HI3.out,HB3.out,?_,by have := HNP.out;have := HWD.out;omega,by have := HNP.out;have := HWD.out;simp;omega,by have := HNP.out;have := HWE.out;omega⟩
    rw [List.append_assoc,List.singleton_append,← HLIT.out]
    exact H1.out
   case measure =>
    rw [iterPos_of HI3.out,iterPos_of HIT.out]
    have := HNP.out;have := HWD.out;have := HWE.out
    omega
  ·have hnx : ∀ ty,(Instr.next (.pointer (some ⟨w1.heap.size,0,none⟩)) true ty).run Tryz.prog wr = _ := fun ty => Lib.run_next_end_at wr w1.heap.size s pos ty hit hp
   have hTL : T = L := by
    have := H1.out
    rw [lit_nil _ _ _ _ (by omega),List.append_nil] at this
    exact this.trans HL.out
   have HO := Hd ho;have HB := Hd hB;have HTL := Hd hTL
   clear ho hB hTL
   go_wp2_with fail
   go_ret
   refine ⟨_,rfl,?_,below_two HB1.out HB.out⟩
   rw [← HTL.out]
   obtain ⟨Ls,hl,hro,ht⟩ := HO.out.mono (B' := w.heap.size) (by have := HS1.out;omega)
   exact ⟨Ls,hl,hro,fun i h h' => (ht i h h').same (fun _ _ _ => rfl) fun b hb _ => ⟨hb.1,by have := HS1.out;have := hb.2;omega⟩⟩
def TabB (B : Nat) (w : World) : Prop := ∀ W,Below B w W → TabsY W
theorem TabB.now {B : Nat} {w : World} (h : TabB B w) : TabsY w := h w (Below.refl _ _)
theorem TabB.next {B : Nat} {w w1 : World} (h : TabB B w) (hb : Below B w w1) : TabB B w1 := fun W hW => h W (hb.trans hW)
theorem TabB.below {B : Nat} {w w1 : World} (h : TabB B w) (hB : B ≤ w.heap.size) (hb : Below w.heap.size w w1) : TabB B w1 := h.next (hb.mono hB)
theorem Tk.belowB {B q : Nat} {f : Int} {s : ByteArray} {j : Nat} {nv : Value} {w w1 : World} (h : Tk q f s j nv w w1) (hB : B ≤ w.heap.size) (hq : B ≤ q) : Below B w w1 := (Below.refl B w).grown h.1 hB (fun k e => by cases e;exact hq)
theorem Went.belowB {B q : Nat} {s : ByteArray} {nv nv1 : Value} {w w1 : World} {f f0 : Int} {j j0 : Nat} {ns ns0 : List (List UInt8)} (h : Went B q s nv w w1 f j ns nv1) (h0 : SrSt w B q f0 s j0 nv ns0) (hB : B ≤ w.heap.size) (hq : B ≤ q) : Below B w w1 := h.steps.below (Below.refl _ _) hB hq h0.low
def endsY (s : ByteArray) (j : Nat) : Bool := decide (s.size ≤ j ∨ headI (leftB s j) = 124 ∨ headI (leftB s j) = 41)
theorem pyends_any (q : Nat) (f : Int) (s : ByteArray) (j : Nat) (nv : Value) (w : World) (hj : j ≤ s.size) (h : SrIn w q f s j nv) :
  Calls Tryz.prog 27 #[.pointer (some ⟨q,0,none⟩)] w fun e w' => e = .returned (.bool (endsY s j)) ∧ ∃ n,w' = w.drewN n := by
 obtain ⟨c0,c1,c2,c3⟩ := h.cells
 obtain ⟨R,hR⟩ : ∃ R,endsY s j = R := ⟨_,rfl⟩
 rw [hR]
 unfold endsY at hR
 have HR := Hd hR
 clear c0 c3 h hR
 by_cases hlt : j < s.size
 ·have b0 : ((j : Int) == (s.size : Int)) = false := beq_eq_false_iff_ne.2 (by omega)
  have hh := head_at s j hlt
  by_cases h1 : headI (leftB s j) = 124
  ·have b1 : ((s[j].toNat : Int) == 124) = true := eq_true_of (hh.symm.trans h1)
   have HE := Hd (show R = true by rw [← HR.out];exact decide_eq_true (.inr (.inl h1)))
   clear hh h1 hj
   go_enter Tryz.func27,Tryz.ntmps27
   go_wp2_with fail
   go_big_quiet (fail)
   go_wp2
   go_ret
   rw [HE.out]
   exact ⟨rfl,_,rfl⟩
  have b1 : ((s[j].toNat : Int) == 124) = false := eq_false_of (fun e => h1 (hh.trans e))
  by_cases h2 : headI (leftB s j) = 41
  ·have b2 : ((s[j].toNat : Int) == 41) = true := eq_true_of (hh.symm.trans h2)
   have HE := Hd (show R = true by rw [← HR.out];exact decide_eq_true (.inr (.inr h2)))
   clear hh h1 h2 hj
   go_enter Tryz.func27,Tryz.ntmps27
   go_wp2_with fail
   go_big_quiet (fail)
   go_wp2
   go_ret
   rw [HE.out]
   exact ⟨rfl,_,rfl⟩
  ·have b2 : ((s[j].toNat : Int) == 41) = false := eq_false_of (fun e => h2 (hh.trans e))
   have HE := Hd (show R = false by rw [← HR.out];exact decide_eq_false (by rintro (h | h | h);omega;exact h1 h;exact h2 h))
   clear hh h1 h2 hj
   go_enter Tryz.func27,Tryz.ntmps27
   go_wp2_with fail
   go_big_quiet (fail)
   go_wp2
   go_ret
   rw [HE.out]
   exact ⟨rfl,_,rfl⟩
 ·have b0 : ((j : Int) == (s.size : Int)) = true := beq_iff_eq.2 (by omega)
  have HE := Hd (show R = true by rw [← HR.out];exact decide_eq_true (.inl (by omega)))
  clear hj hlt
  go_enter Tryz.func27,Tryz.ntmps27
  go_wp2_with fail
  go_big_quiet (fail)
  go_wp2
  go_ret
  rw [HE.out]
  exact ⟨rfl,_,rfl⟩
theorem cut_head (s : ByteArray) (j : Nat) (hj : j ≤ s.size) : ∃ (B : ByteArray) (b : Bool),(⟨(Lib.cut (s.extract j s.size).data.toList [92,69]).1.toArray⟩ : ByteArray) = headE s j ∧ (⟨(Lib.cut (s.extract j s.size).data.toList [92,69]).2.1.toArray⟩ : ByteArray) = B ∧ (Lib.cut (s.extract j s.size).data.toList [92,69]).2.2 = b ∧
  B.size = s.size - (if j + eN (leftB s j) < s.size then j + eN (leftB s j) + 2 else j + eN (leftB s j)) ∧ (if j + eN (leftB s j) < s.size then j + eN (leftB s j) + 2 else j + eN (leftB s j)) ≤ s.size := by
 refine ⟨_,_,?_,rfl,rfl,?_,?_⟩
 all_goals
  have hl : (s.extract j s.size).data.toList = leftB s j := by rw [← extract_whole,Lib.toList_data]
  have hle := eN_le (leftB s j)
  have hat := eN_at (leftB s j)
  have hlen := left_length s j
  have hpre : preB [92,69] ((leftB s j).drop (eN (leftB s j))) = true → eN (leftB s j) + 2 ≤ (leftB s j).length := fun h => by
   have := pre_fits h
   rw [List.length_drop] at this
   simp only [List.length_cons,List.length_nil] at this
   omega
  try rw [hl]
  try unfold Lib.cut
  try rw [eN_index]
 ·by_cases h : eN (leftB s j) < (leftB s j).length
  ·rw [if_pos h,if_pos (by omega)]
   unfold headE
   simp
  ·rw [if_neg h,if_neg (by omega)]
   unfold headE
   rw [List.take_of_length_le (by omega)]
 ·by_cases h : eN (leftB s j) < (leftB s j).length
  ·rw [if_pos h,if_pos (by omega),if_pos (by omega)]
   show ((leftB s j).drop ((eN (leftB s j) : Int).toNat + 2)).toArray.size = _
   simp
   omega
  ·rw [if_neg h,if_neg (by omega),if_neg (by omega)]
   show (#[] : Array UInt8).size = _
   simp
   omega
 ·split
  ·have := hpre (hat.resolve_left (by omega))
   omega
  ·omega
theorem lit_len (s : ByteArray) (fold : Bool) : ∀ n i : Nat,(litY s fold n i).length ≤ n
 | 0,_ => Nat.le_refl _
 | n + 1,i => by
  rw [litY]
  split
  ·exact Nat.zero_le _
  ·simp only [List.length_cons]
   have := lit_len s fold n (i + (Utf8.decode s i).2)
   omega
theorem pyquoted_any (B q : Nat) (f : Int) (s : ByteArray) (j : Nat) (nv : Value) (ns : List (List UInt8)) (w : World) (hs : s.size ≤ 1048576) (h0 : 0 < j) (hj : j ≤ s.size) (h : SrSt w B q f s j nv ns) (hT : TabB B w) (hB : B ≤ w.heap.size) (hq : B ≤ q) :
  Calls Tryz.prog 69 #[.pointer (some ⟨q,0,none⟩)] w (AtomsPost B q s nv (.ok (quotedY s (flagY f 1) s.size j).1 (quotedY s (flagY f 1) s.size j).2 f ns) w) := by
 obtain ⟨m0,hm0⟩ := hT.now.2
 have hC := fun k => Tryz.strings_Cut (s.extract j s.size) ⟨#[92,69]⟩ m0 (w.drewN k) (by simp;omega) (by rw [World.cell?_drewN];exact hm0)
 obtain ⟨Bh,bb,e1,e2,e3,e4,e5⟩ := cut_head s j hj
 rw [show (⟨#[92,69]⟩ : ByteArray).data.toList = [92,69] from rfl,e1,e2,e3] at hC
 have hqq := quoted_all s j (flagY f 1) h0 hj
 rw [hqq]
 obtain ⟨m,hm⟩ : ∃ m,(if j + eN (leftB s j) < s.size then j + eN (leftB s j) + 2 else j + eN (leftB s j)) = m := ⟨_,rfl⟩
 rw [hm] at e4 e5 ⊢
 have hes : (headE s j).size ≤ 1048576 := by
  rw [headE_size]
  have := eN_le (leftB s j)
  rw [left_length] at this
  omega
 obtain ⟨Q,hQ⟩ : ∃ Q,headE s j = Q := ⟨_,rfl⟩
 rw [hQ] at hC hes ⊢
 obtain ⟨c0,c1,c2,c3⟩ := h.rd.cells
 obtain ⟨f0,f2,f3⟩ := h.rd.frees
 have y2 : (j : Int) ≤ (s.size : Int) := by omega
 have y3 : IntKind.i64.wrap ((s.size : Int) - (Bh.size : Int)) = (m : Int) := by rw [wrap_in _ (by omega)];omega
 have HC := Hd hC;have HH := Hd h;have HES := Hd hes;have HT := Hd hT
 clear hC h e1 e2 e3 e4 e5 hqq hm hQ hes hT hm0 h0 c0 c3 f0 f3 hs hj
 go_enter Tryz.func69,Tryz.ntmps69
 go_wp2_with fail
 go_big_quiet (first | (go_at_call 92;with_reducible refine Calls.quiet_of (HC.out _)))
 obtain ⟨w1,hw1⟩ : ∃ w1,(w.drewN nq).setCell ⟨q,2,none⟩ (.int .i64 (m : Int)) = w1 := ⟨_,rfl⟩
 have HK := Hd (show Tk q f s m nv w w1 by rw [← hw1];exact (Tk.of_below HH.out.rd (drewN_below w nq)).putJ m _ rfl)
 have HW1 := Hd hw1
 clear hw1
 go_upto_region 3 with (fail)
 rw [HW1.out]
 clear c1 c2 f2 y2 y3
 obtain ⟨c0,c1,c2,c3⟩ := HK.out.2.cells
 clear c1 c2 c3
 have HTT := Hd (pytext_any f Q w1 HES.out (HT.out _ (HK.out.belowB hB hq)).1.2)
 go_wp2_with fail
 refine HTT.out.mono ?_
 rintro e w2 ⟨v2,rfl,ho,hb⟩
 obtain ⟨y1,y2,y3,rfl⟩ := ho.slice
 have HO := Hd ho;have HB := Hd hb
 clear ho hb
 go_wp2_with fail
 go_ret
 refine ⟨_,nv,rfl,(HO.out.kdsE ?_).mono fun b hb _ => ?_,.of_took HH.out (HK.out.below HB.out)⟩
 ·have := lit_len Q (flagY f 1) Q.size 0
  have := HES.out
  omega
 ·have := HK.out.size
  exact ⟨by have := hb.2;omega,HH.out.free (by have := hb.2;omega)⟩
theorem perls_kind {c k : Int} {l : List (Int × Int)} {a : Int} (h : perlsR c = some (k,l,a)) : k = 2 ∨ k = 3 ∨ k = 4 := by
 unfold perlsR at h
 split at h
 ·cases h
  exact .inr (.inl rfl)
 split at h
 ·cases h
  exact .inr (.inr rfl)
 split at h
 ·cases h
 split at h
 ·cases h
 ·cases h
  exact .inl rfl
theorem escC_kind {s : ByteArray} {c : Int} {b : Nat} {p : Bool} {k r : Int} {l : List (Int × Int)} {a : Int} {n : Nat} (h : escC s c b p = .esc k r l a n) : k = 1 ∨ k = 2 ∨ k = 3 ∨ k = 4 := by
 unfold escC at h
 split at h
 ·cases h
  exact .inl rfl
 split at h
 ·cases h
  exact .inl rfl
 split at h
 ·split at h
  ·cases h
  ·cases h
   exact .inl rfl
 split at h
 ·split at h
  ·cases h
  ·split at h
   ·cases h
   ·cases h
    exact .inr (.inl rfl)
 ·split at h
  ·cases h
  ·rename_i hp
   split at h
   ·cases h
    exact .inr (perls_kind hp)
   ·cases h
theorem escS_kind {s : ByteArray} {i : Nat} {p : Bool} {k r : Int} {l : List (Int × Int)} {a : Int} {n : Nat} (h : escS s i p = .esc k r l a n) : k = 1 ∨ k = 2 ∨ k = 3 ∨ k = 4 := by
 unfold escS at h
 split at h
 ·cases h
 split at h
 ·cases h
 ·exact escC_kind h
theorem esc_det (s : ByteArray) (j : Nat) (p : Bool) (hs : s.size ≤ 4503599627370496) (hlt : j < s.size) : ∃ (kd r at' n c a b : Int) (L : List (Int × Int)),
  (∀ W,TabsY W → Calls Tryz.prog 68 #[.string s,.int .i64 j,.bool p] W fun e w' => ∃ v,e = .returned (.tuple #[.agg #[.int .i64 kd,.int .i32 r,v,.int .i64 at'],.int .i64 n,.agg #[.int .i64 c,.int .i64 a,.int .i64 b]]) ∧ OwnR w' W.heap.size v L ∧ Below W.heap.size W w') ∧
  ((∃ till : Nat,escS s j p = .bad c till ∧ 0 < c ∧ a = j ∧ b = till) ∨ ∃ n' : Nat,escS s j p = .esc kd r L at' n' ∧ n = n' ∧ c = 0 ∧ a = 0 ∧ b = 0 ∧ j < n' ∧ n' ≤ s.size ∧ 0 ≤ r ∧ r ≤ 1114111 ∧ L.length ≤ 1114112 ∧ (kd = 1 ∨ kd = 2 ∨ kd = 3 ∨ kd = 4) ∧ (kd = 3 → at' = 1 ∨ at' = 2 ∨ at' = 4 ∨ at' = 8 ∨ at' = 16 ∨ at' = 32)) := by
 have hp := fun W (h : TabsY W) => pescape_any s j p W hs (Nat.le_of_lt hlt) h.utf8
 have hok := escS_ok s j p hlt
 have htl := escS_till s j p hlt
 cases hE : escS s j p with
 | bad c till =>
  rw [hE] at hp hok
  refine ⟨0,0,0,0,c,j,till,[],fun W h => (hp W h).mono fun e w' h => ?_,.inl ⟨till,rfl,hok,rfl,rfl⟩⟩
  obtain ⟨hb,he⟩ := h
  exact ⟨_,he,own_none _ _,hb⟩
 | esc k r l a n =>
  have hk := escS_kind hE
  rw [hE] at hp hok htl
  obtain ⟨h1,h2,h3,h4,h5⟩ := hok
  refine ⟨k,r,a,n,0,0,0,l,fun W h => (hp W h).mono fun e w' h => ?_,.inr ⟨n,rfl,rfl,rfl,rfl,rfl,h1,h2,h3,h4,right8_small h5,hk,htl⟩⟩
  obtain ⟨hb,v,he,ho⟩ := h
  exact ⟨v,he,ho,hb⟩
theorem AtomsPost.from {B q : Nat} {s : ByteArray} {nv nv1 : Value} {R : PR} {w w1 : World} {f1 : Int} {j1 : Nat} {ns1 : List (List UInt8)} {e : Ending} {w' : World} (h : Went B q s nv w w1 f1 j1 ns1 nv1) (h2 : AtomsPost B q s nv1 R w1 e w') : AtomsPost B q s nv R w e w' := by
 cases R with
 | bad c a b => exact ⟨h2.1,h.steps.trans h.spot h2.2⟩
 | ok l i f ns =>
  obtain ⟨v,nv',he,hk,hg⟩ := h2
  exact ⟨v,nv',he,hk.mono fun b hb _ => ⟨Nat.le_trans h.steps.size hb.1,hb.2⟩,h.trans hg⟩
theorem TreePost.from {B q : Nat} {s : ByteArray} {nv nv1 : Value} {mk : List Tr → Tr} {R : PR} {w w1 : World} {f1 : Int} {j1 : Nat} {ns1 : List (List UInt8)} {e : Ending} {w' : World} (h : Went B q s nv w w1 f1 j1 ns1 nv1) (h2 : TreePost B q s nv1 mk R w1 e w') : TreePost B q s nv mk R w e w' := by
 cases R with
 | bad c a b => exact ⟨h2.1,h.steps.trans h.spot h2.2⟩
 | ok l i f ns =>
  obtain ⟨v,nv',he,hk,hg⟩ := h2
  exact ⟨v,nv',he,hk.same (fun _ _ _ => rfl) (fun b hb _ => ⟨Nat.le_trans h.steps.size hb.1,hb.2⟩),h.trans hg⟩
theorem kds_cs {F G : Nat → Prop} {w : World} {t : Tr} {cs : Array Value} (h : TreF F w t (.agg cs)) (hFG : ∀ b,F b → b < w.heap.size → G b) : KdsE G (w.alloc (.cells cs 29)) [t] (.slice (some ⟨w.heap.size,0,none⟩) 1 1) := by
 obtain ⟨⟨kv,sv,rfl⟩,-⟩ := treF_form h
 exact kds_one h G hFG
theorem atoms_one {B q : Nat} {s : ByteArray} {nv nv1 : Value} {w w1 : World} {f : Int} {i : Nat} {ns : List (List UInt8)} {t : Tr} {cs : Array Value} (h : Went B q s nv w w1 f i ns nv1) (ht : TreF (fun b => w.heap.size ≤ b ∧ Fr q nv1 b) w1 t (.agg cs)) :
  AtomsPost B q s nv (.ok [t] i f ns) w (.returned (.slice (some ⟨w1.heap.size,0,none⟩) 1 1)) (w1.alloc (.cells cs 29)) :=
 ⟨_,nv1,rfl,kds_cs ht fun _ hb _ => hb,h.below ((Below.refl _ w1).alloc (Nat.le_refl _) _)⟩
theorem fresh_fr {B q : Nat} {f : Int} {s : ByteArray} {j : Nat} {nv : Value} {ns : List (List UInt8)} {w w1 : World} {t : Tr} {v : Value} (h : SrSt w B q f s j nv ns) (ht : TreF (fun b => w.heap.size ≤ b) w1 t v) : TreF (fun b => w.heap.size ≤ b ∧ Fr q nv b) w1 t v :=
 ht.same (fun _ _ _ => rfl) fun b hb _ => ⟨hb,h.free hb⟩
theorem pyescape_any (B q : Nat) (f : Int) (s : ByteArray) (j : Nat) (nv : Value) (ns : List (List UInt8)) (w : World) (hs : s.size ≤ 1048576) (hlt : j < s.size) (h : SrSt w B q f s j nv ns) (hT : TabB B w) (hB : B ≤ w.heap.size) (hqB : B ≤ q) :
  Calls Tryz.prog 45 #[.pointer (some ⟨q,0,none⟩)] w (AtomsPost B q s nv (escapedY s j f ns) w) := by
 obtain ⟨c0,c1,c2,c3⟩ := h.rd.cells
 obtain ⟨kd,r,at',n,c,a,b,L,hX,hrel⟩ := esc_det s j (flagY f 32) (by omega) hlt
 obtain ⟨P,hP⟩ : ∃ P,flagY f 32 = P := ⟨_,rfl⟩
 have HH := Hd (fun W => pyhas_any f 32 W)
 obtain ⟨R,hR⟩ : ∃ R,escapedY s j f ns = R := ⟨_,rfl⟩
 unfold escapedY at hR
 rw [hP] at hX hrel HH hR
 rw [show escapedY s j f ns = R by unfold escapedY;rw [hP];exact hR]
 have HX := Hd hX
 have hq := h.rd.lt
 have HTT := Hd (fun W (hb : Below w.heap.size w W) => hT W (hb.mono hB))
 have HHH := Hd h;have HREL := Hd hrel;have HT := Hd hT;have HR := Hd hR;have HS := Hd hs
 clear hX hT h hrel c3 hP hR hlt
 go_enter Tryz.func45,Tryz.ntmps45
 go_upto_region 1 with (fail)
 go_cut [3,4,5] (fun s3 s4 s5 wx => ∃ ea bx A m cA,s3 = .pointer (some ⟨ea,0,none⟩) ∧ s5 = .pointer (some ⟨bx,0,none⟩) ∧ s4 = .int .i64 n ∧ Whole wx ea 115 #[.int .i64 kd,.int .i32 r,.slice A m cA,.int .i64 at'] ∧ Whole wx bx 32 #[.int .i64 c,.int .i64 a,.int .i64 b] ∧ OwnR wx w.heap.size (.slice A m cA) L ∧ Below w.heap.size w wx ∧ w.heap.size ≤ ea ∧ w.heap.size ≤ bx)
 case first =>
  refine wp_region_held_drew (S := fun w' => Below w.heap.size w w') (by kernel_rfl) (Below.refl _ _).drew (fun hHeld => ?_)
  obtain ⟨u0,hu0⟩ : ∃ x,w.drew = x := ⟨_,rfl⟩
  rw [hu0] at hHeld ⊢
  have HB0 := Hd hHeld;have HS0 := Hd (show u0.heap.size = w.heap.size by rw [← hu0];rfl)
  clear hu0
  refine tk8 0 (v := ?_) rfl (Or.inl ⟨by rfl,?_⟩) hHeld ?_
  rotate_left 1
  ·(intro w hSw;(try dsimp only at hSw);obtain ⟨e0,e1,e2⟩ := c8 hSw hq c0 c1 c2;go_simp;(try with_reducible rfl))
  try simp only [lay8]
  refine tk8 1 (v := ?_) rfl (Or.inl ⟨by rfl,?_⟩) hHeld ?_
  rotate_left 1
  ·(intro w hSw;(try dsimp only at hSw);obtain ⟨e0,e1,e2⟩ := c8 hSw hq c0 c1 c2;go_simp;(try with_reducible rfl))
  try simp only [lay8]
  refine tk8 2 (v := ?_) rfl (Or.inl ⟨by rfl,?_⟩) hHeld ?_
  rotate_left 1
  ·(intro w hSw;(try dsimp only at hSw);obtain ⟨e0,e1,e2⟩ := c8 hSw hq c0 c1 c2;go_simp;(try with_reducible rfl))
  try simp only [lay8]
  refine tk8 3 (v := ?_) rfl (Or.inl ⟨by rfl,?_⟩) hHeld ?_
  rotate_left 1
  ·(intro w hSw;(try dsimp only at hSw);obtain ⟨e0,e1,e2⟩ := c8 hSw hq c0 c1 c2;go_simp;(try with_reducible rfl))
  try simp only [lay8]
  refine tk8 4 (v := ?_) rfl (Or.inl ⟨by rfl,?_⟩) hHeld ?_
  rotate_left 1
  ·(intro w hSw;(try dsimp only at hSw);obtain ⟨e0,e1,e2⟩ := c8 hSw hq c0 c1 c2;go_simp;(try with_reducible rfl))
  try simp only [lay8]
  refine tk8 5 (v := ?_) rfl (Or.inl ⟨by rfl,?_⟩) hHeld ?_
  rotate_left 1
  ·(intro w hSw;(try dsimp only at hSw);obtain ⟨e0,e1,e2⟩ := c8 hSw hq c0 c1 c2;go_simp;(try with_reducible rfl))
  try simp only [lay8]
  refine tk8 6 (v := ?_) rfl (Or.inl ⟨by rfl,?_⟩) hHeld ?_
  rotate_left 1
  ·(intro w hSw;(try dsimp only at hSw);obtain ⟨e0,e1,e2⟩ := c8 hSw hq c0 c1 c2;go_simp;(try with_reducible rfl))
  try simp only [lay8]
  refine tk8 7 (v := ?_) rfl (Or.inl ⟨by rfl,?_⟩) hHeld ?_
  rotate_left 1
  ·(intro w hSw;(try dsimp only at hSw);obtain ⟨e0,e1,e2⟩ := c8 hSw hq c0 c1 c2;go_simp;(try with_reducible rfl))
  try simp only [lay8]
  refine tk8 8 (v := ?_) rfl (Or.inl ⟨by rfl,?_⟩) hHeld ?_
  rotate_left 1
  ·(intro w hSw;(try dsimp only at hSw);obtain ⟨e0,e1,e2⟩ := c8 hSw hq c0 c1 c2;go_simp;(try with_reducible rfl))
  try simp only [lay8]
  refine tk8 9 (v := ?_) rfl (Or.inl ⟨by rfl,?_⟩) hHeld ?_
  rotate_left 1
  ·(intro w hSw;(try dsimp only at hSw);obtain ⟨e0,e1,e2⟩ := c8 hSw hq c0 c1 c2;go_simp;(try with_reducible rfl))
  try simp only [lay8]
  refine tk8 10 (v := ?_) rfl (Or.inl ⟨by rfl,?_⟩) hHeld ?_
  rotate_left 1
  ·(intro w hSw;(try dsimp only at hSw);obtain ⟨e0,e1,e2⟩ := c8 hSw hq c0 c1 c2;go_simp;(try with_reducible rfl))
  try simp only [lay8]
  refine tk8 11 (v := ?_) rfl (Or.inl ⟨by rfl,?_⟩) hHeld ?_
  rotate_left 1
  ·(intro w hSw;(try dsimp only at hSw);obtain ⟨e0,e1,e2⟩ := c8 hSw hq c0 c1 c2;go_simp;(try with_reducible rfl))
  try simp only [lay8]
  refine wpAnyH_ready (rs := [12,18,19]) (by kernel_rfl) (by simp) ?_
  refine AllReadyH.cons (o := _) rfl (fun K hK => ?_) ?_
  ·go_simp
   refine (HH.out u0).mono ?_
   rintro e u1 ⟨rfl,hb⟩
   have HB1 := Hd (HB0.out.trans (hb.mono HB0.out.size));have HS1 := Hd hb.size
   clear hb
   go_wp2_with fail
   refine hK.out _ _ HB1.out (fun hHeld => ?_)
   clear hK K
   try simp only [lay8]
   refine wpAnyH_ready (rs := [13,18,19]) (by kernel_rfl) (by simp) ?_
   refine AllReadyH.cons (o := _) rfl (fun K hK => ?_) ?_
   ·go_simp
    refine (HX.out u1 (HTT.out _ HB1.out)).mono ?_
    rintro e u2 ⟨v,rfl,ho,hb⟩
    obtain ⟨A,m,cA,hv⟩ : ∃ A m cA,v = .slice A m cA := by obtain ⟨A,cA,hv,-⟩ := ho.rgs;exact ⟨_,_,_,hv⟩
    subst hv
    have HB2 := Hd (HB1.out.trans (hb.mono HB1.out.size));have HS2 := Hd hb.size
    have HO2 := Hd ho;have HL2 := Hd (show ∀ g,(Value.slice A m cA).ownBlock = some g → u1.heap.size ≤ g ∧ g < u2.heap.size from fun g hg => ⟨own_ge ho g hg,(own_kind ho.1 hg).lt⟩)
    clear ho
    clear hb
    go_wp2_with fail
    refine hK.out _ _ HB2.out (fun hHeld => ?_)
    clear hK K
    try simp only [lay8]
    refine tk8 14 (v := ?_) rfl (Or.inl ⟨by rfl,?_⟩) hHeld ?_
    rotate_left 1
    ·(intro w hSw;(try dsimp only at hSw);obtain ⟨e0,e1,e2⟩ := c8 hSw hq c0 c1 c2;go_simp;(try with_reducible rfl))
    try simp only [lay8]
    refine tk8 15 (v := ?_) rfl (Or.inl ⟨by rfl,?_⟩) hHeld ?_
    rotate_left 1
    ·(intro w hSw;(try dsimp only at hSw);obtain ⟨e0,e1,e2⟩ := c8 hSw hq c0 c1 c2;go_simp;(try with_reducible rfl))
    try simp only [lay8]
    refine tk8 16 (v := ?_) rfl (Or.inl ⟨by rfl,?_⟩) hHeld ?_
    rotate_left 1
    ·(intro w hSw;(try dsimp only at hSw);obtain ⟨e0,e1,e2⟩ := c8 hSw hq c0 c1 c2;go_simp;(try with_reducible rfl))
    try simp only [lay8]
    refine tk8 17 (v := ?_) rfl (Or.inl ⟨by rfl,?_⟩) hHeld ?_
    rotate_left 1
    ·(intro w hSw;(try dsimp only at hSw);obtain ⟨e0,e1,e2⟩ := c8 hSw hq c0 c1 c2;go_simp;(try with_reducible rfl))
    try simp only [lay8]
    refine wpAnyH_ready (rs := [18,19]) (by kernel_rfl) (by simp) ?_
    refine AllReadyH.cons (o := _) rfl (fun K hK => ?_) ?_
    ·go_simp
     refine hK.out _ _ (HB2.out.alloc HB2.out.size _) (fun hHeld => ?_)
     clear hK K
     try simp only [lay8]
     obtain ⟨u3,hu3⟩ : ∃ x,u2.alloc (.cells #[.int .i64 0,.int .i32 0,.slice none 0 0,.int .i64 0] 115) = x := ⟨_,rfl⟩
     rw [hu3] at hHeld ⊢
     have HB3 := Hd hHeld;have HS3 := Hd (show u3.heap.size = u2.heap.size + 1 by rw [← hu3];simp)
     have HX3e := Hd (show Whole u3 u2.heap.size 115 #[.int .i64 0,.int .i32 0,.slice none 0 0,.int .i64 0] by rw [← hu3];exact heap_alloc_new u2 _)
     have HO3 := Hd (show OwnR u3 _ _ _ by rw [← hu3];exact HO2.out.below ((Below.refl _ u2).alloc (Nat.le_refl _) _))
     clear hu3
     refine wpAnyH_ready (rs := [19]) (by kernel_rfl) (by simp) ?_
     refine AllReadyH.cons (o := _) rfl (fun K hK => ?_) ?_
     ·go_simp
      refine hK.out _ _ (HB3.out.alloc HB3.out.size _) (fun hHeld => ?_)
      clear hK K
      try simp only [lay8]
      obtain ⟨u4,hu4⟩ : ∃ x,u3.alloc (.cells #[.int .i64 0,.int .i64 0,.int .i64 0] 32) = x := ⟨_,rfl⟩
      rw [hu4] at hHeld ⊢
      have HB4 := Hd hHeld;have HS4 := Hd (show u4.heap.size = u3.heap.size + 1 by rw [← hu4];simp)
      have HX4w := Hd (show Whole u4 u3.heap.size 32 #[.int .i64 0,.int .i64 0,.int .i64 0] by rw [← hu4];exact heap_alloc_new u3 _)
      have HX4e := Hd (show Whole u4 u2.heap.size _ _ by rw [← hu4];exact Whole.alloc HX3e.out _)
      have HO4 := Hd (show OwnR u4 _ _ _ by rw [← hu4];exact HO3.out.below ((Below.refl _ u3).alloc (Nat.le_refl _) _))
      clear hu4
      refine wpAnyH_ready (rs := [20]) (by kernel_rfl) (by simp) ?_
      refine AllReadyH.cons (o := _) rfl (fun K hK => ?_) ?_
      ·obtain ⟨l0,l1,l2,l3,n0,n1,n2,n3⟩ := HX4e.out.four
       go_simp
       clear l0 l1 l2 l3 n0 n1 n2 n3
       refine hK.out _ _ (show Below w.heap.size w (set4 u4 (u2.heap.size) (.int .i64 kd) (.int .i32 r) (.slice A m cA) (.int .i64 at')) from set4_below HB4.out (by have := HS0.out;have := HS1.out;have := HS2.out;have := HS3.out;have := HS4.out;omega) _ _ _ _) (fun hHeld => ?_)
       clear hK K
       try simp only [lay8]
       obtain ⟨u5,hu5⟩ : ∃ x,(set4 u4 (u2.heap.size) (.int .i64 kd) (.int .i32 r) (.slice A m cA) (.int .i64 at')) = x := ⟨_,rfl⟩
       have hHeld2 : Below w.heap.size w u5 := by rw [← hu5];exact hHeld
       have HB5 := Hd hHeld2;have HS5 := Hd (show u5.heap.size = u4.heap.size by rw [← hu5];exact set4_size _ _ _ _ _ _)
       have HX5e := Hd (show Whole u5 (u2.heap.size) 115 #[.int .i64 kd,.int .i32 r,.slice A m cA,.int .i64 at'] by rw [← hu5];exact set4_whole HX4e.out _ _ _ _)
       have HX5w := Hd (show Whole u5 (u3.heap.size) 32 #[.int .i64 0,.int .i64 0,.int .i64 0] by rw [← hu5];exact (set4_other (by have := HS0.out;have := HS1.out;have := HS2.out;have := HS3.out;have := HS4.out;omega) _ _ _ _).trans HX4w.out)
       have HO5 := Hd (show OwnR u5 _ _ _ by rw [← hu5];exact own_set4 HO4.out (fun g hg => by have := HL2.out g hg;have := HS0.out;have := HS1.out;have := HS2.out;have := HS3.out;have := HS4.out;omega) _ _ _ _)
       unfold set4 at hu5
       rw [hu5]
       clear hHeld hu5
       have hHeld := hHeld2
       clear hHeld2
       refine tk8 21 (v := ?_) rfl (Or.inl ⟨by rfl,?_⟩) hHeld ?_
       rotate_left 1
       ·(intro w hSw;(try dsimp only at hSw);obtain ⟨e0,e1,e2⟩ := c8 hSw hq c0 c1 c2;go_simp;(try with_reducible rfl))
       try simp only [lay8]
       refine wpAnyH_ready (rs := [22]) (by kernel_rfl) (by simp) ?_
       refine AllReadyH.cons (o := _) rfl (fun K hK => ?_) ?_
       ·obtain ⟨l0,l1,l2,n0,n1,n2⟩ := HX5w.out.three
        go_simp
        clear l0 l1 l2 n0 n1 n2
        refine hK.out _ _ (show Below w.heap.size w (set3 u5 (u3.heap.size) (.int .i64 c) (.int .i64 a) (.int .i64 b)) from set3_below HB5.out (by have := HS0.out;have := HS1.out;have := HS2.out;have := HS3.out;have := HS4.out;have := HS5.out;omega) _ _ _) (fun hHeld => ?_)
        clear hK K
        try simp only [lay8]
        obtain ⟨u6,hu6⟩ : ∃ x,(set3 u5 (u3.heap.size) (.int .i64 c) (.int .i64 a) (.int .i64 b)) = x := ⟨_,rfl⟩
        have hHeld2 : Below w.heap.size w u6 := by rw [← hu6];exact hHeld
        have HB6 := Hd hHeld2;have HS6 := Hd (show u6.heap.size = u5.heap.size by rw [← hu6];exact set3_size _ _ _ _ _)
        have HX6e := Hd (show Whole u6 (u2.heap.size) 115 #[.int .i64 kd,.int .i32 r,.slice A m cA,.int .i64 at'] by rw [← hu6];exact (set3_other (by have := HS0.out;have := HS1.out;have := HS2.out;have := HS3.out;have := HS4.out;have := HS5.out;omega) _ _ _).trans HX5e.out)
        have HX6w := Hd (show Whole u6 (u3.heap.size) 32 #[.int .i64 c,.int .i64 a,.int .i64 b] by rw [← hu6];exact set3_whole HX5w.out _ _ _)
        have HO6 := Hd (show OwnR u6 _ _ _ by rw [← hu6];exact own_set3 HO5.out (fun g hg => by have := HL2.out g hg;have := HS0.out;have := HS1.out;have := HS2.out;have := HS3.out;have := HS4.out;have := HS5.out;omega) _ _ _)
        unfold set3 at hu6
        rw [hu6]
        clear hHeld hu6
        have hHeld := hHeld2
        clear hHeld2
        refine wpAnyH_done (by kernel_rfl) ?_ _
        go_wp2_with fail
        go_meet
        exact ⟨u2.heap.size,u3.heap.size,A,m,cA,rfl,rfl,rfl,HX6e.out,HX6w.out,HO6.out.mono (by have := HS0.out;have := HS1.out;have := HS2.out;have := HS3.out;have := HS4.out;have := HS5.out;have := HS6.out;omega),HB6.out,by have := HS0.out;have := HS1.out;have := HS2.out;have := HS3.out;have := HS4.out;have := HS5.out;have := HS6.out;omega,by have := HS0.out;have := HS1.out;have := HS2.out;have := HS3.out;have := HS4.out;have := HS5.out;have := HS6.out;omega⟩
       exact AllReadyH.nil
      exact AllReadyH.nil
     exact AllReadyH.nil
    refine AllReadyH.cons (o := _) rfl (fun K hK => ?_) ?_
    ·go_simp
     refine hK.out _ _ (HB2.out.alloc HB2.out.size _) (fun hHeld => ?_)
     clear hK K
     try simp only [lay8]
     obtain ⟨u7,hu7⟩ : ∃ x,u2.alloc (.cells #[.int .i64 0,.int .i64 0,.int .i64 0] 32) = x := ⟨_,rfl⟩
     rw [hu7] at hHeld ⊢
     have HB7 := Hd hHeld;have HS7 := Hd (show u7.heap.size = u2.heap.size + 1 by rw [← hu7];simp)
     have HX7w := Hd (show Whole u7 u2.heap.size 32 #[.int .i64 0,.int .i64 0,.int .i64 0] by rw [← hu7];exact heap_alloc_new u2 _)
     have HO7 := Hd (show OwnR u7 _ _ _ by rw [← hu7];exact HO2.out.below ((Below.refl _ u2).alloc (Nat.le_refl _) _))
     clear hu7
     refine wpAnyH_ready (rs := [18]) (by kernel_rfl) (by simp) ?_
     refine AllReadyH.cons (o := _) rfl (fun K hK => ?_) ?_
     ·go_simp
      refine hK.out _ _ (HB7.out.alloc HB7.out.size _) (fun hHeld => ?_)
      clear hK K
      try simp only [lay8]
      obtain ⟨u8,hu8⟩ : ∃ x,u7.alloc (.cells #[.int .i64 0,.int .i32 0,.slice none 0 0,.int .i64 0] 115) = x := ⟨_,rfl⟩
      rw [hu8] at hHeld ⊢
      have HB8 := Hd hHeld;have HS8 := Hd (show u8.heap.size = u7.heap.size + 1 by rw [← hu8];simp)
      have HX8e := Hd (show Whole u8 u7.heap.size 115 #[.int .i64 0,.int .i32 0,.slice none 0 0,.int .i64 0] by rw [← hu8];exact heap_alloc_new u7 _)
      have HX8w := Hd (show Whole u8 u2.heap.size _ _ by rw [← hu8];exact Whole.alloc HX7w.out _)
      have HO8 := Hd (show OwnR u8 _ _ _ by rw [← hu8];exact HO7.out.below ((Below.refl _ u7).alloc (Nat.le_refl _) _))
      clear hu8
      refine wpAnyH_ready (rs := [20]) (by kernel_rfl) (by simp) ?_
      refine AllReadyH.cons (o := _) rfl (fun K hK => ?_) ?_
      ·obtain ⟨l0,l1,l2,l3,n0,n1,n2,n3⟩ := HX8e.out.four
       go_simp
       clear l0 l1 l2 l3 n0 n1 n2 n3
       refine hK.out _ _ (show Below w.heap.size w (set4 u8 (u7.heap.size) (.int .i64 kd) (.int .i32 r) (.slice A m cA) (.int .i64 at')) from set4_below HB8.out (by have := HS0.out;have := HS1.out;have := HS2.out;have := HS7.out;have := HS8.out;omega) _ _ _ _) (fun hHeld => ?_)
       clear hK K
       try simp only [lay8]
       obtain ⟨u9,hu9⟩ : ∃ x,(set4 u8 (u7.heap.size) (.int .i64 kd) (.int .i32 r) (.slice A m cA) (.int .i64 at')) = x := ⟨_,rfl⟩
       have hHeld2 : Below w.heap.size w u9 := by rw [← hu9];exact hHeld
       have HB9 := Hd hHeld2;have HS9 := Hd (show u9.heap.size = u8.heap.size by rw [← hu9];exact set4_size _ _ _ _ _ _)
       have HX9w := Hd (show Whole u9 (u2.heap.size) 32 #[.int .i64 0,.int .i64 0,.int .i64 0] by rw [← hu9];exact (set4_other (by have := HS0.out;have := HS1.out;have := HS2.out;have := HS7.out;have := HS8.out;omega) _ _ _ _).trans HX8w.out)
       have HX9e := Hd (show Whole u9 (u7.heap.size) 115 #[.int .i64 kd,.int .i32 r,.slice A m cA,.int .i64 at'] by rw [← hu9];exact set4_whole HX8e.out _ _ _ _)
       have HO9 := Hd (show OwnR u9 _ _ _ by rw [← hu9];exact own_set4 HO8.out (fun g hg => by have := HL2.out g hg;have := HS0.out;have := HS1.out;have := HS2.out;have := HS7.out;have := HS8.out;omega) _ _ _ _)
       unfold set4 at hu9
       rw [hu9]
       clear hHeld hu9
       have hHeld := hHeld2
       clear hHeld2
       refine tk8 21 (v := ?_) rfl (Or.inl ⟨by rfl,?_⟩) hHeld ?_
       rotate_left 1
       ·(intro w hSw;(try dsimp only at hSw);obtain ⟨e0,e1,e2⟩ := c8 hSw hq c0 c1 c2;go_simp;(try with_reducible rfl))
       try simp only [lay8]
       refine wpAnyH_ready (rs := [22]) (by kernel_rfl) (by simp) ?_
       refine AllReadyH.cons (o := _) rfl (fun K hK => ?_) ?_
       ·obtain ⟨l0,l1,l2,n0,n1,n2⟩ := HX9w.out.three
        go_simp
        clear l0 l1 l2 n0 n1 n2
        refine hK.out _ _ (show Below w.heap.size w (set3 u9 (u2.heap.size) (.int .i64 c) (.int .i64 a) (.int .i64 b)) from set3_below HB9.out (by have := HS0.out;have := HS1.out;have := HS2.out;have := HS7.out;have := HS8.out;have := HS9.out;omega) _ _ _) (fun hHeld => ?_)
        clear hK K
        try simp only [lay8]
        obtain ⟨u10,hu10⟩ : ∃ x,(set3 u9 (u2.heap.size) (.int .i64 c) (.int .i64 a) (.int .i64 b)) = x := ⟨_,rfl⟩
        have hHeld2 : Below w.heap.size w u10 := by rw [← hu10];exact hHeld
        have HB10 := Hd hHeld2;have HS10 := Hd (show u10.heap.size = u9.heap.size by rw [← hu10];exact set3_size _ _ _ _ _)
        have HX10w := Hd (show Whole u10 (u2.heap.size) 32 #[.int .i64 c,.int .i64 a,.int .i64 b] by rw [← hu10];exact set3_whole HX9w.out _ _ _)
        have HX10e := Hd (show Whole u10 (u7.heap.size) 115 #[.int .i64 kd,.int .i32 r,.slice A m cA,.int .i64 at'] by rw [← hu10];exact (set3_other (by have := HS0.out;have := HS1.out;have := HS2.out;have := HS7.out;have := HS8.out;have := HS9.out;omega) _ _ _).trans HX9e.out)
        have HO10 := Hd (show OwnR u10 _ _ _ by rw [← hu10];exact own_set3 HO9.out (fun g hg => by have := HL2.out g hg;have := HS0.out;have := HS1.out;have := HS2.out;have := HS7.out;have := HS8.out;have := HS9.out;omega) _ _ _)
        unfold set3 at hu10
        rw [hu10]
        clear hHeld hu10
        have hHeld := hHeld2
        clear hHeld2
        refine wpAnyH_done (by kernel_rfl) ?_ _
        go_wp2_with fail
        go_meet
        exact ⟨u7.heap.size,u2.heap.size,A,m,cA,rfl,rfl,rfl,HX10e.out,HX10w.out,HO10.out.mono (by have := HS0.out;have := HS1.out;have := HS2.out;have := HS7.out;have := HS8.out;have := HS9.out;have := HS10.out;omega),HB10.out,by have := HS0.out;have := HS1.out;have := HS2.out;have := HS7.out;have := HS8.out;have := HS9.out;have := HS10.out;omega,by have := HS0.out;have := HS1.out;have := HS2.out;have := HS7.out;have := HS8.out;have := HS9.out;have := HS10.out;omega⟩
       exact AllReadyH.nil
      exact AllReadyH.nil
     exact AllReadyH.nil
    exact AllReadyH.nil
   refine AllReadyH.cons (o := _) rfl (fun K hK => ?_) ?_
   ·go_simp
    refine hK.out _ _ (HB1.out.alloc HB1.out.size _) (fun hHeld => ?_)
    clear hK K
    try simp only [lay8]
    obtain ⟨u11,hu11⟩ : ∃ x,u1.alloc (.cells #[.int .i64 0,.int .i32 0,.slice none 0 0,.int .i64 0] 115) = x := ⟨_,rfl⟩
    rw [hu11] at hHeld ⊢
    have HB11 := Hd hHeld;have HS11 := Hd (show u11.heap.size = u1.heap.size + 1 by rw [← hu11];simp)
    have HX11e := Hd (show Whole u11 u1.heap.size 115 #[.int .i64 0,.int .i32 0,.slice none 0 0,.int .i64 0] by rw [← hu11];exact heap_alloc_new u1 _)
    clear hu11
    refine wpAnyH_ready (rs := [13,19]) (by kernel_rfl) (by simp) ?_
    refine AllReadyH.cons (o := _) rfl (fun K hK => ?_) ?_
    ·go_simp
     refine (HX.out u11 (HTT.out _ HB11.out)).mono ?_
     rintro e u12 ⟨v,rfl,ho,hb⟩
     obtain ⟨A,m,cA,hv⟩ : ∃ A m cA,v = .slice A m cA := by obtain ⟨A,cA,hv,-⟩ := ho.rgs;exact ⟨_,_,_,hv⟩
     subst hv
     have HB12 := Hd (HB11.out.trans (hb.mono HB11.out.size));have HS12 := Hd hb.size
     have HX12e := Hd (HX11e.out.below hb HX11e.out.lt)
     have HO12 := Hd ho;have HL12 := Hd (show ∀ g,(Value.slice A m cA).ownBlock = some g → u11.heap.size ≤ g ∧ g < u12.heap.size from fun g hg => ⟨own_ge ho g hg,(own_kind ho.1 hg).lt⟩)
     clear ho
     clear hb
     go_wp2_with fail
     refine hK.out _ _ HB12.out (fun hHeld => ?_)
     clear hK K
     try simp only [lay8]
     refine tk8 14 (v := ?_) rfl (Or.inl ⟨by rfl,?_⟩) hHeld ?_
     rotate_left 1
     ·(intro w hSw;(try dsimp only at hSw);obtain ⟨e0,e1,e2⟩ := c8 hSw hq c0 c1 c2;go_simp;(try with_reducible rfl))
     try simp only [lay8]
     refine tk8 15 (v := ?_) rfl (Or.inl ⟨by rfl,?_⟩) hHeld ?_
     rotate_left 1
     ·(intro w hSw;(try dsimp only at hSw);obtain ⟨e0,e1,e2⟩ := c8 hSw hq c0 c1 c2;go_simp;(try with_reducible rfl))
     try simp only [lay8]
     refine tk8 16 (v := ?_) rfl (Or.inl ⟨by rfl,?_⟩) hHeld ?_
     rotate_left 1
     ·(intro w hSw;(try dsimp only at hSw);obtain ⟨e0,e1,e2⟩ := c8 hSw hq c0 c1 c2;go_simp;(try with_reducible rfl))
     try simp only [lay8]
     refine tk8 17 (v := ?_) rfl (Or.inl ⟨by rfl,?_⟩) hHeld ?_
     rotate_left 1
     ·(intro w hSw;(try dsimp only at hSw);obtain ⟨e0,e1,e2⟩ := c8 hSw hq c0 c1 c2;go_simp;(try with_reducible rfl))
     try simp only [lay8]
     refine wpAnyH_ready (rs := [19]) (by kernel_rfl) (by simp) ?_
     refine AllReadyH.cons (o := _) rfl (fun K hK => ?_) ?_
     ·go_simp
      refine hK.out _ _ (HB12.out.alloc HB12.out.size _) (fun hHeld => ?_)
      clear hK K
      try simp only [lay8]
      obtain ⟨u13,hu13⟩ : ∃ x,u12.alloc (.cells #[.int .i64 0,.int .i64 0,.int .i64 0] 32) = x := ⟨_,rfl⟩
      rw [hu13] at hHeld ⊢
      have HB13 := Hd hHeld;have HS13 := Hd (show u13.heap.size = u12.heap.size + 1 by rw [← hu13];simp)
      have HX13w := Hd (show Whole u13 u12.heap.size 32 #[.int .i64 0,.int .i64 0,.int .i64 0] by rw [← hu13];exact heap_alloc_new u12 _)
      have HX13e := Hd (show Whole u13 u1.heap.size _ _ by rw [← hu13];exact Whole.alloc HX12e.out _)
      have HO13 := Hd (show OwnR u13 _ _ _ by rw [← hu13];exact HO12.out.below ((Below.refl _ u12).alloc (Nat.le_refl _) _))
      clear hu13
      refine wpAnyH_ready (rs := [20]) (by kernel_rfl) (by simp) ?_
      refine AllReadyH.cons (o := _) rfl (fun K hK => ?_) ?_
      ·obtain ⟨l0,l1,l2,l3,n0,n1,n2,n3⟩ := HX13e.out.four
       go_simp
       clear l0 l1 l2 l3 n0 n1 n2 n3
       refine hK.out _ _ (show Below w.heap.size w (set4 u13 (u1.heap.size) (.int .i64 kd) (.int .i32 r) (.slice A m cA) (.int .i64 at')) from set4_below HB13.out (by have := HS0.out;have := HS1.out;have := HS11.out;have := HS12.out;have := HS13.out;omega) _ _ _ _) (fun hHeld => ?_)
       clear hK K
       try simp only [lay8]
       obtain ⟨u14,hu14⟩ : ∃ x,(set4 u13 (u1.heap.size) (.int .i64 kd) (.int .i32 r) (.slice A m cA) (.int .i64 at')) = x := ⟨_,rfl⟩
       have hHeld2 : Below w.heap.size w u14 := by rw [← hu14];exact hHeld
       have HB14 := Hd hHeld2;have HS14 := Hd (show u14.heap.size = u13.heap.size by rw [← hu14];exact set4_size _ _ _ _ _ _)
       have HX14e := Hd (show Whole u14 (u1.heap.size) 115 #[.int .i64 kd,.int .i32 r,.slice A m cA,.int .i64 at'] by rw [← hu14];exact set4_whole HX13e.out _ _ _ _)
       have HX14w := Hd (show Whole u14 (u12.heap.size) 32 #[.int .i64 0,.int .i64 0,.int .i64 0] by rw [← hu14];exact (set4_other (by have := HS0.out;have := HS1.out;have := HS11.out;have := HS12.out;have := HS13.out;omega) _ _ _ _).trans HX13w.out)
       have HO14 := Hd (show OwnR u14 _ _ _ by rw [← hu14];exact own_set4 HO13.out (fun g hg => by have := HL12.out g hg;have := HS0.out;have := HS1.out;have := HS11.out;have := HS12.out;have := HS13.out;omega) _ _ _ _)
       unfold set4 at hu14
       rw [hu14]
       clear hHeld hu14
       have hHeld := hHeld2
       clear hHeld2
       refine tk8 21 (v := ?_) rfl (Or.inl ⟨by rfl,?_⟩) hHeld ?_
       rotate_left 1
       ·(intro w hSw;(try dsimp only at hSw);obtain ⟨e0,e1,e2⟩ := c8 hSw hq c0 c1 c2;go_simp;(try with_reducible rfl))
       try simp only [lay8]
       refine wpAnyH_ready (rs := [22]) (by kernel_rfl) (by simp) ?_
       refine AllReadyH.cons (o := _) rfl (fun K hK => ?_) ?_
       ·obtain ⟨l0,l1,l2,n0,n1,n2⟩ := HX14w.out.three
        go_simp
        clear l0 l1 l2 n0 n1 n2
        refine hK.out _ _ (show Below w.heap.size w (set3 u14 (u12.heap.size) (.int .i64 c) (.int .i64 a) (.int .i64 b)) from set3_below HB14.out (by have := HS0.out;have := HS1.out;have := HS11.out;have := HS12.out;have := HS13.out;have := HS14.out;omega) _ _ _) (fun hHeld => ?_)
        clear hK K
        try simp only [lay8]
        obtain ⟨u15,hu15⟩ : ∃ x,(set3 u14 (u12.heap.size) (.int .i64 c) (.int .i64 a) (.int .i64 b)) = x := ⟨_,rfl⟩
        have hHeld2 : Below w.heap.size w u15 := by rw [← hu15];exact hHeld
        have HB15 := Hd hHeld2;have HS15 := Hd (show u15.heap.size = u14.heap.size by rw [← hu15];exact set3_size _ _ _ _ _)
        have HX15e := Hd (show Whole u15 (u1.heap.size) 115 #[.int .i64 kd,.int .i32 r,.slice A m cA,.int .i64 at'] by rw [← hu15];exact (set3_other (by have := HS0.out;have := HS1.out;have := HS11.out;have := HS12.out;have := HS13.out;have := HS14.out;omega) _ _ _).trans HX14e.out)
        have HX15w := Hd (show Whole u15 (u12.heap.size) 32 #[.int .i64 c,.int .i64 a,.int .i64 b] by rw [← hu15];exact set3_whole HX14w.out _ _ _)
        have HO15 := Hd (show OwnR u15 _ _ _ by rw [← hu15];exact own_set3 HO14.out (fun g hg => by have := HL12.out g hg;have := HS0.out;have := HS1.out;have := HS11.out;have := HS12.out;have := HS13.out;have := HS14.out;omega) _ _ _)
        unfold set3 at hu15
        rw [hu15]
        clear hHeld hu15
        have hHeld := hHeld2
        clear hHeld2
        refine wpAnyH_done (by kernel_rfl) ?_ _
        go_wp2_with fail
        go_meet
        exact ⟨u1.heap.size,u12.heap.size,A,m,cA,rfl,rfl,rfl,HX15e.out,HX15w.out,HO15.out.mono (by have := HS0.out;have := HS1.out;have := HS11.out;have := HS12.out;have := HS13.out;have := HS14.out;have := HS15.out;omega),HB15.out,by have := HS0.out;have := HS1.out;have := HS11.out;have := HS12.out;have := HS13.out;have := HS14.out;have := HS15.out;omega,by have := HS0.out;have := HS1.out;have := HS11.out;have := HS12.out;have := HS13.out;have := HS14.out;have := HS15.out;omega⟩
       exact AllReadyH.nil
      exact AllReadyH.nil
     exact AllReadyH.nil
    refine AllReadyH.cons (o := _) rfl (fun K hK => ?_) ?_
    ·go_simp
     refine hK.out _ _ (HB11.out.alloc HB11.out.size _) (fun hHeld => ?_)
     clear hK K
     try simp only [lay8]
     obtain ⟨u16,hu16⟩ : ∃ x,u11.alloc (.cells #[.int .i64 0,.int .i64 0,.int .i64 0] 32) = x := ⟨_,rfl⟩
     rw [hu16] at hHeld ⊢
     have HB16 := Hd hHeld;have HS16 := Hd (show u16.heap.size = u11.heap.size + 1 by rw [← hu16];simp)
     have HX16w := Hd (show Whole u16 u11.heap.size 32 #[.int .i64 0,.int .i64 0,.int .i64 0] by rw [← hu16];exact heap_alloc_new u11 _)
     have HX16e := Hd (show Whole u16 u1.heap.size _ _ by rw [← hu16];exact Whole.alloc HX11e.out _)
     clear hu16
     refine wpAnyH_ready (rs := [13]) (by kernel_rfl) (by simp) ?_
     refine AllReadyH.cons (o := _) rfl (fun K hK => ?_) ?_
     ·go_simp
      refine (HX.out u16 (HTT.out _ HB16.out)).mono ?_
      rintro e u17 ⟨v,rfl,ho,hb⟩
      obtain ⟨A,m,cA,hv⟩ : ∃ A m cA,v = .slice A m cA := by obtain ⟨A,cA,hv,-⟩ := ho.rgs;exact ⟨_,_,_,hv⟩
      subst hv
      have HB17 := Hd (HB16.out.trans (hb.mono HB16.out.size));have HS17 := Hd hb.size
      have HX17e := Hd (HX16e.out.below hb HX16e.out.lt)
      have HX17w := Hd (HX16w.out.below hb HX16w.out.lt)
      have HO17 := Hd ho;have HL17 := Hd (show ∀ g,(Value.slice A m cA).ownBlock = some g → u16.heap.size ≤ g ∧ g < u17.heap.size from fun g hg => ⟨own_ge ho g hg,(own_kind ho.1 hg).lt⟩)
      clear ho
      clear hb
      go_wp2_with fail
      refine hK.out _ _ HB17.out (fun hHeld => ?_)
      clear hK K
      try simp only [lay8]
      refine tk8 14 (v := ?_) rfl (Or.inl ⟨by rfl,?_⟩) hHeld ?_
      rotate_left 1
      ·(intro w hSw;(try dsimp only at hSw);obtain ⟨e0,e1,e2⟩ := c8 hSw hq c0 c1 c2;go_simp;(try with_reducible rfl))
      try simp only [lay8]
      refine tk8 15 (v := ?_) rfl (Or.inl ⟨by rfl,?_⟩) hHeld ?_
      rotate_left 1
      ·(intro w hSw;(try dsimp only at hSw);obtain ⟨e0,e1,e2⟩ := c8 hSw hq c0 c1 c2;go_simp;(try with_reducible rfl))
      try simp only [lay8]
      refine tk8 16 (v := ?_) rfl (Or.inl ⟨by rfl,?_⟩) hHeld ?_
      rotate_left 1
      ·(intro w hSw;(try dsimp only at hSw);obtain ⟨e0,e1,e2⟩ := c8 hSw hq c0 c1 c2;go_simp;(try with_reducible rfl))
      try simp only [lay8]
      refine tk8 17 (v := ?_) rfl (Or.inl ⟨by rfl,?_⟩) hHeld ?_
      rotate_left 1
      ·(intro w hSw;(try dsimp only at hSw);obtain ⟨e0,e1,e2⟩ := c8 hSw hq c0 c1 c2;go_simp;(try with_reducible rfl))
      try simp only [lay8]
      refine wpAnyH_ready (rs := [20]) (by kernel_rfl) (by simp) ?_
      refine AllReadyH.cons (o := _) rfl (fun K hK => ?_) ?_
      ·obtain ⟨l0,l1,l2,l3,n0,n1,n2,n3⟩ := HX17e.out.four
       go_simp
       clear l0 l1 l2 l3 n0 n1 n2 n3
       refine hK.out _ _ (show Below w.heap.size w (set4 u17 (u1.heap.size) (.int .i64 kd) (.int .i32 r) (.slice A m cA) (.int .i64 at')) from set4_below HB17.out (by have := HS0.out;have := HS1.out;have := HS11.out;have := HS16.out;have := HS17.out;omega) _ _ _ _) (fun hHeld => ?_)
       clear hK K
       try simp only [lay8]
       obtain ⟨u18,hu18⟩ : ∃ x,(set4 u17 (u1.heap.size) (.int .i64 kd) (.int .i32 r) (.slice A m cA) (.int .i64 at')) = x := ⟨_,rfl⟩
       have hHeld2 : Below w.heap.size w u18 := by rw [← hu18];exact hHeld
       have HB18 := Hd hHeld2;have HS18 := Hd (show u18.heap.size = u17.heap.size by rw [← hu18];exact set4_size _ _ _ _ _ _)
       have HX18e := Hd (show Whole u18 (u1.heap.size) 115 #[.int .i64 kd,.int .i32 r,.slice A m cA,.int .i64 at'] by rw [← hu18];exact set4_whole HX17e.out _ _ _ _)
       have HX18w := Hd (show Whole u18 (u11.heap.size) 32 #[.int .i64 0,.int .i64 0,.int .i64 0] by rw [← hu18];exact (set4_other (by have := HS0.out;have := HS1.out;have := HS11.out;have := HS16.out;have := HS17.out;omega) _ _ _ _).trans HX17w.out)
       have HO18 := Hd (show OwnR u18 _ _ _ by rw [← hu18];exact own_set4 HO17.out (fun g hg => by have := HL17.out g hg;have := HS0.out;have := HS1.out;have := HS11.out;have := HS16.out;have := HS17.out;omega) _ _ _ _)
       unfold set4 at hu18
       rw [hu18]
       clear hHeld hu18
       have hHeld := hHeld2
       clear hHeld2
       refine tk8 21 (v := ?_) rfl (Or.inl ⟨by rfl,?_⟩) hHeld ?_
       rotate_left 1
       ·(intro w hSw;(try dsimp only at hSw);obtain ⟨e0,e1,e2⟩ := c8 hSw hq c0 c1 c2;go_simp;(try with_reducible rfl))
       try simp only [lay8]
       refine wpAnyH_ready (rs := [22]) (by kernel_rfl) (by simp) ?_
       refine AllReadyH.cons (o := _) rfl (fun K hK => ?_) ?_
       ·obtain ⟨l0,l1,l2,n0,n1,n2⟩ := HX18w.out.three
        go_simp
        clear l0 l1 l2 n0 n1 n2
        refine hK.out _ _ (show Below w.heap.size w (set3 u18 (u11.heap.size) (.int .i64 c) (.int .i64 a) (.int .i64 b)) from set3_below HB18.out (by have := HS0.out;have := HS1.out;have := HS11.out;have := HS16.out;have := HS17.out;have := HS18.out;omega) _ _ _) (fun hHeld => ?_)
        clear hK K
        try simp only [lay8]
        obtain ⟨u19,hu19⟩ : ∃ x,(set3 u18 (u11.heap.size) (.int .i64 c) (.int .i64 a) (.int .i64 b)) = x := ⟨_,rfl⟩
        have hHeld2 : Below w.heap.size w u19 := by rw [← hu19];exact hHeld
        have HB19 := Hd hHeld2;have HS19 := Hd (show u19.heap.size = u18.heap.size by rw [← hu19];exact set3_size _ _ _ _ _)
        have HX19e := Hd (show Whole u19 (u1.heap.size) 115 #[.int .i64 kd,.int .i32 r,.slice A m cA,.int .i64 at'] by rw [← hu19];exact (set3_other (by have := HS0.out;have := HS1.out;have := HS11.out;have := HS16.out;have := HS17.out;have := HS18.out;omega) _ _ _).trans HX18e.out)
        have HX19w := Hd (show Whole u19 (u11.heap.size) 32 #[.int .i64 c,.int .i64 a,.int .i64 b] by rw [← hu19];exact set3_whole HX18w.out _ _ _)
        have HO19 := Hd (show OwnR u19 _ _ _ by rw [← hu19];exact own_set3 HO18.out (fun g hg => by have := HL17.out g hg;have := HS0.out;have := HS1.out;have := HS11.out;have := HS16.out;have := HS17.out;have := HS18.out;omega) _ _ _)
        unfold set3 at hu19
        rw [hu19]
        clear hHeld hu19
        have hHeld := hHeld2
        clear hHeld2
        refine wpAnyH_done (by kernel_rfl) ?_ _
        go_wp2_with fail
        go_meet
        exact ⟨u1.heap.size,u11.heap.size,A,m,cA,rfl,rfl,rfl,HX19e.out,HX19w.out,HO19.out.mono (by have := HS0.out;have := HS1.out;have := HS11.out;have := HS16.out;have := HS17.out;have := HS18.out;have := HS19.out;omega),HB19.out,by have := HS0.out;have := HS1.out;have := HS11.out;have := HS16.out;have := HS17.out;have := HS18.out;have := HS19.out;omega,by have := HS0.out;have := HS1.out;have := HS11.out;have := HS16.out;have := HS17.out;have := HS18.out;have := HS19.out;omega⟩
       exact AllReadyH.nil
      exact AllReadyH.nil
     exact AllReadyH.nil
    exact AllReadyH.nil
   refine AllReadyH.cons (o := _) rfl (fun K hK => ?_) ?_
   ·go_simp
    refine hK.out _ _ (HB1.out.alloc HB1.out.size _) (fun hHeld => ?_)
    clear hK K
    try simp only [lay8]
    obtain ⟨u20,hu20⟩ : ∃ x,u1.alloc (.cells #[.int .i64 0,.int .i64 0,.int .i64 0] 32) = x := ⟨_,rfl⟩
    rw [hu20] at hHeld ⊢
    have HB20 := Hd hHeld;have HS20 := Hd (show u20.heap.size = u1.heap.size + 1 by rw [← hu20];simp)
    have HX20w := Hd (show Whole u20 u1.heap.size 32 #[.int .i64 0,.int .i64 0,.int .i64 0] by rw [← hu20];exact heap_alloc_new u1 _)
    clear hu20
    refine wpAnyH_ready (rs := [13,18]) (by kernel_rfl) (by simp) ?_
    refine AllReadyH.cons (o := _) rfl (fun K hK => ?_) ?_
    ·go_simp
     refine (HX.out u20 (HTT.out _ HB20.out)).mono ?_
     rintro e u21 ⟨v,rfl,ho,hb⟩
     obtain ⟨A,m,cA,hv⟩ : ∃ A m cA,v = .slice A m cA := by obtain ⟨A,cA,hv,-⟩ := ho.rgs;exact ⟨_,_,_,hv⟩
     subst hv
     have HB21 := Hd (HB20.out.trans (hb.mono HB20.out.size));have HS21 := Hd hb.size
     have HX21w := Hd (HX20w.out.below hb HX20w.out.lt)
     have HO21 := Hd ho;have HL21 := Hd (show ∀ g,(Value.slice A m cA).ownBlock = some g → u20.heap.size ≤ g ∧ g < u21.heap.size from fun g hg => ⟨own_ge ho g hg,(own_kind ho.1 hg).lt⟩)
     clear ho
     clear hb
     go_wp2_with fail
     refine hK.out _ _ HB21.out (fun hHeld => ?_)
     clear hK K
     try simp only [lay8]
     refine tk8 14 (v := ?_) rfl (Or.inl ⟨by rfl,?_⟩) hHeld ?_
     rotate_left 1
     ·(intro w hSw;(try dsimp only at hSw);obtain ⟨e0,e1,e2⟩ := c8 hSw hq c0 c1 c2;go_simp;(try with_reducible rfl))
     try simp only [lay8]
     refine tk8 15 (v := ?_) rfl (Or.inl ⟨by rfl,?_⟩) hHeld ?_
     rotate_left 1
     ·(intro w hSw;(try dsimp only at hSw);obtain ⟨e0,e1,e2⟩ := c8 hSw hq c0 c1 c2;go_simp;(try with_reducible rfl))
     try simp only [lay8]
     refine tk8 16 (v := ?_) rfl (Or.inl ⟨by rfl,?_⟩) hHeld ?_
     rotate_left 1
     ·(intro w hSw;(try dsimp only at hSw);obtain ⟨e0,e1,e2⟩ := c8 hSw hq c0 c1 c2;go_simp;(try with_reducible rfl))
     try simp only [lay8]
     refine tk8 17 (v := ?_) rfl (Or.inl ⟨by rfl,?_⟩) hHeld ?_
     rotate_left 1
     ·(intro w hSw;(try dsimp only at hSw);obtain ⟨e0,e1,e2⟩ := c8 hSw hq c0 c1 c2;go_simp;(try with_reducible rfl))
     try simp only [lay8]
     refine wpAnyH_ready (rs := [18]) (by kernel_rfl) (by simp) ?_
     refine AllReadyH.cons (o := _) rfl (fun K hK => ?_) ?_
     ·go_simp
      refine hK.out _ _ (HB21.out.alloc HB21.out.size _) (fun hHeld => ?_)
      clear hK K
      try simp only [lay8]
      obtain ⟨u22,hu22⟩ : ∃ x,u21.alloc (.cells #[.int .i64 0,.int .i32 0,.slice none 0 0,.int .i64 0] 115) = x := ⟨_,rfl⟩
      rw [hu22] at hHeld ⊢
      have HB22 := Hd hHeld;have HS22 := Hd (show u22.heap.size = u21.heap.size + 1 by rw [← hu22];simp)
      have HX22e := Hd (show Whole u22 u21.heap.size 115 #[.int .i64 0,.int .i32 0,.slice none 0 0,.int .i64 0] by rw [← hu22];exact heap_alloc_new u21 _)
      have HX22w := Hd (show Whole u22 u1.heap.size _ _ by rw [← hu22];exact Whole.alloc HX21w.out _)
      have HO22 := Hd (show OwnR u22 _ _ _ by rw [← hu22];exact HO21.out.below ((Below.refl _ u21).alloc (Nat.le_refl _) _))
      clear hu22
      refine wpAnyH_ready (rs := [20]) (by kernel_rfl) (by simp) ?_
      refine AllReadyH.cons (o := _) rfl (fun K hK => ?_) ?_
      ·obtain ⟨l0,l1,l2,l3,n0,n1,n2,n3⟩ := HX22e.out.four
       go_simp
       clear l0 l1 l2 l3 n0 n1 n2 n3
       refine hK.out _ _ (show Below w.heap.size w (set4 u22 (u21.heap.size) (.int .i64 kd) (.int .i32 r) (.slice A m cA) (.int .i64 at')) from set4_below HB22.out (by have := HS0.out;have := HS1.out;have := HS20.out;have := HS21.out;have := HS22.out;omega) _ _ _ _) (fun hHeld => ?_)
       clear hK K
       try simp only [lay8]
       obtain ⟨u23,hu23⟩ : ∃ x,(set4 u22 (u21.heap.size) (.int .i64 kd) (.int .i32 r) (.slice A m cA) (.int .i64 at')) = x := ⟨_,rfl⟩
       have hHeld2 : Below w.heap.size w u23 := by rw [← hu23];exact hHeld
       have HB23 := Hd hHeld2;have HS23 := Hd (show u23.heap.size = u22.heap.size by rw [← hu23];exact set4_size _ _ _ _ _ _)
       have HX23w := Hd (show Whole u23 (u1.heap.size) 32 #[.int .i64 0,.int .i64 0,.int .i64 0] by rw [← hu23];exact (set4_other (by have := HS0.out;have := HS1.out;have := HS20.out;have := HS21.out;have := HS22.out;omega) _ _ _ _).trans HX22w.out)
       have HX23e := Hd (show Whole u23 (u21.heap.size) 115 #[.int .i64 kd,.int .i32 r,.slice A m cA,.int .i64 at'] by rw [← hu23];exact set4_whole HX22e.out _ _ _ _)
       have HO23 := Hd (show OwnR u23 _ _ _ by rw [← hu23];exact own_set4 HO22.out (fun g hg => by have := HL21.out g hg;have := HS0.out;have := HS1.out;have := HS20.out;have := HS21.out;have := HS22.out;omega) _ _ _ _)
       unfold set4 at hu23
       rw [hu23]
       clear hHeld hu23
       have hHeld := hHeld2
       clear hHeld2
       refine tk8 21 (v := ?_) rfl (Or.inl ⟨by rfl,?_⟩) hHeld ?_
       rotate_left 1
       ·(intro w hSw;(try dsimp only at hSw);obtain ⟨e0,e1,e2⟩ := c8 hSw hq c0 c1 c2;go_simp;(try with_reducible rfl))
       try simp only [lay8]
       refine wpAnyH_ready (rs := [22]) (by kernel_rfl) (by simp) ?_
       refine AllReadyH.cons (o := _) rfl (fun K hK => ?_) ?_
       ·obtain ⟨l0,l1,l2,n0,n1,n2⟩ := HX23w.out.three
        go_simp
        clear l0 l1 l2 n0 n1 n2
        refine hK.out _ _ (show Below w.heap.size w (set3 u23 (u1.heap.size) (.int .i64 c) (.int .i64 a) (.int .i64 b)) from set3_below HB23.out (by have := HS0.out;have := HS1.out;have := HS20.out;have := HS21.out;have := HS22.out;have := HS23.out;omega) _ _ _) (fun hHeld => ?_)
        clear hK K
        try simp only [lay8]
        obtain ⟨u24,hu24⟩ : ∃ x,(set3 u23 (u1.heap.size) (.int .i64 c) (.int .i64 a) (.int .i64 b)) = x := ⟨_,rfl⟩
        have hHeld2 : Below w.heap.size w u24 := by rw [← hu24];exact hHeld
        have HB24 := Hd hHeld2;have HS24 := Hd (show u24.heap.size = u23.heap.size by rw [← hu24];exact set3_size _ _ _ _ _)
        have HX24w := Hd (show Whole u24 (u1.heap.size) 32 #[.int .i64 c,.int .i64 a,.int .i64 b] by rw [← hu24];exact set3_whole HX23w.out _ _ _)
        have HX24e := Hd (show Whole u24 (u21.heap.size) 115 #[.int .i64 kd,.int .i32 r,.slice A m cA,.int .i64 at'] by rw [← hu24];exact (set3_other (by have := HS0.out;have := HS1.out;have := HS20.out;have := HS21.out;have := HS22.out;have := HS23.out;omega) _ _ _).trans HX23e.out)
        have HO24 := Hd (show OwnR u24 _ _ _ by rw [← hu24];exact own_set3 HO23.out (fun g hg => by have := HL21.out g hg;have := HS0.out;have := HS1.out;have := HS20.out;have := HS21.out;have := HS22.out;have := HS23.out;omega) _ _ _)
        unfold set3 at hu24
        rw [hu24]
        clear hHeld hu24
        have hHeld := hHeld2
        clear hHeld2
        refine wpAnyH_done (by kernel_rfl) ?_ _
        go_wp2_with fail
        go_meet
        exact ⟨u21.heap.size,u1.heap.size,A,m,cA,rfl,rfl,rfl,HX24e.out,HX24w.out,HO24.out.mono (by have := HS0.out;have := HS1.out;have := HS20.out;have := HS21.out;have := HS22.out;have := HS23.out;have := HS24.out;omega),HB24.out,by have := HS0.out;have := HS1.out;have := HS20.out;have := HS21.out;have := HS22.out;have := HS23.out;have := HS24.out;omega,by have := HS0.out;have := HS1.out;have := HS20.out;have := HS21.out;have := HS22.out;have := HS23.out;have := HS24.out;omega⟩
       exact AllReadyH.nil
      exact AllReadyH.nil
     exact AllReadyH.nil
    refine AllReadyH.cons (o := _) rfl (fun K hK => ?_) ?_
    ·go_simp
     refine hK.out _ _ (HB20.out.alloc HB20.out.size _) (fun hHeld => ?_)
     clear hK K
     try simp only [lay8]
     obtain ⟨u25,hu25⟩ : ∃ x,u20.alloc (.cells #[.int .i64 0,.int .i32 0,.slice none 0 0,.int .i64 0] 115) = x := ⟨_,rfl⟩
     rw [hu25] at hHeld ⊢
     have HB25 := Hd hHeld;have HS25 := Hd (show u25.heap.size = u20.heap.size + 1 by rw [← hu25];simp)
     have HX25e := Hd (show Whole u25 u20.heap.size 115 #[.int .i64 0,.int .i32 0,.slice none 0 0,.int .i64 0] by rw [← hu25];exact heap_alloc_new u20 _)
     have HX25w := Hd (show Whole u25 u1.heap.size _ _ by rw [← hu25];exact Whole.alloc HX20w.out _)
     clear hu25
     refine wpAnyH_ready (rs := [13]) (by kernel_rfl) (by simp) ?_
     refine AllReadyH.cons (o := _) rfl (fun K hK => ?_) ?_
     ·go_simp
      refine (HX.out u25 (HTT.out _ HB25.out)).mono ?_
      rintro e u26 ⟨v,rfl,ho,hb⟩
      obtain ⟨A,m,cA,hv⟩ : ∃ A m cA,v = .slice A m cA := by obtain ⟨A,cA,hv,-⟩ := ho.rgs;exact ⟨_,_,_,hv⟩
      subst hv
      have HB26 := Hd (HB25.out.trans (hb.mono HB25.out.size));have HS26 := Hd hb.size
      have HX26w := Hd (HX25w.out.below hb HX25w.out.lt)
      have HX26e := Hd (HX25e.out.below hb HX25e.out.lt)
      have HO26 := Hd ho;have HL26 := Hd (show ∀ g,(Value.slice A m cA).ownBlock = some g → u25.heap.size ≤ g ∧ g < u26.heap.size from fun g hg => ⟨own_ge ho g hg,(own_kind ho.1 hg).lt⟩)
      clear ho
      clear hb
      go_wp2_with fail
      refine hK.out _ _ HB26.out (fun hHeld => ?_)
      clear hK K
      try simp only [lay8]
      refine tk8 14 (v := ?_) rfl (Or.inl ⟨by rfl,?_⟩) hHeld ?_
      rotate_left 1
      ·(intro w hSw;(try dsimp only at hSw);obtain ⟨e0,e1,e2⟩ := c8 hSw hq c0 c1 c2;go_simp;(try with_reducible rfl))
      try simp only [lay8]
      refine tk8 15 (v := ?_) rfl (Or.inl ⟨by rfl,?_⟩) hHeld ?_
      rotate_left 1
      ·(intro w hSw;(try dsimp only at hSw);obtain ⟨e0,e1,e2⟩ := c8 hSw hq c0 c1 c2;go_simp;(try with_reducible rfl))
      try simp only [lay8]
      refine tk8 16 (v := ?_) rfl (Or.inl ⟨by rfl,?_⟩) hHeld ?_
      rotate_left 1
      ·(intro w hSw;(try dsimp only at hSw);obtain ⟨e0,e1,e2⟩ := c8 hSw hq c0 c1 c2;go_simp;(try with_reducible rfl))
      try simp only [lay8]
      refine tk8 17 (v := ?_) rfl (Or.inl ⟨by rfl,?_⟩) hHeld ?_
      rotate_left 1
      ·(intro w hSw;(try dsimp only at hSw);obtain ⟨e0,e1,e2⟩ := c8 hSw hq c0 c1 c2;go_simp;(try with_reducible rfl))
      try simp only [lay8]
      refine wpAnyH_ready (rs := [20]) (by kernel_rfl) (by simp) ?_
      refine AllReadyH.cons (o := _) rfl (fun K hK => ?_) ?_
      ·obtain ⟨l0,l1,l2,l3,n0,n1,n2,n3⟩ := HX26e.out.four
       go_simp
       clear l0 l1 l2 l3 n0 n1 n2 n3
       refine hK.out _ _ (show Below w.heap.size w (set4 u26 (u20.heap.size) (.int .i64 kd) (.int .i32 r) (.slice A m cA) (.int .i64 at')) from set4_below HB26.out (by have := HS0.out;have := HS1.out;have := HS20.out;have := HS25.out;have := HS26.out;omega) _ _ _ _) (fun hHeld => ?_)
       clear hK K
       try simp only [lay8]
       obtain ⟨u27,hu27⟩ : ∃ x,(set4 u26 (u20.heap.size) (.int .i64 kd) (.int .i32 r) (.slice A m cA) (.int .i64 at')) = x := ⟨_,rfl⟩
       have hHeld2 : Below w.heap.size w u27 := by rw [← hu27];exact hHeld
       have HB27 := Hd hHeld2;have HS27 := Hd (show u27.heap.size = u26.heap.size by rw [← hu27];exact set4_size _ _ _ _ _ _)
       have HX27w := Hd (show Whole u27 (u1.heap.size) 32 #[.int .i64 0,.int .i64 0,.int .i64 0] by rw [← hu27];exact (set4_other (by have := HS0.out;have := HS1.out;have := HS20.out;have := HS25.out;have := HS26.out;omega) _ _ _ _).trans HX26w.out)
       have HX27e := Hd (show Whole u27 (u20.heap.size) 115 #[.int .i64 kd,.int .i32 r,.slice A m cA,.int .i64 at'] by rw [← hu27];exact set4_whole HX26e.out _ _ _ _)
       have HO27 := Hd (show OwnR u27 _ _ _ by rw [← hu27];exact own_set4 HO26.out (fun g hg => by have := HL26.out g hg;have := HS0.out;have := HS1.out;have := HS20.out;have := HS25.out;have := HS26.out;omega) _ _ _ _)
       unfold set4 at hu27
       rw [hu27]
       clear hHeld hu27
       have hHeld := hHeld2
       clear hHeld2
       refine tk8 21 (v := ?_) rfl (Or.inl ⟨by rfl,?_⟩) hHeld ?_
       rotate_left 1
       ·(intro w hSw;(try dsimp only at hSw);obtain ⟨e0,e1,e2⟩ := c8 hSw hq c0 c1 c2;go_simp;(try with_reducible rfl))
       try simp only [lay8]
       refine wpAnyH_ready (rs := [22]) (by kernel_rfl) (by simp) ?_
       refine AllReadyH.cons (o := _) rfl (fun K hK => ?_) ?_
       ·obtain ⟨l0,l1,l2,n0,n1,n2⟩ := HX27w.out.three
        go_simp
        clear l0 l1 l2 n0 n1 n2
        refine hK.out _ _ (show Below w.heap.size w (set3 u27 (u1.heap.size) (.int .i64 c) (.int .i64 a) (.int .i64 b)) from set3_below HB27.out (by have := HS0.out;have := HS1.out;have := HS20.out;have := HS25.out;have := HS26.out;have := HS27.out;omega) _ _ _) (fun hHeld => ?_)
        clear hK K
        try simp only [lay8]
        obtain ⟨u28,hu28⟩ : ∃ x,(set3 u27 (u1.heap.size) (.int .i64 c) (.int .i64 a) (.int .i64 b)) = x := ⟨_,rfl⟩
        have hHeld2 : Below w.heap.size w u28 := by rw [← hu28];exact hHeld
        have HB28 := Hd hHeld2;have HS28 := Hd (show u28.heap.size = u27.heap.size by rw [← hu28];exact set3_size _ _ _ _ _)
        have HX28w := Hd (show Whole u28 (u1.heap.size) 32 #[.int .i64 c,.int .i64 a,.int .i64 b] by rw [← hu28];exact set3_whole HX27w.out _ _ _)
        have HX28e := Hd (show Whole u28 (u20.heap.size) 115 #[.int .i64 kd,.int .i32 r,.slice A m cA,.int .i64 at'] by rw [← hu28];exact (set3_other (by have := HS0.out;have := HS1.out;have := HS20.out;have := HS25.out;have := HS26.out;have := HS27.out;omega) _ _ _).trans HX27e.out)
        have HO28 := Hd (show OwnR u28 _ _ _ by rw [← hu28];exact own_set3 HO27.out (fun g hg => by have := HL26.out g hg;have := HS0.out;have := HS1.out;have := HS20.out;have := HS25.out;have := HS26.out;have := HS27.out;omega) _ _ _)
        unfold set3 at hu28
        rw [hu28]
        clear hHeld hu28
        have hHeld := hHeld2
        clear hHeld2
        refine wpAnyH_done (by kernel_rfl) ?_ _
        go_wp2_with fail
        go_meet
        exact ⟨u20.heap.size,u1.heap.size,A,m,cA,rfl,rfl,rfl,HX28e.out,HX28w.out,HO28.out.mono (by have := HS0.out;have := HS1.out;have := HS20.out;have := HS25.out;have := HS26.out;have := HS27.out;have := HS28.out;omega),HB28.out,by have := HS0.out;have := HS1.out;have := HS20.out;have := HS25.out;have := HS26.out;have := HS27.out;have := HS28.out;omega,by have := HS0.out;have := HS1.out;have := HS20.out;have := HS25.out;have := HS26.out;have := HS27.out;have := HS28.out;omega⟩
       exact AllReadyH.nil
      exact AllReadyH.nil
     exact AllReadyH.nil
    exact AllReadyH.nil
   exact AllReadyH.nil
  refine AllReadyH.cons (o := _) rfl (fun K hK => ?_) ?_
  ·go_simp
   refine hK.out _ _ (HB0.out.alloc HB0.out.size _) (fun hHeld => ?_)
   clear hK K
   try simp only [lay8]
   obtain ⟨u29,hu29⟩ : ∃ x,u0.alloc (.cells #[.int .i64 0,.int .i32 0,.slice none 0 0,.int .i64 0] 115) = x := ⟨_,rfl⟩
   rw [hu29] at hHeld ⊢
   have HB29 := Hd hHeld;have HS29 := Hd (show u29.heap.size = u0.heap.size + 1 by rw [← hu29];simp)
   have HX29e := Hd (show Whole u29 u0.heap.size 115 #[.int .i64 0,.int .i32 0,.slice none 0 0,.int .i64 0] by rw [← hu29];exact heap_alloc_new u0 _)
   clear hu29
   refine wpAnyH_ready (rs := [12,19]) (by kernel_rfl) (by simp) ?_
   refine AllReadyH.cons (o := _) rfl (fun K hK => ?_) ?_
   ·go_simp
    refine (HH.out u29).mono ?_
    rintro e u30 ⟨rfl,hb⟩
    have HB30 := Hd (HB29.out.trans (hb.mono HB29.out.size));have HS30 := Hd hb.size
    have HX30e := Hd (HX29e.out.below hb HX29e.out.lt)
    clear hb
    go_wp2_with fail
    refine hK.out _ _ HB30.out (fun hHeld => ?_)
    clear hK K
    try simp only [lay8]
    refine wpAnyH_ready (rs := [13,19]) (by kernel_rfl) (by simp) ?_
    refine AllReadyH.cons (o := _) rfl (fun K hK => ?_) ?_
    ·go_simp
     refine (HX.out u30 (HTT.out _ HB30.out)).mono ?_
     rintro e u31 ⟨v,rfl,ho,hb⟩
     obtain ⟨A,m,cA,hv⟩ : ∃ A m cA,v = .slice A m cA := by obtain ⟨A,cA,hv,-⟩ := ho.rgs;exact ⟨_,_,_,hv⟩
     subst hv
     have HB31 := Hd (HB30.out.trans (hb.mono HB30.out.size));have HS31 := Hd hb.size
     have HX31e := Hd (HX30e.out.below hb HX30e.out.lt)
     have HO31 := Hd ho;have HL31 := Hd (show ∀ g,(Value.slice A m cA).ownBlock = some g → u30.heap.size ≤ g ∧ g < u31.heap.size from fun g hg => ⟨own_ge ho g hg,(own_kind ho.1 hg).lt⟩)
     clear ho
     clear hb
     go_wp2_with fail
     refine hK.out _ _ HB31.out (fun hHeld => ?_)
     clear hK K
     try simp only [lay8]
     refine tk8 14 (v := ?_) rfl (Or.inl ⟨by rfl,?_⟩) hHeld ?_
     rotate_left 1
     ·(intro w hSw;(try dsimp only at hSw);obtain ⟨e0,e1,e2⟩ := c8 hSw hq c0 c1 c2;go_simp;(try with_reducible rfl))
     try simp only [lay8]
     refine tk8 15 (v := ?_) rfl (Or.inl ⟨by rfl,?_⟩) hHeld ?_
     rotate_left 1
     ·(intro w hSw;(try dsimp only at hSw);obtain ⟨e0,e1,e2⟩ := c8 hSw hq c0 c1 c2;go_simp;(try with_reducible rfl))
     try simp only [lay8]
     refine tk8 16 (v := ?_) rfl (Or.inl ⟨by rfl,?_⟩) hHeld ?_
     rotate_left 1
     ·(intro w hSw;(try dsimp only at hSw);obtain ⟨e0,e1,e2⟩ := c8 hSw hq c0 c1 c2;go_simp;(try with_reducible rfl))
     try simp only [lay8]
     refine tk8 17 (v := ?_) rfl (Or.inl ⟨by rfl,?_⟩) hHeld ?_
     rotate_left 1
     ·(intro w hSw;(try dsimp only at hSw);obtain ⟨e0,e1,e2⟩ := c8 hSw hq c0 c1 c2;go_simp;(try with_reducible rfl))
     try simp only [lay8]
     refine wpAnyH_ready (rs := [19]) (by kernel_rfl) (by simp) ?_
     refine AllReadyH.cons (o := _) rfl (fun K hK => ?_) ?_
     ·go_simp
      refine hK.out _ _ (HB31.out.alloc HB31.out.size _) (fun hHeld => ?_)
      clear hK K
      try simp only [lay8]
      obtain ⟨u32,hu32⟩ : ∃ x,u31.alloc (.cells #[.int .i64 0,.int .i64 0,.int .i64 0] 32) = x := ⟨_,rfl⟩
      rw [hu32] at hHeld ⊢
      have HB32 := Hd hHeld;have HS32 := Hd (show u32.heap.size = u31.heap.size + 1 by rw [← hu32];simp)
      have HX32w := Hd (show Whole u32 u31.heap.size 32 #[.int .i64 0,.int .i64 0,.int .i64 0] by rw [← hu32];exact heap_alloc_new u31 _)
      have HX32e := Hd (show Whole u32 u0.heap.size _ _ by rw [← hu32];exact Whole.alloc HX31e.out _)
      have HO32 := Hd (show OwnR u32 _ _ _ by rw [← hu32];exact HO31.out.below ((Below.refl _ u31).alloc (Nat.le_refl _) _))
      clear hu32
      refine wpAnyH_ready (rs := [20]) (by kernel_rfl) (by simp) ?_
      refine AllReadyH.cons (o := _) rfl (fun K hK => ?_) ?_
      ·obtain ⟨l0,l1,l2,l3,n0,n1,n2,n3⟩ := HX32e.out.four
       go_simp
       clear l0 l1 l2 l3 n0 n1 n2 n3
       refine hK.out _ _ (show Below w.heap.size w (set4 u32 (u0.heap.size) (.int .i64 kd) (.int .i32 r) (.slice A m cA) (.int .i64 at')) from set4_below HB32.out (by have := HS0.out;have := HS29.out;have := HS30.out;have := HS31.out;have := HS32.out;omega) _ _ _ _) (fun hHeld => ?_)
       clear hK K
       try simp only [lay8]
       obtain ⟨u33,hu33⟩ : ∃ x,(set4 u32 (u0.heap.size) (.int .i64 kd) (.int .i32 r) (.slice A m cA) (.int .i64 at')) = x := ⟨_,rfl⟩
       have hHeld2 : Below w.heap.size w u33 := by rw [← hu33];exact hHeld
       have HB33 := Hd hHeld2;have HS33 := Hd (show u33.heap.size = u32.heap.size by rw [← hu33];exact set4_size _ _ _ _ _ _)
       have HX33e := Hd (show Whole u33 (u0.heap.size) 115 #[.int .i64 kd,.int .i32 r,.slice A m cA,.int .i64 at'] by rw [← hu33];exact set4_whole HX32e.out _ _ _ _)
       have HX33w := Hd (show Whole u33 (u31.heap.size) 32 #[.int .i64 0,.int .i64 0,.int .i64 0] by rw [← hu33];exact (set4_other (by have := HS0.out;have := HS29.out;have := HS30.out;have := HS31.out;have := HS32.out;omega) _ _ _ _).trans HX32w.out)
       have HO33 := Hd (show OwnR u33 _ _ _ by rw [← hu33];exact own_set4 HO32.out (fun g hg => by have := HL31.out g hg;have := HS0.out;have := HS29.out;have := HS30.out;have := HS31.out;have := HS32.out;omega) _ _ _ _)
       unfold set4 at hu33
       rw [hu33]
       clear hHeld hu33
       have hHeld := hHeld2
       clear hHeld2
       refine tk8 21 (v := ?_) rfl (Or.inl ⟨by rfl,?_⟩) hHeld ?_
       rotate_left 1
       ·(intro w hSw;(try dsimp only at hSw);obtain ⟨e0,e1,e2⟩ := c8 hSw hq c0 c1 c2;go_simp;(try with_reducible rfl))
       try simp only [lay8]
       refine wpAnyH_ready (rs := [22]) (by kernel_rfl) (by simp) ?_
       refine AllReadyH.cons (o := _) rfl (fun K hK => ?_) ?_
       ·obtain ⟨l0,l1,l2,n0,n1,n2⟩ := HX33w.out.three
        go_simp
        clear l0 l1 l2 n0 n1 n2
        refine hK.out _ _ (show Below w.heap.size w (set3 u33 (u31.heap.size) (.int .i64 c) (.int .i64 a) (.int .i64 b)) from set3_below HB33.out (by have := HS0.out;have := HS29.out;have := HS30.out;have := HS31.out;have := HS32.out;have := HS33.out;omega) _ _ _) (fun hHeld => ?_)
        clear hK K
        try simp only [lay8]
        obtain ⟨u34,hu34⟩ : ∃ x,(set3 u33 (u31.heap.size) (.int .i64 c) (.int .i64 a) (.int .i64 b)) = x := ⟨_,rfl⟩
        have hHeld2 : Below w.heap.size w u34 := by rw [← hu34];exact hHeld
        have HB34 := Hd hHeld2;have HS34 := Hd (show u34.heap.size = u33.heap.size by rw [← hu34];exact set3_size _ _ _ _ _)
        have HX34e := Hd (show Whole u34 (u0.heap.size) 115 #[.int .i64 kd,.int .i32 r,.slice A m cA,.int .i64 at'] by rw [← hu34];exact (set3_other (by have := HS0.out;have := HS29.out;have := HS30.out;have := HS31.out;have := HS32.out;have := HS33.out;omega) _ _ _).trans HX33e.out)
        have HX34w := Hd (show Whole u34 (u31.heap.size) 32 #[.int .i64 c,.int .i64 a,.int .i64 b] by rw [← hu34];exact set3_whole HX33w.out _ _ _)
        have HO34 := Hd (show OwnR u34 _ _ _ by rw [← hu34];exact own_set3 HO33.out (fun g hg => by have := HL31.out g hg;have := HS0.out;have := HS29.out;have := HS30.out;have := HS31.out;have := HS32.out;have := HS33.out;omega) _ _ _)
        unfold set3 at hu34
        rw [hu34]
        clear hHeld hu34
        have hHeld := hHeld2
        clear hHeld2
        refine wpAnyH_done (by kernel_rfl) ?_ _
        go_wp2_with fail
        go_meet
        exact ⟨u0.heap.size,u31.heap.size,A,m,cA,rfl,rfl,rfl,HX34e.out,HX34w.out,HO34.out.mono (by have := HS0.out;have := HS29.out;have := HS30.out;have := HS31.out;have := HS32.out;have := HS33.out;have := HS34.out;omega),HB34.out,by have := HS0.out;have := HS29.out;have := HS30.out;have := HS31.out;have := HS32.out;have := HS33.out;have := HS34.out;omega,by have := HS0.out;have := HS29.out;have := HS30.out;have := HS31.out;have := HS32.out;have := HS33.out;have := HS34.out;omega⟩
       exact AllReadyH.nil
      exact AllReadyH.nil
     exact AllReadyH.nil
    refine AllReadyH.cons (o := _) rfl (fun K hK => ?_) ?_
    ·go_simp
     refine hK.out _ _ (HB30.out.alloc HB30.out.size _) (fun hHeld => ?_)
     clear hK K
     try simp only [lay8]
     obtain ⟨u35,hu35⟩ : ∃ x,u30.alloc (.cells #[.int .i64 0,.int .i64 0,.int .i64 0] 32) = x := ⟨_,rfl⟩
     rw [hu35] at hHeld ⊢
     have HB35 := Hd hHeld;have HS35 := Hd (show u35.heap.size = u30.heap.size + 1 by rw [← hu35];simp)
     have HX35w := Hd (show Whole u35 u30.heap.size 32 #[.int .i64 0,.int .i64 0,.int .i64 0] by rw [← hu35];exact heap_alloc_new u30 _)
     have HX35e := Hd (show Whole u35 u0.heap.size _ _ by rw [← hu35];exact Whole.alloc HX30e.out _)
     clear hu35
     refine wpAnyH_ready (rs := [13]) (by kernel_rfl) (by simp) ?_
     refine AllReadyH.cons (o := _) rfl (fun K hK => ?_) ?_
     ·go_simp
      refine (HX.out u35 (HTT.out _ HB35.out)).mono ?_
      rintro e u36 ⟨v,rfl,ho,hb⟩
      obtain ⟨A,m,cA,hv⟩ : ∃ A m cA,v = .slice A m cA := by obtain ⟨A,cA,hv,-⟩ := ho.rgs;exact ⟨_,_,_,hv⟩
      subst hv
      have HB36 := Hd (HB35.out.trans (hb.mono HB35.out.size));have HS36 := Hd hb.size
      have HX36e := Hd (HX35e.out.below hb HX35e.out.lt)
      have HX36w := Hd (HX35w.out.below hb HX35w.out.lt)
      have HO36 := Hd ho;have HL36 := Hd (show ∀ g,(Value.slice A m cA).ownBlock = some g → u35.heap.size ≤ g ∧ g < u36.heap.size from fun g hg => ⟨own_ge ho g hg,(own_kind ho.1 hg).lt⟩)
      clear ho
      clear hb
      go_wp2_with fail
      refine hK.out _ _ HB36.out (fun hHeld => ?_)
      clear hK K
      try simp only [lay8]
      refine tk8 14 (v := ?_) rfl (Or.inl ⟨by rfl,?_⟩) hHeld ?_
      rotate_left 1
      ·(intro w hSw;(try dsimp only at hSw);obtain ⟨e0,e1,e2⟩ := c8 hSw hq c0 c1 c2;go_simp;(try with_reducible rfl))
      try simp only [lay8]
      refine tk8 15 (v := ?_) rfl (Or.inl ⟨by rfl,?_⟩) hHeld ?_
      rotate_left 1
      ·(intro w hSw;(try dsimp only at hSw);obtain ⟨e0,e1,e2⟩ := c8 hSw hq c0 c1 c2;go_simp;(try with_reducible rfl))
      try simp only [lay8]
      refine tk8 16 (v := ?_) rfl (Or.inl ⟨by rfl,?_⟩) hHeld ?_
      rotate_left 1
      ·(intro w hSw;(try dsimp only at hSw);obtain ⟨e0,e1,e2⟩ := c8 hSw hq c0 c1 c2;go_simp;(try with_reducible rfl))
      try simp only [lay8]
      refine tk8 17 (v := ?_) rfl (Or.inl ⟨by rfl,?_⟩) hHeld ?_
      rotate_left 1
      ·(intro w hSw;(try dsimp only at hSw);obtain ⟨e0,e1,e2⟩ := c8 hSw hq c0 c1 c2;go_simp;(try with_reducible rfl))
      try simp only [lay8]
      refine wpAnyH_ready (rs := [20]) (by kernel_rfl) (by simp) ?_
      refine AllReadyH.cons (o := _) rfl (fun K hK => ?_) ?_
      ·obtain ⟨l0,l1,l2,l3,n0,n1,n2,n3⟩ := HX36e.out.four
       go_simp
       clear l0 l1 l2 l3 n0 n1 n2 n3
       refine hK.out _ _ (show Below w.heap.size w (set4 u36 (u0.heap.size) (.int .i64 kd) (.int .i32 r) (.slice A m cA) (.int .i64 at')) from set4_below HB36.out (by have := HS0.out;have := HS29.out;have := HS30.out;have := HS35.out;have := HS36.out;omega) _ _ _ _) (fun hHeld => ?_)
       clear hK K
       try simp only [lay8]
       obtain ⟨u37,hu37⟩ : ∃ x,(set4 u36 (u0.heap.size) (.int .i64 kd) (.int .i32 r) (.slice A m cA) (.int .i64 at')) = x := ⟨_,rfl⟩
       have hHeld2 : Below w.heap.size w u37 := by rw [← hu37];exact hHeld
       have HB37 := Hd hHeld2;have HS37 := Hd (show u37.heap.size = u36.heap.size by rw [← hu37];exact set4_size _ _ _ _ _ _)
       have HX37e := Hd (show Whole u37 (u0.heap.size) 115 #[.int .i64 kd,.int .i32 r,.slice A m cA,.int .i64 at'] by rw [← hu37];exact set4_whole HX36e.out _ _ _ _)
       have HX37w := Hd (show Whole u37 (u30.heap.size) 32 #[.int .i64 0,.int .i64 0,.int .i64 0] by rw [← hu37];exact (set4_other (by have := HS0.out;have := HS29.out;have := HS30.out;have := HS35.out;have := HS36.out;omega) _ _ _ _).trans HX36w.out)
       have HO37 := Hd (show OwnR u37 _ _ _ by rw [← hu37];exact own_set4 HO36.out (fun g hg => by have := HL36.out g hg;have := HS0.out;have := HS29.out;have := HS30.out;have := HS35.out;have := HS36.out;omega) _ _ _ _)
       unfold set4 at hu37
       rw [hu37]
       clear hHeld hu37
       have hHeld := hHeld2
       clear hHeld2
       refine tk8 21 (v := ?_) rfl (Or.inl ⟨by rfl,?_⟩) hHeld ?_
       rotate_left 1
       ·(intro w hSw;(try dsimp only at hSw);obtain ⟨e0,e1,e2⟩ := c8 hSw hq c0 c1 c2;go_simp;(try with_reducible rfl))
       try simp only [lay8]
       refine wpAnyH_ready (rs := [22]) (by kernel_rfl) (by simp) ?_
       refine AllReadyH.cons (o := _) rfl (fun K hK => ?_) ?_
       ·obtain ⟨l0,l1,l2,n0,n1,n2⟩ := HX37w.out.three
        go_simp
        clear l0 l1 l2 n0 n1 n2
        refine hK.out _ _ (show Below w.heap.size w (set3 u37 (u30.heap.size) (.int .i64 c) (.int .i64 a) (.int .i64 b)) from set3_below HB37.out (by have := HS0.out;have := HS29.out;have := HS30.out;have := HS35.out;have := HS36.out;have := HS37.out;omega) _ _ _) (fun hHeld => ?_)
        clear hK K
        try simp only [lay8]
        obtain ⟨u38,hu38⟩ : ∃ x,(set3 u37 (u30.heap.size) (.int .i64 c) (.int .i64 a) (.int .i64 b)) = x := ⟨_,rfl⟩
        have hHeld2 : Below w.heap.size w u38 := by rw [← hu38];exact hHeld
        have HB38 := Hd hHeld2;have HS38 := Hd (show u38.heap.size = u37.heap.size by rw [← hu38];exact set3_size _ _ _ _ _)
        have HX38e := Hd (show Whole u38 (u0.heap.size) 115 #[.int .i64 kd,.int .i32 r,.slice A m cA,.int .i64 at'] by rw [← hu38];exact (set3_other (by have := HS0.out;have := HS29.out;have := HS30.out;have := HS35.out;have := HS36.out;have := HS37.out;omega) _ _ _).trans HX37e.out)
        have HX38w := Hd (show Whole u38 (u30.heap.size) 32 #[.int .i64 c,.int .i64 a,.int .i64 b] by rw [← hu38];exact set3_whole HX37w.out _ _ _)
        have HO38 := Hd (show OwnR u38 _ _ _ by rw [← hu38];exact own_set3 HO37.out (fun g hg => by have := HL36.out g hg;have := HS0.out;have := HS29.out;have := HS30.out;have := HS35.out;have := HS36.out;have := HS37.out;omega) _ _ _)
        unfold set3 at hu38
        rw [hu38]
        clear hHeld hu38
        have hHeld := hHeld2
        clear hHeld2
        refine wpAnyH_done (by kernel_rfl) ?_ _
        go_wp2_with fail
        go_meet
        exact ⟨u0.heap.size,u30.heap.size,A,m,cA,rfl,rfl,rfl,HX38e.out,HX38w.out,HO38.out.mono (by have := HS0.out;have := HS29.out;have := HS30.out;have := HS35.out;have := HS36.out;have := HS37.out;have := HS38.out;omega),HB38.out,by have := HS0.out;have := HS29.out;have := HS30.out;have := HS35.out;have := HS36.out;have := HS37.out;have := HS38.out;omega,by have := HS0.out;have := HS29.out;have := HS30.out;have := HS35.out;have := HS36.out;have := HS37.out;have := HS38.out;omega⟩
       exact AllReadyH.nil
      exact AllReadyH.nil
     exact AllReadyH.nil
    exact AllReadyH.nil
   refine AllReadyH.cons (o := _) rfl (fun K hK => ?_) ?_
   ·go_simp
    refine hK.out _ _ (HB29.out.alloc HB29.out.size _) (fun hHeld => ?_)
    clear hK K
    try simp only [lay8]
    obtain ⟨u39,hu39⟩ : ∃ x,u29.alloc (.cells #[.int .i64 0,.int .i64 0,.int .i64 0] 32) = x := ⟨_,rfl⟩
    rw [hu39] at hHeld ⊢
    have HB39 := Hd hHeld;have HS39 := Hd (show u39.heap.size = u29.heap.size + 1 by rw [← hu39];simp)
    have HX39w := Hd (show Whole u39 u29.heap.size 32 #[.int .i64 0,.int .i64 0,.int .i64 0] by rw [← hu39];exact heap_alloc_new u29 _)
    have HX39e := Hd (show Whole u39 u0.heap.size _ _ by rw [← hu39];exact Whole.alloc HX29e.out _)
    clear hu39
    refine wpAnyH_ready (rs := [12]) (by kernel_rfl) (by simp) ?_
    refine AllReadyH.cons (o := _) rfl (fun K hK => ?_) ?_
    ·go_simp
     refine (HH.out u39).mono ?_
     rintro e u40 ⟨rfl,hb⟩
     have HB40 := Hd (HB39.out.trans (hb.mono HB39.out.size));have HS40 := Hd hb.size
     have HX40e := Hd (HX39e.out.below hb HX39e.out.lt)
     have HX40w := Hd (HX39w.out.below hb HX39w.out.lt)
     clear hb
     go_wp2_with fail
     refine hK.out _ _ HB40.out (fun hHeld => ?_)
     clear hK K
     try simp only [lay8]
     refine wpAnyH_ready (rs := [13]) (by kernel_rfl) (by simp) ?_
     refine AllReadyH.cons (o := _) rfl (fun K hK => ?_) ?_
     ·go_simp
      refine (HX.out u40 (HTT.out _ HB40.out)).mono ?_
      rintro e u41 ⟨v,rfl,ho,hb⟩
      obtain ⟨A,m,cA,hv⟩ : ∃ A m cA,v = .slice A m cA := by obtain ⟨A,cA,hv,-⟩ := ho.rgs;exact ⟨_,_,_,hv⟩
      subst hv
      have HB41 := Hd (HB40.out.trans (hb.mono HB40.out.size));have HS41 := Hd hb.size
      have HX41e := Hd (HX40e.out.below hb HX40e.out.lt)
      have HX41w := Hd (HX40w.out.below hb HX40w.out.lt)
      have HO41 := Hd ho;have HL41 := Hd (show ∀ g,(Value.slice A m cA).ownBlock = some g → u40.heap.size ≤ g ∧ g < u41.heap.size from fun g hg => ⟨own_ge ho g hg,(own_kind ho.1 hg).lt⟩)
      clear ho
      clear hb
      go_wp2_with fail
      refine hK.out _ _ HB41.out (fun hHeld => ?_)
      clear hK K
      try simp only [lay8]
      refine tk8 14 (v := ?_) rfl (Or.inl ⟨by rfl,?_⟩) hHeld ?_
      rotate_left 1
      ·(intro w hSw;(try dsimp only at hSw);obtain ⟨e0,e1,e2⟩ := c8 hSw hq c0 c1 c2;go_simp;(try with_reducible rfl))
      try simp only [lay8]
      refine tk8 15 (v := ?_) rfl (Or.inl ⟨by rfl,?_⟩) hHeld ?_
      rotate_left 1
      ·(intro w hSw;(try dsimp only at hSw);obtain ⟨e0,e1,e2⟩ := c8 hSw hq c0 c1 c2;go_simp;(try with_reducible rfl))
      try simp only [lay8]
      refine tk8 16 (v := ?_) rfl (Or.inl ⟨by rfl,?_⟩) hHeld ?_
      rotate_left 1
      ·(intro w hSw;(try dsimp only at hSw);obtain ⟨e0,e1,e2⟩ := c8 hSw hq c0 c1 c2;go_simp;(try with_reducible rfl))
      try simp only [lay8]
      refine tk8 17 (v := ?_) rfl (Or.inl ⟨by rfl,?_⟩) hHeld ?_
      rotate_left 1
      ·(intro w hSw;(try dsimp only at hSw);obtain ⟨e0,e1,e2⟩ := c8 hSw hq c0 c1 c2;go_simp;(try with_reducible rfl))
      try simp only [lay8]
      refine wpAnyH_ready (rs := [20]) (by kernel_rfl) (by simp) ?_
      refine AllReadyH.cons (o := _) rfl (fun K hK => ?_) ?_
      ·obtain ⟨l0,l1,l2,l3,n0,n1,n2,n3⟩ := HX41e.out.four
       go_simp
       clear l0 l1 l2 l3 n0 n1 n2 n3
       refine hK.out _ _ (show Below w.heap.size w (set4 u41 (u0.heap.size) (.int .i64 kd) (.int .i32 r) (.slice A m cA) (.int .i64 at')) from set4_below HB41.out (by have := HS0.out;have := HS29.out;have := HS39.out;have := HS40.out;have := HS41.out;omega) _ _ _ _) (fun hHeld => ?_)
       clear hK K
       try simp only [lay8]
       obtain ⟨u42,hu42⟩ : ∃ x,(set4 u41 (u0.heap.size) (.int .i64 kd) (.int .i32 r) (.slice A m cA) (.int .i64 at')) = x := ⟨_,rfl⟩
       have hHeld2 : Below w.heap.size w u42 := by rw [← hu42];exact hHeld
       have HB42 := Hd hHeld2;have HS42 := Hd (show u42.heap.size = u41.heap.size by rw [← hu42];exact set4_size _ _ _ _ _ _)
       have HX42e := Hd (show Whole u42 (u0.heap.size) 115 #[.int .i64 kd,.int .i32 r,.slice A m cA,.int .i64 at'] by rw [← hu42];exact set4_whole HX41e.out _ _ _ _)
       have HX42w := Hd (show Whole u42 (u29.heap.size) 32 #[.int .i64 0,.int .i64 0,.int .i64 0] by rw [← hu42];exact (set4_other (by have := HS0.out;have := HS29.out;have := HS39.out;have := HS40.out;have := HS41.out;omega) _ _ _ _).trans HX41w.out)
       have HO42 := Hd (show OwnR u42 _ _ _ by rw [← hu42];exact own_set4 HO41.out (fun g hg => by have := HL41.out g hg;have := HS0.out;have := HS29.out;have := HS39.out;have := HS40.out;have := HS41.out;omega) _ _ _ _)
       unfold set4 at hu42
       rw [hu42]
       clear hHeld hu42
       have hHeld := hHeld2
       clear hHeld2
       refine tk8 21 (v := ?_) rfl (Or.inl ⟨by rfl,?_⟩) hHeld ?_
       rotate_left 1
       ·(intro w hSw;(try dsimp only at hSw);obtain ⟨e0,e1,e2⟩ := c8 hSw hq c0 c1 c2;go_simp;(try with_reducible rfl))
       try simp only [lay8]
       refine wpAnyH_ready (rs := [22]) (by kernel_rfl) (by simp) ?_
       refine AllReadyH.cons (o := _) rfl (fun K hK => ?_) ?_
       ·obtain ⟨l0,l1,l2,n0,n1,n2⟩ := HX42w.out.three
        go_simp
        clear l0 l1 l2 n0 n1 n2
        refine hK.out _ _ (show Below w.heap.size w (set3 u42 (u29.heap.size) (.int .i64 c) (.int .i64 a) (.int .i64 b)) from set3_below HB42.out (by have := HS0.out;have := HS29.out;have := HS39.out;have := HS40.out;have := HS41.out;have := HS42.out;omega) _ _ _) (fun hHeld => ?_)
        clear hK K
        try simp only [lay8]
        obtain ⟨u43,hu43⟩ : ∃ x,(set3 u42 (u29.heap.size) (.int .i64 c) (.int .i64 a) (.int .i64 b)) = x := ⟨_,rfl⟩
        have hHeld2 : Below w.heap.size w u43 := by rw [← hu43];exact hHeld
        have HB43 := Hd hHeld2;have HS43 := Hd (show u43.heap.size = u42.heap.size by rw [← hu43];exact set3_size _ _ _ _ _)
        have HX43e := Hd (show Whole u43 (u0.heap.size) 115 #[.int .i64 kd,.int .i32 r,.slice A m cA,.int .i64 at'] by rw [← hu43];exact (set3_other (by have := HS0.out;have := HS29.out;have := HS39.out;have := HS40.out;have := HS41.out;have := HS42.out;omega) _ _ _).trans HX42e.out)
        have HX43w := Hd (show Whole u43 (u29.heap.size) 32 #[.int .i64 c,.int .i64 a,.int .i64 b] by rw [← hu43];exact set3_whole HX42w.out _ _ _)
        have HO43 := Hd (show OwnR u43 _ _ _ by rw [← hu43];exact own_set3 HO42.out (fun g hg => by have := HL41.out g hg;have := HS0.out;have := HS29.out;have := HS39.out;have := HS40.out;have := HS41.out;have := HS42.out;omega) _ _ _)
        unfold set3 at hu43
        rw [hu43]
        clear hHeld hu43
        have hHeld := hHeld2
        clear hHeld2
        refine wpAnyH_done (by kernel_rfl) ?_ _
        go_wp2_with fail
        go_meet
        exact ⟨u0.heap.size,u29.heap.size,A,m,cA,rfl,rfl,rfl,HX43e.out,HX43w.out,HO43.out.mono (by have := HS0.out;have := HS29.out;have := HS39.out;have := HS40.out;have := HS41.out;have := HS42.out;have := HS43.out;omega),HB43.out,by have := HS0.out;have := HS29.out;have := HS39.out;have := HS40.out;have := HS41.out;have := HS42.out;have := HS43.out;omega,by have := HS0.out;have := HS29.out;have := HS39.out;have := HS40.out;have := HS41.out;have := HS42.out;have := HS43.out;omega⟩
       exact AllReadyH.nil
      exact AllReadyH.nil
     exact AllReadyH.nil
    exact AllReadyH.nil
   exact AllReadyH.nil
  refine AllReadyH.cons (o := _) rfl (fun K hK => ?_) ?_
  ·go_simp
   refine hK.out _ _ (HB0.out.alloc HB0.out.size _) (fun hHeld => ?_)
   clear hK K
   try simp only [lay8]
   obtain ⟨u44,hu44⟩ : ∃ x,u0.alloc (.cells #[.int .i64 0,.int .i64 0,.int .i64 0] 32) = x := ⟨_,rfl⟩
   rw [hu44] at hHeld ⊢
   have HB44 := Hd hHeld;have HS44 := Hd (show u44.heap.size = u0.heap.size + 1 by rw [← hu44];simp)
   have HX44w := Hd (show Whole u44 u0.heap.size 32 #[.int .i64 0,.int .i64 0,.int .i64 0] by rw [← hu44];exact heap_alloc_new u0 _)
   clear hu44
   refine wpAnyH_ready (rs := [12,18]) (by kernel_rfl) (by simp) ?_
   refine AllReadyH.cons (o := _) rfl (fun K hK => ?_) ?_
   ·go_simp
    refine (HH.out u44).mono ?_
    rintro e u45 ⟨rfl,hb⟩
    have HB45 := Hd (HB44.out.trans (hb.mono HB44.out.size));have HS45 := Hd hb.size
    have HX45w := Hd (HX44w.out.below hb HX44w.out.lt)
    clear hb
    go_wp2_with fail
    refine hK.out _ _ HB45.out (fun hHeld => ?_)
    clear hK K
    try simp only [lay8]
    refine wpAnyH_ready (rs := [13,18]) (by kernel_rfl) (by simp) ?_
    refine AllReadyH.cons (o := _) rfl (fun K hK => ?_) ?_
    ·go_simp
     refine (HX.out u45 (HTT.out _ HB45.out)).mono ?_
     rintro e u46 ⟨v,rfl,ho,hb⟩
     obtain ⟨A,m,cA,hv⟩ : ∃ A m cA,v = .slice A m cA := by obtain ⟨A,cA,hv,-⟩ := ho.rgs;exact ⟨_,_,_,hv⟩
     subst hv
     have HB46 := Hd (HB45.out.trans (hb.mono HB45.out.size));have HS46 := Hd hb.size
     have HX46w := Hd (HX45w.out.below hb HX45w.out.lt)
     have HO46 := Hd ho;have HL46 := Hd (show ∀ g,(Value.slice A m cA).ownBlock = some g → u45.heap.size ≤ g ∧ g < u46.heap.size from fun g hg => ⟨own_ge ho g hg,(own_kind ho.1 hg).lt⟩)
     clear ho
     clear hb
     go_wp2_with fail
     refine hK.out _ _ HB46.out (fun hHeld => ?_)
     clear hK K
     try simp only [lay8]
     refine tk8 14 (v := ?_) rfl (Or.inl ⟨by rfl,?_⟩) hHeld ?_
     rotate_left 1
     ·(intro w hSw;(try dsimp only at hSw);obtain ⟨e0,e1,e2⟩ := c8 hSw hq c0 c1 c2;go_simp;(try with_reducible rfl))
     try simp only [lay8]
     refine tk8 15 (v := ?_) rfl (Or.inl ⟨by rfl,?_⟩) hHeld ?_
     rotate_left 1
     ·(intro w hSw;(try dsimp only at hSw);obtain ⟨e0,e1,e2⟩ := c8 hSw hq c0 c1 c2;go_simp;(try with_reducible rfl))
     try simp only [lay8]
     refine tk8 16 (v := ?_) rfl (Or.inl ⟨by rfl,?_⟩) hHeld ?_
     rotate_left 1
     ·(intro w hSw;(try dsimp only at hSw);obtain ⟨e0,e1,e2⟩ := c8 hSw hq c0 c1 c2;go_simp;(try with_reducible rfl))
     try simp only [lay8]
     refine tk8 17 (v := ?_) rfl (Or.inl ⟨by rfl,?_⟩) hHeld ?_
     rotate_left 1
     ·(intro w hSw;(try dsimp only at hSw);obtain ⟨e0,e1,e2⟩ := c8 hSw hq c0 c1 c2;go_simp;(try with_reducible rfl))
     try simp only [lay8]
     refine wpAnyH_ready (rs := [18]) (by kernel_rfl) (by simp) ?_
     refine AllReadyH.cons (o := _) rfl (fun K hK => ?_) ?_
     ·go_simp
      refine hK.out _ _ (HB46.out.alloc HB46.out.size _) (fun hHeld => ?_)
      clear hK K
      try simp only [lay8]
      obtain ⟨u47,hu47⟩ : ∃ x,u46.alloc (.cells #[.int .i64 0,.int .i32 0,.slice none 0 0,.int .i64 0] 115) = x := ⟨_,rfl⟩
      rw [hu47] at hHeld ⊢
      have HB47 := Hd hHeld;have HS47 := Hd (show u47.heap.size = u46.heap.size + 1 by rw [← hu47];simp)
      have HX47e := Hd (show Whole u47 u46.heap.size 115 #[.int .i64 0,.int .i32 0,.slice none 0 0,.int .i64 0] by rw [← hu47];exact heap_alloc_new u46 _)
      have HX47w := Hd (show Whole u47 u0.heap.size _ _ by rw [← hu47];exact Whole.alloc HX46w.out _)
      have HO47 := Hd (show OwnR u47 _ _ _ by rw [← hu47];exact HO46.out.below ((Below.refl _ u46).alloc (Nat.le_refl _) _))
      clear hu47
      refine wpAnyH_ready (rs := [20]) (by kernel_rfl) (by simp) ?_
      refine AllReadyH.cons (o := _) rfl (fun K hK => ?_) ?_
      ·obtain ⟨l0,l1,l2,l3,n0,n1,n2,n3⟩ := HX47e.out.four
       go_simp
       clear l0 l1 l2 l3 n0 n1 n2 n3
       refine hK.out _ _ (show Below w.heap.size w (set4 u47 (u46.heap.size) (.int .i64 kd) (.int .i32 r) (.slice A m cA) (.int .i64 at')) from set4_below HB47.out (by have := HS0.out;have := HS44.out;have := HS45.out;have := HS46.out;have := HS47.out;omega) _ _ _ _) (fun hHeld => ?_)
       clear hK K
       try simp only [lay8]
       obtain ⟨u48,hu48⟩ : ∃ x,(set4 u47 (u46.heap.size) (.int .i64 kd) (.int .i32 r) (.slice A m cA) (.int .i64 at')) = x := ⟨_,rfl⟩
       have hHeld2 : Below w.heap.size w u48 := by rw [← hu48];exact hHeld
       have HB48 := Hd hHeld2;have HS48 := Hd (show u48.heap.size = u47.heap.size by rw [← hu48];exact set4_size _ _ _ _ _ _)
       have HX48w := Hd (show Whole u48 (u0.heap.size) 32 #[.int .i64 0,.int .i64 0,.int .i64 0] by rw [← hu48];exact (set4_other (by have := HS0.out;have := HS44.out;have := HS45.out;have := HS46.out;have := HS47.out;omega) _ _ _ _).trans HX47w.out)
       have HX48e := Hd (show Whole u48 (u46.heap.size) 115 #[.int .i64 kd,.int .i32 r,.slice A m cA,.int .i64 at'] by rw [← hu48];exact set4_whole HX47e.out _ _ _ _)
       have HO48 := Hd (show OwnR u48 _ _ _ by rw [← hu48];exact own_set4 HO47.out (fun g hg => by have := HL46.out g hg;have := HS0.out;have := HS44.out;have := HS45.out;have := HS46.out;have := HS47.out;omega) _ _ _ _)
       unfold set4 at hu48
       rw [hu48]
       clear hHeld hu48
       have hHeld := hHeld2
       clear hHeld2
       refine tk8 21 (v := ?_) rfl (Or.inl ⟨by rfl,?_⟩) hHeld ?_
       rotate_left 1
       ·(intro w hSw;(try dsimp only at hSw);obtain ⟨e0,e1,e2⟩ := c8 hSw hq c0 c1 c2;go_simp;(try with_reducible rfl))
       try simp only [lay8]
       refine wpAnyH_ready (rs := [22]) (by kernel_rfl) (by simp) ?_
       refine AllReadyH.cons (o := _) rfl (fun K hK => ?_) ?_
       ·obtain ⟨l0,l1,l2,n0,n1,n2⟩ := HX48w.out.three
        go_simp
        clear l0 l1 l2 n0 n1 n2
        refine hK.out _ _ (show Below w.heap.size w (set3 u48 (u0.heap.size) (.int .i64 c) (.int .i64 a) (.int .i64 b)) from set3_below HB48.out (by have := HS0.out;have := HS44.out;have := HS45.out;have := HS46.out;have := HS47.out;have := HS48.out;omega) _ _ _) (fun hHeld => ?_)
        clear hK K
        try simp only [lay8]
        obtain ⟨u49,hu49⟩ : ∃ x,(set3 u48 (u0.heap.size) (.int .i64 c) (.int .i64 a) (.int .i64 b)) = x := ⟨_,rfl⟩
        have hHeld2 : Below w.heap.size w u49 := by rw [← hu49];exact hHeld
        have HB49 := Hd hHeld2;have HS49 := Hd (show u49.heap.size = u48.heap.size by rw [← hu49];exact set3_size _ _ _ _ _)
        have HX49w := Hd (show Whole u49 (u0.heap.size) 32 #[.int .i64 c,.int .i64 a,.int .i64 b] by rw [← hu49];exact set3_whole HX48w.out _ _ _)
        have HX49e := Hd (show Whole u49 (u46.heap.size) 115 #[.int .i64 kd,.int .i32 r,.slice A m cA,.int .i64 at'] by rw [← hu49];exact (set3_other (by have := HS0.out;have := HS44.out;have := HS45.out;have := HS46.out;have := HS47.out;have := HS48.out;omega) _ _ _).trans HX48e.out)
        have HO49 := Hd (show OwnR u49 _ _ _ by rw [← hu49];exact own_set3 HO48.out (fun g hg => by have := HL46.out g hg;have := HS0.out;have := HS44.out;have := HS45.out;have := HS46.out;have := HS47.out;have := HS48.out;omega) _ _ _)
        unfold set3 at hu49
        rw [hu49]
        clear hHeld hu49
        have hHeld := hHeld2
        clear hHeld2
        refine wpAnyH_done (by kernel_rfl) ?_ _
        go_wp2_with fail
        go_meet
        exact ⟨u46.heap.size,u0.heap.size,A,m,cA,rfl,rfl,rfl,HX49e.out,HX49w.out,HO49.out.mono (by have := HS0.out;have := HS44.out;have := HS45.out;have := HS46.out;have := HS47.out;have := HS48.out;have := HS49.out;omega),HB49.out,by have := HS0.out;have := HS44.out;have := HS45.out;have := HS46.out;have := HS47.out;have := HS48.out;have := HS49.out;omega,by have := HS0.out;have := HS44.out;have := HS45.out;have := HS46.out;have := HS47.out;have := HS48.out;have := HS49.out;omega⟩
       exact AllReadyH.nil
      exact AllReadyH.nil
     exact AllReadyH.nil
    refine AllReadyH.cons (o := _) rfl (fun K hK => ?_) ?_
    ·go_simp
     refine hK.out _ _ (HB45.out.alloc HB45.out.size _) (fun hHeld => ?_)
     clear hK K
     try simp only [lay8]
     obtain ⟨u50,hu50⟩ : ∃ x,u45.alloc (.cells #[.int .i64 0,.int .i32 0,.slice none 0 0,.int .i64 0] 115) = x := ⟨_,rfl⟩
     rw [hu50] at hHeld ⊢
     have HB50 := Hd hHeld;have HS50 := Hd (show u50.heap.size = u45.heap.size + 1 by rw [← hu50];simp)
     have HX50e := Hd (show Whole u50 u45.heap.size 115 #[.int .i64 0,.int .i32 0,.slice none 0 0,.int .i64 0] by rw [← hu50];exact heap_alloc_new u45 _)
     have HX50w := Hd (show Whole u50 u0.heap.size _ _ by rw [← hu50];exact Whole.alloc HX45w.out _)
     clear hu50
     refine wpAnyH_ready (rs := [13]) (by kernel_rfl) (by simp) ?_
     refine AllReadyH.cons (o := _) rfl (fun K hK => ?_) ?_
     ·go_simp
      refine (HX.out u50 (HTT.out _ HB50.out)).mono ?_
      rintro e u51 ⟨v,rfl,ho,hb⟩
      obtain ⟨A,m,cA,hv⟩ : ∃ A m cA,v = .slice A m cA := by obtain ⟨A,cA,hv,-⟩ := ho.rgs;exact ⟨_,_,_,hv⟩
      subst hv
      have HB51 := Hd (HB50.out.trans (hb.mono HB50.out.size));have HS51 := Hd hb.size
      have HX51w := Hd (HX50w.out.below hb HX50w.out.lt)
      have HX51e := Hd (HX50e.out.below hb HX50e.out.lt)
      have HO51 := Hd ho;have HL51 := Hd (show ∀ g,(Value.slice A m cA).ownBlock = some g → u50.heap.size ≤ g ∧ g < u51.heap.size from fun g hg => ⟨own_ge ho g hg,(own_kind ho.1 hg).lt⟩)
      clear ho
      clear hb
      go_wp2_with fail
      refine hK.out _ _ HB51.out (fun hHeld => ?_)
      clear hK K
      try simp only [lay8]
      refine tk8 14 (v := ?_) rfl (Or.inl ⟨by rfl,?_⟩) hHeld ?_
      rotate_left 1
      ·(intro w hSw;(try dsimp only at hSw);obtain ⟨e0,e1,e2⟩ := c8 hSw hq c0 c1 c2;go_simp;(try with_reducible rfl))
      try simp only [lay8]
      refine tk8 15 (v := ?_) rfl (Or.inl ⟨by rfl,?_⟩) hHeld ?_
      rotate_left 1
      ·(intro w hSw;(try dsimp only at hSw);obtain ⟨e0,e1,e2⟩ := c8 hSw hq c0 c1 c2;go_simp;(try with_reducible rfl))
      try simp only [lay8]
      refine tk8 16 (v := ?_) rfl (Or.inl ⟨by rfl,?_⟩) hHeld ?_
      rotate_left 1
      ·(intro w hSw;(try dsimp only at hSw);obtain ⟨e0,e1,e2⟩ := c8 hSw hq c0 c1 c2;go_simp;(try with_reducible rfl))
      try simp only [lay8]
      refine tk8 17 (v := ?_) rfl (Or.inl ⟨by rfl,?_⟩) hHeld ?_
      rotate_left 1
      ·(intro w hSw;(try dsimp only at hSw);obtain ⟨e0,e1,e2⟩ := c8 hSw hq c0 c1 c2;go_simp;(try with_reducible rfl))
      try simp only [lay8]
      refine wpAnyH_ready (rs := [20]) (by kernel_rfl) (by simp) ?_
      refine AllReadyH.cons (o := _) rfl (fun K hK => ?_) ?_
      ·obtain ⟨l0,l1,l2,l3,n0,n1,n2,n3⟩ := HX51e.out.four
       go_simp
       clear l0 l1 l2 l3 n0 n1 n2 n3
       refine hK.out _ _ (show Below w.heap.size w (set4 u51 (u45.heap.size) (.int .i64 kd) (.int .i32 r) (.slice A m cA) (.int .i64 at')) from set4_below HB51.out (by have := HS0.out;have := HS44.out;have := HS45.out;have := HS50.out;have := HS51.out;omega) _ _ _ _) (fun hHeld => ?_)
       clear hK K
       try simp only [lay8]
       obtain ⟨u52,hu52⟩ : ∃ x,(set4 u51 (u45.heap.size) (.int .i64 kd) (.int .i32 r) (.slice A m cA) (.int .i64 at')) = x := ⟨_,rfl⟩
       have hHeld2 : Below w.heap.size w u52 := by rw [← hu52];exact hHeld
       have HB52 := Hd hHeld2;have HS52 := Hd (show u52.heap.size = u51.heap.size by rw [← hu52];exact set4_size _ _ _ _ _ _)
       have HX52w := Hd (show Whole u52 (u0.heap.size) 32 #[.int .i64 0,.int .i64 0,.int .i64 0] by rw [← hu52];exact (set4_other (by have := HS0.out;have := HS44.out;have := HS45.out;have := HS50.out;have := HS51.out;omega) _ _ _ _).trans HX51w.out)
       have HX52e := Hd (show Whole u52 (u45.heap.size) 115 #[.int .i64 kd,.int .i32 r,.slice A m cA,.int .i64 at'] by rw [← hu52];exact set4_whole HX51e.out _ _ _ _)
       have HO52 := Hd (show OwnR u52 _ _ _ by rw [← hu52];exact own_set4 HO51.out (fun g hg => by have := HL51.out g hg;have := HS0.out;have := HS44.out;have := HS45.out;have := HS50.out;have := HS51.out;omega) _ _ _ _)
       unfold set4 at hu52
       rw [hu52]
       clear hHeld hu52
       have hHeld := hHeld2
       clear hHeld2
       refine tk8 21 (v := ?_) rfl (Or.inl ⟨by rfl,?_⟩) hHeld ?_
       rotate_left 1
       ·(intro w hSw;(try dsimp only at hSw);obtain ⟨e0,e1,e2⟩ := c8 hSw hq c0 c1 c2;go_simp;(try with_reducible rfl))
       try simp only [lay8]
       refine wpAnyH_ready (rs := [22]) (by kernel_rfl) (by simp) ?_
       refine AllReadyH.cons (o := _) rfl (fun K hK => ?_) ?_
       ·obtain ⟨l0,l1,l2,n0,n1,n2⟩ := HX52w.out.three
        go_simp
        clear l0 l1 l2 n0 n1 n2
        refine hK.out _ _ (show Below w.heap.size w (set3 u52 (u0.heap.size) (.int .i64 c) (.int .i64 a) (.int .i64 b)) from set3_below HB52.out (by have := HS0.out;have := HS44.out;have := HS45.out;have := HS50.out;have := HS51.out;have := HS52.out;omega) _ _ _) (fun hHeld => ?_)
        clear hK K
        try simp only [lay8]
        obtain ⟨u53,hu53⟩ : ∃ x,(set3 u52 (u0.heap.size) (.int .i64 c) (.int .i64 a) (.int .i64 b)) = x := ⟨_,rfl⟩
        have hHeld2 : Below w.heap.size w u53 := by rw [← hu53];exact hHeld
        have HB53 := Hd hHeld2;have HS53 := Hd (show u53.heap.size = u52.heap.size by rw [← hu53];exact set3_size _ _ _ _ _)
        have HX53w := Hd (show Whole u53 (u0.heap.size) 32 #[.int .i64 c,.int .i64 a,.int .i64 b] by rw [← hu53];exact set3_whole HX52w.out _ _ _)
        have HX53e := Hd (show Whole u53 (u45.heap.size) 115 #[.int .i64 kd,.int .i32 r,.slice A m cA,.int .i64 at'] by rw [← hu53];exact (set3_other (by have := HS0.out;have := HS44.out;have := HS45.out;have := HS50.out;have := HS51.out;have := HS52.out;omega) _ _ _).trans HX52e.out)
        have HO53 := Hd (show OwnR u53 _ _ _ by rw [← hu53];exact own_set3 HO52.out (fun g hg => by have := HL51.out g hg;have := HS0.out;have := HS44.out;have := HS45.out;have := HS50.out;have := HS51.out;have := HS52.out;omega) _ _ _)
        unfold set3 at hu53
        rw [hu53]
        clear hHeld hu53
        have hHeld := hHeld2
        clear hHeld2
        refine wpAnyH_done (by kernel_rfl) ?_ _
        go_wp2_with fail
        go_meet
        exact ⟨u45.heap.size,u0.heap.size,A,m,cA,rfl,rfl,rfl,HX53e.out,HX53w.out,HO53.out.mono (by have := HS0.out;have := HS44.out;have := HS45.out;have := HS50.out;have := HS51.out;have := HS52.out;have := HS53.out;omega),HB53.out,by have := HS0.out;have := HS44.out;have := HS45.out;have := HS50.out;have := HS51.out;have := HS52.out;have := HS53.out;omega,by have := HS0.out;have := HS44.out;have := HS45.out;have := HS50.out;have := HS51.out;have := HS52.out;have := HS53.out;omega⟩
       exact AllReadyH.nil
      exact AllReadyH.nil
     exact AllReadyH.nil
    exact AllReadyH.nil
   refine AllReadyH.cons (o := _) rfl (fun K hK => ?_) ?_
   ·go_simp
    refine hK.out _ _ (HB44.out.alloc HB44.out.size _) (fun hHeld => ?_)
    clear hK K
    try simp only [lay8]
    obtain ⟨u54,hu54⟩ : ∃ x,u44.alloc (.cells #[.int .i64 0,.int .i32 0,.slice none 0 0,.int .i64 0] 115) = x := ⟨_,rfl⟩
    rw [hu54] at hHeld ⊢
    have HB54 := Hd hHeld;have HS54 := Hd (show u54.heap.size = u44.heap.size + 1 by rw [← hu54];simp)
    have HX54e := Hd (show Whole u54 u44.heap.size 115 #[.int .i64 0,.int .i32 0,.slice none 0 0,.int .i64 0] by rw [← hu54];exact heap_alloc_new u44 _)
    have HX54w := Hd (show Whole u54 u0.heap.size _ _ by rw [← hu54];exact Whole.alloc HX44w.out _)
    clear hu54
    refine wpAnyH_ready (rs := [12]) (by kernel_rfl) (by simp) ?_
    refine AllReadyH.cons (o := _) rfl (fun K hK => ?_) ?_
    ·go_simp
     refine (HH.out u54).mono ?_
     rintro e u55 ⟨rfl,hb⟩
     have HB55 := Hd (HB54.out.trans (hb.mono HB54.out.size));have HS55 := Hd hb.size
     have HX55w := Hd (HX54w.out.below hb HX54w.out.lt)
     have HX55e := Hd (HX54e.out.below hb HX54e.out.lt)
     clear hb
     go_wp2_with fail
     refine hK.out _ _ HB55.out (fun hHeld => ?_)
     clear hK K
     try simp only [lay8]
     refine wpAnyH_ready (rs := [13]) (by kernel_rfl) (by simp) ?_
     refine AllReadyH.cons (o := _) rfl (fun K hK => ?_) ?_
     ·go_simp
      refine (HX.out u55 (HTT.out _ HB55.out)).mono ?_
      rintro e u56 ⟨v,rfl,ho,hb⟩
      obtain ⟨A,m,cA,hv⟩ : ∃ A m cA,v = .slice A m cA := by obtain ⟨A,cA,hv,-⟩ := ho.rgs;exact ⟨_,_,_,hv⟩
      subst hv
      have HB56 := Hd (HB55.out.trans (hb.mono HB55.out.size));have HS56 := Hd hb.size
      have HX56w := Hd (HX55w.out.below hb HX55w.out.lt)
      have HX56e := Hd (HX55e.out.below hb HX55e.out.lt)
      have HO56 := Hd ho;have HL56 := Hd (show ∀ g,(Value.slice A m cA).ownBlock = some g → u55.heap.size ≤ g ∧ g < u56.heap.size from fun g hg => ⟨own_ge ho g hg,(own_kind ho.1 hg).lt⟩)
      clear ho
      clear hb
      go_wp2_with fail
      refine hK.out _ _ HB56.out (fun hHeld => ?_)
      clear hK K
      try simp only [lay8]
      refine tk8 14 (v := ?_) rfl (Or.inl ⟨by rfl,?_⟩) hHeld ?_
      rotate_left 1
      ·(intro w hSw;(try dsimp only at hSw);obtain ⟨e0,e1,e2⟩ := c8 hSw hq c0 c1 c2;go_simp;(try with_reducible rfl))
      try simp only [lay8]
      refine tk8 15 (v := ?_) rfl (Or.inl ⟨by rfl,?_⟩) hHeld ?_
      rotate_left 1
      ·(intro w hSw;(try dsimp only at hSw);obtain ⟨e0,e1,e2⟩ := c8 hSw hq c0 c1 c2;go_simp;(try with_reducible rfl))
      try simp only [lay8]
      refine tk8 16 (v := ?_) rfl (Or.inl ⟨by rfl,?_⟩) hHeld ?_
      rotate_left 1
      ·(intro w hSw;(try dsimp only at hSw);obtain ⟨e0,e1,e2⟩ := c8 hSw hq c0 c1 c2;go_simp;(try with_reducible rfl))
      try simp only [lay8]
      refine tk8 17 (v := ?_) rfl (Or.inl ⟨by rfl,?_⟩) hHeld ?_
      rotate_left 1
      ·(intro w hSw;(try dsimp only at hSw);obtain ⟨e0,e1,e2⟩ := c8 hSw hq c0 c1 c2;go_simp;(try with_reducible rfl))
      try simp only [lay8]
      refine wpAnyH_ready (rs := [20]) (by kernel_rfl) (by simp) ?_
      refine AllReadyH.cons (o := _) rfl (fun K hK => ?_) ?_
      ·obtain ⟨l0,l1,l2,l3,n0,n1,n2,n3⟩ := HX56e.out.four
       go_simp
       clear l0 l1 l2 l3 n0 n1 n2 n3
       refine hK.out _ _ (show Below w.heap.size w (set4 u56 (u44.heap.size) (.int .i64 kd) (.int .i32 r) (.slice A m cA) (.int .i64 at')) from set4_below HB56.out (by have := HS0.out;have := HS44.out;have := HS54.out;have := HS55.out;have := HS56.out;omega) _ _ _ _) (fun hHeld => ?_)
       clear hK K
       try simp only [lay8]
       obtain ⟨u57,hu57⟩ : ∃ x,(set4 u56 (u44.heap.size) (.int .i64 kd) (.int .i32 r) (.slice A m cA) (.int .i64 at')) = x := ⟨_,rfl⟩
       have hHeld2 : Below w.heap.size w u57 := by rw [← hu57];exact hHeld
       have HB57 := Hd hHeld2;have HS57 := Hd (show u57.heap.size = u56.heap.size by rw [← hu57];exact set4_size _ _ _ _ _ _)
       have HX57w := Hd (show Whole u57 (u0.heap.size) 32 #[.int .i64 0,.int .i64 0,.int .i64 0] by rw [← hu57];exact (set4_other (by have := HS0.out;have := HS44.out;have := HS54.out;have := HS55.out;have := HS56.out;omega) _ _ _ _).trans HX56w.out)
       have HX57e := Hd (show Whole u57 (u44.heap.size) 115 #[.int .i64 kd,.int .i32 r,.slice A m cA,.int .i64 at'] by rw [← hu57];exact set4_whole HX56e.out _ _ _ _)
       have HO57 := Hd (show OwnR u57 _ _ _ by rw [← hu57];exact own_set4 HO56.out (fun g hg => by have := HL56.out g hg;have := HS0.out;have := HS44.out;have := HS54.out;have := HS55.out;have := HS56.out;omega) _ _ _ _)
       unfold set4 at hu57
       rw [hu57]
       clear hHeld hu57
       have hHeld := hHeld2
       clear hHeld2
       refine tk8 21 (v := ?_) rfl (Or.inl ⟨by rfl,?_⟩) hHeld ?_
       rotate_left 1
       ·(intro w hSw;(try dsimp only at hSw);obtain ⟨e0,e1,e2⟩ := c8 hSw hq c0 c1 c2;go_simp;(try with_reducible rfl))
       try simp only [lay8]
       refine wpAnyH_ready (rs := [22]) (by kernel_rfl) (by simp) ?_
       refine AllReadyH.cons (o := _) rfl (fun K hK => ?_) ?_
       ·obtain ⟨l0,l1,l2,n0,n1,n2⟩ := HX57w.out.three
        go_simp
        clear l0 l1 l2 n0 n1 n2
        refine hK.out _ _ (show Below w.heap.size w (set3 u57 (u0.heap.size) (.int .i64 c) (.int .i64 a) (.int .i64 b)) from set3_below HB57.out (by have := HS0.out;have := HS44.out;have := HS54.out;have := HS55.out;have := HS56.out;have := HS57.out;omega) _ _ _) (fun hHeld => ?_)
        clear hK K
        try simp only [lay8]
        obtain ⟨u58,hu58⟩ : ∃ x,(set3 u57 (u0.heap.size) (.int .i64 c) (.int .i64 a) (.int .i64 b)) = x := ⟨_,rfl⟩
        have hHeld2 : Below w.heap.size w u58 := by rw [← hu58];exact hHeld
        have HB58 := Hd hHeld2;have HS58 := Hd (show u58.heap.size = u57.heap.size by rw [← hu58];exact set3_size _ _ _ _ _)
        have HX58w := Hd (show Whole u58 (u0.heap.size) 32 #[.int .i64 c,.int .i64 a,.int .i64 b] by rw [← hu58];exact set3_whole HX57w.out _ _ _)
        have HX58e := Hd (show Whole u58 (u44.heap.size) 115 #[.int .i64 kd,.int .i32 r,.slice A m cA,.int .i64 at'] by rw [← hu58];exact (set3_other (by have := HS0.out;have := HS44.out;have := HS54.out;have := HS55.out;have := HS56.out;have := HS57.out;omega) _ _ _).trans HX57e.out)
        have HO58 := Hd (show OwnR u58 _ _ _ by rw [← hu58];exact own_set3 HO57.out (fun g hg => by have := HL56.out g hg;have := HS0.out;have := HS44.out;have := HS54.out;have := HS55.out;have := HS56.out;have := HS57.out;omega) _ _ _)
        unfold set3 at hu58
        rw [hu58]
        clear hHeld hu58
        have hHeld := hHeld2
        clear hHeld2
        refine wpAnyH_done (by kernel_rfl) ?_ _
        go_wp2_with fail
        go_meet
        exact ⟨u44.heap.size,u0.heap.size,A,m,cA,rfl,rfl,rfl,HX58e.out,HX58w.out,HO58.out.mono (by have := HS0.out;have := HS44.out;have := HS54.out;have := HS55.out;have := HS56.out;have := HS57.out;have := HS58.out;omega),HB58.out,by have := HS0.out;have := HS44.out;have := HS54.out;have := HS55.out;have := HS56.out;have := HS57.out;have := HS58.out;omega,by have := HS0.out;have := HS44.out;have := HS54.out;have := HS55.out;have := HS56.out;have := HS57.out;have := HS58.out;omega⟩
       exact AllReadyH.nil
      exact AllReadyH.nil
     exact AllReadyH.nil
    exact AllReadyH.nil
   exact AllReadyH.nil
  exact AllReadyH.nil
 case rest =>
  obtain ⟨ea,bx,A,m,cA,rfl,rfl,rfl,hE,hW,ho,hb,hea,hbx⟩ := hcut
  have HK := Hd (Tk.of_below HHH.out.rd hb);have HE := Hd hE;have HO := Hd ho;have HEA := Hd hea
  obtain ⟨l0,l1,l2,n0,n1,n2⟩ := hW.three
  clear hE hW ho hb c0 c1 c2 hea hbx n0 n1 n2
  rcases HREL.out with ⟨till,hn,h0,rfl,rfl⟩ | ⟨n',hn,rfl,rfl,rfl,rfl,h1,h2,h3,h4,h5,h6,h7⟩
  ·have HRR : Hid (R = .bad c j till) := Hd (by have := HR.out;rw [hn] at this;exact this.symm)
   have HC0 := Hd h0
   clear hn HREL HX h0
   go_wp2_with fail
   refine (pypass_bad q n c j till (by have := HC0.out;omega) wc).mono ?_
   rintro e w2 ⟨he,hb2⟩
   unfold thrown at he
   subst he
   have HP : Hid (AtomsPost B q s nv R w (thrown (.iface 32 (wrongV c j till))) w2) := Hd (by rw [HRR.out];exact ⟨.inl rfl,Steps.of_grown (HK.out.below hb2).1⟩)
   clear hb2
   go_wp2
   exact ⟨rfl,HP.out⟩
  ·have hRR : R = (if kd = 1 then .ok [atomY r (flagY f 1)] n' f ns else if kd = 2 then .ok [setY (if flagY f 1 = true then setB (foldB L) else L)] n' f ns else
     if kd = 3 then .ok [atY at'] n' f ns else .ok (quotedY s (flagY f 1) s.size n').1 (quotedY s (flagY f 1) s.size n').2 f ns) := by
    have := HR.out
    rw [hn] at this
    exact this.symm
   have HRR0 := Hd hRR
   clear hRR
   have H1 := Hd h1;have H2 := Hd h2;have H3 := Hd h3;have H4 := Hd h4;have H5 := Hd h5;have H7 := Hd h7
   clear hn HREL HX HR h1 h2 h3 h4 h5 h7
   go_wp2_with fail
   refine (pypass_ok q f s j n' nv wc HK.out.2).mono ?_
   rintro e w2 ⟨rfl,ht⟩
   have HK2 := Hd (HK.out.trans ht)
   have hne : ∀ k,w.heap.size ≤ k → k ≠ q := fun k hk => by have := hq;omega
   have HE2 := Hd (ht.whole HE.out (hne _ HEA.out))
   have HO2 := Hd (show OwnR w2 w.heap.size (.slice A m cA) L from ⟨own_other HO.out.1 fun b hb => ht.1.block b (own_kind HO.out.1 hb).lt (fun e => hne b (own_ge HO.out b hb) (Option.some.inj e)),HO.out.2⟩)
   have HST := Hd (HHH.out.took (HK.out.trans ht));have HWT := Hd (Went.of_took HHH.out (HK.out.trans ht))
   have HT2 := Hd (HT.out.next ((HK.out.trans ht).belowB hB hqB));have HB2 := Hd (Nat.le_trans hB (HK.out.trans ht).size)
   clear ht l0 l1 l2 hne
   obtain ⟨k0,k1,k2,k3,m0,m1,m2,m3⟩ := HE2.out.four
   obtain ⟨c0,c1,c2,c3⟩ := HK2.out.2.cells
   clear m0 m1 m2 m3 c1 c2 c3
   have hcase : kd = 4 ∨ kd = 2 ∨ kd = 3 ∨ kd = 1 := by omega
   clear h6
   rcases hcase with rfl | rfl | rfl | rfl
   ·have HRR := HRR0
    have HQQ := Hd (pyquoted_any B q f s n' nv ns w2 HS.out (by have := H1.out;omega) H2.out HST.out HT2.out HB2.out hqB)
    go_wp2_with fail
    refine HQQ.out.mono ?_
    intro e w3 hp
    have HP : Hid (AtomsPost B q s nv R w e w3) := Hd (by rw [show R = .ok (quotedY s (flagY f 1) s.size n').1 (quotedY s (flagY f 1) s.size n').2 f ns from HRR.out];exact AtomsPost.from HWT.out hp)
    obtain ⟨v,nv',rfl,hk,-⟩ := hp
    obtain ⟨A3,c3,hv,-⟩ := hk
    subst hv
    clear HQQ
    obtain ⟨n3,hn3⟩ : ∃ x,(quotedY s (flagY f 1) s.size n').1.length = x := ⟨_,rfl⟩
    rw [hn3] at HP ⊢
    clear hn3
    go_wp2_with fail
    go_ret
    exact HP.out
   ·have HRR : Hid (R = .ok [setY (if flagY f 1 = true then setB (foldB L) else L)] n' f ns) := Hd HRR0.out
    obtain ⟨Z,hZ⟩ : ∃ Z,(if flagY f 1 = true then setB (foldB L) else L) = Z := ⟨_,rfl⟩
    have HNM := Hd (fun W (hb : Below w2.heap.size w2 W) => pynamed_any f (.slice A m cA) L W (HO2.out.rgs.below hb) H5.out ((HT2.out.below HB2.out hb).now.1.2) w.heap.size (Nat.le_trans HK2.out.size hb.size) (fun b hb' => ⟨own_ge HO2.out b hb',Nat.lt_of_lt_of_le (own_kind HO2.out.1 hb').lt hb.size⟩))
    rw [hZ] at HNM HRR
    clear hZ HRR0
    go_wp2_with fail
    go_region_with (go_at_call 70;refine (HNM.out _ ((Below.refl _ _).drew)).mono ?_;rintro e w3 ⟨v3,rfl,ht3,hb3⟩;obtain ⟨kv,sv,rfl,⟨y1,y2,y3,rfl⟩,⟨y4,y5,y6,rfl⟩⟩ := ht3.ten)
    all_goals
     have HP := Hd (atoms_one (HWT.out.below hb3.of_drew) (fresh_fr HHH.out ht3))
     clear ht3 hb3 HNM
     go_wp2_with fail
     go_ret
     rw [HRR.out]
     exact HP.out
   ·have HRR : Hid (R = .ok [atY at'] n' f ns) := Hd HRR0.out
    have HP := Hd (atoms_one (w1 := w2) HWT.out (treF_none (fun b => w.heap.size ≤ b ∧ Fr q nv b) w2 ⟨5,0,[],at',0,⟨#[]⟩,0,0,false⟩ rfl (fld_ok (by decide) (by unfold I32;decide) (by have := H7.out rfl;omega) (by decide) (by decide) (by decide) (Nat.zero_le _) (Nat.zero_le _))))
    go_wp2_with fail
    go_ret
    rw [HRR.out]
    exact HP.out
   ·have HRR : Hid (R = .ok [atomY r (flagY f 1)] n' f ns) := Hd HRR0.out
    have HIT := Hd (fun W (hb : Below w2.heap.size w2 W) => pyitself_any f r (by unfold I32;have := H3.out;have := H4.out;omega) W ((HT2.out.below HB2.out hb).now.1.2))
    go_wp2_with fail
    go_region_with (go_at_call 19;refine (HIT.out _ ((Below.refl _ _).drew)).mono ?_;rintro e w3 ⟨v3,rfl,ht3,hb3⟩;obtain ⟨kv,sv,rfl,⟨y1,y2,y3,rfl⟩,⟨y4,y5,y6,rfl⟩⟩ := ht3.ten)
    all_goals
     have HP := Hd (atoms_one (HWT.out.below hb3.of_drew) (fresh_fr HHH.out (ht3.same (fun _ _ _ => rfl) fun b hb _ => Nat.le_trans HK2.out.size hb)))
     clear ht3 hb3 HIT
     go_wp2_with fail
     go_ret
     rw [HRR.out]
     exact HP.out
def PartsAt (B q : Nat) (s : ByteArray) (n i : Nat) : Prop := ∀ (f : Int) (ns : List (List UInt8)) (nv : Value) (w : World),FlagsIn f → ns.length ≤ i → SrSt w B q f s i nv ns → TabB B w → B ≤ w.heap.size → B ≤ q →
 Calls Tryz.prog 15 #[.pointer (some ⟨q,0,none⟩)] w (TreePost B q s nv altY (partsY s n i f ns []) w)
def withinY (s : ByteArray) (n k : Nat) (f g : Int) (ns : List (List UInt8)) : PR :=
 match partsY s n k g ns [] with
 | .bad c a b => .bad c a b
 | .ok l i2 _ ns2 => if headI (leftB s i2) = 41 then .ok l (i2 + 1) f ns2 else .bad 84 0 s.size
theorem TreePost.ten {B q : Nat} {s : ByteArray} {nv : Value} {mk : List Tr → Tr} {l : List Tr} {i : Nat} {f : Int} {ns : List (List UInt8)} {w : World} {e : Ending} {w' : World} (h : TreePost B q s nv mk (.ok l i f ns) w e w') :
  ∃ y1 y2 y3 y4 y5 y6 nv',e = .returned (.agg #[.int .i64 (mk l).fld.op,.slice y1 y2 y3,.int .i32 (mk l).fld.rune,.slice y4 y5 y6,.int .i64 (mk l).fld.at',.int .i64 (mk l).fld.cap,.string (mk l).fld.name,.int .i64 (mk l).fld.min,.int .i64 (mk l).fld.max,.bool (mk l).fld.lazy]) ∧
   TreF (fun b => w.heap.size ≤ b ∧ Fr q nv' b) w' (mk l) (.agg #[.int .i64 (mk l).fld.op,.slice y1 y2 y3,.int .i32 (mk l).fld.rune,.slice y4 y5 y6,.int .i64 (mk l).fld.at',.int .i64 (mk l).fld.cap,.string (mk l).fld.name,.int .i64 (mk l).fld.min,.int .i64 (mk l).fld.max,.bool (mk l).fld.lazy]) ∧ Went B q s nv w w' f i ns nv' := by
 obtain ⟨v,nv',he,ht,hg⟩ := h
 obtain ⟨kv,sv,rfl,⟨y1,y2,y3,rfl⟩,⟨y4,y5,y6,rfl⟩⟩ := ht.ten
 exact ⟨y1,y2,y3,y4,y5,y6,nv',he,ht,hg⟩
theorem Went.setTen {B q : Nat} {s : ByteArray} {nv nv1 : Value} {w w1 : World} {f : Int} {j : Nat} {ns : List (List UInt8)} (h : Went B q s nv w w1 f j ns nv1) {b : Nat} (hb : w.heap.size ≤ b) (hf : Fr q nv1 b) (x0 x1 x2 x3 x4 x5 x6 x7 x8 x9 : Value) : Went B q s nv w (set10 w1 b x0 x1 x2 x3 x4 x5 x6 x7 x8 x9) f j ns nv1 := by
 have hs := set10_same w1 b x0 x1 x2 x3 x4 x5 x6 x7 x8 x9
 have hz := set10_size w1 b x0 x1 x2 x3 x4 x5 x6 x7 x8 x9
 have hB := set10_below (Below.refl b w1) (Nat.le_refl b) x0 x1 x2 x3 x4 x5 x6 x7 x8 x9
 have ho := hB.os;have hp := hB.tape;have hu := hB.output
 clear hB
 generalize set10 w1 b x0 x1 x2 x3 x4 x5 x6 x7 x8 x9 = w3 at hs hz ho hp hu ⊢
 refine ⟨⟨?_,?_⟩,⟨ho.trans h.steps.os,hp.trans h.steps.tape,hu.trans h.steps.output,by rw [hz];exact h.steps.size,fun k hk hq hn => (hs k (show k ≠ b by omega) (Nat.lt_of_lt_of_le hk h.steps.size)).trans (h.steps.block k hk hq hn)⟩,h.spot⟩
 ·have e := hs q (fun e => hf.1 e.symm) h.st.rd.lt
  unfold SrIn Whole
  rw [e]
  exact h.st.rd
 ·exact own_other h.st.own fun k hk => hs k (fun e => hf.2 (by rw [← e];exact hk)) (own_kind h.st.own hk).lt
theorem pywithin_any (B q : Nat) (f g : Int) (s : ByteArray) (n k : Nat) (nv : Value) (ns : List (List UInt8)) (w : World) (hs : s.size ≤ 1024) (hk : k ≤ s.size) (hn : ns.length ≤ k) (hg : FlagsIn g) (hP : PartsAt B q s n k) (h : SrSt w B q f s k nv ns) (hT : TabB B w) (hB : B ≤ w.heap.size) (hqB : B ≤ q) :
  Calls Tryz.prog 61 #[.pointer (some ⟨q,0,none⟩),.agg #[.int .i64 g]] w (TreePost B q s nv altY (withinY s n k f g ns) w) := by
 obtain ⟨w1,hw1⟩ : ∃ w1,(w.alloc (.cells #[.int .i64 g] 38)).alloc (.cells #[.int .i64 0,.slice none 0 0,.int .i32 0,.slice none 0 0,.int .i64 0,.int .i64 0,.string ⟨#[]⟩,.int .i64 0,.int .i64 0,.bool false] 29) = w1 := ⟨_,rfl⟩
 obtain ⟨k0,hE1,hb1,hs1⟩ := box_flags w g #[.int .i64 0,.slice none 0 0,.int .i32 0,.slice none 0 0,.int .i64 0,.int .i64 0,.string ⟨#[]⟩,.int .i64 0,.int .i64 0,.bool false]
 rw [hw1] at k0 hE1 hb1 hs1
 have HW1 := Hd hw1;have HE1 := Hd hE1;have HB1 := Hd hb1;have HS1 := Hd hs1;have HK1 := Hd (Tk.of_below h.rd hb1);have HH := Hd h;have HT := Hd hT;have HG := Hd hg;have HP := Hd hP;have HN := Hd hn;have HKS := Hd hk;have HS := Hd hs
 have hq := h.rd.lt
 have hF1 : Whole w1 w.heap.size 38 #[.int .i64 g] := by
  rw [← hw1]
  exact Whole.alloc (heap_alloc_new w _) _
 have HF1 := Hd hF1
 clear hw1 hE1 hb1 hs1 h hT hg hP hn k0 hF1 hk hs
 obtain ⟨R,hR⟩ : ∃ R,withinY s n k f g ns = R := ⟨_,rfl⟩
 rw [hR]
 have HR := Hd hR
 clear hR
 obtain ⟨c0,c1,c2,c3⟩ := HK1.out.2.cells
 clear c1 c2 c3
 go_enter Tryz.func61,Tryz.ntmps61
 go_upto_region 1 with (fail)
 rw [HW1.out]
 obtain ⟨w2,hw2⟩ : ∃ w2,w1.alloc (.cells #[.int .i64 f] 38) = w2 := ⟨_,rfl⟩
 have hb2 : Below w1.heap.size w1 w2 := by rw [← hw2];exact (Below.refl _ _).alloc (Nat.le_refl _) _
 have hO2 : Whole w2 w1.heap.size 38 #[.int .i64 f] := by rw [← hw2];exact heap_alloc_new w1 _
 have HW2 := Hd hw2;have HO2 := Hd hO2;have HE2 := Hd (HE1.out.below hb2 HE1.out.lt);have HF2 := Hd (HF1.out.below hb2 HF1.out.lt);have HK2 := Hd (HK1.out.below hb2);have HS2 := Hd (show w1.heap.size < w2.heap.size from hO2.lt)
 clear hw2 hb2 hO2
 go_upto_region 2 with (fail)
 rw [HW2.out]
 clear c0
 obtain ⟨c0,c1,c2,c3⟩ := HK2.out.2.cells
 obtain ⟨f0,f2,f3⟩ := HK2.out.2.frees
 have g0 : w2.cell? ⟨w.heap.size,0,none⟩ = some (.int .i64 g) := HF2.out.cell 0
 clear c1 c2 c3 f2 f3
 obtain ⟨w3,hw3⟩ : ∃ w3,w2.setCell ⟨q,0,none⟩ (.int .i64 g) = w3 := ⟨_,rfl⟩
 have hK3 : Tk q g s k nv w w3 := by rw [← hw3];exact HK2.out.putF g
 have HW3 := Hd hw3;have HK3 := Hd hK3
 have HE3 := Hd (show Whole w3 (w.heap.size + 1) 29 #[.int .i64 0,.slice none 0 0,.int .i32 0,.slice none 0 0,.int .i64 0,.int .i64 0,.string ⟨#[]⟩,.int .i64 0,.int .i64 0,.bool false] by rw [← hw3];exact HE2.out.far (by have := hq;omega) 0 _)
 have HO3 := Hd (show Whole w3 w1.heap.size 38 #[.int .i64 f] by rw [← hw3];exact HO2.out.far (by have := hq;have := HS1.out;omega) 0 _)
 have HST3 := Hd (HH.out.took hK3);have HT3 := Hd (HT.out.next (hK3.belowB hB hqB));have HWT3 := Hd (Went.of_took HH.out hK3)
 have HS3 := Hd (show w1.heap.size < w3.heap.size from HO3.out.lt)
 clear hw3 hK3
 go_upto_region 3 with (fail)
 rw [HW3.out]
 clear c0 f0 g0
 have HPP := Hd (HP.out g ns nv w3 HG.out HN.out HST3.out HT3.out (by have := HS3.out;have := HS1.out;omega) hqB)
 obtain ⟨Q,hQ⟩ : ∃ Q,partsY s n k g ns [] = Q := ⟨_,rfl⟩
 have hmore := (read_more s n).1 k g ns [] HKS.out HG.out
 unfold withinY at HR
 rw [hQ] at HPP HR hmore
 clear hQ
 go_wp2_with fail
 refine HPP.out.mono ?_
 intro e w4 hp
 cases Q with
 | bad c a b =>
  have HRR : Hid (R = .bad c a b) := Hd HR.out.symm
  have hp2 := TreePost.from HWT3.out hp
  obtain ⟨he,hst⟩ := hp2
  have HX := Hd hst
  clear hp hst hmore
  rcases he with he | ⟨ha,hb,he⟩
  ·unfold thrown at he
   subst he
   go_wp2
   refine ⟨rfl,?_⟩
   rw [HRR.out]
   exact ⟨.inl rfl,HX.out⟩
  ·have HAB := Hd (And.intro ha hb)
   clear ha hb
   unfold thrown at he
   subst he
   go_wp2
   refine ⟨rfl,?_⟩
   rw [HRR.out]
   exact ⟨.inr ⟨HAB.out.1,HAB.out.2,rfl⟩,HX.out⟩
 | ok l i2 f2 ns2 =>
  obtain ⟨m1,m2,m3,m4,m5,m6⟩ := hmore
  obtain ⟨y1,y2,y3,y4,y5,y6,nv4,rfl,ht4,hw4⟩ := TreePost.ten hp
  have HT4 := Hd ht4;have HW4 := Hd (HWT3.out.trans hw4);have HI2 := Hd m2
  have HF4 := Hd (fun b (t : TypeId) (cs : Array Value) (hb : Whole w3 b t cs) (h1 : t ≠ 41) (h2 : t ≠ 9) => hw4.steps.whole hb (HST3.out.fr (Whole.kind hb) h1 h2))
  have HE4 := Hd (HF4.out _ _ _ HE3.out (by decide) (by decide));have HO4 := Hd (HF4.out _ _ _ HO3.out (by decide) (by decide))
  have HS4 := Hd hw4.steps.size
  clear hp ht4 hw4 m1 m2 m3 m4 m5 m6 HF4
  obtain ⟨t,ht⟩ : ∃ t,altY l = t := ⟨_,rfl⟩
  rw [ht] at HT4 ⊢
  have HTT := Hd ht
  clear ht
  obtain ⟨w5,hw5⟩ : ∃ w5,w4.alloc (.cells #[.int .i64 t.fld.op,.slice y1 y2 y3,.int .i32 t.fld.rune,.slice y4 y5 y6,.int .i64 t.fld.at',.int .i64 t.fld.cap,.string t.fld.name,.int .i64 t.fld.min,.int .i64 t.fld.max,.bool t.fld.lazy] 29) = w5 := ⟨_,rfl⟩
  obtain ⟨hX5,hb5,hs5⟩ := box_tree w4 #[.int .i64 t.fld.op,.slice y1 y2 y3,.int .i32 t.fld.rune,.slice y4 y5 y6,.int .i64 t.fld.at',.int .i64 t.fld.cap,.string t.fld.name,.int .i64 t.fld.min,.int .i64 t.fld.max,.bool t.fld.lazy]
  rw [hw5] at hX5 hb5 hs5
  have HW5 := Hd hw5;have HX5 := Hd hX5;have HWT5 := Hd (HW4.out.below hb5);have HE5 := Hd (HE4.out.below hb5 HE4.out.lt);have HO5 := Hd (HO4.out.below hb5 HO4.out.lt);have HT5 := Hd (HT4.out.same (same_below hb5) fun _ h _ => h)
  have HS5 := Hd hs5
  clear hw5 hX5 hb5 hs5
  go_upto_region 4 with (fail)
  rw [HW5.out]
  have HTAKE := Hd (pytake_any q f2 s ⟨#[41]⟩ i2 nv4 w5 (by have := HS.out;omega) (by show 1 ≤ 100;decide) HI2.out HWT5.out.st.rd)
  rw [show (⟨#[41]⟩ : ByteArray).toList = [41] from by rw [Lib.toList_data],pre_one] at HTAKE
  by_cases h41 : headI (leftB s i2) = ((41 : UInt8).toNat : Int)
  ·have HRR : Hid (R = .ok l (i2 + 1) f ns2) := Hd (HR.out.symm.trans (if_pos h41))
   rw [decide_eq_true h41] at HTAKE
   clear h41 HR
   go_wp2_with fail
   refine HTAKE.out.mono ?_
   rintro e w6 ⟨rfl,ht6⟩
   have hq6 : ∀ b (t : TypeId) (cs : Array Value),Whole w5 b t cs → t ≠ 41 → Whole w6 b t cs := fun b t cs hb h1 => ht6.whole hb ((Whole.kind hb).ne HWT5.out.st.kind h1)
   have HWT6 := Hd (HWT5.out.took ht6);have HE6 := Hd (hq6 _ _ _ HE5.out (by decide));have HO6 := Hd (hq6 _ _ _ HO5.out (by decide));have HX6 := Hd (hq6 _ _ _ HX5.out (by decide))
   have HT6 := Hd (HT5.out.same (fun b hb hl => ht6.1.block b hl (fun e => hb.2.1 (Option.some.inj e))) fun _ h _ => h)
   clear ht6 hq6
   obtain ⟨c0,c1,c2,c3⟩ := HWT6.out.st.rd.cells
   obtain ⟨f0,f2',f3⟩ := HWT6.out.st.rd.frees
   have g0 : w6.cell? ⟨w1.heap.size,0,none⟩ = some (.int .i64 f) := HO6.out.cell 0
   clear c1 c2 c3 f2' f3
   obtain ⟨w7,hw7⟩ : ∃ w7,w6.setCell ⟨q,0,none⟩ (.int .i64 f) = w7 := ⟨_,rfl⟩
   have hne1 := HWT6.out.st.fr (Whole.kind HE6.out) (by decide) (by decide)
   have hne2 := HWT6.out.st.fr (Whole.kind HX6.out) (by decide) (by decide)
   have hK7 : Tk q f s (i2 + 1) nv4 w6 w7 := by rw [← hw7];exact (Tk.refl HWT6.out.st.rd).putF f
   have HWT7 := Hd (HWT6.out.took hK7)
   have HE7 := Hd (hK7.whole HE6.out hne1.1);have HX7 := Hd (hK7.whole HX6.out hne2.1)
   have HT7 := Hd (HT6.out.same (fun b hb hl => hK7.1.block b hl (fun e => hb.2.1 (Option.some.inj e))) fun _ h _ => h)
   have HNE := Hd hne1
   have HW7 := Hd hw7
   clear hw7 hne1 hne2 hK7
   go_upto_region 7 with (fail)
   rw [HW7.out]
   clear c0 f0 g0
   obtain ⟨b0,b1,b2,b3,b4,b5,b6,b7,b8,b9⟩ := HX7.out.ten
   obtain ⟨r0,r1,r2,r3,r4,r5,r6,r7,r8,r9⟩ := HE7.out.ten
   obtain ⟨z0,z1,z2,z3,z4,z5,z6,z7,z8,z9⟩ := whole_free HE7.out
   go_wp2_with fail
   refine treeV_ret Tryz.results61 (w.heap.size + 1) rfl HE7.out ?_
   rw [HRR.out]
   refine ⟨_,nv4,rfl,?_,HWT7.out.setTen (Nat.le_succ _) HNE.out _ _ _ _ _ _ _ _ _ _⟩
   rw [HTT.out]
   exact (treF_set10 HT7.out (fun k hk => by have := hk.1;have := HS3.out;have := HS1.out;omega) _ _ _ _ _ _ _ _ _ _).same (fun _ _ _ => rfl) fun k hk _ => ⟨by have := hk.1;have := HS3.out;have := HS1.out;omega,hk.2⟩
  ·have HRR : Hid (R = .bad 84 0 s.size) := Hd (HR.out.symm.trans (if_neg h41))
   rw [decide_eq_false h41] at HTAKE
   clear h41 HR
   go_wp2_with fail
   refine HTAKE.out.mono ?_
   rintro e w6 ⟨rfl,ht6⟩
   have HX := Hd (HWT5.out.took ht6).steps
   clear ht6
   go_wp2
   refine ⟨rfl,?_⟩
   rw [HRR.out]
   exact ⟨.inr ⟨rfl,rfl,rfl⟩,HX.out⟩
theorem append_strs {w : World} {ops : Array Oper} {rest : List Oper} {o : Oper} {a : Act} {Q : Exit → Act → World → Prop} (hgd : o.guard = none) (x y : Operand)
  (ho : o.op = .call { callee := .builtin .append,args := #[x,y],argTypes := #[39,39] })
  (base : Nat) (v : Value) (l : List ByteArray) (hs : a.eval x = v) (hown : OwnS w base v l)
  (g : Nat) (nm : ByteArray) (hx : a.eval y = .slice (some ⟨g,0,none⟩) 1 1) (ht : w.cell? ⟨g,0,none⟩ = some (.string nm)) (hn : l.length ≤ 1099511627776) (hbase : base ≤ w.heap.size)
  (h : ∀ v' w',OwnS w' base v' (l ++ [nm]) → w.grownBy w' v.ownBlock → (v'.ownBlock = v.ownBlock ∨ v'.ownBlock = some w.heap.size) → wpList Tryz.prog ops Q rest (a.put o.dst v') w') : wpList Tryz.prog ops Q (o :: rest) a w := by
 obtain ⟨i,hi,hz,hsize,hby⟩ := info_parts info_str
 refine wpList_append_own_at w hgd x y 39 ho base 9 i (.string ⟨#[]⟩) 1 16 Tryz.underlying39 hi hz hsize hby rfl (by omega) v l.length (litsS l) hs hown ⟨g,0,none⟩ 1 1 [.string nm] hx rfl ?_ (fun u hu => by simp at hu;subst hu;rfl) (by unfold maxLen;omega) (by omega) hbase (fun v' w' g1 g2 _ g3 => h v' w' ?_ g2 g3)
 ·intro j z hj
  match j,hj with
  | 0,hj =>
   simp at hj
   subst hj
   rw [show (⟨g,0,none⟩ : Addr).add 0 = ⟨g,0,none⟩ by simp [Addr.add]]
   exact ht
  | j + 1,hj => simp at hj
 ·unfold OwnS
  rw [litsS_append,List.length_append]
  exact g1
theorem names_len (ns : List (List UInt8)) : (namesY ns).length = ns.length := by unfold namesY;rw [List.length_map]
theorem names_snoc8 (ns : List (List UInt8)) (nm : List UInt8) : namesY (ns ++ [nm]) = namesY ns ++ [⟨nm.toArray⟩] := by simp [namesY]
theorem kdsF_one {F : Nat → Prop} {w : World} {t : Tr} {cs : Array Value} (h : TreF F w t (.agg cs)) (hF : F w.heap.size) : KdsF F (w.alloc (.cells cs 29)) [t] (.slice (some ⟨w.heap.size,0,none⟩) 1 1) := by
 obtain ⟨A,c,k1,k2,k3,k4,k5,k6⟩ := kds_cs h (G := F) fun _ hb _ => hb
 refine ⟨A,c,k1,k2,k3,k4,k5,k6.imp id ?_⟩
 rintro ⟨b,o,e,hc⟩
 refine ⟨b,o,e,?_,hc⟩
 rw [e] at k1
 injection k1 with k1
 injection k1 with k1
 injection k1 with k1
 rw [← k1]
 exact hF
theorem pygroup_any (B q : Nat) (f : Int) (s : ByteArray) (n k : Nat) (nm : List UInt8) (nv : Value) (ns : List (List UInt8)) (w : World) (hs : s.size ≤ 1024) (hk : k ≤ s.size) (hn : ns.length < k) (hnm : nm.length ≤ 1024) (hf : FlagsIn f) (hP : PartsAt B q s n k) (h : SrSt w B q f s k nv ns) (hT : TabB B w) (hB : B ≤ w.heap.size) (hqB : B ≤ q) :
  Calls Tryz.prog 58 #[.pointer (some ⟨q,0,none⟩),.string ⟨nm.toArray⟩] w (TreePost B q s nv (fun l => capY (ns.length + 1) nm (altY l)) (withinY s n k f f (ns ++ [nm])) w) := by
 obtain ⟨w1,hw1⟩ : ∃ w1,w.alloc (.cells #[.int .i64 0,.slice none 0 0,.int .i32 0,.slice none 0 0,.int .i64 0,.int .i64 0,.string ⟨#[]⟩,.int .i64 0,.int .i64 0,.bool false] 29) = w1 := ⟨_,rfl⟩
 obtain ⟨hE1,hb1,hs1⟩ := box_tree w #[.int .i64 0,.slice none 0 0,.int .i32 0,.slice none 0 0,.int .i64 0,.int .i64 0,.string ⟨#[]⟩,.int .i64 0,.int .i64 0,.bool false]
 rw [hw1] at hE1 hb1 hs1
 have HW1 := Hd hw1;have HE1 := Hd hE1;have HS1 := Hd hs1;have HK1 := Hd (Tk.of_below h.rd hb1);have HH := Hd h;have HT := Hd hT;have HG := Hd hf;have HP := Hd hP;have HN := Hd hn;have HKS := Hd hk;have HS := Hd hs;have HNM := Hd hnm
 have hq := h.rd.lt
 have HST1 := Hd (h.took (Tk.of_below h.rd hb1))
 clear hw1 hE1 hb1 hs1 h hT hf hP hn hk hs hnm
 obtain ⟨R,hR⟩ : ∃ R,withinY s n k f f (ns ++ [nm]) = R := ⟨_,rfl⟩
 have HWI := Hd (fun (nv : Value) (w : World) (h : SrSt w B q f s k nv (ns ++ [nm])) (hT : TabB B w) (hB : B ≤ w.heap.size) => pywithin_any B q f f s n k nv (ns ++ [nm]) w HS.out HKS.out (by have := HN.out;rw [List.length_append,List.length_singleton];omega) HG.out HP.out h hT hB hqB)
 rw [hR] at HWI ⊢
 clear hR HP
 obtain ⟨N,hN⟩ : ∃ N : ByteArray,(⟨nm.toArray⟩ : ByteArray) = N := ⟨_,rfl⟩
 have HNN := Hd hN
 rw [hN]
 clear hN
 obtain ⟨c0,c1,c2,c3⟩ := HK1.out.2.cells
 obtain ⟨a3,c3',hnv,-⟩ := HST1.out.own.srs
 rw [names_len] at hnv
 obtain ⟨n3,hn3⟩ : ∃ n,ns.length = n := ⟨_,rfl⟩
 rw [hn3] at hnv
 have HN3 := Hd hn3
 subst hnv
 clear c0 c1 c2 hn3
 go_enter Tryz.func58,Tryz.ntmps58
 go_upto_region 1 with (fail)
 rw [HW1.out]
 obtain ⟨wa,hwa⟩ : ∃ x,w1.alloc (.cells #[.string N] 9) = x := ⟨_,rfl⟩
 have hba : Below w1.heap.size w1 wa := by rw [← hwa];exact (Below.refl _ _).alloc (Nat.le_refl _) _
 have hca : wa.cell? ⟨w1.heap.size,0,none⟩ = some (.string N) := by rw [← hwa];exact (show Whole _ w1.heap.size 9 #[.string N] from heap_alloc_new w1 _).cell 0
 have HBA := Hd hba;have HCA := Hd hca;have HSTA := Hd (HST1.out.took (Tk.of_below HST1.out.rd hba));have HEA := Hd (HE1.out.below hba HE1.out.lt)
 clear hba hca
 go_upto_region 2 with (at_builtin;refine append_strs rfl (.tmp 10) (.tmp 12) rfl B _ (namesY ns) rfl HSTA.out.own w1.heap.size N rfl HCA.out (by rw [names_len];have := HN.out;have := HKS.out;have := HS.out;omega) (by have := HBA.out.size;have := HS1.out;omega) ?_;intro v2 w2 ho2 hg2 hat2;(obtain ⟨y1,y3,rfl⟩ : ∃ y1 y3,v2 = .slice y1 (n3 + 1) y3 := (by obtain ⟨y1,y3,hv,-⟩ := ho2.srs;rw [List.length_append,names_len,HN3.out] at hv;exact ⟨_,_,hv⟩));have hR2 : SrIn w2 q f s k (.slice a3 n3 c3') := Whole.grown HSTA.out.rd hg2 (fun e => HSTA.out.apart e);have HO2 := Hd ho2;have HG2 := Hd hg2;have HAT2 := Hd hat2;have HR2 := Hd hR2;obtain ⟨d0,d1,d2,d3⟩ := hR2.cells;obtain ⟨f0,f2,f3⟩ := hR2.frees;clear ho2 hg2 hat2 hR2 d0 d1 d2 f0 f2)
 obtain ⟨w3,hw3⟩ : ∃ x,w2.setCell ⟨q,3,none⟩ (.slice y1 (n3 + 1) y3) = x := ⟨_,rfl⟩
 have HWA := Hd hwa
 clear hwa d3 f3 c3
 have hR3 : SrIn w3 q f s k (.slice y1 (n3 + 1) y3) := by rw [← hw3];exact HR2.out.putN _
 have hO3 : OwnS w3 B (.slice y1 (n3 + 1) y3) (namesY (ns ++ [nm])) := by
  rw [← hw3,names_snoc8,HNN.out]
  exact own_other HO2.out fun b hb => Below.heap_setCell w2 _ _ b (fun e => ((own_kind HO2.out hb).ne (Whole.kind HR2.out) (by decide)) e)
 have hSt : Steps q (.slice a3 n3 c3') w w3 := by
  have h1 : Steps q (.slice a3 n3 c3') w wa := (Steps.of_grown HK1.out.1).trans .refl (.of_below HBA.out)
  refine h1.trans .refl ⟨?_,?_,?_,?_,fun b hb hbq hbn => ?_⟩
  ·rw [← hw3];exact HG2.out.os
  ·rw [← hw3];exact HG2.out.tape
  ·rw [← hw3];exact HG2.out.output
  ·rw [← hw3];exact Nat.le_trans HG2.out.size (tk_set w2 q 3 (.slice y1 (n3 + 1) y3)).size
  ·rw [← hw3]
   exact (Below.heap_setCell w2 _ _ b hbq).trans (HG2.out.block b hb (fun e => hbn e.symm))
 have hSp : Spot w (.slice a3 n3 c3') (.slice y1 (n3 + 1) y3) := by
  rcases HAT2.out with e | e
  ·exact .inl e
  ·exact .inr ⟨_,e,by have := HBA.out.size;have := HS1.out;omega⟩
 have HWT3 := Hd (show Went B q s (.slice a3 n3 c3') w w3 f k (ns ++ [nm]) (.slice y1 (n3 + 1) y3) from ⟨⟨hR3,hO3⟩,hSt,hSp⟩)
 have HS3 := Hd (show w1.heap.size < w3.heap.size by
  have h1 := Nat.le_trans HG2.out.size (tk_set w2 q 3 (.slice y1 (n3 + 1) y3)).size
  have h2 : wa.heap.size = w1.heap.size + 1 := by rw [← HWA.out];simp
  rw [hw3] at h1
  omega)
 have HE3 := Hd (show Whole w3 w.heap.size 29 #[.int .i64 0,.slice none 0 0,.int .i32 0,.slice none 0 0,.int .i64 0,.int .i64 0,.string ⟨#[]⟩,.int .i64 0,.int .i64 0,.bool false] by
  have hfr := HSTA.out.fr (Whole.kind HEA.out) (by decide) (by decide)
  rw [← hw3]
  exact (Whole.grown HEA.out HG2.out hfr.2).far hfr.1 3 _)
 have HW3 := Hd hw3
 clear hw3 hR3 hO3 hSt hSp
 rw [HW3.out]
 obtain ⟨c0,c1,c2,c3⟩ := HWT3.out.st.rd.cells
 clear c1 c2
 have HT3 := Hd (HT.out.next (HWT3.out.belowB HH.out hB hqB))
 have HWW := Hd (HWI.out _ w3 HWT3.out.st HT3.out (Nat.le_trans hB HWT3.out.steps.size))
 go_wp2_with fail
 refine HWW.out.mono ?_
 intro e w4 hp
 cases R with
 | bad c a b =>
  have hp2 := TreePost.from HWT3.out hp
  obtain ⟨he,hst⟩ := hp2
  have HX := Hd hst
  clear hp hst
  rcases he with he | ⟨ha,hb,he⟩
  ·unfold thrown at he
   subst he
   go_wp2
   exact ⟨rfl,.inl rfl,HX.out⟩
  ·have HAB := Hd (And.intro ha hb)
   clear ha hb
   unfold thrown at he
   subst he
   go_wp2
   exact ⟨rfl,.inr ⟨HAB.out.1,HAB.out.2,rfl⟩,HX.out⟩
 | ok l i2 f2 ns2 =>
  obtain ⟨y4,y5,y6,y7,y8,y9,nv4,rfl,ht4,hw4⟩ := TreePost.ten hp
  have HWT4 := Hd (HWT3.out.trans hw4)
  have HE4 := Hd (hw4.steps.whole HE3.out (HWT3.out.st.fr (Whole.kind HE3.out) (by decide) (by decide)))
  have HS4 := Hd hw4.steps.size
  have HT4 := Hd ht4
  clear hp hw4 ht4 HWW c0 c3
  obtain ⟨t,ht⟩ : ∃ t,altY l = t := ⟨_,rfl⟩
  rw [ht] at HT4 ⊢
  have HTT := Hd ht
  clear ht
  obtain ⟨w5,hw5⟩ : ∃ w5,w4.alloc (.cells #[.int .i64 t.fld.op,.slice y4 y5 y6,.int .i32 t.fld.rune,.slice y7 y8 y9,.int .i64 t.fld.at',.int .i64 t.fld.cap,.string t.fld.name,.int .i64 t.fld.min,.int .i64 t.fld.max,.bool t.fld.lazy] 29) = w5 := ⟨_,rfl⟩
  have hb5 : Below w4.heap.size w4 w5 := by rw [← hw5];exact (Below.refl _ _).alloc (Nat.le_refl _) _
  have hK5 : KdsF (fun b => w3.heap.size ≤ b ∧ Fr q nv4 b) w5 [t] (.slice (some ⟨w4.heap.size,0,none⟩) 1 1) := by
   rw [← hw5]
   exact kdsF_one HT4.out ⟨HS4.out,HWT4.out.st.free (Nat.le_refl _)⟩
  have HK5 := Hd hK5;have HWT5 := Hd (HWT4.out.below hb5);have HE5 := Hd (HE4.out.below hb5 HE4.out.lt)
  clear hb5 hK5
  obtain ⟨r0,r1,r2,r3,r4,r5,r6,r7,r8,r9⟩ := HE5.out.ten
  obtain ⟨z0,z1,z2,z3,z4,z5,z6,z7,z8,z9⟩ := whole_free HE5.out
  go_wp2_with fail
  refine treeV_ret Tryz.results58 w.heap.size rfl HE5.out ?_
  refine ⟨_,nv4,rfl,?_,HWT5.out.setTen (Nat.le_refl _) (HWT5.out.st.fr (Whole.kind HE5.out) (by decide) (by decide)) _ _ _ _ _ _ _ _ _ _⟩
  have hnode := treF_node (d := ⟨6,0,[],0,(n3 : Int) + 1,N,0,0,false⟩) HK5.out rfl (fld_ok (by decide) (by unfold I32;decide) (by decide) (by have := HN3.out;have := HN.out;have := HKS.out;have := HS.out;omega) (by decide) (by decide) (by rw [← HNN.out];show nm.toArray.size ≤ _;have := HNM.out;simp;omega) (Nat.zero_le _))
  have hcap : capY (ns.length + 1) nm (altY l) = .mk ⟨6,0,[],0,(n3 : Int) + 1,N,0,0,false⟩ [t] := by
   unfold capY
   rw [HTT.out,HNN.out,HN3.out]
   rfl
  show TreF _ _ (capY (ns.length + 1) nm (altY l)) _
  rw [hcap]
  exact (treF_set10 hnode (fun k hk => by have := hk.1;have := HS3.out;have := HS1.out;omega) _ _ _ _ _ _ _ _ _ _).same (fun _ _ _ => rfl) fun k hk _ => ⟨by have := hk.1;have := HS3.out;have := HS1.out;omega,hk.2⟩
end Go.Proofs.YthnddabcmhplkaaGreatDoor
