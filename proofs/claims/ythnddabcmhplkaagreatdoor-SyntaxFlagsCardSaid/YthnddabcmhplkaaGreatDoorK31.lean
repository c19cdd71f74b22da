/- Texts merged by program. No condition. -/
import Derived.Test.YthnddabcmhplkaaGreatDoorK29
import Derived.Test.YthnddabcmhplkaaGreatDoorK30
import Derived.Shelf.Abstract
set_option maxHeartbeats 4000000
set_option maxRecDepth 100000
set_option linter.unusedVariables false
namespace Go.Proofs.YthnddabcmhplkaaGreatDoor
open Go Go.RowKit
theorem asRange_any (x y : Int) (w : World) : Calls Tryz.prog 55 #[.agg #[.int .i32 x,.int .i32 y]] w fun e w' => e = .returned (.agg #[.int .i32 x,.int .i32 y]) ∧ Below w.heap.size w w' := by
 go_enter Tryz.func55,Tryz.ntmps55
 go_wp2
 exact bodyPost_ret (v := .agg #[.int .i32 x,.int .i32 y]) (by simp [results,Tryz.results55,go_sem]) rfl ⟨rfl,((Below.refl _ w).alloc (Nat.le_refl _) _).alloc (by simp) _⟩
def SpansPost (b : List UInt8) (w : World) (e : Ending) (w' : World) : Prop :=
 Below w.heap.size w w' ∧ ((nameR b = none ∧ e = .returned (.slice none 0 0)) ∨ ∃ l,nameR b = some l ∧ AllI32 l ∧ l.length ≤ 100 ∧ e = .returned (.slice (some ⟨w.heap.size,0,none⟩) l.length l.length) ∧ w'.heap[w.heap.size]? = some (.cells (cellsR l).toArray 91 (0,0)))
theorem spans_any (s : ByteArray) (w : World) : Calls Tryz.prog 143 #[.string s] w (SpansPost s.toList w) := by
 obtain ⟨b,hb⟩ : ∃ b,s.toList = b := ⟨_,rfl⟩
 rw [hb]
 unfold SpansPost
 have HS := Hd hb
 clear hb
 go_enter Tryz.func143,Tryz.ntmps143
 go_upto_if 4 with (fail)
 rw [HS.out]
 by_cases h0 : b = [76,117]
 ·subst h0
  rw [show (([76,117] : List UInt8) == [76,117]) = true by rfl]
  go_wp2_with fail
  go_ret
  exact ⟨(Below.refl _ w).alloc (Nat.le_refl _) _,.inr ⟨[(65,90),(192,214),(216,222),(913,929),(931,937),(1040,1071)],rfl,by unfold AllI32 I32;decide,by decide,rfl,heap_alloc_new w _⟩⟩
 rw [show (b == [76,117]) = false by simpa using h0]
 go_upto_if 13 with (fail)
 rw [HS.out]
 by_cases h1 : b = [76,108]
 ·subst h1
  rw [show (([76,108] : List UInt8) == [76,108]) = true by rfl]
  go_wp2_with fail
  go_ret
  exact ⟨(Below.refl _ w).alloc (Nat.le_refl _) _,.inr ⟨[(97,122),(223,246),(248,255),(945,969),(1072,1103)],rfl,by unfold AllI32 I32;decide,by decide,rfl,heap_alloc_new w _⟩⟩
 rw [show (b == [76,108]) = false by simpa using h1]
 go_upto_if 21 with (fail)
 rw [HS.out]
 by_cases h2 : b = [76]
 ·subst h2
  rw [show (([76] : List UInt8) == [76]) = true by rfl]
  go_wp2_with fail
  go_ret
  exact ⟨(Below.refl _ w).alloc (Nat.le_refl _) _,.inr ⟨[(65,90),(97,122),(170,170),(186,186),(192,214),(216,246),(248,255),(913,929),(931,937),(945,969),(1040,1103),(19968,40959)],rfl,by unfold AllI32 I32;decide,by decide,rfl,heap_alloc_new w _⟩⟩
 rw [show (b == [76]) = false by simpa using h2]
 go_upto_if 36 with (fail)
 rw [HS.out]
 by_cases h3 : b = [78,100]
 ·subst h3
  rw [show (([78,100] : List UInt8) == [78,100]) = true by rfl]
  go_wp2_with fail
  go_ret
  exact ⟨(Below.refl _ w).alloc (Nat.le_refl _) _,.inr ⟨[(48,57),(1632,1641)],rfl,by unfold AllI32 I32;decide,by decide,rfl,heap_alloc_new w _⟩⟩
 rw [show (b == [78,100]) = false by simpa using h3]
 go_upto_if 41 with (fail)
 rw [HS.out]
 by_cases h4 : b = [78]
 ·subst h4
  rw [show (([78] : List UInt8) == [78]) = true by rfl]
  go_wp2_with fail
  go_ret
  exact ⟨(Below.refl _ w).alloc (Nat.le_refl _) _,.inr ⟨[(48,57),(178,179),(185,185),(188,190),(1632,1641),(8544,8584)],rfl,by unfold AllI32 I32;decide,by decide,rfl,heap_alloc_new w _⟩⟩
 rw [show (b == [78]) = false by simpa using h4]
 go_upto_if 50 with (fail)
 rw [HS.out]
 by_cases h5 : b = [80]
 ·subst h5
  rw [show (([80] : List UInt8) == [80]) = true by rfl]
  go_wp2_with fail
  go_ret
  exact ⟨(Below.refl _ w).alloc (Nat.le_refl _) _,.inr ⟨[(33,35),(37,42),(44,47),(58,59),(63,64),(91,93),(95,95),(123,123),(125,125),(161,161),(167,167),(171,171),(182,183),(187,187),(191,191)],rfl,by unfold AllI32 I32;decide,by decide,rfl,heap_alloc_new w _⟩⟩
 rw [show (b == [80]) = false by simpa using h5]
 go_upto_if 68 with (fail)
 rw [HS.out]
 by_cases h6 : b = [83]
 ·subst h6
  rw [show (([83] : List UInt8) == [83]) = true by rfl]
  go_wp2_with fail
  go_ret
  exact ⟨(Below.refl _ w).alloc (Nat.le_refl _) _,.inr ⟨[(36,36),(43,43),(60,62),(94,94),(96,96),(124,124),(126,126),(162,166),(168,169),(172,172),(174,177),(180,180),(184,184),(215,215),(247,247)],rfl,by unfold AllI32 I32;decide,by decide,rfl,heap_alloc_new w _⟩⟩
 rw [show (b == [83]) = false by simpa using h6]
 go_upto_if 86 with (fail)
 rw [HS.out]
 by_cases h7 : b = [90]
 ·subst h7
  rw [show (([90] : List UInt8) == [90]) = true by rfl]
  go_wp2_with fail
  go_ret
  exact ⟨(Below.refl _ w).alloc (Nat.le_refl _) _,.inr ⟨[(32,32),(160,160),(8192,8202),(8232,8233),(8239,8239),(12288,12288)],rfl,by unfold AllI32 I32;decide,by decide,rfl,heap_alloc_new w _⟩⟩
 rw [show (b == [90]) = false by simpa using h7]
 go_upto_if 95 with (fail)
 rw [HS.out]
 by_cases h8 : b = [67,99]
 ·subst h8
  rw [show (([67,99] : List UInt8) == [67,99]) = true by rfl]
  go_wp2_with fail
  go_ret
  exact ⟨(Below.refl _ w).alloc (Nat.le_refl _) _,.inr ⟨[(0,31),(127,159)],rfl,by unfold AllI32 I32;decide,by decide,rfl,heap_alloc_new w _⟩⟩
 rw [show (b == [67,99]) = false by simpa using h8]
 go_upto_if 100 with (fail)
 rw [HS.out]
 by_cases h9 : b = [76,97,116,105,110]
 ·subst h9
  rw [show (([76,97,116,105,110] : List UInt8) == [76,97,116,105,110]) = true by rfl]
  go_wp2_with fail
  go_ret
  exact ⟨(Below.refl _ w).alloc (Nat.le_refl _) _,.inr ⟨[(65,90),(97,122),(170,170),(186,186),(192,214),(216,246),(248,591),(8490,8491)],rfl,by unfold AllI32 I32;decide,by decide,rfl,heap_alloc_new w _⟩⟩
 rw [show (b == [76,97,116,105,110]) = false by simpa using h9]
 go_upto_if 111 with (fail)
 rw [HS.out]
 by_cases h10 : b = [71,114,101,101,107]
 ·subst h10
  rw [show (([71,114,101,101,107] : List UInt8) == [71,114,101,101,107]) = true by rfl]
  go_wp2_with fail
  go_ret
  exact ⟨(Below.refl _ w).alloc (Nat.le_refl _) _,.inr ⟨[(880,883),(885,887),(890,893),(895,895),(900,900),(902,902),(904,906),(908,908),(910,929),(931,993)],rfl,by unfold AllI32 I32;decide,by decide,rfl,heap_alloc_new w _⟩⟩
 rw [show (b == [71,114,101,101,107]) = false by simpa using h10]
 go_upto_if 124 with (fail)
 rw [HS.out]
 by_cases h11 : b = [67,121,114,105,108,108,105,99]
 ·subst h11
  rw [show (([67,121,114,105,108,108,105,99] : List UInt8) == [67,121,114,105,108,108,105,99]) = true by rfl]
  go_wp2_with fail
  go_ret
  exact ⟨(Below.refl _ w).alloc (Nat.le_refl _) _,.inr ⟨[(1024,1156),(1159,1327)],rfl,by unfold AllI32 I32;decide,by decide,rfl,heap_alloc_new w _⟩⟩
 rw [show (b == [67,121,114,105,108,108,105,99]) = false by simpa using h11]
 go_upto_if 129 with (fail)
 rw [HS.out]
 by_cases h12 : b = [72,97,110]
 ·subst h12
  rw [show (([72,97,110] : List UInt8) == [72,97,110]) = true by rfl]
  go_wp2_with fail
  go_ret
  exact ⟨(Below.refl _ w).alloc (Nat.le_refl _) _,.inr ⟨[(19968,40959)],rfl,by unfold AllI32 I32;decide,by decide,rfl,heap_alloc_new w _⟩⟩
 rw [show (b == [72,97,110]) = false by simpa using h12]
 go_wp2_with fail
 go_ret
 exact ⟨Below.refl _ _,.inl ⟨by unfold nameR;simp [h0,h1,h2,h3,h4,h5,h6,h7,h8,h9,h10,h11,h12],rfl⟩⟩
def Gr (s q : Nat) (W : World) (vs : Value) (W' : World) (vs' : Value) : Prop := Below s W W' ∧ ∀ b,b < W.heap.size → b ≠ q → vs.ownBlock ≠ some b → W'.heap[b]? = W.heap[b]? ∧ vs'.ownBlock ≠ some b
theorem Gr.trans {s q : Nat} {W W' W'' : World} {vs vs' vs'' : Value} (h : Gr s q W vs W' vs') (k : Gr s q W' vs' W'' vs'') : Gr s q W vs W'' vs'' :=
 ⟨h.1.trans k.1,fun b hb hq hv => by
  obtain ⟨h1,h2⟩ := h.2 b hb hq hv
  obtain ⟨k1,k2⟩ := k.2 b (Nat.lt_of_lt_of_le hb h.1.size) hq h2
  exact ⟨k1.trans h1,k2⟩⟩
theorem Gr.refl (s q : Nat) (W : World) (vs : Value) : Gr s q W vs W vs := ⟨Below.refl _ _,fun _ _ _ h => ⟨rfl,h⟩⟩
theorem Gr.below {s q : Nat} {W W' : World} (vs : Value) (hs : s ≤ W.heap.size) (hb : Below W.heap.size W W') : Gr s q W vs W' vs := ⟨hb.mono hs,fun b h _ hv => ⟨hb.block b h,hv⟩⟩
theorem Gr.whole {s q : Nat} {W W' : World} {vs vs' : Value} {b : Nat} {t : TypeId} {cs : Array Value} (h : Gr s q W vs W' vs') (hw : Whole W b t cs) (hq : b ≠ q) (hv : vs.ownBlock ≠ some b) : Whole W' b t cs := ((h.2 b hw.lt hq hv).1).trans hw
theorem own_lt {w : World} {B : Nat} {v : Value} {O : List (Int × Int)} (h : OwnR w B v O) (b : Nat) (hb : w.heap.size ≤ b) : v.ownBlock ≠ some b := by
 rcases h.1.2 with ⟨rfl,_⟩ | ⟨q,cap,cur,rfl,_,hh,_⟩
 ·simp [Value.ownBlock]
 ·intro e
  obtain rfl : q = b := by simpa [Value.ownBlock] using e
  have := (Array.getElem?_eq_some_iff.1 hh).1
  omega
def AddedR (s q : Nat) (W : World) (vs : Value) (O : List (Int × Int)) (e : Ending) (W' : World) : Prop :=
 (∃ u,e = .returned u) ∧ (∃ vs',Boxed W' q 26 vs' ∧ OwnR W' s vs' O ∧ Gr s q W vs W' vs') ∧ KeepsO W W'
theorem added_of {s q : Nat} {W w1 : World} {vs v1 : Value} {O O' : List (Int × Int)} {tmp : Obj} (h1 : Boxed W q 26 vs) (h2 : OwnR W s vs O) (hs : s ≤ q) (ho : OwnR w1 s v1 O') (hg : (W.alloc tmp).grownBy w1 vs.ownBlock) (hat : v1.ownBlock = vs.ownBlock ∨ v1.ownBlock = some (W.alloc tmp).heap.size) (u : Value) :
  AddedR s q W vs O' (.returned u) (w1.setCell ⟨q,0,none⟩ v1) := by
 have hsz : s ≤ W.heap.size := by have := h1.lt;omega
 have hA := h1.appended (by decide) h2.1 hsz hs ho.1 hg
 have hK : KeepsO W (w1.setCell ⟨q,0,none⟩ v1) := ((KeepsO.below ((Below.refl _ W).alloc (Nat.le_refl _) _)).trans (KeepsO.row (h2.below ((Below.refl _ W).alloc (Nat.le_refl _) _)).1 (by decide) hg)).trans (KeepsO.set hA.1 (by decide) _)
 refine ⟨⟨_,rfl⟩,⟨v1,hA.2.1,⟨hA.2.2.1,ho.2⟩,hA.2.2.2.2,fun b hb hq hv => ⟨?_,?_⟩⟩,hK⟩
 ·rw [Below.heap_setCell _ _ _ _ (show b ≠ q from hq),hg.block b (by simp;omega) (fun e => hv e.symm),Below.heap_alloc _ _ _ hb]
 ·rcases hat with e | e
  ·rw [e];exact hv
  ·rw [e]
   intro h
   have : (W.alloc tmp).heap.size = b := Option.some.inj h
   simp at this
   omega
theorem add_range_any (s q : Nat) (vs : Value) (O : List (Int × Int)) (x : Int) (W : World) (hx : I32 x) (hO : O.length ≤ 1099511627776) (hs : s ≤ q) (h1 : Boxed W q 26 vs) (h2 : OwnR W s vs O) : Calls Tryz.prog 37 #[.int .i32 x,.pointer (some ⟨q,0,none⟩)] W (AddedR s q W vs (O ++ [(x,x)])) := by
 have hsz : s ≤ W.heap.size := by have := h1.lt;omega
 have c1 := h1.cell
 have H1 := Hd h1;have H2 := Hd h2
 clear h1 h2
 go_enter Tryz.func37,Tryz.ntmps37
 go_wp2_with (at_builtin;refine append_rgs_at rfl (.tmp 3) (.tmp 7) rfl s vs O rfl (H2.out.below ((Below.refl _ W).alloc (Nat.le_refl _) _)) W.heap.size x x rfl (rgs_new W x x hx hx) (by simp;omega) (by simp;omega) ?_;intro v1 w1 ho1 hg1 hat;obtain ⟨n1,m1,c1',rfl⟩ := ho1.slice;have HA := Hd (H1.out.appended (by decide) H2.out.1 hsz hs ho1.1 hg1);have d1 := HA.out.1.cell;have d2 := HA.out.1.frozen;have HR := Hd (added_of H1.out H2.out hs ho1 hg1 hat (.tuple #[]));clear ho1 hg1 hat)
 go_end0
 exact HR.out
theorem each_fold_any (s q : Nat) (vs : Value) (O : List (Int × Int)) (S : List Int) (W : World) (h3 : S.length ≤ 3) (hS : ∀ x ∈ S,I32 x) (hO : O.length ≤ 1099511627000) (hs : s ≤ q) (h1 : Boxed W q 26 vs) (h2 : OwnR W s vs O) :
  Calls Tryz.prog 34 #[orbA S,.func (.func 37) #[] #[.pointer (some ⟨q,0,none⟩)]] W fun e W' => (∃ u,e = .returned u) ∧ ∃ vs',Boxed W' q 26 vs' ∧ OwnR W' s vs' (O ++ S.map fun c => (c,c)) ∧ Gr s q W vs W' vs' := by
 refine (each_any _ _ (enters_of Tryz.func37 (by kernel_rfl) rfl) S h3 (fun pre W' => ∃ vs',Boxed W' q 26 vs' ∧ OwnR W' s vs' (O ++ pre.map fun c => (c,c)) ∧ Gr s q W vs W' vs') ?_ ?_ W ⟨vs,h1,by simpa using h2,Gr.refl _ _ _ _⟩)
 ·rintro pre W1 ob ⟨v1,k1,k2,k3⟩
  have hsz : s ≤ W1.heap.size := by have := k1.lt;omega
  have hb := (Below.refl W1.heap.size W1).alloc (Nat.le_refl _) ob
  exact ⟨v1,k1.alloc ob,k2.below hb,k3.trans (Gr.below v1 hsz hb)⟩
 ·rintro pre x W1 hp ⟨v1,k1,k2,k3⟩
  have hx : x ∈ S := hp.subset (by simp)
  have hl := hp.length_le
  rw [List.length_append,List.length_singleton] at hl
  refine (add_range_any s q v1 _ x W1 (hS x hx) (by rw [List.length_append,List.length_map];omega) hs k1 k2).mono ?_
  rintro e W2 ⟨hu,⟨v2,j1,j2,j3⟩,hk⟩
  exact ⟨hu,⟨v2,j1,by simpa using j2,k3.trans j3⟩,hk⟩
theorem orbit_any (c : Int) (w : World) (hc : I32 c) (hT : TabsT w) : Calls Tryz.prog 24 #[.int .i32 c] w (RunesPost (orbR c) w) := by
 have HTT := Hd hT
 clear hT
 unfold I32 at hc
 go_enter Tryz.func24,Tryz.ntmps24
 by_cases h0 : c < 0
 ·rw [orb_none (.inl h0)]
  go_wp2
  go_ret
  exact ⟨_,rfl,ownN_none _ _,Below.refl _ _⟩
 by_cases h1 : 1114111 < c
 ·rw [orb_none (.inr h1)]
  go_wp2
  go_ret
  exact ⟨_,rfl,ownN_none _ _,Below.refl _ _⟩
 obtain ⟨w1,hw1⟩ : ∃ w1,w.alloc (.cells #[.slice none 0 0] 63) = w1 := ⟨_,rfl⟩
 have hb1 : Below w.heap.size w w1 := by rw [← hw1];exact (Below.refl _ w).alloc (Nat.le_refl _) _
 have hB1 : Boxed w1 w.heap.size 63 (.slice none 0 0) := by rw [← hw1];exact Boxed.new w _ _
 have HB1 := Hd hb1;have HX := Hd hB1;have HW := Hd hw1
 clear hb1 hB1 hw1
 go_wp2_with fail
 rw [HW.out]
 refine (orbitOf_any c (by omega) (by omega) w1 (HTT.out.below HB1.out)).mono ?_
 rintro e w2 ⟨rfl,hb⟩
 have HB2 := Hd (HB1.out.trans (hb.mono HB1.out.size))
 have hX2 : BoxN w2 w.heap.size w.heap.size [] := ⟨_,(hb.block _ HX.out.lt).trans HX.out,ownN_none _ _⟩
 have HX2 := Hd hX2
 have hS3 := orb_len c
 have hSI : ∀ x ∈ orbR c,I32 x := fun x hx => by
  have := orb_rune c (by omega) (by omega) x hx
  unfold I32
  omega
 have HSI := Hd hSI
 obtain ⟨S,hS⟩ : ∃ S,orbR c = S := ⟨_,rfl⟩
 rw [hS] at hS3 HSI ⊢
 have HSS := Hd hS
 clear hb hSI hS hX2
 go_wp2_with fail
 refine (each_any _ _ (enters_of Tryz.func35 (by kernel_rfl) rfl) S hS3 (fun pre W => BoxN W w.heap.size w.heap.size pre ∧ Below w.heap.size w W) ?_ ?_ w2 ⟨HX2.out,HB2.out⟩).mono ?_
 ·rintro pre W ob ⟨k1,k2⟩
  exact ⟨k1.kept ((Below.refl _ _).alloc (Nat.le_refl _) _),k2.alloc k2.size _⟩
 ·rintro pre x W hp ⟨k1,k2⟩
  have hx : x ∈ S := hp.subset (by simp)
  have hl := hp.length_le
  rw [List.length_append,List.length_singleton] at hl
  refine (add_rune_any w.heap.size w.heap.size pre x W (HSI.out x hx) (by omega) (Nat.le_refl _) k1).mono ?_
  rintro e W2 ⟨hu,h2,h3,h4⟩
  exact ⟨hu,⟨h2,k2.trans h4⟩,h3⟩
 rintro e w3 ⟨⟨u,rfl⟩,⟨vs,k1,k2⟩,k3⟩
 have c1 := k1.cell
 have H2 := Hd k2;have H3 := Hd k3
 clear k1 k2 k3
 go_wp2_with fail
 go_ret
 exact ⟨_,rfl,by rw [HSS.out];exact H2.out,H3.out⟩
end Go.Proofs.YthnddabcmhplkaaGreatDoor
