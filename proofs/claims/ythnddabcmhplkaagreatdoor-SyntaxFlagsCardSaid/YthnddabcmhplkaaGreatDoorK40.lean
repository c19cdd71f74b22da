/- Texts merged by program. No condition. -/
import Derived.Test.YthnddabcmhplkaaGreatDoorK39
import Derived.Test.YthnddabcmhplkaaGreatDoorK25
set_option maxHeartbeats 4000000
set_option maxRecDepth 100000
set_option linter.unusedVariables false
namespace Go.Proofs.YthnddabcmhplkaaGreatDoor
open Go Go.RowKit
theorem mem_lettersL (c : Int) : (∃ r ∈ lettersL,r.1 ≤ c ∧ c ≤ r.2) ↔ InG c ∨ (∃ s ∈ greatL,s.1 ≤ c ∧ c ≤ s.2) ∨ ∃ s ∈ greatL,s.1 ≤ c - 32 ∧ c - 32 ≤ s.2 := by
 unfold lettersL oddR InG
 simp only [groupsR,greatL,bothR,List.take,List.flatten_cons,List.flatten_nil,List.map_append,List.map_cons,List.map_nil,List.append_nil,List.flatMap_cons,List.flatMap_nil,List.mem_append,List.mem_cons,List.not_mem_nil,or_false]
 constructor
 ·rintro ⟨⟨r1,r2⟩,h,h1,h2⟩
  simp only [Prod.mk.injEq] at h h1 h2
  simp only [exists_eq_or_imp,exists_eq_left,or_assoc]
  omega
 ·intro h
  simp only [or_and_right,exists_or,exists_eq_left,or_assoc] at h ⊢
  omega
theorem letters_bound {c : Int} (h : HasR lettersL c) : c ≤ 8491 := by
 rcases (mem_lettersL c).1 h.2.2 with h | ⟨⟨x,y⟩,h1,h2,h3⟩ | ⟨⟨x,y⟩,h1,h2,h3⟩
 ·unfold InG at h
  omega
 ·have := greatL_bound h1
  simp only at h2 h3
  omega
 ·have := greatL_bound h1
  simp only at h2 h3
  omega
theorem orb_other {c : Int} (h0 : 0 ≤ c) (h1 : c ≤ 1114111) (h : ¬ HasR lettersL c) : orbR c = [c] := by
 have hn : ¬ (InG c ∨ (∃ s ∈ greatL,s.1 ≤ c ∧ c ≤ s.2) ∨ ∃ s ∈ greatL,s.1 ≤ c - 32 ∧ c - 32 ≤ s.2) := fun hh => h ⟨h0,h1,(mem_lettersL c).2 hh⟩
 refine orb_alone h0 h1 (fun g hg hc => hn (.inl (inG_of hg hc))) fun s hs => ⟨fun hh => hn (.inr (.inl ⟨s,hs,hh⟩)),fun hh => hn (.inr (.inr ⟨s,hs,hh⟩))⟩
theorem fold_prog {l K M X : List (Int × Int)} (hK : ∀ c,HasR K c ↔ HasR l c) (hM : ∀ c,HasR M c ↔ HasR l c ∧ HasR lettersL c) (hX : ∀ c,HasR X c ↔ ∃ d,HasR M d ∧ d < 12288 ∧ c ∈ orbR d) (c : Int) : HasR (K ++ X) c ↔ FoldP l c := by
 rw [has_append,hK,hX]
 constructor
 ·rintro (h | ⟨d,h1,_,h2⟩)
  ·exact ⟨c,h,orb_self c h.1 h.2.1⟩
  ·exact ⟨d,((hM d).1 h1).1,h2⟩
 ·rintro ⟨d,h1,h2⟩
  by_cases h : HasR lettersL d
  ·have := letters_bound h
   exact .inr ⟨d,(hM d).2 ⟨h1,h⟩,by omega,h2⟩
  ·rw [orb_other h1.1 h1.2.1 h] at h2
   have : c = d := by simpa using h2
   rw [this]
   exact .inl h1
theorem more_nil : More [] 0 0 [] := ⟨fun c => by simp [HasR];intros;omega,by simp⟩
theorem more_done {T : List (Int × Int)} {f : Int} {X : List (Int × Int)} (h : More T f f X) (c : Int) : HasR X c ↔ ∃ d,HasR T d ∧ d < 12288 ∧ c ∈ orbR d := by
 rw [h.1]
 constructor
 ·rintro (h | ⟨d,h3,h4,_⟩)
  ·exact h
  ·omega
 ·exact .inl
theorem more_start {T : List (Int × Int)} {f x : Int} {X : List (Int × Int)} (h : More T f f X) (hx : f ≤ x) : More T x x X := by
 obtain ⟨h1,h2⟩ := h
 refine ⟨fun c => ?_,by omega⟩
 rw [h1]
 constructor
 ·rintro (h | ⟨d,h3,h4,h5⟩)
  ·exact .inl h
  ·omega
 ·rintro (h | ⟨d,h3,h4,h5⟩)
  ·exact .inl h
  ·omega
theorem boxed_below {w w' : World} {q : Nat} {t : TypeId} {v : Value} (h : Boxed w q t v) (hb : Below w.heap.size w w') : Boxed w' q t v := (hb.block _ h.lt).trans h
def FoldAt (s q : Nat) (w4 : World) (v1 : Value) (K T : List (Int × Int)) (x f : Int) (wr : World) : Prop :=
 ∃ vs X,Boxed wr q 26 vs ∧ OwnR wr s vs (K ++ X) ∧ More T x f X ∧ Gr s q w4 v1 wr vs
theorem fold_any (v : Value) (l : List (Int × Int)) (w : World) (h : Rgs w v l) (hn : l.length ≤ 1114112) (hT : TabsT w) : Calls Tryz.prog 26 #[v] w (SetPost (FoldP l) w) := by
 have HT := Hd hT;have HN := Hd (norm_any v l w h (by omega));have HV := Hd h
 obtain ⟨a0,c0,rfl,-⟩ := h
 clear hT
 go_enter Tryz.func26,Tryz.ntmps26
 go_wp2_with fail
 refine HN.out.mono ?_
 rintro e w1 ⟨v1,K,rfl,hO,hR,hP,hB⟩
 have hKl := right_len K 0 (by omega) hR
 obtain ⟨a1,n1,c1,rfl⟩ := hO.slice
 obtain ⟨w2,hw2⟩ : ∃ w2,w1.alloc (.cells #[.slice a1 n1 c1] 26) = w2 := ⟨_,rfl⟩
 have hb2 : Below w1.heap.size w1 w2 := by rw [← hw2];exact (Below.refl _ w1).alloc (Nat.le_refl _) _
 have hq2 : Boxed w2 w1.heap.size 26 (.slice a1 n1 c1) := by rw [← hw2];exact Boxed.new w1 _ _
 have hB2 : Below w.heap.size w w2 := hB.trans (hb2.mono hB.size)
 have HO1 := Hd hO;have HR1 := Hd hR;have HP1 := Hd hP;have HQ2 := Hd hq2;have HB2 := Hd hB2;have HW2 := Hd hw2;have HO2 := Hd (hO.below hb2)
 have hs1 := hB.size;have hs2 := hb2.size
 clear hO hR hP hB hb2 hq2 hB2 hw2
 go_wp2_with fail
 rw [HW2.out]
 refine (letters_any w2 (HT.out.below HB2.out)).mono ?_
 rintro e w3 ⟨v3,rfl,hO3,hB3⟩
 have HM := Hd (meet_any _ v3 l lettersL w3 (HV.out.below (HB2.out.trans (hB3.mono HB2.out.size))) hO3.rgs (by omega) (by decide))
 have HB3 := Hd (HB2.out.trans (hB3.mono HB2.out.size));have HQ3 := Hd (boxed_below HQ2.out hB3);have HO3 := Hd (HO2.out.below hB3)
 have hs3 := hB3.size
 obtain ⟨a3,n3,c3,rfl⟩ := hO3.slice
 clear hO3 hB3
 go_wp2_with fail
 refine HM.out.mono ?_
 rintro e w4 ⟨vM,M,rfl,hO4,hR4,hP4,hB4⟩
 have hMl := right_len M 0 (by omega) hR4
 have hMb : ∀ r ∈ M,0 ≤ r.1 ∧ r.1 ≤ r.2 ∧ r.2 ≤ 8491 := fun r hr => by
  have hf := right_fit M 0 (Int.le_refl _) hR4 r hr
  unfold Fit at hf
  have : HasR M r.2 := ⟨by omega,by omega,r,hr,hf.2.1,Int.le_refl _⟩
  exact ⟨hf.1,hf.2.1,letters_bound ((hP4 _).1 this).2⟩
 have hMblk : ∀ b,(OwnR w4 w3.heap.size vM M) → vM.ownBlock = some b → b ≠ w1.heap.size ∧ (Value.slice a1 n1 c1).ownBlock ≠ some b := fun b ho hb => by
  have h1 := (ho.1.lt b hb).1
  have h2 := HQ3.out.lt
  exact ⟨by omega,own_lt HO1.out b (by omega)⟩
 have HB4 := Hd (HB3.out.trans (hB4.mono HB3.out.size));have HQ4 := Hd (boxed_below HQ3.out hB4);have HO4 := Hd (HO3.out.below hB4)
 have HOM := Hd hO4;have HRM := Hd hR4;have HPM := Hd hP4;have HMB := Hd hMb;have HMK := Hd hMblk
 have HRG := Hd hO4.rgs
 obtain ⟨aM,cM,hvM,-⟩ := hO4.rgs
 subst hvM
 have hs4 := hB4.size
 clear hO4 hR4 hP4 hB4 hMb hMblk HW2 HN HM
 go_wp2_with fail
 go_loopw [15] (fun i wr => ∃ m : Nat,m ≤ M.length ∧ i = .int .i64 m ∧ FoldAt w.heap.size w1.heap.size w4 (.slice a1 n1 c1) K (M.take m) (endOf 0 (M.take m)) (endOf 0 (M.take m)) wr) (fun i _ => M.length - (intOf i).toNat)
 case atStart => exact ⟨0,Nat.zero_le _,rfl,_,[],HQ4.out,by rw [List.append_nil];exact HO4.out,more_nil,Gr.refl _ _ _ _⟩
 case round =>
  obtain ⟨m,hm,rfl,vs,X,k1,k2,k3,k4⟩ := hrel
  have K1 := Hd k1;have K2 := Hd k2;have K3 := Hd k3;have K4 := Hd k4
  have hszr := k4.1.size
  clear k1 k2 k3 k4
  by_cases hlt : m < M.length
  ·obtain ⟨a',c',e,g2,g3,g4,g5,g6⟩ := HRG.out
   injection e with e1 e2 e3
   subst e1 e3
   rcases g5 with g5 | ⟨b,o,rfl,hc⟩
   ·rw [g5] at hlt
    simp at hlt
   obtain ⟨x1,x2,hx,hsp,c1w,c2w⟩ := rgs_at hc m hlt
   have hxm := List.mem_of_getElem? hx
   have hbd := HMB.out (x1,x2) hxm
   simp only at hbd
   have hblk := HMK.out b HOM.out rfl
   have hbw : b < w4.heap.size := World.block_lt_of_cell? w4 _ c1w
   have hbb := K4.out.2 b hbw hblk.1 hblk.2
   have cof : ∀ j u,w4.cell? ⟨b,j,none⟩ = some u → ∀ (W : World),W.heap[b]? = w4.heap[b]? → W.cell? ⟨b,j,none⟩ = some u := fun j u hu W hW => by
    rw [← hu]
    simp [World.cell?,hW]
   have d1 := cof _ _ c1w _ hbb.1
   have d2 := cof _ _ c2w _ hbb.1
   have hsR := (right_split M m hlt).1 (right_part M (m + 1) HRM.out)
   have hxx : M[m] = (x1,x2) := by
    rw [List.getElem?_eq_getElem hlt] at hx
    exact Option.some.inj hx
   rw [hxx] at hsR
   have hEx : endOf 0 (M.take m) ≤ x1 := hsR.2.1
   have hE2 : endOf 0 (M.take (m + 1)) = x2 + 2 := by rw [end_take M m (by omega),hxx]
   have hM0 := more_start K3.out hEx
   obtain ⟨w5,hw5⟩ : ∃ w5,w5 = wr.alloc (.cells #[.int .i32 x1,.int .i32 x2] 51) := ⟨_,rfl⟩
   have hb5 : Below wr.heap.size wr w5 := by rw [hw5];exact (Below.refl _ _).alloc (Nat.le_refl _) _
   have hE5 : Whole w5 wr.heap.size 51 #[.int .i32 x1,.int .i32 x2] := by rw [hw5];exact heap_alloc_new wr _
   have r0 := hE5.cell 0;have r1 := hE5.cell 1
   simp at r0 r1
   have HM0 := Hd hM0;have HSP := Hd hsp;have HE2 := Hd hE2;have HB5 := Hd hb5;have HE5 := Hd hE5;have HW5 := Hd hw5
   have Q5 := Hd (boxed_below K1.out hb5);have O5 := Hd (K2.out.below hb5)
   have hs5 := hb5.size
   clear hx hsp hxx hsR hM0 hE2 hc g6 c1w c2w hbb cof hblk hb5 hE5 hw5 e2 g4 hxm
   go_wp2_with fail
   rw [← HW5.out]
   go_loopw [25] (fun j wy => ∃ f : Int,0 ≤ f ∧ x1 + f ≤ x2 + 1 ∧ j = .int .i32 f ∧ FoldAt w.heap.size w1.heap.size w5 vs K (M.take m) x1 (x1 + f) wy) (fun j _ => (x2 + 1 - x1 - intOf j).toNat)
   case atStart => exact ⟨0,Int.le_refl _,by omega,rfl,vs,X,Q5.out,O5.out,by rw [Int.add_zero];exact HM0.out,Gr.refl _ _ _ _⟩
   case round =>
    obtain ⟨f,hf0,hf1,rfl,v6,X6,y1,y2,y3,y4⟩ := hrel
    have Y1 := Hd y1;have Y2 := Hd y2;have Y3 := Hd y3;have Y4 := Hd y4
    have hE6 := y4.whole HE5.out (by have := K1.out.lt;omega) (own_lt K2.out _ (Nat.le_refl _))
    have t0 := hE6.cell 0;have t1 := hE6.cell 1
    simp at t0 t1
    have hXl := y3.2
    have hszy := y4.1.size
    clear y1 y2 y3 y4 hE6
    by_cases hfx : f < x2 - x1 + 1
    ·have hTW := HT.out.below (HB4.out.trans (K4.out.1.trans (((HB5.out).mono (Nat.le_trans hs1 (by omega))).trans Y4.out.1)))
     have HTW := Hd hTW
     have hg0 : 0 ≤ x1 + f := by omega
     have hg1 : x1 + f ≤ 8491 := by omega
     clear hTW
     go_wp2_with fail
     refine (orbitOf_any (x1 + f) hg0 (by omega) _ HTW.out).mono ?_
     rintro e w7 ⟨rfl,hb7⟩
     have hS3 := orb_len (x1 + f)
     have hSI : ∀ x ∈ orbR (x1 + f),I32 x := fun x hx => by
      have := orb_rune (x1 + f) hg0 (by omega) x hx
      unfold I32
      omega
     have HF := Hd (each_fold_any w.heap.size w1.heap.size v6 _ (orbR (x1 + f)) w7 hS3 hSI (by rw [List.length_append];omega) hs1 (boxed_below Y1.out hb7) (Y2.out.below hb7))
     have Y47 := Hd (Y4.out.trans (Gr.below v6 (by have := Y1.out.lt;omega) hb7))
     clear hb7 hSI hS3
     go_wp2_with fail
     refine HF.out.mono ?_
     rintro e w8 ⟨⟨u,rfl⟩,v8,j1,j2,j3⟩
     rw [List.append_assoc] at j2
     have J1 := Hd j1;have J2 := Hd j2;have J4 := Hd (Y47.out.trans j3)
     have J3 := Hd (more_next Y3.out (by omega) hg0 (by omega))
     clear j1 j2 j3
     go_wp2_with fail
     go_roundw
     case rel => exact ⟨f + 1,by omega,by omega,by go_num,v8,_,J1.out,J2.out,by rw [← Int.add_assoc];exact J3.out,J4.out⟩
     case measure => simp [intOf];omega
    ·have hfe : x1 + f = x2 + 1 := by omega
     have hend := more_end (T := M.take m) (x := x1) (y := x2) (f := x1 + f) (M := X6) Y3.out hbd.1 (by omega) hbd.2.1 (by omega) (.inl hfe) (by omega) (endOf 0 (M.take (m + 1))) (by rw [HE2.out];omega) (by omega)
     rw [← HSP.out] at hend
     have HEND := Hd hend
     have J4 := Hd ((K4.out.trans (Gr.below vs (Nat.le_trans hs1 (by have := K1.out.lt;omega)) HB5.out)).trans Y4.out)
     clear hend hfe
     go_wp2_with fail
     go_roundw
     case rel => exact ⟨m + 1,by omega,by go_num,v6,X6,Y1.out,Y2.out,HEND.out,J4.out⟩
     case measure => simp [intOf];omega
  ·have e : M.take m = M := List.take_of_length_le (by omega)
   have k3 := K3.out
   rw [e] at k3
   have hE : endOf 0 M ≤ 1114113 := end_bound M 0 (by omega) HRM.out
   have hXl := k3.2
   have c1 := K1.out.cell
   have HD := Hd (more_done k3)
   have HNN := Hd (norm_any vs (K ++ X) wr K2.out.rgs (by rw [List.length_append];omega))
   obtain ⟨a9,n9,c9,rfl⟩ := K2.out.slice
   clear e k3 hE hXl
   go_wp2_with fail
   refine HNN.out.mono ?_
   rintro e w9 ⟨v9,N9,rfl,hO9,hR9,hP9,hB9⟩
   have HO9 := Hd hO9;have HR9 := Hd hR9;have HP9 := Hd hP9
   have HB9 := Hd ((HB4.out.trans K4.out.1).trans (hB9.mono (by have := K1.out.lt;omega)))
   clear hO9 hR9 hP9 hB9 c1
   go_wp2_with fail
   go_ret
   exact ⟨v9,N9,rfl,HO9.out.mono (by have := K1.out.lt;omega),HR9.out,fun c => (HP9.out c).trans (fold_prog HP1.out HPM.out HD.out c),HB9.out⟩
end Go.Proofs.YthnddabcmhplkaaGreatDoor
