/- Texts merged by program. No condition. -/
import Derived.Test.YthnddabcmhplkaaGreatDoorK38
import Derived.Laws.EntriesVeiled
set_option maxHeartbeats 1600000
set_option maxRecDepth 100000
set_option linter.unusedVariables false
namespace Go.Proofs.YthnddabcmhplkaaGreatDoor
open Go Go.RowKit
def addV (q : Nat) : Value := .func (.func 54) #[] #[.pointer (some ⟨q,0,none⟩)]
theorem add_single_any (s q q2 : Nat) (vs : Value) (O : List (Int × Int)) (x : Int) (W : World) (hx : I32 x) (hO : O.length ≤ 1099511627776) (hs : s ≤ q) (h1 : Boxed W q 26 vs) (h2 : OwnR W s vs O) (h3 : Boxed W q2 97 (addV q)) : Calls Tryz.prog 56 #[.int .i32 x,.pointer (some ⟨q2,0,none⟩)] W (AddedR s q W vs (O ++ [(x,x)])) := by
 have c3 := h3.cell
 unfold addV at c3
 have HA := Hd (add_span_any s q vs O x x W hx hx hO hs h1 h2)
 clear h1 h2 h3
 go_enter Tryz.func56,Tryz.ntmps56
 go_wp2_with fail
 refine HA.out.mono ?_
 rintro e w1 ⟨⟨u,rfl⟩,h4,h5⟩
 have HR := Hd (show AddedR s q W vs (O ++ [(x,x)]) (.returned (.tuple #[])) w1 from ⟨⟨_,rfl⟩,h4,h5⟩)
 clear h4 h5
 go_wp2
 go_end0
 exact HR.out
theorem Gr.box {s q b : Nat} {W W' : World} {vs vs' u : Value} {t : TypeId} {O : List (Int × Int)} (h : Gr s q W vs W' vs') (hb : Boxed W b t u) (hq : b ≠ q) (hr : OwnR W s vs O) (ht : t ≠ 51) : Boxed W' b t u :=
 ((h.2 b hb.lt hq (fun e => hb.not_row ht hr.1 e.symm)).1).trans hb
theorem each_letters_any (s q q2 : Nat) (vs : Value) (O : List (Int × Int)) (S : List Int) (W : World) (h3 : S.length ≤ 3) (hS : ∀ x ∈ S,I32 x) (hO : O.length ≤ 1099511627000) (hs : s ≤ q) (hq : q2 ≠ q) (h1 : Boxed W q 26 vs) (h2 : OwnR W s vs O) (hf : Boxed W q2 97 (addV q)) :
  Calls Tryz.prog 34 #[orbA S,.func (.func 56) #[] #[.pointer (some ⟨q2,0,none⟩)]] W fun e W' => (∃ u,e = .returned u) ∧ ∃ vs',Boxed W' q 26 vs' ∧ OwnR W' s vs' (O ++ S.map fun c => (c,c)) ∧ Gr s q W vs W' vs' := by
 refine (each_any _ _ (enters_of Tryz.func56 (by kernel_rfl) rfl) S h3 (fun pre W' => ∃ vs',Boxed W' q 26 vs' ∧ OwnR W' s vs' (O ++ pre.map fun c => (c,c)) ∧ Gr s q W vs W' vs') ?_ ?_ W ⟨vs,h1,by simpa using h2,Gr.refl _ _ _ _⟩)
 ·rintro pre W1 ob ⟨v1,k1,k2,k3⟩
  have hsz : s ≤ W1.heap.size := by have := k1.lt;omega
  have hb := (Below.refl W1.heap.size W1).alloc (Nat.le_refl _) ob
  exact ⟨v1,k1.alloc ob,k2.below hb,k3.trans (Gr.below v1 hsz hb)⟩
 ·rintro pre x W1 hp ⟨v1,k1,k2,k3⟩
  have hx : x ∈ S := hp.subset (by simp)
  have hl := hp.length_le
  rw [List.length_append,List.length_singleton] at hl
  refine (add_single_any s q q2 v1 _ x W1 (hS x hx) (by rw [List.length_append,List.length_map];omega) hs k1 k2 (k3.box hf hq h2 (by decide))).mono ?_
  rintro e W2 ⟨hu,⟨v2,j1,j2,j3⟩,hk⟩
  exact ⟨hu,⟨v2,j1,by simpa using j2,k3.trans j3⟩,hk⟩
def oddR (m : Nat) : List (Int × Int) := (groupsR.take m).flatten.map fun c => (c,c)
def bothR (s : Int × Int) : List (Int × Int) := [s,(s.1 + 32,s.2 + 32)]
def lettersL : List (Int × Int) := oddR 7 ++ greatL.flatMap bothR
theorem oddR_next {m : Nat} {g : List Int} (h : groupsR[m]? = some g) : oddR (m + 1) = oddR m ++ g.map fun c => (c,c) := by
 unfold oddR
 rw [groups_take h]
 simp
theorem greats_next {k : Nat} {x y : Int} (h : greatL[k]? = some (x,y)) : (greatL.take (k + 1)).flatMap bothR = (greatL.take k).flatMap bothR ++ [(x,y)] ++ [(x + 32,y + 32)] := by
 rw [great_take h,List.flatMap_append]
 simp [bothR]
theorem oddR_len (m : Nat) : (oddR m).length ≤ 100 := by
 unfold oddR
 rw [List.length_map]
 have h : m = 0 ∨ m = 1 ∨ m = 2 ∨ m = 3 ∨ m = 4 ∨ m = 5 ∨ m = 6 ∨ 7 ≤ m := by omega
 rcases h with rfl | rfl | rfl | rfl | rfl | rfl | rfl | h
 all_goals first | decide | (rw [List.take_of_length_le (by show 7 ≤ m;exact h)];decide)
theorem greats_len (k : Nat) : ((greatL.take k).flatMap bothR).length ≤ 100 := by
 have h : k = 0 ∨ k = 1 ∨ k = 2 ∨ k = 3 ∨ k = 4 ∨ k = 5 ∨ 6 ≤ k := by omega
 rcases h with rfl | rfl | rfl | rfl | rfl | rfl | h
 all_goals first | decide | (rw [List.take_of_length_le (by show 6 ≤ k;exact h)];decide)
theorem greatL_bound {x y : Int} (h : (x,y) ∈ greatL) : 0 ≤ x ∧ x ≤ 2000 ∧ 0 ≤ y ∧ y ≤ 2000 := by
 unfold greatL at h
 simp only [List.mem_cons,Prod.mk.injEq,List.not_mem_nil,or_false] at h
 omega
theorem groups_i32 {m : Nat} {g : List Int} (h : groupsR[m]? = some g) : ∀ x ∈ g,I32 x := fun x hx => by
 have := inG_of (List.mem_of_getElem? h) hx
 unfold InG at this
 unfold I32
 omega
def LettersPost (w : World) (e : Ending) (w' : World) : Prop := ∃ v,e = .returned v ∧ OwnR w' w.heap.size v lettersL ∧ Below w.heap.size w w'
theorem letters_any (w : World) (hT : TabsT w) : Calls Tryz.prog 39 #[] w (LettersPost w) := by
 obtain ⟨OA,hOA⟩ : ∃ OA : Array Value,(oddL.map oddCells).flatten.toArray = OA := ⟨_,rfl⟩
 obtain ⟨GA,hGA⟩ : ∃ GA : Array Value,(greatL.map spanCells).flatten.toArray = GA := ⟨_,rfl⟩
 have hodd := odd_at
 have hgreat := great_at
 have hOs : OA.size = 28 := by rw [← hOA];rfl
 have hGs : GA.size = 12 := by rw [← hGA];rfl
 obtain ⟨⟨t1,fr1,g1⟩,t2,fr2,g2⟩ := hT
 rw [hOA] at hodd g1
 rw [hGA] at hgreat g2
 have HODD := Hd hodd;have HGREAT := Hd hgreat;have G1 := Hd g1;have G2 := Hd g2;have HOS := Hd hOs;have HGS := Hd hGs
 clear hOA hGA hodd hgreat g1 g2 hOs hGs
 obtain ⟨w1,hw1⟩ : ∃ w1,(w.alloc (.cells #[.slice none 0 0] 26)).alloc (.cells #[addV w.heap.size] 97) = w1 := ⟨_,rfl⟩
 have hb1 : Below w.heap.size w w1 := by rw [← hw1];exact ((Below.refl _ w).alloc (Nat.le_refl _) _).alloc (by simp) _
 have hBq : Boxed w1 w.heap.size 26 (.slice none 0 0) := by rw [← hw1];exact (Boxed.new w _ _).alloc _
 have hBf : Boxed w1 (w.heap.size + 1) 97 (addV w.heap.size) := by
  rw [← hw1]
  have := Boxed.new (w.alloc (.cells #[.slice none 0 0] 26)) 97 (addV w.heap.size)
  simpa using this
 have HB1 := Hd hb1;have HBQ := Hd hBq;have HBF := Hd hBf;have HW1 := Hd hw1
 unfold addV at HW1
 clear hb1 hBq hBf hw1
 have hlt1 : 2 < w.heap.size := (Array.getElem?_eq_some_iff.1 G1.out).1
 have hlt2 : 3 < w.heap.size := (Array.getElem?_eq_some_iff.1 G2.out).1
 go_enter Tryz.func39,Tryz.ntmps39
 go_wp2_with (refine wpList_load_row rfl 88 (.global 2) rfl 2 rfl t1 OA fr1 _ (by rw [HW1.out];exact (HB1.out.block _ hlt1).trans G1.out) Tryz.underlying88 rfl (by rw [HOS.out];kernel_rfl) ?_)
 rw [HW1.out]
 go_loopw [9] (fun i wr => ∃ m : Nat,m ≤ 7 ∧ i = .int .i64 m ∧ ∃ vs,Boxed wr w.heap.size 26 vs ∧ OwnR wr w.heap.size vs (oddR m) ∧ Boxed wr (w.heap.size + 1) 97 (addV w.heap.size) ∧ Below w.heap.size w wr) (fun i _ => 7 - (intOf i).toNat)
 case atStart => exact ⟨0,Nat.zero_le _,rfl,_,HBQ.out,own_none _ _,HBF.out,HB1.out⟩
 case round =>
  obtain ⟨m,hm,rfl,vs,k1,k2,k3,k4⟩ := hrel
  have K1 := Hd k1;have K2 := Hd k2;have K3 := Hd k3;have K4 := Hd k4
  have hsz := k4.size
  clear k1 k2 k3 k4
  by_cases hlt : m < 7
  ·obtain ⟨n,x,y,z,hi,hg,hn,ho⟩ := HODD.out m hlt
   have hlO := oddR_len m
   have hba : ∀ ob,Below wr.heap.size wr (wr.alloc ob) := fun ob => (Below.refl _ _).alloc (Nat.le_refl _) _
   have hc := fun ob => each_letters_any w.heap.size w.heap.size (w.heap.size + 1) vs (oddR m) ([x,y,z].take n) (wr.alloc ob) (by rw [List.length_take];omega) (groups_i32 hg) (by omega) (Nat.le_refl _) (by omega) (K1.out.alloc ob) (K2.out.below (hba ob)) (K3.out.alloc ob)
   rw [ho] at hc
   have HG := Hd hg;have HC := Hd hc
   have hmz : (m : Int) < 7 := by omega
   clear hg ho hc hba
   go_wp2_with fail
   refine (HC.out _).mono ?_
   rintro e w2 ⟨⟨u,rfl⟩,v2,j1,j2,j3⟩
   rw [← oddR_next HG.out] at j2
   have J1 := Hd j1;have J2 := Hd j2
   have J3 := Hd (j3.box (K3.out.alloc _) (by omega) (K2.out.below ((Below.refl _ _).alloc (Nat.le_refl _) _)) (by decide))
   have J4 := Hd (K4.out.trans ((((Below.refl _ _).alloc (Nat.le_refl _) _ : Below wr.heap.size wr _).mono hsz).trans j3.1))
   clear j1 j2 j3
   go_wp2_with fail
   go_roundw
   case rel => exact ⟨m + 1,hlt,by go_num,v2,J1.out,J2.out,J3.out,J4.out⟩
   case measure => simp [intOf];omega
  ·have hm7 : m = 7 := by omega
   subst hm7
   have hmz : ¬ ((7 : Nat) : Int) < 7 := by omega
   go_wp2_with (refine wpList_load_row rfl 92 (.global 3) rfl 3 rfl t2 GA fr2 _ ((K4.out.block _ hlt2).trans G2.out) Tryz.underlying92 rfl (by rw [HGS.out];kernel_rfl) ?_)
   go_loopw [17] (fun i wy => ∃ k : Nat,k ≤ 6 ∧ i = .int .i64 k ∧ ∃ vs,Boxed wy w.heap.size 26 vs ∧ OwnR wy w.heap.size vs (oddR 7 ++ (greatL.take k).flatMap bothR) ∧ Boxed wy (w.heap.size + 1) 97 (addV w.heap.size) ∧ Below w.heap.size w wy) (fun i _ => 6 - (intOf i).toNat)
   case atStart => exact ⟨0,Nat.zero_le _,rfl,_,K1.out,by simpa using K2.out,K3.out,K4.out⟩
   case round =>
    obtain ⟨k,hk,rfl,vy,y1,y2,y3,y4⟩ := hrel
    have Y1 := Hd y1;have Y2 := Hd y2;have Y3 := Hd y3;have Y4 := Hd y4
    have hszy := y4.size
    have c1 := y1.cell
    have c3 := y3.cell
    unfold addV at c3
    clear y1 y2 y3 y4
    by_cases hkl : k < 6
    ·obtain ⟨x,y,hi,hg⟩ := HGREAT.out k hkl
     have hgb := greatL_bound (List.mem_of_getElem? hg)
     have hl1 := oddR_len 7
     have hl2 := greats_len k
     have hx32 : I32 x := by unfold I32;omega
     have hy32 : I32 y := by unfold I32;omega
     have hx32' : I32 (x + 32) := by unfold I32;omega
     have hy32' : I32 (y + 32) := by unfold I32;omega
     have HG := Hd hg
     have hkz : (k : Int) < 6 := by omega
     have hbb : ∀ ob,Below wr.heap.size wr (wr.alloc ob) := fun ob => (Below.refl _ _).alloc (Nat.le_refl _) _
     have hA := fun ob => add_span_any w.heap.size w.heap.size vy _ x y (wr.alloc ob) hx32 hy32 (by rw [List.length_append];omega) (Nat.le_refl _) (Y1.out.alloc ob) (Y2.out.below (hbb ob))
     have c3b : ∀ ob,(wr.alloc ob).cell? ⟨w.heap.size + 1,0,none⟩ = some (.func (.func 54) #[] #[.pointer (some ⟨w.heap.size,0,none⟩)]) := fun ob => (Y3.out.alloc ob).cell
     have HBB := Hd hbb;have HA := Hd hA
     clear hbb hA hg c1 c3
     go_wp2_with fail
     refine (HA.out _).mono ?_
     rintro e w2 ⟨⟨u,rfl⟩,⟨v2,j1,j2,j3⟩,-⟩
     have hE : Whole w2 wr.heap.size 91 #[.int .i32 x,.int .i32 y] := j3.whole (heap_alloc_new wr _) (by have := Y1.out.lt;omega) (own_lt Y2.out _ (Nat.le_refl _))
     have b3 := j3.box (Y3.out.alloc _) (by omega) (Y2.out.below (HBB.out _)) (by decide)
     have hA := add_span_any w.heap.size w.heap.size v2 _ (x + 32) (y + 32) w2 hx32' hy32' (by rw [List.length_append,List.length_append,List.length_singleton];omega) (Nat.le_refl _) j1 j2
     have c3 := b3.cell
     unfold addV at c3
     have r0 := hE.cell 0;have r1 := hE.cell 1
     simp at r0 r1
     have B3 := Hd b3;have HA2 := Hd hA
     have J4 := Hd (Y4.out.trans (((HBB.out _).mono hszy).trans j3.1))
     have J2 := Hd j2
     clear hE b3 hA j1 j2 j3 c3b
     go_wp2_with fail
     refine HA2.out.mono ?_
     rintro e w3 ⟨⟨u3,rfl⟩,⟨v3,j1,j2,j3⟩,-⟩
     have J5 := Hd (J4.out.trans j3.1)
     have J3 := Hd (j3.box B3.out (by omega) J2.out (by decide))
     have hnx := greats_next HG.out
     rw [List.append_assoc] at hnx
     rw [List.append_assoc,List.append_assoc,← hnx] at j2
     clear hnx
     have J1 := Hd j1;have J6 := Hd j2
     clear j1 j2 j3
     go_wp2_with fail
     go_roundw
     case rel => exact ⟨k + 1,hkl,by go_num,v3,J1.out,J6.out,J3.out,J5.out⟩
     case measure => simp [intOf];omega
    ·have hk6 : k = 6 := by omega
     subst hk6
     have hkz : ¬ ((6 : Nat) : Int) < 6 := by omega
     have e : oddR 7 ++ (greatL.take 6).flatMap bothR = lettersL := rfl
     rw [e] at Y2
     clear e c3
     go_wp2_with fail
     go_ret
     exact ⟨_,rfl,Y2.out,Y4.out⟩
end Go.Proofs.YthnddabcmhplkaaGreatDoor
