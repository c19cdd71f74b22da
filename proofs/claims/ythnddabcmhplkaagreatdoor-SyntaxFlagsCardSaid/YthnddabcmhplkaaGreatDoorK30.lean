/- Texts merged by program. No condition. -/
import Derived.Test.YthnddabcmhplkaaGreatDoorK13
import Derived.RangeFuncBox
set_option maxHeartbeats 1600000
set_option maxRecDepth 100000
set_option linter.unusedVariables false
namespace Go.Proofs.YthnddabcmhplkaaGreatDoor
open Go Go.RowKit
def KeepsO (W W' : World) : Prop := ∀ (g : Nat) (cs : Array Value),W.heap[g]? = some (Obj.cells cs 75 (0,0)) → W'.heap[g]? = some (Obj.cells cs 75 (0,0))
theorem KeepsO.trans {A B C : World} (h : KeepsO A B) (k : KeepsO B C) : KeepsO A C := fun g cs hg => k g cs (h g cs hg)
theorem KeepsO.grown {W W' : World} {row : Option Nat} (hg : W.grownBy W' row) (hr : ∀ r,row = some r → ∀ cs : Array Value,W.heap[r]? ≠ some (Obj.cells cs 75 (0,0))) : KeepsO W W' := fun g cs h => by
 refine (hg.block g (Array.getElem?_eq_some_iff.1 h).1 ?_).trans h
 intro e
 exact hr g e.symm cs h
theorem KeepsO.below {W W' : World} (hb : Below W.heap.size W W') : KeepsO W W' := fun g cs h => (hb.block g (Array.getElem?_eq_some_iff.1 h).1).trans h
theorem KeepsO.row {W W' : World} {base size n : Nat} {e : TypeId} {v : Value} {xs : List Value} (hr : W.ownsRow base e size v n xs) (he : e ≠ 75) (hg : W.grownBy W' v.ownBlock) : KeepsO W W' :=
 KeepsO.grown hg fun r e' cs h => by
  rcases hr.2 with ⟨rfl,_⟩ | ⟨q,cap,cur,rfl,_,hh,_⟩
  ·simp [Value.ownBlock] at e'
  ·obtain rfl : q = r := by simpa [Value.ownBlock] using e'
   rw [hh] at h
   injection h with h
   injection h with _ h
   exact he h
theorem KeepsO.set {W : World} {B : Nat} {t : TypeId} {v : Value} (h : Boxed W B t v) (ht : t ≠ 75) (u : Value) : KeepsO W (W.setCell ⟨B,0,none⟩ u) :=
 KeepsO.grown (grownBy_setCell' W B u) fun r e cs h' => by
  cases e
  unfold Boxed at h
  rw [h'] at h
  injection h with h
  injection h with _ h
  exact ht h.symm
def BoxN (W : World) (s q : Nat) (O : List Int) : Prop := ∃ vs,Boxed W q 63 vs ∧ OwnN W s vs O
theorem BoxN.kept {W W' : World} {s q : Nat} {O : List Int} (h : BoxN W s q O) (hb : Below W.heap.size W W') : BoxN W' s q O := by
 obtain ⟨vs,h1,h2⟩ := h
 exact ⟨vs,(hb.block _ h1.lt).trans h1,h2.below hb⟩
def AddedN (W : World) (s q : Nat) (O : List Int) (e : Ending) (W' : World) : Prop := (∃ u,e = .returned u) ∧ BoxN W' s q O ∧ KeepsO W W' ∧ Below s W W'
theorem OwnN.slice {w : World} {B : Nat} {v : Value} {l : List Int} (h : OwnN w B v l) : ∃ a n c,v = .slice a n c := by
 rcases own_slice1 h.1 with ⟨rfl,hn⟩ | ⟨g,c,rfl,-⟩
 ·exact ⟨_,_,_,rfl⟩
 ·exact ⟨_,_,_,rfl⟩
theorem OwnR.slice {w : World} {B : Nat} {v : Value} {l : List (Int × Int)} (h : OwnR w B v l) : ∃ a n c,v = .slice a n c := by
 rcases own_slice2 h.1 with ⟨rfl,hn⟩ | ⟨g,c,rfl,-⟩
 ·exact ⟨_,_,_,rfl⟩
 ·exact ⟨_,_,_,rfl⟩
theorem add_rune_any (s q : Nat) (O : List Int) (x : Int) (W : World) (hx : I32 x) (hO : O.length ≤ 1099511627776) (hs : s ≤ q) (hq : BoxN W s q O) : Calls Tryz.prog 35 #[.int .i32 x,.pointer (some ⟨q,0,none⟩)] W (AddedN W s q (O ++ [x])) := by
 obtain ⟨vs,h1,h2⟩ := hq
 have hsz : s ≤ W.heap.size := by have := h1.lt;omega
 have c1 := h1.cell
 have H1 := Hd h1;have H2 := Hd h2
 clear h1 h2
 go_enter Tryz.func35,Tryz.ntmps35
 go_wp2_with (at_builtin;refine append_rns rfl (.tmp 3) (.tmp 5) rfl s vs O rfl (H2.out.below ((Below.refl _ W).alloc (Nat.le_refl _) _)) (some ⟨W.heap.size,0,none⟩) 1 1 [x] rfl (rns_new W x hx) (by simp;omega) (by simp;omega) ?_;intro v1 w1 ho1 hg1;obtain ⟨n1,m1,c1',rfl⟩ := ho1.slice;have HO1 := Hd ho1;have HG1 := Hd hg1;have HA := Hd (H1.out.appended (by decide) H2.out.1 hsz hs ho1.1 hg1);have d1 := HA.out.1.cell;have d2 := HA.out.1.frozen;clear ho1 hg1)
 have hK : KeepsO W (w1.setCell ⟨q,0,none⟩ (.slice n1 m1 c1')) := ((KeepsO.below ((Below.refl _ W).alloc (Nat.le_refl _) _)).trans (KeepsO.row (H2.out.below ((Below.refl _ W).alloc (Nat.le_refl _) _)).1 (by decide) HG1.out)).trans (KeepsO.set HA.out.1 (by decide) _)
 go_end0
 exact ⟨⟨_,rfl⟩,⟨_,HA.out.2.1,HA.out.2.2.1,HO1.out.2⟩,hK,HA.out.2.2.2.2⟩
theorem each_any (g : Nat) (p : Value) (eg : ∀ args w,(callFunc g args).run Tryz.prog w = .ok (.enter g args) w) (S : List Int) (h3 : S.length ≤ 3) (J : List Int → World → Prop)
  (hA : ∀ pre W ob,J pre W → J pre (W.alloc ob))
  (hstep : ∀ pre x W,pre ++ [x] <+: S → J pre W → Calls Tryz.prog g #[.int .i32 x,p] W fun e W' => (∃ u,e = .returned u) ∧ J (pre ++ [x]) W' ∧ KeepsO W W')
  (w : World) (h0 : J [] w) :
  Calls Tryz.prog 34 #[orbA S,.func (.func g) #[] #[p]] w fun e w' => (∃ u,e = .returned u) ∧ J S w' := by
 have HST := Hd hstep
 obtain ⟨x,hx⟩ : ∃ x,S.getD 0 0 = x := ⟨_,rfl⟩
 obtain ⟨y,hy⟩ : ∃ y,S.getD 1 0 = y := ⟨_,rfl⟩
 obtain ⟨z,hz⟩ : ∃ z,S.getD 2 0 = z := ⟨_,rfl⟩
 obtain ⟨n,hn⟩ : ∃ n,S.length = n := ⟨_,rfl⟩
 have hat : ∀ k (h : k < n),S[k]'(by omega) = if k = 0 then x else if k = 1 then y else z := fun k h => by
  have hk : k = 0 ∨ k = 1 ∨ k = 2 := by omega
  rcases hk with rfl | rfl | rfl
  ·rw [← hx];simp [List.getD,List.getElem?_eq_getElem (show 0 < S.length by omega)]
  ·rw [← hy];simp [List.getD,List.getElem?_eq_getElem (show 1 < S.length by omega)]
  ·rw [← hz];simp [List.getD,List.getElem?_eq_getElem (show 2 < S.length by omega)]
 unfold orbA
 rw [hx,hy,hz,hn]
 have hs : ∀ k,k < n → ∃ d,(k = 0 → d = x) ∧ (k = 1 → d = y) ∧ (k = 2 → d = z) ∧ S.take (k + 1) = S.take k ++ [d] := fun k h =>
  ⟨S[k]'(by omega),fun e => by rw [hat k h,if_pos e],fun e => by rw [hat k h,if_neg (by omega),if_pos e],fun e => by rw [hat k h,if_neg (by omega),if_neg (by omega)],List.take_succ_eq_append_getElem (by omega)⟩
 have HS := Hd hs;have HN := Hd hn
 have hn3 : n ≤ 3 := by omega
 have HJ0 := Hd (hA _ _ (.cells #[.int .i64 n,.int .i32 x,.int .i32 y,.int .i32 z] 75) h0)
 have hWh : Whole (w.alloc (.cells #[.int .i64 n,.int .i32 x,.int .i32 y,.int .i32 z] 75)) w.heap.size 75 #[.int .i64 n,.int .i32 x,.int .i32 y,.int .i32 z] := heap_alloc_new w _
 have HWH := Hd hWh
 clear hx hy hz hat hstep hA h0 hWh hn hs h3
 go_enter Tryz.func34,Tryz.ntmps34
 go_wp2
 go_loopw [7] (fun i wr => ∃ k : Nat,k ≤ n ∧ i = .int .i64 k ∧ J (S.take k) wr ∧ Whole wr w.heap.size 75 #[.int .i64 n,.int .i32 x,.int .i32 y,.int .i32 z]) (fun i _ => n - (intOf i).toNat)
 case atStart => exact ⟨0,Nat.zero_le _,rfl,by rw [List.take_zero];exact HJ0.out,HWH.out⟩
 case round =>
  obtain ⟨k,hk,rfl,hJ,hW⟩ := hrel
  have HJ := Hd hJ;have HW := Hd hW
  have c0 := hW.cell 0;have c1 := hW.cell 1;have c2 := hW.cell 2;have c3 := hW.cell 3
  simp at c0 c1 c2 c3
  clear hJ hW
  by_cases hlt : k < n
  ·have hkk : k = 0 ∨ k = 1 ∨ k = 2 := by omega
   obtain ⟨d,d0,d1,d2,hsp⟩ := HS.out k hlt
   have HSP := Hd hsp
   clear hsp
   rcases hkk with rfl | rfl | rfl
   all_goals
    obtain rfl : d = _ := by first | exact d0 rfl | exact d1 rfl | exact d2 rfl
    clear d0 d1 d2
    go_wp2_with fail
    refine (HST.out _ _ _ (HSP.out ▸ List.take_prefix _ _) HJ.out).mono ?_
    rintro e w2 ⟨⟨u,rfl⟩,hj,hk2⟩
    rw [← HSP.out] at hj
    have HJ2 := Hd hj
    have HW2 := Hd (hk2 _ _ HW.out)
    clear hj hk2
    go_wp2_with fail
    go_roundw
    case rel => exact ⟨_,hlt,by go_num,HJ2.out,HW2.out⟩
    case measure => simp [intOf];omega
  ·have e : S.take k = S := List.take_of_length_le (by rw [HN.out];omega)
   have hj := HJ.out
   rw [e] at hj
   have HJ2 := Hd hj
   clear hj e
   go_wp2
   go_end0
   exact ⟨⟨_,rfl⟩,HJ2.out⟩
end Go.Proofs.YthnddabcmhplkaaGreatDoor
