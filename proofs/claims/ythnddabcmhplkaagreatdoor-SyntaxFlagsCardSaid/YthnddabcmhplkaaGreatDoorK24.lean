/- Texts merged by program. No condition. -/
import Derived.Test.YthnddabcmhplkaaGreatDoorK23
import Derived.RangeFuncNested
import Derived.RangeFuncBound
import Derived.Shelf.RegionOpen
import Derived.OwnWalkIn
import Derived.LoopNIn
import Derived.LoopIn
set_option maxHeartbeats 2000000
set_option maxRecDepth 100000
set_option linter.unusedVariables false
namespace Go.Proofs.YthnddabcmhplkaaGreatDoor
open Go Go.RowKit Go.Shelf
attribute [local go_sem] Oper.semAt_some
abbrev Tell : Type := { x : Int × Int // (0 ≤ x.1 ∧ x.1 ≤ 1114112) ∧ (-1073741824 ≤ x.2 ∧ x.2 ≤ 1073741824) }
abbrev Tell.vals (x : Tell) : Array Value := #[.int .i32 x.1.1,.int .i64 x.1.2]
def tells (G : List Tell) : List (Int × Int) := G.map (·.1)
theorem tells_snoc (G : List Tell) (x : Tell) : tells (G ++ [x]) = tells G ++ [x.1] := by simp [tells]
theorem tells_length (G : List Tell) : (tells G).length = G.length := by simp [tells]
theorem edRow_at {w : World} {g : Nat} {D : List (Int × Int)} (hc : ∀ i (h : i < D.length),w.cell? ⟨g,i * 2,none⟩ = some (.int .i32 D[i].1) ∧ w.cell? ⟨g,i * 2 + 1,none⟩ = some (.int .i64 D[i].2)) (k : Nat) (h : k < D.length) :
  ∃ a m,D[k] = (a,m) ∧ w.cell? ⟨g,k * 2,none⟩ = some (.int .i32 a) ∧ w.cell? ⟨g,k * 2 + 1,none⟩ = some (.int .i64 m) :=
 ⟨D[k].1,D[k].2,rfl,(hc k h).1,(hc k h).2⟩
theorem iter_in (n l Bx : Nat) (hn : 1 ≤ n) (v : Value) (ls : List (List (Int × Int))) (htot : totL ls ≤ 536870912) (J Jx : List Tell → World → Prop) (W : World)
  (hJ : AbidesFrom W.heap.size J)
  (hY : ∀ pre x W1,J pre W1 → pre.length < (endsL ls).length → YieldAt Fence.wide (n - 1) Tryz.prog l (Tell.vals x) W1 fun e W' =>
   (e = .returned (.bool true) ∧ J (pre ++ [x]) W' ∧ KeepsEd W1 W') ∨ (e = .returned (.bool false) ∧ Jx (pre ++ [x]) W'))
  (hBx : W.cell? ⟨Bx,0,none⟩ = some v) (hL : Lss W v ls) (h0 : J [] W) :
  CallsIn Fence.wide n Tryz.prog 95 #[.func (.yield l) #[] #[],.pointer (some ⟨Bx,0,none⟩)] W fun e W' => (∃ v,e = .returned v) ∧
   ((∃ xs,(RiseS (tells xs) ∧ ∀ c,cntE (tells xs) c = cntE (endsL ls) c) ∧ J xs W') ∨ (∃ pre,True ∧ Jx pre W')) := by
 have hends := ends_any v ls W hL (by omega)
 have hEl := endsL_length ls
 have HL := Hd hL
 obtain ⟨b,o,c,rfl,-⟩ := hL
 refine callsIn_of_wp Tryz.func95 rfl trivial ?_ rfl
 simp only [Tryz.ntmps95,List.size_toArray,List.length_cons,List.length_nil,Nat.reduceAdd,Nat.reduceSub,Array.replicate_succ,Array.replicate_zero,List.push_toArray,List.append_toArray,List.nil_append,List.cons_append]
 gi_wp2_with (refine ⟨trivial,?_⟩;gi_at_call 96;refine (callsIn_wide.2 hends).mono ?_;rintro e W1 ⟨v1,rfl,hO,hB1⟩)
 have HE := Hd hB1
 refine ⟨trivial,?_⟩
 gi_at_call 97
 refine (callsIn_wide.2 (sort_any W.heap.size v1 (endsL ls) W1 hO hB1.size (by omega))).mono ?_
 rintro e W2 ⟨rfl,D,hP,hD,hR,hB2⟩
 have hB := hB1.trans hB2
 have hJ2 : J [] W2 := hJ [] W W2 none h0 ⟨hB.os,hB.tape,hB.output,hB.size,fun k hk _ => hB.block k hk⟩ (fun r e => by cases e)
 have hok : ∀ e ∈ D,EdgeOk e := fun e he => endsL_ok ls e (hP.mem_iff.1 he)
 have hDl : D.length = (endsL ls).length := hP.length_eq
 have hcn : ∀ c,cntE D c = cntE (endsL ls) c := fun c => cntE_perm hP c
 have hDn : D.length ≤ 1073741824 := by omega
 have HJ2 := Hd hJ2;have HOK := Hd hok;have HDL := Hd hDl;have HCN := Hd hcn;have HD := Hd hD;have HR := Hd hR;have HY := Hd hY
 clear hends hO hB1 hB2 hB hJ2 hok hDl hcn hP hD h0 hJ HE hEl hY
 rcases hR with ⟨rfl,rfl⟩ | ⟨g,cg,cs,rfl,-,hg1,hg2,-⟩
 ·gi_wp2
  gi_loopw [4] (fun i wr => i = .int .i64 0 ∧ J [] wr) (fun _ _ => 0)
  case atStart => exact ⟨rfl,HJ2.out⟩
  case round =>
   obtain ⟨rfl,hJs⟩ := hrel
   gi_wp2
   go_end0
   exact ⟨⟨_,rfl⟩,.inl ⟨[],⟨List.Pairwise.nil,HCN.out⟩,hJs⟩⟩
 ·have hDz : D.length ≤ 9223372036854775807 := by omega
  clear hg1 hg2
  gi_wp2
  gi_loopw [4] (fun i wr => ∃ (k : Nat) (G : List Tell),i = .int .i64 k ∧ EdRow wr W.heap.size (.slice (some ⟨g,0,none⟩) D.length cg) D ∧ J G wr ∧ Told D (tells G) k) (fun i _ => D.length - (intOf i).toNat)
  case atStart => exact ⟨0,[],rfl,HR.out,HJ2.out,told_start D⟩
  case round =>
   obtain ⟨k,G,rfl,hRr,hJG,hT⟩ := hrel
   have HRR := Hd hRr;have HJG := Hd hJG;have HT := Hd hT
   have hkD := hT.1
   clear hT hJG
   rcases hRr with ⟨hv,-⟩ | ⟨g',c',cs',hv,-,-,-,-,hc⟩
   ·cases hv
   injection hv with e1 e2 e3
   injection e1 with e1
   injection e1 with e1
   subst e1 e3
   by_cases hk : k < D.length
   ·obtain ⟨a,m0,hDk,c1,c2⟩ := edRow_at hc k hk
    have HC := Hd hc
    have HDK := Hd hDk
    clear hc hDk c2
    gi_wp2
    gi_loopw [4,6] (fun i mm wy => ∃ (j : Nat) (m : Int),i = .int .i64 j ∧ mm = .int .i64 m ∧ wy = wr ∧ Run D k j a m) (fun i _ _ => D.length - (intOf i).toNat)
    case atStart => exact ⟨k,0,rfl,rfl,rfl,run_start D k a hkD⟩
    case round =>
     obtain ⟨j,m,rfl,rfl,hwy,hRun⟩ := hrel
     subst hwy
     have HRUN := Hd hRun
     have hjD := hRun.2.1
     have hkj := hRun.1
     have hm1 := hRun.2.2.2.2.1
     have hm2 := hRun.2.2.2.2.2
     clear hRun
     by_cases hj : j < D.length
     ·obtain ⟨a',m',hDj,d1,d2⟩ := edRow_at HC.out j hj
      have hok := HOK.out _ (List.getElem_mem hj)
      rw [hDj] at hok
      obtain ⟨ok1,ok2,ok3,ok4⟩ := hok
      simp only at ok1 ok2 ok3 ok4
      have HDJ := Hd hDj
      clear hDj
      by_cases ha : a' = a
      ·subst ha
       gi_wp2
       go_roundw
       case rel =>
        refine ⟨j + 1,m + m',by go_num,by first | rfl | (congr 1;omega) | go_num,by trivial,?_⟩
        have := run_step HRUN.out hj (by rw [HDJ.out]) (by rw [HDJ.out];exact ⟨ok3,ok4⟩)
        rw [HDJ.out] at this
        exact this
       case measure => simp [intOf];omega
      ·have hend : ∀ h : j < D.length,D[j].1 ≠ a := fun h => by rw [HDJ.out];exact ha
       have hkj' : k < j := by
        rcases Nat.lt_or_ge k j with h | h
        ·exact h
        ·obtain rfl : j = k := by omega
         have h1 := HDJ.out
         rw [HDK.out] at h1
         injection h1 with h1 _
         exact absurd h1.symm ha
       have hT' := told_step HT.out HRUN.out hkj' HD.out HOK.out hend
       have HT' := Hd hT'
       have hGl := HT.out.2.2.2.2.2
       rw [tells_length] at hGl
       obtain ⟨x,hx⟩ : ∃ x : Tell,x.1 = (a,m) := ⟨⟨(a,m),by
        have h := HOK.out _ (List.getElem_mem hk)
        rw [HDK.out] at h
        obtain ⟨h1,h2,_,_⟩ := h
        exact ⟨⟨h1,h2⟩,by simp only;omega,by simp only;omega⟩⟩,rfl⟩
       obtain ⟨fn,tmps,assign,body,hy,hR⟩ := HY.out G x _ HJG.out (by have := HDL.out;omega)
       have hvals : Tell.vals x = #[.int .i32 a,.int .i64 m] := by unfold Tell.vals;rw [hx]
       rw [hvals] at hy
       have HX := Hd hx
       clear hT' hx hvals hend hGl
       gi_wp2
       refine hR.mono ?_
       rintro e W3 (⟨rfl,hJ3,hk3⟩ | ⟨rfl,hJx3⟩)
       ·have HJ3 := Hd hJ3;have HK3 := Hd hk3
        clear hJ3 hk3
        gi_wp2
        go_roundw
        case rel => exact ⟨j,G ++ [x],rfl,HRR.out.keeps HK3.out,HJ3.out,by rw [tells_snoc,HX.out];exact HT'.out⟩
        case measure => simp [intOf];omega
       ·have HJX := Hd hJx3
        clear hJx3
        gi_wp2
        refine bodyPost_ret (results_none rfl _ _ _) rfl ?_
        exact ⟨⟨_,rfl⟩,.inr ⟨_,trivial,HJX.out⟩⟩
     ·have hend : ∀ h : j < D.length,D[j].1 ≠ a := fun h => absurd h hj
      have hkj' : k < j := by omega
      have hT' := told_step HT.out HRUN.out hkj' HD.out HOK.out hend
      have HT' := Hd hT'
      have hGl := HT.out.2.2.2.2.2
      rw [tells_length] at hGl
      obtain ⟨x,hx⟩ : ∃ x : Tell,x.1 = (a,m) := ⟨⟨(a,m),by
       have h := HOK.out _ (List.getElem_mem hk)
       rw [HDK.out] at h
       obtain ⟨h1,h2,_,_⟩ := h
       exact ⟨⟨h1,h2⟩,by simp only;omega,by simp only;omega⟩⟩,rfl⟩
      obtain ⟨fn,tmps,assign,body,hy,hR⟩ := HY.out G x _ HJG.out (by have := HDL.out;omega)
      have hvals : Tell.vals x = #[.int .i32 a,.int .i64 m] := by unfold Tell.vals;rw [hx]
      rw [hvals] at hy
      have HX := Hd hx
      clear hT' hx hvals hend hGl
      gi_wp2
      refine hR.mono ?_
      rintro e W3 (⟨rfl,hJ3,hk3⟩ | ⟨rfl,hJx3⟩)
      ·have HJ3 := Hd hJ3;have HK3 := Hd hk3
       clear hJ3 hk3
       gi_wp2
       go_roundw
       case rel => exact ⟨j,G ++ [x],rfl,HRR.out.keeps HK3.out,HJ3.out,by rw [tells_snoc,HX.out];exact HT'.out⟩
       case measure => simp [intOf];omega
      ·have HJX := Hd hJx3
       clear hJx3
       gi_wp2
       refine bodyPost_ret (results_none rfl _ _ _) rfl ?_
       exact ⟨⟨_,rfl⟩,.inr ⟨_,trivial,HJX.out⟩⟩
   ·have hkE : k = D.length := by omega
    subst hkE
    gi_wp2
    go_end0
    have hta := told_all HT.out
    exact ⟨⟨_,rfl⟩,.inl ⟨G,⟨hta.1,fun c => by rw [hta.2 c,HCN.out]⟩,HJG.out⟩⟩
end Go.Proofs.YthnddabcmhplkaaGreatDoor
