/- Texts merged by program. No condition. -/
import Derived.Test.YthnddabcmhplkaaGreatDoorK31
import Derived.Deep.RegionLaw
set_option maxHeartbeats 1600000
set_option maxRecDepth 100000
set_option linter.unusedVariables false
namespace Go.Proofs.YthnddabcmhplkaaGreatDoor
open Go Go.RowKit
theorem step_append_rgs_at {w : World} {ops : Array Oper} {o : Oper} {a : Act} {Kk : Act → World → Prop} {Q : Exit → Act → World → Prop} {E : Prop} (hgd : o.guard = none) (x y : Operand)
  (ho : o.op = .call { callee := .builtin .append,args := #[x,y],argTypes := #[26,26] })
  (base : Nat) (v : Value) (O : List (Int × Int)) (hs : a.eval x = v) (hown : OwnR w base v O)
  (g : Nat) (x1 x2 : Int) (hx : a.eval y = .slice (some ⟨g,0,none⟩) 1 1) (ht : Rgs w (.slice (some ⟨g,0,none⟩) 1 1) [(x1,x2)]) (hn : O.length + 1 ≤ 17592186044416) (hbase : base ≤ w.heap.size)
  (h : ∀ v' w',OwnR w' base v' (O ++ [(x1,x2)]) → w.grownBy w' v.ownBlock → (v'.ownBlock = v.ownBlock ∨ v'.ownBlock = some w.heap.size) → Kk (a.put o.dst v') w') :
  if Region.wanted o (yielded ops a.tmps) = true then Oper.wp Tryz.prog o a w Kk Q else E := by
 have hw : Region.wanted o (yielded ops a.tmps) = true := by
  unfold Region.wanted
  rw [hgd]
 rw [if_pos hw]
 obtain ⟨i,hi,hz,hsize,hby⟩ := info_parts info_range
 obtain ⟨A',c',h1,h2,h3,h4,h5,h6⟩ := ht
 have hall : AllI32 (O ++ [(x1,x2)]) := fun r hr => (List.mem_append.1 hr).elim (hown.2 r) (h6 r)
 injection h1 with e1 e2 e3
 subst e1 e3
 obtain ⟨v',w',hr,g1,g2,-,g3⟩ := run_append_own_at (P := Tryz.prog) w base 26 o.type 51 i (.agg #[.int .i32 0,.int .i32 0]) 2 8 Tryz.underlying26 hi hz hsize hby rfl (by omega) v O.length (cellsR O) hown.1 ⟨g,0,none⟩ 1 1 (cellsR [(x1,x2)]) (by rw [cellsR_length];rfl) (by
  intro j u hu
  obtain ⟨q,hq,hh⟩ := cellsR_get [(x1,x2)] j u hu
  rcases h5 with h5 | ⟨b,off,e,hc⟩
  ·cases h5
  ·have e1 := congrArg Addr.block (Option.some.inj e)
   have e2 := congrArg Addr.off (Option.some.inj e)
   simp only at e1 e2
   subst e1 e2
   rw [addr_plus]
   rcases hh with ⟨rfl,rfl⟩ | ⟨rfl,rfl⟩
   ·exact (hc q hq).1
   ·have := (hc q hq).2
    rw [show 0 + (q * 2 + 1) = 0 + q * 2 + 1 by omega]
    exact this) (cellsR_one _) (by unfold maxLen;omega) (by omega) hbase
 unfold Oper.wp execOp
 simp only [ho,resolve,invoke,builtin,Sem.run_bind,Sem.run_pure,Result.andThen_ok,List.map_toArray,List.map_cons,List.map_nil,hs,hx,hr]
 refine h v' w' ⟨?_,hall⟩ g2 g3
 rw [cellsR_append,List.length_append]
 exact g1
theorem span_after {s q : Nat} {W w2 w3 : World} {vs v1 : Value} {O O' : List (Int × Int)} {x y : Int} {tmp : Obj} (h1 : Boxed W q 26 vs) (h2 : OwnR W s vs O) (hs : s ≤ q) (hsz : s ≤ W.heap.size) (hB : Below W.heap.size W w2)
  (hE : Whole w2 W.heap.size 91 #[.int .i32 x,.int .i32 y]) (ho : OwnR w3 s v1 O') (hg : (w2.alloc tmp).grownBy w3 vs.ownBlock) (hat : v1.ownBlock = vs.ownBlock ∨ v1.ownBlock = some (w2.alloc tmp).heap.size) :
  AddedR s q W vs O' (.returned (.tuple #[])) (w3.setCell ⟨q,0,none⟩ v1) ∧ w3.cell? ⟨q,0,none⟩ = some vs ∧ w3.frozen? ⟨q,0,none⟩ = false ∧ w3.cell? ⟨W.heap.size,0,none⟩ = some (.int .i32 x) ∧ w3.cell? ⟨W.heap.size,1,none⟩ = some (.int .i32 y) := by
 have b2 : Boxed w2 q 26 vs := (hB.block _ h1.lt).trans h1
 have o2 : OwnR w2 s vs O := h2.below hB
 obtain ⟨hu,⟨v',k1,k2,k3⟩,k4⟩ := added_of b2 o2 hs ho hg hat (.tuple #[])
 have hX := (b2.appended (by decide) o2.1 (Nat.le_trans hsz hB.size) hs ho.1 hg).1
 have hE3 : Whole w3 W.heap.size 91 #[.int .i32 x,.int .i32 y] := Whole.grown (Whole.alloc hE _) hg (own_lt h2 _ (Nat.le_refl _))
 exact ⟨⟨hu,⟨v',k1,k2,(Gr.below vs hsz hB).trans k3⟩,(KeepsO.below hB).trans k4⟩,hX.cell,hX.frozen,hE3.cell 0,hE3.cell 1⟩
theorem add_span_any (s q : Nat) (vs : Value) (O : List (Int × Int)) (x y : Int) (W : World) (hx : I32 x) (hy : I32 y) (hO : O.length ≤ 1099511627776) (hs : s ≤ q) (h1 : Boxed W q 26 vs) (h2 : OwnR W s vs O) : Calls Tryz.prog 54 #[.agg #[.int .i32 x,.int .i32 y],.pointer (some ⟨q,0,none⟩)] W (AddedR s q W vs (O ++ [(x,y)])) := by
 have hsz : s ≤ W.heap.size := by have := h1.lt;omega
 have H1 := Hd h1;have H2 := Hd h2
 have c1 := h1.cell
 clear h1 h2
 have hl1 : O.length + 1 ≤ 17592186044416 := by omega
 obtain ⟨W1,hW1⟩ : ∃ W1,W.alloc (.cells #[.int .i32 x,.int .i32 y] 91) = W1 := ⟨_,rfl⟩
 have hb1 : Below W.heap.size W W1 := by rw [← hW1];exact (Below.refl _ W).alloc (Nat.le_refl _) _
 have hE : Whole W1 W.heap.size 91 #[.int .i32 x,.int .i32 y] := by rw [← hW1];exact heap_alloc_new W _
 have c1 := (hb1.cell (p := ⟨q,0,none⟩) H1.out.lt).trans c1
 have r0 := hE.cell 0;have r1 := hE.cell 1
 simp at r0 r1
 have HB1 := Hd hb1;have HE := Hd hE;have HW1 := Hd hW1
 clear hb1 hE hW1
 go_enter Tryz.func54,Tryz.ntmps54
 go_upto_region 1 with (fail)
 rw [HW1.out]
 go_region_law (first | ((go_simp;refine (asRange_any x y _).mono ?_;rintro e w2 ⟨rfl,hb⟩;have HB2 := Hd (HB1.out.drew.trans (hb.mono HB1.out.size));have HE2 := Hd ((hb.block _ HE.out.lt).trans HE.out);have k0 : w2.cell? ⟨q,0,none⟩ = some vs := (hb.cell (p := ⟨q,0,none⟩) (World.block_lt_of_cell? W1 _ c1)).trans c1;have k1 : w2.cell? ⟨W.heap.size,0,none⟩ = some (.int .i32 x) := (hb.cell (p := ⟨W.heap.size,0,none⟩) HE.out.lt).trans r0;have k2 : w2.cell? ⟨W.heap.size,1,none⟩ = some (.int .i32 y) := (hb.cell (p := ⟨W.heap.size,1,none⟩) HE.out.lt).trans r1;have hz2 := HB2.out.size;have k0a : ∀ ob,(w2.alloc ob).cell? ⟨q,0,none⟩ = some vs := (fun ob => (((Below.refl _ w2).alloc (Nat.le_refl _) ob).cell (p := ⟨q,0,none⟩) (Nat.lt_of_lt_of_le H1.out.lt hz2)).trans k0);have hz3 : ∀ ob,s ≤ (w2.alloc ob).heap.size := (fun ob => by simp;omega);clear hb)) | ((refine step_append_rgs_at rfl (.tmp 3) (.tmp 6) rfl s vs O rfl (H2.out.below (HB2.out.alloc hz2 _)) w2.heap.size x y rfl (rgs_new w2 x y hx hy) hl1 (hz3 _) ?_;intro v1 w3 ho1 hg1 hat;obtain ⟨n1,m1,c1',rfl⟩ := ho1.slice;have HQ := span_after H1.out H2.out hs hsz HB2.out HE2.out ho1 hg1 hat;have HR := Hd HQ.1;have k0 := HQ.2.1;have kf := HQ.2.2.1;have k1 := HQ.2.2.2.1;have k2 := HQ.2.2.2.2;clear ho1 hg1 hat HQ)))
 all_goals go_end0
 all_goals exact HR.out
end Go.Proofs.YthnddabcmhplkaaGreatDoor
