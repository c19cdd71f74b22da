/- Texts merged by program. No condition. -/
import Derived.Shelf.Spec.SlicesGrow
import Derived.Test.YthnddabcmhplkaaGreatDoorK13
set_option maxHeartbeats 1600000
set_option maxRecDepth 100000
namespace Go.Proofs
open Go.Shelf
def Tryz.growR_ren : Go.Shelf.Ren := ⟨fun | 4 => 85 | n => n,fun | 22 => 26 | 25 => 51 | 3 => 3 | 4 => 4 | 9 => 9 | 20 => 20 | 0 => 0 | n => n,fun | n => n⟩
theorem Tryz.growR : Go.Proofs.Lays8.n4 Tryz.prog Tryz.growR_ren := {
 mixed := by kernel_rfl
 f4 := ⟨Tryz.f85.name,by decide,Tryz.func85.trans (congrArg some (by kernel_rfl))⟩
 t0 := Tryz.underlying0
 a0 := Tryz.isAgg0
 z0 := Tryz.sizeOf0
 v0 := Tryz.zeroValue0
 t3 := Tryz.underlying3
 a3 := Tryz.isAgg3
 z3 := Tryz.sizeOf3
 v3 := Tryz.zeroValue3
 t4 := Tryz.underlying4
 a4 := Tryz.isAgg4
 z4 := Tryz.sizeOf4
 v4 := Tryz.zeroValue4
 t9 := Tryz.underlying9
 a9 := Tryz.isAgg9
 z9 := Tryz.sizeOf9
 v9 := Tryz.zeroValue9
 t20 := Tryz.underlying20
 a20 := Tryz.isAgg20
 z20 := Tryz.sizeOf20
 v20 := Tryz.zeroValue20
 t22 := Tryz.underlying26
 a22 := Tryz.isAgg26
 z22 := Tryz.sizeOf26
 v22 := Tryz.zeroValue26 }
end Go.Proofs
set_option linter.unusedVariables false
namespace Go.Proofs.YthnddabcmhplkaaGreatDoor
open Go Go.RowKit
theorem grow_any (n : Nat) (w : World) (hn : n ≤ 1099511627776) : Calls Tryz.prog 85 #[.slice none 0 0,.int .i64 n] w fun e w' => ∃ v,e = .returned v ∧ OwnR w' w.heap.size v [] ∧ Below w.heap.size w w' := by
 obtain ⟨i,hi,hz,hsize,hby⟩ := info_parts info_range
 by_cases h0 : n = 0
 ·subst h0
  refine (Any8.slices_Grow_room Tryz.growR none 0 0 0 w (Nat.le_refl _) (by decide) (by decide) (Nat.le_refl _)).mono ?_
  rintro e w' ⟨rfl,rfl⟩
  exact ⟨_,rfl,own_none _ _,Below.refl _ _⟩
 ·refine (Any8.slices_Grow_grow Tryz.growR i (.agg #[.int .i32 0,.int .i32 0]) hi hz (by omega) none 0 0 n [] w (Nat.le_refl _) (by omega) (by rw [hby];omega) (by omega) (by simp) (fun _ => rfl) (fun a e => by cases e)).mono ?_
  rintro e w' ⟨rfl,rfl⟩
  have hb : ∀ o,Below w.heap.size w (w.drew.alloc o) := fun o => (Below.refl _ w).drew.alloc (Nat.le_refl _) o
  refine ⟨_,rfl,⟨⟨rfl,.inr ⟨w.heap.size,_,_,rfl,Nat.le_refl _,heap_alloc_new w.drew _,Nat.zero_le _,grownCap_le_maxLen w _ _ _ (by unfold maxLen;omega),?_,rfl⟩⟩,by simp [AllI32]⟩,hb _⟩
  have hge := grownCap_ge w (0 + n) 0 (Tryz.growR_ren.t 25)
  have h2 : (Value.agg #[.int .i32 0,.int .i32 0]).cells.size = 2 := rfl
  simp only [Array.size_append,List.size_toArray,size_zeroCells,h2,List.length_nil]
  omega
theorem flat_take (ls : List (List (Int × Int))) (m : Nat) (h : m < ls.length) : (ls.take (m + 1)).flatten = (ls.take m).flatten ++ ls[m] := by
 rw [List.take_succ_eq_append_getElem h,List.flatten_append,List.flatten_cons,List.flatten_nil,List.append_nil]
theorem flat_length : ∀ ls : List (List (Int × Int)),ls.flatten.length = totL ls
 | [] => rfl
 | l :: ls => by
  rw [List.flatten_cons,List.length_append,flat_length ls]
  simp [totL]
theorem totL_le (ls : List (List (Int × Int))) (m : Nat) : totL (ls.take m) ≤ totL ls := by
 rw [← flat_length,← flat_length]
 have : ls.flatten = (ls.take m).flatten ++ (ls.drop m).flatten := by rw [← List.flatten_append,List.take_append_drop]
 rw [this,List.length_append]
 omega
theorem totL_next (ls : List (List (Int × Int))) (m : Nat) (h : m < ls.length) : totL (ls.take (m + 1)) = totL (ls.take m) + ls[m].length := by
 rw [← flat_length,← flat_length,flat_take ls m h,List.length_append]
theorem concat_any (v : Value) (ls : List (List (Int × Int))) (w : World) (h : Lss w v ls) (hn : totL ls ≤ 1099511627776) :
  Calls Tryz.prog 65 #[v] w fun e w' => ∃ v',e = .returned v' ∧ OwnR w' w.heap.size v' ls.flatten ∧ Below w.heap.size w w' := by
 have HL := Hd h
 obtain ⟨b,o,c,rfl,h2,h3,-⟩ := h
 have hlen : ls.length ≤ 9223372036854775807 := by unfold maxLen at h3;omega
 clear h2 h3
 go_enter Tryz.func65,Tryz.ntmps65
 go_wp2_with fail
 go_loopw [3,11] (fun vz i wr => ∃ m : Nat,m ≤ ls.length ∧ i = .int .i64 m ∧ vz = .int .i64 (totL (ls.take m) : Nat) ∧ wr = w) (fun _ i _ => ls.length - (intOf i).toNat)
 case atStart => exact ⟨0,Nat.zero_le _,rfl,rfl,rfl⟩
 case round =>
  obtain ⟨m,hm,rfl,rfl,hw⟩ := hrel
  have hw := hw.symm
  subst hw
  by_cases hlt : m < ls.length
  ·obtain ⟨b',o',c',e,-,-,hc⟩ := HL.out
   injection e with e1 e2 e3
   injection e1 with e1
   injection e1 with e1 e4
   subst e1 e4 e3
   obtain ⟨u,hu,hr⟩ := hc m hlt
   have hT := totL_next ls m hlt
   have hT2 := totL_le ls (m + 1)
   obtain ⟨l,hl⟩ : ∃ l,ls[m] = l := ⟨_,rfl⟩
   rw [hl] at hr hT
   obtain ⟨a,cl,rfl,-⟩ := hr
   obtain ⟨z,hz⟩ : ∃ z,totL (ls.take m) = z := ⟨_,rfl⟩
   rw [hz] at hT ⊢
   have x1 : IntKind.i64.wrap ((z : Int) + (l.length : Int)) = (z : Int) + (l.length : Int) := wrap_in _ (by omega)
   have x2 : ¬ (z : Int) + (l.length : Int) < 0 := by omega
   have HTT := Hd hT
   clear hl hc hT hT2 hz
   go_wp2
   go_roundw
   case rel => exact ⟨m + 1,hlt,by go_num,by rw [HTT.out];go_num,trivial⟩
   case measure => simp [intOf];omega
  ·have e : ls.take m = ls := List.take_of_length_le (by omega)
   rw [e]
   obtain ⟨z,hz⟩ : ∃ z,totL ls = z := ⟨_,rfl⟩
   have HG := Hd (grow_any z w (by omega))
   rw [hz]
   have HZ := Hd hz
   clear e hz
   go_wp2_with fail
   refine HG.out.mono ?_
   rintro e w1 ⟨v1,rfl,ho1,hb1⟩
   have HO1 := Hd ho1;have HB1 := Hd hb1
   obtain ⟨A1,c1,rfl,-⟩ := ho1.rgs
   clear ho1 hb1
   go_wp2_with fail
   go_loopw [6,27] (fun vs i wy => ∃ k : Nat,k ≤ ls.length ∧ i = .int .i64 k ∧ OwnR wy w.heap.size vs (ls.take k).flatten ∧ Below w.heap.size w wy) (fun _ i _ => ls.length - (intOf i).toNat)
   case atStart => exact ⟨0,Nat.zero_le _,rfl,HO1.out,HB1.out⟩
   case round =>
    obtain ⟨k,hk,rfl,hO,hB⟩ := hrel
    have HO := Hd hO;have HB := Hd hB
    clear hO hB
    by_cases hkl : k < ls.length
    ·obtain ⟨b',o',c',e,-,-,hc⟩ := HL.out
     injection e with e1 e2 e3
     injection e1 with e1
     injection e1 with e1 e4
     subst e1 e4 e3
     obtain ⟨u,hu0,hr⟩ := hc k hkl
     have hu := (HB.out.cell (World.block_lt_of_cell? w _ hu0)).trans hu0
     have hF := flat_take ls k hkl
     have hT := totL_next ls k hkl
     have hT2 := totL_le ls (k + 1)
     obtain ⟨l,hl⟩ : ∃ l,ls[k] = l := ⟨_,rfl⟩
     rw [hl] at hr hF hT
     have hXL := flat_length (ls.take k)
     have hO := HO.out
     obtain ⟨X,hX⟩ : ∃ X,(ls.take k).flatten = X := ⟨_,rfl⟩
     rw [hX] at hF hXL hO
     have HO := Hd hO
     have HXL := Hd (show X.length + l.length ≤ 1099511627776 by omega)
     have HR := Hd (hr.below HB.out);have HF := Hd hF;have HTT := Hd (And.intro hT hT2)
     obtain ⟨a,cl,rfl,-⟩ := hr
     obtain ⟨A2,c2,hvs,-⟩ := HO.out.rgs
     subst hvs
     clear hu0 hl hc hF hT hT2 hX hXL hO
     go_wp2_with (at_builtin;refine append_rgs rfl (.tmp 31) (.tmp 32) rfl w.heap.size (.slice A2 X.length c2) X rfl HO.out a l.length cl l rfl HR.out ?b1 ?b2 ?_)
     case b1 => have := HXL.out;omega
     case b2 => exact HB.out.size
     intro v3 w3 ho3 hg3
     have HO3 := Hd ho3;have HB3 := Hd (HB.out.grown hg3 HB.out.size (fun j hj => (HO.out.1.lt j hj).1))
     clear ho3 hg3
     go_wp2
     go_roundw
     case rel => exact ⟨k + 1,hkl,by go_num,by rw [HF.out];exact HO3.out,HB3.out⟩
     case measure => simp [intOf];omega
    ·have e : ls.take k = ls := List.take_of_length_le (by omega)
     have ho := HO.out
     rw [e] at ho
     have HO' := Hd ho
     clear ho e
     go_wp2
     go_ret
     exact ⟨_,rfl,HO'.out,HB.out⟩
end Go.Proofs.YthnddabcmhplkaaGreatDoor
