/- Texts merged by program. No condition. -/
import Derived.Test.YthnddabcmhplkaaGreatDoorK31
import Derived.WalkSpells
set_option maxHeartbeats 1600000
set_option maxRecDepth 100000
set_option linter.unusedVariables false
namespace Go.Proofs.YthnddabcmhplkaaGreatDoor
open Go Go.RowKit
theorem make_ranges (c : Nat) (hc : c ≤ 1000000) :
  ∃ C : Array Value,C.size = c * 2 ∧ ∀ W : World,(Instr.makeSlice 26 (.int .i64 0) (.int .i64 (c : Int))).run Tryz.prog W = .ok (.slice (some ⟨W.heap.size,0,none⟩) 0 c) (W.alloc (.cells C 51)) := by
 obtain ⟨i,hi,h0,h1,h2⟩ := info_parts info_range
 refine ⟨madeCells (Value.agg #[.int .i32 0,.int .i32 0]).cells (c * 2),by rw [size_madeCells],fun W => ?_⟩
 have hr := run_make (P := Tryz.prog) W 26 51 i _ Tryz.underlying26 hi h0 .i64 .i64 0 c (Int.le_refl _) (by omega) (by rw [h2];omega) (by omega)
 simp only [Int.toNat_zero,Int.toNat_natCast,h1] at hr
 exact hr
theorem own_made (W : World) (B c : Nat) (C : Array Value) (hB : B ≤ W.heap.size) (hC : C.size = c * 2) (hc : c ≤ 1000000) : OwnR (W.alloc (.cells C 51)) B (.slice (some ⟨W.heap.size,0,none⟩) 0 c) [] :=
 ⟨⟨rfl,.inr ⟨W.heap.size,c,C,rfl,hB,heap_alloc_new W _,Nat.zero_le _,by unfold maxLen;omega,hC,by simp [cellsR]⟩⟩,by simp [AllI32]⟩
theorem named_any (s : ByteArray) (w : World) : Calls Tryz.prog 125 #[.string s] w (NamedPost s w) := by
 have HS := Hd (spans_any s w)
 have hnil := fun (W : World) (a : Option Addr) (n c : Nat) => Lib.run_eql_slice_nil (P := Tryz.prog) W 198 91 a n c 0 0 Tryz.underlying198
 go_enter Tryz.func125,Tryz.ntmps125
 go_wp2_with fail
 refine HS.out.mono ?_
 rintro e w1 ⟨hb,⟨hn,rfl⟩ | ⟨l,hn,hl,hlen,rfl,hw⟩⟩
 ·have HB := Hd hb;have HN := Hd hn
  clear hb hn
  go_wp2_with fail
  go_ret2
  exact ⟨HB.out,.inl ⟨HN.out,rfl⟩⟩
 ·obtain ⟨C,hC,mk⟩ := make_ranges l.length (by omega)
  have hmd := own_made w1 w1.heap.size l.length C (Nat.le_refl _) hC (by omega)
  have HB := Hd hb;have HN := Hd hn;have HL := Hd hl;have HW := Hd hw;have HMD := Hd hmd
  have hsz := hb.size
  have hwl := (Array.getElem?_eq_some_iff.1 hw).1
  clear hb hn hl hw hC hmd
  go_wp2_with fail
  go_loopw [5,17] (fun vs i wr => ∃ m : Nat,m ≤ l.length ∧ i = .int .i64 m ∧ OwnR wr w1.heap.size vs (l.take m) ∧ Below w1.heap.size w1 wr) (fun _ i _ => l.length - (intOf i).toNat)
  case atStart => exact ⟨0,Nat.zero_le _,rfl,by rw [List.take_zero];exact HMD.out,(Below.refl _ _).alloc (Nat.le_refl _) _⟩
  case round =>
   obtain ⟨m,hm,rfl,hO,hBr⟩ := hrel
   have HO := Hd hO;have HBR := Hd hBr
   have hszr := hBr.size
   clear hO hBr
   by_cases hlt : m < l.length
   ·have hwr : wr.heap[w.heap.size]? = _ := (HBR.out.block _ hwl).trans HW.out
    obtain ⟨x,hx⟩ : ∃ x,l[m] = x := ⟨_,rfl⟩
    have c12 := cellsR_at l m hlt
    rw [hx] at c12
    have d1 : wr.cell? ⟨w.heap.size,m * 2,none⟩ = some (.int .i32 x.1) := by rw [cell_of_row wr _ _ _ _ _ hwr,← c12.1];simp
    have d2 : wr.cell? ⟨w.heap.size,m * 2 + 1,none⟩ = some (.int .i32 x.2) := by rw [cell_of_row wr _ _ _ _ _ hwr,← c12.2];simp
    have hxi := HL.out x (by rw [← hx];exact List.getElem_mem hlt)
    have hsp : l.take (m + 1) = l.take m ++ [x] := by rw [List.take_succ_eq_append_getElem hlt,hx]
    obtain ⟨x1,x2⟩ := x
    simp only at d1 d2
    have HXI := Hd hxi;have HSP := Hd hsp
    clear hwr c12 hx hxi hsp
    go_wp2_with fail
    refine (asRange_any x1 x2 _).mono ?_
    rintro e w2 ⟨rfl,hb2⟩
    have HB2 := Hd ((HBR.out.alloc hszr _).trans (hb2.mono (by simp;omega)))
    have HO2 := Hd (HO.out.below (((Below.refl _ wr).alloc (Nat.le_refl _) _).trans (hb2.mono (by simp))))
    have hsz2 := HB2.out.size
    clear hb2
    go_wp2_with (at_builtin;refine append_rgs_at rfl (.tmp 21) (.tmp 24) rfl w1.heap.size _ (l.take m) rfl (HO2.out.below ((Below.refl _ w2).alloc (Nat.le_refl _) _)) w2.heap.size x1 x2 rfl (rgs_new w2 x1 x2 HXI.out.1 HXI.out.2) (by rw [List.length_take];omega) (by simp;omega) ?_;intro v3 w3 ho3 hg3 _;have HO3 := Hd ho3;have HB3 := Hd ((HB2.out.alloc hsz2 _).grown hg3 (by simp;omega) (fun j hj => (HO2.out.1.lt j hj).1));clear ho3 hg3)
    go_roundw
    case rel => exact ⟨m + 1,by omega,by go_num,by rw [HSP.out];exact HO3.out,HB3.out⟩
    case measure => simp [intOf];omega
   ·have e : l.take m = l := List.take_of_length_le (by omega)
    rw [e] at HO
    clear e
    go_wp2
    go_ret2
    exact ⟨HB.out.trans (HBR.out.mono hsz),.inr ⟨_,l,HN.out,rfl,HO.out.mono hsz⟩⟩
end Go.Proofs.YthnddabcmhplkaaGreatDoor
