/- Texts merged by program. No condition. -/
import Derived.Test.YthnddabcmhplkaaGreatDoorK14
import Derived.WalkLawsBesides
set_option maxHeartbeats 1600000
set_option maxRecDepth 100000
set_option linter.unusedVariables false
namespace Go.Proofs.YthnddabcmhplkaaGreatDoor
open Go Go.RowKit
theorem tk_set3 (w : World) (p : Nat) (x0 x1 x2 : Value) : w.grownBy (set3 w p x0 x1 x2) (some p) :=
 ⟨rfl,rfl,rfl,by rw [set3_size];exact Nat.le_refl _,fun k _ hn => set3_other (fun e => hn (by rw [e])) _ _ _⟩
theorem catch_idle (p q r : Addr) (w : World) : CallsD Tryz.prog 62 #[.pointer (some p),.pointer (some q),.pointer (some r)] .returning w fun e u' w' => e = .returned (.tuple #[]) ∧ u' = .returning ∧ w' = w := by
 have ha : ∀ W,(Instr.typeAssert .nilIface 20 32 true).run Tryz.prog W = .ok (.tuple #[.agg #[.int .i64 0,.int .i64 0,.int .i64 0],.bool false]) W := fun W => by kernel_rfl
 have hb : ∀ W,(Instr.typeAssert .nilIface 20 105 true).run Tryz.prog W = .ok (.tuple #[.agg #[],.bool false]) W := fun W => by kernel_rfl
 refine callsD_of_wpS Tryz.func62 rfl fun c₀ cs hu => ?_
 apply wpS_seq
 apply wpS_region
 simp [wpOpsS,go_sem,recoverD,hu,Tryz.ntmps62,Exit.thenS]
 refine wpS_of_wp ?_
 simp only [Array.replicate_succ,Array.replicate_zero,List.push_toArray,List.nil_append,List.cons_append]
 go_wp2
 clear ha hb
 cases c₀
 simp_all [bodyPostS,results,Tryz.results62]
theorem catch_wrong (p q r : Nat) (x1 x2 x3 c a b : Int) (older : List PanicEntry) (w : World) (hr : Whole w p 32 #[.int .i64 x1,.int .i64 x2,.int .i64 x3]) :
  CallsD Tryz.prog 62 #[.pointer (some ⟨p,0,none⟩),.pointer (some ⟨q,0,none⟩),.pointer (some ⟨r,0,none⟩)] (.panicking ({ v := .iface 32 (.agg #[.int .i64 c,.int .i64 a,.int .i64 b]),recovered := false } :: older)) w fun e u' w' =>
   e = .returned (.tuple #[]) ∧ u' = .panicking ({ v := .iface 32 (.agg #[.int .i64 c,.int .i64 a,.int .i64 b]),recovered := true } :: older) ∧ Whole w' p 32 #[.int .i64 c,.int .i64 a,.int .i64 b] ∧ w.grownBy w' (some p) := by
 have ha : ∀ W v,(Instr.typeAssert (.iface 32 v) 20 32 true).run Tryz.prog W = .ok (.tuple #[v,.bool true]) W := fun W v => by kernel_rfl
 obtain ⟨w1,hw1⟩ : ∃ w1,w.alloc (.cells #[.int .i64 c,.int .i64 a,.int .i64 b] 32) = w1 := ⟨_,rfl⟩
 have hb1 : Below w.heap.size w w1 := by rw [← hw1];exact (Below.refl _ w).alloc (Nat.le_refl _) _
 have hE1 : Whole w1 w.heap.size 32 #[.int .i64 c,.int .i64 a,.int .i64 b] := by rw [← hw1];exact heap_alloc_new w _
 have HP1 := Hd (hr.below hb1 hr.lt);have HW1 := Hd hw1;have HE1 := Hd hE1;have HG1 := Hd (tk_below hb1 (some p));have HLT := Hd hr.lt
 clear hw1 hb1 hE1 hr
 refine callsD_of_wpS Tryz.func62 rfl fun c₀ cs hu => ?_
 apply wpS_seq
 apply wpS_region
 simp [wpOpsS,go_sem,recoverD,hu,Tryz.ntmps62,Exit.thenS]
 refine wpS_of_wp ?_
 simp only [Array.replicate_succ,Array.replicate_zero,List.push_toArray,List.nil_append,List.cons_append]
 go_upto_region 3 with (fail)
 rw [HW1.out]
 obtain ⟨e0,e1,e2,f0,f1,f2⟩ := HE1.out.three
 obtain ⟨g0,g1,g2,m0,m1,m2⟩ := HP1.out.three
 go_wp2
 have HX := Hd (And.intro (set3_whole HP1.out (.int .i64 c) (.int .i64 a) (.int .i64 b)) (tk_trans HG1.out (tk_set3 w1 p (.int .i64 c) (.int .i64 a) (.int .i64 b))))
 clear ha e0 e1 e2 f0 f1 f2 g0 g1 g2 m0 m1 m2 HP1 HE1 HG1 HW1
 cases c₀
 simp_all [bodyPostS,results,Tryz.results62]
 exact HX.out
theorem catch_ended (p q r : Nat) (s : ByteArray) (i : Nat) (x1 x2 x3 : Int) (older : List PanicEntry) (w : World) (hr : Whole w p 32 #[.int .i64 x1,.int .i64 x2,.int .i64 x3])
  (hi : w.cell? ⟨q,0,none⟩ = some (.int .i64 i)) (hs : w.cell? ⟨r,0,none⟩ = some (.string s)) :
  CallsD Tryz.prog 62 #[.pointer (some ⟨p,0,none⟩),.pointer (some ⟨q,0,none⟩),.pointer (some ⟨r,0,none⟩)] (.panicking ({ v := endedV,recovered := false } :: older)) w fun e u' w' =>
   e = .returned (.tuple #[]) ∧ u' = .panicking ({ v := endedV,recovered := true } :: older) ∧ Whole w' p 32 #[.int .i64 71,.int .i64 i,.int .i64 s.size] ∧ w.grownBy w' (some p) := by
 have ha : ∀ W,(Instr.typeAssert (.iface 105 (.agg #[])) 20 32 true).run Tryz.prog W = .ok (.tuple #[.agg #[.int .i64 0,.int .i64 0,.int .i64 0],.bool false]) W := fun W => by kernel_rfl
 have hb : ∀ W,(Instr.typeAssert (.iface 105 (.agg #[])) 20 105 true).run Tryz.prog W = .ok (.tuple #[.agg #[],.bool true]) W := fun W => by kernel_rfl
 obtain ⟨w1,hw1⟩ : ∃ w1,w.alloc (.cells #[] 105) = w1 := ⟨_,rfl⟩
 have hb1 : Below w.heap.size w w1 := by rw [← hw1];exact (Below.refl _ w).alloc (Nat.le_refl _) _
 have hi1 := (hb1.cell (p := ⟨q,0,none⟩) (World.block_lt_of_cell? w _ hi)).trans hi
 have hs1 := (hb1.cell (p := ⟨r,0,none⟩) (World.block_lt_of_cell? w _ hs)).trans hs
 have HP1 := Hd (hr.below hb1 hr.lt);have HW1 := Hd hw1;have HG1 := Hd (tk_below hb1 (some p))
 clear hw1 hb1 hr hi hs
 unfold endedV
 refine callsD_of_wpS Tryz.func62 rfl fun c₀ cs hu => ?_
 apply wpS_seq
 apply wpS_region
 simp [wpOpsS,go_sem,recoverD,hu,Tryz.ntmps62,Exit.thenS]
 refine wpS_of_wp ?_
 simp only [Array.replicate_succ,Array.replicate_zero,List.push_toArray,List.nil_append,List.cons_append]
 go_upto_region 6 with (fail)
 rw [HW1.out]
 obtain ⟨g0,g1,g2,m0,m1,m2⟩ := HP1.out.three
 go_wp2
 have HX := Hd (And.intro (set3_whole HP1.out (.int .i64 71) (.int .i64 i) (.int .i64 s.size)) (tk_trans HG1.out (tk_set3 w1 p (.int .i64 71) (.int .i64 i) (.int .i64 s.size))))
 clear ha hb g0 g1 g2 m0 m1 m2 hi1 hs1 HP1 HG1 HW1
 cases c₀
 simp_all [bodyPostS,results,Tryz.results62]
 exact HX.out
end Go.Proofs.YthnddabcmhplkaaGreatDoor
