/- Texts merged by program. No condition. -/
import Derived.Test.YthnddabcmhplkaaGreatDoorK47
import Derived.Test.YthnddabcmhplkaaGreatDoorK29
set_option linter.unusedVariables false
namespace Go.Proofs.YthnddabcmhplkaaGreatDoor
open Go Go.RowKit Go.Shelf
attribute [local go_sem] Oper.semAt_some
theorem shaped_parts (t : Tr) : ∀ d,ShapedP t ↔ ∀ q ∈ partsT t d,SoundF q.1.fld q.1.kids.length := by
 refine Tr.ind (P := fun t => ∀ d,ShapedP t ↔ ∀ q ∈ partsT t d,SoundF q.1.fld q.1.kids.length) (fun t ih d => ?_) t
 rw [shapedP_iff,partsT_eq]
 constructor
 ·rintro ⟨h1,h2,h3,h4⟩ q hq
  rcases List.mem_cons.1 hq with rfl | hq
  ·exact ⟨h1,h2,h3⟩
  ·obtain ⟨l,hl,hq⟩ := List.mem_flatten.1 hq
   obtain ⟨k,hk,rfl⟩ := List.mem_map.1 hl
   exact (ih k hk (d + 1)).1 (h4 k hk) q hq
 ·intro h
  obtain ⟨h1,h2,h3⟩ := h (t,d) (by simp)
  exact ⟨h1,h2,h3,fun k hk => (ih k hk (d + 1)).2 fun q hq => h q (List.mem_cons_of_mem _ (List.mem_flatten.2 ⟨_,List.mem_map.2 ⟨k,hk,rfl⟩,hq⟩))⟩
theorem keys_snoc {W0 : World} (G : List (Part W0)) (x : Part W0) : keys (G ++ [x]) = keys G ++ [x.key] := by simp [keys]
theorem others_below {W W' : World} (h : Below W.heap.size W W') : KeepsOthers W W' := KeepsOthers.of_grownBy (row := none) ⟨h.os,h.tape,h.output,h.size,fun k hk _ => h.block k hk⟩ (fun j o e _ => by cases e)
def PartAt {W0 : World} (S : Nat) (mk : Part W0 → Nat → Act) (x : Part W0) (a' : Act) (W : World) : Prop := ∃ (Bx : Nat) (cs : Array Value),S ≤ Bx ∧ x.1.2.1 = .agg cs ∧ Whole W Bx 29 cs ∧ a' = mk x Bx
theorem partAt_own {W0 : World} {S B : Nat} {mk : Part W0 → Nat → Act} (x : Part W0) (a' : Act) : OwnFrom B (fun (_ : Unit) W => PartAt S mk x a' W) := by
 rintro s A A' row ⟨Bx,cs,e1,e2,e3,e4⟩ hg hr
 exact ⟨Bx,cs,e1,e2,e3.grown hg (fun e => by obtain ⟨o,ho,hc⟩ := (hr _ e).2;rw [show A.heap[Bx]? = _ from e3] at ho;cases ho;cases hc),e4⟩
theorem part_opened {W0 : World} (x : Part W0) : ∃ (A : Option Addr) (n c : Nat) (a2 : Option Addr) (s c2 : Nat),x.1.2.1 = .agg #[.int .i64 x.1.1.fld.op,.slice A n c,.int .i32 x.1.1.fld.rune,.slice a2 s c2,.int .i64 x.1.1.fld.at',.int .i64 x.1.1.fld.cap,.string x.1.1.fld.name,.int .i64 x.1.1.fld.min,.int .i64 x.1.1.fld.max,.bool x.1.1.fld.lazy] := by
 obtain ⟨A,n,c,a2,s,c2,-,-,e,-⟩ := x.2.1.opened
 exact ⟨A,n,c,a2,s,c2,e⟩
end Go.Proofs.YthnddabcmhplkaaGreatDoor
