/- Texts merged by program: PShaped. No condition. -/
import Derived.Test.YthnddabcmhplkaaDoorK29
import Derived.Test.YthnddabcmhplkaaDoorK32
set_option linter.unusedVariables false
/- Is it right but for its groups' numbers and names, its depth and its weight: the program's Shaped, at any tree. -/
namespace Go.Proofs.YthnddabcmhplkaaDoor
open Go Go.RowKit Go.Shelf
attribute [local go_sem] Oper.semAt_some

theorem shaped_parts (t : Tr) : ∀ d, ShapedP t ↔ ∀ q ∈ partsT t d, SoundF q.1.fld q.1.kids.length := by
  refine Tr.ind (P := fun t => ∀ d, ShapedP t ↔ ∀ q ∈ partsT t d, SoundF q.1.fld q.1.kids.length) (fun t ih d => ?_) t
  rw [shapedP_iff, partsT_eq]
  constructor
  · rintro ⟨h1, h2, h3, h4⟩ q hq
    rcases List.mem_cons.1 hq with rfl | hq
    · exact ⟨h1, h2, h3⟩
    · obtain ⟨l, hl, hq⟩ := List.mem_flatten.1 hq
      obtain ⟨k, hk, rfl⟩ := List.mem_map.1 hl
      exact (ih k hk (d + 1)).1 (h4 k hk) q hq
  · intro h
    obtain ⟨h1, h2, h3⟩ := h (t, d) (by simp)
    exact ⟨h1, h2, h3, fun k hk => (ih k hk (d + 1)).2 fun q hq => h q (List.mem_cons_of_mem _ (List.mem_flatten.2 ⟨_, List.mem_map.2 ⟨k, hk, rfl⟩, hq⟩))⟩
theorem keys_snoc {W0 : World} (G : List (Part W0)) (x : Part W0) : keys (G ++ [x]) = keys G ++ [x.key] := by simp [keys]
theorem others_below {W W' : World} (h : Below W.heap.size W W') : KeepsOthers W W' := KeepsOthers.of_grownBy (row := none) ⟨h.os, h.tape, h.output, h.size, fun k hk _ => h.block k hk⟩ (fun j o e _ => by cases e)
theorem whole_boxed {W W' : World} {B : Nat} {t : TypeId} {v : Value} (h : Boxed W B t v) (hb : Below W.heap.size W W') : Boxed W' B t v := (hb.block B (Array.getElem?_eq_some_iff.1 h).1).trans h
/-- The part that a round is told, in its box. -/
def PartAt {W0 : World} (S : Nat) (mk : Part W0 → Nat → Act) (x : Part W0) (a' : Act) (W : World) : Prop := ∃ (Bx : Nat) (cs : Array Value), S ≤ Bx ∧ x.1.2.1 = .agg cs ∧ Whole W Bx 27 cs ∧ a' = mk x Bx
theorem partAt_own {W0 : World} {S B : Nat} {mk : Part W0 → Nat → Act} (x : Part W0) (a' : Act) : OwnFrom B (fun (_ : Unit) W => PartAt S mk x a' W) := by
  rintro s A A' row ⟨Bx, cs, e1, e2, e3, e4⟩ hg hr
  exact ⟨Bx, cs, e1, e2, e3.grown hg (fun e => by obtain ⟨o, ho, hc⟩ := (hr _ e).2; rw [show A.heap[Bx]? = _ from e3] at ho; cases ho; cases hc), e4⟩
/-- A part's value laid open. -/
theorem part_opened {W0 : World} (x : Part W0) : ∃ (A : Option Addr) (n c : Nat) (a2 : Option Addr) (s c2 : Nat), x.1.2.1 = .agg #[.int .i64 x.1.1.fld.op, .slice A n c, .int .i32 x.1.1.fld.rune, .slice a2 s c2, .int .i64 x.1.1.fld.at', .int .i64 x.1.1.fld.cap, .string x.1.1.fld.name, .int .i64 x.1.1.fld.min, .int .i64 x.1.1.fld.max, .bool x.1.1.fld.lazy] := by
  obtain ⟨A, n, c, a2, s, c2, -, -, e, -⟩ := x.2.1.opened
  exact ⟨A, n, c, a2, s, c2, e⟩
/-- The box of a bool, and what lay. -/
def BoxB (w : World) (b : Bool) (W : World) : Prop := Boxed W (w.heap.size + 1) 4 (.bool b) ∧ Below w.heap.size w W
theorem boxB_own {β : Type} (w : World) {B : Nat} (hB : w.heap.size ≤ B) (f : β → Bool) : OwnFrom B (fun s W => BoxB w (f s) W) :=
  OwnFrom.and (Own.from (boxed_own (w.heap.size + 1) _ (fun s => Value.bool (f s))) _) (ownFrom_below (Nat.le_refl _) hB)

end Go.Proofs.YthnddabcmhplkaaDoor
