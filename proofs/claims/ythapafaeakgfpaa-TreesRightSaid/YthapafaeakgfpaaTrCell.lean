/- Trees in cells of their own: set anew, handed back. No condition. -/
import Derived.Test.YthapafaeakgfpaaTrRow
import Derived.Laws.Rows
set_option linter.unusedVariables false
namespace Go.Proofs.Ythapafaeakgfpaa
open Go Go.RowKit

/-- Ten cells, set anew. -/
def set10 (w2 : World) (b : Nat) (x0 x1 x2 x3 x4 x5 x6 x7 x8 x9 : Value) : World := (((((((((w2.setCell ⟨b, 0, none⟩ x0).setCell ⟨b, 1, none⟩ x1).setCell ⟨b, 2, none⟩ x2).setCell ⟨b, 3, none⟩ x3).setCell ⟨b, 4, none⟩ x4).setCell ⟨b, 5, none⟩ x5).setCell ⟨b, 6, none⟩ x6).setCell ⟨b, 7, none⟩ x7).setCell ⟨b, 8, none⟩ x8).setCell ⟨b, 9, none⟩ x9
theorem set10_whole {w : World} {b : Nat} {t : TypeId} {y0 y1 y2 y3 y4 y5 y6 y7 y8 y9 : Value} (h : Whole w b t #[y0, y1, y2, y3, y4, y5, y6, y7, y8, y9]) (x0 x1 x2 x3 x4 x5 x6 x7 x8 x9 : Value) : Whole (set10 w b x0 x1 x2 x3 x4 x5 x6 x7 x8 x9) b t #[x0, x1, x2, x3, x4, x5, x6, x7, x8, x9] := by
  have h10 := (((((((((h.store 0 x0).store 1 x1).store 2 x2).store 3 x3).store 4 x4).store 5 x5).store 6 x6).store 7 x7).store 8 x8).store 9 x9
  simp only [List.setIfInBounds_toArray, List.set_cons_zero, List.set_cons_succ] at h10
  exact h10
theorem set10_same (w : World) (b : Nat) (x0 x1 x2 x3 x4 x5 x6 x7 x8 x9 : Value) : SameOn (fun k => k ≠ b) w (set10 w b x0 x1 x2 x3 x4 x5 x6 x7 x8 x9) := fun k hk _ => by
  unfold set10
  have h : ∀ (W : World) (j : Nat) (u : Value), (W.setCell ⟨b, j, none⟩ u).heap[k]? = W.heap[k]? := fun W j u => Below.heap_setCell W _ u k hk
  simp only [h]
theorem set10_size (w : World) (b : Nat) (x0 x1 x2 x3 x4 x5 x6 x7 x8 x9 : Value) : (set10 w b x0 x1 x2 x3 x4 x5 x6 x7 x8 x9).heap.size = w.heap.size := by
  unfold set10
  simp [World.setCell]
theorem set10_below {B b : Nat} {w0 w : World} (h : Below B w0 w) (hb : B ≤ b) (x0 x1 x2 x3 x4 x5 x6 x7 x8 x9 : Value) : Below B w0 (set10 w b x0 x1 x2 x3 x4 x5 x6 x7 x8 x9) :=
  (((((((((h.setCell (p := ⟨b, 0, none⟩) hb x0).setCell (p := ⟨b, 1, none⟩) hb x1).setCell (p := ⟨b, 2, none⟩) hb x2).setCell (p := ⟨b, 3, none⟩) hb x3).setCell (p := ⟨b, 4, none⟩) hb x4).setCell (p := ⟨b, 5, none⟩) hb x5).setCell (p := ⟨b, 6, none⟩) hb x6).setCell (p := ⟨b, 7, none⟩) hb x7).setCell (p := ⟨b, 8, none⟩) hb x8).setCell (p := ⟨b, 9, none⟩) hb x9
/-- A function that hands back a tree out of its result's cells. -/
theorem tree_ret {f : Func} (hres : f.results = #[.cell 2 27]) {post : Ending → World → Prop} {w2 : World} {tmps : Array Value} (b : Nat) {x0 x1 x2 x3 x4 x5 x6 x7 x8 x9 y0 y1 y2 y3 y4 y5 y6 y7 y8 y9 : Value} (hp : tmps.getD 2 undef = .pointer (some ⟨b, 0, none⟩))
    (hR : Whole w2 b 27 #[y0, y1, y2, y3, y4, y5, y6, y7, y8, y9]) (hpost : post (.returned (.agg #[x0, x1, x2, x3, x4, x5, x6, x7, x8, x9])) (set10 w2 b x0 x1 x2 x3 x4 x5 x6 x7 x8 x9)) : bodyPost Try.prog f post Exit.ret { tmps := tmps, defers := [] } (set10 w2 b x0 x1 x2 x3 x4 x5 x6 x7 x8 x9) :=
  bodyPost_ret (v := .agg #[x0, x1, x2, x3, x4, x5, x6, x7, x8, x9]) (results_cell_row hres tmps _ b 27 _ (0, 0) _ hp (set10_whole hR _ _ _ _ _ _ _ _ _ _) Try.underlying27 rfl (by kernel_rfl)) rfl hpost
theorem Whole.ten {W : World} {b : Nat} {t : TypeId} {x0 x1 x2 x3 x4 x5 x6 x7 x8 x9 : Value} (h : Whole W b t #[x0, x1, x2, x3, x4, x5, x6, x7, x8, x9]) : Box10 W b x0 x1 x2 x3 x4 x5 x6 x7 x8 x9 :=
  ⟨h.cell 0, h.cell 1, h.cell 2, h.cell 3, h.cell 4, h.cell 5, h.cell 6, h.cell 7, h.cell 8, h.cell 9⟩
def Free10 (W : World) (b : Nat) : Prop := W.frozen? ⟨b, 0, none⟩ = false ∧ W.frozen? ⟨b, 1, none⟩ = false ∧ W.frozen? ⟨b, 2, none⟩ = false ∧ W.frozen? ⟨b, 3, none⟩ = false ∧ W.frozen? ⟨b, 4, none⟩ = false ∧ W.frozen? ⟨b, 5, none⟩ = false ∧ W.frozen? ⟨b, 6, none⟩ = false ∧ W.frozen? ⟨b, 7, none⟩ = false ∧ W.frozen? ⟨b, 8, none⟩ = false ∧ W.frozen? ⟨b, 9, none⟩ = false
theorem whole_free {W : World} {b : Nat} {t : TypeId} {cs : Array Value} (h : Whole W b t cs) : Free10 W b := ⟨h.free 0, h.free 1, h.free 2, h.free 3, h.free 4, h.free 5, h.free 6, h.free 7, h.free 8, h.free 9⟩
/-- A tree's value, cell by cell. -/
theorem TreF.ten {F : Nat → Prop} {w : World} {t : Tr} {v : Value} (h : TreF F w t v) : ∃ kv sv, v = .agg #[.int .i64 t.fld.op, kv, .int .i32 t.fld.rune, sv, .int .i64 t.fld.at', .int .i64 t.fld.cap, .string t.fld.name, .int .i64 t.fld.min, .int .i64 t.fld.max, .bool t.fld.lazy] ∧ (∃ a n c, kv = .slice a n c) ∧ (∃ a n c, sv = .slice a n c) := by
  rw [treF_iff] at h
  obtain ⟨kv, sv, rfl, ⟨⟨a, c, rfl, -⟩, -⟩, -, A, c', rfl, -⟩ := h
  exact ⟨_, _, rfl, ⟨_, _, _, rfl⟩, ⟨_, _, _, rfl⟩⟩
end Go.Proofs.Ythapafaeakgfpaa
