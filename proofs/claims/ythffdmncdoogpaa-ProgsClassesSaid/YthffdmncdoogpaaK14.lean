/- Texts merged by program: PgGather. No condition. -/
import Derived.Test.YthffdmncdoogpaaK13
import Derived.Shelf.SlIter.Collect
import Derived.Maps.AppendAt
set_option linter.unusedVariables false
/- slices.AppendSeq and slices.Collect of runes, at whatever iterator. -/
namespace Go.Proofs.Ythffdmncdoogpaa
open Go Go.RowKit Go.Maps Go.Sort Go.Shelf

def gaAssign : Code := (Code.region 2 #[{ dst := some 5, op := Op.assign (Operand.tmp 7), type := 21, pos := "iter.go:51", after := #[], guard := none }] false)
def gaBody : Code := (Code.block 1 (Code.region 3 #[{ dst := some 8, op := Op.load 25 (Operand.tmp 2), type := 25, pos := "iter.go:52", after := #[], guard := none }, { dst := some 9, op := Op.move (Operand.tmp 5), type := 21, pos := "iter.go:52", after := #[], guard := none }, { dst := some 10, op := Op.buildSlice 25 1 #[(0, Operand.tmp 9)], type := 25, pos := "iter.go:52", after := #[{ on := 1, ground := Ground.data }], guard := none }, { dst := some 11, op := Op.call { callee := Callee.builtin Builtin.append, args := #[Operand.tmp 8, Operand.tmp 10], argTypes := #[25, 25] }, type := 25, pos := "iter.go:52", after := #[{ on := 0, ground := Ground.data }, { on := 2, ground := Ground.data }], guard := none }, { dst := none, op := Op.store 25 (Operand.tmp 2) (Operand.tmp 11), type := 0, pos := "iter.go:52", after := #[{ on := 3, ground := Ground.data }, { on := 3, ground := Ground.chain }, { on := 0, ground := Ground.phase }, { on := 1, ground := Ground.phase }, { on := 2, ground := Ground.phase }, { on := 3, ground := Ground.phase }], guard := none }] false))
/-- The loop's own record: the slice is boxed in block q; sv is the iterator. -/
def gaRec (fn : FuncId) (sv : Value) (q d : Nat) (st : LoopState) : Loop :=
  { state := st, pending := none, fn, tmps := #[.slice none 0 0, sv, .pointer (some ⟨q, 0, none⟩), undef, .slice none 0 0, undef, sv, undef, undef, undef, undef, undef, undef], params := #[7], assign := gaAssign, body := gaBody, defers := d }
/-- Between two rounds: the box holds what has come, in a row of the call's own; nothing that lay before has turned. -/
structure Gath (w0 : World) (fn : FuncId) (sv : Value) (q l d : Nat) (ss : List Int) (W : World) : Prop where
  box : ∃ v, W.heap[q]? = some (.cells #[v] 25 (0, 0)) ∧ W.ownsRow w0.heap.size 21 1 v ss.length (ss.map encN)
  lp : W.heap[l]? = some (.loop (gaRec fn sv q d .ready))
  dl : W.heap[d]? = some (.deferred (some []))
  below : Below w0.heap.size w0 W
theorem gath_abides (w0 : World) (fn : FuncId) (sv : Value) (q l d B : Nat) (hB : w0.heap.size ≤ B) : AbidesFrom B (Gath w0 fn sv q l d) := fun s W W' row h hg hrow => by
  have hrow' : ∀ r, row = some r → ∃ o : Obj, W.heap[r]? = some o ∧ o.isWalk = true := fun r e => (hrow r e).2
  obtain ⟨v, hv, hr⟩ := h.box
  exact ⟨⟨v, (grownBy_keeps hg hrow' hv rfl).trans hv, ownsRow_abides_a hr hg hrow'⟩, (grownBy_keeps hg hrow' h.lp rfl).trans h.lp, (grownBy_keeps hg hrow' h.dl rfl).trans h.dl,
    h.below.grown hg h.below.size (fun k e => Nat.le_trans hB (hrow k e).1)⟩
theorem rn_ne : (25 : TypeId) ≠ 21 := by decide

set_option maxRecDepth 100000 in
set_option maxHeartbeats 2000000 in
theorem gath_round (F : Fence) (m : Nat) (w0 : World) (fn : FuncId) (hfn : F.fn fn) (sv : Value) (q l d : Nat) (hql : q ≠ l) (hdl : d ≠ l) (hdq : d ≠ q) (h0q : w0.heap.size ≤ q) (h0l : w0.heap.size ≤ l)
    (N : Nat) (hN : N * 8 ≤ 140737488355328) (ss : List Int) (x : Int) (W : World) (h : Gath w0 fn sv q l d ss W) (hlen : ss.length < N) :
    YieldAt F m Try.prog l #[encN x] W fun e W' => e = .returned (.bool true) ∧ Gath w0 fn sv q l d (ss ++ [x]) W' ∧ KeepsWalks W W' := by
  have hNm : N ≤ maxLen := by unfold maxLen; omega
  obtain ⟨i0, hi, hz0, hz1, hz2⟩ := info_parts info_rune
  obtain ⟨v, hv, hrow⟩ := h.box
  refine ⟨fn, #[.slice none 0 0, sv, .pointer (some ⟨q, 0, none⟩), undef, .slice none 0 0, undef, sv, encN x, undef, undef, undef, undef, undef], gaAssign, gaBody, by simpa [gaRec] using run_yield (P := Try.prog) (args := #[encN x]) h.lp rfl, roundIn_of_wpIn hfn ?_⟩
  have hl : l < W.heap.size := (Array.getElem?_eq_some_iff.1 h.lp).1
  have hbr := run_beginRound (P := Try.prog) h.lp rfl
  obtain ⟨W2, hW2⟩ : ∃ W2, W.putObj l (.loop { gaRec fn sv q d .ready with state := .busy }) = W2 := ⟨_, rfl⟩
  rw [hW2] at hbr
  have hg2 : W.grownBy W2 (some l) := by rw [← hW2]; exact grownBy_putObj_a _ _ _
  have hk2 : KeepsWalks W W2 := by rw [← hW2]; exact KeepsWalks.putObj _ h.lp rfl
  have hv2 : W2.heap[q]? = some (.cells #[v] 25 (0, 0)) := by rw [← hW2]; exact (World.putObj_heap_other hql).trans hv
  have hK2 : W2.heap[d]? = some (.deferred (some [])) := by rw [← hW2]; exact (World.putObj_heap_other hdl).trans h.dl
  have hL2 : W2.heap[l]? = some (.loop { gaRec fn sv q d .ready with state := .busy }) := by rw [← hW2]; exact World.putObj_heap_same hl
  have hrow2 : W2.ownsRow w0.heap.size 21 1 v ss.length (ss.map encN) := hrow.kept hg2 (ownsRow_ne_a hrow h.lp (fun cur e => by cases e))
  have hb2 : Below w0.heap.size w0 W2 := h.below.grown hg2 h.below.size (fun k e => by cases e; exact h0l)
  obtain ⟨hc2, hf2⟩ := cell_of_box_a hv2
  have hBlt : q < W2.heap.size := (Array.getElem?_eq_some_iff.1 hv2).1
  have hl2 : l < W2.heap.size := (Array.getElem?_eq_some_iff.1 hL2).1
  have hDlt : d < W2.heap.size := (Array.getElem?_eq_some_iff.1 hK2).1
  have ne_of : ∀ {j : Nat} {o : Obj}, W2.heap[j]? = some o → (∀ cur, o ≠ .cells cur 21 (0, 0)) → some j ≠ v.ownBlock := fun hj hno => by
    rcases ownsRow_ne_a hrow2 hj hno with e | e
    · rw [e]; simp
    · exact fun e' => e e'.symm
  clear hW2
  unfold gaAssign
  gi_wp2_with gi_round_op_a
  unfold gaBody
  gi_wp2_with (first
    | (gi_at_builtin; refine wpListIn_append_own _ rfl _ _ 25 rfl w0.heap.size 21 i0 (.int .i32 0) 1 4 Try.underlying25 hi hz0 hz1 hz2 rfl (by decide) _ _ _ rfl (hrow2.alloc _) ⟨W2.heap.size, 0, none⟩ 1 1 [encN x] rfl rfl (cell_one_new _ _ _) (by simp [Value.oneCell', encN]) (by omega) (by omega) (by have := hb2.size; simp; omega) ?_; intro v' w3 hown' hg3 hnil3
       have hv3 : w3.heap[q]? = some (.cells #[v] 25 (0, 0)) := (hg3.block q (by simp; omega) (ne_of hv2 (fun cur e => rn_ne (Obj.cells.inj e).2.1))).trans ((Below.heap_alloc _ _ q hBlt).trans hv2)
       obtain ⟨hc3, hf3⟩ := cell_of_box_a hv3
       obtain ⟨g', cap', cur', rfl, hbase', hgb', hr1, hr2, hr3, hr4⟩ : ∃ g' cap' cur', v' = .slice (some ⟨g', 0, none⟩) (ss.length + 1) cap' ∧ w0.heap.size ≤ g' ∧ w3.heap[g']? = some (.cells cur' 21 (0, 0)) ∧ ss.length + 1 ≤ cap' ∧ cap' ≤ maxLen ∧ cur'.size = cap' * 1 ∧ cur'.toList.take ((ss.length + 1) * 1) = ss.map encN ++ [encN x] := by
         rcases hown'.2 with ⟨_, h0⟩ | h'
         · exact absurd h0 (by omega)
         · exact h'
       go_frame)
    | gi_round_op_a)
  have hg3' : (W2.alloc (.cells #[encN x] 21)).grownBy w3 v.ownBlock := hg3
  have hL3 : w3.heap[l]? = some (.loop { gaRec fn sv q d .ready with state := .busy }) := (hg3'.block l (by simp; omega) (ne_of hL2 (fun cur e => by cases e))).trans ((Below.heap_alloc _ _ l hl2).trans hL2)
  have hK3 : w3.heap[d]? = some (.deferred (some [])) := (hg3'.block d (by simp; omega) (ne_of hK2 (fun cur e => by cases e))).trans ((Below.heap_alloc _ _ d hDlt).trans hK2)
  obtain ⟨w4, hw4⟩ : ∃ w4, w3.setCell ⟨q, 0, none⟩ (.slice (some ⟨g', 0, none⟩) (ss.length + 1) cap') = w4 := ⟨_, rfl⟩
  rw [hw4]
  have hg4 : w3.grownBy w4 (some q) := by rw [← hw4]; exact grownBy_setCell0_a _ _ _
  have hv4 : w4.heap[q]? = some (.cells #[.slice (some ⟨g', 0, none⟩) (ss.length + 1) cap'] 25 (0, 0)) := by rw [← hw4]; exact heap_setCell_box_a _ hv3
  have hL4 : w4.heap[l]? = some (.loop { gaRec fn sv q d .ready with state := .busy }) := (hg4.block l (Array.getElem?_eq_some_iff.1 hL3).1 (fun e => hql (by cases e; rfl))).trans hL3
  have hK4 : w4.heap[d]? = some (.deferred (some [])) := (hg4.block d (Array.getElem?_eq_some_iff.1 hK3).1 (fun e => hdq (by cases e; rfl))).trans hK3
  have hrow4 := hown'.kept hg4 (ownsRow_ne_a hown' hv3 (fun cur e => rn_ne (Obj.cells.inj e).2.1))
  have hl4 : l < w4.heap.size := (Array.getElem?_eq_some_iff.1 hL4).1
  have hb3 : Below w0.heap.size w0 w3 := (hb2.alloc hb2.size _).grown hg3' (by have := hb2.size; simp; omega) (fun k e => (hrow2.lt k e).1)
  have hb4 : Below w0.heap.size w0 w4 := hb3.grown hg4 hb3.size (fun k e => by cases e; exact h0q)
  have hk4 : KeepsWalks W w4 := ((hk2.trans (KeepsWalks.alloc _ _)).trans (KeepsWalks.of_grownBy hg3' (ownsRow_not_walk_a (hrow2.alloc _)))).trans (by rw [← hw4]; exact KeepsWalks.setCell _ _ _)
  clear hw4
  refine ⟨_, _, run_endRound none hL4, rfl, ⟨⟨_, (World.putObj_heap_other hql).trans hv4, ?_⟩, World.putObj_heap_same hl4, (World.putObj_heap_other hdl).trans hK4, hb4.grown (grownBy_putObj_a _ _ _) hb4.size (fun k e => by cases e; exact h0l)⟩, hk4.trans (KeepsWalks.putObj _ hL4 rfl)⟩
  have := hrow4.kept (grownBy_putObj_a w4 l (.loop { { gaRec fn sv q d .ready with state := .busy } with state := if (none : Option Code).isNone then .ready else .done, pending := none })) (ownsRow_ne_a hrow4 hL4 (fun cur e => by cases e))
  simpa using this
end Go.Proofs.Ythffdmncdoogpaa
