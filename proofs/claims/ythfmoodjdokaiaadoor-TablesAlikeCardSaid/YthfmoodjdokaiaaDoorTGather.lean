/- The program's closures that gather ranges in a box: what the box holds behind, and what stays where it lay. -/
import Derived.Test.YthfmoodjdokaiaaDoorTEach
import Derived.Maps.AppendAt
import Derived.Shelf.Abstract
set_option linter.unusedVariables false
namespace Go.Proofs.YthfmoodjdokaiaaDoor
open Go Go.RowKit

/-- An append of ranges onto a row of the call's own, with the place of the new row. -/
theorem append_rgs_at {w : World} {ops : Array Oper} {rest : List Oper} {o : Oper} {a : Act} {Q : Exit → Act → World → Prop} (hgd : o.guard = none) (x y : Operand)
    (ho : o.op = .call { callee := .builtin .append, args := #[x, y], argTypes := #[23, 23] })
    (base : Nat) (v : Value) (O : List (Int × Int)) (hs : a.eval x = v) (hown : OwnR w base v O)
    (g : Nat) (x1 x2 : Int) (hx : a.eval y = .slice (some ⟨g, 0, none⟩) 1 1) (ht : Rgs w (.slice (some ⟨g, 0, none⟩) 1 1) [(x1, x2)]) (hn : O.length + 1 ≤ 17592186044416) (hbase : base ≤ w.heap.size)
    (h : ∀ v' w', OwnR w' base v' (O ++ [(x1, x2)]) → w.grownBy w' v.ownBlock → (v'.ownBlock = v.ownBlock ∨ v'.ownBlock = some w.heap.size) → wpList Tryd.prog ops Q rest (a.put o.dst v') w') : wpList Tryd.prog ops Q (o :: rest) a w := by
  obtain ⟨i, hi, hz, hsize, hby⟩ := info_parts info_range
  obtain ⟨A', c', h1, h2, h3, h4, h5, h6⟩ := ht
  have hall : AllI32 (O ++ [(x1, x2)]) := fun r hr => (List.mem_append.1 hr).elim (hown.2 r) (h6 r)
  injection h1 with e1 e2 e3
  subst e1 e3
  refine wpList_append_own_at w hgd x y 23 ho base 28 i (.agg #[.int .i32 0, .int .i32 0]) 2 8 Tryd.underlying23 hi hz hsize hby rfl (by omega) v O.length (cellsR O) hs hown.1 ⟨g, 0, none⟩ 1 1 (cellsR [(x1, x2)]) hx (by rw [cellsR_length]; rfl) ?_ (cellsR_one _) (by unfold maxLen; omega) (by omega) hbase (fun v' w' g1 g2 _ g3 => h v' w' ⟨?_, hall⟩ g2 g3)
  · intro j u hu
    obtain ⟨q, hq, hh⟩ := cellsR_get [(x1, x2)] j u hu
    rcases h5 with h5 | ⟨b, off, e, hc⟩
    · cases h5
    · injection e with e
      injection e with e e'
      subst e e'
      rw [addr_plus]
      rcases hh with ⟨rfl, rfl⟩ | ⟨rfl, rfl⟩
      · exact (hc q hq).1
      · have := (hc q hq).2
        rw [show 0 + (q * 2 + 1) = 0 + q * 2 + 1 by omega]
        exact this
  · rw [cellsR_append, List.length_append]
    exact g1

/-- From W to W' what the box q holds has become vs' of vs: blocks below s, and all but q and the row's, lie as they lay, and the new row lies in none of them. -/
def Gr (s q : Nat) (W : World) (vs : Value) (W' : World) (vs' : Value) : Prop := Below s W W' ∧ ∀ b, b < W.heap.size → b ≠ q → vs.ownBlock ≠ some b → W'.heap[b]? = W.heap[b]? ∧ vs'.ownBlock ≠ some b
theorem Gr.trans {s q : Nat} {W W' W'' : World} {vs vs' vs'' : Value} (h : Gr s q W vs W' vs') (k : Gr s q W' vs' W'' vs'') : Gr s q W vs W'' vs'' :=
  ⟨h.1.trans k.1, fun b hb hq hv => by
    obtain ⟨h1, h2⟩ := h.2 b hb hq hv
    obtain ⟨k1, k2⟩ := k.2 b (Nat.lt_of_lt_of_le hb h.1.size) hq h2
    exact ⟨k1.trans h1, k2⟩⟩
theorem Gr.refl (s q : Nat) (W : World) (vs : Value) : Gr s q W vs W vs := ⟨Below.refl _ _, fun _ _ _ h => ⟨rfl, h⟩⟩
theorem Gr.below {s q : Nat} {W W' : World} (vs : Value) (hs : s ≤ W.heap.size) (hb : Below W.heap.size W W') : Gr s q W vs W' vs := ⟨hb.mono hs, fun b h _ hv => ⟨hb.block b h, hv⟩⟩
theorem Gr.whole {s q : Nat} {W W' : World} {vs vs' : Value} {b : Nat} {t : TypeId} {cs : Array Value} (h : Gr s q W vs W' vs') (hw : Whole W b t cs) (hq : b ≠ q) (hv : vs.ownBlock ≠ some b) : Whole W' b t cs := ((h.2 b hw.lt hq hv).1).trans hw
theorem own_lt {w : World} {B : Nat} {v : Value} {O : List (Int × Int)} (h : OwnR w B v O) (b : Nat) (hb : w.heap.size ≤ b) : v.ownBlock ≠ some b := by
  rcases h.1.2 with ⟨rfl, _⟩ | ⟨q, cap, cur, rfl, _, hh, _⟩
  · simp [Value.ownBlock]
  · intro e
    obtain rfl : q = b := by simpa [Value.ownBlock] using e
    have := (Array.getElem?_eq_some_iff.1 hh).1
    omega
def AddedR (s q : Nat) (W : World) (vs : Value) (O : List (Int × Int)) (e : Ending) (W' : World) : Prop :=
  (∃ u, e = .returned u) ∧ (∃ vs', Boxed W' q 23 vs' ∧ OwnR W' s vs' O ∧ Gr s q W vs W' vs') ∧ KeepsO W W'
/-- What a store into the box leaves behind an append onto its row. -/
theorem added_of {s q : Nat} {W w1 : World} {vs v1 : Value} {O O' : List (Int × Int)} {tmp : Obj} (h1 : Boxed W q 23 vs) (h2 : OwnR W s vs O) (hs : s ≤ q) (ho : OwnR w1 s v1 O') (hg : (W.alloc tmp).grownBy w1 vs.ownBlock) (hat : v1.ownBlock = vs.ownBlock ∨ v1.ownBlock = some (W.alloc tmp).heap.size) (u : Value) :
    AddedR s q W vs O' (.returned u) (w1.setCell ⟨q, 0, none⟩ v1) := by
  have hsz : s ≤ W.heap.size := by have := h1.lt; omega
  have hA := h1.appended (by decide) h2.1 hsz hs ho.1 hg
  have hK : KeepsO W (w1.setCell ⟨q, 0, none⟩ v1) := ((KeepsO.below ((Below.refl _ W).alloc (Nat.le_refl _) _)).trans (KeepsO.row (h2.below ((Below.refl _ W).alloc (Nat.le_refl _) _)).1 (by decide) hg)).trans (KeepsO.set hA.1 (by decide) _)
  refine ⟨⟨_, rfl⟩, ⟨v1, hA.2.1, ⟨hA.2.2.1, ho.2⟩, hA.2.2.2.2, fun b hb hq hv => ⟨?_, ?_⟩⟩, hK⟩
  · rw [Below.heap_setCell _ _ _ _ (show b ≠ q from hq), hg.block b (by simp; omega) (fun e => hv e.symm), Below.heap_alloc _ _ _ hb]
  · rcases hat with e | e
    · rw [e]; exact hv
    · rw [e]
      intro h
      have : (W.alloc tmp).heap.size = b := Option.some.inj h
      simp at this
      omega

set_option maxHeartbeats 800000 in
set_option maxRecDepth 100000 in
theorem add_range_any (s q : Nat) (vs : Value) (O : List (Int × Int)) (x : Int) (W : World) (hx : I32 x) (hO : O.length ≤ 1099511627776) (hs : s ≤ q) (h1 : Boxed W q 23 vs) (h2 : OwnR W s vs O) : Calls Tryd.prog 28 #[.int .i32 x, .pointer (some ⟨q, 0, none⟩)] W (AddedR s q W vs (O ++ [(x, x)])) := by
  have hsz : s ≤ W.heap.size := by have := h1.lt; omega
  have c1 := h1.cell
  have H1 := Lib.hid h1; have H2 := Lib.hid h2
  clear h1 h2
  go_enter Tryd.func28, Tryd.ntmps28
  go_wp2_with (at_builtin; refine append_rgs_at rfl (.tmp 3) (.tmp 7) rfl s vs O rfl (H2.out.below ((Below.refl _ W).alloc (Nat.le_refl _) _)) W.heap.size x x rfl (rgs_new W x x hx hx) (by simp; omega) (by simp; omega) ?_; intro v1 w1 ho1 hg1 hat; obtain ⟨n1, m1, c1', rfl⟩ := ho1.slice; have HA := Lib.hid (H1.out.appended (by decide) H2.out.1 hsz hs ho1.1 hg1); have d1 := HA.out.1.cell; have d2 := HA.out.1.frozen; have HR := Lib.hid (added_of H1.out H2.out hs ho1 hg1 hat (.tuple #[])); clear ho1 hg1 hat)
  go_end0
  exact HR.out

theorem each_fold_any (s q : Nat) (vs : Value) (O : List (Int × Int)) (S : List Int) (W : World) (h3 : S.length ≤ 3) (hS : ∀ x ∈ S, I32 x) (hO : O.length ≤ 1099511627000) (hs : s ≤ q) (h1 : Boxed W q 23 vs) (h2 : OwnR W s vs O) :
    Calls Tryd.prog 22 #[orbA S, .func (.func 28) #[] #[.pointer (some ⟨q, 0, none⟩)]] W fun e W' => (∃ u, e = .returned u) ∧ ∃ vs', Boxed W' q 23 vs' ∧ OwnR W' s vs' (O ++ S.map fun c => (c, c)) ∧ Gr s q W vs W' vs' := by
  refine (each_any _ _ (enters_of Tryd.func28 (by kernel_rfl) rfl) S h3 (fun pre W' => ∃ vs', Boxed W' q 23 vs' ∧ OwnR W' s vs' (O ++ pre.map fun c => (c, c)) ∧ Gr s q W vs W' vs') ?_ ?_ W ⟨vs, h1, by simpa using h2, Gr.refl _ _ _ _⟩)
  · rintro pre W1 ob ⟨v1, k1, k2, k3⟩
    have hsz : s ≤ W1.heap.size := by have := k1.lt; omega
    have hb := (Below.refl W1.heap.size W1).alloc (Nat.le_refl _) ob
    exact ⟨v1, k1.alloc ob, k2.below hb, k3.trans (Gr.below v1 hsz hb)⟩
  · rintro pre x W1 hp ⟨v1, k1, k2, k3⟩
    have hx : x ∈ S := hp.subset (by simp)
    have hl := hp.length_le
    rw [List.length_append, List.length_singleton] at hl
    refine (add_range_any s q v1 _ x W1 (hS x hx) (by rw [List.length_append, List.length_map]; omega) hs k1 k2).mono ?_
    rintro e W2 ⟨hu, ⟨v2, j1, j2, j3⟩, hk⟩
    exact ⟨hu, ⟨v2, j1, by simpa using j2, k3.trans j3⟩, hk⟩
end Go.Proofs.YthfmoodjdokaiaaDoor
