/- Texts merged by program: CoRow. No condition. -/
import Derived.Test.YthffdmncdoogpaaK8
import Derived.Test.YthffdmncdoogpaaK10
import Derived.Test.YthffdmncdoogpaaK4
import Derived.Test.YthffdmncdoogpaaK13
import Derived.Deep.RegionHeld3
set_option linter.unusedVariables false
/- Rows of instructions that a builder makes: what they hold, appends onto them, an instruction patched; the builder's box, and what a step of it leaves be. No condition. -/
namespace Go.Proofs.Ythffdmncdoogpaa
open Go Go.RowKit

def cells5 (L : List (Array Value)) : List Value := L.flatMap (·.toList)
def AllFive (L : List (Array Value)) : Prop := ∀ cs ∈ L, cs.size = 5 ∧ ∀ u ∈ cs.toList, u.oneCell' = true
theorem cells5_append (a b : List (Array Value)) : cells5 (a ++ b) = cells5 a ++ cells5 b := by simp [cells5]
theorem cells5_length : ∀ (L : List (Array Value)), AllFive L → (cells5 L).length = L.length * 5
  | [], _ => rfl
  | a :: L, h => by
    have h1 := (h a (by simp)).1
    have h2 := cells5_length L fun cs hc => h cs (by simp [hc])
    have e : cells5 (a :: L) = a.toList ++ cells5 L := rfl
    rw [e, List.length_append, h2, Array.length_toList, h1, List.length_cons]
    omega
theorem cells5_at : ∀ (L : List (Array Value)), AllFive L → ∀ (i : Nat) (hi : i < L.length) (j : Nat) (hj : j < 5), (cells5 L)[i * 5 + j]? = L[i][j]?
  | a :: L, h, 0, _, j, hj => by
    have h1 := (h a (by simp)).1
    have e : cells5 (a :: L) = a.toList ++ cells5 L := rfl
    rw [e, Nat.zero_mul, Nat.zero_add, List.getElem?_append_left (by rw [Array.length_toList, h1]; exact hj)]
    simp
  | a :: L, h, i + 1, hi, j, hj => by
    have h1 := (h a (by simp)).1
    have h2 := cells5_at L (fun cs hc => h cs (by simp [hc])) i (by simpa using hi) j hj
    have e : cells5 (a :: L) = a.toList ++ cells5 L := rfl
    rw [e, List.getElem?_append_right (by rw [Array.length_toList, h1]; omega), Array.length_toList, h1, show (i + 1) * 5 + j - 5 = i * 5 + j by omega, h2]
    simp
theorem cells5_one {L : List (Array Value)} (h : AllFive L) : ∀ u ∈ cells5 L, u.oneCell' = true := fun u hu => by
  obtain ⟨cs, hcs, hu⟩ := List.mem_flatMap.1 hu
  exact (h cs hcs).2 u hu
theorem cells5_get {L : List (Array Value)} (h : AllFive L) (j : Nat) (u : Value) (hu : (cells5 L)[j]? = some u) : ∃ i, ∃ hi : i < L.length, ∃ k, k < 5 ∧ j = i * 5 + k ∧ L[i][k]? = some u := by
  have hl := (List.getElem?_eq_some_iff.1 hu).1
  rw [cells5_length L h] at hl
  have hi : j / 5 < L.length := by omega
  refine ⟨j / 5, hi, j % 5, by omega, by omega, ?_⟩
  rw [← cells5_at L h (j / 5) hi (j % 5) (by omega), show j / 5 * 5 + j % 5 = j by omega]
  exact hu
/-- A cell of a row of fives, set anew. -/
theorem cells5_set : ∀ (L : List (Array Value)), AllFive L → ∀ (i : Nat) (hi : i < L.length) (j : Nat) (hj : j < 5) (u : Value), (cells5 L).set (i * 5 + j) u = cells5 (L.set i (L[i].setIfInBounds j u))
  | a :: L, h, 0, _, j, hj, u => by
    have h1 := (h a (by simp)).1
    have e : cells5 (a :: L) = a.toList ++ cells5 L := rfl
    rw [e, Nat.zero_mul, Nat.zero_add, List.set_append_left _ _ (by rw [Array.length_toList, h1]; exact hj)]
    simp [cells5, Array.toList_setIfInBounds]
  | a :: L, h, i + 1, hi, j, hj, u => by
    have h1 := (h a (by simp)).1
    have h2 := cells5_set L (fun cs hc => h cs (by simp [hc])) i (by simpa using hi) j hj u
    have e : cells5 (a :: L) = a.toList ++ cells5 L := rfl
    rw [e, List.set_append_right _ _ (by rw [Array.length_toList, h1]; omega), Array.length_toList, h1, show (i + 1) * 5 + j - 5 = i * 5 + j by omega, h2]
    simp [cells5]

/-- Block k is one of instructions; of ranges. -/
def KindI (w : World) (k : Nat) : Prop := ∃ cs f, w.heap[k]? = some (.cells cs 39 f)
def KindR (w : World) (k : Nat) : Prop := ∃ cs f, w.heap[k]? = some (.cells cs 55 f)
theorem KindR.lt {w : World} {k : Nat} (h : KindR w k) : k < w.heap.size := by
  obtain ⟨c, f, h⟩ := h
  exact (Array.getElem?_eq_some_iff.1 h).1
theorem kindR_ne {w : World} {b k : Nat} {t : TypeId} {cs : Array Value} (h : Whole w b t cs) (ht : t ≠ 55) (hk : KindR w k) : k ≠ b := by
  rintro rfl
  obtain ⟨c2, f, h2⟩ := hk
  rw [h] at h2
  injection h2 with h2
  injection h2 with _ h2
  exact ht h2
theorem kindR_notI {w : World} {k : Nat} (hk : KindR w k) : ¬ KindI w k := by
  rintro ⟨c1, f1, h1⟩
  obtain ⟨c2, f2, h2⟩ := hk
  rw [h1] at h2
  injection h2 with h2
  injection h2 with _ h2
  exact absurd h2 (by decide)
/-- Blocks of ranges lie as they lay. -/
def SameR (w w' : World) : Prop := ∀ b, KindR w b → w'.heap[b]? = w.heap[b]?
theorem same_below_r {w w' : World} (h : Below w.heap.size w w') : SameR w w' := fun b hb => h.block b hb.lt
theorem same_set_r {w : World} {b j : Nat} {t : TypeId} {cs : Array Value} (h : Whole w b t cs) (ht : t ≠ 55) (u : Value) : SameR w (w.setCell ⟨b, j, none⟩ u) := fun k hk => Below.heap_setCell w _ _ k (kindR_ne h ht hk)
theorem SameR.kind {w w' : World} (h : SameR w w') {b : Nat} (hb : KindR w b) : KindR w' b := by
  obtain ⟨c, f, hc⟩ := hb
  exact ⟨c, f, (h b ⟨c, f, hc⟩).trans hc⟩
theorem rgs_sameR {w w' : World} {v : Value} {l : List (Int × Int)} (h : Rgs w v l) (hk : l = [] ∨ ∀ b, v.ownBlock = some b → KindR w b) (hs : SameR w w') : Rgs w' v l ∧ (l = [] ∨ ∀ b, v.ownBlock = some b → KindR w' b) := by
  have h2 := rgs_same (F := fun b => KindR w b) (G := fun b => KindR w' b) (w' := w') h hk (fun b hb _ => hs b hb) (fun b hb _ => hs.kind hb)
  exact h2
/-- The cells cs hold the instruction x, whose Set lies in a block of ranges. -/
def InsF (w : World) (x : Ins) (cs : Array Value) : Prop :=
  ∃ (a : Option Addr) (c : Nat), cs = insC x (.slice a x.set.length c) ∧ (Rgs w (.slice a x.set.length c) x.set ∧ (x.set = [] ∨ ∀ b, (Value.slice a x.set.length c).ownBlock = some b → KindR w b)) ∧ Bds x
theorem InsF.same {w w' : World} {x : Ins} {cs : Array Value} (h : InsF w x cs) (hs : SameR w w') : InsF w' x cs := by
  obtain ⟨a, c, h1, h2, h3⟩ := h
  exact ⟨a, c, h1, rgs_sameR h2.1 h2.2 hs, h3⟩
theorem InsF.form {w : World} {x : Ins} {cs : Array Value} (h : InsF w x cs) : cs.size = 5 ∧ ∀ u ∈ cs.toList, u.oneCell' = true := by
  obtain ⟨a, c, rfl, -⟩ := h
  refine ⟨rfl, fun u hu => ?_⟩
  simp only [insC, List.mem_cons, List.not_mem_nil, or_false] at hu
  rcases hu with rfl | rfl | rfl | rfl | rfl <;> rfl
/-- The value v owns a row of the instructions L, among the blocks from B on. -/
def OwnI (w : World) (B : Nat) (v : Value) (L : List Ins) : Prop :=
  ∃ C : List (Array Value), C.length = L.length ∧ w.ownsRow B 39 5 v L.length (cells5 C) ∧ ∀ (i : Nat) (h : i < L.length) (h' : i < C.length), InsF w L[i] C[i]
theorem allFive {w : World} {L : List Ins} {C : List (Array Value)} (hl : C.length = L.length) (h : ∀ (i : Nat) (h : i < L.length) (h' : i < C.length), InsF w L[i] C[i]) : AllFive C := fun cs hcs => by
  obtain ⟨i, hi, rfl⟩ := List.mem_iff_getElem.1 hcs
  exact (h i (by omega) hi).form
theorem own_slice5 {w : World} {base : Nat} {e : TypeId} {n : Nat} {v : Value} {xs : List Value} (h : w.ownsRow base e 5 v n xs) : (v = .slice none 0 0 ∧ n = 0) ∨ ∃ g c, v = .slice (some ⟨g, 0, none⟩) n c ∧ n ≤ c ∧ c ≤ maxLen ∧ base ≤ g := by
  rcases h.2 with h | ⟨q, cap, cur, rfl, hb, _, hn, hm, _⟩
  · exact .inl h
  · exact .inr ⟨_, _, rfl, hn, hm, hb⟩
theorem OwnI.inss {w : World} {B : Nat} {v : Value} {L : List Ins} (h : OwnI w B v L) : Inss w v L := by
  obtain ⟨C, hl, ho, ht⟩ := h
  have hA := allFive hl ht
  rcases own_slice5 ho with ⟨rfl, h0⟩ | ⟨g, c, rfl, h1, h2, -⟩
  · exact ⟨none, 0, by rw [h0], by omega, Nat.zero_le _, fun _ => rfl, .inl (List.eq_nil_of_length_eq_zero h0)⟩
  · refine ⟨_, c, rfl, h1, h2, fun e => (by cases e), .inr ⟨g, 0, rfl, fun i hi => ?_⟩⟩
    obtain ⟨a, c2, e, h3, h4⟩ := ht i hi (by omega)
    refine ⟨a, c2, ?_, h3.1, h4⟩
    have hc : ∀ j, j < 5 → w.cell? ⟨g, 0 + (i * 5 + j), none⟩ = C[i][j]? := fun j hj => by
      have hx := cells5_at C hA i (by omega) j hj
      have hlt : j < C[i].size := by rw [(hA C[i] (List.getElem_mem (by omega))).1]; exact hj
      rw [Array.getElem?_eq_getElem hlt] at hx ⊢
      have := ho.cells (g := g) rfl _ _ hx
      rwa [show (⟨g, 0, none⟩ : Addr).add (i * 5 + j) = ⟨g, 0 + (i * 5 + j), none⟩ by unfold Addr.add; split <;> simp_all] at this
    rw [e] at hc
    have q0 := hc 0 (by omega); have q1 := hc 1 (by omega); have q2 := hc 2 (by omega); have q3 := hc 3 (by omega); have q4 := hc 4 (by omega)
    refine ⟨?_, ?_, ?_, ?_, ?_⟩
    · exact q0
    · rw [show 0 + i * 5 + 1 = 0 + (i * 5 + 1) by omega]; exact q1
    · rw [show 0 + i * 5 + 2 = 0 + (i * 5 + 2) by omega]; exact q2
    · rw [show 0 + i * 5 + 3 = 0 + (i * 5 + 3) by omega]; exact q3
    · rw [show 0 + i * 5 + 4 = 0 + (i * 5 + 4) by omega]; exact q4
theorem OwnI.base {w : World} {B : Nat} {v : Value} {L : List Ins} (h : OwnI w B v L) : ∀ j, v.ownBlock = some j → B ≤ j ∧ j < w.heap.size := by
  obtain ⟨C, _, ho, _⟩ := h
  exact fun j hj => ho.lt j hj
/-- Where the row's block and its Sets' blocks lie as they lay. -/
theorem OwnI.kept {w w' : World} {B : Nat} {v : Value} {L : List Ins} (h : OwnI w B v L) (hv : ∀ b, v.ownBlock = some b → w'.heap[b]? = w.heap[b]?) (hs : SameR w w') : OwnI w' B v L := by
  obtain ⟨C, hl, ho, ht⟩ := h
  refine ⟨C, hl, ⟨ho.1, ?_⟩, fun i h h' => (ht i h h').same hs⟩
  rcases ho.2 with h2 | ⟨g, cap, cur, rfl, h3, hh, h4⟩
  · exact .inl h2
  · exact .inr ⟨g, cap, cur, rfl, h3, (hv g (by simp [Value.ownBlock])).trans hh, h4⟩
theorem OwnI.below {w w' : World} {B : Nat} {v : Value} {L : List Ins} (h : OwnI w B v L) (hb : Below w.heap.size w w') : OwnI w' B v L :=
  h.kept (fun b hv => hb.block b (h.base b hv).2) (same_below_r hb)
theorem OwnI.kind {w : World} {B : Nat} {v : Value} {L : List Ins} (h : OwnI w B v L) {b : Nat} (hb : v.ownBlock = some b) : KindI w b := by
  obtain ⟨C, hl, ho, ht⟩ := h
  rcases ho.2 with ⟨rfl, _⟩ | ⟨g, cap, cur, rfl, _, hh, _⟩
  · simp [Value.ownBlock] at hb
  · obtain rfl : g = b := by simpa [Value.ownBlock] using hb
    exact ⟨_, _, hh⟩
theorem OwnI.grown_r {w w' : World} {B : Nat} {v : Value} {L : List Ins} (h : OwnI w B v L) (hg : w.grownBy w' v.ownBlock) : SameR w w' := fun b hb => hg.block b hb.lt (fun e => kindR_notI hb (h.kind e.symm))
theorem OwnI.slice {w : World} {B : Nat} {v : Value} {L : List Ins} (h : OwnI w B v L) : ∃ a c, v = .slice a L.length c ∧ L.length ≤ c ∧ c ≤ maxLen := by
  obtain ⟨C, _, ho, _⟩ := h
  rcases own_slice5 ho with ⟨rfl, h0⟩ | ⟨g, c, rfl, h1, h2, -⟩
  · exact ⟨_, _, by rw [h0], by omega, by unfold maxLen; omega⟩
  · exact ⟨_, _, rfl, h1, h2⟩
theorem info_inst : (Try.prog.info? 39).map (fun i => (i.zero, i.size, i.bytes)) = some (some (.agg #[.int .i64 0, .int .i64 0, .int .i64 0, .slice none 0 0, .int .i64 0]), 5, 56) := by kernel_rfl
theorem ownI_appended {w w' : World} {B : Nat} {v' : Value} {L : List Ins} {x : Ins} {C : List (Array Value)} {cs : Array Value} (hl : C.length = L.length) (ht : ∀ (i : Nat) (h : i < L.length) (h' : i < C.length), InsF w L[i] C[i])
    (hx : InsF w x cs) (ho : w'.ownsRow B 39 5 v' (L.length + 1) (cells5 C ++ cells5 [cs])) (hs : SameR w w') : OwnI w' B v' (L ++ [x]) := by
  refine ⟨C ++ [cs], by simp [hl], by rw [cells5_append, List.length_append]; exact ho, fun i h h' => ?_⟩
  by_cases hi : i < L.length
  · rw [List.getElem_append_left hi, List.getElem_append_left (by omega)]
    exact (ht i hi (by omega)).same hs
  · have h1 : i = L.length := by simp at h; omega
    subst h1
    rw [List.getElem_append_right (by omega), List.getElem_append_right (by omega)]
    simp only [hl, Nat.sub_self, List.getElem_cons_zero]
    exact hx.same hs
/-- An append of one instruction, that lies in a block of its own. -/
theorem step_append_ins {w : World} {ops : Array Oper} {o : Oper} {a : Act} {Kk : Act → World → Prop} {Q : Exit → Act → World → Prop} {E : Prop} (hgd : o.guard = none) (x y : Operand)
    (ho : o.op = .call { callee := .builtin .append, args := #[x, y], argTypes := #[22, 22] })
    (base : Nat) (v : Value) (L : List Ins) (hs : a.eval x = v) (hown : OwnI w base v L)
    (b m c : Nat) (hm : m = 1) (i : Ins) (cs : Array Value) (hy : a.eval y = .slice (some ⟨b, 0, none⟩) m c) (hc : CellsAt w b 0 cs) (hi : InsF w i cs) (hn : L.length + 1 ≤ 1000000000000) (hbase : base ≤ w.heap.size)
    (h : ∀ v' w', OwnI w' base v' (L ++ [i]) → w.grownBy w' v.ownBlock → Kk (a.put o.dst v') w') :
    if Region.wanted o (yielded ops a.tmps) = true then Oper.wp Try.prog o a w Kk Q else E := by
  subst hm
  have hw : Region.wanted o (yielded ops a.tmps) = true := by
    unfold Region.wanted
    rw [hgd]
  rw [if_pos hw]
  obtain ⟨q, hq, hz, hsize, hby⟩ := info_parts info_inst
  have hown' := hown
  obtain ⟨C, hl, hro, hT⟩ := hown
  have hAT := allFive hl hT
  have hA2 : AllFive [cs] := fun k hk => by
    obtain rfl : k = cs := by simpa using hk
    exact hi.form
  have hnw : ∀ j u, (cells5 [cs])[j]? = some u → w.cell? ((⟨b, 0, none⟩ : Addr).add j) = some u := fun j u hu => by
    obtain ⟨n, hn, k, hk, rfl, hh⟩ := cells5_get hA2 j u hu
    obtain rfl : n = 0 := by simpa using hn
    obtain ⟨hks, rfl⟩ := Array.getElem?_eq_some_iff.1 hh
    have := hc k hks
    rwa [show (⟨b, 0, none⟩ : Addr).add (0 * 5 + k) = ⟨b, 0 + k, none⟩ by unfold Addr.add; split <;> simp_all]
  obtain ⟨v', w', hr, g1, g2, -, g3⟩ := run_append_own_at (P := Try.prog) w base 22 o.type 39 q _ 5 56 Try.underlying22 hq hz hsize hby rfl (by omega) v L.length (cells5 C) hro ⟨b, 0, none⟩ 1 c (cells5 [cs]) (by rw [cells5_length _ hA2]; rfl) hnw (cells5_one hA2) (by unfold maxLen; omega) (by omega) hbase
  unfold Oper.wp execOp
  simp only [ho, resolve, invoke, builtin, Sem.run_bind, Sem.run_pure, Result.andThen_ok, List.map_toArray, List.map_cons, List.map_nil, hs, hy, hr]
  exact h v' w' (ownI_appended hl hT hi g1 (hown'.grown_r g2)) g2
/-- A cell of an instruction, patched. -/
theorem OwnI.patched {w : World} {B g n c : Nat} {L : List Ins} (h : OwnI w B (.slice (some ⟨g, 0, none⟩) n c) L) (i : Nat) (hi : i < L.length) (j : Nat) (hj : j = 1 ∨ j = 2) (u : Int) (hu : R64 u) :
    OwnI (w.setCell ⟨g, i * 5 + j, none⟩ (.int .i64 u)) B (.slice (some ⟨g, 0, none⟩) n c) (L.set i (if j = 1 then { L[i] with out := u } else { L[i] with arg := u })) := by
  have hK : KindI w g := h.kind rfl
  obtain ⟨C, hl, ho, ht⟩ := h
  have hA := allFive hl ht
  have hC5 := (hA C[i] (List.getElem_mem (by omega))).1
  refine ⟨C.set i (C[i].setIfInBounds j (.int .i64 u)), by simp [hl], ?_, fun k hk hk' => ?_⟩
  · rw [← cells5_set C hA i (by omega) j (by omega), List.length_set]
    have hlen : (cells5 C).length = L.length * 5 := by rw [cells5_length C hA, hl]
    refine ⟨by rw [List.length_set, hlen], ?_⟩
    rcases ho.2 with ⟨e, _⟩ | ⟨g', cap, cur, e, hb, hh, hn, hm, hs, htk⟩
    · cases e
    · injection e with e1 e2 e3
      injection e1 with e1
      injection e1 with e1
      subst e1 e2 e3
      refine .inr ⟨g, c, cur.setIfInBounds (i * 5 + j) (.int .i64 u), rfl, hb, Whole.store hh _ _, hn, hm, by simpa using hs, ?_⟩
      rw [← htk, Array.toList_setIfInBounds, List.take_set]
  · have hsm : SameR w (w.setCell ⟨g, i * 5 + j, none⟩ (.int .i64 u)) := fun b hb => Below.heap_setCell w _ _ b (fun e => kindR_notI hb (by subst e; exact hK))
    by_cases e : k = i
    · subst e
      rw [List.getElem_set_self, List.getElem_set_self]
      obtain ⟨a, c2, e1, h3, h4⟩ := (ht k (by simpa using hk) (by simpa using hk')).same hsm
      obtain ⟨b1, b2, b3, b4, b5⟩ := h4
      rw [e1]
      rcases hj with rfl | rfl
      · exact ⟨a, c2, by simp [insC], h3, ⟨b1, hu, b3, b4, b5⟩⟩
      · exact ⟨a, c2, by simp [insC], h3, ⟨b1, b2, hu, b4, b5⟩⟩
    · rw [List.getElem_set_ne (fun h => e h.symm), List.getElem_set_ne (fun h => e h.symm)]
      exact (ht k (by simpa using hk) (by simpa using hk')).same hsm

theorem not_kindI {w : World} {b : Nat} {t : TypeId} {cs : Array Value} (h : Whole w b t cs) (ht : t ≠ 39) : ¬ KindI w b := by
  rintro ⟨c2, f, h2⟩
  rw [h] at h2
  injection h2 with h2
  injection h2 with _ h2
  exact ht h2
/-- What a step of the builder leaves be: all that lay, but for its box and rows of instructions. -/
structure Fr (q : Nat) (w w' : World) : Prop where
  os : w'.os = w.os
  tape : w'.tape = w.tape
  output : w'.output = w.output
  size : w.heap.size ≤ w'.heap.size
  block : ∀ k, k < w.heap.size → k ≠ q → ¬ KindI w k → w'.heap[k]? = w.heap[k]?
theorem Fr.trans {q : Nat} {w w1 w2 : World} (h : Fr q w w1) (k : Fr q w1 w2) : Fr q w w2 :=
  ⟨k.os.trans h.os, k.tape.trans h.tape, k.output.trans h.output, Nat.le_trans h.size k.size, fun b hb hq hk => by
    have e := h.block b hb hq hk
    refine (k.block b (Nat.lt_of_lt_of_le hb h.size) hq ?_).trans e
    rintro ⟨cs, f, hc⟩
    exact hk ⟨cs, f, by rw [← e]; exact hc⟩⟩
theorem Fr.of_below {q : Nat} {w w' : World} (h : Below w.heap.size w w') : Fr q w w' := ⟨h.os, h.tape, h.output, h.size, fun k hk _ _ => h.block k hk⟩
theorem Fr.refl (q : Nat) (w : World) : Fr q w w := Fr.of_below (Below.refl _ _)
theorem Fr.whole {q : Nat} {w w' : World} (h : Fr q w w') {b : Nat} {t : TypeId} {cs : Array Value} (hw : Whole w b t cs) (hq : b ≠ q) (ht : t ≠ 39) : Whole w' b t cs := (h.block b hw.lt hq (not_kindI hw ht)).trans hw
/-- The builder's box q: its row holds L, with places for g groups; what lay before it was made lies as it lay. -/
structure Bld (w0 : World) (q : Nat) (g : Int) (w : World) (L : List Ins) : Prop where
  below : Below w0.heap.size w0 w
  base : w0.heap.size ≤ q
  row : ∃ v, Whole w q 68 #[v, .int .i64 0, .int .i64 (2 * g + 2)] ∧ OwnI w w0.heap.size v L
theorem Bld.lt {w0 : World} {q : Nat} {g : Int} {w : World} {L : List Ins} (h : Bld w0 q g w L) : q < w.heap.size := by
  obtain ⟨v, hw, _⟩ := h.row
  exact hw.lt
theorem Bld.on {w0 : World} {q : Nat} {g : Int} {w w' : World} {L : List Ins} (h : Bld w0 q g w L) (hb : Below w.heap.size w w') : Bld w0 q g w' L := by
  obtain ⟨v, hw, ho⟩ := h.row
  exact ⟨h.below.trans (hb.mono h.below.size), h.base, v, (hb.block q hw.lt).trans hw, ho.below hb⟩
/-- A box that is stored into, that is neither the builder's nor a row's: the builder stays. -/
theorem Bld.setBox {w0 : World} {q : Nat} {g : Int} {w : World} {L : List Ins} (h : Bld w0 q g w L) {b : Nat} {t : TypeId} {cs : Array Value} (hw : Whole w b t cs) (ht : t ≠ 39) (hr : t ≠ 55) (hb : w0.heap.size ≤ b) (hq : b ≠ q) (j : Nat) (u : Value) : Bld w0 q g (w.setCell ⟨b, j, none⟩ u) L := by
  obtain ⟨v, hq', ho⟩ := h.row
  exact ⟨h.below.setCell (p := ⟨b, j, none⟩) hb u, h.base, v, (Below.heap_setCell w _ _ q (fun e => hq e.symm)).trans hq', ho.kept (fun k hk => Below.heap_setCell w _ _ k (fun e => not_kindI hw ht (by subst e; exact ho.kind hk))) (same_set_r hw hr u)⟩
/-- The builder's box, its row set anew. -/
theorem Bld.putRow {w0 : World} {q : Nat} {g : Int} {w' : World} {L' : List Ins} {v v' : Value} (hB : Below w0.heap.size w0 w') (hbase : w0.heap.size ≤ q) (hw : Whole w' q 68 #[v, .int .i64 0, .int .i64 (2 * g + 2)]) (ho : OwnI w' w0.heap.size v' L') : Bld w0 q g (w'.setCell ⟨q, 0, none⟩ v') L' := by
  refine ⟨hB.setCell (p := ⟨q, 0, none⟩) hbase v', hbase, v', ?_, ho.kept (fun k hk => Below.heap_setCell w' _ _ k (fun e => not_kindI hw (by decide) (by subst e; exact ho.kind hk))) (same_set_r hw (by decide) v')⟩
  have := hw.store 0 v'
  simpa using this
end Go.Proofs.Ythffdmncdoogpaa
