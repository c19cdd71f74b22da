/- Texts merged by program: Arg, TrArg. No condition. -/
import Derived.Test.YtnemacejaiifnaaQ30
import Derived.Test.YtnemacejaiifnaaQ4
import Derived.Deep.SlicePairs
import Derived.ChangeArms
import Derived.Deep.Slices
set_option linter.unusedVariables false
/- An argument that is a list of ranges: what it holds, and how long it may be. -/
namespace Go.Proofs.Ytnemacejaiifnaa
open Go Go.RowKit Go.Deep Go.ChangeShapes Go.WideShapes

theorem rgs_of_arg {H : Type} {enc : TypeId × Value → H} {w : World} {base : Nat} {spare : Nat → Bool} {held : Bool} {fuel : Nat} {cs : List Value} {d : DataW H} {ps : List MemPlace}
    (h : DataW.trod enc Try.prog w base spare held fuel 24 cs = some (d, ps)) :
    ∃ a len cap l, cs = [.slice a len cap] ∧ Rgs w (.slice a len cap) l ∧ ((d = .nil ∧ l = []) ∨ ∃ es sp, d = .slice es sp ∧ es.length = l.length) := by
  rcases open_slice_pairs Try.underlying24 Try.underlying131 (by kernel_rfl) rfl rfl (by kernel_rfl) (by kernel_rfl) h with ⟨rfl, hx⟩ | ⟨a, len, cap, m, n, V0, V1, D0, D1, P0, P1, rfl, -, hl, hm, hmm, hx, hf⟩
  · simp only [Prod.mk.injEq] at hx
    exact ⟨none, 0, 0, [], rfl, ⟨none, 0, rfl, Nat.le_refl _, by unfold maxLen; omega, fun _ => rfl, .inl rfl, by simp⟩, .inl ⟨hx.1, rfl⟩⟩
  · simp only [Prod.mk.injEq] at hx
    have hlm : len ≤ m := by rw [hmm]; split <;> omega
    have hv : ∀ i, i < len → ∃ x : Int × Int, w.cell? (a.add (i * 2)) = some (.int .i32 x.1) ∧ w.cell? (a.add (i * 2 + 1)) = some (.int .i32 x.2) ∧ I32 x.1 ∧ I32 x.2 := fun i hi => by
      obtain ⟨g1, g2, g3, g4⟩ := hf i (by omega)
      obtain ⟨x1, hx1, -, wx1⟩ := DataW.trod_int (k := .i32) Try.underlying21 g3
      obtain ⟨x2, hx2, -, wx2⟩ := DataW.trod_int (k := .i32) Try.underlying21 g4
      refine ⟨(x1, x2), ?_, ?_, ?_, ?_⟩
      · rw [g1]
        congr 1
        first | exact hx1 | (injection hx1)
      · rw [g2]
        congr 1
        first | exact hx2 | (injection hx2)
      · simp [Lit.wf, IntKind.min, IntKind.max, IntKind.bits, IntKind.signed] at wx1
        unfold I32
        omega
      · simp [Lit.wf, IntKind.min, IntKind.max, IntKind.bits, IntKind.signed] at wx2
        unfold I32
        omega
    obtain ⟨f, hff⟩ := choose_lt hv
    refine ⟨some a, len, cap, (List.range len).map f, rfl, ⟨some a, cap, by simp, by simpa using hl, hm, fun e => (by cases e), ?_, ?_⟩, .inr ⟨_, _, hx.1, by simp⟩⟩
    · by_cases h0 : len = 0
      · left
        rw [h0]
        rfl
      · obtain ⟨b, off, spot⟩ := a
        have hs : spot = none := by
          have h1 := (hff 0 (by omega)).1
          have h2 : (⟨b, off, spot⟩ : Addr).add (0 * 2) = ⟨b, off, spot⟩ := by simp [Addr.add]
          rw [h2] at h1
          simpa using World.cell?_spot h1
        subst hs
        refine .inr ⟨b, off, rfl, fun i hi => ?_⟩
        have hi' : i < len := by simpa using hi
        obtain ⟨g1, g2, -⟩ := hff i hi'
        have ad : ∀ j, (⟨b, off, none⟩ : Addr).add j = ⟨b, off + j, none⟩ := fun j => by unfold Addr.add; split <;> simp_all
        rw [ad] at g1 g2
        simp only [List.getElem_map, List.getElem_range]
        exact ⟨g1, g2⟩
    · intro r hr
      obtain ⟨i, hi, rfl⟩ := List.mem_map.1 hr
      obtain ⟨-, -, g3, g4⟩ := hff i (List.mem_range.1 hi)
      exact ⟨g3, g4⟩
theorem i32_of_wf {x : Int} (h : (Lit.int .i32 x).wf = true) : I32 x := by
  simp [Lit.wf, IntKind.min, IntKind.max, IntKind.bits, IntKind.signed] at h
  unfold I32
  omega
end Go.Proofs.Ytnemacejaiifnaa
/- An argument that is a tree: what it holds; its bounds from the sized condition's weights. -/
namespace Go.Proofs.Ytnemacejaiifnaa
open Go Go.RowKit Go.Deep Go.ChangeShapes Go.WideShapes

section
variable {H : Type} {enc : TypeId × Value → H} {w : World} {base : Nat} {spare : Nat → Bool} {held : Bool}

theorem weightsAll_mem {P : Program} {t : TypeId} : ∀ {es : List (DataW H)} {d : DataW H}, d ∈ es → ∀ x ∈ d.weights P t, x ∈ DataW.weightsAll P t es
  | [], _, hd, _, _ => by simp at hd
  | e :: es, d, hd, x, hx => by
    rw [DataW.weightsAll]
    rcases List.mem_cons.1 hd with rfl | hd
    · exact List.mem_append_left _ hx
    · exact List.mem_append_right _ (weightsAll_mem hd x hx)
theorem i64_of_wf {x : Int} (h : (Lit.int .i64 x).wf = true) : I64 x := by
  simp [Lit.wf, IntKind.min, IntKind.max, IntKind.bits, IntKind.signed] at h
  unfold I64
  omega
set_option maxRecDepth 100000 in
/-- The ten fields of a tree that is read. -/
theorem tree_fields {fuel : Nat} {cs : List Value} {x : DataW H × List MemPlace} (h : DataW.trod enc Try.prog w base spare held fuel 27 cs = some x) :
    ∃ (n : Nat) (c0 c1 c2 c3 c4 c5 c6 c7 c8 c9 : Value) (y0 y1 y2 y3 y4 y5 y6 y7 y8 y9 : DataW H × List MemPlace), fuel = n + 1 ∧ cs = [c0, c1, c2, c3, c4, c5, c6, c7, c8, c9] ∧ x.1 = .agg [y0.1, y1.1, y2.1, y3.1, y4.1, y5.1, y6.1, y7.1, y8.1, y9.1] ∧
      DataW.trod enc Try.prog w base spare held n 22 [c0] = some y0 ∧ DataW.trod enc Try.prog w base spare held n 23 [c1] = some y1 ∧ DataW.trod enc Try.prog w base spare held n 21 [c2] = some y2 ∧ DataW.trod enc Try.prog w base spare held n 24 [c3] = some y3 ∧
      DataW.trod enc Try.prog w base spare held n 25 [c4] = some y4 ∧ DataW.trod enc Try.prog w base spare held n 3 [c5] = some y5 ∧ DataW.trod enc Try.prog w base spare held n 9 [c6] = some y6 ∧ DataW.trod enc Try.prog w base spare held n 3 [c7] = some y7 ∧
      DataW.trod enc Try.prog w base spare held n 3 [c8] = some y8 ∧ DataW.trod enc Try.prog w base spare held n 4 [c9] = some y9 := by
  obtain ⟨xs, n, hfu, hx, hl, hlen, hf⟩ := DataW.trod_struct Try.underlying27 h
  have hl10 : cs.length = 10 := by rw [hl]; kernel_rfl
  have k0 : Try.prog.cellsOf 22 = 1 := by kernel_rfl
  have k1 : Try.prog.cellsOf 23 = 1 := by kernel_rfl
  have k2 : Try.prog.cellsOf 21 = 1 := by kernel_rfl
  have k3 : Try.prog.cellsOf 24 = 1 := by kernel_rfl
  have k4 : Try.prog.cellsOf 25 = 1 := by kernel_rfl
  have k5 : Try.prog.cellsOf 3 = 1 := by kernel_rfl
  have k6 : Try.prog.cellsOf 9 = 1 := by kernel_rfl
  have k7 : Try.prog.cellsOf 4 = 1 := by kernel_rfl
  match cs, hl10 with
  | [c0, c1, c2, c3, c4, c5, c6, c7, c8, c9], _ =>
    match xs, hlen with
    | [y0, y1, y2, y3, y4, y5, y6, y7, y8, y9], _ =>
      refine ⟨n, c0, c1, c2, c3, c4, c5, c6, c7, c8, c9, y0, y1, y2, y3, y4, y5, y6, y7, y8, y9, hfu, rfl, by rw [hx]; rfl, ?_, ?_, ?_, ?_, ?_, ?_, ?_, ?_, ?_, ?_⟩
      · have := hf 0 _ rfl; simpa [k0] using this
      · have := hf 1 _ rfl; simpa [k1] using this
      · have := hf 2 _ rfl; simpa [k2] using this
      · have := hf 3 _ rfl; simpa [k3] using this
      · have := hf 4 _ rfl; simpa [k4] using this
      · have := hf 5 _ rfl; simpa [k5] using this
      · have := hf 6 _ rfl; simpa [k6] using this
      · have := hf 7 _ rfl; simpa [k5] using this
      · have := hf 8 _ rfl; simpa [k5] using this
      · have := hf 9 _ rfl; simpa [k7] using this

set_option maxRecDepth 100000 in
theorem tre_of_trod (fuel : Nat) : ∀ (cs : List Value) (x : DataW H × List MemPlace), DataW.trod enc Try.prog w base spare held fuel 27 cs = some x → (∀ z ∈ x.1.weights Try.prog 27, z ≤ reachBytes) → ∃ t, Tre w t (.agg cs.toArray) := by
  induction fuel using Nat.strongRecOn with
  | _ fuel ih =>
  intro cs x h hw
  obtain ⟨n, c0, c1, c2, c3, c4, c5, c6, c7, c8, c9, y0, y1, y2, y3, y4, y5, y6, y7, y8, y9, hfu, rfl, hx, g0, g1, g2, g3, g4, g5, g6, g7, g8, g9⟩ := tree_fields h
  have hw' : ∀ z, (z ∈ y1.1.weights Try.prog 23 ∨ z ∈ y3.1.weights Try.prog 24 ∨ z ∈ y6.1.weights Try.prog 9) → z ≤ reachBytes := fun z hz => hw z (by
    rw [hx, DataW.weights, Try.underlying27]
    simp only [List.map_cons, List.map_nil, DataW.weightsEach, List.mem_append]
    rcases hz with hz | hz | hz <;> simp [hz])
  obtain ⟨v0, e0, -, f0⟩ := DataW.trod_int (k := .i64) Try.underlying22 g0
  obtain ⟨v2, e2, -, f2⟩ := DataW.trod_int (k := .i32) Try.underlying21 g2
  obtain ⟨v4, e4, -, f4⟩ := DataW.trod_int (k := .i64) Try.underlying25 g4
  obtain ⟨v5, e5, -, f5⟩ := DataW.trod_int (k := .i64) Try.underlying3 g5
  obtain ⟨v6, e6, x6, f6⟩ := DataW.trod_string Try.underlying9 g6
  obtain ⟨v7, e7, -, f7⟩ := DataW.trod_int (k := .i64) Try.underlying3 g7
  obtain ⟨v8, e8, -, f8⟩ := DataW.trod_int (k := .i64) Try.underlying3 g8
  obtain ⟨v9, e9, -⟩ := DataW.trod_bool Try.underlying4 g9
  obtain ⟨a3, len3, cap3, l, e3, hR, hz3⟩ := rgs_of_arg (d := y3.1) (ps := y3.2) g3
  simp only [List.cons.injEq, and_true] at e0 e2 e3 e4 e5 e6 e7 e8 e9
  subst e0 e2 e3 e4 e5 e6 e7 e8 e9
  have hb3 : l.length ≤ 17592186044416 := by
    rcases hz3 with ⟨-, rfl⟩ | ⟨es, sp, hs, hl⟩
    · simp
    · have := hw' ((es.length + sp.length) * Try.prog.bytesOf 131) (.inr (.inl (by rw [hs, DataW.weights, Try.underlying24]; simp)))
      rw [show Try.prog.bytesOf 131 = 8 by kernel_rfl] at this
      unfold reachBytes at this
      omega
  have hb6 : v6.size ≤ 140737488355328 := by
    have := hw' v6.data.toList.length (.inr (.inr (by rw [x6]; simp [DataW.weights])))
    unfold reachBytes at this
    have h2 : v6.data.toList.length = v6.size := rfl
    omega
  have hF : FldOk { op := v0, rune := v2, set := l, at' := v4, cap := v5, name := v6, min := v7, max := v8, lazy := v9 } :=
    ⟨i64_of_wf f0, i32_of_wf f2, i64_of_wf f4, i64_of_wf f5, i64_of_wf f7, i64_of_wf f8, Nat.le_trans hb6 (by decide), hb3⟩
  suffices hk : ∃ ks, Kds w ks c1 by
    obtain ⟨ks, hk⟩ := hk
    exact ⟨.mk { op := v0, rune := v2, set := l, at' := v4, cap := v5, name := v6, min := v7, max := v8, lazy := v9 } ks, (tre_iff _ _ _).2 ⟨c1, _, rfl, hR, hF, hk⟩⟩
  rcases DataW.trod_slice Try.underlying23 g1 with ⟨e1, -⟩ | ⟨a, len, cap, elems, rest, m, hm, e1, hy1, -, hlc, hcm, hel, hE, -⟩
  · simp only [List.cons.injEq, and_true] at e1
    subst e1
    exact ⟨[], none, 0, rfl, Nat.le_refl _, Nat.zero_le _, by simp, fun _ => rfl, .inl rfl⟩
  · simp only [List.cons.injEq, and_true] at e1
    subst e1
    have hb1 : len ≤ 1172812402961 := by
      have := hw' ((elems.length + rest.length) * Try.prog.bytesOf 27) (.inl (by rw [hy1, DataW.weights, Try.underlying23]; simp))
      rw [show Try.prog.bytesOf 27 = 120 by kernel_rfl] at this
      unfold reachBytes at this
      omega
    have hv : ∀ i, i < len → ∃ q : List Value × Tr, w.cells? base (a.add (i * 10)) 10 = some q.1 ∧ Tre w q.2 (.agg q.1.toArray) := fun i hi => by
      have h1 := hE i hi
      rw [show Try.prog.cellsOf 27 = 10 by kernel_rfl, List.getElem?_eq_getElem (by omega)] at h1
      obtain ⟨cs', h2, h3⟩ := Option.bind_eq_some_iff.1 h1
      obtain ⟨t, ht⟩ := ih m (by omega) cs' _ h3 (fun z hz => hw' z (.inl (by
        rw [hy1, DataW.weights, Try.underlying23]
        refine List.mem_cons_of_mem _ (List.mem_append_left _ (weightsAll_mem (d := (elems[i]'(by omega)).1) (List.mem_map_of_mem (List.getElem_mem _)) z hz)))))
      exact ⟨(cs', t), h2, ht⟩
    haveI : Inhabited Tr := ⟨.mk { op := 0, rune := 0, set := [], at' := 0, cap := 0, name := ⟨#[]⟩, min := 0, max := 0, lazy := false } []⟩
    obtain ⟨f, hf⟩ := choose_lt hv
    refine ⟨(List.range len).map fun i => (f i).2, some a, cap, by simp, by simpa using hlc, hcm, by simpa using hb1, fun e => (by cases e), ?_⟩
    by_cases h0 : len = 0
    · exact .inl (by rw [h0]; rfl)
    have hsp : a.spot = none := by
      obtain ⟨h1, -⟩ := hf 0 (by omega)
      obtain ⟨-, hl, h2⟩ := World.cells?_some h1
      have h3 := h2 0 (by omega)
      rw [List.getElem?_eq_getElem (by omega)] at h3
      have := World.cell?_spot h3
      obtain ⟨b, off, spot⟩ := a
      simpa [Addr.add] using this
    obtain ⟨b, off, spot⟩ := a
    subst hsp
    refine .inr ⟨b, off, rfl, trivial, fun i hi => ?_⟩
    have hi' : i < len := by simpa using hi
    obtain ⟨h1, h2⟩ := hf i hi'
    obtain ⟨-, hl, h3⟩ := World.cells?_some h1
    have ad : ∀ j, (⟨b, off, none⟩ : Addr).add j = ⟨b, off + j, none⟩ := fun j => by unfold Addr.add; split <;> simp_all
    have ad2 : ∀ o j, (⟨b, o, none⟩ : Addr).add j = ⟨b, o + j, none⟩ := fun o j => by unfold Addr.add; split <;> simp_all
    refine ⟨(f i).1.toArray, fun j hj => ?_, by rw [List.getElem_map, List.getElem_range]; exact h2⟩
    have hj' : j < 10 := by simpa [hl] using hj
    have h4 := h3 j hj'
    rw [ad, ad2, List.getElem?_eq_getElem (by omega)] at h4
    simpa using h4
theorem tre_of_value {fuel : Nat} {v : Value} {x : DataW H × List MemPlace} (h : DataW.trod enc Try.prog w base spare held fuel 27 v.cells.toList = some x) (hw : ∀ z ∈ x.1.weights Try.prog 27, z ≤ reachBytes) : ∃ t, Tre w t v := by
  obtain ⟨t, ht⟩ := tre_of_trod fuel _ x h hw
  obtain ⟨n, c0, c1, c2, c3, c4, c5, c6, c7, c8, c9, y0, y1, y2, y3, y4, y5, y6, y7, y8, y9, -, e, -⟩ := tree_fields h
  cases v
  case agg a => exact ⟨t, by simpa [Value.cells] using ht⟩
  all_goals simp [Value.cells] at e
end
end Go.Proofs.Ytnemacejaiifnaa
