/- Texts merged by program: PgArg. No condition. -/
import Derived.Test.YtnemacejaiifnaaO5
import Derived.Test.YtnemacejaiifnaaO24
import Derived.Deep.Slices
import Derived.ChangeArms
set_option linter.unusedVariables false
/- Arguments that are programs and lists of ints: what they hold; their bounds from the sized condition's weights. -/
set_option linter.unusedSimpArgs false
namespace Go.Proofs.Ytnemacejaiifnaa
open Go Go.RowKit Go.Deep Go.ChangeShapes Go.WideShapes

section
variable {H : Type} {enc : TypeId × Value → H} {w : World} {base : Nat} {spare : Nat → Bool} {held : Bool}

theorem weights_of {P : Program} {t : TypeId} : ∀ {es : List (DataW H)} {d : DataW H}, d ∈ es → ∀ x ∈ d.weights P t, x ∈ DataW.weightsAll P t es
  | [], _, hd, _, _ => by simp at hd
  | e :: es, d, hd, x, hx => by
    rw [DataW.weightsAll]
    rcases List.mem_cons.1 hd with rfl | hd
    · exact List.mem_append_left _ hx
    · exact List.mem_append_right _ (weights_of hd x hx)
theorem r64_of_wf {x : Int} (h : (Lit.int .i64 x).wf = true) : R64 x := by
  simp [Lit.wf, IntKind.min, IntKind.max, IntKind.bits, IntKind.signed] at h
  unfold R64
  omega
set_option maxRecDepth 100000 in
theorem inst_fields {fuel : Nat} {cs : List Value} {x : DataW H × List MemPlace} (h : DataW.trod enc Try.prog w base spare held fuel 95 cs = some x) :
    ∃ (n : Nat) (c0 c1 c2 c3 c4 : Value) (y0 y1 y2 y3 y4 : DataW H × List MemPlace), fuel = n + 1 ∧ cs = [c0, c1, c2, c3, c4] ∧ x.1 = .agg [y0.1, y1.1, y2.1, y3.1, y4.1] ∧
      DataW.trod enc Try.prog w base spare held n 93 [c0] = some y0 ∧ DataW.trod enc Try.prog w base spare held n 3 [c1] = some y1 ∧ DataW.trod enc Try.prog w base spare held n 3 [c2] = some y2 ∧
      DataW.trod enc Try.prog w base spare held n 24 [c3] = some y3 ∧ DataW.trod enc Try.prog w base spare held n 25 [c4] = some y4 := by
  obtain ⟨xs, n, hfu, hx, hl, hlen, hf⟩ := DataW.trod_struct Try.underlying95 h
  have hl5 : cs.length = 5 := by rw [hl]; kernel_rfl
  have k0 : Try.prog.cellsOf 93 = 1 := by kernel_rfl
  have k1 : Try.prog.cellsOf 3 = 1 := by kernel_rfl
  have k3 : Try.prog.cellsOf 24 = 1 := by kernel_rfl
  have k4 : Try.prog.cellsOf 25 = 1 := by kernel_rfl
  match cs, hl5 with
  | [c0, c1, c2, c3, c4], _ =>
    match xs, hlen with
    | [y0, y1, y2, y3, y4], _ =>
      refine ⟨n, c0, c1, c2, c3, c4, y0, y1, y2, y3, y4, hfu, rfl, by rw [hx]; rfl, ?_, ?_, ?_, ?_, ?_⟩
      · have := hf 0 _ rfl; simpa [k0] using this
      · have := hf 1 _ rfl; simpa [k1] using this
      · have := hf 2 _ rfl; simpa [k1] using this
      · have := hf 3 _ rfl; simpa [k3] using this
      · have := hf 4 _ rfl; simpa [k4] using this
set_option maxRecDepth 100000 in
theorem inst_of_trod {fuel : Nat} {cs : List Value} {x : DataW H × List MemPlace} (h : DataW.trod enc Try.prog w base spare held fuel 95 cs = some x) (hw : ∀ z ∈ x.1.weights Try.prog 95, z ≤ reachBytes) :
    ∃ (X : Ins) (a : Option Addr) (c : Nat), cs = [.int .i64 X.op, .int .i64 X.out, .int .i64 X.arg, .slice a X.set.length c, .int .i64 X.at'] ∧ Rgs w (.slice a X.set.length c) X.set ∧ Bds X := by
  obtain ⟨n, c0, c1, c2, c3, c4, y0, y1, y2, y3, y4, hfu, rfl, hx, g0, g1, g2, g3, g4⟩ := inst_fields h
  have hw' : ∀ z, z ∈ y3.1.weights Try.prog 24 → z ≤ reachBytes := fun z hz => hw z (by
    rw [hx, DataW.weights, Try.underlying95]
    simp only [List.map_cons, List.map_nil, DataW.weightsEach, List.mem_append]
    simp [hz])
  obtain ⟨v0, e0, -, f0⟩ := DataW.trod_int (k := .i64) Try.underlying93 g0
  obtain ⟨v1, e1, -, f1⟩ := DataW.trod_int (k := .i64) Try.underlying3 g1
  obtain ⟨v2, e2, -, f2⟩ := DataW.trod_int (k := .i64) Try.underlying3 g2
  obtain ⟨v4, e4, -, f4⟩ := DataW.trod_int (k := .i64) Try.underlying25 g4
  obtain ⟨a3, len3, cap3, l, e3, hR, hz3⟩ := rgs_of_arg (d := y3.1) (ps := y3.2) g3
  simp only [List.cons.injEq, and_true] at e0 e1 e2 e3 e4
  subst e0 e1 e2 e3 e4
  have hb3 : l.length ≤ 17592186044416 := by
    rcases hz3 with ⟨-, rfl⟩ | ⟨es, sp, hs, hl⟩
    · simp
    · have := hw' ((es.length + sp.length) * Try.prog.bytesOf 131) (by rw [hs, DataW.weights, Try.underlying24]; simp)
      rw [show Try.prog.bytesOf 131 = 8 by kernel_rfl] at this
      unfold reachBytes at this
      omega
  obtain ⟨_, _, e, _⟩ := id hR
  injection e with _ e2 _
  subst e2
  exact ⟨⟨v0, v1, v2, l, v4⟩, a3, cap3, rfl, hR, r64_of_wf f0, r64_of_wf f1, r64_of_wf f2, r64_of_wf f4, hb3⟩
set_option maxRecDepth 100000 in
theorem inss_of_arg {fuel : Nat} {cs : List Value} {x : DataW H × List MemPlace} (h : DataW.trod enc Try.prog w base spare held fuel 56 cs = some x) (hw : ∀ z ∈ x.1.weights Try.prog 56, z ≤ reachBytes) :
    ∃ (v : Value) (L : List Ins), cs = [v] ∧ Inss w v L := by
  rcases DataW.trod_slice Try.underlying56 h with ⟨e1, -⟩ | ⟨a, len, cap, elems, rest, m, hm, e1, hy1, -, hlc, hcm, hel, hE, -⟩
  · exact ⟨_, [], e1, none, 0, rfl, Nat.le_refl _, Nat.zero_le _, fun _ => rfl, .inl rfl⟩
  · have hv : ∀ i, i < len → ∃ q : List Value × (Ins × Option Addr × Nat), w.cells? base (a.add (i * 5)) 5 = some q.1 ∧ q.1 = [.int .i64 q.2.1.op, .int .i64 q.2.1.out, .int .i64 q.2.1.arg, .slice q.2.2.1 q.2.1.set.length q.2.2.2, .int .i64 q.2.1.at'] ∧ Rgs w (.slice q.2.2.1 q.2.1.set.length q.2.2.2) q.2.1.set ∧ Bds q.2.1 := fun i hi => by
      have h1 := hE i hi
      rw [show Try.prog.cellsOf 95 = 5 by kernel_rfl, List.getElem?_eq_getElem (by omega)] at h1
      obtain ⟨cs', h2, h3⟩ := Option.bind_eq_some_iff.1 h1
      obtain ⟨X, a', c', hcs, hr, hb⟩ := inst_of_trod h3 (fun z hz => hw z (by
        rw [hy1, DataW.weights, Try.underlying56]
        refine List.mem_cons_of_mem _ (List.mem_append_left _ (weights_of (d := (elems[i]'(by omega)).1) (List.mem_map_of_mem (List.getElem_mem _)) z hz))))
      exact ⟨(cs', X, a', c'), h2, hcs, hr, hb⟩
    haveI : Inhabited Ins := ⟨zeroI⟩
    obtain ⟨f, hf⟩ := choose_lt hv
    refine ⟨_, (List.range len).map fun i => (f i).2.1, e1, some a, cap, by simp, by simpa using hlc, hcm, fun e => (by cases e), ?_⟩
    by_cases h0 : len = 0
    · exact .inl (by rw [h0]; rfl)
    have hsp : a.spot = none := by
      obtain ⟨h1, e, -⟩ := hf 0 (by omega)
      obtain ⟨-, hl, h2⟩ := World.cells?_some h1
      have h3 := h2 0 (by omega)
      rw [List.getElem?_eq_getElem (by omega)] at h3
      have := World.cell?_spot h3
      obtain ⟨b, off, spot⟩ := a
      simpa [Addr.add] using this
    obtain ⟨b, off, spot⟩ := a
    subst hsp
    refine .inr ⟨b, off, rfl, fun i hi => ?_⟩
    have hi' : i < len := by simpa using hi
    obtain ⟨h1, h2, h4, h5⟩ := hf i hi'
    obtain ⟨-, hl, h3⟩ := World.cells?_some h1
    have ad : ∀ j, (⟨b, off, none⟩ : Addr).add j = ⟨b, off + j, none⟩ := fun j => by unfold Addr.add; split <;> simp_all
    have ad2 : ∀ o j, (⟨b, o, none⟩ : Addr).add j = ⟨b, o + j, none⟩ := fun o j => by unfold Addr.add; split <;> simp_all
    have cell : ∀ j u, (f i).1[j]? = some u → j < 5 → w.cell? ⟨b, off + i * 5 + j, none⟩ = some u := fun j u hu hj => by
      have h6 := h3 j hj
      rw [ad, ad2, hu] at h6
      exact h6
    rw [h2] at cell
    rw [List.getElem_map, List.getElem_range]
    exact ⟨(f i).2.2.1, (f i).2.2.2, ⟨cell 0 _ rfl (by omega), cell 1 _ rfl (by omega), cell 2 _ rfl (by omega), cell 3 _ rfl (by omega), cell 4 _ rfl (by omega)⟩, h4, h5⟩
set_option maxRecDepth 100000 in
theorem pg_of_value {fuel : Nat} {v : Value} {x : DataW H × List MemPlace} (h : DataW.trod enc Try.prog w base spare held fuel 58 v.cells.toList = some x) (hw : ∀ z ∈ x.1.weights Try.prog 58, z ≤ reachBytes) : ∃ p, PgV w p v := by
  obtain ⟨xs, n, hfu, hx, hl, hlen, hf⟩ := DataW.trod_struct Try.underlying58 h
  have hl3 : v.cells.toList.length = 3 := by rw [hl]; kernel_rfl
  have k0 : Try.prog.cellsOf 56 = 1 := by kernel_rfl
  have k1 : Try.prog.cellsOf 3 = 1 := by kernel_rfl
  obtain ⟨cs, hcs⟩ : ∃ cs, v.cells.toList = cs := ⟨_, rfl⟩
  rw [hcs] at hl3 hf
  match cs, hl3, hcs with
  | [c0, c1, c2], _, hcs =>
    match xs, hlen with
    | [y0, y1, y2], _ =>
      have g0 : DataW.trod enc Try.prog w base spare held n 56 [c0] = some y0 := by have := hf 0 _ rfl; simpa [k0] using this
      have g1 : DataW.trod enc Try.prog w base spare held n 3 [c1] = some y1 := by have := hf 1 _ rfl; simpa [k1] using this
      have g2 : DataW.trod enc Try.prog w base spare held n 3 [c2] = some y2 := by have := hf 2 _ rfl; simpa [k1] using this
      have hx' : x.1 = .agg [y0.1, y1.1, y2.1] := by rw [hx]; rfl
      obtain ⟨u, L, e0, hI⟩ := inss_of_arg g0 (fun z hz => hw z (by
        rw [hx', DataW.weights, Try.underlying58]
        simp only [List.map_cons, List.map_nil, DataW.weightsEach, List.mem_append]
        simp [hz]))
      obtain ⟨v1, e1, -, f1⟩ := DataW.trod_int (k := .i64) Try.underlying3 g1
      obtain ⟨v2, e2, -, f2⟩ := DataW.trod_int (k := .i64) Try.underlying3 g2
      simp only [List.cons.injEq, and_true] at e0 e1 e2
      subst e0 e1 e2
      refine ⟨⟨L, v1, v2⟩, c0, ?_, hI, r64_of_wf f1, r64_of_wf f2⟩
      cases v with
      | agg a =>
        have e : a = #[c0, .int .i64 v1, .int .i64 v2] := Array.toList_inj.1 (by simpa [Value.cells] using hcs)
        rw [e]
      | _ => simp [Value.cells] at hcs
set_option maxRecDepth 100000 in
theorem zs_of_arg {fuel : Nat} {cs : List Value} {x : DataW H × List MemPlace} (h : DataW.trod enc Try.prog w base spare held fuel 38 cs = some x) :
    ∃ a len cap l, cs = [.slice a len cap] ∧ Zs w (.slice a len cap) l ∧ ((∀ z ∈ x.1.weights Try.prog 38, z ≤ reachBytes) → l.length ≤ 17592186044416) := by
  rcases DataW.trod_slice Try.underlying38 h with ⟨e1, -⟩ | ⟨a, len, cap, elems, rest, m, hm, e1, hy1, -, hlc, hcm, hel, hE, -⟩
  · exact ⟨none, 0, 0, [], e1, ⟨none, 0, rfl, Nat.le_refl _, Nat.zero_le _, fun _ => rfl, .inl rfl, by simp⟩, fun _ => Nat.zero_le _⟩
  · have hv : ∀ i, i < len → ∃ y : Int, w.cells? base (a.add (i * 1)) 1 = some [.int .i64 y] ∧ R64 y := fun i hi => by
      have h1 := hE i hi
      rw [show Try.prog.cellsOf 3 = 1 by kernel_rfl, List.getElem?_eq_getElem (by omega)] at h1
      obtain ⟨cs', h2, h3⟩ := Option.bind_eq_some_iff.1 h1
      obtain ⟨y, hy, -, fy⟩ := DataW.trod_int (k := .i64) Try.underlying3 h3
      subst hy
      exact ⟨y, h2, r64_of_wf fy⟩
    obtain ⟨f, hf⟩ := choose_lt hv
    refine ⟨some a, len, cap, (List.range len).map f, e1, ⟨some a, cap, by simp, by simpa using hlc, hcm, fun e => (by cases e), ?_, fun y hy => ?_⟩, fun hw => ?_⟩
    · by_cases h0 : len = 0
      · exact .inl (by rw [h0]; rfl)
      have hsp : a.spot = none := by
        obtain ⟨h1, -⟩ := hf 0 (by omega)
        obtain ⟨-, hl, h2⟩ := World.cells?_some h1
        have h3 := h2 0 (by omega)
        have := World.cell?_spot h3
        obtain ⟨b, off, spot⟩ := a
        simpa [Addr.add] using this
      obtain ⟨b, off, spot⟩ := a
      subst hsp
      refine .inr ⟨b, off, rfl, fun i hi => ?_⟩
      have hi' : i < len := by simpa using hi
      obtain ⟨h1, -⟩ := hf i hi'
      obtain ⟨-, hl, h3⟩ := World.cells?_some h1
      have ad : ∀ o j, (⟨b, o, none⟩ : Addr).add j = ⟨b, o + j, none⟩ := fun o j => by unfold Addr.add; split <;> simp_all
      have h6 := h3 0 (by omega)
      rw [ad, ad] at h6
      rw [List.getElem_map, List.getElem_range]
      simpa using h6
    · obtain ⟨i, hi, rfl⟩ := List.mem_map.1 hy
      exact (hf i (List.mem_range.1 hi)).2
    · have h1 := hw ((elems.length + rest.length) * Try.prog.bytesOf 3) (by rw [hy1, DataW.weights, Try.underlying38]; simp)
      rw [show Try.prog.bytesOf 3 = 8 by kernel_rfl] at h1
      unfold reachBytes at h1
      simp
      omega
end
end Go.Proofs.Ytnemacejaiifnaa
