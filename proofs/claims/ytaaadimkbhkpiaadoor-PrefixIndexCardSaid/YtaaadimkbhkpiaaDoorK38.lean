/- Texts merged by program: PgArg, PgArgN. No condition. -/
import Derived.Test.YtaaadimkbhkpiaaDoorK36
import Derived.Test.YtaaadimkbhkpiaaDoorK37
import Derived.Test.YtaaadimkbhkpiaaDoorK12
import Derived.Deep.Slices
import Derived.ChangeArms
set_option linter.unusedVariables false
/- Arguments that are programs and lists of ints: what they hold; their bounds from the sized condition's weights. -/
namespace Go.Proofs.YtaaadimkbhkpiaaDoor
open Go Go.RowKit Go.Deep Go.ChangeShapes Go.WideShapes

section
variable {H : Type} {enc : TypeId × Value → H} {w : World} {base : Nat} {spare : Nat → Bool} {held : Bool}

theorem weights_of {P : Program} {t : TypeId} : ∀ {es : List (DataW H)} {d : DataW H}, d ∈ es → ∀ x ∈ d.weights P t, x ∈ DataW.weightsAll P t es
  | [], _, hd, _, _ => by simp at hd
  | e :: es, d, hd, x, hx => by
    rw [DataW.weightsAll]
    rcases List.mem_cons.1 hd with rfl | hd
    · exact List.mem_append_left _ hx
    · exact List.mem_append_right _ (weights_of hd x hx)
theorem r64_of_wf {x : Int} (h : (Lit.int .i64 x).wf = true) : R64 x := by
  simp [Lit.wf, IntKind.min, IntKind.max, IntKind.bits, IntKind.signed] at h
  unfold R64
  omega
set_option maxRecDepth 100000 in
theorem zs_of_arg {fuel : Nat} {cs : List Value} {x : DataW H × List MemPlace} (h : DataW.trod enc Tryd.prog w base spare held fuel 46 cs = some x) :
    ∃ a len cap l, cs = [.slice a len cap] ∧ Zs w (.slice a len cap) l ∧ ((∀ z ∈ x.1.weights Tryd.prog 46, z ≤ reachBytes) → l.length ≤ 17592186044416) := by
  rcases DataW.trod_slice Tryd.underlying46 h with ⟨e1, -⟩ | ⟨a, len, cap, elems, rest, m, hm, e1, hy1, -, hlc, hcm, hel, hE, -⟩
  · exact ⟨none, 0, 0, [], e1, ⟨none, 0, rfl, Nat.le_refl _, Nat.zero_le _, fun _ => rfl, .inl rfl, by simp⟩, fun _ => Nat.zero_le _⟩
  · have hv : ∀ i, i < len → ∃ y : Int, w.cells? base (a.add (i * 1)) 1 = some [.int .i64 y] ∧ R64 y := fun i hi => by
      have h1 := hE i hi
      rw [show Tryd.prog.cellsOf 3 = 1 by kernel_rfl, List.getElem?_eq_getElem (by omega)] at h1
      obtain ⟨cs', h2, h3⟩ := Option.bind_eq_some_iff.1 h1
      obtain ⟨y, hy, -, fy⟩ := DataW.trod_int (k := .i64) Tryd.underlying3 h3
      subst hy
      exact ⟨y, h2, r64_of_wf fy⟩
    obtain ⟨f, hf⟩ := choose_lt hv
    refine ⟨some a, len, cap, (List.range len).map f, e1, ⟨some a, cap, by simp, by simpa using hlc, hcm, fun e => (by cases e), ?_, fun y hy => ?_⟩, fun hw => ?_⟩
    · by_cases h0 : len = 0
      · exact .inl (by rw [h0]; rfl)
      have hsp : a.spot = none := by
        obtain ⟨h1, -⟩ := hf 0 (by omega)
        obtain ⟨-, hl, h2⟩ := World.cells?_some h1
        have h3 := h2 0 (by omega)
        have := World.cell?_spot h3
        obtain ⟨b, off, spot⟩ := a
        simpa [Addr.add] using this
      obtain ⟨b, off, spot⟩ := a
      subst hsp
      refine .inr ⟨b, off, rfl, fun i hi => ?_⟩
      have hi' : i < len := by simpa using hi
      obtain ⟨h1, -⟩ := hf i hi'
      obtain ⟨-, hl, h3⟩ := World.cells?_some h1
      have ad : ∀ o j, (⟨b, o, none⟩ : Addr).add j = ⟨b, o + j, none⟩ := fun o j => by unfold Addr.add; split <;> simp_all
      have h6 := h3 0 (by omega)
      rw [ad, ad] at h6
      rw [List.getElem_map, List.getElem_range]
      simpa using h6
    · obtain ⟨i, hi, rfl⟩ := List.mem_map.1 hy
      exact (hf i (List.mem_range.1 hi)).2
    · have h1 := hw ((elems.length + rest.length) * Tryd.prog.bytesOf 3) (by rw [hy1, DataW.weights, Tryd.underlying46]; simp)
      rw [show Tryd.prog.bytesOf 3 = 8 by kernel_rfl] at h1
      unfold reachBytes at h1
      simp
      omega
end
end Go.Proofs.YtaaadimkbhkpiaaDoor
/- Arguments that are lists of runes. -/
namespace Go.Proofs.YtaaadimkbhkpiaaDoor
open Go Go.RowKit Go.Deep Go.ChangeShapes Go.WideShapes

section
variable {H : Type} {enc : TypeId × Value → H} {w : World} {base : Nat} {spare : Nat → Bool} {held : Bool}
theorem runeN_of_wf {x : Int} (h : (Lit.int .i32 x).wf = true) : I32 x := by
  simp [Lit.wf, IntKind.min, IntKind.max, IntKind.bits, IntKind.signed] at h
  unfold I32
  omega
set_option maxRecDepth 100000 in
theorem rns_of_arg {fuel : Nat} {cs : List Value} {x : DataW H × List MemPlace} (h : DataW.trod enc Tryd.prog w base spare held fuel 23 cs = some x) :
    ∃ a len cap l, cs = [.slice a len cap] ∧ Rns w (.slice a len cap) l := by
  rcases DataW.trod_slice Tryd.underlying23 h with ⟨e1, -⟩ | ⟨a, len, cap, elems, rest, m, hm, e1, hy1, -, hlc, hcm, hel, hE, -⟩
  · exact ⟨none, 0, 0, [], e1, ⟨none, 0, rfl, Nat.le_refl _, Nat.zero_le _, fun _ => rfl, .inl rfl, by simp⟩⟩
  · have hv : ∀ i, i < len → ∃ y : Int, w.cells? base (a.add (i * 1)) 1 = some [.int .i32 y] ∧ I32 y := fun i hi => by
      have h1 := hE i hi
      rw [show Tryd.prog.cellsOf 21 = 1 by kernel_rfl, List.getElem?_eq_getElem (by omega)] at h1
      obtain ⟨cs', h2, h3⟩ := Option.bind_eq_some_iff.1 h1
      obtain ⟨y, hy, -, fy⟩ := DataW.trod_int (k := .i32) Tryd.underlying21 h3
      subst hy
      exact ⟨y, h2, runeN_of_wf fy⟩
    obtain ⟨f, hf⟩ := choose_lt hv
    refine ⟨some a, len, cap, (List.range len).map f, e1, ⟨some a, cap, by simp, by simpa using hlc, hcm, fun e => (by cases e), ?_, fun y hy => ?_⟩⟩
    · by_cases h0 : len = 0
      · exact .inl (by rw [h0]; rfl)
      have hsp : a.spot = none := by
        obtain ⟨h1, -⟩ := hf 0 (by omega)
        obtain ⟨-, hl, h2⟩ := World.cells?_some h1
        have h3 := h2 0 (by omega)
        have := World.cell?_spot h3
        obtain ⟨b, off, spot⟩ := a
        simpa [Addr.add] using this
      obtain ⟨b, off, spot⟩ := a
      subst hsp
      refine .inr ⟨b, off, rfl, fun i hi => ?_⟩
      have hi' : i < len := by simpa using hi
      obtain ⟨h1, -⟩ := hf i hi'
      obtain ⟨-, hl, h3⟩ := World.cells?_some h1
      have ad : ∀ o j, (⟨b, o, none⟩ : Addr).add j = ⟨b, o + j, none⟩ := fun o j => by unfold Addr.add; split <;> simp_all
      have h6 := h3 0 (by omega)
      rw [ad, ad] at h6
      rw [List.getElem_map, List.getElem_range]
      simpa using h6
    · obtain ⟨i, hi, rfl⟩ := List.mem_map.1 hy
      exact (hf i (List.mem_range.1 hi)).2
end
end Go.Proofs.YtaaadimkbhkpiaaDoor
