/- Texts merged by program: Arg. No condition. -/
import Derived.Test.YtnemacejaiifnaaO4
import Derived.Deep.SlicePairs
import Derived.ChangeArms
set_option linter.unusedVariables false
/- An argument that is a list of ranges: what it holds, and how long it may be. -/
set_option linter.unusedSimpArgs false
namespace Go.Proofs.Ytnemacejaiifnaa
open Go Go.RowKit Go.Deep Go.ChangeShapes Go.WideShapes

theorem rgs_of_arg {H : Type} {enc : TypeId × Value → H} {w : World} {base : Nat} {spare : Nat → Bool} {held : Bool} {fuel : Nat} {cs : List Value} {d : DataW H} {ps : List MemPlace}
    (h : DataW.trod enc Try.prog w base spare held fuel 24 cs = some (d, ps)) :
    ∃ a len cap l, cs = [.slice a len cap] ∧ Rgs w (.slice a len cap) l ∧ ((d = .nil ∧ l = []) ∨ ∃ es sp, d = .slice es sp ∧ es.length = l.length) := by
  rcases open_slice_pairs Try.underlying24 Try.underlying131 (by kernel_rfl) rfl rfl (by kernel_rfl) (by kernel_rfl) h with ⟨rfl, hx⟩ | ⟨a, len, cap, m, n, V0, V1, D0, D1, P0, P1, rfl, -, hl, hm, hmm, hx, hf⟩
  · simp only [Prod.mk.injEq] at hx
    exact ⟨none, 0, 0, [], rfl, ⟨none, 0, rfl, Nat.le_refl _, by unfold maxLen; omega, fun _ => rfl, .inl rfl, by simp⟩, .inl ⟨hx.1, rfl⟩⟩
  · simp only [Prod.mk.injEq] at hx
    have hlm : len ≤ m := by rw [hmm]; split <;> omega
    have hv : ∀ i, i < len → ∃ x : Int × Int, w.cell? (a.add (i * 2)) = some (.int .i32 x.1) ∧ w.cell? (a.add (i * 2 + 1)) = some (.int .i32 x.2) ∧ I32 x.1 ∧ I32 x.2 := fun i hi => by
      obtain ⟨g1, g2, g3, g4⟩ := hf i (by omega)
      obtain ⟨x1, hx1, -, wx1⟩ := DataW.trod_int (k := .i32) Try.underlying21 g3
      obtain ⟨x2, hx2, -, wx2⟩ := DataW.trod_int (k := .i32) Try.underlying21 g4
      refine ⟨(x1, x2), ?_, ?_, ?_, ?_⟩
      · rw [g1]
        congr 1
        first | exact hx1 | (injection hx1)
      · rw [g2]
        congr 1
        first | exact hx2 | (injection hx2)
      · simp [Lit.wf, IntKind.min, IntKind.max, IntKind.bits, IntKind.signed] at wx1
        unfold I32
        omega
      · simp [Lit.wf, IntKind.min, IntKind.max, IntKind.bits, IntKind.signed] at wx2
        unfold I32
        omega
    obtain ⟨f, hff⟩ := choose_lt hv
    refine ⟨some a, len, cap, (List.range len).map f, rfl, ⟨some a, cap, by simp, by simpa using hl, hm, fun e => (by cases e), ?_, ?_⟩, .inr ⟨_, _, hx.1, by simp⟩⟩
    · by_cases h0 : len = 0
      · left
        rw [h0]
        rfl
      · obtain ⟨b, off, spot⟩ := a
        have hs : spot = none := by
          have h1 := (hff 0 (by omega)).1
          have h2 : (⟨b, off, spot⟩ : Addr).add (0 * 2) = ⟨b, off, spot⟩ := by simp [Addr.add]
          rw [h2] at h1
          simpa using World.cell?_spot h1
        subst hs
        refine .inr ⟨b, off, rfl, fun i hi => ?_⟩
        have hi' : i < len := by simpa using hi
        obtain ⟨g1, g2, -⟩ := hff i hi'
        have ad : ∀ j, (⟨b, off, none⟩ : Addr).add j = ⟨b, off + j, none⟩ := fun j => by unfold Addr.add; split <;> simp_all
        rw [ad] at g1 g2
        simp only [List.getElem_map, List.getElem_range]
        exact ⟨g1, g2⟩
    · intro r hr
      obtain ⟨i, hi, rfl⟩ := List.mem_map.1 hr
      obtain ⟨-, -, g3, g4⟩ := hff i (List.mem_range.1 hi)
      exact ⟨g3, g4⟩
theorem i32_of_wf {x : Int} (h : (Lit.int .i32 x).wf = true) : I32 x := by
  simp [Lit.wf, IntKind.min, IntKind.max, IntKind.bits, IntKind.signed] at h
  unfold I32
  omega
end Go.Proofs.Ytnemacejaiifnaa
