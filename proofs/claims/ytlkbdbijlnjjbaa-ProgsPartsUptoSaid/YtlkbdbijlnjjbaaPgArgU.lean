/- An argument that is a list of ints: how long its reading is. -/
import Derived.Test.YtlkbdbijlnjjbaaPgArg
set_option linter.unusedVariables false
namespace Go.Proofs.Ytlkbdbijlnjjbaa
open Go Go.RowKit Go.Deep Go.ChangeShapes Go.WideShapes

theorem zs_reading {H : Type} {enc : TypeId × Value → H} {w : World} {base : Nat} {spare : Nat → Bool} {held : Bool} {fuel : Nat} {a : Option Addr} {len cap : Nat} {d : DataW H} {ps : List MemPlace}
    (h : DataW.trod enc Try.prog w base spare held fuel 29 [.slice a len cap] = some (d, ps)) : len = 0 ∨ ∃ es sp, d = .slice es sp ∧ es.length = len := by
  rcases DataW.trod_slice Try.underlying29 h with ⟨e1, -⟩ | ⟨a', len', cap', elems, rest, m, hm, e1, hy1, -, hlc, hcm, hel, hE, -⟩
  · left
    simp only [List.cons.injEq, and_true] at e1
    injection e1
  · right
    simp only [List.cons.injEq, and_true] at e1
    injection e1 with e2 e3 e4
    subst e3
    exact ⟨_, _, congrArg Prod.fst hy1, by rw [List.length_map]; exact hel⟩
end Go.Proofs.Ytlkbdbijlnjjbaa
