/- The program's two tables of letters, as their variables hold them. No condition. -/
import Derived.Test.YthfmoodjdokaiaaDoorROrbit
set_option linter.unusedVariables false
namespace Go.Proofs.YthfmoodjdokaiaaDoor
open Go Go.RowKit

/-- The orbits that are told one by one: how many runes, and three places. -/
def oddL : List (Int × List Int) := [(3, [75, 107, 8490]), (3, [83, 115, 383]), (3, [197, 229, 8491]), (3, [181, 924, 956]), (3, [931, 962, 963]), (2, [223, 7838, 0]), (2, [255, 376, 0])]
def oddCells (p : Int × List Int) : List Value := .int .i64 p.1 :: p.2.map (Value.int .i32)
def spanCells (p : Int × Int) : List Value := [.int .i32 p.1, .int .i32 p.2]
/-- Both variables hold what their text lays. -/
def TabsT (w : World) : Prop :=
  (∃ t fr, w.heap[0]? = some (.cells ((oddL.map oddCells).flatten.toArray) t fr)) ∧ ∃ t fr, w.heap[1]? = some (.cells ((greatL.map spanCells).flatten.toArray) t fr)
theorem TabsT.below {w w' : World} (h : TabsT w) (hb : Below w.heap.size w w') : TabsT w' := by
  obtain ⟨⟨t, fr, h1⟩, t', fr', h2⟩ := h
  exact ⟨⟨t, fr, (hb.block _ (Array.getElem?_eq_some_iff.1 h1).1).trans h1⟩, t', fr', (hb.block _ (Array.getElem?_eq_some_iff.1 h2).1).trans h2⟩
end Go.Proofs.YthfmoodjdokaiaaDoor
