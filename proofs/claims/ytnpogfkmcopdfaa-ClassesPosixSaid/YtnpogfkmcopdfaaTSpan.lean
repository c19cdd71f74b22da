/- The program's spans of a name as sets: asRange, spans, Named. -/
import Derived.Test.YtnpogfkmcopdfaaRAt
import Derived.Shelf.Abstract
import Derived.RangeFuncBox
set_option linter.unusedVariables false
namespace Go.Proofs.Ytnpogfkmcopdfaa
open Go Go.RowKit

set_option maxHeartbeats 400000 in
theorem asRange_any (x y : Int) (w : World) : Calls Try.prog 42 #[.agg #[.int .i32 x, .int .i32 y]] w fun e w' => e = .returned (.agg #[.int .i32 x, .int .i32 y]) ∧ Below w.heap.size w w' := by
  go_enter Try.func42, Try.ntmps42
  go_wp2
  exact bodyPost_ret (v := .agg #[.int .i32 x, .int .i32 y]) (by simp [results, Try.results42, go_sem]) rfl ⟨rfl, ((Below.refl _ w).alloc (Nat.le_refl _) _).alloc (by simp) _⟩
end Go.Proofs.Ytnpogfkmcopdfaa
