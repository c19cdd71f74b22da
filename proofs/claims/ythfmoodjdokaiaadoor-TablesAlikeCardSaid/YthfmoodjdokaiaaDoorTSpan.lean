/- The program's spans of a name as sets: asRange, spans, Named. -/
import Derived.Test.YthfmoodjdokaiaaDoorTGather
set_option linter.unusedVariables false
namespace Go.Proofs.YthfmoodjdokaiaaDoor
open Go Go.RowKit

set_option maxHeartbeats 400000 in
theorem asRange_any (x y : Int) (w : World) : Calls Tryd.prog 19 #[.agg #[.int .i32 x, .int .i32 y]] w fun e w' => e = .returned (.agg #[.int .i32 x, .int .i32 y]) ∧ Below w.heap.size w w' := by
  go_enter Tryd.func19, Tryd.ntmps19
  go_wp2
  exact bodyPost_ret (v := .agg #[.int .i32 x, .int .i32 y]) (by simp [results, Tryd.results19, go_sem]) rfl ⟨rfl, ((Below.refl _ w).alloc (Nat.le_refl _) _).alloc (by simp) _⟩
end Go.Proofs.YthfmoodjdokaiaaDoor
