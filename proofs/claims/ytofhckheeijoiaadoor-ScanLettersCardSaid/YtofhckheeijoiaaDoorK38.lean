/- Texts merged by program: SAppend. No condition. -/
import Derived.Test.YtofhckheeijoiaaDoorK2
import Derived.Lib.SmallJoins
set_option linter.unusedVariables false
/- Texts put together, and what is left of a text that is known. -/
namespace Go.Proofs.YtofhckheeijoiaaDoor
open Go Go.RowKit

theorem append_list (a b : ByteArray) : (a ++ b).toList = a.toList ++ b.toList := by rw [Lib.toList_data, Lib.toList_data, Lib.toList_data, Joins.data_append]
theorem left_of (s : ByteArray) (k : Nat) {l : List UInt8} (h : s.toList = l) : leftB s k = l.drop k := by unfold leftB; rw [h]
end Go.Proofs.YtofhckheeijoiaaDoor
