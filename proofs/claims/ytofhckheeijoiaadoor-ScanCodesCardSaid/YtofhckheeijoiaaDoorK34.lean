/- Texts merged by program: TrRight. No condition. -/
import Derived.Test.YtofhckheeijoiaaDoorK5
import Derived.Test.YtofhckheeijoiaaDoorK29
import Derived.Test.YtofhckheeijoiaaDoorK33
set_option linter.unusedVariables false
/- Is a tree right: the document's Right. -/
namespace Go.Proofs.YtofhckheeijoiaaDoor
open Go Go.RowKit

/-- Groups are numbered in order, and no name stands twice. -/
def CapsFine (g : List Tr) : Prop := ∀ (i : Nat) (h : i < g.length), g[i].fld.cap = (i : Int) + 1 ∧ ∀ (k : Nat) (hk : k < i), ¬ ((g[k]'(by omega)).fld.name.toList = g[i].fld.name.toList ∧ g[i].fld.name.toList ≠ [])
/-- A right tree. -/
def RightT (t : Tr) : Prop := depthR t ≤ 50 ∧ weightR t ≤ 4000 ∧ ShapedP t ∧ CapsFine (groupsT t)
end Go.Proofs.YtofhckheeijoiaaDoor
