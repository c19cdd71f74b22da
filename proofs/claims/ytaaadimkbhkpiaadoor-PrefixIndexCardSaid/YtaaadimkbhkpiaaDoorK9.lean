/- Texts merged by program: TrFields, TrShaped. No condition. -/
import Derived.Test.YtaaadimkbhkpiaaDoorK7
import Derived.Test.YtaaadimkbhkpiaaDoorK8
set_option linter.unusedVariables false
/- Has a tree just the fields of its Op: the document's fields, at any tree. -/
namespace Go.Proofs.YtaaadimkbhkpiaaDoor
open Go Go.RowKit

end Go.Proofs.YtaaadimkbhkpiaaDoor
/- Is all that makes a tree right so of it, but for groups, depth and weight: the document's Shaped. -/
namespace Go.Proofs.YtaaadimkbhkpiaaDoor
open Go Go.RowKit

end Go.Proofs.YtaaadimkbhkpiaaDoor
