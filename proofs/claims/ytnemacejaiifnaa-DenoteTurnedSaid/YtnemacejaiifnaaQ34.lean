/- Texts merged by program: TrFields, TrShaped. No condition. -/
import Derived.Test.YtnemacejaiifnaaQ32
import Derived.Test.YtnemacejaiifnaaQ33
set_option linter.unusedVariables false
/- Has a tree just the fields of its Op: the document's fields, at any tree. -/
namespace Go.Proofs.Ytnemacejaiifnaa
open Go Go.RowKit

end Go.Proofs.Ytnemacejaiifnaa
/- Is all that makes a tree right so of it, but for groups, depth and weight: the document's Shaped. -/
namespace Go.Proofs.Ytnemacejaiifnaa
open Go Go.RowKit

end Go.Proofs.Ytnemacejaiifnaa
