/- Texts merged by program. No condition. -/
import Derived.Test.YtbclhkogjmmgnaaGreatDoorK4
import Derived.Laws.Cover1
set_option linter.unusedVariables false
namespace Go.Proofs.YtbclhkogjmmgnaaGreatDoor
open Go Go.RowKit
end Go.Proofs.YtbclhkogjmmgnaaGreatDoor
