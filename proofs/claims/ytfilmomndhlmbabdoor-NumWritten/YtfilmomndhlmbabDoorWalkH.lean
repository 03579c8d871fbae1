/- The contracts of the reference's Add, Sub, Cmp. -/
import Derived.Test.YtfilmomndhlmbabDoorWalkG
import Derived.Test.YtfilmomndhlmbabDoorAtKit
namespace Go.Proofs.YtfilmomndhlmbabDoor
open Go.RowKit
set_option linter.unusedVariables false

end Go.Proofs.YtfilmomndhlmbabDoor