/- The contracts of the document's RightArea, Size, Has. -/
import Derived.Test.YtdjhegmkmopnfabDoorPWalkA
import Derived.Test.YtdjhegmkmopnfabDoorPPlainB
namespace Go.Proofs.YtdjhegmkmopnfabDoor
open Go.RowKit
set_option linter.unusedVariables false

end Go.Proofs.YtdjhegmkmopnfabDoor