/- The contracts of Shift and of the document's Right, Before, Shift. -/
import Derived.Test.YtdjhegmkmopnfabDoorPWalkC
namespace Go.Proofs.YtdjhegmkmopnfabDoor
open Go.RowKit
set_option linter.unusedVariables false

end Go.Proofs.YtdjhegmkmopnfabDoor