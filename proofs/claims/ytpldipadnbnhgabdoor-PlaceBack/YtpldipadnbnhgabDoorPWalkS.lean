/- The contracts of Shift and of the document's Right, Before, Shift. -/
import Derived.Test.YtpldipadnbnhgabDoorPWalkC
namespace Go.Proofs.YtpldipadnbnhgabDoor
open Go.RowKit
set_option linter.unusedVariables false

end Go.Proofs.YtpldipadnbnhgabDoor