/- The contracts of the document's RightArea, Size, Has. -/
import Derived.Test.YtpldipadnbnhgabDoorPWalkA
import Derived.Test.YtpldipadnbnhgabDoorPPlainB
namespace Go.Proofs.YtpldipadnbnhgabDoor
open Go.RowKit
set_option linter.unusedVariables false

end Go.Proofs.YtpldipadnbnhgabDoor