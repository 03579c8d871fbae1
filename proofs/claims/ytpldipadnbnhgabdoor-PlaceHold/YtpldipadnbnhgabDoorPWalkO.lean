/- The contracts of the document's One, At, Index. -/
import Derived.Test.YtpldipadnbnhgabDoorPWalkN
import Derived.Test.YtpldipadnbnhgabDoorPWalkS
import Derived.Test.YtpldipadnbnhgabDoorPWalkI
namespace Go.Proofs.YtpldipadnbnhgabDoor
open Go.RowKit
set_option linter.unusedVariables false

end Go.Proofs.YtpldipadnbnhgabDoor