/- The contracts of the document's One, At, Index. -/
import Derived.Test.YtdjhegmkmopnfabDoorPWalkN
import Derived.Test.YtdjhegmkmopnfabDoorPWalkS
import Derived.Test.YtdjhegmkmopnfabDoorPWalkI
namespace Go.Proofs.YtdjhegmkmopnfabDoor
open Go.RowKit
set_option linter.unusedVariables false

end Go.Proofs.YtdjhegmkmopnfabDoor