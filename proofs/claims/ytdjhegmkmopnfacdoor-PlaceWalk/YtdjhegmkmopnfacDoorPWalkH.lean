/- The contract of Hull. -/
import Derived.Test.YtdjhegmkmopnfacDoorPWalkB
namespace Go.Proofs.YtdjhegmkmopnfacDoor
open Go.RowKit
set_option linter.unusedVariables false

end Go.Proofs.YtdjhegmkmopnfacDoor