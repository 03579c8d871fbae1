/- The contract of the document's Read: two letters, and more behind. -/
import Derived.Test.YtdjhegmkmopnfabDoorNWalkG
import Derived.Test.YtdjhegmkmopnfabDoorNPlainD
namespace Go.Proofs.YtdjhegmkmopnfabDoor
open Go.RowKit
set_option linter.unusedVariables false

end Go.Proofs.YtdjhegmkmopnfabDoor