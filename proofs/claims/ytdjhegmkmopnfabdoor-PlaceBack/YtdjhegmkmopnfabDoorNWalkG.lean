/- The contract of the document's Read: one letter, two letters. -/
import Derived.Test.YtdjhegmkmopnfabDoorNWalkF
namespace Go.Proofs.YtdjhegmkmopnfabDoor
open Go.RowKit
set_option linter.unusedVariables false

end Go.Proofs.YtdjhegmkmopnfabDoor