/- The contract of the document's Read: two letters, and more behind. -/
import Derived.Test.YtpldipadnbnhgabDoorNWalkG
import Derived.Test.YtpldipadnbnhgabDoorNPlainD
namespace Go.Proofs.YtpldipadnbnhgabDoor
open Go.RowKit
set_option linter.unusedVariables false

end Go.Proofs.YtpldipadnbnhgabDoor