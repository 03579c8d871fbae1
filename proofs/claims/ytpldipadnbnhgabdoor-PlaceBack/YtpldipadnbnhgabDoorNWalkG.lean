/- The contract of the document's Read: one letter, two letters. -/
import Derived.Test.YtpldipadnbnhgabDoorNWalkF
namespace Go.Proofs.YtpldipadnbnhgabDoor
open Go.RowKit
set_option linter.unusedVariables false

end Go.Proofs.YtpldipadnbnhgabDoor