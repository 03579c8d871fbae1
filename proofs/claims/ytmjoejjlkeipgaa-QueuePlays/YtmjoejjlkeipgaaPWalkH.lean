/- The contract of Hull. -/
import Derived.Test.YtmjoejjlkeipgaaPWalkB
namespace Go.Proofs.Ytmjoejjlkeipgaa
open Go.RowKit
set_option linter.unusedVariables false

end Go.Proofs.Ytmjoejjlkeipgaa