/- The contract of Hull. -/
import Derived.Test.YtpbjmhcpaeillaaPWalkB
namespace Go.Proofs.Ytpbjmhcpaeillaa
open Go.RowKit
set_option linter.unusedVariables false

end Go.Proofs.Ytpbjmhcpaeillaa