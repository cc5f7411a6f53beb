/- Package wire by contracts: Same and Reply. -/
import Derived.Test.YtofhbnnheadmlaaWn
import Derived.Test.YtofhbnnheadmlaaRef14eF
set_option linter.unusedVariables false
set_option linter.unusedSimpArgs false
namespace Go.Proofs.Ytofhbnnheadmlaa
open Go.RowKit Go.Cor

end Go.Proofs.Ytofhbnnheadmlaa
