/- Package wire by contracts, all together, and the document's Read of any bytes. -/
import Derived.Test.YtofhbnnheadmlaaWby
import Derived.Test.YtofhbnnheadmlaaWk
set_option linter.unusedVariables false
set_option linter.unusedSimpArgs false
namespace Go.Proofs.Ytofhbnnheadmlaa
open Go.RowKit Go.Cor

end Go.Proofs.Ytofhbnnheadmlaa
