/- The document's answers for layer 2, by contracts. -/
import Derived.Test.YtofhbnnheadmlaaCrcF
import Derived.Test.YtofhbnnheadmlaaRef01
import Derived.Test.YtofhbnnheadmlaaSum
set_option linter.unusedVariables false
set_option linter.unusedSimpArgs false
namespace Go.Proofs.Ytofhbnnheadmlaa
open Go.RowKit Go.Cor

end Go.Proofs.Ytofhbnnheadmlaa
