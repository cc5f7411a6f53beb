/- The document's answers for layer 2, by contracts. -/
import Derived.Test.YtncfdkkekaninaaCrc
import Derived.Test.YtncfdkkekaninaaRef01
import Derived.Test.YtncfdkkekaninaaSum
set_option linter.unusedVariables false
set_option linter.unusedSimpArgs false
namespace Go.Proofs.Ytncfdkkekaninaa
open Go.RowKit Go.Cor

end Go.Proofs.Ytncfdkkekaninaa
