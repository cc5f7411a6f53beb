/- Package dirs' object, and its calls by contracts: all of them. -/
import Derived.Test.YtibmajicknnbhaaDo7
set_option linter.unusedVariables false
set_option linter.unusedSimpArgs false
namespace Go.Proofs.Ytibmajicknnbhaa
end Go.Proofs.Ytibmajicknnbhaa
