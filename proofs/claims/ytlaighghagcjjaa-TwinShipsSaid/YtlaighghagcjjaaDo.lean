/- Package dirs' object, and its calls by contracts: all of them. -/
import Derived.Test.YtlaighghagcjjaaDo7
set_option linter.unusedVariables false
set_option linter.unusedSimpArgs false
namespace Go.Proofs.Ytlaighghagcjjaa
end Go.Proofs.Ytlaighghagcjjaa
