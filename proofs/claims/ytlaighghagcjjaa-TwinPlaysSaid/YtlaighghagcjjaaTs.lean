/- Package corncriblaw20: TwinShips. -/
import Derived.Test.YtlaighghagcjjaaTk
import Derived.Test.YtlaighghagcjjaaTnF
import Derived.Test.YtlaighghagcjjaaRef01
namespace Go.Proofs.Ytlaighghagcjjaa
open Go.RowKit Go.Cor
set_option linter.unusedVariables false
set_option linter.unusedSimpArgs false

theorem rep_ok20 (l : List Cm) (K : Nat) (h : l.length + 1 ≤ K) : LOk (repL [] l) K := (repL_ok (LOk.nil 1) (Nat.le_refl 1) l).more (by omega)
end Go.Proofs.Ytlaighghagcjjaa
