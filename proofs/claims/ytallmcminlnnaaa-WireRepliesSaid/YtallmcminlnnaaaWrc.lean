/- Package wire by contracts, all together, and the document's Read of any bytes. -/
import Derived.Test.YtallmcminlnnaaaWby
import Derived.Test.YtallmcminlnnaaaWk
set_option linter.unusedVariables false
set_option linter.unusedSimpArgs false
namespace Go.Proofs.Ytallmcminlnnaaa
open Go.RowKit Go.Cor

/-- The document's Read of any bytes. -/
theorem rread_any (v : Value) (l : List UInt8) (w : World) (hv : IsB w v l) (hl : l.length ≤ 1099511627776) :
    Calls Try.prog 9 #[v] w (ReadT w l) := by
  by_cases h : l.length < 28
  · exact rread_short v l w hv h
  · cases hs : msum l with
    | true => exact rread_main v l w hv hl (by omega) hs
    | false => exact rread_sum v l w hv hl (by omega) hs

end Go.Proofs.Ytallmcminlnnaaa
