/- Package needle by contracts: Get. -/
import Derived.Test.YtncfdkkekaninaaNeedlec
import Derived.Outline
set_option linter.unusedVariables false
set_option linter.unusedSimpArgs false
namespace Go.Proofs.Ytncfdkkekaninaa
open Go.RowKit Go.Cor

/-- No needle. -/
abbrev nzero : Value := .agg #[.int .u64 0, .int .u32 0, .bool false, .slice none 0 0]

/-- The world behind Get's first step. -/
abbrev gworld (w : World) : World := w.alloc (.cells #[.int .u64 0, .int .u32 0, .bool false, .slice none 0 0] 40)
theorem gworld_below (w : World) : Below w.heap.size w (gworld w) := (Below.refl _ _).alloc (Nat.le_refl _) _
theorem isB_gw {w : World} {v : Value} {l : List UInt8} (h : IsB w v l) : IsB (gworld w) v l := h.mono (gworld_below w) (Nat.le_refl _)

end Go.Proofs.Ytncfdkkekaninaa
