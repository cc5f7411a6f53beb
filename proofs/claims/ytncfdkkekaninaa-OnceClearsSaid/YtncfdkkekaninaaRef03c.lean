/- The document's answers for layer 3, by contracts: the needle of bytes, where the head may be. -/
import Derived.Test.YtncfdkkekaninaaRef03b
set_option linter.unusedVariables false
set_option linter.unusedSimpArgs false
namespace Go.Proofs.Ytncfdkkekaninaa
open Go.RowKit Go.Cor

/-- The world behind the needle's own block. -/
abbrev rbox (w : World) (k c : Nat) (g : Bool) (v : Value) : World := (rworld w).alloc (.cells #[.int .u64 (k : Int), .int .u32 (c : Int), .bool g, v] 34)
abbrev rworld2 (w : World) : World := (rworld w).alloc (.cells #[.int .u64 0, .int .u32 0, .bool false, .slice none 0 0] 34)
theorem isB_rw2 {w : World} {v : Value} {l : List UInt8} (h : IsB w v l) : IsB (rworld2 w) v l := (isB_rw h).mono ((Below.refl _ _).alloc (Nat.le_refl _) _) (Nat.le_refl _)
theorem rbox_below (w : World) (k c : Nat) (g : Bool) (v : Value) : Below w.heap.size w (rbox w k c g v) := (rworld_below w).alloc (by simp) _

end Go.Proofs.Ytncfdkkekaninaa
