/- The document's Read of a message (layer 14) by contracts. -/
import Derived.Test.YtncfdkkekaninaaRef14c
import Derived.Test.YtncfdkkekaninaaLaw03f
import Derived.Deep.RegionHeld3
import Derived.StillTailTactics
set_option linter.unusedVariables false
set_option linter.unusedSimpArgs false
namespace Go.Proofs.Ytncfdkkekaninaa
open Go.RowKit Go.Cor

/-- What Read leaves. -/
def ReadT (w : World) (l : List UInt8) (e : Ending) (w' : World) : Prop := ∃ nv, e = .returned (.tuple #[mval (mread l) nv, .int .i64 (mcode l : Nat)]) ∧ IsB w' nv (mread l).n.data ∧ Below w.heap.size w w'
theorem ReadT.bad {w w' : World} {l : List UInt8} {c : Nat} (hc : mcode l = c) (h0 : c ≠ 0) (hb : Below w.heap.size w w') : ReadT w l (.returned (.tuple #[.agg #[.int .i64 0, .int .i64 0, .int .i64 0, .int .i64 0, .int .i64 0, .int .u64 0, .int .i64 0, .bool false, .int .u64 0, .int .u32 0, .bool false, .slice none 0 0], .int .i64 (c : Int)])) w' := by
  have e : mread l = mz := by unfold mread; rw [if_neg (by omega)]
  refine ⟨.slice none 0 0, ?_, ?_, hb⟩
  · rw [e, hc]; rfl
  · rw [e]; exact IsB.nil w'
end Go.Proofs.Ytncfdkkekaninaa
