/- What a row's opening of a slice of bytes hands over. -/
import Derived.Test.YtdoohmhgcdcmgaaDoorLaw03f
import Derived.Test.YtdoohmhgcdcmgaaDoorWf
import Derived.Lib.SmallJoins
import Derived.ProofKit
namespace Go.Proofs.YtdoohmhgcdcmgaaDoor
open Go.RowKit Go.Cor Go.ChangeShapes Go.WideShapes Go.Joins Go.Deep
variable {H : Type} {enc : TypeId × Value → H} {W : World}

theorem isB_of_trod {fuel : Nat} {c : Value} {y : DataW H × List MemPlace} (h : DataW.trod enc Tryd.prog W 0 (fun _ => true) true fuel 22 [c] = some y) : ∃ l : List UInt8, IsB W c l := by
  rcases open_ints Tryd.underlying22 Tryd.underlying5 (by kernel_rfl) h with ⟨hcs, _⟩ | ⟨x, l, c', zs, hcs, _, hl, hm, hz, _, hcell, hwz⟩
  · simp only [List.cons.injEq, and_true] at hcs
    subst hcs
    exact ⟨[], IsB.nil _⟩
  · simp only [List.cons.injEq, and_true] at hcs
    subst hcs
    obtain ⟨l', e, h'⟩ := isB_of_row (w := W) (a := some x) (len := l) (cap := c') (zs := zs) (.inr ⟨x, rfl, hl, hm, by simpa using hz, hcell, hwz⟩)
    exact ⟨l', h'⟩

end Go.Proofs.YtdoohmhgcdcmgaaDoor
