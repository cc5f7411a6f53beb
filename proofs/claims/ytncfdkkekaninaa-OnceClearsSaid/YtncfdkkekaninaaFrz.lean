/- Bytes that may be written: none of them is shared with a string. Of no program. -/
import Derived.Test.YtncfdkkekaninaaKept
set_option linter.unusedVariables false
set_option linter.unusedSimpArgs false
namespace Go.Cor
open Go.RowKit

/-- v reads as l, and its bytes may be written. -/
def IsF (w : World) (v : Value) (l : List UInt8) : Prop := IsB w v l ∧ ∀ b, liesB v l b → ∀ j, w.frozen? ⟨b, j, none⟩ = false
theorem IsF.nil (w : World) : IsF w (.slice none 0 0) [] := ⟨IsB.nil w, fun b h => absurd rfl h.1⟩
theorem IsF.kept {S : Nat → Prop} {w w' : World} {v : Value} {l : List UInt8} (h : IsF w v l) (hk : Kept S w w') (hs : ∀ k, liesB v l k → ¬ S k) : IsF w' v l :=
  ⟨h.1.kept hk hs, fun b hb j => (hk.frozen (p := ⟨b, j, none⟩) (h.1.lies_lt hb) (hs b hb)).trans (h.2 b hb j)⟩
theorem IsF.mono {w w' : World} {v : Value} {l : List UInt8} {B : Nat} (h : IsF w v l) (hb : Below B w w') (hB : w.heap.size ≤ B) : IsF w' v l :=
  h.kept (S := fun _ => False) (Kept.of_below hb hB) (fun _ _ h => h)
theorem IsF.own {w : World} {base : Nat} {e : TypeId} {v : Value} {l : List UInt8} {n : Nat} (h : w.ownsRow base e 1 v n (bvs l)) (hn : n = l.length) : IsF w v l := by
  refine ⟨IsB.own h hn, fun b hb j => ?_⟩
  rcases h.2 with ⟨rfl, h0⟩ | ⟨g, cap, cur, rfl, _⟩
  · cases hb.2
  · cases hb.2
    exact h.frozenAt j

end Go.Cor
