/- Package corncriblaw20: TwinAlone. -/
import Derived.Test.YtlaighghagcjjaaTk
import Derived.Test.YtlaighghagcjjaaTnF
import Derived.Test.YtlaighghagcjjaaRef01
import Derived.Test.YtlaighghagcjjaaRm19
namespace Go.Proofs.Ytlaighghagcjjaa
open Go.RowKit Go.Cor
set_option linter.unusedVariables false
set_option linter.unusedSimpArgs false

/-- A slice of n elements beside the pair's blocks. -/
def Off (S : Nat → Prop) (v : Value) (n : Nat) : Prop := ∀ k, liesX v n k → ¬ S k
theorem Off.call {S S' : Nat → Prop} {v : Value} {n size : Nat} {cs : List Value} {w : World} (h : Off S v n) (hv : IsX w size v n cs) (hs : 0 < size) (hS : ∀ k, S' k → S k ∨ w.heap.size ≤ k) : Off S' v n := fun k hk h' => (hS k h').elim (h k hk) (fun h1 => by have := hv.lies_lt hs hk; omega)
theorem Off.new {S : Nat → Prop} {v v' : Value} {n n' size : Nat} {cs cs' : List Value} {w w' : World} (h : Off S v n) (hv : IsX w size v n cs) (hv' : IsX w' size v' n' cs') (ho : v' = v ∨ ∀ k, v'.ownBlock = some k → w.heap.size ≤ k) (hS : ∀ k, S k → k < w.heap.size) : Off S v' n' := fun k hk h' => by
  rcases ho with rfl | ho
  · obtain ⟨x, c, e, _⟩ := hv.slice
    obtain ⟨x', c', e', _⟩ := hv'.slice
    rw [e] at e'
    cases e'
    exact h k hk h'
  · have h1 := ho k hk.2
    have h2 := hS k h'
    omega
theorem Off.nil (S : Nat → Prop) (v : Value) : Off S v 0 := fun k hk => absurd rfl hk.1
end Go.Proofs.Ytlaighghagcjjaa
