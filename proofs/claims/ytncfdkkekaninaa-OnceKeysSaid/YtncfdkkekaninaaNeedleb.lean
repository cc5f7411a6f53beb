/- Package needle by contracts: the bytes of a needle. -/
import Derived.Test.YtncfdkkekaninaaNeedle
import Derived.Test.YtncfdkkekaninaaZeros
set_option linter.unusedVariables false
set_option linter.unusedSimpArgs false
namespace Go.Proofs.Ytncfdkkekaninaa
open Go.RowKit Go.Cor

theorem flag_great (g : Bool) : flagN g ≤ great ((4 : Nat) : Int) := by cases g <;> decide
theorem front_of {k c d : Nat} {g : Bool} {l : List UInt8} (h : l.length = d) : front ⟨k, c, g, l⟩ = le 1313162572 4 ++ le (flagN g) 4 ++ le k 8 ++ le c 4 ++ le d 4 := by
  unfold front
  rw [h]
theorem front_fin {w : World} {B : Nat} {U : TypeId} {v : Value} {F : List UInt8} {k c d f : Nat} (e : F = le 1313162572 4 ++ le f 4 ++ le k 8 ++ le c 4 ++ le d 4)
    (h : w.ownsRow (B + 1) U 1 v ((le 1313162572 4).length + ((le f 4).length + ((le k 8).length + ((le c 4).length + (le d 4).length)))) (bvs (le 1313162572 4 ++ (le f 4 ++ (le k 8 ++ (le c 4 ++ le d 4)))))) :
    w.ownsRow B U 1 v 24 (bvs F) := by
  have h' := ownsRow_base h (Nat.le_succ B)
  simp only [length_le] at h'
  rw [e]
  simpa only [List.append_assoc] using h'

theorem nbytes_fin {w : World} {B N : Nat} {U : TypeId} {v : Value} {n : Ndl} (h : w.ownsRow (B + 1) U 1 v N (bvs (nbytes n))) (e : N = (nbytes n).length) :
    w.ownsRow B U 1 v (nbytes n).length (bvs (nbytes n)) := by
  subst e
  exact ownsRow_base h (Nat.le_succ B)
theorem ownsB_fold {w : World} {B : Nat} {U : TypeId} {v : Value} {X Y : List UInt8} {Z : List UInt8} (e : Z = X ++ Y) (h : w.ownsRow B U 1 v (X.length + Y.length) (bvs X ++ bvs Y)) : w.ownsRow B U 1 v Z.length (bvs Z) := by
  subst e
  rw [List.length_append, bvs_append]
  exact h

end Go.Proofs.Ytncfdkkekaninaa
