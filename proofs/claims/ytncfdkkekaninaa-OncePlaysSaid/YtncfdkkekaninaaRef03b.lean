/- The document's answers for layer 3, by contracts: the needle of bytes. -/
import Derived.Test.YtncfdkkekaninaaRef03
import Derived.Deep.CutRange
set_option linter.unusedVariables false
set_option linter.unusedSimpArgs false
namespace Go.Proofs.Ytncfdkkekaninaa
open Go.RowKit Go.Cor

abbrev rworld (w : World) : World := w.alloc (.cells #[.int .u64 0, .int .u32 0, .bool false, .slice none 0 0] 34)
theorem rworld_below (w : World) : Below w.heap.size w (rworld w) := (Below.refl _ _).alloc (Nat.le_refl _) _
theorem isB_rw {w : World} {v : Value} {l : List UInt8} (h : IsB w v l) : IsB (rworld w) v l := h.mono (rworld_below w) (Nat.le_refl _)
theorem indexAt_B {P : Program} {w : World} {v : Value} {l : List UInt8} (hv : IsB w v l) (_hl : l.length ≤ 1099511627776) (T U : TypeId) (ht : P.underlying T = some (.slice U)) (hs : (P.info? U).map (·.size) = some 1) (i : Nat) (hi : i < l.length) :
    ∃ b o, (∀ W, (Instr.indexAt T v (.int .i64 (i : Int))).run P W = .ok (.pointer (some ⟨b, o, none⟩)) W) ∧ w.cell? ⟨b, o, none⟩ = some (bv (l.getD i 0)) := by
  obtain ⟨j, hj1, hj2⟩ := Option.map_eq_some_iff.1 hs
  obtain ⟨a, cap, rfl, k1, k2, k0, k3⟩ := hv
  rcases k3 with k3 | ⟨b, off, rfl, hc⟩
  · omega
  refine ⟨b, off + i, fun W => ?_, hc i hi⟩
  have ht' : P.underlying T = some (.slice (P.elem T)) := by simp [Program.elem, ht]
  have he : P.elem T = U := by simp [Program.elem, ht]
  have hsz : ∀ W, (sizeOf U).run P W = .ok 1 W := fun W => by simp [sizeOf, typeInfo, hj1, hj2]
  have h0 : (0 : Int) ≤ (i : Int) := by omega
  have h1 : (i : Int) < (l.length : Int) := by omega
  go_simp

theorem k48 : 4 ≤ 8 := by decide
theorem k88 : 8 ≤ 8 := by decide

end Go.Proofs.Ytncfdkkekaninaa
