/- The document's Read of a message (layer 14) by contracts: where the sum is right. -/
import Derived.Test.YtncfdkkekaninaaRef14d
import Derived.Test.YtncfdkkekaninaaBlk
set_option linter.unusedVariables false
set_option linter.unusedSimpArgs false
namespace Go.Proofs.Ytncfdkkekaninaa
open Go.RowKit Go.Cor

def set12 (w : World) (B : Nat) (u0 u1 u2 u3 u4 u5 u6 u7 u8 u9 u10 u11 : Value) : World := ((((((((((((w.setCell ⟨B, 0, none⟩ u0).setCell ⟨B, 1, none⟩ u1).setCell ⟨B, 2, none⟩ u2).setCell ⟨B, 3, none⟩ u3).setCell ⟨B, 4, none⟩ u4).setCell ⟨B, 5, none⟩ u5).setCell ⟨B, 6, none⟩ u6).setCell ⟨B, 7, none⟩ u7).setCell ⟨B, 8, none⟩ u8).setCell ⟨B, 9, none⟩ u9).setCell ⟨B, 10, none⟩ u10).setCell ⟨B, 11, none⟩ u11)
theorem fin12 {w0 w : World} {B : Nat} {a0 a1 a2 a3 a4 a5 a6 a7 a8 a9 a10 a11 : Value} {T : TypeId} (h : Blk w B #[a0, a1, a2, a3, a4, a5, a6, a7, a8, a9, a10, a11] T) (hb : Below w0.heap.size w0 w) (hB : w0.heap.size ≤ B) (u0 u1 u2 u3 u4 u5 u6 u7 u8 u9 u10 u11 : Value) :
    (set12 w B u0 u1 u2 u3 u4 u5 u6 u7 u8 u9 u10 u11).cell? ⟨B, 0, none⟩ = some u0 ∧ (set12 w B u0 u1 u2 u3 u4 u5 u6 u7 u8 u9 u10 u11).cell? ⟨B, 1, none⟩ = some u1 ∧ (set12 w B u0 u1 u2 u3 u4 u5 u6 u7 u8 u9 u10 u11).cell? ⟨B, 2, none⟩ = some u2 ∧ (set12 w B u0 u1 u2 u3 u4 u5 u6 u7 u8 u9 u10 u11).cell? ⟨B, 3, none⟩ = some u3 ∧ (set12 w B u0 u1 u2 u3 u4 u5 u6 u7 u8 u9 u10 u11).cell? ⟨B, 4, none⟩ = some u4 ∧ (set12 w B u0 u1 u2 u3 u4 u5 u6 u7 u8 u9 u10 u11).cell? ⟨B, 5, none⟩ = some u5 ∧ (set12 w B u0 u1 u2 u3 u4 u5 u6 u7 u8 u9 u10 u11).cell? ⟨B, 6, none⟩ = some u6 ∧ (set12 w B u0 u1 u2 u3 u4 u5 u6 u7 u8 u9 u10 u11).cell? ⟨B, 7, none⟩ = some u7 ∧ (set12 w B u0 u1 u2 u3 u4 u5 u6 u7 u8 u9 u10 u11).cell? ⟨B, 8, none⟩ = some u8 ∧ (set12 w B u0 u1 u2 u3 u4 u5 u6 u7 u8 u9 u10 u11).cell? ⟨B, 9, none⟩ = some u9 ∧ (set12 w B u0 u1 u2 u3 u4 u5 u6 u7 u8 u9 u10 u11).cell? ⟨B, 10, none⟩ = some u10 ∧ (set12 w B u0 u1 u2 u3 u4 u5 u6 u7 u8 u9 u10 u11).cell? ⟨B, 11, none⟩ = some u11 ∧ Below w0.heap.size w0 (set12 w B u0 u1 u2 u3 u4 u5 u6 u7 u8 u9 u10 u11) ∧ Kept (fun j => j = B) w (set12 w B u0 u1 u2 u3 u4 u5 u6 u7 u8 u9 u10 u11) := by
  have hz : Blk (set12 w B u0 u1 u2 u3 u4 u5 u6 u7 u8 u9 u10 u11) B #[u0, u1, u2, u3, u4, u5, u6, u7, u8, u9, u10, u11] T := by
    unfold set12
    have h1 := ((((((h.set 0 u0).set 1 u1).set 2 u2).set 3 u3).set 4 u4).set 5 u5)
    simp at h1
    have h2 := ((((((h1.set 6 u6).set 7 u7).set 8 u8).set 9 u9).set 10 u10).set 11 u11)
    simp at h2
    exact h2
  have hbb : Below w0.heap.size w0 (set12 w B u0 u1 u2 u3 u4 u5 u6 u7 u8 u9 u10 u11) := by
    unfold set12
    exact ((((((((((((hb.setCell (p := ⟨B, 0, none⟩) hB u0).setCell (p := ⟨B, 1, none⟩) hB u1).setCell (p := ⟨B, 2, none⟩) hB u2).setCell (p := ⟨B, 3, none⟩) hB u3).setCell (p := ⟨B, 4, none⟩) hB u4).setCell (p := ⟨B, 5, none⟩) hB u5).setCell (p := ⟨B, 6, none⟩) hB u6).setCell (p := ⟨B, 7, none⟩) hB u7).setCell (p := ⟨B, 8, none⟩) hB u8).setCell (p := ⟨B, 9, none⟩) hB u9).setCell (p := ⟨B, 10, none⟩) hB u10).setCell (p := ⟨B, 11, none⟩) hB u11)
  have hkk : Kept (fun j => j = B) w (set12 w B u0 u1 u2 u3 u4 u5 u6 u7 u8 u9 u10 u11) := by
    unfold set12
    exact (((((((((((((Kept.refl (fun j => j = B) w).setCell (p := ⟨B, 0, none⟩) (.inl rfl) u0).setCell (p := ⟨B, 1, none⟩) (.inl rfl) u1).setCell (p := ⟨B, 2, none⟩) (.inl rfl) u2).setCell (p := ⟨B, 3, none⟩) (.inl rfl) u3).setCell (p := ⟨B, 4, none⟩) (.inl rfl) u4).setCell (p := ⟨B, 5, none⟩) (.inl rfl) u5).setCell (p := ⟨B, 6, none⟩) (.inl rfl) u6).setCell (p := ⟨B, 7, none⟩) (.inl rfl) u7).setCell (p := ⟨B, 8, none⟩) (.inl rfl) u8).setCell (p := ⟨B, 9, none⟩) (.inl rfl) u9).setCell (p := ⟨B, 10, none⟩) (.inl rfl) u10).setCell (p := ⟨B, 11, none⟩) (.inl rfl) u11)
  exact ⟨hz.cell 0 rfl, hz.cell 1 rfl, hz.cell 2 rfl, hz.cell 3 rfl, hz.cell 4 rfl, hz.cell 5 rfl, hz.cell 6 rfl, hz.cell 7 rfl, hz.cell 8 rfl, hz.cell 9 rfl, hz.cell 10 rfl, hz.cell 11 rfl, hbb, hkk⟩
theorem formed_of_code {l : List UInt8} (h : getCode l = 0) : formedB l = true := by
  unfold getCode at h
  split at h
  · cases h
  · cases hf : formedB l with
    | true => rfl
    | false => rw [if_pos hf] at h; cases h
end Go.Proofs.Ytncfdkkekaninaa
