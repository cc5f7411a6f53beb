/- Package net's object (layer 15): a box with its packets and its cuts. -/
import Derived.Test.YtofhbnnheadmlaaNdF
set_option linter.unusedVariables false
set_option linter.unusedSimpArgs false
namespace Go.Proofs.Ytofhbnnheadmlaa
open Go.RowKit Go.Cor

/-- The map of cuts in memory: none, or a map of at most K pairs. -/
def CutsAt (w : World) (mv : Value) (c : List (Int × Int)) (K : Nat) : Prop :=
  (mv = .map none ∧ ∀ a b, wfI a → wfI b → apartP c a b = false) ∨ ∃ b D, mv = .map (some b) ∧ w.ownsMap Try.prog 77 unitElem b K D ∧ CutsD D c
/-- The box at g: packets pv, cuts mv. -/
structure NtAt (w : World) (g : Nat) (pv : Value) (ps : List (Msg × Value)) (mv : Value) (c : List (Int × Int)) (K : Nat) : Prop where
  nblk : Blk w g #[pv, mv] 66
  nrow : w.ownsRow 0 26 1 pv ps.length (row pkc ps)
  nap : pv.ownBlock ≠ some g
  npk : ∀ x ∈ ps, IsB w x.2 (mbytes x.1) ∧ x.2.oneCell' = true ∧ ∀ k, liesB x.2 (mbytes x.1) k → k ≠ g ∧ pv.ownBlock ≠ some k ∧ mv ≠ .map (some k)
  ncut : CutsAt w mv c K
  nmap : ∀ b, mv = .map (some b) → b ≠ g ∧ pv.ownBlock ≠ some b
/-- Its blocks. -/
def nmem (g : Nat) (pv : Value) (ps : List (Msg × Value)) (mv : Value) (k : Nat) : Prop := k = g ∨ pv.ownBlock = some k ∨ mv = .map (some k) ∨ ∃ x ∈ ps, liesB x.2 (mbytes x.1) k
theorem CutsAt.kept {T : Nat → Prop} {w w' : World} {mv : Value} {c : List (Int × Int)} {K : Nat} (h : CutsAt w mv c K) (hk : Kept T w w') (hT : ∀ k, mv = .map (some k) → ¬ T k) : CutsAt w' mv c K := by
  rcases h with h | ⟨b, D, h1, h2, h3⟩
  · exact .inl h
  · have hlt := h2.lt
    obtain ⟨es, clock, hb, F, hs, hD⟩ := h2
    exact .inr ⟨b, D, h1, ⟨es, clock, (hk.block b hlt (hT b h1)).trans hb, F, hs, hD⟩, h3⟩
theorem CutsAt.mono {w : World} {mv : Value} {c : List (Int × Int)} {K K' : Nat} (h : CutsAt w mv c K) (hK : K ≤ K') : CutsAt w mv c K' := by
  rcases h with h | ⟨b, D, h1, h2, h3⟩
  · exact .inl h
  · exact .inr ⟨b, D, h1, h2.mono hK, h3⟩
theorem CutsAt.lt {w : World} {mv : Value} {c : List (Int × Int)} {K k : Nat} (h : CutsAt w mv c K) (hm : mv = .map (some k)) : k < w.heap.size := by
  rcases h with ⟨h, _⟩ | ⟨b, D, h1, h2, _⟩
  · rw [h] at hm; cases hm
  · rw [h1] at hm; cases hm; exact h2.lt
section
variable {w w' : World} {g : Nat} {pv : Value} {ps : List (Msg × Value)} {mv : Value} {c : List (Int × Int)} {K : Nat}
theorem NtAt.lt (h : NtAt w g pv ps mv c K) {k : Nat} (hk : nmem g pv ps mv k) : k < w.heap.size := by
  rcases hk with rfl | hk | hk | ⟨x, hx, hk⟩
  · exact h.nblk.lt
  · exact (h.nrow.lt k hk).2
  · exact h.ncut.lt hk
  · exact (h.npk x hx).1.lies_lt hk
theorem NtAt.kept {T : Nat → Prop} (h : NtAt w g pv ps mv c K) (hk : Kept T w w') (hT : ∀ k, nmem g pv ps mv k → ¬ T k) : NtAt w' g pv ps mv c K :=
  ⟨h.nblk.kept hk (hT g (.inl rfl)), ownsRow_kept h.nrow hk fun k e => hT k (.inr (.inl e)), h.nap,
    fun x hx => ⟨(h.npk x hx).1.kept hk fun k e => hT k (.inr (.inr (.inr ⟨x, hx, e⟩))), (h.npk x hx).2⟩, h.ncut.kept hk fun k e => hT k (.inr (.inr (.inl e))), h.nmap⟩
theorem NtAt.below {B : Nat} (h : NtAt w g pv ps mv c K) (hb : Below B w w') (hB : w.heap.size ≤ B) : NtAt w' g pv ps mv c K :=
  h.kept (T := fun _ => False) (Kept.of_below hb hB) fun _ _ h => h
theorem NtAt.isX (h : NtAt w g pv ps mv c K) : IsX w 1 pv ps.length (row pkc ps) := IsX.own h.nrow
theorem NtAt.one (h : NtAt w g pv ps mv c K) : ∀ x ∈ ps, x.2.oneCell' = true := fun x hx => (h.npk x hx).2.1
end
/-- A net in memory: S: its blocks, behind B. -/
def Nt (w : World) (B g : Nat) (S : Nat → Prop) (n : NetP) (K : Nat) : Prop :=
  ∃ pv ps mv, NtAt w g pv ps mv n.c K ∧ n.l = ps.map (·.1) ∧ n.good ∧ (∀ k, nmem g pv ps mv k → S k) ∧ ∀ k, S k → B ≤ k ∧ k < w.heap.size
theorem Nt.kept {T : Nat → Prop} {w w' : World} {B g : Nat} {S : Nat → Prop} {n : NetP} {K : Nat} (h : Nt w B g S n K) (hk : Kept T w w') (hT : ∀ k, S k → ¬ T k) : Nt w' B g S n K := by
  obtain ⟨pv, ps, mv, h1, h2, h3, h4, h5⟩ := h
  exact ⟨pv, ps, mv, h1.kept hk fun k hk => hT k (h4 k hk), h2, h3, h4, fun k hk' => ⟨(h5 k hk').1, Nat.lt_of_lt_of_le (h5 k hk').2 hk.size⟩⟩
theorem Nt.below {w w' : World} {B g : Nat} {S : Nat → Prop} {n : NetP} {K : Nat} (h : Nt w B g S n K) (hb : Below w.heap.size w w') : Nt w' B g S n K :=
  h.kept (T := fun _ => False) (Kept.of_below hb (Nat.le_refl _)) fun _ _ h => h
theorem Nt.good {w : World} {B g : Nat} {S : Nat → Prop} {n : NetP} {K : Nat} (h : Nt w B g S n K) : n.good := by
  obtain ⟨pv, ps, mv, h1, h2, h3, h4, h5⟩ := h
  exact h3
/-- What a call of a net leaves: the net anew, and nothing turned but it. -/
structure NtT (w : World) (B g : Nat) (S : Nat → Prop) (n : NetP) (K : Nat) (w' : World) : Prop where
  out : ∃ S', Nt w' B g S' n K ∧ (∀ k, S' k → S k ∨ w.heap.size ≤ k) ∧ Kept S w w'

end Go.Proofs.Ytofhbnnheadmlaa
