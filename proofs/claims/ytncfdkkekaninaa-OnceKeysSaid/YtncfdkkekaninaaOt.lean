/- Package once's object (layer 16): a box with its bound and its map. -/
import Derived.Test.YtncfdkkekaninaaOk
import Derived.Test.YtncfdkkekaninaaFrz
set_option linter.unusedVariables false
set_option linter.unusedSimpArgs false
namespace Go.Proofs.Ytncfdkkekaninaa
open Go.RowKit Go.Cor

/-- Why an answer isn't kept; what is kept behind it. -/
def keepK (most : Int) (l : List Msg) (m : Msg) : Nat := if m.kd = 5 then (if mcheck m = 0 then (if 0 ≤ findP m.to m.id l then 8 else if most ≤ (l.length : Int) then 11 else 0) else mcheck m) else 1
def keepL (most : Int) (l : List Msg) (m : Msg) : List Msg := if keepK most l m = 0 then l ++ [m] else l
theorem keepK_ok {most : Int} {l : List Msg} {m : Msg} (h : keepK most l m = 0) : m.kd = 5 ∧ mcheck m = 0 ∧ findP m.to m.id l < 0 ∧ (l.length : Int) < most := by
  unfold keepK at h
  split at h
  · split at h
    · split at h
      · omega
      · split at h
        · omega
        · exact ⟨by assumption, by assumption, by omega, by omega⟩
    · omega
  · omega
theorem mcheck_wf {m : Msg} (h : mcheck m = 0) : wfI m.to := by
  obtain ⟨⟨_, _, h1, h2, _⟩, _⟩ := mcheck_ok h
  exact wfI_of (by omega) (by omega)
theorem mcheck_len {m : Msg} (h : mcheck m = 0) : m.n.data.length ≤ 4096 := by
  obtain ⟨_, h1, h2⟩ := mcheck_ok h
  cases hh : m.has with
  | true => exact (ncheck_ok (h1 hh)).1
  | false => rw [h2 hh]; exact Nat.zero_le _
/-- The box at g, the map at b. -/
structure TbAt (w : World) (g b : Nat) (most : Int) (l : List (Msg × Value)) : Prop where
  tblk : Blk w g #[.int .i64 most, .map (some b)] 59
  tgb : b ≠ g
  tmap : TabAt w b l
  tl : ∀ x ∈ l, IsB w x.2 x.1.n.data ∧ (∃ y n c, x.2 = .slice y n c) ∧ ∀ k, liesB x.2 x.1.n.data k → k ≠ g ∧ k ≠ b
/-- Its blocks. -/
def tmem (g b : Nat) (l : List (Msg × Value)) (k : Nat) : Prop := k = g ∨ k = b ∨ ∃ x ∈ l, liesB x.2 x.1.n.data k
section
variable {w w' : World} {g b : Nat} {most : Int} {l : List (Msg × Value)}
theorem TbAt.lt (h : TbAt w g b most l) {k : Nat} (hk : tmem g b l k) : k < w.heap.size := by
  rcases hk with rfl | rfl | ⟨x, hx, hk⟩
  · exact h.tblk.lt
  · exact h.tmap.lt
  · exact (h.tl x hx).1.lies_lt hk
theorem TbAt.kept {T : Nat → Prop} (h : TbAt w g b most l) (hk : Kept T w w') (hT : ∀ k, tmem g b l k → ¬ T k) : TbAt w' g b most l :=
  ⟨h.tblk.kept hk (hT g (.inl rfl)), h.tgb, h.tmap.kept hk (hT b (.inr (.inl rfl))), fun x hx => ⟨(h.tl x hx).1.kept hk fun k e => hT k (.inr (.inr ⟨x, hx, e⟩)), (h.tl x hx).2⟩⟩
theorem TbAt.below {B : Nat} (h : TbAt w g b most l) (hb : Below B w w') (hB : w.heap.size ≤ B) : TbAt w' g b most l :=
  h.kept (T := fun _ => False) (Kept.of_below hb hB) fun _ _ h => h
/-- The map turned. -/
theorem TbAt.turned {l' : List (Msg × Value)} (h : TbAt w g b most l) (hk : Kept (fun k => k = b) w w') (hm : TabAt w' b l') (hl : ∀ x ∈ l', IsB w x.2 x.1.n.data ∧ (∃ y n c, x.2 = .slice y n c) ∧ ∀ k, liesB x.2 x.1.n.data k → k ≠ g ∧ k ≠ b) : TbAt w' g b most l' :=
  ⟨h.tblk.kept hk (fun e => h.tgb e.symm), h.tgb, hm, fun x hx => ⟨(hl x hx).1.kept hk fun k e => ((hl x hx).2.2 k e).2, (hl x hx).2⟩⟩
end
/-- What may be kept. -/
def okM (m : Msg) : Prop := mcheck m = 0 ∧ m.n.fits ∧ m.id < 18446744073709551616
/-- A table in memory: S: its blocks, behind B. -/
def Tb (w : World) (B g : Nat) (S : Nat → Prop) (most : Int) (L : List Msg) : Prop :=
  ∃ b l, TbAt w g b most l ∧ L = l.map (·.1) ∧ (1 ≤ most ∧ most ≤ 4096 ∧ (L.length : Int) ≤ most) ∧ (∀ m ∈ L, okM m) ∧ (∀ k, tmem g b l k → S k) ∧ ∀ k, S k → B ≤ k ∧ k < w.heap.size
section
variable {w w' : World} {B g : Nat} {S : Nat → Prop} {most : Int} {L : List Msg}
theorem Tb.kept {T : Nat → Prop} (h : Tb w B g S most L) (hk : Kept T w w') (hT : ∀ k, S k → ¬ T k) : Tb w' B g S most L := by
  obtain ⟨b, l, h1, h2, h3, h4, h5, h6⟩ := h
  exact ⟨b, l, h1.kept hk fun k hk => hT k (h5 k hk), h2, h3, h4, h5, fun k hk' => ⟨(h6 k hk').1, Nat.lt_of_lt_of_le (h6 k hk').2 hk.size⟩⟩
theorem Tb.below (h : Tb w B g S most L) (hb : Below w.heap.size w w') : Tb w' B g S most L :=
  h.kept (T := fun _ => False) (Kept.of_below hb (Nat.le_refl _)) fun _ _ h => h
theorem Tb.bound (h : Tb w B g S most L) : 1 ≤ most ∧ most ≤ 4096 ∧ (L.length : Int) ≤ most := by
  obtain ⟨b, l, h1, h2, h3, h4, h5, h6⟩ := h
  exact h3
end
/-- What a call of a table leaves: the table anew, and nothing turned but it. -/
structure TbT (w : World) (B g : Nat) (S : Nat → Prop) (most : Int) (L : List Msg) (w' : World) : Prop where
  out : ∃ S', Tb w' B g S' most L ∧ (∀ k, S' k → S k ∨ w.heap.size ≤ k) ∧ Kept S w w'

end Go.Proofs.Ytncfdkkekaninaa
