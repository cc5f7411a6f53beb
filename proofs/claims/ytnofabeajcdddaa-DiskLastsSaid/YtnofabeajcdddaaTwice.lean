/- A second crash changes nothing; what is kept of a disk's files beside it. Of no program, but for the types. -/
import Derived.Test.YtnofabeajcdddaaActC
import Derived.Test.YtnofabeajcdddaaRoom
namespace Go.Proofs.Ytnofabeajcdddaa
open Go.RowKit Go.Cor

theorem full_fall (f : Fil) (h : f.lasts = f.b.length) (p : Pck) : fallF f p = f := by
  have hc : clampN p.keep (f.b.length - f.lasts) = 0 := by
    have : clampN p.keep (f.b.length - f.lasts) ≤ f.b.length - f.lasts := Nat.min_le_right _ _
    omega
  unfold fallF
  dsimp only
  rw [hc, if_neg (by omega), Nat.add_zero, List.take_of_length_le (by omega)]
theorem fall_full (f : Fil) (h : f.lasts ≤ f.b.length) (p : Pck) : (fallF f p).lasts = (fallF f p).b.length := by
  have hc : clampN p.keep (f.b.length - f.lasts) ≤ f.b.length - f.lasts := Nat.min_le_right _ _
  unfold fallF
  dsimp only
  split
  · simp only [List.length_set, List.length_take]
    omega
  · simp only [List.length_take]
    omega
theorem fat_le {fs : List Fil} (h : ∀ f ∈ fs, f.lasts ≤ f.b.length ∧ f.b.length ≤ 16777216) (j : Nat) : (fat fs j).lasts ≤ (fat fs j).b.length := by
  unfold fat
  rw [List.getD_eq_getElem?_getD]
  cases he : fs[j]? with
  | none => simp
  | some f => exact (h f (List.mem_of_getElem? he)).1
theorem fallAll_full (ps : List Pck) (t : Tbl) (fs : List Fil) (h : ∀ f ∈ fs, f.lasts ≤ f.b.length ∧ f.b.length ≤ 16777216) (j : Nat) (hj : j < fs.length) (hf : (fat fs j).lasts = (fat fs j).b.length ∨ ∃ e ∈ t, e.2 = j) :
    (fat (fallAll ps fs t) j).lasts = (fat (fallAll ps fs t) j).b.length := by
  induction t generalizing fs with
  | nil =>
    rcases hf with h1 | ⟨e, he, _⟩
    · exact h1
    · cases he
  | cons e r ih =>
    unfold fallAll
    have hok : ∀ f ∈ fs.set e.2 (fallF (fat fs e.2) (pickAt ps e.2)), f.lasts ≤ f.b.length ∧ f.b.length ≤ 16777216 := fun f hf2 => by
      have := fallAll_ok (ps := ps) [e] h f
      exact this hf2
    refine ih _ hok (by rw [List.length_set]; exact hj) ?_
    rw [fatX_set]
    by_cases he : e.2 = j
    · left
      rw [if_pos ⟨he, by rw [he]; exact hj⟩]
      exact fall_full _ (fat_le h _) _
    · rw [if_neg (fun h => he h.1)]
      rcases hf with h1 | ⟨x, hx, hxj⟩
      · exact .inl h1
      · rcases List.mem_cons.1 hx with rfl | hx
        · exact absurd hxj he
        · exact .inr ⟨x, hx, hxj⟩
theorem set_self (fs : List Fil) (k : Nat) : fs.set k (fat fs k) = fs := by
  apply List.ext_getElem?
  intro i
  rw [List.getElem?_set]
  split
  · rename_i h
    subst h
    unfold fat
    rw [List.getD_eq_getElem?_getD]
    split
    · rename_i hk
      rw [List.getElem?_eq_getElem hk]
      rfl
    · rename_i hk
      rw [List.getElem?_eq_none (by omega)]
  · rfl
theorem fallAll_still (qs : List Pck) (t : Tbl) (fs : List Fil) (h : ∀ e ∈ t, (fat fs e.2).lasts = (fat fs e.2).b.length) : fallAll qs fs t = fs := by
  induction t with
  | nil => rfl
  | cons e r ih =>
    unfold fallAll
    rw [full_fall _ (h e (List.mem_cons_self ..)), set_self]
    exact ih (fun x hx => h x (List.mem_cons_of_mem _ hx))
theorem crash_twice {d : Dsk} {k : Nat} (h : d.Ok k) (z y : Int) (ps qs : List Pck) : (d.crash z ps).crash y qs = d.crash z ps := by
  have hok := Ok.crash h z ps
  unfold Dsk.crash at hok ⊢
  dsimp only at hok ⊢
  have hm := hok.nowF
  dsimp only at hm
  rw [fallAll_len] at hm
  generalize (d.deeds.take (clampN z d.deeds.length)).foldl turnT d.las = t at hm ⊢
  have e : (([] : List Dd).take (clampN y ([] : List Dd).length)).foldl turnT t = t := by simp
  rw [e, fallAll_still qs t _ (fun x hx => fallAll_full ps t d.files h.fil x.2 (hm x hx).1 (.inr ⟨x, hx, rfl⟩))]
theorem tfind_of {l : Tbl} (hs : Sorted l) {i : Nat} {e : ByteArray × Nat} (h : l[i]? = some e) : tfind l e.1 = some e.2 := by
  have hm := List.mem_of_getElem? h
  cases hf : tfind l e.1 with
  | none => exact absurd rfl (tfind_none.1 hf e hm)
  | some k =>
    have := sorted_inj hs (tfind_mem hf) hm rfl
    rw [← this]
/-- A file's bytes, by its place among the names. -/
def bAt (d : Dsk) (e : ByteArray × Nat) : List UInt8 := (fat d.files e.2).b
theorem size_at {d : Dsk} {k i : Nat} (h : d.Ok k) (ha : d.armed ≠ some 0) {e : ByteArray × Nat} (he : d.now[i]? = some e) : d.size e.1 = ((bAt d e).length, 0) := by
  unfold Dsk.size Dsk.on
  rw [if_neg ha, tfind_of h.nowS he]
  rfl
theorem read_at {d : Dsk} {k i : Nat} (h : d.Ok k) (ha : d.armed ≠ some 0) {e : ByteArray × Nat} (he : d.now[i]? = some e) : d.read e.1 0 ((bAt d e).length : Int) = (bAt d e, 0) := by
  unfold Dsk.read Dsk.on
  rw [if_neg ha, tfind_of h.nowS he]
  dsimp only
  have e1 : (fat d.files e.2).b = bAt d e := rfl
  rw [e1, if_neg (by omega), if_neg (by omega)]
  simp
theorem bAt_len {d : Dsk} {k i : Nat} (h : d.Ok k) {e : ByteArray × Nat} (he : d.now[i]? = some e) : (bAt d e).length ≤ 16777216 :=
  (Ok.fat h (h.nowF e (List.mem_of_getElem? he)).1).2
theorem nms_at {l : Tbl} {i : Nat} {e : ByteArray × Nat} (h : l[i]? = some e) : (nms l)[i]? = some (.string e.1) := by simp [nms, h]

/-- Pieces of bytes, one behind the other, in a row of their own. -/
def Was (w : World) (B : Nat) (v : Value) (bs : List (List UInt8)) : Prop :=
  ∃ vs : List Value, w.ownsRow B 37 1 v bs.length vs ∧ ∀ (j : Nat) (b : List UInt8), bs[j]? = some b → ∃ u, vs[j]? = some u ∧ IsB w u b ∧ ∀ g, liesB u b g → B ≤ g ∧ v.ownBlock ≠ some g
theorem Was.nil (w : World) (B : Nat) : Was w B (.slice none 0 0) [] := ⟨[], World.ownsRow_nil _ _ _ _, fun j b h => by simp at h⟩
theorem Was.kept {S : Nat → Prop} {w w' : World} {B : Nat} {v : Value} {bs : List (List UInt8)} (h : Was w B v bs) (hk : Kept S w w') (hS : ∀ b, S b → b < B) : Was w' B v bs := by
  obtain ⟨vs, h1, h2⟩ := h
  refine ⟨vs, ownsRow_kept h1 hk (fun g hg hs => by have := (h1.lt g hg).1; have := hS g hs; omega), fun j b hb => ?_⟩
  obtain ⟨u, hu, hB, hl⟩ := h2 j b hb
  exact ⟨u, hu, hB.kept hk (fun g hg hs => by have := (hl g hg).1; have := hS g hs; omega), hl⟩
theorem Was.below {w w' : World} {B : Nat} {v : Value} {bs : List (List UInt8)} (h : Was w B v bs) (hb : Below w.heap.size w w') : Was w' B v bs :=
  h.kept (Kept.of_below (S := fun _ => False) hb (Nat.le_refl _)) (fun _ h => h.elim)
theorem Was.app {w w' : World} {B : Nat} {v v' u : Value} {bs : List (List UInt8)} {vs : List Value} {b : List UInt8} (hB : B ≤ w.heap.size)
    (h2 : ∀ (j : Nat) (b : List UInt8), bs[j]? = some b → ∃ u, vs[j]? = some u ∧ IsB w u b ∧ ∀ g, liesB u b g → B ≤ g ∧ v.ownBlock ≠ some g) (hvs : vs.length = bs.length)
    (hu : IsB w u b) (hl : ∀ g, liesB u b g → B ≤ g ∧ v.ownBlock ≠ some g)
    (ho : w'.ownsRow B 37 1 v' (bs.length + 1) (vs ++ [u])) (hg : w.grownBy w' v.ownBlock) (hv : v'.ownBlock = v.ownBlock ∨ v'.ownBlock = some w.heap.size) : Was w' B v' (bs ++ [b]) := by
  have hK : Kept (fun j => v.ownBlock = some j) w w' := (Kept.refl (fun j => v.ownBlock = some j) w).grown hg (fun k hk => .inl hk)
  have new : ∀ (x : Value) (c : List UInt8), IsB w x c → (∀ g, liesB x c g → B ≤ g ∧ v.ownBlock ≠ some g) → IsB w' x c ∧ ∀ g, liesB x c g → B ≤ g ∧ v'.ownBlock ≠ some g := fun x c hx hxl => by
    refine ⟨hx.kept hK (fun g hg => (hxl g hg).2), fun g hg => ⟨(hxl g hg).1, fun e => ?_⟩⟩
    rcases hv with h1 | h1
    · exact (hxl g hg).2 (h1 ▸ e)
    · have h3 := hx.lies_lt hg
      have : w.heap.size = g := Option.some.inj (h1.symm.trans e)
      omega
  refine ⟨vs ++ [u], by rw [List.length_append]; exact ho, fun j c hc => ?_⟩
  by_cases hj : j < bs.length
  · rw [List.getElem?_append_left hj] at hc
    obtain ⟨x, hx, hxB, hxl⟩ := h2 j c hc
    exact ⟨x, by rw [List.getElem?_append_left (by omega)]; exact hx, new x c hxB hxl⟩
  · have hlt := (List.getElem?_eq_some_iff.1 hc).1
    simp at hlt
    obtain rfl : j = bs.length := by omega
    rw [List.getElem?_append_right (Nat.le_refl _), Nat.sub_self] at hc
    simp at hc
    subst hc
    exact ⟨u, by rw [List.getElem?_append_right (by omega), hvs, Nat.sub_self]; rfl, new u b hu hl⟩

end Go.Proofs.Ytnofabeajcdddaa
