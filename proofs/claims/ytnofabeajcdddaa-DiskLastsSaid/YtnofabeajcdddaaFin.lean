/- Package disk: what an exported call leaves; a file changed. -/
import Derived.Test.YtnofabeajcdddaaName
namespace Go.Proofs.Ytnofabeajcdddaa
open Go.RowKit Go.Cor

/-- What an exported call leaves. -/
def Fin' (w : World) (L : Lay) (d : Dsk) (w' : World) (d' : Dsk) : Prop :=
  ∃ L' : Lay, L'.p = L.p ∧ L'.cr = d'.files.length ∧ At w' L' d' ∧ Kept (fun k => ∃ t, L.own d.files.length t = some k) w w' ∧ ∀ t b, L'.own d'.files.length t = some b → (∃ u, L.own d.files.length u = some b) ∨ w.heap.size ≤ b
theorem Fin'.same {w w' : World} {L : Lay} {d : Dsk} (h : At w L d) (hc : L.cr = d.files.length) (hb : Below w.heap.size w w') : Fin' w L d w' d :=
  ⟨L, rfl, hc, h.below hb (Nat.le_refl _), Kept.of_below hb (Nat.le_refl _), fun t _ h => .inl ⟨t, h⟩⟩
theorem Fin'.of_mid {w w' : World} {L : Lay} {d d' : Dsk} (h : Mid w L d w' d') (hc : L.cr = d'.files.length) : Fin' w L d w' d' := by
  obtain ⟨L', h1, _, _, h4, h5, h6, h7⟩ := h
  exact ⟨L', h1, h4.trans hc, h5, h6, fun t b hb => (h7 t b hb).imp (fun h => ⟨t, h⟩) id⟩
theorem Fin'.below {w w1 w' : World} {L : Lay} {d d' : Dsk} (hb : Below w.heap.size w w1) (h : Fin' w1 L d w' d') : Fin' w L d w' d' := by
  obtain ⟨L', h1, h4, h5, h6, h7⟩ := h
  exact ⟨L', h1, h4, h5, (Kept.of_below (S := fun k => ∃ t, L.own d.files.length t = some k) hb (Nat.le_refl _)).trans h6 (fun _ h _ => h), fun t b hb' => (h7 t b hb').imp id (fun h => Nat.le_trans hb.size h)⟩

/-- A disk for those who use it: p is its box, S where it may lie. -/
def IsD (w : World) (p : Nat) (S : Nat → Prop) (d : Dsk) : Prop := ∃ L : Lay, L.p = p ∧ L.cr = d.files.length ∧ At w L d ∧ ∀ t b, L.own d.files.length t = some b → S b
def Turned (w w' : World) (p : Nat) (S : Nat → Prop) (d' : Dsk) : Prop := ∃ S' : Nat → Prop, IsD w' p S' d' ∧ Kept S w w' ∧ ∀ b, S' b → (S b ∨ w.heap.size ≤ b) ∧ b < w'.heap.size
theorem At.lt {w : World} {L : Lay} {d : Dsk} (h : At w L d) : ∀ t b, L.own d.files.length t = some b → b < w.heap.size := h.rest.lt
theorem Turned.of_fin {w w' : World} {L : Lay} {S : Nat → Prop} {d d' : Dsk} (hS : ∀ t b, L.own d.files.length t = some b → S b) (h : Fin' w L d w' d') : Turned w w' L.p S d' := by
  obtain ⟨L', h1, h4, h5, h6, h7⟩ := h
  exact ⟨fun b => ∃ t, L'.own d'.files.length t = some b, ⟨L', h1, h4, h5, fun t b hb => ⟨t, hb⟩⟩, h6.mono (fun k _ ⟨t, ht⟩ => hS t k ht), fun b ⟨t, ht⟩ => ⟨(h7 t b ht).imp (fun ⟨u, hu⟩ => hS u b hu) id, h5.lt t b ht⟩⟩
theorem IsD.kept {S T : Nat → Prop} {w w' : World} {p : Nat} {d : Dsk} (h : IsD w p S d) (hk : Kept T w w') (hT : ∀ b, S b → ¬ T b) : IsD w' p S d := by
  obtain ⟨L, h1, h2, h3, h4⟩ := h
  exact ⟨L, h1, h2, h3.kept hk (fun t b hb => hT b (h4 t b hb)), h4⟩
theorem IsD.below {S : Nat → Prop} {w w' : World} {p B : Nat} {d : Dsk} (h : IsD w p S d) (hb : Below B w w') (hB : w.heap.size ≤ B) : IsD w' p S d := h.kept (Kept.of_below (S := fun _ => False) hb hB) (fun _ _ h => h)

def Lay.setFv (L : Lay) (k : Nat) (v : Value) : Lay := { L with fv := fun j => if j = k then v else L.fv j }
theorem fat_set (fs : List Fil) (k j : Nat) (f : Fil) (hk : k < fs.length) : fat (fs.set k f) j = if j = k then f else fat fs j := by
  unfold fat
  rw [List.getD_eq_getElem?_getD, List.getD_eq_getElem?_getD, List.getElem?_set]
  by_cases h : k = j
  · subst h
    simp [hk]
  · rw [if_neg h, if_neg (fun e => h e.symm)]
theorem setF_len (d : Dsk) (k : Nat) (f : Fil) : (d.setF k f).files.length = d.files.length := by simp [Dsk.setF]
theorem Rest.setFil {w w' : World} {L : Lay} {d : Dsk} {k : Nat} {f : Fil} {v : Value} (h : Rest w L d) (hk : k < d.files.length) (hb : Blk w' (L.fb k) #[.int .i64 (k : Int), v, .int .i64 (f.lasts : Int)] 93)
    (ho : w'.ownsRow 0 5 1 v f.b.length (bvs f.b)) (hK : Kept (fun j => some (L.fb k) = some j ∨ (L.fv k).ownBlock = some j) w w') (hv : ∀ j, v.ownBlock = some j → (L.fv k).ownBlock = some j ∨ w.heap.size ≤ j) : Rest w' (L.setFv k v) (d.setF k f) where
  now := ownsRow_kept h.now hK (fun j e e2 => by
    rcases e2 with e2 | e2
    · cases h.apt .now (.box k) j e ((own_box hk).trans e2)
    · cases h.apt .now (.byt k) j e ((own_byt hk).trans e2))
  las := ownsRow_kept h.las hK (fun j e e2 => by
    rcases e2 with e2 | e2
    · cases h.apt .las (.box k) j e ((own_box hk).trans e2)
    · cases h.apt .las (.byt k) j e ((own_byt hk).trans e2))
  dee := ownsRow_kept h.dee hK (fun j e e2 => by
    rcases e2 with e2 | e2
    · cases h.apt .dee (.box k) j e ((own_box hk).trans e2)
    · cases h.apt .dee (.byt k) j e ((own_byt hk).trans e2))
  box j hj := by
    rw [setF_len] at hj
    have hf : fat (d.setF k f).files j = if j = k then f else fat d.files j := fat_set d.files k j f hk
    rw [hf]
    by_cases e : j = k
    · subst e
      simp only [Lay.setFv, if_true]
      exact hb
    · simp only [Lay.setFv, if_neg e]
      refine (h.box j hj).kept hK (fun e2 => ?_)
      rcases e2 with e2 | e2
      · cases h.apt (.box j) (.box k) _ (own_box hj) ((own_box hk).trans e2); exact e rfl
      · cases h.apt (.box j) (.byt k) _ (own_box hj) ((own_byt hk).trans e2)
  byt j hj := by
    rw [setF_len] at hj
    have hf : fat (d.setF k f).files j = if j = k then f else fat d.files j := fat_set d.files k j f hk
    rw [hf]
    by_cases e : j = k
    · subst e
      simp only [Lay.setFv, if_true]
      exact ho
    · simp only [Lay.setFv, if_neg e]
      refine ownsRow_kept (h.byt j hj) hK (fun i e1 e2 => ?_)
      rcases e2 with e2 | e2
      · cases h.apt (.byt j) (.box k) _ ((own_byt hj).trans e1) ((own_box hk).trans e2)
      · cases h.apt (.byt j) (.byt k) _ ((own_byt hj).trans e1) ((own_byt hk).trans e2); exact e rfl
  apt := by
    rw [setF_len]
    refine h.apt.upd (.byt k) w.heap.size h.lt (fun b hb' => ?_) (fun t ht => ?_)
    · rw [own_byt hk] at hb' ⊢
      simp only [Lay.setFv, if_true] at hb'
      exact hv b hb'
    · cases t with
      | byt j =>
        have e : j ≠ k := fun e => ht (by rw [e])
        simp only [Lay.own, Lay.setFv, if_neg e]
      | _ => rfl
  plt := Nat.lt_of_lt_of_le h.plt hK.size
/-- A file of a disk is changed. -/
theorem fin_file {w w' : World} {L : Lay} {d : Dsk} {k : Nat} {f : Fil} {v : Value} (h : At w L d) (hc : L.cr = d.files.length) (hk : k < d.files.length) (hb : Blk w' (L.fb k) #[.int .i64 (k : Int), v, .int .i64 (f.lasts : Int)] 93)
    (ho : w'.ownsRow 0 5 1 v f.b.length (bvs f.b)) (hK : Kept (fun j => some (L.fb k) = some j ∨ (L.fv k).ownBlock = some j) w w') (hv : ∀ j, v.ownBlock = some j → (L.fv k).ownBlock = some j ∨ w.heap.size ≤ j) : Fin' w L d w' (d.setF k f) := by
  refine ⟨L.setFv k v, rfl, by rw [setF_len]; exact hc, ⟨?_, h.rest.setFil hk hb ho hK hv⟩, hK.mono (fun j _ hj => ?_), fun t b hb' => ?_⟩
  · exact h.blk.kept hK (fun e2 => by
      rcases e2 with e2 | e2
      · cases h.rest.apt .dsk (.box k) L.p rfl ((own_box hk).trans e2)
      · cases h.rest.apt .dsk (.byt k) L.p rfl ((own_byt hk).trans e2))
  · rcases hj with hj | hj
    · exact ⟨.box k, (own_box hk).trans hj⟩
    · exact ⟨.byt k, (own_byt hk).trans hj⟩
  · rw [setF_len] at hb'
    cases t with
    | byt j =>
      simp only [Lay.own, Lay.setFv] at hb'
      by_cases hj : j < d.files.length
      · rw [if_pos hj] at hb'
        by_cases e : j = k
        · subst e
          rw [if_pos rfl] at hb'
          exact (hv b hb').imp (fun h => ⟨.byt j, by rw [own_byt hj]; exact h⟩) id
        · rw [if_neg e] at hb'
          exact .inl ⟨.byt j, by rw [own_byt hj]; exact hb'⟩
      · rw [if_neg hj] at hb'
        cases hb'
    | dsk => exact .inl ⟨.dsk, hb'⟩
    | now => exact .inl ⟨.now, hb'⟩
    | las => exact .inl ⟨.las, hb'⟩
    | dee => exact .inl ⟨.dee, hb'⟩
    | box j => exact .inl ⟨(.box j), hb'⟩
/-- One deed more is done. -/
theorem Fin'.then_done {w w1 : World} {L : Lay} {d d1 : Dsk} (h : Fin' w L d w1 d1) (hd : isDown d1.armed = false) (ha : ∀ n, d1.armed = some n → n < 9223372036854775808) :
    Calls Try.prog 44 #[.pointer (some ⟨L.p, 0, none⟩)] w1 fun e w' => e = .returned (.tuple #[]) ∧ Fin' w L d w' d1.done := by
  obtain ⟨L', h1, h4, h5, h6, h7⟩ := h
  rw [← h1]
  refine (done_any w1 L' d1 h5 hd ha).mono ?_
  rintro e w' ⟨rfl, hA, hK⟩
  exact ⟨rfl, L', h1, h4, hA, h6.trans hK (fun j hj hlt => by
    rcases h7 .dsk j hj with ⟨u, h⟩ | h
    · exact ⟨u, h⟩
    · omega), h7⟩

theorem on_down {α : Type} {d : Dsk} {n : ByteArray} {no f : Nat → α} (h : isDown d.armed = true) : d.on n no f = no 12 := by unfold Dsk.on; rw [if_pos (isDown_true h)]
theorem on_none {α : Type} {d : Dsk} {n : ByteArray} {no f : Nat → α} (h : isDown d.armed = false) (hf : tfind d.now n = none) : d.on n no f = no 6 := by unfold Dsk.on; rw [if_neg (isDown_false h), hf]
theorem on_some {α : Type} {d : Dsk} {n : ByteArray} {no f : Nat → α} {k : Nat} (h : isDown d.armed = false) (hf : tfind d.now n = some k) : d.on n no f = f k := by unfold Dsk.on; rw [if_neg (isDown_false h), hf]
/-- What every call of a disk may ask. -/
structure Ready (w : World) (L : Lay) (d : Dsk) (k : Nat) : Prop where
  at' : At w L d
  cr : L.cr = d.files.length
  ok : d.Ok k
  small : k ≤ 100000
theorem Ready.now_len {w : World} {L : Lay} {d : Dsk} {k : Nat} (h : Ready w L d k) : d.now.length ≤ 100000 := by
  have := h.ok.nowN; have := h.ok.lenN; have := h.small; omega
theorem Ready.dee_len {w : World} {L : Lay} {d : Dsk} {k : Nat} (h : Ready w L d k) : d.deeds.length ≤ 100000 := by
  have := h.ok.lenN; have := h.small; omega
theorem Ready.file {w : World} {L : Lay} {d : Dsk} {k : Nat} (h : Ready w L d k) {n : ByteArray} {j : Nat} (hf : tfind d.now n = some j) : j < d.files.length := (h.ok.nowF _ (tfind_mem hf)).1
theorem fat_mem {fs : List Fil} {k : Nat} (h : k < fs.length) : fat fs k ∈ fs := by
  unfold fat
  rw [List.getD_eq_getElem?_getD, List.getElem?_eq_getElem h]
  exact List.getElem_mem h
theorem Ready.fil {w : World} {L : Lay} {d : Dsk} {k : Nat} (h : Ready w L d k) {j : Nat} (hj : j < d.files.length) : (fat d.files j).lasts ≤ (fat d.files j).b.length ∧ (fat d.files j).b.length ≤ 16777216 := h.ok.fil _ (fat_mem hj)

end Go.Proofs.Ytnofabeajcdddaa
