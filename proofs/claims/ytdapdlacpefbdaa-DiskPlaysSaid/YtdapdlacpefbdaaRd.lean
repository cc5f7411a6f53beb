/- The document's disk in memory. -/
import Derived.Test.YtdapdlacpefbdaaRdoc3
import Derived.Test.YtdapdlacpefbdaaDisk
namespace Go.Proofs.Ytdapdlacpefbdaa
open Go.RowKit Go.Cor

theorem Try.infoRFil : (Try.prog.info? 50).map (fun i => (i.zero, i.size, i.bytes)) = some (some (.agg #[.slice none 0 0, .int .i64 0]), 2, 32) := by kernel_rfl
theorem Try.sizeRFil : (Try.prog.info? 50).map (·.size) = some 2 := by kernel_rfl
theorem Try.infoRDeed : (Try.prog.info? 110).map (fun i => (i.zero, i.size, i.bytes)) = some (some (.agg #[.int .i64 0, .string ⟨#[]⟩, .string ⟨#[]⟩, .int .i64 0]), 4, 48) := by kernel_rfl
theorem Try.sizeRDeed : (Try.prog.info? 110).map (·.size) = some 4 := by kernel_rfl

/-- Where its pieces lie; fps: the files, each with the slice that has its bytes. -/
structure RL where
  now : Value
  las : Value
  dee : Value
  fil : Value
  fps : List (Fil × Value)
def rfe (p : Fil × Value) : List Value := [p.2, .int .i64 (p.1.lasts : Int)]
theorem rfe_len (p : Fil × Value) : (rfe p).length = 2 := rfl
def armI (o : Option Nat) : Int := match o with | none => -1 | some n => (n : Int)
def rcells (L : RL) (d : Dsk) : Array Value := #[.int .i64 (d.cap : Int), L.now, L.las, L.dee, L.fil, .int .i64 (armI d.armed)]

/-- All but its box. R: the blocks that are only read. -/
structure RRest (w : World) (g : Nat) (L : RL) (R : Nat → Prop) (d : Dsk) : Prop where
  now : IsN w L.now d.now
  las : IsN w L.las d.las
  dee : IsX w 4 L.dee d.deeds.length (row rdd d.deeds)
  fil : w.ownsRow 0 50 2 L.fil L.fps.length (row rfe L.fps)
  fps : L.fps.map (·.1) = d.files
  byt : ∀ p ∈ L.fps, IsB w p.2 p.1.b
  rnow : ∀ b, liesX L.now d.now.length b → R b
  rlas : ∀ b, liesX L.las d.las.length b → R b
  rdee : ∀ b, liesX L.dee d.deeds.length b → R b
  rbyt : ∀ p ∈ L.fps, ∀ b, liesB p.2 p.1.b b → R b
  rg : ∀ b, R b → b ≠ g ∧ L.fil.ownBlock ≠ some b ∧ b < w.heap.size
  fg : L.fil.ownBlock ≠ some g
structure RAt (w : World) (g : Nat) (L : RL) (R : Nat → Prop) (d : Dsk) : Prop where
  box : Blk w g (rcells L d) 35
  rest : RRest w g L R d
theorem RRest.kept {S : Nat → Prop} {w w' : World} {g : Nat} {L : RL} {R : Nat → Prop} {d : Dsk} (h : RRest w g L R d) (hk : Kept S w w') (hS : ∀ b, S b → L.fil.ownBlock ≠ some b ∧ ¬ R b) : RRest w' g L R d :=
  ⟨h.now.kept hk (fun b hb hs => (hS b hs).2 (h.rnow b hb)), h.las.kept hk (fun b hb hs => (hS b hs).2 (h.rlas b hb)), h.dee.kept hk (fun b hb hs => (hS b hs).2 (h.rdee b hb)), ownsRow_kept h.fil hk (fun b hb hs => (hS b hs).1 hb), h.fps,
    fun p hp => (h.byt p hp).kept hk (fun b hb hs => (hS b hs).2 (h.rbyt p hp b hb)), h.rnow, h.rlas, h.rdee, h.rbyt, fun b hb => ⟨(h.rg b hb).1, (h.rg b hb).2.1, Nat.lt_of_lt_of_le (h.rg b hb).2.2 hk.size⟩, h.fg⟩
theorem RAt.kept {S : Nat → Prop} {w w' : World} {g : Nat} {L : RL} {R : Nat → Prop} {d : Dsk} (h : RAt w g L R d) (hk : Kept S w w') (hS : ∀ b, S b → b ≠ g ∧ L.fil.ownBlock ≠ some b ∧ ¬ R b) : RAt w' g L R d :=
  ⟨h.box.kept hk (fun hs => (hS g hs).1 rfl), h.rest.kept hk (fun b hs => (hS b hs).2)⟩
theorem RAt.below {w w' : World} {g : Nat} {L : RL} {R : Nat → Prop} {d : Dsk} (h : RAt w g L R d) (hb : Below w.heap.size w w') : RAt w' g L R d :=
  h.kept (Kept.of_below (S := fun _ => False) hb (Nat.le_refl _)) (fun _ h => h.elim)
theorem RRest.box {w : World} {g : Nat} {L : RL} {R : Nat → Prop} {d : Dsk} (h : RRest w g L R d) (j : Nat) (u : Value) : RRest (w.setCell ⟨g, j, none⟩ u) g L R d :=
  h.kept ((Kept.refl (fun b => b = g) w).setCell (p := ⟨g, j, none⟩) (.inl rfl) u) (fun b hb => by
    subst hb
    exact ⟨h.fg, fun hr => (h.rg b hr).1 rfl⟩)
/-- What a call of it leaves, seen from inside. -/
def Rs (w : World) (g : Nat) (L : RL) (R : Nat → Prop) (d' : Dsk) (w' : World) : Prop :=
  ∃ L' R', RAt w' g L' R' d' ∧ Kept (fun b => b = g ∨ L.fil.ownBlock = some b) w w' ∧ (∀ b, R' b → R b ∨ w.heap.size ≤ b) ∧ ∀ b, L'.fil.ownBlock = some b → L.fil.ownBlock = some b ∨ w.heap.size ≤ b
theorem Rs.trans {w w1 w2 : World} {g : Nat} {L L1 : RL} {R R1 : Nat → Prop} {d2 : Dsk} (hk : Kept (fun b => b = g ∨ L.fil.ownBlock = some b) w w1) (hR : ∀ b, R1 b → R b ∨ w.heap.size ≤ b) (hL : ∀ b, L1.fil.ownBlock = some b → L.fil.ownBlock = some b ∨ w.heap.size ≤ b) (h2 : Rs w1 g L1 R1 d2 w2) : Rs w g L R d2 w2 := by
  obtain ⟨L', R', h, k2, r2, f2⟩ := h2
  refine ⟨L', R', h, hk.trans k2 (fun j hj hlt => ?_), fun b hb => ?_, fun b hb => ?_⟩
  · rcases hj with hj | hj
    · exact .inl hj
    · rcases hL j hj with h | h
      · exact .inr h
      · omega
  · rcases r2 b hb with h | h
    · exact hR b h
    · have := hk.size; exact .inr (by omega)
  · rcases f2 b hb with h | h
    · exact hL b h
    · have := hk.size; exact .inr (by omega)
theorem Rs.below {w w1 w2 : World} {g : Nat} {L : RL} {R : Nat → Prop} {d2 : Dsk} (hb : Below w.heap.size w w1) (h2 : Rs w1 g L R d2 w2) : Rs w g L R d2 w2 :=
  Rs.trans (Kept.of_below hb (Nat.le_refl _)) (fun _ h => .inl h) (fun _ h => .inl h) h2
theorem Rs.post {w w1 w2 : World} {g : Nat} {L : RL} {R : Nat → Prop} {d2 : Dsk} (h : Rs w g L R d2 w1) (hb : Below w1.heap.size w1 w2) : Rs w g L R d2 w2 := by
  obtain ⟨L', R', h, k2, r2, f2⟩ := h
  exact ⟨L', R', h.below hb, k2.trans (Kept.of_below (S := fun _ => False) hb (Nat.le_refl _)) (fun _ h => h.elim), r2, f2⟩
theorem Rs.self {w w1 : World} {g : Nat} {L : RL} {R : Nat → Prop} {d : Dsk} (h : RAt w g L R d) (hb : Below w.heap.size w w1) : Rs w g L R d w1 :=
  ⟨L, R, h.below hb, Kept.of_below hb (Nat.le_refl _), fun _ h => .inl h, fun _ h => .inl h⟩

theorem RAt.facts {w : World} {g : Nat} {L : RL} {R : Nat → Prop} {d : Dsk} (h : RAt w g L R d) : w.cell? ⟨g, 0, none⟩ = some (.int .i64 (d.cap : Int)) ∧ w.cell? ⟨g, 1, none⟩ = some L.now ∧ w.cell? ⟨g, 2, none⟩ = some L.las ∧ w.cell? ⟨g, 3, none⟩ = some L.dee ∧ w.cell? ⟨g, 4, none⟩ = some L.fil ∧ w.cell? ⟨g, 5, none⟩ = some (.int .i64 (armI d.armed)) :=
  ⟨h.box.cell 0 rfl, h.box.cell 1 rfl, h.box.cell 2 rfl, h.box.cell 3 rfl, h.box.cell 4 rfl, h.box.cell 5 rfl⟩
/-- A new table. -/
theorem RAt.setNow {w : World} {g : Nat} {L : RL} {R : Nat → Prop} {d : Dsk} (h : RAt w g L R d) {v : Value} {t : Tbl} (hv : IsN w v t) (hl : ∀ b, liesX v t.length b → b ≠ g ∧ L.fil.ownBlock ≠ some b) : RAt (w.setCell ⟨g, 1, none⟩ v) g { L with now := v } (fun b => R b ∨ liesX v t.length b) { d with now := t } := by
  have hr := h.rest.box 1 v
  refine ⟨h.box.set 1 v, ⟨?_, hr.las, hr.dee, hr.fil, hr.fps, hr.byt, fun b hb => .inr hb, fun b hb => .inl (hr.rlas b hb), fun b hb => .inl (hr.rdee b hb), fun p hp b hb => .inl (hr.rbyt p hp b hb), fun b hb => ?_, hr.fg⟩⟩
  · exact hv.kept ((Kept.refl (fun b => b = g) w).setCell (p := ⟨g, 1, none⟩) (.inl rfl) v) (fun b hb => (hl b hb).1)
  · rcases hb with hb | hb
    · exact hr.rg b hb
    · exact ⟨(hl b hb).1, (hl b hb).2, by have := hv.lies_lt (by decide) hb; simpa using this⟩
theorem RAt.setLas {w : World} {g : Nat} {L : RL} {R : Nat → Prop} {d : Dsk} (h : RAt w g L R d) {v : Value} {t : Tbl} (hv : IsN w v t) (hl : ∀ b, liesX v t.length b → b ≠ g ∧ L.fil.ownBlock ≠ some b) : RAt (w.setCell ⟨g, 2, none⟩ v) g { L with las := v } (fun b => R b ∨ liesX v t.length b) { d with las := t } := by
  have hr := h.rest.box 2 v
  refine ⟨h.box.set 2 v, ⟨hr.now, ?_, hr.dee, hr.fil, hr.fps, hr.byt, fun b hb => .inl (hr.rnow b hb), fun b hb => .inr hb, fun b hb => .inl (hr.rdee b hb), fun p hp b hb => .inl (hr.rbyt p hp b hb), fun b hb => ?_, hr.fg⟩⟩
  · exact hv.kept ((Kept.refl (fun b => b = g) w).setCell (p := ⟨g, 2, none⟩) (.inl rfl) v) (fun b hb => (hl b hb).1)
  · rcases hb with hb | hb
    · exact hr.rg b hb
    · exact ⟨(hl b hb).1, (hl b hb).2, by have := hv.lies_lt (by decide) hb; simpa using this⟩
theorem RAt.setDee {w : World} {g : Nat} {L : RL} {R : Nat → Prop} {d : Dsk} (h : RAt w g L R d) {v : Value} {t : List Dd} (hv : IsX w 4 v t.length (row rdd t)) (hl : ∀ b, liesX v t.length b → b ≠ g ∧ L.fil.ownBlock ≠ some b) : RAt (w.setCell ⟨g, 3, none⟩ v) g { L with dee := v } (fun b => R b ∨ liesX v t.length b) { d with deeds := t } := by
  have hr := h.rest.box 3 v
  refine ⟨h.box.set 3 v, ⟨hr.now, hr.las, ?_, hr.fil, hr.fps, hr.byt, fun b hb => .inl (hr.rnow b hb), fun b hb => .inl (hr.rlas b hb), fun b hb => .inr hb, fun p hp b hb => .inl (hr.rbyt p hp b hb), fun b hb => ?_, hr.fg⟩⟩
  · exact hv.kept ((Kept.refl (fun b => b = g) w).setCell (p := ⟨g, 3, none⟩) (.inl rfl) v) (fun b hb => (hl b hb).1)
  · rcases hb with hb | hb
    · exact hr.rg b hb
    · exact ⟨(hl b hb).1, (hl b hb).2, by have := hv.lies_lt (by decide) hb; simpa using this⟩
theorem RAt.setArm {w : World} {g : Nat} {L : RL} {R : Nat → Prop} {d : Dsk} (h : RAt w g L R d) (o : Option Nat) : RAt (w.setCell ⟨g, 5, none⟩ (.int .i64 (armI o))) g L R { d with armed := o } := by
  have hr := h.rest.box 5 (.int .i64 (armI o))
  exact ⟨h.box.set 5 _, ⟨hr.now, hr.las, hr.dee, hr.fil, hr.fps, hr.byt, hr.rnow, hr.rlas, hr.rdee, hr.rbyt, hr.rg, hr.fg⟩⟩
theorem rs_box {w : World} {g : Nat} {L L' : RL} {R R' : Nat → Prop} {d' : Dsk} {j : Nat} {u : Value} (h : RAt (w.setCell ⟨g, j, none⟩ u) g L' R' d') (hR : ∀ b, R' b → R b ∨ w.heap.size ≤ b) (hL : ∀ b, L'.fil.ownBlock = some b → L.fil.ownBlock = some b ∨ w.heap.size ≤ b) : Rs w g L R d' (w.setCell ⟨g, j, none⟩ u) :=
  ⟨L', R', h, (Kept.refl _ w).setCell (p := ⟨g, j, none⟩) (.inl (.inl rfl)) u, hR, hL⟩
/-- One file in its place. -/
theorem RRest.setFile {w w' : World} {g f : Nat} {L : RL} {R : Nat → Prop} {d : Dsk} (h : RRest w g L R d) {k : Nat} {p p' : Fil × Value} (hp : L.fps[k]? = some p) (hf : L.fil.ownBlock = some f) (hk : Kept (fun b => L.fil.ownBlock = some b) w w')
    (ho : w'.ownsRow 0 50 2 L.fil L.fps.length (row rfe (L.fps.set k p'))) (hB : IsB w' p'.2 p'.1.b) (hl : ∀ b, liesB p'.2 p'.1.b b → b ≠ g ∧ L.fil.ownBlock ≠ some b) : RRest w' g { L with fps := L.fps.set k p' } (fun b => R b ∨ liesB p'.2 p'.1.b b) { d with files := d.files.set k p'.1 } := by
  have hr := fun b (hb : L.fil.ownBlock = some b) (hR : R b) => (h.rg b hR).2.1 hb
  refine ⟨h.now.kept hk (fun b hb hs => hr b hs (h.rnow b hb)), h.las.kept hk (fun b hb hs => hr b hs (h.rlas b hb)), h.dee.kept hk (fun b hb hs => hr b hs (h.rdee b hb)), ?_, ?_, fun x hx => ?_, fun b hb => .inl (h.rnow b hb), fun b hb => .inl (h.rlas b hb), fun b hb => .inl (h.rdee b hb), fun x hx b hb => ?_, fun b hb => ?_, h.fg⟩
  · show w'.ownsRow 0 50 2 L.fil (L.fps.set k p').length (row rfe (L.fps.set k p'))
    rw [List.length_set]
    exact ho
  · show (L.fps.set k p').map (·.1) = d.files.set k p'.1
    rw [List.map_set, h.fps]
  · rcases List.mem_or_eq_of_mem_set hx with hx | hx
    · exact (h.byt x hx).kept hk (fun b hb hs => hr b hs (h.rbyt x hx b hb))
    · rw [hx]; exact hB
  · rcases List.mem_or_eq_of_mem_set hx with hx | hx
    · exact .inl (h.rbyt x hx b hb)
    · rw [hx] at hb; exact .inr hb
  · rcases hb with hb | hb
    · exact ⟨(h.rg b hb).1, (h.rg b hb).2.1, Nat.lt_of_lt_of_le (h.rg b hb).2.2 hk.size⟩
    · exact ⟨(hl b hb).1, (hl b hb).2, hB.lies_lt hb⟩
theorem RRest.fileAt {w : World} {g : Nat} {L : RL} {R : Nat → Prop} {d : Dsk} (h : RRest w g L R d) {k : Nat} (hk : k < d.files.length) : ∃ v, L.fps[k]? = some (fat d.files k, v) ∧ IsB w v (fat d.files k).b := by
  have hl : L.fps.length = d.files.length := by rw [← h.fps, List.length_map]
  have h1 := List.getElem?_eq_getElem (l := L.fps) (i := k) (by omega)
  have h2 : (L.fps[k]'(by omega)).1 = fat d.files k := by
    unfold fat
    rw [List.getD_eq_getElem?_getD, ← h.fps, List.getElem?_map, h1]
    rfl
  have h3 := h.byt _ (List.mem_of_getElem? h1)
  refine ⟨(L.fps[k]'(by omega)).2, ?_, by rw [← h2]; exact h3⟩
  rw [h1, ← h2]
theorem rfps_len {w : World} {g : Nat} {L : RL} {R : Nat → Prop} {d : Dsk} (h : RRest w g L R d) : L.fps.length = d.files.length := by rw [← h.fps, List.length_map]

end Go.Proofs.Ytdapdlacpefbdaa
