/- Package disk: the states of a crash. -/
import Derived.Test.YtnofabeajcdddaaFall
namespace Go.Proofs.Ytnofabeajcdddaa
open Go.RowKit Go.Cor

theorem turnT_sorted {l : Tbl} (h : Sorted l) (x : Dd) : Sorted (turnT l x) := by
  unfold turnT
  split
  · exact wout_sorted h _
  · exact wth_sorted (wout_sorted h _) _ _
theorem turnT_len (l : Tbl) (x : Dd) : (turnT l x).length ≤ l.length + 1 := by
  unfold turnT
  split
  · have := wout_length l x.src; omega
  · rw [wth_length]
    have h1 := wout_length (wout l x.src) x.dst
    have h2 := wout_length l x.src
    omega
theorem turnT_mem {l : Tbl} {x : Dd} {e : ByteArray × Nat} (h : e ∈ turnT l x) : e ∈ l ∨ (x.dst ≠ noName ∧ e = (x.dst, x.file)) := by
  unfold turnT at h
  split at h
  · exact .inl ((wout_sublist l x.src).mem h)
  · rename_i hd
    rcases wth_mem h with h1 | h1
    · exact .inr ⟨hd, h1⟩
    · exact .inl ((wout_sublist l x.src).mem h1)
theorem foldl_sorted {l : Tbl} (h : Sorted l) (xs : List Dd) : Sorted (xs.foldl turnT l) := by
  induction xs generalizing l with
  | nil => exact h
  | cons x r ih => exact ih (turnT_sorted h x)
theorem foldl_len (l : Tbl) (xs : List Dd) : (xs.foldl turnT l).length ≤ l.length + xs.length := by
  induction xs generalizing l with
  | nil => exact Nat.le_refl _
  | cons x r ih =>
    have h1 := ih (turnT l x)
    have h2 := turnT_len l x
    simp only [List.foldl_cons, List.length_cons]
    omega
theorem foldl_mem {l : Tbl} {xs : List Dd} {e : ByteArray × Nat} (h : e ∈ xs.foldl turnT l) : e ∈ l ∨ ∃ x ∈ xs, x.dst ≠ noName ∧ e = (x.dst, x.file) := by
  induction xs generalizing l with
  | nil => exact .inl h
  | cons x r ih =>
    rcases ih h with h1 | ⟨y, hy, h1⟩
    · rcases turnT_mem h1 with h2 | h2
      · exact .inl h2
      · exact .inr ⟨x, List.mem_cons_self .., h2⟩
    · exact .inr ⟨y, List.mem_cons_of_mem _ hy, h1⟩
theorem foldl_snoc (l : Tbl) (xs : List Dd) (i : Nat) {x : Dd} (h : xs[i]? = some x) : (xs.take (i + 1)).foldl turnT l = turnT ((xs.take i).foldl turnT l) x := by
  obtain ⟨hi, he⟩ := List.getElem?_eq_some_iff.1 h
  rw [List.take_succ_eq_append_getElem hi, List.foldl_append, he]
  rfl
theorem fallAll_append (ps : List Pck) (fs : List Fil) (a b : Tbl) : fallAll ps fs (a ++ b) = fallAll ps (fallAll ps fs a) b := by
  induction a generalizing fs with
  | nil => rfl
  | cons e r ih => exact ih _
theorem fallAll_snoc (ps : List Pck) (fs : List Fil) (t : Tbl) (i : Nat) {e : ByteArray × Nat} (h : t[i]? = some e) : fallAll ps fs (t.take (i + 1)) = (fallAll ps fs (t.take i)).set e.2 (fallF (fat (fallAll ps fs (t.take i)) e.2) (pickAt ps e.2)) := by
  obtain ⟨hi, he⟩ := List.getElem?_eq_some_iff.1 h
  rw [List.take_succ_eq_append_getElem hi, fallAll_append, he]
  rfl
theorem fallAll_len (ps : List Pck) (fs : List Fil) (t : Tbl) : (fallAll ps fs t).length = fs.length := by
  induction t generalizing fs with
  | nil => rfl
  | cons e r ih =>
    unfold fallAll
    rw [ih]
    simp
theorem fallF_ok {f : Fil} {p : Pck} (h : f.lasts ≤ f.b.length ∧ f.b.length ≤ 16777216) : (fallF f p).lasts ≤ (fallF f p).b.length ∧ (fallF f p).b.length ≤ 16777216 := by
  have hc : clampN p.keep (f.b.length - f.lasts) ≤ f.b.length - f.lasts := Nat.min_le_right _ _
  unfold fallF
  dsimp only
  split
  · simp only [List.length_set, List.length_take]
    omega
  · simp only [List.length_take]
    omega
theorem mem_set_or {α : Type} {l : List α} {i : Nat} {a x : α} (h : x ∈ l.set i a) : x ∈ l ∨ x = a := List.mem_or_eq_of_mem_set h
theorem fallAll_ok {ps : List Pck} {fs : List Fil} (t : Tbl) (h : ∀ f ∈ fs, f.lasts ≤ f.b.length ∧ f.b.length ≤ 16777216) : ∀ f ∈ fallAll ps fs t, f.lasts ≤ f.b.length ∧ f.b.length ≤ 16777216 := by
  induction t generalizing fs with
  | nil => exact h
  | cons e r ih =>
    unfold fallAll
    refine ih (fun f hf => ?_)
    rcases mem_set_or hf with h1 | h1
    · exact h f h1
    · subst h1
      refine fallF_ok ?_
      unfold fat
      rw [List.getD_eq_getElem?_getD]
      cases he : fs[e.2]? with
      | none => simp
      | some f => exact h f (List.mem_of_getElem? he)

/-- The names are taken back and the first deeds done: so far. pb: the picks as they came. -/
structure CrS (w : World) (L : Lay) (d : Dsk) (pb : Array Value) (t : Tbl) (wr : World) (v : Value) : Prop where
  blk : Blk wr L.p #[.int .i64 (d.cap : Int), .int .i64 (L.cr : Int), v, L.las, L.dee, .bool d.armed.isSome, .int .i64 (lft L d)] 82
  rest : Rest wr { L with now := v, las := .slice none 0 0 } { d with now := t, las := [] }
  pic : Blk wr w.heap.size pb 64
  kept : Kept (fun k => ∃ t, L.own d.files.length t = some k) w wr
  own : ∀ k, v.ownBlock = some k → L.las.ownBlock = some k ∨ w.heap.size < k

theorem CrS.start {w : World} {L : Lay} {d : Dsk} (h : At w L d) (pb : Array Value) : CrS w L d pb d.las ((w.setCell ⟨L.p, 2, none⟩ L.las).alloc (.cells pb 64)) L.las := by
  have hsz : (w.setCell ⟨L.p, 2, none⟩ L.las).heap.size = w.heap.size := by simp
  have hk0 : Kept (fun k => ∃ t, L.own d.files.length t = some k) w (w.setCell ⟨L.p, 2, none⟩ L.las) := (Kept.refl (fun k => ∃ t, L.own d.files.length t = some k) w).setCell (p := ⟨L.p, 2, none⟩) (.inl ⟨.dsk, rfl⟩) _
  have hr0 := h.rest.setDsk 2 L.las
  have hb : Below w.heap.size (w.setCell ⟨L.p, 2, none⟩ L.las) ((w.setCell ⟨L.p, 2, none⟩ L.las).alloc (.cells pb 64)) := (Below.refl _ _).alloc (by rw [hsz]; exact Nat.le_refl _) _
  have hr := hr0.below hb (by rw [hsz]; exact Nat.le_refl _)
  have hbl := (h.blk.set 2 L.las).below hb h.blk.lt
  have hapt : Apt (({ L with now := L.las, las := .slice none 0 0 } : Lay).own d.files.length) := by
    have ho : ∀ t b, (({ L with now := L.las, las := .slice none 0 0 } : Lay).own d.files.length) t = some b → (t = .now ∧ L.own d.files.length .las = some b) ∨ (t ≠ .now ∧ t ≠ .las ∧ L.own d.files.length t = some b) := fun t b hb => by
      cases t with
      | now => exact .inl ⟨rfl, hb⟩
      | las => cases hb
      | dsk => exact .inr ⟨nofun, nofun, hb⟩
      | dee => exact .inr ⟨nofun, nofun, hb⟩
      | box k => exact .inr ⟨nofun, nofun, hb⟩
      | byt k => exact .inr ⟨nofun, nofun, hb⟩
    intro t u b ht hu
    rcases ho t b ht with ⟨rfl, h1⟩ | ⟨n1, n2, h1⟩
    · rcases ho u b hu with ⟨rfl, h2⟩ | ⟨n3, n4, h2⟩
      · rfl
      · exact absurd (h.rest.apt _ _ b h2 h1) n4
    · rcases ho u b hu with ⟨rfl, h2⟩ | ⟨n3, n4, h2⟩
      · exact absurd (h.rest.apt _ _ b h1 h2) n2
      · exact h.rest.apt t u b h1 h2
  refine ⟨hbl, ⟨hr.las, World.ownsRow_nil _ _ _ _, hr.dee, hr.box, hr.byt, hapt, hr.plt⟩, ?_, ?_, fun k hk => .inl hk⟩
  · have := Blk.new (w.setCell ⟨L.p, 2, none⟩ L.las) pb 64
    rw [hsz] at this
    exact this
  · exact hk0.alloc _
theorem CrS.below {w wr wx : World} {L : Lay} {d : Dsk} {pb : Array Value} {t : Tbl} {v : Value} (h : CrS w L d pb t wr v) (hb : Below wr.heap.size wr wx) : CrS w L d pb t wx v :=
  ⟨h.blk.below hb h.blk.lt, h.rest.below hb (Nat.le_refl _), h.pic.below hb h.pic.lt, h.kept.trans (Kept.of_below (S := fun _ => False) hb (Nat.le_refl _)) (fun _ h => h.elim), h.own⟩
theorem CrS.step {w wx w2 : World} {L : Lay} {d : Dsk} {pb : Array Value} {t t2 : Tbl} {v v2 : Value} (h : CrS w L d pb t wx v) (h0 : ∀ k, L.las.ownBlock = some k → k < w.heap.size) (ho : w2.ownsRow 0 104 2 v2 t2.length (row (ent L.fb) t2)) (hk : Kept (fun k => v.ownBlock = some k) wx w2) (hv : ∀ k, v2.ownBlock = some k → v.ownBlock = some k ∨ wx.heap.size ≤ k) :
    CrS w L d pb t2 (w2.setCell ⟨L.p, 2, none⟩ v2) v2 := by
  have hp : ¬ v.ownBlock = some L.p := fun e => by cases h.rest.apt .now .dsk L.p e rfl
  have hpic : ¬ v.ownBlock = some w.heap.size := fun e => by
    rcases h.own _ e with h1 | h1
    · have := h0 _ h1; omega
    · omega
  have hbl := h.blk.kept hk hp
  have hr := h.rest.setNow ho hk hv
  refine ⟨hbl.set 2 v2, hr.setDsk 2 v2, (h.pic.kept hk hpic).other (a := ⟨L.p, 2, none⟩) ?_ _, ?_, fun k hk2 => ?_⟩
  · show L.p ≠ w.heap.size
    intro e
    have h1 := h.pic
    rw [← e] at h1
    have := h1.symm.trans h.blk
    simp at this
  · refine (h.kept.trans hk (fun j hj hlt => ?_)).setCell (p := ⟨L.p, 2, none⟩) (.inl ⟨.dsk, rfl⟩) _
    rcases h.own j hj with h1 | h1
    · exact ⟨.las, h1⟩
    · omega
  · rcases hv k hk2 with h1 | h1
    · exact h.own k h1
    · have := h.pic.lt
      exact .inr (by omega)

/-- The names last, and the first files have fallen: so far. -/
structure CrF (w : World) (L : Lay) (d : Dsk) (pb : Array Value) (t : Tbl) (v : Value) (fs : List Fil) (wr : World) (L' : Lay) : Prop where
  p : L'.p = L.p
  fb : L'.fb = L.fb
  cr : L'.cr = L.cr
  now : L'.now = v
  at' : At wr L' { d with now := t, las := t, deeds := [], files := fs }
  pic : Blk wr w.heap.size pb 64
  kept : Kept (fun k => ∃ t, L.own d.files.length t = some k) w wr
  own : ∀ t b, L'.own fs.length t = some b → L.own d.files.length t = some b ∨ (t = .now ∧ L.las.ownBlock = some b) ∨ w.heap.size < b

theorem CrF.start {w wr w1 : World} {L : Lay} {d : Dsk} {pb : Array Value} {t : Tbl} {v v' : Value} (h : CrS w L d pb t wr v) (hpw : L.p < w.heap.size) (hb : Blk w1 L.p #[.int .i64 (d.cap : Int), .int .i64 (L.cr : Int), v, v', .slice none 0 0, .bool d.armed.isSome, .int .i64 (lft L d)] 82)
    (ho : w1.ownsRow wr.heap.size 104 2 v' t.length (row (ent L.fb) t)) (hk : Kept (fun k => some L.p = some k) wr w1) : CrF w L d pb t v d.files w1 { L with now := v, las := v', dee := .slice none 0 0 } := by
  have hr := h.rest.setLas (v := v') ho hk
  refine ⟨rfl, rfl, rfl, rfl, ⟨hb, hr⟩, h.pic.kept hk (fun e => by have := Option.some.inj e; omega), h.kept.trans hk (fun j hj _ => ⟨.dsk, hj⟩), fun u b hu => ?_⟩
  have hps := h.pic.lt
  cases u with
  | now =>
    rcases h.own b hu with h1 | h1
    · exact .inr (.inl ⟨rfl, h1⟩)
    · exact .inr (.inr h1)
  | las => have := (ho.lt b hu).1; exact .inr (.inr (by omega))
  | dee => cases hu
  | dsk => exact .inl hu
  | box k => exact .inl hu
  | byt k => exact .inl hu
theorem CrF.below {w wr wx : World} {L L' : Lay} {d : Dsk} {pb : Array Value} {t : Tbl} {v : Value} {fs : List Fil} (h : CrF w L d pb t v fs wr L') (hb : Below wr.heap.size wr wx) : CrF w L d pb t v fs wx L' :=
  ⟨h.p, h.fb, h.cr, h.now, h.at'.below hb (Nat.le_refl _), h.pic.below hb h.pic.lt, h.kept.trans (Kept.of_below (S := fun _ => False) hb (Nat.le_refl _)) (fun _ h => h.elim), h.own⟩
theorem CrF.step {w wx w2 : World} {L L' : Lay} {d : Dsk} {pb : Array Value} {t : Tbl} {v : Value} {fs : List Fil} {k : Nat} {f : Fil} (h : CrF w L d pb t v fs wx L') (h0 : ∀ t b, L.own d.files.length t = some b → b < w.heap.size) (hfl : fs.length = d.files.length) (hk : k < fs.length) (hf : Fell wx (L'.fb k) (k : Int) (L'.fv k) f w2) :
    CrF w L d pb t v (fs.set k f) w2 (L'.setFv k (Classical.choose hf)) := by
  obtain ⟨hb, ho, hK, hv⟩ := Classical.choose_spec hf
  generalize Classical.choose hf = v' at hb ho hK hv
  have hr := h.at'.rest
  have hR := hr.setFil hk hb ho hK (fun j hj => .inl (hv j hj))
  have hbl : Blk w2 L'.p _ _ := h.at'.blk.kept hK (fun e2 => by
    rcases e2 with e2 | e2
    · cases hr.apt .dsk (.box k) L'.p rfl ((own_box hk).trans e2)
    · cases hr.apt .dsk (.byt k) L'.p rfl ((own_byt hk).trans e2))
  have hown : ∀ j, (some (L'.fb k) = some j ∨ (L'.fv k).ownBlock = some j) → L.own d.files.length (.box k) = some j ∨ L.own d.files.length (.byt k) = some j ∨ w.heap.size < j := fun j hj => by
    rcases hj with hj | hj
    · rcases h.own (.box k) j ((own_box hk).trans hj) with h1 | ⟨h1, _⟩ | h1
      · exact .inl h1
      · cases h1
      · exact .inr (.inr h1)
    · rcases h.own (.byt k) j ((own_byt hk).trans hj) with h1 | ⟨h1, _⟩ | h1
      · exact .inr (.inl h1)
      · cases h1
      · exact .inr (.inr h1)
  refine ⟨h.p, h.fb, h.cr, h.now, ⟨hbl, hR⟩, h.pic.kept hK (fun e2 => ?_), h.kept.trans hK (fun j hj hlt => ?_), fun u b hu => ?_⟩
  · rcases hown _ e2 with h1 | h1 | h1
    · have := h0 _ _ h1; omega
    · have := h0 _ _ h1; omega
    · omega
  · rcases hown _ hj with h1 | h1 | h1
    · exact ⟨_, h1⟩
    · exact ⟨_, h1⟩
    · omega
  · rw [List.length_set] at hu
    cases u with
    | byt j =>
      simp only [Lay.own, Lay.setFv] at hu
      by_cases hj : j < fs.length
      · rw [if_pos hj] at hu
        by_cases e : j = k
        · subst e
          rw [if_pos rfl] at hu
          exact h.own (.byt j) b ((own_byt hj).trans (hv b hu))
        · rw [if_neg e] at hu
          exact h.own (.byt j) b ((own_byt hj).trans hu)
      · rw [if_neg hj] at hu
        cases hu
    | dsk => exact h.own .dsk b hu
    | now => exact h.own .now b hu
    | las => exact h.own .las b hu
    | dee => exact h.own .dee b hu
    | box j => exact h.own (.box j) b hu
/-- It isn't armed any more. -/
theorem CrF.last {w wr : World} {L L' : Lay} {d : Dsk} {pb : Array Value} {t : Tbl} {v : Value} {fs : List Fil} (h : CrF w L d pb t v fs wr L') (hcr : L.cr = d.files.length) (hfl : fs.length = d.files.length) : Fin' w L d (wr.setCell ⟨L.p, 5, none⟩ (.bool false)) { d with now := t, las := t, deeds := [], files := fs, armed := none } := by
  have hb : Blk (wr.setCell ⟨L.p, 5, none⟩ (.bool false)) L'.p (dcells { L' with left := lft L' { d with now := t, las := t, deeds := [], files := fs } } { d with now := t, las := t, deeds := [], files := fs, armed := none }) 82 := by
    have := h.at'.blk.set 5 (.bool false)
    rw [h.p] at this ⊢
    exact this
  have hr : Rest (wr.setCell ⟨L.p, 5, none⟩ (.bool false)) L' { d with now := t, las := t, deeds := [], files := fs } := by
    have := h.at'.rest.setDsk 5 (.bool false)
    rw [h.p] at this
    exact this
  refine ⟨{ L' with left := lft L' { d with now := t, las := t, deeds := [], files := fs } }, h.p, ?_, ⟨hb, ⟨hr.now, hr.las, hr.dee, hr.box, hr.byt, hr.apt, hr.plt⟩⟩, h.kept.setCell (p := ⟨L.p, 5, none⟩) (.inl ⟨.dsk, rfl⟩) _, fun u b hu => ?_⟩
  · show L'.cr = fs.length
    rw [h.cr, hcr, hfl]
  · rcases h.own u b hu with h1 | ⟨_, h1⟩ | h1
    · exact .inl ⟨u, h1⟩
    · exact .inl ⟨.las, h1⟩
    · exact .inr (by omega)

end Go.Proofs.Ytnofabeajcdddaa
