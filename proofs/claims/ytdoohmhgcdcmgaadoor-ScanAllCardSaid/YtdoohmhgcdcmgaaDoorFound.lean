/- What a scan found, in memory: a slice of structs of six cells, the last one a slice of bytes. -/
import Derived.Test.YtdoohmhgcdcmgaaDoorScan
import Derived.Test.YtdoohmhgcdcmgaaDoorLaw03f
import Derived.Maps.AppendAt
namespace Go.Proofs.YtdoohmhgcdcmgaaDoor
open Go.RowKit Go.Cor

theorem Tryd.infoFound : (Tryd.prog.info? 41).map (fun i => (i.zero, i.size, i.bytes)) = some (some (.agg #[.int .i64 0, .int .i64 0, .int .u64 0, .int .u32 0, .bool false, .slice none 0 0]), 6, 56) := by kernel_rfl
theorem Tryd.infoFoundR : (Tryd.prog.info? 44).map (fun i => (i.zero, i.size, i.bytes)) = some (some (.agg #[.int .i64 0, .int .i64 0, .int .u64 0, .int .u32 0, .bool false, .slice none 0 0]), 6, 56) := by kernel_rfl
theorem Tryd.sizeFound : (Tryd.prog.info? 41).map (·.size) = some 6 := by kernel_rfl
theorem Tryd.sizeFoundR : (Tryd.prog.info? 44).map (·.size) = some 6 := by kernel_rfl

abbrev fval (f : Fnd) (dv : Value) : Value := .agg #[.int .i64 (f.off : Int), .int .i64 (f.size : Int), .int .u64 (f.n.key : Int), .int .u32 (f.n.cookie : Int), .bool f.n.gone, dv]
def fcells (p : Fnd × Value) : List Value := [.int .i64 (p.1.off : Int), .int .i64 (p.1.size : Int), .int .u64 (p.1.n.key : Int), .int .u32 (p.1.n.cookie : Int), .bool p.1.n.gone, p.2]
def fcs : List (Fnd × Value) → List Value
  | [] => []
  | p :: r => fcells p ++ fcs r
theorem fcs_append (a b : List (Fnd × Value)) : fcs (a ++ b) = fcs a ++ fcs b := by
  induction a with
  | nil => rfl
  | cons n r ih => simp [fcs, ih, List.append_assoc]
theorem length_fcs (ps : List (Fnd × Value)) : (fcs ps).length = ps.length * 6 := by
  induction ps with
  | nil => rfl
  | cons n r ih =>
    simp only [fcs, List.length_append, ih, List.length_cons]
    show 6 + r.length * 6 = _
    omega
theorem fcs_get {ps : List (Fnd × Value)} {i : Nat} {p : Fnd × Value} (h : ps[i]? = some p) (j : Nat) (hj : j < 6) : (fcs ps)[i * 6 + j]? = (fcells p)[j]? := by
  induction ps generalizing i with
  | nil => simp at h
  | cons n r ih =>
    cases i with
    | zero =>
      simp only [List.getElem?_cons_zero, Option.some.injEq] at h
      subst h
      rw [Nat.zero_mul, Nat.zero_add, fcs, List.getElem?_append_left (by show j < 6; exact hj)]
    | succ i =>
      rw [List.getElem?_cons_succ] at h
      rw [fcs, List.getElem?_append_right (by show 6 ≤ _; omega)]
      show (fcs r)[(i + 1) * 6 + j - 6]? = _
      rw [show (i + 1) * 6 + j - 6 = i * 6 + j from by omega]
      exact ih h

/-- What was found lies at an address. -/
def FAt (w : World) (b o : Nat) (f : Fnd) (dv : Value) : Prop :=
  w.cell? ⟨b, o, none⟩ = some (.int .i64 (f.off : Int)) ∧ w.cell? ⟨b, o + 1, none⟩ = some (.int .i64 (f.size : Int)) ∧ w.cell? ⟨b, o + 2, none⟩ = some (.int .u64 (f.n.key : Int)) ∧ w.cell? ⟨b, o + 3, none⟩ = some (.int .u32 (f.n.cookie : Int)) ∧ w.cell? ⟨b, o + 4, none⟩ = some (.bool f.n.gone) ∧ w.cell? ⟨b, o + 5, none⟩ = some dv
theorem FAt.lt {w : World} {b o : Nat} {f : Fnd} {dv : Value} (h : FAt w b o f dv) : b < w.heap.size := cell_lt h.1
theorem FAt.mono {w w' : World} {b o B : Nat} {f : Fnd} {dv : Value} (h : FAt w b o f dv) (hb : Below B w w') (hB : b < B) : FAt w' b o f dv := by
  obtain ⟨h0, h1, h2, h3, h4, h5⟩ := h
  exact ⟨(hb.cell (by exact hB)).trans h0, (hb.cell (by exact hB)).trans h1, (hb.cell (by exact hB)).trans h2, (hb.cell (by exact hB)).trans h3, (hb.cell (by exact hB)).trans h4, (hb.cell (by exact hB)).trans h5⟩

/-- v is a slice of what was found. -/
def IsF (w : World) (v : Value) (fs : List Fnd) : Prop :=
  ∃ a cap, v = .slice a fs.length cap ∧ fs.length ≤ cap ∧ cap ≤ maxLen ∧
    (fs.length = 0 ∨ ∃ b off, a = some ⟨b, off, none⟩ ∧ ∀ i f, fs[i]? = some f → ∃ dv, FAt w b (off + i * 6) f dv ∧ IsB w dv f.n.data)
theorem IsF.nil (w : World) : IsF w (.slice none 0 0) [] := ⟨none, 0, rfl, Nat.le_refl _, Nat.zero_le _, .inl rfl⟩
theorem IsF.mono {w w' : World} {v : Value} {fs : List Fnd} {B : Nat} (h : IsF w v fs) (hb : Below B w w') (hB : w.heap.size ≤ B) : IsF w' v fs := by
  obtain ⟨a, cap, rfl, h1, h2, h3⟩ := h
  refine ⟨a, cap, rfl, h1, h2, ?_⟩
  rcases h3 with h3 | ⟨b, off, rfl, hc⟩
  · exact .inl h3
  · refine .inr ⟨b, off, rfl, fun i f hi => ?_⟩
    obtain ⟨dv, hf, hd⟩ := hc i f hi
    exact ⟨dv, hf.mono hb (Nat.lt_of_lt_of_le hf.lt hB), hd.mono hb hB⟩
theorem IsF.at_len {w : World} {v : Value} {fs : List Fnd} {n : Nat} (h : IsF w v fs) (hn : fs.length = n) : ∃ x cap, v = .slice x n cap ∧ n ≤ cap ∧ cap ≤ maxLen := by
  obtain ⟨x, cap, rfl, h1, h2, _⟩ := h
  subst hn
  exact ⟨x, cap, rfl, h1, h2⟩
theorem len_F {P : Program} {w : World} {v : Value} {fs : List Fnd} (hv : IsF w v fs) {n : Nat} (hn : fs.length = n) (T ty U : TypeId) (ht : P.underlying T = some (.slice U)) (W : World) : (Builtin.len_ #[T] ty #[v]).run P W = .ok (.int .i64 (n : Int)) W := by
  obtain ⟨a, cap, rfl, _⟩ := hv
  subst hn
  have ht' : P.underlying T = some (.slice (P.elem T)) := by simp [Program.elem, ht]
  exact run_len_slice (P := P) W T ty a fs.length cap ht'
theorem indexAt_F {P : Program} {w : World} {v : Value} {fs : List Fnd} (hv : IsF w v fs) (T U : TypeId) (ht : P.underlying T = some (.slice U)) (hs : (P.info? U).map (·.size) = some 6) (i : Nat) (f : Fnd) (hi : fs[i]? = some f) :
    ∃ b o dv, (∀ W, (Instr.indexAt T v (.int .i64 (i : Int))).run P W = .ok (.pointer (some ⟨b, o, none⟩)) W) ∧ FAt w b o f dv ∧ IsB w dv f.n.data := by
  obtain ⟨j, hj1, hj2⟩ := Option.map_eq_some_iff.1 hs
  have hil : i < fs.length := (List.getElem?_eq_some_iff.1 hi).1
  obtain ⟨a, cap, rfl, k1, k2, k3⟩ := hv
  rcases k3 with k3 | ⟨b, off, rfl, hc⟩
  · omega
  obtain ⟨dv, hf, hd⟩ := hc i f hi
  refine ⟨b, off + i * 6, dv, fun W => ?_, hf, hd⟩
  have ht' : P.underlying T = some (.slice (P.elem T)) := by simp [Program.elem, ht]
  have he : P.elem T = U := by simp [Program.elem, ht]
  have hsz : ∀ W, (sizeOf U).run P W = .ok 6 W := fun W => by simp [sizeOf, typeInfo, hj1, hj2]
  have h0 : (0 : Int) ≤ (i : Int) := by omega
  have h1 : (i : Int) < (fs.length : Int) := by omega
  go_simp

/-- A slice whose bytes don't lie in the block of another. -/
def Apart (v dv : Value) (l : List UInt8) : Prop := ∀ a n c, l.length ≠ 0 → dv = .slice (some a) n c → v.ownBlock ≠ some a.block
theorem isB_one {w : World} {v : Value} {l : List UInt8} (h : IsB w v l) : v.oneCell' = true := by
  obtain ⟨a, cap, rfl, _⟩ := h
  rfl
theorem isB_grown {w w' : World} {dv : Value} {l : List UInt8} {row : Option Nat} (h : IsB w dv l) (hg : w.grownBy w' row) (ha : ∀ a n c, l.length ≠ 0 → dv = .slice (some a) n c → row ≠ some a.block) : IsB w' dv l := by
  obtain ⟨a, cap, rfl, h1, h2, h0, h3⟩ := h
  refine ⟨a, cap, rfl, h1, h2, h0, ?_⟩
  rcases h3 with h3 | ⟨b, off, rfl, hc⟩
  · exact .inl h3
  · refine .inr ⟨b, off, rfl, fun i hi => ?_⟩
    have hne := ha _ _ _ (by omega) rfl
    exact hg.cell (hc i hi) (fun e => hne e.symm)
theorem isB_lt {w : World} {dv : Value} {l : List UInt8} (h : IsB w dv l) {a : Addr} {n c : Nat} (h0 : l.length ≠ 0) (e : dv = .slice (some a) n c) : a.block < w.heap.size := by
  obtain ⟨x, cap, rfl, h1, h2, _, h3⟩ := h
  rcases h3 with h3 | ⟨b, off, rfl, hc⟩
  · omega
  · cases e
    exact cell_lt (hc 0 (by omega))

/-- What is found so far: a row of the call's own; each needle's data lie elsewhere. -/
def RowF (w : World) (base : Nat) (T : TypeId) (v : Value) (ps : List (Fnd × Value)) : Prop :=
  w.ownsRow base T 6 v ps.length (fcs ps) ∧ ∀ p ∈ ps, IsB w p.2 p.1.n.data ∧ Apart v p.2 p.1.n.data
theorem RowF.nil (w : World) (base : Nat) (T : TypeId) : RowF w base T (.slice none 0 0) [] := ⟨World.ownsRow_nil _ _ _ _, fun p hp => by cases hp⟩
theorem RowF.below {w w' : World} {base B : Nat} {T : TypeId} {v : Value} {ps : List (Fnd × Value)} (h : RowF w base T v ps) (hb : Below B w w') (hB : w.heap.size ≤ B) : RowF w' base T v ps :=
  ⟨ownsRow_below h.1 hb hB, fun p hp => ⟨(h.2 p hp).1.mono hb hB, (h.2 p hp).2⟩⟩
theorem RowF.one {w : World} {base : Nat} {T : TypeId} {v : Value} {ps : List (Fnd × Value)} (h : RowF w base T v ps) {p : Fnd × Value} (hd : IsB w p.2 p.1.n.data) : ∀ u ∈ fcells p, u.oneCell' = true := by
  intro u hu
  simp only [fcells, List.mem_cons, List.not_mem_nil, or_false] at hu
  rcases hu with rfl | rfl | rfl | rfl | rfl | rfl
  iterate 5 rfl
  exact isB_one hd
/-- The block in which it lies is one of the world's. -/
theorem RowF.old {w : World} {base : Nat} {T : TypeId} {v : Value} {ps : List (Fnd × Value)} (h : RowF w base T v ps) {g : Nat} (hg : w.heap.size ≤ g) : v.ownBlock ≠ some g := by
  intro e
  have := (h.1.lt g e).2
  omega
theorem apart_old {w w' : World} {base : Nat} {T U : TypeId} {v dv : Value} {ps : List (Fnd × Value)} {l : List UInt8} {n : Nat} {xs : List Value} (h : RowF w base T v ps) (hd : w'.ownsRow w.heap.size U 1 dv n xs) : Apart v dv l :=
  fun a m c _ e => h.old (hd.lt a.block (by rw [e]; rfl)).1
theorem RowF.app {w w' : World} {base : Nat} {T : TypeId} {v v' : Value} {ps : List (Fnd × Value)} {p : Fnd × Value} (h : RowF w base T v ps) (hd : IsB w p.2 p.1.n.data) (ha : Apart v p.2 p.1.n.data)
    (hown : w'.ownsRow base T 6 v' (ps.length + 1) (fcs ps ++ fcells p)) (hg : w.grownBy w' v.ownBlock) (hl : v'.ownBlock = v.ownBlock ∨ v'.ownBlock = some w.heap.size) : RowF w' base T v' (ps ++ [p]) := by
  refine ⟨by rw [fcs_append, List.length_append]; simpa [fcs] using hown, fun q hq => ?_⟩
  have hqm : q ∈ p :: ps := by
    rcases List.mem_append.1 hq with h1 | h1
    · exact List.mem_cons_of_mem _ h1
    · have : q = p := by simpa using h1
      rw [this]
      exact List.mem_cons_self ..
  have hb : IsB w q.2 q.1.n.data ∧ Apart v q.2 q.1.n.data := by
    rcases List.mem_cons.1 hqm with rfl | h1
    · exact ⟨hd, ha⟩
    · exact h.2 q h1
  refine ⟨isB_grown hb.1 hg (fun a n c h0 e => hb.2 a n c h0 e), fun a n c h0 e => ?_⟩
  rcases hl with h1 | h1
  · rw [h1]; exact hb.2 a n c h0 e
  · rw [h1]
    intro e'
    have := isB_lt hb.1 h0 e
    have : w.heap.size = a.block := by simpa using e'
    omega
theorem IsF.own {w : World} {base : Nat} {T : TypeId} {v : Value} {ps : List (Fnd × Value)} (h : RowF w base T v ps) : IsF w v (ps.map (·.1)) := by
  rcases h.1.2 with ⟨rfl, h0⟩ | ⟨g, cap, cur, rfl, _, hg, hc, hm, hs, ht⟩
  · have : ps = [] := List.eq_nil_of_length_eq_zero h0
    subst this
    exact IsF.nil w
  · refine ⟨_, cap, by rw [List.length_map], by rw [List.length_map]; exact hc, hm, .inr ⟨g, 0, rfl, fun i f hi => ?_⟩⟩
    rw [List.getElem?_map, Option.map_eq_some_iff] at hi
    obtain ⟨p, hp, rfl⟩ := hi
    have hil : i < ps.length := (List.getElem?_eq_some_iff.1 hp).1
    rw [Nat.zero_add]
    have c : ∀ j, j < 6 → w.cell? ⟨g, i * 6 + j, none⟩ = (fcells p)[j]? := fun j hj => by
      rw [h.1.cellAt (i * 6 + j) (by omega), fcs_get hp j hj]
    exact ⟨p.2, ⟨c 0 (by decide), c 1 (by decide), c 2 (by decide), c 3 (by decide), c 4 (by decide), c 5 (by decide)⟩, (h.2 p (List.mem_of_getElem? hp)).1⟩

/-- Six cells in a new block of their own. -/
theorem cell_six_new (w : World) (p : Fnd × Value) (t : TypeId) : ∀ j u, (fcells p)[j]? = some u → (w.alloc (.cells #[.int .i64 (p.1.off : Int), .int .i64 (p.1.size : Int), .int .u64 (p.1.n.key : Int), .int .u32 (p.1.n.cookie : Int), .bool p.1.n.gone, p.2] t)).cell? ((⟨w.heap.size, 0, none⟩ : Addr).add j) = some u := by
  intro j u hj
  have hjl : j < 6 := by
    have := (List.getElem?_eq_some_iff.1 hj).1
    exact this
  rw [add_lit]
  match j, hjl, hj with
  | 0, _, hj => simp [fcells] at hj; subst hj; simp
  | 1, _, hj => simp [fcells] at hj; subst hj; simp
  | 2, _, hj => simp [fcells] at hj; subst hj; simp
  | 3, _, hj => simp [fcells] at hj; subst hj; simp
  | 4, _, hj => simp [fcells] at hj; subst hj; simp
  | 5, _, hj => simp [fcells] at hj; subst hj; simp

end Go.Proofs.YtdoohmhgcdcmgaaDoor
