/- Package check by contracts: the checkpoint of bytes. -/
import Derived.Test.YtengfglopagdmaaCget
import Derived.Deep.RegionHeld3
namespace Go.Proofs.Ytengfglopagdmaa
open Go.RowKit Go.Cor

theorem fld_drop (l : List UInt8) (k a n : Nat) : fld (l.drop k) a n = fld l (k + a) n := by
  unfold fld
  rw [List.drop_drop]

/-- Positions as cells, one set. -/
theorem pcs_set (ps : List Pos) (i : Nat) (p : Pos) (hi : i < ps.length) :
    ((((((pcs ps).set (i * 5) (.int .u64 (p.key : Int))).set (i * 5 + 1) (.int .i64 p.off)).set (i * 5 + 2) (.int .i64 p.len)).set (i * 5 + 3) (.int .u32 (p.cookie : Int))).set (i * 5 + 4) (.bool p.gone)) = pcs (ps.set i p) := by
  induction ps generalizing i with
  | nil => simp at hi
  | cons q r ih =>
    cases i with
    | zero => simp [pcs, pcells]
    | succ i =>
      have h := ih i (by simpa using hi)
      rw [List.set_cons_succ, pcs, pcs, ← h]
      have e : ∀ k, (i + 1) * 5 + k = (i * 5 + k) + 5 := fun k => by omega
      have e0 : (i + 1) * 5 = i * 5 + 5 := by omega
      rw [e 1, e 2, e 3, e 4, e0]
      have s : ∀ (L : List Value) (k : Nat) (u : Value), (pcells q ++ L).set (k + 5) u = pcells q ++ L.set k u := fun L k u => by
        rw [List.set_append, if_neg (by show ¬ k + 5 < 5; omega)]
        rfl
      rw [s, s, s, s, s]

/-- A position stored in a row of the call's own. -/
theorem row_set {w : World} {base : Nat} {e : TypeId} {g n cap : Nat} {ps : List Pos} (h : w.ownsRow base e 5 (.slice (some ⟨g, 0, none⟩) n cap) n (pcs ps)) (i : Nat) (p : Pos) (hi : i < ps.length) :
    (((((w.setCell ⟨g, i * 5, none⟩ (.int .u64 (p.key : Int))).setCell ⟨g, i * 5 + 1, none⟩ (.int .i64 p.off)).setCell ⟨g, i * 5 + 2, none⟩ (.int .i64 p.len)).setCell ⟨g, i * 5 + 3, none⟩ (.int .u32 (p.cookie : Int))).setCell ⟨g, i * 5 + 4, none⟩ (.bool p.gone)).ownsRow base e 5 (.slice (some ⟨g, 0, none⟩) n cap) n (pcs (ps.set i p)) := by
  rw [← pcs_set ps i p hi]
  exact ((((h.stored _ _).1.stored _ _).1.stored _ _).1.stored _ _).1.stored _ _ |>.1
/-- What such a store leaves. -/
theorem row_below {w0 w : World} {B g k : Nat} {u0 u1 u2 u3 u4 : Value} (hb : Below B w0 w) (hB : B ≤ g) :
    Below B w0 (((((w.setCell ⟨g, k, none⟩ u0).setCell ⟨g, k + 1, none⟩ u1).setCell ⟨g, k + 2, none⟩ u2).setCell ⟨g, k + 3, none⟩ u3).setCell ⟨g, k + 4, none⟩ u4) :=
  ((((hb.setCell hB _).setCell hB _).setCell hB _).setCell hB _).setCell hB _
theorem cell_set5 {w : World} {g k b o : Nat} {u0 u1 u2 u3 u4 v : Value} (hb : b ≠ g) (h : w.cell? ⟨b, o, none⟩ = some v) :
    (((((w.setCell ⟨g, k, none⟩ u0).setCell ⟨g, k + 1, none⟩ u1).setCell ⟨g, k + 2, none⟩ u2).setCell ⟨g, k + 3, none⟩ u3).setCell ⟨g, k + 4, none⟩ u4).cell? ⟨b, o, none⟩ = some v := by
  have s : ∀ (W : World) (j : Nat) (u : Value), W.cell? ⟨b, o, none⟩ = some v → (W.setCell ⟨g, j, none⟩ u).cell? ⟨b, o, none⟩ = some v := fun W j u hW => by
    rw [World.cell?_of_block (w := W) (heap_setCell_other W ⟨g, j, none⟩ b u (by exact hb))]
    exact hW
  exact s _ _ _ (s _ _ _ (s _ _ _ (s _ _ _ (s _ _ _ h))))
theorem boxC_set5 {w : World} {g k b : Nat} {u0 u1 u2 u3 u4 : Value} {a c d : Int} {v : Value} (hb : b ≠ g) (h : BoxC w b a c d v) :
    BoxC (((((w.setCell ⟨g, k, none⟩ u0).setCell ⟨g, k + 1, none⟩ u1).setCell ⟨g, k + 2, none⟩ u2).setCell ⟨g, k + 3, none⟩ u3).setCell ⟨g, k + 4, none⟩ u4) b a c d v :=
  ⟨cell_set5 hb h.1, cell_set5 hb h.2.1, cell_set5 hb h.2.2.1, cell_set5 hb h.2.2.2⟩
theorem indexAt_G {P : Program} (T U : TypeId) (ht : P.underlying T = some (.slice U)) (hs : (P.info? U).map (·.size) = some 5) (g N cap i : Nat) (hi : i < N) :
    ∀ W, (Instr.indexAt T (.slice (some ⟨g, 0, none⟩) N cap) (.int .i64 (i : Int))).run P W = .ok (.pointer (some ⟨g, i * 5, none⟩)) W := by
  obtain ⟨j, hj1, hj2⟩ := Option.map_eq_some_iff.1 hs
  intro W
  have ht' : P.underlying T = some (.slice (P.elem T)) := by simp [Program.elem, ht]
  have he : P.elem T = U := by simp [Program.elem, ht]
  have hsz : ∀ W, (sizeOf U).run P W = .ok 5 W := fun W => by simp [sizeOf, typeInfo, hj1, hj2]
  have h0 : (0 : Int) ≤ (i : Int) := by omega
  have h1 : (i : Int) < (N : Int) := by omega
  go_simp
theorem madeP (n : Nat) : (madeCells (Value.cells (.agg #[.int .u64 0, .int .i64 0, .int .i64 0, .int .u32 0, .bool false])) (n * 5)).toList = pcs (List.replicate n pzero) := by
  have hc : Value.cells (.agg #[.int .u64 0, .int .i64 0, .int .i64 0, .int .u32 0, .bool false]) = (pcells pzero).toArray := by rfl
  rw [hc]
  apply List.ext_getElem?
  intro j
  by_cases hj : j < n * 5
  · have e : j = j / 5 * 5 + j % 5 := by omega
    have h5 : j % 5 < 5 := by omega
    have hd : j / 5 < n := by omega
    have h1 : (List.replicate n pzero)[j / 5]? = some pzero := by rw [List.getElem?_replicate, if_pos hd]
    have h2 := pcs_get h1 (j % 5) h5
    rw [← e] at h2
    rw [h2]
    simp only [madeCells, Array.getElem?_toList, Array.getElem?_map, Array.getElem?_range, hj, if_true, Option.map_some]
    rcases (show j % 5 = 0 ∨ j % 5 = 1 ∨ j % 5 = 2 ∨ j % 5 = 3 ∨ j % 5 = 4 from by omega) with q | q | q | q | q <;> simp [pcells, q]
  · rw [List.getElem?_eq_none (by simp [size_madeCells]; omega), List.getElem?_eq_none (by rw [length_pcs, List.length_replicate]; omega)]

/-- The positions laid so far. -/
def sofar (l : List UInt8) (N i : Nat) : List Pos := rowsP l i ++ List.replicate (N - i) pzero
theorem length_sofar (l : List UInt8) {N i : Nat} (h : i ≤ N) : (sofar l N i).length = N := by
  unfold sofar
  rw [List.length_append, length_rowsP, List.length_replicate]
  omega
theorem sofar_step (l : List UInt8) {N i : Nat} (h : i < N) : (sofar l N i).set i (rowP l i) = sofar l N (i + 1) := by
  unfold sofar
  rw [List.set_append, if_neg (by rw [length_rowsP]; omega), length_rowsP, Nat.sub_self, rowsP_snoc, show N - i = (N - (i + 1)) + 1 from by omega, List.replicate_succ, List.set_cons_zero, List.append_assoc]
  rfl
theorem sofar_zero (l : List UInt8) (N : Nat) : sofar l N 0 = List.replicate N pzero := rfl
theorem sofar_all (l : List UInt8) (N : Nat) : sofar l N N = rowsP l N := by
  unfold sofar
  rw [Nat.sub_self]
  exact List.append_nil _
theorem pat_sofar (l : List UInt8) {N i : Nat} (h : i < N) : pat (sofar l N i) i = pzero := by
  apply pat_of
  unfold sofar
  rw [List.getElem?_append_right (by rw [length_rowsP]; exact Nat.le_refl _), length_rowsP, Nat.sub_self, List.getElem?_replicate, if_pos (by omega)]

/-- A position stored, as one operation. -/
theorem wp_store5 {P : Program} {w : World} {o : Oper} {a : Act} {K : Act → World → Prop} {Q : Exit → Act → World → Prop} (T : TypeId) (hs : (P.info? T).map (·.size) = some 5) (x y : Operand) (ho : o.op = .store T x y)
    (g k : Nat) (v0 v1 v2 v3 v4 : Value) (a0 a1 a2 a3 : Int) (b : Bool) (hx : a.eval x = .pointer (some ⟨g, k, none⟩)) (hy : a.eval y = .agg #[.int .u64 a0, .int .i64 a1, .int .i64 a2, .int .u32 a3, .bool b])
    (c0 : w.cell? ⟨g, k, none⟩ = some v0) (c1 : w.cell? ⟨g, k + 1, none⟩ = some v1) (c2 : w.cell? ⟨g, k + 2, none⟩ = some v2) (c3 : w.cell? ⟨g, k + 3, none⟩ = some v3) (c4 : w.cell? ⟨g, k + 4, none⟩ = some v4) (fz : ∀ o, w.frozen? ⟨g, o, none⟩ = false)
    (h : K (a.put o.dst undef) (((((w.setCell ⟨g, k, none⟩ (.int .u64 a0)).setCell ⟨g, k + 1, none⟩ (.int .i64 a1)).setCell ⟨g, k + 2, none⟩ (.int .i64 a2)).setCell ⟨g, k + 3, none⟩ (.int .u32 a3)).setCell ⟨g, k + 4, none⟩ (.bool b))) :
    o.wp P a w K Q := by
  obtain ⟨j, hj1, hj2⟩ := Option.map_eq_some_iff.1 hs
  have hsz : ∀ W, (sizeOf T).run P W = .ok 5 W := fun W => by simp [sizeOf, typeInfo, hj1, hj2]
  unfold Oper.wp execOp
  rw [ho]
  simp only [hx, hy]
  go_simp
  exact h

end Go.Proofs.Ytengfglopagdmaa
