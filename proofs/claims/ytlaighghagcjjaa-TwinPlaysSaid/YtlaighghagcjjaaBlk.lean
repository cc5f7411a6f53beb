/- A block of memory known whole; a field stored; an element of a row stored. Of no program. -/
import Derived.Test.YtlaighghagcjjaaRow
set_option linter.unusedVariables false
set_option linter.unusedSimpArgs false
namespace Go.Cor
open Go.RowKit

/-- Block g holds these cells. -/
def Blk (w : World) (g : Nat) (cs : Array Value) (T : TypeId) : Prop := w.heap[g]? = some (.cells cs T (0, 0))
theorem Blk.lt {w : World} {g : Nat} {cs : Array Value} {T : TypeId} (h : Blk w g cs T) : g < w.heap.size := (Array.getElem?_eq_some_iff.1 h).1
theorem Blk.cell {w : World} {g : Nat} {cs : Array Value} {T : TypeId} (h : Blk w g cs T) (j : Nat) {v : Value} (hj : cs[j]? = some v) : w.cell? ⟨g, j, none⟩ = some v := (cell_of_row w g j cs T (0, 0) h).trans hj
theorem Blk.free {w : World} {g : Nat} {cs : Array Value} {T : TypeId} (h : Blk w g cs T) (j : Nat) : w.frozen? ⟨g, j, none⟩ = false := frozen_of_row w g j cs T h
theorem Blk.new (w : World) (cs : Array Value) (T : TypeId) : Blk (w.alloc (.cells cs T)) w.heap.size cs T := heap_alloc_new w _
theorem Blk.kept {S : Nat → Prop} {w w' : World} {g : Nat} {cs : Array Value} {T : TypeId} (h : Blk w g cs T) (hk : Kept S w w') (hs : ¬ S g) : Blk w' g cs T := (hk.block g h.lt hs).trans h
theorem Blk.below {w w' : World} {g B : Nat} {cs : Array Value} {T : TypeId} (h : Blk w g cs T) (hb : Below B w w') (hg : g < B) : Blk w' g cs T := (hb.block g hg).trans h
theorem Blk.alloc {w : World} {g : Nat} {cs : Array Value} {T : TypeId} (h : Blk w g cs T) (o : Obj) : Blk (w.alloc o) g cs T := (heap_alloc_old w o h.lt).trans h
theorem Blk.drew {w : World} {g : Nat} {cs : Array Value} {T : TypeId} (h : Blk w g cs T) : Blk w.drew g cs T := h
theorem Blk.grown {w w' : World} {g : Nat} {cs : Array Value} {T : TypeId} {row : Option Nat} (h : Blk w g cs T) (hg : w.grownBy w' row) (hr : row ≠ some g) : Blk w' g cs T := (hg.block g h.lt (fun e => hr e.symm)).trans h
theorem Blk.set {w : World} {g : Nat} {cs : Array Value} {T : TypeId} (h : Blk w g cs T) (j : Nat) (u : Value) : Blk (w.setCell ⟨g, j, none⟩ u) g (cs.setIfInBounds j u) T := by
  unfold Blk at *
  rw [heap_setCell_same w g j cs T u h]
theorem Blk.other {w : World} {g : Nat} {cs : Array Value} {T : TypeId} (h : Blk w g cs T) {a : Addr} (ha : a.block ≠ g) (u : Value) : Blk (w.setCell a u) g cs T := (heap_setCell_other w a g u (fun e => ha e.symm)).trans h

theorem row_set {α : Type} {enc : α → List Value} {size : Nat} (h : ∀ x, (enc x).length = size) {l : List α} {i : Nat} {x y : α} (hx : l[i]? = some x) (j : Nat) (hj : j < size) (u : Value) (he : (enc x).set j u = enc y) :
    (row enc l).set (i * size + j) u = row enc (l.set i y) := by
  induction l generalizing i with
  | nil => simp at hx
  | cons z r ih =>
    cases i with
    | zero =>
      simp only [List.getElem?_cons_zero, Option.some.injEq] at hx
      subst hx
      rw [Nat.zero_mul, Nat.zero_add, row_cons, List.set_append_left _ _ (by rw [h]; exact hj), he, List.set_cons_zero, row_cons]
    | succ i =>
      rw [List.getElem?_cons_succ] at hx
      have e : (i + 1) * size + j = size + (i * size + j) := by rw [Nat.add_mul, Nat.one_mul]; omega
      rw [row_cons, List.set_append_right _ _ (by rw [h, e]; exact Nat.le_add_right _ _), h, e, Nat.add_sub_cancel_left, ih hx, List.set_cons_succ, row_cons]
theorem indexAt_own {P : Program} {w : World} {base size : Nat} {e : TypeId} {v : Value} {n : Nat} {cs : List Value} (hv : w.ownsRow base e size v n cs) (T U : TypeId) (ht : P.underlying T = some (.slice U)) (hs : (P.info? U).map (·.size) = some size) (i : Nat) (hi : i < n) :
    ∃ g, v.ownBlock = some g ∧ (∀ W, (Instr.indexAt T v (.int .i64 (i : Int))).run P W = .ok (.pointer (some ⟨g, i * size, none⟩)) W) ∧ (∀ j, j < size → w.cell? ⟨g, i * size + j, none⟩ = cs[i * size + j]?) ∧ (∀ j, w.frozen? ⟨g, j, none⟩ = false) ∧
      (∀ j u, (w.setCell ⟨g, j, none⟩ u).ownsRow base e size v n (cs.set j u)) := by
  obtain ⟨j, hj1, hj2⟩ := Option.map_eq_some_iff.1 hs
  rcases hv.2 with ⟨rfl, h0⟩ | ⟨g, cap, cur, rfl, _⟩
  · omega
  · refine ⟨g, rfl, fun W => ?_, fun j hj => ?_, fun j => hv.frozenAt j, fun j u => (hv.stored j u).1⟩
    · have ht' : P.underlying T = some (.slice (P.elem T)) := by simp [Program.elem, ht]
      have he : P.elem T = U := by simp [Program.elem, ht]
      have hsz : ∀ W, (sizeOf U).run P W = .ok size W := fun W => by simp [sizeOf, typeInfo, hj1, hj2]
      have h0 : (0 : Int) ≤ (i : Int) := by omega
      have h1 : (i : Int) < (n : Int) := by omega
      go_simp
    · have hle : (i + 1) * size ≤ n * size := Nat.mul_le_mul_right _ (by omega)
      rw [Nat.add_mul, Nat.one_mul] at hle
      exact hv.cellAt _ (by omega)
theorem Kept.undrew {S : Nat → Prop} {w w' : World} (h : Kept S w.drew w') : Kept S w w' := ⟨h.os, h.tape, h.output, h.size, h.block⟩
theorem IsX.lit (w : World) (cs : Array Value) (T : TypeId) (size n : Nat) (hs : cs.size = n * size) (hm : n ≤ maxLen) : IsX (w.alloc (.cells cs T)) size (.slice (some ⟨w.heap.size, 0, none⟩) n n) n cs.toList :=
  IsX.own (World.ownsRow_lit (base := 0) (e := T) (size := size) w cs n (Nat.zero_le _) hm hs)
end Go.Cor
