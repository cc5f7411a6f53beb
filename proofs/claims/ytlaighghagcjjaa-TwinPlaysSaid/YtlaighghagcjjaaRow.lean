/- Rows of elements in memory, of whatever size, and slices of them; what append, copy and clear do to them. Of no program. -/
import Derived.Test.YtlaighghagcjjaaKept
import Derived.Maps.AppendAt
import Derived.Lib.AppendZerosOnto
import Derived.ArgAppend
set_option linter.unusedVariables false
set_option linter.unusedSimpArgs false
namespace Go.Cor
open Go.RowKit

/-- A list of elements as cells. -/
def row {α : Type} (enc : α → List Value) (l : List α) : List Value := l.flatMap enc
theorem row_nil {α : Type} (enc : α → List Value) : row enc [] = [] := rfl
theorem row_cons {α : Type} (enc : α → List Value) (x : α) (l : List α) : row enc (x :: l) = enc x ++ row enc l := rfl
theorem row_append {α : Type} (enc : α → List Value) (a b : List α) : row enc (a ++ b) = row enc a ++ row enc b := by simp [row]
theorem row_one {α : Type} (enc : α → List Value) (x : α) : row enc [x] = enc x := by simp [row]
theorem length_row {α : Type} {enc : α → List Value} {size : Nat} (h : ∀ x, (enc x).length = size) (l : List α) : (row enc l).length = l.length * size := by
  induction l with
  | nil => simp [row]
  | cons x r ih => rw [row_cons, List.length_append, ih, h, List.length_cons, Nat.add_mul, Nat.one_mul, Nat.add_comm]
theorem row_get {α : Type} {enc : α → List Value} {size : Nat} (h : ∀ x, (enc x).length = size) {l : List α} {i : Nat} {x : α} (hx : l[i]? = some x) (j : Nat) (hj : j < size) : (row enc l)[i * size + j]? = (enc x)[j]? := by
  induction l generalizing i with
  | nil => simp at hx
  | cons y r ih =>
    cases i with
    | zero =>
      simp only [List.getElem?_cons_zero, Option.some.injEq] at hx
      subst hx
      rw [Nat.zero_mul, Nat.zero_add, row_cons, List.getElem?_append_left (by rw [h]; exact hj)]
    | succ i =>
      rw [List.getElem?_cons_succ] at hx
      have e : (i + 1) * size + j = size + (i * size + j) := by rw [Nat.add_mul, Nat.one_mul]; omega
      rw [row_cons, e, List.getElem?_append_right (by rw [h]; exact Nat.le_add_right _ _), h, Nat.add_sub_cancel_left]
      exact ih hx
theorem row_take {α : Type} {enc : α → List Value} {size : Nat} (h : ∀ x, (enc x).length = size) (l : List α) (i : Nat) : (row enc l).take (i * size) = row enc (l.take i) := by
  induction l generalizing i with
  | nil => simp [row]
  | cons y r ih =>
    cases i with
    | zero => simp [row]
    | succ i =>
      have e : (i + 1) * size = (enc y).length + i * size := by rw [h, Nat.add_mul, Nat.one_mul, Nat.add_comm]
      rw [row_cons, List.take_succ_cons, row_cons, e, List.take_length_add_append, ih]
theorem row_drop {α : Type} {enc : α → List Value} {size : Nat} (h : ∀ x, (enc x).length = size) (l : List α) (i : Nat) : (row enc l).drop (i * size) = row enc (l.drop i) := by
  induction l generalizing i with
  | nil => simp [row]
  | cons y r ih =>
    cases i with
    | zero => simp [row]
    | succ i =>
      have e : (i + 1) * size = (enc y).length + i * size := by rw [h, Nat.add_mul, Nat.one_mul, Nat.add_comm]
      rw [row_cons, List.drop_succ_cons, e, List.drop_length_add_append, ih]
theorem row_mem {α : Type} {enc : α → List Value} {l : List α} (h : ∀ x ∈ l, ∀ v ∈ enc x, v.oneCell' = true) : ∀ v ∈ row enc l, v.oneCell' = true := by
  intro v hv
  obtain ⟨x, hx, hv⟩ := List.mem_flatMap.1 hv
  exact h x hx v hv

/-- v is a slice of n elements of so many cells each, which are cs. -/
def IsX (w : World) (size : Nat) (v : Value) (n : Nat) (cs : List Value) : Prop :=
  ∃ a cap, v = .slice a n cap ∧ n ≤ cap ∧ cap ≤ maxLen ∧ cs.length = n * size ∧ (a = none → cap = 0) ∧ (n = 0 ∨ ∃ b off, a = some ⟨b, off, none⟩ ∧ ∀ j, j < n * size → w.cell? ⟨b, off + j, none⟩ = cs[j]?)

theorem IsX.nil (w : World) (size : Nat) : IsX w size (.slice none 0 0) 0 [] := ⟨none, 0, rfl, Nat.le_refl _, Nat.zero_le _, by simp, fun _ => rfl, .inl rfl⟩
theorem IsX.slice {w : World} {size : Nat} {v : Value} {n : Nat} {cs : List Value} (h : IsX w size v n cs) : ∃ x c, v = .slice x n c ∧ n ≤ c ∧ c ≤ maxLen := by
  obtain ⟨a, cap, rfl, h1, h2, _⟩ := h
  exact ⟨a, cap, rfl, h1, h2⟩
/-- Where its cells lie: nowhere, if there are none. -/
def liesX (v : Value) (n : Nat) (k : Nat) : Prop := n ≠ 0 ∧ v.ownBlock = some k
theorem IsX.lies_lt {w : World} {size : Nat} {v : Value} {n : Nat} {cs : List Value} (h : IsX w size v n cs) (hs : 0 < size) {k : Nat} (hk : liesX v n k) : k < w.heap.size := by
  obtain ⟨a, cap, rfl, h1, h2, hl, h0, h3⟩ := h
  obtain ⟨hn, hk⟩ := hk
  rcases h3 with h3 | ⟨b, off, rfl, hc⟩
  · exact absurd h3 hn
  · have e : b = k := by simpa [Value.ownBlock] using hk
    subst e
    have hp : 0 < n * size := Nat.mul_pos (Nat.pos_of_ne_zero hn) hs
    have := hc 0 hp
    rw [List.getElem?_eq_getElem (by omega)] at this
    exact cell_lt this
theorem IsX.kept {S : Nat → Prop} {w w' : World} {size : Nat} {v : Value} {n : Nat} {cs : List Value} (h : IsX w size v n cs) (hk : Kept S w w') (hs : ∀ k, liesX v n k → ¬ S k) : IsX w' size v n cs := by
  obtain ⟨a, cap, rfl, h1, h2, hl, h0, h3⟩ := h
  refine ⟨a, cap, rfl, h1, h2, hl, h0, ?_⟩
  rcases h3 with h3 | ⟨b, off, rfl, hc⟩
  · exact .inl h3
  · by_cases hn : n = 0
    · exact .inl hn
    refine .inr ⟨b, off, rfl, fun j hj => ?_⟩
    have e := List.getElem?_eq_getElem (l := cs) (i := j) (by omega)
    rw [e]
    exact hk.cell ((hc j hj).trans e) (hs b ⟨hn, rfl⟩)
theorem IsX.mono {w w' : World} {size : Nat} {v : Value} {n : Nat} {cs : List Value} {B : Nat} (h : IsX w size v n cs) (hb : Below B w w') (hB : w.heap.size ≤ B) : IsX w' size v n cs :=
  h.kept (S := fun _ => False) (Kept.of_below hb hB) (fun _ _ h => h)
theorem IsX.own {w : World} {base : Nat} {e : TypeId} {size : Nat} {v : Value} {n : Nat} {cs : List Value} (h : w.ownsRow base e size v n cs) : IsX w size v n cs := by
  have hl := h.1
  rcases h.2 with ⟨rfl, h0⟩ | ⟨g, cap, cur, rfl, _, hg, hc, hm, hs, ht⟩
  · subst h0
    exact ⟨none, 0, rfl, Nat.le_refl _, Nat.zero_le _, hl, fun _ => rfl, .inl rfl⟩
  · refine ⟨_, cap, rfl, hc, hm, hl, by simp, .inr ⟨g, 0, rfl, fun j hj => ?_⟩⟩
    rw [Nat.zero_add]
    exact h.cellAt j hj
theorem IsX.take {w : World} {size : Nat} {x : Option Addr} {n cap j : Nat} {cs : List Value} (h : IsX w size (.slice x n cap) n cs) (hj : j ≤ n) : IsX w size (.slice x j cap) j (cs.take (j * size)) := by
  obtain ⟨a, c, e, h1, h2, hl, h0, h3⟩ := h
  cases e
  have hle : j * size ≤ n * size := Nat.mul_le_mul_right _ hj
  refine ⟨_, _, rfl, by omega, h2, by rw [List.length_take]; omega, h0, ?_⟩
  rcases h3 with h3 | ⟨b, off, rfl, hc⟩
  · exact .inl (by omega)
  · refine .inr ⟨b, off, rfl, fun i hi => ?_⟩
    rw [hc i (by omega), List.getElem?_take, if_pos hi]
theorem IsX.piece {w : World} {size : Nat} {x : Option Addr} {n cap lo hi : Nat} {cs : List Value} (h : IsX w size (.slice x n cap) n cs) (h1 : lo ≤ hi) (h2 : hi ≤ n) : IsX w size (sliced x lo hi cap size) (hi - lo) ((cs.drop (lo * size)).take ((hi - lo) * size)) := by
  obtain ⟨a, c, e, k1, k2, hl, k0, k3⟩ := h
  cases e
  have hm : lo * size + (hi - lo) * size ≤ n * size := by
    rw [← Nat.add_mul]
    exact Nat.mul_le_mul_right _ (by omega)
  unfold sliced
  refine ⟨_, _, rfl, by omega, by omega, by rw [List.length_take, List.length_drop]; omega, fun hx => ?_, ?_⟩
  · split at hx
    · omega
    · have : x = none := by simpa using hx
      rw [k0 this]
      omega
  · by_cases h0 : hi - lo = 0
    · exact .inl h0
    · rcases k3 with k3 | ⟨b, off, rfl, hc⟩
      · omega
      · rw [if_neg (by omega)]
        refine .inr ⟨b, off + lo * size, by simp [add_lit], fun i hi' => ?_⟩
        rw [show off + lo * size + i = off + (lo * size + i) from by omega, hc (lo * size + i) (by omega), List.getElem?_take, if_pos hi', List.getElem?_drop]
theorem len_X {P : Program} {w : World} {size : Nat} {v : Value} {n : Nat} {cs : List Value} (hv : IsX w size v n cs) (T ty U : TypeId) (ht : P.underlying T = some (.slice U)) (W : World) : (Builtin.len_ #[T] ty #[v]).run P W = .ok (.int .i64 (n : Int)) W := by
  obtain ⟨a, cap, rfl, _⟩ := hv
  have ht' : P.underlying T = some (.slice (P.elem T)) := by simp [Program.elem, ht]
  exact run_len_slice (P := P) W T ty a n cap ht'
/-- An index, and the cells of the element there. -/
theorem indexAt_X {P : Program} {w : World} {size : Nat} {v : Value} {n : Nat} {cs : List Value} (hv : IsX w size v n cs) (T U : TypeId) (ht : P.underlying T = some (.slice U)) (hs : (P.info? U).map (·.size) = some size) (i : Nat) (hi : i < n) :
    ∃ b o, (∀ W, (Instr.indexAt T v (.int .i64 (i : Int))).run P W = .ok (.pointer (some ⟨b, o, none⟩)) W) ∧ v.ownBlock = some b ∧ ∀ j, j < size → w.cell? ⟨b, o + j, none⟩ = cs[i * size + j]? := by
  obtain ⟨j, hj1, hj2⟩ := Option.map_eq_some_iff.1 hs
  obtain ⟨a, cap, rfl, k1, k2, hl, k0, k3⟩ := hv
  rcases k3 with k3 | ⟨b, off, rfl, hc⟩
  · omega
  refine ⟨b, off + i * size, fun W => ?_, rfl, fun j hj => ?_⟩
  · have ht' : P.underlying T = some (.slice (P.elem T)) := by simp [Program.elem, ht]
    have he : P.elem T = U := by simp [Program.elem, ht]
    have hsz : ∀ W, (sizeOf U).run P W = .ok size W := fun W => by simp [sizeOf, typeInfo, hj1, hj2]
    have h0 : (0 : Int) ≤ (i : Int) := by omega
    have h1 : (i : Int) < (n : Int) := by omega
    go_simp
  · have hle : (i + 1) * size ≤ n * size := Nat.mul_le_mul_right _ (by omega)
    rw [Nat.add_mul, Nat.one_mul] at hle
    rw [show off + i * size + j = off + (i * size + j) from by omega, hc _ (by omega)]
theorem slice_lh_X {P : Program} {w : World} {size : Nat} {x : Option Addr} {n cap : Nat} {cs : List Value} (hv : IsX w size (.slice x n cap) n cs) (T U : TypeId) (ht : P.underlying T = some (.slice U)) (hs : (P.info? U).map (·.size) = some size) (lo hi : Nat) (h1 : lo ≤ hi) (h2 : hi ≤ n) :
    ∀ W, (Instr.slice T (.slice x n cap) (some (.int .i64 (lo : Int))) (some (.int .i64 (hi : Int))) none).run P W = .ok (sliced x lo hi cap size) W := by
  obtain ⟨i, hi1, hi2⟩ := Option.map_eq_some_iff.1 hs
  obtain ⟨a, c, e, k1, k2, hl, k0, k3⟩ := hv
  cases e
  have ht' : P.underlying T = some (.slice (P.elem T)) := by simp [Program.elem, ht]
  have he : P.elem T = U := by simp [Program.elem, ht]
  have hsz : ∀ W, (sizeOf U).run P W = .ok size W := fun W => by simp [sizeOf, typeInfo, hi1, hi2]
  intro W
  rw [run_slice_lh W T _ _ _ ht' .i64 .i64 _ _ (by omega) (by omega) (by omega), he, hsz]
  simp [Result.andThen]
theorem slice_l_X {P : Program} {w : World} {size : Nat} {x : Option Addr} {n cap : Nat} {cs : List Value} (hv : IsX w size (.slice x n cap) n cs) (T U : TypeId) (ht : P.underlying T = some (.slice U)) (hs : (P.info? U).map (·.size) = some size) (lo : Nat) (h2 : lo ≤ n) :
    ∀ W, (Instr.slice T (.slice x n cap) (some (.int .i64 (lo : Int))) none none).run P W = .ok (sliced x lo n cap size) W := by
  obtain ⟨i, hi1, hi2⟩ := Option.map_eq_some_iff.1 hs
  obtain ⟨a, c, e, k1, k2, hl, k0, k3⟩ := hv
  cases e
  have ht' : P.underlying T = some (.slice (P.elem T)) := by simp [Program.elem, ht]
  have he : P.elem T = U := by simp [Program.elem, ht]
  have hsz : ∀ W, (sizeOf U).run P W = .ok size W := fun W => by simp [sizeOf, typeInfo, hi1, hi2]
  intro W
  rw [run_slice_l W T _ _ _ ht' .i64 _ (by omega) (by omega), he, hsz]
  simp [Result.andThen]
/-- s[:h], h up to the capacity. -/
theorem slice_h_X {P : Program} (size : Nat) (x : Option Addr) (n cap : Nat) (T U : TypeId) (ht : P.underlying T = some (.slice U)) (hs : (P.info? U).map (·.size) = some size) (hi : Nat) (h2 : hi ≤ cap) :
    ∀ W, (Instr.slice T (.slice x n cap) none (some (.int .i64 (hi : Int))) none).run P W = .ok (.slice x hi cap) W := by
  obtain ⟨i, hi1, hi2⟩ := Option.map_eq_some_iff.1 hs
  have ht' : P.underlying T = some (.slice (P.elem T)) := by simp [Program.elem, ht]
  have he : P.elem T = U := by simp [Program.elem, ht]
  have hsz : ∀ W, (sizeOf U).run P W = .ok size W := fun W => by simp [sizeOf, typeInfo, hi1, hi2]
  intro W
  rw [run_slice_h W T _ _ _ ht' .i64 _ (by omega) (by omega), he, hsz]
  by_cases hc0 : cap = 0
  · simp [Result.andThen, sliced, hc0]
  · have hadd : (x.map fun y => y.add 0) = x := by cases x <;> simp [Addr.add]
    simp [Result.andThen, sliced, hc0, hadd]

/-- s[l:h], h up to the capacity. -/
theorem slice_lh_C {P : Program} (size : Nat) (x : Option Addr) (n cap : Nat) (T U : TypeId) (ht : P.underlying T = some (.slice U)) (hs : (P.info? U).map (·.size) = some size) (lo hi : Nat) (h1 : lo ≤ hi) (h2 : hi ≤ cap) :
    ∀ W, (Instr.slice T (.slice x n cap) (some (.int .i64 (lo : Int))) (some (.int .i64 (hi : Int))) none).run P W = .ok (sliced x lo hi cap size) W := by
  obtain ⟨i, hi1, hi2⟩ := Option.map_eq_some_iff.1 hs
  have ht' : P.underlying T = some (.slice (P.elem T)) := by simp [Program.elem, ht]
  have he : P.elem T = U := by simp [Program.elem, ht]
  have hsz : ∀ W, (sizeOf U).run P W = .ok size W := fun W => by simp [sizeOf, typeInfo, hi1, hi2]
  intro W
  rw [run_slice_lh W T _ _ _ ht' .i64 .i64 _ _ (by omega) (by omega) (by omega), he, hsz]
  simp [Result.andThen]
theorem slice_l_C {P : Program} (size : Nat) (x : Option Addr) (n cap : Nat) (T U : TypeId) (ht : P.underlying T = some (.slice U)) (hs : (P.info? U).map (·.size) = some size) (lo : Nat) (h1 : lo ≤ n) :
    ∀ W, (Instr.slice T (.slice x n cap) (some (.int .i64 (lo : Int))) none none).run P W = .ok (sliced x lo n cap size) W := by
  obtain ⟨i, hi1, hi2⟩ := Option.map_eq_some_iff.1 hs
  have ht' : P.underlying T = some (.slice (P.elem T)) := by simp [Program.elem, ht]
  have he : P.elem T = U := by simp [Program.elem, ht]
  have hsz : ∀ W, (sizeOf U).run P W = .ok size W := fun W => by simp [sizeOf, typeInfo, hi1, hi2]
  intro W
  rw [run_slice_l W T _ _ _ ht' .i64 _ (by omega) (by omega), he, hsz]
  simp [Result.andThen]
/-- s[l:h:m]. -/
theorem slice_lhm_C {P : Program} (size : Nat) (x : Option Addr) (n cap : Nat) (T U : TypeId) (ht : P.underlying T = some (.slice U)) (hs : (P.info? U).map (·.size) = some size) (lo hi mx : Nat) (h1 : lo ≤ hi) (h2 : hi ≤ mx) (h3 : mx ≤ cap) :
    ∃ u, ∀ W, (Instr.slice T (.slice x n cap) (some (.int .i64 (lo : Int))) (some (.int .i64 (hi : Int))) (some (.int .i64 (mx : Int)))).run P W = .ok u W := by
  obtain ⟨i, hi1, hi2⟩ := Option.map_eq_some_iff.1 hs
  have ht' : P.underlying T = some (.slice (P.elem T)) := by simp [Program.elem, ht]
  have he : P.elem T = U := by simp [Program.elem, ht]
  have hsz : ∀ W, (sizeOf U).run P W = .ok size W := fun W => by simp [sizeOf, typeInfo, hi1, hi2]
  refine ⟨sliced x lo hi mx size, fun W => ?_⟩
  rw [run_slice_lhm W T _ _ _ ht' .i64 .i64 .i64 _ _ _ (by omega) (by omega) (by omega) (by omega), he, hsz]
  simp [Result.andThen]
theorem sliced_some (a : Addr) (lo hi cap size : Nat) : ∃ ad, sliced (some a) lo hi cap size = .slice (some ad) (hi - lo) (cap - lo) := by
  unfold sliced
  split
  · exact ⟨_, rfl⟩
  · exact ⟨_, rfl⟩
theorem sliced_at (g o lo hi cap size : Nat) (h : lo ≠ cap) : sliced (some ⟨g, o, none⟩) lo hi cap size = .slice (some ⟨g, o + lo * size, none⟩) (hi - lo) (cap - lo) := by
  unfold sliced
  rw [if_neg (by omega)]
  simp [add_lit]

theorem ownsRow_take {w : World} {base : Nat} {e : TypeId} {size : Nat} {x : Option Addr} {n cap j : Nat} {cs : List Value} (h : w.ownsRow base e size (.slice x n cap) n cs) (hj : j ≤ n) : w.ownsRow base e size (.slice x j cap) j (cs.take (j * size)) := by
  have hl := h.1
  have hle : j * size ≤ n * size := Nat.mul_le_mul_right _ hj
  refine ⟨by rw [List.length_take]; omega, ?_⟩
  rcases h.2 with ⟨hv, h0⟩ | ⟨g, cap', cur, hv, hb, hg, hc, hm, hs, ht⟩
  · cases hv
    exact .inl ⟨by rw [show j = 0 from by omega], by omega⟩
  · cases hv
    exact .inr ⟨g, cap, cur, rfl, hb, hg, by omega, hm, hs, by rw [← ht, List.take_take, Nat.min_eq_left hle]⟩
theorem ownsRow_slice {w : World} {base : Nat} {e : TypeId} {size : Nat} {v : Value} {n : Nat} {xs : List Value} (h : w.ownsRow base e size v n xs) : ∃ x c, v = .slice x n c ∧ n ≤ c ∧ c ≤ maxLen := by
  rcases h.2 with ⟨rfl, rfl⟩ | ⟨g, cap, cur, rfl, _, _, h1, h2, _⟩
  · exact ⟨_, _, rfl, Nat.le_refl _, Nat.zero_le _⟩
  · exact ⟨_, _, rfl, h1, h2⟩

/-- append of any slice of such elements to a row of the call's own. -/
theorem run_append_X {P : Program} (w : World) (base : Nat) (T U ty : TypeId) (i : TypeInfo) (z : Value) (size bytes : Nat) (ht : P.underlying T = some (.slice U)) (hi : P.info? U = some i) (hz : i.zero = some z) (hsize : i.size = size) (hby : i.bytes = bytes) (hzs : z.cells.size = size) (hsz : 0 < size)
    (v : Value) (xs : List Value) (n : Nat) (hown : w.ownsRow base U size v n xs) (sv : Value) (m : Nat) (ys : List Value) (hs : IsX w size sv m ys) (h1 : ∀ u ∈ ys, u.oneCell' = true) (h63 : n + m ≤ maxLen) (hbytes : (n + m) * bytes ≤ 140737488355328) (hbase : base ≤ w.heap.size) :
    ∃ v' w', (Builtin.append_ #[T, T] ty #[v, sv]).run P w = .ok v' w' ∧ w'.ownsRow base U size v' (n + m) (xs ++ ys) ∧ w.grownBy w' v.ownBlock ∧ (v'.ownBlock = v.ownBlock ∨ v'.ownBlock = some w.heap.size) := by
  obtain ⟨a, cap, rfl, hlc, hcm, hl, hnc, hcell⟩ := hs
  by_cases ha : a = none
  · subst ha
    obtain rfl := hnc rfl
    obtain rfl : m = 0 := by omega
    obtain rfl : ys = [] := List.eq_nil_of_length_eq_zero (by simpa using hl)
    exact ⟨v, w, run_append_owned_none (P := P) w base T ty U i size ht hi v _ _ hown, by simpa using hown, ⟨rfl, rfl, rfl, Nat.le_refl _, fun _ _ _ => rfl⟩, .inl rfl⟩
  · obtain ⟨ad, rfl⟩ := Option.ne_none_iff_exists'.1 ha
    obtain ⟨v', w', k1, k2, k3, _, k5⟩ := run_append_own_at (P := P) w base T ty U i z size bytes ht hi hz hsize hby hzs hsz v n xs hown ad m cap ys hl
      (fun j u hj => by
        have hjl : j < ys.length := (List.getElem?_eq_some_iff.1 hj).1
        rcases hcell with h0 | ⟨b, off, e, hc⟩
        · subst h0
          simp at hl
          subst hl
          simp at hjl
        · cases e
          rw [add_lit, hc j (by omega)]
          exact hj) h1 h63 hbytes hbase
    exact ⟨v', w', k1, k2, k3, k5⟩

theorem wpList_append_X {P : Program} {w : World} {ops : Array Oper} {rest : List Oper} {o : Oper} {a : Act} {Q : Exit → Act → World → Prop} (hw : Region.wanted o (yielded ops a.tmps) = true) (s x : Operand) (T T' : TypeId)
    (ho : o.op = .call { callee := .builtin .append, args := #[s, x], argTypes := #[T, T'] }) (hTT : ∀ ty v sv, (Builtin.append_ #[T, T'] ty #[v, sv]).run P w = (Builtin.append_ #[T, T] ty #[v, sv]).run P w)
    (base : Nat) (U : TypeId) (i : TypeInfo) (z : Value) (size bytes : Nat) (ht : P.underlying T = some (.slice U)) (hi : P.info? U = some i) (hz : i.zero = some z) (hsize : i.size = size) (hby : i.bytes = bytes) (hzs : z.cells.size = size) (hsz : 0 < size)
    (v : Value) (xs : List Value) (n : Nat) (hs : a.eval s = v) (hown : w.ownsRow base U size v n xs) (sv : Value) (m : Nat) (ys : List Value) (hx : a.eval x = sv) (hv : IsX w size sv m ys) (h1 : ∀ u ∈ ys, u.oneCell' = true) (h63 : n + m ≤ maxLen) (hbytes : (n + m) * bytes ≤ 140737488355328) (hbase : base ≤ w.heap.size)
    (h : ∀ v' w', w'.ownsRow base U size v' (n + m) (xs ++ ys) → w.grownBy w' v.ownBlock → (v'.ownBlock = v.ownBlock ∨ v'.ownBlock = some w.heap.size) → wpList P ops Q rest (a.put o.dst v') w') : wpList P ops Q (o :: rest) a w := by
  refine BigFrame.wpList_want hw fun K hK => ?_
  obtain ⟨v', w', hr, h2, h3, h4⟩ := run_append_X (P := P) w base T U o.type i z size bytes ht hi hz hsize hby hzs hsz v xs n hown sv m ys hv h1 h63 hbytes hbase
  rw [← hTT] at hr
  unfold Oper.wp execOp
  simp only [ho, resolve, invoke, builtin, Sem.run_bind, Sem.run_pure, Result.andThen_ok, List.map_toArray, List.map_cons, List.map_nil, hs, hx, hr]
  exact hK _ _ (h v' w' h2 h3 h4)
theorem step_append_X {P : Program} {ops : Array Oper} {o : Oper} {a : Act} {w : World} {K : Act → World → Prop} {Q : Exit → Act → World → Prop} {E : Prop}
    (hw : Region.wanted o (yielded ops a.tmps) = true) (s x : Operand) (T : TypeId)
    (ho : o.op = .call { callee := .builtin .append, args := #[s, x], argTypes := #[T, T] })
    (base : Nat) (U : TypeId) (i : TypeInfo) (z : Value) (size bytes : Nat) (ht : P.underlying T = some (.slice U)) (hi : P.info? U = some i) (hz : i.zero = some z) (hsize : i.size = size) (hby : i.bytes = bytes) (hzs : z.cells.size = size) (hsz : 0 < size)
    (v : Value) (xs : List Value) (n : Nat) (hs : a.eval s = v) (hown : w.ownsRow base U size v n xs) (sv : Value) (m : Nat) (ys : List Value) (hx : a.eval x = sv) (hv : IsX w size sv m ys) (h1 : ∀ u ∈ ys, u.oneCell' = true) (h63 : n + m ≤ maxLen) (hbytes : (n + m) * bytes ≤ 140737488355328) (hbase : base ≤ w.heap.size)
    (h : ∀ v' w', w'.ownsRow base U size v' (n + m) (xs ++ ys) → w.grownBy w' v.ownBlock → (v'.ownBlock = v.ownBlock ∨ v'.ownBlock = some w.heap.size) → K (a.put o.dst v') w') :
    if Region.wanted o (yielded ops a.tmps) = true then Oper.wp P o a w K Q else E := by
  rw [if_pos hw]
  obtain ⟨v', w', hr, h2, h3, h4⟩ := run_append_X (P := P) w base T U o.type i z size bytes ht hi hz hsize hby hzs hsz v xs n hown sv m ys hv h1 h63 hbytes hbase
  unfold Oper.wp execOp
  simp only [ho, resolve, invoke, builtin, Sem.run_bind, Sem.run_pure, Result.andThen_ok, List.map_toArray, List.map_cons, List.map_nil, hs, hx, hr]
  exact h v' w' h2 h3 h4

theorem Kept.setRow {S : Nat → Prop} {a w : World} (h : Kept S a w) {g : Nat} (hg : S g ∨ a.heap.size ≤ g) (cs : Array Value) : Kept S a (w.setRow g cs) :=
  h.trans (T := fun k => k = g) ⟨rfl, rfl, rfl, by simp [World.setRow], fun k _ hk => setRow_other w g k cs hk⟩ (fun j e hj => by
    subst e
    rcases hg with hg | hg
    · exact hg
    · omega)

/-- copy of elements of whatever size. -/
theorem run_copy_X {P : Program} (w : World) (dT sT ty U : TypeId) (size : Nat) (g o dLen dCap : Nat) (a : Addr) (sLen sCap m : Nat) (cur : Array Value) (t : TypeId) (cs : List Value)
    (hu : P.underlying dT = some (.slice U)) (hs : (P.info? U).map (·.size) = some size)
    (hg : w.heap[g]? = some (.cells cur t (0, 0))) (hm : Nat.min sLen dLen = m) (hn : cs.length = m * size)
    (hsrc : ∀ j v, cs[j]? = some v → w.cell? (a.add j) = some v) (hfit : o + cs.length ≤ cur.size) (h1 : ∀ v ∈ cs, v.oneCell' = true) :
    (Builtin.copy_ #[dT, sT] ty #[.slice (some ⟨g, o, none⟩) dLen dCap, .slice (some a) sLen sCap]).run P w =
      .ok (goInt m) (w.setRow g (cur.toList.take o ++ cs ++ cur.toList.drop (o + cs.length)).toArray) := by
  obtain ⟨i, hq, hi⟩ := Option.map_eq_some_iff.1 hs
  have hf := run_firstCells_some (P := P) w size m a sLen sCap cs hn hsrc
  have hst := run_storeCells_at P g o t cs 0 cur w hg (by simpa using hfit) h1
  simp only [Nat.add_zero] at hst
  simp [Builtin.copy_, run_underlying hu, Builtin.lenOf, sizeOf, typeInfo, hq, hi, hm, hf, hst]
theorem run_copy_X0 {P : Program} (w : World) (dT sT ty U : TypeId) (size : Nat) (d a : Option Addr) (dLen dCap sLen sCap : Nat) (hu : P.underlying dT = some (.slice U)) (hs : (P.info? U).map (·.size) = some size) (hm : Nat.min sLen dLen = 0) :
    (Builtin.copy_ #[dT, sT] ty #[.slice d dLen dCap, .slice a sLen sCap]).run P w = .ok (goInt 0) w := by
  obtain ⟨i, hq, hi⟩ := Option.map_eq_some_iff.1 hs
  cases d with
  | none =>
    cases a with
    | none => simp [Builtin.copy_, run_underlying hu, Builtin.lenOf, sizeOf, typeInfo, hq, hi, hm, Builtin.firstCells]
    | some a => simp [Builtin.copy_, run_underlying hu, Builtin.lenOf, sizeOf, typeInfo, hq, hi, hm, Builtin.firstCells, loadCells, loadCellsFrom]
  | some d =>
    cases a with
    | none => simp [Builtin.copy_, run_underlying hu, Builtin.lenOf, sizeOf, typeInfo, hq, hi, hm, Builtin.firstCells, storeCells]
    | some a => simp [Builtin.copy_, run_underlying hu, Builtin.lenOf, sizeOf, typeInfo, hq, hi, hm, Builtin.firstCells, loadCells, loadCellsFrom, storeCells]

theorem step_copy_run {P : Program} {ops : Array Oper} {o : Oper} {a : Act} {w : World} {K : Act → World → Prop} {Q : Exit → Act → World → Prop} {E : Prop}
    (hg : o.guard = none) (d x : Operand) (dT sT : TypeId) (hop : o.op = Op.call { callee := Callee.builtin Builtin.copy, args := #[d, x], argTypes := #[dT, sT] })
    (v u : Value) (hd : a.eval d = v) (hx : a.eval x = u) {v' : Value} {w' : World} (hr : (Builtin.copy_ #[dT, sT] o.type #[v, u]).run P w = .ok v' w') (hK : K (a.put o.dst v') w') :
    if Region.wanted o (yielded ops a.tmps) = true then Oper.wp P o a w K Q else E := by
  have hw : Region.wanted o (yielded ops a.tmps) = true := by simp [Region.wanted, hg]
  rw [if_pos hw]
  unfold Oper.wp
  simp [execOp, hop, resolve, invoke, builtin, hd, hx, hr, Result.andThen]
  exact hK
theorem wpList_copy_run {P : Program} {w : World} {ops : Array Oper} {rest : List Oper} {o : Oper} {a : Act} {Q : Exit → Act → World → Prop} (hgd : o.guard = none) (d s : Operand) (t t' : TypeId)
    (ho : o.op = .call { callee := .builtin .copy, args := #[d, s], argTypes := #[t, t'] }) (v u : Value) (hd : a.eval d = v) (hs : a.eval s = u) {v' : Value} {w' : World}
    (hr : (Builtin.copy_ #[t, t'] o.type #[v, u]).run P w = .ok v' w') (h : wpList P ops Q rest (a.put o.dst v') w') : wpList P ops Q (o :: rest) a w := by
  refine wpList_plain hgd fun K hK => ?_
  unfold Oper.wp
  simp [execOp, ho, resolve, invoke, builtin, hd, hs, hr, Result.andThen]
  exact hK _ _ h
theorem step_append_run {P : Program} {ops : Array Oper} {o : Oper} {a : Act} {w : World} {K : Act → World → Prop} {Q : Exit → Act → World → Prop} {E : Prop}
    (hg : o.guard = none) (d x : Operand) (dT sT : TypeId) (hop : o.op = Op.call { callee := Callee.builtin Builtin.append, args := #[d, x], argTypes := #[dT, sT] })
    (v u : Value) (hd : a.eval d = v) (hx : a.eval x = u) {v' : Value} {w' : World} (hr : (Builtin.append_ #[dT, sT] o.type #[v, u]).run P w = .ok v' w') (hK : K (a.put o.dst v') w') :
    if Region.wanted o (yielded ops a.tmps) = true then Oper.wp P o a w K Q else E := by
  have hw : Region.wanted o (yielded ops a.tmps) = true := by simp [Region.wanted, hg]
  rw [if_pos hw]
  unfold Oper.wp
  simp [execOp, hop, resolve, invoke, builtin, hd, hx, hr, Result.andThen]
  exact hK

/-- clear of elements of whatever size. -/
theorem run_clear_X {P : Program} (w : World) (T U ty : TypeId) (z : Value) (ht : P.underlying T = some (.slice U)) (hv : ∀ w, (zeroValue U).run P w = .ok z w) (g o n c : Nat) (hn : 0 < n) (cur : Array Value) (t : TypeId) (hg : w.heap[g]? = some (.cells cur t (0, 0)))
    (hfit : o + (Builtin.zeroCells z.cells n).toList.length ≤ cur.size) (h1 : ∀ v ∈ (Builtin.zeroCells z.cells n).toList, v.oneCell' = true) :
    (Builtin.clear_ #[T] ty #[.slice (some ⟨g, o, none⟩) n c]).run P w = .ok (.tuple #[]) (w.setRow g (cur.toList.take o ++ (Builtin.zeroCells z.cells n).toList ++ cur.toList.drop (o + (Builtin.zeroCells z.cells n).toList.length)).toArray) := by
  have hst := run_storeCells_at P g o t (Builtin.zeroCells z.cells n).toList 0 cur w hg (by simpa using hfit) h1
  simp only [Nat.add_zero] at hst
  obtain ⟨m, rfl⟩ : ∃ m, n = m + 1 := ⟨n - 1, by omega⟩
  simp [Builtin.clear_, run_underlying ht, hv] at hst ⊢
  rw [hst]
  simp

theorem ins_list {α : Type} (cur A E B : List α) (k m : Nat) (hA : cur.take k = A) (hm : E.length = m) (hk : k + m + B.length ≤ cur.length) :
    (((cur.take (k + m) ++ B ++ cur.drop (k + m + B.length)).take k ++ E ++ (cur.take (k + m) ++ B ++ cur.drop (k + m + B.length)).drop (k + m)).take (k + m + B.length)) = A ++ E ++ B ∧
    ((cur.take (k + m) ++ B ++ cur.drop (k + m + B.length)).take k ++ E ++ (cur.take (k + m) ++ B ++ cur.drop (k + m + B.length)).drop (k + m)).length = cur.length := by
  have hl : (cur.take (k + m)).length = k + m := by rw [List.length_take]; omega
  have e1 : (cur.take (k + m) ++ B ++ cur.drop (k + m + B.length)).take k = A := by
    rw [List.append_assoc, List.take_append_of_le_length (by omega), List.take_take, Nat.min_eq_left (by omega), hA]
  have e2 : (cur.take (k + m) ++ B ++ cur.drop (k + m + B.length)).drop (k + m) = B ++ cur.drop (k + m + B.length) := by
    rw [List.append_assoc]
    exact List.drop_left' hl
  have hAl : A.length = k := by rw [← hA, List.length_take]; omega
  rw [e1, e2]
  constructor
  · rw [← List.append_assoc, List.take_left' (by simp; omega)]
  · simp
    omega
theorem ins_list2 {α : Type} (cur A E B : List α) (k m : Nat) (hA : cur.take k = A) (hm : E.length = m) (hk : k + m + B.length ≤ cur.length) :
    (((cur.take k ++ E ++ cur.drop (k + m)).take (k + m) ++ B ++ (cur.take k ++ E ++ cur.drop (k + m)).drop (k + m + B.length)).take (k + m + B.length)) = A ++ E ++ B ∧
    ((cur.take k ++ E ++ cur.drop (k + m)).take (k + m) ++ B ++ (cur.take k ++ E ++ cur.drop (k + m)).drop (k + m + B.length)).length = cur.length := by
  have hAl : A.length = k := by rw [← hA, List.length_take]; omega
  rw [hA]
  have e1 : (A ++ E ++ cur.drop (k + m)).take (k + m) = A ++ E := List.take_left' (by simp; omega)
  rw [e1]
  constructor
  · rw [List.take_left' (by simp; omega)]
  · simp
    omega

end Go.Cor
