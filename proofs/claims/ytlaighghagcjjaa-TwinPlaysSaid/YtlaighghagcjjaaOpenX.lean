/- What a reading of a slice of structs hands over: a row of plain values. Of no program. -/
import Derived.Test.YtlaighghagcjjaaRow
import Derived.Test.YtlaighghagcjjaaWf
import Derived.Lib.SmallJoins
import Derived.ProofKit
set_option linter.unusedVariables false
set_option linter.unusedSimpArgs false
namespace Go.Cor
open Go.RowKit Go.ChangeShapes Go.WideShapes Go.Joins Go.Deep
variable {H : Type} {enc : TypeId × Value → H} {W : World} {P : Program}

theorem list2 {α : Type} {l : List α} (h : l.length = 2) : ∃ a b, l = [a, b] := by
  match l, h with
  | [a, b], _ => exact ⟨a, b, rfl⟩
theorem list7 {α : Type} {l : List α} (h : l.length = 7) : ∃ a b c d e f g, l = [a, b, c, d, e, f, g] := by
  match l, h with
  | [a, b, c, d, e, f, g], _ => exact ⟨a, b, c, d, e, f, g, rfl⟩
theorem list8 {α : Type} {l : List α} (h : l.length = 8) : ∃ a b c d e f g i, l = [a, b, c, d, e, f, g, i] := by
  match l, h with
  | [a, b, c, d, e, f, g, i], _ => exact ⟨a, b, c, d, e, f, g, i, rfl⟩
theorem list_of {α : Type} {Q : Nat → α → Prop} (n : Nat) (h : ∀ i, i < n → ∃ x, Q i x) : ∃ l : List α, l.length = n ∧ ∀ i x, l[i]? = some x → Q i x := by
  induction n with
  | zero => exact ⟨[], rfl, fun i x h => by simp at h⟩
  | succ k ih =>
    obtain ⟨l, hlen, hl⟩ := ih (fun i hi => h i (by omega))
    obtain ⟨x, hx⟩ := h k (by omega)
    refine ⟨l ++ [x], by simp [hlen], fun i y hi => ?_⟩
    by_cases hik : i < k
    · rw [List.getElem?_append_left (by omega)] at hi
      exact hl i y hi
    · have hlt := (List.getElem?_eq_some_iff.1 hi).1
      simp [hlen] at hlt
      obtain rfl : i = k := by omega
      rw [List.getElem?_append_right (by omega), hlen] at hi
      simp at hi
      subst hi
      exact hx

theorem trod_struct7 {t : TypeId} {f0 f1 f2 f3 f4 f5 f6 : Field} {fuel : Nat} {cs : List Value} {x : DataW H × List MemPlace} (ht : P.underlying t = some (.struct #[f0, f1, f2, f3, f4, f5, f6])) (h : DataW.trod enc P W 0 (fun _ => true) true fuel t cs = some x) :
    ∃ y0 y1 y2 y3 y4 y5 y6 n, cs.length = P.cellsOf t ∧ DataW.trod enc P W 0 (fun _ => true) true n f0.type ((cs.drop f0.offset).take (P.cellsOf f0.type)) = some y0 ∧ DataW.trod enc P W 0 (fun _ => true) true n f1.type ((cs.drop f1.offset).take (P.cellsOf f1.type)) = some y1 ∧ DataW.trod enc P W 0 (fun _ => true) true n f2.type ((cs.drop f2.offset).take (P.cellsOf f2.type)) = some y2 ∧ DataW.trod enc P W 0 (fun _ => true) true n f3.type ((cs.drop f3.offset).take (P.cellsOf f3.type)) = some y3 ∧ DataW.trod enc P W 0 (fun _ => true) true n f4.type ((cs.drop f4.offset).take (P.cellsOf f4.type)) = some y4 ∧ DataW.trod enc P W 0 (fun _ => true) true n f5.type ((cs.drop f5.offset).take (P.cellsOf f5.type)) = some y5 ∧ DataW.trod enc P W 0 (fun _ => true) true n f6.type ((cs.drop f6.offset).take (P.cellsOf f6.type)) = some y6 := by
  obtain ⟨xs, n, _, _, hl, hlen, hf⟩ := DataW.trod_struct ht h
  match xs, hlen with
  | [y0, y1, y2, y3, y4, y5, y6], _ => exact ⟨y0, y1, y2, y3, y4, y5, y6, n, hl, by simpa using hf 0 f0 rfl, by simpa using hf 1 f1 rfl, by simpa using hf 2 f2 rfl, by simpa using hf 3 f3 rfl, by simpa using hf 4 f4 rfl, by simpa using hf 5 f5 rfl, by simpa using hf 6 f6 rfl⟩

theorem rows_of_trod {α : Type} {size : Nat} {T U : TypeId} (en : α → List Value) (good : α → Prop) (hT : P.underlying T = some (.slice U)) (hC : P.cellsOf U = size) (hs : 0 < size) (hen : ∀ x, (en x).length = size)
    (el : ∀ fuel cs y, DataW.trod enc P W 0 (fun _ => true) true fuel U cs = some y → ∃ x, cs = en x ∧ good x)
    {fuel : Nat} {c : Value} {y : DataW H × List MemPlace} (h : DataW.trod enc P W 0 (fun _ => true) true fuel T [c] = some y) :
    ∃ l : List α, IsX W size c l.length (row en l) ∧ ∀ x ∈ l, good x := by
  rcases open_slice hT h with ⟨hcs, _⟩ | ⟨x, len, cap, m, k, D, Pl, hcs, _, hl, hm, hmm, _, hi⟩
  · simp only [List.cons.injEq, and_true] at hcs
    subst hcs
    exact ⟨[], IsX.nil _ _, fun x hx => by cases hx⟩
  · simp only [List.cons.injEq, and_true] at hcs
    subst hcs
    have hml : len ≤ m := by simp at hmm; omega
    obtain ⟨b, off, spot⟩ := x
    have each : ∀ i, i < len → ∃ z : α, good z ∧ ∀ j, j < size → W.cell? (((⟨b, off, spot⟩ : Addr).add (i * size)).add j) = (en z)[j]? := fun i hil => by
      obtain ⟨cs', hc, ht⟩ := hi i (by omega)
      rw [hC] at hc
      obtain ⟨_, hcl, hat⟩ := World.cells?_some hc
      obtain ⟨z, rfl, hz⟩ := el _ _ _ ht
      exact ⟨z, hz, hat⟩
    obtain ⟨l, hlen, hl'⟩ := list_of len each
    refine ⟨l, ⟨some ⟨b, off, spot⟩, cap, by rw [hlen], by omega, hm, length_row hen l, (fun h => by cases h), ?_⟩, fun z hz => ?_⟩
    · by_cases h0 : len = 0
      · exact .inl (by omega)
      · have hspot : spot = none := by
          obtain ⟨z, _, hat⟩ := each 0 (by omega)
          have h1 : (en z)[0]? = some ((en z)[0]'(by rw [hen]; exact hs)) := List.getElem?_eq_getElem _
          have := World.cell?_spot ((hat 0 hs).trans h1)
          simpa [Addr.add] using this
        subst hspot
        simp only [add_lit] at hl'
        refine .inr ⟨b, off, rfl, fun j hj => ?_⟩
        rw [hlen] at hj
        have hq : j / size < len := Nat.div_lt_of_lt_mul (by rw [Nat.mul_comm]; exact hj)
        have hz := List.getElem?_eq_getElem (l := l) (i := j / size) (by omega)
        obtain ⟨_, hc⟩ := hl' _ _ hz
        have hm2 := Nat.mod_lt j hs
        have e : j = j / size * size + j % size := by rw [Nat.mul_comm]; exact (Nat.div_add_mod j size).symm
        have h1 := hc (j % size) hm2
        have h2 := row_get hen hz (j % size) hm2
        rw [← e] at h2
        rw [h2, ← h1]
        congr 2
        omega
    · obtain ⟨i, hi'⟩ := List.getElem?_of_mem hz
      exact (hl' i z hi').1

end Go.Cor
