/- Layer 19 in plain values: how many volumes all nodes have; positions in what On tells. Of no program. -/
import Derived.Test.YtlaighghagcjjaaDm
set_option linter.unusedVariables false
set_option linter.unusedSimpArgs false
namespace Go.Cor
open Go.RowKit

theorem onL_cons (e : En) (r : List En) (n : Int) : onL (e :: r) n = if hasE e n then e.vol :: onL r n else onL r n := by
  unfold onL
  rw [List.filter_cons]
  by_cases h : hasE e n
  · rw [if_pos h, if_pos (decide_eq_true h)]; rfl
  · rw [if_neg h, if_neg (by simp [h])]
theorem onL_len (L : List En) (n : Int) : (onL L n).length ≤ L.length := by
  unfold onL
  rw [List.length_map]
  exact List.length_filter_le _ _
theorem onL_get {L : List En} {K : Nat} (h : LOk L K) {n : Int} {i x : Nat} (hx : (onL L n)[i]? = some x) : ∃ e, lookE L (x : Int) = some e ∧ hasE e n := by
  have hm := List.mem_of_getElem? hx
  unfold onL at hm
  obtain ⟨e, he, rfl⟩ := List.mem_map.1 hm
  obtain ⟨he1, he2⟩ := List.mem_filter.1 he
  obtain ⟨j, hj⟩ := List.getElem?_of_mem he1
  have hv := h.num j e hj
  refine ⟨e, ?_, by simpa using he2⟩
  rw [hv, show ((j + 1 : Nat) : Int) = (j : Int) + 1 by omega]
  exact lookE_at hj
/-- How many volumes the nodes ahead of n have, each counted. -/
def cnt (L : List En) : Nat → Nat
  | 0 => 0
  | n + 1 => cnt L n + (onL L (n : Int)).length
def one1 (e : En) : Nat → Nat
  | 0 => 0
  | n + 1 => one1 e n + (if hasE e (n : Int) then 1 else 0)
theorem cnt_nil (n : Nat) : cnt [] n = 0 := by
  induction n with
  | zero => rfl
  | succ n ih => show cnt [] n + 0 = 0; rw [ih]
theorem cnt_cons (e : En) (r : List En) (n : Nat) : cnt (e :: r) n = one1 e n + cnt r n := by
  induction n with
  | zero => rfl
  | succ n ih =>
    show cnt (e :: r) n + (onL (e :: r) (n : Int)).length = one1 e n + (if hasE e (n : Int) then 1 else 0) + (cnt r n + (onL r (n : Int)).length)
    rw [ih, onL_cons]
    by_cases h : hasE e (n : Int)
    · rw [if_pos h, if_pos h, List.length_cons]; omega
    · rw [if_neg h, if_neg h]; omega
theorem lt_step (x n : Nat) : (if x < n + 1 then 1 else 0 : Nat) = (if x < n then 1 else 0) + (if x = n then 1 else 0) := by
  by_cases h1 : x < n
  · rw [if_pos (by omega), if_pos h1, if_neg (by omega)]
  · by_cases h2 : x = n
    · rw [if_pos (by omega), if_neg h1, if_pos h2]
    · rw [if_neg (by omega), if_neg h1, if_neg h2]
theorem has_sum {e : En} (h : EnOk e) (n : Nat) : (if hasE e (n : Int) then 1 else 0 : Nat) = (if e.a = n then 1 else 0) + (if e.b = n then 1 else 0) + (if e.c = n then 1 else 0) := by
  obtain ⟨_, _, _, h4, h5, h6⟩ := h
  by_cases ha : e.a = n
  · rw [if_pos (by unfold hasE; left; omega), if_pos ha, if_neg (by omega), if_neg (by omega)]
  · by_cases hb : e.b = n
    · rw [if_pos (by unfold hasE; right; left; omega), if_neg ha, if_pos hb, if_neg (by omega)]
    · by_cases hc : e.c = n
      · rw [if_pos (by unfold hasE; right; right; omega), if_neg ha, if_neg hb, if_pos hc]
      · rw [if_neg (by unfold hasE; omega), if_neg ha, if_neg hb, if_neg hc]
theorem one1_eq {e : En} (h : EnOk e) (n : Nat) : one1 e n = (if e.a < n then 1 else 0) + (if e.b < n then 1 else 0) + (if e.c < n then 1 else 0) := by
  induction n with
  | zero => rfl
  | succ n ih =>
    show one1 e n + (if hasE e (n : Int) then 1 else 0) = _
    rw [ih, has_sum h, lt_step, lt_step, lt_step]
    omega
theorem cnt_all {L : List En} (h : ∀ e ∈ L, EnOk e) : cnt L 256 = 3 * L.length := by
  induction L with
  | nil => exact cnt_nil 256
  | cons e r ih =>
    rw [cnt_cons, ih fun x hx => h x (List.mem_cons_of_mem _ hx), one1_eq (h e (List.mem_cons_self ..))]
    obtain ⟨h1, h2, h3, _⟩ := h e (List.mem_cons_self ..)
    rw [if_pos h1, if_pos h2, if_pos h3, List.length_cons]
    omega
theorem cnt_le (L : List En) (n : Nat) : cnt L n ≤ n * L.length := by
  induction n with
  | zero => simp [cnt]
  | succ n ih =>
    have := onL_len L (n : Int)
    show cnt L n + _ ≤ _
    rw [Nat.add_mul, Nat.one_mul]
    omega
end Go.Cor
