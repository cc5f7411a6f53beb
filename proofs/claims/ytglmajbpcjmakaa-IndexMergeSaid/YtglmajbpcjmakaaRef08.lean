/- The document's answers for the index, by contracts. -/
import Derived.Test.YtglmajbpcjmakaaIdxp
namespace Go.Proofs.Ytglmajbpcjmakaa
open Go.RowKit Go.Cor

theorem psn_is {l : List Pos} (hs : Asc l) {i k : Nat} {e : Pos} (h : l[i]? = some e) (hk : e.key = k) : psn l k = i := by
  have hlt := (List.getElem?_eq_some_iff.1 h).1
  by_cases h1 : i < psn l k
  · have := psn_below h h1
    omega
  · by_cases h2 : psn l k < i
    · have he : l[psn l k]? = some (pat l (psn l k)) := get_pat (by omega)
      have h3 := psn_above hs he (Nat.le_refl _)
      have h4 := hs.lt he h h2
      omega
    · omega
theorem fnd_is {l : List Pos} {i k : Nat} {e : Pos} (hs : Asc l) (h : l[i]? = some e) (hk : e.key = k) : fnd l k = some e := (fnd_iff hs).2 ⟨List.mem_of_getElem? h, hk⟩
theorem fnd_no {l : List Pos} {k : Nat} (hs : Asc l) (h : ∀ i, i < l.length → (pat l i).key ≠ k) : fnd l k = none := by
  cases hf : fnd l k with
  | none => rfl
  | some q =>
    obtain ⟨hm, hk⟩ := (fnd_iff hs).1 hf
    obtain ⟨i, hi⟩ := List.getElem?_of_mem hm
    exact absurd (by rw [pat_of hi]; exact hk) (h i (List.getElem?_eq_some_iff.1 hi).1)
/-- Where a key stands, or below 0. -/
def fidx (l : List Pos) (k : Nat) : Int := if (fnd l k).isSome then (psn l k : Int) else -1

/-- A put, in two parts. -/
def thereN (l : List Pos) (k : Nat) : Nat := if (fnd l k).isSome then 1 else 0
theorem put_parts (l : List Pos) (p : Pos) : put l p = l.take (psn l p.key) ++ p :: l.drop (psn l p.key + thereN l p.key) := by
  unfold thereN
  cases h : fnd l p.key with
  | none => rw [put_new h]; rfl
  | some q =>
    have hlt := (List.getElem?_eq_some_iff.1 (fnd_at h).1).1
    rw [put_there h, List.set_eq_take_append_cons_drop, if_pos hlt]
    rfl

end Go.Proofs.Ytglmajbpcjmakaa
