/- A net as a plain value (layer 15): packets, cuts, and what each call does. Of no program. -/
import Derived.Test.YtncfdkkekaninaaMsg
set_option linter.unusedVariables false
set_option linter.unusedSimpArgs false
namespace Go.Cor

/-- Packets under way, in their order, and the pairs that are cut. -/
structure NetP where
  l : List Msg
  c : List (Int × Int)
def pairB (p : Int × Int) (a b : Int) : Bool := decide (p.1 = a ∧ p.2 = b ∨ p.1 = b ∧ p.2 = a)
theorem pairB_comm (p : Int × Int) (a b : Int) : pairB p a b = pairB p b a := by
  unfold pairB
  rw [Bool.eq_iff_iff, decide_eq_true_iff, decide_eq_true_iff]
  constructor <;> (rintro (h | h) <;> first | exact .inr h | exact .inl h)
/-- Are two places cut from each other? -/
def apartP (c : List (Int × Int)) (a b : Int) : Bool := c.any fun p => pairB p a b
theorem apartP_comm (c : List (Int × Int)) (a b : Int) : apartP c a b = apartP c b a := by
  unfold apartP
  congr 1
  funext p
  exact pairB_comm p a b
def placeB (a : Int) : Bool := decide (0 ≤ a ∧ a ≤ 255)
/-- What a cut or a join leaves. -/
def cutP (c : List (Int × Int)) (a b : Int) (cut : Bool) : List (Int × Int) := c.filter (fun p => ! pairB p a b) ++ (if cut = true then [(a, b)] else [])
def cutK (a b : Int) : Nat := if 0 ≤ a ∧ a ≤ 255 ∧ 0 ≤ b ∧ b ≤ 255 ∧ a ≠ b then 0 else 1
theorem any_filter_not (c : List (Int × Int)) (a b x y : Int) (h : ∀ p ∈ c, pairB p a b = true → pairB p x y = false) : (c.filter fun p => ! pairB p a b).any (fun p => pairB p x y) = c.any fun p => pairB p x y := by
  induction c with
  | nil => rfl
  | cons p r ih =>
    have ih' := ih fun q hq => h q (List.mem_cons_of_mem _ hq)
    cases hp : pairB p a b with
    | true =>
      rw [List.filter_cons_of_neg (by rw [hp]; simp), ih', List.any_cons, h p (List.mem_cons_self ..) hp, Bool.false_or]
    | false =>
      rw [List.filter_cons_of_pos (by rw [hp]; simp), List.any_cons, List.any_cons, ih']
theorem pairB_self (a b : Int) : pairB (a, b) a b = true := decide_eq_true (.inl ⟨rfl, rfl⟩)
theorem apartP_cut (c : List (Int × Int)) (a b : Int) (cut : Bool) : apartP (cutP c a b cut) a b = cut := by
  unfold apartP cutP
  rw [List.any_append]
  have h0 : (c.filter fun p => ! pairB p a b).any (fun p => pairB p a b) = false := by
    rw [List.any_eq_false]
    intro p hp
    have := (List.mem_filter.1 hp).2
    simpa using this
  rw [h0, Bool.false_or]
  cases cut with
  | true => simp [pairB_self]
  | false => rfl
/-- Two pairs with a pair in common are alike. -/
theorem pairB_trans {p : Int × Int} {a b x y : Int} (h1 : pairB p a b = true) (h2 : pairB p x y = true) : pairB (a, b) x y = true := by
  have h1 := of_decide_eq_true (show decide _ = true from h1)
  have h2 := of_decide_eq_true (show decide _ = true from h2)
  refine decide_eq_true ?_
  dsimp only
  rcases h1 with h1 | h1 <;> rcases h2 with h2 | h2
  · exact .inl ⟨h1.1.symm.trans h2.1, h1.2.symm.trans h2.2⟩
  · exact .inr ⟨h1.1.symm.trans h2.1, h1.2.symm.trans h2.2⟩
  · exact .inr ⟨h1.2.symm.trans h2.2, h1.1.symm.trans h2.1⟩
  · exact .inl ⟨h1.2.symm.trans h2.2, h1.1.symm.trans h2.1⟩
theorem apartP_other (c : List (Int × Int)) (a b x y : Int) (cut : Bool) (h : pairB (a, b) x y = false) : apartP (cutP c a b cut) x y = apartP c x y := by
  unfold apartP cutP
  rw [List.any_append, any_filter_not c a b x y (fun p _ hp => by
    cases hq : pairB p x y with
    | false => rfl
    | true => rw [pairB_trans hp hq] at h; cases h)]
  cases cut with
  | true => simp [h]
  | false => simp
/-- What each call tells, and what it leaves. -/
def sendK (n : NetP) (m : Msg) : Nat := if mcheck m = 0 then (if 4096 ≤ n.l.length then 11 else 0) else mcheck m
def sendN (n : NetP) (m : Msg) : NetP := if sendK n m = 0 then { n with l := n.l ++ [m] } else n
def takeK (n : NetP) (i : Int) : Nat := match (if 0 ≤ i then n.l[i.toNat]? else none) with | none => 6 | some m => if apartP n.c m.fr m.to = true then 17 else 0
def takeM (n : NetP) (i : Int) : Msg := if takeK n i = 0 then n.l.getD i.toNat mz else mz
def takeN (n : NetP) (i : Int) : NetP := if takeK n i = 0 then { n with l := n.l.eraseIdx i.toNat } else n
def peekK (n : NetP) (i : Int) : Nat := if 0 ≤ i ∧ i.toNat < n.l.length then 0 else 6
def peekM (n : NetP) (i : Int) : Msg := if peekK n i = 0 then n.l.getD i.toNat mz else mz
def loseN (n : NetP) (i : Int) : NetP := if peekK n i = 0 then { n with l := n.l.eraseIdx i.toNat } else n
def twiceK (n : NetP) (i : Int) : Nat := if peekK n i = 0 then (if 4096 ≤ n.l.length then 11 else 0) else 6
def twiceN (n : NetP) (i : Int) : NetP := if twiceK n i = 0 then { n with l := n.l ++ [n.l.getD i.toNat mz] } else n
def cutN (n : NetP) (a b : Int) (cut : Bool) : NetP := if cutK a b = 0 then { n with c := cutP n.c a b cut } else n
theorem peekK_ok {n : NetP} {i : Int} (h : peekK n i = 0) : 0 ≤ i ∧ i.toNat < n.l.length := by
  unfold peekK at h
  split at h
  · assumption
  · cases h
theorem peekK_no {n : NetP} {i : Int} (h : peekK n i ≠ 0) : peekK n i = 6 := by
  unfold peekK at h ⊢
  split at h
  · exact absurd rfl h
  · rename_i h1; rw [if_neg h1]
theorem takeK_peek (n : NetP) (i : Int) : takeK n i = if peekK n i = 0 then (if apartP n.c (n.l.getD i.toNat mz).fr (n.l.getD i.toNat mz).to = true then 17 else 0) else 6 := by
  unfold takeK
  by_cases h0 : 0 ≤ i
  · rw [if_pos h0]
    by_cases h1 : i.toNat < n.l.length
    · have hp : peekK n i = 0 := by unfold peekK; rw [if_pos (show 0 ≤ i ∧ i.toNat < n.l.length from ⟨h0, h1⟩)]
      rw [hp, if_pos rfl, List.getD_eq_getElem?_getD, List.getElem?_eq_getElem h1]
      rfl
    · have hp : peekK n i ≠ 0 := fun h => h1 (peekK_ok h).2
      rw [if_neg hp, List.getElem?_eq_none (by omega)]
  · have hp : peekK n i ≠ 0 := fun h => h0 (peekK_ok h).1
    rw [if_neg h0, if_neg hp]
/-- All packets are such as may be. -/
def NetP.good (n : NetP) : Prop := n.l.length ≤ 4096 ∧ ∀ m ∈ n.l, mcheck m = 0 ∧ m.n.fits ∧ m.id < 18446744073709551616
theorem NetP.good.sub {n : NetP} (h : n.good) {i : Nat} (hi : i < n.l.length) : mcheck (n.l.getD i mz) = 0 ∧ (n.l.getD i mz).n.fits ∧ (n.l.getD i mz).id < 18446744073709551616 := by
  rw [List.getD_eq_getElem?_getD, List.getElem?_eq_getElem hi]
  exact h.2 _ (List.getElem_mem hi)
theorem NetP.good.erase {n : NetP} (h : n.good) (i : Nat) : ({ n with l := n.l.eraseIdx i } : NetP).good :=
  ⟨Nat.le_trans (List.length_eraseIdx_le ..) h.1, fun m hm => h.2 m (List.mem_of_mem_eraseIdx hm)⟩
theorem NetP.good.snoc {n : NetP} (h : n.good) (hl : ¬ 4096 ≤ n.l.length) {m : Msg} (hm : mcheck m = 0 ∧ m.n.fits ∧ m.id < 18446744073709551616) : ({ n with l := n.l ++ [m] } : NetP).good := by
  refine ⟨by show (n.l ++ [m]).length ≤ 4096; rw [List.length_append]; simp; omega, fun x hx => ?_⟩
  rcases List.mem_append.1 hx with h1 | h1
  · exact h.2 x h1
  · rw [List.mem_singleton.1 h1]; exact hm
theorem NetP.good.send {n : NetP} (h : n.good) {m : Msg} (hf : m.n.fits) (hid : m.id < 18446744073709551616) : (sendN n m).good := by
  unfold sendN sendK
  by_cases hc : mcheck m = 0
  · by_cases hl : 4096 ≤ n.l.length
    · rw [if_pos hc, if_pos hl, if_neg (by decide)]; exact h
    · rw [if_pos hc, if_neg hl, if_pos rfl]; exact h.snoc hl ⟨hc, hf, hid⟩
  · rw [if_neg hc, if_neg hc]; exact h
theorem NetP.good.take {n : NetP} (h : n.good) (i : Int) : (takeN n i).good := by
  unfold takeN
  split
  · exact h.erase _
  · exact h
theorem NetP.good.lose {n : NetP} (h : n.good) (i : Int) : (loseN n i).good := by
  unfold loseN
  split
  · exact h.erase _
  · exact h
theorem NetP.good.twice {n : NetP} (h : n.good) (i : Int) : (twiceN n i).good := by
  unfold twiceN twiceK
  by_cases hp : peekK n i = 0
  · by_cases hl : 4096 ≤ n.l.length
    · rw [if_pos hp, if_pos hl, if_neg (by decide)]; exact h
    · rw [if_pos hp, if_neg hl, if_pos rfl]; exact h.snoc hl (h.sub (peekK_ok hp).2)
  · rw [if_neg hp, if_neg (by decide)]; exact h
theorem NetP.good.cut {n : NetP} (h : n.good) (a b : Int) (cut : Bool) : (cutN n a b cut).good := by
  unfold cutN
  split
  · exact h
  · exact h

end Go.Cor
