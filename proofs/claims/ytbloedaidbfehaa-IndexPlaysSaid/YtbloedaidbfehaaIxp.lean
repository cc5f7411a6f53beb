/- Positions, and lists of them by their keys, as plain values: of no program. -/
import Derived.Test.YtbloedaidbfehaaRow
namespace Go.Cor

/-- A position. -/
structure Pos where
  key : Nat
  off : Int
  len : Int
  cookie : Nat
  gone : Bool

theorem Pos.ext' {a b : Pos} (h1 : a.key = b.key) (h2 : a.off = b.off) (h3 : a.len = b.len) (h4 : a.cookie = b.cookie) (h5 : a.gone = b.gone) : a = b := by
  cases a
  cases b
  simp_all
instance instDecPos : DecidableEq Pos := fun a b => decidable_of_iff (a.key = b.key ∧ a.off = b.off ∧ a.len = b.len ∧ a.cookie = b.cookie ∧ a.gone = b.gone)
  ⟨fun h => Pos.ext' h.1 h.2.1 h.2.2.1 h.2.2.2.1 h.2.2.2.2, fun h => by subst h; exact ⟨rfl, rfl, rfl, rfl, rfl⟩⟩

/-- Its numbers fit. -/
def Pos.fits (p : Pos) : Prop := p.key < 18446744073709551616 ∧ p.cookie < 4294967296 ∧ (-9223372036854775808 ≤ p.off ∧ p.off ≤ 9223372036854775807) ∧ (-9223372036854775808 ≤ p.len ∧ p.len ≤ 9223372036854775807)
def pzero : Pos := ⟨0, 0, 0, 0, false⟩
/-- The position at a place. -/
abbrev pat (ps : List Pos) (i : Nat) : Pos := ps.getD i pzero
theorem pat_of {ps : List Pos} {i : Nat} {p : Pos} (h : ps[i]? = some p) : pat ps i = p := by simp [pat, List.getD_eq_getElem?_getD, h]
theorem get_pat {ps : List Pos} {i : Nat} (h : i < ps.length) : ps[i]? = some (pat ps i) := by simp [pat, List.getD_eq_getElem?_getD, List.getElem?_eq_getElem h]
theorem pat_mem {ps : List Pos} {i : Nat} (h : i < ps.length) : pat ps i ∈ ps := List.mem_of_getElem? (get_pat h)
theorem take_snoc {ps : List Pos} {i : Nat} (h : i < ps.length) : ps.take (i + 1) = ps.take i ++ [pat ps i] := by
  rw [List.take_add_one, get_pat h]
  rfl

/-- How many keys stand ahead of k. -/
def psn : List Pos → Nat → Nat
  | [], _ => 0
  | q :: r, k => if q.key < k then psn r k + 1 else 0
theorem psn_le (l : List Pos) (k : Nat) : psn l k ≤ l.length := by
  induction l with
  | nil => simp [psn]
  | cons q r ih =>
    simp only [psn]
    split <;> simp <;> omega
theorem psn_below {l : List Pos} {k i : Nat} {e : Pos} (h : l[i]? = some e) (hi : i < psn l k) : e.key < k := by
  induction l generalizing i with
  | nil => simp at h
  | cons q r ih =>
    simp only [psn] at hi
    split at hi
    · cases i with
      | zero =>
        simp at h
        subst h
        assumption
      | succ i => exact ih (by simpa using h) (by omega)
    · omega
/-- By rising keys, no key twice. -/
def Asc (l : List Pos) : Prop := l.Pairwise (fun p q => p.key < q.key)
theorem Asc.nil : Asc [] := List.Pairwise.nil
theorem psn_above {l : List Pos} {k i : Nat} {e : Pos} (hs : Asc l) (h : l[i]? = some e) (hi : psn l k ≤ i) : k ≤ e.key := by
  induction l generalizing i with
  | nil => simp at h
  | cons q r ih =>
    have hq := List.pairwise_cons.1 hs
    simp only [psn] at hi
    split at hi
    · cases i with
      | zero => omega
      | succ i => exact ih hq.2 (by simpa using h) (by omega)
    · cases i with
      | zero =>
        simp at h
        subst h
        omega
      | succ i =>
        have := hq.1 e (List.mem_of_getElem? (i := i) (by simpa using h))
        omega
theorem Asc.lt {l : List Pos} (hs : Asc l) {i j : Nat} {p q : Pos} (hi : l[i]? = some p) (hj : l[j]? = some q) (h : i < j) : p.key < q.key := by
  obtain ⟨hi1, rfl⟩ := List.getElem?_eq_some_iff.1 hi
  obtain ⟨hj1, rfl⟩ := List.getElem?_eq_some_iff.1 hj
  exact List.pairwise_iff_getElem.1 hs i j hi1 hj1 h
/-- The position of a key. -/
def fnd (l : List Pos) (k : Nat) : Option Pos := (l[psn l k]?).filter (fun q => q.key == k)
theorem fnd_iff {l : List Pos} (hs : Asc l) {k : Nat} {q : Pos} : fnd l k = some q ↔ q ∈ l ∧ q.key = k := by
  unfold fnd
  rw [Option.filter_eq_some_iff]
  constructor
  · rintro ⟨h1, h2⟩
    exact ⟨List.mem_of_getElem? h1, by simpa using h2⟩
  · rintro ⟨h1, h2⟩
    refine ⟨?_, by simpa using h2⟩
    obtain ⟨i, hi⟩ := List.getElem?_of_mem h1
    by_cases h3 : i < psn l k
    · have := psn_below hi h3
      omega
    by_cases h4 : i = psn l k
    · rw [← h4]
      exact hi
    · have hlt := (List.getElem?_eq_some_iff.1 hi).1
      have he : l[psn l k]? = some (pat l (psn l k)) := get_pat (by omega)
      have h5 := psn_above hs he (Nat.le_refl _)
      have h6 := hs.lt he hi (by omega)
      omega
theorem fnd_at {l : List Pos} {k : Nat} {q : Pos} (h : fnd l k = some q) : l[psn l k]? = some q ∧ q.key = k := by
  unfold fnd at h
  rw [Option.filter_eq_some_iff] at h
  exact ⟨h.1, by simpa using h.2⟩
theorem mem_fnd {l : List Pos} (hs : Asc l) {q : Pos} : q ∈ l ↔ fnd l q.key = some q := by
  rw [fnd_iff hs]
  exact ⟨fun h => ⟨h, rfl⟩, fun h => h.1⟩

/-- A position put. -/
def put : List Pos → Pos → List Pos
  | [], p => [p]
  | q :: r, p => if q.key < p.key then q :: put r p else if q.key = p.key then p :: r else p :: q :: r
theorem put_mem {l : List Pos} (hs : Asc l) (p q : Pos) : q ∈ put l p ↔ q = p ∨ q ∈ l ∧ q.key ≠ p.key := by
  induction l with
  | nil => simp [put]
  | cons a r ih =>
    obtain ⟨h1, h2⟩ := List.pairwise_cons.1 hs
    have ih := ih h2
    simp only [put]
    split
    · rw [List.mem_cons, ih, List.mem_cons]
      constructor
      · rintro (rfl | rfl | h)
        · exact .inr ⟨.inl rfl, by omega⟩
        · exact .inl rfl
        · exact .inr ⟨.inr h.1, h.2⟩
      · rintro (rfl | ⟨rfl | h, h'⟩)
        · exact .inr (.inl rfl)
        · exact .inl rfl
        · exact .inr (.inr ⟨h, h'⟩)
    · split
      · rw [List.mem_cons, List.mem_cons]
        constructor
        · rintro (rfl | h)
          · exact .inl rfl
          · have := h1 q h
            exact .inr ⟨.inr h, by omega⟩
        · rintro (rfl | ⟨rfl | h, h'⟩)
          · exact .inl rfl
          · omega
          · exact .inr h
      · rw [List.mem_cons]
        constructor
        · rintro (rfl | h)
          · exact .inl rfl
          · refine .inr ⟨h, ?_⟩
            rcases List.mem_cons.1 h with rfl | h
            · omega
            · have := h1 q h
              omega
        · rintro (rfl | h)
          · exact .inl rfl
          · exact .inr h.1
theorem put_asc {l : List Pos} (hs : Asc l) (p : Pos) : Asc (put l p) := by
  induction l with
  | nil => simp [put, Asc]
  | cons a r ih =>
    obtain ⟨h1, h2⟩ := List.pairwise_cons.1 hs
    simp only [put]
    split
    · refine List.pairwise_cons.2 ⟨fun q hq => ?_, ih h2⟩
      rcases (put_mem h2 p q).1 hq with rfl | h
      · assumption
      · exact h1 q h.1
    · split
      · refine List.pairwise_cons.2 ⟨fun q hq => ?_, h2⟩
        have := h1 q hq
        omega
      · refine List.pairwise_cons.2 ⟨fun q hq => ?_, hs⟩
        rcases List.mem_cons.1 hq with rfl | h
        · omega
        · have := h1 q h
          omega
theorem put_there {l : List Pos} {p q : Pos} (h : fnd l p.key = some q) : put l p = l.set (psn l p.key) p := by
  induction l with
  | nil => simp [fnd] at h
  | cons a r ih =>
    simp only [put, psn]
    split
    · rename_i hlt
      rw [List.set_cons_succ, ih]
      simpa [fnd, psn, hlt] using h
    · rename_i hlt
      have : a.key = p.key := by
        have := fnd_at h
        simp only [psn, if_neg hlt, List.getElem?_cons_zero, Option.some.injEq] at this
        rw [this.1]
        exact this.2
      rw [if_pos this, List.set_cons_zero]
theorem put_new {l : List Pos} {p : Pos} (h : fnd l p.key = none) : put l p = l.take (psn l p.key) ++ p :: l.drop (psn l p.key) := by
  induction l with
  | nil => rfl
  | cons a r ih =>
    simp only [put, psn]
    split
    · rename_i hlt
      rw [List.take_succ_cons, List.drop_succ_cons, List.cons_append, ih]
      simpa [fnd, psn, hlt] using h
    · rename_i hlt
      have : a.key ≠ p.key := by
        intro e
        simp [fnd, psn, hlt, e] at h
      rw [if_neg this]
      rfl
theorem length_put_new {l : List Pos} {p : Pos} (h : fnd l p.key = none) : (put l p).length = l.length + 1 := by
  rw [put_new h]
  have := psn_le l p.key
  simp
  omega
theorem length_put_there {l : List Pos} {p q : Pos} (h : fnd l p.key = some q) : (put l p).length = l.length := by
  rw [put_there h, List.length_set]
theorem length_put_le (l : List Pos) (p : Pos) : (put l p).length ≤ l.length + 1 := by
  cases h : fnd l p.key with
  | none => rw [length_put_new h]; exact Nat.le_refl _
  | some q => rw [length_put_there h]; omega
theorem fnd_put {l : List Pos} (hs : Asc l) (p : Pos) (k : Nat) : fnd (put l p) k = if k = p.key then some p else fnd l k := by
  apply Option.ext
  intro q
  rw [fnd_iff (put_asc hs p), put_mem hs]
  split
  · rename_i h
    rw [Option.some.injEq]
    constructor
    · rintro ⟨rfl | h2, h3⟩
      · rfl
      · omega
    · rintro rfl
      exact ⟨.inl rfl, h.symm⟩
  · rename_i h
    rw [fnd_iff hs]
    constructor
    · rintro ⟨rfl | h2, h3⟩
      · omega
      · exact ⟨h2.1, h3⟩
    · rintro ⟨h1, h2⟩
      exact ⟨.inr ⟨h1, by omega⟩, h2⟩
theorem put_keys {l : List Pos} {p q : Pos} (h : fnd l p.key = some q) : (put l p).map Pos.key = l.map Pos.key := by
  obtain ⟨h1, h2⟩ := fnd_at h
  rw [put_there h, List.map_set]
  apply List.ext_getElem?
  intro i
  by_cases hi : psn l p.key = i
  · subst hi
    have hlt := (List.getElem?_eq_some_iff.1 h1).1
    rw [List.getElem?_set_self (by simpa using hlt), List.getElem?_map, h1, Option.map_some, h2]
  · rw [List.getElem?_set_ne hi]

/-- Many positions put, one behind the other. -/
def puts (s l : List Pos) : List Pos := l.foldl put s
theorem puts_nil (s : List Pos) : puts s [] = s := rfl
theorem puts_cons (s : List Pos) (p : Pos) (l : List Pos) : puts s (p :: l) = puts (put s p) l := rfl
theorem puts_append (s a b : List Pos) : puts s (a ++ b) = puts (puts s a) b := List.foldl_append
theorem puts_snoc (s l : List Pos) (p : Pos) : puts s (l ++ [p]) = put (puts s l) p := by rw [puts_append]; rfl
theorem puts_asc {s : List Pos} (hs : Asc s) (l : List Pos) : Asc (puts s l) := by
  induction l generalizing s with
  | nil => exact hs
  | cons p l ih => exact ih (put_asc hs p)
theorem length_puts (s l : List Pos) : (puts s l).length ≤ s.length + l.length := by
  induction l generalizing s with
  | nil => exact Nat.le_refl _
  | cons p l ih =>
    have h1 := ih (put s p)
    have h2 := length_put_le s p
    rw [puts_cons, List.length_cons]
    omega
theorem puts_mem {s : List Pos} (hs : Asc s) {l : List Pos} {q : Pos} (h : q ∈ puts s l) : q ∈ s ∨ q ∈ l := by
  induction l generalizing s with
  | nil => exact .inl h
  | cons p l ih =>
    rcases ih (put_asc hs p) h with h | h
    · rcases (put_mem hs p q).1 h with rfl | h
      · exact .inr (List.mem_cons_self ..)
      · exact .inl h.1
    · exact .inr (List.mem_cons_of_mem _ h)
/-- The last one of a key. -/
def lastOf (l : List Pos) (k : Nat) : Option Pos := l.reverse.find? (fun q => q.key == k)
theorem fnd_puts {s : List Pos} (hs : Asc s) (l : List Pos) (k : Nat) : fnd (puts s l) k = (lastOf l k).or (fnd s k) := by
  induction l generalizing s with
  | nil => rfl
  | cons p l ih =>
    rw [puts_cons, ih (put_asc hs p), fnd_put hs]
    unfold lastOf
    rw [List.reverse_cons, List.find?_append, Option.or_assoc]
    congr 1
    by_cases h : k = p.key
    · subst h
      simp
    · have : (p.key == k) = false := by simpa using fun e => h e.symm
      simp [this, h]
theorem fnd_nil (k : Nat) : fnd [] k = none := rfl
theorem fnd_puts0 (l : List Pos) (k : Nat) : fnd (puts [] l) k = lastOf l k := by rw [fnd_puts Asc.nil, fnd_nil, Option.or_none]
theorem lastOf_mem {l : List Pos} {k : Nat} {q : Pos} (h : lastOf l k = some q) : q ∈ l ∧ q.key = k := by
  unfold lastOf at h
  exact ⟨by simpa using List.mem_of_find?_eq_some h, by simpa using List.find?_some h⟩
theorem asc_ext {l m : List Pos} (hl : Asc l) (hm : Asc m) (h : ∀ q, q ∈ l ↔ q ∈ m) : l = m := by
  induction l generalizing m with
  | nil =>
    cases m with
    | nil => rfl
    | cons b s => exact absurd ((h b).2 (List.mem_cons_self ..)) (by simp)
  | cons a r ih =>
    cases m with
    | nil => exact absurd ((h a).1 (List.mem_cons_self ..)) (by simp)
    | cons b s =>
      obtain ⟨h1, h2⟩ := List.pairwise_cons.1 hl
      obtain ⟨h3, h4⟩ := List.pairwise_cons.1 hm
      have hab : a = b := by
        rcases List.mem_cons.1 ((h a).1 (List.mem_cons_self ..)) with e | e
        · exact e
        · rcases List.mem_cons.1 ((h b).2 (List.mem_cons_self ..)) with e' | e'
          · exact e'.symm
          · have := h3 a e
            have := h1 b e'
            omega
      subst hab
      congr 1
      refine ih h2 h4 fun q => ⟨fun hq => ?_, fun hq => ?_⟩
      · rcases List.mem_cons.1 ((h q).1 (List.mem_cons_of_mem _ hq)) with rfl | e
        · have := h1 q hq
          omega
        · exact e
      · rcases List.mem_cons.1 ((h q).2 (List.mem_cons_of_mem _ hq)) with rfl | e
        · have := h3 q hq
          omega
        · exact e
/-- Where no key stands for two, what is put is what is there. -/
theorem mem_puts {l : List Pos} (h : ∀ p ∈ l, ∀ q ∈ l, p.key = q.key → p = q) (q : Pos) : q ∈ puts [] l ↔ q ∈ l := by
  rw [mem_fnd (puts_asc Asc.nil l), fnd_puts0]
  constructor
  · intro e
    exact (lastOf_mem e).1
  · intro e
    cases hl : lastOf l q.key with
    | none =>
      unfold lastOf at hl
      rw [List.find?_eq_none] at hl
      exact absurd (beq_self_eq_true q.key) (hl q (by simpa using e))
    | some r =>
      obtain ⟨h1, h2⟩ := lastOf_mem hl
      rw [h r h1 q e h2]
theorem length_puts_apart {s l : List Pos} (hs : Asc s) (hl : l.Pairwise (fun p q => p.key ≠ q.key)) (h : ∀ p ∈ l, ∀ q ∈ s, p.key ≠ q.key) : (puts s l).length = s.length + l.length := by
  induction l generalizing s with
  | nil => rfl
  | cons p l ih =>
    obtain ⟨h1, h2⟩ := List.pairwise_cons.1 hl
    have hn : fnd s p.key = none := by
      cases hf : fnd s p.key with
      | none => rfl
      | some q =>
        obtain ⟨hq1, hq2⟩ := (fnd_iff hs).1 hf
        exact absurd hq2.symm (h p (List.mem_cons_self ..) q hq1)
    rw [puts_cons, ih (put_asc hs p) h2 (fun a ha q hq => ?_), length_put_new hn, List.length_cons]
    · omega
    · rcases (put_mem hs p q).1 hq with rfl | hq
      · exact (h1 a ha).symm
      · exact h a (List.mem_cons_of_mem _ ha) q hq.1
theorem asc_length {z m : List Pos} (hz : Asc z) (h : ∀ q ∈ z, q ∈ m) : z.length ≤ m.length := by
  induction z generalizing m with
  | nil => exact Nat.zero_le _
  | cons a r ih =>
    obtain ⟨h1, h2⟩ := List.pairwise_cons.1 hz
    have ha := h a (List.mem_cons_self ..)
    have := ih (m := m.erase a) h2 (fun q hq => (List.mem_erase_of_ne (fun e => by subst e; have := h1 q hq; omega)).2 (h q (List.mem_cons_of_mem _ hq)))
    have hl := List.length_erase_of_mem ha
    have hp := List.length_pos_of_mem ha
    simp only [List.length_cons]
    omega
theorem psn_zero {l : List Pos} : psn l 0 = 0 := by
  cases l with
  | nil => rfl
  | cons q r => simp [psn]
theorem psn_next {l : List Pos} (hs : Asc l) {c : Nat} {p : Pos} (h : l[c]? = some p) : psn l (p.key + 1) = c + 1 := by
  have hle := psn_le l (p.key + 1)
  have hc := (List.getElem?_eq_some_iff.1 h).1
  have h1 : ¬ psn l (p.key + 1) ≤ c := fun hx => by
    have := psn_above hs h hx
    omega
  by_cases h2 : psn l (p.key + 1) = c + 1
  · exact h2
  · have he : l[c + 1]? = some (pat l (c + 1)) := get_pat (by omega)
    have h3 := psn_below (k := p.key + 1) he (by omega)
    have h4 := hs.lt h he (by omega)
    omega

end Go.Cor
