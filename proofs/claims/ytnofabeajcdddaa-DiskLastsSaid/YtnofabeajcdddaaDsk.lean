/- A disk as plain values: names, files, deeds; what each call does. Of no program. -/
import Derived.Lib.Bytealg
namespace Go.Cor

/-- Two texts by their bytes: below 0, 0, above 0. -/
def ncmp (a b : ByteArray) : Int := Lib.compareBytes a.data.toList b.data.toList
def nlt (a b : ByteArray) : Bool := decide (ncmp a b < 0)

theorem cb_swap : ∀ (a b : List UInt8), Lib.compareBytes b a = - Lib.compareBytes a b
  | [], [] => rfl
  | [], _ :: _ => rfl
  | _ :: _, [] => rfl
  | x :: a, y :: b => by
    unfold Lib.compareBytes
    by_cases h1 : x < y
    · have h2 : ¬ y < x := by simp only [UInt8.lt_iff_toNat_lt] at h1 ⊢; omega
      simp [h1, h2]
    · by_cases h2 : y < x
      · simp [h1, h2]
      · simp only [h1, h2, if_false]
        exact cb_swap a b
theorem cb_eq : ∀ (a b : List UInt8), Lib.compareBytes a b = 0 ↔ a = b
  | [], [] => by simp [Lib.compareBytes]
  | [], _ :: _ => by simp [Lib.compareBytes]
  | _ :: _, [] => by simp [Lib.compareBytes]
  | x :: a, y :: b => by
    unfold Lib.compareBytes
    by_cases h1 : x < y
    · have h3 : x ≠ y := by rintro rfl; exact absurd h1 (by simp only [UInt8.lt_iff_toNat_lt]; omega)
      simp [h1, h3]
    · by_cases h2 : y < x
      · have h3 : x ≠ y := by rintro rfl; exact absurd h2 (by simp only [UInt8.lt_iff_toNat_lt]; omega)
        simp [h1, h2, h3]
      · have h3 : x = y := by
          simp only [UInt8.lt_iff_toNat_lt] at h1 h2
          exact UInt8.toNat_inj.1 (by omega)
        subst h3
        simp only [h1, if_false, List.cons.injEq, true_and]
        exact cb_eq a b
theorem cb_less : ∀ (a b : List UInt8), Op.bytesLess a b = decide (Lib.compareBytes a b < 0)
  | [], [] => by simp [Lib.compareBytes, Op.bytesLess]
  | [], _ :: _ => by simp [Lib.compareBytes, Op.bytesLess]
  | _ :: _, [] => by simp [Lib.compareBytes, Op.bytesLess]
  | x :: a, y :: b => by
    unfold Lib.compareBytes Op.bytesLess
    rw [cb_less a b]
    by_cases h1 : x < y
    · simp [h1]
    · by_cases h2 : y < x
      · have h3 : x ≠ y := by rintro rfl; exact absurd h2 (by simp only [UInt8.lt_iff_toNat_lt]; omega)
        simp [h1, h2, h3]
      · have h3 : x = y := by
          simp only [UInt8.lt_iff_toNat_lt] at h1 h2
          exact UInt8.toNat_inj.1 (by omega)
        subst h3
        simp [h1]
theorem cb_trans : ∀ (a b c : List UInt8), Lib.compareBytes a b < 0 → Lib.compareBytes b c < 0 → Lib.compareBytes a c < 0
  | [], [], _ => by simp [Lib.compareBytes]
  | [], _ :: _, [] => by simp [Lib.compareBytes]
  | [], _ :: _, _ :: _ => by simp [Lib.compareBytes]
  | _ :: _, [], _ => by simp [Lib.compareBytes]
  | _ :: _, _ :: _, [] => by simp [Lib.compareBytes]
  | x :: a, y :: b, z :: c => by
    unfold Lib.compareBytes
    intro h1 h2
    have ih := cb_trans a b c
    simp only [UInt8.lt_iff_toNat_lt] at h1 h2 ⊢
    split at h1
    · split at h2
      · rw [if_pos (by omega)]; decide
      · split at h2
        · omega
        · rw [if_pos (by omega)]; decide
    · split at h1
      · omega
      · split at h2
        · rw [if_pos (by omega)]; decide
        · split at h2
          · omega
          · rw [if_neg (by omega), if_neg (by omega)]
            exact ih h1 h2

theorem ncmp_swap (a b : ByteArray) : ncmp b a = - ncmp a b := cb_swap _ _
theorem ncmp_eq {a b : ByteArray} : ncmp a b = 0 ↔ a = b := by
  unfold ncmp
  rw [cb_eq]
  constructor
  · intro h
    apply ByteArray.ext
    exact Array.toList_inj.1 h
  · rintro rfl; rfl
theorem ncmp_self (a : ByteArray) : ncmp a a = 0 := ncmp_eq.2 rfl
theorem nlt_iff {a b : ByteArray} : nlt a b = true ↔ ncmp a b < 0 := by simp [nlt]
theorem nlt_false {a b : ByteArray} : nlt a b = false ↔ 0 ≤ ncmp a b := by simp [nlt]
theorem nlt_irrefl (a : ByteArray) : nlt a a = false := by rw [nlt_false, ncmp_self]; omega
theorem nlt_trans {a b c : ByteArray} (h : nlt a b = true) (k : nlt b c = true) : nlt a c = true := nlt_iff.2 (cb_trans _ _ _ (nlt_iff.1 h) (nlt_iff.1 k))
theorem nlt_ne {a b : ByteArray} (h : nlt a b = true) : a ≠ b := by rintro rfl; rw [nlt_irrefl] at h; cases h
theorem nlt_asymm {a b : ByteArray} (h : nlt a b = true) : nlt b a = false := by
  rw [nlt_false, ncmp_swap]
  have := nlt_iff.1 h
  omega
theorem nlt_total {a b : ByteArray} (h : nlt a b = false) (hne : a ≠ b) : nlt b a = true := by
  rw [nlt_iff, ncmp_swap]
  have h1 := nlt_false.1 h
  have h2 : ncmp a b ≠ 0 := fun e => hne (ncmp_eq.1 e)
  omega

/-- Names and what has them. -/
abbrev Tbl := List (ByteArray × Nat)
def wout (l : Tbl) (n : ByteArray) : Tbl := l.filter fun e => !decide (e.1 = n)
/-- Where a name stands, or would stand. -/
def pos (l : Tbl) (n : ByteArray) : Nat := (l.takeWhile fun e => nlt e.1 n).length
def wth (l : Tbl) (n : ByteArray) (f : Nat) : Tbl := (wout l n).take (pos (wout l n) n) ++ (n, f) :: (wout l n).drop (pos (wout l n) n)
def tfind : Tbl → ByteArray → Option Nat
  | [], _ => none
  | e :: r, n => if e.1 = n then some e.2 else tfind r n
def Sorted (l : Tbl) : Prop := l.Pairwise fun a b => nlt a.1 b.1 = true

theorem pos_le (l : Tbl) (n : ByteArray) : pos l n ≤ l.length := by
  unfold pos
  exact (List.takeWhile_sublist _).length_le
theorem pos_cons (e : ByteArray × Nat) (r : Tbl) (n : ByteArray) : pos (e :: r) n = if nlt e.1 n = true then pos r n + 1 else 0 := by
  unfold pos
  rw [List.takeWhile_cons]
  split <;> simp
theorem pos_below {l : Tbl} {n : ByteArray} {i : Nat} {e : ByteArray × Nat} (h : l[i]? = some e) (hi : i < pos l n) : nlt e.1 n = true := by
  induction l generalizing i with
  | nil => simp at h
  | cons x r ih =>
    rw [pos_cons] at hi
    split at hi
    · cases i with
      | zero => simp only [List.getElem?_cons_zero, Option.some.injEq] at h; subst h; assumption
      | succ i => exact ih (by simpa using h) (by omega)
    · omega
theorem pos_above {l : Tbl} (hs : Sorted l) {n : ByteArray} {i : Nat} {e : ByteArray × Nat} (h : l[i]? = some e) (hi : pos l n ≤ i) : nlt e.1 n = false := by
  induction l generalizing i with
  | nil => simp at h
  | cons x r ih =>
    have hs' := List.pairwise_cons.1 hs
    rw [pos_cons] at hi
    split at hi
    · cases i with
      | zero => omega
      | succ i => exact ih hs'.2 (by simpa using h) (by omega)
    · rename_i hx
      have hx' : nlt x.1 n = false := by simpa using hx
      cases i with
      | zero => simp only [List.getElem?_cons_zero, Option.some.injEq] at h; subst h; exact hx'
      | succ i =>
        have hm : e ∈ r := List.mem_of_getElem? (by simpa using h)
        have h1 := hs'.1 e hm
        cases h2 : nlt e.1 n with
        | false => rfl
        | true => rw [nlt_trans h1 h2] at hx'; cases hx'
theorem wout_none {l : Tbl} {n : ByteArray} (h : tfind l n = none) : wout l n = l := by
  unfold wout
  rw [List.filter_eq_self]
  induction l with
  | nil => intro a ha; cases ha
  | cons e r ih =>
    unfold tfind at h
    split at h
    · cases h
    · rename_i hne
      intro a ha
      rcases List.mem_cons.1 ha with rfl | ha
      · simpa using hne
      · exact ih h a ha
theorem tfind_mem {l : Tbl} {n : ByteArray} {f : Nat} (h : tfind l n = some f) : (n, f) ∈ l := by
  induction l with
  | nil => cases h
  | cons e r ih =>
    unfold tfind at h
    split at h
    · rename_i hn
      cases h
      subst hn
      exact List.mem_cons_self ..
    · exact List.mem_cons_of_mem _ (ih h)
theorem tfind_none {l : Tbl} {n : ByteArray} : tfind l n = none ↔ ∀ e ∈ l, e.1 ≠ n := by
  induction l with
  | nil => simp [tfind]
  | cons e r ih =>
    unfold tfind
    by_cases h : e.1 = n
    · simp [h]
    · simp [h, ih]
theorem sorted_inj {l : Tbl} (hs : Sorted l) {a b : ByteArray × Nat} (ha : a ∈ l) (hb : b ∈ l) (h : a.1 = b.1) : a = b := by
  induction l with
  | nil => cases ha
  | cons e r ih =>
    have hs' := List.pairwise_cons.1 hs
    rcases List.mem_cons.1 ha with rfl | ha'
    · rcases List.mem_cons.1 hb with rfl | hb'
      · rfl
      · exact absurd h (nlt_ne (hs'.1 b hb'))
    · rcases List.mem_cons.1 hb with rfl | hb'
      · exact absurd h.symm (nlt_ne (hs'.1 a ha'))
      · exact ih hs'.2 ha' hb'
/-- What stands at a name's place. -/
theorem tfind_pos {l : Tbl} (hs : Sorted l) (n : ByteArray) : tfind l n = match l[pos l n]? with | some e => if e.1 = n then some e.2 else none | none => none := by
  induction l with
  | nil => rfl
  | cons e r ih =>
    have hs' := List.pairwise_cons.1 hs
    rw [pos_cons]
    unfold tfind
    by_cases hn : e.1 = n
    · simp [hn, nlt_irrefl]
    · by_cases hl : nlt e.1 n = true
      · rw [if_neg hn, if_pos hl, ih hs'.2]
        simp
      · rw [if_neg hn, if_neg hl]
        simp only [List.getElem?_cons_zero, if_neg hn]
        rw [tfind_none]
        intro x hx hxn
        have h1 := hs'.1 x hx
        rw [hxn] at h1
        exact hl h1
theorem tfind_at {l : Tbl} (hs : Sorted l) {n : ByteArray} {f : Nat} (h : tfind l n = some f) : l[pos l n]? = some (n, f) := by
  rw [tfind_pos hs] at h
  split at h
  · rename_i e he
    split at h
    · rename_i hn
      cases h
      rw [he, ← hn]
    · cases h
  · cases h
theorem wout_sublist (l : Tbl) (n : ByteArray) : (wout l n).Sublist l := List.filter_sublist
theorem wout_sorted {l : Tbl} (hs : Sorted l) (n : ByteArray) : Sorted (wout l n) := hs.sublist (wout_sublist l n)
theorem wout_length (l : Tbl) (n : ByteArray) : (wout l n).length ≤ l.length := (wout_sublist l n).length_le
theorem wout_find (l : Tbl) (n : ByteArray) : tfind (wout l n) n = none := by
  rw [tfind_none]
  intro e he
  have := (List.mem_filter.1 he).2
  simpa using this
theorem eraseIdx_eq (l : Tbl) (i : Nat) (n : ByteArray) (h : ∀ j e, l[j]? = some e → (e.1 = n ↔ j = i)) : l.eraseIdx i = wout l n := by
  induction l generalizing i with
  | nil => rfl
  | cons x r ih =>
    cases i with
    | zero =>
      have hx := (h 0 x rfl).2 rfl
      have hr : wout r n = r := by
        unfold wout
        rw [List.filter_eq_self]
        intro a ha
        obtain ⟨j, hj⟩ := List.getElem?_of_mem ha
        have := h (j + 1) a (by simpa using hj)
        simp only [Nat.add_eq_zero_iff, Nat.succ_ne_self, and_false, iff_false] at this
        simpa using this
      simp [wout, hx]
      exact hr.symm
    | succ i =>
      have hx : ¬ x.1 = n := fun e => by have := (h 0 x rfl).1 e; omega
      rw [List.eraseIdx_cons_succ, ih i (fun j e he => by
        have := h (j + 1) e (by simpa using he)
        rw [this]
        omega)]
      simp [wout, hx]
theorem erase_pos {l : Tbl} (hs : Sorted l) {n : ByteArray} {f : Nat} (h : tfind l n = some f) : l.eraseIdx (pos l n) = wout l n := by
  refine eraseIdx_eq l _ n fun j e he => ⟨fun hn => ?_, fun hj => ?_⟩
  · have h1 := tfind_at hs h
    have h2 : ¬ j < pos l n := fun hlt => nlt_ne (pos_below he hlt) hn
    by_cases h3 : j = pos l n
    · exact h3
    · have hp : pos l n < j := by omega
      have hjl : j < l.length := (List.getElem?_eq_some_iff.1 he).1
      have hpl : pos l n < l.length := by omega
      have := List.pairwise_iff_getElem.1 hs (pos l n) j hpl hjl hp
      rw [(List.getElem?_eq_some_iff.1 he).2, (List.getElem?_eq_some_iff.1 h1).2, hn] at this
      rw [nlt_irrefl] at this
      cases this
  · subst hj
    rw [tfind_at hs h] at he
    cases he
    rfl
theorem erase_take_drop (l : Tbl) (i : Nat) : l.eraseIdx i = l.take i ++ l.drop (i + 1) := List.eraseIdx_eq_take_drop_succ ..

theorem pos_append {a b : Tbl} {n : ByteArray} (h : ∀ e ∈ a, nlt e.1 n = true) (hb : ∀ e, b.head? = some e → nlt e.1 n = false) : pos (a ++ b) n = a.length := by
  induction a with
  | nil =>
    cases b with
    | nil => rfl
    | cons e r => rw [List.nil_append, pos_cons, hb e rfl]; rfl
  | cons x a ih =>
    rw [List.cons_append, pos_cons, h x (List.mem_cons_self ..), if_pos rfl, ih (fun e he => h e (List.mem_cons_of_mem _ he)), List.length_cons]
/-- A name that is there gets another file. -/
theorem set_pos {l : Tbl} (hs : Sorted l) {n : ByteArray} {f g : Nat} (h : tfind l n = some f) : l.set (pos l n) (n, g) = wth l n g := by
  have hat := tfind_at hs h
  obtain ⟨hlt, hge⟩ := List.getElem?_eq_some_iff.1 hat
  have hw : wout l n = l.take (pos l n) ++ l.drop (pos l n + 1) := by rw [← erase_pos hs h, erase_take_drop]
  have hp : pos (wout l n) n = pos l n := by
    rw [hw, pos_append (a := l.take (pos l n))]
    · rw [List.length_take]
      omega
    · intro e he
      obtain ⟨j, hj⟩ := List.getElem?_of_mem he
      rw [List.getElem?_take] at hj
      split at hj
      · exact pos_below hj (by assumption)
      · cases hj
    · intro e he
      rw [List.head?_drop] at he
      exact pos_above hs he (by omega)
  unfold wth
  rw [hp, hw]
  have hlen : (l.take (pos l n)).length = pos l n := by rw [List.length_take]; omega
  rw [List.take_append_of_le_length (by omega), List.take_of_length_le (by omega), List.drop_append_of_le_length (by omega), List.drop_of_length_le (by omega), List.nil_append]
  rw [List.set_eq_take_append_cons_drop, if_pos hlt]
/-- A name that isn't there is laid in. -/
theorem ins_pos {l : Tbl} {n : ByteArray} (h : tfind l n = none) (f : Nat) : l.take (pos l n) ++ (n, f) :: l.drop (pos l n) = wth l n f := by
  unfold wth
  rw [wout_none h]
theorem wth_length (l : Tbl) (n : ByteArray) (f : Nat) : (wth l n f).length = (wout l n).length + 1 := by
  unfold wth
  have := pos_le (wout l n) n
  simp
  omega
theorem wth_mem {l : Tbl} {n : ByteArray} {f : Nat} {e : ByteArray × Nat} (h : e ∈ wth l n f) : e = (n, f) ∨ e ∈ l := by
  unfold wth at h
  rcases List.mem_append.1 h with h | h
  · exact .inr ((wout_sublist l n).mem (List.mem_of_mem_take h))
  · rcases List.mem_cons.1 h with h | h
    · exact .inl h
    · exact .inr ((wout_sublist l n).mem (List.mem_of_mem_drop h))
theorem wth_sorted {l : Tbl} (hs : Sorted l) (n : ByteArray) (f : Nat) : Sorted (wth l n f) := by
  have hw := wout_sorted hs n
  have hnone := wout_find l n
  unfold wth
  generalize wout l n = k at hw hnone
  unfold Sorted
  rw [List.pairwise_append]
  refine ⟨hw.sublist (List.take_sublist _ _), ?_, ?_⟩
  · rw [List.pairwise_cons]
    refine ⟨fun e he => ?_, hw.sublist (List.drop_sublist _ _)⟩
    obtain ⟨j, hj⟩ := List.getElem?_of_mem he
    rw [List.getElem?_drop] at hj
    exact nlt_total (pos_above hw hj (by show pos k n ≤ _; omega)) (tfind_none.1 hnone e (List.mem_of_getElem? hj))
  · intro a ha b hb
    obtain ⟨i, hi⟩ := List.getElem?_of_mem ha
    rw [List.getElem?_take] at hi
    split at hi
    · rename_i hip
      rcases List.mem_cons.1 hb with rfl | hb
      · exact pos_below hi hip
      · obtain ⟨j, hj⟩ := List.getElem?_of_mem hb
        rw [List.getElem?_drop] at hj
        have hil := (List.getElem?_eq_some_iff.1 hi)
        have hjl := (List.getElem?_eq_some_iff.1 hj)
        have := List.pairwise_iff_getElem.1 hw i (pos k n + j) hil.1 hjl.1 (by omega)
        rw [hil.2, hjl.2] at this
        exact this
    · cases hi

/-- A file: its bytes, and how many of the first ones last. -/
structure Fil where
  b : List UInt8
  lasts : Nat
/-- A deed of names: from one to another ('' is none). -/
structure Dd where
  src : ByteArray
  dst : ByteArray
  file : Nat
structure Pck where
  keep : Int
  turn : UInt8
structure Dsk where
  cap : Nat
  files : List Fil
  now : Tbl
  las : Tbl
  deeds : List Dd
  armed : Option Nat

def noName : ByteArray := ⟨#[]⟩
def turnT (l : Tbl) (x : Dd) : Tbl := if x.dst = noName then wout l x.src else wth (wout l x.src) x.dst x.file
def fat (fs : List Fil) (k : Nat) : Fil := fs.getD k ⟨[], 0⟩
def usedT (fs : List Fil) : Tbl → Nat
  | [] => 0
  | e :: r => (fat fs e.2).b.length + usedT fs r
def Dsk.used (d : Dsk) : Nat := usedT d.files d.now

/-- Is it a byte of a name? -/
def okB (c : UInt8) : Bool := decide (97 ≤ c ∧ c ≤ 122 ∨ 48 ≤ c ∧ c ≤ 57 ∨ c = 46)
def isNm (s : ByteArray) : Bool := decide (1 ≤ s.size ∧ s.size ≤ 32) && s.data.toList.all okB

def Dsk.done (d : Dsk) : Dsk := { d with armed := d.armed.map (· - 1) }
def Dsk.nameD (d : Dsk) (x : Dd) : Dsk := { d with now := turnT d.now x, deeds := d.deeds ++ [x] }.done
def Dsk.setF (d : Dsk) (k : Nat) (f : Fil) : Dsk := { d with files := d.files.set k f }
def Dsk.syncN (d : Dsk) : Dsk := { d with las := d.now, deeds := [] }

def Dsk.create (d : Dsk) (n : ByteArray) : Dsk × Nat :=
  if d.armed = some 0 then (d, 12) else if isNm n = false then (d, 1) else if (tfind d.now n).isSome = true then (d, 8) else if 64 ≤ d.now.length then (d, 11)
  else (({ d with files := d.files ++ [⟨[], 0⟩] } : Dsk).nameD ⟨noName, n, d.files.length⟩, 0)
/-- What a call does with the file that has a name. -/
def Dsk.on {α : Type} (d : Dsk) (n : ByteArray) (no : Nat → α) (f : Nat → α) : α :=
  if d.armed = some 0 then no 12 else match tfind d.now n with | none => no 6 | some k => f k
def Dsk.append (d : Dsk) (n : ByteArray) (b : List UInt8) : Dsk × Nat :=
  d.on n (fun c => (d, c)) fun k =>
    if 16777216 < (fat d.files k).b.length + b.length then (d, 2) else if d.cap < d.used + b.length then (d, 11)
    else ((d.setF k ⟨(fat d.files k).b ++ b, (fat d.files k).lasts⟩).done, 0)
def Dsk.read (d : Dsk) (n : ByteArray) (off m : Int) : List UInt8 × Nat :=
  d.on n (fun c => ([], c)) fun k =>
    if off < 0 ∨ m < 0 then ([], 1) else if (fat d.files k).b.length < off + m then ([], 3) else (((fat d.files k).b.drop off.toNat).take m.toNat, 0)
def Dsk.size (d : Dsk) (n : ByteArray) : Nat × Nat := d.on n (fun c => (0, c)) fun k => ((fat d.files k).b.length, 0)
def Dsk.sync (d : Dsk) (n : ByteArray) : Dsk × Nat :=
  d.on n (fun c => (d, c)) fun k => ((d.setF k ⟨(fat d.files k).b, (fat d.files k).b.length⟩).done, 0)
def Dsk.syncNames (d : Dsk) : Dsk × Nat := if d.armed = some 0 then (d, 12) else (d.syncN.done, 0)
def Dsk.rename (d : Dsk) (n t : ByteArray) : Dsk × Nat :=
  d.on n (fun c => (d, c)) fun k => if isNm t = false then (d, 1) else (d.nameD ⟨n, t, k⟩, 0)
def Dsk.remove (d : Dsk) (n : ByteArray) : Dsk × Nat := d.on n (fun c => (d, c)) fun _ => (d.nameD ⟨n, noName, 0⟩, 0)
def Dsk.cut (d : Dsk) (n : ByteArray) (m : Int) : Dsk × Nat :=
  d.on n (fun c => (d, c)) fun k => if m < 0 ∨ (fat d.files k).b.length < m then (d, 1) else ((d.setF k ⟨(fat d.files k).b.take m.toNat, m.toNat⟩).done, 0)
def Dsk.arm (d : Dsk) (m : Int) : Dsk × Nat := if d.armed = some 0 then (d, 12) else if m < 0 then (d, 1) else ({ d with armed := some m.toNat }, 0)
def Dsk.spoil (d : Dsk) (n : ByteArray) (off : Int) (x : UInt8) : Dsk × Nat :=
  d.on n (fun c => (d, c)) fun k =>
    if off < 0 ∨ (fat d.files k).b.length ≤ off then (d, 1) else (d.setF k ⟨(fat d.files k).b.set off.toNat ((fat d.files k).b.getD off.toNat 0 ^^^ x), (fat d.files k).lasts⟩, 0)

/-- The nearest to n from 0 to m. -/
def clampN (n : Int) (m : Nat) : Nat := min n.toNat m
def fallF (f : Fil) (p : Pck) : Fil :=
  let q := f.lasts + clampN p.keep (f.b.length - f.lasts)
  ⟨if 0 < clampN p.keep (f.b.length - f.lasts) then (f.b.take q).set (q - 1) (f.b.getD (q - 1) 0 ^^^ p.turn) else f.b.take q, q⟩
def pickAt (ps : List Pck) (k : Nat) : Pck := ps.getD k ⟨0, 0⟩
def fallAll (ps : List Pck) : List Fil → Tbl → List Fil
  | fs, [] => fs
  | fs, e :: r => fallAll ps (fs.set e.2 (fallF (fat fs e.2) (pickAt ps e.2))) r
def Dsk.crash (d : Dsk) (names : Int) (ps : List Pck) : Dsk :=
  let t := (d.deeds.take (clampN names d.deeds.length)).foldl turnT d.las
  { d with now := t, las := t, deeds := [], files := fallAll ps d.files t, armed := none }

/-- What holds of every disk. k: how many calls there were. -/
structure Dsk.Ok (d : Dsk) (k : Nat) : Prop where
  cap : d.cap ≤ 1073741824
  nowS : Sorted d.now
  lasS : Sorted d.las
  nowF : ∀ e ∈ d.now, e.2 < d.files.length ∧ isNm e.1 = true
  lasF : ∀ e ∈ d.las, e.2 < d.files.length ∧ isNm e.1 = true
  deeF : ∀ x ∈ d.deeds, (x.dst = noName ∨ isNm x.dst = true ∧ x.file < d.files.length) ∧ (x.src = noName ∨ isNm x.src = true) ∧ (x.src = noName → x.dst ≠ noName)
  fil : ∀ f ∈ d.files, f.lasts ≤ f.b.length ∧ f.b.length ≤ 16777216
  filN : d.files.length ≤ k
  nowN : d.now.length ≤ d.las.length + d.deeds.length
  lenN : d.las.length + d.deeds.length ≤ k
  arm : ∀ n, d.armed = some n → n < 9223372036854775808

end Go.Cor
