/- Dsk, Bytes, Strs, Names, Kept, Row, Tab, Tabd. -/
import Derived.Lib.Bytealg
import Derived.WalkKit
import Derived.Laws.CopyOwn
import Derived.Laws.OwnMore
import Derived.Laws.MakeOwn
import Derived.Below
import Derived.Lib.Hide
import Derived.BigFrame
import Derived.Laws.Bits64
import Derived.Laws.BitsAllLaws
import Derived.Test.YtoblbipkkdiddaaGreatDoorChecked
import Derived.Lib.Strings
import Derived.Lib.BufferWrite
import Derived.Lib.UnsafeStr
import Derived.WalkLawsBesides
import Derived.WalkSpells
import Derived.Maps.AppendAt
import Derived.Lib.AppendZerosOnto
import Derived.ArgAppend
import Derived.IntWalk
import Derived.Outline
import Derived.Lib.SliceRun
import Derived.Lib.Overlaps
import Derived.Deep.RegionLaw
set_option linter.unusedVariables false
set_option linter.unusedSimpArgs false

section
namespace Go.Cor

/-- Two texts by their bytes: below 0, 0, above 0. -/
def ncmp (a b : ByteArray) : Int := Lib.compareBytes a.data.toList b.data.toList
def nlt (a b : ByteArray) : Bool := decide (ncmp a b < 0)

theorem cb_swap : ∀ (a b : List UInt8), Lib.compareBytes b a = - Lib.compareBytes a b
  | [], [] => rfl
  | [], _ :: _ => rfl
  | _ :: _, [] => rfl
  | x :: a, y :: b => by
    unfold Lib.compareBytes
    by_cases h1 : x < y
    · have h2 : ¬ y < x := by simp only [UInt8.lt_iff_toNat_lt] at h1 ⊢; omega
      simp [h1, h2]
    · by_cases h2 : y < x
      · simp [h1, h2]
      · simp only [h1, h2, if_false]
        exact cb_swap a b
theorem cb_eq : ∀ (a b : List UInt8), Lib.compareBytes a b = 0 ↔ a = b
  | [], [] => by simp [Lib.compareBytes]
  | [], _ :: _ => by simp [Lib.compareBytes]
  | _ :: _, [] => by simp [Lib.compareBytes]
  | x :: a, y :: b => by
    unfold Lib.compareBytes
    by_cases h1 : x < y
    · have h3 : x ≠ y := by rintro rfl; exact absurd h1 (by simp only [UInt8.lt_iff_toNat_lt]; omega)
      simp [h1, h3]
    · by_cases h2 : y < x
      · have h3 : x ≠ y := by rintro rfl; exact absurd h2 (by simp only [UInt8.lt_iff_toNat_lt]; omega)
        simp [h1, h2, h3]
      · have h3 : x = y := by
          simp only [UInt8.lt_iff_toNat_lt] at h1 h2
          exact UInt8.toNat_inj.1 (by omega)
        subst h3
        simp only [h1, if_false, List.cons.injEq, true_and]
        exact cb_eq a b
theorem cb_trans : ∀ (a b c : List UInt8), Lib.compareBytes a b < 0 → Lib.compareBytes b c < 0 → Lib.compareBytes a c < 0
  | [], [], _ => by simp [Lib.compareBytes]
  | [], _ :: _, [] => by simp [Lib.compareBytes]
  | [], _ :: _, _ :: _ => by simp [Lib.compareBytes]
  | _ :: _, [], _ => by simp [Lib.compareBytes]
  | _ :: _, _ :: _, [] => by simp [Lib.compareBytes]
  | x :: a, y :: b, z :: c => by
    unfold Lib.compareBytes
    intro h1 h2
    have ih := cb_trans a b c
    simp only [UInt8.lt_iff_toNat_lt] at h1 h2 ⊢
    split at h1
    · split at h2
      · rw [if_pos (by omega)]; decide
      · split at h2
        · omega
        · rw [if_pos (by omega)]; decide
    · split at h1
      · omega
      · split at h2
        · rw [if_pos (by omega)]; decide
        · split at h2
          · omega
          · rw [if_neg (by omega), if_neg (by omega)]
            exact ih h1 h2

theorem ncmp_swap (a b : ByteArray) : ncmp b a = - ncmp a b := cb_swap _ _
theorem ncmp_eq {a b : ByteArray} : ncmp a b = 0 ↔ a = b := by
  unfold ncmp
  rw [cb_eq]
  constructor
  · intro h
    apply ByteArray.ext
    exact Array.toList_inj.1 h
  · rintro rfl; rfl
theorem ncmp_self (a : ByteArray) : ncmp a a = 0 := ncmp_eq.2 rfl
theorem nlt_iff {a b : ByteArray} : nlt a b = true ↔ ncmp a b < 0 := by simp [nlt]
theorem nlt_false {a b : ByteArray} : nlt a b = false ↔ 0 ≤ ncmp a b := by simp [nlt]
theorem nlt_irrefl (a : ByteArray) : nlt a a = false := by rw [nlt_false, ncmp_self]; omega
theorem nlt_trans {a b c : ByteArray} (h : nlt a b = true) (k : nlt b c = true) : nlt a c = true := nlt_iff.2 (cb_trans _ _ _ (nlt_iff.1 h) (nlt_iff.1 k))
theorem nlt_ne {a b : ByteArray} (h : nlt a b = true) : a ≠ b := by rintro rfl; rw [nlt_irrefl] at h; cases h
theorem nlt_total {a b : ByteArray} (h : nlt a b = false) (hne : a ≠ b) : nlt b a = true := by
  rw [nlt_iff, ncmp_swap]
  have h1 := nlt_false.1 h
  have h2 : ncmp a b ≠ 0 := fun e => hne (ncmp_eq.1 e)
  omega

/-- Names and what has them. -/
abbrev Tbl := List (ByteArray × Nat)
def wout (l : Tbl) (n : ByteArray) : Tbl := l.filter fun e => !decide (e.1 = n)
/-- Where a name stands, or would stand. -/
def pos (l : Tbl) (n : ByteArray) : Nat := (l.takeWhile fun e => nlt e.1 n).length
def wth (l : Tbl) (n : ByteArray) (f : Nat) : Tbl := (wout l n).take (pos (wout l n) n) ++ (n, f) :: (wout l n).drop (pos (wout l n) n)
def tfind : Tbl → ByteArray → Option Nat
  | [], _ => none
  | e :: r, n => if e.1 = n then some e.2 else tfind r n
def Sorted (l : Tbl) : Prop := l.Pairwise fun a b => nlt a.1 b.1 = true

theorem pos_le (l : Tbl) (n : ByteArray) : pos l n ≤ l.length := by
  unfold pos
  exact (List.takeWhile_sublist _).length_le
theorem pos_cons (e : ByteArray × Nat) (r : Tbl) (n : ByteArray) : pos (e :: r) n = if nlt e.1 n = true then pos r n + 1 else 0 := by
  unfold pos
  rw [List.takeWhile_cons]
  split <;> simp
theorem pos_below {l : Tbl} {n : ByteArray} {i : Nat} {e : ByteArray × Nat} (h : l[i]? = some e) (hi : i < pos l n) : nlt e.1 n = true := by
  induction l generalizing i with
  | nil => simp at h
  | cons x r ih =>
    rw [pos_cons] at hi
    split at hi
    · cases i with
      | zero => simp only [List.getElem?_cons_zero, Option.some.injEq] at h; subst h; assumption
      | succ i => exact ih (by simpa using h) (by omega)
    · omega
theorem pos_above {l : Tbl} (hs : Sorted l) {n : ByteArray} {i : Nat} {e : ByteArray × Nat} (h : l[i]? = some e) (hi : pos l n ≤ i) : nlt e.1 n = false := by
  induction l generalizing i with
  | nil => simp at h
  | cons x r ih =>
    have hs' := List.pairwise_cons.1 hs
    rw [pos_cons] at hi
    split at hi
    · cases i with
      | zero => omega
      | succ i => exact ih hs'.2 (by simpa using h) (by omega)
    · rename_i hx
      have hx' : nlt x.1 n = false := by simpa using hx
      cases i with
      | zero => simp only [List.getElem?_cons_zero, Option.some.injEq] at h; subst h; exact hx'
      | succ i =>
        have hm : e ∈ r := List.mem_of_getElem? (by simpa using h)
        have h1 := hs'.1 e hm
        cases h2 : nlt e.1 n with
        | false => rfl
        | true => rw [nlt_trans h1 h2] at hx'; cases hx'
theorem wout_none {l : Tbl} {n : ByteArray} (h : tfind l n = none) : wout l n = l := by
  unfold wout
  rw [List.filter_eq_self]
  induction l with
  | nil => intro a ha; cases ha
  | cons e r ih =>
    unfold tfind at h
    split at h
    · cases h
    · rename_i hne
      intro a ha
      rcases List.mem_cons.1 ha with rfl | ha
      · simpa using hne
      · exact ih h a ha
theorem tfind_mem {l : Tbl} {n : ByteArray} {f : Nat} (h : tfind l n = some f) : (n, f) ∈ l := by
  induction l with
  | nil => cases h
  | cons e r ih =>
    unfold tfind at h
    split at h
    · rename_i hn
      cases h
      subst hn
      exact List.mem_cons_self ..
    · exact List.mem_cons_of_mem _ (ih h)
theorem tfind_none {l : Tbl} {n : ByteArray} : tfind l n = none ↔ ∀ e ∈ l, e.1 ≠ n := by
  induction l with
  | nil => simp [tfind]
  | cons e r ih =>
    unfold tfind
    by_cases h : e.1 = n
    · simp [h]
    · simp [h, ih]
/-- What stands at a name's place. -/
theorem tfind_pos {l : Tbl} (hs : Sorted l) (n : ByteArray) : tfind l n = match l[pos l n]? with | some e => if e.1 = n then some e.2 else none | none => none := by
  induction l with
  | nil => rfl
  | cons e r ih =>
    have hs' := List.pairwise_cons.1 hs
    rw [pos_cons]
    unfold tfind
    by_cases hn : e.1 = n
    · simp [hn, nlt_irrefl]
    · by_cases hl : nlt e.1 n = true
      · rw [if_neg hn, if_pos hl, ih hs'.2]
        simp
      · rw [if_neg hn, if_neg hl]
        simp only [List.getElem?_cons_zero, if_neg hn]
        rw [tfind_none]
        intro x hx hxn
        have h1 := hs'.1 x hx
        rw [hxn] at h1
        exact hl h1
theorem tfind_at {l : Tbl} (hs : Sorted l) {n : ByteArray} {f : Nat} (h : tfind l n = some f) : l[pos l n]? = some (n, f) := by
  rw [tfind_pos hs] at h
  split at h
  · rename_i e he
    split at h
    · rename_i hn
      cases h
      rw [he, ← hn]
    · cases h
  · cases h
theorem wout_sublist (l : Tbl) (n : ByteArray) : (wout l n).Sublist l := List.filter_sublist
theorem wout_sorted {l : Tbl} (hs : Sorted l) (n : ByteArray) : Sorted (wout l n) := hs.sublist (wout_sublist l n)
theorem wout_length (l : Tbl) (n : ByteArray) : (wout l n).length ≤ l.length := (wout_sublist l n).length_le
theorem wout_find (l : Tbl) (n : ByteArray) : tfind (wout l n) n = none := by
  rw [tfind_none]
  intro e he
  have := (List.mem_filter.1 he).2
  simpa using this
theorem eraseIdx_eq (l : Tbl) (i : Nat) (n : ByteArray) (h : ∀ j e, l[j]? = some e → (e.1 = n ↔ j = i)) : l.eraseIdx i = wout l n := by
  induction l generalizing i with
  | nil => rfl
  | cons x r ih =>
    cases i with
    | zero =>
      have hx := (h 0 x rfl).2 rfl
      have hr : wout r n = r := by
        unfold wout
        rw [List.filter_eq_self]
        intro a ha
        obtain ⟨j, hj⟩ := List.getElem?_of_mem ha
        have := h (j + 1) a (by simpa using hj)
        simp only [Nat.add_eq_zero_iff, Nat.succ_ne_self, and_false, iff_false] at this
        simpa using this
      simp [wout, hx]
      exact hr.symm
    | succ i =>
      have hx : ¬ x.1 = n := fun e => by have := (h 0 x rfl).1 e; omega
      rw [List.eraseIdx_cons_succ, ih i (fun j e he => by
        have := h (j + 1) e (by simpa using he)
        rw [this]
        omega)]
      simp [wout, hx]
theorem erase_pos {l : Tbl} (hs : Sorted l) {n : ByteArray} {f : Nat} (h : tfind l n = some f) : l.eraseIdx (pos l n) = wout l n := by
  refine eraseIdx_eq l _ n fun j e he => ⟨fun hn => ?_, fun hj => ?_⟩
  · have h1 := tfind_at hs h
    have h2 : ¬ j < pos l n := fun hlt => nlt_ne (pos_below he hlt) hn
    by_cases h3 : j = pos l n
    · exact h3
    · have hp : pos l n < j := by omega
      have hjl : j < l.length := (List.getElem?_eq_some_iff.1 he).1
      have hpl : pos l n < l.length := by omega
      have := List.pairwise_iff_getElem.1 hs (pos l n) j hpl hjl hp
      rw [(List.getElem?_eq_some_iff.1 he).2, (List.getElem?_eq_some_iff.1 h1).2, hn] at this
      rw [nlt_irrefl] at this
      cases this
  · subst hj
    rw [tfind_at hs h] at he
    cases he
    rfl
theorem erase_take_drop (l : Tbl) (i : Nat) : l.eraseIdx i = l.take i ++ l.drop (i + 1) := List.eraseIdx_eq_take_drop_succ ..

theorem pos_append {a b : Tbl} {n : ByteArray} (h : ∀ e ∈ a, nlt e.1 n = true) (hb : ∀ e, b.head? = some e → nlt e.1 n = false) : pos (a ++ b) n = a.length := by
  induction a with
  | nil =>
    cases b with
    | nil => rfl
    | cons e r => rw [List.nil_append, pos_cons, hb e rfl]; rfl
  | cons x a ih =>
    rw [List.cons_append, pos_cons, h x (List.mem_cons_self ..), if_pos rfl, ih (fun e he => h e (List.mem_cons_of_mem _ he)), List.length_cons]
/-- A name that is there gets another file. -/
theorem set_pos {l : Tbl} (hs : Sorted l) {n : ByteArray} {f g : Nat} (h : tfind l n = some f) : l.set (pos l n) (n, g) = wth l n g := by
  have hat := tfind_at hs h
  obtain ⟨hlt, hge⟩ := List.getElem?_eq_some_iff.1 hat
  have hw : wout l n = l.take (pos l n) ++ l.drop (pos l n + 1) := by rw [← erase_pos hs h, erase_take_drop]
  have hp : pos (wout l n) n = pos l n := by
    rw [hw, pos_append (a := l.take (pos l n))]
    · rw [List.length_take]
      omega
    · intro e he
      obtain ⟨j, hj⟩ := List.getElem?_of_mem he
      rw [List.getElem?_take] at hj
      split at hj
      · exact pos_below hj (by assumption)
      · cases hj
    · intro e he
      rw [List.head?_drop] at he
      exact pos_above hs he (by omega)
  unfold wth
  rw [hp, hw]
  have hlen : (l.take (pos l n)).length = pos l n := by rw [List.length_take]; omega
  rw [List.take_append_of_le_length (by omega), List.take_of_length_le (by omega), List.drop_append_of_le_length (by omega), List.drop_of_length_le (by omega), List.nil_append]
  rw [List.set_eq_take_append_cons_drop, if_pos hlt]
/-- A name that isn't there is laid in. -/
theorem ins_pos {l : Tbl} {n : ByteArray} (h : tfind l n = none) (f : Nat) : l.take (pos l n) ++ (n, f) :: l.drop (pos l n) = wth l n f := by
  unfold wth
  rw [wout_none h]
theorem wth_length (l : Tbl) (n : ByteArray) (f : Nat) : (wth l n f).length = (wout l n).length + 1 := by
  unfold wth
  have := pos_le (wout l n) n
  simp
  omega
theorem wth_mem {l : Tbl} {n : ByteArray} {f : Nat} {e : ByteArray × Nat} (h : e ∈ wth l n f) : e = (n, f) ∨ e ∈ l := by
  unfold wth at h
  rcases List.mem_append.1 h with h | h
  · exact .inr ((wout_sublist l n).mem (List.mem_of_mem_take h))
  · rcases List.mem_cons.1 h with h | h
    · exact .inl h
    · exact .inr ((wout_sublist l n).mem (List.mem_of_mem_drop h))
theorem wth_sorted {l : Tbl} (hs : Sorted l) (n : ByteArray) (f : Nat) : Sorted (wth l n f) := by
  have hw := wout_sorted hs n
  have hnone := wout_find l n
  unfold wth
  generalize wout l n = k at hw hnone
  unfold Sorted
  rw [List.pairwise_append]
  refine ⟨hw.sublist (List.take_sublist _ _), ?_, ?_⟩
  · rw [List.pairwise_cons]
    refine ⟨fun e he => ?_, hw.sublist (List.drop_sublist _ _)⟩
    obtain ⟨j, hj⟩ := List.getElem?_of_mem he
    rw [List.getElem?_drop] at hj
    exact nlt_total (pos_above hw hj (by show pos k n ≤ _; omega)) (tfind_none.1 hnone e (List.mem_of_getElem? hj))
  · intro a ha b hb
    obtain ⟨i, hi⟩ := List.getElem?_of_mem ha
    rw [List.getElem?_take] at hi
    split at hi
    · rename_i hip
      rcases List.mem_cons.1 hb with rfl | hb
      · exact pos_below hi hip
      · obtain ⟨j, hj⟩ := List.getElem?_of_mem hb
        rw [List.getElem?_drop] at hj
        have hil := (List.getElem?_eq_some_iff.1 hi)
        have hjl := (List.getElem?_eq_some_iff.1 hj)
        have := List.pairwise_iff_getElem.1 hw i (pos k n + j) hil.1 hjl.1 (by omega)
        rw [hil.2, hjl.2] at this
        exact this
    · cases hi

/-- A file: its bytes, and how many of the first ones last. -/
structure Fil where
  b : List UInt8
  lasts : Nat
/-- A deed of names: from one to another ('' is none). -/
structure Dd where
  src : ByteArray
  dst : ByteArray
  file : Nat
structure Dsk where
  cap : Nat
  files : List Fil
  now : Tbl
  las : Tbl
  deeds : List Dd
  armed : Option Nat

def noName : ByteArray := ⟨#[]⟩
def turnT (l : Tbl) (x : Dd) : Tbl := if x.dst = noName then wout l x.src else wth (wout l x.src) x.dst x.file
def fat (fs : List Fil) (k : Nat) : Fil := fs.getD k ⟨[], 0⟩
def usedT (fs : List Fil) : Tbl → Nat
  | [] => 0
  | e :: r => (fat fs e.2).b.length + usedT fs r
def Dsk.used (d : Dsk) : Nat := usedT d.files d.now

/-- Is it a byte of a name? -/
def okB (c : UInt8) : Bool := decide (97 ≤ c ∧ c ≤ 122 ∨ 48 ≤ c ∧ c ≤ 57 ∨ c = 46)
def isNm (s : ByteArray) : Bool := decide (1 ≤ s.size ∧ s.size ≤ 32) && s.data.toList.all okB

def Dsk.done (d : Dsk) : Dsk := { d with armed := d.armed.map (· - 1) }
def Dsk.nameD (d : Dsk) (x : Dd) : Dsk := { d with now := turnT d.now x, deeds := d.deeds ++ [x] }.done
def Dsk.setF (d : Dsk) (k : Nat) (f : Fil) : Dsk := { d with files := d.files.set k f }
def Dsk.syncN (d : Dsk) : Dsk := { d with las := d.now, deeds := [] }

def Dsk.create (d : Dsk) (n : ByteArray) : Dsk × Nat :=
  if d.armed = some 0 then (d, 12) else if isNm n = false then (d, 1) else if (tfind d.now n).isSome = true then (d, 8) else if 64 ≤ d.now.length then (d, 11)
  else (({ d with files := d.files ++ [⟨[], 0⟩] } : Dsk).nameD ⟨noName, n, d.files.length⟩, 0)
/-- What a call does with the file that has a name. -/
def Dsk.on {α : Type} (d : Dsk) (n : ByteArray) (no : Nat → α) (f : Nat → α) : α :=
  if d.armed = some 0 then no 12 else match tfind d.now n with | none => no 6 | some k => f k
def Dsk.append (d : Dsk) (n : ByteArray) (b : List UInt8) : Dsk × Nat :=
  d.on n (fun c => (d, c)) fun k =>
    if 16777216 < (fat d.files k).b.length + b.length then (d, 2) else if d.cap < d.used + b.length then (d, 11)
    else ((d.setF k ⟨(fat d.files k).b ++ b, (fat d.files k).lasts⟩).done, 0)
def Dsk.read (d : Dsk) (n : ByteArray) (off m : Int) : List UInt8 × Nat :=
  d.on n (fun c => ([], c)) fun k =>
    if off < 0 ∨ m < 0 then ([], 1) else if (fat d.files k).b.length < off + m then ([], 3) else (((fat d.files k).b.drop off.toNat).take m.toNat, 0)
def Dsk.size (d : Dsk) (n : ByteArray) : Nat × Nat := d.on n (fun c => (0, c)) fun k => ((fat d.files k).b.length, 0)
def Dsk.sync (d : Dsk) (n : ByteArray) : Dsk × Nat :=
  d.on n (fun c => (d, c)) fun k => ((d.setF k ⟨(fat d.files k).b, (fat d.files k).b.length⟩).done, 0)
def Dsk.syncNames (d : Dsk) : Dsk × Nat := if d.armed = some 0 then (d, 12) else (d.syncN.done, 0)
def Dsk.rename (d : Dsk) (n t : ByteArray) : Dsk × Nat :=
  d.on n (fun c => (d, c)) fun k => if isNm t = false then (d, 1) else (d.nameD ⟨n, t, k⟩, 0)
def Dsk.arm (d : Dsk) (m : Int) : Dsk × Nat := if d.armed = some 0 then (d, 12) else if m < 0 then (d, 1) else ({ d with armed := some m.toNat }, 0)
def Dsk.spoil (d : Dsk) (n : ByteArray) (off : Int) (x : UInt8) : Dsk × Nat :=
  d.on n (fun c => (d, c)) fun k =>
    if off < 0 ∨ (fat d.files k).b.length ≤ off then (d, 1) else (d.setF k ⟨(fat d.files k).b.set off.toNat ((fat d.files k).b.getD off.toNat 0 ^^^ x), (fat d.files k).lasts⟩, 0)

/-- What holds of every disk. k: how many calls there were. -/
structure Dsk.Ok (d : Dsk) (k : Nat) : Prop where
  cap : d.cap ≤ 1073741824
  nowS : Sorted d.now
  lasS : Sorted d.las
  nowF : ∀ e ∈ d.now, e.2 < d.files.length ∧ isNm e.1 = true
  lasF : ∀ e ∈ d.las, e.2 < d.files.length ∧ isNm e.1 = true
  deeF : ∀ x ∈ d.deeds, (x.dst = noName ∨ isNm x.dst = true ∧ x.file < d.files.length) ∧ (x.src = noName ∨ isNm x.src = true) ∧ (x.src = noName → x.dst ≠ noName)
  fil : ∀ f ∈ d.files, f.lasts ≤ f.b.length ∧ f.b.length ≤ 16777216
  filN : d.files.length ≤ k
  nowN : d.now.length ≤ d.las.length + d.deeds.length
  lenN : d.las.length + d.deeds.length ≤ k
  arm : ∀ n, d.armed = some n → n < 9223372036854775808

end Go.Cor
end

section
namespace Go.Cor
open Go.RowKit

/-- A byte as a value. -/
abbrev bv (x : UInt8) : Value := .int .u8 (x.toNat : Int)
def bvs (l : List UInt8) : List Value := l.map bv
theorem bvs_append (l r : List UInt8) : bvs (l ++ r) = bvs l ++ bvs r := by simp [bvs]
theorem bvs_nil : bvs [] = [] := rfl
theorem bvs_cons (x : UInt8) (r : List UInt8) : bvs (x :: r) = bv x :: bvs r := rfl
@[simp] theorem length_bvs (l : List UInt8) : (bvs l).length = l.length := by simp [bvs]

/-- v is a slice of bytes that reads as l. -/
def IsB (w : World) (v : Value) (l : List UInt8) : Prop :=
  ∃ a cap, v = .slice a l.length cap ∧ l.length ≤ cap ∧ cap ≤ maxLen ∧
    (a = none → cap = 0) ∧ (l.length = 0 ∨ ∃ b off, a = some ⟨b, off, none⟩ ∧ ∀ i, i < l.length → w.cell? ⟨b, off + i, none⟩ = some (bv (l.getD i 0)))

theorem cell_lt {w : World} {p : Addr} {v : Value} (h : w.cell? p = some v) : p.block < w.heap.size := by
  by_cases hb : p.block < w.heap.size
  · exact hb
  · simp [World.cell?, Array.getElem?_eq_none (Nat.le_of_not_lt hb)] at h

theorem IsB.mono {w w' : World} {v : Value} {l : List UInt8} {B : Nat} (h : IsB w v l) (hb : Below B w w') (hB : w.heap.size ≤ B) : IsB w' v l := by
  obtain ⟨a, cap, rfl, h1, h2, h0, h3⟩ := h
  refine ⟨a, cap, rfl, h1, h2, h0, ?_⟩
  rcases h3 with h3 | ⟨b, off, rfl, hc⟩
  · exact .inl h3
  · refine .inr ⟨b, off, rfl, fun i hi => ?_⟩
    have := hc i hi
    rw [hb.cell (by have := cell_lt this; simp at this; simp; omega)]
    exact this

/-- The slice named, at its length. -/
theorem IsB.at_len {w : World} {v : Value} {l : List UInt8} {n : Nat} (h : IsB w v l) (hn : l.length = n) : ∃ x cap, v = .slice x n cap ∧ n ≤ cap ∧ cap ≤ maxLen := by
  obtain ⟨x, cap, rfl, h1, h2, _, _⟩ := h
  subst hn
  exact ⟨x, cap, rfl, h1, h2⟩
theorem IsB.nil (w : World) : IsB w (.slice none 0 0) [] := ⟨none, 0, rfl, Nat.le_refl _, Nat.zero_le _, fun _ => rfl, .inl rfl⟩

theorem bvs_get {l : List UInt8} {i : Nat} (h : i < l.length) : (bvs l)[i]? = some (bv (l.getD i 0)) := by
  simp [bvs, List.getElem?_map, List.getElem?_eq_getElem h, List.getD_eq_getElem?_getD]

theorem bvs_one (l : List UInt8) : ∀ v ∈ bvs l, v.oneCell' = true := by
  intro v hv
  obtain ⟨x, _, rfl⟩ := List.mem_map.1 hv
  rfl

/-- What a call made itself reads. -/
theorem IsB.own {w : World} {base : Nat} {e : TypeId} {v : Value} {l : List UInt8} {n : Nat} (h : w.ownsRow base e 1 v n (bvs l)) (hn : n = l.length) : IsB w v l := by
  subst hn
  rcases h.2 with ⟨rfl, h0⟩ | ⟨g, cap, cur, rfl, _, hg, hc, hm, hs, ht⟩
  · have : l = [] := List.eq_nil_of_length_eq_zero h0
    subst this
    exact IsB.nil w
  · refine ⟨_, cap, rfl, hc, hm, by simp, .inr ⟨g, 0, rfl, fun i hi => ?_⟩⟩
    have h2 := h.cells (g := g) rfl i (bv (l.getD i 0)) (bvs_get hi)
    have hadd : (⟨g, 0, none⟩ : Addr).add i = ⟨g, 0 + i, none⟩ := by unfold Addr.add; split <;> simp_all
    rw [hadd] at h2
    exact h2

theorem add_lit (b off i : Nat) : (⟨b, off, none⟩ : Addr).add i = ⟨b, off + i, none⟩ := by unfold Addr.add; split <;> simp_all

/-- A piece of a slice. -/
theorem IsB.sub {w : World} {x : Option Addr} {n cap j k : Nat} {l : List UInt8} (h : IsB w (.slice x n cap) l) (hjk : j + k ≤ l.length) :
    IsB w (.slice (x.map fun a => a.add j) k (cap - j)) ((l.drop j).take k) := by
  obtain ⟨a, c, e, h1, h2, h0, h3⟩ := h
  cases e
  have hlen : ((l.drop j).take k).length = k := by simp; omega
  refine ⟨_, _, by rw [hlen], by rw [hlen]; omega, by omega, fun hx => ?_, ?_⟩
  · have : x = none := by simpa using hx
    rw [h0 this]
    omega
  · rw [hlen]
    rcases h3 with h3 | ⟨b, off, rfl, hc⟩
    · exact .inl (by omega)
    · refine .inr ⟨b, off + j, by simp [add_lit], fun i hi => ?_⟩
      rw [show off + j + i = off + (j + i) from by omega, hc (j + i) (by omega)]
      congr 2
      simp only [List.getD_eq_getElem?_getD, List.getElem?_take, if_pos hi, List.getElem?_drop]

theorem IsB.take {w : World} {x : Option Addr} {n cap j : Nat} {l : List UInt8} (h : IsB w (.slice x n cap) l) (hj : j ≤ l.length) : IsB w (.slice x j cap) (l.take j) := by
  obtain ⟨a, c, e, h1, h2, h0, h3⟩ := h
  cases e
  have hlen : (l.take j).length = j := by simp; omega
  refine ⟨_, _, by rw [hlen], by rw [hlen]; omega, by omega, h0, ?_⟩
  rw [hlen]
  rcases h3 with h3 | ⟨b, off, rfl, hc⟩
  · exact .inl (by omega)
  · refine .inr ⟨b, off, rfl, fun i hi => ?_⟩
    rw [hc i (by omega)]
    congr 2
    simp only [List.getD_eq_getElem?_getD, List.getElem?_take, if_pos hi]

theorem IsB.drop {w : World} {x : Option Addr} {n cap j : Nat} {l : List UInt8} (h : IsB w (.slice x n cap) l) (hj : j ≤ l.length) :
    IsB w (.slice (x.map fun a => a.add j) (l.length - j) (cap - j)) (l.drop j) := by
  have := h.sub (j := j) (k := l.length - j) (by omega)
  rw [List.take_of_length_le (by simp)] at this
  exact this

/-- A list of bytes that was written out. -/
theorem IsB.lit (w : World) (l : List UInt8) (U : TypeId) (h : l.length ≤ maxLen) : IsB (w.alloc (.cells (bvs l).toArray U)) (.slice (some ⟨w.heap.size, 0, none⟩) l.length l.length) l := by
  have := World.ownsRow_lit (base := w.heap.size) (e := U) (size := 1) w (bvs l).toArray l.length (Nat.le_refl _) h (by simp)
  exact IsB.own (l := l) (by simpa using this) rfl

theorem ownsRow_below {w w' : World} {base : Nat} {e : TypeId} {size : Nat} {v : Value} {n : Nat} {xs : List Value} {B : Nat} (h : w.ownsRow base e size v n xs) (hb : Below B w w') (hB : w.heap.size ≤ B) : w'.ownsRow base e size v n xs := by
  refine ⟨h.1, ?_⟩
  rcases h.2 with h2 | ⟨g, cap, cur, h1, h2, h3, h4⟩
  · exact .inl h2
  · refine .inr ⟨g, cap, cur, h1, h2, ?_, h4⟩
    have : g < w.heap.size := (Array.getElem?_eq_some_iff.1 h3).1
    rw [hb.block g (by omega)]
    exact h3

theorem ownsRow_base {w : World} {base base' : Nat} {e : TypeId} {size : Nat} {v : Value} {n : Nat} {xs : List Value} (h : w.ownsRow base e size v n xs) (hB : base' ≤ base) : w.ownsRow base' e size v n xs := by
  refine ⟨h.1, ?_⟩
  rcases h.2 with h2 | ⟨g, cap, cur, h1, h2, h3⟩
  · exact .inl h2
  · exact .inr ⟨g, cap, cur, h1, by omega, h3⟩

/-- Bytes behind a row of the call's own, whatever slice they come from. -/
theorem run_append_B {P : Program} (w : World) (base : Nat) (T U ty : TypeId) (i : TypeInfo) (ht : P.underlying T = some (.slice U)) (hi : P.info? U = some i) (hz : i.zero = some (.int .u8 0)) (hsize : i.size = 1) (hby : i.bytes = 1)
    (v : Value) (xs : List UInt8) (n : Nat) (hn : n = xs.length) (hown : w.ownsRow base U 1 v n (bvs xs)) (sv : Value) (ys : List UInt8) (hs : IsB w sv ys) (hlen : xs.length + ys.length ≤ 1099511627776) (hbase : base ≤ w.heap.size) :
    ∃ v' w', (Builtin.append_ #[T, T] ty #[v, sv]).run P w = .ok v' w' ∧ w'.ownsRow base U 1 v' (xs ++ ys).length (bvs (xs ++ ys)) ∧ w.grownBy w' v.ownBlock := by
  subst hn
  obtain ⟨a, cap, rfl, hlc, hcm, hnc, hcell⟩ := hs
  by_cases ha : a = none
  · subst ha
    obtain rfl := hnc rfl
    obtain rfl : ys = [] := List.eq_nil_of_length_eq_zero (by omega)
    exact ⟨v, w, run_append_owned_none (P := P) w base T ty U i 1 ht hi v _ _ hown, by simpa using hown, ⟨rfl, rfl, rfl, Nat.le_refl _, fun _ _ _ => rfl⟩⟩
  · obtain ⟨ad, rfl⟩ := Option.ne_none_iff_exists'.1 ha
    obtain ⟨v', w', h1, h2, h3, _⟩ := run_append_own (P := P) w base T ty U i (.int .u8 0) 1 1 ht hi hz hsize hby rfl (by decide) v xs.length (bvs xs) hown ad ys.length cap (bvs ys) (by simp)
      (fun j u hj => by
        have hjl : j < ys.length := by
          have := (List.getElem?_eq_some_iff.1 hj).1
          simpa using this
        rcases hcell with h0 | ⟨b, off, e, hc⟩
        · omega
        cases e
        rw [bvs_get hjl] at hj
        cases hj
        have hadd : (⟨b, off, none⟩ : Addr).add j = ⟨b, off + j, none⟩ := by unfold Addr.add; split <;> simp_all
        rw [hadd]
        exact hc j hjl) (bvs_one ys) (by unfold maxLen; omega) (by omega) hbase
    exact ⟨v', w', h1, by rw [bvs_append, List.length_append]; exact h2, h3⟩

theorem wpList_append_B {P : Program} {w : World} {ops : Array Oper} {rest : List Oper} {o : Oper} {a : Act} {Q : Exit → Act → World → Prop} (hw : Region.wanted o (yielded ops a.tmps) = true) (s x : Operand) (T : TypeId)
    (ho : o.op = .call { callee := .builtin .append, args := #[s, x], argTypes := #[T, T] })
    (base : Nat) (U : TypeId) (i : TypeInfo) (ht : P.underlying T = some (.slice U)) (hi : P.info? U = some i) (hz : i.zero = some (.int .u8 0)) (hsize : i.size = 1) (hby : i.bytes = 1)
    (v : Value) (xs : List UInt8) (n : Nat) (hs : a.eval s = v) (hown : w.ownsRow base U 1 v n (bvs xs)) (hn : n = xs.length) (sv : Value) (ys : List UInt8) (hx : a.eval x = sv) (hv : IsB w sv ys) (hlen : xs.length + ys.length ≤ 1099511627776) (hbase : base ≤ w.heap.size)
    (h : ∀ v' w', w'.ownsRow base U 1 v' (xs ++ ys).length (bvs (xs ++ ys)) → Below base w w' → wpList P ops Q rest (a.put o.dst v') w') : wpList P ops Q (o :: rest) a w := by
  refine BigFrame.wpList_want hw fun K hK => ?_
  obtain ⟨v', w', hr, h2, h3⟩ := run_append_B (P := P) w base T U o.type i ht hi hz hsize hby v xs n hn hown sv ys hv hlen hbase
  unfold Oper.wp execOp
  simp only [ho, resolve, invoke, builtin, Sem.run_bind, Sem.run_pure, Result.andThen_ok, List.map_toArray, List.map_cons, List.map_nil, hs, hx, hr]
  exact hK _ _ (h v' w' h2 ((Below.refl _ _).grown h3 hbase fun j hj => (hown.lt j hj).1))

/-- The lowest k bytes of n, the lowest first. -/
def le : Nat → Nat → List UInt8
  | _, 0 => []
  | n, k + 1 => UInt8.ofNat n :: le (n / 256) k

/-- The number of bytes, the lowest first. -/
def num : List UInt8 → Nat
  | [] => 0
  | x :: r => x.toNat + 256 * num r

theorem length_le (n k : Nat) : (le n k).length = k := by
  induction k generalizing n with
  | zero => rfl
  | succ k ih => simp [le, ih]

theorem le_snoc (n k : Nat) : le n (k + 1) = le n k ++ [UInt8.ofNat (n / 256 ^ k)] := by
  induction k generalizing n with
  | zero => simp [le]
  | succ k ih =>
    rw [le, ih, le, List.cons_append]
    congr 3
    rw [Nat.div_div_eq_div_mul, Nat.pow_succ, Nat.mul_comm]

theorem num_le (n k : Nat) : num (le n k) = n % 256 ^ k := by
  induction k generalizing n with
  | zero => simp [le, num, Nat.mod_one]
  | succ k ih =>
    simp only [le, num, ih, UInt8.toNat_ofNat']
    rw [show 256 ^ (k + 1) = 256 * 256 ^ k from by rw [Nat.pow_succ, Nat.mul_comm], Nat.mod_mul]

theorem num_lt (l : List UInt8) : num l < 256 ^ l.length := by
  induction l with
  | nil => simp [num]
  | cons x r ih =>
    simp only [num, List.length_cons, Nat.pow_succ]
    have := x.toNat_lt
    omega

theorem num_take_step (l : List UInt8) (i k : Nat) (h : i < l.length) :
    num ((l.drop i).take (k + 1)) = (l[i]?.getD 0).toNat + 256 * num ((l.drop (i + 1)).take k) := by
  rw [List.drop_eq_getElem_cons h, List.take_succ_cons, List.getElem?_eq_getElem h]
  rfl

theorem shl8_or (m x : Nat) (hm : m < 72057594037927936) (hx : x < 256) : bits .or .u64 ((m : Int) * 256) (x : Int) = ((x + 256 * m : Nat) : Int) := by
  have e1 : (m : Int) * 256 = ((m * 256 : Nat) : Int) := by omega
  rw [e1, u64_or_nat _ _ (by omega) (by omega), nat_join 8 (m * 256) x (by omega) (by omega)]
  congr 1
  omega

theorem num_take_lt (l : List UInt8) (k : Nat) (h : k ≤ 7) : num (l.take k) < 72057594037927936 := by
  have h1 := num_lt (l.take k)
  have h2 : (l.take k).length ≤ 7 := by simp; omega
  have h3 : 256 ^ (l.take k).length ≤ 256 ^ 7 := Nat.pow_le_pow_right (by decide) h2
  have h4 : (256 : Nat) ^ 7 = 72057594037927936 := by decide
  omega

theorem copy_made {P : Program} (w : World) (T elem ty : TypeId) (hu : P.underlying T = some (.slice elem)) (hs1 : (P.info? elem).map (·.size) = some 1) (v : Value) (l : List UInt8) (hv : IsB w v l) (s : Nat) (hm : l.length + s ≤ maxLen) :
    ∃ w2, (Builtin.copy_ #[T, T] ty #[.slice (some ⟨w.heap.size, 0, none⟩) l.length (l.length + s), v]).run P (w.alloc (.cells (madeCells #[.int .u8 0] (l.length + s)) elem)) = .ok (goInt l.length) w2 ∧
      w2.ownsRow w.heap.size elem 1 (.slice (some ⟨w.heap.size, 0, none⟩) l.length (l.length + s)) l.length (bvs l) ∧ Below w.heap.size w w2 := by
  obtain ⟨a, cap, rfl, hlc, hcm, _, hcell⟩ := hv
  have hb1 : Below w.heap.size w (w.alloc (.cells (madeCells #[.int .u8 0] (l.length + s)) elem)) := (Below.refl _ _).alloc (Nat.le_refl _) _
  by_cases h0 : l.length = 0
  · obtain rfl : l = [] := List.eq_nil_of_length_eq_zero h0
    refine ⟨_, run_copy_none (P := P) _ T T ty elem _ a 0 _ 0 cap hu hs1 (by simp), ?_, hb1⟩
    exact ⟨rfl, .inr ⟨_, _, _, rfl, Nat.le_refl _, heap_alloc_new w _, Nat.zero_le _, hm, by simp [size_madeCells], by simp [bvs_nil]⟩⟩
  · rcases hcell with h0' | ⟨b, off, rfl, hc⟩
    · omega
    · have hr := run_copy_row (P := P) (w.alloc (.cells (madeCells #[.int .u8 0] (l.length + s)) elem)) T T ty elem w.heap.size 0 l.length (l.length + s) ⟨b, off, none⟩ l.length cap (madeCells #[.int .u8 0] (l.length + s)) elem (bvs l) hu hs1 (heap_alloc_new w _) (by simp)
        (fun j u hj => by
          have hjl : j < l.length := by
            have := (List.getElem?_eq_some_iff.1 hj).1
            simpa using this
          rw [bvs_get hjl] at hj
          cases hj
          have hadd : (⟨b, off, none⟩ : Addr).add j = ⟨b, off + j, none⟩ := by unfold Addr.add; split <;> simp_all
          rw [hadd, World.cell?_alloc_past _ _ _ (cell_lt (hc j hjl))]
          exact hc j hjl) (by simp [size_madeCells]) (bvs_one l)
      refine ⟨_, by simpa using hr, ?_, below_setRow hb1 (Nat.le_refl _) _⟩
      refine ⟨by simp, .inr ⟨w.heap.size, l.length + s, (bvs l ++ (madeCells #[.int .u8 0] (l.length + s)).toList.drop l.length).toArray, rfl, Nat.le_refl _, ?_, by omega, hm, ?_, ?_⟩⟩
      · exact setRow_heap _ _ _ _ _ _ (heap_alloc_new w _)
      · simp [size_madeCells]
      · simp

end Go.Cor
end

section
namespace Go.Proofs.YtoblbipkkdiddaaGreatDoor
open Go.RowKit Go.Cor

theorem compare_in (a b : ByteArray) (w : World) :
    Calls Tryz.prog 135 #[.string a, .string b] w fun e w' => e = .returned (.int .i64 (ncmp a b)) ∧ w = w' := by
  have hx := @run_callFunc_extern Tryz.prog 144 _ Extern.BytealgCompare.compare Tryz.func144 (by kernel_rfl) (by kernel_rfl) (by kernel_rfl) (by kernel_rfl)
  have hc := fun w => Lib.run_compareString (P := Tryz.prog) a b w
  rw [show Lib.compareBytes a.data.toList b.data.toList = ncmp a b from rfl] at hc
  go_enter Tryz.func135, Tryz.ntmps135
  go_wp2
  go_ret
  exact ⟨rfl, rfl⟩
theorem compare_any (a b : ByteArray) (w : World) :
    Calls Tryz.prog 125 #[.string a, .string b] w fun e w' => e = .returned (.int .i64 (ncmp a b)) ∧ w = w' := by
  go_enter Tryz.func125, Tryz.ntmps125
  go_wp2_with (go_at_call 135; refine (compare_in _ _ _).mono ?_; rintro e w' ⟨rfl, rfl⟩)
  go_ret
  exact ⟨rfl, rfl⟩
theorem closure_any (a b : ByteArray) (f : Value) (w : World) (hf : f.oneCell' = true) :
    Calls Tryz.prog 124 #[.agg #[.string a, f], .string b] w fun e w' => e = .returned (.int .i64 (ncmp a b)) ∧ Below w.heap.size w w' := by
  go_enter Tryz.func124, Tryz.ntmps124
  go_wp2_with (go_at_call 125; refine (compare_any _ _ _).mono ?_; rintro e w' ⟨rfl, rfl⟩)
  go_ret
  exact ⟨rfl, (Below.refl _ _).alloc (Nat.le_refl _) _⟩

theorem Tryz.infoU8s : (Tryz.prog.info? 5).map (fun i => (i.zero, i.size, i.bytes)) = some (some (.int .u8 0), 1, 1) := by kernel_rfl

set_option maxHeartbeats 4000000 in
set_option maxRecDepth 100000 in
theorem clone_in (s : ByteArray) (w : World) (hlim : s.size ≤ 281474976710656) :
    Calls Tryz.prog 141 #[.string s] w fun e w' => e = .returned (.string s) ∧ Below w.heap.size w w' := by
  by_cases h0 : s.size = 0
  · have hs : s = ⟨#[]⟩ := by
      apply ByteArray.ext
      exact Array.eq_empty_of_size_eq_zero h0
    subst hs
    go_enter Tryz.func141, Tryz.ntmps141
    go_wp2
    go_ret
    exact ⟨rfl, Below.refl _ _⟩
  · obtain ⟨i0, hi, hz0, hz1, hz2⟩ := info_parts Tryz.infoU8s
    have hinfo : (Tryz.prog.info? 5).map (·.size) = some 1 := by rw [hi]; simp [hz1]
    have hco : Tryz.prog.cellsOf 5 = 1 := by simp [Program.cellsOf, hi, hz1]
    obtain ⟨M, hM⟩ : ∃ M, M = madeCells (Value.int .u8 0).cells (((s.size : Nat) : Int).toNat * i0.size) := ⟨_, rfl⟩
    have hMs : M.size = s.size := by rw [hM, size_madeCells, hz1]; simp
    have hmk : ∀ W : World, (Instr.makeSlice 45 (.int .i64 (s.size : Int)) (.int .i64 (s.size : Int))).run Tryz.prog W = .ok (.slice (some ⟨W.heap.size, 0, none⟩) s.size s.size) (W.alloc (.cells M 5)) := fun W => by
      have h := run_make (P := Tryz.prog) W 45 5 i0 (.int .u8 0) Tryz.underlying45 hi hz0 .i64 .i64 (s.size : Int) (s.size : Int) (by omega) (by omega) (by rw [hz2]; omega) (by omega)
      rw [← hM] at h
      simpa using h
    clear hM
    have hcp := Lib.run_copy_row_string (P := Tryz.prog) (w.alloc (.cells M 5)) 45 9 3 5 w.heap.size 0 s.size s.size s M 5 Tryz.underlying45 hinfo (heap_alloc_new w _) (Nat.le_refl _) (by omega)
    obtain ⟨Y, hY⟩ : ∃ Y, Y = (M.toList.take 0 ++ Lib.byteCells s.data.toList ++ M.toList.drop (0 + s.size)).toArray := ⟨_, rfl⟩
    rw [← hY] at hcp
    have hYl : Y.toList = Lib.byteCells s.data.toList := by
      rw [hY, List.toList_toArray, List.take_zero, List.nil_append, List.drop_of_length_le (by rw [Array.length_toList]; omega), List.append_nil]
    have hYs : Y.size = s.size := by rw [← Array.length_toList, hYl, Lib.byteCells_length, ← Lib.size_eq]
    have hgY : ((w.alloc (.cells M 5)).setRow w.heap.size Y).heap[w.heap.size]? = some (.cells Y 5 (0, 0)) := setRow_heap _ _ M _ 5 (0, 0) (heap_alloc_new w _)
    have hne : s.data.toList ≠ [] := fun e => h0 (by rw [Lib.size_eq, e]; rfl)
    have hUS := Lib.run_unsafeString_row (P := Tryz.prog) ((w.alloc (.cells M 5)).setRow w.heap.size Y) 239 3 9 5 Tryz.underlying239 hco w.heap.size Y.size (by unfold World.shape?; rw [hgY]) s.data.toList hne (by rw [← Lib.size_eq]; omega) (by rw [← Lib.size_eq]; omega)
      (fun j x hx => Lib.cells_of_row hgY Y.size j _ (by rw [List.take_of_length_le (by rw [Array.length_toList]; exact Nat.le_refl _), hYl]; simp [Lib.byteCells, hx]))
    rw [← Lib.size_eq] at hUS
    clear hY
    go_enter Tryz.func141, Tryz.ntmps141
    go_wp2
    go_ret
    have hb1 : Below w.heap.size w (w.alloc (.cells M 5)) := (Below.refl _ w).alloc (Nat.le_refl _) _
    have hb2 : Below w.heap.size (w.alloc (.cells M 5)) ((w.alloc (.cells M 5)).setRow w.heap.size Y) := ⟨rfl, rfl, rfl, by simp, fun k hk => setRow_other _ _ _ _ (by omega)⟩
    exact ⟨rfl, Lib.below_freeze (hb1.trans hb2) (p := ⟨w.heap.size, 0, none⟩) (Nat.le_refl _) _⟩
theorem sclone_any (s : ByteArray) (w : World) (hlim : s.size ≤ 281474976710656) :
    Calls Tryz.prog 131 #[.string s] w fun e w' => e = .returned (.string s) ∧ Below w.heap.size w w' := by
  go_enter Tryz.func131, Tryz.ntmps131
  go_wp2_with fail
  refine (clone_in s _ hlim).mono ?_
  rintro e w' ⟨rfl, hb⟩
  go_wp2
  go_ret
  exact ⟨rfl, hb⟩

end Go.Proofs.YtoblbipkkdiddaaGreatDoor
end

section
namespace Go.Proofs.YtoblbipkkdiddaaGreatDoor
open Go.RowKit Go.Cor

theorem okB_iff (c : UInt8) : okB c = true ↔ (97 ≤ c.toNat ∧ c.toNat ≤ 122 ∨ 48 ≤ c.toNat ∧ c.toNat ≤ 57 ∨ c.toNat = 46) := by
  unfold okB
  rw [decide_eq_true_iff]
  simp only [UInt8.le_iff_toNat_le, ← UInt8.toNat_inj]
  exact Iff.rfl
theorem take_all (s : ByteArray) (k : Nat) (h : k < s.size) : (s.data.toList.take (k + 1)).all okB = ((s.data.toList.take k).all okB && okB s[k]) := by
  rw [List.take_succ_eq_append_getElem (by simpa using h), List.all_append]
  simp
  rfl
theorem all_false {s : ByteArray} {k : Nat} (h : k < s.size) (hc : okB s[k] = false) : s.data.toList.all okB = false := by
  rw [List.all_eq_false]
  refine ⟨s[k], ?_, by simp [hc]⟩
  exact List.getElem_mem (l := s.data.toList) (n := k) (by simpa using h)
theorem byte_cases (x : Nat) (P : Prop) (h : ¬ (97 ≤ x ∧ x ≤ 122 ∨ 48 ≤ x ∧ x ≤ 57 ∨ x = 46)) (h1 : x < 46 → P) (h2 : x = 47 → P) (h3 : 57 < x → x < 97 → P) (h4 : 122 < x → P) : P := by
  by_cases a : x < 46
  · exact h1 a
  by_cases b : x = 47
  · exact h2 b
  by_cases c : x < 97
  · exact h3 (by omega) c
  · exact h4 (by omega)

set_option maxHeartbeats 1000000 in
theorem isName_any (s : ByteArray) (w : World) (hs : s.size ≤ 9223372036854775807) :
    Calls Tryz.prog 114 #[.string s] w fun e w' => e = .returned (.bool (isNm s)) ∧ w = w' := by
  obtain ⟨r, hr⟩ : ∃ r, isNm s = r := ⟨_, rfl⟩
  rw [hr]
  have HR := Lib.hid hr
  clear hr
  by_cases h1 : s.size < 1
  · obtain rfl : r = false := by rw [← HR.out]; unfold isNm; rw [decide_eq_false (by omega)]; rfl
    have h1' : (s.size : Int) < 1 := by omega
    go_enter Tryz.func114, Tryz.ntmps114
    go_wp2
    go_ret
    exact ⟨rfl, rfl⟩
  · by_cases h2 : 32 < s.size
    · obtain rfl : r = false := by rw [← HR.out]; unfold isNm; rw [decide_eq_false (by omega)]; rfl
      have h1' : ¬ (s.size : Int) < 1 := by omega
      have h2' : (32 : Int) < (s.size : Int) := by omega
      go_enter Tryz.func114, Tryz.ntmps114
      go_wp2
      go_ret
      exact ⟨rfl, rfl⟩
    · have h1' : ¬ (s.size : Int) < 1 := by omega
      have h2' : ¬ (32 : Int) < (s.size : Int) := by omega
      have HA := Lib.hid (show isNm s = s.data.toList.all okB from by unfold isNm; rw [decide_eq_true (by omega)]; rfl)
      go_enter Tryz.func114, Tryz.ntmps114
      go_wp2
      go_loop [15] (fun c => ∃ k : Nat, k ≤ s.size ∧ c = .int .i64 k ∧ Hid ((s.data.toList.take k).all okB = true)) (fun c => s.size - (intOf c).toNat)
      case atStart => exact ⟨0, Nat.zero_le _, rfl, Lib.hid rfl⟩
      case round =>
        obtain ⟨k, hk, rfl, hK⟩ := hrel
        by_cases hlt : k < s.size
        · by_cases hok : 97 ≤ s[k].toNat ∧ s[k].toNat ≤ 122 ∨ 48 ≤ s[k].toNat ∧ s[k].toNat ≤ 57 ∨ s[k].toNat = 46
          · have HN := Lib.hid (show (s.data.toList.take (k + 1)).all okB = true from by rw [take_all s k hlt, hK.out, (okB_iff _).2 hok]; rfl)
            rcases hok with hok | hok | hok
            all_goals
              go_wp2
              go_round
              case rel => exact ⟨k + 1, by omega, by go_num, HN⟩
              case measure => simp [intOf]; omega
          · obtain rfl : r = false := by
              rw [← HR.out, HA.out]
              refine all_false hlt ?_
              cases hq : okB s[k] with
              | false => rfl
              | true => exact absurd ((okB_iff _).1 hq) hok
            have hne1 : ((s[k].toNat : Int) != 46) = true := by
              have : s[k].toNat ≠ 46 := fun e => hok (.inr (.inr e))
              simp
              omega
            refine byte_cases s[k].toNat _ hok (fun a => ?_) (fun a => ?_) (fun a b => ?_) (fun a => ?_)
            all_goals
              clear hok
              go_wp2
              go_ret
              exact ⟨rfl, rfl⟩
        · obtain rfl : k = s.size := by omega
          obtain rfl : r = true := by
            rw [← HR.out, HA.out]
            have := hK.out
            rw [List.take_of_length_le (by simp)] at this
            exact this
          go_wp2
          go_ret
          exact ⟨rfl, rfl⟩

end Go.Proofs.YtoblbipkkdiddaaGreatDoor
end

section
namespace Go.Cor
open Go.RowKit

/-- Of the blocks that there were, none but those of S has turned. -/
structure Kept (S : Nat → Prop) (w w' : World) : Prop where
  os : w'.os = w.os
  tape : w'.tape = w.tape
  output : w'.output = w.output
  size : w.heap.size ≤ w'.heap.size
  block : ∀ k, k < w.heap.size → ¬ S k → w'.heap[k]? = w.heap[k]?

theorem Kept.refl (S : Nat → Prop) (w : World) : Kept S w w := ⟨rfl, rfl, rfl, Nat.le_refl _, fun _ _ _ => rfl⟩
/-- One call behind the other: what the second one may write is the first one's, or was made by it. -/
theorem Kept.trans {S T : Nat → Prop} {a b c : World} (h : Kept S a b) (k : Kept T b c) (hT : ∀ j, T j → j < a.heap.size → S j) : Kept S a c :=
  ⟨k.os.trans h.os, k.tape.trans h.tape, k.output.trans h.output, Nat.le_trans h.size k.size,
    fun i hi hs => (k.block i (Nat.lt_of_lt_of_le hi h.size) (fun ht => hs (hT i ht hi))).trans (h.block i hi hs)⟩
theorem Kept.mono {S T : Nat → Prop} {w w' : World} (h : Kept S w w') (hT : ∀ k, k < w.heap.size → S k → T k) : Kept T w w' :=
  ⟨h.os, h.tape, h.output, h.size, fun k hk hn => h.block k hk (fun hs => hn (hT k hk hs))⟩
theorem Kept.of_below {S : Nat → Prop} {w w' : World} {B : Nat} (h : Below B w w') (hB : w.heap.size ≤ B) : Kept S w w' :=
  ⟨h.os, h.tape, h.output, h.size, fun k hk _ => h.block k (by omega)⟩
theorem Kept.below {S : Nat → Prop} {w w' : World} {B : Nat} (h : Kept S w w') (hB : B ≤ w.heap.size) (hS : ∀ k, k < B → ¬ S k) : Below B w w' :=
  ⟨h.os, h.tape, h.output, h.size, fun k hk => h.block k (by omega) (hS k hk)⟩
theorem Kept.cell {S : Nat → Prop} {w w' : World} (h : Kept S w w') {p : Addr} {v : Value} (hp : w.cell? p = some v) (hs : ¬ S p.block) : w'.cell? p = some v :=
  (World.cell?_of_block (w := w) (h.block p.block (cell_lt hp) hs)).trans hp
theorem Kept.frozen {S : Nat → Prop} {w w' : World} (h : Kept S w w') {p : Addr} (hp : p.block < w.heap.size) (hs : ¬ S p.block) : w'.frozen? p = w.frozen? p :=
  World.frozen?_of_block (w := w) (h.block p.block hp hs)
theorem Kept.alloc {S : Nat → Prop} {a w : World} (h : Kept S a w) (o : Obj) : Kept S a (w.alloc o) :=
  h.trans (T := fun _ => False) ⟨rfl, rfl, rfl, by simp, fun k hk _ => Below.heap_alloc _ _ _ hk⟩ (fun _ h => h.elim)
theorem Kept.drew {S : Nat → Prop} {a w : World} (h : Kept S a w) : Kept S a w.drew := ⟨h.os, h.tape, h.output, h.size, h.block⟩
theorem Kept.setCell {S : Nat → Prop} {a w : World} (h : Kept S a w) {p : Addr} (hp : S p.block ∨ a.heap.size ≤ p.block) (u : Value) : Kept S a (w.setCell p u) :=
  h.trans (T := fun k => k = p.block) ⟨rfl, rfl, rfl, by simp [World.setCell], fun k _ hk => Below.heap_setCell _ _ _ _ hk⟩ (fun j e hj => by
    subst e
    rcases hp with hp | hp
    · exact hp
    · omega)
theorem Kept.grown {S : Nat → Prop} {a w w' : World} {row : Option Nat} (h : Kept S a w) (hg : w.grownBy w' row) (hr : ∀ k, row = some k → S k ∨ a.heap.size ≤ k) : Kept S a w' :=
  h.trans (T := fun k => row = some k) ⟨hg.os, hg.tape, hg.output, hg.size, fun k hk hn => hg.block k hk (fun e => hn e.symm)⟩ (fun j e hj => by
    rcases hr j e with h | h
    · exact h
    · omega)

/-- Where bytes lie: in no block, if there are none. -/
def liesB (v : Value) (l : List UInt8) (k : Nat) : Prop := l.length ≠ 0 ∧ v.ownBlock = some k
theorem IsB.lies_lt {w : World} {v : Value} {l : List UInt8} (h : IsB w v l) {k : Nat} (hk : liesB v l k) : k < w.heap.size := by
  obtain ⟨a, cap, rfl, h1, h2, h0, h3⟩ := h
  obtain ⟨hl, hk⟩ := hk
  rcases h3 with h3 | ⟨b, off, rfl, hc⟩
  · exact absurd h3 hl
  · have e : b = k := by simpa [Value.ownBlock] using hk
    subst e
    exact cell_lt (hc 0 (by omega))
theorem IsB.kept {S : Nat → Prop} {w w' : World} {v : Value} {l : List UInt8} (h : IsB w v l) (hk : Kept S w w') (hs : ∀ k, liesB v l k → ¬ S k) : IsB w' v l := by
  obtain ⟨a, cap, rfl, h1, h2, h0, h3⟩ := h
  refine ⟨a, cap, rfl, h1, h2, h0, ?_⟩
  rcases h3 with h3 | ⟨b, off, rfl, hc⟩
  · exact .inl h3
  · refine .inr ⟨b, off, rfl, fun i hi => ?_⟩
    exact hk.cell (hc i hi) (hs b ⟨by omega, rfl⟩)
theorem ownsRow_kept {S : Nat → Prop} {w w' : World} {base : Nat} {e : TypeId} {size : Nat} {v : Value} {n : Nat} {xs : List Value} (h : w.ownsRow base e size v n xs) (hk : Kept S w w') (hs : ∀ k, v.ownBlock = some k → ¬ S k) : w'.ownsRow base e size v n xs := by
  refine ⟨h.1, ?_⟩
  rcases h.2 with h2 | ⟨g, cap, cur, rfl, h2, hg, h3⟩
  · exact .inl h2
  · have hlt : g < w.heap.size := (h.lt g rfl).2
    exact .inr ⟨g, cap, cur, rfl, h2, (hk.block g hlt (hs g rfl)).trans hg, h3⟩

end Go.Cor
end

section
namespace Go.Cor
open Go.RowKit

/-- A list of elements as cells. -/
def row {α : Type} (enc : α → List Value) (l : List α) : List Value := l.flatMap enc
theorem row_cons {α : Type} (enc : α → List Value) (x : α) (l : List α) : row enc (x :: l) = enc x ++ row enc l := rfl
theorem row_append {α : Type} (enc : α → List Value) (a b : List α) : row enc (a ++ b) = row enc a ++ row enc b := by simp [row]
theorem row_one {α : Type} (enc : α → List Value) (x : α) : row enc [x] = enc x := by simp [row]
theorem length_row {α : Type} {enc : α → List Value} {size : Nat} (h : ∀ x, (enc x).length = size) (l : List α) : (row enc l).length = l.length * size := by
  induction l with
  | nil => simp [row]
  | cons x r ih => rw [row_cons, List.length_append, ih, h, List.length_cons, Nat.add_mul, Nat.one_mul, Nat.add_comm]
theorem row_get {α : Type} {enc : α → List Value} {size : Nat} (h : ∀ x, (enc x).length = size) {l : List α} {i : Nat} {x : α} (hx : l[i]? = some x) (j : Nat) (hj : j < size) : (row enc l)[i * size + j]? = (enc x)[j]? := by
  induction l generalizing i with
  | nil => simp at hx
  | cons y r ih =>
    cases i with
    | zero =>
      simp only [List.getElem?_cons_zero, Option.some.injEq] at hx
      subst hx
      rw [Nat.zero_mul, Nat.zero_add, row_cons, List.getElem?_append_left (by rw [h]; exact hj)]
    | succ i =>
      rw [List.getElem?_cons_succ] at hx
      have e : (i + 1) * size + j = size + (i * size + j) := by rw [Nat.add_mul, Nat.one_mul]; omega
      rw [row_cons, e, List.getElem?_append_right (by rw [h]; exact Nat.le_add_right _ _), h, Nat.add_sub_cancel_left]
      exact ih hx
theorem row_take {α : Type} {enc : α → List Value} {size : Nat} (h : ∀ x, (enc x).length = size) (l : List α) (i : Nat) : (row enc l).take (i * size) = row enc (l.take i) := by
  induction l generalizing i with
  | nil => simp [row]
  | cons y r ih =>
    cases i with
    | zero => simp [row]
    | succ i =>
      have e : (i + 1) * size = (enc y).length + i * size := by rw [h, Nat.add_mul, Nat.one_mul, Nat.add_comm]
      rw [row_cons, List.take_succ_cons, row_cons, e, List.take_length_add_append, ih]
theorem row_drop {α : Type} {enc : α → List Value} {size : Nat} (h : ∀ x, (enc x).length = size) (l : List α) (i : Nat) : (row enc l).drop (i * size) = row enc (l.drop i) := by
  induction l generalizing i with
  | nil => simp [row]
  | cons y r ih =>
    cases i with
    | zero => simp [row]
    | succ i =>
      have e : (i + 1) * size = (enc y).length + i * size := by rw [h, Nat.add_mul, Nat.one_mul, Nat.add_comm]
      rw [row_cons, List.drop_succ_cons, e, List.drop_length_add_append, ih]
theorem row_mem {α : Type} {enc : α → List Value} {l : List α} (h : ∀ x ∈ l, ∀ v ∈ enc x, v.oneCell' = true) : ∀ v ∈ row enc l, v.oneCell' = true := by
  intro v hv
  obtain ⟨x, hx, hv⟩ := List.mem_flatMap.1 hv
  exact h x hx v hv

/-- v is a slice of n elements of so many cells each, which are cs. -/
def IsX (w : World) (size : Nat) (v : Value) (n : Nat) (cs : List Value) : Prop :=
  ∃ a cap, v = .slice a n cap ∧ n ≤ cap ∧ cap ≤ maxLen ∧ cs.length = n * size ∧ (a = none → cap = 0) ∧ (n = 0 ∨ ∃ b off, a = some ⟨b, off, none⟩ ∧ ∀ j, j < n * size → w.cell? ⟨b, off + j, none⟩ = cs[j]?)

theorem IsX.nil (w : World) (size : Nat) : IsX w size (.slice none 0 0) 0 [] := ⟨none, 0, rfl, Nat.le_refl _, Nat.zero_le _, by simp, fun _ => rfl, .inl rfl⟩
theorem IsX.slice {w : World} {size : Nat} {v : Value} {n : Nat} {cs : List Value} (h : IsX w size v n cs) : ∃ x c, v = .slice x n c ∧ n ≤ c ∧ c ≤ maxLen := by
  obtain ⟨a, cap, rfl, h1, h2, _⟩ := h
  exact ⟨a, cap, rfl, h1, h2⟩
/-- Where its cells lie: nowhere, if there are none. -/
def liesX (v : Value) (n : Nat) (k : Nat) : Prop := n ≠ 0 ∧ v.ownBlock = some k
theorem IsX.lies_lt {w : World} {size : Nat} {v : Value} {n : Nat} {cs : List Value} (h : IsX w size v n cs) (hs : 0 < size) {k : Nat} (hk : liesX v n k) : k < w.heap.size := by
  obtain ⟨a, cap, rfl, h1, h2, hl, h0, h3⟩ := h
  obtain ⟨hn, hk⟩ := hk
  rcases h3 with h3 | ⟨b, off, rfl, hc⟩
  · exact absurd h3 hn
  · have e : b = k := by simpa [Value.ownBlock] using hk
    subst e
    have hp : 0 < n * size := Nat.mul_pos (Nat.pos_of_ne_zero hn) hs
    have := hc 0 hp
    rw [List.getElem?_eq_getElem (by omega)] at this
    exact cell_lt this
theorem IsX.kept {S : Nat → Prop} {w w' : World} {size : Nat} {v : Value} {n : Nat} {cs : List Value} (h : IsX w size v n cs) (hk : Kept S w w') (hs : ∀ k, liesX v n k → ¬ S k) : IsX w' size v n cs := by
  obtain ⟨a, cap, rfl, h1, h2, hl, h0, h3⟩ := h
  refine ⟨a, cap, rfl, h1, h2, hl, h0, ?_⟩
  rcases h3 with h3 | ⟨b, off, rfl, hc⟩
  · exact .inl h3
  · by_cases hn : n = 0
    · exact .inl hn
    refine .inr ⟨b, off, rfl, fun j hj => ?_⟩
    have e := List.getElem?_eq_getElem (l := cs) (i := j) (by omega)
    rw [e]
    exact hk.cell ((hc j hj).trans e) (hs b ⟨hn, rfl⟩)
theorem IsX.mono {w w' : World} {size : Nat} {v : Value} {n : Nat} {cs : List Value} {B : Nat} (h : IsX w size v n cs) (hb : Below B w w') (hB : w.heap.size ≤ B) : IsX w' size v n cs :=
  h.kept (S := fun _ => False) (Kept.of_below hb hB) (fun _ _ h => h)
theorem IsX.own {w : World} {base : Nat} {e : TypeId} {size : Nat} {v : Value} {n : Nat} {cs : List Value} (h : w.ownsRow base e size v n cs) : IsX w size v n cs := by
  have hl := h.1
  rcases h.2 with ⟨rfl, h0⟩ | ⟨g, cap, cur, rfl, _, hg, hc, hm, hs, ht⟩
  · subst h0
    exact ⟨none, 0, rfl, Nat.le_refl _, Nat.zero_le _, hl, fun _ => rfl, .inl rfl⟩
  · refine ⟨_, cap, rfl, hc, hm, hl, by simp, .inr ⟨g, 0, rfl, fun j hj => ?_⟩⟩
    rw [Nat.zero_add]
    exact h.cellAt j hj
theorem IsX.take {w : World} {size : Nat} {x : Option Addr} {n cap j : Nat} {cs : List Value} (h : IsX w size (.slice x n cap) n cs) (hj : j ≤ n) : IsX w size (.slice x j cap) j (cs.take (j * size)) := by
  obtain ⟨a, c, e, h1, h2, hl, h0, h3⟩ := h
  cases e
  have hle : j * size ≤ n * size := Nat.mul_le_mul_right _ hj
  refine ⟨_, _, rfl, by omega, h2, by rw [List.length_take]; omega, h0, ?_⟩
  rcases h3 with h3 | ⟨b, off, rfl, hc⟩
  · exact .inl (by omega)
  · refine .inr ⟨b, off, rfl, fun i hi => ?_⟩
    rw [hc i (by omega), List.getElem?_take, if_pos hi]
theorem IsX.piece {w : World} {size : Nat} {x : Option Addr} {n cap lo hi : Nat} {cs : List Value} (h : IsX w size (.slice x n cap) n cs) (h1 : lo ≤ hi) (h2 : hi ≤ n) : IsX w size (sliced x lo hi cap size) (hi - lo) ((cs.drop (lo * size)).take ((hi - lo) * size)) := by
  obtain ⟨a, c, e, k1, k2, hl, k0, k3⟩ := h
  cases e
  have hm : lo * size + (hi - lo) * size ≤ n * size := by
    rw [← Nat.add_mul]
    exact Nat.mul_le_mul_right _ (by omega)
  unfold sliced
  refine ⟨_, _, rfl, by omega, by omega, by rw [List.length_take, List.length_drop]; omega, fun hx => ?_, ?_⟩
  · split at hx
    · omega
    · have : x = none := by simpa using hx
      rw [k0 this]
      omega
  · by_cases h0 : hi - lo = 0
    · exact .inl h0
    · rcases k3 with k3 | ⟨b, off, rfl, hc⟩
      · omega
      · rw [if_neg (by omega)]
        refine .inr ⟨b, off + lo * size, by simp [add_lit], fun i hi' => ?_⟩
        rw [show off + lo * size + i = off + (lo * size + i) from by omega, hc (lo * size + i) (by omega), List.getElem?_take, if_pos hi', List.getElem?_drop]
theorem len_X {P : Program} {w : World} {size : Nat} {v : Value} {n : Nat} {cs : List Value} (hv : IsX w size v n cs) (T ty U : TypeId) (ht : P.underlying T = some (.slice U)) (W : World) : (Builtin.len_ #[T] ty #[v]).run P W = .ok (.int .i64 (n : Int)) W := by
  obtain ⟨a, cap, rfl, _⟩ := hv
  have ht' : P.underlying T = some (.slice (P.elem T)) := by simp [Program.elem, ht]
  exact run_len_slice (P := P) W T ty a n cap ht'
/-- An index, and the cells of the element there. -/
theorem indexAt_X {P : Program} {w : World} {size : Nat} {v : Value} {n : Nat} {cs : List Value} (hv : IsX w size v n cs) (T U : TypeId) (ht : P.underlying T = some (.slice U)) (hs : (P.info? U).map (·.size) = some size) (i : Nat) (hi : i < n) :
    ∃ b o, (∀ W, (Instr.indexAt T v (.int .i64 (i : Int))).run P W = .ok (.pointer (some ⟨b, o, none⟩)) W) ∧ v.ownBlock = some b ∧ ∀ j, j < size → w.cell? ⟨b, o + j, none⟩ = cs[i * size + j]? := by
  obtain ⟨j, hj1, hj2⟩ := Option.map_eq_some_iff.1 hs
  obtain ⟨a, cap, rfl, k1, k2, hl, k0, k3⟩ := hv
  rcases k3 with k3 | ⟨b, off, rfl, hc⟩
  · omega
  refine ⟨b, off + i * size, fun W => ?_, rfl, fun j hj => ?_⟩
  · have ht' : P.underlying T = some (.slice (P.elem T)) := by simp [Program.elem, ht]
    have he : P.elem T = U := by simp [Program.elem, ht]
    have hsz : ∀ W, (sizeOf U).run P W = .ok size W := fun W => by simp [sizeOf, typeInfo, hj1, hj2]
    have h0 : (0 : Int) ≤ (i : Int) := by omega
    have h1 : (i : Int) < (n : Int) := by omega
    go_simp
  · have hle : (i + 1) * size ≤ n * size := Nat.mul_le_mul_right _ (by omega)
    rw [Nat.add_mul, Nat.one_mul] at hle
    rw [show off + i * size + j = off + (i * size + j) from by omega, hc _ (by omega)]
theorem slice_l_X {P : Program} {w : World} {size : Nat} {x : Option Addr} {n cap : Nat} {cs : List Value} (hv : IsX w size (.slice x n cap) n cs) (T U : TypeId) (ht : P.underlying T = some (.slice U)) (hs : (P.info? U).map (·.size) = some size) (lo : Nat) (h2 : lo ≤ n) :
    ∀ W, (Instr.slice T (.slice x n cap) (some (.int .i64 (lo : Int))) none none).run P W = .ok (sliced x lo n cap size) W := by
  obtain ⟨i, hi1, hi2⟩ := Option.map_eq_some_iff.1 hs
  obtain ⟨a, c, e, k1, k2, hl, k0, k3⟩ := hv
  cases e
  have ht' : P.underlying T = some (.slice (P.elem T)) := by simp [Program.elem, ht]
  have he : P.elem T = U := by simp [Program.elem, ht]
  have hsz : ∀ W, (sizeOf U).run P W = .ok size W := fun W => by simp [sizeOf, typeInfo, hi1, hi2]
  intro W
  rw [run_slice_l W T _ _ _ ht' .i64 _ (by omega) (by omega), he, hsz]
  simp [Result.andThen]
/-- s[:h], h up to the capacity. -/
theorem slice_h_X {P : Program} (size : Nat) (x : Option Addr) (n cap : Nat) (T U : TypeId) (ht : P.underlying T = some (.slice U)) (hs : (P.info? U).map (·.size) = some size) (hi : Nat) (h2 : hi ≤ cap) :
    ∀ W, (Instr.slice T (.slice x n cap) none (some (.int .i64 (hi : Int))) none).run P W = .ok (.slice x hi cap) W := by
  obtain ⟨i, hi1, hi2⟩ := Option.map_eq_some_iff.1 hs
  have ht' : P.underlying T = some (.slice (P.elem T)) := by simp [Program.elem, ht]
  have he : P.elem T = U := by simp [Program.elem, ht]
  have hsz : ∀ W, (sizeOf U).run P W = .ok size W := fun W => by simp [sizeOf, typeInfo, hi1, hi2]
  intro W
  rw [run_slice_h W T _ _ _ ht' .i64 _ (by omega) (by omega), he, hsz]
  by_cases hc0 : cap = 0
  · simp [Result.andThen, sliced, hc0]
  · have hadd : (x.map fun y => y.add 0) = x := by cases x <;> simp [Addr.add]
    simp [Result.andThen, sliced, hc0, hadd]

/-- s[l:h], h up to the capacity. -/
theorem slice_lh_C {P : Program} (size : Nat) (x : Option Addr) (n cap : Nat) (T U : TypeId) (ht : P.underlying T = some (.slice U)) (hs : (P.info? U).map (·.size) = some size) (lo hi : Nat) (h1 : lo ≤ hi) (h2 : hi ≤ cap) :
    ∀ W, (Instr.slice T (.slice x n cap) (some (.int .i64 (lo : Int))) (some (.int .i64 (hi : Int))) none).run P W = .ok (sliced x lo hi cap size) W := by
  obtain ⟨i, hi1, hi2⟩ := Option.map_eq_some_iff.1 hs
  have ht' : P.underlying T = some (.slice (P.elem T)) := by simp [Program.elem, ht]
  have he : P.elem T = U := by simp [Program.elem, ht]
  have hsz : ∀ W, (sizeOf U).run P W = .ok size W := fun W => by simp [sizeOf, typeInfo, hi1, hi2]
  intro W
  rw [run_slice_lh W T _ _ _ ht' .i64 .i64 _ _ (by omega) (by omega) (by omega), he, hsz]
  simp [Result.andThen]
theorem slice_l_C {P : Program} (size : Nat) (x : Option Addr) (n cap : Nat) (T U : TypeId) (ht : P.underlying T = some (.slice U)) (hs : (P.info? U).map (·.size) = some size) (lo : Nat) (h1 : lo ≤ n) :
    ∀ W, (Instr.slice T (.slice x n cap) (some (.int .i64 (lo : Int))) none none).run P W = .ok (sliced x lo n cap size) W := by
  obtain ⟨i, hi1, hi2⟩ := Option.map_eq_some_iff.1 hs
  have ht' : P.underlying T = some (.slice (P.elem T)) := by simp [Program.elem, ht]
  have he : P.elem T = U := by simp [Program.elem, ht]
  have hsz : ∀ W, (sizeOf U).run P W = .ok size W := fun W => by simp [sizeOf, typeInfo, hi1, hi2]
  intro W
  rw [run_slice_l W T _ _ _ ht' .i64 _ (by omega) (by omega), he, hsz]
  simp [Result.andThen]
/-- s[l:h:m]. -/
theorem slice_lhm_C {P : Program} (size : Nat) (x : Option Addr) (n cap : Nat) (T U : TypeId) (ht : P.underlying T = some (.slice U)) (hs : (P.info? U).map (·.size) = some size) (lo hi mx : Nat) (h1 : lo ≤ hi) (h2 : hi ≤ mx) (h3 : mx ≤ cap) :
    ∃ u, ∀ W, (Instr.slice T (.slice x n cap) (some (.int .i64 (lo : Int))) (some (.int .i64 (hi : Int))) (some (.int .i64 (mx : Int)))).run P W = .ok u W := by
  obtain ⟨i, hi1, hi2⟩ := Option.map_eq_some_iff.1 hs
  have ht' : P.underlying T = some (.slice (P.elem T)) := by simp [Program.elem, ht]
  have he : P.elem T = U := by simp [Program.elem, ht]
  have hsz : ∀ W, (sizeOf U).run P W = .ok size W := fun W => by simp [sizeOf, typeInfo, hi1, hi2]
  refine ⟨sliced x lo hi mx size, fun W => ?_⟩
  rw [run_slice_lhm W T _ _ _ ht' .i64 .i64 .i64 _ _ _ (by omega) (by omega) (by omega) (by omega), he, hsz]
  simp [Result.andThen]
theorem sliced_some (a : Addr) (lo hi cap size : Nat) : ∃ ad, sliced (some a) lo hi cap size = .slice (some ad) (hi - lo) (cap - lo) := by
  unfold sliced
  split
  · exact ⟨_, rfl⟩
  · exact ⟨_, rfl⟩
theorem sliced_at (g o lo hi cap size : Nat) (h : lo ≠ cap) : sliced (some ⟨g, o, none⟩) lo hi cap size = .slice (some ⟨g, o + lo * size, none⟩) (hi - lo) (cap - lo) := by
  unfold sliced
  rw [if_neg (by omega)]
  simp [add_lit]

theorem ownsRow_take {w : World} {base : Nat} {e : TypeId} {size : Nat} {x : Option Addr} {n cap j : Nat} {cs : List Value} (h : w.ownsRow base e size (.slice x n cap) n cs) (hj : j ≤ n) : w.ownsRow base e size (.slice x j cap) j (cs.take (j * size)) := by
  have hl := h.1
  have hle : j * size ≤ n * size := Nat.mul_le_mul_right _ hj
  refine ⟨by rw [List.length_take]; omega, ?_⟩
  rcases h.2 with ⟨hv, h0⟩ | ⟨g, cap', cur, hv, hb, hg, hc, hm, hs, ht⟩
  · cases hv
    exact .inl ⟨by rw [show j = 0 from by omega], by omega⟩
  · cases hv
    exact .inr ⟨g, cap, cur, rfl, hb, hg, by omega, hm, hs, by rw [← ht, List.take_take, Nat.min_eq_left hle]⟩
theorem ownsRow_slice {w : World} {base : Nat} {e : TypeId} {size : Nat} {v : Value} {n : Nat} {xs : List Value} (h : w.ownsRow base e size v n xs) : ∃ x c, v = .slice x n c ∧ n ≤ c ∧ c ≤ maxLen := by
  rcases h.2 with ⟨rfl, rfl⟩ | ⟨g, cap, cur, rfl, _, _, h1, h2, _⟩
  · exact ⟨_, _, rfl, Nat.le_refl _, Nat.zero_le _⟩
  · exact ⟨_, _, rfl, h1, h2⟩

/-- append of any slice of such elements to a row of the call's own. -/
theorem run_append_X {P : Program} (w : World) (base : Nat) (T U ty : TypeId) (i : TypeInfo) (z : Value) (size bytes : Nat) (ht : P.underlying T = some (.slice U)) (hi : P.info? U = some i) (hz : i.zero = some z) (hsize : i.size = size) (hby : i.bytes = bytes) (hzs : z.cells.size = size) (hsz : 0 < size)
    (v : Value) (xs : List Value) (n : Nat) (hown : w.ownsRow base U size v n xs) (sv : Value) (m : Nat) (ys : List Value) (hs : IsX w size sv m ys) (h1 : ∀ u ∈ ys, u.oneCell' = true) (h63 : n + m ≤ maxLen) (hbytes : (n + m) * bytes ≤ 140737488355328) (hbase : base ≤ w.heap.size) :
    ∃ v' w', (Builtin.append_ #[T, T] ty #[v, sv]).run P w = .ok v' w' ∧ w'.ownsRow base U size v' (n + m) (xs ++ ys) ∧ w.grownBy w' v.ownBlock ∧ (v'.ownBlock = v.ownBlock ∨ v'.ownBlock = some w.heap.size) := by
  obtain ⟨a, cap, rfl, hlc, hcm, hl, hnc, hcell⟩ := hs
  by_cases ha : a = none
  · subst ha
    obtain rfl := hnc rfl
    obtain rfl : m = 0 := by omega
    obtain rfl : ys = [] := List.eq_nil_of_length_eq_zero (by simpa using hl)
    exact ⟨v, w, run_append_owned_none (P := P) w base T ty U i size ht hi v _ _ hown, by simpa using hown, ⟨rfl, rfl, rfl, Nat.le_refl _, fun _ _ _ => rfl⟩, .inl rfl⟩
  · obtain ⟨ad, rfl⟩ := Option.ne_none_iff_exists'.1 ha
    obtain ⟨v', w', k1, k2, k3, _, k5⟩ := run_append_own_at (P := P) w base T ty U i z size bytes ht hi hz hsize hby hzs hsz v n xs hown ad m cap ys hl
      (fun j u hj => by
        have hjl : j < ys.length := (List.getElem?_eq_some_iff.1 hj).1
        rcases hcell with h0 | ⟨b, off, e, hc⟩
        · subst h0
          simp at hl
          subst hl
          simp at hjl
        · cases e
          rw [add_lit, hc j (by omega)]
          exact hj) h1 h63 hbytes hbase
    exact ⟨v', w', k1, k2, k3, k5⟩

theorem wpList_append_X {P : Program} {w : World} {ops : Array Oper} {rest : List Oper} {o : Oper} {a : Act} {Q : Exit → Act → World → Prop} (hw : Region.wanted o (yielded ops a.tmps) = true) (s x : Operand) (T T' : TypeId)
    (ho : o.op = .call { callee := .builtin .append, args := #[s, x], argTypes := #[T, T'] }) (hTT : ∀ ty v sv, (Builtin.append_ #[T, T'] ty #[v, sv]).run P w = (Builtin.append_ #[T, T] ty #[v, sv]).run P w)
    (base : Nat) (U : TypeId) (i : TypeInfo) (z : Value) (size bytes : Nat) (ht : P.underlying T = some (.slice U)) (hi : P.info? U = some i) (hz : i.zero = some z) (hsize : i.size = size) (hby : i.bytes = bytes) (hzs : z.cells.size = size) (hsz : 0 < size)
    (v : Value) (xs : List Value) (n : Nat) (hs : a.eval s = v) (hown : w.ownsRow base U size v n xs) (sv : Value) (m : Nat) (ys : List Value) (hx : a.eval x = sv) (hv : IsX w size sv m ys) (h1 : ∀ u ∈ ys, u.oneCell' = true) (h63 : n + m ≤ maxLen) (hbytes : (n + m) * bytes ≤ 140737488355328) (hbase : base ≤ w.heap.size)
    (h : ∀ v' w', w'.ownsRow base U size v' (n + m) (xs ++ ys) → w.grownBy w' v.ownBlock → (v'.ownBlock = v.ownBlock ∨ v'.ownBlock = some w.heap.size) → wpList P ops Q rest (a.put o.dst v') w') : wpList P ops Q (o :: rest) a w := by
  refine BigFrame.wpList_want hw fun K hK => ?_
  obtain ⟨v', w', hr, h2, h3, h4⟩ := run_append_X (P := P) w base T U o.type i z size bytes ht hi hz hsize hby hzs hsz v xs n hown sv m ys hv h1 h63 hbytes hbase
  rw [← hTT] at hr
  unfold Oper.wp execOp
  simp only [ho, resolve, invoke, builtin, Sem.run_bind, Sem.run_pure, Result.andThen_ok, List.map_toArray, List.map_cons, List.map_nil, hs, hx, hr]
  exact hK _ _ (h v' w' h2 h3 h4)
theorem step_append_X {P : Program} {ops : Array Oper} {o : Oper} {a : Act} {w : World} {K : Act → World → Prop} {Q : Exit → Act → World → Prop} {E : Prop}
    (hw : Region.wanted o (yielded ops a.tmps) = true) (s x : Operand) (T : TypeId)
    (ho : o.op = .call { callee := .builtin .append, args := #[s, x], argTypes := #[T, T] })
    (base : Nat) (U : TypeId) (i : TypeInfo) (z : Value) (size bytes : Nat) (ht : P.underlying T = some (.slice U)) (hi : P.info? U = some i) (hz : i.zero = some z) (hsize : i.size = size) (hby : i.bytes = bytes) (hzs : z.cells.size = size) (hsz : 0 < size)
    (v : Value) (xs : List Value) (n : Nat) (hs : a.eval s = v) (hown : w.ownsRow base U size v n xs) (sv : Value) (m : Nat) (ys : List Value) (hx : a.eval x = sv) (hv : IsX w size sv m ys) (h1 : ∀ u ∈ ys, u.oneCell' = true) (h63 : n + m ≤ maxLen) (hbytes : (n + m) * bytes ≤ 140737488355328) (hbase : base ≤ w.heap.size)
    (h : ∀ v' w', w'.ownsRow base U size v' (n + m) (xs ++ ys) → w.grownBy w' v.ownBlock → (v'.ownBlock = v.ownBlock ∨ v'.ownBlock = some w.heap.size) → K (a.put o.dst v') w') :
    if Region.wanted o (yielded ops a.tmps) = true then Oper.wp P o a w K Q else E := by
  rw [if_pos hw]
  obtain ⟨v', w', hr, h2, h3, h4⟩ := run_append_X (P := P) w base T U o.type i z size bytes ht hi hz hsize hby hzs hsz v xs n hown sv m ys hv h1 h63 hbytes hbase
  unfold Oper.wp execOp
  simp only [ho, resolve, invoke, builtin, Sem.run_bind, Sem.run_pure, Result.andThen_ok, List.map_toArray, List.map_cons, List.map_nil, hs, hx, hr]
  exact h v' w' h2 h3 h4

theorem Kept.setRow {S : Nat → Prop} {a w : World} (h : Kept S a w) {g : Nat} (hg : S g ∨ a.heap.size ≤ g) (cs : Array Value) : Kept S a (w.setRow g cs) :=
  h.trans (T := fun k => k = g) ⟨rfl, rfl, rfl, by simp [World.setRow], fun k _ hk => setRow_other w g k cs hk⟩ (fun j e hj => by
    subst e
    rcases hg with hg | hg
    · exact hg
    · omega)

/-- copy of elements of whatever size. -/
theorem run_copy_X {P : Program} (w : World) (dT sT ty U : TypeId) (size : Nat) (g o dLen dCap : Nat) (a : Addr) (sLen sCap m : Nat) (cur : Array Value) (t : TypeId) (cs : List Value)
    (hu : P.underlying dT = some (.slice U)) (hs : (P.info? U).map (·.size) = some size)
    (hg : w.heap[g]? = some (.cells cur t (0, 0))) (hm : Nat.min sLen dLen = m) (hn : cs.length = m * size)
    (hsrc : ∀ j v, cs[j]? = some v → w.cell? (a.add j) = some v) (hfit : o + cs.length ≤ cur.size) (h1 : ∀ v ∈ cs, v.oneCell' = true) :
    (Builtin.copy_ #[dT, sT] ty #[.slice (some ⟨g, o, none⟩) dLen dCap, .slice (some a) sLen sCap]).run P w =
      .ok (goInt m) (w.setRow g (cur.toList.take o ++ cs ++ cur.toList.drop (o + cs.length)).toArray) := by
  obtain ⟨i, hq, hi⟩ := Option.map_eq_some_iff.1 hs
  have hf := run_firstCells_some (P := P) w size m a sLen sCap cs hn hsrc
  have hst := run_storeCells_at P g o t cs 0 cur w hg (by simpa using hfit) h1
  simp only [Nat.add_zero] at hst
  simp [Builtin.copy_, run_underlying hu, Builtin.lenOf, sizeOf, typeInfo, hq, hi, hm, hf, hst]
theorem step_copy_run {P : Program} {ops : Array Oper} {o : Oper} {a : Act} {w : World} {K : Act → World → Prop} {Q : Exit → Act → World → Prop} {E : Prop}
    (hg : o.guard = none) (d x : Operand) (dT sT : TypeId) (hop : o.op = Op.call { callee := Callee.builtin Builtin.copy, args := #[d, x], argTypes := #[dT, sT] })
    (v u : Value) (hd : a.eval d = v) (hx : a.eval x = u) {v' : Value} {w' : World} (hr : (Builtin.copy_ #[dT, sT] o.type #[v, u]).run P w = .ok v' w') (hK : K (a.put o.dst v') w') :
    if Region.wanted o (yielded ops a.tmps) = true then Oper.wp P o a w K Q else E := by
  have hw : Region.wanted o (yielded ops a.tmps) = true := by simp [Region.wanted, hg]
  rw [if_pos hw]
  unfold Oper.wp
  simp [execOp, hop, resolve, invoke, builtin, hd, hx, hr, Result.andThen]
  exact hK
theorem wpList_copy_run {P : Program} {w : World} {ops : Array Oper} {rest : List Oper} {o : Oper} {a : Act} {Q : Exit → Act → World → Prop} (hgd : o.guard = none) (d s : Operand) (t t' : TypeId)
    (ho : o.op = .call { callee := .builtin .copy, args := #[d, s], argTypes := #[t, t'] }) (v u : Value) (hd : a.eval d = v) (hs : a.eval s = u) {v' : Value} {w' : World}
    (hr : (Builtin.copy_ #[t, t'] o.type #[v, u]).run P w = .ok v' w') (h : wpList P ops Q rest (a.put o.dst v') w') : wpList P ops Q (o :: rest) a w := by
  refine wpList_plain hgd fun K hK => ?_
  unfold Oper.wp
  simp [execOp, ho, resolve, invoke, builtin, hd, hs, hr, Result.andThen]
  exact hK _ _ h
theorem step_append_run {P : Program} {ops : Array Oper} {o : Oper} {a : Act} {w : World} {K : Act → World → Prop} {Q : Exit → Act → World → Prop} {E : Prop}
    (hg : o.guard = none) (d x : Operand) (dT sT : TypeId) (hop : o.op = Op.call { callee := Callee.builtin Builtin.append, args := #[d, x], argTypes := #[dT, sT] })
    (v u : Value) (hd : a.eval d = v) (hx : a.eval x = u) {v' : Value} {w' : World} (hr : (Builtin.append_ #[dT, sT] o.type #[v, u]).run P w = .ok v' w') (hK : K (a.put o.dst v') w') :
    if Region.wanted o (yielded ops a.tmps) = true then Oper.wp P o a w K Q else E := by
  have hw : Region.wanted o (yielded ops a.tmps) = true := by simp [Region.wanted, hg]
  rw [if_pos hw]
  unfold Oper.wp
  simp [execOp, hop, resolve, invoke, builtin, hd, hx, hr, Result.andThen]
  exact hK

/-- clear of elements of whatever size. -/
theorem run_clear_X {P : Program} (w : World) (T U ty : TypeId) (z : Value) (ht : P.underlying T = some (.slice U)) (hv : ∀ w, (zeroValue U).run P w = .ok z w) (g o n c : Nat) (hn : 0 < n) (cur : Array Value) (t : TypeId) (hg : w.heap[g]? = some (.cells cur t (0, 0)))
    (hfit : o + (Builtin.zeroCells z.cells n).toList.length ≤ cur.size) (h1 : ∀ v ∈ (Builtin.zeroCells z.cells n).toList, v.oneCell' = true) :
    (Builtin.clear_ #[T] ty #[.slice (some ⟨g, o, none⟩) n c]).run P w = .ok (.tuple #[]) (w.setRow g (cur.toList.take o ++ (Builtin.zeroCells z.cells n).toList ++ cur.toList.drop (o + (Builtin.zeroCells z.cells n).toList.length)).toArray) := by
  have hst := run_storeCells_at P g o t (Builtin.zeroCells z.cells n).toList 0 cur w hg (by simpa using hfit) h1
  simp only [Nat.add_zero] at hst
  obtain ⟨m, rfl⟩ : ∃ m, n = m + 1 := ⟨n - 1, by omega⟩
  simp [Builtin.clear_, run_underlying ht, hv] at hst ⊢
  rw [hst]
  simp

theorem ins_list {α : Type} (cur A E B : List α) (k m : Nat) (hA : cur.take k = A) (hm : E.length = m) (hk : k + m + B.length ≤ cur.length) :
    (((cur.take (k + m) ++ B ++ cur.drop (k + m + B.length)).take k ++ E ++ (cur.take (k + m) ++ B ++ cur.drop (k + m + B.length)).drop (k + m)).take (k + m + B.length)) = A ++ E ++ B ∧
    ((cur.take (k + m) ++ B ++ cur.drop (k + m + B.length)).take k ++ E ++ (cur.take (k + m) ++ B ++ cur.drop (k + m + B.length)).drop (k + m)).length = cur.length := by
  have hl : (cur.take (k + m)).length = k + m := by rw [List.length_take]; omega
  have e1 : (cur.take (k + m) ++ B ++ cur.drop (k + m + B.length)).take k = A := by
    rw [List.append_assoc, List.take_append_of_le_length (by omega), List.take_take, Nat.min_eq_left (by omega), hA]
  have e2 : (cur.take (k + m) ++ B ++ cur.drop (k + m + B.length)).drop (k + m) = B ++ cur.drop (k + m + B.length) := by
    rw [List.append_assoc]
    exact List.drop_left' hl
  have hAl : A.length = k := by rw [← hA, List.length_take]; omega
  rw [e1, e2]
  constructor
  · rw [← List.append_assoc, List.take_left' (by simp; omega)]
  · simp
    omega
theorem ins_list2 {α : Type} (cur A E B : List α) (k m : Nat) (hA : cur.take k = A) (hm : E.length = m) (hk : k + m + B.length ≤ cur.length) :
    (((cur.take k ++ E ++ cur.drop (k + m)).take (k + m) ++ B ++ (cur.take k ++ E ++ cur.drop (k + m)).drop (k + m + B.length)).take (k + m + B.length)) = A ++ E ++ B ∧
    ((cur.take k ++ E ++ cur.drop (k + m)).take (k + m) ++ B ++ (cur.take k ++ E ++ cur.drop (k + m)).drop (k + m + B.length)).length = cur.length := by
  have hAl : A.length = k := by rw [← hA, List.length_take]; omega
  rw [hA]
  have e1 : (A ++ E ++ cur.drop (k + m)).take (k + m) = A ++ E := List.take_left' (by simp; omega)
  rw [e1]
  constructor
  · rw [List.take_left' (by simp; omega)]
  · simp
    omega

end Go.Cor
end

section
namespace Go.Proofs.YtoblbipkkdiddaaGreatDoor
open Go.RowKit Go.Cor

theorem Tryz.infoEnt : (Tryz.prog.info? 185).map (fun i => (i.zero, i.size, i.bytes)) = some (some (.agg #[.string ⟨#[]⟩, .pointer none]), 2, 24) := by kernel_rfl
theorem Tryz.sizeEnt : (Tryz.prog.info? 185).map (·.size) = some 2 := by kernel_rfl

/-- An entry as cells; fb: where a file's box lies. -/
def ent (fb : Nat → Nat) (e : ByteArray × Nat) : List Value := [.string e.1, .pointer (some ⟨fb e.2, 0, none⟩)]
theorem ent_len (fb : Nat → Nat) (e : ByteArray × Nat) : (ent fb e).length = 2 := rfl
theorem ent_one (fb : Nat → Nat) (l : Tbl) : ∀ v ∈ row (ent fb) l, v.oneCell' = true := by
  refine row_mem fun x _ v hv => ?_
  simp only [ent, List.mem_cons, List.not_mem_nil, or_false] at hv
  rcases hv with rfl | rfl <;> rfl
/-- v is a table that reads as l. -/
def IsT (w : World) (fb : Nat → Nat) (v : Value) (l : Tbl) : Prop := IsX w 2 v l.length (row (ent fb) l)
theorem indexAt_T {w : World} {fb : Nat → Nat} {v : Value} {l : Tbl} (hv : IsT w fb v l) (T : TypeId) (ht : Tryz.prog.underlying T = some (.slice 185)) {i : Nat} {e : ByteArray × Nat} (he : l[i]? = some e) :
    ∃ b o, (∀ W, (Instr.indexAt T v (.int .i64 (i : Int))).run Tryz.prog W = .ok (.pointer (some ⟨b, o, none⟩)) W) ∧ v.ownBlock = some b ∧ w.cell? ⟨b, o, none⟩ = some (.string e.1) ∧ w.cell? ⟨b, o + 1, none⟩ = some (.pointer (some ⟨fb e.2, 0, none⟩)) := by
  have hi : i < l.length := (List.getElem?_eq_some_iff.1 he).1
  obtain ⟨b, o, h1, h2, h3⟩ := indexAt_X hv T _ ht Tryz.sizeEnt i hi
  refine ⟨b, o, h1, h2, ?_, ?_⟩
  · have := h3 0 (by decide)
    rw [row_get (ent_len fb) he 0 (by decide)] at this
    exact this
  · have := h3 1 (by decide)
    rw [row_get (ent_len fb) he 1 (by decide)] at this
    exact this

set_option maxRecDepth 100000 in
set_option maxHeartbeats 1000000 in
theorem search_any (fb : Nat → Nat) (v : Value) (l : Tbl) (n : ByteArray) (w : World) (hv : IsT w fb v l) (hs : Sorted l) (hl : l.length ≤ 1048576) :
    Calls Tryz.prog 123 #[v, .string n, .func (.func 124) #[] #[]] w fun e w' => e = .returned (.tuple #[.int .i64 (pos l n), .bool (tfind l n).isSome]) ∧ Below w.heap.size w w' := by
  obtain ⟨N, hN⟩ : ∃ N, l.length = N := ⟨_, rfl⟩
  obtain ⟨q, hq⟩ : ∃ q, pos l n = q := ⟨_, rfl⟩
  obtain ⟨r, hr⟩ : ∃ r, (tfind l n).isSome = r := ⟨_, rfl⟩
  have hqN := pos_le l n
  have hlen := fun W => len_X (P := Tryz.prog) hv 123 3 185 Tryz.underlying123 W
  rw [hN] at hlen hqN hl
  rw [hq] at hqN
  rw [hq, hr]
  have HV := Lib.hid hv
  have HN := Lib.hid hN
  have HQ := Lib.hid hq
  have HR := Lib.hid hr
  clear hv hN hq hr
  go_enter Tryz.func123, Tryz.ntmps123
  go_wp2
  go_loopw [9, 10] (fun a b wr => ∃ i j : Nat, i ≤ q ∧ q ≤ j ∧ j ≤ N ∧ a = .int .i64 i ∧ b = .int .i64 j ∧ Hid (Below w.heap.size w wr)) (fun a b _ => (intOf b).toNat - (intOf a).toNat)
  case atStart => exact ⟨0, N, Nat.zero_le _, hqN, Nat.le_refl _, rfl, rfl, Lib.hid (Below.refl _ _)⟩
  case round =>
    obtain ⟨i, j, hiq, hqj, hjN, rfl, rfl, hB⟩ := hrel
    by_cases hlt : i < j
    · obtain ⟨e, he⟩ : ∃ e, l[(i + j) / 2]? = some e := ⟨_, List.getElem?_eq_getElem (by rw [HN.out]; omega)⟩
      obtain ⟨b, o, hidx, hob, c0, c1⟩ := indexAt_T (HV.out.mono hB.out (Nat.le_refl _)) 123 Tryz.underlying123 he
      rw [show ((((i + j) / 2 : Nat)) : Int) = ((i : Int) + (j : Int)) / 2 from by omega] at hidx
      have HC := Lib.hid hB
      obtain ⟨c, hc⟩ : ∃ c, ncmp e.1 n = c := ⟨_, rfl⟩
      have HE := Lib.hid he
      have HCM := Lib.hid hc
      clear he hc
      go_wp2_with fail
      refine (closure_any _ _ _ _ rfl).mono ?_
      rintro e2 w2 ⟨rfl, hb2⟩
      rw [HCM.out]
      have HB2 := Lib.hid (hB.out.trans (hb2.mono hB.out.size))
      clear hb2 c0 c1 hidx
      by_cases hneg : c < 0
      · have hiq2 : (i + j) / 2 + 1 ≤ q := by
          by_cases h : (i + j) / 2 < q
          · exact h
          · have h2 := pos_above hs HE.out (by rw [HQ.out]; omega)
            rw [nlt_false, HCM.out] at h2
            omega
        go_wp2
        go_roundw
        case rel => exact ⟨(i + j) / 2 + 1, j, hiq2, hqj, hjN, by congr 1, rfl, HB2⟩
        case measure => simp [intOf]; omega
      · have hqj2 : q ≤ (i + j) / 2 := by
          by_cases h : (i + j) / 2 < q
          · have h2 := pos_below HE.out (by rw [HQ.out]; omega)
            rw [nlt_iff, HCM.out] at h2
            omega
          · omega
        go_wp2
        go_roundw
        case rel => exact ⟨i, (i + j) / 2, hiq, hqj2, by omega, rfl, by congr 1, HB2⟩
        case measure => simp [intOf]; omega
    · obtain rfl : i = q := by omega
      have hfp := tfind_pos hs n
      rw [HQ.out] at hfp
      by_cases hiN : i < N
      · obtain ⟨e, he⟩ : ∃ e, l[i]? = some e := ⟨_, List.getElem?_eq_getElem (by rw [HN.out]; omega)⟩
        obtain ⟨b, o, hidx, hob, c0, c1⟩ := indexAt_T (HV.out.mono hB.out (Nat.le_refl _)) 123 Tryz.underlying123 he
        rw [he] at hfp
        obtain ⟨c, hc⟩ : ∃ c, ncmp e.1 n = c := ⟨_, rfl⟩
        have HE := Lib.hid he
        have HCM := Lib.hid hc
        have hrc : r = (c == 0) := by
          rw [← HR.out, hfp, ← hc]
          by_cases hen : e.1 = n
          · simp [hen, ncmp_self]
          · have : ncmp e.1 n ≠ 0 := fun h => hen (ncmp_eq.1 h)
            simp [hen, this]
        have HRC := Lib.hid hrc
        clear he hc hfp hrc
        go_wp2_with fail
        refine (closure_any _ _ _ _ rfl).mono ?_
        rintro e2 w2 ⟨rfl, hb2⟩
        rw [HCM.out]
        have HB2 := Lib.hid (hB.out.trans (hb2.mono hB.out.size))
        clear hb2 c0 c1 hidx
        go_wp2
        go_ret2
        exact ⟨by rw [HRC.out]; rfl, HB2.out⟩
      · have hrf : r = false := by
          rw [← HR.out, hfp, List.getElem?_eq_none (by rw [HN.out]; omega)]
          rfl
        subst hrf
        clear hfp
        go_wp2
        go_ret2
        exact ⟨rfl, hB.out⟩

theorem place_any (fb : Nat → Nat) (v : Value) (l : Tbl) (n : ByteArray) (w : World) (hv : IsT w fb v l) (hs : Sorted l) (hl : l.length ≤ 1048576) :
    Calls Tryz.prog 99 #[v, .string n] w fun e w' => e = .returned (.tuple #[.int .i64 (pos l n), .bool (tfind l n).isSome]) ∧ Below w.heap.size w w' := by
  go_enter Tryz.func99, Tryz.ntmps99
  go_wp2_with fail
  refine (search_any fb v l n _ hv hs hl).mono ?_
  rintro e w' ⟨rfl, hb⟩
  go_wp2
  go_ret2
  exact ⟨rfl, hb⟩

end Go.Proofs.YtoblbipkkdiddaaGreatDoor
end

section
namespace Go.Proofs.YtoblbipkkdiddaaGreatDoor
open Go.RowKit Go.Cor

set_option maxHeartbeats 400000 in
theorem tclone_any (fb : Nat → Nat) (v : Value) (l : Tbl) (w : World) (hv : IsT w fb v l) (hl : l.length ≤ 1048576) :
    Calls Tryz.prog 133 #[v] w fun e w' =>
      ∃ v', e = .returned v' ∧ w'.ownsRow w.heap.size 185 2 v' l.length (row (ent fb) l) ∧ Below w.heap.size w w' := by
  obtain ⟨i0, hi, hz0, hz1, hz2⟩ := info_parts Tryz.infoEnt
  have q22 : ∀ (w : World) (a : Option Addr) (n c n' c' : Nat), (binOp .eql 123 (.slice a n c) (.slice none n' c')).run Tryz.prog w = .ok (.bool a.isNone) w := fun w a n c n' c' => Lib.run_eql_slice_nil w _ _ a n c n' c' Tryz.underlying123
  have HV := Lib.hid hv
  obtain ⟨x, cap, rfl, hlc, hcm, hll, hnc, hcell⟩ := hv
  clear hcell hll
  cases x with
  | none =>
    obtain rfl := hnc rfl
    obtain rfl : l = [] := List.eq_nil_of_length_eq_zero (by omega)
    go_enter Tryz.func133, Tryz.ntmps133
    go_wp2
    go_ret
    exact ⟨_, rfl, World.ownsRow_nil _ _ _ _, Below.refl _ _⟩
  | some a =>
    clear hnc
    go_enter Tryz.func133, Tryz.ntmps133
    go_wp2_with (at_builtin; refine wpList_append_X (by rfl) _ _ 123 123 rfl (fun _ _ _ => rfl) w.heap.size 185 i0 _ 2 24 Tryz.underlying123 hi hz0 hz1 hz2 rfl (by decide) _ [] 0 rfl (World.ownsRow_lit _ #[] 0 (Nat.le_refl _) (Nat.zero_le _) rfl) _ l.length _ rfl (HV.out.mono ((Below.refl _ _).alloc (Nat.le_refl _) _) (Nat.le_refl _)) (ent_one fb l) (by unfold maxLen; omega) (by omega) (by simp) ?_; intro v4 w4 hown4 hb4 hl4)
    go_ret
    refine ⟨_, rfl, by simpa using hown4, ((Below.refl _ _).alloc (Nat.le_refl _) _).grown hb4 (by simp) (fun k hk => ?_)⟩
    have : some w.heap.size = some k := hk
    cases this
    exact Nat.le_refl _

theorem zero_ent : ∀ w, (zeroValue 185).run Tryz.prog w = .ok (.agg #[.string ⟨#[]⟩, .pointer none]) w := fun w => by
  obtain ⟨i0, hi, hz0, hz1, hz2⟩ := info_parts Tryz.infoEnt
  simp [zeroValue, typeInfo, hi, hz0]

set_option maxRecDepth 100000 in
set_option maxHeartbeats 1000000 in
theorem tdel_any (fb : Nat → Nat) (v : Value) (l : Tbl) (i : Nat) (w : World) (hv : w.ownsRow 0 185 2 v l.length (row (ent fb) l)) (hi : i < l.length) (hl : l.length ≤ 1048576) :
    Calls Tryz.prog 142 #[v, .int .i64 (i : Int), .int .i64 ((i : Int) + 1)] w fun e w' =>
      ∃ v', e = .returned v' ∧ w'.ownsRow 0 185 2 v' (l.eraseIdx i).length (row (ent fb) (l.eraseIdx i)) ∧ Kept (fun k => v.ownBlock = some k) w w' ∧ v'.ownBlock = v.ownBlock := by
  obtain ⟨i0, hinf, hz0, hz1, hz2⟩ := info_parts Tryz.infoEnt
  have hT := Tryz.underlying123
  have hX := IsX.own hv
  rcases hv.2 with ⟨rfl, h0⟩ | ⟨g, cap, cur, rfl, hb0, hg, hlc, hcm, hcs, htake⟩
  · omega
  have hlr := length_row (ent_len fb) l
  obtain ⟨N, hN⟩ : ∃ N, l.length = N := ⟨_, rfl⟩
  rw [hN] at hX hi hl hlc hv hlr
  have hs0 := slice_h_X (P := Tryz.prog) 2 (some ⟨g, 0, none⟩) N cap 123 _ hT Tryz.sizeEnt i (by omega)
  have hs1 := slice_l_X (P := Tryz.prog) hX 123 _ hT Tryz.sizeEnt (i + 1) (by omega)
  obtain ⟨u3, hs3⟩ := slice_lhm_C (P := Tryz.prog) 2 (some ⟨g, 0, none⟩) N cap 123 _ hT Tryz.sizeEnt i (i + 1) N (by omega) (by omega) hlc
  have hlen := fun W => len_X (P := Tryz.prog) hX 123 3 _ hT W
  have hown0 := ownsRow_take hv (Nat.le_of_lt hi)
  have hX1 := hX.piece (lo := i + 1) (hi := N) (by omega) (Nat.le_refl _)
  obtain ⟨ad, had⟩ := sliced_some ⟨g, 0, none⟩ (i + 1) N cap 2
  rw [had] at hs1 hX1
  have hB : ((row (ent fb) l).drop ((i + 1) * 2)).take ((N - (i + 1)) * 2) = (row (ent fb) l).drop ((i + 1) * 2) := List.take_of_length_le (by rw [List.length_drop, hlr]; omega)
  rw [hB] at hX1
  obtain ⟨w1, hap, hown1, hgr1⟩ := run_append_fits (P := Tryz.prog) w.drew 0 123 123 _ i0 2 hT hinf hz1 g i cap _ hown0 ad (N - (i + 1)) (cap - (i + 1)) ((row (ent fb) l).drop ((i + 1) * 2)) (by rw [List.length_drop, hlr]; omega)
    (fun j u hj => by
      obtain ⟨a', c', e', k1, k2, k3, k4, k5⟩ := hX1
      cases e'
      have hjl := (List.getElem?_eq_some_iff.1 hj).1
      rcases k5 with k5 | ⟨b, off, e1, hc⟩
      · omega
      · cases e1
        rw [add_lit]
        exact (hc j (by rw [← k3]; exact hjl)).trans hj) (fun u hu => ent_one fb l u (List.mem_of_mem_drop hu)) (by omega)
  have hN1 : i + (N - (i + 1)) = N - 1 := by omega
  rw [hN1] at hap hown1
  have hX2 := IsX.own hown1
  have hlen2 := fun W => len_X (P := Tryz.prog) hX2 123 3 _ hT W
  have hs4 := slice_lh_C (P := Tryz.prog) 2 (some ⟨g, 0, none⟩) (N - 1) cap 123 _ hT Tryz.sizeEnt (N - 1) N (by omega) hlc
  rw [sliced_at _ _ _ _ _ _ (by omega), Nat.zero_add, show N - (N - 1) = 1 from by omega] at hs4
  have hcur := hown1.2
  rcases hcur with ⟨hbad, _⟩ | ⟨g', cap', cur1, he1, _, hg1, hlc1, hcm1, hcs1, htake1⟩
  · cases hbad
  cases he1
  have hzl : (Builtin.zeroCells (Value.agg #[.string ⟨#[]⟩, .pointer none]).cells 1).toList = [.string ⟨#[]⟩, .pointer none] := by kernel_rfl
  have hcl := fun ty => run_clear_X (P := Tryz.prog) w1 123 _ ty _ hT zero_ent g ((N - 1) * 2) 1 (cap - (N - 1)) (by decide) cur1 _ hg1 (by rw [hzl, hcs1]; show (N - 1) * 2 + 2 ≤ _; omega) (by rw [hzl]; intro u hu; simp only [List.mem_cons, List.not_mem_nil, or_false] at hu; rcases hu with rfl | rfl <;> rfl)
  rw [hzl] at hcl
  have hrow2 := setRow_heap w1 g cur1 (cur1.toList.take ((N - 1) * 2) ++ [Value.string ⟨#[]⟩, .pointer none] ++ cur1.toList.drop ((N - 1) * 2 + [Value.string ⟨#[]⟩, .pointer none].length)).toArray 185 _ hg1
  have hK2 : Kept (fun k => some g = some k) w (w1.setRow g (cur1.toList.take ((N - 1) * 2) ++ [Value.string ⟨#[]⟩, .pointer none] ++ cur1.toList.drop ((N - 1) * 2 + [Value.string ⟨#[]⟩, .pointer none].length)).toArray) :=
    (((Kept.refl _ w).drew).grown hgr1 (fun k hk => .inl hk)).setRow (.inl rfl) _
  generalize w1.setRow g (cur1.toList.take ((N - 1) * 2) ++ [Value.string ⟨#[]⟩, .pointer none] ++ cur1.toList.drop ((N - 1) * 2 + [Value.string ⟨#[]⟩, .pointer none].length)).toArray = w2 at hcl hrow2 hK2
  have hown2 : w2.ownsRow 0 185 2 (.slice (some ⟨g, 0, none⟩) (N - 1) cap) (N - 1) (row (ent fb) (l.eraseIdx i)) := by
    have hxs : (row (ent fb) l).take (i * 2) ++ (row (ent fb) l).drop ((i + 1) * 2) = row (ent fb) (l.eraseIdx i) := by rw [erase_take_drop, row_append, row_take (ent_len fb), row_drop (ent_len fb)]
    rw [hxs] at hown1 htake1
    have hlt : (cur1.toList.take ((N - 1) * 2)).length = (N - 1) * 2 := by rw [List.length_take, Array.length_toList, hcs1]; omega
    refine ⟨hown1.1, .inr ⟨g, cap, _, rfl, Nat.zero_le _, hrow2, hlc1, hcm1, ?_, ?_⟩⟩
    · simp only [List.size_toArray, List.length_append, List.length_drop, hlt, Array.length_toList, hcs1, List.length_cons, List.length_nil]
      omega
    · show List.take _ (_ ++ _ ++ _) = _
      rw [List.append_assoc, List.take_left' hlt]
      exact htake1
  have hel : (l.eraseIdx i).length = N - 1 := by rw [List.length_eraseIdx, hN, if_pos hi]
  rw [hel, hN]
  have HO := Lib.hid hown2
  have HK := Lib.hid hK2
  have hne : ((i : Int) == (i : Int) + 1) = false := by simp; omega
  have hs1' := hs1
  rw [show ((i + 1 : Nat) : Int) = (i : Int) + 1 from rfl] at hs1' hs3
  have hap' : (Builtin.append_ #[123, 123] 123 #[.slice (some ⟨g, 0, none⟩) i cap, .slice (some ad) (N - (i + 1)) (cap - (i + 1))]).run Tryz.prog w.drew = .ok (.slice (some ⟨g, 0, none⟩) (N - 1) cap) w1 := hap
  have hb : Value.ownBlock (.slice (some ⟨g, 0, none⟩) N cap) = some g := rfl
  have hb2 : Value.ownBlock (.slice (some ⟨g, 0, none⟩) (N - 1) cap) = some g := rfl
  rw [hb]
  clear hown1 hown2 hK2 hrow2 hg1 hcs1 htake1 hlc1 hcm1 hX2 hX1 hX hv hgr1 hown0 hs1 hap hg hcs htake hN hel hlr hB hzl hb
  generalize hV : Value.slice (some ⟨g, 0, none⟩) N cap = V at *
  generalize hV0 : Value.slice (some ⟨g, 0, none⟩) i cap = V0 at *
  generalize hV1 : Value.slice (some ad) (N - (i + 1)) (cap - (i + 1)) = V1 at *
  generalize hV2 : Value.slice (some ⟨g, 0, none⟩) (N - 1) cap = V2 at *
  generalize hV3 : Value.slice (some ⟨g, (N - 1) * 2, none⟩) 1 (cap - (N - 1)) = V3 at *
  clear hV hV0 hV1 hV2 hV3
  have HB2 := Lib.hid hb2
  have HAP := Lib.hid hap'
  clear hb2 hap' hN1
  go_enter Tryz.func142, Tryz.ntmps142
  go_wp2
  go_region_law (refine step_append_run rfl _ _ 123 123 rfl _ _ rfl rfl HAP.out ?_)
  go_wp2
  go_ret
  exact ⟨_, rfl, HO.out, HK.out, HB2.out⟩

end Go.Proofs.YtoblbipkkdiddaaGreatDoor
end
