/- Dsk, Strs, Names, Tab, Tabd, Tabw, Tabi, Blk. -/
import Derived.Lib.Bytealg
import Derived.Test.YtcpoaofcfefgaaaGreatDoorChecked
import Derived.Test.YtcpoaofcfefgaaaGreatDoorM1
import Derived.Lib.Strings
import Derived.Lib.BufferWrite
import Derived.Lib.UnsafeStr
import Derived.WalkLawsBesides
import Derived.WalkSpells
import Derived.Lib.Hide
import Derived.IntWalk
import Derived.Outline
import Derived.Lib.SliceRun
import Derived.Lib.Overlaps
import Derived.Deep.RegionLaw
import Derived.Deep.RegionHeld3

section
namespace Go.Cor

/-- Two texts by their bytes: below 0, 0, above 0. -/
def ncmp (a b : ByteArray) : Int := Lib.compareBytes a.data.toList b.data.toList
def nlt (a b : ByteArray) : Bool := decide (ncmp a b < 0)

theorem cb_swap : ∀ (a b : List UInt8), Lib.compareBytes b a = - Lib.compareBytes a b
  | [], [] => rfl
  | [], _ :: _ => rfl
  | _ :: _, [] => rfl
  | x :: a, y :: b => by
    unfold Lib.compareBytes
    by_cases h1 : x < y
    · have h2 : ¬ y < x := by simp only [UInt8.lt_iff_toNat_lt] at h1 ⊢; omega
      simp [h1, h2]
    · by_cases h2 : y < x
      · simp [h1, h2]
      · simp only [h1, h2, if_false]
        exact cb_swap a b
theorem cb_eq : ∀ (a b : List UInt8), Lib.compareBytes a b = 0 ↔ a = b
  | [], [] => by simp [Lib.compareBytes]
  | [], _ :: _ => by simp [Lib.compareBytes]
  | _ :: _, [] => by simp [Lib.compareBytes]
  | x :: a, y :: b => by
    unfold Lib.compareBytes
    by_cases h1 : x < y
    · have h3 : x ≠ y := by rintro rfl; exact absurd h1 (by simp only [UInt8.lt_iff_toNat_lt]; omega)
      simp [h1, h3]
    · by_cases h2 : y < x
      · have h3 : x ≠ y := by rintro rfl; exact absurd h2 (by simp only [UInt8.lt_iff_toNat_lt]; omega)
        simp [h1, h2, h3]
      · have h3 : x = y := by
          simp only [UInt8.lt_iff_toNat_lt] at h1 h2
          exact UInt8.toNat_inj.1 (by omega)
        subst h3
        simp only [h1, if_false, List.cons.injEq, true_and]
        exact cb_eq a b
theorem cb_trans : ∀ (a b c : List UInt8), Lib.compareBytes a b < 0 → Lib.compareBytes b c < 0 → Lib.compareBytes a c < 0
  | [], [], _ => by simp [Lib.compareBytes]
  | [], _ :: _, [] => by simp [Lib.compareBytes]
  | [], _ :: _, _ :: _ => by simp [Lib.compareBytes]
  | _ :: _, [], _ => by simp [Lib.compareBytes]
  | _ :: _, _ :: _, [] => by simp [Lib.compareBytes]
  | x :: a, y :: b, z :: c => by
    unfold Lib.compareBytes
    intro h1 h2
    have ih := cb_trans a b c
    simp only [UInt8.lt_iff_toNat_lt] at h1 h2 ⊢
    split at h1
    · split at h2
      · rw [if_pos (by omega)]; decide
      · split at h2
        · omega
        · rw [if_pos (by omega)]; decide
    · split at h1
      · omega
      · split at h2
        · rw [if_pos (by omega)]; decide
        · split at h2
          · omega
          · rw [if_neg (by omega), if_neg (by omega)]
            exact ih h1 h2

theorem ncmp_swap (a b : ByteArray) : ncmp b a = - ncmp a b := cb_swap _ _
theorem ncmp_eq {a b : ByteArray} : ncmp a b = 0 ↔ a = b := by
  unfold ncmp
  rw [cb_eq]
  constructor
  · intro h
    apply ByteArray.ext
    exact Array.toList_inj.1 h
  · rintro rfl; rfl
theorem ncmp_self (a : ByteArray) : ncmp a a = 0 := ncmp_eq.2 rfl
theorem nlt_iff {a b : ByteArray} : nlt a b = true ↔ ncmp a b < 0 := by simp [nlt]
theorem nlt_false {a b : ByteArray} : nlt a b = false ↔ 0 ≤ ncmp a b := by simp [nlt]
theorem nlt_irrefl (a : ByteArray) : nlt a a = false := by rw [nlt_false, ncmp_self]; omega
theorem nlt_trans {a b c : ByteArray} (h : nlt a b = true) (k : nlt b c = true) : nlt a c = true := nlt_iff.2 (cb_trans _ _ _ (nlt_iff.1 h) (nlt_iff.1 k))
theorem nlt_ne {a b : ByteArray} (h : nlt a b = true) : a ≠ b := by rintro rfl; rw [nlt_irrefl] at h; cases h
theorem nlt_total {a b : ByteArray} (h : nlt a b = false) (hne : a ≠ b) : nlt b a = true := by
  rw [nlt_iff, ncmp_swap]
  have h1 := nlt_false.1 h
  have h2 : ncmp a b ≠ 0 := fun e => hne (ncmp_eq.1 e)
  omega

/-- Names and what has them. -/
abbrev Tbl := List (ByteArray × Nat)
def wout (l : Tbl) (n : ByteArray) : Tbl := l.filter fun e => !decide (e.1 = n)
/-- Where a name stands, or would stand. -/
def pos (l : Tbl) (n : ByteArray) : Nat := (l.takeWhile fun e => nlt e.1 n).length
def wth (l : Tbl) (n : ByteArray) (f : Nat) : Tbl := (wout l n).take (pos (wout l n) n) ++ (n, f) :: (wout l n).drop (pos (wout l n) n)
def tfind : Tbl → ByteArray → Option Nat
  | [], _ => none
  | e :: r, n => if e.1 = n then some e.2 else tfind r n
def Sorted (l : Tbl) : Prop := l.Pairwise fun a b => nlt a.1 b.1 = true

theorem pos_le (l : Tbl) (n : ByteArray) : pos l n ≤ l.length := by
  unfold pos
  exact (List.takeWhile_sublist _).length_le
theorem pos_cons (e : ByteArray × Nat) (r : Tbl) (n : ByteArray) : pos (e :: r) n = if nlt e.1 n = true then pos r n + 1 else 0 := by
  unfold pos
  rw [List.takeWhile_cons]
  split <;> simp
theorem pos_below {l : Tbl} {n : ByteArray} {i : Nat} {e : ByteArray × Nat} (h : l[i]? = some e) (hi : i < pos l n) : nlt e.1 n = true := by
  induction l generalizing i with
  | nil => simp at h
  | cons x r ih =>
    rw [pos_cons] at hi
    split at hi
    · cases i with
      | zero => simp only [List.getElem?_cons_zero, Option.some.injEq] at h; subst h; assumption
      | succ i => exact ih (by simpa using h) (by omega)
    · omega
theorem pos_above {l : Tbl} (hs : Sorted l) {n : ByteArray} {i : Nat} {e : ByteArray × Nat} (h : l[i]? = some e) (hi : pos l n ≤ i) : nlt e.1 n = false := by
  induction l generalizing i with
  | nil => simp at h
  | cons x r ih =>
    have hs' := List.pairwise_cons.1 hs
    rw [pos_cons] at hi
    split at hi
    · cases i with
      | zero => omega
      | succ i => exact ih hs'.2 (by simpa using h) (by omega)
    · rename_i hx
      have hx' : nlt x.1 n = false := by simpa using hx
      cases i with
      | zero => simp only [List.getElem?_cons_zero, Option.some.injEq] at h; subst h; exact hx'
      | succ i =>
        have hm : e ∈ r := List.mem_of_getElem? (by simpa using h)
        have h1 := hs'.1 e hm
        cases h2 : nlt e.1 n with
        | false => rfl
        | true => rw [nlt_trans h1 h2] at hx'; cases hx'
theorem wout_none {l : Tbl} {n : ByteArray} (h : tfind l n = none) : wout l n = l := by
  unfold wout
  rw [List.filter_eq_self]
  induction l with
  | nil => intro a ha; cases ha
  | cons e r ih =>
    unfold tfind at h
    split at h
    · cases h
    · rename_i hne
      intro a ha
      rcases List.mem_cons.1 ha with rfl | ha
      · simpa using hne
      · exact ih h a ha
theorem tfind_mem {l : Tbl} {n : ByteArray} {f : Nat} (h : tfind l n = some f) : (n, f) ∈ l := by
  induction l with
  | nil => cases h
  | cons e r ih =>
    unfold tfind at h
    split at h
    · rename_i hn
      cases h
      subst hn
      exact List.mem_cons_self ..
    · exact List.mem_cons_of_mem _ (ih h)
theorem tfind_none {l : Tbl} {n : ByteArray} : tfind l n = none ↔ ∀ e ∈ l, e.1 ≠ n := by
  induction l with
  | nil => simp [tfind]
  | cons e r ih =>
    unfold tfind
    by_cases h : e.1 = n
    · simp [h]
    · simp [h, ih]
/-- What stands at a name's place. -/
theorem tfind_pos {l : Tbl} (hs : Sorted l) (n : ByteArray) : tfind l n = match l[pos l n]? with | some e => if e.1 = n then some e.2 else none | none => none := by
  induction l with
  | nil => rfl
  | cons e r ih =>
    have hs' := List.pairwise_cons.1 hs
    rw [pos_cons]
    unfold tfind
    by_cases hn : e.1 = n
    · simp [hn, nlt_irrefl]
    · by_cases hl : nlt e.1 n = true
      · rw [if_neg hn, if_pos hl, ih hs'.2]
        simp
      · rw [if_neg hn, if_neg hl]
        simp only [List.getElem?_cons_zero, if_neg hn]
        rw [tfind_none]
        intro x hx hxn
        have h1 := hs'.1 x hx
        rw [hxn] at h1
        exact hl h1
theorem tfind_at {l : Tbl} (hs : Sorted l) {n : ByteArray} {f : Nat} (h : tfind l n = some f) : l[pos l n]? = some (n, f) := by
  rw [tfind_pos hs] at h
  split at h
  · rename_i e he
    split at h
    · rename_i hn
      cases h
      rw [he, ← hn]
    · cases h
  · cases h
theorem wout_sublist (l : Tbl) (n : ByteArray) : (wout l n).Sublist l := List.filter_sublist
theorem wout_sorted {l : Tbl} (hs : Sorted l) (n : ByteArray) : Sorted (wout l n) := hs.sublist (wout_sublist l n)
theorem wout_length (l : Tbl) (n : ByteArray) : (wout l n).length ≤ l.length := (wout_sublist l n).length_le
theorem wout_find (l : Tbl) (n : ByteArray) : tfind (wout l n) n = none := by
  rw [tfind_none]
  intro e he
  have := (List.mem_filter.1 he).2
  simpa using this
theorem eraseIdx_eq (l : Tbl) (i : Nat) (n : ByteArray) (h : ∀ j e, l[j]? = some e → (e.1 = n ↔ j = i)) : l.eraseIdx i = wout l n := by
  induction l generalizing i with
  | nil => rfl
  | cons x r ih =>
    cases i with
    | zero =>
      have hx := (h 0 x rfl).2 rfl
      have hr : wout r n = r := by
        unfold wout
        rw [List.filter_eq_self]
        intro a ha
        obtain ⟨j, hj⟩ := List.getElem?_of_mem ha
        have := h (j + 1) a (by simpa using hj)
        simp only [Nat.add_eq_zero_iff, Nat.succ_ne_self, and_false, iff_false] at this
        simpa using this
      simp [wout, hx]
      exact hr.symm
    | succ i =>
      have hx : ¬ x.1 = n := fun e => by have := (h 0 x rfl).1 e; omega
      rw [List.eraseIdx_cons_succ, ih i (fun j e he => by
        have := h (j + 1) e (by simpa using he)
        rw [this]
        omega)]
      simp [wout, hx]
theorem erase_pos {l : Tbl} (hs : Sorted l) {n : ByteArray} {f : Nat} (h : tfind l n = some f) : l.eraseIdx (pos l n) = wout l n := by
  refine eraseIdx_eq l _ n fun j e he => ⟨fun hn => ?_, fun hj => ?_⟩
  · have h1 := tfind_at hs h
    have h2 : ¬ j < pos l n := fun hlt => nlt_ne (pos_below he hlt) hn
    by_cases h3 : j = pos l n
    · exact h3
    · have hp : pos l n < j := by omega
      have hjl : j < l.length := (List.getElem?_eq_some_iff.1 he).1
      have hpl : pos l n < l.length := by omega
      have := List.pairwise_iff_getElem.1 hs (pos l n) j hpl hjl hp
      rw [(List.getElem?_eq_some_iff.1 he).2, (List.getElem?_eq_some_iff.1 h1).2, hn] at this
      rw [nlt_irrefl] at this
      cases this
  · subst hj
    rw [tfind_at hs h] at he
    cases he
    rfl
theorem erase_take_drop (l : Tbl) (i : Nat) : l.eraseIdx i = l.take i ++ l.drop (i + 1) := List.eraseIdx_eq_take_drop_succ ..

theorem pos_append {a b : Tbl} {n : ByteArray} (h : ∀ e ∈ a, nlt e.1 n = true) (hb : ∀ e, b.head? = some e → nlt e.1 n = false) : pos (a ++ b) n = a.length := by
  induction a with
  | nil =>
    cases b with
    | nil => rfl
    | cons e r => rw [List.nil_append, pos_cons, hb e rfl]; rfl
  | cons x a ih =>
    rw [List.cons_append, pos_cons, h x (List.mem_cons_self ..), if_pos rfl, ih (fun e he => h e (List.mem_cons_of_mem _ he)), List.length_cons]
/-- A name that is there gets another file. -/
theorem set_pos {l : Tbl} (hs : Sorted l) {n : ByteArray} {f g : Nat} (h : tfind l n = some f) : l.set (pos l n) (n, g) = wth l n g := by
  have hat := tfind_at hs h
  obtain ⟨hlt, hge⟩ := List.getElem?_eq_some_iff.1 hat
  have hw : wout l n = l.take (pos l n) ++ l.drop (pos l n + 1) := by rw [← erase_pos hs h, erase_take_drop]
  have hp : pos (wout l n) n = pos l n := by
    rw [hw, pos_append (a := l.take (pos l n))]
    · rw [List.length_take]
      omega
    · intro e he
      obtain ⟨j, hj⟩ := List.getElem?_of_mem he
      rw [List.getElem?_take] at hj
      split at hj
      · exact pos_below hj (by assumption)
      · cases hj
    · intro e he
      rw [List.head?_drop] at he
      exact pos_above hs he (by omega)
  unfold wth
  rw [hp, hw]
  have hlen : (l.take (pos l n)).length = pos l n := by rw [List.length_take]; omega
  rw [List.take_append_of_le_length (by omega), List.take_of_length_le (by omega), List.drop_append_of_le_length (by omega), List.drop_of_length_le (by omega), List.nil_append]
  rw [List.set_eq_take_append_cons_drop, if_pos hlt]
/-- A name that isn't there is laid in. -/
theorem ins_pos {l : Tbl} {n : ByteArray} (h : tfind l n = none) (f : Nat) : l.take (pos l n) ++ (n, f) :: l.drop (pos l n) = wth l n f := by
  unfold wth
  rw [wout_none h]
theorem wth_length (l : Tbl) (n : ByteArray) (f : Nat) : (wth l n f).length = (wout l n).length + 1 := by
  unfold wth
  have := pos_le (wout l n) n
  simp
  omega
theorem wth_mem {l : Tbl} {n : ByteArray} {f : Nat} {e : ByteArray × Nat} (h : e ∈ wth l n f) : e = (n, f) ∨ e ∈ l := by
  unfold wth at h
  rcases List.mem_append.1 h with h | h
  · exact .inr ((wout_sublist l n).mem (List.mem_of_mem_take h))
  · rcases List.mem_cons.1 h with h | h
    · exact .inl h
    · exact .inr ((wout_sublist l n).mem (List.mem_of_mem_drop h))
theorem wth_sorted {l : Tbl} (hs : Sorted l) (n : ByteArray) (f : Nat) : Sorted (wth l n f) := by
  have hw := wout_sorted hs n
  have hnone := wout_find l n
  unfold wth
  generalize wout l n = k at hw hnone
  unfold Sorted
  rw [List.pairwise_append]
  refine ⟨hw.sublist (List.take_sublist _ _), ?_, ?_⟩
  · rw [List.pairwise_cons]
    refine ⟨fun e he => ?_, hw.sublist (List.drop_sublist _ _)⟩
    obtain ⟨j, hj⟩ := List.getElem?_of_mem he
    rw [List.getElem?_drop] at hj
    exact nlt_total (pos_above hw hj (by show pos k n ≤ _; omega)) (tfind_none.1 hnone e (List.mem_of_getElem? hj))
  · intro a ha b hb
    obtain ⟨i, hi⟩ := List.getElem?_of_mem ha
    rw [List.getElem?_take] at hi
    split at hi
    · rename_i hip
      rcases List.mem_cons.1 hb with rfl | hb
      · exact pos_below hi hip
      · obtain ⟨j, hj⟩ := List.getElem?_of_mem hb
        rw [List.getElem?_drop] at hj
        have hil := (List.getElem?_eq_some_iff.1 hi)
        have hjl := (List.getElem?_eq_some_iff.1 hj)
        have := List.pairwise_iff_getElem.1 hw i (pos k n + j) hil.1 hjl.1 (by omega)
        rw [hil.2, hjl.2] at this
        exact this
    · cases hi

/-- A file: its bytes, and how many of the first ones last. -/
structure Fil where
  b : List UInt8
  lasts : Nat
/-- A deed of names: from one to another ('' is none). -/
structure Dd where
  src : ByteArray
  dst : ByteArray
  file : Nat
structure Dsk where
  cap : Nat
  files : List Fil
  now : Tbl
  las : Tbl
  deeds : List Dd
  armed : Option Nat

def noName : ByteArray := ⟨#[]⟩
def turnT (l : Tbl) (x : Dd) : Tbl := if x.dst = noName then wout l x.src else wth (wout l x.src) x.dst x.file
def fat (fs : List Fil) (k : Nat) : Fil := fs.getD k ⟨[], 0⟩
def usedT (fs : List Fil) : Tbl → Nat
  | [] => 0
  | e :: r => (fat fs e.2).b.length + usedT fs r
def Dsk.used (d : Dsk) : Nat := usedT d.files d.now

/-- Is it a byte of a name? -/
def okB (c : UInt8) : Bool := decide (97 ≤ c ∧ c ≤ 122 ∨ 48 ≤ c ∧ c ≤ 57 ∨ c = 46)
def isNm (s : ByteArray) : Bool := decide (1 ≤ s.size ∧ s.size ≤ 32) && s.data.toList.all okB

def Dsk.done (d : Dsk) : Dsk := { d with armed := d.armed.map (· - 1) }
def Dsk.nameD (d : Dsk) (x : Dd) : Dsk := { d with now := turnT d.now x, deeds := d.deeds ++ [x] }.done
def Dsk.setF (d : Dsk) (k : Nat) (f : Fil) : Dsk := { d with files := d.files.set k f }
def Dsk.syncN (d : Dsk) : Dsk := { d with las := d.now, deeds := [] }

def Dsk.create (d : Dsk) (n : ByteArray) : Dsk × Nat :=
  if d.armed = some 0 then (d, 12) else if isNm n = false then (d, 1) else if (tfind d.now n).isSome = true then (d, 8) else if 64 ≤ d.now.length then (d, 11)
  else (({ d with files := d.files ++ [⟨[], 0⟩] } : Dsk).nameD ⟨noName, n, d.files.length⟩, 0)
/-- What a call does with the file that has a name. -/
def Dsk.on {α : Type} (d : Dsk) (n : ByteArray) (no : Nat → α) (f : Nat → α) : α :=
  if d.armed = some 0 then no 12 else match tfind d.now n with | none => no 6 | some k => f k
def Dsk.append (d : Dsk) (n : ByteArray) (b : List UInt8) : Dsk × Nat :=
  d.on n (fun c => (d, c)) fun k =>
    if 16777216 < (fat d.files k).b.length + b.length then (d, 2) else if d.cap < d.used + b.length then (d, 11)
    else ((d.setF k ⟨(fat d.files k).b ++ b, (fat d.files k).lasts⟩).done, 0)
def Dsk.read (d : Dsk) (n : ByteArray) (off m : Int) : List UInt8 × Nat :=
  d.on n (fun c => ([], c)) fun k =>
    if off < 0 ∨ m < 0 then ([], 1) else if (fat d.files k).b.length < off + m then ([], 3) else (((fat d.files k).b.drop off.toNat).take m.toNat, 0)
def Dsk.size (d : Dsk) (n : ByteArray) : Nat × Nat := d.on n (fun c => (0, c)) fun k => ((fat d.files k).b.length, 0)
def Dsk.sync (d : Dsk) (n : ByteArray) : Dsk × Nat :=
  d.on n (fun c => (d, c)) fun k => ((d.setF k ⟨(fat d.files k).b, (fat d.files k).b.length⟩).done, 0)
def Dsk.syncNames (d : Dsk) : Dsk × Nat := if d.armed = some 0 then (d, 12) else (d.syncN.done, 0)
def Dsk.rename (d : Dsk) (n t : ByteArray) : Dsk × Nat :=
  d.on n (fun c => (d, c)) fun k => if isNm t = false then (d, 1) else (d.nameD ⟨n, t, k⟩, 0)
def Dsk.arm (d : Dsk) (m : Int) : Dsk × Nat := if d.armed = some 0 then (d, 12) else if m < 0 then (d, 1) else ({ d with armed := some m.toNat }, 0)
/-- What holds of every disk. k: how many calls there were. -/
structure Dsk.Ok (d : Dsk) (k : Nat) : Prop where
  cap : d.cap ≤ 1073741824
  nowS : Sorted d.now
  lasS : Sorted d.las
  nowF : ∀ e ∈ d.now, e.2 < d.files.length ∧ isNm e.1 = true
  lasF : ∀ e ∈ d.las, e.2 < d.files.length ∧ isNm e.1 = true
  deeF : ∀ x ∈ d.deeds, (x.dst = noName ∨ isNm x.dst = true ∧ x.file < d.files.length) ∧ (x.src = noName ∨ isNm x.src = true) ∧ (x.src = noName → x.dst ≠ noName)
  fil : ∀ f ∈ d.files, f.lasts ≤ f.b.length ∧ f.b.length ≤ 16777216
  filN : d.files.length ≤ k
  nowN : d.now.length ≤ d.las.length + d.deeds.length
  lenN : d.las.length + d.deeds.length ≤ k
  arm : ∀ n, d.armed = some n → n < 9223372036854775808

end Go.Cor
end

section
namespace Go.Proofs.YtcpoaofcfefgaaaGreatDoor
open Go.RowKit Go.Cor

theorem compare_in (a b : ByteArray) (w : World) :
    Calls Tryz.prog 124 #[.string a, .string b] w fun e w' => e = .returned (.int .i64 (ncmp a b)) ∧ w = w' := by
  have hx := @run_callFunc_extern Tryz.prog 135 _ Extern.BytealgCompare.compare Tryz.func135 (by kernel_rfl) (by kernel_rfl) (by kernel_rfl) (by kernel_rfl)
  have hc := fun w => Lib.run_compareString (P := Tryz.prog) a b w
  rw [show Lib.compareBytes a.data.toList b.data.toList = ncmp a b from rfl] at hc
  go_enter Tryz.func124, Tryz.ntmps124
  go_wp2
  go_ret
  exact ⟨rfl, rfl⟩
theorem compare_any (a b : ByteArray) (w : World) :
    Calls Tryz.prog 108 #[.string a, .string b] w fun e w' => e = .returned (.int .i64 (ncmp a b)) ∧ w = w' := by
  go_enter Tryz.func108, Tryz.ntmps108
  go_wp2_with (go_at_call 124; refine (compare_in _ _ _).mono ?_; rintro e w' ⟨rfl, rfl⟩)
  go_ret
  exact ⟨rfl, rfl⟩
theorem closure_any (a b : ByteArray) (f : Value) (w : World) (hf : f.oneCell' = true) :
    Calls Tryz.prog 107 #[.agg #[.string a, f], .string b] w fun e w' => e = .returned (.int .i64 (ncmp a b)) ∧ Below w.heap.size w w' := by
  go_enter Tryz.func107, Tryz.ntmps107
  go_wp2_with (go_at_call 108; refine (compare_any _ _ _).mono ?_; rintro e w' ⟨rfl, rfl⟩)
  go_ret
  exact ⟨rfl, (Below.refl _ _).alloc (Nat.le_refl _) _⟩

theorem Tryz.infoU8s : (Tryz.prog.info? 5).map (fun i => (i.zero, i.size, i.bytes)) = some (some (.int .u8 0), 1, 1) := by kernel_rfl

set_option maxHeartbeats 4000000 in
set_option maxRecDepth 100000 in
theorem clone_in (s : ByteArray) (w : World) (hlim : s.size ≤ 281474976710656) :
    Calls Tryz.prog 125 #[.string s] w fun e w' => e = .returned (.string s) ∧ Below w.heap.size w w' := by
  by_cases h0 : s.size = 0
  · have hs : s = ⟨#[]⟩ := by
      apply ByteArray.ext
      exact Array.eq_empty_of_size_eq_zero h0
    subst hs
    go_enter Tryz.func125, Tryz.ntmps125
    go_wp2
    go_ret
    exact ⟨rfl, Below.refl _ _⟩
  · obtain ⟨i0, hi, hz0, hz1, hz2⟩ := info_parts Tryz.infoU8s
    have hinfo : (Tryz.prog.info? 5).map (·.size) = some 1 := by rw [hi]; simp [hz1]
    have hco : Tryz.prog.cellsOf 5 = 1 := by simp [Program.cellsOf, hi, hz1]
    obtain ⟨M, hM⟩ : ∃ M, M = madeCells (Value.int .u8 0).cells (((s.size : Nat) : Int).toNat * i0.size) := ⟨_, rfl⟩
    have hMs : M.size = s.size := by rw [hM, size_madeCells, hz1]; simp
    have hmk : ∀ W : World, (Instr.makeSlice 53 (.int .i64 (s.size : Int)) (.int .i64 (s.size : Int))).run Tryz.prog W = .ok (.slice (some ⟨W.heap.size, 0, none⟩) s.size s.size) (W.alloc (.cells M 5)) := fun W => by
      have h := run_make (P := Tryz.prog) W 53 5 i0 (.int .u8 0) Tryz.underlying53 hi hz0 .i64 .i64 (s.size : Int) (s.size : Int) (by omega) (by omega) (by rw [hz2]; omega) (by omega)
      rw [← hM] at h
      simpa using h
    clear hM
    have hcp := Lib.run_copy_row_string (P := Tryz.prog) (w.alloc (.cells M 5)) 53 9 3 5 w.heap.size 0 s.size s.size s M 5 Tryz.underlying53 hinfo (heap_alloc_new w _) (Nat.le_refl _) (by omega)
    obtain ⟨Y, hY⟩ : ∃ Y, Y = (M.toList.take 0 ++ Lib.byteCells s.data.toList ++ M.toList.drop (0 + s.size)).toArray := ⟨_, rfl⟩
    rw [← hY] at hcp
    have hYl : Y.toList = Lib.byteCells s.data.toList := by
      rw [hY, List.toList_toArray, List.take_zero, List.nil_append, List.drop_of_length_le (by rw [Array.length_toList]; omega), List.append_nil]
    have hYs : Y.size = s.size := by rw [← Array.length_toList, hYl, Lib.byteCells_length, ← Lib.size_eq]
    have hgY : ((w.alloc (.cells M 5)).setRow w.heap.size Y).heap[w.heap.size]? = some (.cells Y 5 (0, 0)) := setRow_heap _ _ M _ 5 (0, 0) (heap_alloc_new w _)
    have hne : s.data.toList ≠ [] := fun e => h0 (by rw [Lib.size_eq, e]; rfl)
    have hUS := Lib.run_unsafeString_row (P := Tryz.prog) ((w.alloc (.cells M 5)).setRow w.heap.size Y) 227 3 9 5 Tryz.underlying227 hco w.heap.size Y.size (by unfold World.shape?; rw [hgY]) s.data.toList hne (by rw [← Lib.size_eq]; omega) (by rw [← Lib.size_eq]; omega)
      (fun j x hx => Lib.cells_of_row hgY Y.size j _ (by rw [List.take_of_length_le (by rw [Array.length_toList]; exact Nat.le_refl _), hYl]; simp [Lib.byteCells, hx]))
    rw [← Lib.size_eq] at hUS
    clear hY
    go_enter Tryz.func125, Tryz.ntmps125
    go_wp2
    go_ret
    have hb1 : Below w.heap.size w (w.alloc (.cells M 5)) := (Below.refl _ w).alloc (Nat.le_refl _) _
    have hb2 : Below w.heap.size (w.alloc (.cells M 5)) ((w.alloc (.cells M 5)).setRow w.heap.size Y) := ⟨rfl, rfl, rfl, by simp, fun k hk => setRow_other _ _ _ _ (by omega)⟩
    exact ⟨rfl, Lib.below_freeze (hb1.trans hb2) (p := ⟨w.heap.size, 0, none⟩) (Nat.le_refl _) _⟩
theorem sclone_any (s : ByteArray) (w : World) (hlim : s.size ≤ 281474976710656) :
    Calls Tryz.prog 109 #[.string s] w fun e w' => e = .returned (.string s) ∧ Below w.heap.size w w' := by
  go_enter Tryz.func109, Tryz.ntmps109
  go_wp2_with fail
  refine (clone_in s _ hlim).mono ?_
  rintro e w' ⟨rfl, hb⟩
  go_wp2
  go_ret
  exact ⟨rfl, hb⟩

end Go.Proofs.YtcpoaofcfefgaaaGreatDoor
end

section
namespace Go.Proofs.YtcpoaofcfefgaaaGreatDoor
open Go.RowKit Go.Cor

theorem okB_iff (c : UInt8) : okB c = true ↔ (97 ≤ c.toNat ∧ c.toNat ≤ 122 ∨ 48 ≤ c.toNat ∧ c.toNat ≤ 57 ∨ c.toNat = 46) := by
  unfold okB
  rw [decide_eq_true_iff]
  simp only [UInt8.le_iff_toNat_le, ← UInt8.toNat_inj]
  exact Iff.rfl
theorem take_all (s : ByteArray) (k : Nat) (h : k < s.size) : (s.data.toList.take (k + 1)).all okB = ((s.data.toList.take k).all okB && okB s[k]) := by
  rw [List.take_succ_eq_append_getElem (by simpa using h), List.all_append]
  simp
  rfl
theorem all_false {s : ByteArray} {k : Nat} (h : k < s.size) (hc : okB s[k] = false) : s.data.toList.all okB = false := by
  rw [List.all_eq_false]
  refine ⟨s[k], ?_, by simp [hc]⟩
  exact List.getElem_mem (l := s.data.toList) (n := k) (by simpa using h)
theorem byte_cases (x : Nat) (P : Prop) (h : ¬ (97 ≤ x ∧ x ≤ 122 ∨ 48 ≤ x ∧ x ≤ 57 ∨ x = 46)) (h1 : x < 46 → P) (h2 : x = 47 → P) (h3 : 57 < x → x < 97 → P) (h4 : 122 < x → P) : P := by
  by_cases a : x < 46
  · exact h1 a
  by_cases b : x = 47
  · exact h2 b
  by_cases c : x < 97
  · exact h3 (by omega) c
  · exact h4 (by omega)

set_option maxHeartbeats 1000000 in
theorem isName_any (s : ByteArray) (w : World) (hs : s.size ≤ 9223372036854775807) :
    Calls Tryz.prog 77 #[.string s] w fun e w' => e = .returned (.bool (isNm s)) ∧ w = w' := by
  obtain ⟨r, hr⟩ : ∃ r, isNm s = r := ⟨_, rfl⟩
  rw [hr]
  have HR := Lib.hid hr
  clear hr
  by_cases h1 : s.size < 1
  · obtain rfl : r = false := by rw [← HR.out]; unfold isNm; rw [decide_eq_false (by omega)]; rfl
    have h1' : (s.size : Int) < 1 := by omega
    go_enter Tryz.func77, Tryz.ntmps77
    go_wp2
    go_ret
    exact ⟨rfl, rfl⟩
  · by_cases h2 : 32 < s.size
    · obtain rfl : r = false := by rw [← HR.out]; unfold isNm; rw [decide_eq_false (by omega)]; rfl
      have h1' : ¬ (s.size : Int) < 1 := by omega
      have h2' : (32 : Int) < (s.size : Int) := by omega
      go_enter Tryz.func77, Tryz.ntmps77
      go_wp2
      go_ret
      exact ⟨rfl, rfl⟩
    · have h1' : ¬ (s.size : Int) < 1 := by omega
      have h2' : ¬ (32 : Int) < (s.size : Int) := by omega
      have HA := Lib.hid (show isNm s = s.data.toList.all okB from by unfold isNm; rw [decide_eq_true (by omega)]; rfl)
      go_enter Tryz.func77, Tryz.ntmps77
      go_wp2
      go_loop [15] (fun c => ∃ k : Nat, k ≤ s.size ∧ c = .int .i64 k ∧ Hid ((s.data.toList.take k).all okB = true)) (fun c => s.size - (intOf c).toNat)
      case atStart => exact ⟨0, Nat.zero_le _, rfl, Lib.hid rfl⟩
      case round =>
        obtain ⟨k, hk, rfl, hK⟩ := hrel
        by_cases hlt : k < s.size
        · by_cases hok : 97 ≤ s[k].toNat ∧ s[k].toNat ≤ 122 ∨ 48 ≤ s[k].toNat ∧ s[k].toNat ≤ 57 ∨ s[k].toNat = 46
          · have HN := Lib.hid (show (s.data.toList.take (k + 1)).all okB = true from by rw [take_all s k hlt, hK.out, (okB_iff _).2 hok]; rfl)
            rcases hok with hok | hok | hok
            all_goals
              go_wp2
              go_round
              case rel => exact ⟨k + 1, by omega, by go_num, HN⟩
              case measure => simp [intOf]; omega
          · obtain rfl : r = false := by
              rw [← HR.out, HA.out]
              refine all_false hlt ?_
              cases hq : okB s[k] with
              | false => rfl
              | true => exact absurd ((okB_iff _).1 hq) hok
            have hne1 : ((s[k].toNat : Int) != 46) = true := by
              have : s[k].toNat ≠ 46 := fun e => hok (.inr (.inr e))
              simp
              omega
            refine byte_cases s[k].toNat _ hok (fun a => ?_) (fun a => ?_) (fun a b => ?_) (fun a => ?_)
            all_goals
              clear hok
              go_wp2
              go_ret
              exact ⟨rfl, rfl⟩
        · obtain rfl : k = s.size := by omega
          obtain rfl : r = true := by
            rw [← HR.out, HA.out]
            have := hK.out
            rw [List.take_of_length_le (by simp)] at this
            exact this
          go_wp2
          go_ret
          exact ⟨rfl, rfl⟩

end Go.Proofs.YtcpoaofcfefgaaaGreatDoor
end

section
namespace Go.Proofs.YtcpoaofcfefgaaaGreatDoor
open Go.RowKit Go.Cor

theorem Tryz.infoEnt : (Tryz.prog.info? 169).map (fun i => (i.zero, i.size, i.bytes)) = some (some (.agg #[.string ⟨#[]⟩, .pointer none]), 2, 24) := by kernel_rfl
theorem Tryz.sizeEnt : (Tryz.prog.info? 169).map (·.size) = some 2 := by kernel_rfl

/-- An entry as cells; fb: where a file's box lies. -/
def ent (fb : Nat → Nat) (e : ByteArray × Nat) : List Value := [.string e.1, .pointer (some ⟨fb e.2, 0, none⟩)]
theorem ent_len (fb : Nat → Nat) (e : ByteArray × Nat) : (ent fb e).length = 2 := rfl
theorem ent_one (fb : Nat → Nat) (l : Tbl) : ∀ v ∈ row (ent fb) l, v.oneCell' = true := by
  refine row_mem fun x _ v hv => ?_
  simp only [ent, List.mem_cons, List.not_mem_nil, or_false] at hv
  rcases hv with rfl | rfl <;> rfl
/-- v is a table that reads as l. -/
def IsT (w : World) (fb : Nat → Nat) (v : Value) (l : Tbl) : Prop := IsX w 2 v l.length (row (ent fb) l)
theorem indexAt_T {w : World} {fb : Nat → Nat} {v : Value} {l : Tbl} (hv : IsT w fb v l) (T : TypeId) (ht : Tryz.prog.underlying T = some (.slice 169)) {i : Nat} {e : ByteArray × Nat} (he : l[i]? = some e) :
    ∃ b o, (∀ W, (Instr.indexAt T v (.int .i64 (i : Int))).run Tryz.prog W = .ok (.pointer (some ⟨b, o, none⟩)) W) ∧ v.ownBlock = some b ∧ w.cell? ⟨b, o, none⟩ = some (.string e.1) ∧ w.cell? ⟨b, o + 1, none⟩ = some (.pointer (some ⟨fb e.2, 0, none⟩)) := by
  have hi : i < l.length := (List.getElem?_eq_some_iff.1 he).1
  obtain ⟨b, o, h1, h2, h3⟩ := indexAt_X hv T _ ht Tryz.sizeEnt i hi
  refine ⟨b, o, h1, h2, ?_, ?_⟩
  · have := h3 0 (by decide)
    rw [row_get (ent_len fb) he 0 (by decide)] at this
    exact this
  · have := h3 1 (by decide)
    rw [row_get (ent_len fb) he 1 (by decide)] at this
    exact this

set_option maxRecDepth 100000 in
set_option maxHeartbeats 1000000 in
theorem search_any (fb : Nat → Nat) (v : Value) (l : Tbl) (n : ByteArray) (w : World) (hv : IsT w fb v l) (hs : Sorted l) (hl : l.length ≤ 1048576) :
    Calls Tryz.prog 106 #[v, .string n, .func (.func 107) #[] #[]] w fun e w' => e = .returned (.tuple #[.int .i64 (pos l n), .bool (tfind l n).isSome]) ∧ Below w.heap.size w w' := by
  obtain ⟨N, hN⟩ : ∃ N, l.length = N := ⟨_, rfl⟩
  obtain ⟨q, hq⟩ : ∃ q, pos l n = q := ⟨_, rfl⟩
  obtain ⟨r, hr⟩ : ∃ r, (tfind l n).isSome = r := ⟨_, rfl⟩
  have hqN := pos_le l n
  have hlen := fun W => len_X (P := Tryz.prog) hv 85 3 169 Tryz.underlying85 W
  rw [hN] at hlen hqN hl
  rw [hq] at hqN
  rw [hq, hr]
  have HV := Lib.hid hv
  have HN := Lib.hid hN
  have HQ := Lib.hid hq
  have HR := Lib.hid hr
  clear hv hN hq hr
  go_enter Tryz.func106, Tryz.ntmps106
  go_wp2
  go_loopw [9, 10] (fun a b wr => ∃ i j : Nat, i ≤ q ∧ q ≤ j ∧ j ≤ N ∧ a = .int .i64 i ∧ b = .int .i64 j ∧ Hid (Below w.heap.size w wr)) (fun a b _ => (intOf b).toNat - (intOf a).toNat)
  case atStart => exact ⟨0, N, Nat.zero_le _, hqN, Nat.le_refl _, rfl, rfl, Lib.hid (Below.refl _ _)⟩
  case round =>
    obtain ⟨i, j, hiq, hqj, hjN, rfl, rfl, hB⟩ := hrel
    by_cases hlt : i < j
    · obtain ⟨e, he⟩ : ∃ e, l[(i + j) / 2]? = some e := ⟨_, List.getElem?_eq_getElem (by rw [HN.out]; omega)⟩
      obtain ⟨b, o, hidx, hob, c0, c1⟩ := indexAt_T (HV.out.mono hB.out (Nat.le_refl _)) 85 Tryz.underlying85 he
      rw [show ((((i + j) / 2 : Nat)) : Int) = ((i : Int) + (j : Int)) / 2 from by omega] at hidx
      have HC := Lib.hid hB
      obtain ⟨c, hc⟩ : ∃ c, ncmp e.1 n = c := ⟨_, rfl⟩
      have HE := Lib.hid he
      have HCM := Lib.hid hc
      clear he hc
      go_wp2_with fail
      refine (closure_any _ _ _ _ rfl).mono ?_
      rintro e2 w2 ⟨rfl, hb2⟩
      rw [HCM.out]
      have HB2 := Lib.hid (hB.out.trans (hb2.mono hB.out.size))
      clear hb2 c0 c1 hidx
      by_cases hneg : c < 0
      · have hiq2 : (i + j) / 2 + 1 ≤ q := by
          by_cases h : (i + j) / 2 < q
          · exact h
          · have h2 := pos_above hs HE.out (by rw [HQ.out]; omega)
            rw [nlt_false, HCM.out] at h2
            omega
        go_wp2
        go_roundw
        case rel => exact ⟨(i + j) / 2 + 1, j, hiq2, hqj, hjN, by congr 1, rfl, HB2⟩
        case measure => simp [intOf]; omega
      · have hqj2 : q ≤ (i + j) / 2 := by
          by_cases h : (i + j) / 2 < q
          · have h2 := pos_below HE.out (by rw [HQ.out]; omega)
            rw [nlt_iff, HCM.out] at h2
            omega
          · omega
        go_wp2
        go_roundw
        case rel => exact ⟨i, (i + j) / 2, hiq, hqj2, by omega, rfl, by congr 1, HB2⟩
        case measure => simp [intOf]; omega
    · obtain rfl : i = q := by omega
      have hfp := tfind_pos hs n
      rw [HQ.out] at hfp
      by_cases hiN : i < N
      · obtain ⟨e, he⟩ : ∃ e, l[i]? = some e := ⟨_, List.getElem?_eq_getElem (by rw [HN.out]; omega)⟩
        obtain ⟨b, o, hidx, hob, c0, c1⟩ := indexAt_T (HV.out.mono hB.out (Nat.le_refl _)) 85 Tryz.underlying85 he
        rw [he] at hfp
        obtain ⟨c, hc⟩ : ∃ c, ncmp e.1 n = c := ⟨_, rfl⟩
        have HE := Lib.hid he
        have HCM := Lib.hid hc
        have hrc : r = (c == 0) := by
          rw [← HR.out, hfp, ← hc]
          by_cases hen : e.1 = n
          · simp [hen, ncmp_self]
          · have : ncmp e.1 n ≠ 0 := fun h => hen (ncmp_eq.1 h)
            simp [hen, this]
        have HRC := Lib.hid hrc
        clear he hc hfp hrc
        go_wp2_with fail
        refine (closure_any _ _ _ _ rfl).mono ?_
        rintro e2 w2 ⟨rfl, hb2⟩
        rw [HCM.out]
        have HB2 := Lib.hid (hB.out.trans (hb2.mono hB.out.size))
        clear hb2 c0 c1 hidx
        go_wp2
        go_ret2
        exact ⟨by rw [HRC.out]; rfl, HB2.out⟩
      · have hrf : r = false := by
          rw [← HR.out, hfp, List.getElem?_eq_none (by rw [HN.out]; omega)]
          rfl
        subst hrf
        clear hfp
        go_wp2
        go_ret2
        exact ⟨rfl, hB.out⟩

theorem place_any (fb : Nat → Nat) (v : Value) (l : Tbl) (n : ByteArray) (w : World) (hv : IsT w fb v l) (hs : Sorted l) (hl : l.length ≤ 1048576) :
    Calls Tryz.prog 78 #[v, .string n] w fun e w' => e = .returned (.tuple #[.int .i64 (pos l n), .bool (tfind l n).isSome]) ∧ Below w.heap.size w w' := by
  go_enter Tryz.func78, Tryz.ntmps78
  go_wp2_with fail
  refine (search_any fb v l n _ hv hs hl).mono ?_
  rintro e w' ⟨rfl, hb⟩
  go_wp2
  go_ret2
  exact ⟨rfl, hb⟩

end Go.Proofs.YtcpoaofcfefgaaaGreatDoor
end

section
namespace Go.Proofs.YtcpoaofcfefgaaaGreatDoor
open Go.RowKit Go.Cor

set_option maxHeartbeats 400000 in
theorem tclone_any (fb : Nat → Nat) (v : Value) (l : Tbl) (w : World) (hv : IsT w fb v l) (hl : l.length ≤ 1048576) :
    Calls Tryz.prog 111 #[v] w fun e w' =>
      ∃ v', e = .returned v' ∧ w'.ownsRow w.heap.size 169 2 v' l.length (row (ent fb) l) ∧ Below w.heap.size w w' := by
  obtain ⟨i0, hi, hz0, hz1, hz2⟩ := info_parts Tryz.infoEnt
  have q22 : ∀ (w : World) (a : Option Addr) (n c n' c' : Nat), (binOp .eql 85 (.slice a n c) (.slice none n' c')).run Tryz.prog w = .ok (.bool a.isNone) w := fun w a n c n' c' => Lib.run_eql_slice_nil w _ _ a n c n' c' Tryz.underlying85
  have HV := Lib.hid hv
  obtain ⟨x, cap, rfl, hlc, hcm, hll, hnc, hcell⟩ := hv
  clear hcell hll
  cases x with
  | none =>
    obtain rfl := hnc rfl
    obtain rfl : l = [] := List.eq_nil_of_length_eq_zero (by omega)
    go_enter Tryz.func111, Tryz.ntmps111
    go_wp2
    go_ret
    exact ⟨_, rfl, World.ownsRow_nil _ _ _ _, Below.refl _ _⟩
  | some a =>
    clear hnc
    go_enter Tryz.func111, Tryz.ntmps111
    go_wp2_with (at_builtin; refine wpList_append_X (by rfl) _ _ 85 85 rfl (fun _ _ _ => rfl) w.heap.size 169 i0 _ 2 24 Tryz.underlying85 hi hz0 hz1 hz2 rfl (by decide) _ [] 0 rfl (World.ownsRow_lit _ #[] 0 (Nat.le_refl _) (Nat.zero_le _) rfl) _ l.length _ rfl (HV.out.mono ((Below.refl _ _).alloc (Nat.le_refl _) _) (Nat.le_refl _)) (ent_one fb l) (by unfold maxLen; omega) (by omega) (by simp) ?_; intro v4 w4 hown4 hb4 hl4)
    go_ret
    refine ⟨_, rfl, by simpa using hown4, ((Below.refl _ _).alloc (Nat.le_refl _) _).grown hb4 (by simp) (fun k hk => ?_)⟩
    have : some w.heap.size = some k := hk
    cases this
    exact Nat.le_refl _

theorem zero_ent : ∀ w, (zeroValue 169).run Tryz.prog w = .ok (.agg #[.string ⟨#[]⟩, .pointer none]) w := fun w => by
  obtain ⟨i0, hi, hz0, hz1, hz2⟩ := info_parts Tryz.infoEnt
  simp [zeroValue, typeInfo, hi, hz0]

set_option maxRecDepth 100000 in
set_option maxHeartbeats 1000000 in
theorem tdel_any (fb : Nat → Nat) (v : Value) (l : Tbl) (i : Nat) (w : World) (hv : w.ownsRow 0 169 2 v l.length (row (ent fb) l)) (hi : i < l.length) (hl : l.length ≤ 1048576) :
    Calls Tryz.prog 126 #[v, .int .i64 (i : Int), .int .i64 ((i : Int) + 1)] w fun e w' =>
      ∃ v', e = .returned v' ∧ w'.ownsRow 0 169 2 v' (l.eraseIdx i).length (row (ent fb) (l.eraseIdx i)) ∧ Kept (fun k => v.ownBlock = some k) w w' ∧ v'.ownBlock = v.ownBlock := by
  obtain ⟨i0, hinf, hz0, hz1, hz2⟩ := info_parts Tryz.infoEnt
  have hT := Tryz.underlying85
  have hX := IsX.own hv
  rcases hv.2 with ⟨rfl, h0⟩ | ⟨g, cap, cur, rfl, hb0, hg, hlc, hcm, hcs, htake⟩
  · omega
  have hlr := length_row (ent_len fb) l
  obtain ⟨N, hN⟩ : ∃ N, l.length = N := ⟨_, rfl⟩
  rw [hN] at hX hi hl hlc hv hlr
  have hs0 := slice_h_X (P := Tryz.prog) 2 (some ⟨g, 0, none⟩) N cap 85 _ hT Tryz.sizeEnt i (by omega)
  have hs1 := slice_l_X (P := Tryz.prog) hX 85 _ hT Tryz.sizeEnt (i + 1) (by omega)
  obtain ⟨u3, hs3⟩ := slice_lhm_C (P := Tryz.prog) 2 (some ⟨g, 0, none⟩) N cap 85 _ hT Tryz.sizeEnt i (i + 1) N (by omega) (by omega) hlc
  have hlen := fun W => len_X (P := Tryz.prog) hX 85 3 _ hT W
  have hown0 := ownsRow_take hv (Nat.le_of_lt hi)
  have hX1 := hX.piece (lo := i + 1) (hi := N) (by omega) (Nat.le_refl _)
  obtain ⟨ad, had⟩ := sliced_some ⟨g, 0, none⟩ (i + 1) N cap 2
  rw [had] at hs1 hX1
  have hB : ((row (ent fb) l).drop ((i + 1) * 2)).take ((N - (i + 1)) * 2) = (row (ent fb) l).drop ((i + 1) * 2) := List.take_of_length_le (by rw [List.length_drop, hlr]; omega)
  rw [hB] at hX1
  obtain ⟨w1, hap, hown1, hgr1⟩ := run_append_fits (P := Tryz.prog) w.drew 0 85 85 _ i0 2 hT hinf hz1 g i cap _ hown0 ad (N - (i + 1)) (cap - (i + 1)) ((row (ent fb) l).drop ((i + 1) * 2)) (by rw [List.length_drop, hlr]; omega)
    (fun j u hj => by
      obtain ⟨a', c', e', k1, k2, k3, k4, k5⟩ := hX1
      cases e'
      have hjl := (List.getElem?_eq_some_iff.1 hj).1
      rcases k5 with k5 | ⟨b, off, e1, hc⟩
      · omega
      · cases e1
        rw [add_lit]
        exact (hc j (by rw [← k3]; exact hjl)).trans hj) (fun u hu => ent_one fb l u (List.mem_of_mem_drop hu)) (by omega)
  have hN1 : i + (N - (i + 1)) = N - 1 := by omega
  rw [hN1] at hap hown1
  have hX2 := IsX.own hown1
  have hlen2 := fun W => len_X (P := Tryz.prog) hX2 85 3 _ hT W
  have hs4 := slice_lh_C (P := Tryz.prog) 2 (some ⟨g, 0, none⟩) (N - 1) cap 85 _ hT Tryz.sizeEnt (N - 1) N (by omega) hlc
  rw [sliced_at _ _ _ _ _ _ (by omega), Nat.zero_add, show N - (N - 1) = 1 from by omega] at hs4
  have hcur := hown1.2
  rcases hcur with ⟨hbad, _⟩ | ⟨g', cap', cur1, he1, _, hg1, hlc1, hcm1, hcs1, htake1⟩
  · cases hbad
  cases he1
  have hzl : (Builtin.zeroCells (Value.agg #[.string ⟨#[]⟩, .pointer none]).cells 1).toList = [.string ⟨#[]⟩, .pointer none] := by kernel_rfl
  have hcl := fun ty => run_clear_X (P := Tryz.prog) w1 85 _ ty _ hT zero_ent g ((N - 1) * 2) 1 (cap - (N - 1)) (by decide) cur1 _ hg1 (by rw [hzl, hcs1]; show (N - 1) * 2 + 2 ≤ _; omega) (by rw [hzl]; intro u hu; simp only [List.mem_cons, List.not_mem_nil, or_false] at hu; rcases hu with rfl | rfl <;> rfl)
  rw [hzl] at hcl
  have hrow2 := setRow_heap w1 g cur1 (cur1.toList.take ((N - 1) * 2) ++ [Value.string ⟨#[]⟩, .pointer none] ++ cur1.toList.drop ((N - 1) * 2 + [Value.string ⟨#[]⟩, .pointer none].length)).toArray 169 _ hg1
  have hK2 : Kept (fun k => some g = some k) w (w1.setRow g (cur1.toList.take ((N - 1) * 2) ++ [Value.string ⟨#[]⟩, .pointer none] ++ cur1.toList.drop ((N - 1) * 2 + [Value.string ⟨#[]⟩, .pointer none].length)).toArray) :=
    (((Kept.refl _ w).drew).grown hgr1 (fun k hk => .inl hk)).setRow (.inl rfl) _
  generalize w1.setRow g (cur1.toList.take ((N - 1) * 2) ++ [Value.string ⟨#[]⟩, .pointer none] ++ cur1.toList.drop ((N - 1) * 2 + [Value.string ⟨#[]⟩, .pointer none].length)).toArray = w2 at hcl hrow2 hK2
  have hown2 : w2.ownsRow 0 169 2 (.slice (some ⟨g, 0, none⟩) (N - 1) cap) (N - 1) (row (ent fb) (l.eraseIdx i)) := by
    have hxs : (row (ent fb) l).take (i * 2) ++ (row (ent fb) l).drop ((i + 1) * 2) = row (ent fb) (l.eraseIdx i) := by rw [erase_take_drop, row_append, row_take (ent_len fb), row_drop (ent_len fb)]
    rw [hxs] at hown1 htake1
    have hlt : (cur1.toList.take ((N - 1) * 2)).length = (N - 1) * 2 := by rw [List.length_take, Array.length_toList, hcs1]; omega
    refine ⟨hown1.1, .inr ⟨g, cap, _, rfl, Nat.zero_le _, hrow2, hlc1, hcm1, ?_, ?_⟩⟩
    · simp only [List.size_toArray, List.length_append, List.length_drop, hlt, Array.length_toList, hcs1, List.length_cons, List.length_nil]
      omega
    · show List.take _ (_ ++ _ ++ _) = _
      rw [List.append_assoc, List.take_left' hlt]
      exact htake1
  have hel : (l.eraseIdx i).length = N - 1 := by rw [List.length_eraseIdx, hN, if_pos hi]
  rw [hel, hN]
  have HO := Lib.hid hown2
  have HK := Lib.hid hK2
  have hne : ((i : Int) == (i : Int) + 1) = false := by simp; omega
  have hs1' := hs1
  rw [show ((i + 1 : Nat) : Int) = (i : Int) + 1 from rfl] at hs1' hs3
  have hap' : (Builtin.append_ #[85, 85] 85 #[.slice (some ⟨g, 0, none⟩) i cap, .slice (some ad) (N - (i + 1)) (cap - (i + 1))]).run Tryz.prog w.drew = .ok (.slice (some ⟨g, 0, none⟩) (N - 1) cap) w1 := hap
  have hb : Value.ownBlock (.slice (some ⟨g, 0, none⟩) N cap) = some g := rfl
  have hb2 : Value.ownBlock (.slice (some ⟨g, 0, none⟩) (N - 1) cap) = some g := rfl
  rw [hb]
  clear hown1 hown2 hK2 hrow2 hg1 hcs1 htake1 hlc1 hcm1 hX2 hX1 hX hv hgr1 hown0 hs1 hap hg hcs htake hN hel hlr hB hzl hb
  generalize hV : Value.slice (some ⟨g, 0, none⟩) N cap = V at *
  generalize hV0 : Value.slice (some ⟨g, 0, none⟩) i cap = V0 at *
  generalize hV1 : Value.slice (some ad) (N - (i + 1)) (cap - (i + 1)) = V1 at *
  generalize hV2 : Value.slice (some ⟨g, 0, none⟩) (N - 1) cap = V2 at *
  generalize hV3 : Value.slice (some ⟨g, (N - 1) * 2, none⟩) 1 (cap - (N - 1)) = V3 at *
  clear hV hV0 hV1 hV2 hV3
  have HB2 := Lib.hid hb2
  have HAP := Lib.hid hap'
  clear hb2 hap' hN1
  go_enter Tryz.func126, Tryz.ntmps126
  go_wp2
  go_region_law (refine step_append_run rfl _ _ 85 85 rfl _ _ rfl rfl HAP.out ?_)
  go_wp2
  go_ret
  exact ⟨_, rfl, HO.out, HK.out, HB2.out⟩

end Go.Proofs.YtcpoaofcfefgaaaGreatDoor
end

section
namespace Go.Proofs.YtcpoaofcfefgaaaGreatDoor
open Go.RowKit Go.Cor

set_option maxRecDepth 100000 in
set_option maxHeartbeats 2000000 in
theorem walk_grow (V V0 VI SV V2 VD1 VD2 : Value) (i N k : Nat) (w w1 w2 w3 : World) (hi : i < N) (hl : N ≤ 1048576) (hkk : (N : Int) + 1 - (i : Int) = (k : Int)) (hne : ((i : Int) == (N : Int)) = false) (hgt : ¬ ((N : Int) + 1 ≤ (N : Int)))
    (hlen : ∀ W, (Builtin.len_ #[85] 3 #[V]).run Tryz.prog W = .ok (.int .i64 (N : Int)) W) (hcap : ∀ (W : World) (ty : TypeId), (Builtin.cap_ #[85] ty #[V]).run Tryz.prog W = .ok (goInt N) W)
    (hS1 : ∀ W, (Builtin.len_ #[84] 3 #[SV]).run Tryz.prog W = .ok (.int .i64 1) W)
    (hsI : ∀ W, (Instr.slice 85 V (some (.int .i64 (i : Int))) none none).run Tryz.prog W = .ok VI W)
    (hs0 : ∀ W, (Instr.slice 85 V none (some (.int .i64 (i : Int))) none).run Tryz.prog W = .ok V0 W)
    (hsD1 : ∀ W, (Instr.slice 85 V2 (some (.int .i64 (i : Int))) none none).run Tryz.prog W = .ok VD1 W)
    (hsD2 : ∀ W, (Instr.slice 85 V2 (some (.int .i64 ((i : Int) + 1))) none none).run Tryz.prog W = .ok VD2 W)
    (HAP : Hid ((Builtin.append_ #[85, 3] 85 #[V0, .int .i64 (k : Int)]).run Tryz.prog w = .ok V2 w1)) (x1 x2 : Value)
    (HC1 : Hid (∀ ty, (Builtin.copy_ #[85, 84] ty #[VD1, SV]).run Tryz.prog w1 = .ok x1 w2))
    (HC2 : Hid (∀ ty, (Builtin.copy_ #[85, 85] ty #[VD2, VI]).run Tryz.prog w2.drew = .ok x2 w3)) (hwr : IntKind.i64.wrap ((i : Int) + 1) = (i : Int) + 1) :
    Calls Tryz.prog 127 #[V, .int .i64 (i : Int), SV] w fun e w' => e = .returned V2 ∧ w' = w3 := by
  go_enter Tryz.func127, Tryz.ntmps127
  go_wp2_with (first | (at_builtin; refine Lib.wpList_append_run _ rfl _ _ 85 3 rfl _ _ rfl rfl _ _ HAP.out ?_) | (refine wpList_copy_run (o := ⟨some 45, _, _, _, _, _⟩) rfl _ _ 85 84 rfl _ _ rfl rfl (HC1.out _) ?_))
  go_region_held3 (fun _ => True) (trivial) (first | (refine step_copy_run rfl _ _ 85 85 rfl _ _ rfl rfl (HC2.out _) ?_))
  go_wp2
  go_ret
  exact ⟨rfl, rfl⟩

set_option maxRecDepth 100000 in
set_option maxHeartbeats 2000000 in
theorem walk_room (V V3 VI VS VD SV : Value) (i N cap : Nat) (w w2 w3 : World) (hi : i < N) (hl : N ≤ 1048576) (hne : ((i : Int) == (N : Int)) = false) (hgt : (N : Int) + 1 ≤ (cap : Int))
    (hlen : ∀ W, (Builtin.len_ #[85] 3 #[V]).run Tryz.prog W = .ok (.int .i64 (N : Int)) W) (hcap : ∀ (W : World) (ty : TypeId), (Builtin.cap_ #[85] ty #[V]).run Tryz.prog W = .ok (goInt cap) W)
    (hS1 : ∀ W, (Builtin.len_ #[84] 3 #[SV]).run Tryz.prog W = .ok (.int .i64 1) W)
    (hsI : ∀ W, (Instr.slice 85 V (some (.int .i64 (i : Int))) none none).run Tryz.prog W = .ok VI W)
    (hs3 : ∀ W, (Instr.slice 85 V none (some (.int .i64 ((N : Int) + 1))) none).run Tryz.prog W = .ok V3 W)
    (hsS : ∀ W, (Instr.slice 85 V3 (some (.int .i64 (i : Int))) none none).run Tryz.prog W = .ok VS W)
    (hsD : ∀ W, (Instr.slice 85 V3 (some (.int .i64 ((i : Int) + 1))) none none).run Tryz.prog W = .ok VD W)
    (hov : (callFunc 136 #[SV, VD]).run Tryz.prog w = .ok (.value (.bool false)) w) (x1 x2 : Value)
    (HC1 : Hid (∀ ty, (Builtin.copy_ #[85, 85] ty #[VD, VS]).run Tryz.prog w.drew = .ok x1 w2))
    (HC2 : Hid (∀ ty, (Builtin.copy_ #[85, 84] ty #[VS, SV]).run Tryz.prog w2 = .ok x2 w3)) (hwr : IntKind.i64.wrap ((i : Int) + 1) = (i : Int) + 1) :
    Calls Tryz.prog 127 #[V, .int .i64 (i : Int), SV] w fun e w' => e = .returned V3 ∧ w' = w3 := by
  go_enter Tryz.func127, Tryz.ntmps127
  go_wp2_with (simp only [hov])
  go_region_held3 (fun _ => True) (trivial) (first | (refine step_copy_run rfl _ _ 85 85 rfl _ _ rfl rfl (HC1.out _) ?_))
  go_wp2_with (refine wpList_copy_run (o := ⟨some 82, _, _, _, _, _⟩) rfl _ _ 85 84 rfl _ _ rfl rfl (HC2.out _) ?_)
  go_ret
  exact ⟨rfl, rfl⟩

end Go.Proofs.YtcpoaofcfefgaaaGreatDoor
end

section
namespace Go.Proofs.YtcpoaofcfefgaaaGreatDoor
open Go.RowKit Go.Cor

theorem srcOf {w : World} {size : Nat} {ad : Addr} {n c : Nat} {cs : List Value} (h : IsX w size (.slice (some ad) n c) n cs) : ∀ j u, cs[j]? = some u → w.cell? (ad.add j) = some u := by
  intro j u hj
  obtain ⟨a', c', e', k1, k2, k3, k4, k5⟩ := h
  cases e'
  have hjl := (List.getElem?_eq_some_iff.1 hj).1
  rcases k5 with k5 | ⟨b, off, e1, hc⟩
  · subst k5
    rw [Nat.zero_mul] at k3
    omega
  · cases e1
    rw [add_lit]
    exact (hc j (by rw [← k3]; exact hjl)).trans hj
theorem entX {w : World} {a : Nat} {fb : Nat → Nat} {n : ByteArray} {f : Nat} {T : TypeId} (ha : w.heap[a]? = some (.cells #[.string n, .pointer (some ⟨fb f, 0, none⟩)] T (0, 0))) : IsX w 2 (.slice (some ⟨a, 0, none⟩) 1 1) 1 (ent fb (n, f)) := by
  refine ⟨_, _, rfl, Nat.le_refl _, by decide, rfl, by simp, .inr ⟨a, 0, rfl, fun j hj => ?_⟩⟩
  rw [cell_of_row w a _ _ _ _ ha, Nat.zero_add]
  match j, hj with
  | 0, _ => rfl
  | 1, _ => rfl
theorem ent_mem {fb : Nat → Nat} {e : ByteArray × Nat} : ∀ v ∈ ent fb e, v.oneCell' = true := by
  intro v hv
  simp only [ent, List.mem_cons, List.not_mem_nil, or_false] at hv
  rcases hv with rfl | rfl <;> rfl
theorem append_types (ty : TypeId) (v : Value) (x : Option Addr) (m c : Nat) (w : World) : (Builtin.append_ #[85, 84] ty #[v, .slice x m c]).run Tryz.prog w = (Builtin.append_ #[85, 85] ty #[v, .slice x m c]).run Tryz.prog w := by
  have h1 := Tryz.underlying85
  have h2 := Tryz.underlying84
  cases v <;> simp [Builtin.append_, run_underlying h1, run_underlying h2]

set_option maxRecDepth 100000 in
set_option maxHeartbeats 1000000 in
/-- At the end. -/
theorem tins_end (fb : Nat → Nat) (v : Value) (l : Tbl) (n : ByteArray) (f a : Nat) (w : World) (hv : w.ownsRow 0 169 2 v l.length (row (ent fb) l)) (hl : l.length ≤ 1048576)
    (ha : w.heap[a]? = some (.cells #[.string n, .pointer (some ⟨fb f, 0, none⟩)] 169 (0, 0))) :
    Calls Tryz.prog 127 #[v, .int .i64 (l.length : Int), .slice (some ⟨a, 0, none⟩) 1 1] w fun e w' =>
      ∃ v', e = .returned v' ∧ w'.ownsRow 0 169 2 v' (l.length + 1) (row (ent fb) (l ++ [(n, f)])) ∧ Kept (fun k => v.ownBlock = some k) w w' ∧ (v'.ownBlock = v.ownBlock ∨ v'.ownBlock = some w.heap.size) := by
  obtain ⟨i0, hinf, hz0, hz1, hz2⟩ := info_parts Tryz.infoEnt
  have hT := Tryz.underlying85
  have hX := IsX.own hv
  have hS := entX ha
  obtain ⟨x, cap, rfl, hlc, hcm⟩ := hX.slice
  obtain ⟨v', w1, hap, hown1, hgr1, hat1⟩ := run_append_X (P := Tryz.prog) w 0 85 _ 85 i0 _ 2 24 hT hinf hz0 hz1 hz2 rfl (by decide) _ _ _ hv _ 1 _ hS ent_mem (by unfold maxLen; omega) (by omega) (Nat.zero_le _)
  obtain ⟨N, hN⟩ : ∃ N, l.length = N := ⟨_, rfl⟩
  rw [hN] at hX hl hlc hv hap hown1 hgr1 hat1 ⊢
  have hs1 := slice_l_X (P := Tryz.prog) hX 85 _ hT Tryz.sizeEnt N (by omega)
  have hlen := fun W => len_X (P := Tryz.prog) hX 85 3 _ hT W
  rw [← append_types] at hap
  have HAP := Lib.hid hap
  have HO := Lib.hid (show w1.ownsRow 0 169 2 v' (N + 1) (row (ent fb) (l ++ [(n, f)])) from by rw [row_append, row_one]; exact hown1)
  have HK := Lib.hid (show Kept (fun k => (Value.slice x N cap).ownBlock = some k) w w1 from (Kept.refl _ w).grown hgr1 (fun k hk => .inl hk))
  have HA := Lib.hid hat1
  clear hap hown1 hgr1 hat1 hv hX hN
  generalize sliced x N N cap 2 = VI at *
  generalize Value.slice x N cap = V at *
  go_enter Tryz.func127, Tryz.ntmps127
  go_wp2_with (at_builtin; refine Lib.wpList_append_run _ rfl _ _ 85 84 rfl _ _ rfl rfl _ _ HAP.out ?_)
  go_ret
  exact ⟨_, rfl, HO.out, HK.out, HA.out⟩

set_option maxRecDepth 100000 in
set_option maxHeartbeats 2000000 in
/-- In the midst, where there is no room. -/
theorem tins_grow (fb : Nat → Nat) (l : Tbl) (n : ByteArray) (f a g i N cap : Nat) (w : World) (hv : w.ownsRow 0 169 2 (.slice (some ⟨g, 0, none⟩) N cap) N (row (ent fb) l)) (hN : l.length = N) (hi : i < N) (hl : N ≤ 1048576) (hroom : cap < N + 1) (hcm : cap ≤ maxLen) (hga : g ≠ a)
    (ha : w.heap[a]? = some (.cells #[.string n, .pointer (some ⟨fb f, 0, none⟩)] 169 (0, 0))) :
    Calls Tryz.prog 127 #[.slice (some ⟨g, 0, none⟩) N cap, .int .i64 (i : Int), .slice (some ⟨a, 0, none⟩) 1 1] w fun e w' =>
      ∃ v', e = .returned v' ∧ w'.ownsRow 0 169 2 v' (N + 1) (row (ent fb) (l.take i ++ (n, f) :: l.drop i)) ∧ Kept (fun k => some g = some k) w w' ∧ (v'.ownBlock = some g ∨ v'.ownBlock = some w.heap.size) := by
  obtain ⟨i0, hinf, hz0, hz1, hz2⟩ := info_parts Tryz.infoEnt
  have hT := Tryz.underlying85
  have hX := IsX.own hv
  have hS := entX ha
  have hlr := length_row (ent_len fb) l
  rw [hN] at hlr
  have hcap : N = cap := by
    obtain ⟨x', c', e', h1, _⟩ := hX.slice
    cases e'
    omega
  subst hcap
  have halt : a < w.heap.size := (Array.getElem?_eq_some_iff.1 ha).1
  have hglt := (hv.lt g rfl).2
  have hs0 := slice_h_X (P := Tryz.prog) 2 (some ⟨g, 0, none⟩) N N 85 _ hT Tryz.sizeEnt i (by omega)
  have hsI := slice_l_X (P := Tryz.prog) hX 85 _ hT Tryz.sizeEnt i (by omega)
  have hXI := hX.piece (lo := i) (hi := N) (by omega) (Nat.le_refl _)
  rw [sliced_at _ _ _ _ _ _ (by omega), Nat.zero_add] at hsI hXI
  have hB : ((row (ent fb) l).drop (i * 2)).take ((N - i) * 2) = (row (ent fb) l).drop (i * 2) := List.take_of_length_le (by rw [List.length_drop, hlr]; omega)
  rw [hB] at hXI
  have hlen := fun W => len_X (P := Tryz.prog) hX 85 3 _ hT W
  have hown0 := ownsRow_take hv (Nat.le_of_lt hi)
  have hl0 : ((row (ent fb) l).take (i * 2)).length = i * 2 := by rw [List.length_take, hlr]; omega
  have hlB : ((row (ent fb) l).drop (i * 2)).length = (N - i) * 2 := by rw [List.length_drop, hlr]; omega
  have hold : (Builtin.firstCells i0.size i (.slice (some ⟨g, 0, none⟩) i N)).run Tryz.prog w.drew = .ok ((row (ent fb) l).take (i * 2)).toArray w.drew :=
    run_firstCells_some (P := Tryz.prog) w.drew i0.size i ⟨g, 0, none⟩ i N _ (by rw [hz1]; exact hl0) (fun j u hj => hown0.cells (g := g) rfl j u hj)
  obtain ⟨k, hk⟩ : ∃ k, N + 1 - i = k := ⟨_, rfl⟩
  have hap := Lib.run_append_grow_zeros (P := Tryz.prog) w 85 3 85 _ i0 _ .i64 .i64 hT Tryz.underlying3 hinf hz0 (some ⟨g, 0, none⟩) i N _ hold k (by omega) (by omega) (by omega) (by omega) (by rw [hz2]; omega) (growslice_fits (by omega) (by rw [hz2]; omega))
  have hik : i + k = N + 1 := by omega
  rw [hik] at hap
  obtain ⟨c2, hc2⟩ : ∃ c2, grownCap w (N + 1) N 169 = c2 := ⟨_, rfl⟩
  have hc2ge := grownCap_ge w (N + 1) N 169
  have hc2le := grownCap_le_maxLen w (N + 1) N 169 (by unfold maxLen; omega)
  rw [hc2] at hap hc2ge hc2le
  obtain ⟨L0, hL0⟩ : ∃ L0, ((row (ent fb) l).take (i * 2)).toArray ++ Builtin.zeroCells (Value.agg #[.string ⟨#[]⟩, .pointer none]).cells k ++ Builtin.zeroCells (Value.agg #[.string ⟨#[]⟩, .pointer none]).cells (c2 - (N + 1)) = L0 := ⟨_, rfl⟩
  rw [hL0] at hap
  have hzs : (Value.agg #[.string ⟨#[]⟩, .pointer none]).cells.size = 2 := by kernel_rfl
  have hL0s : L0.size = c2 * 2 := by
    rw [← hL0]
    simp only [Array.size_append, List.size_toArray, size_zeroCells, hzs, hl0]
    omega
  have hL0l : L0.toList.length = c2 * 2 := by rw [Array.length_toList]; exact hL0s
  have hL0t : L0.toList.take (i * 2) = (row (ent fb) l).take (i * 2) := by
    rw [← hL0]
    simp only [Array.toList_append, List.append_assoc]
    exact List.take_left' hl0
  obtain ⟨w1, hw1⟩ : ∃ w1, w.drew.alloc (.cells L0 169) = w1 := ⟨_, rfl⟩
  have hg1 : w1.heap[w.heap.size]? = some (.cells L0 169 (0, 0)) := by rw [← hw1]; exact heap_alloc_new w.drew _
  have hK1 : Kept (fun k => some g = some k) w w1 := by rw [← hw1]; exact ((Kept.refl _ w).drew).alloc _
  rw [hw1] at hap
  -- the entry
  have hsD1 := slice_l_C (P := Tryz.prog) 2 (some ⟨w.heap.size, 0, none⟩) (N + 1) c2 85 _ hT Tryz.sizeEnt i (by omega)
  rw [sliced_at _ _ _ _ _ _ (by omega), Nat.zero_add] at hsD1
  have hcp1 := fun ty => run_copy_X (P := Tryz.prog) w1 85 84 ty _ 2 w.heap.size (i * 2) (N + 1 - i) (c2 - i) ⟨a, 0, none⟩ 1 1 1 L0 _ (ent fb (n, f)) hT Tryz.sizeEnt hg1 (by simp only [Nat.min_def]; split <;> omega) rfl
      (srcOf (hS.kept hK1 (fun j hj he => by
        have e1 : a = j := by simpa [Value.ownBlock] using hj.2
        have e2 : g = j := by simpa using he
        omega))) (by rw [hL0s]; show i * 2 + 2 ≤ _; omega) ent_mem
  obtain ⟨L1, hL1⟩ : ∃ L1, (L0.toList.take (i * 2) ++ ent fb (n, f) ++ L0.toList.drop (i * 2 + (ent fb (n, f)).length)) = L1 := ⟨_, rfl⟩
  rw [hL1] at hcp1
  obtain ⟨w2, hw2⟩ : ∃ w2, w1.setRow w.heap.size L1.toArray = w2 := ⟨_, rfl⟩
  have hg2 : w2.heap[w.heap.size]? = some (.cells L1.toArray 169 (0, 0)) := by rw [← hw2]; exact setRow_heap w1 _ L0 _ _ _ hg1
  have hK2 : Kept (fun k => some g = some k) w w2 := by rw [← hw2]; exact hK1.setRow (.inr (Nat.le_refl _)) _
  rw [hw2] at hcp1
  have hL1s : L1.length = c2 * 2 := by
    rw [← hL1]
    simp only [List.length_append, List.length_take, List.length_drop, Array.length_toList, hL0s]
    show min (i * 2) (c2 * 2) + 2 + (c2 * 2 - (i * 2 + 2)) = _
    omega
  -- what stood behind
  have hsD2 := slice_l_C (P := Tryz.prog) 2 (some ⟨w.heap.size, 0, none⟩) (N + 1) c2 85 _ hT Tryz.sizeEnt (i + 1) (by omega)
  rw [sliced_at _ _ _ _ _ _ (by omega), Nat.zero_add, show N + 1 - (i + 1) = N - i from by omega] at hsD2
  have hXI2 : IsX w2.drew 2 (.slice (some ⟨g, i * 2, none⟩) (N - i) (N - i)) (N - i) ((row (ent fb) l).drop (i * 2)) := by
    refine hXI.kept (S := fun k => w.heap.size ≤ k) ?_ (fun j hj he => ?_)
    · rw [← hw2, ← hw1]
      exact ((((Kept.refl _ w).drew).alloc _).setRow (.inl (Nat.le_refl _)) _).drew
    · have e1 : g = j := by simpa [Value.ownBlock] using hj.2
      omega
  have hcp2 := fun ty => run_copy_X (P := Tryz.prog) w2.drew 85 85 ty _ 2 w.heap.size ((i + 1) * 2) (N - i) (c2 - (i + 1)) ⟨g, i * 2, none⟩ (N - i) (N - i) (N - i) L1.toArray _ ((row (ent fb) l).drop (i * 2)) hT Tryz.sizeEnt hg2 (by simp only [Nat.min_def]; split <;> omega) hlB
      (srcOf hXI2) (by rw [List.size_toArray, hL1s, hlB]; omega) (fun u hu => ent_one fb l u (List.mem_of_mem_drop hu))
  obtain ⟨L2, hL2⟩ : ∃ L2, (L1.toArray.toList.take ((i + 1) * 2) ++ (row (ent fb) l).drop (i * 2) ++ L1.toArray.toList.drop ((i + 1) * 2 + ((row (ent fb) l).drop (i * 2)).length)) = L2 := ⟨_, rfl⟩
  rw [hL2] at hcp2
  obtain ⟨w3, hw3⟩ : ∃ w3, w2.drew.setRow w.heap.size L2.toArray = w3 := ⟨_, rfl⟩
  have hg3 : w3.heap[w.heap.size]? = some (.cells L2.toArray 169 (0, 0)) := by rw [← hw3]; exact setRow_heap w2.drew _ L1.toArray _ _ _ hg2
  have hK3 : Kept (fun k => some g = some k) w w3 := by rw [← hw3]; exact (hK2.drew).setRow (.inr (Nat.le_refl _)) _
  rw [hw3] at hcp2
  have hlist := ins_list2 L0.toList ((row (ent fb) l).take (i * 2)) (ent fb (n, f)) ((row (ent fb) l).drop (i * 2)) (i * 2) 2 hL0t rfl (by rw [hL0l, hlB]; omega)
  rw [show i * 2 + 2 = i * 2 + (ent fb (n, f)).length from rfl, hL1, show i * 2 + (ent fb (n, f)).length = (i + 1) * 2 from by show i * 2 + 2 = _; omega] at hlist
  rw [show L1 = L1.toArray.toList from rfl, hL2, hlB, show (i + 1) * 2 + (N - i) * 2 = (N + 1) * 2 from by omega] at hlist
  have hO3 : w3.ownsRow 0 169 2 (.slice (some ⟨w.heap.size, 0, none⟩) (N + 1) c2) (N + 1) (row (ent fb) (l.take i ++ (n, f) :: l.drop i)) := by
    have e : row (ent fb) (l.take i ++ (n, f) :: l.drop i) = (row (ent fb) l).take (i * 2) ++ ent fb (n, f) ++ (row (ent fb) l).drop (i * 2) := by
      rw [row_append, row_cons, row_take (ent_len fb), row_drop (ent_len fb), List.append_assoc]
    rw [e]
    refine ⟨by simp only [List.length_append, hl0, hlB]; show i * 2 + 2 + _ = _; omega, .inr ⟨w.heap.size, c2, _, rfl, Nat.zero_le _, hg3, hc2ge, hc2le, ?_, ?_⟩⟩
    · rw [List.size_toArray, hlist.2, hL0l]
    · rw [List.toList_toArray]
      exact hlist.1
  have HO := Lib.hid hO3
  have HK := Lib.hid hK3
  have HAP := Lib.hid hap
  have HC1 := Lib.hid hcp1
  have HC2 := Lib.hid hcp2
  have hne : ((i : Int) == (N : Int)) = false := by simp; omega
  have hgt : ¬ ((N : Int) + 1 ≤ (N : Int)) := by omega
  have hkk : (N : Int) + 1 - (i : Int) = (k : Int) := by omega
  have hS1 := fun W => len_X (P := Tryz.prog) hS 84 3 _ Tryz.underlying84 W
  have hcap := fun (W : World) (ty : TypeId) => run_cap_slice (P := Tryz.prog) W 85 ty (some ⟨g, 0, none⟩) N N (by simp [Program.elem, hT])
  rw [show ((i + 1 : Nat) : Int) = (i : Int) + 1 from rfl] at hsD2
  have HB := Lib.hid (show Value.ownBlock (.slice (some ⟨w.heap.size, 0, none⟩) (N + 1) c2) = some w.heap.size from rfl)
  have hwr : IntKind.i64.wrap ((i : Int) + 1) = (i : Int) + 1 := IntWalk.i64_in _ (by omega)
  refine (walk_grow _ _ _ _ _ _ _ i N k w w1 w2 w3 hi hl hkk hne hgt hlen hcap hS1 hsI hs0 hsD1 hsD2 HAP _ _ HC1 HC2 hwr).mono fun e w' => ?_
  rintro ⟨rfl, rfl⟩
  exact ⟨_, rfl, HO.out, HK.out, .inr HB.out⟩

set_option maxRecDepth 100000 in
set_option maxHeartbeats 2000000 in
/-- In the midst, where there is room. -/
theorem tins_room (fb : Nat → Nat) (l : Tbl) (n : ByteArray) (f a g i N cap : Nat) (w : World) (hv : w.ownsRow 0 169 2 (.slice (some ⟨g, 0, none⟩) N cap) N (row (ent fb) l)) (hN : l.length = N) (hi : i < N) (hl : N ≤ 1048576) (hroom : N + 1 ≤ cap) (hcm : cap ≤ maxLen) (hga : g ≠ a)
    (ha : w.heap[a]? = some (.cells #[.string n, .pointer (some ⟨fb f, 0, none⟩)] 169 (0, 0))) :
    Calls Tryz.prog 127 #[.slice (some ⟨g, 0, none⟩) N cap, .int .i64 (i : Int), .slice (some ⟨a, 0, none⟩) 1 1] w fun e w' =>
      ∃ v', e = .returned v' ∧ w'.ownsRow 0 169 2 v' (N + 1) (row (ent fb) (l.take i ++ (n, f) :: l.drop i)) ∧ Kept (fun k => some g = some k) w w' ∧ (v'.ownBlock = some g ∨ v'.ownBlock = some w.heap.size) := by
  obtain ⟨i0, hinf, hz0, hz1, hz2⟩ := info_parts Tryz.infoEnt
  have hT := Tryz.underlying85
  have hX := IsX.own hv
  have hS := entX ha
  have hlr := length_row (ent_len fb) l
  rw [hN] at hlr
  rcases hv.2 with ⟨hbad, _⟩ | ⟨g', cap', cur, he, _, hg, _, _, hcs, htake⟩
  · cases hbad
  cases he
  have halt : a < w.heap.size := (Array.getElem?_eq_some_iff.1 ha).1
  have hsI := slice_l_X (P := Tryz.prog) hX 85 _ hT Tryz.sizeEnt i (by omega)
  rw [sliced_at _ _ _ _ _ _ (by omega), Nat.zero_add] at hsI
  have hlB : ((row (ent fb) l).drop (i * 2)).length = (N - i) * 2 := by rw [List.length_drop, hlr]; omega
  have hlen := fun W => len_X (P := Tryz.prog) hX 85 3 _ hT W
  have hs3 := slice_h_X (P := Tryz.prog) 2 (some ⟨g, 0, none⟩) N cap 85 _ hT Tryz.sizeEnt (N + 1) hroom
  have hsD := slice_l_C (P := Tryz.prog) 2 (some ⟨g, 0, none⟩) (N + 1) cap 85 _ hT Tryz.sizeEnt (i + 1) (by omega)
  rw [sliced_at _ _ _ _ _ _ (by omega), Nat.zero_add, show N + 1 - (i + 1) = N - i from by omega] at hsD
  have hsS := slice_l_C (P := Tryz.prog) 2 (some ⟨g, 0, none⟩) (N + 1) cap 85 _ hT Tryz.sizeEnt i (by omega)
  rw [sliced_at _ _ _ _ _ _ (by omega), Nat.zero_add] at hsS
  have hsz : ∀ W, (sizeOf 169).run Tryz.prog W = .ok 2 W := fun W => by simp [sizeOf, typeInfo, hinf, hz1]
  have hov : (callFunc 136 #[.slice (some ⟨a, 0, none⟩) 1 1, .slice (some ⟨g, (i + 1) * 2, none⟩) (N - i) (cap - (i + 1))]).run Tryz.prog w = .ok (.value (.bool false)) w := by
    rw [run_callFunc_extern Tryz.func136 (by kernel_rfl) (by kernel_rfl) (by kernel_rfl) (e := Extern.SlicesOverlaps.overlaps #[84, 84] #[4]) (by kernel_rfl),
      Lib.run_overlaps_apart w 84 4 169 Tryz.underlying84 2 hsz ⟨a, 0, none⟩ ⟨g, (i + 1) * 2, none⟩ 1 1 (N - i) (cap - (i + 1)) (fun e => hga e.symm) 169 169 2 cur.size (by simp [World.shape?, ha]) (by simp [World.shape?, hg]) (by rw [hcs]; omega) (frozen_of_row w a 0 _ _ ha) (frozen_of_row w a 2 _ _ ha)]
    rfl
  have hL0l : cur.toList.length = cap * 2 := by rw [Array.length_toList]; exact hcs
  have hL0t : cur.toList.take (i * 2) = (row (ent fb) l).take (i * 2) := by
    rw [← htake, List.take_take, Nat.min_eq_left (by omega)]
  have hcp1 := fun ty => run_copy_X (P := Tryz.prog) w.drew 85 85 ty _ 2 g ((i + 1) * 2) (N - i) (cap - (i + 1)) ⟨g, i * 2, none⟩ (N + 1 - i) (cap - i) (N - i) cur _ ((row (ent fb) l).drop (i * 2)) hT Tryz.sizeEnt hg (by simp only [Nat.min_def]; split <;> omega) hlB
      (fun j u hj => by
        rw [add_lit]
        have hjl := (List.getElem?_eq_some_iff.1 hj).1
        rw [List.getElem?_drop] at hj
        rw [hlB] at hjl
        show w.cell? _ = _
        rw [hv.cellAt (i * 2 + j) (by omega)]
        exact hj) (by rw [hcs, hlB]; omega) (fun u hu => ent_one fb l u (List.mem_of_mem_drop hu))
  obtain ⟨L1, hL1⟩ : ∃ L1, (cur.toList.take ((i + 1) * 2) ++ (row (ent fb) l).drop (i * 2) ++ cur.toList.drop ((i + 1) * 2 + ((row (ent fb) l).drop (i * 2)).length)) = L1 := ⟨_, rfl⟩
  rw [hL1] at hcp1
  obtain ⟨w2, hw2⟩ : ∃ w2, w.drew.setRow g L1.toArray = w2 := ⟨_, rfl⟩
  have hg2 : w2.heap[g]? = some (.cells L1.toArray 169 (0, 0)) := by rw [← hw2]; exact setRow_heap w.drew _ cur _ _ _ hg
  have hK2 : Kept (fun k => some g = some k) w w2 := by rw [← hw2]; exact Kept.setRow (S := fun k => some g = some k) ((Kept.refl _ w).drew) (.inl rfl) _
  rw [hw2] at hcp1
  have hL1s : L1.length = cap * 2 := by
    rw [← hL1]
    simp only [List.length_append, List.length_take, List.length_drop, hL0l]
    omega
  have hcp2 := fun ty => run_copy_X (P := Tryz.prog) w2 85 84 ty _ 2 g (i * 2) (N + 1 - i) (cap - i) ⟨a, 0, none⟩ 1 1 1 L1.toArray _ (ent fb (n, f)) hT Tryz.sizeEnt hg2 (by simp only [Nat.min_def]; split <;> omega) rfl
      (srcOf (hS.kept hK2 (fun j hj he => by
        have e1 : a = j := by simpa [Value.ownBlock] using hj.2
        have e2 : g = j := by simpa using he
        omega))) (by rw [List.size_toArray, hL1s]; show i * 2 + 2 ≤ _; omega) ent_mem
  obtain ⟨L2, hL2⟩ : ∃ L2, (L1.toArray.toList.take (i * 2) ++ ent fb (n, f) ++ L1.toArray.toList.drop (i * 2 + (ent fb (n, f)).length)) = L2 := ⟨_, rfl⟩
  rw [hL2] at hcp2
  obtain ⟨w3, hw3⟩ : ∃ w3, w2.setRow g L2.toArray = w3 := ⟨_, rfl⟩
  have hg3 : w3.heap[g]? = some (.cells L2.toArray 169 (0, 0)) := by rw [← hw3]; exact setRow_heap w2 _ L1.toArray _ _ _ hg2
  have hK3 : Kept (fun k => some g = some k) w w3 := by rw [← hw3]; exact hK2.setRow (.inl rfl) _
  rw [hw3] at hcp2
  have hlist := ins_list cur.toList ((row (ent fb) l).take (i * 2)) (ent fb (n, f)) ((row (ent fb) l).drop (i * 2)) (i * 2) 2 hL0t rfl (by rw [hL0l, hlB]; omega)
  rw [show i * 2 + 2 = (i + 1) * 2 from by omega, hL1, show (i + 1) * 2 = i * 2 + (ent fb (n, f)).length from by show _ = i * 2 + 2; omega] at hlist
  rw [show L1 = L1.toArray.toList from rfl, hL2, hlB, show i * 2 + (ent fb (n, f)).length + (N - i) * 2 = (N + 1) * 2 from by show i * 2 + 2 + _ = _; omega] at hlist
  have hl0 : ((row (ent fb) l).take (i * 2)).length = i * 2 := by rw [List.length_take, hlr]; omega
  have hO3 : w3.ownsRow 0 169 2 (.slice (some ⟨g, 0, none⟩) (N + 1) cap) (N + 1) (row (ent fb) (l.take i ++ (n, f) :: l.drop i)) := by
    have e : row (ent fb) (l.take i ++ (n, f) :: l.drop i) = (row (ent fb) l).take (i * 2) ++ ent fb (n, f) ++ (row (ent fb) l).drop (i * 2) := by
      rw [row_append, row_cons, row_take (ent_len fb), row_drop (ent_len fb), List.append_assoc]
    rw [e]
    refine ⟨by simp only [List.length_append, hl0, hlB]; show i * 2 + 2 + _ = _; omega, .inr ⟨g, cap, _, rfl, Nat.zero_le _, hg3, hroom, hcm, ?_, ?_⟩⟩
    · rw [List.size_toArray, hlist.2, hL0l]
    · rw [List.toList_toArray]
      exact hlist.1
  have HO := Lib.hid hO3
  have HK := Lib.hid hK3
  have HC1 := Lib.hid hcp1
  have HC2 := Lib.hid hcp2
  have hne : ((i : Int) == (N : Int)) = false := by simp; omega
  have hgt : ((N : Int) + 1 ≤ (cap : Int)) := by omega
  have hS1 := fun W => len_X (P := Tryz.prog) hS 84 3 _ Tryz.underlying84 W
  have hcap := fun (W : World) (ty : TypeId) => run_cap_slice (P := Tryz.prog) W 85 ty (some ⟨g, 0, none⟩) N cap (by simp [Program.elem, hT])
  rw [show ((i + 1 : Nat) : Int) = (i : Int) + 1 from rfl] at hsD
  rw [show ((N + 1 : Nat) : Int) = (N : Int) + 1 from rfl] at hs3
  have HB := Lib.hid (show Value.ownBlock (.slice (some ⟨g, 0, none⟩) (N + 1) cap) = some g from rfl)
  have hwr : IntKind.i64.wrap ((i : Int) + 1) = (i : Int) + 1 := IntWalk.i64_in _ (by omega)
  refine (walk_room _ _ _ _ _ _ i N cap w w2 w3 hi hl hne hgt hlen hcap hS1 hsI hs3 hsS hsD hov _ _ HC1 HC2 hwr).mono fun e w' => ?_
  rintro ⟨rfl, rfl⟩
  exact ⟨_, rfl, HO.out, HK.out, .inl HB.out⟩

/-- An entry laid in. -/
theorem tins_any (fb : Nat → Nat) (v : Value) (l : Tbl) (n : ByteArray) (f a i : Nat) (w : World) (hv : w.ownsRow 0 169 2 v l.length (row (ent fb) l)) (hi : i ≤ l.length) (hl : l.length ≤ 1048576) (hva : v.ownBlock ≠ some a)
    (ha : w.heap[a]? = some (.cells #[.string n, .pointer (some ⟨fb f, 0, none⟩)] 169 (0, 0))) :
    Calls Tryz.prog 127 #[v, .int .i64 (i : Int), .slice (some ⟨a, 0, none⟩) 1 1] w fun e w' =>
      ∃ v', e = .returned v' ∧ w'.ownsRow 0 169 2 v' (l.length + 1) (row (ent fb) (l.take i ++ (n, f) :: l.drop i)) ∧ Kept (fun k => v.ownBlock = some k) w w' ∧ (v'.ownBlock = v.ownBlock ∨ v'.ownBlock = some w.heap.size) := by
  by_cases h : i = l.length
  · subst h
    have := tins_end fb v l n f a w hv hl ha
    rw [List.take_length, List.drop_length]
    exact this
  · rcases hv.2 with ⟨rfl, h0⟩ | ⟨g, cap, cur, rfl, _, hg, hnc, hcm, _⟩
    · omega
    · have hga : g ≠ a := fun e => hva (by rw [← e]; rfl)
      by_cases hr : l.length + 1 ≤ cap
      · exact tins_room fb l n f a g i l.length cap w hv rfl (by omega) hl hr hcm hga ha
      · exact tins_grow fb l n f a g i l.length cap w hv rfl (by omega) hl (by omega) hcm hga ha

end Go.Proofs.YtcpoaofcfefgaaaGreatDoor
end

section
namespace Go.Cor
open Go.RowKit

/-- Block g holds these cells. -/
def Blk (w : World) (g : Nat) (cs : Array Value) (T : TypeId) : Prop := w.heap[g]? = some (.cells cs T (0, 0))
theorem Blk.lt {w : World} {g : Nat} {cs : Array Value} {T : TypeId} (h : Blk w g cs T) : g < w.heap.size := (Array.getElem?_eq_some_iff.1 h).1
theorem Blk.cell {w : World} {g : Nat} {cs : Array Value} {T : TypeId} (h : Blk w g cs T) (j : Nat) {v : Value} (hj : cs[j]? = some v) : w.cell? ⟨g, j, none⟩ = some v := (cell_of_row w g j cs T (0, 0) h).trans hj
theorem Blk.free {w : World} {g : Nat} {cs : Array Value} {T : TypeId} (h : Blk w g cs T) (j : Nat) : w.frozen? ⟨g, j, none⟩ = false := frozen_of_row w g j cs T h
theorem Blk.new (w : World) (cs : Array Value) (T : TypeId) : Blk (w.alloc (.cells cs T)) w.heap.size cs T := heap_alloc_new w _
theorem Blk.kept {S : Nat → Prop} {w w' : World} {g : Nat} {cs : Array Value} {T : TypeId} (h : Blk w g cs T) (hk : Kept S w w') (hs : ¬ S g) : Blk w' g cs T := (hk.block g h.lt hs).trans h
theorem Blk.below {w w' : World} {g B : Nat} {cs : Array Value} {T : TypeId} (h : Blk w g cs T) (hb : Below B w w') (hg : g < B) : Blk w' g cs T := (hb.block g hg).trans h
theorem Blk.alloc {w : World} {g : Nat} {cs : Array Value} {T : TypeId} (h : Blk w g cs T) (o : Obj) : Blk (w.alloc o) g cs T := (heap_alloc_old w o h.lt).trans h
theorem Blk.drew {w : World} {g : Nat} {cs : Array Value} {T : TypeId} (h : Blk w g cs T) : Blk w.drew g cs T := h
theorem Blk.grown {w w' : World} {g : Nat} {cs : Array Value} {T : TypeId} {row : Option Nat} (h : Blk w g cs T) (hg : w.grownBy w' row) (hr : row ≠ some g) : Blk w' g cs T := (hg.block g h.lt (fun e => hr e.symm)).trans h
theorem Blk.set {w : World} {g : Nat} {cs : Array Value} {T : TypeId} (h : Blk w g cs T) (j : Nat) (u : Value) : Blk (w.setCell ⟨g, j, none⟩ u) g (cs.setIfInBounds j u) T := by
  unfold Blk at *
  rw [heap_setCell_same w g j cs T u h]
theorem Blk.other {w : World} {g : Nat} {cs : Array Value} {T : TypeId} (h : Blk w g cs T) {a : Addr} (ha : a.block ≠ g) (u : Value) : Blk (w.setCell a u) g cs T := (heap_setCell_other w a g u (fun e => ha e.symm)).trans h

theorem row_set {α : Type} {enc : α → List Value} {size : Nat} (h : ∀ x, (enc x).length = size) {l : List α} {i : Nat} {x y : α} (hx : l[i]? = some x) (j : Nat) (hj : j < size) (u : Value) (he : (enc x).set j u = enc y) :
    (row enc l).set (i * size + j) u = row enc (l.set i y) := by
  induction l generalizing i with
  | nil => simp at hx
  | cons z r ih =>
    cases i with
    | zero =>
      simp only [List.getElem?_cons_zero, Option.some.injEq] at hx
      subst hx
      rw [Nat.zero_mul, Nat.zero_add, row_cons, List.set_append_left _ _ (by rw [h]; exact hj), he, List.set_cons_zero, row_cons]
    | succ i =>
      rw [List.getElem?_cons_succ] at hx
      have e : (i + 1) * size + j = size + (i * size + j) := by rw [Nat.add_mul, Nat.one_mul]; omega
      rw [row_cons, List.set_append_right _ _ (by rw [h, e]; exact Nat.le_add_right _ _), h, e, Nat.add_sub_cancel_left, ih hx, List.set_cons_succ, row_cons]
theorem indexAt_own {P : Program} {w : World} {base size : Nat} {e : TypeId} {v : Value} {n : Nat} {cs : List Value} (hv : w.ownsRow base e size v n cs) (T U : TypeId) (ht : P.underlying T = some (.slice U)) (hs : (P.info? U).map (·.size) = some size) (i : Nat) (hi : i < n) :
    ∃ g, v.ownBlock = some g ∧ (∀ W, (Instr.indexAt T v (.int .i64 (i : Int))).run P W = .ok (.pointer (some ⟨g, i * size, none⟩)) W) ∧ (∀ j, j < size → w.cell? ⟨g, i * size + j, none⟩ = cs[i * size + j]?) ∧ (∀ j, w.frozen? ⟨g, j, none⟩ = false) ∧
      (∀ j u, (w.setCell ⟨g, j, none⟩ u).ownsRow base e size v n (cs.set j u)) := by
  obtain ⟨j, hj1, hj2⟩ := Option.map_eq_some_iff.1 hs
  rcases hv.2 with ⟨rfl, h0⟩ | ⟨g, cap, cur, rfl, _⟩
  · omega
  · refine ⟨g, rfl, fun W => ?_, fun j hj => ?_, fun j => hv.frozenAt j, fun j u => (hv.stored j u).1⟩
    · have ht' : P.underlying T = some (.slice (P.elem T)) := by simp [Program.elem, ht]
      have he : P.elem T = U := by simp [Program.elem, ht]
      have hsz : ∀ W, (sizeOf U).run P W = .ok size W := fun W => by simp [sizeOf, typeInfo, hj1, hj2]
      have h0 : (0 : Int) ≤ (i : Int) := by omega
      have h1 : (i : Int) < (n : Int) := by omega
      go_simp
    · have hle : (i + 1) * size ≤ n * size := Nat.mul_le_mul_right _ (by omega)
      rw [Nat.add_mul, Nat.one_mul] at hle
      exact hv.cellAt _ (by omega)
theorem Kept.undrew {S : Nat → Prop} {w w' : World} (h : Kept S w.drew w') : Kept S w w' := ⟨h.os, h.tape, h.output, h.size, h.block⟩
theorem IsX.lit (w : World) (cs : Array Value) (T : TypeId) (size n : Nat) (hs : cs.size = n * size) (hm : n ≤ maxLen) : IsX (w.alloc (.cells cs T)) size (.slice (some ⟨w.heap.size, 0, none⟩) n n) n cs.toList :=
  IsX.own (World.ownsRow_lit (base := 0) (e := T) (size := size) w cs n (Nat.zero_le _) hm hs)
end Go.Cor
end
