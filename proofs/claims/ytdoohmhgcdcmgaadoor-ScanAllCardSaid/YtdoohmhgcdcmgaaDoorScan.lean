/- Needles one behind the other in bytes: of no program. -/
import Derived.Test.YtdoohmhgcdcmgaaDoorNdl
namespace Go.Cor

/-- A needle, and where it stands. -/
structure Fnd where
  off : Nat
  size : Nat
  n : Ndl

/-- The needle with which the bytes from a place on begin. -/
def fndAt (l : List UInt8) (a : Nat) : Fnd := ⟨a, total (l.drop a), getN (l.drop a)⟩

/-- From a, needle by needle, to z. -/
def Path (l : List UInt8) : Nat → List Fnd → Nat → Prop
  | a, [], z => a = z
  | a, f :: r, z => f = fndAt l a ∧ a < l.length ∧ getCode (l.drop a) = 0 ∧ Path l (a + total (l.drop a)) r z

/-- Here a scan ends. -/
def EndsAt (l : List UInt8) (z : Nat) : Prop := z = l.length ∨ (z < l.length ∧ getCode (l.drop z) ≠ 0)
/-- With this code. -/
def endCode (l : List UInt8) (z : Nat) : Nat := if z < l.length then getCode (l.drop z) else 0

theorem getCode_zero {l : List UInt8} : getCode l = 0 ↔ 32 ≤ l.length ∧ formedB l = true ∧ total l ≤ l.length ∧ sumOkN l = true ∧ zeroB (padOf l) = true := by
  unfold getCode
  constructor
  · intro h
    split at h
    · omega
    split at h
    · omega
    split at h
    · omega
    split at h
    · omega
    split at h
    · omega
    rename_i h1 h2 h3 h4 h5
    exact ⟨by omega, by simpa using h2, by omega, by simpa using h4, by simpa using h5⟩
  · rintro ⟨h1, h2, h3, h4, h5⟩
    rw [if_neg (by omega), if_neg (by rw [h2]; simp), if_neg (by omega), if_neg (by rw [h4]; simp), if_neg (by rw [h5]; simp)]
theorem total_ge (l : List UInt8) : 32 ≤ total l := by unfold total; omega

theorem seg_take (l : List UInt8) {a k j : Nat} (h : a + k ≤ j) : ((l.take j).drop a).take k = (l.drop a).take k := by
  rw [List.drop_take, List.take_take, Nat.min_eq_left (by omega)]
theorem seg_eq {l m : List UInt8} {j : Nat} (e : l.take j = m.take j) {a k : Nat} (h : a + k ≤ j) : (m.drop a).take k = (l.drop a).take k := by
  rw [← seg_take l h, e, seg_take m h]

/-- The bytes of a needle alone tell it. -/
theorem get_ext {l m : List UInt8} (h : getCode l = 0) (e : l.take (total l) = m.take (total l)) (hm : total l ≤ m.length) :
    getCode m = 0 ∧ total m = total l ∧ getN m = getN l := by
  obtain ⟨h1, h2, h3, h4, h5⟩ := getCode_zero.1 h
  have t32 := total_ge l
  have f : ∀ a k, a + k ≤ total l → fld m a k = fld l a k := fun a k hk => by
    unfold fld
    rw [seg_eq e hk]
  have hd : dlen m = dlen l := f 20 4 (by omega)
  have ht : total m = total l := by unfold total; rw [hd]
  have hT : 32 + dlen l + padn (dlen l) = total l := rfl
  have hdo : dataOf m = dataOf l := by
    unfold dataOf
    rw [hd, seg_eq e (by omega)]
  have hpo : padOf m = padOf l := by
    unfold padOf
    rw [hd, seg_eq e (by omega)]
  have h24 : m.take 24 = l.take 24 := by
    have := seg_eq e (a := 0) (k := 24) (by omega)
    simpa using this
  refine ⟨getCode_zero.2 ⟨by omega, ?_, by omega, ?_, ?_⟩, ht, ?_⟩
  · unfold formedB at h2 ⊢
    rw [f 0 4 (by omega), f 4 4 (by omega), f 28 4 (by omega), f 20 4 (by omega)]
    exact h2
  · unfold sumOkN at h4 ⊢
    rw [h24, hdo, f 24 4 (by omega)]
    exact h4
  · rw [hpo]
    exact h5
  · unfold getN
    rw [f 8 8 (by omega), f 16 4 (by omega), f 4 4 (by omega), hdo]

theorem get_fit {l : List UInt8} {a : Nat} (ha : a < l.length) (h : getCode (l.drop a) = 0) : a + total (l.drop a) ≤ l.length := by
  have := (getCode_zero.1 h).2.2.1
  rw [List.length_drop] at this
  omega

theorem Path.le {l : List UInt8} {fs : List Fnd} {a z : Nat} (h : Path l a fs z) : a ≤ z ∧ (a ≤ l.length → z ≤ l.length) := by
  induction fs generalizing a with
  | nil => cases h; exact ⟨Nat.le_refl _, id⟩
  | cons f r ih =>
    obtain ⟨_, h1, h2, h3⟩ := h
    have := ih h3
    have hf := get_fit h1 h2
    exact ⟨by omega, fun _ => this.2 hf⟩
theorem Path.len {l : List UInt8} {fs : List Fnd} {a z : Nat} (h : Path l a fs z) : a + 32 * fs.length ≤ z := by
  induction fs generalizing a with
  | nil => cases h; simp
  | cons f r ih =>
    obtain ⟨_, h1, h2, h3⟩ := h
    have := ih h3
    have := total_ge (l.drop a)
    simp only [List.length_cons]
    omega
theorem Path.snoc {l : List UInt8} {fs : List Fnd} {a z : Nat} (h : Path l a fs z) (hz : z < l.length) (hg : getCode (l.drop z) = 0) : Path l a (fs ++ [fndAt l z]) (z + total (l.drop z)) := by
  induction fs generalizing a with
  | nil => cases h; exact ⟨rfl, hz, hg, rfl⟩
  | cons f r ih =>
    obtain ⟨h0, h1, h2, h3⟩ := h
    exact ⟨h0, h1, h2, ih h3⟩
/-- One path goes on where the other ends. -/
theorem Path.split {l : List UInt8} {fs gs : List Fnd} {a z y : Nat} (h : Path l a fs z) (k : Path l a gs y) (hy : EndsAt l y) : ∃ r, gs = fs ++ r ∧ Path l z r y := by
  induction fs generalizing a gs with
  | nil => cases h; exact ⟨gs, rfl, k⟩
  | cons f r ih =>
    obtain ⟨h0, h1, h2, h3⟩ := h
    cases gs with
    | nil =>
      cases k
      rcases hy with hy | ⟨_, hy⟩
      · omega
      · exact absurd h2 hy
    | cons g s =>
      obtain ⟨k0, _, _, k3⟩ := k
      obtain ⟨t, rfl, ht⟩ := ih h3 k3
      exact ⟨t, by rw [h0, k0]; rfl, ht⟩
theorem Path.uniq {l : List UInt8} {fs gs : List Fnd} {a z y : Nat} (h : Path l a fs z) (hz : EndsAt l z) (k : Path l a gs y) (hy : EndsAt l y) : gs = fs ∧ y = z := by
  obtain ⟨r, rfl, hr⟩ := h.split k hy
  cases r with
  | nil => cases hr; exact ⟨by simp, rfl⟩
  | cons f s =>
    obtain ⟨_, h1, h2, _⟩ := hr
    rcases hz with hz | ⟨_, hz⟩
    · omega
    · exact absurd h2 hz
theorem Path.drop {l : List UInt8} {fs : List Fnd} {a z : Nat} (h : Path l a fs z) {k : Nat} {f : Fnd} (hk : fs[k]? = some f) : Path l f.off (fs.drop k) z := by
  induction fs generalizing a k with
  | nil => simp at hk
  | cons g r ih =>
    cases k with
    | zero =>
      simp only [List.getElem?_cons_zero, Option.some.injEq] at hk
      subst hk
      rw [h.1]
      exact ⟨rfl, h.2⟩
    | succ k => exact ih h.2.2.2 (by simpa using hk)
theorem Path.take {l : List UInt8} {fs : List Fnd} {a z : Nat} (h : Path l a fs z) {k : Nat} {f : Fnd} (hk : fs[k]? = some f) : Path l a (fs.take (k + 1)) (f.off + f.size) := by
  induction fs generalizing a k with
  | nil => simp at hk
  | cons g r ih =>
    cases k with
    | zero =>
      simp only [List.getElem?_cons_zero, Option.some.injEq] at hk
      subst hk
      simp only [Nat.zero_add, List.take_succ_cons, List.take_zero]
      refine ⟨h.1, h.2.1, h.2.2.1, ?_⟩
      rw [h.1]
      rfl
    | succ k =>
      rw [List.take_succ_cons]
      exact ⟨h.1, h.2.1, h.2.2.1, ih h.2.2.2 (by simpa using hk)⟩
theorem Path.off_le {l : List UInt8} {fs : List Fnd} {a z : Nat} (h : Path l a fs z) {k : Nat} {f : Fnd} (hk : fs[k]? = some f) : a ≤ f.off ∧ f.off + f.size ≤ z ∧ f.off < l.length ∧ f.size = total (l.drop f.off) := by
  induction fs generalizing a k with
  | nil => simp at hk
  | cons g r ih =>
    have hle := Path.le h.2.2.2
    cases k with
    | zero =>
      simp only [List.getElem?_cons_zero, Option.some.injEq] at hk
      subst hk
      rw [h.1]
      exact ⟨Nat.le_refl _, hle.1, h.2.1, rfl⟩
    | succ k =>
      have := ih h.2.2.2 (by simpa using hk)
      exact ⟨by omega, this.2⟩
/-- The same bytes up to the end: the same needles. -/
theorem Path.ext {l m : List UInt8} {fs : List Fnd} {a z : Nat} (h : Path l a fs z) (e : l.take z = m.take z) (hm : z ≤ m.length) (hl : z ≤ l.length) : Path m a fs z := by
  induction fs generalizing a with
  | nil => exact h
  | cons f r ih =>
    obtain ⟨h0, h1, h2, h3⟩ := h
    have hle := (Path.le h3).1
    have h32 := total_ge (l.drop a)
    have e' : (l.drop a).take (total (l.drop a)) = (m.drop a).take (total (l.drop a)) := (seg_eq e (by omega)).symm
    obtain ⟨g1, g2, g3⟩ := get_ext h2 e' (by rw [List.length_drop]; omega)
    refine ⟨?_, by omega, g1, ?_⟩
    · rw [h0]
      unfold fndAt
      rw [g2, g3]
    · rw [g2]
      exact ih h3
theorem Path.fits {l : List UInt8} {fs : List Fnd} {a z : Nat} (h : Path l a fs z) : ∀ f ∈ fs, f.n.fits ∧ f.n.data.length ≤ 4096 := by
  induction fs generalizing a with
  | nil => intro f hf; cases hf
  | cons g r ih =>
    intro f hf
    rcases List.mem_cons.1 hf with rfl | hf
    · rw [h.1]
      have hd := formed_len (getCode_zero.1 h.2.2.1).2.1
      refine ⟨getN_fits _, ?_⟩
      show (dataOf _).length ≤ 4096
      unfold dataOf
      rw [List.length_take]
      omega
    · exact ih h.2.2.2 f hf
theorem endCode_le (l : List UInt8) (z : Nat) : endCode l z ≤ 5 := by
  unfold endCode getCode
  repeat' split
  all_goals omega
theorem endCode_ge {l : List UInt8} {z : Nat} (h : endCode l z ≠ 0) : 3 ≤ endCode l z := by
  revert h
  unfold endCode getCode
  repeat' split
  all_goals (intro h; first | omega | exact absurd rfl h)
theorem EndsAt.zero {l : List UInt8} {z : Nat} (h : EndsAt l z) : endCode l z = 0 ↔ z = l.length := by
  unfold endCode
  rcases h with h | ⟨h1, h2⟩
  · subst h
    simp
  · rw [if_pos h1]
    constructor
    · intro h; exact absurd h h2
    · intro h; omega

end Go.Cor
