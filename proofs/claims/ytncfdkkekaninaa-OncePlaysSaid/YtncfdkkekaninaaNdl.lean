/- Needles as bytes, and the needle of bytes: of no program. -/
import Derived.Test.YtncfdkkekaninaaCrc
set_option linter.unusedVariables false
set_option linter.unusedSimpArgs false
namespace Go.Cor

/-- A needle. -/
structure Ndl where
  key : Nat
  cookie : Nat
  gone : Bool
  data : List UInt8

theorem Ndl.ext' {a b : Ndl} (h1 : a.key = b.key) (h2 : a.cookie = b.cookie) (h3 : a.gone = b.gone) (h4 : a.data = b.data) : a = b := by
  cases a
  cases b
  simp_all

/-- Its numbers fit. -/
def Ndl.fits (n : Ndl) : Prop := n.key < 18446744073709551616 ∧ n.cookie < 4294967296
def flagN (g : Bool) : Nat := if g = true then 1 else 0
def zerosN (k : Nat) : List UInt8 := List.replicate k 0
def padn (n : Nat) : Nat := (8 - n % 8) % 8
/-- What its sum is of, but the data. -/
def front (n : Ndl) : List UInt8 := le 1313162572 4 ++ le (flagN n.gone) 4 ++ le n.key 8 ++ le n.cookie 4 ++ le n.data.length 4
def nsum (n : Ndl) : Nat := crc (front n ++ n.data)
/-- Its head. -/
def nhead (n : Ndl) : List UInt8 := front n ++ le (nsum n) 4 ++ zerosN 4
/-- Its bytes. -/
def nbytes (n : Ndl) : List UInt8 := nhead n ++ n.data ++ zerosN (padn n.data.length)
/-- Why it may not be. -/
def ncheck (n : Ndl) : Nat := if 4096 < n.data.length then 2 else if n.gone = true ∧ 0 < n.data.length then 1 else 0

theorem ncheck_le (n : Ndl) : ncheck n ≤ 2 := by
  unfold ncheck
  split
  · omega
  · split <;> omega
theorem ncheck_ok {n : Ndl} (h : ncheck n = 0) : n.data.length ≤ 4096 ∧ (n.gone = true → n.data.length = 0) := by
  unfold ncheck at h
  split at h
  · omega
  · split at h
    · omega
    · rename_i h1 h2
      exact ⟨by omega, fun hg => by
        have : ¬ 0 < n.data.length := fun hl => h2 ⟨hg, hl⟩
        omega⟩

theorem padn_lt (n : Nat) : padn n < 8 := by unfold padn; omega
theorem length_front (n : Ndl) : (front n).length = 24 := by simp [front, length_le]
theorem length_zerosN (k : Nat) : (zerosN k).length = k := by simp [zerosN]
theorem length_nhead (n : Ndl) : (nhead n).length = 32 := by simp [nhead, length_front, length_le, length_zerosN]
theorem length_nbytes (n : Ndl) : (nbytes n).length = 32 + n.data.length + padn n.data.length := by simp [nbytes, length_nhead, length_zerosN]; omega

/-- A number that stands in bytes. -/
def fld (l : List UInt8) (a k : Nat) : Nat := num ((l.drop a).take k)
theorem fld_lt (l : List UInt8) (a k : Nat) : fld l a k < 256 ^ k := by
  have h := num_lt ((l.drop a).take k)
  have h2 : ((l.drop a).take k).length ≤ k := by simp; omega
  exact Nat.lt_of_lt_of_le h (Nat.pow_le_pow_right (by decide) h2)
theorem fld4_lt (l : List UInt8) (a : Nat) : fld l a 4 < 4294967296 := fld_lt l a 4
theorem fld8_lt (l : List UInt8) (a : Nat) : fld l a 8 < 18446744073709551616 := fld_lt l a 8
theorem fld_take (l : List UInt8) {a k j : Nat} (h : a + k ≤ j) : fld (l.take j) a k = fld l a k := by
  unfold fld
  rw [List.drop_take, List.take_take, Nat.min_eq_left (by omega)]
theorem fld_append (p l q : List UInt8) {a k : Nat} (hp : p.length = a) (hl : l.length = k) : fld (p ++ l ++ q) a k = num l := by
  unfold fld
  rw [List.append_assoc, List.drop_left' hp, List.take_left' hl]

/-- Is the head one that may be? -/
def formedB (l : List UInt8) : Bool := decide (fld l 0 4 = 1313162572 ∧ fld l 4 4 ≤ 1 ∧ fld l 28 4 = 0 ∧ fld l 20 4 ≤ 4096 ∧ (fld l 4 4 = 1 → fld l 20 4 = 0))
/-- How many bytes of data. -/
def dlen (l : List UInt8) : Nat := fld l 20 4
def total (l : List UInt8) : Nat := 32 + dlen l + padn (dlen l)
def dataOf (l : List UInt8) : List UInt8 := (l.drop 32).take (dlen l)
def padOf (l : List UInt8) : List UInt8 := (l.drop (32 + dlen l)).take (padn (dlen l))
def sumOkN (l : List UInt8) : Bool := decide (crc (l.take 24 ++ dataOf l) = fld l 24 4)
def zeroB (l : List UInt8) : Bool := decide (∀ x ∈ l, x = 0)
/-- Why bytes begin with no needle. -/
def getCode (l : List UInt8) : Nat :=
  if l.length < 32 then 3 else if formedB l = false then 4 else if l.length < total l then 3 else if sumOkN l = false then 5 else if zeroB (padOf l) = false then 4 else 0
/-- The needle with which they begin. -/
def getN (l : List UInt8) : Ndl := ⟨fld l 8 8, fld l 16 4, decide (fld l 4 4 = 1), dataOf l⟩

theorem formed_len {l : List UInt8} (h : formedB l = true) : dlen l ≤ 4096 := (of_decide_eq_true h).2.2.2.1
theorem zero_num (l : List UInt8) : num l = 0 ↔ ∀ x ∈ l, x = 0 := by
  induction l with
  | nil => simp [num]
  | cons x l ih =>
    simp only [num, List.mem_cons, forall_eq_or_imp, ← ih]
    constructor
    · intro h
      exact ⟨UInt8.toNat_inj.1 (by simp; omega), by omega⟩
    · rintro ⟨rfl, h⟩
      simp [h]
theorem zeroB_zeros (k : Nat) : zeroB (zerosN k) = true := decide_eq_true fun x hx => by
  have := List.mem_replicate.1 hx
  exact this.2
theorem zeroB_num (l : List UInt8) : zeroB l = decide (num l = 0) := by
  unfold zeroB
  exact decide_eq_decide.2 (zero_num l).symm
theorem getN_gone (l : List UInt8) : (getN l).gone = decide (fld l 4 4 = 1) := rfl
theorem getN_fits (l : List UInt8) : (getN l).fits := ⟨fld8_lt l 8, fld4_lt l 16⟩

/-- What the head of a needle tells, wherever it stands ahead. -/
theorem head_flds {n : Ndl} {l : List UInt8} (hn : n.fits) (hd : n.data.length ≤ 4096) (h : l.take 32 = nhead n) :
    fld l 0 4 = 1313162572 ∧ fld l 4 4 = flagN n.gone ∧ fld l 8 8 = n.key ∧ fld l 16 4 = n.cookie ∧ fld l 20 4 = n.data.length ∧ fld l 24 4 = nsum n ∧ fld l 28 4 = 0 ∧ l.take 24 = front n := by
  have hf : flagN n.gone < 256 ^ 4 := by unfold flagN; split <;> decide
  have hc : nsum n < 256 ^ 4 := crc_lt (front n ++ n.data)
  have L : (le 1313162572 4).length = 4 ∧ (le (flagN n.gone) 4).length = 4 ∧ (le n.key 8).length = 8 ∧ (le n.cookie 4).length = 4 ∧ (le n.data.length 4).length = 4 := by simp [length_le]
  obtain ⟨L0, L1, L2, L3, L4⟩ := L
  have N0 : num (le 1313162572 4) = 1313162572 := by rw [num_le]
  have N1 : num (le (flagN n.gone) 4) = flagN n.gone := by rw [num_le, Nat.mod_eq_of_lt hf]
  have N2 : num (le n.key 8) = n.key := by rw [num_le, Nat.mod_eq_of_lt hn.1]
  have N3 : num (le n.cookie 4) = n.cookie := by rw [num_le, Nat.mod_eq_of_lt hn.2]
  have N4 : num (le n.data.length 4) = n.data.length := by rw [num_le, Nat.mod_eq_of_lt (by omega)]
  have N5 : num (le (nsum n) 4) = nsum n := by rw [num_le, Nat.mod_eq_of_lt hc]
  have N6 : num (zerosN 4) = 0 := (zero_num _).2 (of_decide_eq_true (zeroB_zeros 4))
  have F : ∀ a k, a + k ≤ 32 → fld l a k = fld (nhead n) a k := fun a k ha => by rw [← h, fld_take l ha]
  rw [F 0 4 (by omega), F 4 4 (by omega), F 8 8 (by omega), F 16 4 (by omega), F 20 4 (by omega), F 24 4 (by omega), F 28 4 (by omega)]
  have e24 : l.take 24 = (l.take 32).take 24 := by rw [List.take_take, Nat.min_eq_left (by omega)]
  rw [e24, h]
  refine ⟨?_, ?_, ?_, ?_, ?_, ?_, ?_, ?_⟩
  · rw [← N0]
    have := fld_append [] (le 1313162572 4) (le (flagN n.gone) 4 ++ le n.key 8 ++ le n.cookie 4 ++ le n.data.length 4 ++ le (nsum n) 4 ++ zerosN 4) (a := 0) rfl L0
    simpa [nhead, front, List.append_assoc, N0] using this
  · have := fld_append (le 1313162572 4) (le (flagN n.gone) 4) (le n.key 8 ++ le n.cookie 4 ++ le n.data.length 4 ++ le (nsum n) 4 ++ zerosN 4) L0 L1
    simpa [nhead, front, List.append_assoc, N1] using this
  · have := fld_append (le 1313162572 4 ++ le (flagN n.gone) 4) (le n.key 8) (le n.cookie 4 ++ le n.data.length 4 ++ le (nsum n) 4 ++ zerosN 4) (a := 8) (by simp [length_le]) L2
    simpa [nhead, front, List.append_assoc, N2] using this
  · have := fld_append (le 1313162572 4 ++ le (flagN n.gone) 4 ++ le n.key 8) (le n.cookie 4) (le n.data.length 4 ++ le (nsum n) 4 ++ zerosN 4) (a := 16) (by simp [length_le]) L3
    simpa [nhead, front, List.append_assoc, N3] using this
  · have := fld_append (le 1313162572 4 ++ le (flagN n.gone) 4 ++ le n.key 8 ++ le n.cookie 4) (le n.data.length 4) (le (nsum n) 4 ++ zerosN 4) (a := 20) (by simp [length_le]) L4
    simpa [nhead, front, List.append_assoc, N4] using this
  · have := fld_append (front n) (le (nsum n) 4) (zerosN 4) (a := 24) (length_front n) (length_le _ _)
    simpa [nhead, List.append_assoc, N5] using this
  · have := fld_append (front n ++ le (nsum n) 4) (zerosN 4) [] (a := 28) (by simp [length_front, length_le]) (length_zerosN 4)
    simpa [nhead, List.append_assoc, N6] using this
  · rw [nhead, List.append_assoc]
    exact List.take_left' (length_front n)

theorem head_formed {n : Ndl} {l : List UInt8} (hn : n.fits) (hc : ncheck n = 0) (h : l.take 32 = nhead n) : formedB l = true ∧ dlen l = n.data.length := by
  obtain ⟨hd, hg⟩ := ncheck_ok hc
  obtain ⟨f0, f1, f2, f3, f4, f5, f6, f7⟩ := head_flds hn hd h
  refine ⟨decide_eq_true ?_, f4⟩
  rw [f0, f1, f4, f6]
  refine ⟨rfl, ?_, rfl, hd, fun hf => ?_⟩
  · unfold flagN
    split <;> omega
  · apply hg
    unfold flagN at hf
    split at hf
    · assumption
    · omega

theorem take32 (n : Ndl) (rest : List UInt8) : (nbytes n ++ rest).take 32 = nhead n := by
  rw [nbytes, List.append_assoc, List.append_assoc]
  exact List.take_left' (length_nhead n)

/-- What is put is got, whatever stands behind. -/
theorem get_put {n : Ndl} (hn : n.fits) (hc : ncheck n = 0) (rest : List UInt8) :
    getCode (nbytes n ++ rest) = 0 ∧ getN (nbytes n ++ rest) = n ∧ total (nbytes n ++ rest) = (nbytes n).length := by
  obtain ⟨hd, hg⟩ := ncheck_ok hc
  have h := take32 n rest
  obtain ⟨f0, f1, f2, f3, f4, f5, f6, f7⟩ := head_flds hn hd h
  obtain ⟨hform, hdl⟩ := head_formed hn hc h
  have ht : total (nbytes n ++ rest) = (nbytes n).length := by unfold total; rw [hdl, length_nbytes]
  have e1 : nbytes n ++ rest = nhead n ++ (n.data ++ (zerosN (padn n.data.length) ++ rest)) := by simp [nbytes, List.append_assoc]
  have hda : dataOf (nbytes n ++ rest) = n.data := by
    unfold dataOf
    rw [hdl, e1, List.drop_left' (length_nhead n), List.take_left' rfl]
  have hpa : padOf (nbytes n ++ rest) = zerosN (padn n.data.length) := by
    unfold padOf
    rw [hdl, e1, ← List.append_assoc, List.drop_left' (by rw [List.length_append, length_nhead]), List.take_left' (length_zerosN _)]
  have hs : sumOkN (nbytes n ++ rest) = true := decide_eq_true (by rw [f7, hda, f5]; rfl)
  have hz : zeroB (padOf (nbytes n ++ rest)) = true := by rw [hpa]; exact zeroB_zeros _
  have hl := length_nbytes n
  have hll : (nbytes n ++ rest).length = (nbytes n).length + rest.length := List.length_append
  have hgone : (getN (nbytes n ++ rest)).gone = n.gone := by
    rw [getN_gone, f1]
    unfold flagN
    cases n.gone <;> simp
  refine ⟨?_, Ndl.ext' f2 f3 hgone hda, ht⟩
  · unfold getCode
    rw [if_neg (by omega), if_neg (by rw [hform]; simp), if_neg (by omega), if_neg (by rw [hs]; simp), if_neg (by rw [hz]; simp)]

/-- Cut anywhere there is none. -/
theorem get_cut {n : Ndl} (hn : n.fits) (hc : ncheck n = 0) {j : Nat} (hj : j < (nbytes n).length) : getCode ((nbytes n).take j) = 3 := by
  have hlen : ((nbytes n).take j).length = j := by simp; omega
  unfold getCode
  by_cases h32 : j < 32
  · rw [if_pos (by omega)]
  · have h : ((nbytes n).take j).take 32 = nhead n := by
      rw [List.take_take, Nat.min_eq_left (by omega)]
      have := take32 n []
      rwa [List.append_nil] at this
    obtain ⟨hform, hdl⟩ := head_formed hn hc h
    have hl := length_nbytes n
    rw [if_neg (by omega), if_neg (by rw [hform]; simp), if_pos (by unfold total; rw [hdl]; omega)]

theorem nbytes_inj {a b : Ndl} (ha : a.fits) (hb : b.fits) (ca : ncheck a = 0) (cb : ncheck b = 0) (h : nbytes a = nbytes b) : a = b := by
  have h1 := (get_put ha ca []).2.1
  have h2 := (get_put hb cb []).2.1
  rw [h] at h1
  rw [← h1, h2]

/-- Are they alike? -/
def sameN (a b : Ndl) : Bool := decide (a.key = b.key ∧ a.cookie = b.cookie ∧ a.gone = b.gone ∧ a.data = b.data)
theorem sameN_eq (a b : Ndl) : sameN a b = true ↔ a = b := by
  unfold sameN
  rw [decide_eq_true_iff]
  exact ⟨fun h => Ndl.ext' h.1 h.2.1 h.2.2.1 h.2.2.2, fun h => by subst h; exact ⟨rfl, rfl, rfl, rfl⟩⟩
theorem sameN_self (a : Ndl) : sameN a a = true := (sameN_eq a a).2 rfl
theorem sameN_comm (a b : Ndl) : sameN a b = sameN b a := by
  rw [Bool.eq_iff_iff, sameN_eq, sameN_eq]
  exact eq_comm
theorem sameN_bytes {a b : Ndl} (ha : a.fits) (hb : b.fits) (ca : ncheck a = 0) (cb : ncheck b = 0) : decide (nbytes a = nbytes b) = sameN a b := by
  rw [Bool.eq_iff_iff, sameN_eq, decide_eq_true_iff]
  exact ⟨nbytes_inj ha hb ca cb, fun h => by rw [h]⟩
theorem length_nbytes_mono {a b : Ndl} (h : a.data.length ≤ b.data.length) : (nbytes a).length ≤ (nbytes b).length := by
  rw [length_nbytes, length_nbytes]
  unfold padn
  omega
theorem length_nbytes_mod (n : Ndl) : (nbytes n).length % 8 = 0 := by
  rw [length_nbytes]
  unfold padn
  omega

end Go.Cor
