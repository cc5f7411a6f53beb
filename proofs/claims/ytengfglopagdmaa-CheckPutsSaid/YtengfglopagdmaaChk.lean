/- Checkpoints as bytes, and the checkpoint of bytes: no code is run here. -/
import Derived.Test.YtengfglopagdmaaSlice
namespace Go.Proofs.Ytengfglopagdmaa
open Go.RowKit Go.Cor

/-- A position. -/
structure Pos where
  key : Nat
  off : Int
  len : Int
  cookie : Nat
  gone : Bool

theorem Pos.ext' {a b : Pos} (h1 : a.key = b.key) (h2 : a.off = b.off) (h3 : a.len = b.len) (h4 : a.cookie = b.cookie) (h5 : a.gone = b.gone) : a = b := by
  cases a
  cases b
  simp_all
instance instDecPos : DecidableEq Pos := fun a b => decidable_of_iff (a.key = b.key ∧ a.off = b.off ∧ a.len = b.len ∧ a.cookie = b.cookie ∧ a.gone = b.gone)
  ⟨fun h => Pos.ext' h.1 h.2.1 h.2.2.1 h.2.2.2.1 h.2.2.2.2, fun h => by subst h; exact ⟨rfl, rfl, rfl, rfl, rfl⟩⟩

/-- Its numbers fit. -/
def Pos.fits (p : Pos) : Prop := p.key < 18446744073709551616 ∧ p.cookie < 4294967296 ∧ (-9223372036854775808 ≤ p.off ∧ p.off ≤ 9223372036854775807) ∧ (-9223372036854775808 ≤ p.len ∧ p.len ≤ 9223372036854775807)
/-- May it be, its key aside? -/
def pcan (p : Pos) : Bool := decide (0 ≤ p.off ∧ p.off ≤ 16777216 ∧ 0 ≤ p.len ∧ p.len ≤ 4096 ∧ (p.gone = true → p.len = 0))
def pzero : Pos := ⟨0, 0, 0, 0, false⟩
/-- The position at a place. -/
abbrev pat (ps : List Pos) (i : Nat) : Pos := ps.getD i pzero
/-- Does its key stand right? -/
def kOk (ps : List Pos) (i : Nat) : Bool := decide (i = 0 ∨ (pat ps (i - 1)).key < (pat ps i).key)
def pOk (ps : List Pos) (i : Nat) : Bool := pcan (pat ps i) && kOk ps i
def lOk (ps : List Pos) : Bool := (List.range ps.length).all (pOk ps)
def hOk (v g u : Int) : Bool := decide (1 ≤ v ∧ v ≤ 65535 ∧ 1 ≤ g ∧ g ≤ 2147483647 ∧ 0 ≤ u ∧ u ≤ 16777216)
/-- A checkpoint. -/
structure Chk where
  vol : Int
  gen : Int
  upto : Int
  l : List Pos
/-- Why it may not be. -/
def cright (c : Chk) : Nat := if 4096 < c.l.length then 2 else if hOk c.vol c.gen c.upto = false then 1 else if lOk c.l = false then 1 else 0

theorem pat_of {ps : List Pos} {i : Nat} {p : Pos} (h : ps[i]? = some p) : pat ps i = p := by simp [pat, List.getD_eq_getElem?_getD, h]
theorem get_pat {ps : List Pos} {i : Nat} (h : i < ps.length) : ps[i]? = some (pat ps i) := by simp [pat, List.getD_eq_getElem?_getD, List.getElem?_eq_getElem h]
theorem lOk_at {ps : List Pos} (h : lOk ps = true) {i : Nat} (hi : i < ps.length) : pOk ps i = true := by
  unfold lOk at h
  rw [List.all_eq_true] at h
  exact h i (by simpa using hi)
theorem lOk_of {ps : List Pos} (h : ∀ i, i < ps.length → pOk ps i = true) : lOk ps = true := by
  unfold lOk
  rw [List.all_eq_true]
  intro i hi
  exact h i (by simpa using hi)
theorem lOk_no {ps : List Pos} {i : Nat} (hi : i < ps.length) (h : pOk ps i = false) : lOk ps = false := by
  cases hl : lOk ps with
  | false => rfl
  | true =>
    have := lOk_at hl hi
    rw [h] at this
    cases this
theorem cright_le (c : Chk) : cright c ≤ 2 := by
  unfold cright
  repeat' split
  all_goals omega
theorem cright_ok {c : Chk} (h : cright c = 0) : c.l.length ≤ 4096 ∧ hOk c.vol c.gen c.upto = true ∧ lOk c.l = true := by
  unfold cright at h
  split at h
  · omega
  · split at h
    · omega
    · split at h
      · omega
      · rename_i h1 h2 h3
        exact ⟨by omega, by simpa using h2, by simpa using h3⟩
theorem cright_of {c : Chk} (h1 : c.l.length ≤ 4096) (h2 : hOk c.vol c.gen c.upto = true) (h3 : lOk c.l = true) : cright c = 0 := by
  unfold cright
  rw [if_neg (by omega), if_neg (by simp [h2]), if_neg (by simp [h3])]
theorem cright_long {c : Chk} (h1 : 4096 < c.l.length) : cright c = 2 := if_pos h1
theorem cright_head {c : Chk} (h1 : c.l.length ≤ 4096) (h2 : hOk c.vol c.gen c.upto = false) : cright c = 1 := by
  unfold cright
  rw [if_neg (by omega), if_pos h2]
theorem cright_list {c : Chk} (h1 : c.l.length ≤ 4096) (h3 : lOk c.l = false) : cright c = 1 := by
  unfold cright
  rw [if_neg (by omega), if_pos h3]
  exact ite_self _

/-- A position's bytes. -/
def pbytes (p : Pos) : List UInt8 := le p.key 8 ++ le p.off.toNat 4 ++ le p.len.toNat 4 ++ le p.cookie 4 ++ le (flagN p.gone) 4
def catP : List Pos → List UInt8
  | [] => []
  | p :: r => pbytes p ++ catP r
def chead (c : Chk) : List UInt8 := le 1128811344 4 ++ le c.vol.toNat 4 ++ le c.gen.toNat 4 ++ le c.upto.toNat 4 ++ le c.l.length 4
def cbody (c : Chk) : List UInt8 := chead c ++ catP c.l
/-- A checkpoint's bytes. -/
def cbytes (c : Chk) : List UInt8 := sealed (cbody c)

theorem length_pbytes (p : Pos) : (pbytes p).length = 24 := by simp [pbytes, length_le]
theorem length_chead (c : Chk) : (chead c).length = 20 := by simp [chead, length_le]
theorem catP_append (a b : List Pos) : catP (a ++ b) = catP a ++ catP b := by
  induction a with
  | nil => rfl
  | cons n r ih => simp [catP, ih, List.append_assoc]
theorem length_catP (ps : List Pos) : (catP ps).length = 24 * ps.length := by
  induction ps with
  | nil => rfl
  | cons n r ih =>
    simp only [catP, List.length_append, length_pbytes, ih, List.length_cons]
    omega
theorem length_cbytes (c : Chk) : (cbytes c).length = 24 + 24 * c.l.length := by
  unfold cbytes cbody
  rw [length_sealed, List.length_append, length_chead, length_catP]
  omega
theorem take_snoc {ps : List Pos} {i : Nat} (h : i < ps.length) : ps.take (i + 1) = ps.take i ++ [pat ps i] := by
  rw [List.take_add_one, get_pat h]
  rfl
theorem catP_take {ps : List Pos} {i : Nat} (h : i < ps.length) : catP (ps.take (i + 1)) = catP (ps.take i) ++ pbytes (pat ps i) := by
  rw [take_snoc h, catP_append]
  simp [catP]
theorem catP_split {ps : List Pos} {i : Nat} (h : i < ps.length) : catP ps = catP (ps.take i) ++ pbytes (pat ps i) ++ catP (ps.drop (i + 1)) := by
  rw [← catP_take h, ← catP_append, List.take_append_drop]

theorem fld_mid (p l q : List UInt8) {a b k : Nat} (ha : a = p.length + b) (h : b + k ≤ l.length) : fld (p ++ l ++ q) a k = fld l b k := by
  subst ha
  unfold fld
  rw [List.append_assoc, List.drop_append, List.drop_eq_nil_of_le (by omega), List.nil_append, Nat.add_sub_cancel_left, List.drop_append_of_le_length (by omega), List.take_append_of_le_length (by simp; omega)]
theorem fld_le (p q : List UInt8) {n a k : Nat} (ha : p.length = a) (h : n < 256 ^ k) : fld (p ++ le n k ++ q) a k = n := by
  rw [fld_append p (le n k) q ha (length_le n k), num_le, Nat.mod_eq_of_lt h]

/-- What may be fits in its bytes. -/
theorem pcan_fits {p : Pos} (h : pcan p = true) : 0 ≤ p.off ∧ p.off ≤ 16777216 ∧ 0 ≤ p.len ∧ p.len ≤ 4096 ∧ (p.gone = true → p.len = 0) := of_decide_eq_true h
theorem hOk_fits {v g u : Int} (h : hOk v g u = true) : 1 ≤ v ∧ v ≤ 65535 ∧ 1 ≤ g ∧ g ≤ 2147483647 ∧ 0 ≤ u ∧ u ≤ 16777216 := of_decide_eq_true h
theorem flagN_lt (g : Bool) : flagN g ≤ 1 := by cases g <;> decide
theorem pbytes_flds {p : Pos} (hf : p.fits) (h : pcan p = true) : fld (pbytes p) 0 8 = p.key ∧ fld (pbytes p) 8 4 = p.off.toNat ∧ fld (pbytes p) 12 4 = p.len.toNat ∧ fld (pbytes p) 16 4 = p.cookie ∧ fld (pbytes p) 20 4 = flagN p.gone := by
  have hk := hf.1
  have hc := hf.2.1
  have hp := pcan_fits h
  have hg := flagN_lt p.gone
  unfold pbytes
  refine ⟨?_, ?_, ?_, ?_, ?_⟩
  · rw [List.append_assoc, List.append_assoc, List.append_assoc]
    have := fld_le [] (le p.off.toNat 4 ++ (le p.len.toNat 4 ++ (le p.cookie 4 ++ le (flagN p.gone) 4))) (n := p.key) (a := 0) (k := 8) rfl (by omega)
    simpa using this
  · rw [List.append_assoc, List.append_assoc]
    exact fld_le _ _ (by simp [length_le]) (by omega)
  · rw [List.append_assoc]
    exact fld_le _ _ (by simp [length_le]) (by omega)
  · exact fld_le _ _ (by simp [length_le]) (by omega)
  · have := fld_le (le p.key 8 ++ le p.off.toNat 4 ++ le p.len.toNat 4 ++ le p.cookie 4) [] (n := flagN p.gone) (a := 20) (k := 4) (by simp [length_le]) (by omega)
    simpa using this
theorem chead_flds {c : Chk} (h1 : c.l.length ≤ 4096) (h : hOk c.vol c.gen c.upto = true) : fld (chead c) 0 4 = 1128811344 ∧ fld (chead c) 4 4 = c.vol.toNat ∧ fld (chead c) 8 4 = c.gen.toNat ∧ fld (chead c) 12 4 = c.upto.toNat ∧ fld (chead c) 16 4 = c.l.length := by
  have hp := hOk_fits h
  unfold chead
  refine ⟨?_, ?_, ?_, ?_, ?_⟩
  · rw [List.append_assoc, List.append_assoc, List.append_assoc]
    have := fld_le [] (le c.vol.toNat 4 ++ (le c.gen.toNat 4 ++ (le c.upto.toNat 4 ++ le c.l.length 4))) (n := 1128811344) (a := 0) (k := 4) rfl (by omega)
    simpa using this
  · rw [List.append_assoc, List.append_assoc]
    exact fld_le _ _ (by simp [length_le]) (by omega)
  · rw [List.append_assoc]
    exact fld_le _ _ (by simp [length_le]) (by omega)
  · exact fld_le _ _ (by simp [length_le]) (by omega)
  · have := fld_le (le 1128811344 4 ++ le c.vol.toNat 4 ++ le c.gen.toNat 4 ++ le c.upto.toNat 4) [] (n := c.l.length) (a := 16) (k := 4) (by simp [length_le]) (by omega)
    simpa using this

/-- What stands in bytes. -/
def cnt (l : List UInt8) : Nat := fld l 16 4
def rowG (l : List UInt8) (i : Nat) : Nat := fld l (40 + 24 * i) 4
def rowP (l : List UInt8) (i : Nat) : Pos := ⟨fld l (20 + 24 * i) 8, (fld l (28 + 24 * i) 4 : Nat), (fld l (32 + 24 * i) 4 : Nat), fld l (36 + 24 * i) 4, decide (rowG l i = 1)⟩
def rowsP (l : List UInt8) (n : Nat) : List Pos := (List.range n).map (rowP l)
def getC (l : List UInt8) : Chk := ⟨(fld l 4 4 : Nat), (fld l 8 4 : Nat), (fld l 12 4 : Nat), rowsP l (cnt l)⟩
def gAll (l : List UInt8) : Bool := (List.range (cnt l)).all fun i => decide (rowG l i ≤ 1)
instance instDecSum (l : List UInt8) : Decidable (sumOk l) := inferInstanceAs (Decidable (_ = _))
/-- What is wrong with what stands ahead, or with how many bytes there are. -/
def sizedK (l : List UInt8) : Nat :=
  if l.length < 24 then 3 else if fld l 0 4 ≠ 1128811344 ∨ 4096 < cnt l then 4 else if l.length < 24 + 24 * cnt l then 3 else if 24 + 24 * cnt l < l.length then 4 else 0
/-- What is wrong. -/
def getK (l : List UInt8) : Nat :=
  if sizedK l ≠ 0 then sizedK l else if ¬ sumOk l then 5 else if gAll l = false then 4 else if cright (getC l) ≠ 0 then 4 else 0
def czero : Chk := ⟨0, 0, 0, []⟩
/-- The checkpoint of bytes. -/
def resC (l : List UInt8) : Chk := if getK l = 0 then getC l else czero
theorem resC_ok {l : List UInt8} (h : getK l = 0) : resC l = getC l := if_pos h
theorem resC_no {l : List UInt8} (h : getK l ≠ 0) : resC l = czero := if_neg h
theorem length_rowsP (l : List UInt8) (n : Nat) : (rowsP l n).length = n := by simp [rowsP]
theorem rowsP_snoc (l : List UInt8) (n : Nat) : rowsP l (n + 1) = rowsP l n ++ [rowP l n] := by simp [rowsP, List.range_succ]
theorem pat_rowsP {l : List UInt8} {n i : Nat} (h : i < n) : pat (rowsP l n) i = rowP l i := by
  apply pat_of
  simp [rowsP, h]
theorem rowP_fits (l : List UInt8) (i : Nat) : (rowP l i).fits := by
  have a := fld8_lt l (20 + 24 * i)
  have b := fld4_lt l (28 + 24 * i)
  have c := fld4_lt l (32 + 24 * i)
  have d := fld4_lt l (36 + 24 * i)
  refine ⟨a, d, ⟨?_, ?_⟩, ?_, ?_⟩ <;> simp only [rowP] <;> omega

theorem sizedK_short {l : List UInt8} (h : l.length < 24) : sizedK l = 3 := if_pos h
theorem sizedK_form {l : List UInt8} (h : 24 ≤ l.length) (h2 : fld l 0 4 ≠ 1128811344 ∨ 4096 < cnt l) : sizedK l = 4 := by
  unfold sizedK
  rw [if_neg (by omega), if_pos h2]
theorem sizedK_rest {l : List UInt8} (h : 24 ≤ l.length) (h1 : fld l 0 4 = 1128811344) (h2 : cnt l ≤ 4096) : sizedK l = if l.length < 24 + 24 * cnt l then 3 else if 24 + 24 * cnt l < l.length then 4 else 0 := by
  unfold sizedK
  rw [if_neg (by omega), if_neg (by omega)]
theorem sizedK_ok {l : List UInt8} (h : sizedK l = 0) : 24 ≤ l.length ∧ fld l 0 4 = 1128811344 ∧ cnt l ≤ 4096 ∧ l.length = 24 + 24 * cnt l := by
  unfold sizedK at h
  split at h
  · omega
  · split at h
    · omega
    · split at h
      · omega
      · split at h
        · omega
        · omega
theorem sizedK_cases (l : List UInt8) : sizedK l = 0 ∨ sizedK l = 3 ∨ sizedK l = 4 := by
  unfold sizedK
  repeat' split
  all_goals omega
theorem getK_sized {l : List UInt8} (h : sizedK l ≠ 0) : getK l = sizedK l := if_pos h
theorem getK_sum {l : List UInt8} (h : sizedK l = 0) (h2 : ¬ sumOk l) : getK l = 5 := by
  unfold getK
  rw [if_neg (by omega), if_pos h2]
theorem getK_gone {l : List UInt8} (h : sizedK l = 0) (h2 : sumOk l) (h3 : gAll l = false) : getK l = 4 := by
  unfold getK
  rw [if_neg (by omega), if_neg (by simp [h2]), if_pos h3]
theorem getK_right {l : List UInt8} (h : sizedK l = 0) (h2 : sumOk l) (h3 : gAll l = true) (h4 : cright (getC l) ≠ 0) : getK l = 4 := by
  unfold getK
  rw [if_neg (by omega), if_neg (by simp [h2]), if_neg (by simp [h3]), if_pos h4]
theorem getK_ok {l : List UInt8} (h : sizedK l = 0) (h2 : sumOk l) (h3 : gAll l = true) (h4 : cright (getC l) = 0) : getK l = 0 := by
  unfold getK
  rw [if_neg (by omega), if_neg (by simp [h2]), if_neg (by simp [h3]), if_neg (by simp [h4])]
theorem getK_cases (l : List UInt8) : getK l = 0 ∨ getK l = 3 ∨ getK l = 4 ∨ getK l = 5 := by
  have := sizedK_cases l
  unfold getK
  repeat' split
  all_goals omega
theorem getK_zero {l : List UInt8} (h : getK l = 0) : sizedK l = 0 ∧ sumOk l ∧ gAll l = true ∧ cright (getC l) = 0 := by
  by_cases h1 : sizedK l = 0
  · by_cases h2 : sumOk l
    · cases h3 : gAll l with
      | false => rw [getK_gone h1 h2 h3] at h; omega
      | true =>
        by_cases h4 : cright (getC l) = 0
        · exact ⟨h1, h2, rfl, h4⟩
        · rw [getK_right h1 h2 h3 h4] at h; omega
    · rw [getK_sum h1 h2] at h; omega
  · rw [getK_sized h1] at h; omega
theorem gAll_at {l : List UInt8} (h : gAll l = true) {i : Nat} (hi : i < cnt l) : rowG l i ≤ 1 := by
  unfold gAll at h
  rw [List.all_eq_true] at h
  exact of_decide_eq_true (h i (by simpa using hi))
theorem gAll_of {l : List UInt8} (h : ∀ i, i < cnt l → rowG l i ≤ 1) : gAll l = true := by
  unfold gAll
  rw [List.all_eq_true]
  intro i hi
  exact decide_eq_true (h i (by simpa using hi))
theorem gAll_no {l : List UInt8} {i : Nat} (hi : i < cnt l) (h : 1 < rowG l i) : gAll l = false := by
  cases hl : gAll l with
  | false => rfl
  | true =>
    have := gAll_at hl hi
    omega

/-- The numbers ahead, from the front of a checkpoint's bytes. -/
theorem front_flds {c : Chk} (h : cright c = 0) {l : List UInt8} (hl : l.take 20 = chead c) : fld l 0 4 = 1128811344 ∧ fld l 4 4 = c.vol.toNat ∧ fld l 8 4 = c.gen.toNat ∧ fld l 12 4 = c.upto.toNat ∧ fld l 16 4 = c.l.length := by
  obtain ⟨h1, h2, h3⟩ := cright_ok h
  have e := chead_flds h1 h2
  rw [← hl] at e
  rw [fld_take l (by decide), fld_take l (by decide), fld_take l (by decide), fld_take l (by decide), fld_take l (by decide)] at e
  exact e
theorem cbytes_take (c : Chk) (r : List UInt8) : (cbytes c ++ r).take 20 = chead c := by
  unfold cbytes cbody sealed
  rw [List.append_assoc, List.append_assoc]
  exact List.take_left' (length_chead c)
/-- What is put is got. -/
theorem get_put {c : Chk} (hf : ∀ p ∈ c.l, p.fits) (h : cright c = 0) : getK (cbytes c) = 0 ∧ getC (cbytes c) = c := by
  obtain ⟨h1, h2, h3⟩ := cright_ok h
  have hh := hOk_fits h2
  have ht := cbytes_take c []
  rw [List.append_nil] at ht
  obtain ⟨e0, e1, e2, e3, e4⟩ := front_flds h ht
  have hlen := length_cbytes c
  have hc : cnt (cbytes c) = c.l.length := e4
  have hs : sizedK (cbytes c) = 0 := by
    rw [sizedK_rest (by omega) e0 (by omega), if_neg (by omega), if_neg (by omega)]
  have row : ∀ i, i < c.l.length → ∀ b k, b + k ≤ 24 → fld (cbytes c) (20 + 24 * i + b) k = fld (pbytes (pat c.l i)) b k := by
    intro i hi b k hb
    unfold cbytes cbody sealed
    rw [catP_split hi]
    rw [← List.append_assoc, ← List.append_assoc, List.append_assoc (chead c ++ catP (c.l.take i) ++ pbytes (pat c.l i))]
    refine fld_mid _ _ _ ?_ (by rw [length_pbytes]; omega)
    rw [List.length_append, length_chead, length_catP, List.length_take]
    omega
  have each : ∀ i, i < c.l.length → rowG (cbytes c) i = flagN (pat c.l i).gone ∧ rowP (cbytes c) i = pat c.l i := by
    intro i hi
    have hpo := lOk_at h3 hi
    unfold pOk at hpo
    rw [Bool.and_eq_true] at hpo
    have hpc := pcan_fits hpo.1
    have hpf : (pat c.l i).fits := hf _ (List.mem_of_getElem? (get_pat hi))
    obtain ⟨f0, f1, f2, f3, f4⟩ := pbytes_flds hpf hpo.1
    have g0 := row i hi 0 8 (by omega)
    have g1 := row i hi 8 4 (by omega)
    have g2 := row i hi 12 4 (by omega)
    have g3 := row i hi 16 4 (by omega)
    have g4 := row i hi 20 4 (by omega)
    have g4' : rowG (cbytes c) i = flagN (pat c.l i).gone := by
      unfold rowG
      rw [show 40 + 24 * i = 20 + 24 * i + 20 from by omega, g4, f4]
    refine ⟨g4', ?_⟩
    apply Pos.ext'
    · show fld _ _ _ = _
      rw [show 20 + 24 * i = 20 + 24 * i + 0 from rfl, g0, f0]
    · show ((fld _ _ _ : Nat) : Int) = _
      rw [show 28 + 24 * i = 20 + 24 * i + 8 from by omega, g1, f1]
      omega
    · show ((fld _ _ _ : Nat) : Int) = _
      rw [show 32 + 24 * i = 20 + 24 * i + 12 from by omega, g2, f2]
      omega
    · show fld _ _ _ = _
      rw [show 36 + 24 * i = 20 + 24 * i + 16 from by omega, g3, f3]
    · show decide _ = _
      rw [g4']
      cases (pat c.l i).gone <;> decide
  have hrows : rowsP (cbytes c) (cnt (cbytes c)) = c.l := by
    rw [hc]
    apply List.ext_getElem?
    intro i
    by_cases hi : i < c.l.length
    · rw [get_pat hi, ← (each i hi).2]
      simp [rowsP, hi]
    · rw [List.getElem?_eq_none (by rw [length_rowsP]; omega), List.getElem?_eq_none (by omega)]
  have hC : getC (cbytes c) = c := by
    have : getC (cbytes c) = ⟨(fld (cbytes c) 4 4 : Nat), (fld (cbytes c) 8 4 : Nat), (fld (cbytes c) 12 4 : Nat), rowsP (cbytes c) (cnt (cbytes c))⟩ := rfl
    rw [this, hrows, e1, e2, e3]
    cases c
    simp only [Chk.mk.injEq, and_true]
    simp only at hh
    omega
  refine ⟨getK_ok hs (sealed_ok _) (gAll_of fun i hi => ?_) (by rw [hC]; exact h), hC⟩
  rw [hc] at hi
  rw [(each i hi).1]
  exact flagN_lt _
/-- Cut, it isn't one. -/
theorem get_cut {c : Chk} (h : cright c = 0) {j : Nat} (hj : j < (cbytes c).length) : getK ((cbytes c).take j) = 3 := by
  obtain ⟨h1, h2, h3⟩ := cright_ok h
  have hlen := length_cbytes c
  have hl : ((cbytes c).take j).length = j := by rw [List.length_take]; omega
  have key : sizedK ((cbytes c).take j) = 3 := by
    by_cases h24 : j < 24
    · exact sizedK_short (by omega)
    · have ht := cbytes_take c []
      rw [List.append_nil] at ht
      have ht' : ((cbytes c).take j).take 20 = chead c := by rw [List.take_take, Nat.min_eq_left (by omega), ht]
      obtain ⟨e0, e1, e2, e3, e4⟩ := front_flds h ht'
      have hc : cnt ((cbytes c).take j) = c.l.length := e4
      rw [sizedK_rest (by omega) e0 (by omega), if_pos (by omega)]
  rw [getK_sized (by omega), key]
/-- Nor with one byte more. -/
theorem get_more {c : Chk} (h : cright c = 0) (x : UInt8) : getK (cbytes c ++ [x]) = 4 := by
  obtain ⟨h1, h2, h3⟩ := cright_ok h
  have hlen := length_cbytes c
  obtain ⟨e0, e1, e2, e3, e4⟩ := front_flds h (cbytes_take c [x])
  have hc : cnt (cbytes c ++ [x]) = c.l.length := e4
  have hl : (cbytes c ++ [x]).length = (cbytes c).length + 1 := by simp
  have key : sizedK (cbytes c ++ [x]) = 4 := by
    rw [sizedK_rest (by omega) e0 (by omega), if_neg (by omega), if_pos (by omega)]
  rw [getK_sized (by omega), key]
/-- Nor with one byte turned. -/
theorem get_turned {c : Chk} {l : List UInt8} (h : ¬ sumOk l) : 3 ≤ getK l ∧ getK l ≤ 5 ∧ resC l = czero := by
  have h0 : getK l ≠ 0 := fun e => h (getK_zero e).2.1
  have := getK_cases l
  exact ⟨by omega, by omega, resC_no h0⟩

end Go.Proofs.Ytengfglopagdmaa
