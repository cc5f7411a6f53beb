/- Messages as plain values, their bytes, and the message of any bytes (layer 14). Of no program. -/
import Derived.Test.YtncfdkkekaninaaNdl
set_option linter.unusedVariables false
set_option linter.unusedSimpArgs false
namespace Go.Cor

structure Msg where
  fr : Int
  to : Int
  kd : Int
  vo : Int
  li : Int
  id : Nat
  co : Int
  has : Bool
  n : Ndl
def nz : Ndl := ⟨0, 0, false, []⟩
def mz : Msg := ⟨0, 0, 0, 0, 0, 0, 0, false, nz⟩
theorem Msg.ext' {a b : Msg} (h1 : a.fr = b.fr) (h2 : a.to = b.to) (h3 : a.kd = b.kd) (h4 : a.vo = b.vo) (h5 : a.li = b.li) (h6 : a.id = b.id) (h7 : a.co = b.co) (h8 : a.has = b.has) (h9 : a.n = b.n) : a = b := by
  cases a
  cases b
  simp_all
/-- Its fields are as they may be. -/
def Msg.good (m : Msg) : Prop := 0 ≤ m.fr ∧ m.fr ≤ 255 ∧ 0 ≤ m.to ∧ m.to ≤ 255 ∧ 0 ≤ m.co ∧ m.co ≤ 255 ∧ 1 ≤ m.kd ∧ m.kd ≤ 5 ∧ (m.kd < 5 → m.co = 0) ∧ 1 ≤ m.vo ∧ m.vo ≤ 65535 ∧ 0 ≤ m.li ∧ m.li ≤ 2147483647
instance (m : Msg) : Decidable m.good := by unfold Msg.good; infer_instance
/-- Why it may not be. -/
def mcheck (m : Msg) : Nat := if ¬ m.good then 1 else if m.has = true then ncheck m.n else if sameN m.n nz = true then 0 else 1
theorem mcheck_le (m : Msg) : mcheck m ≤ 2 := by
  have := ncheck_le m.n
  unfold mcheck
  split
  · omega
  · split
    · exact this
    · split <;> omega
theorem mcheck_ok {m : Msg} (h : mcheck m = 0) : m.good ∧ (m.has = true → ncheck m.n = 0) ∧ (m.has = false → m.n = nz) := by
  unfold mcheck at h
  split at h
  · omega
  · rename_i h1
    refine ⟨Decidable.not_not.1 h1, fun h2 => by rw [if_pos h2] at h; exact h, fun h2 => ?_⟩
    rw [if_neg (by rw [h2]; simp)] at h
    split at h
    · rename_i h3; exact (sameN_eq _ _).1 h3
    · omega
def sameM (a b : Msg) : Bool := decide (a.fr = b.fr ∧ a.to = b.to ∧ a.kd = b.kd ∧ a.vo = b.vo ∧ a.li = b.li ∧ a.id = b.id ∧ a.co = b.co ∧ a.has = b.has) && sameN a.n b.n
theorem sameM_eq (a b : Msg) : sameM a b = true ↔ a = b := by
  unfold sameM
  rw [Bool.and_eq_true, decide_eq_true_iff, sameN_eq]
  constructor
  · rintro ⟨⟨h1, h2, h3, h4, h5, h6, h7, h8⟩, h9⟩
    exact Msg.ext' h1 h2 h3 h4 h5 h6 h7 h8 h9
  · rintro rfl
    exact ⟨⟨rfl, rfl, rfl, rfl, rfl, rfl, rfl, rfl⟩, rfl⟩
/-- Its bytes but the sum. -/
def mhead (m : Msg) : List UInt8 := [UInt8.ofNat m.fr.toNat, UInt8.ofNat m.to.toNat, UInt8.ofNat m.kd.toNat, UInt8.ofNat m.co.toNat] ++ le m.vo.toNat 4 ++ le m.li.toNat 4 ++ le m.id 8 ++ le (flagN m.has) 4
def mbody (m : Msg) : List UInt8 := mhead m ++ (if m.has = true then nbytes m.n else [])
def mbytes (m : Msg) : List UInt8 := mbody m ++ le (crc (mbody m)) 4
theorem length_mhead (m : Msg) : (mhead m).length = 24 := by simp [mhead, length_le]
theorem length_mbody (m : Msg) : (mbody m).length = 24 + (if m.has = true then (nbytes m.n).length else 0) := by
  unfold mbody
  rw [List.length_append, length_mhead]
  split <;> rfl
theorem length_mbytes (m : Msg) : (mbytes m).length = (mbody m).length + 4 := by unfold mbytes; rw [List.length_append, length_le]
/-- Does the sum fit? -/
def msum (l : List UInt8) : Bool := decide (fld l (l.length - 4) 4 = crc (l.take (l.length - 4)))
/-- The message of bytes but the sum. -/
def mget (b : List UInt8) : Msg := ⟨((b.getD 0 0).toNat : Int), ((b.getD 1 0).toNat : Int), ((b.getD 2 0).toNat : Int), (fld b 4 4 : Int), (fld b 8 4 : Int), fld b 12 8, ((b.getD 3 0).toNat : Int), decide (fld b 20 4 = 1), if fld b 20 4 = 1 then getN (b.drop 24) else nz⟩
/-- Is there one in bytes but the sum? -/
def mform (b : List UInt8) : Bool := decide (fld b 20 4 ≤ 1 ∧ (fld b 20 4 = 1 → getCode (b.drop 24) = 0 ∧ 24 + total (b.drop 24) = b.length) ∧ (fld b 20 4 = 0 → b.length = 24) ∧ mcheck (mget b) = 0)
/-- Why bytes are no message. -/
def mcode (l : List UInt8) : Nat := if l.length < 28 then 3 else if msum l = false then 5 else if mform (l.take (l.length - 4)) = false then 4 else 0
def mread (l : List UInt8) : Msg := if mcode l = 0 then mget (l.take (l.length - 4)) else mz
theorem mread_len (l : List UInt8) : (mread l).n.data.length ≤ l.length := by
  unfold mread
  split
  · show (if fld (l.take (l.length - 4)) 20 4 = 1 then getN ((l.take (l.length - 4)).drop 24) else nz).data.length ≤ _
    split
    · show (dataOf ((l.take (l.length - 4)).drop 24)).length ≤ _
      unfold dataOf
      rw [List.length_take, List.length_drop, List.length_drop, List.length_take]
      omega
    · exact Nat.zero_le _
  · exact Nat.zero_le _
theorem mcode_le (l : List UInt8) : mcode l ≤ 5 := by
  unfold mcode
  split
  · omega
  · split
    · omega
    · split <;> omega

theorem fldm_le (p q : List UInt8) {n a k : Nat} (ha : p.length = a) (h : n < 256 ^ k) : fld (p ++ le n k ++ q) a k = n := by
  rw [fld_append p (le n k) q ha (length_le n k), num_le, Nat.mod_eq_of_lt h]
theorem byte_int {z : Int} (h : 0 ≤ z) (h2 : z ≤ 255) : ((UInt8.ofNat z.toNat).toNat : Int) = z := by
  rw [UInt8.toNat_ofNat', Nat.mod_eq_of_lt (by omega)]
  omega
/-- What the head of a message tells. -/
theorem mhead_flds {m : Msg} (hg : m.good) (hid : m.id < 18446744073709551616) (q : List UInt8) :
    (((mhead m ++ q).getD 0 0).toNat : Int) = m.fr ∧ (((mhead m ++ q).getD 1 0).toNat : Int) = m.to ∧ (((mhead m ++ q).getD 2 0).toNat : Int) = m.kd ∧ (((mhead m ++ q).getD 3 0).toNat : Int) = m.co ∧ (fld (mhead m ++ q) 4 4 : Int) = m.vo ∧ (fld (mhead m ++ q) 8 4 : Int) = m.li ∧ fld (mhead m ++ q) 12 8 = m.id ∧ fld (mhead m ++ q) 20 4 = flagN m.has := by
  obtain ⟨g1, g2, g3, g4, g5, g6, g7, g8, g9, g10, g11, g12, g13⟩ := hg
  have hfl : flagN m.has < 256 ^ 4 := by unfold flagN; split <;> decide
  refine ⟨?_, ?_, ?_, ?_, ?_, ?_, ?_, ?_⟩
  · have : (mhead m ++ q).getD 0 0 = UInt8.ofNat m.fr.toNat := rfl
    rw [this]; exact byte_int g1 g2
  · have : (mhead m ++ q).getD 1 0 = UInt8.ofNat m.to.toNat := rfl
    rw [this]; exact byte_int g3 g4
  · have : (mhead m ++ q).getD 2 0 = UInt8.ofNat m.kd.toNat := rfl
    rw [this]; exact byte_int (by omega) (by omega)
  · have : (mhead m ++ q).getD 3 0 = UInt8.ofNat m.co.toNat := rfl
    rw [this]; exact byte_int g5 g6
  · have := fldm_le [UInt8.ofNat m.fr.toNat, UInt8.ofNat m.to.toNat, UInt8.ofNat m.kd.toNat, UInt8.ofNat m.co.toNat] (le m.li.toNat 4 ++ le m.id 8 ++ le (flagN m.has) 4 ++ q) (n := m.vo.toNat) (a := 4) (k := 4) rfl (by omega)
    have e : fld (mhead m ++ q) 4 4 = m.vo.toNat := by simpa [mhead, List.append_assoc] using this
    rw [e]; omega
  · have := fldm_le ([UInt8.ofNat m.fr.toNat, UInt8.ofNat m.to.toNat, UInt8.ofNat m.kd.toNat, UInt8.ofNat m.co.toNat] ++ le m.vo.toNat 4) (le m.id 8 ++ le (flagN m.has) 4 ++ q) (n := m.li.toNat) (a := 8) (k := 4) (by simp [length_le]) (by omega)
    have e : fld (mhead m ++ q) 8 4 = m.li.toNat := by simpa [mhead, List.append_assoc] using this
    rw [e]; omega
  · have := fldm_le ([UInt8.ofNat m.fr.toNat, UInt8.ofNat m.to.toNat, UInt8.ofNat m.kd.toNat, UInt8.ofNat m.co.toNat] ++ le m.vo.toNat 4 ++ le m.li.toNat 4) (le (flagN m.has) 4 ++ q) (n := m.id) (a := 12) (k := 8) (by simp [length_le]) (by exact hid)
    simpa [mhead, List.append_assoc] using this
  · have := fldm_le ([UInt8.ofNat m.fr.toNat, UInt8.ofNat m.to.toNat, UInt8.ofNat m.kd.toNat, UInt8.ofNat m.co.toNat] ++ le m.vo.toNat 4 ++ le m.li.toNat 4 ++ le m.id 8) q (n := flagN m.has) (a := 20) (k := 4) (by simp [length_le]) hfl
    simpa [mhead, List.append_assoc] using this
/-- What is written is there. -/
theorem mget_body {m : Msg} (hc : mcheck m = 0) (hf : m.n.fits) (hid : m.id < 18446744073709551616) : mget (mbody m) = m ∧ mform (mbody m) = true := by
  obtain ⟨hg, hn1, hn2⟩ := mcheck_ok hc
  obtain ⟨f0, f1, f2, f3, f4, f5, f6, f7⟩ := mhead_flds hg hid (if m.has = true then nbytes m.n else [])
  have hd : (mbody m).drop 24 = if m.has = true then nbytes m.n else [] := by unfold mbody; exact List.drop_left' (length_mhead m)
  have hL := length_mbody m
  have e : mget (mbody m) = m := by
    unfold mget
    rw [hd]
    unfold mbody
    refine Msg.ext' f0 f1 f2 f4 f5 f6 f3 ?_ ?_
    · show decide (fld _ 20 4 = 1) = m.has
      rw [f7]; cases m.has <;> rfl
    · show (if fld _ 20 4 = 1 then _ else nz) = m.n
      rw [f7]
      cases hh : m.has with
      | true =>
        rw [if_pos rfl, if_pos (show flagN true = 1 from rfl)]
        have := (get_put hf (hn1 hh) []).2.1
        rwa [List.append_nil] at this
      | false => rw [if_neg (by decide)]; exact (hn2 hh).symm
  refine ⟨e, decide_eq_true ?_⟩
  rw [e, hd]
  have f7' : fld (mbody m) 20 4 = flagN m.has := f7
  rw [f7']
  refine ⟨by cases m.has <;> decide, fun h1 => ?_, fun h0 => ?_, hc⟩
  · cases hh : m.has with
    | true =>
      rw [hh] at hL
      have h3 := get_put hf (hn1 hh) []
      rw [List.append_nil] at h3
      rw [if_pos rfl] at hL ⊢
      exact ⟨h3.1, by rw [h3.2.2, hL]⟩
    | false => rw [hh] at h1; cases h1
  · cases hh : m.has with
    | true => rw [hh] at h0; cases h0
    | false => rw [hh] at hL; exact hL
theorem take_body (m : Msg) : (mbytes m).take ((mbytes m).length - 4) = mbody m := by
  rw [length_mbytes, Nat.add_sub_cancel]
  unfold mbytes
  exact List.take_left' rfl
theorem msum_bytes (m : Msg) : msum (mbytes m) = true := by
  refine decide_eq_true ?_
  rw [take_body, length_mbytes, Nat.add_sub_cancel]
  have := fldm_le (mbody m) [] (n := crc (mbody m)) (a := (mbody m).length) (k := 4) rfl (crc_lt _)
  rwa [List.append_nil] at this
theorem mread_bytes {m : Msg} (hc : mcheck m = 0) (hf : m.n.fits) (hid : m.id < 18446744073709551616) : mcode (mbytes m) = 0 ∧ mread (mbytes m) = m := by
  obtain ⟨h1, h2⟩ := mget_body hc hf hid
  have hL := length_mbytes m
  have hB := length_mbody m
  have h0 : mcode (mbytes m) = 0 := by
    unfold mcode
    rw [if_neg (by omega), if_neg (by rw [msum_bytes]; simp), take_body, if_neg (by rw [h2]; simp)]
  refine ⟨h0, ?_⟩
  unfold mread
  rw [if_pos h0, take_body, h1]
theorem mbytes_inj {a b : Msg} (ha : mcheck a = 0) (hb : mcheck b = 0) (fa : a.n.fits) (fb : b.n.fits) (ia : a.id < 18446744073709551616) (ib : b.id < 18446744073709551616) (h : mbytes a = mbytes b) : a = b := by
  have h1 := (mread_bytes ha fa ia).2
  have h2 := (mread_bytes hb fb ib).2
  rw [h] at h1
  rw [← h1, h2]
theorem mcode_short {l : List UInt8} (h : l.length < 28) : mcode l = 3 ∧ mread l = mz := by
  have h0 : mcode l = 3 := by unfold mcode; rw [if_pos h]
  exact ⟨h0, by unfold mread; rw [if_neg (by omega)]⟩
theorem set_parts {l : List UInt8} {i : Nat} (hi : i < l.length) (y : UInt8) : l = l.take i ++ [l.getD i 0] ++ l.drop (i + 1) ∧ l.set i y = l.take i ++ [y] ++ l.drop (i + 1) := by
  constructor
  · rw [List.getD_eq_getElem?_getD, List.getElem?_eq_getElem hi, Option.getD_some, List.append_assoc, List.singleton_append, List.getElem_cons_drop, List.take_append_drop]
  · rw [List.set_eq_take_append_cons_drop, if_pos hi, List.append_assoc, List.singleton_append]
theorem crc_turn {l : List UInt8} {i : Nat} (hi : i < l.length) {y : UInt8} (hy : y ≠ l.getD i 0) : crc (l.set i y) ≠ crc l := by
  intro h
  obtain ⟨e1, e2⟩ := set_parts hi y
  rw [e2] at h
  have h' : crc (l.take i ++ [y] ++ l.drop (i + 1)) = crc (l.take i ++ [l.getD i 0] ++ l.drop (i + 1)) := by rw [h, ← e1]
  have := crc_burst _ _ _ _ (by simp) (by simp) h'
  exact hy (by simpa using this)
/-- One byte turned: the sum tells. -/
theorem msum_turn {l : List UInt8} (hl : 4 ≤ l.length) (hs : msum l = true) {i : Nat} (hi : i < l.length) {y : UInt8} (hy : y ≠ l.getD i 0) : msum (l.set i y) = false := by
  have hs' := of_decide_eq_true (show decide _ = true from hs)
  refine decide_eq_false ?_
  rw [List.length_set]
  by_cases h : i < l.length - 4
  · rw [List.take_set]
    have e : fld (l.set i y) (l.length - 4) 4 = fld l (l.length - 4) 4 := by unfold fld; rw [List.drop_set_of_lt h]
    rw [e, hs']
    refine fun e2 => crc_turn (l := l.take (l.length - 4)) (by rw [List.length_take]; omega) ?_ e2.symm
    rw [List.getD_eq_getElem?_getD, List.getElem?_take, if_pos h, ← List.getD_eq_getElem?_getD]
    exact hy
  · have e : (l.set i y).take (l.length - 4) = l.take (l.length - 4) := by
      rw [List.take_set]
      exact List.set_eq_of_length_le (by rw [List.length_take]; omega)
    rw [e, ← hs']
    intro e2
    unfold fld at e2
    have hd : (l.drop (l.length - 4)).length = 4 := by rw [List.length_drop]; omega
    have hd2 : ((l.set i y).drop (l.length - 4)).length = 4 := by rw [List.length_drop, List.length_set]; omega
    rw [List.take_of_length_le (by omega), List.take_of_length_le (by omega)] at e2
    have e3 := congrArg (fun n => le n 4) e2
    have g1 := le_num ((l.set i y).drop (l.length - 4))
    have g2 := le_num (l.drop (l.length - 4))
    rw [hd2] at g1
    rw [hd] at g2
    simp only [g1, g2] at e3
    have e4 := congrArg (fun x : List UInt8 => x[i - (l.length - 4)]?) e3
    simp only [List.getElem?_drop] at e4
    rw [show l.length - 4 + (i - (l.length - 4)) = i by omega, List.getElem?_set_self hi, List.getElem?_eq_getElem hi] at e4
    apply hy
    rw [List.getD_eq_getElem?_getD, List.getElem?_eq_getElem hi, Option.getD_some]
    exact Option.some.inj e4
theorem mcode_turn {m : Msg} {i : Nat} (hi : i < (mbytes m).length) {y : UInt8} (hy : y ≠ (mbytes m).getD i 0) : mcode ((mbytes m).set i y) = 5 ∧ mread ((mbytes m).set i y) = mz := by
  have hL := length_mbytes m
  have hB := length_mbody m
  have h0 : mcode ((mbytes m).set i y) = 5 := by
    unfold mcode
    rw [List.length_set, if_neg (by omega), if_pos (msum_turn (by omega) (msum_bytes m) hi hy)]
  exact ⟨h0, by unfold mread; rw [if_neg (by omega)]⟩

end Go.Cor
