/- The statement 'ShipBad' holds: for every input the law's function returns true, and leaves its arguments as they were. Condition: the row's listed package variables (tables of numbers) hold at the call's start what the program's text lays in them; the card ties that to the text. -/
import Derived.Test.YtoblbipkkdiddaaGreatDoorM1
import Derived.Test.YtoblbipkkdiddaaGreatDoorM2
import Derived.Test.YtoblbipkkdiddaaGreatDoorM3
import Derived.Test.YtoblbipkkdiddaaGreatDoorM4
import Derived.Test.YtoblbipkkdiddaaGreatDoorM5
import Derived.Test.YtoblbipkkdiddaaGreatDoorM6
import Derived.Test.YtoblbipkkdiddaaGreatDoorM7
import Derived.Test.YtoblbipkkdiddaaGreatDoorM8
import Derived.Test.YtoblbipkkdiddaaGreatDoorM9
import Derived.Test.YtoblbipkkdiddaaGreatDoorM10
import Derived.Test.YtoblbipkkdiddaaGreatDoorM11
import Derived.Test.YtoblbipkkdiddaaGreatDoorM12
import Derived.Test.YtoblbipkkdiddaaGreatDoorM13
import Derived.Test.YtoblbipkkdiddaaGreatDoorM14
import Derived.Test.YtoblbipkkdiddaaGreatDoorM15
import Derived.Test.YtoblbipkkdiddaaGreatDoorM16
import Derived.Test.YtoblbipkkdiddaaGreatDoorM17
import Derived.Test.YtoblbipkkdiddaaGreatDoorCards
import Derived.Test.YtoblbipkkdiddaaGreatDoorTie
import Derived.WalkKit
import Derived.ProofKit
import Derived.OpenShut
import Derived.ShutString
import Derived.ChangeOld
import Derived.Below
import Derived.SevenTiedAt
import Derived.Deep.DeepHandedRow
import Derived.Lib.LaidTab
set_option linter.unusedVariables false
set_option linter.unusedSimpArgs false

section
namespace Go.Cor
open Go.RowKit

theorem le_num (l : List UInt8) : le (num l) l.length = l := by
  induction l with
  | nil => rfl
  | cons x r ih =>
    simp only [num, List.length_cons, le]
    have h1 : UInt8.ofNat (x.toNat + 256 * num r) = x := by
      apply UInt8.toNat_inj.1
      have := x.toNat_lt
      rw [UInt8.toNat_ofNat']
      omega
    have h2 : (x.toNat + 256 * num r) / 256 = num r := by
      have := x.toNat_lt
      omega
    rw [h1, h2, ih]

end Go.Cor
end

section
namespace Go.Cor

theorem creg_cons (r : Nat) (x : UInt8) (l : List UInt8) : creg r (x :: l) = creg (csteps 8 r x.toNat) l := rfl
theorem xor_cancel_right {a b c : Nat} (h : a ^^^ c = b ^^^ c) : a = b := by
  have e : (a ^^^ c) ^^^ c = (b ^^^ c) ^^^ c := by rw [h]
  simpa [Nat.xor_assoc] using e
theorem xor_cancel_left {a b c : Nat} (h : c ^^^ a = c ^^^ b) : a = b := by
  rw [Nat.xor_comm c a, Nat.xor_comm c b] at h
  exact xor_cancel_right h
theorem cstep_inj {r s : Nat} (b : Nat) (hr : r < 4294967296) (hs : s < 4294967296) (hb : b < 2) (h : cstep r b = cstep s b) : r = s := by
  have top : ∀ x, x < 2147483648 → (x ^^^ 2197175160) / 2147483648 = 1 := fun x hx => by
    rw [show 2147483648 = 2 ^ 31 from rfl, Nat.xor_div_two_pow, Nat.div_eq_of_lt (by omega)]
    decide
  unfold cstep at h
  split at h <;> split at h
  · omega
  · exfalso
    have := top (s / 2) (by omega)
    rw [← h] at this
    omega
  · exfalso
    have := top (r / 2) (by omega)
    rw [h] at this
    omega
  · have := xor_cancel_right h
    omega
theorem csteps_inj (n : Nat) {r s : Nat} (x : Nat) (hr : r < 4294967296) (hs : s < 4294967296) (h : csteps n r x = csteps n s x) : r = s := by
  induction n generalizing r s x with
  | zero => exact h
  | succ n ih => exact cstep_inj _ hr hs (by omega) (ih _ (cstep_lt _ hr) (cstep_lt _ hs) h)
theorem creg_inj {r s : Nat} (l : List UInt8) (hr : r < 4294967296) (hs : s < 4294967296) (h : creg r l = creg s l) : r = s := by
  induction l generalizing r s with
  | nil => exact h
  | cons x l ih => exact csteps_inj 8 _ hr hs (ih (csteps_lt _ _ hr) (csteps_lt _ _ hs) h)

/-- Bits may be laid into the register ahead of the steps. -/
theorem cstep_ahead (r x : Nat) : cstep (r ^^^ x) 0 = cstep r (x % 2) ^^^ (x / 2) := by
  have h1 := xor_mod2 r x
  have h2 : (r ^^^ x) / 2 = (r / 2) ^^^ (x / 2) := by
    have := Nat.xor_div_two_pow (a := r) (b := x) (n := 1)
    simpa using this
  unfold cstep
  rw [h2]
  by_cases h : r % 2 = x % 2
  · rw [if_pos (by omega), if_pos h]
  · rw [if_neg (by omega), if_neg h, Nat.xor_assoc, Nat.xor_assoc, Nat.xor_comm (x / 2)]
theorem csteps_ahead (n r x : Nat) : csteps n (r ^^^ x) 0 = csteps n r x ^^^ (x / 2 ^ n) := by
  induction n generalizing r x with
  | zero => simp [csteps]
  | succ n ih =>
    show csteps n (cstep (r ^^^ x) (0 % 2)) (0 / 2) = csteps n (cstep r (x % 2)) (x / 2) ^^^ _
    rw [Nat.zero_mod, Nat.zero_div, cstep_ahead, ih, Nat.div_div_eq_div_mul, Nat.pow_succ, Nat.mul_comm 2]
theorem csteps_add (n m r x : Nat) : csteps (n + m) r x = csteps m (csteps n r x) (x / 2 ^ n) := by
  induction n generalizing r x with
  | zero => simp [csteps]
  | succ n ih =>
    rw [Nat.add_right_comm, csteps, ih, csteps, Nat.div_div_eq_div_mul, Nat.pow_succ, Nat.mul_comm 2]
theorem csteps_mod (n r x y : Nat) (h : x % 2 ^ n = y % 2 ^ n) : csteps n r x = csteps n r y := by
  induction n generalizing r x y with
  | zero => rfl
  | succ n ih =>
    rw [csteps, csteps]
    have h1 : x % 2 = y % 2 := by
      have hd : (2 : Nat) ∣ 2 ^ (n + 1) := ⟨2 ^ n, by rw [Nat.pow_succ, Nat.mul_comm]⟩
      have e1 := Nat.mod_mod_of_dvd x hd
      have e2 := Nat.mod_mod_of_dvd y hd
      rw [← e1, h, e2]
    have h2 : x / 2 % 2 ^ n = y / 2 % 2 ^ n := by
      rw [Nat.pow_succ, Nat.mul_comm] at h
      have e1 := Nat.mod_mul_right_div_self x 2 (2 ^ n)
      have e2 := Nat.mod_mul_right_div_self y 2 (2 ^ n)
      rw [← e1, h, e2]
    rw [h1]
    exact ih _ _ _ h2
/-- All bytes are the steps of their number. -/
theorem creg_num (r : Nat) (l : List UInt8) : creg r l = csteps (8 * l.length) r (num l) := by
  induction l generalizing r with
  | nil => rfl
  | cons x l ih =>
    have hx := x.toNat_lt
    rw [creg_cons, ih, List.length_cons, show 8 * (l.length + 1) = 8 + 8 * l.length from by omega, csteps_add]
    have h1 : num (x :: l) / 2 ^ 8 = num l := by show (x.toNat + 256 * num l) / 256 = _; omega
    have h2 : csteps 8 r (num (x :: l)) = csteps 8 r x.toNat := csteps_mod 8 _ _ _ (by show (x.toNat + 256 * num l) % 256 = x.toNat % 256; omega)
    rw [h1, h2]
/-- Up to four bytes: unlike bytes have unlike registers. -/
theorem creg_burst (r : Nat) (l m : List UInt8) (hl : l.length ≤ 4) (hlm : l.length = m.length) (hr : r < 4294967296) (h : creg r l = creg r m) : l = m := by
  have b1 := num_lt l
  have b2 := num_lt m
  rw [← hlm] at b2
  have b3 : 256 ^ l.length ≤ 256 ^ 4 := Nat.pow_le_pow_right (by decide) hl
  have b4 : (256 : Nat) ^ 4 = 4294967296 := by decide
  have p : (2 : Nat) ^ (8 * l.length) = 256 ^ l.length := by rw [Nat.pow_mul]
  rw [creg_num, creg_num, ← hlm] at h
  have e1 := csteps_ahead (8 * l.length) r (num l)
  have e2 := csteps_ahead (8 * l.length) r (num m)
  rw [p, Nat.div_eq_of_lt b1, Nat.xor_zero] at e1
  rw [p, Nat.div_eq_of_lt b2, Nat.xor_zero] at e2
  rw [← e1, ← e2] at h
  have e := csteps_inj _ _ (Nat.xor_lt_two_pow (n := 32) hr (by omega)) (Nat.xor_lt_two_pow (n := 32) hr (by omega)) h
  have e' := xor_cancel_left e
  rw [← le_num l, ← le_num m, e', hlm]
/-- Two texts that differ in four bytes in a row alone have unlike sums. -/
theorem crc_burst (p l m q : List UInt8) (hl : l.length ≤ 4) (hlm : l.length = m.length) (h : crc (p ++ l ++ q) = crc (p ++ m ++ q)) : l = m := by
  have a1 := creg_lt (r := 4294967295) (p ++ l ++ q) (by omega)
  have a2 := creg_lt (r := 4294967295) (p ++ m ++ q) (by omega)
  have e : creg 4294967295 (p ++ l ++ q) = creg 4294967295 (p ++ m ++ q) := by
    unfold crc cmore at h
    simp only [Nat.sub_zero] at h
    omega
  rw [creg_append, creg_append, creg_append, creg_append] at e
  have hp := creg_lt (r := 4294967295) p (by omega)
  exact creg_burst _ _ _ hl hlm hp (creg_inj q (creg_lt _ hp) (creg_lt _ hp) e)

end Go.Cor
end

section
namespace Go.Cor

theorem xor_ne (a x : UInt8) (hx : x ≠ 0) : a ^^^ x ≠ a := by
  intro h
  apply hx
  have h1 : a.toNat ^^^ x.toNat = a.toNat ^^^ 0 := by
    have := congrArg UInt8.toNat h
    rw [UInt8.toNat_xor] at this
    rw [this, Nat.xor_zero]
  have h2 : x.toNat = 0 := xor_cancel_left h1
  exact UInt8.toNat_inj.1 h2
theorem set_split {l : List UInt8} {i : Nat} (hi : i < l.length) (y : UInt8) : l = l.take i ++ [l.getD i 0] ++ l.drop (i + 1) ∧ l.set i y = l.take i ++ [y] ++ l.drop (i + 1) := by
  constructor
  · rw [List.getD_eq_getElem?_getD, List.getElem?_eq_getElem hi, Option.getD_some, List.append_assoc, List.singleton_append, List.getElem_cons_drop, List.take_append_drop]
  · rw [List.set_eq_take_append_cons_drop, if_pos hi, List.append_assoc, List.singleton_append]
theorem drop_set_lt (l : List UInt8) {i k : Nat} (h : i < k) (y : UInt8) : (l.set i y).drop k = l.drop k := List.drop_set_of_lt h
theorem crc_set (l q : List UInt8) {i : Nat} (hi : i < l.length) {y : UInt8} (hy : y ≠ l.getD i 0) : crc (l.set i y ++ q) ≠ crc (l ++ q) := by
  intro h
  obtain ⟨e1, e2⟩ := set_split hi y
  rw [e2] at h
  have h' : crc (l.take i ++ [y] ++ (l.drop (i + 1) ++ q)) = crc (l.take i ++ [l.getD i 0] ++ (l.drop (i + 1) ++ q)) := by
    rw [← List.append_assoc, h, ← List.append_assoc, ← e1]
  have := crc_burst _ _ _ _ (by simp) (by simp) h'
  exact hy (by simpa using this)
/-- One byte of a needle's first twenty turned: there is no needle. -/
theorem spoilt_code {n : Ndl} (hn : n.fits) (hc : ncheck n = 0) {i : Nat} (hi : i < 20) {y : UInt8} (hy : y ≠ (nbytes n).getD i 0) : getCode ((nbytes n).set i y) ≠ 0 := by
  obtain ⟨hd, hg⟩ := ncheck_ok hc
  have hT := take32 n []
  rw [List.append_nil] at hT
  obtain ⟨f0, f1, f2, f3, f4, f5, f6, f7⟩ := head_flds hn hd hT
  obtain ⟨l, hl⟩ : ∃ l, nbytes n = l := ⟨_, rfl⟩
  have hlen : l.length = 32 + n.data.length + padn n.data.length := by rw [← hl]; exact length_nbytes n
  have hda : dataOf l = n.data := by
    have := (get_put hn hc []).2.1
    rw [List.append_nil, hl] at this
    exact congrArg Ndl.data this
  rw [hl] at hy f4 f5 f7 ⊢
  have F : ∀ a k, 20 ≤ a → fld (l.set i y) a k = fld l a k := fun a k ha => by unfold fld; rw [drop_set_lt l (by omega)]
  have hD : dlen (l.set i y) = dlen l := F 20 4 (by omega)
  have hA : dataOf (l.set i y) = dataOf l := by unfold dataOf; rw [hD, drop_set_lt l (by omega)]
  have hS : sumOkN (l.set i y) = false := by
    unfold sumOkN
    rw [decide_eq_false_iff_not, hA, F 24 4 (by omega), f5, hda, List.take_set, f7]
    unfold nsum
    refine crc_set (front n) n.data (by rw [length_front]; omega) ?_
    rw [← f7, List.getD_eq_getElem?_getD, List.getElem?_take, if_pos (by omega), ← List.getD_eq_getElem?_getD]
    exact hy
  unfold getCode
  split
  · omega
  · split
    · omega
    · split
      · omega
      · omega
theorem take_drop_set_out (b : List UInt8) {i o k : Nat} (h : i < o ∨ o + k ≤ i) (y : UInt8) : ((b.set i y).drop o).take k = (b.drop o).take k := by
  rcases h with h | h
  · rw [drop_set_lt b h]
  · apply List.ext_getElem?
    intro j
    simp only [List.getElem?_take, List.getElem?_drop, List.getElem?_set]
    split
    · rw [if_neg (by omega)]
    · rfl
theorem take_drop_set_in (b : List UInt8) {i o k : Nat} (h : i < k) (y : UInt8) : ((b.set (o + i) y).drop o).take k = ((b.drop o).take k).set i y := by
  rw [List.drop_set, if_neg (by omega), Nat.add_sub_cancel_left, List.take_set]
theorem getD_take_drop (b : List UInt8) {i o k : Nat} (h : i < k) : ((b.drop o).take k).getD i 0 = b.getD (o + i) 0 := by
  rw [List.getD_eq_getElem?_getD, List.getElem?_take, if_pos h, List.getElem?_drop, ← List.getD_eq_getElem?_getD]
end Go.Cor
end

section
namespace Go.Proofs.YtoblbipkkdiddaaGreatDoor
open Go.RowKit Go.Cor

/-- What is so of a volume behind i blobs put. -/
structure Pz (d : Dsk) (k : Nat) (s : Vst) (i : Nat) : Prop where
  cap : d.cap = 1048576
  used : d.used = 24 + s.size
  few : k ≤ 16 + 4 * i
  num : s.num = 1
  gen : s.gen = 1
  most : s.most = 1048576
  len : s.ns.length ≤ i
  size : s.size ≤ 16 + 400 * i
  blob : ∀ m ∈ s.ns, m.gone = false
  apart : s.ns.Pairwise (fun a b => a.key ≠ b.key)
theorem nlen_300 {n : Ndl} (h : n.data.length ≤ 300) : nlen n ≤ 400 := by unfold nlen padn; omega
theorem Pz.room {d : Dsk} {k : Nat} {s : Vst} {i : Nat} (h : Pz d k s i) {n : Ndl} (hn : n.data.length ≤ 300) (hi : i ≤ 100) : Room' s d n := by
  have h1 := h.cap
  have h2 := h.used
  have h3 := h.size
  have h4 := h.len
  have h5 := nlen_300 hn
  exact ⟨by omega, fun _ => by omega⟩
theorem Pz.mono {d : Dsk} {k : Nat} {s : Vst} {i j : Nat} (h : Pz d k s i) (hj : i ≤ j) : Pz d k s j :=
  ⟨h.cap, h.used, by have := h.few; omega, h.num, h.gen, h.most, by have := h.len; omega, by have := h.size; omega, h.blob, h.apart⟩
theorem put_is (s : Vst) (n : Ndl) : (s.put n).1 = s ∨ (s.put n).1 = s.wrote n ∧ newest s.ns n.key = none := by
  unfold Vst.put
  split
  · exact .inl rfl
  · split
    · exact .inl rfl
    · split
      · exact .inl rfl
      · split
        · exact .inl rfl
        · rename_i ho
          unfold Vst.write
          split
          · exact .inl rfl
          · exact .inr ⟨rfl, ho⟩
theorem Pz.put {d d' : Dsk} {k : Nat} {s : Vst} {i : Nat} {w w' : World} {g p : Nat} {S S' : Nat → Prop} (h : Pz d k s i) {n : Ndl} (hg : n.gone = false) (hn : n.data.length ≤ 300) (hv : VolR w w' g p S S' d d' s (k + 4) (s.put n).1) : Pz d' (k + 4) (s.put n).1 (i + 1) := by
  have h5 := nlen_300 hn
  have hu := hv.used
  have h2 := h.used
  have hf := h.few
  have hl := h.len
  have hz := h.size
  rcases put_is s n with e | ⟨e, ho⟩
  · rw [e] at hu ⊢
    exact ⟨by rw [hv.cap, h.cap], by omega, by omega, h.num, h.gen, h.most, by omega, by omega, h.blob, h.apart⟩
  · rw [e] at hu ⊢
    have hsz := s.size_wrote n
    refine ⟨by rw [hv.cap, h.cap], by omega, by omega, h.num, h.gen, h.most, ?_, by omega, fun m hm => ?_, ?_⟩
    · have : (s.wrote n).ns.length = s.ns.length + 1 := by simp [Vst.wrote]
      omega
    · have hm' : m ∈ s.ns ++ [n] := hm
      rcases List.mem_append.1 hm' with h1 | h1
      · exact h.blob m h1
      · rw [List.mem_singleton.1 h1]; exact hg
    · show (s.ns ++ [n]).Pairwise _
      rw [List.pairwise_append]
      refine ⟨h.apart, by simp, fun a ha b hb => ?_⟩
      rw [List.mem_singleton.1 hb]
      exact newest_none_iff.1 ho a ha
/-- Two needles of one file: one stands ahead of the other. -/
theorem split_apart {a c a' c' : List Ndl} {n n' : Ndl} (h : a ++ n :: c = a' ++ n' :: c') (hk : n.key ≠ n'.key) : tot a + nlen n ≤ tot a' ∨ tot a' + nlen n' ≤ tot a := by
  rcases List.append_eq_append_iff.1 h with ⟨t, h1, h2⟩ | ⟨t, h1, h2⟩
  · cases t with
    | nil =>
      simp only [List.nil_append, List.cons.injEq] at h2
      exact absurd (by rw [h2.1]) hk
    | cons x t =>
      simp only [List.cons_append, List.cons.injEq] at h2
      left
      rw [h1, tot_append, ← h2.1]
      simp only [tot]
      omega
  · cases t with
    | nil =>
      simp only [List.nil_append, List.cons.injEq] at h2
      exact absurd (by rw [h2.1]) hk
    | cons x t =>
      simp only [List.cons_append, List.cons.injEq] at h2
      right
      rw [h1, tot_append, ← h2.1]
      simp only [tot]
      omega
theorem split_same {ns a c a' c' : List Ndl} {n n' : Ndl} (hp : ns.Pairwise (fun a b => a.key ≠ b.key)) (h : ns = a ++ n :: c) (h' : ns = a' ++ n' :: c') (hk : n.key = n'.key) : a = a' ∧ n = n' := by
  have e := h.symm.trans h'
  rcases List.append_eq_append_iff.1 e with ⟨t, h1, h2⟩ | ⟨t, h1, h2⟩
  · cases t with
    | nil =>
      simp only [List.nil_append, List.cons.injEq] at h2
      exact ⟨by rw [h1, List.append_nil], h2.1⟩
    | cons x t =>
      simp only [List.cons_append, List.cons.injEq] at h2
      rw [h, List.pairwise_append] at hp
      have h3 := (List.pairwise_cons.1 hp.2.1).1 n' (by rw [h2.2]; simp)
      exact absurd hk h3
  · cases t with
    | nil =>
      simp only [List.nil_append, List.cons.injEq] at h2
      exact ⟨by rw [h1, List.append_nil], h2.1.symm⟩
    | cons x t =>
      simp only [List.cons_append, List.cons.injEq] at h2
      rw [h', List.pairwise_append] at hp
      have h3 := (List.pairwise_cons.1 hp.2.1).1 n (by rw [h2.2]; simp)
      exact absurd hk.symm h3
/-- A byte of a file turned. -/
theorem spoil_view {d : Dsk} {k : Nat} (h : Fs d k) {n : ByteArray} {b : List UInt8} (hv : view d n = some b) {z : Nat} (hz : z < b.length) (x : UInt8) :
    Fs (d.spoil n (z : Int) x).1 (k + 2) ∧ view (d.spoil n (z : Int) x).1 n = some (b.set z (b.getD z 0 ^^^ x)) := by
  obtain ⟨j, hj, rfl⟩ := view_some hv
  have hok := Ok.spoil h.ok n (z : Int) x
  have e : d.spoil n (z : Int) x = (d.setF j ⟨(fat d.files j).b.set z ((fat d.files j).b.getD z 0 ^^^ x), (fat d.files j).lasts⟩, 0) := by
    unfold Dsk.spoil
    rw [on_up h.up hj, if_neg (by omega), Int.toNat_natCast]
  rw [e] at hok ⊢
  refine ⟨⟨h.up, hok, h.inj⟩, ?_⟩
  unfold view
  have hj' : tfind (d.setF j ⟨(fat d.files j).b.set z ((fat d.files j).b.getD z 0 ^^^ x), (fat d.files j).lasts⟩).now n = some j := hj
  rw [hj', Option.map_some]
  have hf : fat (d.files.set j ⟨(fat d.files j).b.set z ((fat d.files j).b.getD z 0 ^^^ x), (fat d.files j).lasts⟩) j = _ := (fat_set d.files j j _ (h.file hj).1).trans (if_pos rfl)
  exact congrArg (fun f : Fil => some f.b) hf
/-- The other blobs are as they were. -/
theorem Pz.spoilt {d d1 : Dsk} {k i : Nat} {s : Vst} (h : Pz d k s i) (hok : s.Ok) {X : List UInt8} (hX : X.length = 16) {a c : List Ndl} {n : Ndl} (hns : s.ns = a ++ n :: c) {q : Nat} (hq : q < 20) {x : UInt8} (hx : x ≠ 0)
    (hv : view d1 (nmD s.num s.gen) = some ((X ++ nsB s.ns).set (16 + tot a + q) ((X ++ nsB s.ns).getD (16 + tot a + q) 0 ^^^ x))) :
    Spoilt d1 s ((X ++ nsB s.ns).set (16 + tot a + q) ((X ++ nsB s.ns).getD (16 + tot a + q) 0 ^^^ x)) (fun m => !decide (m.key = n.key)) := by
  have h32 : 32 ≤ nlen n := by unfold nlen; omega
  refine ⟨hv, by rw [List.length_set, List.length_append, hX, length_nsB]; rfl, fun a' m c' hm _ _ hG => ?_, fun a' m c' hm _ _ hG => ?_⟩
  · have hk : m.key ≠ n.key := by simpa using hG
    rw [take_drop_set_out]
    · rw [hm]; exact bytes_at hX
    · rcases split_apart (hm.symm.trans hns) hk with h1 | h1
      · exact .inr (by omega)
      · exact .inl (by omega)
  · have hk : m.key = n.key := by simpa using hG
    obtain ⟨rfl, rfl⟩ := split_same h.apart hm hns hk
    rw [take_drop_set_in _ (by omega)]
    have hb : ((X ++ nsB s.ns).drop (16 + tot a')).take (nlen m) = nbytes m := by rw [hm]; exact bytes_at hX
    have hg := getD_take_drop (X ++ nsB s.ns) (i := q) (o := 16 + tot a') (k := nlen m) (by omega)
    rw [hb] at hg ⊢
    have hal := hok.all m (by rw [hm]; simp)
    exact spoilt_code hal.1 hal.2 hq (by rw [hg]; exact xor_ne _ _ hx)
theorem _root_.Go.Cor.Vst.tops_mem' {s : Vst} {i : Nat} {n : Ndl} (h : s.tops[i]? = some n) : n ∈ s.tops := List.mem_of_getElem? h
theorem filter_one {L : List Ndl} (hp : L.Pairwise (fun a b => a.key ≠ b.key)) {n : Ndl} (hn : n ∈ L) : (L.filter (fun m => decide (m.key = n.key))).length = 1 := by
  induction L with
  | nil => cases hn
  | cons x r ih =>
    obtain ⟨h1, h2⟩ := List.pairwise_cons.1 hp
    rcases List.mem_cons.1 hn with rfl | hn
    · rw [List.filter_cons, if_pos (by simp), List.filter_eq_nil_iff.2 (fun m hm => by simp; exact fun e => h1 m hm e.symm)]
      rfl
    · rw [List.filter_cons, if_neg (by simp; exact h1 n hn)]
      exact ih h2 hn
theorem filter_len {α : Type} (l : List α) (f : α → Bool) : l.length = (l.filter f).length + (l.filter (fun a => !f a)).length := by
  induction l with
  | nil => rfl
  | cons x r ih =>
    rw [List.filter_cons, List.filter_cons, List.length_cons, ih]
    cases hx : f x <;> simp <;> omega
/-- What is told where one blob is spoilt. -/
theorem Pz.tolds {d : Dsk} {k i : Nat} {s : Vst} (h : Pz d k s i) {n : Ndl} (hn : n ∈ s.tops) :
    (s.tops.filter (fun m => !told (fun m => !decide (m.key = n.key)) m)).length = 1 ∧ (s.tops.filter (told (fun m => !decide (m.key = n.key)))).length = s.idx.length - 1 ∧ ∀ m ∈ s.tops.filter (told (fun m => !decide (m.key = n.key))), m.key ≠ n.key := by
  have ht : ∀ m ∈ s.tops, told (fun m => !decide (m.key = n.key)) m = !decide (m.key = n.key) := fun m hm => by
    unfold told
    rw [h.blob m (newest_mem (Vst.tops_mem hm)).1]
    rfl
  have e1 : s.tops.filter (fun m => !told (fun m => !decide (m.key = n.key)) m) = s.tops.filter (fun m => decide (m.key = n.key)) := List.filter_congr (fun m hm => by rw [ht m hm, Bool.not_not])
  have e2 : s.tops.filter (told (fun m => !decide (m.key = n.key))) = s.tops.filter (fun m => !decide (m.key = n.key)) := List.filter_congr ht
  have h1 := filter_one s.tops_apart hn
  have h2 := filter_len s.tops (fun m => decide (m.key = n.key))
  rw [s.tops_len] at h2
  rw [e1, e2]
  refine ⟨h1, ?_, fun m hm => ?_⟩
  · have h3 : (s.tops.filter (fun m => !decide (m.key = n.key))).length + 1 = s.idx.length := by rw [h2, h1, Nat.add_comm]
    omega
  · have := (List.mem_filter.1 hm).2
    simpa using this
/-- A volume that is made, nothing put. -/
theorem Pz.made {w w' : World} {g p : Nat} {Sd : Nat → Prop} (h : Made w w' g p Sd (newD 1048576) 16 (vst0 1 1048576 0)) : ∃ S' d', Vready w' g p S' d' 16 (vst0 1 1048576 0) ∧ Pz d' 16 (vst0 1 1048576 0) 0 ∧ Kept Sd w w' ∧ ∀ b, S' b → Sd b ∨ w.heap.size ≤ b := by
  obtain ⟨S', d', h1, h2, h3, _, h4, h5, h6, h7, h8, _⟩ := h
  exact ⟨S', d', ⟨h1, h4, h5, by decide, by rw [h7]; decide⟩, ⟨h6, by rw [h8]; rfl, Nat.le_refl _, rfl, rfl, rfl, Nat.le_refl _, Nat.le_refl _, (fun m hm => by cases hm), List.Pairwise.nil⟩, h2, h3⟩

end Go.Proofs.YtoblbipkkdiddaaGreatDoor
end

section
namespace Go.Proofs.YtoblbipkkdiddaaGreatDoor
open Go.RowKit Go.Cor

set_option maxRecDepth 100000 in
set_option maxHeartbeats 4000000 in
theorem shipBad_all (v : Value) (ps : List (Ndl × Value)) (q0 bits : Nat) (w : World) (h : IsN w v ps) (hf : ∀ x ∈ ps, x.1.fits) (hq0 : q0 < 256) (hbits : bits < 256) :
    Calls Tryz.prog 8 #[v, .int .u8 (q0 : Int), .int .u8 (bits : Int)] w fun e w' => e = .returned (.bool true) ∧ Below w.heap.size w w' := by
  have HA := Lib.hid (alive13 w)
  have hlen := fun W => len_X (P := Tryz.prog) h.1 28 3 _ Tryz.underlying28 W
  obtain ⟨AN, hAN⟩ : ∃ AN, ps.length = AN := ⟨_, rfl⟩
  rw [hAN] at hlen
  have HH := Lib.hid h
  have HF := Lib.hid hf
  have HAN := Lib.hid hAN
  clear h hf hAN
  by_cases h20 : 20 < AN
  · have g1 : decide ((20 : Int) < (AN : Int)) = true := decide_eq_true (by omega)
    have g2 : (20 : Int) < (AN : Int) := by omega
    go_enter Tryz.func8, Tryz.ntmps8
    go_wp2_with fail
    refine HA.out.mono ?_
    rintro e w1 ⟨rfl, hb⟩
    have HB1 := Lib.hid hb
    clear hb
    go_wp2
    go_ret
    exact ⟨rfl, HB1.out⟩
  have g1 : decide ((20 : Int) < (AN : Int)) = false := decide_eq_false (by omega)
  have g2 : ¬ (20 : Int) < (AN : Int) := by omega
  by_cases hb0 : bits = 0
  · subst hb0
    go_enter Tryz.func8, Tryz.ntmps8
    go_wp2_with fail
    refine HA.out.mono ?_
    rintro e w1 ⟨rfl, hb⟩
    have HB1 := Lib.hid hb
    clear hb
    go_wp2
    go_ret
    exact ⟨rfl, HB1.out⟩
  have g3 : ((bits : Int) == 0) = false := beq_eq_false_iff_ne.2 (by omega)
  have g4 : ¬ (bits : Int) = 0 := by omega
  have HND := Lib.hid (fun wx => new_u 1048576 wx (by decide))
  go_enter Tryz.func8, Tryz.ntmps8
  go_wp2_with fail
  refine HA.out.mono ?_
  rintro e w1 ⟨rfl, hb⟩
  have HB1 := Lib.hid hb
  clear hb
  clear HA
  go_wp2_with fail
  refine (HND.out w1).mono ?_
  rintro e w2 ⟨p, rfl, hdk, hp, hb2⟩
  have HDK := Lib.hid hdk
  have HB2 := Lib.hid (HB1.out.trans (hb2.mono HB1.out.size))
  have hp0 : w.heap.size ≤ p := Nat.le_trans HB1.out.size hp
  clear hdk hb2 HND
  go_wp2_with fail
  refine (make_v 1 1048576 0 p 0 (fun b => b = p) (newD 1048576) w2 HDK.out (by decide) (fs_new 1048576 (by decide)) (by decide) (by decide) (by decide) (by decide) (by decide) (view_new _ _) (view_new _ _) (view_new _ _) (by decide) (by decide)).mono ?_
  rintro e w3 ⟨g, rfl, hm⟩
  obtain ⟨S0, d0, hr0, hz0, hk0, hS0⟩ := Pz.made hm
  have HR0 := Lib.hid hr0
  have HZ0 := Lib.hid hz0
  have HB3 := Lib.hid (HB2.out.trans (hk0.below HB2.out.size (fun j hj e => by omega)))
  have HS0 := Lib.hid (show ∀ b, S0 b → w.heap.size ≤ b from fun b hb => (hS0 b hb).elim (fun e => by omega) (fun e => Nat.le_trans HB2.out.size e))
  clear hm hr0 hz0 hk0 hS0 HDK
  go_wp2_with fail
  go_loopw [11] (fun c wr => ∃ (i : Nat) (S : Nat → Prop) (d : Dsk) (k : Nat) (s : Vst), i ≤ AN ∧ c = .int .i64 (i : Int) ∧ Hid (Vready wr g p S d k s) ∧ Hid (Pz d k s i) ∧ Hid (Below w.heap.size w wr) ∧ Hid (∀ b, S b → w.heap.size ≤ b)) (fun c _ => (AN - intOf c).toNat)
  case atStart => exact ⟨0, S0, d0, 16, vst0 1 1048576 0, Nat.zero_le _, rfl, HR0, HZ0, HB3, HS0⟩
  case round =>
    obtain ⟨i, S, d, k, s, hiA, rfl, HR, HZ, HB, HS⟩ := hrel
    clear HR0 HZ0 HB3 HS0 HB2 HB1
    have e2 : IntKind.i64.wrap ((i : Int) + 1) = (i : Int) + 1 := IntWalk.i64_in _ (by omega)
    by_cases hi : i < AN
    · obtain ⟨⟨m, mv⟩, hpi⟩ : ∃ x, ps[i]? = some x := ⟨_, List.getElem?_eq_getElem (by rw [HAN.out]; exact hi)⟩
      have hmem := List.mem_of_getElem? hpi
      obtain ⟨ma, mc, hmv⟩ : ∃ a c, mv = .slice a m.data.length c := by obtain ⟨a, c, e, _⟩ := (HH.out.2 _ hmem).1; exact ⟨a, c, e⟩
      subst hmv
      obtain ⟨b1, o1, hx1, a0, a1, a2, a3, ha⟩ := ndl_at (HH.out.mono HB.out (Nat.le_refl _)) 28 47 Tryz.underlying28 Tryz.sizeNdR hpi
      have hfm := HF.out _ hmem
      obtain ⟨mk, mck, mg, md⟩ := m
      dsimp only at a0 a1 a2 a3 ha hfm
      obtain ⟨DL, hDL⟩ : ∃ DL, md.length = DL := ⟨_, rfl⟩
      rw [hDL] at a3 ha
      have hold : ∀ b, liesB (.slice ma DL mc) md b → b < w.heap.size := fun b hb => (HH.out.2 _ hmem).1.lies_lt (by dsimp only; rw [hDL]; exact hb)
      by_cases h300 : 300 < DL
      · have k1 : (300 : Int) < (DL : Int) := by omega
        have k2 : decide ((300 : Int) < (DL : Int)) = true := decide_eq_true k1
        go_wp2
        go_ret
        exact ⟨rfl, HB.out⟩
      · have k1 : ¬ (300 : Int) < (DL : Int) := by omega
        have k2 : decide ((300 : Int) < (DL : Int)) = false := decide_eq_false k1
        have hba := below_alloc wr (.cells #[.int .u64 (mk : Int), .int .u32 (mck : Int), .bool false, .slice ma DL mc] 48)
        have hput := put_w ⟨mk, mck, false, md⟩ (.slice ma DL mc) g p k S d s (wr.alloc (.cells #[.int .u64 (mk : Int), .int .u32 (mck : Int), .bool false, .slice ma DL mc] 48)) (HR.out.below hba) (ha.mono hba (Nat.le_refl _)) (fun b hb hs => by have := hold b hb; have := HS.out b hs; omega) hfm (HZ.out.room (by dsimp only; omega) (by omega))
        have HPUT := Lib.hid hput
        have HBA := Lib.hid (HB.out.alloc HB.out.size (.cells #[.int .u64 (mk : Int), .int .u32 (mck : Int), .bool false, .slice ma DL mc] 48))
        have HDL := Lib.hid (show md.length ≤ 300 by omega)
        obtain ⟨code, hcode⟩ : ∃ c, (s.put ⟨mk, mck, false, md⟩).2 = c := ⟨_, rfl⟩
        rw [hcode] at HPUT
        clear hput ha hfm hold hmem hpi hba hDL hcode
        go_wp2_with fail
        refine HPUT.out.mono ?_
        rintro e w5 ⟨rfl, ht⟩
        obtain ⟨S5, d5, hv5⟩ := ht.ready (by have := HZ.out.few; omega) HR.out.names
        have HR5 := Lib.hid hv5.r
        have HZ5 := Lib.hid (HZ.out.put rfl HDL.out hv5)
        have HB5 := Lib.hid (HBA.out.trans (hv5.kept.below HBA.out.size (fun j hj e => by have := HS.out j e; omega)))
        have HS5 := Lib.hid (show ∀ b, S5 b → w.heap.size ≤ b from fun b hb => (hv5.low b hb).elim (fun e => HS.out b e) (fun e => Nat.le_trans HBA.out.size e))
        clear ht hv5 a0 a1 a2 a3
        go_wp2
        go_roundw
        case rel => exact ⟨i + 1, S5, d5, _, _, by omega, by simp, HR5, HZ5, HB5, HS5⟩
        case measure => simp [intOf] <;> omega
    · obtain rfl : i = AN := by omega
      have hI := s.idx_len
      have hIl := HZ.out.len
      obtain ⟨I, hIe⟩ : ∃ I, s.idx.length = I := ⟨_, rfl⟩
      have hI20 : I ≤ 20 := by omega
      have hky := keys_v 0 64 g p k S d s wr HR.out
      have hfl : Q.fromL s.idx 0 64 = s.idx := by
        unfold Q.fromL
        rw [psn_zero, List.drop_zero]
        exact List.take_of_length_le (by show s.idx.length ≤ 64; omega)
      rw [hfl, hIe] at hky
      have HKY := Lib.hid hky
      have HI := Lib.hid hIe
      clear hky hfl hI hIl hIe
      go_wp2_with fail
      refine HKY.out.mono ?_
      rintro e w6 ⟨v', rfl, hown, hb6⟩
      have HP6 := Lib.hid (show Q.IsP w6 v' s.idx from Q.IsP.own (by exact hown) HI.out.symm)
      have hlen6 := fun W => Q.len_P (P := Tryz.prog) HP6.out HI.out 80 3 83 Tryz.underlying80 W
      have HLI := Lib.hid (show ∀ j, liesX v' s.idx.length j → wr.heap.size ≤ j from fun j hj => (hown.lt j hj.2).1)
      have HR6 := Lib.hid (HR.out.below hb6)
      have HB6 := Lib.hid (HB.out.trans (hb6.mono HB.out.size))
      have hs6 := hb6.size
      clear hown hb6 HKY
      by_cases hI0 : I = 0
      · have j1 : (I : Int) = 0 := by omega
        have j2 : ((I : Int) == 0) = true := by rw [j1]; rfl
        go_wp2
        go_ret
        exact ⟨rfl, HB6.out⟩
      have j1 : ¬ (I : Int) = 0 := by omega
      have j2 : ((I : Int) == 0) = false := beq_eq_false_iff_ne.2 j1
      obtain ⟨K0, hK0⟩ : ∃ K, q0 % I = K := ⟨_, rfl⟩
      obtain ⟨Q0, hQ0⟩ : ∃ Q, q0 % 20 = Q := ⟨_, rfl⟩
      have hKI : K0 < I := by rw [← hK0]; exact Nat.mod_lt _ (by omega)
      have hQ20 : Q0 < 20 := by rw [← hQ0]; exact Nat.mod_lt _ (by decide)
      have er : ((q0 : Int) % (I : Int)) = (K0 : Int) := by rw [← hK0]; rfl
      have er0 : ((q0 : Int) % 20) = (Q0 : Int) := by rw [← hQ0]; rfl
      have et : Int.tmod (q0 : Int) (I : Int) = (K0 : Int) := by rw [Int.tmod_eq_emod_of_nonneg (by omega)]; exact er
      have et0 : Int.tmod (q0 : Int) 20 = (Q0 : Int) := by rw [Int.tmod_eq_emod_of_nonneg (by omega)]; exact er0
      have ew : IntKind.i64.wrap (q0 : Int) = (q0 : Int) := IntWalk.i64_in _ (by omega)
      obtain ⟨n, hn1, hn2, hn3, _, _⟩ := Vst.tops_get (s := s) (i := K0) (by rw [HI.out]; exact hKI)
      obtain ⟨a, c, hns, hfn⟩ := Vst.fnd_some hn2
      have hpat : pat s.idx K0 = posN n (16 + tot a) := by
        have e := (mem_fnd s.idx_asc).1 (pat_mem (show K0 < s.idx.length by rw [HI.out]; exact hKI))
        rw [← hn3, hfn] at e
        exact (Option.some.inj e).symm
      obtain ⟨b1, o1, hidx, hp1⟩ := Q.indexAt_P (P := Tryz.prog) HP6.out 80 83 Tryz.underlying80 Tryz.sizePosSh K0 (by rw [HI.out]; exact hKI)
      rw [hpat] at hp1
      obtain ⟨_, c1, _, _, _⟩ := hp1
      have c1' : w6.cell? ⟨b1, o1 + 1, none⟩ = some (.int .i64 ((16 + tot a : Nat) : Int)) := c1
      have hsz : 16 + tot a + 32 ≤ s.size := by
        unfold Vst.size
        rw [hns, tot_append]
        simp only [tot]
        unfold nlen
        omega
      have hsm : s.size ≤ 16777216 := Nat.le_trans HR6.out.ok.size HR6.out.ok.most
      obtain ⟨OF, hOF⟩ : ∃ O, 16 + tot a = O := ⟨_, rfl⟩
      obtain ⟨Z, hZq⟩ : ∃ Z, OF + Q0 = Z := ⟨_, rfl⟩
      have ez : IntKind.i64.wrap ((OF : Int) + (Q0 : Int)) = (Z : Int) := by rw [IntWalk.i64_in _ (by omega)]; omega
      rw [hOF] at c1' hsz
      have hnm : nmD s.num s.gen = ⟨#[118, 49, 46, 49]⟩ := by rw [HZ.out.num, HZ.out.gen]; rfl
      obtain ⟨X, hX, hvw⟩ := HR6.out.lies.data
      have hbl : (X ++ nsB s.ns).length = s.size := by rw [List.length_append, hX, length_nsB]; rfl
      have hx0 : UInt8.ofNat bits ≠ 0 := fun e => by
        have e1 := congrArg UInt8.toNat e
        rw [UInt8.toNat_ofNat', Nat.mod_eq_of_lt (by omega)] at e1
        exact hb0 e1
      obtain ⟨hfs1, hvw1⟩ := spoil_view HR6.out.lies.fs hvw (z := Z) (by rw [hbl]; omega) (UInt8.ofNat bits)
      have hspl := HZ.out.spoilt HR6.out.ok hX hns hQ20 hx0 (d1 := (d.spoil (nmD s.num s.gen) (Z : Int) (UInt8.ofNat bits)).1) (by rw [hOF, hZq]; exact hvw1)
      obtain ⟨Sd, hdk, _, hto⟩ := HR6.out.vl.disk
      have hsp := spoil_u w6 p Sd d k (nmD s.num s.gen) (Z : Int) (UInt8.ofNat bits) hdk (by have := HZ.out.few; omega) (by omega) (by omega)
      rw [show (UInt8.ofNat bits).toNat = bits by rw [UInt8.toNat_ofNat', Nat.mod_eq_of_lt (by omega)]] at hsp
      obtain ⟨code, hcode⟩ : ∃ c, (d.spoil (nmD s.num s.gen) (Z : Int) (UInt8.ofNat bits)).2 = c := ⟨_, rfl⟩
      obtain ⟨d1, hd1⟩ : ∃ x, (d.spoil (nmD s.num s.gen) (Z : Int) (UInt8.ofNat bits)).1 = x := ⟨_, rfl⟩
      rw [hcode, hd1, hnm] at hsp
      rw [hd1] at hfs1 hspl
      obtain ⟨t1, t2, t3⟩ := HZ.out.tolds (n := n) (Vst.tops_mem' hn1)
      obtain ⟨hld, hmr⟩ := s.load_all (most := 64) (by rw [HI.out]; omega)
      have HSP := Lib.hid hsp
      have HTO := Lib.hid (fun w7 h7 => hto w7 d1 (k + 2) h7)
      have HFS := Lib.hid hfs1
      have HSPL := Lib.hid hspl
      have HT := Lib.hid (And.intro t1 (And.intro t2 t3))
      have HLD := Lib.hid (And.intro hld hmr)
      have HNK := Lib.hid hn3
      have HPAT := Lib.hid hpat
      clear hn1 hn2 hn3 hns hfn hpat c1 hsz hsm hOF hZq hnm hX hvw hbl hx0 hfs1 hvw1 hspl hdk hto hsp hcode hd1 t1 t2 t3 hld hmr hK0 hQ0
      go_wp2_with fail
      refine HSP.out.mono ?_
      rintro e w7 ⟨rfl, hD7⟩
      obtain ⟨S7, hvl7, hk7, hl7⟩ := HTO.out w7 hD7
      have HV7 := Lib.hid (show Vsp w7 g p S7 d1 (k + 2) s from ⟨hvl7, ⟨HFS.out⟩, HR6.out.ok⟩)
      have HP7 := Lib.hid (show Q.IsP w7 v' s.idx from IsX.kept HP6.out hk7 (fun j hj hs => by have := HLI.out j hj; have := HR.out.vl.lt j hs; omega))
      have HB7 := Lib.hid (HB6.out.trans (hk7.below HB6.out.size (fun j hj e => by have := HS.out j e; omega)))
      have HTK := Lib.hid (take_p _ 0 64 _ g p (k + 2) S7 d1 s w7 HV7.out HSPL.out (by decide) (by decide))
      clear hD7 hvl7 hk7 hl7 c1' HSP HTO hidx
      go_wp2_with fail
      refine HTK.out.mono ?_
      rintro e w8 ⟨x, c8, qs, rfl, hqs, hN8, _, _, hb8⟩
      rw [HLD.out.1] at hqs ⊢
      rw [HLD.out.2, HT.out.1]
      have hql : qs.length = I - 1 := by
        have e1 := congrArg List.length hqs
        rw [List.length_map, HT.out.2.1, HI.out] at e1
        exact e1
      obtain ⟨M, hM⟩ : ∃ M, qs.length = M := ⟨_, rfl⟩
      obtain ⟨NX, hNX⟩ : ∃ NX, s.next 0 64 = NX := ⟨_, rfl⟩
      rw [hM] at hN8 hql ⊢
      rw [hNX]
      have hKE := Lib.hid (show ∀ q ∈ qs, q.1.key ≠ n.key from fun q hq => HT.out.2.2 q.1 (by rw [← hqs]; exact List.mem_map_of_mem hq))
      have em : IntKind.i64.wrap ((I : Int) - 1) = (M : Int) := by rw [IntWalk.i64_in _ (by omega)]; omega
      have HN8 := Lib.hid hN8
      have HP8 := Lib.hid (Q.IsP.mono HP7.out hb8 (Nat.le_refl _))
      have HB8 := Lib.hid (HB7.out.trans (hb8.mono HB7.out.size))
      have HM := Lib.hid hM
      have hMI : M ≤ 20 := by omega
      clear hqs hN8 hb8 hql hM hNX HTK
      have hx9 := Blk.new w8 #[.slice x M c8, .int .u64 (NX : Int), .bool false, .int .i64 1] 35
      have hb9 := HB8.out.alloc HB8.out.size (.cells #[.slice x M c8, .int .u64 (NX : Int), .bool false, .int .i64 1] 35)
      have hn9 := HN8.out.mono (below_alloc w8 (.cells #[.slice x M c8, .int .u64 (NX : Int), .bool false, .int .i64 1] 35)) (Nat.le_refl _)
      have hp9 := Q.IsP.mono HP8.out (below_alloc w8 (.cells #[.slice x M c8, .int .u64 (NX : Int), .bool false, .int .i64 1] 35)) (Nat.le_refl _)
      obtain ⟨w9, hw9⟩ : ∃ w9, w8.alloc (.cells #[.slice x M c8, .int .u64 (NX : Int), .bool false, .int .i64 1] 35) = w9 := ⟨_, rfl⟩
      obtain ⟨Y, hY⟩ : ∃ Y, w8.heap.size = Y := ⟨_, rfl⟩
      rw [hw9, hY] at hx9
      rw [hw9] at hb9 hn9 hp9
      go_upto_region 21 with fail
      try rw [hw9]
      try rw [hY]
      have HX9 := Lib.hid hx9
      have HB9 := Lib.hid hb9
      have HN9 := Lib.hid hn9
      have HP9 := Lib.hid hp9
      have x0 := hx9.cell 0 rfl
      have x2 := hx9.cell 2 rfl
      have x3 := hx9.cell 3 rfl
      clear hx9 hb9 hn9 hp9 hw9 hY HN8 HP8 HB8
      go_wp2_with fail
      refine (code_nil _).mono ?_
      rintro e w10 ⟨rfl, rfl⟩
      go_wp2_with fail
      go_loopw [17] (fun c wr => ∃ j : Nat, j ≤ M ∧ c = .int .i64 (j : Int) ∧ Hid (Below w9.heap.size w9 wr)) (fun c _ => (M - intOf c).toNat)
      case atStart => exact ⟨0, Nat.zero_le _, rfl, Lib.hid (Below.refl _ _)⟩
      case round =>
        obtain ⟨j, hjM, rfl, HBr⟩ := hrel
        have e7 : IntKind.i64.wrap ((j : Int) + 1) = (j : Int) + 1 := IntWalk.i64_in _ (by omega)
        have hxr := HX9.out.below HBr.out HX9.out.lt
        have y0 := hxr.cell 0 rfl
        by_cases hj : j < M
        · obtain ⟨⟨q, qv⟩, hqj⟩ : ∃ y, qs[j]? = some y := ⟨_, List.getElem?_eq_getElem (by rw [HM.out]; exact hj)⟩
          obtain ⟨b2, o2, hi2, d0, _, _, _, _⟩ := ndl_at (HN9.out.mono HBr.out (Nat.le_refl _)) 33 48 Tryz.underlying33 Tryz.sizeNdA hqj
          obtain ⟨b3, o3, hi3, hp3⟩ := Q.indexAt_P (P := Tryz.prog) (Q.IsP.mono HP9.out HBr.out (Nat.le_refl _)) 80 83 Tryz.underlying80 Tryz.sizePosSh K0 (by rw [HI.out]; exact hKI)
          obtain ⟨f0, _⟩ := hp3
          rw [← HNK.out] at f0
          have hne := hKE.out _ (List.mem_of_getElem? hqj)
          dsimp only at d0 hne
          have hne' : ¬ (q.key : Int) = (n.key : Int) := by omega
          have hneb : ((q.key : Int) == (n.key : Int)) = false := beq_eq_false_iff_ne.2 hne'
          clear hqj hxr hne
          go_wp2_with fail
          go_quiet (fail)
          have HBq := Lib.hid (below_drewN HBr.out nq)
          go_wp2
          go_roundw
          case rel => exact ⟨j + 1, by omega, by simp, HBq⟩
          case measure => simp [intOf] <;> omega
        · obtain rfl : j = M := by omega
          go_wp2
          go_ret
          exact ⟨rfl, HB9.out.trans (HBr.out.mono HB9.out.size)⟩

end Go.Proofs.YtoblbipkkdiddaaGreatDoor
end
namespace Go.Proofs.YtoblbipkkdiddaaGreatDoor.shipBad
open Go.ChangeShapes Go.WideShapes Go.ChangeAt Go.RowKit
open Go.ChangeMaps (open_string shut_string)
open Go.Cor
set_option linter.unusedVariables false

theorem own : ownKnob Tryz.prog.godebug = none := by kernel_rfl
theorem laidOut : laidOutB Tryz.prog = true := by kernel_rfl
def lay (cs : Array Value) : Obj → Obj
  | .cells _ t frozen => .cells cs t frozen
  | o => o
/-- A world that meets the condition. -/
noncomputable def laidWorld (os : Os) : World :=
  { World.holding Tryz.prog os ⟨#[], #[], []⟩ with heap := ((((World.holding Tryz.prog os ⟨#[], #[], []⟩).heap).modify 2 (lay #[.int .u8 0, .int .u8 1, .int .u8 28, .int .u8 2, .int .u8 29, .int .u8 14, .int .u8 24, .int .u8 3, .int .u8 30, .int .u8 22, .int .u8 20, .int .u8 15, .int .u8 25, .int .u8 17, .int .u8 4, .int .u8 8, .int .u8 31, .int .u8 27, .int .u8 13, .int .u8 23, .int .u8 21, .int .u8 19, .int .u8 16, .int .u8 7, .int .u8 26, .int .u8 12, .int .u8 18, .int .u8 6, .int .u8 11, .int .u8 5, .int .u8 10, .int .u8 9])).modify 3 (lay #[.int .u8 0, .int .u8 1, .int .u8 56, .int .u8 2, .int .u8 57, .int .u8 49, .int .u8 28, .int .u8 3, .int .u8 61, .int .u8 58, .int .u8 42, .int .u8 50, .int .u8 38, .int .u8 29, .int .u8 17, .int .u8 4, .int .u8 62, .int .u8 47, .int .u8 59, .int .u8 36, .int .u8 45, .int .u8 43, .int .u8 51, .int .u8 22, .int .u8 53, .int .u8 39, .int .u8 33, .int .u8 30, .int .u8 24, .int .u8 18, .int .u8 12, .int .u8 5, .int .u8 63, .int .u8 55, .int .u8 48, .int .u8 27, .int .u8 60, .int .u8 41, .int .u8 37, .int .u8 16, .int .u8 46, .int .u8 35, .int .u8 44, .int .u8 21, .int .u8 52, .int .u8 32, .int .u8 23, .int .u8 11, .int .u8 54, .int .u8 26, .int .u8 40, .int .u8 15, .int .u8 34, .int .u8 20, .int .u8 31, .int .u8 10, .int .u8 25, .int .u8 14, .int .u8 19, .int .u8 9, .int .u8 13, .int .u8 8, .int .u8 7, .int .u8 6])).modify 1 (lay #[.int .u64 1, .int .u64 10, .int .u64 100, .int .u64 1000, .int .u64 10000, .int .u64 100000, .int .u64 1000000, .int .u64 10000000, .int .u64 100000000, .int .u64 1000000000, .int .u64 10000000000, .int .u64 100000000000, .int .u64 1000000000000, .int .u64 10000000000000, .int .u64 100000000000000, .int .u64 1000000000000000, .int .u64 10000000000000000, .int .u64 100000000000000000, .int .u64 1000000000000000000, .int .u64 10000000000000000000]) }
theorem laid_met (os : Os) : laidMet Tryz.prog Rows.shipBadRow.laid ((laidWorld os).forCall (fun _ _ => 0) ⟨#[], #[.slice none 0 0, .int .u8 0, .int .u8 0], []⟩).memory :=
  laidMet_of_run' 8 (by kernel_rfl) (by kernel_rfl)
theorem reads (os : Os) {H : Type} (enc : TypeId × Value → H) : ∃ places, DataW.whole enc Tryz.prog ((laidWorld os).forCall (fun _ _ => 0) ⟨#[], #[.slice none 0 0, .int .u8 0, .int .u8 0], []⟩).memory Tryz.f8.params.toList Rows.shipBadSpec.vars false (#[.slice none 0 0, .int .u8 0, .int .u8 0] : Array Value).toList 8 = some ([.nil, .lit (.int .u8 0), .lit (.int .u8 0)], [], places) :=
  ⟨[], by kernel_rfl⟩

set_option maxRecDepth 100000 in
theorem lifted (os : Os) (started : os.Started) (H : Type) (enc : TypeId × Value → H) (F : Stop.Interp) :
    ReturnsInHanded {} Tryz.checked os 8 .any ((OpenSpec.ofChange Rows.shipBadSpec).preRow enc Tryz.prog Tryz.f8 Rows.shipBadRow.domain false Rows.shipBadRow.laid) (((OpenSpec.ofChange Rows.shipBadSpec).at F).post enc Tryz.prog Tryz.f8 false true false false) := by
  obtain ⟨places, hx⟩ := reads os enc
  refine returnsInHanded_of_row (C := Tryz.checked) (s := OpenSpec.ofChange Rows.shipBadSpec) own started (by kernel_rfl) Tryz.func8
    (witness_row_at (enc := enc) (C := Tryz.checked) false (laidWorld os) #[.slice none 0 0, .int .u8 0, .int .u8 0] rfl (by kernel_rfl) (by kernel_rfl) (by kernel_rfl)
      (OpenSpec.preRow_of_cond 8 hx (by kernel_rfl) (fun k hk => by cases hk) (by kernel_rfl) (laid_met os))) ?_
  intro W base args ds gs before hval0 hW _ _ _ hL _ _
  have hval : ∀ (j : Nat) t v, Tryz.f8.params[j]? = some t → args[j]? = some v → Value.okWide Tryz.prog W .any base t v := hval0
  have hW' := hW
  obtain ⟨p, q, hA0, hV, rfl, hfz, hnd⟩ := hW
  have hA : DataW.TrodAll enc Tryz.prog W 0 (fun _ => true) true Tryz.f8.params.toList args.toList ds p := hA0
  rw [Tryz.params8] at hA hval
  obtain ⟨v0, vs0, d0, ds0, p0, q0, hargs, rfl, rfl, h0, r0⟩ := trodAll_cons hA
  obtain ⟨v1, vs1, d1, ds1, p1, q1, rfl, rfl, rfl, h1, r1⟩ := trodAll_cons r0
  obtain ⟨v2, vs2, d2, ds2, p2, q2, rfl, rfl, rfl, h2, r2⟩ := trodAll_cons r1
  obtain ⟨rfl, rfl, rfl⟩ := trodAll_nil r2
  obtain rfl : args = #[v0, v1, v2] := by cases args; simp_all
  obtain ⟨rfl, rfl⟩ := trodVars_none hV
  obtain ⟨a0, len0, cap0, rfl⟩ := okWide_slice Tryz.underlying28 (hval 0 28 v0 rfl rfl)
  have k0 := h0
  have lt0 : ∀ x ∈ p0, x.block < W.heap.size := by obtain ⟨m, hm⟩ := k0; exact DataW.trod_lt m _ _ _ hm
  obtain ⟨l0, hN0, hF0⟩ : ∃ l : List (Ndl × Value), IsN W (.slice a0 len0 cap0) l ∧ ∀ x ∈ l, x.1.fits := by obtain ⟨fuel, hf⟩ := h0; exact ndls_of_trod (by simpa [Value.cells] using hf)
  obtain ⟨a1, rfl, rfl, rfl, w1⟩ := open_int Tryz.underlying5 (hval 1 5 v1 rfl rfl) h1
  obtain ⟨a2, rfl, rfl, rfl, w2⟩ := open_int Tryz.underlying5 (hval 2 5 v2 rfl rfl) h2
  clear hA0 hval0
  have hw := wf_u8 w1
  have hx := wf_u8 w2
  obtain ⟨k1, rfl⟩ := Int.eq_ofNat_of_zero_le hw.1
  obtain ⟨k2, rfl⟩ := Int.eq_ofNat_of_zero_le hx.1
  refine (shipBad_all _ l0 k1 k2 W hN0 hF0 (by omega) (by omega)).mono fun e W' ⟨he, bel⟩ => ?_
  subst he
  exact ⟨_, rfl, _, _, _, [], _, [], hW', trodAll_mk1 (shut_bool Tryz.underlying4 _), (trodAll_cons_mk (Below.trod laidOut (by kernel_rfl) (of_decide_eq_true (by kernel_rfl)) k0 bel lt0) (trodAll_cons_mk (shut_int Tryz.underlying5 w1) (trodAll_cons_mk (shut_int Tryz.underlying5 w2) trodAll_mk0))), rfl, bel.frame _, fun h => by cases h⟩

theorem over : Rows.ShipBadSaid :=
  OpenClaim.holds_of_cond 8 Tryz.f8 rfl rfl rfl rfl rfl rfl rfl ⟨rfl, rfl, rfl, rfl, rfl⟩ rfl rfl rfl rfl rfl (by kernel_rfl) Tryz.func8 (by kernel_rfl)
    (of_decide_eq_true (by kernel_rfl)) (by unfold Func.isWrapper; first | (rw [if_pos (by decide +kernel)]; kernel_rfl) | (rw [if_neg (by decide +kernel)]; exact ⟨rfl, rfl⟩))
    (fun os started H enc _ F => by rw [OpenClaim.pre_eq_preRow]; exact lifted os started H enc F)

theorem noStand : (Tryz.f8.params.toList.all fun t => !Tryz.prog.wantsStandIn t) = true := by kernel_rfl

set_option maxRecDepth 100000 in
theorem proved : Rows.ShipBadCardSaid :=
  Claim7.holds_tied_plain_at .later [] _ _ _ _ over (fun _ h => by cases h) (by kernel_rfl) (fun _ h => by cases h) shipBad_row_tie rfl ⟨rfl, rfl⟩ (by kernel_rfl) rfl
    (fun f fn hf hfn => by
      obtain rfl : f = 8 := Option.some.inj ((show Tryz.prog.funcNamed "corncrib/corncriblaw13.ShipBad" = some 8 by kernel_rfl).symm.trans hf) |>.symm
      obtain rfl : fn = Tryz.f8 := (Option.some.inj (Tryz.func8.symm.trans hfn)).symm
      refine ⟨by kernel_rfl, fun j t ht => ?_⟩
      have hm : t ∈ Tryz.f8.params.toList := Array.mem_toList_iff.2 (Array.mem_of_getElem? ht)
      have h := List.all_eq_true.1 noStand t hm
      show Tryz.prog.wantsStandIn t = false
      cases hw : Tryz.prog.wantsStandIn t with
      | false => rfl
      | true => rw [hw] at h; cases h)
    (by kernel_rfl)
#print axioms proved
end Go.Proofs.YtoblbipkkdiddaaGreatDoor.shipBad
