/- CRC-32C over natural numbers: steps, bytes, and what turns of bits do. Of no program. -/
import Derived.Test.YtncfdkkekaninaaBytes
set_option linter.unusedVariables false
set_option linter.unusedSimpArgs false
namespace Go.Cor

/-- A step with a bit. -/
def cstep (r b : Nat) : Nat := if r % 2 = b then r / 2 else (r / 2) ^^^ 2197175160
/-- n steps with the lowest n bits of x. -/
def csteps : Nat → Nat → Nat → Nat
  | 0, r, _ => r
  | n + 1, r, x => csteps n (cstep r (x % 2)) (x / 2)
/-- All bytes. -/
def creg (r : Nat) (l : List UInt8) : Nat := l.foldl (fun r x => csteps 8 r x.toNat) r
/-- More of a sum. -/
def cmore (s : Nat) (l : List UInt8) : Nat := 4294967295 - creg (4294967295 - s) l
/-- The sum. -/
def crc (l : List UInt8) : Nat := cmore 0 l

theorem creg_nil (r : Nat) : creg r [] = r := rfl
theorem creg_cons (r : Nat) (x : UInt8) (l : List UInt8) : creg r (x :: l) = creg (csteps 8 r x.toNat) l := rfl
theorem creg_append (r : Nat) (l m : List UInt8) : creg r (l ++ m) = creg (creg r l) m := by simp [creg]

theorem cstep_lt {r : Nat} (b : Nat) (h : r < 4294967296) : cstep r b < 4294967296 := by
  unfold cstep
  split
  · omega
  · exact Nat.xor_lt_two_pow (n := 32) (by omega) (by decide)
theorem csteps_lt (n : Nat) {r : Nat} (x : Nat) (h : r < 4294967296) : csteps n r x < 4294967296 := by
  induction n generalizing r x with
  | zero => exact h
  | succ n ih => exact ih _ (cstep_lt _ h)
theorem creg_lt {r : Nat} (l : List UInt8) (h : r < 4294967296) : creg r l < 4294967296 := by
  induction l generalizing r with
  | nil => exact h
  | cons x l ih => exact ih (csteps_lt _ _ h)
theorem cmore_lt (s : Nat) (l : List UInt8) : cmore s l < 4294967296 := by unfold cmore; omega
theorem crc_lt (l : List UInt8) : crc l < 4294967296 := cmore_lt 0 l

theorem cmore_more (s : Nat) (l m : List UInt8) : cmore (cmore s l) m = cmore s (l ++ m) := by
  have h := creg_lt (r := 4294967295 - s) l (by omega)
  unfold cmore
  rw [creg_append, show 4294967295 - (4294967295 - creg (4294967295 - s) l) = creg (4294967295 - s) l from by omega]
theorem cmore_nil (s : Nat) (h : s < 4294967296) : cmore s [] = s := by unfold cmore; rw [creg_nil]; omega
theorem crc_append (l m : List UInt8) : crc (l ++ m) = cmore (crc l) m := (cmore_more 0 l m).symm

theorem csteps_succ (n r x : Nat) : csteps (n + 1) r x = cstep (csteps n r x) (x / 2 ^ n % 2) := by
  induction n generalizing r x with
  | zero => simp [csteps]
  | succ n ih =>
    rw [csteps, ih, csteps, Nat.div_div_eq_div_mul, Nat.pow_succ, Nat.mul_comm 2]

/-- A step loses nothing. -/
theorem xor_mod2 (a b : Nat) : (a ^^^ b) % 2 = (a + b) % 2 := by
  have h := Nat.xor_mod_two_pow (a := a) (b := b) (n := 1)
  rw [show (2 : Nat) ^ 1 = 2 from rfl] at h
  rw [h]
  rcases Nat.mod_two_eq_zero_or_one a with ha | ha <;> rcases Nat.mod_two_eq_zero_or_one b with hb | hb <;> rw [ha, hb]
  all_goals
    simp
    omega
theorem xor_cancel_right {a b c : Nat} (h : a ^^^ c = b ^^^ c) : a = b := by
  have e : (a ^^^ c) ^^^ c = (b ^^^ c) ^^^ c := by rw [h]
  simpa [Nat.xor_assoc] using e
theorem xor_cancel_left {a b c : Nat} (h : c ^^^ a = c ^^^ b) : a = b := by
  rw [Nat.xor_comm c a, Nat.xor_comm c b] at h
  exact xor_cancel_right h
theorem cstep_inj {r s : Nat} (b : Nat) (hr : r < 4294967296) (hs : s < 4294967296) (hb : b < 2) (h : cstep r b = cstep s b) : r = s := by
  have top : ∀ x, x < 2147483648 → (x ^^^ 2197175160) / 2147483648 = 1 := fun x hx => by
    rw [show 2147483648 = 2 ^ 31 from rfl, Nat.xor_div_two_pow, Nat.div_eq_of_lt (by omega)]
    decide
  unfold cstep at h
  split at h <;> split at h
  · omega
  · exfalso
    have := top (s / 2) (by omega)
    rw [← h] at this
    omega
  · exfalso
    have := top (r / 2) (by omega)
    rw [h] at this
    omega
  · have := xor_cancel_right h
    omega
theorem csteps_inj (n : Nat) {r s : Nat} (x : Nat) (hr : r < 4294967296) (hs : s < 4294967296) (h : csteps n r x = csteps n s x) : r = s := by
  induction n generalizing r s x with
  | zero => exact h
  | succ n ih => exact cstep_inj _ hr hs (by omega) (ih _ (cstep_lt _ hr) (cstep_lt _ hs) h)
theorem creg_inj {r s : Nat} (l : List UInt8) (hr : r < 4294967296) (hs : s < 4294967296) (h : creg r l = creg s l) : r = s := by
  induction l generalizing r s with
  | nil => exact h
  | cons x l ih => exact csteps_inj 8 _ hr hs (ih (csteps_lt _ _ hr) (csteps_lt _ _ hs) h)

/-- Bits may be laid into the register ahead of the steps. -/
theorem cstep_ahead (r x : Nat) : cstep (r ^^^ x) 0 = cstep r (x % 2) ^^^ (x / 2) := by
  have h1 := xor_mod2 r x
  have h2 : (r ^^^ x) / 2 = (r / 2) ^^^ (x / 2) := by
    have := Nat.xor_div_two_pow (a := r) (b := x) (n := 1)
    simpa using this
  unfold cstep
  rw [h2]
  by_cases h : r % 2 = x % 2
  · rw [if_pos (by omega), if_pos h]
  · rw [if_neg (by omega), if_neg h, Nat.xor_assoc, Nat.xor_assoc, Nat.xor_comm (x / 2)]
theorem csteps_ahead (n r x : Nat) : csteps n (r ^^^ x) 0 = csteps n r x ^^^ (x / 2 ^ n) := by
  induction n generalizing r x with
  | zero => simp [csteps]
  | succ n ih =>
    show csteps n (cstep (r ^^^ x) (0 % 2)) (0 / 2) = csteps n (cstep r (x % 2)) (x / 2) ^^^ _
    rw [Nat.zero_mod, Nat.zero_div, cstep_ahead, ih, Nat.div_div_eq_div_mul, Nat.pow_succ, Nat.mul_comm 2]
theorem csteps_add (n m r x : Nat) : csteps (n + m) r x = csteps m (csteps n r x) (x / 2 ^ n) := by
  induction n generalizing r x with
  | zero => simp [csteps]
  | succ n ih =>
    rw [Nat.add_right_comm, csteps, ih, csteps, Nat.div_div_eq_div_mul, Nat.pow_succ, Nat.mul_comm 2]
theorem csteps_mod (n r x y : Nat) (h : x % 2 ^ n = y % 2 ^ n) : csteps n r x = csteps n r y := by
  induction n generalizing r x y with
  | zero => rfl
  | succ n ih =>
    rw [csteps, csteps]
    have h1 : x % 2 = y % 2 := by
      have hd : (2 : Nat) ∣ 2 ^ (n + 1) := ⟨2 ^ n, by rw [Nat.pow_succ, Nat.mul_comm]⟩
      have e1 := Nat.mod_mod_of_dvd x hd
      have e2 := Nat.mod_mod_of_dvd y hd
      rw [← e1, h, e2]
    have h2 : x / 2 % 2 ^ n = y / 2 % 2 ^ n := by
      rw [Nat.pow_succ, Nat.mul_comm] at h
      have e1 := Nat.mod_mul_right_div_self x 2 (2 ^ n)
      have e2 := Nat.mod_mul_right_div_self y 2 (2 ^ n)
      rw [← e1, h, e2]
    rw [h1]
    exact ih _ _ _ h2
/-- All bytes are the steps of their number. -/
theorem creg_num (r : Nat) (l : List UInt8) : creg r l = csteps (8 * l.length) r (num l) := by
  induction l generalizing r with
  | nil => rfl
  | cons x l ih =>
    have hx := x.toNat_lt
    rw [creg_cons, ih, List.length_cons, show 8 * (l.length + 1) = 8 + 8 * l.length from by omega, csteps_add]
    have h1 : num (x :: l) / 2 ^ 8 = num l := by show (x.toNat + 256 * num l) / 256 = _; omega
    have h2 : csteps 8 r (num (x :: l)) = csteps 8 r x.toNat := csteps_mod 8 _ _ _ (by show (x.toNat + 256 * num l) % 256 = x.toNat % 256; omega)
    rw [h1, h2]
/-- Up to four bytes: unlike bytes have unlike registers. -/
theorem creg_burst (r : Nat) (l m : List UInt8) (hl : l.length ≤ 4) (hlm : l.length = m.length) (hr : r < 4294967296) (h : creg r l = creg r m) : l = m := by
  have b1 := num_lt l
  have b2 := num_lt m
  rw [← hlm] at b2
  have b3 : 256 ^ l.length ≤ 256 ^ 4 := Nat.pow_le_pow_right (by decide) hl
  have b4 : (256 : Nat) ^ 4 = 4294967296 := by decide
  have p : (2 : Nat) ^ (8 * l.length) = 256 ^ l.length := by rw [Nat.pow_mul]
  rw [creg_num, creg_num, ← hlm] at h
  have e1 := csteps_ahead (8 * l.length) r (num l)
  have e2 := csteps_ahead (8 * l.length) r (num m)
  rw [p, Nat.div_eq_of_lt b1, Nat.xor_zero] at e1
  rw [p, Nat.div_eq_of_lt b2, Nat.xor_zero] at e2
  rw [← e1, ← e2] at h
  have e := csteps_inj _ _ (Nat.xor_lt_two_pow (n := 32) hr (by omega)) (Nat.xor_lt_two_pow (n := 32) hr (by omega)) h
  have e' := xor_cancel_left e
  rw [← le_num l, ← le_num m, e', hlm]
/-- Two texts that differ in four bytes in a row alone have unlike sums. -/
theorem crc_burst (p l m q : List UInt8) (hl : l.length ≤ 4) (hlm : l.length = m.length) (h : crc (p ++ l ++ q) = crc (p ++ m ++ q)) : l = m := by
  have a1 := creg_lt (r := 4294967295) (p ++ l ++ q) (by omega)
  have a2 := creg_lt (r := 4294967295) (p ++ m ++ q) (by omega)
  have e : creg 4294967295 (p ++ l ++ q) = creg 4294967295 (p ++ m ++ q) := by
    unfold crc cmore at h
    simp only [Nat.sub_zero] at h
    omega
  rw [creg_append, creg_append, creg_append, creg_append] at e
  have hp := creg_lt (r := 4294967295) p (by omega)
  exact creg_burst _ _ _ hl hlm hp (creg_inj q (creg_lt _ hp) (creg_lt _ hp) e)

theorem crc_123456789 : crc [49, 50, 51, 52, 53, 54, 55, 56, 57] = 3808858755 := by decide +kernel

end Go.Cor
