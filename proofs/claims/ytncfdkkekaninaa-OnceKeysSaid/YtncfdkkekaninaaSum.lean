/- Package sum by contracts. -/
import Derived.Test.YtncfdkkekaninaaCrc
import Derived.Test.YtncfdkkekaninaaPack
import Derived.Lib.SliceRun
set_option linter.unusedVariables false
set_option linter.unusedSimpArgs false
namespace Go.Proofs.Ytncfdkkekaninaa
open Go.RowKit Go.Cor

theorem ret_int {k : IntKind} {a b : Int} (h : a = b) : Ending.returned (.int k a) = .returned (.int k b) := by rw [h]

theorem step_bits {r b : Nat} (hr : r < 4294967296) (hb : b < 2) :
    bits .xor .u32 (r : Int) (b : Int) = ((r ^^^ b : Nat) : Int) ∧ bits .and .u32 ((r ^^^ b : Nat) : Int) 1 = (((r ^^^ b) % 2 : Nat) : Int) ∧ r ^^^ b < 4294967296 ∧ (r ^^^ b) / 2 = r / 2 ∧ (r ^^^ b) % 2 = (r + b) % 2 := by
  have hlt : r ^^^ b < 4294967296 := Nat.xor_lt_two_pow (n := 32) hr (by omega)
  refine ⟨u32_xor_nat r b hr (by omega), ?_, hlt, ?_, xor_mod2 r b⟩
  · have := u32_and_nat (r ^^^ b) 1 hlt (by decide)
    rw [nat_mask1] at this
    exact this
  · have := Nat.xor_div_two_pow (a := r) (b := b) (n := 1)
    rw [show (2 : Nat) ^ 1 = 2 from rfl, Nat.div_eq_of_lt hb, Nat.xor_zero] at this
    exact this
theorem step_yes {r b : Nat} (hr : r < 4294967296) (hb : b < 2) (h : (bits .and .u32 (bits .xor .u32 (r : Int) (b : Int)) 1 == 1) = true) :
    bits .xor .u32 (bits .xor .u32 (r : Int) (b : Int) / 2) 2197175160 = ((cstep r b : Nat) : Int) := by
  obtain ⟨h1, h2, h3, h4, h5⟩ := step_bits hr hb
  rw [h1, h2] at h
  have h' : (((r ^^^ b) % 2 : Nat) : Int) = 1 := by simpa using h
  rw [h1, show ((r ^^^ b : Nat) : Int) / 2 = ((r / 2 : Nat) : Int) from by omega]
  have e := u32_xor_nat (r / 2) 2197175160 (by omega) (by decide)
  rw [show ((2197175160 : Nat) : Int) = 2197175160 from rfl] at e
  rw [e, cstep, if_neg (by omega)]
theorem step_no {r b : Nat} (hr : r < 4294967296) (hb : b < 2) (h : (bits .and .u32 (bits .xor .u32 (r : Int) (b : Int)) 1 == 1) = false) :
    bits .xor .u32 (r : Int) (b : Int) / 2 = ((cstep r b : Nat) : Int) := by
  obtain ⟨h1, h2, h3, h4, h5⟩ := step_bits hr hb
  rw [h1, h2] at h
  have h' : ¬ (((r ^^^ b) % 2 : Nat) : Int) = 1 := by simpa using h
  rw [h1, cstep, if_pos (by omega)]
  omega

theorem csteps_mod_step (k r x m : Nat) (hm : Hid (m = x / 2 ^ k)) : m % 2 < 2 ∧ Hid (cstep (csteps k r x) (m % 2) = csteps (k + 1) r x) ∧ Hid (m / 2 = x / 2 ^ (k + 1)) := by
  refine ⟨by omega, ?_, ?_⟩
  · show _ = _
    rw [csteps_succ, hm.out]
  · show _ = _
    rw [hm.out, Nat.div_div_eq_div_mul, Nat.pow_succ]

theorem creg_snoc {r : Nat} {l : List UInt8} {i : Nat} (h : i < l.length) : creg r (l.take (i + 1)) = csteps 8 (creg r (l.take i)) (l.getD i 0).toNat := by
  rw [List.take_succ_eq_append_getElem h, creg_append, List.getD_eq_getElem?_getD, List.getElem?_eq_getElem h]
  rfl

theorem xor_ones (s : Nat) (h : s < 4294967296) : bits .xor .u32 IntKind.u32.max (s : Int) = ((4294967295 - s : Nat) : Int) := by
  have e := u32_xor_nat 4294967295 s (by decide) h
  rw [show ((4294967295 : Nat) : Int) = IntKind.u32.max from rfl] at e
  rw [e]
  congr 1
  apply Nat.eq_of_testBit_eq
  intro i
  rw [Nat.testBit_xor, show 4294967295 - s = 2 ^ 32 - (s + 1) from by omega, Nat.testBit_two_pow_sub_succ (n := 32) (by omega), show 4294967295 = 2 ^ 32 - 1 from rfl, Nat.testBit_two_pow_sub_one]
  by_cases hi : i < 32
  · simp [hi]
  · have : s.testBit i = false := Nat.testBit_lt_two_pow (Nat.lt_of_lt_of_le h (by
      have : 2 ^ 32 ≤ 2 ^ i := Nat.pow_le_pow_right (by decide) (by omega)
      omega))
    simp [hi, this]

/-- What is sealed. -/
def sealed (l : List UInt8) : List UInt8 := l ++ le (crc l) 4
theorem length_sealed (l : List UInt8) : (sealed l).length = l.length + 4 := by simp [sealed, length_le]
theorem great_4 : great 4 = 4294967295 := rfl

set_option maxHeartbeats 400000 in
theorem clone_any (v : Value) (l : List UInt8) (w : World) (hv : IsB w v l) (hl : l.length ≤ 1099511627776) :
    Calls Try.prog 33 #[v] w fun e w' =>
      ∃ v', e = .returned v' ∧ w'.ownsRow w.heap.size 5 1 v' l.length (bvs l) ∧ Below w.heap.size w w' := by
  obtain ⟨i0, hi, hz0, hz1, hz2⟩ := info_parts Try.infoU8
  have q22 : ∀ (w : World) (a : Option Addr) (n c n' c' : Nat), (binOp .eql 32 (.slice a n c) (.slice none n' c')).run Try.prog w = .ok (.bool a.isNone) w := fun w a n c n' c' => Lib.run_eql_slice_nil w _ _ a n c n' c' Try.underlying32
  have HV := Lib.hid hv
  obtain ⟨x, cap, rfl, hlc, hcm, hnc, hcell⟩ := hv
  clear hcell
  cases x with
  | none =>
    obtain rfl := hnc rfl
    obtain rfl : l = [] := List.eq_nil_of_length_eq_zero (by omega)
    go_enter Try.func33, Try.ntmps33
    go_wp2
    go_ret
    exact ⟨_, rfl, ⟨rfl, .inl ⟨rfl, rfl⟩⟩, Below.refl _ _⟩
  | some a =>
    clear hnc
    go_enter Try.func33, Try.ntmps33
    go_wp2_with (at_builtin; refine wpList_append_B (by rfl) _ _ 32 rfl w.heap.size 5 i0 Try.underlying32 hi hz0 hz1 hz2 _ [] 0 rfl (World.ownsRow_lit _ #[] 0 (Nat.le_refl _) (Nat.zero_le _) rfl) rfl _ l rfl (HV.out.mono ((Below.refl _ _).alloc (Nat.le_refl _) _) (Nat.le_refl _)) (by simp; omega) (by simp) ?_; intro v4 w4 hown4 hb4)
    go_ret
    exact ⟨_, rfl, by simpa using hown4, ((Below.refl _ _).alloc (Nat.le_refl _) _).trans hb4⟩

theorem num_tail (l : List UInt8) (h : 4 ≤ l.length) : ((l.drop (l.length - 4)).take 4) = l.drop (l.length - 4) := List.take_of_length_le (by simp; omega)

/-- Is the sum right? -/
def sumOk (l : List UInt8) : Prop := crc (l.take (l.length - 4)) = num (l.drop (l.length - 4))
theorem sealed_ok (l : List UInt8) : sumOk (sealed l) := by
  have h := crc_lt l
  have e1 : (sealed l).take ((sealed l).length - 4) = l := by rw [length_sealed]; exact List.take_left' (by omega)
  have e2 : (sealed l).drop ((sealed l).length - 4) = le (crc l) 4 := by rw [length_sealed]; exact List.drop_left' (by omega)
  unfold sumOk
  rw [e1, e2, num_le, Nat.mod_eq_of_lt (by omega)]

theorem num_tail_lt (l : List UInt8) (h : 4 ≤ l.length) : num (l.drop (l.length - 4)) < 4294967296 := by
  have := num_lt (l.drop (l.length - 4))
  rw [show (l.drop (l.length - 4)).length = 4 from by simp; omega] at this
  omega

end Go.Proofs.Ytncfdkkekaninaa
