/- The statements of layer 2 (sum): the walks. -/
import Derived.Test.YtallmcminlnnaaaSum
import Derived.Test.YtallmcminlnnaaaRef02
import Derived.Test.YtallmcminlnnaaaErrs
import Derived.Deep.DeepMust
import Derived.Deep.RegionWith
import Derived.Deep.CutRange
set_option linter.unusedVariables false
set_option linter.unusedSimpArgs false
namespace Go.Proofs.Ytallmcminlnnaaa
open Go.RowKit Go.Cor

theorem sealed_take (l : List UInt8) : (sealed l).take l.length = l := List.take_left' rfl
theorem flip_byte (y : Nat) (hy : y < 256) (i : Nat) : ∃ z : UInt8, bits .xor .u8 (y : Int) (2 ^ (i % 8) % 256) = (z.toNat : Int) ∧ z.toNat ≠ y := by
  have hp : 2 ^ (i % 8) < 2 ^ 8 := Nat.pow_lt_pow_right (by decide) (Nat.mod_lt _ (by decide))
  have hp0 : 0 < 2 ^ (i % 8) := Nat.pow_pos (by decide)
  have hx : y ^^^ 2 ^ (i % 8) < 256 := Nat.xor_lt_two_pow (n := 8) hy hp
  refine ⟨UInt8.ofNat (y ^^^ 2 ^ (i % 8)), ?_, ?_⟩
  · have e := u8_xor_nat y (2 ^ (i % 8)) hy hp
    have e2 : ((2 ^ (i % 8) : Nat) : Int) = (2 : Int) ^ (i % 8) % 256 := by
      have : (2 : Int) ^ (i % 8) = ((2 ^ (i % 8) : Nat) : Int) := by simp
      rw [this]
      omega
    rw [← e2, e, UInt8.toNat_ofNat', Nat.mod_eq_of_lt hx]
  · rw [UInt8.toNat_ofNat', Nat.mod_eq_of_lt hx]
    intro h
    have : y ^^^ 2 ^ (i % 8) = y ^^^ 0 := by rw [h, Nat.xor_zero]
    have := xor_cancel_left this
    omega
theorem split_at (l : List UInt8) (q : Nat) (h : q < l.length) : l = l.take q ++ [l.getD q 0] ++ l.drop (q + 1) := by
  rw [List.append_assoc, List.singleton_append, List.getD_eq_getElem?_getD, List.getElem?_eq_getElem h]
  simp
theorem flipped_bad (l : List UInt8) (q : Nat) (z : UInt8) (hq : q < l.length + 4) (hz : z.toNat ≠ ((sealed l).getD q 0).toNat) : ¬ sumOk ((sealed l).set q z) := by
  intro h
  unfold sumOk at h
  rw [List.length_set, length_sealed, Nat.add_sub_cancel] at h
  by_cases hql : q < l.length
  · have e1 : ((sealed l).set q z).take l.length = l.set q z := by rw [sealed, List.set_append_left _ _ hql, List.take_left' (by simp)]
    have e2 : ((sealed l).set q z).drop l.length = le (crc l) 4 := by rw [sealed, List.set_append_left _ _ hql, List.drop_left' (by simp)]
    have hc := crc_lt l
    rw [e1, e2, num_le, Nat.mod_eq_of_lt (by omega)] at h
    have e3 : l.set q z = l.take q ++ [z] ++ l.drop (q + 1) := by rw [List.set_eq_take_append_cons_drop, if_pos hql]; simp
    have hs := split_at l q hql
    rw [e3] at h
    have h' : crc (l.take q ++ [z] ++ l.drop (q + 1)) = crc (l.take q ++ [l.getD q 0] ++ l.drop (q + 1)) := by rw [← hs]; exact h
    have := crc_burst _ [z] [l.getD q 0] _ (by simp) rfl h'
    have e4 : (sealed l).getD q 0 = l.getD q 0 := by rw [sealed, List.getD_eq_getElem?_getD, List.getElem?_append_left hql, List.getD_eq_getElem?_getD]
    rw [e4] at hz
    simp at this
    exact hz (by rw [this, List.getD_eq_getElem?_getD])
  · have e1 : ((sealed l).set q z).take l.length = l := by rw [sealed, List.set_append_right _ _ (by omega), List.take_left' rfl]
    have e2 : ((sealed l).set q z).drop l.length = (le (crc l) 4).set (q - l.length) z := by rw [sealed, List.set_append_right _ _ (by omega), List.drop_left' rfl]
    have hc := crc_lt l
    rw [e1, e2] at h
    have e3 := le_num ((le (crc l) 4).set (q - l.length) z)
    rw [← h, List.length_set, length_le] at e3
    have hlt : q - l.length < (le (crc l) 4).length := by rw [length_le]; omega
    have e4 : (le (crc l) 4).getD (q - l.length) 0 = z := by
      conv => lhs; rw [e3]
      rw [List.getD_eq_getElem?_getD, List.getElem?_set_self hlt]
      rfl
    have e5 : (sealed l).getD q 0 = (le (crc l) 4).getD (q - l.length) 0 := by
      rw [sealed, List.getD_eq_getElem?_getD, List.getElem?_append_right (by omega), List.getD_eq_getElem?_getD]
    rw [e5, e4] at hz
    exact hz rfl
theorem bvs_set (l : List UInt8) (q : Nat) (z : UInt8) : (bvs l).set q (.int .u8 (z.toNat : Int)) = bvs (l.set q z) := by
  simp [bvs, List.map_set]

end Go.Proofs.Ytallmcminlnnaaa
