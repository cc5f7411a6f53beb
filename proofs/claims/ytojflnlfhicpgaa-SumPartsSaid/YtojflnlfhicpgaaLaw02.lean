/- The statements of layer 2 (sum): the walks. -/
import Derived.Test.YtojflnlfhicpgaaSum
import Derived.Test.YtojflnlfhicpgaaRef02
import Derived.Test.YtojflnlfhicpgaaErrs
import Derived.Deep.DeepMust
import Derived.Deep.RegionWith
import Derived.Deep.CutRange
namespace Go.Proofs.Ytojflnlfhicpgaa
open Go.RowKit Go.Cor

set_option maxHeartbeats 400000 in
theorem alive2_any (w : World) :
    Calls Try.prog 7 #[] w fun e w' => e = .returned (.bool true) ∧ Below w.heap.size w w' := by
  go_enter Try.func7, Try.ntmps7
  go_wp2_with fail
  refine (open_short _ [1, 2, 3] _ ?_ (by decide)).mono ?_
  · exact IsB.litAt (w.alloc _) [1, 2, 3] 5 _ _ (by decide) (by simp) rfl
  rintro e w1 ⟨rfl, rfl⟩
  go_wp2_with fail
  refine (of_any _ [49, 50, 51, 52, 53, 54, 55, 56, 57] _ ?_ (by decide)).mono ?_
  · exact (IsB.lit w [49, 50, 51, 52, 53, 54, 55, 56, 57] 5 (by decide)).mono ((Below.refl _ _).alloc (Nat.le_refl _) _) (Nat.le_refl _)
  rintro e w1 ⟨rfl, rfl⟩
  rw [crc_123456789]
  go_wp2_with fail
  refine (code_code 3 _ (by decide) (by decide)).mono ?_
  rintro e w1 ⟨rfl, rfl⟩
  go_wp2
  go_ret
  exact ⟨rfl, ((Below.refl _ _).alloc (Nat.le_refl _) _).alloc (by simp) _⟩

theorem sealed_take (l : List UInt8) : (sealed l).take l.length = l := List.take_left' rfl
theorem flip_byte (y : Nat) (hy : y < 256) (i : Nat) : ∃ z : UInt8, bits .xor .u8 (y : Int) (2 ^ (i % 8) % 256) = (z.toNat : Int) ∧ z.toNat ≠ y := by
  have hp : 2 ^ (i % 8) < 2 ^ 8 := Nat.pow_lt_pow_right (by decide) (Nat.mod_lt _ (by decide))
  have hp0 : 0 < 2 ^ (i % 8) := Nat.pow_pos (by decide)
  have hx : y ^^^ 2 ^ (i % 8) < 256 := Nat.xor_lt_two_pow (n := 8) hy hp
  refine ⟨UInt8.ofNat (y ^^^ 2 ^ (i % 8)), ?_, ?_⟩
  · have e := u8_xor_nat y (2 ^ (i % 8)) hy hp
    have e2 : ((2 ^ (i % 8) : Nat) : Int) = (2 : Int) ^ (i % 8) % 256 := by
      have : (2 : Int) ^ (i % 8) = ((2 ^ (i % 8) : Nat) : Int) := by simp
      rw [this]
      omega
    rw [← e2, e, UInt8.toNat_ofNat', Nat.mod_eq_of_lt hx]
  · rw [UInt8.toNat_ofNat', Nat.mod_eq_of_lt hx]
    intro h
    have : y ^^^ 2 ^ (i % 8) = y ^^^ 0 := by rw [h, Nat.xor_zero]
    have := xor_cancel_left this
    omega
theorem split_at (l : List UInt8) (q : Nat) (h : q < l.length) : l = l.take q ++ [l.getD q 0] ++ l.drop (q + 1) := by
  rw [List.append_assoc, List.singleton_append, List.getD_eq_getElem?_getD, List.getElem?_eq_getElem h]
  simp
theorem flipped_bad (l : List UInt8) (q : Nat) (z : UInt8) (hq : q < l.length + 4) (hz : z.toNat ≠ ((sealed l).getD q 0).toNat) : ¬ sumOk ((sealed l).set q z) := by
  intro h
  unfold sumOk at h
  rw [List.length_set, length_sealed, Nat.add_sub_cancel] at h
  by_cases hql : q < l.length
  · have e1 : ((sealed l).set q z).take l.length = l.set q z := by rw [sealed, List.set_append_left _ _ hql, List.take_left' (by simp)]
    have e2 : ((sealed l).set q z).drop l.length = le (crc l) 4 := by rw [sealed, List.set_append_left _ _ hql, List.drop_left' (by simp)]
    have hc := crc_lt l
    rw [e1, e2, num_le, Nat.mod_eq_of_lt (by omega)] at h
    have e3 : l.set q z = l.take q ++ [z] ++ l.drop (q + 1) := by rw [List.set_eq_take_append_cons_drop, if_pos hql]; simp
    have hs := split_at l q hql
    rw [e3] at h
    have h' : crc (l.take q ++ [z] ++ l.drop (q + 1)) = crc (l.take q ++ [l.getD q 0] ++ l.drop (q + 1)) := by rw [← hs]; exact h
    have := crc_burst _ [z] [l.getD q 0] _ (by simp) rfl h'
    have e4 : (sealed l).getD q 0 = l.getD q 0 := by rw [sealed, List.getD_eq_getElem?_getD, List.getElem?_append_left hql, List.getD_eq_getElem?_getD]
    rw [e4] at hz
    simp at this
    exact hz (by rw [this, List.getD_eq_getElem?_getD])
  · have e1 : ((sealed l).set q z).take l.length = l := by rw [sealed, List.set_append_right _ _ (by omega), List.take_left' rfl]
    have e2 : ((sealed l).set q z).drop l.length = (le (crc l) 4).set (q - l.length) z := by rw [sealed, List.set_append_right _ _ (by omega), List.drop_left' rfl]
    have hc := crc_lt l
    rw [e1, e2] at h
    have e3 := le_num ((le (crc l) 4).set (q - l.length) z)
    rw [← h, List.length_set, length_le] at e3
    have hlt : q - l.length < (le (crc l) 4).length := by rw [length_le]; omega
    have e4 : (le (crc l) 4).getD (q - l.length) 0 = z := by
      conv => lhs; rw [e3]
      rw [List.getD_eq_getElem?_getD, List.getElem?_set_self hlt]
      rfl
    have e5 : (sealed l).getD q 0 = (le (crc l) 4).getD (q - l.length) 0 := by
      rw [sealed, List.getD_eq_getElem?_getD, List.getElem?_append_right (by omega), List.getD_eq_getElem?_getD]
    rw [e5, e4] at hz
    exact hz rfl
theorem bvs_set (l : List UInt8) (q : Nat) (z : UInt8) : (bvs l).set q (.int .u8 (z.toNat : Int)) = bvs (l.set q z) := by
  simp [bvs, List.map_set]

set_option maxHeartbeats 800000 in
theorem sumTells_any (v : Value) (l : List UInt8) (a : Nat) (w : World) (hv : IsB w v l) (ha : a < 65536) (hl : l.length ≤ 1000) :
    Calls Try.prog 4 #[v, .int .u16 a] w fun e w' => e = .returned (.bool true) ∧ Below w.heap.size w w' := by
  have HV := Lib.hid hv
  obtain ⟨n, hn⟩ : ∃ n : Nat, l.length = n := ⟨_, rfl⟩
  obtain ⟨x, cap, rfl, hlc, hcm⟩ := hv.at_len hn
  clear hv
  rw [hn] at hl
  obtain ⟨i, hi⟩ : ∃ i : Nat, i = a % (8 * (n + 4)) := ⟨_, rfl⟩
  have hib : i < 8 * (n + 4) := by rw [hi]; exact Nat.mod_lt _ (by omega)
  have hq : i / 8 < n + 4 := by omega
  have hii : (a : Int) % (8 * ((n : Int) + 4)) = (i : Int) := by rw [hi]; simp
  have HN := Lib.hid hn
  clear hn hi
  go_enter Try.func4, Try.ntmps4
  go_wp2_with fail
  refine (alive2_any _).mono ?_
  rintro e w1 ⟨rfl, hb1⟩
  go_wp2_with fail
  refine (seal_any _ l _ (HV.out.mono hb1 (Nat.le_refl _)) (by rw [HN.out]; omega)).mono ?_
  rintro e w2 ⟨g, cap2, rfl, hown2, hg1, hg2, hb2⟩
  rw [HN.out] at hown2 ⊢
  have HO2 := Lib.hid hown2
  clear hown2
  go_wp2_with fail
  refine (open_ok _ (sealed l) _ (IsB.own HO2.out (by rw [length_sealed, HN.out])) (by rw [length_sealed, HN.out]; omega) (by rw [length_sealed]; omega) (sealed_ok l)).mono ?_
  rintro e w3 ⟨v3, rfl, hown3, hb3⟩
  have hO2 := ownsRow_below HO2.out hb3 (Nat.le_refl _)
  obtain ⟨y, hy⟩ : ∃ y : Nat, y = ((sealed l).getD (i / 8) 0).toNat := ⟨_, rfl⟩
  have hy8 : y < 256 := by rw [hy]; exact UInt8.toNat_lt _
  have hcell : w3.cell? ⟨g, i / 8, none⟩ = some (.int .u8 (y : Int)) := by rw [hO2.cellAt (i / 8) (by omega), bvs_get (by rw [length_sealed, HN.out]; omega), hy]
  have HY := Lib.hid hy
  clear hy
  have hfroz := hO2.frozenAt (i / 8)
  have HO3 := Lib.hid hO2
  clear hO2
  obtain ⟨z, hz, hzne⟩ := flip_byte y hy8 i
  have hO4 := (HO3.out.stored (i / 8) (.int .u8 (z.toNat : Int))).1
  rw [bvs_set] at hO4
  have hb4 : Below w1.heap.size w3 (w3.setCell ⟨g, i / 8, none⟩ (.int .u8 (z.toNat : Int))) := (Below.refl _ _).setCell hg1 _
  have HB := Lib.hid (flipped_bad l (i / 8) z (by rw [HN.out]; exact hq) (by rw [← HY.out]; exact hzne))
  have HO4 := Lib.hid hO4
  have HX := Lib.hid (IsB.own (ownsRow_setCell_below hown3 (a := ⟨g, i / 8, none⟩) hg2 (.int .u8 (z.toNat : Int))) (by rw [List.length_take, length_sealed]; omega))
  have HZ := Lib.hid hz
  have hbe : Below w.heap.size w (w3.setCell ⟨g, i / 8, none⟩ (.int .u8 (z.toNat : Int))) := hb1.trans (((hb2.trans (hb3.mono hb2.size)).trans hb4).mono hb1.size)
  clear hO4 hz hown3 hb4 HO3 hzne
  go_wp2_with fail
  rw [HZ.out]
  refine (open_bad _ ((sealed l).set (i / 8) z) _ (IsB.own HO4.out (by rw [List.length_set, length_sealed, HN.out])) (by rw [List.length_set, length_sealed, HN.out]; omega) (by rw [List.length_set, length_sealed]; omega) HB.out).mono ?_
  rintro e w5 ⟨rfl, rfl⟩
  go_wp2_with fail
  refine (code_nil _).mono ?_
  rintro e w5 ⟨rfl, rfl⟩
  go_wp2_with fail
  refine (same_yes _ _ l _ (by rw [length_sealed, Nat.add_sub_cancel, sealed_take] at HX; exact HX.out) (HV.out.mono hbe (Nat.le_refl _)) (by rw [HN.out]; omega)).mono ?_
  rintro e w5 ⟨rfl, nd, rfl⟩
  go_wp2_with fail
  refine (code_code 5 _ (by decide) (by decide)).mono ?_
  rintro e w5 ⟨rfl, rfl⟩
  go_wp2
  go_ret
  exact ⟨rfl, below_drewN hbe nd⟩

end Go.Proofs.Ytojflnlfhicpgaa
