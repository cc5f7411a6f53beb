/- The statements of layer 3 (needle): the needle of any bytes. -/
import Derived.Test.YteibolajnjdpmaaLaw03
namespace Go.Proofs.Yteibolajnjdpmaa
open Go.RowKit Go.Cor

theorem needleGets_long (v : Value) (l : List UInt8) (w : World) (hv : IsB w v l) (h : 6000 < l.length) :
    Calls Try.prog 4 #[v] w fun e w' => e = .returned (.bool true) ∧ Below w.heap.size w w' := by
  obtain ⟨n, hn⟩ : ∃ n : Nat, l.length = n := ⟨_, rfl⟩
  obtain ⟨x, cap, rfl, hlc, hcm⟩ := hv.at_len hn
  unfold maxLen at hcm
  rw [hn] at h
  clear hv hn
  go_enter Try.func4, Try.ntmps4
  go_wp2_with fail
  refine (alive3_any _).mono ?_
  rintro e w1 ⟨rfl, hb1⟩
  go_wp2
  go_ret
  exact ⟨rfl, hb1⟩

set_option maxRecDepth 100000 in
set_option maxHeartbeats 1000000 in
theorem needleGets_any (v : Value) (l : List UInt8) (w : World) (hv : IsB w v l) (h : l.length ≤ 6000) :
    Calls Try.prog 4 #[v] w fun e w' => e = .returned (.bool true) ∧ Below w.heap.size w w' := by
  obtain ⟨n, hn⟩ : ∃ n : Nat, l.length = n := ⟨_, rfl⟩
  have HV := Lib.hid hv
  obtain ⟨x, cap, rfl, hlc, hcm⟩ := hv.at_len hn
  rw [hn] at h
  have HN := Lib.hid hn
  have HC5 := getCode_le l
  obtain ⟨N, hN⟩ : ∃ N, resN l = N := ⟨_, rfl⟩
  obtain ⟨K, hK⟩ : ∃ K, resK l = K := ⟨_, rfl⟩
  obtain ⟨C, hC⟩ : ∃ C, getCode l = C := ⟨_, rfl⟩
  obtain ⟨L, hL⟩ : ∃ L, N.data.length = L := ⟨_, rfl⟩
  have hLb : N.data.length ≤ 1099511627776 := by
    rw [← hN]
    unfold resN
    split
    · show (dataOf l).length ≤ _
      unfold dataOf
      rw [List.length_take, List.length_drop]
      omega
    · exact Nat.zero_le _
  rw [hC] at HC5
  have HE := Lib.hid (And.intro hN (And.intro hK (And.intro hC hL)))
  have HLb := Lib.hid hLb
  clear hv hn hN hK hC hLb
  have HL := Lib.hid hL
  clear hL
  go_enter Try.func4, Try.ntmps4
  go_wp2_with fail
  refine (alive3_any _).mono ?_
  rintro e w1 ⟨rfl, hb1⟩
  have HW1 := Lib.hid hb1
  clear hb1
  go_wp2_with fail
  refine (get_any _ l _ (HV.out.mono HW1.out (Nat.le_refl _)) (by rw [HN.out]; omega)).mono ?_
  rintro e w2 ⟨x2, c2, rfl, hown2, hb2⟩
  rw [HE.out.1, HL.out] at hown2
  rw [HE.out.1, HE.out.2.1, HE.out.2.2.1, HL.out]
  have HB2 := Lib.hid (IsB.own hown2 HL.out.symm)
  have HW2 := Lib.hid (HW1.out.trans (hb2.mono HW1.out.size))
  clear hown2 hb2
  go_wp2_with fail
  refine (refget_any _ l _ (HV.out.mono (HW2.out.alloc HW2.out.size _) (Nat.le_refl _)) (by rw [HN.out]; omega)).mono ?_
  rintro e w3 ⟨x3, c3, rfl, hB3, hb3⟩
  rw [HE.out.1, HL.out] at hB3
  rw [HE.out.1, HE.out.2.1, HE.out.2.2.1, HL.out]
  have HB3 := Lib.hid hB3
  obtain ⟨q0, q1, q2, q3⟩ := box_at hb3
  have hbw : Below w2.heap.size w2 w3 := ((Below.refl w2.heap.size w2).alloc (Nat.le_refl _) _).trans (hb3.mono (by simp))
  have HB2' := Lib.hid (HB2.out.mono hbw (Nat.le_refl _))
  have HW3 := Lib.hid (HW2.out.trans (hbw.mono HW2.out.size))
  have hs3 : w2.heap.size < w3.heap.size := Nat.lt_of_lt_of_le (by simp) hb3.size
  clear hB3 hb3 hbw
  go_wp2_with fail
  refine (code_cerr C _ (by omega)).mono ?_
  rintro e w' ⟨rfl, rfl⟩
  go_wp2_with fail
  refine (refsame_any N N _ _ _ (HB2'.out.mono ((Below.refl _ _).alloc (Nat.le_refl _) _) (Nat.le_refl _)) (HB3.out.mono ((Below.refl _ _).alloc (Nat.le_refl _) _) (Nat.le_refl _)) HLb.out).mono ?_
  rintro e w4 ⟨rfl, hb4⟩
  rw [sameN_self]
  have HW4 := Lib.hid ((HW3.out.alloc HW3.out.size _).trans (hb4.mono (Nat.le_trans HW3.out.size (by simp))))
  clear hb4
  go_wp2
  go_ret
  exact ⟨rfl, HW4.out⟩

theorem needleGets_all (v : Value) (l : List UInt8) (w : World) (hv : IsB w v l) :
    Calls Try.prog 4 #[v] w fun e w' => e = .returned (.bool true) ∧ Below w.heap.size w w' := by
  by_cases h : 6000 < l.length
  · exact needleGets_long v l w hv h
  · exact needleGets_any v l w hv (by omega)

end Go.Proofs.Yteibolajnjdpmaa
