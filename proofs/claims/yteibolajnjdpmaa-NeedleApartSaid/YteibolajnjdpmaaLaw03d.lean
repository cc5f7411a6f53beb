/- The statements of layer 3 (needle): unlike needles. -/
import Derived.Test.YteibolajnjdpmaaLaw03c
namespace Go.Proofs.Yteibolajnjdpmaa
open Go.RowKit Go.Cor

set_option maxRecDepth 100000 in
set_option maxHeartbeats 4000000 in
theorem needleApart_all (n m : Ndl) (vn vm : Value) (w : World) (hn : IsB w vn n.data) (hm : IsB w vm m.data) (hfn : n.fits) (hfm : m.fits) :
    Calls Try.prog 7 #[nval n vn, nval m vm] w fun e w' => e = .returned (.bool true) ∧ Below w.heap.size w w' := by
  have same1 := fun ha hb => sameN_bytes (a := n) (b := m) hfn hfm ha hb
  have same2 := sameN_comm m n
  have lenn : (nbytes n).length = 32 + n.data.length + padn n.data.length := length_nbytes n
  have lenm : (nbytes m).length = 32 + m.data.length + padn m.data.length := length_nbytes m
  obtain ⟨k1, c1, g1, l1⟩ := n
  obtain ⟨k2, c2, g2, l2⟩ := m
  have HVn := Lib.hid (show IsB w vn l1 from hn)
  have HVm := Lib.hid (show IsB w vm l2 from hm)
  have HFn := Lib.hid hfn
  have HFm := Lib.hid hfm
  obtain ⟨d1, hd1⟩ : ∃ d : Nat, l1.length = d := ⟨_, rfl⟩
  obtain ⟨d2, hd2⟩ : ∃ d : Nat, l2.length = d := ⟨_, rfl⟩
  obtain ⟨x1, cap1, rfl, hlc1, hcm1⟩ := IsB.at_len (l := l1) hn hd1
  obtain ⟨x2, cap2, rfl, hlc2, hcm2⟩ := IsB.at_len (l := l2) hm hd2
  clear hn hm hfn hfm
  by_cases hqn : ncheck ⟨k1, c1, g1, l1⟩ = 0
  · by_cases hqm : ncheck ⟨k2, c2, g2, l2⟩ = 0
    · have HQn := Lib.hid hqn
      have HQm := Lib.hid hqm
      have h1 : d1 ≤ 4096 := by rw [← hd1]; exact (ncheck_ok hqn).1
      have h2 : d2 ≤ 4096 := by rw [← hd2]; exact (ncheck_ok hqm).1
      obtain ⟨σ, hσ⟩ : ∃ σ : Bool, sameN ⟨k1, c1, g1, l1⟩ ⟨k2, c2, g2, l2⟩ = σ := ⟨_, rfl⟩
      have HSM := Lib.hid hσ
      have HSB := Lib.hid (show sameB (nbytes ⟨k1, c1, g1, l1⟩) (nbytes ⟨k2, c2, g2, l2⟩) = σ from by rw [← hσ]; exact same1 hqn hqm)
      have HSC := Lib.hid (show sameN ⟨k2, c2, g2, l2⟩ ⟨k1, c1, g1, l1⟩ = σ from by rw [← hσ]; exact same2)
      obtain ⟨L1, hL1⟩ : ∃ L : Nat, (nbytes ⟨k1, c1, g1, l1⟩).length = L := ⟨_, rfl⟩
      obtain ⟨L2, hL2⟩ : ∃ L : Nat, (nbytes ⟨k2, c2, g2, l2⟩).length = L := ⟨_, rfl⟩
      have HLn := Lib.hid hL1
      have HLm := Lib.hid hL2
      have e1 : L1 = 32 + d1 + padn d1 := by rw [← hL1, ← hd1]; exact lenn
      have e2 : L2 = 32 + d2 + padn d2 := by rw [← hL2, ← hd2]; exact lenm
      have b1 := padn_lt d1
      have b2 := padn_lt d2
      have hL15 : L1 ≤ 5000 := by omega
      have hL25 : L2 ≤ 5000 := by omega
      have hmono : d1 ≤ d2 → L1 ≤ L2 := by
        intro h
        rw [e1, e2]
        unfold padn
        omega
      clear same1 same2 lenn lenm hqn hqm hσ hL1 hL2 hd1 hd2 e1 e2 b1 b2
      by_cases hdd : d1 ≤ d2
      · have hLL := hmono hdd
        clear hmono
        go_enter Try.func7, Try.ntmps7
        go_wp2_with fail
        refine (alive3_any _).mono ?_
        rintro e w1 ⟨rfl, hb1⟩
        have hs1 : w.heap.size + 2 ≤ w1.heap.size := Nat.le_trans (by simp) hb1.size
        have HXn1 := Lib.hid ((Boxed.new w ⟨k1, c1, g1, l1⟩ (.slice x1 d1 cap1) 26).mono (((Below.refl _ _).alloc (Nat.le_refl _) _).trans (hb1.mono (by simp))) (by simp) : Boxed w1 w.heap.size ⟨k1, c1, g1, l1⟩ (.slice x1 d1 cap1))
        have HXm1 := Lib.hid ((Boxed.new2 w (ncells ⟨k1, c1, g1, l1⟩ (.slice x1 d1 cap1) 26) ⟨k2, c2, g2, l2⟩ (.slice x2 d2 cap2) 26).mono hb1 (by simp) : Boxed w1 (w.heap.size + 1) ⟨k2, c2, g2, l2⟩ (.slice x2 d2 cap2))
        have HW1 := Lib.hid (((((Below.refl w.heap.size w).alloc (Nat.le_refl _) _).alloc (by simp) _).trans (hb1.mono (by simp; omega))) : Below w.heap.size w w1)
        clear hb1
        obtain ⟨q0, q1, q2, q3⟩ := HXn1.out
        obtain ⟨p0, p1, p2, p3⟩ := HXm1.out
        go_wp2_with fail
        refine (refcheck_any ⟨k1, c1, g1, l1⟩ _ _ (HVn.out.mono HW1.out (Nat.le_refl _))).mono ?_
        rintro e w2 ⟨rfl, hb2⟩
        rw [HQn.out]
        clear q0 q1 q2 q3 p0 p1 p2 p3
        have hs2 : w.heap.size + 2 ≤ w2.heap.size := Nat.le_trans hs1 hb2.size
        have HXn2 := Lib.hid (HXn1.out.mono hb2 (by omega))
        have HXm2 := Lib.hid (HXm1.out.mono hb2 (by omega))
        have HW2 := Lib.hid (HW1.out.trans (hb2.mono (by omega)))
        clear hb2 HXn1 HXm1 HW1 hs1
        obtain ⟨q0, q1, q2, q3⟩ := HXn2.out
        obtain ⟨p0, p1, p2, p3⟩ := HXm2.out
        go_wp2_with fail
        refine (refcheck_any ⟨k2, c2, g2, l2⟩ _ _ (HVm.out.mono HW2.out (Nat.le_refl _))).mono ?_
        rintro e w3 ⟨rfl, hb3⟩
        rw [HQm.out]
        clear q0 q1 q2 q3 p0 p1 p2 p3
        have hs3 : w.heap.size + 2 ≤ w3.heap.size := Nat.le_trans hs2 hb3.size
        have HXn3 := Lib.hid (HXn2.out.mono hb3 (by omega))
        have HXm3 := Lib.hid (HXm2.out.mono hb3 (by omega))
        have HW3 := Lib.hid (HW2.out.trans (hb3.mono (by omega)))
        clear hb3 HXn2 HXm2 HW2 hs2
        obtain ⟨q0, q1, q2, q3⟩ := HXn3.out
        obtain ⟨p0, p1, p2, p3⟩ := HXm3.out
        go_wp2_with fail
        refine (put_okN ⟨k1, c1, g1, l1⟩ _ _ (HVn.out.mono HW3.out (Nat.le_refl _)) HFn.out HQn.out).mono ?_
        rintro e w4 ⟨v4, rfl, hown4, hb4⟩
        obtain ⟨x4, c4, rfl⟩ := ownsRow_slice hown4
        rw [HLn.out] at hown4 ⊢
        have HR4 := Lib.hid (IsB.own hown4 HLn.out.symm)
        clear hown4
        clear q0 q1 q2 q3 p0 p1 p2 p3
        have hs4 : w.heap.size + 2 ≤ w4.heap.size := Nat.le_trans hs3 hb4.size
        have HXn4 := Lib.hid (HXn3.out.mono hb4 (by omega))
        have HXm4 := Lib.hid (HXm3.out.mono hb4 (by omega))
        have HW4 := Lib.hid (HW3.out.trans (hb4.mono (by omega)))
        clear hb4 HXn3 HXm3 HW3 hs3
        obtain ⟨q0, q1, q2, q3⟩ := HXn4.out
        obtain ⟨p0, p1, p2, p3⟩ := HXm4.out
        go_wp2_with fail
        refine (put_okN ⟨k2, c2, g2, l2⟩ _ _ (HVm.out.mono HW4.out (Nat.le_refl _)) HFm.out HQm.out).mono ?_
        rintro e w5 ⟨v5, rfl, hown5, hb5⟩
        obtain ⟨x5, c5, rfl⟩ := ownsRow_slice hown5
        rw [HLm.out] at hown5 ⊢
        have HP5 := Lib.hid (IsB.own hown5 HLm.out.symm)
        have HR5 := Lib.hid (HR4.out.mono hb5 (Nat.le_refl _))
        clear hown5 HR4
        clear q0 q1 q2 q3 p0 p1 p2 p3
        have hs5 : w.heap.size + 2 ≤ w5.heap.size := Nat.le_trans hs4 hb5.size
        have HXn5 := Lib.hid (HXn4.out.mono hb5 (by omega))
        have HXm5 := Lib.hid (HXm4.out.mono hb5 (by omega))
        have HW5 := Lib.hid (HW4.out.trans (hb5.mono (by omega)))
        clear hb5 HXn4 HXm4 HW4 hs4
        obtain ⟨q0, q1, q2, q3⟩ := HXn5.out
        obtain ⟨p0, p1, p2, p3⟩ := HXm5.out
        go_wp2_with fail
        refine (nsame_any ⟨k1, c1, g1, l1⟩ ⟨k2, c2, g2, l2⟩ _ _ _ (HVn.out.mono HW5.out (Nat.le_refl _)) (HVm.out.mono HW5.out (Nat.le_refl _))).mono ?_
        rintro e w6 ⟨rfl, hb6⟩
        rw [HSM.out]
        have HP6 := Lib.hid (HP5.out.mono hb6 (Nat.le_refl _))
        have HR6 := Lib.hid (HR5.out.mono hb6 (Nat.le_refl _))
        clear HP5 HR5
        clear q0 q1 q2 q3 p0 p1 p2 p3
        have hs6 : w.heap.size + 2 ≤ w6.heap.size := Nat.le_trans hs5 hb6.size
        have HXn6 := Lib.hid (HXn5.out.mono hb6 (by omega))
        have HXm6 := Lib.hid (HXm5.out.mono hb6 (by omega))
        have HW6 := Lib.hid (HW5.out.trans (hb6.mono (by omega)))
        clear hb6 HXn5 HXm5 HW5 hs5
        go_wp2_with fail
        refine (code_nil _).mono ?_
        rintro e w' ⟨rfl, rfl⟩
        go_wp2_with fail
        refine (code_nil _).mono ?_
        rintro e w' ⟨rfl, rfl⟩
        go_wp2_with fail
        refine (same_any _ _ (nbytes ⟨k1, c1, g1, l1⟩) (nbytes ⟨k2, c2, g2, l2⟩) _ HR6.out HP6.out (by rw [HLn.out]; omega)).mono ?_
        rintro e w7 ⟨rfl, nd, hw7⟩
        have hb7 : Below w6.heap.size w6 w7 := by rw [hw7]; exact below_drewN (Below.refl _ _) nd
        clear hw7
        rw [HSB.out]
        have hs7 : w.heap.size + 2 ≤ w7.heap.size := Nat.le_trans hs6 hb7.size
        have HXn7 := Lib.hid (HXn6.out.mono hb7 (by omega))
        have HXm7 := Lib.hid (HXm6.out.mono hb7 (by omega))
        have HW7 := Lib.hid (HW6.out.trans (hb7.mono (by omega)))
        clear hb7 HXn6 HXm6 HW6 hs6
        obtain ⟨q0, q1, q2, q3⟩ := HXn7.out
        obtain ⟨p0, p1, p2, p3⟩ := HXm7.out
        go_wp2_with fail
        refine (nsame_any ⟨k2, c2, g2, l2⟩ ⟨k1, c1, g1, l1⟩ _ _ _ (HVm.out.mono HW7.out (Nat.le_refl _)) (HVn.out.mono HW7.out (Nat.le_refl _))).mono ?_
        rintro e w8 ⟨rfl, hb8⟩
        rw [HSC.out]
        clear q0 q1 q2 q3 p0 p1 p2 p3
        have hs8 : w.heap.size + 2 ≤ w8.heap.size := Nat.le_trans hs7 hb8.size
        have HXn8 := Lib.hid (HXn7.out.mono hb8 (by omega))
        have HXm8 := Lib.hid (HXm7.out.mono hb8 (by omega))
        have HW8 := Lib.hid (HW7.out.trans (hb8.mono (by omega)))
        clear hb8 HXn7 HXm7 HW7 hs7
        go_wp2
        go_ret
        exact ⟨rfl, HW8.out⟩
      · have hdd' : d2 < d1 := by omega
        clear hmono hdd
        go_enter Try.func7, Try.ntmps7
        go_wp2_with fail
        refine (alive3_any _).mono ?_
        rintro e w1 ⟨rfl, hb1⟩
        have hs1 : w.heap.size + 2 ≤ w1.heap.size := Nat.le_trans (by simp) hb1.size
        have HXn1 := Lib.hid ((Boxed.new w ⟨k1, c1, g1, l1⟩ (.slice x1 d1 cap1) 26).mono (((Below.refl _ _).alloc (Nat.le_refl _) _).trans (hb1.mono (by simp))) (by simp) : Boxed w1 w.heap.size ⟨k1, c1, g1, l1⟩ (.slice x1 d1 cap1))
        have HXm1 := Lib.hid ((Boxed.new2 w (ncells ⟨k1, c1, g1, l1⟩ (.slice x1 d1 cap1) 26) ⟨k2, c2, g2, l2⟩ (.slice x2 d2 cap2) 26).mono hb1 (by simp) : Boxed w1 (w.heap.size + 1) ⟨k2, c2, g2, l2⟩ (.slice x2 d2 cap2))
        have HW1 := Lib.hid (((((Below.refl w.heap.size w).alloc (Nat.le_refl _) _).alloc (by simp) _).trans (hb1.mono (by simp; omega))) : Below w.heap.size w w1)
        clear hb1
        obtain ⟨q0, q1, q2, q3⟩ := HXn1.out
        obtain ⟨p0, p1, p2, p3⟩ := HXm1.out
        go_wp2_with fail
        refine (refcheck_any ⟨k1, c1, g1, l1⟩ _ _ (HVn.out.mono HW1.out (Nat.le_refl _))).mono ?_
        rintro e w2 ⟨rfl, hb2⟩
        rw [HQn.out]
        clear q0 q1 q2 q3 p0 p1 p2 p3
        have hs2 : w.heap.size + 2 ≤ w2.heap.size := Nat.le_trans hs1 hb2.size
        have HXn2 := Lib.hid (HXn1.out.mono hb2 (by omega))
        have HXm2 := Lib.hid (HXm1.out.mono hb2 (by omega))
        have HW2 := Lib.hid (HW1.out.trans (hb2.mono (by omega)))
        clear hb2 HXn1 HXm1 HW1 hs1
        obtain ⟨q0, q1, q2, q3⟩ := HXn2.out
        obtain ⟨p0, p1, p2, p3⟩ := HXm2.out
        go_wp2_with fail
        refine (refcheck_any ⟨k2, c2, g2, l2⟩ _ _ (HVm.out.mono HW2.out (Nat.le_refl _))).mono ?_
        rintro e w3 ⟨rfl, hb3⟩
        rw [HQm.out]
        clear q0 q1 q2 q3 p0 p1 p2 p3
        have hs3 : w.heap.size + 2 ≤ w3.heap.size := Nat.le_trans hs2 hb3.size
        have HXn3 := Lib.hid (HXn2.out.mono hb3 (by omega))
        have HXm3 := Lib.hid (HXm2.out.mono hb3 (by omega))
        have HW3 := Lib.hid (HW2.out.trans (hb3.mono (by omega)))
        clear hb3 HXn2 HXm2 HW2 hs2
        obtain ⟨q0, q1, q2, q3⟩ := HXn3.out
        obtain ⟨p0, p1, p2, p3⟩ := HXm3.out
        go_wp2_with fail
        refine (put_okN ⟨k1, c1, g1, l1⟩ _ _ (HVn.out.mono HW3.out (Nat.le_refl _)) HFn.out HQn.out).mono ?_
        rintro e w4 ⟨v4, rfl, hown4, hb4⟩
        obtain ⟨x4, c4, rfl⟩ := ownsRow_slice hown4
        rw [HLn.out] at hown4 ⊢
        have HR4 := Lib.hid (IsB.own hown4 HLn.out.symm)
        clear hown4
        clear q0 q1 q2 q3 p0 p1 p2 p3
        have hs4 : w.heap.size + 2 ≤ w4.heap.size := Nat.le_trans hs3 hb4.size
        have HXn4 := Lib.hid (HXn3.out.mono hb4 (by omega))
        have HXm4 := Lib.hid (HXm3.out.mono hb4 (by omega))
        have HW4 := Lib.hid (HW3.out.trans (hb4.mono (by omega)))
        clear hb4 HXn3 HXm3 HW3 hs3
        obtain ⟨q0, q1, q2, q3⟩ := HXn4.out
        obtain ⟨p0, p1, p2, p3⟩ := HXm4.out
        go_wp2_with fail
        refine (put_okN ⟨k2, c2, g2, l2⟩ _ _ (HVm.out.mono HW4.out (Nat.le_refl _)) HFm.out HQm.out).mono ?_
        rintro e w5 ⟨v5, rfl, hown5, hb5⟩
        obtain ⟨x5, c5, rfl⟩ := ownsRow_slice hown5
        rw [HLm.out] at hown5 ⊢
        have HP5 := Lib.hid (IsB.own hown5 HLm.out.symm)
        have HR5 := Lib.hid (HR4.out.mono hb5 (Nat.le_refl _))
        clear hown5 HR4
        clear q0 q1 q2 q3 p0 p1 p2 p3
        have hs5 : w.heap.size + 2 ≤ w5.heap.size := Nat.le_trans hs4 hb5.size
        have HXn5 := Lib.hid (HXn4.out.mono hb5 (by omega))
        have HXm5 := Lib.hid (HXm4.out.mono hb5 (by omega))
        have HW5 := Lib.hid (HW4.out.trans (hb5.mono (by omega)))
        clear hb5 HXn4 HXm4 HW4 hs4
        obtain ⟨q0, q1, q2, q3⟩ := HXn5.out
        obtain ⟨p0, p1, p2, p3⟩ := HXm5.out
        go_wp2_with fail
        refine (nsame_any ⟨k1, c1, g1, l1⟩ ⟨k2, c2, g2, l2⟩ _ _ _ (HVn.out.mono HW5.out (Nat.le_refl _)) (HVm.out.mono HW5.out (Nat.le_refl _))).mono ?_
        rintro e w6 ⟨rfl, hb6⟩
        rw [HSM.out]
        have HP6 := Lib.hid (HP5.out.mono hb6 (Nat.le_refl _))
        have HR6 := Lib.hid (HR5.out.mono hb6 (Nat.le_refl _))
        clear HP5 HR5
        clear q0 q1 q2 q3 p0 p1 p2 p3
        have hs6 : w.heap.size + 2 ≤ w6.heap.size := Nat.le_trans hs5 hb6.size
        have HXn6 := Lib.hid (HXn5.out.mono hb6 (by omega))
        have HXm6 := Lib.hid (HXm5.out.mono hb6 (by omega))
        have HW6 := Lib.hid (HW5.out.trans (hb6.mono (by omega)))
        clear hb6 HXn5 HXm5 HW5 hs5
        go_wp2_with fail
        refine (code_nil _).mono ?_
        rintro e w' ⟨rfl, rfl⟩
        go_wp2_with fail
        refine (code_nil _).mono ?_
        rintro e w' ⟨rfl, rfl⟩
        go_wp2_with fail
        refine (same_any _ _ (nbytes ⟨k1, c1, g1, l1⟩) (nbytes ⟨k2, c2, g2, l2⟩) _ HR6.out HP6.out (by rw [HLn.out]; omega)).mono ?_
        rintro e w7 ⟨rfl, nd, hw7⟩
        have hb7 : Below w6.heap.size w6 w7 := by rw [hw7]; exact below_drewN (Below.refl _ _) nd
        clear hw7
        rw [HSB.out]
        have hs7 : w.heap.size + 2 ≤ w7.heap.size := Nat.le_trans hs6 hb7.size
        have HXn7 := Lib.hid (HXn6.out.mono hb7 (by omega))
        have HXm7 := Lib.hid (HXm6.out.mono hb7 (by omega))
        have HW7 := Lib.hid (HW6.out.trans (hb7.mono (by omega)))
        clear hb7 HXn6 HXm6 HW6 hs6
        obtain ⟨q0, q1, q2, q3⟩ := HXn7.out
        obtain ⟨p0, p1, p2, p3⟩ := HXm7.out
        go_wp2_with fail
        refine (nsame_any ⟨k2, c2, g2, l2⟩ ⟨k1, c1, g1, l1⟩ _ _ _ (HVm.out.mono HW7.out (Nat.le_refl _)) (HVn.out.mono HW7.out (Nat.le_refl _))).mono ?_
        rintro e w8 ⟨rfl, hb8⟩
        rw [HSC.out]
        clear q0 q1 q2 q3 p0 p1 p2 p3
        have hs8 : w.heap.size + 2 ≤ w8.heap.size := Nat.le_trans hs7 hb8.size
        have HXn8 := Lib.hid (HXn7.out.mono hb8 (by omega))
        have HXm8 := Lib.hid (HXm7.out.mono hb8 (by omega))
        have HW8 := Lib.hid (HW7.out.trans (hb8.mono (by omega)))
        clear hb8 HXn7 HXm7 HW7 hs7
        go_wp2
        go_ret
        exact ⟨rfl, HW8.out⟩
    · have HQn := Lib.hid hqn
      obtain ⟨q, hq⟩ : ∃ q : Nat, ncheck ⟨k2, c2, g2, l2⟩ = q := ⟨_, rfl⟩
      have HQm := Lib.hid hq
      have hqb : ((q : Int) != 0) = true := by rw [bne_iff_ne]; omega
      clear same1 same2 lenn lenm hqn hqm hq hd1 hd2
      go_enter Try.func7, Try.ntmps7
      go_wp2_with fail
      refine (alive3_any _).mono ?_
      rintro e w1 ⟨rfl, hb1⟩
      have hs1 : w.heap.size + 2 ≤ w1.heap.size := Nat.le_trans (by simp) hb1.size
      have HXn1 := Lib.hid ((Boxed.new w ⟨k1, c1, g1, l1⟩ (.slice x1 d1 cap1) 26).mono (((Below.refl _ _).alloc (Nat.le_refl _) _).trans (hb1.mono (by simp))) (by simp) : Boxed w1 w.heap.size ⟨k1, c1, g1, l1⟩ (.slice x1 d1 cap1))
      have HXm1 := Lib.hid ((Boxed.new2 w (ncells ⟨k1, c1, g1, l1⟩ (.slice x1 d1 cap1) 26) ⟨k2, c2, g2, l2⟩ (.slice x2 d2 cap2) 26).mono hb1 (by simp) : Boxed w1 (w.heap.size + 1) ⟨k2, c2, g2, l2⟩ (.slice x2 d2 cap2))
      have HW1 := Lib.hid (((((Below.refl w.heap.size w).alloc (Nat.le_refl _) _).alloc (by simp) _).trans (hb1.mono (by simp; omega))) : Below w.heap.size w w1)
      clear hb1
      obtain ⟨q0, q1, q2, q3⟩ := HXn1.out
      obtain ⟨p0, p1, p2, p3⟩ := HXm1.out
      go_wp2_with fail
      refine (refcheck_any ⟨k1, c1, g1, l1⟩ _ _ (HVn.out.mono HW1.out (Nat.le_refl _))).mono ?_
      rintro e w2 ⟨rfl, hb2⟩
      rw [HQn.out]
      clear q0 q1 q2 q3 p0 p1 p2 p3
      have hs2 : w.heap.size + 2 ≤ w2.heap.size := Nat.le_trans hs1 hb2.size
      have HXn2 := Lib.hid (HXn1.out.mono hb2 (by omega))
      have HXm2 := Lib.hid (HXm1.out.mono hb2 (by omega))
      have HW2 := Lib.hid (HW1.out.trans (hb2.mono (by omega)))
      clear hb2 HXn1 HXm1 HW1 hs1
      obtain ⟨q0, q1, q2, q3⟩ := HXn2.out
      obtain ⟨p0, p1, p2, p3⟩ := HXm2.out
      go_wp2_with fail
      refine (refcheck_any ⟨k2, c2, g2, l2⟩ _ _ (HVm.out.mono HW2.out (Nat.le_refl _))).mono ?_
      rintro e w3 ⟨rfl, hb3⟩
      rw [HQm.out]
      clear q0 q1 q2 q3 p0 p1 p2 p3
      have hs3 : w.heap.size + 2 ≤ w3.heap.size := Nat.le_trans hs2 hb3.size
      have HXn3 := Lib.hid (HXn2.out.mono hb3 (by omega))
      have HXm3 := Lib.hid (HXm2.out.mono hb3 (by omega))
      have HW3 := Lib.hid (HW2.out.trans (hb3.mono (by omega)))
      clear hb3 HXn2 HXm2 HW2 hs2
      obtain ⟨q0, q1, q2, q3⟩ := HXn3.out
      obtain ⟨p0, p1, p2, p3⟩ := HXm3.out
      go_wp2
      go_ret
      exact ⟨rfl, HW3.out⟩
  · obtain ⟨q, hq⟩ : ∃ q : Nat, ncheck ⟨k1, c1, g1, l1⟩ = q := ⟨_, rfl⟩
    have HQn := Lib.hid hq
    have hqb : ((q : Int) != 0) = true := by rw [bne_iff_ne]; omega
    clear same1 same2 lenn lenm hqn hq hd1 hd2
    go_enter Try.func7, Try.ntmps7
    go_wp2_with fail
    refine (alive3_any _).mono ?_
    rintro e w1 ⟨rfl, hb1⟩
    have hs1 : w.heap.size + 2 ≤ w1.heap.size := Nat.le_trans (by simp) hb1.size
    have HXn1 := Lib.hid ((Boxed.new w ⟨k1, c1, g1, l1⟩ (.slice x1 d1 cap1) 26).mono (((Below.refl _ _).alloc (Nat.le_refl _) _).trans (hb1.mono (by simp))) (by simp) : Boxed w1 w.heap.size ⟨k1, c1, g1, l1⟩ (.slice x1 d1 cap1))
    have HXm1 := Lib.hid ((Boxed.new2 w (ncells ⟨k1, c1, g1, l1⟩ (.slice x1 d1 cap1) 26) ⟨k2, c2, g2, l2⟩ (.slice x2 d2 cap2) 26).mono hb1 (by simp) : Boxed w1 (w.heap.size + 1) ⟨k2, c2, g2, l2⟩ (.slice x2 d2 cap2))
    have HW1 := Lib.hid (((((Below.refl w.heap.size w).alloc (Nat.le_refl _) _).alloc (by simp) _).trans (hb1.mono (by simp; omega))) : Below w.heap.size w w1)
    clear hb1
    obtain ⟨q0, q1, q2, q3⟩ := HXn1.out
    obtain ⟨p0, p1, p2, p3⟩ := HXm1.out
    go_wp2_with fail
    refine (refcheck_any ⟨k1, c1, g1, l1⟩ _ _ (HVn.out.mono HW1.out (Nat.le_refl _))).mono ?_
    rintro e w2 ⟨rfl, hb2⟩
    rw [HQn.out]
    clear q0 q1 q2 q3 p0 p1 p2 p3
    have hs2 : w.heap.size + 2 ≤ w2.heap.size := Nat.le_trans hs1 hb2.size
    have HXn2 := Lib.hid (HXn1.out.mono hb2 (by omega))
    have HXm2 := Lib.hid (HXm1.out.mono hb2 (by omega))
    have HW2 := Lib.hid (HW1.out.trans (hb2.mono (by omega)))
    clear hb2 HXn1 HXm1 HW1 hs1
    obtain ⟨q0, q1, q2, q3⟩ := HXn2.out
    obtain ⟨p0, p1, p2, p3⟩ := HXm2.out
    go_wp2
    go_ret
    exact ⟨rfl, HW2.out⟩

end Go.Proofs.Yteibolajnjdpmaa
