/- The statements of layer 5 (check): the bytes of any checkpoint. -/
import Derived.Test.YtengfglopagdmaaSame5b
import Derived.Test.YtengfglopagdmaaRput5
namespace Go.Proofs.Ytengfglopagdmaa
open Go.RowKit Go.Cor

set_option maxHeartbeats 1000000 in
theorem checkPuts_mid (a b d : Int) (ps : List Pos) (v : Value) (w : World) (hv : IsP w v ps) (h : 60 < ps.length) (h2 : ps.length ≤ 4096) :
    Calls Try.prog 3 #[cval ⟨a, b, d, ps⟩ v] w fun e w' => e = .returned (.bool true) ∧ Below w.heap.size w w' := by
  obtain ⟨N, hN⟩ : ∃ N, ps.length = N := ⟨_, rfl⟩
  obtain ⟨x, cap, rfl, hlc, hcm⟩ := hv.at_len hN
  have hb60 : decide ((60 : Int) < (N : Int)) = true := decide_eq_true (by omega)
  have hb40 : decide ((N : Int) ≤ 4096) = true := decide_eq_true (by omega)
  clear hv hN h h2
  go_enter Try.func3, Try.ntmps3
  go_wp2_with fail
  refine (alive5_any _).mono ?_
  rintro e w1 ⟨rfl, hb1⟩
  obtain ⟨q0, q1, q2, q3⟩ := (BoxC.new w a b d (.slice x N cap) 24).mono hb1 (by simp)
  have HB1 := Lib.hid ((((Below.refl w.heap.size w).alloc (Nat.le_refl _) _).trans (hb1.mono (by simp))) : Below w.heap.size w w1)
  clear hb1
  go_wp2
  go_ret
  exact ⟨rfl, HB1.out⟩

set_option maxHeartbeats 4000000 in
theorem checkPuts_bad (a b d : Int) (ps : List Pos) (v : Value) (w : World) (hv : IsP w v ps) (hl : ps.length ≤ 4398046511104) (h : ps.length ≤ 60 ∨ 4096 < ps.length) (hq' : cright ⟨a, b, d, ps⟩ ≠ 0) :
    Calls Try.prog 3 #[cval ⟨a, b, d, ps⟩ v] w fun e w' => e = .returned (.bool true) ∧ Below w.heap.size w w' := by
  obtain ⟨N, hN⟩ : ∃ N, ps.length = N := ⟨_, rfl⟩
  have HV := Lib.hid hv
  obtain ⟨x, cap, rfl, hlc, hcm⟩ := hv.at_len hN
  rw [hN] at h
  have HL := Lib.hid (show (Chk.mk a b d ps).l.length ≤ 4398046511104 from hl)
  have HN := Lib.hid hN
  have hq2 := cright_le ⟨a, b, d, ps⟩
  obtain ⟨q, hqq⟩ : ∃ q : Nat, cright ⟨a, b, d, ps⟩ = q := ⟨_, rfl⟩
  rw [hqq] at hq' hq2
  have HQ := Lib.hid hqq
  have hq : q ≠ 0 := hq'
  have hqb : ((q : Int) != 0) = true := by rw [bne_iff_ne]; omega
  have hqe : ((q : Int) != (q : Int)) = false := by simp
  clear hv hN hl hqq hq'
  by_cases h60 : N ≤ 60
  · have hb60 : decide ((60 : Int) < (N : Int)) = false := decide_eq_false (by omega)
    clear h h60
    go_enter Try.func3, Try.ntmps3
    go_wp2_with fail
    refine (alive5_any _).mono ?_
    rintro e w1 ⟨rfl, hb1⟩
    have HX1 := Lib.hid ((BoxC.new w a b d (.slice x N cap) 24).mono hb1 (by simp))
    have hs1 : w.heap.size + 1 ≤ w1.heap.size := Nat.le_trans (by simp) hb1.size
    have HB1 := Lib.hid ((((Below.refl w.heap.size w).alloc (Nat.le_refl _) _).trans (hb1.mono (by simp))) : Below w.heap.size w w1)
    clear hb1
    obtain ⟨q0, q1, q2, q3⟩ := HX1.out
    go_wp2_with fail
    refine (refright_any ⟨a, b, d, ps⟩ _ _ (HV.out.mono HB1.out (Nat.le_refl _))).mono ?_
    rintro e w2 ⟨rfl, hb2⟩
    rw [HQ.out]
    have HX2 := Lib.hid (HX1.out.mono hb2 hs1)
    have hs2 : w.heap.size + 1 ≤ w2.heap.size := Nat.le_trans hs1 hb2.size
    have HB2 := Lib.hid (HB1.out.trans (hb2.mono HB1.out.size))
    clear hb2 q0 q1 q2 q3 HX1 HB1 hs1
    obtain ⟨q0, q1, q2, q3⟩ := HX2.out
    go_wp2_with fail
    refine (ofc_any ⟨a, b, d, ps⟩ _ _ (HV.out.mono HB2.out (Nat.le_refl _)) HL.out).mono ?_
    rintro e w3 ⟨x3, c3, rfl, hown3, hb3⟩
    have HP3 := Lib.hid (show IsP w3 (.slice x3 N c3) ps from by have := IsP.own hown3 rfl; rwa [show (Chk.mk a b d ps).l.length = N from HN.out] at this)
    simp only [HN.out]
    have HX3 := Lib.hid (HX2.out.mono hb3 hs2)
    have hs3 : w.heap.size + 1 ≤ w3.heap.size := Nat.le_trans hs2 hb3.size
    have HB3 := Lib.hid (HB2.out.trans (hb3.mono HB2.out.size))
    clear hown3 hb3 q0 q1 q2 q3 HX2 HB2 hs2
    go_wp2_with fail
    refine (put_badC ⟨a, b, d, ps⟩ _ _ HP3.out (by rw [HQ.out]; exact hq)).mono ?_
    rintro e w4 ⟨rfl, hb4⟩
    rw [HQ.out]
    have HX4 := Lib.hid (HX3.out.mono hb4 hs3)
    have hs4 : w.heap.size + 1 ≤ w4.heap.size := Nat.le_trans hs3 hb4.size
    have HB4 := Lib.hid (HB3.out.trans (hb4.mono HB3.out.size))
    clear hb4 HX3 HB3 hs3
    obtain ⟨q0, q1, q2, q3⟩ := HX4.out
    go_wp2_with fail
    refine (ofc_any ⟨a, b, d, ps⟩ _ _ (HV.out.mono HB4.out (Nat.le_refl _)) HL.out).mono ?_
    rintro e w5 ⟨x5, c5, rfl, hown5, hb5⟩
    have HP5 := Lib.hid (show IsP w5 (.slice x5 N c5) ps from by have := IsP.own hown5 rfl; rwa [show (Chk.mk a b d ps).l.length = N from HN.out] at this)
    simp only [HN.out]
    have HX5 := Lib.hid (HX4.out.mono hb5 hs4)
    have hs5 : w.heap.size + 1 ≤ w5.heap.size := Nat.le_trans hs4 hb5.size
    have HB5 := Lib.hid (HB4.out.trans (hb5.mono HB4.out.size))
    clear hown5 hb5 q0 q1 q2 q3 HX4 HB4 hs4
    go_wp2_with fail
    refine (right_any ⟨a, b, d, ps⟩ _ _ HP5.out).mono ?_
    rintro e w6 ⟨rfl, hb6⟩
    rw [HQ.out]
    have HX6 := Lib.hid (HX5.out.mono hb6 hs5)
    have HB6 := Lib.hid (HB5.out.trans (hb6.mono HB5.out.size))
    clear hb6 HX5 HB5 hs5
    go_wp2_with fail
    refine (code_cerr q _ (by omega)).mono ?_
    rintro e w' ⟨rfl, rfl⟩
    go_wp2_with fail
    refine (code_cerr q _ (by omega)).mono ?_
    rintro e w' ⟨rfl, rfl⟩
    go_wp2
    go_ret
    exact ⟨rfl, HB6.out⟩
  · have hb60 : decide ((60 : Int) < (N : Int)) = true := decide_eq_true (by omega)
    have hb40 : decide ((N : Int) ≤ 4096) = false := decide_eq_false (by omega)
    clear h h60
    go_enter Try.func3, Try.ntmps3
    go_wp2_with fail
    refine (alive5_any _).mono ?_
    rintro e w1 ⟨rfl, hb1⟩
    have HX1 := Lib.hid ((BoxC.new w a b d (.slice x N cap) 24).mono hb1 (by simp))
    have hs1 : w.heap.size + 1 ≤ w1.heap.size := Nat.le_trans (by simp) hb1.size
    have HB1 := Lib.hid ((((Below.refl w.heap.size w).alloc (Nat.le_refl _) _).trans (hb1.mono (by simp))) : Below w.heap.size w w1)
    clear hb1
    obtain ⟨q0, q1, q2, q3⟩ := HX1.out
    go_wp2_with fail
    refine (refright_any ⟨a, b, d, ps⟩ _ _ (HV.out.mono HB1.out (Nat.le_refl _))).mono ?_
    rintro e w2 ⟨rfl, hb2⟩
    rw [HQ.out]
    have HX2 := Lib.hid (HX1.out.mono hb2 hs1)
    have hs2 : w.heap.size + 1 ≤ w2.heap.size := Nat.le_trans hs1 hb2.size
    have HB2 := Lib.hid (HB1.out.trans (hb2.mono HB1.out.size))
    clear hb2 q0 q1 q2 q3 HX1 HB1 hs1
    obtain ⟨q0, q1, q2, q3⟩ := HX2.out
    go_wp2_with fail
    refine (ofc_any ⟨a, b, d, ps⟩ _ _ (HV.out.mono HB2.out (Nat.le_refl _)) HL.out).mono ?_
    rintro e w3 ⟨x3, c3, rfl, hown3, hb3⟩
    have HP3 := Lib.hid (show IsP w3 (.slice x3 N c3) ps from by have := IsP.own hown3 rfl; rwa [show (Chk.mk a b d ps).l.length = N from HN.out] at this)
    simp only [HN.out]
    have HX3 := Lib.hid (HX2.out.mono hb3 hs2)
    have hs3 : w.heap.size + 1 ≤ w3.heap.size := Nat.le_trans hs2 hb3.size
    have HB3 := Lib.hid (HB2.out.trans (hb3.mono HB2.out.size))
    clear hown3 hb3 q0 q1 q2 q3 HX2 HB2 hs2
    go_wp2_with fail
    refine (put_badC ⟨a, b, d, ps⟩ _ _ HP3.out (by rw [HQ.out]; exact hq)).mono ?_
    rintro e w4 ⟨rfl, hb4⟩
    rw [HQ.out]
    have HX4 := Lib.hid (HX3.out.mono hb4 hs3)
    have hs4 : w.heap.size + 1 ≤ w4.heap.size := Nat.le_trans hs3 hb4.size
    have HB4 := Lib.hid (HB3.out.trans (hb4.mono HB3.out.size))
    clear hb4 HX3 HB3 hs3
    obtain ⟨q0, q1, q2, q3⟩ := HX4.out
    go_wp2_with fail
    refine (ofc_any ⟨a, b, d, ps⟩ _ _ (HV.out.mono HB4.out (Nat.le_refl _)) HL.out).mono ?_
    rintro e w5 ⟨x5, c5, rfl, hown5, hb5⟩
    have HP5 := Lib.hid (show IsP w5 (.slice x5 N c5) ps from by have := IsP.own hown5 rfl; rwa [show (Chk.mk a b d ps).l.length = N from HN.out] at this)
    simp only [HN.out]
    have HX5 := Lib.hid (HX4.out.mono hb5 hs4)
    have hs5 : w.heap.size + 1 ≤ w5.heap.size := Nat.le_trans hs4 hb5.size
    have HB5 := Lib.hid (HB4.out.trans (hb5.mono HB4.out.size))
    clear hown5 hb5 q0 q1 q2 q3 HX4 HB4 hs4
    go_wp2_with fail
    refine (right_any ⟨a, b, d, ps⟩ _ _ HP5.out).mono ?_
    rintro e w6 ⟨rfl, hb6⟩
    rw [HQ.out]
    have HX6 := Lib.hid (HX5.out.mono hb6 hs5)
    have HB6 := Lib.hid (HB5.out.trans (hb6.mono HB5.out.size))
    clear hb6 HX5 HB5 hs5
    go_wp2_with fail
    refine (code_cerr q _ (by omega)).mono ?_
    rintro e w' ⟨rfl, rfl⟩
    go_wp2_with fail
    refine (code_cerr q _ (by omega)).mono ?_
    rintro e w' ⟨rfl, rfl⟩
    go_wp2
    go_ret
    exact ⟨rfl, HB6.out⟩

set_option maxHeartbeats 4000000 in
theorem checkPuts_ok (a b d : Int) (ps : List Pos) (v : Value) (w : World) (hv : IsP w v ps) (hf : ∀ p ∈ ps, p.fits) (hl : ps.length ≤ 4398046511104) (h : ps.length ≤ 60) (hq : cright ⟨a, b, d, ps⟩ = 0) :
    Calls Try.prog 3 #[cval ⟨a, b, d, ps⟩ v] w fun e w' => e = .returned (.bool true) ∧ Below w.heap.size w w' := by
  obtain ⟨N, hN⟩ : ∃ N, ps.length = N := ⟨_, rfl⟩
  have HV := Lib.hid hv
  obtain ⟨x, cap, rfl, hlc, hcm⟩ := hv.at_len hN
  rw [hN] at h
  have HL := Lib.hid (show (Chk.mk a b d ps).l.length ≤ 4398046511104 from hl)
  have HN := Lib.hid hN
  have HQ := Lib.hid hq
  have HF := Lib.hid hf
  have hb60 : decide ((60 : Int) < (N : Int)) = false := decide_eq_false (by omega)
  obtain ⟨X, hX⟩ : ∃ X, X = cbytes ⟨a, b, d, ps⟩ := ⟨_, rfl⟩
  have HXL := Lib.hid (show X.length ≤ 1500 from by rw [hX, length_cbytes]; show 24 + 24 * ps.length ≤ 1500; omega)
  have HXX := Lib.hid hX
  clear hv hN hl hf hq hX
  go_enter Try.func3, Try.ntmps3
  go_wp2_with fail
  refine (alive5_any _).mono ?_
  rintro e w1 ⟨rfl, hb1⟩
  have HX1 := Lib.hid ((BoxC.new w a b d (.slice x N cap) 24).mono hb1 (by simp))
  have hs1 : w.heap.size + 1 ≤ w1.heap.size := Nat.le_trans (by simp) hb1.size
  have HB1 := Lib.hid ((((Below.refl w.heap.size w).alloc (Nat.le_refl _) _).trans (hb1.mono (by simp))) : Below w.heap.size w w1)
  clear hb1
  obtain ⟨q0, q1, q2, q3⟩ := HX1.out
  go_wp2_with fail
  refine (refright_any ⟨a, b, d, ps⟩ _ _ (HV.out.mono HB1.out (Nat.le_refl _))).mono ?_
  rintro e w2 ⟨rfl, hb2⟩
  rw [HQ.out]
  have HX2 := Lib.hid (HX1.out.mono hb2 hs1)
  have hs2 : w.heap.size + 1 ≤ w2.heap.size := Nat.le_trans hs1 hb2.size
  have HB2 := Lib.hid (HB1.out.trans (hb2.mono HB1.out.size))
  clear hb2 q0 q1 q2 q3 HX1 HB1 hs1
  obtain ⟨q0, q1, q2, q3⟩ := HX2.out
  go_wp2_with fail
  refine (ofc_any ⟨a, b, d, ps⟩ _ _ (HV.out.mono HB2.out (Nat.le_refl _)) HL.out).mono ?_
  rintro e w3 ⟨x3, c3, rfl, hown3, hb3⟩
  have HP3 := Lib.hid (show IsP w3 (.slice x3 N c3) ps from by have := IsP.own hown3 rfl; rwa [show (Chk.mk a b d ps).l.length = N from HN.out] at this)
  simp only [HN.out]
  have HX3 := Lib.hid (HX2.out.mono hb3 hs2)
  have hs3 : w.heap.size + 1 ≤ w3.heap.size := Nat.le_trans hs2 hb3.size
  have HB3 := Lib.hid (HB2.out.trans (hb3.mono HB2.out.size))
  clear hown3 hb3 q0 q1 q2 q3 HX2 HB2 hs2
  go_wp2_with fail
  refine (put_okC ⟨a, b, d, ps⟩ _ _ HP3.out HF.out HQ.out).mono ?_
  rintro e w4 ⟨g4, c4, rfl, hown4, hb4⟩
  rw [← HXX.out] at hown4 ⊢
  have HI4 := Lib.hid (IsB.own hown4 rfl)
  clear hown4
  have HX4 := Lib.hid (HX3.out.mono hb4 hs3)
  have hs4 : w.heap.size + 1 ≤ w4.heap.size := Nat.le_trans hs3 hb4.size
  have HB4 := Lib.hid (HB3.out.trans (hb4.mono HB3.out.size))
  clear hb4 HX3 HB3 hs3
  obtain ⟨q0, q1, q2, q3⟩ := HX4.out
  go_wp2_with fail
  refine (ofc_any ⟨a, b, d, ps⟩ _ _ (HV.out.mono HB4.out (Nat.le_refl _)) HL.out).mono ?_
  rintro e w5 ⟨x5, c5, rfl, hown5, hb5⟩
  have HP5 := Lib.hid (show IsP w5 (.slice x5 N c5) ps from by have := IsP.own hown5 rfl; rwa [show (Chk.mk a b d ps).l.length = N from HN.out] at this)
  simp only [HN.out]
  have HX5 := Lib.hid (HX4.out.mono hb5 hs4)
  have hs5 : w.heap.size + 1 ≤ w5.heap.size := Nat.le_trans hs4 hb5.size
  have HB5 := Lib.hid (HB4.out.trans (hb5.mono HB4.out.size))
  have HI5 := Lib.hid (HI4.out.mono hb5 (Nat.le_refl _))
  clear hown5 hb5 q0 q1 q2 q3 HX4 HB4 hs4
  go_wp2_with fail
  refine (right_any ⟨a, b, d, ps⟩ _ _ HP5.out).mono ?_
  rintro e w6 ⟨rfl, hb6⟩
  rw [HQ.out]
  have HX6 := Lib.hid (HX5.out.mono hb6 hs5)
  have HB6 := Lib.hid (HB5.out.trans (hb6.mono HB5.out.size))
  have HI6 := Lib.hid (HI5.out.mono hb6 (Nat.le_refl _))
  clear hb6 HX5 HB5 hs5
  go_wp2_with fail
  refine (code_cerr 0 _ (by omega)).mono ?_
  rintro e w' ⟨rfl, rfl⟩
  go_wp2_with fail
  refine (code_cerr 0 _ (by omega)).mono ?_
  rintro e w' ⟨rfl, rfl⟩
  obtain ⟨q0, q1, q2, q3⟩ := HX6.out
  go_wp2_with fail
  refine (rput_any ⟨a, b, d, ps⟩ _ _ (HV.out.mono HB6.out (Nat.le_refl _)) HF.out HQ.out).mono ?_
  rintro e w7 ⟨v7, rfl, hown7, hb7⟩
  rw [← HXX.out] at hown7
  have HI7 := Lib.hid (IsB.own hown7 rfl)
  have HI7x := Lib.hid (HI6.out.mono hb7 (Nat.le_refl _))
  have HB7 := Lib.hid (HB6.out.trans (hb7.mono HB6.out.size))
  clear hown7 hb7 q0 q1 q2 q3
  go_wp2_with fail
  refine (same_yes _ _ X _ HI7x.out HI7.out (by have := HXL.out; omega)).mono ?_
  rintro e w8 ⟨rfl, nn, rfl⟩
  go_wp2
  go_ret
  exact ⟨rfl, below_drewN HB7.out _⟩

theorem checkPuts_all (c : Chk) (v : Value) (w : World) (hv : IsP w v c.l) (hf : ∀ p ∈ c.l, p.fits) (hl : c.l.length ≤ 4398046511104) :
    Calls Try.prog 3 #[cval c v] w fun e w' => e = .returned (.bool true) ∧ Below w.heap.size w w' := by
  obtain ⟨a, b, d, ps⟩ := c
  by_cases h : ps.length ≤ 60 ∨ 4096 < ps.length
  · by_cases hq : cright ⟨a, b, d, ps⟩ = 0
    · have h4 := (cright_ok hq).1
      exact checkPuts_ok a b d ps v w hv hf hl (by have h5 : ps.length ≤ 4096 := h4; omega) hq
    · exact checkPuts_bad a b d ps v w hv hl h hq
  · exact checkPuts_mid a b d ps v w hv (by omega) (by omega)

end Go.Proofs.Ytengfglopagdmaa
