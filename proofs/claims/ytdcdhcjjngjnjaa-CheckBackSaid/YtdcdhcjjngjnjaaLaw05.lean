/- The statements of layer 5 (check): there and back. -/
import Derived.Test.YtdcdhcjjngjnjaaSame5b
import Derived.Test.YtdcdhcjjngjnjaaRef05
namespace Go.Proofs.Ytdcdhcjjngjnjaa
open Go.RowKit Go.Cor

set_option maxHeartbeats 1000000 in
theorem checkBack_long (a b d : Int) (ps : List Pos) (v : Value) (k : Nat) (w : World) (hv : IsP w v ps) (h : 60 < ps.length) :
    Calls Try.prog 5 #[cval ⟨a, b, d, ps⟩ v, .int .u16 (k : Int)] w fun e w' => e = .returned (.bool true) ∧ Below w.heap.size w w' := by
  obtain ⟨N, hN⟩ : ∃ N, ps.length = N := ⟨_, rfl⟩
  obtain ⟨x, cap, rfl, hlc, hcm⟩ := hv.at_len hN
  have hb : decide ((60 : Int) < (N : Int)) = true := decide_eq_true (by omega)
  clear hv hN h
  go_enter Try.func5, Try.ntmps5
  go_wp2_with fail
  refine (alive5_any _).mono ?_
  rintro e w1 ⟨rfl, hb1⟩
  obtain ⟨q0, q1, q2, q3⟩ := (BoxC.new w a b d (.slice x N cap) 24).mono hb1 (by simp)
  have HB1 := Lib.hid ((((Below.refl w.heap.size w).alloc (Nat.le_refl _) _).trans (hb1.mono (by simp))) : Below w.heap.size w w1)
  clear hb1
  go_wp2
  go_ret
  exact ⟨rfl, HB1.out⟩

set_option maxHeartbeats 1000000 in
theorem checkBack_not (a b d : Int) (ps : List Pos) (v : Value) (k : Nat) (w : World) (hv : IsP w v ps) (h : ps.length ≤ 60) (hq : cright ⟨a, b, d, ps⟩ ≠ 0) :
    Calls Try.prog 5 #[cval ⟨a, b, d, ps⟩ v, .int .u16 (k : Int)] w fun e w' => e = .returned (.bool true) ∧ Below w.heap.size w w' := by
  obtain ⟨N, hN⟩ : ∃ N, ps.length = N := ⟨_, rfl⟩
  have HV := Lib.hid hv
  obtain ⟨x, cap, rfl, hlc, hcm⟩ := hv.at_len hN
  have hb : decide ((60 : Int) < (N : Int)) = false := decide_eq_false (by omega)
  obtain ⟨q, hqq⟩ : ∃ q : Nat, cright ⟨a, b, d, ps⟩ = q := ⟨_, rfl⟩
  rw [hqq] at hq
  have HQ := Lib.hid hqq
  have hqb : ((q : Int) != 0) = true := by rw [bne_iff_ne]; omega
  clear hv hN h hqq hq
  go_enter Try.func5, Try.ntmps5
  go_wp2_with fail
  refine (alive5_any _).mono ?_
  rintro e w1 ⟨rfl, hb1⟩
  obtain ⟨q0, q1, q2, q3⟩ := (BoxC.new w a b d (.slice x N cap) 24).mono hb1 (by simp)
  have HB1 := Lib.hid ((((Below.refl w.heap.size w).alloc (Nat.le_refl _) _).trans (hb1.mono (by simp))) : Below w.heap.size w w1)
  clear hb1
  go_wp2_with fail
  refine (refright_any ⟨a, b, d, ps⟩ _ _ (HV.out.mono HB1.out (Nat.le_refl _))).mono ?_
  rintro e w2 ⟨rfl, hb2⟩
  rw [HQ.out]
  have HB2 := Lib.hid (HB1.out.trans (hb2.mono HB1.out.size))
  clear hb2 q0 q1 q2 q3
  go_wp2
  go_ret
  exact ⟨rfl, HB2.out⟩

set_option maxRecDepth 100000 in
set_option maxHeartbeats 4000000 in
theorem checkBack_any (a b d : Int) (ps : List Pos) (v : Value) (k : Nat) (w : World) (hv : IsP w v ps) (hf : ∀ p ∈ ps, p.fits) (hk : k < 65536) (h : ps.length ≤ 60) (hq : cright ⟨a, b, d, ps⟩ = 0) :
    Calls Try.prog 5 #[cval ⟨a, b, d, ps⟩ v, .int .u16 (k : Int)] w fun e w' => e = .returned (.bool true) ∧ Below w.heap.size w w' := by
  obtain ⟨i0, hi, hz0, hz1, hz2⟩ := info_parts Try.infoU8
  obtain ⟨N, hN⟩ : ∃ N, ps.length = N := ⟨_, rfl⟩
  have HV := Lib.hid hv
  obtain ⟨x, cap, rfl, hlc, hcm⟩ := hv.at_len hN
  rw [hN] at h
  have hb60 : decide ((60 : Int) < (N : Int)) = false := decide_eq_false (by omega)
  have HQ := Lib.hid hq
  have HF := Lib.hid hf
  have HN := Lib.hid hN
  obtain ⟨L, hL⟩ : ∃ L, L = 24 + 24 * N := ⟨_, rfl⟩
  have hL2 : L ≤ 1500 := by omega
  have hL1 : 24 ≤ L := by omega
  obtain ⟨X, hX⟩ : ∃ X, X = cbytes ⟨a, b, d, ps⟩ := ⟨_, rfl⟩
  have HXL := Lib.hid (show X.length = L from by rw [hX, length_cbytes, hL, ← hN])
  have HG0 := Lib.hid (show getK X = 0 from by rw [hX]; exact (get_put hf hq).1)
  have HR0 := Lib.hid (show resC X = ⟨a, b, d, ps⟩ from by rw [hX, resC_ok (get_put hf hq).1]; exact (get_put hf hq).2)
  obtain ⟨j, hj⟩ : ∃ j : Nat, j = k % L := ⟨_, rfl⟩
  have hjL : j < L := by rw [hj]; exact Nat.mod_lt _ (by omega)
  have hji : (k : Int) % (L : Int) = (j : Int) := by rw [hj]; exact (Int.natCast_emod k L).symm
  have HG3 := Lib.hid (show getK (X.take j) = 3 from by rw [hX]; exact get_cut hq (by rw [← hX, HXL.out]; exact hjL))
  have HG4 := Lib.hid (show getK (X ++ [0]) = 4 from by rw [hX]; exact get_more hq 0)
  have HXX := Lib.hid hX
  clear hv hN hf hq hL hX hj
  go_enter Try.func5, Try.ntmps5
  go_wp2_with fail
  refine (alive5_any _).mono ?_
  rintro e w1 ⟨rfl, hb1⟩
  have HX1 := Lib.hid ((BoxC.new w a b d (.slice x N cap) 24).mono hb1 (by simp))
  have hs1 : w.heap.size + 1 ≤ w1.heap.size := Nat.le_trans (by simp) hb1.size
  have HB1 := Lib.hid ((((Below.refl w.heap.size w).alloc (Nat.le_refl _) _).trans (hb1.mono (by simp))) : Below w.heap.size w w1)
  clear hb1
  obtain ⟨q0, q1, q2, q3⟩ := HX1.out
  go_wp2_with fail
  refine (refright_any ⟨a, b, d, ps⟩ _ _ (HV.out.mono HB1.out (Nat.le_refl _))).mono ?_
  rintro e w2 ⟨rfl, hb2⟩
  rw [HQ.out]
  have HX2 := Lib.hid (HX1.out.mono hb2 hs1)
  have hs2 : w.heap.size + 1 ≤ w2.heap.size := Nat.le_trans hs1 hb2.size
  have HB2 := Lib.hid (HB1.out.trans (hb2.mono HB1.out.size))
  clear hb2 q0 q1 q2 q3 HX1 HB1 hs1
  obtain ⟨q0, q1, q2, q3⟩ := HX2.out
  go_wp2_with fail
  refine (ofc_any ⟨a, b, d, ps⟩ _ _ (HV.out.mono HB2.out (Nat.le_refl _)) (by show ps.length ≤ _; rw [HN.out]; omega)).mono ?_
  rintro e w3 ⟨x3, c3, rfl, hown3, hb3⟩
  have HP3 := Lib.hid (show IsP w3 (.slice x3 N c3) ps from by have := IsP.own hown3 rfl; rwa [show (Chk.mk a b d ps).l.length = N from HN.out] at this)
  simp only [HN.out]
  have HX3 := Lib.hid (HX2.out.mono hb3 hs2)
  have hs3 : w.heap.size + 1 ≤ w3.heap.size := Nat.le_trans hs2 hb3.size
  have HB3 := Lib.hid (HB2.out.trans (hb3.mono HB2.out.size))
  clear hown3 hb3 q0 q1 q2 q3 HX2 HB2 hs2
  go_wp2_with fail
  refine (put_okC ⟨a, b, d, ps⟩ _ _ HP3.out HF.out HQ.out).mono ?_
  rintro e w4 ⟨g4, c4, rfl, hown4, hb4⟩
  rw [← HXX.out] at hown4 ⊢
  rw [HXL.out] at hown4 ⊢
  have HI4 := Lib.hid (IsB.own hown4 HXL.out.symm)
  have HX4 := Lib.hid (HX3.out.mono hb4 hs3)
  have hs4 : w.heap.size + 1 ≤ w4.heap.size := Nat.le_trans hs3 hb4.size
  have HB4 := Lib.hid (HB3.out.trans (hb4.mono HB3.out.size))
  clear hown4 hb4 HX3 HB3 hs3
  go_wp2_with fail
  refine (cget_any _ X _ HI4.out (by rw [HXL.out]; omega)).mono ?_
  rintro e w5 ⟨x5, c5, rfl, hp5, hb5⟩
  rw [HR0.out] at hp5 ⊢
  rw [HG0.out]
  have HP5 := Lib.hid (show IsP w5 (.slice x5 N c5) ps from by have := hp5; rwa [show (Chk.mk a b d ps).l.length = N from HN.out] at this)
  simp only [HN.out]
  have HI5 := Lib.hid (HI4.out.mono hb5 (Nat.le_refl _))
  have HX5 := Lib.hid (HX4.out.mono hb5 hs4)
  have hs5 : w.heap.size + 1 ≤ w5.heap.size := Nat.le_trans hs4 hb5.size
  have HB5 := Lib.hid (HB4.out.trans (hb5.mono HB4.out.size))
  clear hp5 hb5 HX4 HB4 hs4
  go_upto_region 7 with fail
  have hba : Below w5.heap.size w5 (w5.alloc (.cells #[.int .i64 a, .int .i64 b, .int .i64 d, .slice x5 N c5] 34)) := (Below.refl _ _).alloc (Nat.le_refl _) _
  have HD6 := Lib.hid (BoxC.new w5 a b d (.slice x5 N c5) 34)
  have hz6 : w5.heap.size < (w5.alloc (.cells #[.int .i64 a, .int .i64 b, .int .i64 d, .slice x5 N c5] 34)).heap.size := by simp
  have HX6 := Lib.hid (HX5.out.mono hba hs5)
  have hs6 := Nat.le_trans hs5 hba.size
  have HB6 := Lib.hid (HB5.out.trans (hba.mono HB5.out.size))
  have HI6 := Lib.hid (HI5.out.mono hba (Nat.le_refl _))
  have HP6 := Lib.hid (HP5.out.mono hba (Nat.le_refl _))
  obtain ⟨w6, hw6⟩ : ∃ w6, w6 = w5.alloc (.cells #[.int .i64 a, .int .i64 b, .int .i64 d, .slice x5 N c5] 34) := ⟨_, rfl⟩
  rw [← hw6] at HD6 hz6 HX6 hs6 HB6 HI6 HP6 ⊢
  clear hw6 hba HX5 HB5 HI5 HP5
  obtain ⟨g5, hg5⟩ : ∃ g5, g5 = w5.heap.size := ⟨_, rfl⟩
  rw [← hg5] at HD6 hz6 ⊢
  clear hg5
  obtain ⟨sv, rv, iv⟩ := slice_h_B (P := Try.prog) HI6.out 27 5 Try.underlying27 Try.sizeU8 j (by rw [HXL.out]; omega)
  have HSV := Lib.hid iv
  clear iv
  go_wp2_with fail
  refine (cget_any _ (X.take j) _ HSV.out (by rw [List.length_take, HXL.out]; omega)).mono ?_
  rintro e w7 ⟨x7, c7, rfl, _, hb7⟩
  have HR3 := Lib.hid (resC_no (l := X.take j) (by rw [HG3.out]; decide))
  rw [HR3.out, HG3.out]
  have HD7 := Lib.hid (HD6.out.mono hb7 hz6)
  have hz7 := Nat.lt_of_lt_of_le hz6 hb7.size
  have HX7 := Lib.hid (HX6.out.mono hb7 hs6)
  have hs7 := Nat.le_trans hs6 hb7.size
  have HB7 := Lib.hid (HB6.out.trans (hb7.mono HB6.out.size))
  have HI7 := Lib.hid (HI6.out.mono hb7 (Nat.le_refl _))
  have HP7 := Lib.hid (HP6.out.mono hb7 (Nat.le_refl _))
  clear hb7 HD6 hz6 HX6 hs6 HB6 HI6 HP6 rv HSV
  go_upto_region 8 with fail
  have hba : Below w7.heap.size w7 (w7.alloc (.cells #[.int .i64 czero.vol, .int .i64 czero.gen, .int .i64 czero.upto, .slice x7 czero.l.length c7] 34)) := (Below.refl _ _).alloc (Nat.le_refl _) _
  have HD8 := Lib.hid (HD7.out.mono hba hz7)
  have hz8 := Nat.lt_of_lt_of_le hz7 hba.size
  have HX8 := Lib.hid (HX7.out.mono hba hs7)
  have hs8 := Nat.le_trans hs7 hba.size
  have HB8 := Lib.hid (HB7.out.trans (hba.mono HB7.out.size))
  have HI8 := Lib.hid (HI7.out.mono hba (Nat.le_refl _))
  have HP8 := Lib.hid (HP7.out.mono hba (Nat.le_refl _))
  obtain ⟨w8, hw8⟩ : ∃ w8, w8 = w7.alloc (.cells #[.int .i64 czero.vol, .int .i64 czero.gen, .int .i64 czero.upto, .slice x7 czero.l.length c7] 34) := ⟨_, rfl⟩
  rw [← hw8] at HD8 hz8 HX8 hs8 HB8 HI8 HP8 ⊢
  clear hw8 hba HD7 hz7 HX7 HB7 HI7 HP7
  go_wp2_with (at_builtin; refine wpList_append_B (by rfl) _ _ 27 rfl w8.heap.size 5 i0 Try.underlying27 hi hz0 hz1 hz2 _ [] 0 rfl (World.ownsRow_lit _ #[] 0 (Nat.le_refl _) (Nat.zero_le _) rfl) rfl _ X rfl (HI8.out.mono ((Below.refl _ _).alloc (Nat.le_refl _) _) (Nat.le_refl _)) (by rw [HXL.out]; simp; omega) (by simp) ?_)
  intro v9 w9 hown9 hb9
  have hb89 : Below w8.heap.size w8 w9 := ((Below.refl _ _).alloc (Nat.le_refl _) _).trans hb9
  have HO9 := Lib.hid (show w9.ownsRow w8.heap.size 5 1 v9 L (bvs X) from by simpa [HXL.out] using hown9)
  have HB9 := Lib.hid hb89
  clear hown9 hb9 hb89
  go_wp2_with (at_builtin; refine wpList_append_B (by rfl) _ _ 27 rfl w8.heap.size 5 i0 Try.underlying27 hi hz0 hz1 hz2 _ X L rfl (HO9.out.alloc _) HXL.out.symm _ [0] rfl (IsB.lit w9 [0] 5 (by decide)) (by rw [HXL.out]; simp; omega) (by have := HB9.out.size; simp; omega) ?_)
  intro v10 w10 hown10 hb10
  have hb810 : Below w8.heap.size w8 w10 := (HB9.out.alloc HB9.out.size _).trans hb10
  have HI10 := Lib.hid (IsB.own hown10 (by simp))
  have HD10 := Lib.hid (HD8.out.mono hb810 hz8)
  have hz10 := Nat.lt_of_lt_of_le hz8 hb810.size
  have HX10 := Lib.hid (HX8.out.mono hb810 hs8)
  have hs10 := Nat.le_trans hs8 hb810.size
  have HB10 := Lib.hid (HB8.out.trans (hb810.mono HB8.out.size))
  have HP10 := Lib.hid (HP8.out.mono hb810 (Nat.le_refl _))
  clear hown10 hb10 hb810 HD8 hz8 HX8 hs8 HB8 HI8 HP8 HO9 HB9
  go_wp2_with fail
  refine (cget_any _ (X ++ [0]) _ HI10.out (by rw [List.length_append, HXL.out]; simp; omega)).mono ?_
  rintro e w11 ⟨x11, c11, rfl, _, hb11⟩
  have HR4 := Lib.hid (resC_no (l := X ++ [0]) (by rw [HG4.out]; decide))
  rw [HR4.out, HG4.out]
  have HD11 := Lib.hid (HD10.out.mono hb11 hz10)
  have hz11 := Nat.lt_of_lt_of_le hz10 hb11.size
  have HX11 := Lib.hid (HX10.out.mono hb11 hs10)
  have hs11 := Nat.le_trans hs10 hb11.size
  have HB11 := Lib.hid (HB10.out.trans (hb11.mono HB10.out.size))
  have HP11 := Lib.hid (HP10.out.mono hb11 (Nat.le_refl _))
  clear hb11 HD10 hz10 HX10 hs10 HB10 HP10 HI10
  go_upto_region 9 with fail
  have hba : Below w11.heap.size w11 (w11.alloc (.cells #[.int .i64 czero.vol, .int .i64 czero.gen, .int .i64 czero.upto, .slice x11 czero.l.length c11] 34)) := (Below.refl _ _).alloc (Nat.le_refl _) _
  have HD12 := Lib.hid (HD11.out.mono hba hz11)
  have HX12 := Lib.hid (HX11.out.mono hba hs11)
  have HB12 := Lib.hid (HB11.out.trans (hba.mono HB11.out.size))
  have HP12 := Lib.hid (HP11.out.mono hba (Nat.le_refl _))
  obtain ⟨w12, hw12⟩ : ∃ w12, w12 = w11.alloc (.cells #[.int .i64 czero.vol, .int .i64 czero.gen, .int .i64 czero.upto, .slice x11 czero.l.length c11] 34) := ⟨_, rfl⟩
  rw [← hw12] at HD12 HX12 HB12 HP12 ⊢
  clear hw12 hba HD11 hz11 HX11 HB11 HP11
  have HV12 := Lib.hid (HV.out.mono HB12.out (Nat.le_refl _))
  go_wp2_with fail
  refine (code_cerr 0 _ (by decide)).mono ?_
  rintro e w' ⟨rfl, rfl⟩
  go_wp2_with fail
  refine (code_cerr 0 _ (by decide)).mono ?_
  rintro e w' ⟨rfl, rfl⟩
  obtain ⟨q0, q1, q2, q3⟩ := HX12.out
  obtain ⟨r0, r1, r2, r3⟩ := HD12.out
  go_wp2_with fail
  refine (csame_yes a b d ps _ _ _ HP12.out HV12.out (by rw [HN.out]; omega)).mono ?_
  rintro e w13 ⟨rfl, hb13⟩
  have HB13 := Lib.hid (HB12.out.trans (hb13.mono HB12.out.size))
  clear hb13 q0 q1 q2 q3 r0 r1 r2 r3
  go_wp2_with fail
  refine (code_cerr 3 _ (by decide)).mono ?_
  rintro e w' ⟨rfl, rfl⟩
  go_wp2_with fail
  refine (code_cerr 4 _ (by decide)).mono ?_
  rintro e w' ⟨rfl, rfl⟩
  go_wp2
  go_ret
  exact ⟨rfl, HB13.out⟩

theorem checkBack_all (c : Chk) (v : Value) (k : Nat) (w : World) (hv : IsP w v c.l) (hf : ∀ p ∈ c.l, p.fits) (hk : k < 65536) :
    Calls Try.prog 5 #[cval c v, .int .u16 (k : Int)] w fun e w' => e = .returned (.bool true) ∧ Below w.heap.size w w' := by
  obtain ⟨a, b, d, ps⟩ := c
  by_cases h : 60 < ps.length
  · exact checkBack_long a b d ps v k w hv h
  · by_cases hq : cright ⟨a, b, d, ps⟩ = 0
    · exact checkBack_any a b d ps v k w hv hf hk (by omega) hq
    · exact checkBack_not a b d ps v k w hv (by omega) hq

end Go.Proofs.Ytdcdhcjjngjnjaa
