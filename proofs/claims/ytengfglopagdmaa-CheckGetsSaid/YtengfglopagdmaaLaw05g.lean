/- The statements of layer 5 (check): the checkpoint of any bytes. -/
import Derived.Test.YtengfglopagdmaaSame5b
import Derived.Test.YtengfglopagdmaaRget5
namespace Go.Proofs.Ytengfglopagdmaa
open Go.RowKit Go.Cor

theorem resC_short (l : List UInt8) : (resC l).l.length ≤ 4096 := by
  by_cases h : getK l = 0
  · rw [resC_ok h]
    have h2 := getK_zero h
    exact (cright_ok h2.2.2.2).1
  · rw [resC_no h]
    decide
theorem getK_le (l : List UInt8) : getK l ≤ 5 := by have := getK_cases l; omega

theorem checkGets_long (v : Value) (l : List UInt8) (w : World) (hv : IsB w v l) (h : 3000 < l.length) :
    Calls Try.prog 4 #[v] w fun e w' => e = .returned (.bool true) ∧ Below w.heap.size w w' := by
  obtain ⟨L, hL⟩ : ∃ L, l.length = L := ⟨_, rfl⟩
  obtain ⟨x, cap, rfl, hlc, hcm⟩ := hv.at_len hL
  have hb : decide ((3000 : Int) < (L : Int)) = true := decide_eq_true (by omega)
  clear hv hL h
  go_enter Try.func4, Try.ntmps4
  go_wp2_with fail
  refine (alive5_any _).mono ?_
  rintro e w1 ⟨rfl, hb1⟩
  have HB1 := Lib.hid hb1
  clear hb1
  go_wp2
  go_ret
  exact ⟨rfl, HB1.out⟩

set_option maxHeartbeats 1000000 in
theorem checkGets_any (v : Value) (l : List UInt8) (w : World) (hv : IsB w v l) (h : l.length ≤ 3000) :
    Calls Try.prog 4 #[v] w fun e w' => e = .returned (.bool true) ∧ Below w.heap.size w w' := by
  obtain ⟨L, hL⟩ : ∃ L, l.length = L := ⟨_, rfl⟩
  have HV := Lib.hid hv
  obtain ⟨x, cap, rfl, hlc, hcm⟩ := hv.at_len hL
  have hb : decide ((3000 : Int) < (L : Int)) = false := decide_eq_false (by omega)
  have HL := Lib.hid hL
  have hL2 : L ≤ 3000 := by omega
  have HK5 := Lib.hid (getK_le l)
  have HRS := Lib.hid (resC_short l)
  obtain ⟨q, hq⟩ : ∃ q, getK l = q := ⟨_, rfl⟩
  obtain ⟨R, hR⟩ : ∃ R, resC l = R := ⟨_, rfl⟩
  rw [hq] at HK5
  rw [hR] at HRS
  have HQ := Lib.hid hq
  have HR := Lib.hid hR
  obtain ⟨a, b, d, ps⟩ := R
  clear hv hL h hq hR
  go_enter Try.func4, Try.ntmps4
  go_wp2_with fail
  refine (alive5_any _).mono ?_
  rintro e w1 ⟨rfl, hb1⟩
  have HB1 := Lib.hid hb1
  have HV1 := Lib.hid (HV.out.mono hb1 (Nat.le_refl _))
  clear hb1
  go_wp2_with fail
  refine (cget_any _ l _ HV1.out (by rw [HL.out]; omega)).mono ?_
  rintro e w2 ⟨x2, c2, rfl, hp2, hb2⟩
  rw [HR.out] at hp2 ⊢
  rw [HQ.out]
  have HP2 := Lib.hid (show IsP w2 (.slice x2 ps.length c2) ps from hp2)
  have HV2 := Lib.hid (HV1.out.mono hb2 (Nat.le_refl _))
  have HB2 := Lib.hid (HB1.out.trans (hb2.mono HB1.out.size))
  clear hp2 hb2
  go_upto_region 6 with fail
  have hba : Below w2.heap.size w2 (w2.alloc (.cells #[.int .i64 a, .int .i64 b, .int .i64 d, .slice x2 ps.length c2] 34)) := (Below.refl _ _).alloc (Nat.le_refl _) _
  have HX3 := Lib.hid (BoxC.new w2 a b d (.slice x2 ps.length c2) 34)
  have hz3 : w2.heap.size < (w2.alloc (.cells #[.int .i64 a, .int .i64 b, .int .i64 d, .slice x2 ps.length c2] 34)).heap.size := by simp
  have HP3 := Lib.hid (HP2.out.mono hba (Nat.le_refl _))
  have HV3 := Lib.hid (HV2.out.mono hba (Nat.le_refl _))
  have HB3 := Lib.hid (HB2.out.trans (hba.mono HB2.out.size))
  obtain ⟨w3, hw3⟩ : ∃ w3, w3 = w2.alloc (.cells #[.int .i64 a, .int .i64 b, .int .i64 d, .slice x2 ps.length c2] 34) := ⟨_, rfl⟩
  rw [← hw3] at HX3 hz3 HP3 HV3 HB3 ⊢
  clear hw3 hba HP2 HV2 HB2
  obtain ⟨g2, hg2⟩ : ∃ g2, g2 = w2.heap.size := ⟨_, rfl⟩
  rw [← hg2] at HX3 hz3 ⊢
  clear hg2
  go_wp2_with fail
  refine (rget_any _ l _ HV3.out (by rw [HL.out]; omega)).mono ?_
  rintro e w4 ⟨x4, c4, rfl, hp4, hb4⟩
  rw [HR.out] at hp4 ⊢
  rw [HQ.out]
  have HP4 := Lib.hid (show IsP w4 (.slice x4 ps.length c4) ps from hp4)
  have HX4 := Lib.hid (HX3.out.mono hb4 hz3)
  have hz4 := Nat.lt_of_lt_of_le hz3 hb4.size
  have HP4x := Lib.hid (HP3.out.mono hb4 (Nat.le_refl _))
  have HB4 := Lib.hid (HB3.out.trans (hb4.mono HB3.out.size))
  clear hp4 hb4 HX3 HP3 HV3 HB3 hz3
  go_upto_region 7 with fail
  have hba : Below w4.heap.size w4 (w4.alloc (.cells #[.int .i64 a, .int .i64 b, .int .i64 d, .slice x4 ps.length c4] 24)) := (Below.refl _ _).alloc (Nat.le_refl _) _
  have HY5 := Lib.hid (BoxC.new w4 a b d (.slice x4 ps.length c4) 24)
  have HX5 := Lib.hid (HX4.out.mono hba hz4)
  have HP5 := Lib.hid (HP4.out.mono hba (Nat.le_refl _))
  have HP5x := Lib.hid (HP4x.out.mono hba (Nat.le_refl _))
  have HB5 := Lib.hid (HB4.out.trans (hba.mono HB4.out.size))
  obtain ⟨w5, hw5⟩ : ∃ w5, w5 = w4.alloc (.cells #[.int .i64 a, .int .i64 b, .int .i64 d, .slice x4 ps.length c4] 24) := ⟨_, rfl⟩
  rw [← hw5] at HY5 HX5 HP5 HP5x HB5 ⊢
  clear hw5 hba HX4 HP4 HP4x HB4 hz4
  have hqq : ((q : Int) == (q : Int)) = true := by simp
  go_wp2_with fail
  refine (code_cerr q _ (by have := HK5.out; omega)).mono ?_
  rintro e w' ⟨rfl, rfl⟩
  obtain ⟨c0, c1, c2', c3⟩ := HX5.out
  obtain ⟨d0, d1, d2, d3⟩ := HY5.out
  go_wp2_with fail
  refine (csame_yes a b d ps _ _ _ HP5x.out HP5.out (show ps.length ≤ 4398046511104 from Nat.le_trans HRS.out (by decide))).mono ?_
  rintro e w6 ⟨rfl, hb6⟩
  have HB6 := Lib.hid (HB5.out.trans (hb6.mono HB5.out.size))
  clear hb6 c0 c1 c2' c3 d0 d1 d2 d3
  go_wp2
  go_ret
  exact ⟨rfl, HB6.out⟩

theorem checkGets_all (v : Value) (l : List UInt8) (w : World) (hv : IsB w v l) :
    Calls Try.prog 4 #[v] w fun e w' => e = .returned (.bool true) ∧ Below w.heap.size w w' := by
  by_cases h : 3000 < l.length
  · exact checkGets_long v l w hv h
  · exact checkGets_any v l w hv (by omega)

end Go.Proofs.Ytengfglopagdmaa
