/- The statements of layer 6: what a scan finds. -/
import Derived.Test.YtdoohmhgcdcmgaaDoorWhere
import Derived.StillTailTactics
namespace Go.Proofs.YtdoohmhgcdcmgaaDoor
open Go.RowKit Go.Cor Go.Extern.Stop Go.Stop Go.Extern

set_option maxRecDepth 100000 in
theorem scanAll_long (name : ByteArray) (v : Value) (l : List UInt8) (a : Int) (w : World) (hg : laidE w) (hv : IsB w v l) (h : 3000 < l.length ∨ 100 < name.size) :
    Calls Tryd.prog 3 #[.string name, v, .int .i64 a] w fun e w' => e = .returned (.bool true) ∧ Below w.heap.size w w' := by
  obtain ⟨N, hN⟩ : ∃ N : Nat, l.length = N := ⟨_, rfl⟩
  have hlen := fun W => len_B (P := Tryd.prog) hv hN 22 3 5 Tryd.underlying22 W
  rw [hN] at h
  clear hv hN
  by_cases h1 : 3000 < N
  · go_enter Tryd.func3, Tryd.ntmps3
    go_wp2_with fail
    refine (alive6_any _ hg).mono ?_
    rintro e w1 ⟨rfl, hb1⟩
    go_wp2
    go_ret
    exact ⟨rfl, hb1⟩
  · have h2 : 100 < name.size := by omega
    go_enter Tryd.func3, Tryd.ntmps3
    go_wp2_with fail
    refine (alive6_any _ hg).mono ?_
    rintro e w1 ⟨rfl, hb1⟩
    go_wp2
    go_ret
    exact ⟨rfl, hb1⟩

set_option maxRecDepth 100000 in
set_option maxHeartbeats 4000000 in
theorem scanAll_out (name : ByteArray) (v : Value) (l : List UInt8) (a : Int) (w : World) (hg : laidE w) (hv : IsB w v l) (h1 : l.length ≤ 3000) (h2 : name.size ≤ 100) (ha : a < 0 ∨ (l.length : Int) < a) :
    Calls Tryd.prog 3 #[.string name, v, .int .i64 a] w fun e w' => e = .returned (.bool true) ∧ Below w.heap.size w w' := by
  obtain ⟨N, hN⟩ : ∃ N : Nat, l.length = N := ⟨_, rfl⟩
  have hlen := fun W => len_B (P := Tryd.prog) hv hN 22 3 5 Tryd.underlying22 W
  rw [hN] at h1
  have HA := Lib.hid ha
  rw [hN] at ha
  have q1 : decide ((3000 : Int) < (N : Int)) = false := decide_eq_false (by omega)
  have q2 : decide ((100 : Int) < (name.size : Int)) = false := decide_eq_false (by omega)
  have HV := Lib.hid hv
  have HN := Lib.hid hN
  clear hv hN
  by_cases h0 : a < 0
  · have q3 : decide (a < 0) = true := decide_eq_true h0
    clear ha
    go_enter Tryd.func3, Tryd.ntmps3
    go_wp2_with fail
    refine (alive6_any _ hg).mono ?_
    rintro e w1 ⟨rfl, hb1⟩
    have HB1 := Lib.hid hb1
    have HG1 := Lib.hid (laidE_mono hg hb1 (laidE_lt hg))
    clear hb1
    go_wp2_with fail
    refine (all_out name v l a _ (HV.out.mono HB1.out (Nat.le_refl _)) (by rw [HN.out]; omega) HA.out).mono ?_
    rintro e w' ⟨rfl, rfl⟩
    go_wp2_with fail
    refine (code_code 1 _ (by decide) (by decide)).mono ?_
    rintro e w' ⟨rfl, rfl⟩
    go_wp2_with fail
    refine (torn_code 1 _ HG1.out).mono ?_
    rintro e w2 ⟨rfl, hb2⟩
    go_wp2
    go_ret
    exact ⟨rfl, HB1.out.trans (hb2.mono HB1.out.size)⟩
  · have q3 : decide (a < 0) = false := decide_eq_false h0
    have q4 : decide ((N : Int) < a) = true := decide_eq_true (by omega)
    clear ha
    go_enter Tryd.func3, Tryd.ntmps3
    go_wp2_with fail
    refine (alive6_any _ hg).mono ?_
    rintro e w1 ⟨rfl, hb1⟩
    have HB1 := Lib.hid hb1
    have HG1 := Lib.hid (laidE_mono hg hb1 (laidE_lt hg))
    clear hb1
    go_wp2_with fail
    refine (all_out name v l a _ (HV.out.mono HB1.out (Nat.le_refl _)) (by rw [HN.out]; omega) HA.out).mono ?_
    rintro e w' ⟨rfl, rfl⟩
    go_wp2_with fail
    refine (code_code 1 _ (by decide) (by decide)).mono ?_
    rintro e w' ⟨rfl, rfl⟩
    go_wp2_with fail
    refine (torn_code 1 _ HG1.out).mono ?_
    rintro e w2 ⟨rfl, hb2⟩
    go_wp2
    go_ret
    exact ⟨rfl, HB1.out.trans (hb2.mono HB1.out.size)⟩

set_option maxRecDepth 100000 in
set_option maxHeartbeats 8000000 in
theorem scanAll_in (name : ByteArray) (v : Value) (l : List UInt8) (a : Nat) (w : World) (hg : laidE w) (hv : IsB w v l) (h1 : l.length ≤ 3000) (h2 : name.size ≤ 100) (ha : a ≤ l.length) :
    Calls Tryd.prog 3 #[.string name, v, .int .i64 (a : Int)] w fun e w' => e = .returned (.bool true) ∧ Below w.heap.size w w' := by
  obtain ⟨N, hN⟩ : ∃ N : Nat, l.length = N := ⟨_, rfl⟩
  have hlen := fun W => len_B (P := Tryd.prog) hv hN 22 3 5 Tryd.underlying22 W
  rw [hN] at h1 ha
  have q1 : decide ((3000 : Int) < (N : Int)) = false := decide_eq_false (by omega)
  have q2 : decide ((100 : Int) < (name.size : Int)) = false := decide_eq_false (by omega)
  have q3 : decide ((a : Int) < 0) = false := decide_eq_false (by omega)
  have q4 : decide ((N : Int) < (a : Int)) = false := decide_eq_false (by omega)
  have q5 : decide (N < a) = false := decide_eq_false (by omega)
  have HV := Lib.hid hv
  have HN := Lib.hid hN
  clear hv hN
  go_enter Tryd.func3, Tryd.ntmps3
  go_wp2_with fail
  refine (alive6_any _ hg).mono ?_
  rintro e w1 ⟨rfl, hb1⟩
  have HB1 := Lib.hid hb1
  clear hb1
  go_wp2_with fail
  refine (all_any name v l a _ (HV.out.mono HB1.out (Nat.le_refl _)) (by rw [HN.out]; omega) (by rw [HN.out]; exact ha)).mono ?_
  rintro e w2 ⟨x2, n, c2, z, err, fs, rfl, hn2, hF2, hP2, hE2, hzl, hA2, hb2⟩
  have HB2 := Lib.hid (HB1.out.trans (hb2.mono HB1.out.size))
  have HF2 := Lib.hid hF2
  have HP := Lib.hid hP2
  have HE := Lib.hid hE2
  have HL := Lib.hid hn2
  obtain ⟨ke, hke⟩ : ∃ ke, endCode l z = ke := ⟨_, rfl⟩
  have hke5 : ke ≤ 5 := by rw [← hke]; exact endCode_le _ _
  have HK3 := Lib.hid (show ke ≠ 0 → 3 ≤ ke from by rw [← hke]; exact endCode_ge)
  rw [hke] at hA2
  have HKE := Lib.hid hke
  have HA2 := Lib.hid hA2
  have hnb : n ≤ 3000 := by
    have := Path.len hP2
    rw [hn2] at this
    rw [HN.out] at hzl
    omega
  clear hn2 hF2 hP2 hE2 hzl hA2 hb2 hke
  go_wp2_with fail
  refine (refall_any v l a _ (HV.out.mono HB2.out (Nat.le_refl _)) (by rw [HN.out]; omega) (by rw [HN.out]; exact ha)).mono ?_
  rintro e w3 ⟨x3, n3, c3, y, gs, rfl, hn3, hF3, hP3, hE3, hyl, hb3⟩
  obtain ⟨rfl, rfl⟩ := HP.out.uniq HE.out hP3 hE3
  obtain rfl : n = n3 := HL.out.symm.trans hn3
  rw [HKE.out]
  have HB3 := Lib.hid (HB2.out.trans (hb3.mono HB2.out.size))
  have HF3 := Lib.hid hF3
  have HF23 := Lib.hid (HF2.out.mono hb3 (Nat.le_refl _))
  have HA3 := Lib.hid (HA2.out.mono hb3 (Nat.le_refl _))
  have HG3 := Lib.hid (laidE_mono hg HB3.out (laidE_lt hg))
  clear hn3 hF3 hP3 hE3 hyl hb3
  by_cases hk0 : ke = 0
  · subst hk0
    obtain ⟨_, rfl⟩ | ⟨h, _⟩ := HA3.out
    rotate_left 1
    · exact absurd rfl h
    go_wp2_with fail
    refine (code_nil _).mono ?_
    rintro e w' ⟨rfl, rfl⟩
    go_wp2_with fail
    refine (torn_nil _).mono ?_
    rintro e w4 ⟨rfl, hb4⟩
    have HB4 := Lib.hid (HB3.out.trans (hb4.mono HB3.out.size))
    have HF4 := Lib.hid (HF3.out.mono hb4 (Nat.le_refl _))
    have HF24 := Lib.hid (HF23.out.mono hb4 (Nat.le_refl _))
    clear hb4
    go_wp2_with fail
    refine (where_nil _).mono ?_
    rintro e w5 ⟨rfl, hb5⟩
    have HBW := Lib.hid (HB4.out.trans (hb5.mono HB4.out.size))
    have HFB := Lib.hid (HF4.out.mono hb5 (Nat.le_refl _))
    have HFA := Lib.hid (HF24.out.mono hb5 (Nat.le_refl _))
    clear hb5
    go_wp2_with fail
    go_loopw [16] (fun c wr => ∃ i : Nat, i ≤ n ∧ c = .int .i64 i ∧ Hid (Below w5.heap.size w5 wr)) (fun c _ => n - (intOf c).toNat)
    case atStart => exact ⟨0, by omega, rfl, Lib.hid (Below.refl _ _)⟩
    case round =>
      obtain ⟨i, hiN, rfl, hB⟩ := hrel
      by_cases hlt : i < n
      · obtain ⟨F, hF⟩ : ∃ F, gs[i]? = some F := ⟨gs[i]'(by rw [HL.out]; exact hlt), List.getElem?_eq_getElem _⟩
        obtain ⟨b1, o1, dv1, ix1, ⟨p0, p1, p2, p3, p4, p5⟩, d1⟩ := indexAt_F (P := Tryd.prog) (HFA.out.mono hB.out (Nat.le_refl _)) 24 41 Tryd.underlying24 Tryd.sizeFound i F hF
        obtain ⟨b2, o2, dv2, ix2, ⟨r0, r1, r2, r3, r4, r5⟩, d2⟩ := indexAt_F (P := Tryd.prog) (HFB.out.mono hB.out (Nat.le_refl _)) 31 44 Tryd.underlying31 Tryd.sizeFoundR i F hF
        have HLT := Lib.hid (show i + 1 ≤ n from hlt)
        have HDL := Lib.hid (show F.n.data.length ≤ 1099511627776 from by have := (HP.out.fits F (List.mem_of_getElem? hF)).2; omega)
        have HD1 := Lib.hid d1
        have HD2 := Lib.hid d2
        clear hF d1 d2
        go_upto_region 17 with fail
        go_still_tail 35, (by kernel_rfl)
        change wpList _ _ _ _ _ wr.drew
        go_wp2_with fail
        refine (refsame_any F.n F.n dv1 dv2 _ (HD1.out.mono ((Below.refl _ _).drew) (Nat.le_refl _)) (HD2.out.mono ((Below.refl _ _).drew) (Nat.le_refl _)) HDL.out).mono ?_
        rintro e w6 ⟨rfl, hb6⟩
        rw [sameN_self]
        have HB6 := Lib.hid (hB.out.trans (((Below.refl wr.heap.size wr).drew.trans hb6).mono hB.out.size))
        clear hb6 p0 p1 p2 p3 p4 p5 r0 r1 r2 r3 r4 r5
        go_wp2
        go_roundw
        case rel => exact ⟨i + 1, HLT.out, by go_num, HB6⟩
        case measure => have := HLT.out; simp [intOf]; omega
      · obtain rfl : i = n := by omega
        go_wp2
        go_ret
        exact ⟨rfl, HBW.out.trans (hB.out.mono HBW.out.size)⟩
  · have hkne : ((ke : Int) != 0) = true := by rw [bne_iff_ne]; omega
    have HT := Lib.hid (show tornB ke = true from decide_eq_true hk0)
    obtain ⟨h, _⟩ | ⟨_, ea, rfl, e0, e1, e2⟩ := HA3.out
    · exact absurd h hk0
    have HE0 := Lib.hid e0
    have HE1 := Lib.hid e1
    clear e0 e1 e2
    go_wp2_with fail
    refine (errAt_code _ _ _ ke _ HA3.out hke5).mono ?_
    rintro e w' ⟨rfl, rfl⟩
    go_wp2_with fail
    refine (errAt_torn _ _ _ ke _ HG3.out HA3.out hke5 HK3.out).mono ?_
    rintro e w4 ⟨rfl, hb4⟩
    rw [HT.out]
    have HB4 := Lib.hid (HB3.out.trans (hb4.mono HB3.out.size))
    have HF4 := Lib.hid (HF3.out.mono hb4 (Nat.le_refl _))
    have HF24 := Lib.hid (HF23.out.mono hb4 (Nat.le_refl _))
    have HG4 := Lib.hid (laidE_mono hg HB4.out (laidE_lt hg))
    have HE04 := Lib.hid ((hb4.cell (cell_lt HE0.out)).trans HE0.out)
    have HE14 := Lib.hid ((hb4.cell (cell_lt HE1.out)).trans HE1.out)
    clear hb4
    go_wp2_with fail
    refine (where_at ea name _ _ HG4.out HE04.out HE14.out).mono ?_
    rintro e w5 ⟨rfl, hb5⟩
    have HBW := Lib.hid (HB4.out.trans (hb5.mono HB4.out.size))
    have HFB := Lib.hid (HF4.out.mono hb5 (Nat.le_refl _))
    have HFA := Lib.hid (HF24.out.mono hb5 (Nat.le_refl _))
    clear hb5
    go_wp2_with fail
    go_loopw [16] (fun c wr => ∃ i : Nat, i ≤ n ∧ c = .int .i64 i ∧ Hid (Below w5.heap.size w5 wr)) (fun c _ => n - (intOf c).toNat)
    case atStart => exact ⟨0, by omega, rfl, Lib.hid (Below.refl _ _)⟩
    case round =>
      obtain ⟨i, hiN, rfl, hB⟩ := hrel
      by_cases hlt : i < n
      · obtain ⟨F, hF⟩ : ∃ F, gs[i]? = some F := ⟨gs[i]'(by rw [HL.out]; exact hlt), List.getElem?_eq_getElem _⟩
        obtain ⟨b1, o1, dv1, ix1, ⟨p0, p1, p2, p3, p4, p5⟩, d1⟩ := indexAt_F (P := Tryd.prog) (HFA.out.mono hB.out (Nat.le_refl _)) 24 41 Tryd.underlying24 Tryd.sizeFound i F hF
        obtain ⟨b2, o2, dv2, ix2, ⟨r0, r1, r2, r3, r4, r5⟩, d2⟩ := indexAt_F (P := Tryd.prog) (HFB.out.mono hB.out (Nat.le_refl _)) 31 44 Tryd.underlying31 Tryd.sizeFoundR i F hF
        have HLT := Lib.hid (show i + 1 ≤ n from hlt)
        have HDL := Lib.hid (show F.n.data.length ≤ 1099511627776 from by have := (HP.out.fits F (List.mem_of_getElem? hF)).2; omega)
        have HD1 := Lib.hid d1
        have HD2 := Lib.hid d2
        clear hF d1 d2
        go_upto_region 17 with fail
        go_still_tail 35, (by kernel_rfl)
        change wpList _ _ _ _ _ wr.drew
        go_wp2_with fail
        refine (refsame_any F.n F.n dv1 dv2 _ (HD1.out.mono ((Below.refl _ _).drew) (Nat.le_refl _)) (HD2.out.mono ((Below.refl _ _).drew) (Nat.le_refl _)) HDL.out).mono ?_
        rintro e w6 ⟨rfl, hb6⟩
        rw [sameN_self]
        have HB6 := Lib.hid (hB.out.trans (((Below.refl wr.heap.size wr).drew.trans hb6).mono hB.out.size))
        clear hb6 p0 p1 p2 p3 p4 p5 r0 r1 r2 r3 r4 r5
        go_wp2
        go_roundw
        case rel => exact ⟨i + 1, HLT.out, by go_num, HB6⟩
        case measure => have := HLT.out; simp [intOf]; omega
      · obtain rfl : i = n := by omega
        go_wp2
        go_ret
        exact ⟨rfl, HBW.out.trans (hB.out.mono HBW.out.size)⟩

theorem scanAll_all (name : ByteArray) (v : Value) (l : List UInt8) (a : Int) (w : World) (hg : laidE w) (hv : IsB w v l) :
    Calls Tryd.prog 3 #[.string name, v, .int .i64 a] w fun e w' => e = .returned (.bool true) ∧ Below w.heap.size w w' := by
  by_cases h : 3000 < l.length ∨ 100 < name.size
  · exact scanAll_long name v l a w hg hv h
  by_cases ha : a < 0 ∨ (l.length : Int) < a
  · exact scanAll_out name v l a w hg hv (by omega) (by omega) ha
  · obtain ⟨k, rfl⟩ := Int.eq_ofNat_of_zero_le (show 0 ≤ a by omega)
    exact scanAll_in name v l k w hg hv (by omega) (by omega) (by omega)

end Go.Proofs.YtdoohmhgcdcmgaaDoor
