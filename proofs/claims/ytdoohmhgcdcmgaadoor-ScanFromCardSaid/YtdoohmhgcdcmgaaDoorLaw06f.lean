/- The statements of layer 6: from any needle on. -/
import Derived.Test.YtdoohmhgcdcmgaaDoorWhere
import Derived.StillTailTactics
import Derived.BigQuiet
import Derived.Deep.RegionHeld3
namespace Go.Proofs.YtdoohmhgcdcmgaaDoor
open Go.RowKit Go.Cor Go.Extern.Stop Go.Stop Go.Extern

theorem scanFrom_long (v : Value) (l : List UInt8) (m : Int) (w : World) (hg : laidE w) (hv : IsB w v l) (h : 3000 < l.length) :
    Calls Tryd.prog 4 #[v, .int .u8 m] w fun e w' => e = .returned (.bool true) ∧ Below w.heap.size w w' := by
  obtain ⟨N, hN⟩ : ∃ N : Nat, l.length = N := ⟨_, rfl⟩
  have hlen := fun W => len_B (P := Tryd.prog) hv hN 22 3 5 Tryd.underlying22 W
  rw [hN] at h
  clear hv hN
  go_enter Tryd.func4, Tryd.ntmps4
  go_wp2_with fail
  refine (alive6_any _ hg).mono ?_
  rintro e w1 ⟨rfl, hb1⟩
  go_wp2
  go_ret
  exact ⟨rfl, hb1⟩

theorem errAt_zero {w : World} {v : Value} {name : ByteArray} {off : Nat} (h : ErrAt w v name off 0) : v = .nilIface := by
  rcases h with ⟨_, h⟩ | ⟨h, _⟩
  · exact h
  · exact absurd rfl h

/-- Bytes that end with a needle: all is found, nothing is wrong. -/
theorem all_cut (name : ByteArray) (v : Value) (l : List UInt8) (J g : Nat) (gs : List Fnd) (w : World) (hv : IsB w v l) (hJ : l.length = J) (hl : J ≤ 4000) (hP : Path l 0 gs J) (hgl : gs.length = g) :
    Calls Tryd.prog 7 #[.string name, v, .int .i64 0] w fun e w' =>
      ∃ x c, e = .returned (.tuple #[.slice x g c, .int .i64 (J : Int), .nilIface]) ∧ Below w.heap.size w w' := by
  refine (all_any name v l 0 w hv (by omega) (Nat.zero_le _)).mono ?_
  rintro e w' ⟨x, n, c, z, err, fs, rfl, hn, hF, hP', hE, hz, hA, hb⟩
  obtain ⟨rfl, rfl⟩ := hP.uniq (.inl hJ.symm) hP' hE
  have h0 : endCode l z = 0 := by unfold endCode; rw [hJ, if_neg (Nat.lt_irrefl _)]
  rw [h0] at hA
  obtain rfl := errAt_zero hA
  obtain rfl : g = n := hgl.symm.trans hn
  exact ⟨x, c, rfl, hb⟩
theorem keep2 {wz wa : World} {b o : Nat} {u0 u1 : Value} (hb : Below wz.heap.size wz wa) (K : wz.cell? ⟨b, o, none⟩ = some u0 ∧ wz.cell? ⟨b, o + 1, none⟩ = some u1) :
    wa.cell? ⟨b, o, none⟩ = some u0 ∧ wa.cell? ⟨b, o + 1, none⟩ = some u1 := by
  have c : ∀ (p : Addr) u, wz.cell? p = some u → wa.cell? p = some u := fun p u h => (hb.cell (cell_lt h)).trans h
  exact ⟨c _ _ K.1, c _ _ K.2⟩

set_option maxRecDepth 100000 in
set_option maxHeartbeats 4000000 in
theorem scanFrom_any (v : Value) (l : List UInt8) (m : Nat) (w : World) (hg : laidE w) (hv : IsB w v l) (h : l.length ≤ 3000) (hm : m < 256) :
    Calls Tryd.prog 4 #[v, .int .u8 (m : Int)] w fun e w' => e = .returned (.bool true) ∧ Below w.heap.size w w' := by
  obtain ⟨N, hN⟩ : ∃ N : Nat, l.length = N := ⟨_, rfl⟩
  have hlen := fun W => len_B (P := Tryd.prog) hv hN 22 3 5 Tryd.underlying22 W
  rw [hN] at h
  have q1 : decide ((3000 : Int) < (N : Int)) = false := decide_eq_false (by omega)
  have HV := Lib.hid hv
  have HN := Lib.hid hN
  clear hv hN
  go_enter Tryd.func4, Tryd.ntmps4
  go_wp2_with fail
  refine (alive6_any _ hg).mono ?_
  rintro e w1 ⟨rfl, hb1⟩
  have HB1 := Lib.hid hb1
  clear hb1
  go_wp2_with fail
  refine (all_any _ v l 0 _ (HV.out.mono HB1.out (Nat.le_refl _)) (by rw [HN.out]; omega) (by omega)).mono ?_
  rintro e w2 ⟨x2, n, c2, z, err2, fs, rfl, hn2, hF2, hP2, hE2, hzl, hA2, hb2⟩
  have HB2 := Lib.hid (HB1.out.trans (hb2.mono HB1.out.size))
  have HF2 := Lib.hid hF2
  have HP2 := Lib.hid hP2
  have HE2 := Lib.hid hE2
  have HL2 := Lib.hid hn2
  obtain ⟨ke, hke⟩ : ∃ ke, endCode l z = ke := ⟨_, rfl⟩
  have hke5 : ke ≤ 5 := by rw [← hke]; exact endCode_le _ _
  rw [hke] at hA2
  have HKE := Lib.hid hke
  have HA2 := Lib.hid hA2
  have hnb : n ≤ 3000 := by
    have := Path.len hP2
    rw [hn2] at this
    rw [HN.out] at hzl
    omega
  clear hn2 hF2 hP2 hE2 hzl hA2 hb2 hke
  by_cases hn0 : n = 0
  · subst hn0
    go_wp2
    go_ret
    exact ⟨rfl, HB2.out⟩
  obtain ⟨K, hK⟩ : ∃ K : Nat, K = m % n := ⟨_, rfl⟩
  have hKn : K < n := by rw [hK]; exact Nat.mod_lt _ (by omega)
  have hKi : (m : Int) % (n : Int) = (K : Int) := by rw [hK]; exact (Int.natCast_emod m n).symm
  have hKi2 : (m : Int).tmod (n : Int) = (K : Int) := by rw [Int.tmod_eq_emod_of_nonneg (by omega)]; exact hKi
  have q2 : ((n : Int) == 0) = false := by rw [beq_eq_false_iff_ne]; omega
  obtain ⟨F, hF⟩ : ∃ F, fs[K]? = some F := ⟨fs[K]'(by rw [HL2.out]; exact hKn), List.getElem?_eq_getElem _⟩
  obtain ⟨b0, o0, dv0, ix0, fa0, d0⟩ := indexAt_F (P := Tryd.prog) HF2.out 24 41 Tryd.underlying24 Tryd.sizeFound K F hF
  have HFA := Lib.hid fa0
  obtain ⟨p0, p1, p2, p3, p4, p5⟩ := fa0
  have HF := Lib.hid hF
  clear hF d0 hK
  have hol := HP2.out.off_le HF.out
  have hoN : F.off ≤ N := by rw [HN.out] at hol; omega
  clear hol
  go_wp2_with fail
  refine (all_any _ v l F.off _ (HV.out.mono HB2.out (Nat.le_refl _)) (by rw [HN.out]; omega) (by rw [HN.out]; exact hoN)).mono ?_
  rintro e w3 ⟨x3, n3, c3, y, err3, gs, rfl, hn3, hF3, hP3, hE3, hyl, hA3, hb3⟩
  obtain ⟨rfl, rfl⟩ := (HP2.out.drop HF.out).uniq HE2.out hP3 hE3
  have hn3' : K + n3 = n := by
    rw [List.length_drop, HL2.out] at hn3
    omega
  have hsub : (n : Int) - (K : Int) = (n3 : Int) := by omega
  rw [HKE.out] at hA3
  have HB3 := Lib.hid (HB2.out.trans (hb3.mono HB2.out.size))
  have HF3 := Lib.hid hF3
  have HA3 := Lib.hid hA3
  have HL3 := Lib.hid hn3
  have HF23 := Lib.hid (HF2.out.mono hb3 (Nat.le_refl _))
  have HA23 := Lib.hid (HA2.out.mono hb3 (Nat.le_refl _))
  have HFA3 := Lib.hid (HFA.out.mono hb3 HFA.out.lt)
  clear hn3 hF3 hP3 hE3 hyl hA3 hb3 p0 p1 p2 p3 p4 p5
  go_wp2_with fail
  refine (errAt_code err2 _ _ ke _ HA23.out hke5).mono ?_
  rintro e w' ⟨rfl, rfl⟩
  go_wp2_with fail
  refine (errAt_code err3 _ _ ke _ HA3.out hke5).mono ?_
  rintro e w' ⟨rfl, rfl⟩
  go_wp2_with fail
  go_loopw [12] (fun c wr => ∃ i : Nat, i ≤ n3 ∧ c = .int .i64 i ∧ Hid (Below w3.heap.size w3 wr)) (fun c _ => n3 - (intOf c).toNat)
  case atStart => exact ⟨0, by omega, rfl, Lib.hid (Below.refl _ _)⟩
  case round =>
    obtain ⟨i, hiN, rfl, hB⟩ := hrel
    by_cases hlt : i < n3
    · obtain ⟨G, hG⟩ : ∃ G, (fs.drop K)[i]? = some G := ⟨(fs.drop K)[i]'(by rw [HL3.out]; exact hlt), List.getElem?_eq_getElem _⟩
      have hG2 : fs[K + i]? = some G := by rw [← List.getElem?_drop]; exact hG
      obtain ⟨b1, o1, dv1, ix1, ⟨p0, p1, p2, p3, p4, p5⟩, d1⟩ := indexAt_F (P := Tryd.prog) (HF3.out.mono hB.out (Nat.le_refl _)) 24 41 Tryd.underlying24 Tryd.sizeFound i G hG
      obtain ⟨b2, o2, dv2, ix2, ⟨r0, r1, r2, r3, r4, r5⟩, d2⟩ := indexAt_F (P := Tryd.prog) (HF23.out.mono hB.out (Nat.le_refl _)) 24 41 Tryd.underlying24 Tryd.sizeFound (K + i) G hG2
      obtain ⟨Q, hQ⟩ : ∃ Q : Nat, Q = K + i := ⟨_, rfl⟩
      have hQi : (K : Int) + (i : Int) = (Q : Int) := by omega
      have hQw : IntKind.i64.wrap (Q : Int) = (Q : Int) := by rw [IntKind.wrap_i64]; omega
      rw [← hQ] at ix2
      have HLT := Lib.hid (show i + 1 ≤ n3 from hlt)
      have HD1 := Lib.hid d1
      have HD2 := Lib.hid d2
      clear hG hG2 d1 d2 hQ
      go_upto_region 15 with fail
      go_still_tail 26, (by kernel_rfl)
      change wpList _ _ _ _ _ wr.drew
      go_wp2_with fail
      refine (nsame_any G.n G.n dv1 dv2 _ (HD1.out.mono ((Below.refl _ _).drew) (Nat.le_refl _)) (HD2.out.mono ((Below.refl _ _).drew) (Nat.le_refl _))).mono ?_
      rintro e w6 ⟨rfl, hb6⟩
      rw [sameN_self]
      have HB6 := Lib.hid (hB.out.trans (((Below.refl wr.heap.size wr).drew.trans hb6).mono hB.out.size))
      clear hb6 p0 p1 p2 p3 p4 p5 r0 r1 r2 r3 r4 r5
      go_wp2
      go_roundw
      case rel => exact ⟨i + 1, HLT.out, by go_num, HB6⟩
      case measure => have := HLT.out; simp [intOf]; omega
    · obtain rfl : i = n3 := by omega
      have HBr := Lib.hid (HB3.out.trans (hB.out.mono HB3.out.size))
      have HFr := Lib.hid (HFA3.out.mono hB.out HFA3.out.lt)
      obtain ⟨p0, p1, p2, p3, p4, p5⟩ := HFr.out
      have hol := HP2.out.off_le HF.out
      rw [HN.out] at hol
      have hyN : y ≤ N := by have := HP2.out.le.2 (by omega); rw [HN.out] at this; exact this
      obtain ⟨J, hJ⟩ : ∃ J : Nat, J = F.off + F.size := ⟨_, rfl⟩
      have hJi : (F.off : Int) + (F.size : Int) = (J : Int) := by omega
      have hJN : J ≤ N := by omega
      have hJw : IntKind.i64.wrap (J : Int) = (J : Int) := by rw [IntKind.wrap_i64]; omega
      have hPT : Path (l.take J) 0 (fs.take (K + 1)) J := by
        rw [hJ]
        exact (HP2.out.take HF.out).ext (by rw [List.take_take, Nat.min_self]) (by rw [List.length_take, HN.out]; omega) (by rw [HN.out]; omega)
      have hLT : (l.take J).length = J := by rw [List.length_take, HN.out]; omega
      have HPT := Lib.hid hPT
      have HLJ := Lib.hid hLT
      obtain ⟨sv, rsv, isv⟩ := slice_h_B (P := Tryd.prog) HV.out 22 5 Tryd.underlying22 Tryd.sizeU8 J (by rw [HN.out]; exact hJN)
      have ISV := Lib.hid (isv.mono HBr.out (Nat.le_refl _))
      have HIS := Lib.hid (show IsB wr.drew sv (l.take J) from ISV.out.mono ((Below.refl _ _).drew) (Nat.le_refl _))
      obtain ⟨g, hgK⟩ : ∃ g : Nat, g = K + 1 := ⟨_, rfl⟩
      have hgi : (K : Int) + 1 = (g : Int) := by omega
      have hgw : IntKind.i64.wrap (g : Int) = (g : Int) := by rw [IntKind.wrap_i64]; omega
      have HGL := Lib.hid (show (fs.take (K + 1)).length = g from by rw [List.length_take, HL2.out]; omega)
      have HJ4 := Lib.hid (show J ≤ 4000 from by omega)
      have h0J : (0 : Int) ≤ (J : Int) := by omega
      clear hol hJ hPT hLT isv hyN hgK
      go_upto_region 17 with fail
      go_cut [13, 14, 15] from 100 to 117 (fun q13 q14 q15 wx => ∃ x6 c6, q13 = .slice x6 g c6 ∧ q14 = .int .i64 (J : Int) ∧ q15 = .nilIface ∧ Below wr.heap.size wr wx)
      case first =>
        have K1 : wr.drew.cell? ⟨b0, o0, none⟩ = some (.int .i64 (F.off : Int)) ∧ wr.drew.cell? ⟨b0, o0 + 1, none⟩ = some (.int .i64 (F.size : Int)) := ⟨p0, p1⟩
        go_wp2_with fail
        go_region_held3 (fun wx => wx.cell? ⟨b0, o0, none⟩ = some (.int .i64 (F.off : Int)) ∧ wx.cell? ⟨b0, o0 + 1, none⟩ = some (.int .i64 (F.size : Int))) (first | exact K1 | exact Ka) (first
          | (go_at_call 7; with_reducible refine (all_cut _ sv (l.take J) J g (fs.take (K + 1)) _ HIS.out HLJ.out HJ4.out HPT.out HGL.out).mono ?_; rintro e wa ⟨x6, c6, rfl, hba⟩; have Ka := keep2 hba K1))
        all_goals (go_wp2_with fail; go_meet)
        all_goals exact ⟨x6, c6, rfl, rfl, rfl, ((Below.refl _ _).drew).trans hba⟩
      case rest =>
      obtain ⟨x6, c6, rfl, rfl, rfl, hbc⟩ := hcut
      have HFc := Lib.hid (HFr.out.mono hbc HFr.out.lt)
      have HBc := Lib.hid (HBr.out.trans (hbc.mono HBr.out.size))
      clear hbc p0 p1 p2 p3 p4 p5
      obtain ⟨p0, p1, p2, p3, p4, p5⟩ := HFc.out
      go_wp2_with fail
      go_quiet (first | exact Calls.quiet_of_same ((code_nil _).mono fun e w' ⟨he, hw⟩ => ⟨he, hw.symm⟩))
      go_wp2
      go_ret
      exact ⟨rfl, below_drawn HBc.out _⟩

theorem scanFrom_all (v : Value) (l : List UInt8) (m : Nat) (w : World) (hg : laidE w) (hv : IsB w v l) (hm : m < 256) :
    Calls Tryd.prog 4 #[v, .int .u8 (m : Int)] w fun e w' => e = .returned (.bool true) ∧ Below w.heap.size w w' := by
  by_cases h : 3000 < l.length
  · exact scanFrom_long v l m w hg hv h
  · exact scanFrom_any v l m w hg hv (by omega) hm

end Go.Proofs.YtdoohmhgcdcmgaaDoor
