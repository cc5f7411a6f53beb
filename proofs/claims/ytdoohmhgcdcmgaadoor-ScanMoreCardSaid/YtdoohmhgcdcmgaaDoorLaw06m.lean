/- The statements of layer 6: what stands behind changes nothing ahead. -/
import Derived.Test.YtdoohmhgcdcmgaaDoorWhere
import Derived.StillTailTactics
namespace Go.Proofs.YtdoohmhgcdcmgaaDoor
open Go.RowKit Go.Cor Go.Extern.Stop Go.Stop Go.Extern

theorem scanMore_long (v1 v2 : Value) (l m : List UInt8) (w : World) (hg : laidE w) (h1 : IsB w v1 l) (h2 : IsB w v2 m) (h : 2000 < l.length ∨ 1000 < m.length) :
    Calls Tryd.prog 5 #[v1, v2] w fun e w' => e = .returned (.bool true) ∧ Below w.heap.size w w' := by
  obtain ⟨N, hN⟩ : ∃ N : Nat, l.length = N := ⟨_, rfl⟩
  obtain ⟨M, hM⟩ : ∃ M : Nat, m.length = M := ⟨_, rfl⟩
  have hlen1 := fun W => len_B (P := Tryd.prog) h1 hN 22 3 5 Tryd.underlying22 W
  have hlen2 := fun W => len_B (P := Tryd.prog) h2 hM 22 3 5 Tryd.underlying22 W
  rw [hN, hM] at h
  clear h1 h2 hN hM
  by_cases ha : 2000 < N
  · go_enter Tryd.func5, Tryd.ntmps5
    go_wp2_with fail
    refine (alive6_any _ hg).mono ?_
    rintro e w1 ⟨rfl, hb1⟩
    go_wp2
    go_ret
    exact ⟨rfl, hb1⟩
  · have hb : 1000 < M := by omega
    go_enter Tryd.func5, Tryd.ntmps5
    go_wp2_with fail
    refine (alive6_any _ hg).mono ?_
    rintro e w1 ⟨rfl, hb1⟩
    go_wp2
    go_ret
    exact ⟨rfl, hb1⟩

set_option maxRecDepth 100000 in
set_option maxHeartbeats 4000000 in
theorem scanMore_any (v1 v2 : Value) (l m : List UInt8) (w : World) (hg : laidE w) (h1 : IsB w v1 l) (h2 : IsB w v2 m) (h3 : l.length ≤ 2000) (h4 : m.length ≤ 1000) :
    Calls Tryd.prog 5 #[v1, v2] w fun e w' => e = .returned (.bool true) ∧ Below w.heap.size w w' := by
  obtain ⟨i0, hi, hz0, hz1, hz2⟩ := info_parts Tryd.infoU8
  obtain ⟨N, hN⟩ : ∃ N : Nat, l.length = N := ⟨_, rfl⟩
  obtain ⟨M, hM⟩ : ∃ M : Nat, m.length = M := ⟨_, rfl⟩
  have hlen1 := fun W => len_B (P := Tryd.prog) h1 hN 22 3 5 Tryd.underlying22 W
  have hlen2 := fun W => len_B (P := Tryd.prog) h2 hM 22 3 5 Tryd.underlying22 W
  rw [hN] at h3
  rw [hM] at h4
  have q1 : decide ((2000 : Int) < (N : Int)) = false := decide_eq_false (by omega)
  have q2 : decide ((1000 : Int) < (M : Int)) = false := decide_eq_false (by omega)
  have H1 := Lib.hid h1
  have H2 := Lib.hid h2
  have HN := Lib.hid hN
  have HM := Lib.hid hM
  clear h1 h2 hN hM
  go_enter Tryd.func5, Tryd.ntmps5
  go_wp2_with fail
  refine (alive6_any _ hg).mono ?_
  rintro e w1 ⟨rfl, hb1⟩
  have HB1 := Lib.hid hb1
  clear hb1
  go_wp2_with fail
  refine (all_any _ v1 l 0 _ (H1.out.mono HB1.out (Nat.le_refl _)) (by rw [HN.out]; omega) (by omega)).mono ?_
  rintro e w2 ⟨x2, n2, c2, z, err2, fs, rfl, hn2, hF2, hP2, hE2, hzl, hA2, hb2⟩
  have HB2 := Lib.hid (HB1.out.trans (hb2.mono HB1.out.size))
  have HF2 := Lib.hid hF2
  have HP2 := Lib.hid hP2
  have HL2 := Lib.hid hn2
  rw [HN.out] at hzl
  obtain ⟨sv, rsv, isv⟩ := slice_h_B (P := Tryd.prog) H1.out 22 5 Tryd.underlying22 Tryd.sizeU8 z (by rw [HN.out]; exact hzl)
  obtain ⟨X, hX⟩ : ∃ X : List UInt8, X = l.take z := ⟨_, rfl⟩
  rw [← hX] at isv
  have ISV := Lib.hid (isv.mono HB2.out (Nat.le_refl _))
  have H22 := Lib.hid (H2.out.mono HB2.out (Nat.le_refl _))
  have HXl := Lib.hid (show X.length = z from by rw [hX, List.length_take, HN.out]; omega)
  have HX := Lib.hid hX
  clear hn2 hF2 hP2 hE2 hA2 hb2 isv hX
  have hal : Below w2.heap.size w2 (w2.alloc (.cells #[] 5)) := (Below.refl _ _).alloc (Nat.le_refl _) _
  have ISV' := Lib.hid (ISV.out.mono hal (Nat.le_refl _))
  have H22' := Lib.hid (H22.out.mono hal (Nat.le_refl _))
  have HB2' := Lib.hid hal
  have HLB := Lib.hid (show ([] : List UInt8).length + X.length ≤ 1099511627776 ∧ X.length + m.length ≤ 1099511627776 from by rw [HXl.out, HM.out]; simp; omega)
  clear hal
  go_wp2_with (at_builtin; refine wpList_append_B (by rfl) (.tmp 29) (.tmp 32) 22 rfl w2.heap.size 5 i0 Tryd.underlying22 hi hz0 hz1 hz2 _ [] 0 rfl (World.ownsRow_lit _ #[] 0 (Nat.le_refl _) (Nat.zero_le _) rfl) rfl _ X rfl ISV'.out HLB.out.1 (by simp) ?_)
  intro v3 w3 hown3 hb3
  have HB3 := Lib.hid (HB2'.out.trans hb3)
  have H23 := Lib.hid (H22.out.mono HB3.out (Nat.le_refl _))
  have hs3 := HB3.out.size
  have HO3 := Lib.hid (show w3.ownsRow w2.heap.size 5 1 v3 X.length (bvs X) from by simpa using hown3)
  clear hown3 hb3
  go_wp2_with (at_builtin; refine wpList_append_B (by rfl) (.tmp 33) (.tmp 34) 22 rfl w2.heap.size 5 i0 Tryd.underlying22 hi hz0 hz1 hz2 _ X _ rfl HO3.out rfl _ m rfl H23.out HLB.out.2 hs3 ?_)
  intro v4 w4 hown4 hb4
  have HB4 := Lib.hid (HB3.out.trans hb4)
  obtain ⟨C, hC⟩ : ∃ C, C = X ++ m := ⟨_, rfl⟩
  have HCl := Lib.hid (show C.length ≤ 3000 from by rw [hC, List.length_append, HXl.out, HM.out]; omega)
  have HC := Lib.hid hC
  have H4 := Lib.hid (IsB.own (show w4.ownsRow w2.heap.size 5 1 v4 C.length (bvs C) from by rw [hC]; simpa using hown4) rfl)
  clear hown4 hb4 hC
  go_wp2_with fail
  refine (all_any _ v4 C 0 _ H4.out (by have := HCl.out; omega) (by omega)).mono ?_
  rintro e w5 ⟨x5, n5, c5, y, err5, gs, rfl, hn5, hF5, hP5, hE5, hyl, hA5, hb5⟩
  have hPm : Path C 0 fs z := HP2.out.ext (by rw [HC.out, List.take_append_of_le_length (by rw [HXl.out]; exact Nat.le_refl _), HX.out, List.take_take, Nat.min_self]) (by rw [HC.out, List.length_append, HXl.out]; omega) (by rw [HN.out]; exact hzl)
  obtain ⟨r, hr, hPr⟩ := hPm.split hP5 hE5
  have hzy : decide (y < z) = false := decide_eq_false (by have := hPr.le.1; omega)
  have hnn : decide (n5 < n2) = false := decide_eq_false (by rw [← hn5, ← HL2.out, hr, List.length_append]; omega)
  have hn2b : n2 ≤ 2000 := by
    have := Path.len HP2.out
    rw [HL2.out] at this
    omega
  have HR := Lib.hid hr
  have HB5 := Lib.hid (HB4.out.trans (hb5.mono HB4.out.size))
  have HF5 := Lib.hid hF5
  have HF25 := Lib.hid (HF2.out.mono HB5.out (Nat.le_refl _))
  have HBW := Lib.hid (HB2.out.trans (HB5.out.mono HB2.out.size))
  have HL5 := Lib.hid hn5
  clear hn5 hF5 hP5 hE5 hyl hA5 hb5 hPm hr hPr
  go_wp2_with fail
  go_loopw [11] (fun c wr => ∃ i : Nat, i ≤ n2 ∧ c = .int .i64 i ∧ Hid (Below w5.heap.size w5 wr)) (fun c _ => n2 - (intOf c).toNat)
  case atStart => exact ⟨0, by omega, rfl, Lib.hid (Below.refl _ _)⟩
  case round =>
    obtain ⟨i, hiN, rfl, hB⟩ := hrel
    by_cases hlt : i < n2
    · obtain ⟨F, hF⟩ : ∃ F, fs[i]? = some F := ⟨fs[i]'(by rw [HL2.out]; exact hlt), List.getElem?_eq_getElem _⟩
      have hG : gs[i]? = some F := by rw [HR.out, List.getElem?_append_left (by rw [HL2.out]; exact hlt)]; exact hF
      obtain ⟨b1, o1, dv1, ix1, ⟨p0, p1, p2, p3, p4, p5⟩, d1⟩ := indexAt_F (P := Tryd.prog) (HF5.out.mono hB.out (Nat.le_refl _)) 24 41 Tryd.underlying24 Tryd.sizeFound i F hG
      obtain ⟨b2, o2, dv2, ix2, ⟨r0, r1, r2, r3, r4, r5⟩, d2⟩ := indexAt_F (P := Tryd.prog) (HF25.out.mono hB.out (Nat.le_refl _)) 24 41 Tryd.underlying24 Tryd.sizeFound i F hF
      have HLT := Lib.hid (show i + 1 ≤ n2 from hlt)
      have HD1 := Lib.hid d1
      have HD2 := Lib.hid d2
      clear hF hG d1 d2
      go_upto_region 12 with fail
      go_still_tail 35, (by kernel_rfl)
      change wpList _ _ _ _ _ wr.drew
      go_wp2_with fail
      refine (nsame_any F.n F.n dv1 dv2 _ (HD1.out.mono ((Below.refl _ _).drew) (Nat.le_refl _)) (HD2.out.mono ((Below.refl _ _).drew) (Nat.le_refl _))).mono ?_
      rintro e w6 ⟨rfl, hb6⟩
      rw [sameN_self]
      have HB6 := Lib.hid (hB.out.trans (((Below.refl wr.heap.size wr).drew.trans hb6).mono hB.out.size))
      clear hb6 p0 p1 p2 p3 p4 p5 r0 r1 r2 r3 r4 r5
      go_wp2
      go_roundw
      case rel => exact ⟨i + 1, HLT.out, by go_num, HB6⟩
      case measure => have := HLT.out; simp [intOf]; omega
    · obtain rfl : i = n2 := by omega
      go_wp2
      go_ret
      exact ⟨rfl, HBW.out.trans (hB.out.mono (Nat.le_trans HB2.out.size HB5.out.size))⟩

theorem scanMore_all (v1 v2 : Value) (l m : List UInt8) (w : World) (hg : laidE w) (h1 : IsB w v1 l) (h2 : IsB w v2 m) :
    Calls Tryd.prog 5 #[v1, v2] w fun e w' => e = .returned (.bool true) ∧ Below w.heap.size w w' := by
  by_cases h : 2000 < l.length ∨ 1000 < m.length
  · exact scanMore_long v1 v2 l m w hg h1 h2 h
  · exact scanMore_any v1 v2 l m w hg h1 h2 (by omega) (by omega)

end Go.Proofs.YtdoohmhgcdcmgaaDoor
