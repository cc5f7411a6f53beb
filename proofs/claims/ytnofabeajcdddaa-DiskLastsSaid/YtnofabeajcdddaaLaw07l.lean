/- DiskLasts: the walk. -/
import Derived.Test.YtnofabeajcdddaaLasts
import Derived.Test.YtnofabeajcdddaaLaw07n
import Derived.BigQuiet
namespace Go.Proofs.Ytnofabeajcdddaa
open Go.RowKit Go.Cor

theorem z_code (a : List UInt8) (h : a.length ≤ 300) : ((((newD 5000).create xn).1.append xn a).1.sync xn).1.syncNames.2 = 0 := by rw [z1, z2 a h, z3, z4]
theorem isB_of_row1 {w : World} {v : Value} {n : Nat} {l : List UInt8} (h : IsX w 1 v n (bvs l)) (hn : l.length = n) : IsB w v l := by
  subst hn
  obtain ⟨a, c, rfl, h1, h2, h3, h4, h5⟩ := h
  refine ⟨a, c, rfl, h1, h2, h4, ?_⟩
  rcases h5 with h5 | ⟨b, off, rfl, hc⟩
  · exact .inl h5
  · exact .inr ⟨b, off, rfl, fun i hi => by rw [hc i (by omega), bvs_get hi]⟩
theorem Z10_armed (d : Dsk) (a b c : List UInt8) (m : Nat) (h : Fin10 d a b c m) : isDown d.armed = decide (m ≤ 5) := by
  obtain ⟨B, F, now, deeds, arm, rfl, _, h2, _⟩ := h
  exact h2

set_option maxRecDepth 100000 in
set_option maxHeartbeats 8000000 in
theorem diskLasts_all (av bv' cv : Value) (a b c : List UInt8) (pn : Int) (pv : Value) (ps : List Pck) (m : Nat) (w : World) (ha : IsB w av a) (hb : IsB w bv' b) (hc : IsB w cv c) (hp : IsX w 2 pv ps.length (row pck ps)) (hm : m < 256) :
    Calls Try.prog 4 #[av, bv', cv, .agg #[.int .i64 pn, pv], .int .u8 (m : Int)] w fun e w' => e = .returned (.bool true) ∧ Below w.heap.size w w' := by
  obtain ⟨AN, hAN⟩ : ∃ n, a.length = n := ⟨_, rfl⟩
  obtain ⟨BN, hBN⟩ : ∃ n, b.length = n := ⟨_, rfl⟩
  obtain ⟨CN, hCN⟩ : ∃ n, c.length = n := ⟨_, rfl⟩
  obtain ⟨M, hM⟩ : ∃ n, ps.length = n := ⟨_, rfl⟩
  have hla := fun W => len_X (P := Try.prog) (isX_of_B ha) 37 3 _ Try.underlying37 W
  have hlb := fun W => len_X (P := Try.prog) (isX_of_B hb) 37 3 _ Try.underlying37 W
  have hlc := fun W => len_X (P := Try.prog) (isX_of_B hc) 37 3 _ Try.underlying37 W
  have hlp := fun W => len_X (P := Try.prog) hp 40 3 _ Try.underlying40 W
  rw [hAN] at hla
  rw [hBN] at hlb
  rw [hCN] at hlc
  rw [hM] at hlp
  obtain ⟨w0, hw0⟩ : ∃ w0, w0 = w.alloc (.cells #[.int .i64 pn, pv] 42) := ⟨_, rfl⟩
  have hs0 : w0.heap.size = w.heap.size + 1 := by rw [hw0]; simp
  have hb0 : Below w.heap.size w w0 := by rw [hw0]; exact below_alloc w _
  have hP : Blk w0 w.heap.size #[.int .i64 pn, pv] 42 := by rw [hw0]; exact Blk.new w _ _
  have HAV := Lib.hid (ha.mono hb0 (Nat.le_refl _))
  have HBV := Lib.hid (hb.mono hb0 (Nat.le_refl _))
  have HCV := Lib.hid (hc.mono hb0 (Nat.le_refl _))
  have HX := Lib.hid (hp.mono hb0 (Nat.le_refl _))
  have HP := Lib.hid hP
  have H0 := Lib.hid hb0
  have HS0 := Lib.hid hs0
  have HAN := Lib.hid hAN
  have HBN := Lib.hid hBN
  have HCN := Lib.hid hCN
  have HM := Lib.hid hM
  clear ha hb hc hp hAN hBN hCN hM hb0 hs0 hP
  go_enter Try.func4, Try.ntmps4
  go_wp2_with fail
  rw [← hw0]
  refine (alive7_any _).mono ?_
  rintro e w1 ⟨rfl, hb⟩
  have HB := Lib.hid hb
  have HP1 := Lib.hid (HP.out.below hb HP.out.lt)
  have p1 := HP1.out.cell 1 (v := pv) rfl
  clear hb hw0
  by_cases h1 : 300 < AN
  · have h1' : (300 : Int) < (AN : Int) := by omega
    go_wp2
    go_ret
    exact ⟨rfl, H0.out.trans (HB.out.mono H0.out.size)⟩
  have h1' : ¬ (300 : Int) < (AN : Int) := by omega
  by_cases h2 : 300 < BN
  · have h2' : (300 : Int) < (BN : Int) := by omega
    go_wp2
    go_ret
    exact ⟨rfl, H0.out.trans (HB.out.mono H0.out.size)⟩
  have h2' : ¬ (300 : Int) < (BN : Int) := by omega
  by_cases h3 : 300 < CN
  · have h3' : (300 : Int) < (CN : Int) := by omega
    go_wp2
    go_ret
    exact ⟨rfl, H0.out.trans (HB.out.mono H0.out.size)⟩
  have h3' : ¬ (300 : Int) < (CN : Int) := by omega
  by_cases h4 : 20 < M
  · have h4' : (20 : Int) < (M : Int) := by omega
    go_wp2
    go_ret
    exact ⟨rfl, H0.out.trans (HB.out.mono H0.out.size)⟩
  have h4' : ¬ (20 : Int) < (M : Int) := by omega
  have HZ := Lib.hid (Z10_is a b c m (by rw [HAN.out]; omega) (by rw [HBN.out]; omega) (by rw [HCN.out]; omega))
  have hmw : IntKind.i64.wrap (m : Int) = (m : Int) := by rw [IntKind.wrap_i64]; omega
  clear h1 h2 h3 h4
  go_wp2_with fail
  refine (new_u 5000 _ (by omega)).mono ?_
  rintro e w2 ⟨p, rfl, hD, hp, hb⟩
  have hpw := Nat.le_trans HB.out.size hp
  have HD := Lib.hid hD
  have HB := Lib.hid (HB.out.trans (hb.mono HB.out.size))
  have HS := Lib.hid (show ∀ b, b = p → w0.heap.size ≤ b from fun b e => by rw [e]; exact hpw)
  clear hD hb p1 HP1 hp hpw
  go_wp2_with fail
  refine (create_u _ p _ _ _ xn HD.out (by decide) (by decide)).mono ?_
  rintro e wn ⟨rfl, ht⟩
  obtain ⟨S, hD, hS, hb⟩ := ht.ge (B := w0.heap.size) HB.out.size HS.out
  have HD := Lib.hid hD
  have HS := Lib.hid hS
  have HB := Lib.hid (HB.out.trans hb)
  clear ht hD hS hb
  go_wp2_with fail
  refine (append_u _ p _ _ _ xn av a HD.out (by decide) (HAV.out.mono HB.out (Nat.le_refl _)) (by rw [HAN.out]; omega)).mono ?_
  rintro e wn ⟨rfl, ht⟩
  obtain ⟨S, hD, hS, hb⟩ := ht.ge (B := w0.heap.size) HB.out.size HS.out
  have HD := Lib.hid hD
  have HS := Lib.hid hS
  have HB := Lib.hid (HB.out.trans hb)
  clear ht hD hS hb
  go_wp2_with fail
  refine (sync_u _ p _ _ _ xn HD.out (by decide)).mono ?_
  rintro e wn ⟨rfl, ht⟩
  obtain ⟨S, hD, hS, hb⟩ := ht.ge (B := w0.heap.size) HB.out.size HS.out
  have HD := Lib.hid hD
  have HS := Lib.hid hS
  have HB := Lib.hid (HB.out.trans hb)
  clear ht hD hS hb
  go_wp2_with fail
  refine (syncNames_u _ p _ _ _ HD.out (by decide)).mono ?_
  rintro e wn ⟨rfl, ht⟩
  obtain ⟨S, hD, hS, hb⟩ := ht.ge (B := w0.heap.size) HB.out.size HS.out
  have HD := Lib.hid hD
  have HS := Lib.hid hS
  have HB := Lib.hid (HB.out.trans hb)
  clear ht hD hS hb
  rw [z_code a (by rw [HAN.out]; omega), cerr_0]
  go_wp2_with fail
  refine (code_nil _).mono ?_
  rintro e wn ⟨rfl, rfl⟩
  go_wp2_with fail
  refine (code_nil _).mono ?_
  rintro e wn ⟨rfl, rfl⟩
  go_wp2_with fail
  refine (arm_u _ p _ _ _ (m : Int) HD.out (by decide) (by omega)).mono ?_
  rintro e wn ⟨rfl, ht⟩
  obtain ⟨S, hD, hS, hb⟩ := ht.ge (B := w0.heap.size) HB.out.size HS.out
  have HD := Lib.hid hD
  have HS := Lib.hid hS
  have HB := Lib.hid (HB.out.trans hb)
  clear ht hD hS hb
  go_wp2_with fail
  refine (append_u _ p _ _ _ xn bv' b HD.out (by decide) (HBV.out.mono HB.out (Nat.le_refl _)) (by rw [HBN.out]; omega)).mono ?_
  rintro e wn ⟨rfl, ht⟩
  obtain ⟨S, hD, hS, hb⟩ := ht.ge (B := w0.heap.size) HB.out.size HS.out
  have HD := Lib.hid hD
  have HS := Lib.hid hS
  have HB := Lib.hid (HB.out.trans hb)
  clear ht hD hS hb
  go_wp2_with fail
  refine (create_u _ p _ _ _ yn HD.out (by decide) (by decide)).mono ?_
  rintro e wn ⟨rfl, ht⟩
  obtain ⟨S, hD, hS, hb⟩ := ht.ge (B := w0.heap.size) HB.out.size HS.out
  have HD := Lib.hid hD
  have HS := Lib.hid hS
  have HB := Lib.hid (HB.out.trans hb)
  clear ht hD hS hb
  go_wp2_with fail
  refine (append_u _ p _ _ _ yn cv c HD.out (by decide) (HCV.out.mono HB.out (Nat.le_refl _)) (by rw [HCN.out]; omega)).mono ?_
  rintro e wn ⟨rfl, ht⟩
  obtain ⟨S, hD, hS, hb⟩ := ht.ge (B := w0.heap.size) HB.out.size HS.out
  have HD := Lib.hid hD
  have HS := Lib.hid hS
  have HB := Lib.hid (HB.out.trans hb)
  clear ht hD hS hb
  go_wp2_with fail
  refine (sync_u _ p _ _ _ yn HD.out (by decide)).mono ?_
  rintro e wn ⟨rfl, ht⟩
  obtain ⟨S, hD, hS, hb⟩ := ht.ge (B := w0.heap.size) HB.out.size HS.out
  have HD := Lib.hid hD
  have HS := Lib.hid hS
  have HB := Lib.hid (HB.out.trans hb)
  clear ht hD hS hb
  go_wp2_with fail
  refine (rename_u _ p _ _ _ yn zn HD.out (by decide) (by decide) (by decide)).mono ?_
  rintro e wn ⟨rfl, ht⟩
  obtain ⟨S, hD, hS, hb⟩ := ht.ge (B := w0.heap.size) HB.out.size HS.out
  have HD := Lib.hid hD
  have HS := Lib.hid hS
  have HB := Lib.hid (HB.out.trans hb)
  clear ht hD hS hb
  have HD := Lib.hid (show Dk wn p S (Z10 a b c m) _ from HD.out)
  have hdn := Z10_armed _ a b c m HZ.out
  obtain ⟨s, k1, k2, k3, k4, k5, k6, k7⟩ := lasts_fin (Z10 a b c m) a b c m pn ps HZ.out
  have har : ((Z10 a b c m).crash pn ps).armed = none := rfl
  obtain ⟨DN, hDN⟩ : ∃ x, decide ((m : Int) ≤ 5) = x := ⟨_, rfl⟩
  have hdn2 : isDown (Z10 a b c m).armed = DN := by
    rw [hdn, ← hDN]
    by_cases h : m ≤ 5
    · rw [decide_eq_true h, decide_eq_true (by omega)]
    · rw [decide_eq_false h, decide_eq_false (by omega)]
  have HCR := Lib.hid (fun (W : World) (q : Value) (S' : Nat → Prop) (h : Dk W p S' (Z10 a b c m) 20) (hx : IsX W 2 q ps.length (row pck ps)) (hn : ∀ b, liesX q ps.length b → ¬ S' b) => crash_u W p S' (Z10 a b c m) 20 pn q ps h (by decide) hx (by rw [HM.out]; omega) hn)
  obtain ⟨d10, hd10⟩ : ∃ d10, Z10 a b c m = d10 := ⟨_, rfl⟩
  rw [hd10] at HD k1 k2 k7 har hdn2 HCR
  have HD : Hid (Dk wn p S d10 20) := HD
  obtain ⟨d11, hd11⟩ : ∃ d11, d10.crash pn ps = d11 := ⟨_, rfl⟩
  rw [hd11] at k1 k2 k7 har HCR
  obtain ⟨SN, hSN⟩ : ∃ n, s.length = n := ⟨_, rfl⟩
  rw [hSN] at k1 k2 k3 k4
  rw [HAN.out] at k3 k4 k5
  rw [HBN.out] at k4
  have HK1 := Lib.hid k1
  have HK2 := Lib.hid k2
  have HK5 := Lib.hid k5
  have HK6 := Lib.hid k6
  have HK7 := Lib.hid k7
  have HSN := Lib.hid hSN
  have HAR := Lib.hid har
  have HDN := Lib.hid hdn2
  have hn1 : ¬ (SN : Int) < (AN : Int) := by omega
  have hn2 : ¬ (AN : Int) + (BN : Int) < (SN : Int) := by omega
  clear k1 k2 k5 k6 k7 hSN har hdn2 hdn hd10 hd11 HZ
  go_wp2_with fail
  refine (down_u _ p _ _ _ HD.out).mono ?_
  rintro e wq ⟨rfl, rfl⟩
  rw [HDN.out]
  have HPb := Lib.hid (HP.out.below HB.out HP.out.lt)
  have p0 := HPb.out.cell 0 (v := .int .i64 pn) rfl
  have p1 := HPb.out.cell 1 (v := pv) rfl
  go_wp2_with fail
  refine (picks_any pn pv ps _ (HX.out.mono HB.out (Nat.le_refl _)) (by rw [HM.out]; omega)).mono ?_
  rintro e w4 ⟨v', rfl, hown, hb⟩
  have HX4 := Lib.hid (IsX.own hown)
  have HL4 := Lib.hid hown.lt
  have HSL := Lib.hid HD.out.lt
  have HD := Lib.hid (HD.out.below hb (Nat.le_refl _))
  have HSZ := Lib.hid hb.size
  have HB := Lib.hid (HB.out.trans (hb.mono HB.out.size))
  clear hown hb p0 p1 HPb
  go_wp2_with fail
  refine (HCR.out _ _ _ HD.out HX4.out (fun b hb hs => by have h1 := (HL4.out b hb.2).1; have h2 := HSL.out b hs; omega)).mono ?_
  rintro e wn ⟨rfl, ht⟩
  obtain ⟨S, hD, hS, hb⟩ := ht.ge (B := w0.heap.size) HB.out.size HS.out
  have HD := Lib.hid hD
  have HS := Lib.hid hS
  have HB := Lib.hid (HB.out.trans hb)
  clear ht hD hS hb HCR
  go_wp2_with fail
  refine (size_u _ p _ _ _ xn HD.out).mono ?_
  rintro e w5 ⟨rfl, hb⟩
  rw [HK1.out, cerr_0]
  have HD := Lib.hid (HD.out.below hb (Nat.le_refl _))
  have HB := Lib.hid (HB.out.trans (hb.mono HB.out.size))
  clear hb
  go_wp2_with fail
  refine (read_u _ p _ _ _ xn 0 (SN : Int) HD.out (by decide) (by decide) (by omega) (by omega)).mono ?_
  rintro e w6 ⟨rv, rfl, hown, hb⟩
  rw [HK2.out] at hown ⊢
  rw [cerr_0]
  have hown6 : w6.ownsRow _ 5 1 rv s.length (bvs s) := hown
  rw [HSN.out] at hown6
  obtain ⟨rx, rc, hrv, hrc, _⟩ := ownsRow_slice hown6
  have hXs := IsX.own hown6
  have hsl := slice_h_X (P := Try.prog) 1 rx SN rc 37 5 Try.underlying37 Try.sizeU8b AN (by omega)
  have hXt : IsX w6 1 (.slice rx AN rc) AN (bvs a) := by
    have h := hXs
    rw [hrv] at h
    have h2 := h.take (j := AN) (by omega)
    have e : (bvs s).take (AN * 1) = bvs (s.take AN) := by simp [bvs]
    rw [e, HK5.out] at h2
    exact h2
  obtain ⟨tv, htv⟩ : ∃ tv, Value.slice rx AN rc = tv := ⟨_, rfl⟩
  rw [← hrv, htv] at hsl
  rw [htv] at hXt
  have HXS := Lib.hid (show IsX w6 1 rv SN (bvs s) from hXs)
  have HXT := Lib.hid (show IsB w6 tv a from isB_of_row1 hXt HAN.out)
  have HD := Lib.hid (HD.out.below hb (Nat.le_refl _))
  have HB := Lib.hid (HB.out.trans (hb.mono HB.out.size))
  clear hown hown6 hb hXs hXt htv hrv
  go_wp2_with fail
  refine (code_nil _).mono ?_
  rintro e wn ⟨rfl, rfl⟩
  go_wp2_with fail
  refine (code_nil _).mono ?_
  rintro e wn ⟨rfl, rfl⟩
  go_wp2_with fail
  refine (code_nil _).mono ?_
  rintro e wn ⟨rfl, rfl⟩
  go_wp2_with fail
  refine (down_u _ p _ _ _ HD.out).mono ?_
  rintro e wq ⟨rfl, rfl⟩
  rw [HAR.out, show isDown none = false from rfl]
  go_wp2_with fail
  refine (same_yes tv av a _ HXT.out (HAV.out.mono HB.out (Nat.le_refl _)) (by rw [HAN.out]; omega)).mono ?_
  rintro e w7 ⟨rfl, nd, rfl⟩
  have HD := Lib.hid (HD.out.below (below_drewN (Below.refl _ _) nd) (Nat.le_refl _))
  have HXS := Lib.hid (HXS.out.mono (below_drewN (Below.refl _ _) nd) (Nat.le_refl _))
  have HB := Lib.hid (below_drewN HB.out nd)
  generalize w6.drewN nd = w7 at HD HXS HB ⊢
  clear hsl
  go_wp2_with fail
  go_loopw [20] (fun x wr => ∃ k : Nat, AN ≤ k ∧ k ≤ SN ∧ x = .int .i64 k ∧ Hid (Below w7.heap.size w7 wr)) (fun x _ => SN - (intOf x).toNat)
  case atStart => exact ⟨AN, Nat.le_refl _, k3, rfl, Lib.hid (Below.refl _ _)⟩
  case round =>
    obtain ⟨k, hkA, hkS, rfl, hX⟩ := hrel
    by_cases hlt : k + 1 < SN
    · obtain ⟨J, hJ⟩ : ∃ J, AN + J = k := ⟨k - AN, by omega⟩
      have hJi : (k : Int) - (AN : Int) = (J : Int) := by omega
      have hJw : IntKind.i64.wrap (J : Int) = (J : Int) := by rw [IntKind.wrap_i64]; omega
      have hlt' : (k : Int) + 1 < (SN : Int) := by omega
      have hXr := HXS.out.mono hX.out (Nat.le_refl _)
      obtain ⟨g1, o1, hidx1, _, hc1⟩ := indexAt_X hXr 37 _ Try.underlying37 Try.sizeU8b k (by omega)
      have hXb : IsX wr 1 bv' BN (bvs b) := by
        have h := isX_of_B (HBV.out.mono (HB.out.trans (hX.out.mono HB.out.size)) (Nat.le_refl _))
        rwa [HBN.out] at h
      obtain ⟨g2, o2, hidx2, _, hc2⟩ := indexAt_X hXb 37 _ Try.underlying37 Try.sizeU8b J (by omega)
      have m1 := hc1 0 (by decide)
      have m2 := hc2 0 (by decide)
      rw [Nat.mul_one, Nat.add_zero, Nat.add_zero, bvs_get (by rw [HSN.out]; omega)] at m1
      rw [Nat.mul_one, Nat.add_zero, Nat.add_zero, bvs_get (by rw [HBN.out]; omega)] at m2
      have h6 := HK6.out k (by rw [HAN.out]; exact hkA) (by rw [HSN.out]; exact hlt)
      rw [HAN.out, show k - AN = J from by omega] at h6
      rw [h6] at m1
      obtain ⟨yb, hyb⟩ : ∃ yb, b.getD J 0 = yb := ⟨_, rfl⟩
      rw [hyb] at m1 m2
      have hlb2 := hlb
      clear hc1 hc2 h6 hyb hXr hXb hJ
      go_wp2
      go_quiet (fail)
      go_wp2
      go_roundw
      case rel => exact ⟨k + 1, by omega, by omega, by go_num, Lib.hid (below_drewN hX.out _)⟩
      case measure => simp [intOf]; omega
    · have hlt' : ¬ (k : Int) + 1 < (SN : Int) := by omega
      have HD := Lib.hid (HD.out.below hX.out (Nat.le_refl _))
      have HB := Lib.hid (HB.out.trans (hX.out.mono HB.out.size))
      go_wp2_with fail
      refine (size_u _ p _ _ _ zn HD.out).mono ?_
      rintro e w8 ⟨rfl, hb⟩
      have HB := Lib.hid (HB.out.trans (hb.mono HB.out.size))
      have HFIN := Lib.hid (H0.out.trans (HB.out.mono H0.out.size))
      have p0 := (HP.out.below HB.out HP.out.lt).cell 0 (v := .int .i64 pn) rfl
      clear hb
      rcases HK7.out with h7 | ⟨h7, h8, h9⟩
      · obtain ⟨zs, hzs⟩ : ∃ z, (d11.size zn).1 = z := ⟨_, rfl⟩
        rw [h7, hzs]
        clear h7 hzs
        go_wp2_with fail
        refine (code_any 6 _ (by decide)).mono ?_
        rintro e w9 ⟨rfl, rfl⟩
        go_wp2
        go_ret
        exact ⟨rfl, HFIN.out⟩
      · rw [h7, cerr_0]
        have hcn := HCN.out
        rw [hcn]
        have h8' : (4 : Int) < (m : Int) := by omega
        clear h7 hcn
        go_wp2_with fail
        refine (code_nil _).mono ?_
        rintro e w9 ⟨rfl, rfl⟩
        go_wp2_with fail
        refine (code_nil _).mono ?_
        rintro e w10 ⟨rfl, rfl⟩
        go_wp2
        go_ret
        exact ⟨rfl, HFIN.out⟩

end Go.Proofs.Ytnofabeajcdddaa
