/- The statements of layer 3 (needle): there and back. -/
import Derived.Test.YteibolajnjdpmaaLaw03
import Derived.BigRegion
namespace Go.Proofs.Yteibolajnjdpmaa
open Go.RowKit Go.Cor

theorem bvs_setN (l : List UInt8) (k : Nat) (z : UInt8) : (bvs l).set k (.int .u8 (z.toNat : Int)) = bvs (l.set k z) := by
  unfold bvs
  rw [List.map_set]

theorem needleBack_long (n : Ndl) (vn vr : Value) (r : List UInt8) (a : Nat) (w : World) (hn : IsB w vn n.data) (hr : IsB w vr r) (h : 300 < r.length) :
    Calls Try.prog 5 #[nval n vn, vr, .int .u16 a] w fun e w' => e = .returned (.bool true) ∧ Below w.heap.size w w' := by
  obtain ⟨k1, c1, g1, l1⟩ := n
  obtain ⟨d2, hd2⟩ : ∃ d : Nat, r.length = d := ⟨_, rfl⟩
  obtain ⟨x2, cap2, rfl, hlc2, hcm2⟩ := hr.at_len hd2
  unfold maxLen at hcm2
  rw [hd2] at h
  clear hn hr hd2
  go_enter Try.func5, Try.ntmps5
  go_wp2_with fail
  refine (alive3_any _).mono ?_
  rintro e w1 ⟨rfl, hb1⟩
  have HW1 := Lib.hid ((((Below.refl w.heap.size w).alloc (Nat.le_refl _) _).trans (hb1.mono (by simp))) : Below w.heap.size w w1)
  clear hb1
  go_wp2
  go_ret
  exact ⟨rfl, HW1.out⟩

theorem needleBack_not (n : Ndl) (vn vr : Value) (r : List UInt8) (a : Nat) (w : World) (hn : IsB w vn n.data) (hr : IsB w vr r) (h : r.length ≤ 300) (hq : ncheck n ≠ 0) :
    Calls Try.prog 5 #[nval n vn, vr, .int .u16 a] w fun e w' => e = .returned (.bool true) ∧ Below w.heap.size w w' := by
  obtain ⟨q, hqq⟩ : ∃ q : Nat, ncheck n = q := ⟨_, rfl⟩
  have HQ := Lib.hid hqq
  rw [hqq] at hq
  have hqb : ((q : Int) != 0) = true := by rw [bne_iff_ne]; omega
  obtain ⟨k1, c1, g1, l1⟩ := n
  have HVn := Lib.hid (show IsB w vn l1 from hn)
  obtain ⟨d1, hd1⟩ : ∃ d : Nat, l1.length = d := ⟨_, rfl⟩
  obtain ⟨x1, cap1, rfl, hlc1, hcm1⟩ := IsB.at_len (l := l1) hn hd1
  obtain ⟨d2, hd2⟩ : ∃ d : Nat, r.length = d := ⟨_, rfl⟩
  obtain ⟨x2, cap2, rfl, hlc2, hcm2⟩ := hr.at_len hd2
  rw [hd2] at h
  clear hn hr hd2 hd1 hq hqq
  go_enter Try.func5, Try.ntmps5
  go_wp2_with fail
  refine (alive3_any _).mono ?_
  rintro e w1 ⟨rfl, hb1⟩
  have HW1 := Lib.hid ((((Below.refl w.heap.size w).alloc (Nat.le_refl _) _).trans (hb1.mono (by simp))) : Below w.heap.size w w1)
  obtain ⟨q0, q1, q2, q3⟩ := box_at hb1
  clear hb1
  go_wp2_with fail
  refine (refcheck_any ⟨k1, c1, g1, l1⟩ _ _ (HVn.out.mono HW1.out (Nat.le_refl _))).mono ?_
  rintro e w2 ⟨rfl, hb2⟩
  rw [HQ.out]
  have HW2 := Lib.hid (HW1.out.trans (hb2.mono HW1.out.size))
  clear hb2
  go_wp2
  go_ret
  exact ⟨rfl, HW2.out⟩

theorem appL {w : World} {B : Nat} {U : TypeId} {v : Value} {X : List UInt8} {n : Nat} (hn : X.length = n) (h : w.ownsRow B U 1 v X.length (bvs X)) : ∃ x c, v = .slice x n c ∧ IsB w (.slice x n c) X := by
  rw [hn] at h
  obtain ⟨x, c, rfl⟩ := ownsRow_slice h
  exact ⟨x, c, rfl, IsB.own h hn.symm⟩

set_option maxRecDepth 100000 in
set_option maxHeartbeats 4000000 in
theorem needleBack_any (n : Ndl) (vn vr : Value) (r : List UInt8) (a : Nat) (w : World) (hn : IsB w vn n.data) (hr : IsB w vr r) (hfn : n.fits) (ha : a < 65536) (h : r.length ≤ 300) (hq : ncheck n = 0) :
    Calls Try.prog 5 #[nval n vn, vr, .int .u16 a] w fun e w' => e = .returned (.bool true) ∧ Below w.heap.size w w' := by
  obtain ⟨i0, hi, hz0, hz1, hz2⟩ := info_parts Try.infoU8
  have hd4 := (ncheck_ok hq).1
  have hlb : (nbytes n).length = 32 + n.data.length + padn n.data.length := length_nbytes n
  have hp8 := padn_lt n.data.length
  obtain ⟨X, hX⟩ : ∃ X, X = nbytes n := ⟨_, rfl⟩
  have hg1 := get_put hfn hq r
  have hg0 := get_put hfn hq []
  rw [List.append_nil] at hg0
  have hcut := fun j hj => get_cut hfn hq (j := j) hj
  rw [← hX] at hlb hg1 hg0 hcut
  obtain ⟨Lb, hLb⟩ : ∃ L : Nat, X.length = L := ⟨_, rfl⟩
  have hLb1 : 32 ≤ Lb := by omega
  have hLb2 : Lb ≤ 5000 := by omega
  obtain ⟨j, hj⟩ : ∃ j : Nat, j = a % Lb := ⟨_, rfl⟩
  have hjl : j < Lb := by rw [hj]; exact Nat.mod_lt _ (by omega)
  have hjj : (a : Int) % (Lb : Int) = (j : Int) := by rw [hj]; simp
  have HXn := Lib.hid hX
  have HLb := Lib.hid hLb
  have HG1 := Lib.hid (show resN (X ++ r) = n ∧ resK (X ++ r) = Lb ∧ getCode (X ++ r) = 0 from ⟨by rw [resN_ok hg1.1, hg1.2.1], by rw [resK_ok hg1.1, hg1.2.2, hLb], hg1.1⟩)
  have HG0 := Lib.hid (show resN X = n ∧ getCode X = 0 from ⟨by rw [resN_ok hg0.1, hg0.2.1], hg0.1⟩)
  have hc3 := hcut j (by omega)
  have hc0 : getCode (X.take j) ≠ 0 := by rw [hc3]; decide
  have HG3 := Lib.hid (show resN (X.take j) = ⟨0, 0, false, []⟩ ∧ resK (X.take j) = 0 ∧ getCode (X.take j) = 3 from ⟨resN_no hc0, resK_no hc0, hc3⟩)
  have HQ := Lib.hid hq
  have HF := Lib.hid hfn
  obtain ⟨d1, hd1⟩ : ∃ d : Nat, n.data.length = d := ⟨_, rfl⟩
  have HD1 := Lib.hid hd1
  have hd14 : d1 ≤ 4096 := by omega
  have HVn := Lib.hid hn
  obtain ⟨x1, cap1, rfl, hlc1, hcm1⟩ := hn.at_len hd1
  obtain ⟨d2, hd2⟩ : ∃ d : Nat, r.length = d := ⟨_, rfl⟩
  have HVr := Lib.hid hr
  obtain ⟨x2, cap2, rfl, hlc2, hcm2⟩ := hr.at_len hd2
  have HD2 := Lib.hid hd2
  rw [hd2] at h
  have hb1' := Lib.hid (show ([] : List UInt8).length + X.length ≤ 1099511627776 from by rw [hLb]; simp; omega)
  have hb2' := Lib.hid (show X.length + r.length ≤ 1099511627776 from by omega)
  have hb3' := Lib.hid (show (X ++ r).length ≤ 1099511627776 from by rw [List.length_append]; omega)
  have hb4' := Lib.hid (show X.length ≤ 1099511627776 from by omega)
  have hb5' := Lib.hid (show (X.take j).length ≤ 1099511627776 from by rw [List.length_take]; omega)
  clear hn hr hd2 hd1 hq hfn hd4 hlb hp8 hX hg1 hg0 hcut hLb hj hc3 hc0
  go_enter Try.func5, Try.ntmps5
  go_wp2_with fail
  refine (alive3_any _).mono ?_
  rintro e w1 ⟨rfl, hb1⟩
  have HW1 := Lib.hid ((((Below.refl w.heap.size w).alloc (Nat.le_refl _) _).trans (hb1.mono (by simp))) : Below w.heap.size w w1)
  have HX1 := Lib.hid ((Boxed.new w n (.slice x1 d1 cap1) 26).mono hb1 (by simp) : Boxed w1 w.heap.size n (.slice x1 d1 cap1))
  have hs1 : w.heap.size + 1 ≤ w1.heap.size := Nat.le_trans (by simp) hb1.size
  clear hb1
  obtain ⟨q0, q1, q2, q3⟩ := HX1.out
  go_wp2_with fail
  refine (refcheck_any n _ _ (HVn.out.mono HW1.out (Nat.le_refl _))).mono ?_
  rintro e w2 ⟨rfl, hb2⟩
  rw [HQ.out]
  have HW2 := Lib.hid (HW1.out.trans (hb2.mono HW1.out.size))
  have HX2 := Lib.hid (HX1.out.mono hb2 hs1)
  have hs2 := Nat.le_trans hs1 hb2.size
  clear hb2 q0 q1 q2 q3 HX1 hs1
  obtain ⟨q0, q1, q2, q3⟩ := HX2.out
  go_wp2_with fail
  refine (put_okN n _ _ (HVn.out.mono HW2.out (Nat.le_refl _)) HF.out HQ.out).mono ?_
  rintro e w3 ⟨v3, rfl, hown3, hb3⟩
  rw [← HXn.out] at hown3
  obtain ⟨x3, c3, rfl, hB3⟩ := appL HLb.out hown3
  have HR3 := Lib.hid hB3
  obtain ⟨_, _, e3, hlc3, hcm3⟩ := hB3.at_len HLb.out
  cases e3
  have HW3 := Lib.hid (HW2.out.trans (hb3.mono HW2.out.size))
  have HX3 := Lib.hid (HX2.out.mono hb3 hs2)
  have hs3 := Nat.le_trans hs2 hb3.size
  clear hb3 q0 q1 q2 q3 HX2 hs2 hown3 hB3
  have HA3 := Lib.hid (HR3.out.mono ((Below.refl w3.heap.size w3).alloc (Nat.le_refl _) (.cells #[] 5)) (Nat.le_refl _))
  go_wp2_with (at_builtin; refine wpList_append_B (by rfl) _ _ 24 rfl w3.heap.size 5 i0 Try.underlying24 hi hz0 hz1 hz2 _ [] 0 rfl (World.ownsRow_lit _ #[] 0 (Nat.le_refl _) (Nat.zero_le _) rfl) rfl _ X rfl HA3.out hb1'.out (by simp) ?_)
  intro v4 w4 hown4 hb4
  have HO4 := Lib.hid (show w4.ownsRow w3.heap.size 5 1 v4 X.length (bvs X) from by simpa using hown4)
  have hb34 : Below w3.heap.size w3 w4 := ((Below.refl _ _).alloc (Nat.le_refl _) _).trans hb4
  have HB4 := Lib.hid hb34
  have hs4 := Nat.le_trans hs3 hb34.size
  have hsz4 := hb34.size
  have HV4 := Lib.hid ((HVr.out.mono HW3.out (Nat.le_refl _)).mono hb34 (Nat.le_refl _))
  clear hown4 hb4 hb34 HA3
  go_wp2_with (at_builtin; refine wpList_append_B (by rfl) _ _ 24 rfl w3.heap.size 5 i0 Try.underlying24 hi hz0 hz1 hz2 _ X _ rfl HO4.out rfl _ r rfl HV4.out hb2'.out hsz4 ?_)
  intro v5 w5 hown5 hb5
  have HB5 := Lib.hid (HB4.out.trans hb5)
  have HO5 := Lib.hid (IsB.own (l := X ++ r) hown5 (by simp))
  have hs5 := Nat.le_trans hs3 HB5.out.size
  have HW5 := Lib.hid (HW3.out.trans (HB5.out.mono HW3.out.size))
  have HX5 := Lib.hid (HX3.out.mono HB5.out hs3)
  have HR5 := Lib.hid (HR3.out.mono HB5.out (Nat.le_refl _))
  clear hown5 hb5 HB4 HB5 HV4 HO4 hs4 HX3 HR3 hs3 hsz4
  go_wp2_with fail
  refine (get_any _ (X ++ r) _ HO5.out hb3'.out).mono ?_
  rintro e w6 ⟨x6, c6, rfl, hown6, hb6⟩
  rw [HG1.out.1, HD1.out] at hown6
  rw [HG1.out.1, HG1.out.2.1, HG1.out.2.2, cerr_0, HD1.out]
  have hx6 : d1 = 0 ∨ ∃ g, x6 = some ⟨g, 0, none⟩ ∧ w5.heap.size ≤ g ∧ g < w6.heap.size := by
    rcases hown6.2 with ⟨_, h0⟩ | ⟨g, cap, cur, e, h1, h2, _⟩
    · exact .inl h0
    · cases e
      exact .inr ⟨g, rfl, h1, (Array.getElem?_eq_some_iff.1 h2).1⟩
  have HXX := Lib.hid hx6
  have HO6 := Lib.hid hown6
  have HB6 := Lib.hid hb6
  have hs6 : w5.heap.size ≤ w6.heap.size := hb6.size
  clear hown6 hb6 hx6
  go_wp2_with fail
  refine (get_any _ (X.take j) _ ?_ hb5'.out).mono ?_
  · exact (HR5.out.mono (HB6.out.alloc hs6 _) (Nat.le_refl _)).takeN HLb.out (Nat.le_of_lt hjl)
  rintro e w7 ⟨x7, c7, rfl, hown7, hb7⟩
  rw [HG3.out.1, HG3.out.2.1, HG3.out.2.2, nil_val, cerr_3]
  obtain ⟨y0, y1, y2, y3⟩ := box_at hb7
  have hb67 : Below w6.heap.size w6 w7 := ((Below.refl _ _).alloc (Nat.le_refl _) _).trans (hb7.mono (by simp))
  have hs7 : w6.heap.size < w7.heap.size := Nat.lt_of_lt_of_le (by simp) hb7.size
  have HO7 := Lib.hid (ownsRow_below HO6.out hb67 (Nat.le_refl _))
  have HB7 := Lib.hid (HB6.out.trans (hb67.mono hs6))
  have HX7 := Lib.hid (HX5.out.mono HB7.out hs5)
  have HW7 := Lib.hid (HW5.out.trans (HB7.out.mono HW5.out.size))
  clear hown7 hb7 hb67 HO6 HB6
  obtain ⟨q0, q1, q2, q3⟩ := HX7.out
  have hwb : w.heap.size < w7.heap.size := by omega
  go_wp2_with fail
  refine (code_nil _).mono ?_
  rintro e w' ⟨rfl, rfl⟩
  go_wp2_with fail
  refine (code_nil _).mono ?_
  rintro e w' ⟨rfl, rfl⟩
  go_wp2_with fail
  refine (code_code 3 _ (by decide) (by decide)).mono ?_
  rintro e w' ⟨rfl, rfl⟩
  go_wp2_with fail
  refine (nsame_any n n _ _ _ ?_ ?_).mono ?_
  · exact IsB.own (HO7.out.alloc _) HD1.out.symm
  · exact HVn.out.mono (HW7.out.alloc HW7.out.size _) (Nat.le_refl _)
  rintro e w8 ⟨rfl, hb8⟩
  rw [sameN_self]
  have hb78 : Below w7.heap.size w7 w8 := ((Below.refl _ _).alloc (Nat.le_refl _) _).trans (hb8.mono (by simp))
  have HO8 := Lib.hid (ownsRow_below HO7.out hb78 (Nat.le_refl _))
  have HB8 := Lib.hid (HB7.out.trans (hb78.mono HB7.out.size))
  have hc8 : w8.cell? ⟨w6.heap.size, 3, none⟩ = some (.slice x6 d1 c6) := (hb78.cell (p := ⟨w6.heap.size, 3, none⟩) hs7).trans y3
  have HC8 := Lib.hid hc8
  have hs8 : w6.heap.size < w8.heap.size := Nat.lt_of_lt_of_le hs7 hb78.size
  clear hb8 hb78 hc8 q0 q1 q2 q3 y0 y1 y2 y3 HO7 HB7 HX7 HW7
  go_wp2_with fail
  go_loopw [15] (fun c wr => ∃ (i : Nat) (D : List UInt8), i ≤ d1 ∧ c = .int .i64 i ∧ Hid (D.length = d1) ∧ Hid (wr.ownsRow w5.heap.size 5 1 (.slice x6 d1 c6) d1 (bvs D)) ∧ Hid (Below w5.heap.size w5 wr) ∧ Hid (wr.cell? ⟨w6.heap.size, 3, none⟩ = some (.slice x6 d1 c6)) ∧ w6.heap.size < wr.heap.size) (fun c _ => d1 - (intOf c).toNat)
  case atStart => exact ⟨0, n.data, by omega, rfl, HD1, HO8, HB8, HC8, hs8⟩
  case round =>
    obtain ⟨i, D, hi1, rfl, hD, hO, hB, hC, hsr⟩ := hrel
    by_cases hlt : i < d1
    · obtain ⟨g, rfl, hg1, hg2⟩ : ∃ g, x6 = some ⟨g, 0, none⟩ ∧ w5.heap.size ≤ g ∧ g < w6.heap.size := by
        rcases HXX.out with h0 | h0
        · omega
        · exact h0
      have hcell : wr.cell? ⟨g, i, none⟩ = some (.int .u8 (((D.getD i 0).toNat : Nat) : Int)) := by rw [hO.out.cellAt i (by omega), bvs_get (by rw [hD.out]; exact hlt)]
      have hfroz := hO.out.frozenAt i
      have hbx := hC.out
      obtain ⟨y, hy⟩ : ∃ y : Nat, y = (D.getD i 0).toNat := ⟨_, rfl⟩
      rw [← hy] at hcell
      obtain ⟨z, hz⟩ : ∃ z : UInt8, z = UInt8.ofNat (y + 1) := ⟨_, rfl⟩
      have hzw : IntKind.u8.wrap ((y : Int) + 1) = (z.toNat : Int) := by rw [hz, UInt8.toNat_ofNat', IntKind.wrap_u8']; omega
      have hi0 : (0 : Int) ≤ (i : Int) := by omega
      have hi2 : (i : Int) < (d1 : Int) := by omega
      have hne : g ≠ w6.heap.size := by omega
      clear hy hz
      go_wp2
      go_region
      have hO5 := (hO.out.stored i (.int .u8 (z.toNat : Int))).1
      rw [bvs_setN] at hO5
      have HO9 := Lib.hid hO5
      have HD9 := Lib.hid (show (D.set i z).length = d1 from by rw [List.length_set]; exact hD.out)
      have HB9 := Lib.hid (hB.out.setCell hg1 (p := ⟨g, i, none⟩) (.int .u8 (z.toNat : Int)))
      have HC9 : Hid ((wr.setCell ⟨g, i, none⟩ (.int .u8 (z.toNat : Int))).cell? ⟨w6.heap.size, 3, none⟩ = some (.slice (some ⟨g, 0, none⟩) d1 c6)) := by
        show _ = _
        go_simp
      have hs9 : w6.heap.size < (wr.setCell ⟨g, i, none⟩ (.int .u8 (z.toNat : Int))).heap.size := by simpa using hsr
      clear hO5
      go_wp2
      exact ⟨⟨i + 1, D.set i z, by omega, by go_num, HD9, Lib.hid HO9.out, Lib.hid HB9.out.drew, Lib.hid HC9.out, hs9⟩, by simp [intOf]; omega⟩
    · obtain rfl : i = d1 := by omega
      have hwb2 : w.heap.size < wr.heap.size := by omega
      have hbx := hC.out
      obtain ⟨q0, q1, q2, q3⟩ := HX5.out.mono hB.out hs5
      have HWr := Lib.hid (HW5.out.trans (hB.out.mono HW5.out.size))
      go_wp2_with fail
      refine (get_any _ X _ (HR5.out.mono hB.out (Nat.le_refl _)) hb4'.out).mono ?_
      rintro e w9 ⟨x9, c9, rfl, hown9, hb9⟩
      rw [HG0.out.1, HD1.out] at hown9
      rw [HG0.out.1, HG0.out.2, cerr_0, HD1.out]
      have HW9 := Lib.hid (HWr.out.trans (hb9.mono HWr.out.size))
      obtain ⟨p0, p1, p2, p3⟩ := (HX5.out.mono hB.out hs5).mono hb9 hwb2
      have hwb9 : w.heap.size < w9.heap.size := Nat.lt_of_lt_of_le hwb2 hb9.size
      clear hb9
      go_wp2_with fail
      refine (code_nil _).mono ?_
      rintro e w' ⟨rfl, rfl⟩
      go_wp2_with fail
      refine (nsame_any n n _ _ _ ?_ ?_).mono ?_
      · exact IsB.own (hown9.alloc _) HD1.out.symm
      · exact HVn.out.mono (HW9.out.alloc HW9.out.size _) (Nat.le_refl _)
      rintro e w10 ⟨rfl, hb10⟩
      rw [sameN_self]
      have HW10 := Lib.hid ((HW9.out.alloc HW9.out.size _).trans (hb10.mono (Nat.le_trans HW9.out.size (by simp))))
      clear hb10
      go_wp2
      go_ret
      exact ⟨rfl, HW10.out⟩

theorem needleBack_all (n : Ndl) (vn vr : Value) (r : List UInt8) (a : Nat) (w : World) (hn : IsB w vn n.data) (hr : IsB w vr r) (hfn : n.fits) (ha : a < 65536) :
    Calls Try.prog 5 #[nval n vn, vr, .int .u16 a] w fun e w' => e = .returned (.bool true) ∧ Below w.heap.size w w' := by
  by_cases h : 300 < r.length
  · exact needleBack_long n vn vr r a w hn hr h
  by_cases hq : ncheck n = 0
  · exact needleBack_any n vn vr r a w hn hr hfn ha (by omega) hq
  · exact needleBack_not n vn vr r a w hn hr (by omega) hq

end Go.Proofs.Yteibolajnjdpmaa
