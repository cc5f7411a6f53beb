/- The statements of layer 3 (needle): the bytes of any needle. -/
import Derived.Test.YteibolajnjdpmaaLaw03
import Derived.Deep.CutRange
namespace Go.Proofs.Yteibolajnjdpmaa
open Go.RowKit Go.Cor

theorem Boxed.new2 (w : World) (o : Obj) (n : Ndl) (v : Value) (T : TypeId) : Boxed ((w.alloc o).alloc (ncells n v T)) (w.heap.size + 1) n v := by
  have h := Boxed.new (w.alloc o) n v T
  rwa [show (w.alloc o).heap.size = w.heap.size + 1 from by simp] at h
theorem needlePuts_long (n m : Ndl) (vn vm : Value) (sz : Int) (w : World) (hn : IsB w vn n.data) (hm : IsB w vm m.data) (h : 6000 < n.data.length ∨ 6000 < m.data.length) :
    Calls Try.prog 3 #[nval n vn, nval m vm, .int .i64 sz] w fun e w' => e = .returned (.bool true) ∧ Below w.heap.size w w' := by
  obtain ⟨k1, c1, g1, l1⟩ := n
  obtain ⟨k2, c2, g2, l2⟩ := m
  obtain ⟨d1, hd1⟩ : ∃ d : Nat, l1.length = d := ⟨_, rfl⟩
  obtain ⟨d2, hd2⟩ : ∃ d : Nat, l2.length = d := ⟨_, rfl⟩
  obtain ⟨x1, cap1, rfl, hlc1, hcm1⟩ := hn.at_len hd1
  obtain ⟨x2, cap2, rfl, hlc2, hcm2⟩ := hm.at_len hd2
  unfold maxLen at hcm1 hcm2
  have h' : 6000 < d1 ∨ 6000 < d2 := by rw [← hd1, ← hd2]; exact h
  clear hn hm hd1 hd2 h
  by_cases a1 : 6000 < d1
  · clear h'
    go_enter Try.func3, Try.ntmps3
    go_wp2_with fail
    refine (alive3_any _).mono ?_
    rintro e w1 ⟨rfl, hb1⟩
    have HW1 := Lib.hid (((((Below.refl w.heap.size w).alloc (Nat.le_refl _) _).alloc (by simp) _).trans (hb1.mono (by simp; omega))) : Below w.heap.size w w1)
    obtain ⟨q0, q1, q2, q3⟩ := (Boxed.new w ⟨k1, c1, g1, l1⟩ (.slice x1 d1 cap1) 26).mono (((Below.refl _ _).alloc (Nat.le_refl _) _).trans (hb1.mono (by simp))) (by simp)
    clear hb1
    go_wp2
    go_ret
    exact ⟨rfl, HW1.out⟩
  · have a2 : 6000 < d2 := by omega
    have a1' : decide ((6000 : Int) < (d1 : Int)) = false := decide_eq_false (by omega)
    clear h'
    go_enter Try.func3, Try.ntmps3
    go_wp2_with fail
    refine (alive3_any _).mono ?_
    rintro e w1 ⟨rfl, hb1⟩
    have HW1 := Lib.hid (((((Below.refl w.heap.size w).alloc (Nat.le_refl _) _).alloc (by simp) _).trans (hb1.mono (by simp; omega))) : Below w.heap.size w w1)
    obtain ⟨q0, q1, q2, q3⟩ := (Boxed.new w ⟨k1, c1, g1, l1⟩ (.slice x1 d1 cap1) 26).mono (((Below.refl _ _).alloc (Nat.le_refl _) _).trans (hb1.mono (by simp))) (by simp)
    obtain ⟨p0, p1, p2, p3⟩ := (Boxed.new2 w (ncells ⟨k1, c1, g1, l1⟩ (.slice x1 d1 cap1) 26) ⟨k2, c2, g2, l2⟩ (.slice x2 d2 cap2) 26).mono hb1 (by simp)
    clear hb1
    go_wp2
    go_ret
    exact ⟨rfl, HW1.out⟩

theorem keep8 {wz wa : World} {h : Nat} {u0 u1 u2 u3 t0 t1 t2 t3 : Value} (hb : Below wz.heap.size wz wa) (hs : h + 2 ≤ wz.heap.size)
    (K : wz.cell? ⟨h, 0, none⟩ = some u0 ∧ wz.cell? ⟨h, 1, none⟩ = some u1 ∧ wz.cell? ⟨h, 2, none⟩ = some u2 ∧ wz.cell? ⟨h, 3, none⟩ = some u3 ∧ wz.cell? ⟨h + 1, 0, none⟩ = some t0 ∧ wz.cell? ⟨h + 1, 1, none⟩ = some t1 ∧ wz.cell? ⟨h + 1, 2, none⟩ = some t2 ∧ wz.cell? ⟨h + 1, 3, none⟩ = some t3) :
    wa.cell? ⟨h, 0, none⟩ = some u0 ∧ wa.cell? ⟨h, 1, none⟩ = some u1 ∧ wa.cell? ⟨h, 2, none⟩ = some u2 ∧ wa.cell? ⟨h, 3, none⟩ = some u3 ∧ wa.cell? ⟨h + 1, 0, none⟩ = some t0 ∧ wa.cell? ⟨h + 1, 1, none⟩ = some t1 ∧ wa.cell? ⟨h + 1, 2, none⟩ = some t2 ∧ wa.cell? ⟨h + 1, 3, none⟩ = some t3 := by
  have c : ∀ b o, b < wz.heap.size → wa.cell? ⟨b, o, none⟩ = wz.cell? ⟨b, o, none⟩ := fun b o h => hb.cell (p := ⟨b, o, none⟩) h
  obtain ⟨K0, K1, K2, K3, K4, K5, K6, K7⟩ := K
  exact ⟨(c _ _ (by omega)).trans K0, (c _ _ (by omega)).trans K1, (c _ _ (by omega)).trans K2, (c _ _ (by omega)).trans K3, (c _ _ (by omega)).trans K4, (c _ _ (by omega)).trans K5, (c _ _ (by omega)).trans K6, (c _ _ (by omega)).trans K7⟩

set_option maxRecDepth 100000 in
set_option maxHeartbeats 4000000 in
theorem needlePuts_00 (n m : Ndl) (vn vm : Value) (sz : Int) (w : World) (hn : IsB w vn n.data) (hm : IsB w vm m.data) (hfn : n.fits) (h1 : n.data.length ≤ 6000) (h2 : m.data.length ≤ 6000) (hb1' : -9223372036854775808 ≤ sz) (hb2' : sz ≤ 9223372036854775807) (hq : ncheck n ≠ 0) (hr : (0 ≤ sz ∧ sz ≤ 4096)) :
    Calls Try.prog 3 #[nval n vn, nval m vm, .int .i64 sz] w fun e w' => e = .returned (.bool true) ∧ Below w.heap.size w w' := by
  have HQn := Lib.hid hq
  have hq2 := ncheck_le n
  obtain ⟨q, hqq⟩ : ∃ q : Nat, ncheck n = q := ⟨_, rfl⟩
  have HQ := Lib.hid hqq
  rw [hqq] at hq hq2
  have HCE := Lib.hid (cerr_pos hq)
  have hqb1 : ((q : Int) != 0) = true := by rw [bne_iff_ne]; omega
  have hqb2 : ((q : Int) == 0) = false := by rw [beq_eq_false_iff_ne]; omega
  have hq1 : 1 ≤ q := by omega
  clear hq hqq
  obtain ⟨k1, c1, g1, l1⟩ := n
  obtain ⟨k2, c2, g2, l2⟩ := m
  have HVn := Lib.hid (show IsB w vn l1 from hn)
  have HVm := Lib.hid (show IsB w vm l2 from hm)
  have HFn := Lib.hid hfn
  obtain ⟨d1, hd1'⟩ : ∃ d : Nat, l1.length = d := ⟨_, rfl⟩
  obtain ⟨d2, hd2'⟩ : ∃ d : Nat, l2.length = d := ⟨_, rfl⟩
  obtain ⟨x1, cap1, rfl, hlc1, hcm1⟩ := IsB.at_len (l := l1) hn hd1'
  obtain ⟨x2, cap2, rfl, hlc2, hcm2⟩ := IsB.at_len (l := l2) hm hd2'
  have h1' : d1 ≤ 6000 := by rw [← hd1']; exact h1
  have h2' : d2 ≤ 6000 := by rw [← hd2']; exact h2
  have hlb1 : l1.length ≤ 1099511627776 := by omega
  obtain ⟨r1, r2⟩ := hr
  have hpr := pad_range sz
  obtain ⟨P, hP⟩ : ∃ P : Int, pad sz = P := ⟨_, rfl⟩
  have HPS := Lib.hid hP
  have HSZ := Lib.hid (show nsize sz = 32 + sz + P from by unfold nsize; rw [if_neg (by omega), hP])
  rw [hP] at hpr
  obtain ⟨hp1, hp2⟩ := hpr
  clear hP
  clear hn hm hd1' hd2' h1 h2 hfn
  go_enter Try.func3, Try.ntmps3
  go_wp2_with fail
  refine (alive3_any _).mono ?_
  rintro e w1 ⟨rfl, hb1⟩
  have hs1 : w.heap.size + 2 ≤ w1.heap.size := Nat.le_trans (by simp) hb1.size
  have HXn1 := Lib.hid ((Boxed.new w ⟨k1, c1, g1, l1⟩ (.slice x1 d1 cap1) 26).mono (((Below.refl _ _).alloc (Nat.le_refl _) _).trans (hb1.mono (by simp))) (by simp) : Boxed w1 w.heap.size ⟨k1, c1, g1, l1⟩ (.slice x1 d1 cap1))
  have HXm1 := Lib.hid ((Boxed.new2 w (ncells ⟨k1, c1, g1, l1⟩ (.slice x1 d1 cap1) 26) ⟨k2, c2, g2, l2⟩ (.slice x2 d2 cap2) 26).mono hb1 (by simp) : Boxed w1 (w.heap.size + 1) ⟨k2, c2, g2, l2⟩ (.slice x2 d2 cap2))
  have HW1 := Lib.hid (((((Below.refl w.heap.size w).alloc (Nat.le_refl _) _).alloc (by simp) _).trans (hb1.mono (by simp; omega))) : Below w.heap.size w w1)
  clear hb1
  obtain ⟨q0, q1, q2, q3⟩ := HXn1.out
  obtain ⟨p0, p1, p2, p3⟩ := HXm1.out
  go_wp2_with fail
  refine (refcheck_any ⟨k1, c1, g1, l1⟩ _ _ (HVn.out.mono HW1.out (Nat.le_refl _))).mono ?_
  rintro e w2 ⟨rfl, hb2⟩
  rw [HQ.out]
  clear q0 q1 q2 q3 p0 p1 p2 p3
  have hs2 : w.heap.size + 2 ≤ w2.heap.size := Nat.le_trans hs1 hb2.size
  have HXn2 := Lib.hid (HXn1.out.mono hb2 (by omega))
  have HXm2 := Lib.hid (HXm1.out.mono hb2 (by omega))
  have HW2 := Lib.hid (HW1.out.trans (hb2.mono (by omega)))
  clear hb2 HXn1 HXm1 HW1 hs1
  obtain ⟨q0, q1, q2, q3⟩ := HXn2.out
  obtain ⟨p0, p1, p2, p3⟩ := HXm2.out
  go_wp2_with fail
  refine (put_badN ⟨k1, c1, g1, l1⟩ _ _ (HVn.out.mono HW2.out (Nat.le_refl _)) HQn.out).mono ?_
  rintro e w3 ⟨rfl, hb3⟩
  rw [HQ.out]
  clear q0 q1 q2 q3 p0 p1 p2 p3
  have hs3 : w.heap.size + 2 ≤ w3.heap.size := Nat.le_trans hs2 hb3.size
  have HXn3 := Lib.hid (HXn2.out.mono hb3 (by omega))
  have HXm3 := Lib.hid (HXm2.out.mono hb3 (by omega))
  have HW3 := Lib.hid (HW2.out.trans (hb3.mono (by omega)))
  clear hb3 HXn2 HXm2 HW2 hs2
  obtain ⟨q0, q1, q2, q3⟩ := HXn3.out
  obtain ⟨p0, p1, p2, p3⟩ := HXm3.out
  go_wp2_with fail
  refine (check_any ⟨k1, c1, g1, l1⟩ _ _ (HVn.out.mono HW3.out (Nat.le_refl _))).mono ?_
  rintro e w4 ⟨rfl, hb4⟩
  rw [HQ.out, HCE.out]
  clear q0 q1 q2 q3 p0 p1 p2 p3
  have hs4 : w.heap.size + 2 ≤ w4.heap.size := Nat.le_trans hs3 hb4.size
  have HXn4 := Lib.hid (HXn3.out.mono hb4 (by omega))
  have HXm4 := Lib.hid (HXm3.out.mono hb4 (by omega))
  have HW4 := Lib.hid (HW3.out.trans (hb4.mono (by omega)))
  clear hb4 HXn3 HXm3 HW3 hs3
  go_wp2_with fail
  refine (code_code (q : Int) _ (by omega) (by omega)).mono ?_
  rintro e w' ⟨rfl, rfl⟩
  go_wp2_with fail
  refine (code_code (q : Int) _ (by omega) (by omega)).mono ?_
  rintro e w' ⟨rfl, rfl⟩
  go_wp2_with fail
  refine (refpad_any sz _ (by omega) (by omega)).mono ?_
  rintro e w' ⟨rfl, rfl⟩
  rw [HPS.out]
  go_upto_region 14 with fail
  go_cut [6] from 79 to 91 (fun x wx => x = .bool true ∧ Below w4.heap.size w4 wx)
  case first =>
    obtain ⟨q0, q1, q2, q3⟩ := HXn4.out
    obtain ⟨p0, p1, p2, p3⟩ := HXm4.out
    have K0 : w4.cell? ⟨w.heap.size, 0, none⟩ = some (.int .u64 (k1 : Int)) ∧ w4.cell? ⟨w.heap.size, 1, none⟩ = some (.int .u32 (c1 : Int)) ∧ w4.cell? ⟨w.heap.size, 2, none⟩ = some (.bool g1) ∧ w4.cell? ⟨w.heap.size, 3, none⟩ = some (.slice x1 d1 cap1) ∧ w4.cell? ⟨w.heap.size + 1, 0, none⟩ = some (.int .u64 (k2 : Int)) ∧ w4.cell? ⟨w.heap.size + 1, 1, none⟩ = some (.int .u32 (c2 : Int)) ∧ w4.cell? ⟨w.heap.size + 1, 2, none⟩ = some (.bool g2) ∧ w4.cell? ⟨w.heap.size + 1, 3, none⟩ = some (.slice x2 d2 cap2) := ⟨q0, q1, q2, q3, p0, p1, p2, p3⟩
    have K1 : w4.drew.cell? ⟨w.heap.size, 0, none⟩ = some (.int .u64 (k1 : Int)) ∧ w4.drew.cell? ⟨w.heap.size, 1, none⟩ = some (.int .u32 (c1 : Int)) ∧ w4.drew.cell? ⟨w.heap.size, 2, none⟩ = some (.bool g1) ∧ w4.drew.cell? ⟨w.heap.size, 3, none⟩ = some (.slice x1 d1 cap1) ∧ w4.drew.cell? ⟨w.heap.size + 1, 0, none⟩ = some (.int .u64 (k2 : Int)) ∧ w4.drew.cell? ⟨w.heap.size + 1, 1, none⟩ = some (.int .u32 (c2 : Int)) ∧ w4.drew.cell? ⟨w.heap.size + 1, 2, none⟩ = some (.bool g2) ∧ w4.drew.cell? ⟨w.heap.size + 1, 3, none⟩ = some (.slice x2 d2 cap2) := K0
    have An := Lib.hid (show IsB w4.drew (.slice x1 d1 cap1) l1 from HVn.out.mono HW4.out.drew (Nat.le_refl _))
    have Am := Lib.hid (show IsB w4.drew (.slice x2 d2 cap2) l2 from HVm.out.mono HW4.out.drew (Nat.le_refl _))
    have hl1 := Lib.hid hlb1
    have hsz := Lib.hid hs4
    go_wp2_with fail
    go_region_held3 (fun wx => wx.cell? ⟨w.heap.size, 0, none⟩ = some (.int .u64 (k1 : Int)) ∧ wx.cell? ⟨w.heap.size, 1, none⟩ = some (.int .u32 (c1 : Int)) ∧ wx.cell? ⟨w.heap.size, 2, none⟩ = some (.bool g1) ∧ wx.cell? ⟨w.heap.size, 3, none⟩ = some (.slice x1 d1 cap1) ∧ wx.cell? ⟨w.heap.size + 1, 0, none⟩ = some (.int .u64 (k2 : Int)) ∧ wx.cell? ⟨w.heap.size + 1, 1, none⟩ = some (.int .u32 (c2 : Int)) ∧ wx.cell? ⟨w.heap.size + 1, 2, none⟩ = some (.bool g2) ∧ wx.cell? ⟨w.heap.size + 1, 3, none⟩ = some (.slice x2 d2 cap2)) (first | exact K1 | exact K0 | exact Ka | exact Kb) (first
      | (go_at_call 15; with_reducible refine (size_any sz _ hb1' hb2').mono ?_; rintro e w' ⟨rfl, rfl⟩; rw [HSZ.out])
      | (go_at_call 17; (with_reducible refine (nsame_any ⟨k1, c1, g1, l1⟩ ⟨k2, c2, g2, l2⟩ (.slice x1 d1 cap1) (.slice x2 d2 cap2) _ ?_ ?_).mono ?_); (first | with_reducible exact An.out | with_reducible exact Bn.out); (first | with_reducible exact Am.out | with_reducible exact Bm.out); rintro e wa ⟨rfl, hba⟩; (first | have hsa := Nat.le_trans hsz.out hba.size | have hsa := Nat.le_trans hsb hba.size); (first | have Ka := keep8 hba hsz.out K1 | have Ka := keep8 hba hsb Kb); (first | (have Bn := Lib.hid (An.out.mono hba (Nat.le_refl _)); have Bm := Lib.hid (Am.out.mono hba (Nat.le_refl _))) | skip))
      | (go_at_call 18; (with_reducible refine (refsame_any ⟨k1, c1, g1, l1⟩ ⟨k2, c2, g2, l2⟩ (.slice x1 d1 cap1) (.slice x2 d2 cap2) _ ?_ ?_ hl1.out).mono ?_); (first | with_reducible exact An.out | with_reducible exact Bn.out); (first | with_reducible exact Am.out | with_reducible exact Bm.out); rintro e wb ⟨rfl, hbb⟩; (first | have hsb := Nat.le_trans hsz.out hbb.size | have hsb := Nat.le_trans hsa hbb.size); (first | have Kb := keep8 hbb hsz.out K1 | have Kb := keep8 hbb hsa Ka); (first | (have Bn := Lib.hid (An.out.mono hbb (Nat.le_refl _)); have Bm := Lib.hid (Am.out.mono hbb (Nat.le_refl _))) | skip)))
    all_goals (go_wp2_with fail; go_meet)
    all_goals exact ⟨rfl, (Below.refl w4.heap.size w4).drew.trans (hba.trans (hbb.mono hba.size))⟩
  case rest =>
  obtain ⟨rfl, hbc⟩ := hcut
  go_wp2
  go_ret
  exact ⟨rfl, HW4.out.trans (hbc.mono (by omega))⟩

set_option maxRecDepth 100000 in
set_option maxHeartbeats 4000000 in
theorem needlePuts_01 (n m : Ndl) (vn vm : Value) (sz : Int) (w : World) (hn : IsB w vn n.data) (hm : IsB w vm m.data) (hfn : n.fits) (h1 : n.data.length ≤ 6000) (h2 : m.data.length ≤ 6000) (hb1' : -9223372036854775808 ≤ sz) (hb2' : sz ≤ 9223372036854775807) (hq : ncheck n ≠ 0) (hr : ¬ (0 ≤ sz ∧ sz ≤ 4096)) :
    Calls Try.prog 3 #[nval n vn, nval m vm, .int .i64 sz] w fun e w' => e = .returned (.bool true) ∧ Below w.heap.size w w' := by
  have HQn := Lib.hid hq
  have hq2 := ncheck_le n
  obtain ⟨q, hqq⟩ : ∃ q : Nat, ncheck n = q := ⟨_, rfl⟩
  have HQ := Lib.hid hqq
  rw [hqq] at hq hq2
  have HCE := Lib.hid (cerr_pos hq)
  have hqb1 : ((q : Int) != 0) = true := by rw [bne_iff_ne]; omega
  have hqb2 : ((q : Int) == 0) = false := by rw [beq_eq_false_iff_ne]; omega
  have hq1 : 1 ≤ q := by omega
  clear hq hqq
  obtain ⟨k1, c1, g1, l1⟩ := n
  obtain ⟨k2, c2, g2, l2⟩ := m
  have HVn := Lib.hid (show IsB w vn l1 from hn)
  have HVm := Lib.hid (show IsB w vm l2 from hm)
  have HFn := Lib.hid hfn
  obtain ⟨d1, hd1'⟩ : ∃ d : Nat, l1.length = d := ⟨_, rfl⟩
  obtain ⟨d2, hd2'⟩ : ∃ d : Nat, l2.length = d := ⟨_, rfl⟩
  obtain ⟨x1, cap1, rfl, hlc1, hcm1⟩ := IsB.at_len (l := l1) hn hd1'
  obtain ⟨x2, cap2, rfl, hlc2, hcm2⟩ := IsB.at_len (l := l2) hm hd2'
  have h1' : d1 ≤ 6000 := by rw [← hd1']; exact h1
  have h2' : d2 ≤ 6000 := by rw [← hd2']; exact h2
  have hlb1 : l1.length ≤ 1099511627776 := by omega
  have HSZ := Lib.hid (show nsize sz = 0 from by unfold nsize; rw [if_pos (by omega)])
  clear hn hm hd1' hd2' h1 h2 hfn
  by_cases r1 : 0 ≤ sz
  · have r2 : 4096 < sz := by omega
    clear hr
    go_enter Try.func3, Try.ntmps3
    go_wp2_with fail
    refine (alive3_any _).mono ?_
    rintro e w1 ⟨rfl, hb1⟩
    have hs1 : w.heap.size + 2 ≤ w1.heap.size := Nat.le_trans (by simp) hb1.size
    have HXn1 := Lib.hid ((Boxed.new w ⟨k1, c1, g1, l1⟩ (.slice x1 d1 cap1) 26).mono (((Below.refl _ _).alloc (Nat.le_refl _) _).trans (hb1.mono (by simp))) (by simp) : Boxed w1 w.heap.size ⟨k1, c1, g1, l1⟩ (.slice x1 d1 cap1))
    have HXm1 := Lib.hid ((Boxed.new2 w (ncells ⟨k1, c1, g1, l1⟩ (.slice x1 d1 cap1) 26) ⟨k2, c2, g2, l2⟩ (.slice x2 d2 cap2) 26).mono hb1 (by simp) : Boxed w1 (w.heap.size + 1) ⟨k2, c2, g2, l2⟩ (.slice x2 d2 cap2))
    have HW1 := Lib.hid (((((Below.refl w.heap.size w).alloc (Nat.le_refl _) _).alloc (by simp) _).trans (hb1.mono (by simp; omega))) : Below w.heap.size w w1)
    clear hb1
    obtain ⟨q0, q1, q2, q3⟩ := HXn1.out
    obtain ⟨p0, p1, p2, p3⟩ := HXm1.out
    go_wp2_with fail
    refine (refcheck_any ⟨k1, c1, g1, l1⟩ _ _ (HVn.out.mono HW1.out (Nat.le_refl _))).mono ?_
    rintro e w2 ⟨rfl, hb2⟩
    rw [HQ.out]
    clear q0 q1 q2 q3 p0 p1 p2 p3
    have hs2 : w.heap.size + 2 ≤ w2.heap.size := Nat.le_trans hs1 hb2.size
    have HXn2 := Lib.hid (HXn1.out.mono hb2 (by omega))
    have HXm2 := Lib.hid (HXm1.out.mono hb2 (by omega))
    have HW2 := Lib.hid (HW1.out.trans (hb2.mono (by omega)))
    clear hb2 HXn1 HXm1 HW1 hs1
    obtain ⟨q0, q1, q2, q3⟩ := HXn2.out
    obtain ⟨p0, p1, p2, p3⟩ := HXm2.out
    go_wp2_with fail
    refine (put_badN ⟨k1, c1, g1, l1⟩ _ _ (HVn.out.mono HW2.out (Nat.le_refl _)) HQn.out).mono ?_
    rintro e w3 ⟨rfl, hb3⟩
    rw [HQ.out]
    clear q0 q1 q2 q3 p0 p1 p2 p3
    have hs3 : w.heap.size + 2 ≤ w3.heap.size := Nat.le_trans hs2 hb3.size
    have HXn3 := Lib.hid (HXn2.out.mono hb3 (by omega))
    have HXm3 := Lib.hid (HXm2.out.mono hb3 (by omega))
    have HW3 := Lib.hid (HW2.out.trans (hb3.mono (by omega)))
    clear hb3 HXn2 HXm2 HW2 hs2
    obtain ⟨q0, q1, q2, q3⟩ := HXn3.out
    obtain ⟨p0, p1, p2, p3⟩ := HXm3.out
    go_wp2_with fail
    refine (check_any ⟨k1, c1, g1, l1⟩ _ _ (HVn.out.mono HW3.out (Nat.le_refl _))).mono ?_
    rintro e w4 ⟨rfl, hb4⟩
    rw [HQ.out, HCE.out]
    clear q0 q1 q2 q3 p0 p1 p2 p3
    have hs4 : w.heap.size + 2 ≤ w4.heap.size := Nat.le_trans hs3 hb4.size
    have HXn4 := Lib.hid (HXn3.out.mono hb4 (by omega))
    have HXm4 := Lib.hid (HXm3.out.mono hb4 (by omega))
    have HW4 := Lib.hid (HW3.out.trans (hb4.mono (by omega)))
    clear hb4 HXn3 HXm3 HW3 hs3
    go_wp2_with fail
    refine (code_code (q : Int) _ (by omega) (by omega)).mono ?_
    rintro e w' ⟨rfl, rfl⟩
    go_wp2_with fail
    refine (code_code (q : Int) _ (by omega) (by omega)).mono ?_
    rintro e w' ⟨rfl, rfl⟩
    go_upto_region 14 with fail
    go_cut [6] from 79 to 91 (fun x wx => x = .bool true ∧ Below w4.heap.size w4 wx)
    case first =>
      obtain ⟨q0, q1, q2, q3⟩ := HXn4.out
      obtain ⟨p0, p1, p2, p3⟩ := HXm4.out
      have K0 : w4.cell? ⟨w.heap.size, 0, none⟩ = some (.int .u64 (k1 : Int)) ∧ w4.cell? ⟨w.heap.size, 1, none⟩ = some (.int .u32 (c1 : Int)) ∧ w4.cell? ⟨w.heap.size, 2, none⟩ = some (.bool g1) ∧ w4.cell? ⟨w.heap.size, 3, none⟩ = some (.slice x1 d1 cap1) ∧ w4.cell? ⟨w.heap.size + 1, 0, none⟩ = some (.int .u64 (k2 : Int)) ∧ w4.cell? ⟨w.heap.size + 1, 1, none⟩ = some (.int .u32 (c2 : Int)) ∧ w4.cell? ⟨w.heap.size + 1, 2, none⟩ = some (.bool g2) ∧ w4.cell? ⟨w.heap.size + 1, 3, none⟩ = some (.slice x2 d2 cap2) := ⟨q0, q1, q2, q3, p0, p1, p2, p3⟩
      have K1 : w4.drew.cell? ⟨w.heap.size, 0, none⟩ = some (.int .u64 (k1 : Int)) ∧ w4.drew.cell? ⟨w.heap.size, 1, none⟩ = some (.int .u32 (c1 : Int)) ∧ w4.drew.cell? ⟨w.heap.size, 2, none⟩ = some (.bool g1) ∧ w4.drew.cell? ⟨w.heap.size, 3, none⟩ = some (.slice x1 d1 cap1) ∧ w4.drew.cell? ⟨w.heap.size + 1, 0, none⟩ = some (.int .u64 (k2 : Int)) ∧ w4.drew.cell? ⟨w.heap.size + 1, 1, none⟩ = some (.int .u32 (c2 : Int)) ∧ w4.drew.cell? ⟨w.heap.size + 1, 2, none⟩ = some (.bool g2) ∧ w4.drew.cell? ⟨w.heap.size + 1, 3, none⟩ = some (.slice x2 d2 cap2) := K0
      have An := Lib.hid (show IsB w4.drew (.slice x1 d1 cap1) l1 from HVn.out.mono HW4.out.drew (Nat.le_refl _))
      have Am := Lib.hid (show IsB w4.drew (.slice x2 d2 cap2) l2 from HVm.out.mono HW4.out.drew (Nat.le_refl _))
      have hl1 := Lib.hid hlb1
      have hsz := Lib.hid hs4
      go_wp2_with fail
      go_region_held3 (fun wx => wx.cell? ⟨w.heap.size, 0, none⟩ = some (.int .u64 (k1 : Int)) ∧ wx.cell? ⟨w.heap.size, 1, none⟩ = some (.int .u32 (c1 : Int)) ∧ wx.cell? ⟨w.heap.size, 2, none⟩ = some (.bool g1) ∧ wx.cell? ⟨w.heap.size, 3, none⟩ = some (.slice x1 d1 cap1) ∧ wx.cell? ⟨w.heap.size + 1, 0, none⟩ = some (.int .u64 (k2 : Int)) ∧ wx.cell? ⟨w.heap.size + 1, 1, none⟩ = some (.int .u32 (c2 : Int)) ∧ wx.cell? ⟨w.heap.size + 1, 2, none⟩ = some (.bool g2) ∧ wx.cell? ⟨w.heap.size + 1, 3, none⟩ = some (.slice x2 d2 cap2)) (first | exact K1 | exact K0 | exact Ka | exact Kb) (first
        | (go_at_call 15; with_reducible refine (size_any sz _ hb1' hb2').mono ?_; rintro e w' ⟨rfl, rfl⟩; rw [HSZ.out])
        | (go_at_call 17; (with_reducible refine (nsame_any ⟨k1, c1, g1, l1⟩ ⟨k2, c2, g2, l2⟩ (.slice x1 d1 cap1) (.slice x2 d2 cap2) _ ?_ ?_).mono ?_); (first | with_reducible exact An.out | with_reducible exact Bn.out); (first | with_reducible exact Am.out | with_reducible exact Bm.out); rintro e wa ⟨rfl, hba⟩; (first | have hsa := Nat.le_trans hsz.out hba.size | have hsa := Nat.le_trans hsb hba.size); (first | have Ka := keep8 hba hsz.out K1 | have Ka := keep8 hba hsb Kb); (first | (have Bn := Lib.hid (An.out.mono hba (Nat.le_refl _)); have Bm := Lib.hid (Am.out.mono hba (Nat.le_refl _))) | skip))
        | (go_at_call 18; (with_reducible refine (refsame_any ⟨k1, c1, g1, l1⟩ ⟨k2, c2, g2, l2⟩ (.slice x1 d1 cap1) (.slice x2 d2 cap2) _ ?_ ?_ hl1.out).mono ?_); (first | with_reducible exact An.out | with_reducible exact Bn.out); (first | with_reducible exact Am.out | with_reducible exact Bm.out); rintro e wb ⟨rfl, hbb⟩; (first | have hsb := Nat.le_trans hsz.out hbb.size | have hsb := Nat.le_trans hsa hbb.size); (first | have Kb := keep8 hbb hsz.out K1 | have Kb := keep8 hbb hsa Ka); (first | (have Bn := Lib.hid (An.out.mono hbb (Nat.le_refl _)); have Bm := Lib.hid (Am.out.mono hbb (Nat.le_refl _))) | skip)))
      all_goals (go_wp2_with fail; go_meet)
      all_goals exact ⟨rfl, (Below.refl w4.heap.size w4).drew.trans (hba.trans (hbb.mono hba.size))⟩
    case rest =>
    obtain ⟨rfl, hbc⟩ := hcut
    go_wp2
    go_ret
    exact ⟨rfl, HW4.out.trans (hbc.mono (by omega))⟩
  · clear hr
    go_enter Try.func3, Try.ntmps3
    go_wp2_with fail
    refine (alive3_any _).mono ?_
    rintro e w1 ⟨rfl, hb1⟩
    have hs1 : w.heap.size + 2 ≤ w1.heap.size := Nat.le_trans (by simp) hb1.size
    have HXn1 := Lib.hid ((Boxed.new w ⟨k1, c1, g1, l1⟩ (.slice x1 d1 cap1) 26).mono (((Below.refl _ _).alloc (Nat.le_refl _) _).trans (hb1.mono (by simp))) (by simp) : Boxed w1 w.heap.size ⟨k1, c1, g1, l1⟩ (.slice x1 d1 cap1))
    have HXm1 := Lib.hid ((Boxed.new2 w (ncells ⟨k1, c1, g1, l1⟩ (.slice x1 d1 cap1) 26) ⟨k2, c2, g2, l2⟩ (.slice x2 d2 cap2) 26).mono hb1 (by simp) : Boxed w1 (w.heap.size + 1) ⟨k2, c2, g2, l2⟩ (.slice x2 d2 cap2))
    have HW1 := Lib.hid (((((Below.refl w.heap.size w).alloc (Nat.le_refl _) _).alloc (by simp) _).trans (hb1.mono (by simp; omega))) : Below w.heap.size w w1)
    clear hb1
    obtain ⟨q0, q1, q2, q3⟩ := HXn1.out
    obtain ⟨p0, p1, p2, p3⟩ := HXm1.out
    go_wp2_with fail
    refine (refcheck_any ⟨k1, c1, g1, l1⟩ _ _ (HVn.out.mono HW1.out (Nat.le_refl _))).mono ?_
    rintro e w2 ⟨rfl, hb2⟩
    rw [HQ.out]
    clear q0 q1 q2 q3 p0 p1 p2 p3
    have hs2 : w.heap.size + 2 ≤ w2.heap.size := Nat.le_trans hs1 hb2.size
    have HXn2 := Lib.hid (HXn1.out.mono hb2 (by omega))
    have HXm2 := Lib.hid (HXm1.out.mono hb2 (by omega))
    have HW2 := Lib.hid (HW1.out.trans (hb2.mono (by omega)))
    clear hb2 HXn1 HXm1 HW1 hs1
    obtain ⟨q0, q1, q2, q3⟩ := HXn2.out
    obtain ⟨p0, p1, p2, p3⟩ := HXm2.out
    go_wp2_with fail
    refine (put_badN ⟨k1, c1, g1, l1⟩ _ _ (HVn.out.mono HW2.out (Nat.le_refl _)) HQn.out).mono ?_
    rintro e w3 ⟨rfl, hb3⟩
    rw [HQ.out]
    clear q0 q1 q2 q3 p0 p1 p2 p3
    have hs3 : w.heap.size + 2 ≤ w3.heap.size := Nat.le_trans hs2 hb3.size
    have HXn3 := Lib.hid (HXn2.out.mono hb3 (by omega))
    have HXm3 := Lib.hid (HXm2.out.mono hb3 (by omega))
    have HW3 := Lib.hid (HW2.out.trans (hb3.mono (by omega)))
    clear hb3 HXn2 HXm2 HW2 hs2
    obtain ⟨q0, q1, q2, q3⟩ := HXn3.out
    obtain ⟨p0, p1, p2, p3⟩ := HXm3.out
    go_wp2_with fail
    refine (check_any ⟨k1, c1, g1, l1⟩ _ _ (HVn.out.mono HW3.out (Nat.le_refl _))).mono ?_
    rintro e w4 ⟨rfl, hb4⟩
    rw [HQ.out, HCE.out]
    clear q0 q1 q2 q3 p0 p1 p2 p3
    have hs4 : w.heap.size + 2 ≤ w4.heap.size := Nat.le_trans hs3 hb4.size
    have HXn4 := Lib.hid (HXn3.out.mono hb4 (by omega))
    have HXm4 := Lib.hid (HXm3.out.mono hb4 (by omega))
    have HW4 := Lib.hid (HW3.out.trans (hb4.mono (by omega)))
    clear hb4 HXn3 HXm3 HW3 hs3
    go_wp2_with fail
    refine (code_code (q : Int) _ (by omega) (by omega)).mono ?_
    rintro e w' ⟨rfl, rfl⟩
    go_wp2_with fail
    refine (code_code (q : Int) _ (by omega) (by omega)).mono ?_
    rintro e w' ⟨rfl, rfl⟩
    go_upto_region 14 with fail
    go_cut [6] from 79 to 91 (fun x wx => x = .bool true ∧ Below w4.heap.size w4 wx)
    case first =>
      obtain ⟨q0, q1, q2, q3⟩ := HXn4.out
      obtain ⟨p0, p1, p2, p3⟩ := HXm4.out
      have K0 : w4.cell? ⟨w.heap.size, 0, none⟩ = some (.int .u64 (k1 : Int)) ∧ w4.cell? ⟨w.heap.size, 1, none⟩ = some (.int .u32 (c1 : Int)) ∧ w4.cell? ⟨w.heap.size, 2, none⟩ = some (.bool g1) ∧ w4.cell? ⟨w.heap.size, 3, none⟩ = some (.slice x1 d1 cap1) ∧ w4.cell? ⟨w.heap.size + 1, 0, none⟩ = some (.int .u64 (k2 : Int)) ∧ w4.cell? ⟨w.heap.size + 1, 1, none⟩ = some (.int .u32 (c2 : Int)) ∧ w4.cell? ⟨w.heap.size + 1, 2, none⟩ = some (.bool g2) ∧ w4.cell? ⟨w.heap.size + 1, 3, none⟩ = some (.slice x2 d2 cap2) := ⟨q0, q1, q2, q3, p0, p1, p2, p3⟩
      have K1 : w4.drew.cell? ⟨w.heap.size, 0, none⟩ = some (.int .u64 (k1 : Int)) ∧ w4.drew.cell? ⟨w.heap.size, 1, none⟩ = some (.int .u32 (c1 : Int)) ∧ w4.drew.cell? ⟨w.heap.size, 2, none⟩ = some (.bool g1) ∧ w4.drew.cell? ⟨w.heap.size, 3, none⟩ = some (.slice x1 d1 cap1) ∧ w4.drew.cell? ⟨w.heap.size + 1, 0, none⟩ = some (.int .u64 (k2 : Int)) ∧ w4.drew.cell? ⟨w.heap.size + 1, 1, none⟩ = some (.int .u32 (c2 : Int)) ∧ w4.drew.cell? ⟨w.heap.size + 1, 2, none⟩ = some (.bool g2) ∧ w4.drew.cell? ⟨w.heap.size + 1, 3, none⟩ = some (.slice x2 d2 cap2) := K0
      have An := Lib.hid (show IsB w4.drew (.slice x1 d1 cap1) l1 from HVn.out.mono HW4.out.drew (Nat.le_refl _))
      have Am := Lib.hid (show IsB w4.drew (.slice x2 d2 cap2) l2 from HVm.out.mono HW4.out.drew (Nat.le_refl _))
      have hl1 := Lib.hid hlb1
      have hsz := Lib.hid hs4
      go_wp2_with fail
      go_region_held3 (fun wx => wx.cell? ⟨w.heap.size, 0, none⟩ = some (.int .u64 (k1 : Int)) ∧ wx.cell? ⟨w.heap.size, 1, none⟩ = some (.int .u32 (c1 : Int)) ∧ wx.cell? ⟨w.heap.size, 2, none⟩ = some (.bool g1) ∧ wx.cell? ⟨w.heap.size, 3, none⟩ = some (.slice x1 d1 cap1) ∧ wx.cell? ⟨w.heap.size + 1, 0, none⟩ = some (.int .u64 (k2 : Int)) ∧ wx.cell? ⟨w.heap.size + 1, 1, none⟩ = some (.int .u32 (c2 : Int)) ∧ wx.cell? ⟨w.heap.size + 1, 2, none⟩ = some (.bool g2) ∧ wx.cell? ⟨w.heap.size + 1, 3, none⟩ = some (.slice x2 d2 cap2)) (first | exact K1 | exact K0 | exact Ka | exact Kb) (first
        | (go_at_call 15; with_reducible refine (size_any sz _ hb1' hb2').mono ?_; rintro e w' ⟨rfl, rfl⟩; rw [HSZ.out])
        | (go_at_call 17; (with_reducible refine (nsame_any ⟨k1, c1, g1, l1⟩ ⟨k2, c2, g2, l2⟩ (.slice x1 d1 cap1) (.slice x2 d2 cap2) _ ?_ ?_).mono ?_); (first | with_reducible exact An.out | with_reducible exact Bn.out); (first | with_reducible exact Am.out | with_reducible exact Bm.out); rintro e wa ⟨rfl, hba⟩; (first | have hsa := Nat.le_trans hsz.out hba.size | have hsa := Nat.le_trans hsb hba.size); (first | have Ka := keep8 hba hsz.out K1 | have Ka := keep8 hba hsb Kb); (first | (have Bn := Lib.hid (An.out.mono hba (Nat.le_refl _)); have Bm := Lib.hid (Am.out.mono hba (Nat.le_refl _))) | skip))
        | (go_at_call 18; (with_reducible refine (refsame_any ⟨k1, c1, g1, l1⟩ ⟨k2, c2, g2, l2⟩ (.slice x1 d1 cap1) (.slice x2 d2 cap2) _ ?_ ?_ hl1.out).mono ?_); (first | with_reducible exact An.out | with_reducible exact Bn.out); (first | with_reducible exact Am.out | with_reducible exact Bm.out); rintro e wb ⟨rfl, hbb⟩; (first | have hsb := Nat.le_trans hsz.out hbb.size | have hsb := Nat.le_trans hsa hbb.size); (first | have Kb := keep8 hbb hsz.out K1 | have Kb := keep8 hbb hsa Ka); (first | (have Bn := Lib.hid (An.out.mono hbb (Nat.le_refl _)); have Bm := Lib.hid (Am.out.mono hbb (Nat.le_refl _))) | skip)))
      all_goals (go_wp2_with fail; go_meet)
      all_goals exact ⟨rfl, (Below.refl w4.heap.size w4).drew.trans (hba.trans (hbb.mono hba.size))⟩
    case rest =>
    obtain ⟨rfl, hbc⟩ := hcut
    go_wp2
    go_ret
    exact ⟨rfl, HW4.out.trans (hbc.mono (by omega))⟩

set_option maxRecDepth 100000 in
set_option maxHeartbeats 4000000 in
theorem needlePuts_10 (n m : Ndl) (vn vm : Value) (sz : Int) (w : World) (hn : IsB w vn n.data) (hm : IsB w vm m.data) (hfn : n.fits) (h1 : n.data.length ≤ 6000) (h2 : m.data.length ≤ 6000) (hb1' : -9223372036854775808 ≤ sz) (hb2' : sz ≤ 9223372036854775807) (hq : ncheck n = 0) (hr : (0 ≤ sz ∧ sz ≤ 4096)) :
    Calls Try.prog 3 #[nval n vn, nval m vm, .int .i64 sz] w fun e w' => e = .returned (.bool true) ∧ Below w.heap.size w w' := by
  have hd4 := (ncheck_ok hq).1
  have hln : (nbytes n).length = 32 + n.data.length + padn n.data.length := length_nbytes n
  have hnz := nsize_nat hd4
  have HQ := Lib.hid hq
  obtain ⟨k1, c1, g1, l1⟩ := n
  obtain ⟨k2, c2, g2, l2⟩ := m
  have HVn := Lib.hid (show IsB w vn l1 from hn)
  have HVm := Lib.hid (show IsB w vm l2 from hm)
  have HFn := Lib.hid hfn
  obtain ⟨d1, hd1'⟩ : ∃ d : Nat, l1.length = d := ⟨_, rfl⟩
  obtain ⟨d2, hd2'⟩ : ∃ d : Nat, l2.length = d := ⟨_, rfl⟩
  obtain ⟨x1, cap1, rfl, hlc1, hcm1⟩ := IsB.at_len (l := l1) hn hd1'
  obtain ⟨x2, cap2, rfl, hlc2, hcm2⟩ := IsB.at_len (l := l2) hm hd2'
  have h1' : d1 ≤ 6000 := by rw [← hd1']; exact h1
  have h2' : d2 ≤ 6000 := by rw [← hd2']; exact h2
  have hlb1 : l1.length ≤ 1099511627776 := by omega
  have hd1 : l1.length ≤ 4096 := hd4
  have hnz' : nsize (d1 : Int) = ((32 + d1 + padn d1 : Nat) : Int) := by rw [← hd1']; exact hnz
  have hln' : (nbytes ⟨k1, c1, g1, l1⟩).length = 32 + d1 + padn d1 := by rw [← hd1']; exact hln
  have hp8 := padn_lt d1
  obtain ⟨L, hL⟩ : ∃ L : Nat, L = 32 + d1 + padn d1 := ⟨_, rfl⟩
  rw [← hL] at hnz' hln'
  have hL5 : L ≤ 7000 := by omega
  have HNZ := Lib.hid hnz'
  have HLn := Lib.hid hln'
  clear hL hp8 hnz hln hnz' hln' hq hd4
  obtain ⟨r1, r2⟩ := hr
  have hpr := pad_range sz
  obtain ⟨P, hP⟩ : ∃ P : Int, pad sz = P := ⟨_, rfl⟩
  have HPS := Lib.hid hP
  have HSZ := Lib.hid (show nsize sz = 32 + sz + P from by unfold nsize; rw [if_neg (by omega), hP])
  rw [hP] at hpr
  obtain ⟨hp1, hp2⟩ := hpr
  clear hP
  clear hn hm hd1' hd2' h1 h2 hfn
  go_enter Try.func3, Try.ntmps3
  go_wp2_with fail
  refine (alive3_any _).mono ?_
  rintro e w1 ⟨rfl, hb1⟩
  have hs1 : w.heap.size + 2 ≤ w1.heap.size := Nat.le_trans (by simp) hb1.size
  have HXn1 := Lib.hid ((Boxed.new w ⟨k1, c1, g1, l1⟩ (.slice x1 d1 cap1) 26).mono (((Below.refl _ _).alloc (Nat.le_refl _) _).trans (hb1.mono (by simp))) (by simp) : Boxed w1 w.heap.size ⟨k1, c1, g1, l1⟩ (.slice x1 d1 cap1))
  have HXm1 := Lib.hid ((Boxed.new2 w (ncells ⟨k1, c1, g1, l1⟩ (.slice x1 d1 cap1) 26) ⟨k2, c2, g2, l2⟩ (.slice x2 d2 cap2) 26).mono hb1 (by simp) : Boxed w1 (w.heap.size + 1) ⟨k2, c2, g2, l2⟩ (.slice x2 d2 cap2))
  have HW1 := Lib.hid (((((Below.refl w.heap.size w).alloc (Nat.le_refl _) _).alloc (by simp) _).trans (hb1.mono (by simp; omega))) : Below w.heap.size w w1)
  clear hb1
  obtain ⟨q0, q1, q2, q3⟩ := HXn1.out
  obtain ⟨p0, p1, p2, p3⟩ := HXm1.out
  go_wp2_with fail
  refine (refcheck_any ⟨k1, c1, g1, l1⟩ _ _ (HVn.out.mono HW1.out (Nat.le_refl _))).mono ?_
  rintro e w2 ⟨rfl, hb2⟩
  rw [HQ.out]
  clear q0 q1 q2 q3 p0 p1 p2 p3
  have hs2 : w.heap.size + 2 ≤ w2.heap.size := Nat.le_trans hs1 hb2.size
  have HXn2 := Lib.hid (HXn1.out.mono hb2 (by omega))
  have HXm2 := Lib.hid (HXm1.out.mono hb2 (by omega))
  have HW2 := Lib.hid (HW1.out.trans (hb2.mono (by omega)))
  clear hb2 HXn1 HXm1 HW1 hs1
  obtain ⟨q0, q1, q2, q3⟩ := HXn2.out
  obtain ⟨p0, p1, p2, p3⟩ := HXm2.out
  go_wp2_with fail
  refine (put_okN ⟨k1, c1, g1, l1⟩ _ _ (HVn.out.mono HW2.out (Nat.le_refl _)) HFn.out HQ.out).mono ?_
  rintro e w3 ⟨v3, rfl, hown3, hb3⟩
  obtain ⟨x3, c3, rfl⟩ := ownsRow_slice hown3
  rw [HLn.out] at hown3 ⊢
  have HR3 := Lib.hid (IsB.own hown3 HLn.out.symm)
  clear hown3
  clear q0 q1 q2 q3 p0 p1 p2 p3
  have hs3 : w.heap.size + 2 ≤ w3.heap.size := Nat.le_trans hs2 hb3.size
  have HXn3 := Lib.hid (HXn2.out.mono hb3 (by omega))
  have HXm3 := Lib.hid (HXm2.out.mono hb3 (by omega))
  have HW3 := Lib.hid (HW2.out.trans (hb3.mono (by omega)))
  clear hb3 HXn2 HXm2 HW2 hs2
  obtain ⟨q0, q1, q2, q3⟩ := HXn3.out
  obtain ⟨p0, p1, p2, p3⟩ := HXm3.out
  go_wp2_with fail
  refine (check_any ⟨k1, c1, g1, l1⟩ _ _ (HVn.out.mono HW3.out (Nat.le_refl _))).mono ?_
  rintro e w4 ⟨rfl, hb4⟩
  rw [HQ.out, cerr_0]
  have HR4 := Lib.hid (HR3.out.mono hb4 (Nat.le_refl _))
  clear q0 q1 q2 q3 p0 p1 p2 p3
  have hs4 : w.heap.size + 2 ≤ w4.heap.size := Nat.le_trans hs3 hb4.size
  have HXn4 := Lib.hid (HXn3.out.mono hb4 (by omega))
  have HXm4 := Lib.hid (HXm3.out.mono hb4 (by omega))
  have HW4 := Lib.hid (HW3.out.trans (hb4.mono (by omega)))
  clear hb4 HXn3 HXm3 HW3 hs3
  go_wp2_with fail
  refine (code_nil _).mono ?_
  rintro e w' ⟨rfl, rfl⟩
  go_wp2_with fail
  refine (code_nil _).mono ?_
  rintro e w' ⟨rfl, rfl⟩
  obtain ⟨q0, q1, q2, q3⟩ := HXn4.out
  obtain ⟨p0, p1, p2, p3⟩ := HXm4.out
  go_wp2_with fail
  refine (refput_any ⟨k1, c1, g1, l1⟩ _ _ (HVn.out.mono HW4.out (Nat.le_refl _)) HFn.out hd1).mono ?_
  rintro e w5 ⟨v5, rfl, hown5, hb5⟩
  have HR5 := Lib.hid (HR4.out.mono hb5 (Nat.le_refl _))
  have HP5 := Lib.hid (IsB.own hown5 rfl)
  clear hown5
  clear q0 q1 q2 q3 p0 p1 p2 p3
  have hs5 : w.heap.size + 2 ≤ w5.heap.size := Nat.le_trans hs4 hb5.size
  have HXn5 := Lib.hid (HXn4.out.mono hb5 (by omega))
  have HXm5 := Lib.hid (HXm4.out.mono hb5 (by omega))
  have HW5 := Lib.hid (HW4.out.trans (hb5.mono (by omega)))
  clear hb5 HXn4 HXm4 HW4 hs4
  go_wp2_with fail
  refine (same_yes _ _ (nbytes ⟨k1, c1, g1, l1⟩) _ HR5.out HP5.out (by rw [HLn.out]; omega)).mono ?_
  rintro e w6 ⟨rfl, nd, hw6⟩
  have hb6 : Below w5.heap.size w5 w6 := by rw [hw6]; exact below_drewN (Below.refl _ _) nd
  clear hw6
  have hs6 : w.heap.size + 2 ≤ w6.heap.size := Nat.le_trans hs5 hb6.size
  have HXn6 := Lib.hid (HXn5.out.mono hb6 (by omega))
  have HXm6 := Lib.hid (HXm5.out.mono hb6 (by omega))
  have HW6 := Lib.hid (HW5.out.trans (hb6.mono (by omega)))
  clear hb6 HXn5 HXm5 HW5 hs5
  obtain ⟨q0, q1, q2, q3⟩ := HXn6.out
  obtain ⟨p0, p1, p2, p3⟩ := HXm6.out
  go_wp2_with fail
  refine (size_any (d1 : Int) _ (by omega) (by omega)).mono ?_
  rintro e w' ⟨rfl, rfl⟩
  rw [HNZ.out]
  clear q0 q1 q2 q3 p0 p1 p2 p3
  go_wp2_with fail
  refine (refpad_any sz _ (by omega) (by omega)).mono ?_
  rintro e w' ⟨rfl, rfl⟩
  rw [HPS.out]
  go_upto_region 14 with fail
  go_cut [6] from 79 to 91 (fun x wx => x = .bool true ∧ Below w6.heap.size w6 wx)
  case first =>
    obtain ⟨q0, q1, q2, q3⟩ := HXn6.out
    obtain ⟨p0, p1, p2, p3⟩ := HXm6.out
    have K0 : w6.cell? ⟨w.heap.size, 0, none⟩ = some (.int .u64 (k1 : Int)) ∧ w6.cell? ⟨w.heap.size, 1, none⟩ = some (.int .u32 (c1 : Int)) ∧ w6.cell? ⟨w.heap.size, 2, none⟩ = some (.bool g1) ∧ w6.cell? ⟨w.heap.size, 3, none⟩ = some (.slice x1 d1 cap1) ∧ w6.cell? ⟨w.heap.size + 1, 0, none⟩ = some (.int .u64 (k2 : Int)) ∧ w6.cell? ⟨w.heap.size + 1, 1, none⟩ = some (.int .u32 (c2 : Int)) ∧ w6.cell? ⟨w.heap.size + 1, 2, none⟩ = some (.bool g2) ∧ w6.cell? ⟨w.heap.size + 1, 3, none⟩ = some (.slice x2 d2 cap2) := ⟨q0, q1, q2, q3, p0, p1, p2, p3⟩
    have K1 : w6.drew.cell? ⟨w.heap.size, 0, none⟩ = some (.int .u64 (k1 : Int)) ∧ w6.drew.cell? ⟨w.heap.size, 1, none⟩ = some (.int .u32 (c1 : Int)) ∧ w6.drew.cell? ⟨w.heap.size, 2, none⟩ = some (.bool g1) ∧ w6.drew.cell? ⟨w.heap.size, 3, none⟩ = some (.slice x1 d1 cap1) ∧ w6.drew.cell? ⟨w.heap.size + 1, 0, none⟩ = some (.int .u64 (k2 : Int)) ∧ w6.drew.cell? ⟨w.heap.size + 1, 1, none⟩ = some (.int .u32 (c2 : Int)) ∧ w6.drew.cell? ⟨w.heap.size + 1, 2, none⟩ = some (.bool g2) ∧ w6.drew.cell? ⟨w.heap.size + 1, 3, none⟩ = some (.slice x2 d2 cap2) := K0
    have An := Lib.hid (show IsB w6.drew (.slice x1 d1 cap1) l1 from HVn.out.mono HW6.out.drew (Nat.le_refl _))
    have Am := Lib.hid (show IsB w6.drew (.slice x2 d2 cap2) l2 from HVm.out.mono HW6.out.drew (Nat.le_refl _))
    have hl1 := Lib.hid hlb1
    have hsz := Lib.hid hs6
    go_wp2_with fail
    go_region_held3 (fun wx => wx.cell? ⟨w.heap.size, 0, none⟩ = some (.int .u64 (k1 : Int)) ∧ wx.cell? ⟨w.heap.size, 1, none⟩ = some (.int .u32 (c1 : Int)) ∧ wx.cell? ⟨w.heap.size, 2, none⟩ = some (.bool g1) ∧ wx.cell? ⟨w.heap.size, 3, none⟩ = some (.slice x1 d1 cap1) ∧ wx.cell? ⟨w.heap.size + 1, 0, none⟩ = some (.int .u64 (k2 : Int)) ∧ wx.cell? ⟨w.heap.size + 1, 1, none⟩ = some (.int .u32 (c2 : Int)) ∧ wx.cell? ⟨w.heap.size + 1, 2, none⟩ = some (.bool g2) ∧ wx.cell? ⟨w.heap.size + 1, 3, none⟩ = some (.slice x2 d2 cap2)) (first | exact K1 | exact K0 | exact Ka | exact Kb) (first
      | (go_at_call 15; with_reducible refine (size_any sz _ hb1' hb2').mono ?_; rintro e w' ⟨rfl, rfl⟩; rw [HSZ.out])
      | (go_at_call 17; (with_reducible refine (nsame_any ⟨k1, c1, g1, l1⟩ ⟨k2, c2, g2, l2⟩ (.slice x1 d1 cap1) (.slice x2 d2 cap2) _ ?_ ?_).mono ?_); (first | with_reducible exact An.out | with_reducible exact Bn.out); (first | with_reducible exact Am.out | with_reducible exact Bm.out); rintro e wa ⟨rfl, hba⟩; (first | have hsa := Nat.le_trans hsz.out hba.size | have hsa := Nat.le_trans hsb hba.size); (first | have Ka := keep8 hba hsz.out K1 | have Ka := keep8 hba hsb Kb); (first | (have Bn := Lib.hid (An.out.mono hba (Nat.le_refl _)); have Bm := Lib.hid (Am.out.mono hba (Nat.le_refl _))) | skip))
      | (go_at_call 18; (with_reducible refine (refsame_any ⟨k1, c1, g1, l1⟩ ⟨k2, c2, g2, l2⟩ (.slice x1 d1 cap1) (.slice x2 d2 cap2) _ ?_ ?_ hl1.out).mono ?_); (first | with_reducible exact An.out | with_reducible exact Bn.out); (first | with_reducible exact Am.out | with_reducible exact Bm.out); rintro e wb ⟨rfl, hbb⟩; (first | have hsb := Nat.le_trans hsz.out hbb.size | have hsb := Nat.le_trans hsa hbb.size); (first | have Kb := keep8 hbb hsz.out K1 | have Kb := keep8 hbb hsa Ka); (first | (have Bn := Lib.hid (An.out.mono hbb (Nat.le_refl _)); have Bm := Lib.hid (Am.out.mono hbb (Nat.le_refl _))) | skip)))
    all_goals (go_wp2_with fail; go_meet)
    all_goals exact ⟨rfl, (Below.refl w6.heap.size w6).drew.trans (hba.trans (hbb.mono hba.size))⟩
  case rest =>
  obtain ⟨rfl, hbc⟩ := hcut
  go_wp2
  go_ret
  exact ⟨rfl, HW6.out.trans (hbc.mono (by omega))⟩

set_option maxRecDepth 100000 in
set_option maxHeartbeats 4000000 in
theorem needlePuts_11 (n m : Ndl) (vn vm : Value) (sz : Int) (w : World) (hn : IsB w vn n.data) (hm : IsB w vm m.data) (hfn : n.fits) (h1 : n.data.length ≤ 6000) (h2 : m.data.length ≤ 6000) (hb1' : -9223372036854775808 ≤ sz) (hb2' : sz ≤ 9223372036854775807) (hq : ncheck n = 0) (hr : ¬ (0 ≤ sz ∧ sz ≤ 4096)) :
    Calls Try.prog 3 #[nval n vn, nval m vm, .int .i64 sz] w fun e w' => e = .returned (.bool true) ∧ Below w.heap.size w w' := by
  have hd4 := (ncheck_ok hq).1
  have hln : (nbytes n).length = 32 + n.data.length + padn n.data.length := length_nbytes n
  have hnz := nsize_nat hd4
  have HQ := Lib.hid hq
  obtain ⟨k1, c1, g1, l1⟩ := n
  obtain ⟨k2, c2, g2, l2⟩ := m
  have HVn := Lib.hid (show IsB w vn l1 from hn)
  have HVm := Lib.hid (show IsB w vm l2 from hm)
  have HFn := Lib.hid hfn
  obtain ⟨d1, hd1'⟩ : ∃ d : Nat, l1.length = d := ⟨_, rfl⟩
  obtain ⟨d2, hd2'⟩ : ∃ d : Nat, l2.length = d := ⟨_, rfl⟩
  obtain ⟨x1, cap1, rfl, hlc1, hcm1⟩ := IsB.at_len (l := l1) hn hd1'
  obtain ⟨x2, cap2, rfl, hlc2, hcm2⟩ := IsB.at_len (l := l2) hm hd2'
  have h1' : d1 ≤ 6000 := by rw [← hd1']; exact h1
  have h2' : d2 ≤ 6000 := by rw [← hd2']; exact h2
  have hlb1 : l1.length ≤ 1099511627776 := by omega
  have hd1 : l1.length ≤ 4096 := hd4
  have hnz' : nsize (d1 : Int) = ((32 + d1 + padn d1 : Nat) : Int) := by rw [← hd1']; exact hnz
  have hln' : (nbytes ⟨k1, c1, g1, l1⟩).length = 32 + d1 + padn d1 := by rw [← hd1']; exact hln
  have hp8 := padn_lt d1
  obtain ⟨L, hL⟩ : ∃ L : Nat, L = 32 + d1 + padn d1 := ⟨_, rfl⟩
  rw [← hL] at hnz' hln'
  have hL5 : L ≤ 7000 := by omega
  have HNZ := Lib.hid hnz'
  have HLn := Lib.hid hln'
  clear hL hp8 hnz hln hnz' hln' hq hd4
  have HSZ := Lib.hid (show nsize sz = 0 from by unfold nsize; rw [if_pos (by omega)])
  clear hn hm hd1' hd2' h1 h2 hfn
  by_cases r1 : 0 ≤ sz
  · have r2 : 4096 < sz := by omega
    clear hr
    go_enter Try.func3, Try.ntmps3
    go_wp2_with fail
    refine (alive3_any _).mono ?_
    rintro e w1 ⟨rfl, hb1⟩
    have hs1 : w.heap.size + 2 ≤ w1.heap.size := Nat.le_trans (by simp) hb1.size
    have HXn1 := Lib.hid ((Boxed.new w ⟨k1, c1, g1, l1⟩ (.slice x1 d1 cap1) 26).mono (((Below.refl _ _).alloc (Nat.le_refl _) _).trans (hb1.mono (by simp))) (by simp) : Boxed w1 w.heap.size ⟨k1, c1, g1, l1⟩ (.slice x1 d1 cap1))
    have HXm1 := Lib.hid ((Boxed.new2 w (ncells ⟨k1, c1, g1, l1⟩ (.slice x1 d1 cap1) 26) ⟨k2, c2, g2, l2⟩ (.slice x2 d2 cap2) 26).mono hb1 (by simp) : Boxed w1 (w.heap.size + 1) ⟨k2, c2, g2, l2⟩ (.slice x2 d2 cap2))
    have HW1 := Lib.hid (((((Below.refl w.heap.size w).alloc (Nat.le_refl _) _).alloc (by simp) _).trans (hb1.mono (by simp; omega))) : Below w.heap.size w w1)
    clear hb1
    obtain ⟨q0, q1, q2, q3⟩ := HXn1.out
    obtain ⟨p0, p1, p2, p3⟩ := HXm1.out
    go_wp2_with fail
    refine (refcheck_any ⟨k1, c1, g1, l1⟩ _ _ (HVn.out.mono HW1.out (Nat.le_refl _))).mono ?_
    rintro e w2 ⟨rfl, hb2⟩
    rw [HQ.out]
    clear q0 q1 q2 q3 p0 p1 p2 p3
    have hs2 : w.heap.size + 2 ≤ w2.heap.size := Nat.le_trans hs1 hb2.size
    have HXn2 := Lib.hid (HXn1.out.mono hb2 (by omega))
    have HXm2 := Lib.hid (HXm1.out.mono hb2 (by omega))
    have HW2 := Lib.hid (HW1.out.trans (hb2.mono (by omega)))
    clear hb2 HXn1 HXm1 HW1 hs1
    obtain ⟨q0, q1, q2, q3⟩ := HXn2.out
    obtain ⟨p0, p1, p2, p3⟩ := HXm2.out
    go_wp2_with fail
    refine (put_okN ⟨k1, c1, g1, l1⟩ _ _ (HVn.out.mono HW2.out (Nat.le_refl _)) HFn.out HQ.out).mono ?_
    rintro e w3 ⟨v3, rfl, hown3, hb3⟩
    obtain ⟨x3, c3, rfl⟩ := ownsRow_slice hown3
    rw [HLn.out] at hown3 ⊢
    have HR3 := Lib.hid (IsB.own hown3 HLn.out.symm)
    clear hown3
    clear q0 q1 q2 q3 p0 p1 p2 p3
    have hs3 : w.heap.size + 2 ≤ w3.heap.size := Nat.le_trans hs2 hb3.size
    have HXn3 := Lib.hid (HXn2.out.mono hb3 (by omega))
    have HXm3 := Lib.hid (HXm2.out.mono hb3 (by omega))
    have HW3 := Lib.hid (HW2.out.trans (hb3.mono (by omega)))
    clear hb3 HXn2 HXm2 HW2 hs2
    obtain ⟨q0, q1, q2, q3⟩ := HXn3.out
    obtain ⟨p0, p1, p2, p3⟩ := HXm3.out
    go_wp2_with fail
    refine (check_any ⟨k1, c1, g1, l1⟩ _ _ (HVn.out.mono HW3.out (Nat.le_refl _))).mono ?_
    rintro e w4 ⟨rfl, hb4⟩
    rw [HQ.out, cerr_0]
    have HR4 := Lib.hid (HR3.out.mono hb4 (Nat.le_refl _))
    clear q0 q1 q2 q3 p0 p1 p2 p3
    have hs4 : w.heap.size + 2 ≤ w4.heap.size := Nat.le_trans hs3 hb4.size
    have HXn4 := Lib.hid (HXn3.out.mono hb4 (by omega))
    have HXm4 := Lib.hid (HXm3.out.mono hb4 (by omega))
    have HW4 := Lib.hid (HW3.out.trans (hb4.mono (by omega)))
    clear hb4 HXn3 HXm3 HW3 hs3
    go_wp2_with fail
    refine (code_nil _).mono ?_
    rintro e w' ⟨rfl, rfl⟩
    go_wp2_with fail
    refine (code_nil _).mono ?_
    rintro e w' ⟨rfl, rfl⟩
    obtain ⟨q0, q1, q2, q3⟩ := HXn4.out
    obtain ⟨p0, p1, p2, p3⟩ := HXm4.out
    go_wp2_with fail
    refine (refput_any ⟨k1, c1, g1, l1⟩ _ _ (HVn.out.mono HW4.out (Nat.le_refl _)) HFn.out hd1).mono ?_
    rintro e w5 ⟨v5, rfl, hown5, hb5⟩
    have HR5 := Lib.hid (HR4.out.mono hb5 (Nat.le_refl _))
    have HP5 := Lib.hid (IsB.own hown5 rfl)
    clear hown5
    clear q0 q1 q2 q3 p0 p1 p2 p3
    have hs5 : w.heap.size + 2 ≤ w5.heap.size := Nat.le_trans hs4 hb5.size
    have HXn5 := Lib.hid (HXn4.out.mono hb5 (by omega))
    have HXm5 := Lib.hid (HXm4.out.mono hb5 (by omega))
    have HW5 := Lib.hid (HW4.out.trans (hb5.mono (by omega)))
    clear hb5 HXn4 HXm4 HW4 hs4
    go_wp2_with fail
    refine (same_yes _ _ (nbytes ⟨k1, c1, g1, l1⟩) _ HR5.out HP5.out (by rw [HLn.out]; omega)).mono ?_
    rintro e w6 ⟨rfl, nd, hw6⟩
    have hb6 : Below w5.heap.size w5 w6 := by rw [hw6]; exact below_drewN (Below.refl _ _) nd
    clear hw6
    have hs6 : w.heap.size + 2 ≤ w6.heap.size := Nat.le_trans hs5 hb6.size
    have HXn6 := Lib.hid (HXn5.out.mono hb6 (by omega))
    have HXm6 := Lib.hid (HXm5.out.mono hb6 (by omega))
    have HW6 := Lib.hid (HW5.out.trans (hb6.mono (by omega)))
    clear hb6 HXn5 HXm5 HW5 hs5
    obtain ⟨q0, q1, q2, q3⟩ := HXn6.out
    obtain ⟨p0, p1, p2, p3⟩ := HXm6.out
    go_wp2_with fail
    refine (size_any (d1 : Int) _ (by omega) (by omega)).mono ?_
    rintro e w' ⟨rfl, rfl⟩
    rw [HNZ.out]
    clear q0 q1 q2 q3 p0 p1 p2 p3
    go_upto_region 14 with fail
    go_cut [6] from 79 to 91 (fun x wx => x = .bool true ∧ Below w6.heap.size w6 wx)
    case first =>
      obtain ⟨q0, q1, q2, q3⟩ := HXn6.out
      obtain ⟨p0, p1, p2, p3⟩ := HXm6.out
      have K0 : w6.cell? ⟨w.heap.size, 0, none⟩ = some (.int .u64 (k1 : Int)) ∧ w6.cell? ⟨w.heap.size, 1, none⟩ = some (.int .u32 (c1 : Int)) ∧ w6.cell? ⟨w.heap.size, 2, none⟩ = some (.bool g1) ∧ w6.cell? ⟨w.heap.size, 3, none⟩ = some (.slice x1 d1 cap1) ∧ w6.cell? ⟨w.heap.size + 1, 0, none⟩ = some (.int .u64 (k2 : Int)) ∧ w6.cell? ⟨w.heap.size + 1, 1, none⟩ = some (.int .u32 (c2 : Int)) ∧ w6.cell? ⟨w.heap.size + 1, 2, none⟩ = some (.bool g2) ∧ w6.cell? ⟨w.heap.size + 1, 3, none⟩ = some (.slice x2 d2 cap2) := ⟨q0, q1, q2, q3, p0, p1, p2, p3⟩
      have K1 : w6.drew.cell? ⟨w.heap.size, 0, none⟩ = some (.int .u64 (k1 : Int)) ∧ w6.drew.cell? ⟨w.heap.size, 1, none⟩ = some (.int .u32 (c1 : Int)) ∧ w6.drew.cell? ⟨w.heap.size, 2, none⟩ = some (.bool g1) ∧ w6.drew.cell? ⟨w.heap.size, 3, none⟩ = some (.slice x1 d1 cap1) ∧ w6.drew.cell? ⟨w.heap.size + 1, 0, none⟩ = some (.int .u64 (k2 : Int)) ∧ w6.drew.cell? ⟨w.heap.size + 1, 1, none⟩ = some (.int .u32 (c2 : Int)) ∧ w6.drew.cell? ⟨w.heap.size + 1, 2, none⟩ = some (.bool g2) ∧ w6.drew.cell? ⟨w.heap.size + 1, 3, none⟩ = some (.slice x2 d2 cap2) := K0
      have An := Lib.hid (show IsB w6.drew (.slice x1 d1 cap1) l1 from HVn.out.mono HW6.out.drew (Nat.le_refl _))
      have Am := Lib.hid (show IsB w6.drew (.slice x2 d2 cap2) l2 from HVm.out.mono HW6.out.drew (Nat.le_refl _))
      have hl1 := Lib.hid hlb1
      have hsz := Lib.hid hs6
      go_wp2_with fail
      go_region_held3 (fun wx => wx.cell? ⟨w.heap.size, 0, none⟩ = some (.int .u64 (k1 : Int)) ∧ wx.cell? ⟨w.heap.size, 1, none⟩ = some (.int .u32 (c1 : Int)) ∧ wx.cell? ⟨w.heap.size, 2, none⟩ = some (.bool g1) ∧ wx.cell? ⟨w.heap.size, 3, none⟩ = some (.slice x1 d1 cap1) ∧ wx.cell? ⟨w.heap.size + 1, 0, none⟩ = some (.int .u64 (k2 : Int)) ∧ wx.cell? ⟨w.heap.size + 1, 1, none⟩ = some (.int .u32 (c2 : Int)) ∧ wx.cell? ⟨w.heap.size + 1, 2, none⟩ = some (.bool g2) ∧ wx.cell? ⟨w.heap.size + 1, 3, none⟩ = some (.slice x2 d2 cap2)) (first | exact K1 | exact K0 | exact Ka | exact Kb) (first
        | (go_at_call 15; with_reducible refine (size_any sz _ hb1' hb2').mono ?_; rintro e w' ⟨rfl, rfl⟩; rw [HSZ.out])
        | (go_at_call 17; (with_reducible refine (nsame_any ⟨k1, c1, g1, l1⟩ ⟨k2, c2, g2, l2⟩ (.slice x1 d1 cap1) (.slice x2 d2 cap2) _ ?_ ?_).mono ?_); (first | with_reducible exact An.out | with_reducible exact Bn.out); (first | with_reducible exact Am.out | with_reducible exact Bm.out); rintro e wa ⟨rfl, hba⟩; (first | have hsa := Nat.le_trans hsz.out hba.size | have hsa := Nat.le_trans hsb hba.size); (first | have Ka := keep8 hba hsz.out K1 | have Ka := keep8 hba hsb Kb); (first | (have Bn := Lib.hid (An.out.mono hba (Nat.le_refl _)); have Bm := Lib.hid (Am.out.mono hba (Nat.le_refl _))) | skip))
        | (go_at_call 18; (with_reducible refine (refsame_any ⟨k1, c1, g1, l1⟩ ⟨k2, c2, g2, l2⟩ (.slice x1 d1 cap1) (.slice x2 d2 cap2) _ ?_ ?_ hl1.out).mono ?_); (first | with_reducible exact An.out | with_reducible exact Bn.out); (first | with_reducible exact Am.out | with_reducible exact Bm.out); rintro e wb ⟨rfl, hbb⟩; (first | have hsb := Nat.le_trans hsz.out hbb.size | have hsb := Nat.le_trans hsa hbb.size); (first | have Kb := keep8 hbb hsz.out K1 | have Kb := keep8 hbb hsa Ka); (first | (have Bn := Lib.hid (An.out.mono hbb (Nat.le_refl _)); have Bm := Lib.hid (Am.out.mono hbb (Nat.le_refl _))) | skip)))
      all_goals (go_wp2_with fail; go_meet)
      all_goals exact ⟨rfl, (Below.refl w6.heap.size w6).drew.trans (hba.trans (hbb.mono hba.size))⟩
    case rest =>
    obtain ⟨rfl, hbc⟩ := hcut
    go_wp2
    go_ret
    exact ⟨rfl, HW6.out.trans (hbc.mono (by omega))⟩
  · clear hr
    go_enter Try.func3, Try.ntmps3
    go_wp2_with fail
    refine (alive3_any _).mono ?_
    rintro e w1 ⟨rfl, hb1⟩
    have hs1 : w.heap.size + 2 ≤ w1.heap.size := Nat.le_trans (by simp) hb1.size
    have HXn1 := Lib.hid ((Boxed.new w ⟨k1, c1, g1, l1⟩ (.slice x1 d1 cap1) 26).mono (((Below.refl _ _).alloc (Nat.le_refl _) _).trans (hb1.mono (by simp))) (by simp) : Boxed w1 w.heap.size ⟨k1, c1, g1, l1⟩ (.slice x1 d1 cap1))
    have HXm1 := Lib.hid ((Boxed.new2 w (ncells ⟨k1, c1, g1, l1⟩ (.slice x1 d1 cap1) 26) ⟨k2, c2, g2, l2⟩ (.slice x2 d2 cap2) 26).mono hb1 (by simp) : Boxed w1 (w.heap.size + 1) ⟨k2, c2, g2, l2⟩ (.slice x2 d2 cap2))
    have HW1 := Lib.hid (((((Below.refl w.heap.size w).alloc (Nat.le_refl _) _).alloc (by simp) _).trans (hb1.mono (by simp; omega))) : Below w.heap.size w w1)
    clear hb1
    obtain ⟨q0, q1, q2, q3⟩ := HXn1.out
    obtain ⟨p0, p1, p2, p3⟩ := HXm1.out
    go_wp2_with fail
    refine (refcheck_any ⟨k1, c1, g1, l1⟩ _ _ (HVn.out.mono HW1.out (Nat.le_refl _))).mono ?_
    rintro e w2 ⟨rfl, hb2⟩
    rw [HQ.out]
    clear q0 q1 q2 q3 p0 p1 p2 p3
    have hs2 : w.heap.size + 2 ≤ w2.heap.size := Nat.le_trans hs1 hb2.size
    have HXn2 := Lib.hid (HXn1.out.mono hb2 (by omega))
    have HXm2 := Lib.hid (HXm1.out.mono hb2 (by omega))
    have HW2 := Lib.hid (HW1.out.trans (hb2.mono (by omega)))
    clear hb2 HXn1 HXm1 HW1 hs1
    obtain ⟨q0, q1, q2, q3⟩ := HXn2.out
    obtain ⟨p0, p1, p2, p3⟩ := HXm2.out
    go_wp2_with fail
    refine (put_okN ⟨k1, c1, g1, l1⟩ _ _ (HVn.out.mono HW2.out (Nat.le_refl _)) HFn.out HQ.out).mono ?_
    rintro e w3 ⟨v3, rfl, hown3, hb3⟩
    obtain ⟨x3, c3, rfl⟩ := ownsRow_slice hown3
    rw [HLn.out] at hown3 ⊢
    have HR3 := Lib.hid (IsB.own hown3 HLn.out.symm)
    clear hown3
    clear q0 q1 q2 q3 p0 p1 p2 p3
    have hs3 : w.heap.size + 2 ≤ w3.heap.size := Nat.le_trans hs2 hb3.size
    have HXn3 := Lib.hid (HXn2.out.mono hb3 (by omega))
    have HXm3 := Lib.hid (HXm2.out.mono hb3 (by omega))
    have HW3 := Lib.hid (HW2.out.trans (hb3.mono (by omega)))
    clear hb3 HXn2 HXm2 HW2 hs2
    obtain ⟨q0, q1, q2, q3⟩ := HXn3.out
    obtain ⟨p0, p1, p2, p3⟩ := HXm3.out
    go_wp2_with fail
    refine (check_any ⟨k1, c1, g1, l1⟩ _ _ (HVn.out.mono HW3.out (Nat.le_refl _))).mono ?_
    rintro e w4 ⟨rfl, hb4⟩
    rw [HQ.out, cerr_0]
    have HR4 := Lib.hid (HR3.out.mono hb4 (Nat.le_refl _))
    clear q0 q1 q2 q3 p0 p1 p2 p3
    have hs4 : w.heap.size + 2 ≤ w4.heap.size := Nat.le_trans hs3 hb4.size
    have HXn4 := Lib.hid (HXn3.out.mono hb4 (by omega))
    have HXm4 := Lib.hid (HXm3.out.mono hb4 (by omega))
    have HW4 := Lib.hid (HW3.out.trans (hb4.mono (by omega)))
    clear hb4 HXn3 HXm3 HW3 hs3
    go_wp2_with fail
    refine (code_nil _).mono ?_
    rintro e w' ⟨rfl, rfl⟩
    go_wp2_with fail
    refine (code_nil _).mono ?_
    rintro e w' ⟨rfl, rfl⟩
    obtain ⟨q0, q1, q2, q3⟩ := HXn4.out
    obtain ⟨p0, p1, p2, p3⟩ := HXm4.out
    go_wp2_with fail
    refine (refput_any ⟨k1, c1, g1, l1⟩ _ _ (HVn.out.mono HW4.out (Nat.le_refl _)) HFn.out hd1).mono ?_
    rintro e w5 ⟨v5, rfl, hown5, hb5⟩
    have HR5 := Lib.hid (HR4.out.mono hb5 (Nat.le_refl _))
    have HP5 := Lib.hid (IsB.own hown5 rfl)
    clear hown5
    clear q0 q1 q2 q3 p0 p1 p2 p3
    have hs5 : w.heap.size + 2 ≤ w5.heap.size := Nat.le_trans hs4 hb5.size
    have HXn5 := Lib.hid (HXn4.out.mono hb5 (by omega))
    have HXm5 := Lib.hid (HXm4.out.mono hb5 (by omega))
    have HW5 := Lib.hid (HW4.out.trans (hb5.mono (by omega)))
    clear hb5 HXn4 HXm4 HW4 hs4
    go_wp2_with fail
    refine (same_yes _ _ (nbytes ⟨k1, c1, g1, l1⟩) _ HR5.out HP5.out (by rw [HLn.out]; omega)).mono ?_
    rintro e w6 ⟨rfl, nd, hw6⟩
    have hb6 : Below w5.heap.size w5 w6 := by rw [hw6]; exact below_drewN (Below.refl _ _) nd
    clear hw6
    have hs6 : w.heap.size + 2 ≤ w6.heap.size := Nat.le_trans hs5 hb6.size
    have HXn6 := Lib.hid (HXn5.out.mono hb6 (by omega))
    have HXm6 := Lib.hid (HXm5.out.mono hb6 (by omega))
    have HW6 := Lib.hid (HW5.out.trans (hb6.mono (by omega)))
    clear hb6 HXn5 HXm5 HW5 hs5
    obtain ⟨q0, q1, q2, q3⟩ := HXn6.out
    obtain ⟨p0, p1, p2, p3⟩ := HXm6.out
    go_wp2_with fail
    refine (size_any (d1 : Int) _ (by omega) (by omega)).mono ?_
    rintro e w' ⟨rfl, rfl⟩
    rw [HNZ.out]
    clear q0 q1 q2 q3 p0 p1 p2 p3
    go_upto_region 14 with fail
    go_cut [6] from 79 to 91 (fun x wx => x = .bool true ∧ Below w6.heap.size w6 wx)
    case first =>
      obtain ⟨q0, q1, q2, q3⟩ := HXn6.out
      obtain ⟨p0, p1, p2, p3⟩ := HXm6.out
      have K0 : w6.cell? ⟨w.heap.size, 0, none⟩ = some (.int .u64 (k1 : Int)) ∧ w6.cell? ⟨w.heap.size, 1, none⟩ = some (.int .u32 (c1 : Int)) ∧ w6.cell? ⟨w.heap.size, 2, none⟩ = some (.bool g1) ∧ w6.cell? ⟨w.heap.size, 3, none⟩ = some (.slice x1 d1 cap1) ∧ w6.cell? ⟨w.heap.size + 1, 0, none⟩ = some (.int .u64 (k2 : Int)) ∧ w6.cell? ⟨w.heap.size + 1, 1, none⟩ = some (.int .u32 (c2 : Int)) ∧ w6.cell? ⟨w.heap.size + 1, 2, none⟩ = some (.bool g2) ∧ w6.cell? ⟨w.heap.size + 1, 3, none⟩ = some (.slice x2 d2 cap2) := ⟨q0, q1, q2, q3, p0, p1, p2, p3⟩
      have K1 : w6.drew.cell? ⟨w.heap.size, 0, none⟩ = some (.int .u64 (k1 : Int)) ∧ w6.drew.cell? ⟨w.heap.size, 1, none⟩ = some (.int .u32 (c1 : Int)) ∧ w6.drew.cell? ⟨w.heap.size, 2, none⟩ = some (.bool g1) ∧ w6.drew.cell? ⟨w.heap.size, 3, none⟩ = some (.slice x1 d1 cap1) ∧ w6.drew.cell? ⟨w.heap.size + 1, 0, none⟩ = some (.int .u64 (k2 : Int)) ∧ w6.drew.cell? ⟨w.heap.size + 1, 1, none⟩ = some (.int .u32 (c2 : Int)) ∧ w6.drew.cell? ⟨w.heap.size + 1, 2, none⟩ = some (.bool g2) ∧ w6.drew.cell? ⟨w.heap.size + 1, 3, none⟩ = some (.slice x2 d2 cap2) := K0
      have An := Lib.hid (show IsB w6.drew (.slice x1 d1 cap1) l1 from HVn.out.mono HW6.out.drew (Nat.le_refl _))
      have Am := Lib.hid (show IsB w6.drew (.slice x2 d2 cap2) l2 from HVm.out.mono HW6.out.drew (Nat.le_refl _))
      have hl1 := Lib.hid hlb1
      have hsz := Lib.hid hs6
      go_wp2_with fail
      go_region_held3 (fun wx => wx.cell? ⟨w.heap.size, 0, none⟩ = some (.int .u64 (k1 : Int)) ∧ wx.cell? ⟨w.heap.size, 1, none⟩ = some (.int .u32 (c1 : Int)) ∧ wx.cell? ⟨w.heap.size, 2, none⟩ = some (.bool g1) ∧ wx.cell? ⟨w.heap.size, 3, none⟩ = some (.slice x1 d1 cap1) ∧ wx.cell? ⟨w.heap.size + 1, 0, none⟩ = some (.int .u64 (k2 : Int)) ∧ wx.cell? ⟨w.heap.size + 1, 1, none⟩ = some (.int .u32 (c2 : Int)) ∧ wx.cell? ⟨w.heap.size + 1, 2, none⟩ = some (.bool g2) ∧ wx.cell? ⟨w.heap.size + 1, 3, none⟩ = some (.slice x2 d2 cap2)) (first | exact K1 | exact K0 | exact Ka | exact Kb) (first
        | (go_at_call 15; with_reducible refine (size_any sz _ hb1' hb2').mono ?_; rintro e w' ⟨rfl, rfl⟩; rw [HSZ.out])
        | (go_at_call 17; (with_reducible refine (nsame_any ⟨k1, c1, g1, l1⟩ ⟨k2, c2, g2, l2⟩ (.slice x1 d1 cap1) (.slice x2 d2 cap2) _ ?_ ?_).mono ?_); (first | with_reducible exact An.out | with_reducible exact Bn.out); (first | with_reducible exact Am.out | with_reducible exact Bm.out); rintro e wa ⟨rfl, hba⟩; (first | have hsa := Nat.le_trans hsz.out hba.size | have hsa := Nat.le_trans hsb hba.size); (first | have Ka := keep8 hba hsz.out K1 | have Ka := keep8 hba hsb Kb); (first | (have Bn := Lib.hid (An.out.mono hba (Nat.le_refl _)); have Bm := Lib.hid (Am.out.mono hba (Nat.le_refl _))) | skip))
        | (go_at_call 18; (with_reducible refine (refsame_any ⟨k1, c1, g1, l1⟩ ⟨k2, c2, g2, l2⟩ (.slice x1 d1 cap1) (.slice x2 d2 cap2) _ ?_ ?_ hl1.out).mono ?_); (first | with_reducible exact An.out | with_reducible exact Bn.out); (first | with_reducible exact Am.out | with_reducible exact Bm.out); rintro e wb ⟨rfl, hbb⟩; (first | have hsb := Nat.le_trans hsz.out hbb.size | have hsb := Nat.le_trans hsa hbb.size); (first | have Kb := keep8 hbb hsz.out K1 | have Kb := keep8 hbb hsa Ka); (first | (have Bn := Lib.hid (An.out.mono hbb (Nat.le_refl _)); have Bm := Lib.hid (Am.out.mono hbb (Nat.le_refl _))) | skip)))
      all_goals (go_wp2_with fail; go_meet)
      all_goals exact ⟨rfl, (Below.refl w6.heap.size w6).drew.trans (hba.trans (hbb.mono hba.size))⟩
    case rest =>
    obtain ⟨rfl, hbc⟩ := hcut
    go_wp2
    go_ret
    exact ⟨rfl, HW6.out.trans (hbc.mono (by omega))⟩

theorem needlePuts_all (n m : Ndl) (vn vm : Value) (sz : Int) (w : World) (hn : IsB w vn n.data) (hm : IsB w vm m.data) (hfn : n.fits) (hb1' : -9223372036854775808 ≤ sz) (hb2' : sz ≤ 9223372036854775807) :
    Calls Try.prog 3 #[nval n vn, nval m vm, .int .i64 sz] w fun e w' => e = .returned (.bool true) ∧ Below w.heap.size w w' := by
  by_cases h : 6000 < n.data.length ∨ 6000 < m.data.length
  · exact needlePuts_long n m vn vm sz w hn hm h
  have h1 : n.data.length ≤ 6000 := by omega
  have h2 : m.data.length ≤ 6000 := by omega
  by_cases hq : ncheck n = 0 <;> by_cases hr : 0 ≤ sz ∧ sz ≤ 4096
  · exact needlePuts_10 n m vn vm sz w hn hm hfn h1 h2 hb1' hb2' hq hr
  · exact needlePuts_11 n m vn vm sz w hn hm hfn h1 h2 hb1' hb2' hq hr
  · exact needlePuts_00 n m vn vm sz w hn hm hfn h1 h2 hb1' hb2' hq hr
  · exact needlePuts_01 n m vn vm sz w hn hm hfn h1 h2 hb1' hb2' hq hr

end Go.Proofs.Yteibolajnjdpmaa
