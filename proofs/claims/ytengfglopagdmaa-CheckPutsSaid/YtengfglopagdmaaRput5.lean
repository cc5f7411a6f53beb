/- The document's answers for layer 5, by contracts: the bytes of a checkpoint. -/
import Derived.Test.YtengfglopagdmaaCput
import Derived.Test.YtengfglopagdmaaRef05
import Derived.Test.YtengfglopagdmaaRef02
namespace Go.Proofs.Ytengfglopagdmaa
open Go.RowKit Go.Cor

set_option maxRecDepth 100000 in
set_option maxHeartbeats 4000000 in
theorem rput_any (c : Chk) (v : Value) (w : World) (hv : IsP w v c.l) (hf : ∀ p ∈ c.l, p.fits) (h : cright c = 0) :
    Calls Try.prog 12 #[cval c v] w fun e w' => ∃ v', e = .returned v' ∧ w'.ownsRow w.heap.size 5 1 v' (cbytes c).length (bvs (cbytes c)) ∧ Below w.heap.size w w' := by
  obtain ⟨i0, hi, hz0, hz1, hz2⟩ := info_parts Try.infoU8
  obtain ⟨h1, h2, h3⟩ := cright_ok h
  have hh := hOk_fits h2
  obtain ⟨a, b, d, ps⟩ := c
  obtain ⟨a, rfl⟩ := Int.eq_ofNat_of_zero_le (show 0 ≤ a by have := hh.1; simp only at this; omega)
  obtain ⟨b, rfl⟩ := Int.eq_ofNat_of_zero_le (show 0 ≤ b by have := hh.2.2.1; simp only at this; omega)
  obtain ⟨d, rfl⟩ := Int.eq_ofNat_of_zero_le (show 0 ≤ d by have := hh.2.2.2.2.1; simp only at this; omega)
  have ha : a ≤ 65535 := by have := hh.2.1; simp only at this; omega
  have hb : b ≤ 2147483647 := by have := hh.2.2.2.1; simp only at this; omega
  have hd : d ≤ 16777216 := by have := hh.2.2.2.2.2; simp only at this; omega
  have HH := Lib.hid (show chead ⟨(a : Int), (b : Int), (d : Int), ps⟩ = hpre a b d ps.length 5 from by rw [hpre_head]; simp [chead])
  have HL := Lib.hid (length_cbytes ⟨(a : Int), (b : Int), (d : Int), ps⟩)
  have H3 := Lib.hid (show lOk ps = true from h3)
  have HF := Lib.hid (show ∀ p ∈ ps, p.fits from hf)
  have HV := Lib.hid (show IsP w v ps from hv)
  obtain ⟨N, hN⟩ : ∃ N, ps.length = N := ⟨_, rfl⟩
  obtain ⟨x, cap, rfl, hlc, hcm⟩ := IsP.at_len (ps := ps) hv hN
  have hN4 : N ≤ 4096 := by rw [← hN]; exact h1
  simp only [hN] at HH HL
  obtain ⟨C, hC⟩ : ∃ C, C = cbytes ⟨(a : Int), (b : Int), (d : Int), ps⟩ := ⟨_, rfl⟩
  rw [← hC] at HL
  rw [← hC]
  have HC := Lib.hid hC
  have HN := Lib.hid hN
  clear hv hf h h1 h2 h3 hh hN hC
  have hba : Below w.heap.size w (w.alloc (.cells #[.int .i64 (a : Int), .int .i64 (b : Int), .int .i64 (d : Int), .slice x N cap] 24)) := (Below.refl _ _).alloc (Nat.le_refl _) _
  have HX0 := Lib.hid (BoxC.new w (a : Int) (b : Int) (d : Int) (.slice x N cap) 24)
  have hs0 : w.heap.size + 1 ≤ (w.alloc (.cells #[.int .i64 (a : Int), .int .i64 (b : Int), .int .i64 (d : Int), .slice x N cap] 24)).heap.size := by simp
  have HB0 := Lib.hid hba
  obtain ⟨w0, hw0⟩ : ∃ w0, w0 = w.alloc (.cells #[.int .i64 (a : Int), .int .i64 (b : Int), .int .i64 (d : Int), .slice x N cap] 24) := ⟨_, rfl⟩
  rw [← hw0] at HX0 hs0 HB0
  have HW0 := Lib.hid hw0
  clear hba hw0
  go_enter Try.func12, Try.ntmps12
  go_upto_region 1 with fail
  rw [← HW0.out]
  clear HW0
  go_cut [3] from 7 to 12 (fun q wx => wx.ownsRow (w.heap.size + 1) 5 1 q 8 (bvs (hpre a b d N 2)) ∧ Below w0.heap.size w0 wx)
  case first =>
    have K0 : w0.cell? ⟨w.heap.size, 0, none⟩ = some (.int .i64 (a : Int)) := HX0.out.1
    have K1 : w0.drew.cell? ⟨w.heap.size, 0, none⟩ = some (.int .i64 (a : Int)) := K0
    have hwa : IntKind.u64.wrap (a : Int) = (a : Int) := by rw [IntKind.wrap_u64]; omega
    go_wp2_with fail
    refine wp_region_noPanic ?_
    refine wp_region_held_drew (S := (fun wx => wx.cell? ⟨w.heap.size, 0, none⟩ = some (.int .i64 (a : Int)))) (by kernel_rfl) (K1) (fun hHeld => ?_)
    refine wpAnyH_take (i := 1) (v := ?_) rfl (by kernel_rfl) (by kernel_rfl) (by kernel_rfl) (fun _ _ _ h => h) (Or.inl ⟨by rfl, ?_⟩) (by assumption) ?_
    rotate_left 1
    · intro w hSw
      (try dsimp only at hSw)
      go_simp
      all_goals (with_reducible rfl)
    try simp only [Act.put, List.getElem_toArray, List.getElem_cons_zero, List.getElem_cons_succ, List.setIfInBounds_toArray, List.set_cons_zero, List.set_cons_succ]
    refine wpAnyH_take (i := 2) (v := ?_) rfl (by kernel_rfl) (by kernel_rfl) (by kernel_rfl) (fun _ _ _ h => h) (Or.inl ⟨by rfl, ?_⟩) (by assumption) ?_
    rotate_left 1
    · intro w hSw
      (try dsimp only at hSw)
      go_simp
      all_goals (with_reducible rfl)
    try simp only [Act.put, List.getElem_toArray, List.getElem_cons_zero, List.getElem_cons_succ, List.setIfInBounds_toArray, List.set_cons_zero, List.set_cons_succ]
    refine wpAnyH_take (i := 3) (v := ?_) rfl (by kernel_rfl) (by kernel_rfl) (by kernel_rfl) (fun _ _ _ h => h) (Or.inl ⟨by rfl, ?_⟩) (by assumption) ?_
    rotate_left 1
    · intro w hSw
      (try dsimp only at hSw)
      go_simp
      all_goals (with_reducible rfl)
    try simp only [Act.put, List.getElem_toArray, List.getElem_cons_zero, List.getElem_cons_succ, List.setIfInBounds_toArray, List.set_cons_zero, List.set_cons_succ]
    refine wpAnyH_ready (rs := [0]) (by kernel_rfl) (by simp) ?_
    refine AllReadyH.cons rfl (fun K hK => ?_) AllReadyH.nil
    go_simp
    go_at_call 23
    refine (refnum5_any 1128811344 4 _ (by decide) (by decide)).mono ?_
    rintro e wa ⟨va, rfl, howna, hba⟩
    have Ka := (hba.cell (p := ⟨w.heap.size, 0, none⟩) (show w.heap.size < w0.heap.size from hs0)).trans K1
    have hsa : w.heap.size < wa.heap.size := Nat.lt_of_lt_of_le hs0 hba.size
    go_wp2_with fail
    refine hK.out _ _ (Ka) (fun hHeld => ?_)
    clear hK K
    try simp only [Act.put, List.getElem_toArray, List.getElem_cons_zero, List.getElem_cons_succ, List.setIfInBounds_toArray, List.set_cons_zero, List.set_cons_succ]
    refine wpAnyH_ready (rs := [4]) (by kernel_rfl) (by simp) ?_
    refine AllReadyH.cons rfl (fun K hK => ?_) AllReadyH.nil
    go_simp
    go_at_call 23
    refine (refnum5_any a 4 _ (by omega) (by decide)).mono ?_
    rintro e wb ⟨vb, rfl, hownb, hbb⟩
    have Kb := (hbb.cell (p := ⟨w.heap.size, 0, none⟩) hsa).trans Ka
    have HOb := Lib.hid (ownsRow_below (ownsRow_base howna (show w.heap.size + 1 ≤ w0.drew.heap.size from hs0)) hbb (Nat.le_refl _))
    have HNb := Lib.hid (IsB.own hownb (length_le _ _).symm)
    have hsb : w.heap.size + 1 ≤ wb.heap.size := Nat.le_trans hsa hbb.size
    have HLb := Lib.hid ((((Below.refl w0.heap.size w0).drew).trans hba).trans (hbb.mono hba.size))
    go_wp2_with fail
    refine hK.out _ _ (Kb) (fun hHeld => ?_)
    clear hK K
    try simp only [Act.put, List.getElem_toArray, List.getElem_cons_zero, List.getElem_cons_succ, List.setIfInBounds_toArray, List.set_cons_zero, List.set_cons_succ]
    refine wpAnyH_ready (rs := [5]) (by kernel_rfl) (by simp) ?_
    refine AllReadyH.cons rfl (fun K hK => ?_) AllReadyH.nil
    refine step_append_B (by rfl) (.tmp 7) (.tmp 11) 27 rfl w0.heap.size 5 i0 Try.underlying27 hi hz0 hz1 hz2 _ (le 1128811344 4) _ rfl (ownsRow_below howna hbb (Nat.le_refl _)) (length_le _ _).symm _ (le a 4) rfl HNb.out (by simp [length_le]) (Nat.le_trans (show w0.heap.size ≤ wa.heap.size from hba.size) hbb.size) ?_
    intro ve we howne hbe
    have Ke := (hbe.cell (p := ⟨w.heap.size, 0, none⟩) hs0).trans Kb
    have HOe := Lib.hid (show we.ownsRow (w.heap.size + 1) 5 1 ve 8 (bvs (hpre a b d N 2)) from ownsRow_base howne hs0)
    have HLe := Lib.hid (HLb.out.trans hbe)
    refine hK.out _ _ (Ke) (fun hHeld => ?_)
    clear hK K
    try simp only [Act.put, List.getElem_toArray, List.getElem_cons_zero, List.getElem_cons_succ, List.setIfInBounds_toArray, List.set_cons_zero, List.set_cons_succ]
    refine wpAnyH_take (i := 6) (v := ?_) rfl (by kernel_rfl) (by kernel_rfl) (by kernel_rfl) (fun _ _ _ h => h) (Or.inl ⟨by rfl, ?_⟩) (by assumption) ?_
    rotate_left 1
    · intro w hSw
      (try dsimp only at hSw)
      go_simp
      all_goals (with_reducible rfl)
    try simp only [Act.put, List.getElem_toArray, List.getElem_cons_zero, List.getElem_cons_succ, List.setIfInBounds_toArray, List.set_cons_zero, List.set_cons_succ]
    refine wpAnyH_done (by kernel_rfl) (NoPanic.normal ?_) _
    go_wp2_with fail
    go_meet
    exact ⟨HOe.out, HLe.out⟩
  case rest =>
  obtain ⟨hO1, hb1⟩ := hcut
  have hs1 : w.heap.size + 1 ≤ wc.heap.size := Nat.le_trans hs0 hb1.size
  have HX1 := Lib.hid (HX0.out.mono hb1 hs0)
  have HB1 := Lib.hid (HB0.out.trans (hb1.mono (Nat.le_of_succ_le hs0)))
  have HO1 := Lib.hid hO1
  clear hO1 hb1 HX0 HB0 hs0
  obtain ⟨q0, q1, q2, q3⟩ := HX1.out
  go_wp2_with fail
  refine (refnum5_any b 4 _ (by omega) (by decide)).mono ?_
  rintro e w2 ⟨v2, rfl, hown2, hb2⟩
  have hs2 : w.heap.size + 1 ≤ w2.heap.size := Nat.le_trans hs1 hb2.size
  have HX2 := Lib.hid (HX1.out.mono hb2 hs1)
  have HB2 := Lib.hid (HB1.out.trans (hb2.mono (Nat.le_of_succ_le hs1)))
  have HO2 := Lib.hid (ownsRow_below HO1.out hb2 (Nat.le_refl _))
  have HN2 := Lib.hid (IsB.own hown2 (length_le _ _).symm)
  clear hown2 hb2 q0 q1 q2 q3 HX1 HO1 HB1 hs1
  go_wp2_with (at_builtin; refine wpList_append_B (by rfl) _ _ 27 rfl (w.heap.size + 1) 5 i0 Try.underlying27 hi hz0 hz1 hz2 _ (hpre a b d N 2) _ rfl HO2.out (by rw [length_hpre]) _ (le b 4) rfl HN2.out (by rw [length_hpre, length_le]; omega) hs2 ?_)
  intro v3 w3 hown3 hb3
  have hs3 : w.heap.size + 1 ≤ w3.heap.size := Nat.le_trans hs2 hb3.size
  have HX3 := Lib.hid (HX2.out.mono hb3 (Nat.lt_succ_self _))
  have HB3 := Lib.hid (HB2.out.trans (hb3.mono (Nat.le_succ _)))
  have HO3 := Lib.hid (show w3.ownsRow (w.heap.size + 1) 5 1 v3 (4 * 3) (bvs (hpre a b d N 3)) from by
    have e : (hpre a b d N 2).length + (le b 4).length = 4 * 3 := by rw [length_hpre, length_le]
    rw [e] at hown3
    exact hown3)
  clear hown3 hb3 HX2 HO2 HB2 hs2
  obtain ⟨q0, q1, q2, q3⟩ := HX3.out
  go_wp2_with fail
  refine (refnum5_any d 4 _ (by omega) (by decide)).mono ?_
  rintro e w4 ⟨v4, rfl, hown4, hb4⟩
  have hs4 : w.heap.size + 1 ≤ w4.heap.size := Nat.le_trans hs3 hb4.size
  have HX4 := Lib.hid (HX3.out.mono hb4 hs3)
  have HB4 := Lib.hid (HB3.out.trans (hb4.mono (Nat.le_of_succ_le hs3)))
  have HO4 := Lib.hid (ownsRow_below HO3.out hb4 (Nat.le_refl _))
  have HN4 := Lib.hid (IsB.own hown4 (length_le _ _).symm)
  clear hown4 hb4 q0 q1 q2 q3 HX3 HO3 HB3 hs3
  go_wp2_with (at_builtin; refine wpList_append_B (by rfl) _ _ 27 rfl (w.heap.size + 1) 5 i0 Try.underlying27 hi hz0 hz1 hz2 _ (hpre a b d N 3) _ rfl HO4.out (by rw [length_hpre]) _ (le d 4) rfl HN4.out (by rw [length_hpre, length_le]; omega) hs4 ?_)
  intro v5 w5 hown5 hb5
  have hs5 : w.heap.size + 1 ≤ w5.heap.size := Nat.le_trans hs4 hb5.size
  have HX5 := Lib.hid (HX4.out.mono hb5 (Nat.lt_succ_self _))
  have HB5 := Lib.hid (HB4.out.trans (hb5.mono (Nat.le_succ _)))
  have HO5 := Lib.hid (show w5.ownsRow (w.heap.size + 1) 5 1 v5 (4 * 4) (bvs (hpre a b d N 4)) from by
    have e : (hpre a b d N 3).length + (le d 4).length = 4 * 4 := by rw [length_hpre, length_le]
    rw [e] at hown5
    exact hown5)
  clear hown5 hb5 HX4 HO4 HB4 hs4
  obtain ⟨q0, q1, q2, q3⟩ := HX5.out
  go_wp2_with fail
  refine (refnum5_any N 4 _ (by omega) (by decide)).mono ?_
  rintro e w6 ⟨v6, rfl, hown6, hb6⟩
  have hs6 : w.heap.size + 1 ≤ w6.heap.size := Nat.le_trans hs5 hb6.size
  have HX6 := Lib.hid (HX5.out.mono hb6 hs5)
  have HB6 := Lib.hid (HB5.out.trans (hb6.mono (Nat.le_of_succ_le hs5)))
  have HO6 := Lib.hid (ownsRow_below HO5.out hb6 (Nat.le_refl _))
  have HN6 := Lib.hid (IsB.own hown6 (length_le _ _).symm)
  clear hown6 hb6 q0 q1 q2 q3 HX5 HO5 HB5 hs5
  go_wp2_with (at_builtin; refine wpList_append_B (by rfl) _ _ 27 rfl (w.heap.size + 1) 5 i0 Try.underlying27 hi hz0 hz1 hz2 _ (hpre a b d N 4) _ rfl HO6.out (by rw [length_hpre]) _ (le N 4) rfl HN6.out (by rw [length_hpre, length_le]; omega) hs6 ?_)
  intro v7 w7 hown7 hb7
  have hs7 : w.heap.size + 1 ≤ w7.heap.size := Nat.le_trans hs6 hb7.size
  have HX7 := Lib.hid (HX6.out.mono hb7 (Nat.lt_succ_self _))
  have HB7 := Lib.hid (HB6.out.trans (hb7.mono (Nat.le_succ _)))
  have HO7 := Lib.hid (show w7.ownsRow (w.heap.size + 1) 5 1 v7 (4 * 5) (bvs (hpre a b d N 5)) from by
    have e : (hpre a b d N 4).length + (le N 4).length = 4 * 5 := by rw [length_hpre, length_le]
    rw [e] at hown7
    exact hown7)
  clear hown7 hb7 HX6 HO6 HB6 hs6
  obtain ⟨HXE, HOE, HBE, hsE⟩ := And.intro HX7 (And.intro HO7 (And.intro HB7 hs7))
  obtain ⟨q0, q1, q2, q3⟩ := HXE.out
  go_wp2_with fail
  clear q0 q1 q2 q3
  go_loopw [3, 4] (fun o k wr => ∃ i : Nat, i ≤ N ∧ k = .int .i64 i ∧ Hid (wr.ownsRow (w.heap.size + 1) 5 1 o (20 + 24 * i) (bvs (hpre a b d N 5 ++ catP (ps.take i)))) ∧ Hid (BoxC wr w.heap.size (a : Int) (b : Int) (d : Int) (.slice x N cap)) ∧ Hid (Below w.heap.size w wr) ∧ w.heap.size + 1 ≤ wr.heap.size) (fun _ k _ => N - (intOf k).toNat)
  case atStart => exact ⟨0, by omega, rfl, Lib.hid (by have := HOE.out; simpa [catP] using this), HXE, HBE, hsE⟩
  case round =>
    clear HOE HXE HBE hsE
    obtain ⟨i, hiN, rfl, HO4, HX4, HB4, hs4⟩ := hrel
    obtain ⟨q0, q1, q2, q3⟩ := HX4.out
    by_cases hlt2 : i < N
    · have HV4 := Lib.hid (HV.out.mono HB4.out (Nat.le_refl _))
      obtain ⟨p, hp⟩ : ∃ p, pat ps i = p := ⟨_, rfl⟩
      obtain ⟨bp, op, hidx, hcell⟩ := indexAt_P HV4.out 22 50 Try.underlying22 Try.sizePosR i (by rw [HN.out]; exact hlt2)
      rw [hp] at hcell
      have hfp : p.fits := by rw [← hp]; exact HF.out _ (List.mem_of_getElem? (get_pat (by rw [HN.out]; exact hlt2)))
      have hcp : pcan p = true := by
        have := lOk_at H3.out (i := i) (by rw [HN.out]; exact hlt2)
        unfold pOk at this
        rw [Bool.and_eq_true, hp] at this
        exact this.1
      have HCT := Lib.hid (show catP (ps.take (i + 1)) = catP (ps.take i) ++ pbytes p from by rw [catP_take (by rw [HN.out]; exact hlt2), hp])
      have hpf := pcan_fits hcp
      obtain ⟨key, off, len, cookie, gone⟩ := p
      obtain ⟨oo, rfl⟩ := Int.eq_ofNat_of_zero_le hpf.1
      obtain ⟨ll, rfl⟩ := Int.eq_ofNat_of_zero_le hpf.2.2.1
      have hoo : oo ≤ 16777216 := by have := hpf.2.1; simp only at this; omega
      have hll : ll ≤ 4096 := by have := hpf.2.2.2.1; simp only at this; omega
      have hkey : key < 18446744073709551616 := hfp.1
      have hcook : cookie < 4294967296 := hfp.2.1
      have HLT := Lib.hid (show (hpre a b d N 5 ++ catP (ps.take i)).length = 20 + 24 * i from by rw [List.length_append, length_hpre, length_catP, List.length_take, HN.out]; omega)
      have HPB := Lib.hid (show pbytes ⟨key, (oo : Int), (ll : Int), cookie, gone⟩ = le key 8 ++ (le oo 4 ++ (le ll 4 ++ (le cookie 4 ++ le (flagN gone) 4))) from by simp [pbytes])
      obtain ⟨X, hX⟩ : ∃ X, X = hpre a b d N 5 ++ catP (ps.take i) := ⟨_, rfl⟩
      rw [← hX] at HO4 HLT
      have HXX := Lib.hid hX
      obtain ⟨k0, k1, k2, k3, k4⟩ := hcell
      simp only at k0 k1 k2 k3 k4
      clear hp hX hfp hcp hpf
      have hbA : Below wr.heap.size wr (wr.alloc (.cells #[.int .u64 (key : Int), .int .i64 (oo : Int), .int .i64 (ll : Int), .int .u32 (cookie : Int), .bool gone] 50)) := (Below.refl _ _).alloc (Nat.le_refl _) _
      have HPA := Lib.hid (PBox.new wr key cookie (oo : Int) (ll : Int) gone 50)
      have hgA : wr.heap.size < (wr.alloc (.cells #[.int .u64 (key : Int), .int .i64 (oo : Int), .int .i64 (ll : Int), .int .u32 (cookie : Int), .bool gone] 50)).heap.size := by simp
      have hsA : w.heap.size + 1 ≤ (wr.alloc (.cells #[.int .u64 (key : Int), .int .i64 (oo : Int), .int .i64 (ll : Int), .int .u32 (cookie : Int), .bool gone] 50)).heap.size := Nat.le_trans hs4 hbA.size
      have HXA := Lib.hid (HX4.out.mono hbA hs4)
      have HBA := Lib.hid (HB4.out.trans (hbA.mono (Nat.le_of_succ_le hs4)))
      have HOA := Lib.hid (ownsRow_below HO4.out hbA (Nat.le_refl _))
      have hap : u3.ownBlock ≠ some wr.heap.size := fun e => by
        have := (HO4.out.lt _ e).2
        omega
      clear hbA HX4 HB4 HO4 hs4 HV4
      cases gone with
      | false =>
        obtain ⟨p0, p1, p2, p3, p4⟩ := HPA.out
        go_wp2_with fail
        refine (refnum5_any key 8 _ (by omega) (by decide)).mono ?_
        rintro e wn1 ⟨vn1, rfl, hown1, hb1⟩
        have hs1 : w.heap.size + 1 ≤ wn1.heap.size := Nat.le_trans hsA hb1.size
        have hg1 : wr.heap.size < wn1.heap.size := Nat.lt_of_lt_of_le hgA hb1.size
        have HX1 := Lib.hid (HXA.out.mono hb1 hsA)
        have HP1 := Lib.hid (HPA.out.mono hb1 hgA)
        have HB1 := Lib.hid (HBA.out.trans (hb1.mono (Nat.le_of_succ_le hsA)))
        have HO1 := Lib.hid (ownsRow_below HOA.out hb1 (Nat.le_refl _))
        have HN1 := Lib.hid (IsB.own hown1 (length_le _ _).symm)
        clear hown1 hb1 p0 p1 p2 p3 p4 HXA HOA HBA hsA HPA hgA k0 k1 k2 k3 k4 hidx q0 q1 q2 q3
        go_wp2_with (at_builtin; refine wpList_append_B2 (by rfl) _ _ 27 rfl (w.heap.size + 1) 5 i0 Try.underlying27 hi hz0 hz1 hz2 _ X _ rfl HO1.out HLT.out.symm _ (le key 8) rfl HN1.out (by rw [HLT.out, length_le]; omega) hs1 ?_)
        intro v2 wn2 hown2 hb2 hgr2 hbl2
        have hs2 : w.heap.size + 1 ≤ wn2.heap.size := Nat.le_trans hs1 hb2.size
        have hg2 : wr.heap.size < wn2.heap.size := Nat.lt_of_lt_of_le hg1 hb2.size
        have hap2 := apart_of hbl2 hap hg1
        have HX2 := Lib.hid (HX1.out.mono hb2 (Nat.lt_succ_self _))
        have HP2 := Lib.hid (HP1.out.grown hgr2 hap)
        have HB2 := Lib.hid (HB1.out.trans (hb2.mono (Nat.le_succ _)))
        obtain ⟨X1, hX1⟩ : ∃ Z, Z = X ++ le key 8 := ⟨_, rfl⟩
        have HLX1 := Lib.hid (show X1.length = 20 + 24 * i + 8 from by rw [hX1, List.length_append, HLT.out, length_le])
        have HO2 := Lib.hid (show wn2.ownsRow (w.heap.size + 1) 5 1 v2 (20 + 24 * i + 8) (bvs X1) from by
          have e : X.length + (le key 8).length = 20 + 24 * i + 8 := by rw [HLT.out, length_le]
          rw [e, ← hX1] at hown2
          exact hown2)
        have HXS1 := Lib.hid hX1
        clear hown2 hb2 hgr2 hbl2 HX1 HO1 HB1 hs1 HP1 hg1 hX1 hap
        obtain ⟨p0, p1, p2, p3, p4⟩ := HP2.out
        go_wp2_with fail
        refine (refnum5_any oo 4 _ (by omega) (by decide)).mono ?_
        rintro e wn3 ⟨vn3, rfl, hown3, hb3⟩
        have hs3 : w.heap.size + 1 ≤ wn3.heap.size := Nat.le_trans hs2 hb3.size
        have hg3 : wr.heap.size < wn3.heap.size := Nat.lt_of_lt_of_le hg2 hb3.size
        have HX3 := Lib.hid (HX2.out.mono hb3 hs2)
        have HP3 := Lib.hid (HP2.out.mono hb3 hg2)
        have HB3 := Lib.hid (HB2.out.trans (hb3.mono (Nat.le_of_succ_le hs2)))
        have HO3 := Lib.hid (ownsRow_below HO2.out hb3 (Nat.le_refl _))
        have HN3 := Lib.hid (IsB.own hown3 (length_le _ _).symm)
        clear hown3 hb3 p0 p1 p2 p3 p4 HX2 HO2 HB2 hs2 HP2 hg2
        go_wp2_with (at_builtin; refine wpList_append_B2 (by rfl) _ _ 27 rfl (w.heap.size + 1) 5 i0 Try.underlying27 hi hz0 hz1 hz2 _ X1 _ rfl HO3.out HLX1.out.symm _ (le oo 4) rfl HN3.out (by rw [HLX1.out, length_le]; omega) hs3 ?_)
        intro v4 wn4 hown4 hb4 hgr4 hbl4
        have hs4 : w.heap.size + 1 ≤ wn4.heap.size := Nat.le_trans hs3 hb4.size
        have hg4 : wr.heap.size < wn4.heap.size := Nat.lt_of_lt_of_le hg3 hb4.size
        have hap4 := apart_of hbl4 hap2 hg3
        have HX4 := Lib.hid (HX3.out.mono hb4 (Nat.lt_succ_self _))
        have HP4 := Lib.hid (HP3.out.grown hgr4 hap2)
        have HB4 := Lib.hid (HB3.out.trans (hb4.mono (Nat.le_succ _)))
        obtain ⟨X2, hX2⟩ : ∃ Z, Z = X1 ++ le oo 4 := ⟨_, rfl⟩
        have HLX2 := Lib.hid (show X2.length = 20 + 24 * i + 12 from by rw [hX2, List.length_append, HLX1.out, length_le])
        have HO4 := Lib.hid (show wn4.ownsRow (w.heap.size + 1) 5 1 v4 (20 + 24 * i + 12) (bvs X2) from by
          have e : X1.length + (le oo 4).length = 20 + 24 * i + 12 := by rw [HLX1.out, length_le]
          rw [e, ← hX2] at hown4
          exact hown4)
        have HXS2 := Lib.hid hX2
        clear hown4 hb4 hgr4 hbl4 HX3 HO3 HB3 hs3 HP3 hg3 hX2 hap2
        obtain ⟨p0, p1, p2, p3, p4⟩ := HP4.out
        go_wp2_with fail
        refine (refnum5_any ll 4 _ (by omega) (by decide)).mono ?_
        rintro e wn5 ⟨vn5, rfl, hown5, hb5⟩
        have hs5 : w.heap.size + 1 ≤ wn5.heap.size := Nat.le_trans hs4 hb5.size
        have hg5 : wr.heap.size < wn5.heap.size := Nat.lt_of_lt_of_le hg4 hb5.size
        have HX5 := Lib.hid (HX4.out.mono hb5 hs4)
        have HP5 := Lib.hid (HP4.out.mono hb5 hg4)
        have HB5 := Lib.hid (HB4.out.trans (hb5.mono (Nat.le_of_succ_le hs4)))
        have HO5 := Lib.hid (ownsRow_below HO4.out hb5 (Nat.le_refl _))
        have HN5 := Lib.hid (IsB.own hown5 (length_le _ _).symm)
        clear hown5 hb5 p0 p1 p2 p3 p4 HX4 HO4 HB4 hs4 HP4 hg4
        go_wp2_with (at_builtin; refine wpList_append_B2 (by rfl) _ _ 27 rfl (w.heap.size + 1) 5 i0 Try.underlying27 hi hz0 hz1 hz2 _ X2 _ rfl HO5.out HLX2.out.symm _ (le ll 4) rfl HN5.out (by rw [HLX2.out, length_le]; omega) hs5 ?_)
        intro v6 wn6 hown6 hb6 hgr6 hbl6
        have hs6 : w.heap.size + 1 ≤ wn6.heap.size := Nat.le_trans hs5 hb6.size
        have hg6 : wr.heap.size < wn6.heap.size := Nat.lt_of_lt_of_le hg5 hb6.size
        have hap6 := apart_of hbl6 hap4 hg5
        have HX6 := Lib.hid (HX5.out.mono hb6 (Nat.lt_succ_self _))
        have HP6 := Lib.hid (HP5.out.grown hgr6 hap4)
        have HB6 := Lib.hid (HB5.out.trans (hb6.mono (Nat.le_succ _)))
        obtain ⟨X3, hX3⟩ : ∃ Z, Z = X2 ++ le ll 4 := ⟨_, rfl⟩
        have HLX3 := Lib.hid (show X3.length = 20 + 24 * i + 16 from by rw [hX3, List.length_append, HLX2.out, length_le])
        have HO6 := Lib.hid (show wn6.ownsRow (w.heap.size + 1) 5 1 v6 (20 + 24 * i + 16) (bvs X3) from by
          have e : X2.length + (le ll 4).length = 20 + 24 * i + 16 := by rw [HLX2.out, length_le]
          rw [e, ← hX3] at hown6
          exact hown6)
        have HXS3 := Lib.hid hX3
        clear hown6 hb6 hgr6 hbl6 HX5 HO5 HB5 hs5 HP5 hg5 hX3 hap4
        obtain ⟨p0, p1, p2, p3, p4⟩ := HP6.out
        go_wp2_with fail
        refine (refnum5_any cookie 4 _ (by omega) (by decide)).mono ?_
        rintro e wn7 ⟨vn7, rfl, hown7, hb7⟩
        have hs7 : w.heap.size + 1 ≤ wn7.heap.size := Nat.le_trans hs6 hb7.size
        have hg7 : wr.heap.size < wn7.heap.size := Nat.lt_of_lt_of_le hg6 hb7.size
        have HX7 := Lib.hid (HX6.out.mono hb7 hs6)
        have HP7 := Lib.hid (HP6.out.mono hb7 hg6)
        have HB7 := Lib.hid (HB6.out.trans (hb7.mono (Nat.le_of_succ_le hs6)))
        have HO7 := Lib.hid (ownsRow_below HO6.out hb7 (Nat.le_refl _))
        have HN7 := Lib.hid (IsB.own hown7 (length_le _ _).symm)
        clear hown7 hb7 p0 p1 p2 p3 p4 HX6 HO6 HB6 hs6 HP6 hg6
        go_wp2_with (at_builtin; refine wpList_append_B2 (by rfl) _ _ 27 rfl (w.heap.size + 1) 5 i0 Try.underlying27 hi hz0 hz1 hz2 _ X3 _ rfl HO7.out HLX3.out.symm _ (le cookie 4) rfl HN7.out (by rw [HLX3.out, length_le]; omega) hs7 ?_)
        intro v8 wn8 hown8 hb8 hgr8 hbl8
        have hs8 : w.heap.size + 1 ≤ wn8.heap.size := Nat.le_trans hs7 hb8.size
        have hg8 : wr.heap.size < wn8.heap.size := Nat.lt_of_lt_of_le hg7 hb8.size
        have hap8 := apart_of hbl8 hap6 hg7
        have HX8 := Lib.hid (HX7.out.mono hb8 (Nat.lt_succ_self _))
        have HP8 := Lib.hid (HP7.out.grown hgr8 hap6)
        have HB8 := Lib.hid (HB7.out.trans (hb8.mono (Nat.le_succ _)))
        obtain ⟨X4, hX4⟩ : ∃ Z, Z = X3 ++ le cookie 4 := ⟨_, rfl⟩
        have HLX4 := Lib.hid (show X4.length = 20 + 24 * i + 20 from by rw [hX4, List.length_append, HLX3.out, length_le])
        have HO8 := Lib.hid (show wn8.ownsRow (w.heap.size + 1) 5 1 v8 (20 + 24 * i + 20) (bvs X4) from by
          have e : X3.length + (le cookie 4).length = 20 + 24 * i + 20 := by rw [HLX3.out, length_le]
          rw [e, ← hX4] at hown8
          exact hown8)
        have HXS4 := Lib.hid hX4
        clear hown8 hb8 hgr8 hbl8 HX7 HO7 HB7 hs7 HP7 hg7 hX4 hap6
        obtain ⟨p0, p1, p2, p3, p4⟩ := HP8.out
        go_wp2_with fail
        refine (refnum5_any 0 4 _ (by omega) (by decide)).mono ?_
        rintro e wn9 ⟨vn9, rfl, hown9, hb9⟩
        have hs9 : w.heap.size + 1 ≤ wn9.heap.size := Nat.le_trans hs8 hb9.size
        have hg9 : wr.heap.size < wn9.heap.size := Nat.lt_of_lt_of_le hg8 hb9.size
        have HX9 := Lib.hid (HX8.out.mono hb9 hs8)
        have HP9 := Lib.hid (HP8.out.mono hb9 hg8)
        have HB9 := Lib.hid (HB8.out.trans (hb9.mono (Nat.le_of_succ_le hs8)))
        have HO9 := Lib.hid (ownsRow_below HO8.out hb9 (Nat.le_refl _))
        have HN9 := Lib.hid (IsB.own hown9 (length_le _ _).symm)
        clear hown9 hb9 p0 p1 p2 p3 p4 HX8 HO8 HB8 hs8 HP8 hg8
        go_wp2_with (at_builtin; refine wpList_append_B2 (by rfl) _ _ 27 rfl (w.heap.size + 1) 5 i0 Try.underlying27 hi hz0 hz1 hz2 _ X4 _ rfl HO9.out HLX4.out.symm _ (le 0 4) rfl HN9.out (by rw [HLX4.out, length_le]; omega) hs9 ?_)
        intro v10 wn10 hown10 hb10 hgr10 hbl10
        have hs10 : w.heap.size + 1 ≤ wn10.heap.size := Nat.le_trans hs9 hb10.size
        have hg10 : wr.heap.size < wn10.heap.size := Nat.lt_of_lt_of_le hg9 hb10.size
        have hap10 := apart_of hbl10 hap8 hg9
        have HX10 := Lib.hid (HX9.out.mono hb10 (Nat.lt_succ_self _))
        have HP10 := Lib.hid (HP9.out.grown hgr10 hap8)
        have HB10 := Lib.hid (HB9.out.trans (hb10.mono (Nat.le_succ _)))
        obtain ⟨X5, hX5⟩ : ∃ Z, Z = X4 ++ le 0 4 := ⟨_, rfl⟩
        have HLX5 := Lib.hid (show X5.length = 20 + 24 * i + 24 from by rw [hX5, List.length_append, HLX4.out, length_le])
        have HO10 := Lib.hid (show wn10.ownsRow (w.heap.size + 1) 5 1 v10 (20 + 24 * i + 24) (bvs X5) from by
          have e : X4.length + (le 0 4).length = 20 + 24 * i + 24 := by rw [HLX4.out, length_le]
          rw [e, ← hX5] at hown10
          exact hown10)
        have HXS5 := Lib.hid hX5
        clear hown10 hb10 hgr10 hbl10 HX9 HO9 HB9 hs9 HP9 hg9 hX5 hap8
        have HOF := Lib.hid (show wn10.ownsRow (w.heap.size + 1) 5 1 v10 (20 + 24 * (i + 1)) (bvs (hpre a b d N 5 ++ catP (ps.take (i + 1)))) from by
          have e : hpre a b d N 5 ++ catP (ps.take (i + 1)) = X5 := by
            rw [HCT.out, ← List.append_assoc, ← HXX.out, HPB.out, HXS5.out, HXS4.out, HXS3.out, HXS2.out, HXS1.out]
            simp [flagN]
          rw [e, show 20 + 24 * (i + 1) = 20 + 24 * i + 24 from by omega]
          exact HO10.out)
        go_wp2
        go_roundw
        case rel => exact ⟨i + 1, by omega, by go_num, HOF, HX10, HB10, hs10⟩
        case measure => simp [intOf]; omega
      | true =>
        obtain ⟨p0, p1, p2, p3, p4⟩ := HPA.out
        go_wp2_with fail
        refine (refnum5_any key 8 _ (by omega) (by decide)).mono ?_
        rintro e wn1 ⟨vn1, rfl, hown1, hb1⟩
        have hs1 : w.heap.size + 1 ≤ wn1.heap.size := Nat.le_trans hsA hb1.size
        have hg1 : wr.heap.size < wn1.heap.size := Nat.lt_of_lt_of_le hgA hb1.size
        have HX1 := Lib.hid (HXA.out.mono hb1 hsA)
        have HP1 := Lib.hid (HPA.out.mono hb1 hgA)
        have HB1 := Lib.hid (HBA.out.trans (hb1.mono (Nat.le_of_succ_le hsA)))
        have HO1 := Lib.hid (ownsRow_below HOA.out hb1 (Nat.le_refl _))
        have HN1 := Lib.hid (IsB.own hown1 (length_le _ _).symm)
        clear hown1 hb1 p0 p1 p2 p3 p4 HXA HOA HBA hsA HPA hgA k0 k1 k2 k3 k4 hidx q0 q1 q2 q3
        go_wp2_with (at_builtin; refine wpList_append_B2 (by rfl) _ _ 27 rfl (w.heap.size + 1) 5 i0 Try.underlying27 hi hz0 hz1 hz2 _ X _ rfl HO1.out HLT.out.symm _ (le key 8) rfl HN1.out (by rw [HLT.out, length_le]; omega) hs1 ?_)
        intro v2 wn2 hown2 hb2 hgr2 hbl2
        have hs2 : w.heap.size + 1 ≤ wn2.heap.size := Nat.le_trans hs1 hb2.size
        have hg2 : wr.heap.size < wn2.heap.size := Nat.lt_of_lt_of_le hg1 hb2.size
        have hap2 := apart_of hbl2 hap hg1
        have HX2 := Lib.hid (HX1.out.mono hb2 (Nat.lt_succ_self _))
        have HP2 := Lib.hid (HP1.out.grown hgr2 hap)
        have HB2 := Lib.hid (HB1.out.trans (hb2.mono (Nat.le_succ _)))
        obtain ⟨X1, hX1⟩ : ∃ Z, Z = X ++ le key 8 := ⟨_, rfl⟩
        have HLX1 := Lib.hid (show X1.length = 20 + 24 * i + 8 from by rw [hX1, List.length_append, HLT.out, length_le])
        have HO2 := Lib.hid (show wn2.ownsRow (w.heap.size + 1) 5 1 v2 (20 + 24 * i + 8) (bvs X1) from by
          have e : X.length + (le key 8).length = 20 + 24 * i + 8 := by rw [HLT.out, length_le]
          rw [e, ← hX1] at hown2
          exact hown2)
        have HXS1 := Lib.hid hX1
        clear hown2 hb2 hgr2 hbl2 HX1 HO1 HB1 hs1 HP1 hg1 hX1 hap
        obtain ⟨p0, p1, p2, p3, p4⟩ := HP2.out
        go_wp2_with fail
        refine (refnum5_any oo 4 _ (by omega) (by decide)).mono ?_
        rintro e wn3 ⟨vn3, rfl, hown3, hb3⟩
        have hs3 : w.heap.size + 1 ≤ wn3.heap.size := Nat.le_trans hs2 hb3.size
        have hg3 : wr.heap.size < wn3.heap.size := Nat.lt_of_lt_of_le hg2 hb3.size
        have HX3 := Lib.hid (HX2.out.mono hb3 hs2)
        have HP3 := Lib.hid (HP2.out.mono hb3 hg2)
        have HB3 := Lib.hid (HB2.out.trans (hb3.mono (Nat.le_of_succ_le hs2)))
        have HO3 := Lib.hid (ownsRow_below HO2.out hb3 (Nat.le_refl _))
        have HN3 := Lib.hid (IsB.own hown3 (length_le _ _).symm)
        clear hown3 hb3 p0 p1 p2 p3 p4 HX2 HO2 HB2 hs2 HP2 hg2
        go_wp2_with (at_builtin; refine wpList_append_B2 (by rfl) _ _ 27 rfl (w.heap.size + 1) 5 i0 Try.underlying27 hi hz0 hz1 hz2 _ X1 _ rfl HO3.out HLX1.out.symm _ (le oo 4) rfl HN3.out (by rw [HLX1.out, length_le]; omega) hs3 ?_)
        intro v4 wn4 hown4 hb4 hgr4 hbl4
        have hs4 : w.heap.size + 1 ≤ wn4.heap.size := Nat.le_trans hs3 hb4.size
        have hg4 : wr.heap.size < wn4.heap.size := Nat.lt_of_lt_of_le hg3 hb4.size
        have hap4 := apart_of hbl4 hap2 hg3
        have HX4 := Lib.hid (HX3.out.mono hb4 (Nat.lt_succ_self _))
        have HP4 := Lib.hid (HP3.out.grown hgr4 hap2)
        have HB4 := Lib.hid (HB3.out.trans (hb4.mono (Nat.le_succ _)))
        obtain ⟨X2, hX2⟩ : ∃ Z, Z = X1 ++ le oo 4 := ⟨_, rfl⟩
        have HLX2 := Lib.hid (show X2.length = 20 + 24 * i + 12 from by rw [hX2, List.length_append, HLX1.out, length_le])
        have HO4 := Lib.hid (show wn4.ownsRow (w.heap.size + 1) 5 1 v4 (20 + 24 * i + 12) (bvs X2) from by
          have e : X1.length + (le oo 4).length = 20 + 24 * i + 12 := by rw [HLX1.out, length_le]
          rw [e, ← hX2] at hown4
          exact hown4)
        have HXS2 := Lib.hid hX2
        clear hown4 hb4 hgr4 hbl4 HX3 HO3 HB3 hs3 HP3 hg3 hX2 hap2
        obtain ⟨p0, p1, p2, p3, p4⟩ := HP4.out
        go_wp2_with fail
        refine (refnum5_any ll 4 _ (by omega) (by decide)).mono ?_
        rintro e wn5 ⟨vn5, rfl, hown5, hb5⟩
        have hs5 : w.heap.size + 1 ≤ wn5.heap.size := Nat.le_trans hs4 hb5.size
        have hg5 : wr.heap.size < wn5.heap.size := Nat.lt_of_lt_of_le hg4 hb5.size
        have HX5 := Lib.hid (HX4.out.mono hb5 hs4)
        have HP5 := Lib.hid (HP4.out.mono hb5 hg4)
        have HB5 := Lib.hid (HB4.out.trans (hb5.mono (Nat.le_of_succ_le hs4)))
        have HO5 := Lib.hid (ownsRow_below HO4.out hb5 (Nat.le_refl _))
        have HN5 := Lib.hid (IsB.own hown5 (length_le _ _).symm)
        clear hown5 hb5 p0 p1 p2 p3 p4 HX4 HO4 HB4 hs4 HP4 hg4
        go_wp2_with (at_builtin; refine wpList_append_B2 (by rfl) _ _ 27 rfl (w.heap.size + 1) 5 i0 Try.underlying27 hi hz0 hz1 hz2 _ X2 _ rfl HO5.out HLX2.out.symm _ (le ll 4) rfl HN5.out (by rw [HLX2.out, length_le]; omega) hs5 ?_)
        intro v6 wn6 hown6 hb6 hgr6 hbl6
        have hs6 : w.heap.size + 1 ≤ wn6.heap.size := Nat.le_trans hs5 hb6.size
        have hg6 : wr.heap.size < wn6.heap.size := Nat.lt_of_lt_of_le hg5 hb6.size
        have hap6 := apart_of hbl6 hap4 hg5
        have HX6 := Lib.hid (HX5.out.mono hb6 (Nat.lt_succ_self _))
        have HP6 := Lib.hid (HP5.out.grown hgr6 hap4)
        have HB6 := Lib.hid (HB5.out.trans (hb6.mono (Nat.le_succ _)))
        obtain ⟨X3, hX3⟩ : ∃ Z, Z = X2 ++ le ll 4 := ⟨_, rfl⟩
        have HLX3 := Lib.hid (show X3.length = 20 + 24 * i + 16 from by rw [hX3, List.length_append, HLX2.out, length_le])
        have HO6 := Lib.hid (show wn6.ownsRow (w.heap.size + 1) 5 1 v6 (20 + 24 * i + 16) (bvs X3) from by
          have e : X2.length + (le ll 4).length = 20 + 24 * i + 16 := by rw [HLX2.out, length_le]
          rw [e, ← hX3] at hown6
          exact hown6)
        have HXS3 := Lib.hid hX3
        clear hown6 hb6 hgr6 hbl6 HX5 HO5 HB5 hs5 HP5 hg5 hX3 hap4
        obtain ⟨p0, p1, p2, p3, p4⟩ := HP6.out
        go_wp2_with fail
        refine (refnum5_any cookie 4 _ (by omega) (by decide)).mono ?_
        rintro e wn7 ⟨vn7, rfl, hown7, hb7⟩
        have hs7 : w.heap.size + 1 ≤ wn7.heap.size := Nat.le_trans hs6 hb7.size
        have hg7 : wr.heap.size < wn7.heap.size := Nat.lt_of_lt_of_le hg6 hb7.size
        have HX7 := Lib.hid (HX6.out.mono hb7 hs6)
        have HP7 := Lib.hid (HP6.out.mono hb7 hg6)
        have HB7 := Lib.hid (HB6.out.trans (hb7.mono (Nat.le_of_succ_le hs6)))
        have HO7 := Lib.hid (ownsRow_below HO6.out hb7 (Nat.le_refl _))
        have HN7 := Lib.hid (IsB.own hown7 (length_le _ _).symm)
        clear hown7 hb7 p0 p1 p2 p3 p4 HX6 HO6 HB6 hs6 HP6 hg6
        go_wp2_with (at_builtin; refine wpList_append_B2 (by rfl) _ _ 27 rfl (w.heap.size + 1) 5 i0 Try.underlying27 hi hz0 hz1 hz2 _ X3 _ rfl HO7.out HLX3.out.symm _ (le cookie 4) rfl HN7.out (by rw [HLX3.out, length_le]; omega) hs7 ?_)
        intro v8 wn8 hown8 hb8 hgr8 hbl8
        have hs8 : w.heap.size + 1 ≤ wn8.heap.size := Nat.le_trans hs7 hb8.size
        have hg8 : wr.heap.size < wn8.heap.size := Nat.lt_of_lt_of_le hg7 hb8.size
        have hap8 := apart_of hbl8 hap6 hg7
        have HX8 := Lib.hid (HX7.out.mono hb8 (Nat.lt_succ_self _))
        have HP8 := Lib.hid (HP7.out.grown hgr8 hap6)
        have HB8 := Lib.hid (HB7.out.trans (hb8.mono (Nat.le_succ _)))
        obtain ⟨X4, hX4⟩ : ∃ Z, Z = X3 ++ le cookie 4 := ⟨_, rfl⟩
        have HLX4 := Lib.hid (show X4.length = 20 + 24 * i + 20 from by rw [hX4, List.length_append, HLX3.out, length_le])
        have HO8 := Lib.hid (show wn8.ownsRow (w.heap.size + 1) 5 1 v8 (20 + 24 * i + 20) (bvs X4) from by
          have e : X3.length + (le cookie 4).length = 20 + 24 * i + 20 := by rw [HLX3.out, length_le]
          rw [e, ← hX4] at hown8
          exact hown8)
        have HXS4 := Lib.hid hX4
        clear hown8 hb8 hgr8 hbl8 HX7 HO7 HB7 hs7 HP7 hg7 hX4 hap6
        obtain ⟨p0, p1, p2, p3, p4⟩ := HP8.out
        go_wp2_with fail
        refine (refnum5_any 1 4 _ (by omega) (by decide)).mono ?_
        rintro e wn9 ⟨vn9, rfl, hown9, hb9⟩
        have hs9 : w.heap.size + 1 ≤ wn9.heap.size := Nat.le_trans hs8 hb9.size
        have hg9 : wr.heap.size < wn9.heap.size := Nat.lt_of_lt_of_le hg8 hb9.size
        have HX9 := Lib.hid (HX8.out.mono hb9 hs8)
        have HP9 := Lib.hid (HP8.out.mono hb9 hg8)
        have HB9 := Lib.hid (HB8.out.trans (hb9.mono (Nat.le_of_succ_le hs8)))
        have HO9 := Lib.hid (ownsRow_below HO8.out hb9 (Nat.le_refl _))
        have HN9 := Lib.hid (IsB.own hown9 (length_le _ _).symm)
        clear hown9 hb9 p0 p1 p2 p3 p4 HX8 HO8 HB8 hs8 HP8 hg8
        go_wp2_with (at_builtin; refine wpList_append_B2 (by rfl) _ _ 27 rfl (w.heap.size + 1) 5 i0 Try.underlying27 hi hz0 hz1 hz2 _ X4 _ rfl HO9.out HLX4.out.symm _ (le 1 4) rfl HN9.out (by rw [HLX4.out, length_le]; omega) hs9 ?_)
        intro v10 wn10 hown10 hb10 hgr10 hbl10
        have hs10 : w.heap.size + 1 ≤ wn10.heap.size := Nat.le_trans hs9 hb10.size
        have hg10 : wr.heap.size < wn10.heap.size := Nat.lt_of_lt_of_le hg9 hb10.size
        have hap10 := apart_of hbl10 hap8 hg9
        have HX10 := Lib.hid (HX9.out.mono hb10 (Nat.lt_succ_self _))
        have HP10 := Lib.hid (HP9.out.grown hgr10 hap8)
        have HB10 := Lib.hid (HB9.out.trans (hb10.mono (Nat.le_succ _)))
        obtain ⟨X5, hX5⟩ : ∃ Z, Z = X4 ++ le 1 4 := ⟨_, rfl⟩
        have HLX5 := Lib.hid (show X5.length = 20 + 24 * i + 24 from by rw [hX5, List.length_append, HLX4.out, length_le])
        have HO10 := Lib.hid (show wn10.ownsRow (w.heap.size + 1) 5 1 v10 (20 + 24 * i + 24) (bvs X5) from by
          have e : X4.length + (le 1 4).length = 20 + 24 * i + 24 := by rw [HLX4.out, length_le]
          rw [e, ← hX5] at hown10
          exact hown10)
        have HXS5 := Lib.hid hX5
        clear hown10 hb10 hgr10 hbl10 HX9 HO9 HB9 hs9 HP9 hg9 hX5 hap8
        have HOF := Lib.hid (show wn10.ownsRow (w.heap.size + 1) 5 1 v10 (20 + 24 * (i + 1)) (bvs (hpre a b d N 5 ++ catP (ps.take (i + 1)))) from by
          have e : hpre a b d N 5 ++ catP (ps.take (i + 1)) = X5 := by
            rw [HCT.out, ← List.append_assoc, ← HXX.out, HPB.out, HXS5.out, HXS4.out, HXS3.out, HXS2.out, HXS1.out]
            simp [flagN]
          rw [e, show 20 + 24 * (i + 1) = 20 + 24 * i + 24 from by omega]
          exact HO10.out)
        go_wp2
        go_roundw
        case rel => exact ⟨i + 1, by omega, by go_num, HOF, HX10, HB10, hs10⟩
        case measure => simp [intOf]; omega
    · obtain rfl : N = i := by omega
      have HBd := Lib.hid (show hpre a b d N 5 ++ catP (ps.take N) = cbody ⟨(a : Int), (b : Int), (d : Int), ps⟩ from by
        rw [List.take_of_length_le (by rw [HN.out]; exact Nat.le_refl _), ← HH.out]; rfl)
      rw [HBd.out] at HO4
      obtain ⟨Y, hY⟩ : ∃ Y, Y = cbody ⟨(a : Int), (b : Int), (d : Int), ps⟩ := ⟨_, rfl⟩
      have HYL := Lib.hid (show Y.length = 20 + 24 * N from by rw [hY]; unfold cbody; rw [List.length_append, length_chead, length_catP]; show 20 + 24 * ps.length = _; rw [HN.out])
      have HYS := Lib.hid (show Y ++ le (crc Y) 4 = C from by rw [HC.out, hY]; rfl)
      rw [← hY] at HO4
      have HYB := Lib.hid (IsB.own HO4.out HYL.out.symm)
      have hcr := crc_lt Y
      clear hY
      go_wp2_with fail
      refine (refof_any _ Y _ HYB.out (by rw [HYL.out]; omega)).mono ?_
      rintro e w' ⟨rfl, rfl⟩
      go_wp2_with fail
      refine (tail_any (crc Y) _ hcr).mono ?_
      rintro e w7 ⟨v7, rfl, hown7, hb7⟩
      have HO7 := Lib.hid (ownsRow_below HO4.out hb7 (Nat.le_refl _))
      have HN7 := Lib.hid (IsB.own hown7 (length_le _ _).symm)
      have hs7 := Nat.le_trans hs4 hb7.size
      have HB7 := Lib.hid (HB4.out.trans (hb7.mono HB4.out.size))
      clear hown7 hb7 q0 q1 q2 q3
      go_wp2_with (at_builtin; refine wpList_append_B (by rfl) _ _ 27 rfl (w.heap.size + 1) 5 i0 Try.underlying27 hi hz0 hz1 hz2 _ Y _ rfl HO7.out HYL.out.symm _ (le (crc Y) 4) rfl HN7.out (by rw [HYL.out, length_le]; omega) hs7 ?_)
      intro v8 w8 hown8 hb8
      have HO8 := Lib.hid (show w8.ownsRow w.heap.size 5 1 v8 C.length (bvs C) from by
        have hh := ownsRow_base hown8 (Nat.le_succ w.heap.size)
        have e : Y.length + (le (crc Y) 4).length = C.length := by rw [← HYS.out, List.length_append]
        rw [← HYS.out, List.length_append]
        simpa using hh)
      have HB8 := Lib.hid (HB7.out.trans (hb8.mono (Nat.le_succ _)))
      clear hown8 hb8
      go_wp2
      go_ret
      exact ⟨_, rfl, HO8.out, HB8.out⟩

end Go.Proofs.Ytengfglopagdmaa
