/- Package corncriblaw20: TwinShips. -/
import Derived.Test.YtlaighghagcjjaaTk
import Derived.Test.YtlaighghagcjjaaTn
import Derived.Test.YtlaighghagcjjaaRef01
namespace Go.Proofs.Ytlaighghagcjjaa
open Go.RowKit Go.Cor
set_option linter.unusedVariables false
set_option linter.unusedSimpArgs false

theorem pair_le {p : Pr} {K : Nat} (h : p.Le K) : p.a.length ≤ K ∧ p.b.length ≤ K := ⟨h.log false, h.log true⟩
theorem rep_ok20 (l : List Cm) (K : Nat) (h : l.length + 1 ≤ K) : LOk (repL [] l) K := (repL_ok (LOk.nil 1) (Nat.le_refl 1) l).more (by omega)
set_option maxRecDepth 100000 in
set_option maxHeartbeats 8000000 in
theorem twinShips_all (v : Value) (l : List Ac20) (w : World) (hv : IsX w 11 v l.length (row acl l)) :
    Calls Try.prog 5 #[v] w fun e w' => e = .returned (.bool true) ∧ Below w.heap.size w w' := by
  obtain ⟨N, hN⟩ : ∃ N, l.length = N := ⟨_, rfl⟩
  rw [hN] at hv
  have hlen := fun W => len_X (P := Try.prog) hv 22 3 35 Try.underlying22 W
  have HV := Lib.hid hv
  have HN := Lib.hid hN
  clear hv hN
  by_cases hbig : 60 < N
  · have hbig' : (60 : Int) < (N : Int) := by omega
    go_enter Try.func5, Try.ntmps5
    go_wp2_with (go_at_call 7; refine (alive20 _).mono ?_; rintro e w1 ⟨rfl, hb1⟩)
    go_ret
    exact ⟨rfl, hb1⟩
  have hbig' : ¬ (60 : Int) < (N : Int) := by omega
  have hbd : decide ((60 : Int) < (N : Int)) = false := decide_eq_false hbig'
  have HNX := Lib.hid (show N ≤ 60 from by omega)
  clear hbig
  go_enter Try.func5, Try.ntmps5
  go_wp2_with fail
  refine (alive20 _).mono ?_
  rintro e w1 ⟨rfl, hb1⟩
  have HB1 := Lib.hid hb1
  clear hb1
  go_wp2_with fail
  refine (tnew _).mono ?_
  rintro e w2 ⟨g, S0, rfl, h2, hb2⟩
  have H2 := Lib.hid (Th.new HB1.out h2 hb2)
  clear h2 hb2
  go_wp2_with fail
  go_loopw [4] (fun c wr => ∃ (i : Nat) (S : Nat → Prop) (p : Pr), i ≤ N ∧ c = .int .i64 i ∧ Hid (Th w wr g S p i) ∧ Hid p.Set) (fun c _ => N - (intOf c).toNat)
  case atStart => exact ⟨0, S0, Pr.new, Nat.zero_le _, rfl, H2, Lib.hid Pr.Set.new⟩
  case round =>
    obtain ⟨i, S, p, hi, rfl, HT, HQ⟩ := hrel
    by_cases hlt : i < N
    · obtain ⟨a, ha⟩ : ∃ a, l[i]? = some a := ⟨_, List.getElem?_eq_getElem (by rw [HN.out]; exact hlt)⟩
      have hvl : IsX w 11 v l.length (row acl l) := by rw [HN.out]; exact HV.out
      have HVL := Lib.hid hvl
      have HA := Lib.hid ha
      obtain ⟨b, o, hidx, k0, k1, k2, k3, k4, k5, k6, k7, k8, k9, k10⟩ := act_at20 (hvl.mono HT.out.bel (Nat.le_refl _)) ha
      clear hvl ha k1 k2 k3 k4 k5 k6 k7 k8 k9 k10
      obtain ⟨ak, at_, asd, ac⟩ := a
      obtain ⟨ck, cv, ce, ca, cn, c1, c2, c3⟩ := ac
      simp only at k0
      by_cases hk : ak < 0 ∨ 3 < ak
      · have HF := Lib.hid HT.out.bel
        rcases hk with hk | hk
        · go_wp2
          go_ret
          exact ⟨rfl, HF.out⟩
        · have hk' : ¬ ak < 0 := by omega
          go_wp2
          go_ret
          exact ⟨rfl, HF.out⟩
      · have hk1 : ¬ ak < 0 := fun h => hk (.inl h)
        have hk2 : ¬ 3 < ak := fun h => hk (.inr h)
        have hd1 : decide (ak < 0) = false := decide_eq_false hk1
        have hd2 : decide (3 < ak) = false := decide_eq_false hk2
        clear hk
        go_wp2_with fail
        refine HT.out.lead.mono ?_
        rintro e w3 ⟨rfl, hb3⟩
        have HT3 := Lib.hid (HT.out.below hb3)
        clear hb3 k0 hidx HT
        obtain ⟨b, o, hidx, k0, k1, k2, k3, k4, k5, k6, k7, k8, k9, k10⟩ := act_at20 (HVL.out.mono HT3.out.bel (Nat.le_refl _)) HA.out
        simp only at k0 k1 k2 k3 k4 k5 k6 k7 k8 k9 k10
        have hX := Blk.new w3 #[.int .i64 ak, .int .i64 at_, .int .i64 asd, .int .i64 ck, .int .i64 cv, .int .i64 ce, .int .i64 ca, .int .i64 cn, .int .i64 c1, .int .i64 c2, .int .i64 c3] 35
        have hT1 := HT3.out.alloc (.cells #[.int .i64 ak, .int .i64 at_, .int .i64 asd, .int .i64 ck, .int .i64 cv, .int .i64 ce, .int .i64 ca, .int .i64 cn, .int .i64 c1, .int .i64 c2, .int .i64 c3] 35)
        obtain ⟨W1, hW1⟩ : ∃ z, w3.alloc (.cells #[.int .i64 ak, .int .i64 at_, .int .i64 asd, .int .i64 ck, .int .i64 cv, .int .i64 ce, .int .i64 ca, .int .i64 cn, .int .i64 c1, .int .i64 c2, .int .i64 c3] 35) = z := ⟨_, rfl⟩
        rw [hW1] at hX hT1
        have hXS : ¬ S w3.heap.size := fun h => by have := (HT3.out.tw.lt h).2; omega
        have hXB : w.heap.size ≤ w3.heap.size := HT3.out.bel.size
        obtain ⟨X, hXX⟩ : ∃ z, w3.heap.size = z := ⟨_, rfl⟩
        rw [hXX] at hX hXS hXB
        have HX1 := Lib.hid hX
        have HT1 := Lib.hid hT1
        have HW1 := Lib.hid hW1
        have HXX := Lib.hid hXX
        have HXS := Lib.hid hXS
        have HXB := Lib.hid hXB
        clear hX hT1 hW1 hXX hXS hXB
        go_upto_region 13 with fail
        rw [HW1.out, HXX.out]
        clear k0 k1 k2 k3 k4 k5 k6 k7 k8 k9 k10 hidx HT3
        have x0 : W1.cell? ⟨X, 0, none⟩ = some (.int .i64 ak) := HX1.out.cell 0 rfl
        have x1 : W1.cell? ⟨X, 1, none⟩ = some (.int .i64 at_) := HX1.out.cell 1 rfl
        have x2 : W1.cell? ⟨X, 2, none⟩ = some (.int .i64 asd) := HX1.out.cell 2 rfl
        have x3 : W1.cell? ⟨X, 3, none⟩ = some (.int .i64 ck) := HX1.out.cell 3 rfl
        have x4 : W1.cell? ⟨X, 4, none⟩ = some (.int .i64 cv) := HX1.out.cell 4 rfl
        have x5 : W1.cell? ⟨X, 5, none⟩ = some (.int .i64 ce) := HX1.out.cell 5 rfl
        have x6 : W1.cell? ⟨X, 6, none⟩ = some (.int .i64 ca) := HX1.out.cell 6 rfl
        have x7 : W1.cell? ⟨X, 7, none⟩ = some (.int .i64 cn) := HX1.out.cell 7 rfl
        have x8 : W1.cell? ⟨X, 8, none⟩ = some (.int .i64 c1) := HX1.out.cell 8 rfl
        have x9 : W1.cell? ⟨X, 9, none⟩ = some (.int .i64 c2) := HX1.out.cell 9 rfl
        have x10 : W1.cell? ⟨X, 10, none⟩ = some (.int .i64 c3) := HX1.out.cell 10 rfl
        have xf := fun j => HX1.out.free j
        go_cut [54] from 52 to 54 (fun dq wx => Hid (∃ D : Bool, dq = .bool D) ∧ wx = W1)
        case first =>
          go_wp2_with fail
          go_meet
          exact ⟨Lib.hid ⟨_, rfl⟩, rfl⟩
        case rest =>
        obtain ⟨HD, hw3⟩ := hcut
        subst hw3
        go_wp2_with fail
        go_cut [7] from 55 to 56 (fun bq wx => ∃ t : Int, bq = .pointer (some ⟨X, 0, none⟩) ∧ Hid (Th w wx g S p i) ∧ Hid (Blk wx X #[.int .i64 ak, .int .i64 t, .int .i64 asd, .int .i64 ck, .int .i64 cv, .int .i64 ce, .int .i64 ca, .int .i64 cn, .int .i64 c1, .int .i64 c2, .int .i64 c3] 35))
        case first =>
          have HS1 := Lib.hid (HT1.out.cell (q := ⟨X, 1, none⟩) HXB.out HXS.out (.int .i64 (p.tm : Int)))
          have HS3 := Lib.hid (show Blk (World.setCell _ ⟨X, 1, none⟩ (.int .i64 (p.tm : Int))) X #[.int .i64 ak, .int .i64 (p.tm : Int), .int .i64 asd, .int .i64 ck, .int .i64 cv, .int .i64 ce, .int .i64 ca, .int .i64 cn, .int .i64 c1, .int .i64 c2, .int .i64 c3] 35 from by simpa using HX1.out.set 1 (.int .i64 (p.tm : Int)))
          obtain ⟨D, rfl⟩ := HD.out
          cases D
          · go_wp2_with fail
            go_meet
            exact ⟨_, rfl, HT1, HX1⟩
          · go_wp2_with fail
            go_meet
            exact ⟨_, rfl, HS1, HS3⟩
        case rest =>
        obtain ⟨t, rfl, HT4, HX4⟩ := hcut
        clear x0 x1 x2 x3 x4 x5 x6 x7 x8 x9 x10 xf
        have x0 : wc.cell? ⟨X, 0, none⟩ = some (.int .i64 ak) := HX4.out.cell 0 rfl
        have x1 : wc.cell? ⟨X, 1, none⟩ = some (.int .i64 t) := HX4.out.cell 1 rfl
        have x2 : wc.cell? ⟨X, 2, none⟩ = some (.int .i64 asd) := HX4.out.cell 2 rfl
        have x3 : wc.cell? ⟨X, 3, none⟩ = some (.int .i64 ck) := HX4.out.cell 3 rfl
        have x4 : wc.cell? ⟨X, 4, none⟩ = some (.int .i64 cv) := HX4.out.cell 4 rfl
        have x5 : wc.cell? ⟨X, 5, none⟩ = some (.int .i64 ce) := HX4.out.cell 5 rfl
        have x6 : wc.cell? ⟨X, 6, none⟩ = some (.int .i64 ca) := HX4.out.cell 6 rfl
        have x7 : wc.cell? ⟨X, 7, none⟩ = some (.int .i64 cn) := HX4.out.cell 7 rfl
        have x8 : wc.cell? ⟨X, 8, none⟩ = some (.int .i64 c1) := HX4.out.cell 8 rfl
        have x9 : wc.cell? ⟨X, 9, none⟩ = some (.int .i64 c2) := HX4.out.cell 9 rfl
        have x10 : wc.cell? ⟨X, 10, none⟩ = some (.int .i64 c3) := HX4.out.cell 10 rfl
        have HI1000 := Lib.hid (show i < 1000 from by have := HNX.out; omega)
        go_wp2_with fail
        refine (HT4.out.do HI1000.out ⟨ak, t, asd, ⟨ck, cv, ce, ca, cn, c1, c2, c3⟩⟩).mono ?_
        have hto := act_set HT4.out.ok HQ.out ⟨ak, t, asd, ⟨ck, cv, ce, ca, cn, c1, c2, c3⟩⟩
        obtain ⟨q, hq⟩ : ∃ q, actP p ⟨ak, t, asd, ⟨ck, cv, ce, ca, cn, c1, c2, c3⟩⟩ = q := ⟨_, rfl⟩
        rw [hq] at hto ⊢
        rintro e w5 ⟨rfl, S5, h5, hS5, hk5⟩
        have HT5 := Lib.hid h5
        have HQ5 := Lib.hid hto
        clear h5 hS5 hk5 x0 x1 x2 x3 x4 x5 x6 x7 x8 x9 x10 hto hq HT4 HX4 HT1 HX1
        go_wp2
        go_roundw
        case rel => exact ⟨i + 1, S5, q, by omega, by go_num, HT5, HQ5⟩
        case measure => simp [intOf]; omega
    · obtain rfl : i = N := by omega
      have HI := Lib.hid (show i ≤ 60 from HNX.out)
      go_wp2_with fail
      refine HT.out.lead.mono ?_
      rintro e w3 ⟨rfl, hb3⟩
      have HT3 := Lib.hid (HT.out.below hb3)
      clear hb3 HT
      obtain ⟨s, hs⟩ : ∃ s, p.ld = s := ⟨_, rfl⟩
      have HR := Lib.hid (rise_both HT3.out.ok)
      have HSET1 := Lib.hid (rise_set HT3.out.ok HQ.out (sn p.ld))
      have HRS := HT3.out.rise (by have := HI.out; omega) (sn p.ld)
      rw [hs] at HR HSET1 HRS ⊢
      obtain ⟨q1, hq1⟩ : ∃ q1, riseP p (sn s) = q1 := ⟨_, rfl⟩
      rw [hq1] at HR HSET1 HRS
      have HRS := Lib.hid HRS
      clear hs hq1
      have hsub : IntKind.i64.wrap (1 - (sn s : Int)) = ((sn (!s) : Nat) : Int) := by cases s <;> rfl
      have hsub2 : wrap64 (1 - (sn s : Int)) = ((sn (!s) : Nat) : Int) := by cases s <;> (rw [IntWalk.wrap64_in _ (by simp [sn])]; rfl)
      go_wp2_with fail
      refine HRS.out.mono ?_
      rintro e w4 ⟨rfl, S4, h4, _, _⟩
      have HT4 := Lib.hid h4
      clear h4 HRS
      have HSET2 := Lib.hid (rise_set HT4.out.ok HSET1.out (sn (!s)))
      have HRS2 := Lib.hid (HT4.out.rise (by have := HI.out; omega) (sn (!s)))
      obtain ⟨q2, hq2⟩ : ∃ q2, riseP q1 (sn (!s)) = q2 := ⟨_, rfl⟩
      rw [hq2] at HR HSET2 HRS2
      clear hq2
      go_wp2_with fail
      refine HRS2.out.mono ?_
      rintro e w5 ⟨rfl, S5, h5, _, _⟩
      have HT5 := Lib.hid h5
      clear h5 HRS2 HT4 HT3
      have HL5 := Lib.hid (show (q2.log q2.ld).length ≤ 70 from by have h1 := HT5.out.le.log q2.ld; have h2 := HI.out; omega)
      go_wp2_with fail
      go_loopw [10] (fun c wr => ∃ (j : Nat) (S : Nat → Prop) (q : Pr), c = .int .i64 j ∧ Hid (j ≤ (q.log (!q.ld)).length) ∧ Hid (Th w wr g S q (70 + j)) ∧ Hid q.Set ∧ Hid (q.u0 = true ∧ q.u1 = true) ∧ Hid ((q.log q.ld).length ≤ 70)) (fun c _ => 200 - (intOf c).toNat)
      case atStart => exact ⟨0, S5, q2, rfl, Lib.hid (Nat.zero_le _), Lib.hid (HT5.out.more (by have := HI.out; omega)), HSET2, HR, HL5⟩
      case round =>
        obtain ⟨j, S, q, rfl, HJ, HT, HQ, HU, HL⟩ := hrel
        have hle := HT.out.ok.le (up_two HU.out _)
        have hj : j ≤ 70 := by have h1 := HJ.out; have h2 := HL.out; omega
        have hj2 : (j : Int) < 200 := by omega
        have hwj : wrap64 ((j : Int) + 1) = (j : Int) + 1 := IntWalk.wrap64_in _ (by omega)
        have HJ7 := Lib.hid hj
        have HLE := Lib.hid hle
        clear hj hle
        go_wp2_with fail
        refine HT.out.lead.mono ?_
        rintro e w6 ⟨rfl, hb6⟩
        have HT6 := Lib.hid (HT.out.below hb6)
        clear hb6 HT
        have HSH := Lib.hid (HT6.out.ship (by have := HJ7.out; omega) (q.tm : Int))
        have HKL := Lib.hid (shipK_lt q (q.tm : Int))
        by_cases hk : shipK q (q.tm : Int) = 0
        · have hs1 := ship_step HT6.out.ok HU.out hk
          have hs2 := ship_set HT6.out.ok HQ.out (q.tm : Int)
          rw [hk, derr_zero] at HSH
          obtain ⟨q', hq'⟩ : ∃ q', shipP q (q.tm : Int) = q' := ⟨_, rfl⟩
          rw [hq'] at hs1 hs2 HSH
          have HS1 := Lib.hid hs1
          have HS2 := Lib.hid hs2
          clear hk hs1 hs2 hq'
          go_wp2_with fail
          refine HSH.out.mono ?_
          rintro e w7 ⟨rfl, S7, h7, _, _⟩
          have HT7 := Lib.hid h7
          clear h7 HSH
          go_wp2_with (go_at_call 20; refine (code_nil _).mono ?_; rintro e wx ⟨rfl, rfl⟩)
          go_roundw
          case rel => exact ⟨j + 1, S7, q', by go_num, Lib.hid (by rw [HS1.out.2.2.1]; have := HJ.out; omega), HT7, HS2, Lib.hid ⟨HS1.out.1, HS1.out.2.1⟩, Lib.hid (by rw [HS1.out.2.2.2]; exact HL.out)⟩
          case measure => first | exact meas20 (by have := HJ7.out; omega) | (rw [IntWalk.wrap64_in _ (by have := HJ7.out; omega)]; exact meas20 (by have := HJ7.out; omega))
        · obtain ⟨h6, hab, hst, hsame⟩ := ship_end HT6.out.ok HQ.out HU.out hk
          rw [h6, hsame, derr_pos (by decide)] at HSH
          have HSH2 := Lib.hid (fun (wx : World) (Sx : Nat → Prop) (h : Th w wx g Sx q (71 + j)) => (show Calls Try.prog 22 #[pp g, .int .i64 (q.tm : Int)] wx fun e w' => e = .returned (erc 6) ∧ ∃ S', Th w w' g S' q (72 + j) from by
            have h1 := h.ship (by have := HJ7.out; omega) (q.tm : Int)
            rw [h6, hsame, derr_pos (by decide)] at h1
            exact h1.mono fun e w' ⟨e1, S', e2, _⟩ => ⟨e1, S', e2.more (by omega)⟩))
          have hlab : decide (q.a.length = q.b.length) = true := decide_eq_true (by rw [hab])
          have hLE := pair_le HT6.out.le
          have HAB := Lib.hid hab
          have HST := Lib.hid hst
          have HLE2 := Lib.hid hLE
          clear hk h6 hsame hst hLE
          go_wp2_with fail
          refine HSH.out.mono ?_
          rintro e w7 ⟨rfl, S7, h7, _, _⟩
          have HT7 := Lib.hid (h7.more (show 70 + j + 1 ≤ 71 + j by omega))
          clear h7 HSH
          go_wp2_with (go_at_call 20; refine (code_code 6 _ (by decide) (by decide)).mono ?_; rintro e wx ⟨rfl, rfl⟩)
          refine HT7.out.logs.mono ?_
          rintro e w8 ⟨rfl, hb8⟩
          have HT8 := Lib.hid (HT7.out.below hb8)
          clear hb8
          go_wp2_with fail
          refine HT8.out.lead.mono ?_
          rintro e w9 ⟨rfl, hb9⟩
          have HT9 := Lib.hid (HT8.out.below hb9)
          clear hb9
          rw [← HAB.out]
          go_wp2_with fail
          refine HT9.out.settled.mono ?_
          rintro e wa ⟨rfl, hba⟩
          have HTA := Lib.hid (HT9.out.below hba)
          clear hba
          rw [HST.out]
          go_wp2_with fail
          refine (tmap wa _ g S7 q false HTA.out.tw (HTA.out.le.more (by have := HJ7.out; omega))).mono ?_
          rintro e wb ⟨g1, S1, rfl, hm1, hbb⟩
          have HTB := Lib.hid (HTA.out.below hbb)
          have HM1 := Lib.hid hm1
          clear hm1 hbb
          go_wp2_with fail
          refine (dbytes wb _ g1 S1 _ HM1.out (rep_ok20 _ 1000000 (by have h1 := HLE2.out.1; have h2 := HJ7.out; show q.a.length + 1 ≤ _; omega))).mono ?_
          rintro e wd ⟨v1, rfl, hv1, hbd1⟩
          have HTD := Lib.hid (HTB.out.below hbd1)
          have HV1 := Lib.hid hv1
          clear hv1 hbd1 HM1
          go_wp2_with fail
          refine (tmap wd _ g S7 q true HTD.out.tw (HTD.out.le.more (by have := HJ7.out; omega))).mono ?_
          rintro e we ⟨g2, S2, rfl, hm2, hbe⟩
          have HTE := Lib.hid (HTD.out.below hbe)
          have HM2 := Lib.hid hm2
          have HV2 := Lib.hid (HV1.out.mono hbe (Nat.le_refl _))
          clear hm2 hbe HV1
          go_wp2_with fail
          refine (dbytes we _ g2 S2 _ HM2.out (rep_ok20 _ 1000000 (by have h1 := HLE2.out.2; have h2 := HJ7.out; show q.b.length + 1 ≤ _; omega))).mono ?_
          rintro e wf ⟨v2, rfl, hv2, hbf⟩
          have HTF := Lib.hid (HTE.out.below hbf)
          have HV3 := Lib.hid (HV2.out.mono hbf (Nat.le_refl _))
          have HV4 := Lib.hid (show IsB wf v2 (dby (repL [] (q.log false))) from by rw [show q.log false = q.log true from HAB.out]; exact hv2)
          clear hv2 hbf HM2 HV2
          go_wp2_with fail
          refine (same_yes v1 v2 _ wf HV3.out HV4.out (by rw [dby_len]; have := (rep_ok20 (q.log false) 1000000 (by have h1 := HLE2.out.1; have h2 := HJ7.out; show q.a.length + 1 ≤ _; omega)).len; omega)).mono ?_
          rintro e wg ⟨rfl, nq, rfl⟩
          have HTG := Lib.hid (HTF.out.drew nq)
          go_wp2_with fail
          refine (HSH2.out _ _ HTG.out).mono ?_
          rintro e wh ⟨rfl, Sh, hh⟩
          have HTH := Lib.hid hh.bel
          clear hh HSH2
          go_wp2_with (go_at_call 20; refine (code_code 6 _ (by decide) (by decide)).mono ?_; rintro e wx ⟨rfl, rfl⟩)
          go_ret
          exact ⟨rfl, HTH.out⟩
end Go.Proofs.Ytlaighghagcjjaa
