/- Package corncriblaw14: WireApart. -/
import Derived.Test.YtallmcminlnnaaaWra
set_option linter.unusedVariables false
set_option linter.unusedSimpArgs false
namespace Go.Proofs.Ytallmcminlnnaaa
open Go.RowKit Go.Cor

theorem below_drewN14 {B : Nat} {a w : World} (h : Below B a w) (n : Nat) : Below B a (w.drewN n) := by
  induction n generalizing w with
  | zero => exact h
  | succ n ih => exact (ih h).drew
theorem drewn_below14 {w w' : World} (h : ∃ n, w' = w.drewN n) : Below w.heap.size w w' := by
  obtain ⟨n, rfl⟩ := h
  exact below_drewN14 (Below.refl _ _) n
set_option maxRecDepth 100000 in
set_option maxHeartbeats 8000000 in
theorem wireApart_all (m : Msg) (x : Option Addr) (L c : Nat) (n : Msg) (y : Option Addr) (M k : Nat) (q0 : Nat) (w : World) (hm : IsB w (.slice x L c) m.n.data) (hn : IsB w (.slice y M k) n.n.data) (hmf : m.n.fits) (hnf : n.n.fits) (hid : m.id < 18446744073709551616) (hidn : n.id < 18446744073709551616) (hq0 : q0 < 65536) :
    Calls Try.prog 6 #[mval m (.slice x L c), mval n (.slice y M k), .int .u16 (q0 : Int)] w fun e w' => e = .returned (.bool true) ∧ Below w.heap.size w w' := by
  have hL : m.n.data.length = L := by obtain ⟨a, cp, e, _⟩ := hm; cases e; rfl
  have hM : n.n.data.length = M := by obtain ⟨a, cp, e, _⟩ := hn; cases e; rfl
  have HA := Lib.hid (fun wx => alive14 wx)
  have HC1 := Lib.hid (fun wx (hb : Below w.heap.size w wx) (h3 : L ≤ 300) => rcheck_any m (.slice x L c) wx (hm.mono hb (Nat.le_refl _)) (by omega))
  have HC2 := Lib.hid (fun wx (hb : Below w.heap.size w wx) (h3 : M ≤ 300) => rcheck_any n (.slice y M k) wx (hn.mono hb (Nat.le_refl _)) (by omega))
  obtain ⟨C1, hC1⟩ : ∃ C, mcheck m = C := ⟨_, rfl⟩
  obtain ⟨C2, hC2⟩ : ∃ C, mcheck n = C := ⟨_, rfl⟩
  rw [hC1] at HC1
  rw [hC2] at HC2
  have HK1 := Lib.hid hC1
  have HK2 := Lib.hid hC2
  have HLM := Lib.hid (And.intro hL hM)
  have HO1 := Lib.hid (fun wx => of_any14 m x L c wx)
  have HO2 := Lib.hid (fun wx => of_any14 n y M k wx)
  have HY1 := Lib.hid (fun wx (hb : Below w.heap.size w wx) (hc : mcheck m = 0) => wbytes_ok m x L c wx (hm.mono hb (Nat.le_refl _)) hc hmf hid)
  have HY2 := Lib.hid (fun wx (hb : Below w.heap.size w wx) (hc : mcheck n = 0) => wbytes_ok n y M k wx (hn.mono hb (Nat.le_refl _)) hc hnf hidn)
  have HSM := Lib.hid (fun wx (hb : Below w.heap.size w wx) => wsame_v m n x L c y M k wx (hm.mono hb (Nat.le_refl _)) (hn.mono hb (Nat.le_refl _)))
  have HINJ := Lib.hid (fun h1 h2 => mbytes_inj (a := m) (b := n) h1 h2 hmf hnf hid hidn)
  obtain ⟨la, hla⟩ : ∃ b, mbytes m = b := ⟨_, rfl⟩
  obtain ⟨lb, hlb⟩ : ∃ b, mbytes n = b := ⟨_, rfl⟩
  have hal : la.length = (mbody m).length + 4 := by rw [← hla]; exact length_mbytes m
  have hbl : lb.length = (mbody n).length + 4 := by rw [← hlb]; exact length_mbytes n
  have ham := length_mbody m
  have hbm := length_mbody n
  have hnm := length_nbytes m.n
  have hnn := length_nbytes n.n
  rw [hla] at HY1 HINJ
  rw [hlb] at HY2 HINJ
  obtain ⟨AL, hAL⟩ : ∃ b, la.length = b := ⟨_, rfl⟩
  obtain ⟨BL, hBL⟩ : ∃ b, lb.length = b := ⟨_, rfl⟩
  rw [hAL] at HY1 hal
  rw [hBL] at HY2 hbl
  have HAL := Lib.hid hAL
  have HBL := Lib.hid hBL
  have HA28 := Lib.hid (show 28 ≤ AL by omega)
  have HABL := Lib.hid (show L ≤ 300 → AL ≤ 1099511627776 from fun _ => by
    rw [hal, ham]
    split <;> (try rw [hnm, hL]) <;> (try unfold padn) <;> omega)
  obtain ⟨q, hq⟩ : ∃ q, sameM m n = q := ⟨_, rfl⟩
  rw [hq] at HSM
  have HSB' := Lib.hid (show mcheck m = 0 → mcheck n = 0 → sameB la lb = q from fun h1 h2 => by
    rw [← hq, ← hla, ← hlb]
    unfold sameB
    rw [Bool.eq_iff_iff, decide_eq_true_iff, sameM_eq]
    exact ⟨fun e => mbytes_inj h1 h2 hmf hnf hid hidn e, fun e => by rw [e]⟩)
  rw [hC1, hC2] at HSB'
  rw [hC1] at HY1
  rw [hC2] at HY2
  obtain ⟨R, hR⟩ : ∃ R, q0 % 28 = R := ⟨_, rfl⟩
  have hR28 : R < 28 := by rw [← hR]; exact Nat.mod_lt _ (by decide)
  have er : ((q0 : Int) % 28) = (R : Int) := by rw [← hR]; rfl
  have et : Int.tmod (q0 : Int) 28 = (R : Int) := by rw [Int.tmod_eq_emod_of_nonneg (by omega)]; exact er
  have ew : IntKind.i64.wrap (q0 : Int) = (q0 : Int) := IntWalk.i64_in _ (by omega)
  obtain ⟨mfr, mtt, mkd, mvo, mli, mid, mco, mhas, mkey, mck, mgn, md⟩ := m
  obtain ⟨nfr, ntt, nkd, nvo, nli, nid, nco, nhas, nkey, nck, ngn, nd⟩ := n
  have P4 := (Blk.new w #[.int .i64 mfr, .int .i64 mtt, .int .i64 mkd, .int .i64 mvo, .int .i64 mli, .int .u64 (mid : Int), .int .i64 mco, .bool mhas, .int .u64 (mkey : Int), .int .u32 (mck : Int), .bool mgn, .slice x L c] 36).alloc (.cells #[.int .i64 nfr, .int .i64 ntt, .int .i64 nkd, .int .i64 nvo, .int .i64 nli, .int .u64 (nid : Int), .int .i64 nco, .bool nhas, .int .u64 (nkey : Int), .int .u32 (nck : Int), .bool ngn, .slice y M k] 36)
  have P7 := Blk.new (w.alloc (.cells #[.int .i64 mfr, .int .i64 mtt, .int .i64 mkd, .int .i64 mvo, .int .i64 mli, .int .u64 (mid : Int), .int .i64 mco, .bool mhas, .int .u64 (mkey : Int), .int .u32 (mck : Int), .bool mgn, .slice x L c] 36)) #[.int .i64 nfr, .int .i64 ntt, .int .i64 nkd, .int .i64 nvo, .int .i64 nli, .int .u64 (nid : Int), .int .i64 nco, .bool nhas, .int .u64 (nkey : Int), .int .u32 (nck : Int), .bool ngn, .slice y M k] 36
  rw [show (w.alloc (.cells #[.int .i64 mfr, .int .i64 mtt, .int .i64 mkd, .int .i64 mvo, .int .i64 mli, .int .u64 (mid : Int), .int .i64 mco, .bool mhas, .int .u64 (mkey : Int), .int .u32 (mck : Int), .bool mgn, .slice x L c] 36)).heap.size = w.heap.size + 1 by simp] at P7
  have HB0 := Lib.hid (((Below.refl w.heap.size w).alloc (Nat.le_refl _) (.cells #[.int .i64 mfr, .int .i64 mtt, .int .i64 mkd, .int .i64 mvo, .int .i64 mli, .int .u64 (mid : Int), .int .i64 mco, .bool mhas, .int .u64 (mkey : Int), .int .u32 (mck : Int), .bool mgn, .slice x L c] 36)).alloc (by simp) (.cells #[.int .i64 nfr, .int .i64 ntt, .int .i64 nkd, .int .i64 nvo, .int .i64 nli, .int .u64 (nid : Int), .int .i64 nco, .bool nhas, .int .u64 (nkey : Int), .int .u32 (nck : Int), .bool ngn, .slice y M k] 36))
  clear hm hn hmf hnf hid hidn hL hM hC1 hC2 hla hlb hal hbl ham hbm hnm hnn hAL hBL hq hR HINJ
  by_cases h1 : 300 < L
  · have k1 : (300 : Int) < (L : Int) := by omega
    go_enter Try.func6, Try.ntmps6
    go_wp2_with fail
    refine (HA.out _).mono ?_
    rintro e w1 ⟨rfl, hb⟩
    have HB1 := Lib.hid (HB0.out.trans (hb.mono HB0.out.size))
    have HP := Lib.hid ((P4.below hb (by simp; omega)))
    have HQ := Lib.hid ((P7.below hb (by simp)))
    clear hb
    have p0 := HP.out.cell 0 rfl
    have p1 := HP.out.cell 1 rfl
    have p2 := HP.out.cell 2 rfl
    have p3 := HP.out.cell 3 rfl
    have p4 := HP.out.cell 4 rfl
    have p5 := HP.out.cell 5 rfl
    have p6 := HP.out.cell 6 rfl
    have p7 := HP.out.cell 7 rfl
    have p8 := HP.out.cell 8 rfl
    have p9 := HP.out.cell 9 rfl
    have p10 := HP.out.cell 10 rfl
    have p11 := HP.out.cell 11 rfl
    have q0 := HQ.out.cell 0 rfl
    have q1 := HQ.out.cell 1 rfl
    have q2 := HQ.out.cell 2 rfl
    have q3 := HQ.out.cell 3 rfl
    have q4 := HQ.out.cell 4 rfl
    have q5 := HQ.out.cell 5 rfl
    have q6 := HQ.out.cell 6 rfl
    have q7 := HQ.out.cell 7 rfl
    have q8 := HQ.out.cell 8 rfl
    have q9 := HQ.out.cell 9 rfl
    have q10 := HQ.out.cell 10 rfl
    have q11 := HQ.out.cell 11 rfl
    go_wp2
    go_ret
    exact ⟨rfl, HB1.out⟩
  have k1 : ¬ (300 : Int) < (L : Int) := by omega
  by_cases h2 : 300 < M
  · have k2 : (300 : Int) < (M : Int) := by omega
    go_enter Try.func6, Try.ntmps6
    go_wp2_with fail
    refine (HA.out _).mono ?_
    rintro e w1 ⟨rfl, hb⟩
    have HB1 := Lib.hid (HB0.out.trans (hb.mono HB0.out.size))
    have HP := Lib.hid ((P4.below hb (by simp; omega)))
    have HQ := Lib.hid ((P7.below hb (by simp)))
    clear hb
    have p0 := HP.out.cell 0 rfl
    have p1 := HP.out.cell 1 rfl
    have p2 := HP.out.cell 2 rfl
    have p3 := HP.out.cell 3 rfl
    have p4 := HP.out.cell 4 rfl
    have p5 := HP.out.cell 5 rfl
    have p6 := HP.out.cell 6 rfl
    have p7 := HP.out.cell 7 rfl
    have p8 := HP.out.cell 8 rfl
    have p9 := HP.out.cell 9 rfl
    have p10 := HP.out.cell 10 rfl
    have p11 := HP.out.cell 11 rfl
    have q0 := HQ.out.cell 0 rfl
    have q1 := HQ.out.cell 1 rfl
    have q2 := HQ.out.cell 2 rfl
    have q3 := HQ.out.cell 3 rfl
    have q4 := HQ.out.cell 4 rfl
    have q5 := HQ.out.cell 5 rfl
    have q6 := HQ.out.cell 6 rfl
    have q7 := HQ.out.cell 7 rfl
    have q8 := HQ.out.cell 8 rfl
    have q9 := HQ.out.cell 9 rfl
    have q10 := HQ.out.cell 10 rfl
    have q11 := HQ.out.cell 11 rfl
    go_wp2
    go_ret
    exact ⟨rfl, HB1.out⟩
  have k2 : ¬ (300 : Int) < (M : Int) := by omega
  have HC1 := Lib.hid (fun wx (hb : Below w.heap.size w wx) => HC1.out wx hb (by omega))
  have HC2 := Lib.hid (fun wx (hb : Below w.heap.size w wx) => HC2.out wx hb (by omega))
  have HA40 := Lib.hid (HABL.out (by omega))
  by_cases h3 : C1 = 0
  case neg =>
    have k3 : ((C1 : Int) != 0) = true := bne_iff_ne.2 (by omega)
    have k4 : ¬ (C1 : Int) = 0 := by omega
    go_enter Try.func6, Try.ntmps6
    go_wp2_with fail
    refine (HA.out _).mono ?_
    rintro e w1 ⟨rfl, hb⟩
    have HB1 := Lib.hid (HB0.out.trans (hb.mono HB0.out.size))
    have HP := Lib.hid ((P4.below hb (by simp; omega)))
    have HQ := Lib.hid ((P7.below hb (by simp)))
    clear hb
    have p0 := HP.out.cell 0 rfl
    have p1 := HP.out.cell 1 rfl
    have p2 := HP.out.cell 2 rfl
    have p3 := HP.out.cell 3 rfl
    have p4 := HP.out.cell 4 rfl
    have p5 := HP.out.cell 5 rfl
    have p6 := HP.out.cell 6 rfl
    have p7 := HP.out.cell 7 rfl
    have p8 := HP.out.cell 8 rfl
    have p9 := HP.out.cell 9 rfl
    have p10 := HP.out.cell 10 rfl
    have p11 := HP.out.cell 11 rfl
    have q0 := HQ.out.cell 0 rfl
    have q1 := HQ.out.cell 1 rfl
    have q2 := HQ.out.cell 2 rfl
    have q3 := HQ.out.cell 3 rfl
    have q4 := HQ.out.cell 4 rfl
    have q5 := HQ.out.cell 5 rfl
    have q6 := HQ.out.cell 6 rfl
    have q7 := HQ.out.cell 7 rfl
    have q8 := HQ.out.cell 8 rfl
    have q9 := HQ.out.cell 9 rfl
    have q10 := HQ.out.cell 10 rfl
    have q11 := HQ.out.cell 11 rfl
    go_wp2_with fail
    refine (HC1.out _ HB1.out).mono ?_
    rintro e w2 ⟨rfl, hbx⟩
    have HB2 := Lib.hid (HB1.out.trans (hbx.mono HB1.out.size))
    have HP2 := Lib.hid (HP.out.below hbx HP.out.lt)
    have HQ2 := Lib.hid (HQ.out.below hbx HQ.out.lt)
    clear hbx p0 q0 p1 q1 p2 q2 p3 q3 p4 q4 p5 q5 p6 q6 p7 q7 p8 q8 p9 q9 p10 q10 p11 q11
    have p0 := HP2.out.cell 0 rfl
    have p1 := HP2.out.cell 1 rfl
    have p2 := HP2.out.cell 2 rfl
    have p3 := HP2.out.cell 3 rfl
    have p4 := HP2.out.cell 4 rfl
    have p5 := HP2.out.cell 5 rfl
    have p6 := HP2.out.cell 6 rfl
    have p7 := HP2.out.cell 7 rfl
    have p8 := HP2.out.cell 8 rfl
    have p9 := HP2.out.cell 9 rfl
    have p10 := HP2.out.cell 10 rfl
    have p11 := HP2.out.cell 11 rfl
    have q0 := HQ2.out.cell 0 rfl
    have q1 := HQ2.out.cell 1 rfl
    have q2 := HQ2.out.cell 2 rfl
    have q3 := HQ2.out.cell 3 rfl
    have q4 := HQ2.out.cell 4 rfl
    have q5 := HQ2.out.cell 5 rfl
    have q6 := HQ2.out.cell 6 rfl
    have q7 := HQ2.out.cell 7 rfl
    have q8 := HQ2.out.cell 8 rfl
    have q9 := HQ2.out.cell 9 rfl
    have q10 := HQ2.out.cell 10 rfl
    have q11 := HQ2.out.cell 11 rfl
    go_wp2
    go_ret
    exact ⟨rfl, HB2.out⟩
  subst h3
  by_cases h4 : C2 = 0
  case neg =>
    have k3 : ((C2 : Int) != 0) = true := bne_iff_ne.2 (by omega)
    have k4 : ¬ (C2 : Int) = 0 := by omega
    go_enter Try.func6, Try.ntmps6
    go_wp2_with fail
    refine (HA.out _).mono ?_
    rintro e w1 ⟨rfl, hb⟩
    have HB1 := Lib.hid (HB0.out.trans (hb.mono HB0.out.size))
    have HP := Lib.hid ((P4.below hb (by simp; omega)))
    have HQ := Lib.hid ((P7.below hb (by simp)))
    clear hb
    have p0 := HP.out.cell 0 rfl
    have p1 := HP.out.cell 1 rfl
    have p2 := HP.out.cell 2 rfl
    have p3 := HP.out.cell 3 rfl
    have p4 := HP.out.cell 4 rfl
    have p5 := HP.out.cell 5 rfl
    have p6 := HP.out.cell 6 rfl
    have p7 := HP.out.cell 7 rfl
    have p8 := HP.out.cell 8 rfl
    have p9 := HP.out.cell 9 rfl
    have p10 := HP.out.cell 10 rfl
    have p11 := HP.out.cell 11 rfl
    have q0 := HQ.out.cell 0 rfl
    have q1 := HQ.out.cell 1 rfl
    have q2 := HQ.out.cell 2 rfl
    have q3 := HQ.out.cell 3 rfl
    have q4 := HQ.out.cell 4 rfl
    have q5 := HQ.out.cell 5 rfl
    have q6 := HQ.out.cell 6 rfl
    have q7 := HQ.out.cell 7 rfl
    have q8 := HQ.out.cell 8 rfl
    have q9 := HQ.out.cell 9 rfl
    have q10 := HQ.out.cell 10 rfl
    have q11 := HQ.out.cell 11 rfl
    go_wp2_with fail
    refine (HC1.out _ HB1.out).mono ?_
    rintro e w2 ⟨rfl, hbx⟩
    have HB2 := Lib.hid (HB1.out.trans (hbx.mono HB1.out.size))
    have HP2 := Lib.hid (HP.out.below hbx HP.out.lt)
    have HQ2 := Lib.hid (HQ.out.below hbx HQ.out.lt)
    clear hbx p0 q0 p1 q1 p2 q2 p3 q3 p4 q4 p5 q5 p6 q6 p7 q7 p8 q8 p9 q9 p10 q10 p11 q11
    have p0 := HP2.out.cell 0 rfl
    have p1 := HP2.out.cell 1 rfl
    have p2 := HP2.out.cell 2 rfl
    have p3 := HP2.out.cell 3 rfl
    have p4 := HP2.out.cell 4 rfl
    have p5 := HP2.out.cell 5 rfl
    have p6 := HP2.out.cell 6 rfl
    have p7 := HP2.out.cell 7 rfl
    have p8 := HP2.out.cell 8 rfl
    have p9 := HP2.out.cell 9 rfl
    have p10 := HP2.out.cell 10 rfl
    have p11 := HP2.out.cell 11 rfl
    have q0 := HQ2.out.cell 0 rfl
    have q1 := HQ2.out.cell 1 rfl
    have q2 := HQ2.out.cell 2 rfl
    have q3 := HQ2.out.cell 3 rfl
    have q4 := HQ2.out.cell 4 rfl
    have q5 := HQ2.out.cell 5 rfl
    have q6 := HQ2.out.cell 6 rfl
    have q7 := HQ2.out.cell 7 rfl
    have q8 := HQ2.out.cell 8 rfl
    have q9 := HQ2.out.cell 9 rfl
    have q10 := HQ2.out.cell 10 rfl
    have q11 := HQ2.out.cell 11 rfl
    go_wp2_with fail
    refine (HC2.out _ HB2.out).mono ?_
    rintro e w3 ⟨rfl, hbx⟩
    have HB3 := Lib.hid (HB2.out.trans (hbx.mono HB2.out.size))
    have HP3 := Lib.hid (HP2.out.below hbx HP2.out.lt)
    have HQ3 := Lib.hid (HQ2.out.below hbx HQ2.out.lt)
    clear hbx p0 q0 p1 q1 p2 q2 p3 q3 p4 q4 p5 q5 p6 q6 p7 q7 p8 q8 p9 q9 p10 q10 p11 q11
    have p0 := HP3.out.cell 0 rfl
    have p1 := HP3.out.cell 1 rfl
    have p2 := HP3.out.cell 2 rfl
    have p3 := HP3.out.cell 3 rfl
    have p4 := HP3.out.cell 4 rfl
    have p5 := HP3.out.cell 5 rfl
    have p6 := HP3.out.cell 6 rfl
    have p7 := HP3.out.cell 7 rfl
    have p8 := HP3.out.cell 8 rfl
    have p9 := HP3.out.cell 9 rfl
    have p10 := HP3.out.cell 10 rfl
    have p11 := HP3.out.cell 11 rfl
    have q0 := HQ3.out.cell 0 rfl
    have q1 := HQ3.out.cell 1 rfl
    have q2 := HQ3.out.cell 2 rfl
    have q3 := HQ3.out.cell 3 rfl
    have q4 := HQ3.out.cell 4 rfl
    have q5 := HQ3.out.cell 5 rfl
    have q6 := HQ3.out.cell 6 rfl
    have q7 := HQ3.out.cell 7 rfl
    have q8 := HQ3.out.cell 8 rfl
    have q9 := HQ3.out.cell 9 rfl
    have q10 := HQ3.out.cell 10 rfl
    have q11 := HQ3.out.cell 11 rfl
    go_wp2
    go_ret
    exact ⟨rfl, HB3.out⟩
  subst h4
  have HSB := Lib.hid (HSB'.out rfl rfl)
  have HZ1 := Lib.hid (fun wx (hb : Below w.heap.size w wx) => HY1.out wx hb (Eq.refl 0))
  have HZ2 := Lib.hid (fun wx (hb : Below w.heap.size w wx) => HY2.out wx hb (Eq.refl 0))
  clear HABL HSB' HY1 HY2
  go_enter Try.func6, Try.ntmps6
  go_wp2_with fail
  refine (HA.out _).mono ?_
  rintro e w1 ⟨rfl, hb⟩
  have HB1 := Lib.hid (HB0.out.trans (hb.mono HB0.out.size))
  have HP := Lib.hid ((P4.below hb (by simp; omega)))
  have HQ := Lib.hid ((P7.below hb (by simp)))
  clear hb
  have p0 := HP.out.cell 0 rfl
  have p1 := HP.out.cell 1 rfl
  have p2 := HP.out.cell 2 rfl
  have p3 := HP.out.cell 3 rfl
  have p4 := HP.out.cell 4 rfl
  have p5 := HP.out.cell 5 rfl
  have p6 := HP.out.cell 6 rfl
  have p7 := HP.out.cell 7 rfl
  have p8 := HP.out.cell 8 rfl
  have p9 := HP.out.cell 9 rfl
  have p10 := HP.out.cell 10 rfl
  have p11 := HP.out.cell 11 rfl
  have q0 := HQ.out.cell 0 rfl
  have q1 := HQ.out.cell 1 rfl
  have q2 := HQ.out.cell 2 rfl
  have q3 := HQ.out.cell 3 rfl
  have q4 := HQ.out.cell 4 rfl
  have q5 := HQ.out.cell 5 rfl
  have q6 := HQ.out.cell 6 rfl
  have q7 := HQ.out.cell 7 rfl
  have q8 := HQ.out.cell 8 rfl
  have q9 := HQ.out.cell 9 rfl
  have q10 := HQ.out.cell 10 rfl
  have q11 := HQ.out.cell 11 rfl
  go_wp2_with fail
  refine (HC1.out _ HB1.out).mono ?_
  rintro e w2 ⟨rfl, hbx⟩
  have HB2 := Lib.hid (HB1.out.trans (hbx.mono HB1.out.size))
  have HP2 := Lib.hid (HP.out.below hbx HP.out.lt)
  have HQ2 := Lib.hid (HQ.out.below hbx HQ.out.lt)
  clear hbx p0 q0 p1 q1 p2 q2 p3 q3 p4 q4 p5 q5 p6 q6 p7 q7 p8 q8 p9 q9 p10 q10 p11 q11
  have p0 := HP2.out.cell 0 rfl
  have p1 := HP2.out.cell 1 rfl
  have p2 := HP2.out.cell 2 rfl
  have p3 := HP2.out.cell 3 rfl
  have p4 := HP2.out.cell 4 rfl
  have p5 := HP2.out.cell 5 rfl
  have p6 := HP2.out.cell 6 rfl
  have p7 := HP2.out.cell 7 rfl
  have p8 := HP2.out.cell 8 rfl
  have p9 := HP2.out.cell 9 rfl
  have p10 := HP2.out.cell 10 rfl
  have p11 := HP2.out.cell 11 rfl
  have q0 := HQ2.out.cell 0 rfl
  have q1 := HQ2.out.cell 1 rfl
  have q2 := HQ2.out.cell 2 rfl
  have q3 := HQ2.out.cell 3 rfl
  have q4 := HQ2.out.cell 4 rfl
  have q5 := HQ2.out.cell 5 rfl
  have q6 := HQ2.out.cell 6 rfl
  have q7 := HQ2.out.cell 7 rfl
  have q8 := HQ2.out.cell 8 rfl
  have q9 := HQ2.out.cell 9 rfl
  have q10 := HQ2.out.cell 10 rfl
  have q11 := HQ2.out.cell 11 rfl
  go_wp2_with fail
  refine (HC2.out _ HB2.out).mono ?_
  rintro e w3 ⟨rfl, hbx⟩
  have HB3 := Lib.hid (HB2.out.trans (hbx.mono HB2.out.size))
  have HP3 := Lib.hid (HP2.out.below hbx HP2.out.lt)
  have HQ3 := Lib.hid (HQ2.out.below hbx HQ2.out.lt)
  clear hbx p0 q0 p1 q1 p2 q2 p3 q3 p4 q4 p5 q5 p6 q6 p7 q7 p8 q8 p9 q9 p10 q10 p11 q11
  have p0 := HP3.out.cell 0 rfl
  have p1 := HP3.out.cell 1 rfl
  have p2 := HP3.out.cell 2 rfl
  have p3 := HP3.out.cell 3 rfl
  have p4 := HP3.out.cell 4 rfl
  have p5 := HP3.out.cell 5 rfl
  have p6 := HP3.out.cell 6 rfl
  have p7 := HP3.out.cell 7 rfl
  have p8 := HP3.out.cell 8 rfl
  have p9 := HP3.out.cell 9 rfl
  have p10 := HP3.out.cell 10 rfl
  have p11 := HP3.out.cell 11 rfl
  have q0 := HQ3.out.cell 0 rfl
  have q1 := HQ3.out.cell 1 rfl
  have q2 := HQ3.out.cell 2 rfl
  have q3 := HQ3.out.cell 3 rfl
  have q4 := HQ3.out.cell 4 rfl
  have q5 := HQ3.out.cell 5 rfl
  have q6 := HQ3.out.cell 6 rfl
  have q7 := HQ3.out.cell 7 rfl
  have q8 := HQ3.out.cell 8 rfl
  have q9 := HQ3.out.cell 9 rfl
  have q10 := HQ3.out.cell 10 rfl
  have q11 := HQ3.out.cell 11 rfl
  go_wp2_with fail
  refine (HO1.out _).mono ?_
  rintro e w4 ⟨rfl, hbx⟩
  have HB4 := Lib.hid (HB3.out.trans (hbx.mono HB3.out.size))
  have HP4 := Lib.hid (HP3.out.below hbx HP3.out.lt)
  have HQ4 := Lib.hid (HQ3.out.below hbx HQ3.out.lt)
  clear hbx p0 q0 p1 q1 p2 q2 p3 q3 p4 q4 p5 q5 p6 q6 p7 q7 p8 q8 p9 q9 p10 q10 p11 q11
  have p0 := HP4.out.cell 0 rfl
  have p1 := HP4.out.cell 1 rfl
  have p2 := HP4.out.cell 2 rfl
  have p3 := HP4.out.cell 3 rfl
  have p4 := HP4.out.cell 4 rfl
  have p5 := HP4.out.cell 5 rfl
  have p6 := HP4.out.cell 6 rfl
  have p7 := HP4.out.cell 7 rfl
  have p8 := HP4.out.cell 8 rfl
  have p9 := HP4.out.cell 9 rfl
  have p10 := HP4.out.cell 10 rfl
  have p11 := HP4.out.cell 11 rfl
  have q0 := HQ4.out.cell 0 rfl
  have q1 := HQ4.out.cell 1 rfl
  have q2 := HQ4.out.cell 2 rfl
  have q3 := HQ4.out.cell 3 rfl
  have q4 := HQ4.out.cell 4 rfl
  have q5 := HQ4.out.cell 5 rfl
  have q6 := HQ4.out.cell 6 rfl
  have q7 := HQ4.out.cell 7 rfl
  have q8 := HQ4.out.cell 8 rfl
  have q9 := HQ4.out.cell 9 rfl
  have q10 := HQ4.out.cell 10 rfl
  have q11 := HQ4.out.cell 11 rfl
  go_wp2_with fail
  refine (HZ1.out _ HB4.out).mono ?_
  rintro e w5 ⟨ay, ak, rfl, hown5, hbx⟩
  have HB5 := Lib.hid (HB4.out.trans (hbx.mono HB4.out.size))
  have HP5 := Lib.hid (HP4.out.below hbx HP4.out.lt)
  have HQ5 := Lib.hid (HQ4.out.below hbx HQ4.out.lt)
  have HI5 := Lib.hid (show IsB w5 (.slice ay AL ak) la from IsB.own hown5 HAL.out.symm)
  clear hown5
  clear hbx p0 q0 p1 q1 p2 q2 p3 q3 p4 q4 p5 q5 p6 q6 p7 q7 p8 q8 p9 q9 p10 q10 p11 q11
  have p0 := HP5.out.cell 0 rfl
  have p1 := HP5.out.cell 1 rfl
  have p2 := HP5.out.cell 2 rfl
  have p3 := HP5.out.cell 3 rfl
  have p4 := HP5.out.cell 4 rfl
  have p5 := HP5.out.cell 5 rfl
  have p6 := HP5.out.cell 6 rfl
  have p7 := HP5.out.cell 7 rfl
  have p8 := HP5.out.cell 8 rfl
  have p9 := HP5.out.cell 9 rfl
  have p10 := HP5.out.cell 10 rfl
  have p11 := HP5.out.cell 11 rfl
  have q0 := HQ5.out.cell 0 rfl
  have q1 := HQ5.out.cell 1 rfl
  have q2 := HQ5.out.cell 2 rfl
  have q3 := HQ5.out.cell 3 rfl
  have q4 := HQ5.out.cell 4 rfl
  have q5 := HQ5.out.cell 5 rfl
  have q6 := HQ5.out.cell 6 rfl
  have q7 := HQ5.out.cell 7 rfl
  have q8 := HQ5.out.cell 8 rfl
  have q9 := HQ5.out.cell 9 rfl
  have q10 := HQ5.out.cell 10 rfl
  have q11 := HQ5.out.cell 11 rfl
  go_wp2_with fail
  refine (HO2.out _).mono ?_
  rintro e w6 ⟨rfl, hbx⟩
  have HB6 := Lib.hid (HB5.out.trans (hbx.mono HB5.out.size))
  have HP6 := Lib.hid (HP5.out.below hbx HP5.out.lt)
  have HQ6 := Lib.hid (HQ5.out.below hbx HQ5.out.lt)
  have HI6 := Lib.hid (HI5.out.mono hbx (Nat.le_refl _))
  clear hbx p0 q0 p1 q1 p2 q2 p3 q3 p4 q4 p5 q5 p6 q6 p7 q7 p8 q8 p9 q9 p10 q10 p11 q11
  have p0 := HP6.out.cell 0 rfl
  have p1 := HP6.out.cell 1 rfl
  have p2 := HP6.out.cell 2 rfl
  have p3 := HP6.out.cell 3 rfl
  have p4 := HP6.out.cell 4 rfl
  have p5 := HP6.out.cell 5 rfl
  have p6 := HP6.out.cell 6 rfl
  have p7 := HP6.out.cell 7 rfl
  have p8 := HP6.out.cell 8 rfl
  have p9 := HP6.out.cell 9 rfl
  have p10 := HP6.out.cell 10 rfl
  have p11 := HP6.out.cell 11 rfl
  have q0 := HQ6.out.cell 0 rfl
  have q1 := HQ6.out.cell 1 rfl
  have q2 := HQ6.out.cell 2 rfl
  have q3 := HQ6.out.cell 3 rfl
  have q4 := HQ6.out.cell 4 rfl
  have q5 := HQ6.out.cell 5 rfl
  have q6 := HQ6.out.cell 6 rfl
  have q7 := HQ6.out.cell 7 rfl
  have q8 := HQ6.out.cell 8 rfl
  have q9 := HQ6.out.cell 9 rfl
  have q10 := HQ6.out.cell 10 rfl
  have q11 := HQ6.out.cell 11 rfl
  go_wp2_with fail
  refine (HZ2.out _ HB6.out).mono ?_
  rintro e w7 ⟨by7, bk, rfl, hown7, hbx⟩
  have HB7 := Lib.hid (HB6.out.trans (hbx.mono HB6.out.size))
  have HP7 := Lib.hid (HP6.out.below hbx HP6.out.lt)
  have HQ7 := Lib.hid (HQ6.out.below hbx HQ6.out.lt)
  have HI7 := Lib.hid (HI6.out.mono hbx (Nat.le_refl _))
  have HJ7 := Lib.hid (show IsB w7 (.slice by7 BL bk) lb from IsB.own hown7 HBL.out.symm)
  clear hown7
  clear hbx p0 q0 p1 q1 p2 q2 p3 q3 p4 q4 p5 q5 p6 q6 p7 q7 p8 q8 p9 q9 p10 q10 p11 q11
  have p0 := HP7.out.cell 0 rfl
  have p1 := HP7.out.cell 1 rfl
  have p2 := HP7.out.cell 2 rfl
  have p3 := HP7.out.cell 3 rfl
  have p4 := HP7.out.cell 4 rfl
  have p5 := HP7.out.cell 5 rfl
  have p6 := HP7.out.cell 6 rfl
  have p7 := HP7.out.cell 7 rfl
  have p8 := HP7.out.cell 8 rfl
  have p9 := HP7.out.cell 9 rfl
  have p10 := HP7.out.cell 10 rfl
  have p11 := HP7.out.cell 11 rfl
  have q0 := HQ7.out.cell 0 rfl
  have q1 := HQ7.out.cell 1 rfl
  have q2 := HQ7.out.cell 2 rfl
  have q3 := HQ7.out.cell 3 rfl
  have q4 := HQ7.out.cell 4 rfl
  have q5 := HQ7.out.cell 5 rfl
  have q6 := HQ7.out.cell 6 rfl
  have q7 := HQ7.out.cell 7 rfl
  have q8 := HQ7.out.cell 8 rfl
  have q9 := HQ7.out.cell 9 rfl
  have q10 := HQ7.out.cell 10 rfl
  have q11 := HQ7.out.cell 11 rfl
  obtain ⟨sv, hsv, hisv⟩ := slice_h_B (P := Try.prog) HI7.out 22 5 Try.underlying22 Try.sizeU8 R (by rw [HAL.out]; have := HA28.out; omega)
  have HRD := Lib.hid (wread_v sv (la.take R) w7 hisv (by rw [List.length_take]; omega))
  rw [(mcode_short (l := la.take R) (by rw [List.length_take]; omega)).1, (mcode_short (l := la.take R) (by rw [List.length_take]; omega)).2] at HRD
  have HRD2 := Lib.hid (show Calls Try.prog 8 #[sv] w7 (fun e w' => ∃ rx rc, e = .returned (.tuple #[.agg #[.int .i64 0, .int .i64 0, .int .i64 0, .int .i64 0, .int .i64 0, .int .u64 0, .int .i64 0, .bool false, .int .u64 0, .int .u32 0, .bool false, .slice rx 0 rc], cerr 3]) ∧ Below w7.heap.size w7 w') from by
    refine HRD.out.mono ?_
    rintro e w' ⟨rx, rc, rfl, _, _, hb⟩
    exact ⟨rx, rc, rfl, hb⟩)
  clear hisv HRD
  go_wp2_with fail
  refine HRD2.out.mono ?_
  rintro e w8 ⟨rx, rc, rfl, hbx⟩
  have hP := (HP7.out.below hbx HP7.out.lt).alloc (.cells #[.int .i64 0, .int .i64 0, .int .i64 0, .int .i64 0, .int .i64 0, .int .u64 0, .int .i64 0, .bool false, .int .u64 0, .int .u32 0, .bool false, .slice rx 0 rc] 29)
  have hQ := (HQ7.out.below hbx HQ7.out.lt).alloc (.cells #[.int .i64 0, .int .i64 0, .int .i64 0, .int .i64 0, .int .i64 0, .int .u64 0, .int .i64 0, .bool false, .int .u64 0, .int .u32 0, .bool false, .slice rx 0 rc] 29)
  have hB0 := HB7.out.trans (hbx.mono HB7.out.size)
  have hB := hB0.alloc hB0.size (.cells #[.int .i64 0, .int .i64 0, .int .i64 0, .int .i64 0, .int .i64 0, .int .u64 0, .int .i64 0, .bool false, .int .u64 0, .int .u32 0, .bool false, .slice rx 0 rc] 29)
  have hI := (HI7.out.mono hbx (Nat.le_refl _)).mono (below_alloc14 w8 (.cells #[.int .i64 0, .int .i64 0, .int .i64 0, .int .i64 0, .int .i64 0, .int .u64 0, .int .i64 0, .bool false, .int .u64 0, .int .u32 0, .bool false, .slice rx 0 rc] 29)) (Nat.le_refl _)
  have hJ := (HJ7.out.mono hbx (Nat.le_refl _)).mono (below_alloc14 w8 (.cells #[.int .i64 0, .int .i64 0, .int .i64 0, .int .i64 0, .int .i64 0, .int .u64 0, .int .i64 0, .bool false, .int .u64 0, .int .u32 0, .bool false, .slice rx 0 rc] 29)) (Nat.le_refl _)
  go_upto_region 8 with fail
  obtain ⟨w9, hw9⟩ : ∃ w9, w8.alloc (.cells #[.int .i64 0, .int .i64 0, .int .i64 0, .int .i64 0, .int .i64 0, .int .u64 0, .int .i64 0, .bool false, .int .u64 0, .int .u32 0, .bool false, .slice rx 0 rc] 29) = w9 := ⟨_, rfl⟩
  rw [hw9] at hP hQ hB hI hJ
  try rw [hw9]
  have HP9 := Lib.hid hP
  have HQ9 := Lib.hid hQ
  have HB9 := Lib.hid hB
  have HI9 := Lib.hid hI
  have HJ9 := Lib.hid hJ
  clear hP hQ hB hI hJ hw9 hbx hB0 p0 q0 p1 q1 p2 q2 p3 q3 p4 q4 p5 q5 p6 q6 p7 q7 p8 q8 p9 q9 p10 q10 p11 q11
  have HS := Lib.hid (show ∀ wx, Below w9.heap.size w9 wx → (fun wx => (wx.cell? ⟨w.heap.size, 0, none⟩ = some (.int .i64 mfr) ∧ wx.cell? ⟨w.heap.size, 1, none⟩ = some (.int .i64 mtt) ∧ wx.cell? ⟨w.heap.size, 2, none⟩ = some (.int .i64 mkd) ∧ wx.cell? ⟨w.heap.size, 3, none⟩ = some (.int .i64 mvo) ∧ wx.cell? ⟨w.heap.size, 4, none⟩ = some (.int .i64 mli) ∧ wx.cell? ⟨w.heap.size, 5, none⟩ = some (.int .u64 (mid : Int)) ∧ wx.cell? ⟨w.heap.size, 6, none⟩ = some (.int .i64 mco) ∧ wx.cell? ⟨w.heap.size, 7, none⟩ = some (.bool mhas) ∧ wx.cell? ⟨w.heap.size, 8, none⟩ = some (.int .u64 (mkey : Int)) ∧ wx.cell? ⟨w.heap.size, 9, none⟩ = some (.int .u32 (mck : Int)) ∧ wx.cell? ⟨w.heap.size, 10, none⟩ = some (.bool mgn) ∧ wx.cell? ⟨w.heap.size, 11, none⟩ = some (.slice x L c)) ∧ (wx.cell? ⟨w.heap.size + 1, 0, none⟩ = some (.int .i64 nfr) ∧ wx.cell? ⟨w.heap.size + 1, 1, none⟩ = some (.int .i64 ntt) ∧ wx.cell? ⟨w.heap.size + 1, 2, none⟩ = some (.int .i64 nkd) ∧ wx.cell? ⟨w.heap.size + 1, 3, none⟩ = some (.int .i64 nvo) ∧ wx.cell? ⟨w.heap.size + 1, 4, none⟩ = some (.int .i64 nli) ∧ wx.cell? ⟨w.heap.size + 1, 5, none⟩ = some (.int .u64 (nid : Int)) ∧ wx.cell? ⟨w.heap.size + 1, 6, none⟩ = some (.int .i64 nco) ∧ wx.cell? ⟨w.heap.size + 1, 7, none⟩ = some (.bool nhas) ∧ wx.cell? ⟨w.heap.size + 1, 8, none⟩ = some (.int .u64 (nkey : Int)) ∧ wx.cell? ⟨w.heap.size + 1, 9, none⟩ = some (.int .u32 (nck : Int)) ∧ wx.cell? ⟨w.heap.size + 1, 10, none⟩ = some (.bool ngn) ∧ wx.cell? ⟨w.heap.size + 1, 11, none⟩ = some (.slice y M k))) wx from fun wx hb => by
    have h1 := HP9.out.below hb HP9.out.lt
    have h2 := HQ9.out.below hb HQ9.out.lt
    exact ⟨⟨h1.cell 0 rfl, h1.cell 1 rfl, h1.cell 2 rfl, h1.cell 3 rfl, h1.cell 4 rfl, h1.cell 5 rfl, h1.cell 6 rfl, h1.cell 7 rfl, h1.cell 8 rfl, h1.cell 9 rfl, h1.cell 10 rfl, h1.cell 11 rfl⟩, ⟨h2.cell 0 rfl, h2.cell 1 rfl, h2.cell 2 rfl, h2.cell 3 rfl, h2.cell 4 rfl, h2.cell 5 rfl, h2.cell 6 rfl, h2.cell 7 rfl, h2.cell 8 rfl, h2.cell 9 rfl, h2.cell 10 rfl, h2.cell 11 rfl⟩⟩)
  have HSM := Lib.hid (fun wx (hb : Below w9.heap.size w9 wx) => HSM.out wx (HB9.out.trans (hb.mono HB9.out.size)))
  have U0 := Lib.hid ((Below.refl w9.heap.size w9).drew)
  refine AnyE.start (S := (fun wx => (wx.cell? ⟨w.heap.size, 0, none⟩ = some (.int .i64 mfr) ∧ wx.cell? ⟨w.heap.size, 1, none⟩ = some (.int .i64 mtt) ∧ wx.cell? ⟨w.heap.size, 2, none⟩ = some (.int .i64 mkd) ∧ wx.cell? ⟨w.heap.size, 3, none⟩ = some (.int .i64 mvo) ∧ wx.cell? ⟨w.heap.size, 4, none⟩ = some (.int .i64 mli) ∧ wx.cell? ⟨w.heap.size, 5, none⟩ = some (.int .u64 (mid : Int)) ∧ wx.cell? ⟨w.heap.size, 6, none⟩ = some (.int .i64 mco) ∧ wx.cell? ⟨w.heap.size, 7, none⟩ = some (.bool mhas) ∧ wx.cell? ⟨w.heap.size, 8, none⟩ = some (.int .u64 (mkey : Int)) ∧ wx.cell? ⟨w.heap.size, 9, none⟩ = some (.int .u32 (mck : Int)) ∧ wx.cell? ⟨w.heap.size, 10, none⟩ = some (.bool mgn) ∧ wx.cell? ⟨w.heap.size, 11, none⟩ = some (.slice x L c)) ∧ (wx.cell? ⟨w.heap.size + 1, 0, none⟩ = some (.int .i64 nfr) ∧ wx.cell? ⟨w.heap.size + 1, 1, none⟩ = some (.int .i64 ntt) ∧ wx.cell? ⟨w.heap.size + 1, 2, none⟩ = some (.int .i64 nkd) ∧ wx.cell? ⟨w.heap.size + 1, 3, none⟩ = some (.int .i64 nvo) ∧ wx.cell? ⟨w.heap.size + 1, 4, none⟩ = some (.int .i64 nli) ∧ wx.cell? ⟨w.heap.size + 1, 5, none⟩ = some (.int .u64 (nid : Int)) ∧ wx.cell? ⟨w.heap.size + 1, 6, none⟩ = some (.int .i64 nco) ∧ wx.cell? ⟨w.heap.size + 1, 7, none⟩ = some (.bool nhas) ∧ wx.cell? ⟨w.heap.size + 1, 8, none⟩ = some (.int .u64 (nkey : Int)) ∧ wx.cell? ⟨w.heap.size + 1, 9, none⟩ = some (.int .u32 (nck : Int)) ∧ wx.cell? ⟨w.heap.size + 1, 10, none⟩ = some (.bool ngn) ∧ wx.cell? ⟨w.heap.size + 1, 11, none⟩ = some (.slice y M k)))) 22 (by kernel_rfl) (HS.out _ U0.out) (fun hHeld => ?_)
  obtain ⟨q0, hq0⟩ : ∃ q0, w9.drew = q0 := ⟨_, rfl⟩
  rw [hq0] at U0 hHeld
  rw [hq0]
  clear hq0
  refine AnyE.take (i := 0) (v := ?_) rfl (by kernel_rfl) (by kernel_rfl) (by kernel_rfl) (by kernel_rfl) (fun _ _ _ h => h) (Or.inl ⟨by rfl, ?_⟩) (by assumption) ?_
  rotate_left 1
  · intro w hSw
    (try dsimp only at hSw)
    go_simp
    all_goals (with_reducible rfl)
  try simp only [Act.put, List.getElem_toArray, List.getElem_cons_zero, List.getElem_cons_succ, List.setIfInBounds_toArray, List.set_cons_zero, List.set_cons_succ]
  refine AnyE.take (i := 2) (v := ?_) rfl (by kernel_rfl) (by kernel_rfl) (by kernel_rfl) (by kernel_rfl) (fun _ _ _ h => h) (Or.inl ⟨by rfl, ?_⟩) (by assumption) ?_
  rotate_left 1
  · intro w hSw
    (try dsimp only at hSw)
    go_simp
    all_goals (with_reducible rfl)
  try simp only [Act.put, List.getElem_toArray, List.getElem_cons_zero, List.getElem_cons_succ, List.setIfInBounds_toArray, List.set_cons_zero, List.set_cons_succ]
  refine AnyE.next (rs := [1]) (by kernel_rfl) (by simp) ?_
  refine AllE.cons rfl (fun K hK => ?_) AllE.nil
  go_simp
  refine (code_nil _).mono ?_
  rintro e u1 ⟨rfl, rfl⟩
  refine hK.out _ _ (HS.out _ U0.out) (fun hHeld => ?_)
  clear hK K
  try simp only [Act.put, List.getElem_toArray, List.getElem_cons_zero, List.getElem_cons_succ, List.setIfInBounds_toArray, List.set_cons_zero, List.set_cons_succ]
  refine AnyE.next (rs := [3]) (by kernel_rfl) (by simp) ?_
  refine AllE.cons rfl (fun K hK => ?_) AllE.nil
  go_simp
  refine (code_nil _).mono ?_
  rintro e u2 ⟨rfl, rfl⟩
  refine hK.out _ _ (HS.out _ U0.out) (fun hHeld => ?_)
  clear hK K
  try simp only [Act.put, List.getElem_toArray, List.getElem_cons_zero, List.getElem_cons_succ, List.setIfInBounds_toArray, List.set_cons_zero, List.set_cons_succ]
  refine AnyE.take (i := 4) (v := ?_) rfl (by kernel_rfl) (by kernel_rfl) (by kernel_rfl) (by kernel_rfl) (fun _ _ _ h => h) (Or.inl ⟨by rfl, ?_⟩) (by assumption) ?_
  rotate_left 1
  · intro w hSw
    (try dsimp only at hSw)
    go_simp
    all_goals (with_reducible rfl)
  try simp only [Act.put, List.getElem_toArray, List.getElem_cons_zero, List.getElem_cons_succ, List.setIfInBounds_toArray, List.set_cons_zero, List.set_cons_succ]
  refine AnyE.take (i := 5) (v := ?_) rfl (by kernel_rfl) (by kernel_rfl) (by kernel_rfl) (by kernel_rfl) (fun _ _ _ h => h) (Or.inl ⟨by rfl, ?_⟩) (by assumption) ?_
  rotate_left 1
  · intro w hSw
    (try dsimp only at hSw)
    go_simp
    all_goals (with_reducible rfl)
  try simp only [Act.put, List.getElem_toArray, List.getElem_cons_zero, List.getElem_cons_succ, List.setIfInBounds_toArray, List.set_cons_zero, List.set_cons_succ]
  refine AnyE.take (i := 6) (v := ?_) rfl (by kernel_rfl) (by kernel_rfl) (by kernel_rfl) (by kernel_rfl) (fun _ _ _ h => h) (Or.inl ⟨by rfl, ?_⟩) (by assumption) ?_
  rotate_left 1
  · intro w hSw
    (try dsimp only at hSw)
    go_simp
    all_goals (with_reducible rfl)
  try simp only [Act.put, List.getElem_toArray, List.getElem_cons_zero, List.getElem_cons_succ, List.setIfInBounds_toArray, List.set_cons_zero, List.set_cons_succ]
  refine AnyE.take (i := 7) (v := ?_) rfl (by kernel_rfl) (by kernel_rfl) (by kernel_rfl) (by kernel_rfl) (fun _ _ _ h => h) (Or.inl ⟨by rfl, ?_⟩) (by assumption) ?_
  rotate_left 1
  · intro w hSw
    (try dsimp only at hSw)
    go_simp
    all_goals (with_reducible rfl)
  try simp only [Act.put, List.getElem_toArray, List.getElem_cons_zero, List.getElem_cons_succ, List.setIfInBounds_toArray, List.set_cons_zero, List.set_cons_succ]
  refine AnyE.take (i := 8) (v := ?_) rfl (by kernel_rfl) (by kernel_rfl) (by kernel_rfl) (by kernel_rfl) (fun _ _ _ h => h) (Or.inl ⟨by rfl, ?_⟩) (by assumption) ?_
  rotate_left 1
  · intro w hSw
    (try dsimp only at hSw)
    go_simp
    all_goals (with_reducible rfl)
  try simp only [Act.put, List.getElem_toArray, List.getElem_cons_zero, List.getElem_cons_succ, List.setIfInBounds_toArray, List.set_cons_zero, List.set_cons_succ]
  refine AnyE.take (i := 10) (v := ?_) rfl (by kernel_rfl) (by kernel_rfl) (by kernel_rfl) (by kernel_rfl) (fun _ _ _ h => h) (Or.inl ⟨by rfl, ?_⟩) (by assumption) ?_
  rotate_left 1
  · intro w hSw
    (try dsimp only at hSw)
    go_simp
    all_goals (with_reducible rfl)
  try simp only [Act.put, List.getElem_toArray, List.getElem_cons_zero, List.getElem_cons_succ, List.setIfInBounds_toArray, List.set_cons_zero, List.set_cons_succ]
  refine AnyE.take (i := 12) (v := ?_) rfl (by kernel_rfl) (by kernel_rfl) (by kernel_rfl) (by kernel_rfl) (fun _ _ _ h => h) (Or.inl ⟨by rfl, ?_⟩) (by assumption) ?_
  rotate_left 1
  · intro w hSw
    (try dsimp only at hSw)
    go_simp
    all_goals (with_reducible rfl)
  try simp only [Act.put, List.getElem_toArray, List.getElem_cons_zero, List.getElem_cons_succ, List.setIfInBounds_toArray, List.set_cons_zero, List.set_cons_succ]
  refine AnyE.next (rs := [9]) (by kernel_rfl) (by simp) ?_
  refine AllE.cons rfl (fun K hK => ?_) AllE.nil
  go_simp
  refine (same_any (.slice ay AL ak) (.slice by7 BL bk) la lb _ (HI9.out.mono U0.out (Nat.le_refl _)) (HJ9.out.mono U0.out (Nat.le_refl _)) (by rw [HAL.out]; exact HA40.out)).mono ?_
  rintro e u3 ⟨rfl, hnx⟩
  rw [HSB.out]
  have hbx := drewn_below14 hnx
  clear hnx
  have U3 := Lib.hid (U0.out.trans (hbx.mono U0.out.size))
  clear hbx
  refine hK.out _ _ (HS.out _ U3.out) (fun hHeld => ?_)
  clear hK K
  try simp only [Act.put, List.getElem_toArray, List.getElem_cons_zero, List.getElem_cons_succ, List.setIfInBounds_toArray, List.set_cons_zero, List.set_cons_succ]
  refine AnyE.next (rs := [11]) (by kernel_rfl) (by simp) ?_
  refine AllE.cons rfl (fun K hK => ?_) AllE.nil
  go_simp
  refine (HO1.out _).mono ?_
  rintro e u4 ⟨rfl, hbx⟩
  have U4 := Lib.hid (U3.out.trans (hbx.mono U3.out.size))
  clear hbx
  refine hK.out _ _ (HS.out _ U4.out) (fun hHeld => ?_)
  clear hK K
  try simp only [Act.put, List.getElem_toArray, List.getElem_cons_zero, List.getElem_cons_succ, List.setIfInBounds_toArray, List.set_cons_zero, List.set_cons_succ]
  refine AnyE.next (rs := [13]) (by kernel_rfl) (by simp) ?_
  refine AllE.cons rfl (fun K hK => ?_) AllE.nil
  go_simp
  refine (HO2.out _).mono ?_
  rintro e u5 ⟨rfl, hbx⟩
  have U5 := Lib.hid (U4.out.trans (hbx.mono U4.out.size))
  clear hbx
  refine hK.out _ _ (HS.out _ U5.out) (fun hHeld => ?_)
  clear hK K
  try simp only [Act.put, List.getElem_toArray, List.getElem_cons_zero, List.getElem_cons_succ, List.setIfInBounds_toArray, List.set_cons_zero, List.set_cons_succ]
  refine AnyE.next (rs := [14]) (by kernel_rfl) (by simp) ?_
  refine AllE.cons rfl (fun K hK => ?_) AllE.nil
  go_simp
  refine (HSM.out _ U5.out).mono ?_
  rintro e u6 ⟨rfl, hbx⟩
  have U6 := Lib.hid (U5.out.trans (hbx.mono U5.out.size))
  clear hbx
  refine hK.out _ _ (HS.out _ U6.out) (fun hHeld => ?_)
  clear hK K
  try simp only [Act.put, List.getElem_toArray, List.getElem_cons_zero, List.getElem_cons_succ, List.setIfInBounds_toArray, List.set_cons_zero, List.set_cons_succ]
  refine AnyE.take (i := 15) (v := ?_) rfl (by kernel_rfl) (by kernel_rfl) (by kernel_rfl) (by kernel_rfl) (fun _ _ _ h => h) (Or.inl ⟨by rfl, ?_⟩) (by assumption) ?_
  rotate_left 1
  · intro w hSw
    (try dsimp only at hSw)
    go_simp
    all_goals (with_reducible rfl)
  try simp only [Act.put, List.getElem_toArray, List.getElem_cons_zero, List.getElem_cons_succ, List.setIfInBounds_toArray, List.set_cons_zero, List.set_cons_succ]
  refine AnyE.take (i := 16) (v := ?_) rfl (by kernel_rfl) (by kernel_rfl) (by kernel_rfl) (by kernel_rfl) (fun _ _ _ h => h) (Or.inl ⟨by rfl, ?_⟩) (by assumption) ?_
  rotate_left 1
  · intro w hSw
    (try dsimp only at hSw)
    go_simp
    all_goals (with_reducible rfl)
  try simp only [Act.put, List.getElem_toArray, List.getElem_cons_zero, List.getElem_cons_succ, List.setIfInBounds_toArray, List.set_cons_zero, List.set_cons_succ]
  refine AnyE.take (i := 17) (v := ?_) rfl (by kernel_rfl) (by kernel_rfl) (by kernel_rfl) (by kernel_rfl) (fun _ _ _ h => h) (Or.inl ⟨by rfl, ?_⟩) (by assumption) ?_
  rotate_left 1
  · intro w hSw
    (try dsimp only at hSw)
    go_simp
    all_goals (with_reducible rfl)
  try simp only [Act.put, List.getElem_toArray, List.getElem_cons_zero, List.getElem_cons_succ, List.setIfInBounds_toArray, List.set_cons_zero, List.set_cons_succ]
  refine AnyE.take (i := 18) (v := ?_) rfl (by kernel_rfl) (by kernel_rfl) (by kernel_rfl) (by kernel_rfl) (fun _ _ _ h => h) (Or.inl ⟨by rfl, ?_⟩) (by assumption) ?_
  rotate_left 1
  · intro w hSw
    (try dsimp only at hSw)
    go_simp
    all_goals (with_reducible rfl)
  try simp only [Act.put, List.getElem_toArray, List.getElem_cons_zero, List.getElem_cons_succ, List.setIfInBounds_toArray, List.set_cons_zero, List.set_cons_succ]
  refine AnyE.next (rs := [19]) (by kernel_rfl) (by simp) ?_
  refine AllE.cons rfl (fun K hK => ?_) AllE.nil
  go_simp
  refine (code_cerr 3 _ (by decide)).mono ?_
  rintro e u7 ⟨rfl, rfl⟩
  refine hK.out _ _ (HS.out _ U6.out) (fun hHeld => ?_)
  clear hK K
  try simp only [Act.put, List.getElem_toArray, List.getElem_cons_zero, List.getElem_cons_succ, List.setIfInBounds_toArray, List.set_cons_zero, List.set_cons_succ]
  refine AnyE.take (i := 20) (v := ?_) rfl (by kernel_rfl) (by kernel_rfl) (by kernel_rfl) (by kernel_rfl) (fun _ _ _ h => h) (Or.inl ⟨by rfl, ?_⟩) (by assumption) ?_
  rotate_left 1
  · intro w hSw
    (try dsimp only at hSw)
    go_simp
    all_goals (with_reducible rfl)
  try simp only [Act.put, List.getElem_toArray, List.getElem_cons_zero, List.getElem_cons_succ, List.setIfInBounds_toArray, List.set_cons_zero, List.set_cons_succ]
  refine AnyE.take (i := 21) (v := ?_) rfl (by kernel_rfl) (by kernel_rfl) (by kernel_rfl) (by kernel_rfl) (fun _ _ _ h => h) (Or.inl ⟨by rfl, ?_⟩) (by assumption) ?_
  rotate_left 1
  · intro w hSw
    (try dsimp only at hSw)
    go_simp
    all_goals (with_reducible rfl)
  try simp only [Act.put, List.getElem_toArray, List.getElem_cons_zero, List.getElem_cons_succ, List.setIfInBounds_toArray, List.set_cons_zero, List.set_cons_succ]
  refine AnyE.next (rs := [22]) (by kernel_rfl) (by simp) ?_
  refine AllE.last rfl (fun K hK => ?_)
  go_simp
  refine hK.out _ _ ?_
  clear hK K
  try simp only [Act.put, List.getElem_toArray, List.getElem_cons_zero, List.getElem_cons_succ, List.setIfInBounds_toArray, List.set_cons_zero, List.set_cons_succ]
  refine AnyE.done (by kernel_rfl) ?_ _
  go_wp2
  go_ret
  exact ⟨rfl, HB9.out.trans (U6.out.mono HB9.out.size)⟩

end Go.Proofs.Ytallmcminlnnaaa
