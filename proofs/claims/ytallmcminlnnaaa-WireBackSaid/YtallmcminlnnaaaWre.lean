/- Package corncriblaw14: WireBack. -/
import Derived.Test.YtallmcminlnnaaaWra
import Derived.Test.YtallmcminlnnaaaLaw02
set_option linter.unusedVariables false
set_option linter.unusedSimpArgs false
namespace Go.Proofs.Ytallmcminlnnaaa
open Go.RowKit Go.Cor

set_option maxRecDepth 100000 in
set_option maxHeartbeats 8000000 in
theorem wireBack_all (m : Msg) (x : Option Addr) (L c : Nat) (q0 : Nat) (w : World) (hm : IsB w (.slice x L c) m.n.data) (hmf : m.n.fits) (hid : m.id < 18446744073709551616) (hq0 : q0 < 65536) :
    Calls Try.prog 4 #[mval m (.slice x L c), .int .u16 (q0 : Int)] w fun e w' => e = .returned (.bool true) ∧ Below w.heap.size w w' := by
  have hL : m.n.data.length = L := by obtain ⟨a, cp, e, _⟩ := hm; cases e; rfl
  have HA := Lib.hid (fun wx => alive14 wx)
  have HC1 := Lib.hid (fun wx (hb : Below w.heap.size w wx) (h3 : L ≤ 3000) => rcheck_any m (.slice x L c) wx (hm.mono hb (Nat.le_refl _)) (by omega))
  obtain ⟨C1, hC1⟩ : ∃ C, mcheck m = C := ⟨_, rfl⟩
  have HMR' := Lib.hid (fun (hc : mcheck m = 0) => mread_bytes hc hmf hid)
  have HY1 := Lib.hid (fun wx (hb : Below w.heap.size w wx) (hc : mcheck m = 0) => wbytes_ok m x L c wx (hm.mono hb (Nat.le_refl _)) hc hmf hid)
  rw [hC1] at HC1 HMR' HY1
  have HLM := Lib.hid hL
  have HO1 := Lib.hid (fun wx => of_any14 m x L c wx)
  have HTU := Lib.hid (fun i (yy : UInt8) (hi : i < (mbytes m).length) (hy : yy ≠ (mbytes m).getD i 0) => mcode_turn (m := m) hi hy)
  have hal := length_mbytes m
  have ham := length_mbody m
  have hnm := length_nbytes m.n
  obtain ⟨la, hla⟩ : ∃ b, mbytes m = b := ⟨_, rfl⟩
  rw [hla] at HY1 HMR' HTU hal
  obtain ⟨AL, hAL⟩ : ∃ b, la.length = b := ⟨_, rfl⟩
  rw [hAL] at HY1 hal
  have HAL := Lib.hid hAL
  have hA28 : 28 ≤ AL := by omega
  have HA28 := Lib.hid hA28
  have HABL := Lib.hid (show L ≤ 3000 → AL ≤ 1000000 from fun _ => by
    rw [hal, ham]
    split <;> (try rw [hnm, hL]) <;> (try unfold padn) <;> omega)
  obtain ⟨i, hi⟩ : ∃ i, q0 % (8 * AL) = i := ⟨_, rfl⟩
  have hib : i < 8 * AL := by rw [← hi]; exact Nat.mod_lt _ (by omega)
  have hiq : i / 8 < AL := by omega
  have hii : (q0 : Int) % (8 * (AL : Int)) = (i : Int) := by rw [← hi]; simp
  have hit : Int.tmod (q0 : Int) (8 * (AL : Int)) = (i : Int) := by rw [Int.tmod_eq_emod_of_nonneg (by omega)]; exact hii
  have hsm : sameM m m = true := (sameM_eq _ _).2 rfl
  have hmm := hm
  obtain ⟨mfr, mtt, mkd, mvo, mli, mid, mco, mhas, mkey, mck, mgn, md⟩ := m
  dsimp only at HLM hmm
  have P4 := Blk.new w #[.int .i64 mfr, .int .i64 mtt, .int .i64 mkd, .int .i64 mvo, .int .i64 mli, .int .u64 (mid : Int), .int .i64 mco, .bool mhas, .int .u64 (mkey : Int), .int .u32 (mck : Int), .bool mgn, .slice x L c] 36
  have HB0 := Lib.hid ((Below.refl w.heap.size w).alloc (Nat.le_refl _) (.cells #[.int .i64 mfr, .int .i64 mtt, .int .i64 mkd, .int .i64 mvo, .int .i64 mli, .int .u64 (mid : Int), .int .i64 mco, .bool mhas, .int .u64 (mkey : Int), .int .u32 (mck : Int), .bool mgn, .slice x L c] 36))
  have HMM := Lib.hid hmm
  have HSM' := Lib.hid hsm
  clear hm hmf hid hL hC1 hla hal ham hnm hAL hi hmm hsm
  by_cases h1 : 3000 < L
  · have k1 : (3000 : Int) < (L : Int) := by omega
    go_enter Try.func4, Try.ntmps4
    go_wp2_with fail
    refine (HA.out _).mono ?_
    rintro e w1 ⟨rfl, hb⟩
    have HB1 := Lib.hid (HB0.out.trans (hb.mono HB0.out.size))
    have HP := Lib.hid (P4.below hb (by simp))
    clear hb
    have p0 := HP.out.cell 0 rfl
    have p1 := HP.out.cell 1 rfl
    have p2 := HP.out.cell 2 rfl
    have p3 := HP.out.cell 3 rfl
    have p4 := HP.out.cell 4 rfl
    have p5 := HP.out.cell 5 rfl
    have p6 := HP.out.cell 6 rfl
    have p7 := HP.out.cell 7 rfl
    have p8 := HP.out.cell 8 rfl
    have p9 := HP.out.cell 9 rfl
    have p10 := HP.out.cell 10 rfl
    have p11 := HP.out.cell 11 rfl
    go_wp2
    go_ret
    exact ⟨rfl, HB1.out⟩
  have k1 : ¬ (3000 : Int) < (L : Int) := by omega
  have HC1 := Lib.hid (fun wx (hb : Below w.heap.size w wx) => HC1.out wx hb (by omega))
  have hA6 := HABL.out (by omega)
  have HA40 := Lib.hid (show AL ≤ 1099511627776 by omega)
  have em : IntKind.i64.wrap (8 * (AL : Int)) = 8 * (AL : Int) := IntWalk.i64_in _ (by omega)
  have ew : IntKind.i64.wrap (q0 : Int) = (q0 : Int) := IntWalk.i64_in _ (by omega)
  by_cases h3 : C1 = 0
  case neg =>
    have k3 : ((C1 : Int) != 0) = true := bne_iff_ne.2 (by omega)
    have k4 : ¬ (C1 : Int) = 0 := by omega
    go_enter Try.func4, Try.ntmps4
    go_wp2_with fail
    refine (HA.out _).mono ?_
    rintro e w1 ⟨rfl, hb⟩
    have HB1 := Lib.hid (HB0.out.trans (hb.mono HB0.out.size))
    have HP := Lib.hid (P4.below hb (by simp))
    clear hb
    have p0 := HP.out.cell 0 rfl
    have p1 := HP.out.cell 1 rfl
    have p2 := HP.out.cell 2 rfl
    have p3 := HP.out.cell 3 rfl
    have p4 := HP.out.cell 4 rfl
    have p5 := HP.out.cell 5 rfl
    have p6 := HP.out.cell 6 rfl
    have p7 := HP.out.cell 7 rfl
    have p8 := HP.out.cell 8 rfl
    have p9 := HP.out.cell 9 rfl
    have p10 := HP.out.cell 10 rfl
    have p11 := HP.out.cell 11 rfl
    go_wp2_with fail
    refine (HC1.out _ HB1.out).mono ?_
    rintro e w2 ⟨rfl, hbx⟩
    have HB2 := Lib.hid (HB1.out.trans (hbx.mono HB1.out.size))
    have HP2 := Lib.hid (HP.out.below hbx HP.out.lt)
    clear hbx p0 p1 p2 p3 p4 p5 p6 p7 p8 p9 p10 p11
    have p0 := HP2.out.cell 0 rfl
    have p1 := HP2.out.cell 1 rfl
    have p2 := HP2.out.cell 2 rfl
    have p3 := HP2.out.cell 3 rfl
    have p4 := HP2.out.cell 4 rfl
    have p5 := HP2.out.cell 5 rfl
    have p6 := HP2.out.cell 6 rfl
    have p7 := HP2.out.cell 7 rfl
    have p8 := HP2.out.cell 8 rfl
    have p9 := HP2.out.cell 9 rfl
    have p10 := HP2.out.cell 10 rfl
    have p11 := HP2.out.cell 11 rfl
    go_wp2
    go_ret
    exact ⟨rfl, HB2.out⟩
  subst h3
  have HMR := Lib.hid (HMR'.out (Eq.refl 0))
  have HZ1 := Lib.hid (fun wx (hb : Below w.heap.size w wx) => HY1.out wx hb (Eq.refl 0))
  clear HABL HMR' HY1
  go_enter Try.func4, Try.ntmps4
  go_wp2_with fail
  refine (HA.out _).mono ?_
  rintro e w1 ⟨rfl, hb⟩
  have HB1 := Lib.hid (HB0.out.trans (hb.mono HB0.out.size))
  have HP := Lib.hid (P4.below hb (by simp))
  clear hb
  have p0 := HP.out.cell 0 rfl
  have p1 := HP.out.cell 1 rfl
  have p2 := HP.out.cell 2 rfl
  have p3 := HP.out.cell 3 rfl
  have p4 := HP.out.cell 4 rfl
  have p5 := HP.out.cell 5 rfl
  have p6 := HP.out.cell 6 rfl
  have p7 := HP.out.cell 7 rfl
  have p8 := HP.out.cell 8 rfl
  have p9 := HP.out.cell 9 rfl
  have p10 := HP.out.cell 10 rfl
  have p11 := HP.out.cell 11 rfl
  go_wp2_with fail
  refine (HC1.out _ HB1.out).mono ?_
  rintro e w2 ⟨rfl, hbx⟩
  have HB2 := Lib.hid (HB1.out.trans (hbx.mono HB1.out.size))
  have HP2 := Lib.hid (HP.out.below hbx HP.out.lt)
  clear hbx p0 p1 p2 p3 p4 p5 p6 p7 p8 p9 p10 p11
  have p0 := HP2.out.cell 0 rfl
  have p1 := HP2.out.cell 1 rfl
  have p2 := HP2.out.cell 2 rfl
  have p3 := HP2.out.cell 3 rfl
  have p4 := HP2.out.cell 4 rfl
  have p5 := HP2.out.cell 5 rfl
  have p6 := HP2.out.cell 6 rfl
  have p7 := HP2.out.cell 7 rfl
  have p8 := HP2.out.cell 8 rfl
  have p9 := HP2.out.cell 9 rfl
  have p10 := HP2.out.cell 10 rfl
  have p11 := HP2.out.cell 11 rfl
  go_wp2_with fail
  refine (HO1.out _).mono ?_
  rintro e w3 ⟨rfl, hbx⟩
  have HB3 := Lib.hid (HB2.out.trans (hbx.mono HB2.out.size))
  have HP3 := Lib.hid (HP2.out.below hbx HP2.out.lt)
  clear hbx p0 p1 p2 p3 p4 p5 p6 p7 p8 p9 p10 p11
  have p0 := HP3.out.cell 0 rfl
  have p1 := HP3.out.cell 1 rfl
  have p2 := HP3.out.cell 2 rfl
  have p3 := HP3.out.cell 3 rfl
  have p4 := HP3.out.cell 4 rfl
  have p5 := HP3.out.cell 5 rfl
  have p6 := HP3.out.cell 6 rfl
  have p7 := HP3.out.cell 7 rfl
  have p8 := HP3.out.cell 8 rfl
  have p9 := HP3.out.cell 9 rfl
  have p10 := HP3.out.cell 10 rfl
  have p11 := HP3.out.cell 11 rfl
  go_wp2_with fail
  refine (HZ1.out _ HB3.out).mono ?_
  rintro e w4 ⟨ay, ak, rfl, hown, hbx⟩
  have HB4 := Lib.hid (HB3.out.trans (hbx.mono HB3.out.size))
  have HP4 := Lib.hid (HP3.out.below hbx HP3.out.lt)
  obtain ⟨g, gc, hg, hgl⟩ : ∃ g gc, Value.slice ay AL ak = .slice (some ⟨g, 0, none⟩) AL gc ∧ w3.heap.size ≤ g := by
    rcases hown.2 with ⟨e, h0⟩ | ⟨g, cp, cur, e, hb, _⟩
    · have := HA28.out; omega
    · exact ⟨g, cp, e, hb⟩
  cases hg
  have HO4 := Lib.hid hown
  have hg4 : g < w4.heap.size := (hown.lt g rfl).2
  clear hown
  clear hbx p0 p1 p2 p3 p4 p5 p6 p7 p8 p9 p10 p11
  have p0 := HP4.out.cell 0 rfl
  have p1 := HP4.out.cell 1 rfl
  have p2 := HP4.out.cell 2 rfl
  have p3 := HP4.out.cell 3 rfl
  have p4 := HP4.out.cell 4 rfl
  have p5 := HP4.out.cell 5 rfl
  have p6 := HP4.out.cell 6 rfl
  have p7 := HP4.out.cell 7 rfl
  have p8 := HP4.out.cell 8 rfl
  have p9 := HP4.out.cell 9 rfl
  have p10 := HP4.out.cell 10 rfl
  have p11 := HP4.out.cell 11 rfl
  have HRD := Lib.hid (wread_v (.slice (some ⟨g, 0, none⟩) AL ak) la w4 (IsB.own HO4.out HAL.out.symm) (by rw [HAL.out]; exact HA40.out))
  rw [HMR.out.1, HMR.out.2] at HRD
  dsimp only at HRD
  rw [HLM.out, cerr_0] at HRD
  go_wp2_with fail
  refine HRD.out.mono ?_
  rintro e w5 ⟨rx, rc, rfl, hi5, hl5, hbx⟩
  have hP := (HP4.out.below hbx HP4.out.lt).alloc (.cells #[.int .i64 mfr, .int .i64 mtt, .int .i64 mkd, .int .i64 mvo, .int .i64 mli, .int .u64 (mid : Int), .int .i64 mco, .bool mhas, .int .u64 (mkey : Int), .int .u32 (mck : Int), .bool mgn, .slice rx L rc] 29)
  have hX := Blk.new w5 #[.int .i64 mfr, .int .i64 mtt, .int .i64 mkd, .int .i64 mvo, .int .i64 mli, .int .u64 (mid : Int), .int .i64 mco, .bool mhas, .int .u64 (mkey : Int), .int .u32 (mck : Int), .bool mgn, .slice rx L rc] 29
  have hB0 := HB4.out.trans (hbx.mono HB4.out.size)
  have hB := hB0.alloc hB0.size (.cells #[.int .i64 mfr, .int .i64 mtt, .int .i64 mkd, .int .i64 mvo, .int .i64 mli, .int .u64 (mid : Int), .int .i64 mco, .bool mhas, .int .u64 (mkey : Int), .int .u32 (mck : Int), .bool mgn, .slice rx L rc] 29)
  have hO := ownsRow_below (ownsRow_below HO4.out hbx (Nat.le_refl _)) (below_alloc14 w5 (.cells #[.int .i64 mfr, .int .i64 mtt, .int .i64 mkd, .int .i64 mvo, .int .i64 mli, .int .u64 (mid : Int), .int .i64 mco, .bool mhas, .int .u64 (mkey : Int), .int .u32 (mck : Int), .bool mgn, .slice rx L rc] 29)) (Nat.le_refl _)
  have hI := hi5.mono (below_alloc14 w5 (.cells #[.int .i64 mfr, .int .i64 mtt, .int .i64 mkd, .int .i64 mvo, .int .i64 mli, .int .u64 (mid : Int), .int .i64 mco, .bool mhas, .int .u64 (mkey : Int), .int .u32 (mck : Int), .bool mgn, .slice rx L rc] 29)) (Nat.le_refl _)
  have hg6 : g < (w5.alloc (.cells #[.int .i64 mfr, .int .i64 mtt, .int .i64 mkd, .int .i64 mvo, .int .i64 mli, .int .u64 (mid : Int), .int .i64 mco, .bool mhas, .int .u64 (mkey : Int), .int .u32 (mck : Int), .bool mgn, .slice rx L rc] 29)).heap.size := by have := hbx.size; simp; omega
  go_upto_region 7 with fail
  obtain ⟨w6, hw6⟩ : ∃ w6, w5.alloc (.cells #[.int .i64 mfr, .int .i64 mtt, .int .i64 mkd, .int .i64 mvo, .int .i64 mli, .int .u64 (mid : Int), .int .i64 mco, .bool mhas, .int .u64 (mkey : Int), .int .u32 (mck : Int), .bool mgn, .slice rx L rc] 29) = w6 := ⟨_, rfl⟩
  obtain ⟨X7, hX7⟩ : ∃ X, w5.heap.size = X := ⟨_, rfl⟩
  rw [hw6] at hP hX hB hO hI hg6
  rw [hX7] at hX
  try rw [hw6]
  try rw [hX7]
  have hX7g : X7 ≠ g := by have := hbx.size; omega
  have hPg : w.heap.size ≠ g := by have := HB3.out.size; have := HP3.out.lt; omega
  have hliI := fun b (hb : liesB (.slice rx L rc) md b) => hl5 b hb
  clear hw6 hX7 hbx hB0 hi5 p0 p1 p2 p3 p4 p5 p6 p7 p8 p9 p10 p11
  obtain ⟨yb, hyb⟩ : ∃ y : Nat, (la.getD (i / 8) 0).toNat = y := ⟨_, rfl⟩
  have hy8 : yb < 256 := by rw [← hyb]; exact UInt8.toNat_lt _
  have hcell : w6.cell? ⟨g, i / 8, none⟩ = some (.int .u8 (yb : Int)) := by rw [hO.cellAt (i / 8) (by omega), bvs_get (by rw [HAL.out]; omega), ← hyb]
  have hfroz := hO.frozenAt (i / 8)
  obtain ⟨z, hz, hzne⟩ := flip_byte yb hy8 i
  have hO7 := (hO.stored (i / 8) (.int .u8 (z.toNat : Int))).1
  rw [bvs_set] at hO7
  have hB7 := hB.setCell (p := ⟨g, i / 8, none⟩) (show w.heap.size ≤ g by have := HB3.out.size; omega) (.int .u8 (z.toNat : Int))
  have hX8 := hX.other (a := ⟨g, i / 8, none⟩) (fun e => hX7g e.symm) (.int .u8 (z.toNat : Int))
  have hP8 := hP.other (a := ⟨g, i / 8, none⟩) (fun e => hPg e.symm) (.int .u8 (z.toNat : Int))
  have hk7 := (Kept.refl (fun j => j = g) w6).setCell (p := ⟨g, i / 8, none⟩) (.inl rfl) (.int .u8 (z.toNat : Int))
  have hI7 := hI.kept hk7 (fun b hb e => by have := hliI b hb; omega)
  have HZ := Lib.hid hz
  have HTURN := Lib.hid (HTU.out (i / 8) z (by rw [HAL.out]; exact hiq) (fun e => hzne (by rw [e, hyb])))
  clear hz hO hX hP hI hB hk7 hliI hl5 hyb hzne
  go_wp2_with fail
  rw [HZ.out]
  have HRE := Lib.hid (wread_v (.slice (some ⟨g, 0, none⟩) AL ak) (la.set (i / 8) z) _ (IsB.own hO7 (by rw [List.length_set, HAL.out])) (by rw [List.length_set, HAL.out]; exact HA40.out))
  rw [HTURN.out.1, HTURN.out.2] at HRE
  have HRE2 := Lib.hid (show Calls Try.prog 8 #[.slice (some ⟨g, 0, none⟩) AL ak] (w6.setCell ⟨g, i / 8, none⟩ (.int .u8 (z.toNat : Int))) (fun e w' => ∃ sx sc, e = .returned (.tuple #[.agg #[.int .i64 0, .int .i64 0, .int .i64 0, .int .i64 0, .int .i64 0, .int .u64 0, .int .i64 0, .bool false, .int .u64 0, .int .u32 0, .bool false, .slice sx 0 sc], cerr 5]) ∧ IsB w' (.slice sx 0 sc) [] ∧ Below (w6.setCell ⟨g, i / 8, none⟩ (.int .u8 (z.toNat : Int))).heap.size (w6.setCell ⟨g, i / 8, none⟩ (.int .u8 (z.toNat : Int))) w') from by
    refine HRE.out.mono ?_
    rintro e w' ⟨sx, sc, rfl, hi, _, hb⟩
    exact ⟨sx, sc, rfl, hi, hb⟩)
  refine HRE2.out.mono ?_
  rintro e w8 ⟨sx, sc, rfl, hiz, hbx⟩
  have hP9 := (hP8.below hbx hP8.lt).alloc (.cells #[.int .i64 0, .int .i64 0, .int .i64 0, .int .i64 0, .int .i64 0, .int .u64 0, .int .i64 0, .bool false, .int .u64 0, .int .u32 0, .bool false, .slice sx 0 sc] 29)
  have hX9 := (hX8.below hbx hX8.lt).alloc (.cells #[.int .i64 0, .int .i64 0, .int .i64 0, .int .i64 0, .int .i64 0, .int .u64 0, .int .i64 0, .bool false, .int .u64 0, .int .u32 0, .bool false, .slice sx 0 sc] 29)
  have hE9 := Blk.new w8 #[.int .i64 0, .int .i64 0, .int .i64 0, .int .i64 0, .int .i64 0, .int .u64 0, .int .i64 0, .bool false, .int .u64 0, .int .u32 0, .bool false, .slice sx 0 sc] 29
  have hB0 := hB7.trans (hbx.mono hB7.size)
  have hB9 := hB0.alloc hB0.size (.cells #[.int .i64 0, .int .i64 0, .int .i64 0, .int .i64 0, .int .i64 0, .int .u64 0, .int .i64 0, .bool false, .int .u64 0, .int .u32 0, .bool false, .slice sx 0 sc] 29)
  have hI9 := (hI7.mono hbx (Nat.le_refl _)).mono (below_alloc14 w8 (.cells #[.int .i64 0, .int .i64 0, .int .i64 0, .int .i64 0, .int .i64 0, .int .u64 0, .int .i64 0, .bool false, .int .u64 0, .int .u32 0, .bool false, .slice sx 0 sc] 29)) (Nat.le_refl _)
  have hZ9 := hiz.mono (below_alloc14 w8 (.cells #[.int .i64 0, .int .i64 0, .int .i64 0, .int .i64 0, .int .i64 0, .int .u64 0, .int .i64 0, .bool false, .int .u64 0, .int .u32 0, .bool false, .slice sx 0 sc] 29)) (Nat.le_refl _)
  go_upto_region 10 with fail
  obtain ⟨w9, hw9⟩ : ∃ w9, w8.alloc (.cells #[.int .i64 0, .int .i64 0, .int .i64 0, .int .i64 0, .int .i64 0, .int .u64 0, .int .i64 0, .bool false, .int .u64 0, .int .u32 0, .bool false, .slice sx 0 sc] 29) = w9 := ⟨_, rfl⟩
  obtain ⟨X10, hX10⟩ : ∃ X, w8.heap.size = X := ⟨_, rfl⟩
  rw [hw9] at hP9 hX9 hE9 hB9 hI9 hZ9
  rw [hX10] at hE9
  try rw [hw9]
  try rw [hX10]
  have HP9 := Lib.hid hP9
  have HX9 := Lib.hid hX9
  have HE9 := Lib.hid hE9
  have HB9 := Lib.hid hB9
  have HI9 := Lib.hid hI9
  have HZ9 := Lib.hid hZ9
  clear hZ9 hiz hP9 hX9 hE9 hB9 hI9 hw9 hX10 hB0 hbx hI7 hB7 hX8 hP8 hO7 hcell hfroz
  have HS := Lib.hid (show ∀ wx, Below w9.heap.size w9 wx → (fun wx => (wx.cell? ⟨w.heap.size, 0, none⟩ = some (.int .i64 mfr) ∧ wx.cell? ⟨w.heap.size, 1, none⟩ = some (.int .i64 mtt) ∧ wx.cell? ⟨w.heap.size, 2, none⟩ = some (.int .i64 mkd) ∧ wx.cell? ⟨w.heap.size, 3, none⟩ = some (.int .i64 mvo) ∧ wx.cell? ⟨w.heap.size, 4, none⟩ = some (.int .i64 mli) ∧ wx.cell? ⟨w.heap.size, 5, none⟩ = some (.int .u64 (mid : Int)) ∧ wx.cell? ⟨w.heap.size, 6, none⟩ = some (.int .i64 mco) ∧ wx.cell? ⟨w.heap.size, 7, none⟩ = some (.bool mhas) ∧ wx.cell? ⟨w.heap.size, 8, none⟩ = some (.int .u64 (mkey : Int)) ∧ wx.cell? ⟨w.heap.size, 9, none⟩ = some (.int .u32 (mck : Int)) ∧ wx.cell? ⟨w.heap.size, 10, none⟩ = some (.bool mgn) ∧ wx.cell? ⟨w.heap.size, 11, none⟩ = some (.slice x L c)) ∧ (wx.cell? ⟨X7, 0, none⟩ = some (.int .i64 mfr) ∧ wx.cell? ⟨X7, 1, none⟩ = some (.int .i64 mtt) ∧ wx.cell? ⟨X7, 2, none⟩ = some (.int .i64 mkd) ∧ wx.cell? ⟨X7, 3, none⟩ = some (.int .i64 mvo) ∧ wx.cell? ⟨X7, 4, none⟩ = some (.int .i64 mli) ∧ wx.cell? ⟨X7, 5, none⟩ = some (.int .u64 (mid : Int)) ∧ wx.cell? ⟨X7, 6, none⟩ = some (.int .i64 mco) ∧ wx.cell? ⟨X7, 7, none⟩ = some (.bool mhas) ∧ wx.cell? ⟨X7, 8, none⟩ = some (.int .u64 (mkey : Int)) ∧ wx.cell? ⟨X7, 9, none⟩ = some (.int .u32 (mck : Int)) ∧ wx.cell? ⟨X7, 10, none⟩ = some (.bool mgn) ∧ wx.cell? ⟨X7, 11, none⟩ = some (.slice rx L rc)) ∧ (wx.cell? ⟨X10, 0, none⟩ = some (.int .i64 0) ∧ wx.cell? ⟨X10, 1, none⟩ = some (.int .i64 0) ∧ wx.cell? ⟨X10, 2, none⟩ = some (.int .i64 0) ∧ wx.cell? ⟨X10, 3, none⟩ = some (.int .i64 0) ∧ wx.cell? ⟨X10, 4, none⟩ = some (.int .i64 0) ∧ wx.cell? ⟨X10, 5, none⟩ = some (.int .u64 0) ∧ wx.cell? ⟨X10, 6, none⟩ = some (.int .i64 0) ∧ wx.cell? ⟨X10, 7, none⟩ = some (.bool false) ∧ wx.cell? ⟨X10, 8, none⟩ = some (.int .u64 0) ∧ wx.cell? ⟨X10, 9, none⟩ = some (.int .u32 0) ∧ wx.cell? ⟨X10, 10, none⟩ = some (.bool false) ∧ wx.cell? ⟨X10, 11, none⟩ = some (.slice sx 0 sc))) wx from fun wx hb => by
    have h1 := HP9.out.below hb HP9.out.lt
    have h2 := HX9.out.below hb HX9.out.lt
    have h3 := HE9.out.below hb HE9.out.lt
    exact ⟨⟨h1.cell 0 rfl, h1.cell 1 rfl, h1.cell 2 rfl, h1.cell 3 rfl, h1.cell 4 rfl, h1.cell 5 rfl, h1.cell 6 rfl, h1.cell 7 rfl, h1.cell 8 rfl, h1.cell 9 rfl, h1.cell 10 rfl, h1.cell 11 rfl⟩, ⟨h2.cell 0 rfl, h2.cell 1 rfl, h2.cell 2 rfl, h2.cell 3 rfl, h2.cell 4 rfl, h2.cell 5 rfl, h2.cell 6 rfl, h2.cell 7 rfl, h2.cell 8 rfl, h2.cell 9 rfl, h2.cell 10 rfl, h2.cell 11 rfl⟩, ⟨h3.cell 0 rfl, h3.cell 1 rfl, h3.cell 2 rfl, h3.cell 3 rfl, h3.cell 4 rfl, h3.cell 5 rfl, h3.cell 6 rfl, h3.cell 7 rfl, h3.cell 8 rfl, h3.cell 9 rfl, h3.cell 10 rfl, h3.cell 11 rfl⟩⟩)
  have HSM := Lib.hid (fun wx (hb : Below w9.heap.size w9 wx) => show Calls Try.prog 16 #[.agg #[.int .i64 mfr, .int .i64 mtt, .int .i64 mkd, .int .i64 mvo, .int .i64 mli, .int .u64 (mid : Int), .int .i64 mco, .bool mhas, .int .u64 (mkey : Int), .int .u32 (mck : Int), .bool mgn, .slice rx L rc], .agg #[.int .i64 mfr, .int .i64 mtt, .int .i64 mkd, .int .i64 mvo, .int .i64 mli, .int .u64 (mid : Int), .int .i64 mco, .bool mhas, .int .u64 (mkey : Int), .int .u32 (mck : Int), .bool mgn, .slice x L c]] wx (fun e w' => e = .returned (.bool true) ∧ Below wx.heap.size wx w') by
    have := wsame_v ⟨mfr, mtt, mkd, mvo, mli, mid, mco, mhas, ⟨mkey, mck, mgn, md⟩⟩ ⟨mfr, mtt, mkd, mvo, mli, mid, mco, mhas, ⟨mkey, mck, mgn, md⟩⟩ rx L rc x L c wx (HI9.out.mono hb (Nat.le_refl _)) (HMM.out.mono (HB9.out.trans (hb.mono HB9.out.size)) (Nat.le_refl _))
    rw [HSM'.out] at this
    exact this)
  have HSZ := Lib.hid (fun wx (hb : Below w9.heap.size w9 wx) => show Calls Try.prog 16 #[.agg #[.int .i64 0, .int .i64 0, .int .i64 0, .int .i64 0, .int .i64 0, .int .u64 0, .int .i64 0, .bool false, .int .u64 0, .int .u32 0, .bool false, .slice sx 0 sc], .agg #[.int .i64 0, .int .i64 0, .int .i64 0, .int .i64 0, .int .i64 0, .int .u64 0, .int .i64 0, .bool false, .int .u64 0, .int .u32 0, .bool false, .slice none 0 0]] wx (fun e w' => e = .returned (.bool true) ∧ Below wx.heap.size wx w') by
    have := wsame_v mz mz sx 0 sc none 0 0 wx (HZ9.out.mono hb (Nat.le_refl _)) (IsB.nil wx)
    rw [(sameM_eq _ _).2 rfl] at this
    exact this)
  have U0 := Lib.hid ((Below.refl w9.heap.size w9).drew)
  refine AnyE.start (S := (fun wx => (wx.cell? ⟨w.heap.size, 0, none⟩ = some (.int .i64 mfr) ∧ wx.cell? ⟨w.heap.size, 1, none⟩ = some (.int .i64 mtt) ∧ wx.cell? ⟨w.heap.size, 2, none⟩ = some (.int .i64 mkd) ∧ wx.cell? ⟨w.heap.size, 3, none⟩ = some (.int .i64 mvo) ∧ wx.cell? ⟨w.heap.size, 4, none⟩ = some (.int .i64 mli) ∧ wx.cell? ⟨w.heap.size, 5, none⟩ = some (.int .u64 (mid : Int)) ∧ wx.cell? ⟨w.heap.size, 6, none⟩ = some (.int .i64 mco) ∧ wx.cell? ⟨w.heap.size, 7, none⟩ = some (.bool mhas) ∧ wx.cell? ⟨w.heap.size, 8, none⟩ = some (.int .u64 (mkey : Int)) ∧ wx.cell? ⟨w.heap.size, 9, none⟩ = some (.int .u32 (mck : Int)) ∧ wx.cell? ⟨w.heap.size, 10, none⟩ = some (.bool mgn) ∧ wx.cell? ⟨w.heap.size, 11, none⟩ = some (.slice x L c)) ∧ (wx.cell? ⟨X7, 0, none⟩ = some (.int .i64 mfr) ∧ wx.cell? ⟨X7, 1, none⟩ = some (.int .i64 mtt) ∧ wx.cell? ⟨X7, 2, none⟩ = some (.int .i64 mkd) ∧ wx.cell? ⟨X7, 3, none⟩ = some (.int .i64 mvo) ∧ wx.cell? ⟨X7, 4, none⟩ = some (.int .i64 mli) ∧ wx.cell? ⟨X7, 5, none⟩ = some (.int .u64 (mid : Int)) ∧ wx.cell? ⟨X7, 6, none⟩ = some (.int .i64 mco) ∧ wx.cell? ⟨X7, 7, none⟩ = some (.bool mhas) ∧ wx.cell? ⟨X7, 8, none⟩ = some (.int .u64 (mkey : Int)) ∧ wx.cell? ⟨X7, 9, none⟩ = some (.int .u32 (mck : Int)) ∧ wx.cell? ⟨X7, 10, none⟩ = some (.bool mgn) ∧ wx.cell? ⟨X7, 11, none⟩ = some (.slice rx L rc)) ∧ (wx.cell? ⟨X10, 0, none⟩ = some (.int .i64 0) ∧ wx.cell? ⟨X10, 1, none⟩ = some (.int .i64 0) ∧ wx.cell? ⟨X10, 2, none⟩ = some (.int .i64 0) ∧ wx.cell? ⟨X10, 3, none⟩ = some (.int .i64 0) ∧ wx.cell? ⟨X10, 4, none⟩ = some (.int .i64 0) ∧ wx.cell? ⟨X10, 5, none⟩ = some (.int .u64 0) ∧ wx.cell? ⟨X10, 6, none⟩ = some (.int .i64 0) ∧ wx.cell? ⟨X10, 7, none⟩ = some (.bool false) ∧ wx.cell? ⟨X10, 8, none⟩ = some (.int .u64 0) ∧ wx.cell? ⟨X10, 9, none⟩ = some (.int .u32 0) ∧ wx.cell? ⟨X10, 10, none⟩ = some (.bool false) ∧ wx.cell? ⟨X10, 11, none⟩ = some (.slice sx 0 sc)))) 24 (by kernel_rfl) (HS.out _ U0.out) (fun hHeld => ?_)
  obtain ⟨q0w, hq0w⟩ : ∃ q, w9.drew = q := ⟨_, rfl⟩
  rw [hq0w] at U0 hHeld
  rw [hq0w]
  clear hq0w
  refine AnyE.take (i := 0) (v := ?_) rfl (by kernel_rfl) (by kernel_rfl) (by kernel_rfl) (by kernel_rfl) (fun _ _ _ h => h) (Or.inl ⟨by rfl, ?_⟩) (by assumption) ?_
  rotate_left 1
  · intro w hSw
    (try dsimp only at hSw)
    go_simp
    all_goals (with_reducible rfl)
  try simp only [Act.put, List.getElem_toArray, List.getElem_cons_zero, List.getElem_cons_succ, List.setIfInBounds_toArray, List.set_cons_zero, List.set_cons_succ]
  refine AnyE.next (rs := [1]) (by kernel_rfl) (by simp) ?_
  refine AllE.cons rfl (fun K hK => ?_) AllE.nil
  go_simp
  refine (code_nil _).mono ?_
  rintro e u ⟨rfl, rfl⟩
  refine hK.out _ _ (HS.out _ U0.out) (fun hHeld => ?_)
  clear hK K
  try simp only [Act.put, List.getElem_toArray, List.getElem_cons_zero, List.getElem_cons_succ, List.setIfInBounds_toArray, List.set_cons_zero, List.set_cons_succ]
  refine AnyE.take (i := 2) (v := ?_) rfl (by kernel_rfl) (by kernel_rfl) (by kernel_rfl) (by kernel_rfl) (fun _ _ _ h => h) (Or.inl ⟨by rfl, ?_⟩) (by assumption) ?_
  rotate_left 1
  · intro w hSw
    (try dsimp only at hSw)
    go_simp
    all_goals (with_reducible rfl)
  try simp only [Act.put, List.getElem_toArray, List.getElem_cons_zero, List.getElem_cons_succ, List.setIfInBounds_toArray, List.set_cons_zero, List.set_cons_succ]
  refine AnyE.take (i := 3) (v := ?_) rfl (by kernel_rfl) (by kernel_rfl) (by kernel_rfl) (by kernel_rfl) (fun _ _ _ h => h) (Or.inl ⟨by rfl, ?_⟩) (by assumption) ?_
  rotate_left 1
  · intro w hSw
    (try dsimp only at hSw)
    go_simp
    all_goals (with_reducible rfl)
  try simp only [Act.put, List.getElem_toArray, List.getElem_cons_zero, List.getElem_cons_succ, List.setIfInBounds_toArray, List.set_cons_zero, List.set_cons_succ]
  refine AnyE.take (i := 4) (v := ?_) rfl (by kernel_rfl) (by kernel_rfl) (by kernel_rfl) (by kernel_rfl) (fun _ _ _ h => h) (Or.inl ⟨by rfl, ?_⟩) (by assumption) ?_
  rotate_left 1
  · intro w hSw
    (try dsimp only at hSw)
    go_simp
    all_goals (with_reducible rfl)
  try simp only [Act.put, List.getElem_toArray, List.getElem_cons_zero, List.getElem_cons_succ, List.setIfInBounds_toArray, List.set_cons_zero, List.set_cons_succ]
  refine AnyE.next (rs := [5]) (by kernel_rfl) (by simp) ?_
  refine AllE.cons rfl (fun K hK => ?_) AllE.nil
  go_simp
  refine (code_nil _).mono ?_
  rintro e u ⟨rfl, rfl⟩
  refine hK.out _ _ (HS.out _ U0.out) (fun hHeld => ?_)
  clear hK K
  try simp only [Act.put, List.getElem_toArray, List.getElem_cons_zero, List.getElem_cons_succ, List.setIfInBounds_toArray, List.set_cons_zero, List.set_cons_succ]
  refine AnyE.take (i := 6) (v := ?_) rfl (by kernel_rfl) (by kernel_rfl) (by kernel_rfl) (by kernel_rfl) (fun _ _ _ h => h) (Or.inl ⟨by rfl, ?_⟩) (by assumption) ?_
  rotate_left 1
  · intro w hSw
    (try dsimp only at hSw)
    go_simp
    all_goals (with_reducible rfl)
  try simp only [Act.put, List.getElem_toArray, List.getElem_cons_zero, List.getElem_cons_succ, List.setIfInBounds_toArray, List.set_cons_zero, List.set_cons_succ]
  refine AnyE.take (i := 7) (v := ?_) rfl (by kernel_rfl) (by kernel_rfl) (by kernel_rfl) (by kernel_rfl) (fun _ _ _ h => h) (Or.inl ⟨by rfl, ?_⟩) (by assumption) ?_
  rotate_left 1
  · intro w hSw
    (try dsimp only at hSw)
    go_simp
    all_goals (with_reducible rfl)
  try simp only [Act.put, List.getElem_toArray, List.getElem_cons_zero, List.getElem_cons_succ, List.setIfInBounds_toArray, List.set_cons_zero, List.set_cons_succ]
  refine AnyE.take (i := 8) (v := ?_) rfl (by kernel_rfl) (by kernel_rfl) (by kernel_rfl) (by kernel_rfl) (fun _ _ _ h => h) (Or.inl ⟨by rfl, ?_⟩) (by assumption) ?_
  rotate_left 1
  · intro w hSw
    (try dsimp only at hSw)
    go_simp
    all_goals (with_reducible rfl)
  try simp only [Act.put, List.getElem_toArray, List.getElem_cons_zero, List.getElem_cons_succ, List.setIfInBounds_toArray, List.set_cons_zero, List.set_cons_succ]
  refine AnyE.take (i := 9) (v := ?_) rfl (by kernel_rfl) (by kernel_rfl) (by kernel_rfl) (by kernel_rfl) (fun _ _ _ h => h) (Or.inl ⟨by rfl, ?_⟩) (by assumption) ?_
  rotate_left 1
  · intro w hSw
    (try dsimp only at hSw)
    go_simp
    all_goals (with_reducible rfl)
  try simp only [Act.put, List.getElem_toArray, List.getElem_cons_zero, List.getElem_cons_succ, List.setIfInBounds_toArray, List.set_cons_zero, List.set_cons_succ]
  refine AnyE.take (i := 10) (v := ?_) rfl (by kernel_rfl) (by kernel_rfl) (by kernel_rfl) (by kernel_rfl) (fun _ _ _ h => h) (Or.inl ⟨by rfl, ?_⟩) (by assumption) ?_
  rotate_left 1
  · intro w hSw
    (try dsimp only at hSw)
    go_simp
    all_goals (with_reducible rfl)
  try simp only [Act.put, List.getElem_toArray, List.getElem_cons_zero, List.getElem_cons_succ, List.setIfInBounds_toArray, List.set_cons_zero, List.set_cons_succ]
  refine AnyE.next (rs := [11]) (by kernel_rfl) (by simp) ?_
  refine AllE.cons rfl (fun K hK => ?_) AllE.nil
  go_simp
  refine (HO1.out _).mono ?_
  rintro e u1 ⟨rfl, hbx⟩
  have U1 := Lib.hid (U0.out.trans (hbx.mono U0.out.size))
  clear hbx
  refine hK.out _ _ (HS.out _ U1.out) (fun hHeld => ?_)
  clear hK K
  try simp only [Act.put, List.getElem_toArray, List.getElem_cons_zero, List.getElem_cons_succ, List.setIfInBounds_toArray, List.set_cons_zero, List.set_cons_succ]
  refine AnyE.next (rs := [12]) (by kernel_rfl) (by simp) ?_
  refine AllE.cons rfl (fun K hK => ?_) AllE.nil
  go_simp
  refine (HSM.out _ U1.out).mono ?_
  rintro e u2 ⟨rfl, hbx⟩
  have U2 := Lib.hid (U1.out.trans (hbx.mono U1.out.size))
  clear hbx
  refine hK.out _ _ (HS.out _ U2.out) (fun hHeld => ?_)
  clear hK K
  try simp only [Act.put, List.getElem_toArray, List.getElem_cons_zero, List.getElem_cons_succ, List.setIfInBounds_toArray, List.set_cons_zero, List.set_cons_succ]
  refine AnyE.take (i := 13) (v := ?_) rfl (by kernel_rfl) (by kernel_rfl) (by kernel_rfl) (by kernel_rfl) (fun _ _ _ h => h) (Or.inl ⟨by rfl, ?_⟩) (by assumption) ?_
  rotate_left 1
  · intro w hSw
    (try dsimp only at hSw)
    go_simp
    all_goals (with_reducible rfl)
  try simp only [Act.put, List.getElem_toArray, List.getElem_cons_zero, List.getElem_cons_succ, List.setIfInBounds_toArray, List.set_cons_zero, List.set_cons_succ]
  refine AnyE.take (i := 14) (v := ?_) rfl (by kernel_rfl) (by kernel_rfl) (by kernel_rfl) (by kernel_rfl) (fun _ _ _ h => h) (Or.inl ⟨by rfl, ?_⟩) (by assumption) ?_
  rotate_left 1
  · intro w hSw
    (try dsimp only at hSw)
    go_simp
    all_goals (with_reducible rfl)
  try simp only [Act.put, List.getElem_toArray, List.getElem_cons_zero, List.getElem_cons_succ, List.setIfInBounds_toArray, List.set_cons_zero, List.set_cons_succ]
  refine AnyE.take (i := 15) (v := ?_) rfl (by kernel_rfl) (by kernel_rfl) (by kernel_rfl) (by kernel_rfl) (fun _ _ _ h => h) (Or.inl ⟨by rfl, ?_⟩) (by assumption) ?_
  rotate_left 1
  · intro w hSw
    (try dsimp only at hSw)
    go_simp
    all_goals (with_reducible rfl)
  try simp only [Act.put, List.getElem_toArray, List.getElem_cons_zero, List.getElem_cons_succ, List.setIfInBounds_toArray, List.set_cons_zero, List.set_cons_succ]
  refine AnyE.next (rs := [16]) (by kernel_rfl) (by simp) ?_
  refine AllE.cons rfl (fun K hK => ?_) AllE.nil
  go_simp
  refine (code_cerr 5 _ (by decide)).mono ?_
  rintro e u ⟨rfl, rfl⟩
  refine hK.out _ _ (HS.out _ U2.out) (fun hHeld => ?_)
  clear hK K
  try simp only [Act.put, List.getElem_toArray, List.getElem_cons_zero, List.getElem_cons_succ, List.setIfInBounds_toArray, List.set_cons_zero, List.set_cons_succ]
  refine AnyE.take (i := 17) (v := ?_) rfl (by kernel_rfl) (by kernel_rfl) (by kernel_rfl) (by kernel_rfl) (fun _ _ _ h => h) (Or.inl ⟨by rfl, ?_⟩) (by assumption) ?_
  rotate_left 1
  · intro w hSw
    (try dsimp only at hSw)
    go_simp
    all_goals (with_reducible rfl)
  try simp only [Act.put, List.getElem_toArray, List.getElem_cons_zero, List.getElem_cons_succ, List.setIfInBounds_toArray, List.set_cons_zero, List.set_cons_succ]
  refine AnyE.take (i := 18) (v := ?_) rfl (by kernel_rfl) (by kernel_rfl) (by kernel_rfl) (by kernel_rfl) (fun _ _ _ h => h) (Or.inl ⟨by rfl, ?_⟩) (by assumption) ?_
  rotate_left 1
  · intro w hSw
    (try dsimp only at hSw)
    go_simp
    all_goals (with_reducible rfl)
  try simp only [Act.put, List.getElem_toArray, List.getElem_cons_zero, List.getElem_cons_succ, List.setIfInBounds_toArray, List.set_cons_zero, List.set_cons_succ]
  refine AnyE.take (i := 19) (v := ?_) rfl (by kernel_rfl) (by kernel_rfl) (by kernel_rfl) (by kernel_rfl) (fun _ _ _ h => h) (Or.inl ⟨by rfl, ?_⟩) (by assumption) ?_
  rotate_left 1
  · intro w hSw
    (try dsimp only at hSw)
    go_simp
    all_goals (with_reducible rfl)
  try simp only [Act.put, List.getElem_toArray, List.getElem_cons_zero, List.getElem_cons_succ, List.setIfInBounds_toArray, List.set_cons_zero, List.set_cons_succ]
  refine AnyE.take (i := 20) (v := ?_) rfl (by kernel_rfl) (by kernel_rfl) (by kernel_rfl) (by kernel_rfl) (fun _ _ _ h => h) (Or.inl ⟨by rfl, ?_⟩) (by assumption) ?_
  rotate_left 1
  · intro w hSw
    (try dsimp only at hSw)
    go_simp
    all_goals (with_reducible rfl)
  try simp only [Act.put, List.getElem_toArray, List.getElem_cons_zero, List.getElem_cons_succ, List.setIfInBounds_toArray, List.set_cons_zero, List.set_cons_succ]
  refine AnyE.take (i := 21) (v := ?_) rfl (by kernel_rfl) (by kernel_rfl) (by kernel_rfl) (by kernel_rfl) (fun _ _ _ h => h) (Or.inl ⟨by rfl, ?_⟩) (by assumption) ?_
  rotate_left 1
  · intro w hSw
    (try dsimp only at hSw)
    go_simp
    all_goals (with_reducible rfl)
  try simp only [Act.put, List.getElem_toArray, List.getElem_cons_zero, List.getElem_cons_succ, List.setIfInBounds_toArray, List.set_cons_zero, List.set_cons_succ]
  refine AnyE.next (rs := [22]) (by kernel_rfl) (by simp) ?_
  refine AllE.cons rfl (fun K hK => ?_) AllE.nil
  go_simp
  refine (HSZ.out _ U2.out).mono ?_
  rintro e u3 ⟨rfl, hbx⟩
  have U3 := Lib.hid (U2.out.trans (hbx.mono U2.out.size))
  clear hbx
  refine hK.out _ _ (HS.out _ U3.out) (fun hHeld => ?_)
  clear hK K
  try simp only [Act.put, List.getElem_toArray, List.getElem_cons_zero, List.getElem_cons_succ, List.setIfInBounds_toArray, List.set_cons_zero, List.set_cons_succ]
  refine AnyE.take (i := 23) (v := ?_) rfl (by kernel_rfl) (by kernel_rfl) (by kernel_rfl) (by kernel_rfl) (fun _ _ _ h => h) (Or.inl ⟨by rfl, ?_⟩) (by assumption) ?_
  rotate_left 1
  · intro w hSw
    (try dsimp only at hSw)
    go_simp
    all_goals (with_reducible rfl)
  try simp only [Act.put, List.getElem_toArray, List.getElem_cons_zero, List.getElem_cons_succ, List.setIfInBounds_toArray, List.set_cons_zero, List.set_cons_succ]
  refine AnyE.next (rs := [24]) (by kernel_rfl) (by simp) ?_
  refine AllE.last rfl (fun K hK => ?_)
  go_simp
  refine hK.out _ _ ?_
  clear hK K
  try simp only [Act.put, List.getElem_toArray, List.getElem_cons_zero, List.getElem_cons_succ, List.setIfInBounds_toArray, List.set_cons_zero, List.set_cons_succ]
  refine AnyE.done (by kernel_rfl) ?_ _
  go_wp2
  go_ret
  exact ⟨rfl, HB9.out.trans (U3.out.mono HB9.out.size)⟩

end Go.Proofs.Ytallmcminlnnaaa
