/- Package corncriblaw14: WireReplies. -/
import Derived.Test.YtallmcminlnnaaaWra
set_option linter.unusedVariables false
set_option linter.unusedSimpArgs false
namespace Go.Proofs.Ytallmcminlnnaaa
open Go.RowKit Go.Cor

theorem fin12b {w0 w : World} {B : Nat} {a0 a1 a2 a3 a4 a5 a6 a7 a8 a9 a10 a11 : Value} {T : TypeId} (h : Blk w B #[a0, a1, a2, a3, a4, a5, a6, a7, a8, a9, a10, a11] T) (hb : Below w0.heap.size w0 w) (hB : w0.heap.size ≤ B) (u0 u1 u2 u3 u4 u5 u6 u7 u8 u9 u10 u11 : Value) :
    Blk (set12 w B u0 u1 u2 u3 u4 u5 u6 u7 u8 u9 u10 u11) B #[u0, u1, u2, u3, u4, u5, u6, u7, u8, u9, u10, u11] T ∧ Below w0.heap.size w0 (set12 w B u0 u1 u2 u3 u4 u5 u6 u7 u8 u9 u10 u11) := by
  refine ⟨?_, (fin12 h hb hB u0 u1 u2 u3 u4 u5 u6 u7 u8 u9 u10 u11).2.2.2.2.2.2.2.2.2.2.2.2.1⟩
  unfold set12
  have h1 := (((((h.set 0 u0).set 1 u1).set 2 u2).set 3 u3).set 4 u4).set 5 u5
  simp at h1
  have h2 := (((((h1.set 6 u6).set 7 u7).set 8 u8).set 9 u9).set 10 u10).set 11 u11
  simp at h2
  exact h2
set_option maxRecDepth 100000 in
set_option maxHeartbeats 4000000 in
theorem wireReplies_all (m : Msg) (x : Option Addr) (L c : Nat) (code : Nat) (has : Bool) (n : Ndl) (y : Option Addr) (M k : Nat) (w : World) (hm : IsB w (.slice x L c) m.n.data) (hn : IsB w (.slice y M k) n.data) (hmf : m.n.fits) (hnf : n.fits) (hid : m.id < 18446744073709551616) (hcode : code < 256) :
    Calls Try.prog 5 #[mval m (.slice x L c), .int .u8 (code : Int), .bool has, nval n (.slice y M k)] w fun e w' => e = .returned (.bool true) ∧ Below w.heap.size w w' := by
  have hL : m.n.data.length = L := by obtain ⟨a, cp, e, _⟩ := hm; cases e; rfl
  have hM : n.data.length = M := by obtain ⟨a, cp, e, _⟩ := hn; cases e; rfl
  have HA := Lib.hid (fun wx => alive14 wx)
  have HC1 := Lib.hid (fun wx (hb : Below w.heap.size w wx) (h3 : L ≤ 300) => rcheck_any m (.slice x L c) wx (hm.mono hb (Nat.le_refl _)) (by omega))
  have HC2 := Lib.hid (fun wx (hb : Below w.heap.size w wx) => refcheck_any n (.slice y M k) wx (hn.mono hb (Nat.le_refl _)))
  obtain ⟨C1, hC1⟩ : ∃ C, mcheck m = C := ⟨_, rfl⟩
  obtain ⟨C2, hC2⟩ : ∃ C, ncheck n = C := ⟨_, rfl⟩
  rw [hC1] at HC1
  rw [hC2] at HC2
  have HK1 := Lib.hid hC1
  have HK2 := Lib.hid hC2
  have HM := Lib.hid hm
  have HN := Lib.hid hn
  have HMF := Lib.hid hmf
  have HNF := Lib.hid hnf
  have HID := Lib.hid hid
  obtain ⟨mfr, mtt, mkd, mvo, mli, mid, mco, mhas, mkey, mck, mgn, md⟩ := m
  obtain ⟨nkey, nck, ngn, nd⟩ := n
  dsimp only at HC1 HC2 HM HN HMF HNF HID
  have HLM := Lib.hid (And.intro hL hM)
  have P4 := (Blk.new w #[.int .i64 mfr, .int .i64 mtt, .int .i64 mkd, .int .i64 mvo, .int .i64 mli, .int .u64 (mid : Int), .int .i64 mco, .bool mhas, .int .u64 (mkey : Int), .int .u32 (mck : Int), .bool mgn, .slice x L c] 36).alloc (.cells #[.int .u64 (nkey : Int), .int .u32 (nck : Int), .bool ngn, .slice y M k] 34)
  have P7 := Blk.new (w.alloc (.cells #[.int .i64 mfr, .int .i64 mtt, .int .i64 mkd, .int .i64 mvo, .int .i64 mli, .int .u64 (mid : Int), .int .i64 mco, .bool mhas, .int .u64 (mkey : Int), .int .u32 (mck : Int), .bool mgn, .slice x L c] 36)) #[.int .u64 (nkey : Int), .int .u32 (nck : Int), .bool ngn, .slice y M k] 34
  rw [show (w.alloc (.cells #[.int .i64 mfr, .int .i64 mtt, .int .i64 mkd, .int .i64 mvo, .int .i64 mli, .int .u64 (mid : Int), .int .i64 mco, .bool mhas, .int .u64 (mkey : Int), .int .u32 (mck : Int), .bool mgn, .slice x L c] 36)).heap.size = w.heap.size + 1 by simp] at P7
  have HB0 := Lib.hid (((Below.refl w.heap.size w).alloc (Nat.le_refl _) (.cells #[.int .i64 mfr, .int .i64 mtt, .int .i64 mkd, .int .i64 mvo, .int .i64 mli, .int .u64 (mid : Int), .int .i64 mco, .bool mhas, .int .u64 (mkey : Int), .int .u32 (mck : Int), .bool mgn, .slice x L c] 36)).alloc (by simp) (.cells #[.int .u64 (nkey : Int), .int .u32 (nck : Int), .bool ngn, .slice y M k] 34))
  clear hm hn hmf hnf hid hL hM hC1 hC2
  by_cases h1 : 300 < L
  · have k1 : (300 : Int) < (L : Int) := by omega
    go_enter Try.func5, Try.ntmps5
    go_wp2_with fail
    refine (HA.out _).mono ?_
    rintro e w1 ⟨rfl, hb⟩
    have HB1 := Lib.hid (HB0.out.trans (hb.mono HB0.out.size))
    have HP := Lib.hid ((P4.below hb (by simp; omega)))
    have HQ := Lib.hid ((P7.below hb (by simp)))
    clear hb
    have p0 := HP.out.cell 0 rfl
    have p1 := HP.out.cell 1 rfl
    have p2 := HP.out.cell 2 rfl
    have p3 := HP.out.cell 3 rfl
    have p4 := HP.out.cell 4 rfl
    have p5 := HP.out.cell 5 rfl
    have p6 := HP.out.cell 6 rfl
    have p7 := HP.out.cell 7 rfl
    have p8 := HP.out.cell 8 rfl
    have p9 := HP.out.cell 9 rfl
    have p10 := HP.out.cell 10 rfl
    have p11 := HP.out.cell 11 rfl
    have q0 := HQ.out.cell 0 rfl
    have q1 := HQ.out.cell 1 rfl
    have q2 := HQ.out.cell 2 rfl
    have q3 := HQ.out.cell 3 rfl
    go_wp2
    go_ret
    exact ⟨rfl, HB1.out⟩
  have k1 : ¬ (300 : Int) < (L : Int) := by omega
  by_cases h2 : 300 < M
  · have k2 : (300 : Int) < (M : Int) := by omega
    go_enter Try.func5, Try.ntmps5
    go_wp2_with fail
    refine (HA.out _).mono ?_
    rintro e w1 ⟨rfl, hb⟩
    have HB1 := Lib.hid (HB0.out.trans (hb.mono HB0.out.size))
    have HP := Lib.hid ((P4.below hb (by simp; omega)))
    have HQ := Lib.hid ((P7.below hb (by simp)))
    clear hb
    have p0 := HP.out.cell 0 rfl
    have p1 := HP.out.cell 1 rfl
    have p2 := HP.out.cell 2 rfl
    have p3 := HP.out.cell 3 rfl
    have p4 := HP.out.cell 4 rfl
    have p5 := HP.out.cell 5 rfl
    have p6 := HP.out.cell 6 rfl
    have p7 := HP.out.cell 7 rfl
    have p8 := HP.out.cell 8 rfl
    have p9 := HP.out.cell 9 rfl
    have p10 := HP.out.cell 10 rfl
    have p11 := HP.out.cell 11 rfl
    have q0 := HQ.out.cell 0 rfl
    have q1 := HQ.out.cell 1 rfl
    have q2 := HQ.out.cell 2 rfl
    have q3 := HQ.out.cell 3 rfl
    go_wp2
    go_ret
    exact ⟨rfl, HB1.out⟩
  have k2 : ¬ (300 : Int) < (M : Int) := by omega
  have HC1 := Lib.hid (fun wx (hb : Below w.heap.size w wx) => HC1.out wx hb (by omega))
  by_cases h3 : C1 = 0
  case neg =>
    have k3 : ((C1 : Int) != 0) = true := bne_iff_ne.2 (by omega)
    have k4 : ¬ (C1 : Int) = 0 := by omega
    go_enter Try.func5, Try.ntmps5
    go_wp2_with fail
    refine (HA.out _).mono ?_
    rintro e w1 ⟨rfl, hb⟩
    have HB1 := Lib.hid (HB0.out.trans (hb.mono HB0.out.size))
    have HP := Lib.hid ((P4.below hb (by simp; omega)))
    have HQ := Lib.hid ((P7.below hb (by simp)))
    clear hb
    have p0 := HP.out.cell 0 rfl
    have p1 := HP.out.cell 1 rfl
    have p2 := HP.out.cell 2 rfl
    have p3 := HP.out.cell 3 rfl
    have p4 := HP.out.cell 4 rfl
    have p5 := HP.out.cell 5 rfl
    have p6 := HP.out.cell 6 rfl
    have p7 := HP.out.cell 7 rfl
    have p8 := HP.out.cell 8 rfl
    have p9 := HP.out.cell 9 rfl
    have p10 := HP.out.cell 10 rfl
    have p11 := HP.out.cell 11 rfl
    have q0 := HQ.out.cell 0 rfl
    have q1 := HQ.out.cell 1 rfl
    have q2 := HQ.out.cell 2 rfl
    have q3 := HQ.out.cell 3 rfl
    go_wp2_with fail
    refine (HC1.out _ HB1.out).mono ?_
    rintro e w2 ⟨rfl, hb2⟩
    have HB2 := Lib.hid (HB1.out.trans (hb2.mono HB1.out.size))
    have HP2 := Lib.hid (HP.out.below hb2 HP.out.lt)
    have HQ2 := Lib.hid (HQ.out.below hb2 HQ.out.lt)
    clear hb2 p0 p1 p2 p3 p4 p5 p6 p7 p8 p9 p10 p11 q0 q1 q2 q3
    have p0 := HP2.out.cell 0 rfl
    have p1 := HP2.out.cell 1 rfl
    have p2 := HP2.out.cell 2 rfl
    have p3 := HP2.out.cell 3 rfl
    have p4 := HP2.out.cell 4 rfl
    have p5 := HP2.out.cell 5 rfl
    have p6 := HP2.out.cell 6 rfl
    have p7 := HP2.out.cell 7 rfl
    have p8 := HP2.out.cell 8 rfl
    have p9 := HP2.out.cell 9 rfl
    have p10 := HP2.out.cell 10 rfl
    have p11 := HP2.out.cell 11 rfl
    have q0 := HQ2.out.cell 0 rfl
    have q1 := HQ2.out.cell 1 rfl
    have q2 := HQ2.out.cell 2 rfl
    have q3 := HQ2.out.cell 3 rfl
    go_wp2
    go_ret
    exact ⟨rfl, HB2.out⟩
  subst h3
  by_cases h4 : C2 = 0
  case neg =>
    have k3 : ((C2 : Int) != 0) = true := bne_iff_ne.2 (by omega)
    have k4 : ¬ (C2 : Int) = 0 := by omega
    go_enter Try.func5, Try.ntmps5
    go_wp2_with fail
    refine (HA.out _).mono ?_
    rintro e w1 ⟨rfl, hb⟩
    have HB1 := Lib.hid (HB0.out.trans (hb.mono HB0.out.size))
    have HP := Lib.hid ((P4.below hb (by simp; omega)))
    have HQ := Lib.hid ((P7.below hb (by simp)))
    clear hb
    have p0 := HP.out.cell 0 rfl
    have p1 := HP.out.cell 1 rfl
    have p2 := HP.out.cell 2 rfl
    have p3 := HP.out.cell 3 rfl
    have p4 := HP.out.cell 4 rfl
    have p5 := HP.out.cell 5 rfl
    have p6 := HP.out.cell 6 rfl
    have p7 := HP.out.cell 7 rfl
    have p8 := HP.out.cell 8 rfl
    have p9 := HP.out.cell 9 rfl
    have p10 := HP.out.cell 10 rfl
    have p11 := HP.out.cell 11 rfl
    have q0 := HQ.out.cell 0 rfl
    have q1 := HQ.out.cell 1 rfl
    have q2 := HQ.out.cell 2 rfl
    have q3 := HQ.out.cell 3 rfl
    go_wp2_with fail
    refine (HC1.out _ HB1.out).mono ?_
    rintro e w2 ⟨rfl, hb2⟩
    have HB2 := Lib.hid (HB1.out.trans (hb2.mono HB1.out.size))
    have HP2 := Lib.hid (HP.out.below hb2 HP.out.lt)
    have HQ2 := Lib.hid (HQ.out.below hb2 HQ.out.lt)
    clear hb2 p0 p1 p2 p3 p4 p5 p6 p7 p8 p9 p10 p11 q0 q1 q2 q3
    have p0 := HP2.out.cell 0 rfl
    have p1 := HP2.out.cell 1 rfl
    have p2 := HP2.out.cell 2 rfl
    have p3 := HP2.out.cell 3 rfl
    have p4 := HP2.out.cell 4 rfl
    have p5 := HP2.out.cell 5 rfl
    have p6 := HP2.out.cell 6 rfl
    have p7 := HP2.out.cell 7 rfl
    have p8 := HP2.out.cell 8 rfl
    have p9 := HP2.out.cell 9 rfl
    have p10 := HP2.out.cell 10 rfl
    have p11 := HP2.out.cell 11 rfl
    have q0 := HQ2.out.cell 0 rfl
    have q1 := HQ2.out.cell 1 rfl
    have q2 := HQ2.out.cell 2 rfl
    have q3 := HQ2.out.cell 3 rfl
    go_wp2_with fail
    refine (HC2.out _ HB2.out).mono ?_
    rintro e w3 ⟨rfl, hb3⟩
    have HB3 := Lib.hid (HB2.out.trans (hb3.mono HB2.out.size))
    have HP3 := Lib.hid (HP2.out.below hb3 HP2.out.lt)
    have HQ3 := Lib.hid (HQ2.out.below hb3 HQ2.out.lt)
    clear hb3 p0 p1 p2 p3 p4 p5 p6 p7 p8 p9 p10 p11 q0 q1 q2 q3
    have p0 := HP3.out.cell 0 rfl
    have p1 := HP3.out.cell 1 rfl
    have p2 := HP3.out.cell 2 rfl
    have p3 := HP3.out.cell 3 rfl
    have p4 := HP3.out.cell 4 rfl
    have p5 := HP3.out.cell 5 rfl
    have p6 := HP3.out.cell 6 rfl
    have p7 := HP3.out.cell 7 rfl
    have p8 := HP3.out.cell 8 rfl
    have p9 := HP3.out.cell 9 rfl
    have p10 := HP3.out.cell 10 rfl
    have p11 := HP3.out.cell 11 rfl
    have q0 := HQ3.out.cell 0 rfl
    have q1 := HQ3.out.cell 1 rfl
    have q2 := HQ3.out.cell 2 rfl
    have q3 := HQ3.out.cell 3 rfl
    go_wp2
    go_ret
    exact ⟨rfl, HB3.out⟩
  subst h4
  cases has with
  | true =>
    obtain ⟨g1, g2, g3, g4, g5, g6, g7, g8, g9, g10, g11, g12, g13⟩ := (mcheck_ok HK1.out).1
    dsimp only at g1 g2 g3 g4 g5 g6 g7 g8 g9 g10 g11 g12 g13
    have HCA := Lib.hid (show mcheck ⟨mtt, mfr, 5, mvo, mli, mid, (code : Int), true, ⟨nkey, nck, ngn, nd⟩⟩ = 0 by
      unfold mcheck
      rw [if_neg (fun hh => hh (by unfold Msg.good; dsimp only; refine ⟨?_, ?_, ?_, ?_, ?_, ?_, ?_, ?_, (fun e => ?_), ?_, ?_, ?_, ?_⟩ <;> omega))]
      rw [if_pos rfl]; exact HK2.out)
    have HOF := Lib.hid (fun wx => of_any14 ⟨mfr, mtt, mkd, mvo, mli, mid, mco, mhas, ⟨mkey, mck, mgn, md⟩⟩ x L c wx)
    have HISA := Lib.hid (fun wx (hb : Below w.heap.size w wx) => show IsB wx (.slice y M k) nd from HN.out.mono hb (Nat.le_refl _))
    have HRP := Lib.hid (fun wx (hb : Below w.heap.size w wx) => show Calls Try.prog 18 #[.agg #[.int .i64 mfr, .int .i64 mtt, .int .i64 mkd, .int .i64 mvo, .int .i64 mli, .int .u64 (mid : Int), .int .i64 mco, .bool mhas, .int .u64 (mkey : Int), .int .u32 (mck : Int), .bool mgn, .slice x L c], .int .i64 (code : Int), .bool true, .agg #[.int .u64 (nkey : Int), .int .u32 (nck : Int), .bool ngn, .slice y M k]] wx (fun e w' => ∃ za zc, e = .returned (.agg #[.int .i64 mtt, .int .i64 mfr, .int .i64 5, .int .i64 mvo, .int .i64 mli, .int .u64 (mid : Int), .int .i64 (code : Int), .bool true, .int .u64 (nkey : Int), .int .u32 (nck : Int), .bool ngn, .slice za M zc]) ∧ IsB w' (.slice za M zc) nd ∧ (∀ b, liesB (.slice za M zc) nd b → wx.heap.size ≤ b) ∧ Below wx.heap.size wx w') from wreply_f ⟨mfr, mtt, mkd, mvo, mli, mid, mco, mhas, ⟨mkey, mck, mgn, md⟩⟩ x L c (code : Int) true ⟨nkey, nck, ngn, nd⟩ y M k wx (HISA.out wx hb) (by have := HLM.out.2; dsimp only at this ⊢; omega))
    have HNFA := Lib.hid (show Ndl.fits ⟨nkey, nck, ngn, nd⟩ from HNF.out)
    have HMR := Lib.hid (mread_bytes HCA.out HNF.out HID.out)
    have HML := Lib.hid (show (mbytes ⟨mtt, mfr, 5, mvo, mli, mid, (code : Int), true, ⟨nkey, nck, ngn, nd⟩⟩).length ≤ 1099511627776 by
      rw [length_mbytes, length_mbody]
      rw [if_pos rfl, length_nbytes]; have := HLM.out.2; dsimp only at this; unfold padn; dsimp only; omega)
    obtain ⟨bs, hbs⟩ : ∃ b, mbytes ⟨mtt, mfr, 5, mvo, mli, mid, (code : Int), true, ⟨nkey, nck, ngn, nd⟩⟩ = b := ⟨_, rfl⟩
    rw [hbs] at HMR HML
    have HBS := Lib.hid hbs
    obtain ⟨BL, hBL⟩ : ∃ b, bs.length = b := ⟨_, rfl⟩
    rw [hBL] at HML
    have HBL := Lib.hid hBL
    have ev : IntKind.i64.wrap (code : Int) = (code : Int) := IntWalk.i64_in _ (by omega)
    clear hbs hBL g1 g2 g3 g4 g5 g6 g7 g8 g9 g10 g11 g12 g13
    go_enter Try.func5, Try.ntmps5
    go_wp2_with fail
    refine (HA.out _).mono ?_
    rintro e w1 ⟨rfl, hb⟩
    have HB1 := Lib.hid (HB0.out.trans (hb.mono HB0.out.size))
    have HP := Lib.hid ((P4.below hb (by simp; omega)))
    have HQ := Lib.hid ((P7.below hb (by simp)))
    clear hb
    have p0 := HP.out.cell 0 rfl
    have p1 := HP.out.cell 1 rfl
    have p2 := HP.out.cell 2 rfl
    have p3 := HP.out.cell 3 rfl
    have p4 := HP.out.cell 4 rfl
    have p5 := HP.out.cell 5 rfl
    have p6 := HP.out.cell 6 rfl
    have p7 := HP.out.cell 7 rfl
    have p8 := HP.out.cell 8 rfl
    have p9 := HP.out.cell 9 rfl
    have p10 := HP.out.cell 10 rfl
    have p11 := HP.out.cell 11 rfl
    have q0 := HQ.out.cell 0 rfl
    have q1 := HQ.out.cell 1 rfl
    have q2 := HQ.out.cell 2 rfl
    have q3 := HQ.out.cell 3 rfl
    go_wp2_with fail
    refine (HC1.out _ HB1.out).mono ?_
    rintro e w2 ⟨rfl, hb2⟩
    have HB2 := Lib.hid (HB1.out.trans (hb2.mono HB1.out.size))
    have HP2 := Lib.hid (HP.out.below hb2 HP.out.lt)
    have HQ2 := Lib.hid (HQ.out.below hb2 HQ.out.lt)
    clear hb2 p0 p1 p2 p3 p4 p5 p6 p7 p8 p9 p10 p11 q0 q1 q2 q3
    have p0 := HP2.out.cell 0 rfl
    have p1 := HP2.out.cell 1 rfl
    have p2 := HP2.out.cell 2 rfl
    have p3 := HP2.out.cell 3 rfl
    have p4 := HP2.out.cell 4 rfl
    have p5 := HP2.out.cell 5 rfl
    have p6 := HP2.out.cell 6 rfl
    have p7 := HP2.out.cell 7 rfl
    have p8 := HP2.out.cell 8 rfl
    have p9 := HP2.out.cell 9 rfl
    have p10 := HP2.out.cell 10 rfl
    have p11 := HP2.out.cell 11 rfl
    have q0 := HQ2.out.cell 0 rfl
    have q1 := HQ2.out.cell 1 rfl
    have q2 := HQ2.out.cell 2 rfl
    have q3 := HQ2.out.cell 3 rfl
    go_wp2_with fail
    refine (HC2.out _ HB2.out).mono ?_
    rintro e w3 ⟨rfl, hb3⟩
    have HB3 := Lib.hid (HB2.out.trans (hb3.mono HB2.out.size))
    have HP3 := Lib.hid (HP2.out.below hb3 HP2.out.lt)
    have HQ3 := Lib.hid (HQ2.out.below hb3 HQ2.out.lt)
    clear hb3 p0 p1 p2 p3 p4 p5 p6 p7 p8 p9 p10 p11 q0 q1 q2 q3
    have p0 := HP3.out.cell 0 rfl
    have p1 := HP3.out.cell 1 rfl
    have p2 := HP3.out.cell 2 rfl
    have p3 := HP3.out.cell 3 rfl
    have p4 := HP3.out.cell 4 rfl
    have p5 := HP3.out.cell 5 rfl
    have p6 := HP3.out.cell 6 rfl
    have p7 := HP3.out.cell 7 rfl
    have p8 := HP3.out.cell 8 rfl
    have p9 := HP3.out.cell 9 rfl
    have p10 := HP3.out.cell 10 rfl
    have p11 := HP3.out.cell 11 rfl
    have q0 := HQ3.out.cell 0 rfl
    have q1 := HQ3.out.cell 1 rfl
    have q2 := HQ3.out.cell 2 rfl
    have q3 := HQ3.out.cell 3 rfl
    have h9 := Blk.new w3 #[.int .u64 (nkey : Int), .int .u32 (nck : Int), .bool ngn, .slice y M k] 27
    have hp5 := HP3.out.alloc (.cells #[.int .u64 (nkey : Int), .int .u32 (nck : Int), .bool ngn, .slice y M k] 27)
    have hb5 := HB3.out.alloc HB3.out.size (.cells #[.int .u64 (nkey : Int), .int .u32 (nck : Int), .bool ngn, .slice y M k] 27)
    go_upto_region 8 with fail
    obtain ⟨w5, hw5⟩ : ∃ w5, w3.alloc (.cells #[.int .u64 (nkey : Int), .int .u32 (nck : Int), .bool ngn, .slice y M k] 27) = w5 := ⟨_, rfl⟩
    obtain ⟨Y9, hY9⟩ : ∃ Y, w3.heap.size = Y := ⟨_, rfl⟩
    rw [hw5, hY9] at h9
    rw [hw5] at hp5 hb5
    try rw [hw5]
    try rw [hY9]
    have H9 := Lib.hid h9
    have HP5 := Lib.hid hp5
    have HB5 := Lib.hid hb5
    clear h9 hp5 hb5 hw5 hY9 p0 p1 p2 p3 p4 p5 p6 p7 p8 p9 p10 p11 q0 q1 q2 q3
    have HS := Lib.hid (show ∀ wx, Below w5.heap.size w5 wx → (fun wx => (wx.cell? ⟨w.heap.size, 0, none⟩ = some (.int .i64 mfr) ∧ wx.cell? ⟨w.heap.size, 1, none⟩ = some (.int .i64 mtt) ∧ wx.cell? ⟨w.heap.size, 2, none⟩ = some (.int .i64 mkd) ∧ wx.cell? ⟨w.heap.size, 3, none⟩ = some (.int .i64 mvo) ∧ wx.cell? ⟨w.heap.size, 4, none⟩ = some (.int .i64 mli) ∧ wx.cell? ⟨w.heap.size, 5, none⟩ = some (.int .u64 (mid : Int)) ∧ wx.cell? ⟨w.heap.size, 6, none⟩ = some (.int .i64 mco) ∧ wx.cell? ⟨w.heap.size, 7, none⟩ = some (.bool mhas) ∧ wx.cell? ⟨w.heap.size, 8, none⟩ = some (.int .u64 (mkey : Int)) ∧ wx.cell? ⟨w.heap.size, 9, none⟩ = some (.int .u32 (mck : Int)) ∧ wx.cell? ⟨w.heap.size, 10, none⟩ = some (.bool mgn) ∧ wx.cell? ⟨w.heap.size, 11, none⟩ = some (.slice x L c)) ∧ (wx.cell? ⟨Y9, 0, none⟩ = some (.int .u64 (nkey : Int)) ∧ wx.cell? ⟨Y9, 1, none⟩ = some (.int .u32 (nck : Int)) ∧ wx.cell? ⟨Y9, 2, none⟩ = some (.bool ngn) ∧ wx.cell? ⟨Y9, 3, none⟩ = some (.slice y M k))) wx from fun wx hb => by
      have h1 := HP5.out.below hb HP5.out.lt
      have h2 := H9.out.below hb H9.out.lt
      exact ⟨⟨h1.cell 0 rfl, h1.cell 1 rfl, h1.cell 2 rfl, h1.cell 3 rfl, h1.cell 4 rfl, h1.cell 5 rfl, h1.cell 6 rfl, h1.cell 7 rfl, h1.cell 8 rfl, h1.cell 9 rfl, h1.cell 10 rfl, h1.cell 11 rfl⟩, ⟨h2.cell 0 rfl, h2.cell 1 rfl, h2.cell 2 rfl, h2.cell 3 rfl⟩⟩)
    go_cut [10] from 43 to 49 (fun x10 wx => ∃ A za zc, x10 = .pointer (some ⟨A, 0, none⟩) ∧ w5.heap.size ≤ A ∧ Hid (Blk wx A #[.int .i64 mtt, .int .i64 mfr, .int .i64 5, .int .i64 mvo, .int .i64 mli, .int .u64 (mid : Int), .int .i64 (code : Int), .bool true, .int .u64 (nkey : Int), .int .u32 (nck : Int), .bool ngn, .slice za M zc] 29) ∧ Hid (IsB wx (.slice za M zc) nd) ∧ Hid (Below w5.heap.size w5 wx))
    case first =>
      have Q0 := Lib.hid ((Below.refl w5.heap.size w5).drew)
      refine AnyE.start (S := (fun wx => (wx.cell? ⟨w.heap.size, 0, none⟩ = some (.int .i64 mfr) ∧ wx.cell? ⟨w.heap.size, 1, none⟩ = some (.int .i64 mtt) ∧ wx.cell? ⟨w.heap.size, 2, none⟩ = some (.int .i64 mkd) ∧ wx.cell? ⟨w.heap.size, 3, none⟩ = some (.int .i64 mvo) ∧ wx.cell? ⟨w.heap.size, 4, none⟩ = some (.int .i64 mli) ∧ wx.cell? ⟨w.heap.size, 5, none⟩ = some (.int .u64 (mid : Int)) ∧ wx.cell? ⟨w.heap.size, 6, none⟩ = some (.int .i64 mco) ∧ wx.cell? ⟨w.heap.size, 7, none⟩ = some (.bool mhas) ∧ wx.cell? ⟨w.heap.size, 8, none⟩ = some (.int .u64 (mkey : Int)) ∧ wx.cell? ⟨w.heap.size, 9, none⟩ = some (.int .u32 (mck : Int)) ∧ wx.cell? ⟨w.heap.size, 10, none⟩ = some (.bool mgn) ∧ wx.cell? ⟨w.heap.size, 11, none⟩ = some (.slice x L c)) ∧ (wx.cell? ⟨Y9, 0, none⟩ = some (.int .u64 (nkey : Int)) ∧ wx.cell? ⟨Y9, 1, none⟩ = some (.int .u32 (nck : Int)) ∧ wx.cell? ⟨Y9, 2, none⟩ = some (.bool ngn) ∧ wx.cell? ⟨Y9, 3, none⟩ = some (.slice y M k)))) 8 (by kernel_rfl) (HS.out _ Q0.out) (fun hHeld => ?_)
      obtain ⟨q0, hq0⟩ : ∃ q0, w5.drew = q0 := ⟨_, rfl⟩
      rw [hq0] at Q0 hHeld
      rw [hq0]
      clear hq0
      refine AnyE.take (i := 0) (v := ?_) rfl (by kernel_rfl) (by kernel_rfl) (by kernel_rfl) (by kernel_rfl) (fun _ _ _ h => h) (Or.inl ⟨by rfl, ?_⟩) (by assumption) ?_
      rotate_left 1
      · intro w hSw
        (try dsimp only at hSw)
        go_simp
        all_goals (with_reducible rfl)
      try simp only [Act.put, List.getElem_toArray, List.getElem_cons_zero, List.getElem_cons_succ, List.setIfInBounds_toArray, List.set_cons_zero, List.set_cons_succ]
      refine AnyE.take (i := 2) (v := ?_) rfl (by kernel_rfl) (by kernel_rfl) (by kernel_rfl) (by kernel_rfl) (fun _ _ _ h => h) (Or.inl ⟨by rfl, ?_⟩) (by assumption) ?_
      rotate_left 1
      · intro w hSw
        (try dsimp only at hSw)
        go_simp
        all_goals (with_reducible rfl)
      try simp only [Act.put, List.getElem_toArray, List.getElem_cons_zero, List.getElem_cons_succ, List.setIfInBounds_toArray, List.set_cons_zero, List.set_cons_succ]
      refine AnyE.take (i := 3) (v := ?_) rfl (by kernel_rfl) (by kernel_rfl) (by kernel_rfl) (by kernel_rfl) (fun _ _ _ h => h) (Or.inl ⟨by rfl, ?_⟩) (by assumption) ?_
      rotate_left 1
      · intro w hSw
        (try dsimp only at hSw)
        go_simp
        all_goals (with_reducible rfl)
      try simp only [Act.put, List.getElem_toArray, List.getElem_cons_zero, List.getElem_cons_succ, List.setIfInBounds_toArray, List.set_cons_zero, List.set_cons_succ]
      refine AnyE.take (i := 4) (v := ?_) rfl (by kernel_rfl) (by kernel_rfl) (by kernel_rfl) (by kernel_rfl) (fun _ _ _ h => h) (Or.inl ⟨by rfl, ?_⟩) (by assumption) ?_
      rotate_left 1
      · intro w hSw
        (try dsimp only at hSw)
        go_simp
        all_goals (with_reducible rfl)
      try simp only [Act.put, List.getElem_toArray, List.getElem_cons_zero, List.getElem_cons_succ, List.setIfInBounds_toArray, List.set_cons_zero, List.set_cons_succ]
      refine AnyE.take (i := 5) (v := ?_) rfl (by kernel_rfl) (by kernel_rfl) (by kernel_rfl) (by kernel_rfl) (fun _ _ _ h => h) (Or.inl ⟨by rfl, ?_⟩) (by assumption) ?_
      rotate_left 1
      · intro w hSw
        (try dsimp only at hSw)
        go_simp
        all_goals (with_reducible rfl)
      try simp only [Act.put, List.getElem_toArray, List.getElem_cons_zero, List.getElem_cons_succ, List.setIfInBounds_toArray, List.set_cons_zero, List.set_cons_succ]
      refine AnyE.next (rs := [1, 7]) (by kernel_rfl) (by simp) ?_
      refine AllE.cons rfl (fun K hK => ?_) ?_
      · go_simp
        refine (HOF.out _).mono ?_
        rintro e q1 ⟨rfl, hbx⟩
        have Q1 := Lib.hid (Q0.out.trans (hbx.mono Q0.out.size))
        clear hbx
        refine hK.out _ _ (HS.out _ Q1.out) (fun hHeld => ?_)
        clear hK K
        try simp only [Act.put, List.getElem_toArray, List.getElem_cons_zero, List.getElem_cons_succ, List.setIfInBounds_toArray, List.set_cons_zero, List.set_cons_succ]
        refine AnyE.next (rs := [6, 7]) (by kernel_rfl) (by simp) ?_
        refine AllE.cons rfl (fun K hK => ?_) ?_
        · go_simp
          refine (HRP.out _ (HB5.out.trans (Q1.out.mono HB5.out.size))).mono ?_
          rintro e q2 ⟨za, zc, rfl, hiz, hzl, hbx⟩
          have Q2 := Lib.hid (Q1.out.trans (hbx.mono Q1.out.size))
          clear hbx hzl
          refine hK.out _ _ (HS.out _ Q2.out) (fun hHeld => ?_)
          clear hK K
          try simp only [Act.put, List.getElem_toArray, List.getElem_cons_zero, List.getElem_cons_succ, List.setIfInBounds_toArray, List.set_cons_zero, List.set_cons_succ]
          refine AnyE.next (rs := [7]) (by kernel_rfl) (by simp) ?_
          refine AllE.cons rfl (fun K hK => ?_) AllE.nil
          go_simp
          refine hK.out _ _ (HS.out _ (Q2.out.alloc Q2.out.size (.cells #[.int .i64 0, .int .i64 0, .int .i64 0, .int .i64 0, .int .i64 0, .int .u64 0, .int .i64 0, .bool false, .int .u64 0, .int .u32 0, .bool false, .slice none 0 0] 29))) (fun hHeld => ?_)
          have Q3 := Lib.hid (Q2.out.alloc Q2.out.size (.cells #[.int .i64 0, .int .i64 0, .int .i64 0, .int .i64 0, .int .i64 0, .int .u64 0, .int .i64 0, .bool false, .int .u64 0, .int .u32 0, .bool false, .slice none 0 0] 29))
          have XA := Lib.hid (Blk.new q2 #[.int .i64 0, .int .i64 0, .int .i64 0, .int .i64 0, .int .i64 0, .int .u64 0, .int .i64 0, .bool false, .int .u64 0, .int .u32 0, .bool false, .slice none 0 0] 29)
          have GA := Lib.hid Q2.out.size
          have HWN := Lib.hid (below_alloc14 q2 (.cells #[.int .i64 0, .int .i64 0, .int .i64 0, .int .i64 0, .int .i64 0, .int .u64 0, .int .i64 0, .bool false, .int .u64 0, .int .u32 0, .bool false, .slice none 0 0] 29))
          obtain ⟨A, hA⟩ : ∃ A, q2.heap.size = A := ⟨_, rfl⟩
          obtain ⟨q3, hnw⟩ : ∃ nw, q2.alloc (.cells #[.int .i64 0, .int .i64 0, .int .i64 0, .int .i64 0, .int .i64 0, .int .u64 0, .int .i64 0, .bool false, .int .u64 0, .int .u32 0, .bool false, .slice none 0 0] 29) = nw := ⟨_, rfl⟩
          rw [hnw, hA] at XA
          rw [hnw] at Q3 hHeld HWN
          rw [hA] at GA
          have HAE := Lib.hid hA
          rw [hnw]
          try rw [hA]
          clear hK K hnw hA
          try simp only [Act.put, List.getElem_toArray, List.getElem_cons_zero, List.getElem_cons_succ, List.setIfInBounds_toArray, List.set_cons_zero, List.set_cons_succ]
          have HZI := Lib.hid (hiz.mono HWN.out (Nat.le_refl _))
          have HZL := Lib.hid (show ∀ b, liesB (.slice za M zc) nd b → ¬ b = A from fun b hb e => by have := hiz.lies_lt hb; have := HAE.out; omega)
          clear hiz
          have z0 := XA.out.cell 0 rfl
          have z1 := XA.out.cell 1 rfl
          have z2 := XA.out.cell 2 rfl
          have z3 := XA.out.cell 3 rfl
          have z4 := XA.out.cell 4 rfl
          have z5 := XA.out.cell 5 rfl
          have z6 := XA.out.cell 6 rfl
          have z7 := XA.out.cell 7 rfl
          have z8 := XA.out.cell 8 rfl
          have z9 := XA.out.cell 9 rfl
          have z10 := XA.out.cell 10 rfl
          have z11 := XA.out.cell 11 rfl
          have zf := fun j => XA.out.free j
          have FK := (fin12 XA.out Q3.out GA.out (.int .i64 mtt) (.int .i64 mfr) (.int .i64 5) (.int .i64 mvo) (.int .i64 mli) (.int .u64 (mid : Int)) (.int .i64 (code : Int)) (.bool true) (.int .u64 (nkey : Int)) (.int .u32 (nck : Int)) (.bool ngn) (.slice za M zc)).2.2.2.2.2.2.2.2.2.2.2.2.2
          unfold set12 at FK
          have FI := HZI.out.kept FK (fun b hb => HZL.out b hb)
          have FI := Lib.hid FI
          clear FK
          have FB := Lib.hid (fin12b XA.out Q3.out GA.out (.int .i64 mtt) (.int .i64 mfr) (.int .i64 5) (.int .i64 mvo) (.int .i64 mli) (.int .u64 (mid : Int)) (.int .i64 (code : Int)) (.bool true) (.int .u64 (nkey : Int)) (.int .u32 (nck : Int)) (.bool ngn) (.slice za M zc))
          unfold set12 at FB
          refine AnyE.next (rs := [8]) (by kernel_rfl) (by simp) ?_
          refine AllE.last rfl (fun K hK => ?_)
          go_simp
          refine hK.out _ _ ?_
          clear hK K
          try simp only [Act.put, List.getElem_toArray, List.getElem_cons_zero, List.getElem_cons_succ, List.setIfInBounds_toArray, List.set_cons_zero, List.set_cons_succ]
          refine AnyE.done (by kernel_rfl) ?_ _
          go_wp2_with fail
          go_meet
          exact ⟨A, za, zc, by first | exact rfl | exact trivial, GA.out, Lib.hid FB.out.1, FI, Lib.hid FB.out.2⟩
        refine AllE.cons rfl (fun K hK => ?_) AllE.nil
        go_simp
        refine hK.out _ _ (HS.out _ (Q1.out.alloc Q1.out.size (.cells #[.int .i64 0, .int .i64 0, .int .i64 0, .int .i64 0, .int .i64 0, .int .u64 0, .int .i64 0, .bool false, .int .u64 0, .int .u32 0, .bool false, .slice none 0 0] 29))) (fun hHeld => ?_)
        have Q2 := Lib.hid (Q1.out.alloc Q1.out.size (.cells #[.int .i64 0, .int .i64 0, .int .i64 0, .int .i64 0, .int .i64 0, .int .u64 0, .int .i64 0, .bool false, .int .u64 0, .int .u32 0, .bool false, .slice none 0 0] 29))
        have XA := Lib.hid (Blk.new q1 #[.int .i64 0, .int .i64 0, .int .i64 0, .int .i64 0, .int .i64 0, .int .u64 0, .int .i64 0, .bool false, .int .u64 0, .int .u32 0, .bool false, .slice none 0 0] 29)
        have GA := Lib.hid Q1.out.size
        have HWN := Lib.hid (below_alloc14 q1 (.cells #[.int .i64 0, .int .i64 0, .int .i64 0, .int .i64 0, .int .i64 0, .int .u64 0, .int .i64 0, .bool false, .int .u64 0, .int .u32 0, .bool false, .slice none 0 0] 29))
        obtain ⟨A, hA⟩ : ∃ A, q1.heap.size = A := ⟨_, rfl⟩
        obtain ⟨q2, hnw⟩ : ∃ nw, q1.alloc (.cells #[.int .i64 0, .int .i64 0, .int .i64 0, .int .i64 0, .int .i64 0, .int .u64 0, .int .i64 0, .bool false, .int .u64 0, .int .u32 0, .bool false, .slice none 0 0] 29) = nw := ⟨_, rfl⟩
        rw [hnw, hA] at XA
        rw [hnw] at Q2 hHeld HWN
        rw [hA] at GA
        have HAE := Lib.hid hA
        rw [hnw]
        try rw [hA]
        clear hK K hnw hA
        try simp only [Act.put, List.getElem_toArray, List.getElem_cons_zero, List.getElem_cons_succ, List.setIfInBounds_toArray, List.set_cons_zero, List.set_cons_succ]
        refine AnyE.next (rs := [6]) (by kernel_rfl) (by simp) ?_
        refine AllE.cons rfl (fun K hK => ?_) AllE.nil
        go_simp
        refine (HRP.out _ (HB5.out.trans (Q2.out.mono HB5.out.size))).mono ?_
        rintro e q3 ⟨za, zc, rfl, hiz, hzl, hbx⟩
        have Q3 := Lib.hid (Q2.out.trans (hbx.mono Q2.out.size))
        have XB := Lib.hid (XA.out.below hbx XA.out.lt)
        have HZI := Lib.hid hiz
        have HZL := Lib.hid (show ∀ b, liesB (.slice za M zc) nd b → ¬ b = A from fun b hb e => by have := hzl b hb; have := XA.out.lt; omega)
        clear hbx hiz hzl
        refine hK.out _ _ (HS.out _ Q3.out) (fun hHeld => ?_)
        clear hK K
        try simp only [Act.put, List.getElem_toArray, List.getElem_cons_zero, List.getElem_cons_succ, List.setIfInBounds_toArray, List.set_cons_zero, List.set_cons_succ]
        have z0 := XB.out.cell 0 rfl
        have z1 := XB.out.cell 1 rfl
        have z2 := XB.out.cell 2 rfl
        have z3 := XB.out.cell 3 rfl
        have z4 := XB.out.cell 4 rfl
        have z5 := XB.out.cell 5 rfl
        have z6 := XB.out.cell 6 rfl
        have z7 := XB.out.cell 7 rfl
        have z8 := XB.out.cell 8 rfl
        have z9 := XB.out.cell 9 rfl
        have z10 := XB.out.cell 10 rfl
        have z11 := XB.out.cell 11 rfl
        have zf := fun j => XB.out.free j
        have FK := (fin12 XB.out Q3.out GA.out (.int .i64 mtt) (.int .i64 mfr) (.int .i64 5) (.int .i64 mvo) (.int .i64 mli) (.int .u64 (mid : Int)) (.int .i64 (code : Int)) (.bool true) (.int .u64 (nkey : Int)) (.int .u32 (nck : Int)) (.bool ngn) (.slice za M zc)).2.2.2.2.2.2.2.2.2.2.2.2.2
        unfold set12 at FK
        have FI := HZI.out.kept FK (fun b hb => HZL.out b hb)
        have FI := Lib.hid FI
        clear FK
        have FB := Lib.hid (fin12b XB.out Q3.out GA.out (.int .i64 mtt) (.int .i64 mfr) (.int .i64 5) (.int .i64 mvo) (.int .i64 mli) (.int .u64 (mid : Int)) (.int .i64 (code : Int)) (.bool true) (.int .u64 (nkey : Int)) (.int .u32 (nck : Int)) (.bool ngn) (.slice za M zc))
        unfold set12 at FB
        refine AnyE.next (rs := [8]) (by kernel_rfl) (by simp) ?_
        refine AllE.last rfl (fun K hK => ?_)
        go_simp
        refine hK.out _ _ ?_
        clear hK K
        try simp only [Act.put, List.getElem_toArray, List.getElem_cons_zero, List.getElem_cons_succ, List.setIfInBounds_toArray, List.set_cons_zero, List.set_cons_succ]
        refine AnyE.done (by kernel_rfl) ?_ _
        go_wp2_with fail
        go_meet
        exact ⟨A, za, zc, by first | exact rfl | exact trivial, GA.out, Lib.hid FB.out.1, FI, Lib.hid FB.out.2⟩
      refine AllE.cons rfl (fun K hK => ?_) AllE.nil
      go_simp
      refine hK.out _ _ (HS.out _ (Q0.out.alloc Q0.out.size (.cells #[.int .i64 0, .int .i64 0, .int .i64 0, .int .i64 0, .int .i64 0, .int .u64 0, .int .i64 0, .bool false, .int .u64 0, .int .u32 0, .bool false, .slice none 0 0] 29))) (fun hHeld => ?_)
      have Q1 := Lib.hid (Q0.out.alloc Q0.out.size (.cells #[.int .i64 0, .int .i64 0, .int .i64 0, .int .i64 0, .int .i64 0, .int .u64 0, .int .i64 0, .bool false, .int .u64 0, .int .u32 0, .bool false, .slice none 0 0] 29))
      have XA := Lib.hid (Blk.new q0 #[.int .i64 0, .int .i64 0, .int .i64 0, .int .i64 0, .int .i64 0, .int .u64 0, .int .i64 0, .bool false, .int .u64 0, .int .u32 0, .bool false, .slice none 0 0] 29)
      have GA := Lib.hid Q0.out.size
      have HWN := Lib.hid (below_alloc14 q0 (.cells #[.int .i64 0, .int .i64 0, .int .i64 0, .int .i64 0, .int .i64 0, .int .u64 0, .int .i64 0, .bool false, .int .u64 0, .int .u32 0, .bool false, .slice none 0 0] 29))
      obtain ⟨A, hA⟩ : ∃ A, q0.heap.size = A := ⟨_, rfl⟩
      obtain ⟨q1, hnw⟩ : ∃ nw, q0.alloc (.cells #[.int .i64 0, .int .i64 0, .int .i64 0, .int .i64 0, .int .i64 0, .int .u64 0, .int .i64 0, .bool false, .int .u64 0, .int .u32 0, .bool false, .slice none 0 0] 29) = nw := ⟨_, rfl⟩
      rw [hnw, hA] at XA
      rw [hnw] at Q1 hHeld HWN
      rw [hA] at GA
      have HAE := Lib.hid hA
      rw [hnw]
      try rw [hA]
      clear hK K hnw hA
      try simp only [Act.put, List.getElem_toArray, List.getElem_cons_zero, List.getElem_cons_succ, List.setIfInBounds_toArray, List.set_cons_zero, List.set_cons_succ]
      refine AnyE.next (rs := [1]) (by kernel_rfl) (by simp) ?_
      refine AllE.cons rfl (fun K hK => ?_) AllE.nil
      go_simp
      refine (HOF.out _).mono ?_
      rintro e q2 ⟨rfl, hbx⟩
      have Q2 := Lib.hid (Q1.out.trans (hbx.mono Q1.out.size))
      have XB := Lib.hid (XA.out.below hbx XA.out.lt)
      clear hbx
      refine hK.out _ _ (HS.out _ Q2.out) (fun hHeld => ?_)
      clear hK K
      try simp only [Act.put, List.getElem_toArray, List.getElem_cons_zero, List.getElem_cons_succ, List.setIfInBounds_toArray, List.set_cons_zero, List.set_cons_succ]
      refine AnyE.next (rs := [6]) (by kernel_rfl) (by simp) ?_
      refine AllE.cons rfl (fun K hK => ?_) AllE.nil
      go_simp
      refine (HRP.out _ (HB5.out.trans (Q2.out.mono HB5.out.size))).mono ?_
      rintro e q3 ⟨za, zc, rfl, hiz, hzl, hbx⟩
      have Q3 := Lib.hid (Q2.out.trans (hbx.mono Q2.out.size))
      have XC := Lib.hid (XB.out.below hbx XB.out.lt)
      have HZI := Lib.hid hiz
      have HZL := Lib.hid (show ∀ b, liesB (.slice za M zc) nd b → ¬ b = A from fun b hb e => by have := hzl b hb; have := XB.out.lt; omega)
      clear hbx hiz hzl
      refine hK.out _ _ (HS.out _ Q3.out) (fun hHeld => ?_)
      clear hK K
      try simp only [Act.put, List.getElem_toArray, List.getElem_cons_zero, List.getElem_cons_succ, List.setIfInBounds_toArray, List.set_cons_zero, List.set_cons_succ]
      have z0 := XC.out.cell 0 rfl
      have z1 := XC.out.cell 1 rfl
      have z2 := XC.out.cell 2 rfl
      have z3 := XC.out.cell 3 rfl
      have z4 := XC.out.cell 4 rfl
      have z5 := XC.out.cell 5 rfl
      have z6 := XC.out.cell 6 rfl
      have z7 := XC.out.cell 7 rfl
      have z8 := XC.out.cell 8 rfl
      have z9 := XC.out.cell 9 rfl
      have z10 := XC.out.cell 10 rfl
      have z11 := XC.out.cell 11 rfl
      have zf := fun j => XC.out.free j
      have FK := (fin12 XC.out Q3.out GA.out (.int .i64 mtt) (.int .i64 mfr) (.int .i64 5) (.int .i64 mvo) (.int .i64 mli) (.int .u64 (mid : Int)) (.int .i64 (code : Int)) (.bool true) (.int .u64 (nkey : Int)) (.int .u32 (nck : Int)) (.bool ngn) (.slice za M zc)).2.2.2.2.2.2.2.2.2.2.2.2.2
      unfold set12 at FK
      have FI := HZI.out.kept FK (fun b hb => HZL.out b hb)
      have FI := Lib.hid FI
      clear FK
      have FB := Lib.hid (fin12b XC.out Q3.out GA.out (.int .i64 mtt) (.int .i64 mfr) (.int .i64 5) (.int .i64 mvo) (.int .i64 mli) (.int .u64 (mid : Int)) (.int .i64 (code : Int)) (.bool true) (.int .u64 (nkey : Int)) (.int .u32 (nck : Int)) (.bool ngn) (.slice za M zc))
      unfold set12 at FB
      refine AnyE.next (rs := [8]) (by kernel_rfl) (by simp) ?_
      refine AllE.last rfl (fun K hK => ?_)
      go_simp
      refine hK.out _ _ ?_
      clear hK K
      try simp only [Act.put, List.getElem_toArray, List.getElem_cons_zero, List.getElem_cons_succ, List.setIfInBounds_toArray, List.set_cons_zero, List.set_cons_succ]
      refine AnyE.done (by kernel_rfl) ?_ _
      go_wp2_with fail
      go_meet
      exact ⟨A, za, zc, by first | exact rfl | exact trivial, GA.out, Lib.hid FB.out.1, FI, Lib.hid FB.out.2⟩
    case rest =>
      obtain ⟨A, za, zc, rfl, hA5, HA6, HI6, HB6⟩ := hcut
      obtain ⟨w6, hw6⟩ : ∃ w6, w6 = wc := ⟨_, rfl⟩
      subst hw6
      have HBB := Lib.hid (HB5.out.trans (HB6.out.mono HB5.out.size))
      have HBY := Lib.hid (show Calls Try.prog 14 #[.agg #[.int .i64 mtt, .int .i64 mfr, .int .i64 5, .int .i64 mvo, .int .i64 mli, .int .u64 (mid : Int), .int .i64 (code : Int), .bool true, .int .u64 (nkey : Int), .int .u32 (nck : Int), .bool ngn, .slice za M zc]] w6 (fun e w' => ∃ y k, e = .returned (.tuple #[.slice y (mbytes ⟨mtt, mfr, 5, mvo, mli, mid, (code : Int), true, ⟨nkey, nck, ngn, nd⟩⟩).length k, .nilIface]) ∧ w'.ownsRow w6.heap.size 5 1 (.slice y (mbytes ⟨mtt, mfr, 5, mvo, mli, mid, (code : Int), true, ⟨nkey, nck, ngn, nd⟩⟩).length k) (mbytes ⟨mtt, mfr, 5, mvo, mli, mid, (code : Int), true, ⟨nkey, nck, ngn, nd⟩⟩).length (bvs (mbytes ⟨mtt, mfr, 5, mvo, mli, mid, (code : Int), true, ⟨nkey, nck, ngn, nd⟩⟩)) ∧ Below w6.heap.size w6 w') from wbytes_ok ⟨mtt, mfr, 5, mvo, mli, mid, (code : Int), true, ⟨nkey, nck, ngn, nd⟩⟩ za M zc w6 HI6.out HCA.out HNFA.out HID.out)
      rw [HBS.out] at HBY
      rw [HBL.out] at HBY
      have HRB := Lib.hid (fun wx => show Calls Try.prog 18 #[.agg #[.int .i64 mtt, .int .i64 mfr, .int .i64 5, .int .i64 mvo, .int .i64 mli, .int .u64 (mid : Int), .int .i64 (code : Int), .bool true, .int .u64 (nkey : Int), .int .u32 (nck : Int), .bool ngn, .slice za M zc], .int .i64 0, .bool false, .agg #[.int .u64 0, .int .u32 0, .bool false, .slice none 0 0]] wx (fun e w' => ∃ ya yc, e = .returned (.agg #[.int .i64 mfr, .int .i64 mtt, .int .i64 5, .int .i64 mvo, .int .i64 mli, .int .u64 (mid : Int), .int .i64 0, .bool false, .int .u64 0, .int .u32 0, .bool false, .slice ya 0 yc]) ∧ IsB w' (.slice ya 0 yc) [] ∧ Below wx.heap.size wx w') from wreply_v ⟨mtt, mfr, 5, mvo, mli, mid, (code : Int), true, ⟨nkey, nck, ngn, nd⟩⟩ za M zc 0 false nz none 0 0 wx (IsB.nil wx) (by decide))
      have HP6 := Lib.hid (HP5.out.below HB6.out HP5.out.lt)
      have a0 := HA6.out.cell 0 rfl
      have a1 := HA6.out.cell 1 rfl
      have a2 := HA6.out.cell 2 rfl
      have a3 := HA6.out.cell 3 rfl
      have a4 := HA6.out.cell 4 rfl
      have a5 := HA6.out.cell 5 rfl
      have a6 := HA6.out.cell 6 rfl
      have a7 := HA6.out.cell 7 rfl
      have a8 := HA6.out.cell 8 rfl
      have a9 := HA6.out.cell 9 rfl
      have a10 := HA6.out.cell 10 rfl
      have a11 := HA6.out.cell 11 rfl
      go_wp2_with fail
      refine HBY.out.mono ?_
      rintro e w7 ⟨by7, bk7, rfl, hown7, hb7⟩
      have HI7 := Lib.hid (show IsB w7 (.slice by7 BL bk7) bs from IsB.own hown7 HBL.out.symm)
      have HA7 := Lib.hid (HA6.out.below hb7 HA6.out.lt)
      have HD7 := Lib.hid (HI6.out.mono hb7 (Nat.le_refl _))
      have HP7 := Lib.hid (HP6.out.below hb7 HP6.out.lt)
      have HB7 := Lib.hid (HBB.out.trans (hb7.mono HBB.out.size))
      have HRD := Lib.hid (wread_v (.slice by7 BL bk7) bs w7 HI7.out (by rw [HBL.out]; exact HML.out))
      rw [HMR.out.1, HMR.out.2] at HRD
      clear hown7 hb7 a0 a1 a2 a3 a4 a5 a6 a7 a8 a9 a10 a11
      go_wp2_with fail
      refine HRD.out.mono ?_
      rintro e w8 ⟨rx, rc, rfl, hi8, _, hb8⟩
      rw [cerr_0]
      dsimp only at hi8 ⊢
      obtain ⟨R8, hR8⟩ : ∃ n, List.length nd = n := ⟨_, rfl⟩
      try rw [hR8] at hi8
      try rw [hR8]
      have HA8 := (HA7.out.below hb8 HA7.out.lt).alloc (.cells #[.int .i64 mtt, .int .i64 mfr, .int .i64 5, .int .i64 mvo, .int .i64 mli, .int .u64 (mid : Int), .int .i64 (code : Int), .bool true, .int .u64 (nkey : Int), .int .u32 (nck : Int), .bool ngn, .slice rx R8 rc] 29)
      have HP8 := (HP7.out.below hb8 HP7.out.lt).alloc (.cells #[.int .i64 mtt, .int .i64 mfr, .int .i64 5, .int .i64 mvo, .int .i64 mli, .int .u64 (mid : Int), .int .i64 (code : Int), .bool true, .int .u64 (nkey : Int), .int .u32 (nck : Int), .bool ngn, .slice rx R8 rc] 29)
      have HX8 := Blk.new w8 #[.int .i64 mtt, .int .i64 mfr, .int .i64 5, .int .i64 mvo, .int .i64 mli, .int .u64 (mid : Int), .int .i64 (code : Int), .bool true, .int .u64 (nkey : Int), .int .u32 (nck : Int), .bool ngn, .slice rx R8 rc] 29
      have hB8 := HB7.out.trans (hb8.mono HB7.out.size)
      have HB8 := hB8.alloc hB8.size (.cells #[.int .i64 mtt, .int .i64 mfr, .int .i64 5, .int .i64 mvo, .int .i64 mli, .int .u64 (mid : Int), .int .i64 (code : Int), .bool true, .int .u64 (nkey : Int), .int .u32 (nck : Int), .bool ngn, .slice rx R8 rc] 29)
      have HD8 := (HD7.out.mono hb8 (Nat.le_refl _)).mono (below_alloc14 w8 (.cells #[.int .i64 mtt, .int .i64 mfr, .int .i64 5, .int .i64 mvo, .int .i64 mli, .int .u64 (mid : Int), .int .i64 (code : Int), .bool true, .int .u64 (nkey : Int), .int .u32 (nck : Int), .bool ngn, .slice rx R8 rc] 29)) (Nat.le_refl _)
      have HI8 := hi8.mono (below_alloc14 w8 (.cells #[.int .i64 mtt, .int .i64 mfr, .int .i64 5, .int .i64 mvo, .int .i64 mli, .int .u64 (mid : Int), .int .i64 (code : Int), .bool true, .int .u64 (nkey : Int), .int .u32 (nck : Int), .bool ngn, .slice rx R8 rc] 29)) (Nat.le_refl _)
      obtain ⟨w9, hw9⟩ : ∃ w9, w8.alloc (.cells #[.int .i64 mtt, .int .i64 mfr, .int .i64 5, .int .i64 mvo, .int .i64 mli, .int .u64 (mid : Int), .int .i64 (code : Int), .bool true, .int .u64 (nkey : Int), .int .u32 (nck : Int), .bool ngn, .slice rx R8 rc] 29) = w9 := ⟨_, rfl⟩
      obtain ⟨X13, hX13⟩ : ∃ X, w8.heap.size = X := ⟨_, rfl⟩
      rw [hw9] at HA8 HP8 HX8 HB8 HI8 HD8
      rw [hX13] at HX8
      go_upto_region 11 with fail
      try rw [hw9]
      try rw [hX13]
      have HA9 := Lib.hid HA8
      have HP9 := Lib.hid HP8
      have HX9 := Lib.hid HX8
      have HB9 := Lib.hid HB8
      have HI9 := Lib.hid HI8
      have HD9 := Lib.hid HD8
      have HR8 := Lib.hid hR8
      clear HA8 HP8 HX8 HB8 HI8 HD8 hw9 hX13 hB8 hb8 hi8 hR8
      have a0 := HA9.out.cell 0 rfl
      have a1 := HA9.out.cell 1 rfl
      have a2 := HA9.out.cell 2 rfl
      have a3 := HA9.out.cell 3 rfl
      have a4 := HA9.out.cell 4 rfl
      have a5 := HA9.out.cell 5 rfl
      have a6 := HA9.out.cell 6 rfl
      have a7 := HA9.out.cell 7 rfl
      have a8 := HA9.out.cell 8 rfl
      have a9 := HA9.out.cell 9 rfl
      have a10 := HA9.out.cell 10 rfl
      have a11 := HA9.out.cell 11 rfl
      go_wp2_with fail
      refine (HRB.out _).mono ?_
      rintro e w10 ⟨ya, yc, rfl, _, hb10⟩
      have hA := (HA9.out.below hb10 HA9.out.lt).alloc (.cells #[.int .i64 mfr, .int .i64 mtt, .int .i64 5, .int .i64 mvo, .int .i64 mli, .int .u64 (mid : Int), .int .i64 0, .bool false, .int .u64 0, .int .u32 0, .bool false, .slice ya 0 yc] 29)
      have hP := (HP9.out.below hb10 HP9.out.lt).alloc (.cells #[.int .i64 mfr, .int .i64 mtt, .int .i64 5, .int .i64 mvo, .int .i64 mli, .int .u64 (mid : Int), .int .i64 0, .bool false, .int .u64 0, .int .u32 0, .bool false, .slice ya 0 yc] 29)
      have hX := (HX9.out.below hb10 HX9.out.lt).alloc (.cells #[.int .i64 mfr, .int .i64 mtt, .int .i64 5, .int .i64 mvo, .int .i64 mli, .int .u64 (mid : Int), .int .i64 0, .bool false, .int .u64 0, .int .u32 0, .bool false, .slice ya 0 yc] 29)
      have hZ := Blk.new w10 #[.int .i64 mfr, .int .i64 mtt, .int .i64 5, .int .i64 mvo, .int .i64 mli, .int .u64 (mid : Int), .int .i64 0, .bool false, .int .u64 0, .int .u32 0, .bool false, .slice ya 0 yc] 29
      have hB0 := HB9.out.trans (hb10.mono HB9.out.size)
      have hB := hB0.alloc hB0.size (.cells #[.int .i64 mfr, .int .i64 mtt, .int .i64 5, .int .i64 mvo, .int .i64 mli, .int .u64 (mid : Int), .int .i64 0, .bool false, .int .u64 0, .int .u32 0, .bool false, .slice ya 0 yc] 29)
      have hD := (HD9.out.mono hb10 (Nat.le_refl _)).mono (below_alloc14 w10 (.cells #[.int .i64 mfr, .int .i64 mtt, .int .i64 5, .int .i64 mvo, .int .i64 mli, .int .u64 (mid : Int), .int .i64 0, .bool false, .int .u64 0, .int .u32 0, .bool false, .slice ya 0 yc] 29)) (Nat.le_refl _)
      have hI := (HI9.out.mono hb10 (Nat.le_refl _)).mono (below_alloc14 w10 (.cells #[.int .i64 mfr, .int .i64 mtt, .int .i64 5, .int .i64 mvo, .int .i64 mli, .int .u64 (mid : Int), .int .i64 0, .bool false, .int .u64 0, .int .u32 0, .bool false, .slice ya 0 yc] 29)) (Nat.le_refl _)
      go_upto_region 12 with fail
      obtain ⟨w11, hw11⟩ : ∃ w11, w10.alloc (.cells #[.int .i64 mfr, .int .i64 mtt, .int .i64 5, .int .i64 mvo, .int .i64 mli, .int .u64 (mid : Int), .int .i64 0, .bool false, .int .u64 0, .int .u32 0, .bool false, .slice ya 0 yc] 29) = w11 := ⟨_, rfl⟩
      obtain ⟨X15, hX15⟩ : ∃ X, w10.heap.size = X := ⟨_, rfl⟩
      rw [hw11] at hA hP hX hZ hB hI hD
      rw [hX15] at hZ
      try rw [hw11]
      try rw [hX15]
      have HA11 := Lib.hid hA
      have HP11 := Lib.hid hP
      have HX11 := Lib.hid hX
      have HZ11 := Lib.hid hZ
      have HB11 := Lib.hid hB
      have HSM := Lib.hid (show Calls Try.prog 16 #[.agg #[.int .i64 mtt, .int .i64 mfr, .int .i64 5, .int .i64 mvo, .int .i64 mli, .int .u64 (mid : Int), .int .i64 (code : Int), .bool true, .int .u64 (nkey : Int), .int .u32 (nck : Int), .bool ngn, .slice za M zc], .agg #[.int .i64 mtt, .int .i64 mfr, .int .i64 5, .int .i64 mvo, .int .i64 mli, .int .u64 (mid : Int), .int .i64 (code : Int), .bool true, .int .u64 (nkey : Int), .int .u32 (nck : Int), .bool ngn, .slice rx R8 rc]] w11 (fun e w' => e = .returned (.bool true) ∧ Below w11.heap.size w11 w') by
        have := wsame_v ⟨mtt, mfr, 5, mvo, mli, mid, (code : Int), true, ⟨nkey, nck, ngn, nd⟩⟩ ⟨mtt, mfr, 5, mvo, mli, mid, (code : Int), true, ⟨nkey, nck, ngn, nd⟩⟩ za M zc rx R8 rc w11 hD hI
        rw [(sameM_eq _ _).2 rfl] at this
        exact this)
      clear hA hP hX hZ hB hI hD hw11 hX15 hB0 hb10 a0 a1 a2 a3 a4 a5 a6 a7 a8 a9 a10 a11
      have a0 := HA11.out.cell 0 rfl
      have a1 := HA11.out.cell 1 rfl
      have a2 := HA11.out.cell 2 rfl
      have a3 := HA11.out.cell 3 rfl
      have a4 := HA11.out.cell 4 rfl
      have a5 := HA11.out.cell 5 rfl
      have a6 := HA11.out.cell 6 rfl
      have a7 := HA11.out.cell 7 rfl
      have a8 := HA11.out.cell 8 rfl
      have a9 := HA11.out.cell 9 rfl
      have a10 := HA11.out.cell 10 rfl
      have a11 := HA11.out.cell 11 rfl
      have x0 := HX11.out.cell 0 rfl
      have x1 := HX11.out.cell 1 rfl
      have x2 := HX11.out.cell 2 rfl
      have x3 := HX11.out.cell 3 rfl
      have x4 := HX11.out.cell 4 rfl
      have x5 := HX11.out.cell 5 rfl
      have x6 := HX11.out.cell 6 rfl
      have x7 := HX11.out.cell 7 rfl
      have x8 := HX11.out.cell 8 rfl
      have x9 := HX11.out.cell 9 rfl
      have x10 := HX11.out.cell 10 rfl
      have x11 := HX11.out.cell 11 rfl
      go_wp2_with fail
      refine (code_nil _).mono ?_
      rintro e w12 ⟨rfl, rfl⟩
      go_wp2_with fail
      refine (code_nil _).mono ?_
      rintro e w12 ⟨rfl, rfl⟩
      go_wp2_with fail
      refine HSM.out.mono ?_
      rintro e w12 ⟨rfl, hb12⟩
      have hA := HA11.out.below hb12 HA11.out.lt
      have hP := HP11.out.below hb12 HP11.out.lt
      have hZ := HZ11.out.below hb12 HZ11.out.lt
      have HBF := Lib.hid (HB11.out.trans (hb12.mono HB11.out.size))
      clear hb12 a0 a1 a2 a3 a4 a5 a6 a7 a8 a9 a10 a11 x0 x1 x2 x3 x4 x5 x6 x7 x8 x9 x10 x11
      have a0 := hA.cell 0 rfl
      have a1 := hA.cell 1 rfl
      have a2 := hA.cell 2 rfl
      have a3 := hA.cell 3 rfl
      have a4 := hA.cell 4 rfl
      have a5 := hA.cell 5 rfl
      have a6 := hA.cell 6 rfl
      have a7 := hA.cell 7 rfl
      have a8 := hA.cell 8 rfl
      have a9 := hA.cell 9 rfl
      have a10 := hA.cell 10 rfl
      have a11 := hA.cell 11 rfl
      have z0 := hZ.cell 0 rfl
      have z1 := hZ.cell 1 rfl
      have z2 := hZ.cell 2 rfl
      have z3 := hZ.cell 3 rfl
      have z4 := hZ.cell 4 rfl
      have z5 := hZ.cell 5 rfl
      have z6 := hZ.cell 6 rfl
      have z7 := hZ.cell 7 rfl
      have z8 := hZ.cell 8 rfl
      have z9 := hZ.cell 9 rfl
      have z10 := hZ.cell 10 rfl
      have z11 := hZ.cell 11 rfl
      have p0 := hP.cell 0 rfl
      have p1 := hP.cell 1 rfl
      have p2 := hP.cell 2 rfl
      have p3 := hP.cell 3 rfl
      have p4 := hP.cell 4 rfl
      have p5 := hP.cell 5 rfl
      have p6 := hP.cell 6 rfl
      have p7 := hP.cell 7 rfl
      have p8 := hP.cell 8 rfl
      have p9 := hP.cell 9 rfl
      have p10 := hP.cell 10 rfl
      have p11 := hP.cell 11 rfl
      clear hA hP hZ
      go_wp2
      go_ret
      exact ⟨rfl, HBF.out⟩
  | false =>
    obtain ⟨g1, g2, g3, g4, g5, g6, g7, g8, g9, g10, g11, g12, g13⟩ := (mcheck_ok HK1.out).1
    dsimp only at g1 g2 g3 g4 g5 g6 g7 g8 g9 g10 g11 g12 g13
    have HCA := Lib.hid (show mcheck ⟨mtt, mfr, 5, mvo, mli, mid, (code : Int), false, nz⟩ = 0 by
      unfold mcheck
      rw [if_neg (fun hh => hh (by unfold Msg.good; dsimp only; refine ⟨?_, ?_, ?_, ?_, ?_, ?_, ?_, ?_, (fun e => ?_), ?_, ?_, ?_, ?_⟩ <;> omega))]
      rw [if_neg (by simp), if_pos (sameN_self nz)])
    have HOF := Lib.hid (fun wx => of_any14 ⟨mfr, mtt, mkd, mvo, mli, mid, mco, mhas, ⟨mkey, mck, mgn, md⟩⟩ x L c wx)
    have HISA := Lib.hid (fun wx (hb : Below w.heap.size w wx) => show IsB wx (.slice none 0 0) ([] : List UInt8) from IsB.nil wx)
    have HRP := Lib.hid (fun wx (hb : Below w.heap.size w wx) => show Calls Try.prog 18 #[.agg #[.int .i64 mfr, .int .i64 mtt, .int .i64 mkd, .int .i64 mvo, .int .i64 mli, .int .u64 (mid : Int), .int .i64 mco, .bool mhas, .int .u64 (mkey : Int), .int .u32 (mck : Int), .bool mgn, .slice x L c], .int .i64 (code : Int), .bool false, .agg #[.int .u64 0, .int .u32 0, .bool false, .slice none 0 0]] wx (fun e w' => ∃ za zc, e = .returned (.agg #[.int .i64 mtt, .int .i64 mfr, .int .i64 5, .int .i64 mvo, .int .i64 mli, .int .u64 (mid : Int), .int .i64 (code : Int), .bool false, .int .u64 0, .int .u32 0, .bool false, .slice za 0 zc]) ∧ IsB w' (.slice za 0 zc) ([] : List UInt8) ∧ (∀ b, liesB (.slice za 0 zc) ([] : List UInt8) b → wx.heap.size ≤ b) ∧ Below wx.heap.size wx w') from wreply_f ⟨mfr, mtt, mkd, mvo, mli, mid, mco, mhas, ⟨mkey, mck, mgn, md⟩⟩ x L c (code : Int) false nz none 0 0 wx (HISA.out wx hb) (by decide))
    have HNFA := Lib.hid (show Ndl.fits nz from ⟨by decide, by decide⟩)
    have HMR := Lib.hid (mread_bytes HCA.out (show nz.fits from ⟨by decide, by decide⟩) HID.out)
    have HML := Lib.hid (show (mbytes ⟨mtt, mfr, 5, mvo, mli, mid, (code : Int), false, nz⟩).length ≤ 1099511627776 by
      rw [length_mbytes, length_mbody]
      rw [if_neg (by simp)]; decide)
    obtain ⟨bs, hbs⟩ : ∃ b, mbytes ⟨mtt, mfr, 5, mvo, mli, mid, (code : Int), false, nz⟩ = b := ⟨_, rfl⟩
    rw [hbs] at HMR HML
    have HBS := Lib.hid hbs
    obtain ⟨BL, hBL⟩ : ∃ b, bs.length = b := ⟨_, rfl⟩
    rw [hBL] at HML
    have HBL := Lib.hid hBL
    have ev : IntKind.i64.wrap (code : Int) = (code : Int) := IntWalk.i64_in _ (by omega)
    clear hbs hBL g1 g2 g3 g4 g5 g6 g7 g8 g9 g10 g11 g12 g13
    go_enter Try.func5, Try.ntmps5
    go_wp2_with fail
    refine (HA.out _).mono ?_
    rintro e w1 ⟨rfl, hb⟩
    have HB1 := Lib.hid (HB0.out.trans (hb.mono HB0.out.size))
    have HP := Lib.hid ((P4.below hb (by simp; omega)))
    have HQ := Lib.hid ((P7.below hb (by simp)))
    clear hb
    have p0 := HP.out.cell 0 rfl
    have p1 := HP.out.cell 1 rfl
    have p2 := HP.out.cell 2 rfl
    have p3 := HP.out.cell 3 rfl
    have p4 := HP.out.cell 4 rfl
    have p5 := HP.out.cell 5 rfl
    have p6 := HP.out.cell 6 rfl
    have p7 := HP.out.cell 7 rfl
    have p8 := HP.out.cell 8 rfl
    have p9 := HP.out.cell 9 rfl
    have p10 := HP.out.cell 10 rfl
    have p11 := HP.out.cell 11 rfl
    have q0 := HQ.out.cell 0 rfl
    have q1 := HQ.out.cell 1 rfl
    have q2 := HQ.out.cell 2 rfl
    have q3 := HQ.out.cell 3 rfl
    go_wp2_with fail
    refine (HC1.out _ HB1.out).mono ?_
    rintro e w2 ⟨rfl, hb2⟩
    have HB2 := Lib.hid (HB1.out.trans (hb2.mono HB1.out.size))
    have HP2 := Lib.hid (HP.out.below hb2 HP.out.lt)
    have HQ2 := Lib.hid (HQ.out.below hb2 HQ.out.lt)
    clear hb2 p0 p1 p2 p3 p4 p5 p6 p7 p8 p9 p10 p11 q0 q1 q2 q3
    have p0 := HP2.out.cell 0 rfl
    have p1 := HP2.out.cell 1 rfl
    have p2 := HP2.out.cell 2 rfl
    have p3 := HP2.out.cell 3 rfl
    have p4 := HP2.out.cell 4 rfl
    have p5 := HP2.out.cell 5 rfl
    have p6 := HP2.out.cell 6 rfl
    have p7 := HP2.out.cell 7 rfl
    have p8 := HP2.out.cell 8 rfl
    have p9 := HP2.out.cell 9 rfl
    have p10 := HP2.out.cell 10 rfl
    have p11 := HP2.out.cell 11 rfl
    have q0 := HQ2.out.cell 0 rfl
    have q1 := HQ2.out.cell 1 rfl
    have q2 := HQ2.out.cell 2 rfl
    have q3 := HQ2.out.cell 3 rfl
    go_wp2_with fail
    refine (HC2.out _ HB2.out).mono ?_
    rintro e w3 ⟨rfl, hb3⟩
    have HB3 := Lib.hid (HB2.out.trans (hb3.mono HB2.out.size))
    have HP3 := Lib.hid (HP2.out.below hb3 HP2.out.lt)
    have HQ3 := Lib.hid (HQ2.out.below hb3 HQ2.out.lt)
    clear hb3 p0 p1 p2 p3 p4 p5 p6 p7 p8 p9 p10 p11 q0 q1 q2 q3
    have p0 := HP3.out.cell 0 rfl
    have p1 := HP3.out.cell 1 rfl
    have p2 := HP3.out.cell 2 rfl
    have p3 := HP3.out.cell 3 rfl
    have p4 := HP3.out.cell 4 rfl
    have p5 := HP3.out.cell 5 rfl
    have p6 := HP3.out.cell 6 rfl
    have p7 := HP3.out.cell 7 rfl
    have p8 := HP3.out.cell 8 rfl
    have p9 := HP3.out.cell 9 rfl
    have p10 := HP3.out.cell 10 rfl
    have p11 := HP3.out.cell 11 rfl
    have q0 := HQ3.out.cell 0 rfl
    have q1 := HQ3.out.cell 1 rfl
    have q2 := HQ3.out.cell 2 rfl
    have q3 := HQ3.out.cell 3 rfl
    have h9 := Blk.new w3 #[.int .u64 0, .int .u32 0, .bool false, .slice none 0 0] 27
    have hp5 := HP3.out.alloc (.cells #[.int .u64 0, .int .u32 0, .bool false, .slice none 0 0] 27)
    have hb5 := HB3.out.alloc HB3.out.size (.cells #[.int .u64 0, .int .u32 0, .bool false, .slice none 0 0] 27)
    go_upto_region 8 with fail
    obtain ⟨w5, hw5⟩ : ∃ w5, w3.alloc (.cells #[.int .u64 0, .int .u32 0, .bool false, .slice none 0 0] 27) = w5 := ⟨_, rfl⟩
    obtain ⟨Y9, hY9⟩ : ∃ Y, w3.heap.size = Y := ⟨_, rfl⟩
    rw [hw5, hY9] at h9
    rw [hw5] at hp5 hb5
    try rw [hw5]
    try rw [hY9]
    have H9 := Lib.hid h9
    have HP5 := Lib.hid hp5
    have HB5 := Lib.hid hb5
    clear h9 hp5 hb5 hw5 hY9 p0 p1 p2 p3 p4 p5 p6 p7 p8 p9 p10 p11 q0 q1 q2 q3
    have HS := Lib.hid (show ∀ wx, Below w5.heap.size w5 wx → (fun wx => (wx.cell? ⟨w.heap.size, 0, none⟩ = some (.int .i64 mfr) ∧ wx.cell? ⟨w.heap.size, 1, none⟩ = some (.int .i64 mtt) ∧ wx.cell? ⟨w.heap.size, 2, none⟩ = some (.int .i64 mkd) ∧ wx.cell? ⟨w.heap.size, 3, none⟩ = some (.int .i64 mvo) ∧ wx.cell? ⟨w.heap.size, 4, none⟩ = some (.int .i64 mli) ∧ wx.cell? ⟨w.heap.size, 5, none⟩ = some (.int .u64 (mid : Int)) ∧ wx.cell? ⟨w.heap.size, 6, none⟩ = some (.int .i64 mco) ∧ wx.cell? ⟨w.heap.size, 7, none⟩ = some (.bool mhas) ∧ wx.cell? ⟨w.heap.size, 8, none⟩ = some (.int .u64 (mkey : Int)) ∧ wx.cell? ⟨w.heap.size, 9, none⟩ = some (.int .u32 (mck : Int)) ∧ wx.cell? ⟨w.heap.size, 10, none⟩ = some (.bool mgn) ∧ wx.cell? ⟨w.heap.size, 11, none⟩ = some (.slice x L c)) ∧ (wx.cell? ⟨Y9, 0, none⟩ = some (.int .u64 0) ∧ wx.cell? ⟨Y9, 1, none⟩ = some (.int .u32 0) ∧ wx.cell? ⟨Y9, 2, none⟩ = some (.bool false) ∧ wx.cell? ⟨Y9, 3, none⟩ = some (.slice none 0 0))) wx from fun wx hb => by
      have h1 := HP5.out.below hb HP5.out.lt
      have h2 := H9.out.below hb H9.out.lt
      exact ⟨⟨h1.cell 0 rfl, h1.cell 1 rfl, h1.cell 2 rfl, h1.cell 3 rfl, h1.cell 4 rfl, h1.cell 5 rfl, h1.cell 6 rfl, h1.cell 7 rfl, h1.cell 8 rfl, h1.cell 9 rfl, h1.cell 10 rfl, h1.cell 11 rfl⟩, ⟨h2.cell 0 rfl, h2.cell 1 rfl, h2.cell 2 rfl, h2.cell 3 rfl⟩⟩)
    go_cut [10] from 43 to 49 (fun x10 wx => ∃ A za zc, x10 = .pointer (some ⟨A, 0, none⟩) ∧ w5.heap.size ≤ A ∧ Hid (Blk wx A #[.int .i64 mtt, .int .i64 mfr, .int .i64 5, .int .i64 mvo, .int .i64 mli, .int .u64 (mid : Int), .int .i64 (code : Int), .bool false, .int .u64 0, .int .u32 0, .bool false, .slice za 0 zc] 29) ∧ Hid (IsB wx (.slice za 0 zc) ([] : List UInt8)) ∧ Hid (Below w5.heap.size w5 wx))
    case first =>
      have Q0 := Lib.hid ((Below.refl w5.heap.size w5).drew)
      refine AnyE.start (S := (fun wx => (wx.cell? ⟨w.heap.size, 0, none⟩ = some (.int .i64 mfr) ∧ wx.cell? ⟨w.heap.size, 1, none⟩ = some (.int .i64 mtt) ∧ wx.cell? ⟨w.heap.size, 2, none⟩ = some (.int .i64 mkd) ∧ wx.cell? ⟨w.heap.size, 3, none⟩ = some (.int .i64 mvo) ∧ wx.cell? ⟨w.heap.size, 4, none⟩ = some (.int .i64 mli) ∧ wx.cell? ⟨w.heap.size, 5, none⟩ = some (.int .u64 (mid : Int)) ∧ wx.cell? ⟨w.heap.size, 6, none⟩ = some (.int .i64 mco) ∧ wx.cell? ⟨w.heap.size, 7, none⟩ = some (.bool mhas) ∧ wx.cell? ⟨w.heap.size, 8, none⟩ = some (.int .u64 (mkey : Int)) ∧ wx.cell? ⟨w.heap.size, 9, none⟩ = some (.int .u32 (mck : Int)) ∧ wx.cell? ⟨w.heap.size, 10, none⟩ = some (.bool mgn) ∧ wx.cell? ⟨w.heap.size, 11, none⟩ = some (.slice x L c)) ∧ (wx.cell? ⟨Y9, 0, none⟩ = some (.int .u64 0) ∧ wx.cell? ⟨Y9, 1, none⟩ = some (.int .u32 0) ∧ wx.cell? ⟨Y9, 2, none⟩ = some (.bool false) ∧ wx.cell? ⟨Y9, 3, none⟩ = some (.slice none 0 0)))) 8 (by kernel_rfl) (HS.out _ Q0.out) (fun hHeld => ?_)
      obtain ⟨q0, hq0⟩ : ∃ q0, w5.drew = q0 := ⟨_, rfl⟩
      rw [hq0] at Q0 hHeld
      rw [hq0]
      clear hq0
      refine AnyE.take (i := 0) (v := ?_) rfl (by kernel_rfl) (by kernel_rfl) (by kernel_rfl) (by kernel_rfl) (fun _ _ _ h => h) (Or.inl ⟨by rfl, ?_⟩) (by assumption) ?_
      rotate_left 1
      · intro w hSw
        (try dsimp only at hSw)
        go_simp
        all_goals (with_reducible rfl)
      try simp only [Act.put, List.getElem_toArray, List.getElem_cons_zero, List.getElem_cons_succ, List.setIfInBounds_toArray, List.set_cons_zero, List.set_cons_succ]
      refine AnyE.take (i := 2) (v := ?_) rfl (by kernel_rfl) (by kernel_rfl) (by kernel_rfl) (by kernel_rfl) (fun _ _ _ h => h) (Or.inl ⟨by rfl, ?_⟩) (by assumption) ?_
      rotate_left 1
      · intro w hSw
        (try dsimp only at hSw)
        go_simp
        all_goals (with_reducible rfl)
      try simp only [Act.put, List.getElem_toArray, List.getElem_cons_zero, List.getElem_cons_succ, List.setIfInBounds_toArray, List.set_cons_zero, List.set_cons_succ]
      refine AnyE.take (i := 3) (v := ?_) rfl (by kernel_rfl) (by kernel_rfl) (by kernel_rfl) (by kernel_rfl) (fun _ _ _ h => h) (Or.inl ⟨by rfl, ?_⟩) (by assumption) ?_
      rotate_left 1
      · intro w hSw
        (try dsimp only at hSw)
        go_simp
        all_goals (with_reducible rfl)
      try simp only [Act.put, List.getElem_toArray, List.getElem_cons_zero, List.getElem_cons_succ, List.setIfInBounds_toArray, List.set_cons_zero, List.set_cons_succ]
      refine AnyE.take (i := 4) (v := ?_) rfl (by kernel_rfl) (by kernel_rfl) (by kernel_rfl) (by kernel_rfl) (fun _ _ _ h => h) (Or.inl ⟨by rfl, ?_⟩) (by assumption) ?_
      rotate_left 1
      · intro w hSw
        (try dsimp only at hSw)
        go_simp
        all_goals (with_reducible rfl)
      try simp only [Act.put, List.getElem_toArray, List.getElem_cons_zero, List.getElem_cons_succ, List.setIfInBounds_toArray, List.set_cons_zero, List.set_cons_succ]
      refine AnyE.take (i := 5) (v := ?_) rfl (by kernel_rfl) (by kernel_rfl) (by kernel_rfl) (by kernel_rfl) (fun _ _ _ h => h) (Or.inl ⟨by rfl, ?_⟩) (by assumption) ?_
      rotate_left 1
      · intro w hSw
        (try dsimp only at hSw)
        go_simp
        all_goals (with_reducible rfl)
      try simp only [Act.put, List.getElem_toArray, List.getElem_cons_zero, List.getElem_cons_succ, List.setIfInBounds_toArray, List.set_cons_zero, List.set_cons_succ]
      refine AnyE.next (rs := [1, 7]) (by kernel_rfl) (by simp) ?_
      refine AllE.cons rfl (fun K hK => ?_) ?_
      · go_simp
        refine (HOF.out _).mono ?_
        rintro e q1 ⟨rfl, hbx⟩
        have Q1 := Lib.hid (Q0.out.trans (hbx.mono Q0.out.size))
        clear hbx
        refine hK.out _ _ (HS.out _ Q1.out) (fun hHeld => ?_)
        clear hK K
        try simp only [Act.put, List.getElem_toArray, List.getElem_cons_zero, List.getElem_cons_succ, List.setIfInBounds_toArray, List.set_cons_zero, List.set_cons_succ]
        refine AnyE.next (rs := [6, 7]) (by kernel_rfl) (by simp) ?_
        refine AllE.cons rfl (fun K hK => ?_) ?_
        · go_simp
          refine (HRP.out _ (HB5.out.trans (Q1.out.mono HB5.out.size))).mono ?_
          rintro e q2 ⟨za, zc, rfl, hiz, hzl, hbx⟩
          have Q2 := Lib.hid (Q1.out.trans (hbx.mono Q1.out.size))
          clear hbx hzl
          refine hK.out _ _ (HS.out _ Q2.out) (fun hHeld => ?_)
          clear hK K
          try simp only [Act.put, List.getElem_toArray, List.getElem_cons_zero, List.getElem_cons_succ, List.setIfInBounds_toArray, List.set_cons_zero, List.set_cons_succ]
          refine AnyE.next (rs := [7]) (by kernel_rfl) (by simp) ?_
          refine AllE.cons rfl (fun K hK => ?_) AllE.nil
          go_simp
          refine hK.out _ _ (HS.out _ (Q2.out.alloc Q2.out.size (.cells #[.int .i64 0, .int .i64 0, .int .i64 0, .int .i64 0, .int .i64 0, .int .u64 0, .int .i64 0, .bool false, .int .u64 0, .int .u32 0, .bool false, .slice none 0 0] 29))) (fun hHeld => ?_)
          have Q3 := Lib.hid (Q2.out.alloc Q2.out.size (.cells #[.int .i64 0, .int .i64 0, .int .i64 0, .int .i64 0, .int .i64 0, .int .u64 0, .int .i64 0, .bool false, .int .u64 0, .int .u32 0, .bool false, .slice none 0 0] 29))
          have XA := Lib.hid (Blk.new q2 #[.int .i64 0, .int .i64 0, .int .i64 0, .int .i64 0, .int .i64 0, .int .u64 0, .int .i64 0, .bool false, .int .u64 0, .int .u32 0, .bool false, .slice none 0 0] 29)
          have GA := Lib.hid Q2.out.size
          have HWN := Lib.hid (below_alloc14 q2 (.cells #[.int .i64 0, .int .i64 0, .int .i64 0, .int .i64 0, .int .i64 0, .int .u64 0, .int .i64 0, .bool false, .int .u64 0, .int .u32 0, .bool false, .slice none 0 0] 29))
          obtain ⟨A, hA⟩ : ∃ A, q2.heap.size = A := ⟨_, rfl⟩
          obtain ⟨q3, hnw⟩ : ∃ nw, q2.alloc (.cells #[.int .i64 0, .int .i64 0, .int .i64 0, .int .i64 0, .int .i64 0, .int .u64 0, .int .i64 0, .bool false, .int .u64 0, .int .u32 0, .bool false, .slice none 0 0] 29) = nw := ⟨_, rfl⟩
          rw [hnw, hA] at XA
          rw [hnw] at Q3 hHeld HWN
          rw [hA] at GA
          have HAE := Lib.hid hA
          rw [hnw]
          try rw [hA]
          clear hK K hnw hA
          try simp only [Act.put, List.getElem_toArray, List.getElem_cons_zero, List.getElem_cons_succ, List.setIfInBounds_toArray, List.set_cons_zero, List.set_cons_succ]
          have HZI := Lib.hid (hiz.mono HWN.out (Nat.le_refl _))
          have HZL := Lib.hid (show ∀ b, liesB (.slice za 0 zc) ([] : List UInt8) b → ¬ b = A from fun b hb e => by have := hiz.lies_lt hb; have := HAE.out; omega)
          clear hiz
          have z0 := XA.out.cell 0 rfl
          have z1 := XA.out.cell 1 rfl
          have z2 := XA.out.cell 2 rfl
          have z3 := XA.out.cell 3 rfl
          have z4 := XA.out.cell 4 rfl
          have z5 := XA.out.cell 5 rfl
          have z6 := XA.out.cell 6 rfl
          have z7 := XA.out.cell 7 rfl
          have z8 := XA.out.cell 8 rfl
          have z9 := XA.out.cell 9 rfl
          have z10 := XA.out.cell 10 rfl
          have z11 := XA.out.cell 11 rfl
          have zf := fun j => XA.out.free j
          have FK := (fin12 XA.out Q3.out GA.out (.int .i64 mtt) (.int .i64 mfr) (.int .i64 5) (.int .i64 mvo) (.int .i64 mli) (.int .u64 (mid : Int)) (.int .i64 (code : Int)) (.bool false) (.int .u64 0) (.int .u32 0) (.bool false) (.slice za 0 zc)).2.2.2.2.2.2.2.2.2.2.2.2.2
          unfold set12 at FK
          have FI := HZI.out.kept FK (fun b hb => HZL.out b hb)
          have FI := Lib.hid FI
          clear FK
          have FB := Lib.hid (fin12b XA.out Q3.out GA.out (.int .i64 mtt) (.int .i64 mfr) (.int .i64 5) (.int .i64 mvo) (.int .i64 mli) (.int .u64 (mid : Int)) (.int .i64 (code : Int)) (.bool false) (.int .u64 0) (.int .u32 0) (.bool false) (.slice za 0 zc))
          unfold set12 at FB
          refine AnyE.next (rs := [8]) (by kernel_rfl) (by simp) ?_
          refine AllE.last rfl (fun K hK => ?_)
          go_simp
          refine hK.out _ _ ?_
          clear hK K
          try simp only [Act.put, List.getElem_toArray, List.getElem_cons_zero, List.getElem_cons_succ, List.setIfInBounds_toArray, List.set_cons_zero, List.set_cons_succ]
          refine AnyE.done (by kernel_rfl) ?_ _
          go_wp2_with fail
          go_meet
          exact ⟨A, za, zc, by first | exact rfl | exact trivial, GA.out, Lib.hid FB.out.1, FI, Lib.hid FB.out.2⟩
        refine AllE.cons rfl (fun K hK => ?_) AllE.nil
        go_simp
        refine hK.out _ _ (HS.out _ (Q1.out.alloc Q1.out.size (.cells #[.int .i64 0, .int .i64 0, .int .i64 0, .int .i64 0, .int .i64 0, .int .u64 0, .int .i64 0, .bool false, .int .u64 0, .int .u32 0, .bool false, .slice none 0 0] 29))) (fun hHeld => ?_)
        have Q2 := Lib.hid (Q1.out.alloc Q1.out.size (.cells #[.int .i64 0, .int .i64 0, .int .i64 0, .int .i64 0, .int .i64 0, .int .u64 0, .int .i64 0, .bool false, .int .u64 0, .int .u32 0, .bool false, .slice none 0 0] 29))
        have XA := Lib.hid (Blk.new q1 #[.int .i64 0, .int .i64 0, .int .i64 0, .int .i64 0, .int .i64 0, .int .u64 0, .int .i64 0, .bool false, .int .u64 0, .int .u32 0, .bool false, .slice none 0 0] 29)
        have GA := Lib.hid Q1.out.size
        have HWN := Lib.hid (below_alloc14 q1 (.cells #[.int .i64 0, .int .i64 0, .int .i64 0, .int .i64 0, .int .i64 0, .int .u64 0, .int .i64 0, .bool false, .int .u64 0, .int .u32 0, .bool false, .slice none 0 0] 29))
        obtain ⟨A, hA⟩ : ∃ A, q1.heap.size = A := ⟨_, rfl⟩
        obtain ⟨q2, hnw⟩ : ∃ nw, q1.alloc (.cells #[.int .i64 0, .int .i64 0, .int .i64 0, .int .i64 0, .int .i64 0, .int .u64 0, .int .i64 0, .bool false, .int .u64 0, .int .u32 0, .bool false, .slice none 0 0] 29) = nw := ⟨_, rfl⟩
        rw [hnw, hA] at XA
        rw [hnw] at Q2 hHeld HWN
        rw [hA] at GA
        have HAE := Lib.hid hA
        rw [hnw]
        try rw [hA]
        clear hK K hnw hA
        try simp only [Act.put, List.getElem_toArray, List.getElem_cons_zero, List.getElem_cons_succ, List.setIfInBounds_toArray, List.set_cons_zero, List.set_cons_succ]
        refine AnyE.next (rs := [6]) (by kernel_rfl) (by simp) ?_
        refine AllE.cons rfl (fun K hK => ?_) AllE.nil
        go_simp
        refine (HRP.out _ (HB5.out.trans (Q2.out.mono HB5.out.size))).mono ?_
        rintro e q3 ⟨za, zc, rfl, hiz, hzl, hbx⟩
        have Q3 := Lib.hid (Q2.out.trans (hbx.mono Q2.out.size))
        have XB := Lib.hid (XA.out.below hbx XA.out.lt)
        have HZI := Lib.hid hiz
        have HZL := Lib.hid (show ∀ b, liesB (.slice za 0 zc) ([] : List UInt8) b → ¬ b = A from fun b hb e => by have := hzl b hb; have := XA.out.lt; omega)
        clear hbx hiz hzl
        refine hK.out _ _ (HS.out _ Q3.out) (fun hHeld => ?_)
        clear hK K
        try simp only [Act.put, List.getElem_toArray, List.getElem_cons_zero, List.getElem_cons_succ, List.setIfInBounds_toArray, List.set_cons_zero, List.set_cons_succ]
        have z0 := XB.out.cell 0 rfl
        have z1 := XB.out.cell 1 rfl
        have z2 := XB.out.cell 2 rfl
        have z3 := XB.out.cell 3 rfl
        have z4 := XB.out.cell 4 rfl
        have z5 := XB.out.cell 5 rfl
        have z6 := XB.out.cell 6 rfl
        have z7 := XB.out.cell 7 rfl
        have z8 := XB.out.cell 8 rfl
        have z9 := XB.out.cell 9 rfl
        have z10 := XB.out.cell 10 rfl
        have z11 := XB.out.cell 11 rfl
        have zf := fun j => XB.out.free j
        have FK := (fin12 XB.out Q3.out GA.out (.int .i64 mtt) (.int .i64 mfr) (.int .i64 5) (.int .i64 mvo) (.int .i64 mli) (.int .u64 (mid : Int)) (.int .i64 (code : Int)) (.bool false) (.int .u64 0) (.int .u32 0) (.bool false) (.slice za 0 zc)).2.2.2.2.2.2.2.2.2.2.2.2.2
        unfold set12 at FK
        have FI := HZI.out.kept FK (fun b hb => HZL.out b hb)
        have FI := Lib.hid FI
        clear FK
        have FB := Lib.hid (fin12b XB.out Q3.out GA.out (.int .i64 mtt) (.int .i64 mfr) (.int .i64 5) (.int .i64 mvo) (.int .i64 mli) (.int .u64 (mid : Int)) (.int .i64 (code : Int)) (.bool false) (.int .u64 0) (.int .u32 0) (.bool false) (.slice za 0 zc))
        unfold set12 at FB
        refine AnyE.next (rs := [8]) (by kernel_rfl) (by simp) ?_
        refine AllE.last rfl (fun K hK => ?_)
        go_simp
        refine hK.out _ _ ?_
        clear hK K
        try simp only [Act.put, List.getElem_toArray, List.getElem_cons_zero, List.getElem_cons_succ, List.setIfInBounds_toArray, List.set_cons_zero, List.set_cons_succ]
        refine AnyE.done (by kernel_rfl) ?_ _
        go_wp2_with fail
        go_meet
        exact ⟨A, za, zc, by first | exact rfl | exact trivial, GA.out, Lib.hid FB.out.1, FI, Lib.hid FB.out.2⟩
      refine AllE.cons rfl (fun K hK => ?_) AllE.nil
      go_simp
      refine hK.out _ _ (HS.out _ (Q0.out.alloc Q0.out.size (.cells #[.int .i64 0, .int .i64 0, .int .i64 0, .int .i64 0, .int .i64 0, .int .u64 0, .int .i64 0, .bool false, .int .u64 0, .int .u32 0, .bool false, .slice none 0 0] 29))) (fun hHeld => ?_)
      have Q1 := Lib.hid (Q0.out.alloc Q0.out.size (.cells #[.int .i64 0, .int .i64 0, .int .i64 0, .int .i64 0, .int .i64 0, .int .u64 0, .int .i64 0, .bool false, .int .u64 0, .int .u32 0, .bool false, .slice none 0 0] 29))
      have XA := Lib.hid (Blk.new q0 #[.int .i64 0, .int .i64 0, .int .i64 0, .int .i64 0, .int .i64 0, .int .u64 0, .int .i64 0, .bool false, .int .u64 0, .int .u32 0, .bool false, .slice none 0 0] 29)
      have GA := Lib.hid Q0.out.size
      have HWN := Lib.hid (below_alloc14 q0 (.cells #[.int .i64 0, .int .i64 0, .int .i64 0, .int .i64 0, .int .i64 0, .int .u64 0, .int .i64 0, .bool false, .int .u64 0, .int .u32 0, .bool false, .slice none 0 0] 29))
      obtain ⟨A, hA⟩ : ∃ A, q0.heap.size = A := ⟨_, rfl⟩
      obtain ⟨q1, hnw⟩ : ∃ nw, q0.alloc (.cells #[.int .i64 0, .int .i64 0, .int .i64 0, .int .i64 0, .int .i64 0, .int .u64 0, .int .i64 0, .bool false, .int .u64 0, .int .u32 0, .bool false, .slice none 0 0] 29) = nw := ⟨_, rfl⟩
      rw [hnw, hA] at XA
      rw [hnw] at Q1 hHeld HWN
      rw [hA] at GA
      have HAE := Lib.hid hA
      rw [hnw]
      try rw [hA]
      clear hK K hnw hA
      try simp only [Act.put, List.getElem_toArray, List.getElem_cons_zero, List.getElem_cons_succ, List.setIfInBounds_toArray, List.set_cons_zero, List.set_cons_succ]
      refine AnyE.next (rs := [1]) (by kernel_rfl) (by simp) ?_
      refine AllE.cons rfl (fun K hK => ?_) AllE.nil
      go_simp
      refine (HOF.out _).mono ?_
      rintro e q2 ⟨rfl, hbx⟩
      have Q2 := Lib.hid (Q1.out.trans (hbx.mono Q1.out.size))
      have XB := Lib.hid (XA.out.below hbx XA.out.lt)
      clear hbx
      refine hK.out _ _ (HS.out _ Q2.out) (fun hHeld => ?_)
      clear hK K
      try simp only [Act.put, List.getElem_toArray, List.getElem_cons_zero, List.getElem_cons_succ, List.setIfInBounds_toArray, List.set_cons_zero, List.set_cons_succ]
      refine AnyE.next (rs := [6]) (by kernel_rfl) (by simp) ?_
      refine AllE.cons rfl (fun K hK => ?_) AllE.nil
      go_simp
      refine (HRP.out _ (HB5.out.trans (Q2.out.mono HB5.out.size))).mono ?_
      rintro e q3 ⟨za, zc, rfl, hiz, hzl, hbx⟩
      have Q3 := Lib.hid (Q2.out.trans (hbx.mono Q2.out.size))
      have XC := Lib.hid (XB.out.below hbx XB.out.lt)
      have HZI := Lib.hid hiz
      have HZL := Lib.hid (show ∀ b, liesB (.slice za 0 zc) ([] : List UInt8) b → ¬ b = A from fun b hb e => by have := hzl b hb; have := XB.out.lt; omega)
      clear hbx hiz hzl
      refine hK.out _ _ (HS.out _ Q3.out) (fun hHeld => ?_)
      clear hK K
      try simp only [Act.put, List.getElem_toArray, List.getElem_cons_zero, List.getElem_cons_succ, List.setIfInBounds_toArray, List.set_cons_zero, List.set_cons_succ]
      have z0 := XC.out.cell 0 rfl
      have z1 := XC.out.cell 1 rfl
      have z2 := XC.out.cell 2 rfl
      have z3 := XC.out.cell 3 rfl
      have z4 := XC.out.cell 4 rfl
      have z5 := XC.out.cell 5 rfl
      have z6 := XC.out.cell 6 rfl
      have z7 := XC.out.cell 7 rfl
      have z8 := XC.out.cell 8 rfl
      have z9 := XC.out.cell 9 rfl
      have z10 := XC.out.cell 10 rfl
      have z11 := XC.out.cell 11 rfl
      have zf := fun j => XC.out.free j
      have FK := (fin12 XC.out Q3.out GA.out (.int .i64 mtt) (.int .i64 mfr) (.int .i64 5) (.int .i64 mvo) (.int .i64 mli) (.int .u64 (mid : Int)) (.int .i64 (code : Int)) (.bool false) (.int .u64 0) (.int .u32 0) (.bool false) (.slice za 0 zc)).2.2.2.2.2.2.2.2.2.2.2.2.2
      unfold set12 at FK
      have FI := HZI.out.kept FK (fun b hb => HZL.out b hb)
      have FI := Lib.hid FI
      clear FK
      have FB := Lib.hid (fin12b XC.out Q3.out GA.out (.int .i64 mtt) (.int .i64 mfr) (.int .i64 5) (.int .i64 mvo) (.int .i64 mli) (.int .u64 (mid : Int)) (.int .i64 (code : Int)) (.bool false) (.int .u64 0) (.int .u32 0) (.bool false) (.slice za 0 zc))
      unfold set12 at FB
      refine AnyE.next (rs := [8]) (by kernel_rfl) (by simp) ?_
      refine AllE.last rfl (fun K hK => ?_)
      go_simp
      refine hK.out _ _ ?_
      clear hK K
      try simp only [Act.put, List.getElem_toArray, List.getElem_cons_zero, List.getElem_cons_succ, List.setIfInBounds_toArray, List.set_cons_zero, List.set_cons_succ]
      refine AnyE.done (by kernel_rfl) ?_ _
      go_wp2_with fail
      go_meet
      exact ⟨A, za, zc, by first | exact rfl | exact trivial, GA.out, Lib.hid FB.out.1, FI, Lib.hid FB.out.2⟩
    case rest =>
      obtain ⟨A, za, zc, rfl, hA5, HA6, HI6, HB6⟩ := hcut
      obtain ⟨w6, hw6⟩ : ∃ w6, w6 = wc := ⟨_, rfl⟩
      subst hw6
      have HBB := Lib.hid (HB5.out.trans (HB6.out.mono HB5.out.size))
      have HBY := Lib.hid (show Calls Try.prog 14 #[.agg #[.int .i64 mtt, .int .i64 mfr, .int .i64 5, .int .i64 mvo, .int .i64 mli, .int .u64 (mid : Int), .int .i64 (code : Int), .bool false, .int .u64 0, .int .u32 0, .bool false, .slice za 0 zc]] w6 (fun e w' => ∃ y k, e = .returned (.tuple #[.slice y (mbytes ⟨mtt, mfr, 5, mvo, mli, mid, (code : Int), false, nz⟩).length k, .nilIface]) ∧ w'.ownsRow w6.heap.size 5 1 (.slice y (mbytes ⟨mtt, mfr, 5, mvo, mli, mid, (code : Int), false, nz⟩).length k) (mbytes ⟨mtt, mfr, 5, mvo, mli, mid, (code : Int), false, nz⟩).length (bvs (mbytes ⟨mtt, mfr, 5, mvo, mli, mid, (code : Int), false, nz⟩)) ∧ Below w6.heap.size w6 w') from wbytes_ok ⟨mtt, mfr, 5, mvo, mli, mid, (code : Int), false, nz⟩ za 0 zc w6 HI6.out HCA.out HNFA.out HID.out)
      rw [HBS.out] at HBY
      rw [HBL.out] at HBY
      have HRB := Lib.hid (fun wx => show Calls Try.prog 18 #[.agg #[.int .i64 mtt, .int .i64 mfr, .int .i64 5, .int .i64 mvo, .int .i64 mli, .int .u64 (mid : Int), .int .i64 (code : Int), .bool false, .int .u64 0, .int .u32 0, .bool false, .slice za 0 zc], .int .i64 0, .bool false, .agg #[.int .u64 0, .int .u32 0, .bool false, .slice none 0 0]] wx (fun e w' => ∃ ya yc, e = .returned (.agg #[.int .i64 mfr, .int .i64 mtt, .int .i64 5, .int .i64 mvo, .int .i64 mli, .int .u64 (mid : Int), .int .i64 0, .bool false, .int .u64 0, .int .u32 0, .bool false, .slice ya 0 yc]) ∧ IsB w' (.slice ya 0 yc) [] ∧ Below wx.heap.size wx w') from wreply_v ⟨mtt, mfr, 5, mvo, mli, mid, (code : Int), false, nz⟩ za 0 zc 0 false nz none 0 0 wx (IsB.nil wx) (by decide))
      have HP6 := Lib.hid (HP5.out.below HB6.out HP5.out.lt)
      have a0 := HA6.out.cell 0 rfl
      have a1 := HA6.out.cell 1 rfl
      have a2 := HA6.out.cell 2 rfl
      have a3 := HA6.out.cell 3 rfl
      have a4 := HA6.out.cell 4 rfl
      have a5 := HA6.out.cell 5 rfl
      have a6 := HA6.out.cell 6 rfl
      have a7 := HA6.out.cell 7 rfl
      have a8 := HA6.out.cell 8 rfl
      have a9 := HA6.out.cell 9 rfl
      have a10 := HA6.out.cell 10 rfl
      have a11 := HA6.out.cell 11 rfl
      go_wp2_with fail
      refine HBY.out.mono ?_
      rintro e w7 ⟨by7, bk7, rfl, hown7, hb7⟩
      have HI7 := Lib.hid (show IsB w7 (.slice by7 BL bk7) bs from IsB.own hown7 HBL.out.symm)
      have HA7 := Lib.hid (HA6.out.below hb7 HA6.out.lt)
      have HD7 := Lib.hid (HI6.out.mono hb7 (Nat.le_refl _))
      have HP7 := Lib.hid (HP6.out.below hb7 HP6.out.lt)
      have HB7 := Lib.hid (HBB.out.trans (hb7.mono HBB.out.size))
      have HRD := Lib.hid (wread_v (.slice by7 BL bk7) bs w7 HI7.out (by rw [HBL.out]; exact HML.out))
      rw [HMR.out.1, HMR.out.2] at HRD
      clear hown7 hb7 a0 a1 a2 a3 a4 a5 a6 a7 a8 a9 a10 a11
      go_wp2_with fail
      refine HRD.out.mono ?_
      rintro e w8 ⟨rx, rc, rfl, hi8, _, hb8⟩
      rw [cerr_0]
      dsimp only at hi8 ⊢
      try simp only [nz, List.length_nil] at hi8 ⊢
      have HA8 := (HA7.out.below hb8 HA7.out.lt).alloc (.cells #[.int .i64 mtt, .int .i64 mfr, .int .i64 5, .int .i64 mvo, .int .i64 mli, .int .u64 (mid : Int), .int .i64 (code : Int), .bool false, .int .u64 0, .int .u32 0, .bool false, .slice rx 0 rc] 29)
      have HP8 := (HP7.out.below hb8 HP7.out.lt).alloc (.cells #[.int .i64 mtt, .int .i64 mfr, .int .i64 5, .int .i64 mvo, .int .i64 mli, .int .u64 (mid : Int), .int .i64 (code : Int), .bool false, .int .u64 0, .int .u32 0, .bool false, .slice rx 0 rc] 29)
      have HX8 := Blk.new w8 #[.int .i64 mtt, .int .i64 mfr, .int .i64 5, .int .i64 mvo, .int .i64 mli, .int .u64 (mid : Int), .int .i64 (code : Int), .bool false, .int .u64 0, .int .u32 0, .bool false, .slice rx 0 rc] 29
      have hB8 := HB7.out.trans (hb8.mono HB7.out.size)
      have HB8 := hB8.alloc hB8.size (.cells #[.int .i64 mtt, .int .i64 mfr, .int .i64 5, .int .i64 mvo, .int .i64 mli, .int .u64 (mid : Int), .int .i64 (code : Int), .bool false, .int .u64 0, .int .u32 0, .bool false, .slice rx 0 rc] 29)
      have HD8 := (HD7.out.mono hb8 (Nat.le_refl _)).mono (below_alloc14 w8 (.cells #[.int .i64 mtt, .int .i64 mfr, .int .i64 5, .int .i64 mvo, .int .i64 mli, .int .u64 (mid : Int), .int .i64 (code : Int), .bool false, .int .u64 0, .int .u32 0, .bool false, .slice rx 0 rc] 29)) (Nat.le_refl _)
      have HI8 := hi8.mono (below_alloc14 w8 (.cells #[.int .i64 mtt, .int .i64 mfr, .int .i64 5, .int .i64 mvo, .int .i64 mli, .int .u64 (mid : Int), .int .i64 (code : Int), .bool false, .int .u64 0, .int .u32 0, .bool false, .slice rx 0 rc] 29)) (Nat.le_refl _)
      obtain ⟨w9, hw9⟩ : ∃ w9, w8.alloc (.cells #[.int .i64 mtt, .int .i64 mfr, .int .i64 5, .int .i64 mvo, .int .i64 mli, .int .u64 (mid : Int), .int .i64 (code : Int), .bool false, .int .u64 0, .int .u32 0, .bool false, .slice rx 0 rc] 29) = w9 := ⟨_, rfl⟩
      obtain ⟨X13, hX13⟩ : ∃ X, w8.heap.size = X := ⟨_, rfl⟩
      rw [hw9] at HA8 HP8 HX8 HB8 HI8 HD8
      rw [hX13] at HX8
      go_upto_region 11 with fail
      try rw [hw9]
      try rw [hX13]
      have HA9 := Lib.hid HA8
      have HP9 := Lib.hid HP8
      have HX9 := Lib.hid HX8
      have HB9 := Lib.hid HB8
      have HI9 := Lib.hid HI8
      have HD9 := Lib.hid HD8
      skip
      clear HA8 HP8 HX8 HB8 HI8 HD8 hw9 hX13 hB8 hb8 hi8
      have a0 := HA9.out.cell 0 rfl
      have a1 := HA9.out.cell 1 rfl
      have a2 := HA9.out.cell 2 rfl
      have a3 := HA9.out.cell 3 rfl
      have a4 := HA9.out.cell 4 rfl
      have a5 := HA9.out.cell 5 rfl
      have a6 := HA9.out.cell 6 rfl
      have a7 := HA9.out.cell 7 rfl
      have a8 := HA9.out.cell 8 rfl
      have a9 := HA9.out.cell 9 rfl
      have a10 := HA9.out.cell 10 rfl
      have a11 := HA9.out.cell 11 rfl
      go_wp2_with fail
      refine (HRB.out _).mono ?_
      rintro e w10 ⟨ya, yc, rfl, _, hb10⟩
      have hA := (HA9.out.below hb10 HA9.out.lt).alloc (.cells #[.int .i64 mfr, .int .i64 mtt, .int .i64 5, .int .i64 mvo, .int .i64 mli, .int .u64 (mid : Int), .int .i64 0, .bool false, .int .u64 0, .int .u32 0, .bool false, .slice ya 0 yc] 29)
      have hP := (HP9.out.below hb10 HP9.out.lt).alloc (.cells #[.int .i64 mfr, .int .i64 mtt, .int .i64 5, .int .i64 mvo, .int .i64 mli, .int .u64 (mid : Int), .int .i64 0, .bool false, .int .u64 0, .int .u32 0, .bool false, .slice ya 0 yc] 29)
      have hX := (HX9.out.below hb10 HX9.out.lt).alloc (.cells #[.int .i64 mfr, .int .i64 mtt, .int .i64 5, .int .i64 mvo, .int .i64 mli, .int .u64 (mid : Int), .int .i64 0, .bool false, .int .u64 0, .int .u32 0, .bool false, .slice ya 0 yc] 29)
      have hZ := Blk.new w10 #[.int .i64 mfr, .int .i64 mtt, .int .i64 5, .int .i64 mvo, .int .i64 mli, .int .u64 (mid : Int), .int .i64 0, .bool false, .int .u64 0, .int .u32 0, .bool false, .slice ya 0 yc] 29
      have hB0 := HB9.out.trans (hb10.mono HB9.out.size)
      have hB := hB0.alloc hB0.size (.cells #[.int .i64 mfr, .int .i64 mtt, .int .i64 5, .int .i64 mvo, .int .i64 mli, .int .u64 (mid : Int), .int .i64 0, .bool false, .int .u64 0, .int .u32 0, .bool false, .slice ya 0 yc] 29)
      have hD := (HD9.out.mono hb10 (Nat.le_refl _)).mono (below_alloc14 w10 (.cells #[.int .i64 mfr, .int .i64 mtt, .int .i64 5, .int .i64 mvo, .int .i64 mli, .int .u64 (mid : Int), .int .i64 0, .bool false, .int .u64 0, .int .u32 0, .bool false, .slice ya 0 yc] 29)) (Nat.le_refl _)
      have hI := (HI9.out.mono hb10 (Nat.le_refl _)).mono (below_alloc14 w10 (.cells #[.int .i64 mfr, .int .i64 mtt, .int .i64 5, .int .i64 mvo, .int .i64 mli, .int .u64 (mid : Int), .int .i64 0, .bool false, .int .u64 0, .int .u32 0, .bool false, .slice ya 0 yc] 29)) (Nat.le_refl _)
      go_upto_region 12 with fail
      obtain ⟨w11, hw11⟩ : ∃ w11, w10.alloc (.cells #[.int .i64 mfr, .int .i64 mtt, .int .i64 5, .int .i64 mvo, .int .i64 mli, .int .u64 (mid : Int), .int .i64 0, .bool false, .int .u64 0, .int .u32 0, .bool false, .slice ya 0 yc] 29) = w11 := ⟨_, rfl⟩
      obtain ⟨X15, hX15⟩ : ∃ X, w10.heap.size = X := ⟨_, rfl⟩
      rw [hw11] at hA hP hX hZ hB hI hD
      rw [hX15] at hZ
      try rw [hw11]
      try rw [hX15]
      have HA11 := Lib.hid hA
      have HP11 := Lib.hid hP
      have HX11 := Lib.hid hX
      have HZ11 := Lib.hid hZ
      have HB11 := Lib.hid hB
      have HSM := Lib.hid (show Calls Try.prog 16 #[.agg #[.int .i64 mtt, .int .i64 mfr, .int .i64 5, .int .i64 mvo, .int .i64 mli, .int .u64 (mid : Int), .int .i64 (code : Int), .bool false, .int .u64 0, .int .u32 0, .bool false, .slice za 0 zc], .agg #[.int .i64 mtt, .int .i64 mfr, .int .i64 5, .int .i64 mvo, .int .i64 mli, .int .u64 (mid : Int), .int .i64 (code : Int), .bool false, .int .u64 0, .int .u32 0, .bool false, .slice rx 0 rc]] w11 (fun e w' => e = .returned (.bool true) ∧ Below w11.heap.size w11 w') by
        have := wsame_v ⟨mtt, mfr, 5, mvo, mli, mid, (code : Int), false, nz⟩ ⟨mtt, mfr, 5, mvo, mli, mid, (code : Int), false, nz⟩ za 0 zc rx 0 rc w11 hD hI
        rw [(sameM_eq _ _).2 rfl] at this
        exact this)
      clear hA hP hX hZ hB hI hD hw11 hX15 hB0 hb10 a0 a1 a2 a3 a4 a5 a6 a7 a8 a9 a10 a11
      have a0 := HA11.out.cell 0 rfl
      have a1 := HA11.out.cell 1 rfl
      have a2 := HA11.out.cell 2 rfl
      have a3 := HA11.out.cell 3 rfl
      have a4 := HA11.out.cell 4 rfl
      have a5 := HA11.out.cell 5 rfl
      have a6 := HA11.out.cell 6 rfl
      have a7 := HA11.out.cell 7 rfl
      have a8 := HA11.out.cell 8 rfl
      have a9 := HA11.out.cell 9 rfl
      have a10 := HA11.out.cell 10 rfl
      have a11 := HA11.out.cell 11 rfl
      have x0 := HX11.out.cell 0 rfl
      have x1 := HX11.out.cell 1 rfl
      have x2 := HX11.out.cell 2 rfl
      have x3 := HX11.out.cell 3 rfl
      have x4 := HX11.out.cell 4 rfl
      have x5 := HX11.out.cell 5 rfl
      have x6 := HX11.out.cell 6 rfl
      have x7 := HX11.out.cell 7 rfl
      have x8 := HX11.out.cell 8 rfl
      have x9 := HX11.out.cell 9 rfl
      have x10 := HX11.out.cell 10 rfl
      have x11 := HX11.out.cell 11 rfl
      go_wp2_with fail
      refine (code_nil _).mono ?_
      rintro e w12 ⟨rfl, rfl⟩
      go_wp2_with fail
      refine (code_nil _).mono ?_
      rintro e w12 ⟨rfl, rfl⟩
      go_wp2_with fail
      refine HSM.out.mono ?_
      rintro e w12 ⟨rfl, hb12⟩
      have hA := HA11.out.below hb12 HA11.out.lt
      have hP := HP11.out.below hb12 HP11.out.lt
      have hZ := HZ11.out.below hb12 HZ11.out.lt
      have HBF := Lib.hid (HB11.out.trans (hb12.mono HB11.out.size))
      clear hb12 a0 a1 a2 a3 a4 a5 a6 a7 a8 a9 a10 a11 x0 x1 x2 x3 x4 x5 x6 x7 x8 x9 x10 x11
      have a0 := hA.cell 0 rfl
      have a1 := hA.cell 1 rfl
      have a2 := hA.cell 2 rfl
      have a3 := hA.cell 3 rfl
      have a4 := hA.cell 4 rfl
      have a5 := hA.cell 5 rfl
      have a6 := hA.cell 6 rfl
      have a7 := hA.cell 7 rfl
      have a8 := hA.cell 8 rfl
      have a9 := hA.cell 9 rfl
      have a10 := hA.cell 10 rfl
      have a11 := hA.cell 11 rfl
      have z0 := hZ.cell 0 rfl
      have z1 := hZ.cell 1 rfl
      have z2 := hZ.cell 2 rfl
      have z3 := hZ.cell 3 rfl
      have z4 := hZ.cell 4 rfl
      have z5 := hZ.cell 5 rfl
      have z6 := hZ.cell 6 rfl
      have z7 := hZ.cell 7 rfl
      have z8 := hZ.cell 8 rfl
      have z9 := hZ.cell 9 rfl
      have z10 := hZ.cell 10 rfl
      have z11 := hZ.cell 11 rfl
      have p0 := hP.cell 0 rfl
      have p1 := hP.cell 1 rfl
      have p2 := hP.cell 2 rfl
      have p3 := hP.cell 3 rfl
      have p4 := hP.cell 4 rfl
      have p5 := hP.cell 5 rfl
      have p6 := hP.cell 6 rfl
      have p7 := hP.cell 7 rfl
      have p8 := hP.cell 8 rfl
      have p9 := hP.cell 9 rfl
      have p10 := hP.cell 10 rfl
      have p11 := hP.cell 11 rfl
      clear hA hP hZ
      go_wp2
      go_ret
      exact ⟨rfl, HBF.out⟩

end Go.Proofs.Ytallmcminlnnaaa
