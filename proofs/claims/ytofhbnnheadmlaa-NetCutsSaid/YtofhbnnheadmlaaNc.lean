/- Package corncriblaw15: NetCuts. -/
import Derived.Test.YtofhbnnheadmlaaNa
import Derived.Test.YtofhbnnheadmlaaWrc
import Derived.Deep.CutRange
set_option linter.unusedVariables false
set_option linter.unusedSimpArgs false
namespace Go.Proofs.Ytofhbnnheadmlaa
open Go.RowKit Go.Cor

theorem c15_send {m : Msg} (hc : mcheck m = 0) : sendK ⟨[], []⟩ m = 0 ∧ sendN ⟨[], []⟩ m = ⟨[m], []⟩ := by
  have h : sendK ⟨[], []⟩ m = 0 := by unfold sendK; rw [if_pos hc, if_neg (by decide)]
  exact ⟨h, by unfold sendN; rw [if_pos h]; rfl⟩
theorem c15_cutK {m : Msg} (hc : mcheck m = 0) (hne : m.fr ≠ m.to) : cutK m.to m.fr = 0 ∧ cutK m.fr m.to = 0 := by
  obtain ⟨g1, g2, g3, g4, _⟩ := (mcheck_ok hc).1
  unfold cutK
  exact ⟨by rw [if_pos ⟨g3, g4, g1, g2, fun e => hne e.symm⟩], by rw [if_pos ⟨g1, g2, g3, g4, hne⟩]⟩
theorem c15_cut {m : Msg} (hc : mcheck m = 0) (hne : m.fr ≠ m.to) : cutN ⟨[m], []⟩ m.to m.fr true = ⟨[m], [(m.to, m.fr)]⟩ := by
  unfold cutN
  rw [if_pos (c15_cutK hc hne).1]
  rfl
theorem c15_pair (a b : Int) : pairB (a, b) b a = true := decide_eq_true (.inr ⟨rfl, rfl⟩)
theorem c15_apart (m : Msg) : apartP [(m.to, m.fr)] m.fr m.to = true ∧ apartP [(m.to, m.fr)] m.to m.fr = true := by
  unfold apartP
  simp [c15_pair, pairB_self]
theorem c15_wait (m : Msg) : takeK ⟨[m], [(m.to, m.fr)]⟩ 0 = 17 ∧ takeN ⟨[m], [(m.to, m.fr)]⟩ 0 = ⟨[m], [(m.to, m.fr)]⟩ ∧ takeM ⟨[m], [(m.to, m.fr)]⟩ 0 = mz := by
  have h : takeK ⟨[m], [(m.to, m.fr)]⟩ 0 = 17 := by
    rw [takeK_peek]
    have hp : peekK ⟨[m], [(m.to, m.fr)]⟩ 0 = 0 := if_pos ⟨Int.le_refl 0, Nat.zero_lt_one⟩
    rw [if_pos hp]
    show (if apartP [(m.to, m.fr)] m.fr m.to = true then 17 else 0) = 17
    rw [(c15_apart m).1, if_pos rfl]
  exact ⟨h, by unfold takeN; rw [if_neg (by omega)], by unfold takeM; rw [if_neg (by omega)]⟩
theorem c15_other {m : Msg} {a b : Int} (h1 : a ≠ m.fr) (h2 : a ≠ m.to) : apartP [(m.to, m.fr)] a b = false := by
  unfold apartP
  have : pairB (m.to, m.fr) a b = false := decide_eq_false (by dsimp only; rintro (⟨e, _⟩ | ⟨_, e⟩); exact h2 e.symm; exact h1 e.symm)
  simp [this]
theorem c15_join {m : Msg} (hc : mcheck m = 0) (hne : m.fr ≠ m.to) : cutN ⟨[m], [(m.to, m.fr)]⟩ m.fr m.to false = ⟨[m], []⟩ := by
  unfold cutN
  rw [if_pos (c15_cutK hc hne).2]
  unfold cutP
  have : pairB (m.to, m.fr) m.fr m.to = true := c15_pair _ _
  simp [this]
theorem c15_take (m : Msg) : takeK ⟨[m], []⟩ 0 = 0 ∧ takeN ⟨[m], []⟩ 0 = ⟨[], []⟩ ∧ takeM ⟨[m], []⟩ 0 = m := by
  have h : takeK ⟨[m], []⟩ 0 = 0 := by
    rw [takeK_peek]
    have hp : peekK ⟨[m], []⟩ 0 = 0 := if_pos ⟨Int.le_refl 0, Nat.zero_lt_one⟩
    rw [if_pos hp]
    rfl
  exact ⟨h, by unfold takeN; rw [if_pos h]; rfl, by unfold takeM; rw [if_pos h]; rfl⟩
theorem sameM_self (m : Msg) : sameM m m = true := (sameM_eq m m).2 rfl
set_option maxRecDepth 100000 in
set_option maxHeartbeats 8000000 in
theorem netCuts_all (m : Msg) (x : Option Addr) (L c : Nat) (qa qb : Nat) (w : World) (hm : IsB w (.slice x L c) m.n.data) (hmf : m.n.fits) (hid : m.id < 18446744073709551616) (hqa : qa < 256) (hqb : qb < 256) :
    Calls Try.prog 6 #[mval m (.slice x L c), .int .u8 (qa : Int), .int .u8 (qb : Int)] w fun e w' => e = .returned (.bool true) ∧ Below w.heap.size w w' := by
  have hL : m.n.data.length = L := by obtain ⟨a, cp, e, _⟩ := hm; cases e; rfl
  have HA := Lib.hid (fun wx => alive15 wx)
  have hB0 := below_new15 w (.cells #[.int .i64 m.fr, .int .i64 m.to, .int .i64 m.kd, .int .i64 m.vo, .int .i64 m.li, .int .u64 (m.id : Int), .int .i64 m.co, .bool m.has, .int .u64 (m.n.key : Int), .int .u32 (m.n.cookie : Int), .bool m.n.gone, .slice x L c] 30)
  have hX0 := Blk.new w #[.int .i64 m.fr, .int .i64 m.to, .int .i64 m.kd, .int .i64 m.vo, .int .i64 m.li, .int .u64 (m.id : Int), .int .i64 m.co, .bool m.has, .int .u64 (m.n.key : Int), .int .u32 (m.n.cookie : Int), .bool m.n.gone, .slice x L c] 30
  obtain ⟨w0, hw0⟩ : ∃ z, w.alloc (.cells #[.int .i64 m.fr, .int .i64 m.to, .int .i64 m.kd, .int .i64 m.vo, .int .i64 m.li, .int .u64 (m.id : Int), .int .i64 m.co, .bool m.has, .int .u64 (m.n.key : Int), .int .u32 (m.n.cookie : Int), .bool m.n.gone, .slice x L c] 30) = z := ⟨_, rfl⟩
  rw [hw0] at hB0 hX0
  have HW0 := Lib.hid hw0
  have HX0 := Lib.hid hX0
  have HB0 := Lib.hid hB0
  clear hw0 hX0 hB0
  by_cases h1 : 300 < L
  · have k1 : (300 : Int) < (L : Int) := by omega
    clear hm hmf hid hL
    go_enter Try.func6, Try.ntmps6
    go_wp2_with fail
    rw [HW0.out]
    refine (HA.out _).mono ?_
    rintro e w1 ⟨rfl, hb⟩
    have HX1 := Lib.hid (HX0.out.below hb HX0.out.lt)
    have HB1 := Lib.hid (HB0.out.trans (hb.mono HB0.out.size))
    clear hb
    have p0 := HX1.out.cell 0 rfl
    have p1 := HX1.out.cell 1 rfl
    have p2 := HX1.out.cell 2 rfl
    have p3 := HX1.out.cell 3 rfl
    have p4 := HX1.out.cell 4 rfl
    have p5 := HX1.out.cell 5 rfl
    have p6 := HX1.out.cell 6 rfl
    have p7 := HX1.out.cell 7 rfl
    have p8 := HX1.out.cell 8 rfl
    have p9 := HX1.out.cell 9 rfl
    have p10 := HX1.out.cell 10 rfl
    have p11 := HX1.out.cell 11 rfl
    go_wp2
    go_ret
    exact ⟨rfl, HB1.out⟩
  have k1 : ¬ (300 : Int) < (L : Int) := by omega
  have HC1 := Lib.hid (fun wx (hb : Below w.heap.size w wx) => rcheck_any m (.slice x L c) wx (hm.mono hb (Nat.le_refl _)) (by omega))
  obtain ⟨C1, hC1⟩ : ∃ C, mcheck m = C := ⟨_, rfl⟩
  rw [hC1] at HC1
  by_cases h2 : C1 = 0
  case neg =>
    have k2 : ((C1 : Int) != 0) = true := bne_iff_ne.2 (by omega)
    clear hm hmf hid hL hC1 h1
    go_enter Try.func6, Try.ntmps6
    go_wp2_with fail
    rw [HW0.out]
    refine (HA.out _).mono ?_
    rintro e w1 ⟨rfl, hb⟩
    have HX1 := Lib.hid (HX0.out.below hb HX0.out.lt)
    have HB1 := Lib.hid (HB0.out.trans (hb.mono HB0.out.size))
    clear hb
    have p0 := HX1.out.cell 0 rfl
    have p1 := HX1.out.cell 1 rfl
    have p2 := HX1.out.cell 2 rfl
    have p3 := HX1.out.cell 3 rfl
    have p4 := HX1.out.cell 4 rfl
    have p5 := HX1.out.cell 5 rfl
    have p6 := HX1.out.cell 6 rfl
    have p7 := HX1.out.cell 7 rfl
    have p8 := HX1.out.cell 8 rfl
    have p9 := HX1.out.cell 9 rfl
    have p10 := HX1.out.cell 10 rfl
    have p11 := HX1.out.cell 11 rfl
    go_wp2_with fail
    refine (HC1.out _ HB1.out).mono ?_
    rintro e w2 ⟨rfl, hb⟩
    have HB2 := Lib.hid (HB1.out.trans (hb.mono HB1.out.size))
    clear hb p0 p1 p2 p3 p4 p5 p6 p7 p8 p9 p10 p11
    go_wp2
    go_ret
    exact ⟨rfl, HB2.out⟩
  subst h2
  by_cases h3 : m.fr = m.to
  · have k3 : (m.fr == m.to) = true := beq_iff_eq.2 h3
    clear hm hmf hid hL hC1 h1 h3
    go_enter Try.func6, Try.ntmps6
    go_wp2_with fail
    rw [HW0.out]
    refine (HA.out _).mono ?_
    rintro e w1 ⟨rfl, hb⟩
    have HX1 := Lib.hid (HX0.out.below hb HX0.out.lt)
    have HB1 := Lib.hid (HB0.out.trans (hb.mono HB0.out.size))
    clear hb
    have p0 := HX1.out.cell 0 rfl
    have p1 := HX1.out.cell 1 rfl
    have p2 := HX1.out.cell 2 rfl
    have p3 := HX1.out.cell 3 rfl
    have p4 := HX1.out.cell 4 rfl
    have p5 := HX1.out.cell 5 rfl
    have p6 := HX1.out.cell 6 rfl
    have p7 := HX1.out.cell 7 rfl
    have p8 := HX1.out.cell 8 rfl
    have p9 := HX1.out.cell 9 rfl
    have p10 := HX1.out.cell 10 rfl
    have p11 := HX1.out.cell 11 rfl
    go_wp2_with fail
    refine (HC1.out _ HB1.out).mono ?_
    rintro e w2 ⟨rfl, hb⟩
    have HB2 := Lib.hid (HB1.out.trans (hb.mono HB1.out.size))
    have HX2 := Lib.hid (HX1.out.below hb HX1.out.lt)
    clear hb p0 p1 p2 p3 p4 p5 p6 p7 p8 p9 p10 p11
    have p0 := HX2.out.cell 0 rfl
    have p1 := HX2.out.cell 1 rfl
    have p2 := HX2.out.cell 2 rfl
    have p3 := HX2.out.cell 3 rfl
    have p4 := HX2.out.cell 4 rfl
    have p5 := HX2.out.cell 5 rfl
    have p6 := HX2.out.cell 6 rfl
    have p7 := HX2.out.cell 7 rfl
    have p8 := HX2.out.cell 8 rfl
    have p9 := HX2.out.cell 9 rfl
    have p10 := HX2.out.cell 10 rfl
    have p11 := HX2.out.cell 11 rfl
    go_wp2
    go_ret
    exact ⟨rfl, HB2.out⟩
  have k3 : (m.fr == m.to) = false := beq_eq_false_iff_ne.2 h3
  obtain ⟨gg1, gg2, gg3, gg4, _⟩ := (mcheck_ok hC1).1
  have wfr : wfI m.fr := wfI_of (by omega) (by omega)
  have wto : wfI m.to := wfI_of (by omega) (by omega)
  have HS := Lib.hid (fun (wx : World) (g : Nat) (S : Nat → Prop) (h : Hd w wx g S ⟨[], []⟩ 0) => show Calls Try.prog 10 #[.pointer (some ⟨g, 0, none⟩), mval m (.slice x L c)] wx fun e w' => e = .returned .nilIface ∧ NtT wx w.heap.size g S ⟨[m], []⟩ 0 w' from by
    have h9 := nsend_any m x L c wx h.nt (hm.mono h.bel (Nat.le_refl _)) hmf hid
    rw [(c15_send hC1).1, (c15_send hC1).2, cerr_0] at h9
    exact h9)
  have HCU := Lib.hid (fun (wx : World) (g : Nat) (S : Nat → Prop) (h : Hd w wx g S ⟨[m], []⟩ 0) => show Calls Try.prog 15 #[.pointer (some ⟨g, 0, none⟩), .int .i64 m.to, .int .i64 m.fr, .bool true] wx fun e w' => e = .returned .nilIface ∧ NtT wx w.heap.size g S ⟨[m], [(m.to, m.fr)]⟩ 1 w' from by
    have h9 := ncut_any m.to m.fr true wx h.nt (by unfold maxLen; omega) wto wfr
    rw [(c15_cutK hC1 h3).1, c15_cut hC1 h3, cerr_0] at h9
    exact h9)
  have HTW := Lib.hid (fun (wx : World) (g : Nat) (S : Nat → Prop) (h : Hd w wx g S ⟨[m], [(m.to, m.fr)]⟩ 1) => show Calls Try.prog 12 #[.pointer (some ⟨g, 0, none⟩), .int .i64 0] wx fun e w' => ∃ zx zc, e = .returned (.tuple #[.agg #[.int .i64 0, .int .i64 0, .int .i64 0, .int .i64 0, .int .i64 0, .int .u64 0, .int .i64 0, .bool false, .int .u64 0, .int .u32 0, .bool false, .slice zx 0 zc], err 17]) ∧ NtT wx w.heap.size g S ⟨[m], [(m.to, m.fr)]⟩ 1 w' from by
    have h9 := ntake_any 0 wx h.nt
    rw [(c15_wait m).1, (c15_wait m).2.1, (c15_wait m).2.2, cerr_pos (by decide)] at h9
    exact h9.mono fun e w' ⟨x, cp, h1, _, _, h2⟩ => ⟨x, cp, h1, h2⟩)
  have HP1 := Lib.hid (fun (wx : World) (g : Nat) (S : Nat → Prop) (h : Hd w wx g S ⟨[m], [(m.to, m.fr)]⟩ 1) => show Calls Try.prog 16 #[.pointer (some ⟨g, 0, none⟩), .int .i64 m.fr, .int .i64 m.to] wx fun e w' => e = .returned (.bool true) ∧ Below wx.heap.size wx w' from by
    have h9 := napart_any m.fr m.to wx h.nt wfr wto
    rwa [(c15_apart m).1] at h9)
  have HP2 := Lib.hid (fun (wx : World) (g : Nat) (S : Nat → Prop) (h : Hd w wx g S ⟨[m], [(m.to, m.fr)]⟩ 1) => show Calls Try.prog 16 #[.pointer (some ⟨g, 0, none⟩), .int .i64 m.to, .int .i64 m.fr] wx fun e w' => e = .returned (.bool true) ∧ Below wx.heap.size wx w' from by
    have h9 := napart_any m.to m.fr wx h.nt wto wfr
    rwa [(c15_apart m).2] at h9)
  have HP3 := Lib.hid (fun (wx : World) (g : Nat) (S : Nat → Prop) (h : Hd w wx g S ⟨[m], [(m.to, m.fr)]⟩ 1) (h8 : (qa : Int) ≠ m.fr) (h9 : (qa : Int) ≠ m.to) => show Calls Try.prog 16 #[.pointer (some ⟨g, 0, none⟩), .int .i64 (qa : Int), .int .i64 (qb : Int)] wx fun e w' => e = .returned (.bool false) ∧ Below wx.heap.size wx w' from by
    have h7 := napart_any (qa : Int) (qb : Int) wx h.nt (wfI_of (by omega) (by omega)) (wfI_of (by omega) (by omega))
    rwa [c15_other h8 h9] at h7)
  have HJ := Lib.hid (fun (wx : World) (g : Nat) (S : Nat → Prop) (h : Hd w wx g S ⟨[m], [(m.to, m.fr)]⟩ 1) => show Calls Try.prog 15 #[.pointer (some ⟨g, 0, none⟩), .int .i64 m.fr, .int .i64 m.to, .bool false] wx fun e w' => e = .returned .nilIface ∧ NtT wx w.heap.size g S ⟨[m], []⟩ 2 w' from by
    have h9 := ncut_any m.fr m.to false wx h.nt (by unfold maxLen; omega) wfr wto
    rw [(c15_cutK hC1 h3).2, c15_join hC1 h3, cerr_0] at h9
    exact h9)
  have HTK := Lib.hid (fun (wx : World) (g : Nat) (S : Nat → Prop) (h : Hd w wx g S ⟨[m], []⟩ 2) => show Calls Try.prog 12 #[.pointer (some ⟨g, 0, none⟩), .int .i64 0] wx fun e w' => ∃ tx tc, e = .returned (.tuple #[mval m (.slice tx L tc), .nilIface]) ∧ IsB w' (.slice tx L tc) m.n.data ∧ NtT wx w.heap.size g S ⟨[], []⟩ 2 w' from by
    have h9 := ntake_any 0 wx h.nt
    rw [(c15_take m).1, (c15_take m).2.1, (c15_take m).2.2, cerr_0, hL] at h9
    exact h9.mono fun e w' ⟨x, cp, h1, h2, _, h3⟩ => ⟨x, cp, h1, h2.1, h3⟩)
  have HO1 := Lib.hid (fun wx => of_any14 m x L c wx)
  have HSM := Lib.hid (fun (wx : World) (tx : Option Addr) (tc : Nat) (hb : Below w.heap.size w wx) (ht : IsB wx (.slice tx L tc) m.n.data) => show Calls Try.prog 19 #[mval m (.slice tx L tc), mval m (.slice x L c)] wx fun e w' => e = .returned (.bool true) ∧ Below wx.heap.size wx w' from by
    have h9 := rsame_any m m (.slice tx L tc) (.slice x L c) wx ht (hm.mono hb (Nat.le_refl _)) (by omega)
    rwa [sameM_self] at h9)
  have ea : IntKind.i64.wrap (qa : Int) = (qa : Int) := IntWalk.i64_in _ (by omega)
  have eb : IntKind.i64.wrap (qb : Int) = (qb : Int) := IntWalk.i64_in _ (by omega)
  clear hm hmf hid hL hC1 h1 h3 wfr wto gg1 gg2 gg3 gg4 hqa hqb
  go_enter Try.func6, Try.ntmps6
  go_wp2_with fail
  rw [HW0.out]
  refine (HA.out _).mono ?_
  rintro e w1 ⟨rfl, hb⟩
  have HX1 := Lib.hid (HX0.out.below hb HX0.out.lt)
  have HB1 := Lib.hid (HB0.out.trans (hb.mono HB0.out.size))
  clear hb
  have p0 := HX1.out.cell 0 rfl
  have p1 := HX1.out.cell 1 rfl
  have p2 := HX1.out.cell 2 rfl
  have p3 := HX1.out.cell 3 rfl
  have p4 := HX1.out.cell 4 rfl
  have p5 := HX1.out.cell 5 rfl
  have p6 := HX1.out.cell 6 rfl
  have p7 := HX1.out.cell 7 rfl
  have p8 := HX1.out.cell 8 rfl
  have p9 := HX1.out.cell 9 rfl
  have p10 := HX1.out.cell 10 rfl
  have p11 := HX1.out.cell 11 rfl
  go_wp2_with fail
  refine (HC1.out _ HB1.out).mono ?_
  rintro e w2 ⟨rfl, hb⟩
  have HB2 := Lib.hid (HB1.out.trans (hb.mono HB1.out.size))
  have HX2 := Lib.hid (HX1.out.below hb HX1.out.lt)
  clear hb p0 p1 p2 p3 p4 p5 p6 p7 p8 p9 p10 p11
  have p0 := HX2.out.cell 0 rfl
  have p1 := HX2.out.cell 1 rfl
  have p2 := HX2.out.cell 2 rfl
  have p3 := HX2.out.cell 3 rfl
  have p4 := HX2.out.cell 4 rfl
  have p5 := HX2.out.cell 5 rfl
  have p6 := HX2.out.cell 6 rfl
  have p7 := HX2.out.cell 7 rfl
  have p8 := HX2.out.cell 8 rfl
  have p9 := HX2.out.cell 9 rfl
  have p10 := HX2.out.cell 10 rfl
  have p11 := HX2.out.cell 11 rfl
  go_wp2_with fail
  refine (nnew_hd w w2 HB2.out).mono ?_
  rintro e w3 ⟨rfl, h3, hb⟩
  obtain ⟨g, hg⟩ : ∃ z, w2.heap.size = z := ⟨_, rfl⟩
  have HX3 := Lib.hid (HX2.out.below hb HX2.out.lt)
  have HN3 := Lib.hid (show ¬ (fun k => k = w2.heap.size) w.heap.size from fun e => by have := HX2.out.lt; have e2 : w.heap.size = w2.heap.size := e; omega)
  rw [hg] at h3 HN3
  try rw [hg]
  have HH3 := Lib.hid h3
  clear hb h3 hg p0 p1 p2 p3 p4 p5 p6 p7 p8 p9 p10 p11
  have p0 := HX3.out.cell 0 rfl
  have p1 := HX3.out.cell 1 rfl
  have p2 := HX3.out.cell 2 rfl
  have p3 := HX3.out.cell 3 rfl
  have p4 := HX3.out.cell 4 rfl
  have p5 := HX3.out.cell 5 rfl
  have p6 := HX3.out.cell 6 rfl
  have p7 := HX3.out.cell 7 rfl
  have p8 := HX3.out.cell 8 rfl
  have p9 := HX3.out.cell 9 rfl
  have p10 := HX3.out.cell 10 rfl
  have p11 := HX3.out.cell 11 rfl
  go_wp2_with fail
  refine (HO1.out _).mono ?_
  rintro e w4 ⟨rfl, hb⟩
  have HH4 := Lib.hid (HH3.out.below hb)
  have HX4 := Lib.hid (HX3.out.below hb HX3.out.lt)
  clear hb p0 p1 p2 p3 p4 p5 p6 p7 p8 p9 p10 p11
  go_wp2_with fail
  refine (HS.out w4 g _ HH4.out).mono ?_
  rintro e w5 ⟨rfl, ht⟩
  obtain ⟨S5, h5, hk5, hs5⟩ := HH4.out.call ht
  have HX5 := Lib.hid (HX4.out.kept hk5 HN3.out)
  have HN5 := Lib.hid (hs5 _ HX4.out.lt HN3.out)
  have HH5 := Lib.hid h5
  clear ht h5 hk5 hs5
  have p0 := HX5.out.cell 0 rfl
  have p1 := HX5.out.cell 1 rfl
  have p2 := HX5.out.cell 2 rfl
  have p3 := HX5.out.cell 3 rfl
  have p4 := HX5.out.cell 4 rfl
  have p5 := HX5.out.cell 5 rfl
  have p6 := HX5.out.cell 6 rfl
  have p7 := HX5.out.cell 7 rfl
  have p8 := HX5.out.cell 8 rfl
  have p9 := HX5.out.cell 9 rfl
  have p10 := HX5.out.cell 10 rfl
  have p11 := HX5.out.cell 11 rfl
  go_wp2_with fail
  refine (HCU.out w5 g _ HH5.out).mono ?_
  rintro e w6 ⟨rfl, ht⟩
  obtain ⟨S6, h6, hk6, hs6⟩ := HH5.out.call ht
  have HX6 := Lib.hid (HX5.out.kept hk6 HN5.out)
  have HN6 := Lib.hid (hs6 _ HX5.out.lt HN5.out)
  have HH6 := Lib.hid h6
  clear ht h6 hk6 hs6 p0 p1 p2 p3 p4 p5 p6 p7 p8 p9 p10 p11
  go_wp2_with fail
  refine (HTW.out w6 g _ HH6.out).mono ?_
  rintro e w7 ⟨zx, zc, rfl, ht⟩
  obtain ⟨S7, h7, hk7, hs7⟩ := HH6.out.call ht
  have hX7 := HX6.out.kept hk7 HN6.out
  have HN7 := Lib.hid (hs7 _ HX6.out.lt HN6.out)
  have HH8 := Lib.hid (h7.alloc (.cells #[.int .i64 0, .int .i64 0, .int .i64 0, .int .i64 0, .int .i64 0, .int .u64 0, .int .i64 0, .bool false, .int .u64 0, .int .u32 0, .bool false, .slice zx 0 zc] 43))
  have HX8 := Lib.hid (hX7.alloc (.cells #[.int .i64 0, .int .i64 0, .int .i64 0, .int .i64 0, .int .i64 0, .int .u64 0, .int .i64 0, .bool false, .int .u64 0, .int .u32 0, .bool false, .slice zx 0 zc] 43))
  obtain ⟨w8, hw8⟩ : ∃ z, w7.alloc (.cells #[.int .i64 0, .int .i64 0, .int .i64 0, .int .i64 0, .int .i64 0, .int .u64 0, .int .i64 0, .bool false, .int .u64 0, .int .u32 0, .bool false, .slice zx 0 zc] 43) = z := ⟨_, rfl⟩
  obtain ⟨z10, hz10⟩ : ∃ z, w7.heap.size = z := ⟨_, rfl⟩
  rw [hw8] at HH8 HX8
  have HW8 := Lib.hid hw8
  have HZ10 := Lib.hid hz10
  clear ht h7 hk7 hs7 hX7 hw8 hz10
  go_upto_region 9 with fail
  try rw [HW8.out]
  try rw [HZ10.out]
  have p0 := HX8.out.cell 0 rfl
  have p1 := HX8.out.cell 1 rfl
  have p2 := HX8.out.cell 2 rfl
  have p3 := HX8.out.cell 3 rfl
  have p4 := HX8.out.cell 4 rfl
  have p5 := HX8.out.cell 5 rfl
  have p6 := HX8.out.cell 6 rfl
  have p7 := HX8.out.cell 7 rfl
  have p8 := HX8.out.cell 8 rfl
  have p9 := HX8.out.cell 9 rfl
  have p10 := HX8.out.cell 10 rfl
  have p11 := HX8.out.cell 11 rfl
  go_wp2_with fail
  refine (HP1.out w8 g _ HH8.out).mono ?_
  rintro e w9 ⟨rfl, hb⟩
  have HH9 := Lib.hid (HH8.out.below hb)
  have HX9 := Lib.hid (HX8.out.below hb HX8.out.lt)
  clear hb p0 p1 p2 p3 p4 p5 p6 p7 p8 p9 p10 p11
  have p0 := HX9.out.cell 0 rfl
  have p1 := HX9.out.cell 1 rfl
  have p2 := HX9.out.cell 2 rfl
  have p3 := HX9.out.cell 3 rfl
  have p4 := HX9.out.cell 4 rfl
  have p5 := HX9.out.cell 5 rfl
  have p6 := HX9.out.cell 6 rfl
  have p7 := HX9.out.cell 7 rfl
  have p8 := HX9.out.cell 8 rfl
  have p9 := HX9.out.cell 9 rfl
  have p10 := HX9.out.cell 10 rfl
  have p11 := HX9.out.cell 11 rfl
  go_wp2_with fail
  refine (HP2.out w9 g _ HH9.out).mono ?_
  rintro e w10 ⟨rfl, hb⟩
  have HH10 := Lib.hid (HH9.out.below hb)
  have HX10 := Lib.hid (HX9.out.below hb HX9.out.lt)
  clear hb p0 p1 p2 p3 p4 p5 p6 p7 p8 p9 p10 p11
  go_upto_region 10 with fail
  have p0 := HX10.out.cell 0 rfl
  have p1 := HX10.out.cell 1 rfl
  have p2 := HX10.out.cell 2 rfl
  have p3 := HX10.out.cell 3 rfl
  have p4 := HX10.out.cell 4 rfl
  have p5 := HX10.out.cell 5 rfl
  have p6 := HX10.out.cell 6 rfl
  have p7 := HX10.out.cell 7 rfl
  have p8 := HX10.out.cell 8 rfl
  have p9 := HX10.out.cell 9 rfl
  have p10 := HX10.out.cell 10 rfl
  have p11 := HX10.out.cell 11 rfl
  go_cut [13] from 66 to 85 (fun o wx => o = .bool false ∧ Hid (Below w10.heap.size w10 wx))
  case first =>
    by_cases h8 : (qa : Int) = m.fr
    · have k8 : ((qa : Int) != m.fr) = false := by simp [h8]
      have H8 := Lib.hid h8
      clear h8
      go_wp2
      go_meet
      exact ⟨rfl, Lib.hid (Below.refl _ _)⟩
    · have k8 : ((qa : Int) != m.fr) = true := bne_iff_ne.2 h8
      have H8 := Lib.hid h8
      clear h8
      by_cases h9 : (qa : Int) = m.to
      · have k9 : ((qa : Int) != m.to) = false := by simp [h9]
        have H9 := Lib.hid h9
        clear h9
        go_wp2
        go_meet
        exact ⟨rfl, Lib.hid (Below.refl _ _)⟩
      · have k9 : ((qa : Int) != m.to) = true := bne_iff_ne.2 h9
        have H9 := Lib.hid h9
        clear h9
        go_wp2_with fail
        refine (HP3.out w10 g _ HH10.out H8.out H9.out).mono ?_
        rintro e w11 ⟨rfl, hb⟩
        have HBB := Lib.hid hb
        clear hb
        go_wp2
        go_meet
        exact ⟨rfl, HBB⟩
  case rest =>
    obtain ⟨rfl, HBB⟩ := hcut
    obtain ⟨w11, hw11⟩ : ∃ z, z = wc := ⟨_, rfl⟩
    subst hw11
    have HH11 := Lib.hid (HH10.out.below HBB.out)
    have HX11 := Lib.hid (HX10.out.below HBB.out HX10.out.lt)
    clear p0 p1 p2 p3 p4 p5 p6 p7 p8 p9 p10 p11 ea eb
    have p0 := HX11.out.cell 0 rfl
    have p1 := HX11.out.cell 1 rfl
    have p2 := HX11.out.cell 2 rfl
    have p3 := HX11.out.cell 3 rfl
    have p4 := HX11.out.cell 4 rfl
    have p5 := HX11.out.cell 5 rfl
    have p6 := HX11.out.cell 6 rfl
    have p7 := HX11.out.cell 7 rfl
    have p8 := HX11.out.cell 8 rfl
    have p9 := HX11.out.cell 9 rfl
    have p10 := HX11.out.cell 10 rfl
    have p11 := HX11.out.cell 11 rfl
    go_wp2_with fail
    refine (HJ.out w11 g _ HH11.out).mono ?_
    rintro e w12 ⟨rfl, ht⟩
    obtain ⟨S12, h12, hk12, hs12⟩ := HH11.out.call ht
    have HX12 := Lib.hid (HX11.out.kept hk12 HN7.out)
    have HN12 := Lib.hid (hs12 _ HX11.out.lt HN7.out)
    have HH12 := Lib.hid h12
    clear ht h12 hk12 hs12 p0 p1 p2 p3 p4 p5 p6 p7 p8 p9 p10 p11
    go_wp2_with fail
    refine (HTK.out w12 g _ HH12.out).mono ?_
    rintro e w13 ⟨tx, tc, rfl, hi13, ht⟩
    obtain ⟨S13, h13, hk13, hs13⟩ := HH12.out.call ht
    have hX13 := HX12.out.kept hk13 HN12.out
    have HB14 := Lib.hid (h13.alloc (.cells #[.int .i64 m.fr, .int .i64 m.to, .int .i64 m.kd, .int .i64 m.vo, .int .i64 m.li, .int .u64 (m.id : Int), .int .i64 m.co, .bool m.has, .int .u64 (m.n.key : Int), .int .u32 (m.n.cookie : Int), .bool m.n.gone, .slice tx L tc] 43)).bel
    have HX14 := Lib.hid (hX13.alloc (.cells #[.int .i64 m.fr, .int .i64 m.to, .int .i64 m.kd, .int .i64 m.vo, .int .i64 m.li, .int .u64 (m.id : Int), .int .i64 m.co, .bool m.has, .int .u64 (m.n.key : Int), .int .u32 (m.n.cookie : Int), .bool m.n.gone, .slice tx L tc] 43))
    have HT14 := Lib.hid (Blk.new w13 #[.int .i64 m.fr, .int .i64 m.to, .int .i64 m.kd, .int .i64 m.vo, .int .i64 m.li, .int .u64 (m.id : Int), .int .i64 m.co, .bool m.has, .int .u64 (m.n.key : Int), .int .u32 (m.n.cookie : Int), .bool m.n.gone, .slice tx L tc] 43)
    have HI14 := Lib.hid (hi13.mono (below_new15 w13 (.cells #[.int .i64 m.fr, .int .i64 m.to, .int .i64 m.kd, .int .i64 m.vo, .int .i64 m.li, .int .u64 (m.id : Int), .int .i64 m.co, .bool m.has, .int .u64 (m.n.key : Int), .int .u32 (m.n.cookie : Int), .bool m.n.gone, .slice tx L tc] 43)) (Nat.le_refl _))
    obtain ⟨w14, hw14⟩ : ∃ z, w13.alloc (.cells #[.int .i64 m.fr, .int .i64 m.to, .int .i64 m.kd, .int .i64 m.vo, .int .i64 m.li, .int .u64 (m.id : Int), .int .i64 m.co, .bool m.has, .int .u64 (m.n.key : Int), .int .u32 (m.n.cookie : Int), .bool m.n.gone, .slice tx L tc] 43) = z := ⟨_, rfl⟩
    obtain ⟨Z, hZ⟩ : ∃ z, w13.heap.size = z := ⟨_, rfl⟩
    rw [hw14] at HB14 HX14 HT14 HI14
    rw [hZ] at HT14
    have HW14 := Lib.hid hw14
    have HZ := Lib.hid hZ
    clear ht h13 hk13 hs13 hX13 hw14 hZ hi13
    go_upto_region 13 with fail
    try rw [HW14.out]
    try rw [HZ.out]
    have HTO := Lib.hid (fun wx => to_any m tx L tc wx)
    have HUX := Lib.hid (show Below w14.heap.size w14 w14.drew from (Below.refl _ _).drew)
    have HC3 := Lib.hid (fun (wx : World) (hb : Below w14.heap.size w14 wx) => show wx.cell? ⟨w.heap.size, 0, none⟩ = some (.int .i64 m.fr) ∧ wx.cell? ⟨w.heap.size, 1, none⟩ = some (.int .i64 m.to) ∧ wx.cell? ⟨w.heap.size, 2, none⟩ = some (.int .i64 m.kd) ∧ wx.cell? ⟨w.heap.size, 3, none⟩ = some (.int .i64 m.vo) ∧ wx.cell? ⟨w.heap.size, 4, none⟩ = some (.int .i64 m.li) ∧ wx.cell? ⟨w.heap.size, 5, none⟩ = some (.int .u64 (m.id : Int)) ∧ wx.cell? ⟨w.heap.size, 6, none⟩ = some (.int .i64 m.co) ∧ wx.cell? ⟨w.heap.size, 7, none⟩ = some (.bool m.has) ∧ wx.cell? ⟨w.heap.size, 8, none⟩ = some (.int .u64 (m.n.key : Int)) ∧ wx.cell? ⟨w.heap.size, 9, none⟩ = some (.int .u32 (m.n.cookie : Int)) ∧ wx.cell? ⟨w.heap.size, 10, none⟩ = some (.bool m.n.gone) ∧ wx.cell? ⟨w.heap.size, 11, none⟩ = some (.slice x L c) from
      have h := HX14.out.below hb HX14.out.lt
      ⟨h.cell 0 rfl, h.cell 1 rfl, h.cell 2 rfl, h.cell 3 rfl, h.cell 4 rfl, h.cell 5 rfl, h.cell 6 rfl, h.cell 7 rfl, h.cell 8 rfl, h.cell 9 rfl, h.cell 10 rfl, h.cell 11 rfl⟩)
    have HC15 := Lib.hid (fun (wx : World) (hb : Below w14.heap.size w14 wx) => show wx.cell? ⟨Z, 0, none⟩ = some (.int .i64 m.fr) ∧ wx.cell? ⟨Z, 1, none⟩ = some (.int .i64 m.to) ∧ wx.cell? ⟨Z, 2, none⟩ = some (.int .i64 m.kd) ∧ wx.cell? ⟨Z, 3, none⟩ = some (.int .i64 m.vo) ∧ wx.cell? ⟨Z, 4, none⟩ = some (.int .i64 m.li) ∧ wx.cell? ⟨Z, 5, none⟩ = some (.int .u64 (m.id : Int)) ∧ wx.cell? ⟨Z, 6, none⟩ = some (.int .i64 m.co) ∧ wx.cell? ⟨Z, 7, none⟩ = some (.bool m.has) ∧ wx.cell? ⟨Z, 8, none⟩ = some (.int .u64 (m.n.key : Int)) ∧ wx.cell? ⟨Z, 9, none⟩ = some (.int .u32 (m.n.cookie : Int)) ∧ wx.cell? ⟨Z, 10, none⟩ = some (.bool m.n.gone) ∧ wx.cell? ⟨Z, 11, none⟩ = some (.slice tx L tc) from
      have h := HT14.out.below hb HT14.out.lt
      ⟨h.cell 0 rfl, h.cell 1 rfl, h.cell 2 rfl, h.cell 3 rfl, h.cell 4 rfl, h.cell 5 rfl, h.cell 6 rfl, h.cell 7 rfl, h.cell 8 rfl, h.cell 9 rfl, h.cell 10 rfl, h.cell 11 rfl⟩)
    refine wp_region_held_drew (S := (fun wx => Below w14.heap.size w14 wx)) (by kernel_rfl) (HUX.out) (fun hHeld => ?_)
    obtain ⟨q0w, hq0w⟩ : ∃ q, w14.drew = q := ⟨_, rfl⟩
    rw [hq0w] at HUX hHeld
    rw [hq0w]
    clear hq0w
    refine wpAnyH_take (i := 0) (v := ?_) rfl (by kernel_rfl) (by kernel_rfl) (by kernel_rfl) (fun _ _ _ h => h) (Or.inl ⟨by rfl, ?_⟩) (by assumption) ?_
    rotate_left 1
    · intro w hSw
      (try dsimp only at hSw)
      go_simp
      all_goals (with_reducible rfl)
    try simp only [Act.put, List.getElem_toArray, List.getElem_cons_zero, List.getElem_cons_succ, List.setIfInBounds_toArray, List.set_cons_zero, List.set_cons_succ]
    refine wpAnyH_take (i := 2) (v := ?_) rfl (by kernel_rfl) (by kernel_rfl) (by kernel_rfl) (fun _ _ _ h => h) (Or.inl ⟨by rfl, ?_⟩) (by assumption) ?_
    rotate_left 1
    · intro w hSw
      (try dsimp only at hSw)
      go_simp
      all_goals (with_reducible rfl)
    try simp only [Act.put, List.getElem_toArray, List.getElem_cons_zero, List.getElem_cons_succ, List.setIfInBounds_toArray, List.set_cons_zero, List.set_cons_succ]
    refine wpAnyH_take (i := 5) (v := ?_) rfl (by kernel_rfl) (by kernel_rfl) (by kernel_rfl) (fun _ _ _ h => h) (Or.inl ⟨by rfl, ?_⟩) (by assumption) ?_
    rotate_left 1
    · intro w hSw
      (try dsimp only at hSw)
      go_simp
      all_goals (with_reducible rfl)
    try simp only [Act.put, List.getElem_toArray, List.getElem_cons_zero, List.getElem_cons_succ, List.setIfInBounds_toArray, List.set_cons_zero, List.set_cons_succ]
    refine wpAnyH_take (i := 8) (v := ?_) rfl (by kernel_rfl) (by kernel_rfl) (by kernel_rfl) (fun _ _ _ h => h) (Or.inl ⟨by rfl, ?_⟩) (by assumption) ?_
    rotate_left 1
    · intro w hSw
      (try dsimp only at hSw)
      go_simp
      all_goals (with_reducible rfl)
    try simp only [Act.put, List.getElem_toArray, List.getElem_cons_zero, List.getElem_cons_succ, List.setIfInBounds_toArray, List.set_cons_zero, List.set_cons_succ]
    refine wpAnyH_ready (rs := [1]) (by kernel_rfl) (by simp) ?_
    refine AllReadyH.cons rfl (fun K hK => ?_) AllReadyH.nil
    go_simp
    refine (code_nil _).mono ?_
    rintro e u ⟨rfl, rfl⟩
    refine hK.out _ _ (by first | exact hHeld | exact HUX.out) (fun hHeld => ?_)
    clear hK K
    try simp only [Act.put, List.getElem_toArray, List.getElem_cons_zero, List.getElem_cons_succ, List.setIfInBounds_toArray, List.set_cons_zero, List.set_cons_succ]
    refine wpAnyH_ready (rs := [3]) (by kernel_rfl) (by simp) ?_
    refine AllReadyH.cons rfl (fun K hK => ?_) AllReadyH.nil
    go_simp
    refine (code_nil _).mono ?_
    rintro e u ⟨rfl, rfl⟩
    refine hK.out _ _ (by first | exact hHeld | exact HUX.out) (fun hHeld => ?_)
    clear hK K
    try simp only [Act.put, List.getElem_toArray, List.getElem_cons_zero, List.getElem_cons_succ, List.setIfInBounds_toArray, List.set_cons_zero, List.set_cons_succ]
    refine wpAnyH_take (i := 4) (v := ?_) rfl (by kernel_rfl) (by kernel_rfl) (by kernel_rfl) (fun _ _ _ h => h) (Or.inl ⟨by rfl, ?_⟩) (by assumption) ?_
    rotate_left 1
    · intro w hSw
      (try dsimp only at hSw)
      go_simp
      all_goals (with_reducible rfl)
    try simp only [Act.put, List.getElem_toArray, List.getElem_cons_zero, List.getElem_cons_succ, List.setIfInBounds_toArray, List.set_cons_zero, List.set_cons_succ]
    refine wpAnyH_ready (rs := [6]) (by kernel_rfl) (by simp) ?_
    refine AllReadyH.cons rfl (fun K hK => ?_) AllReadyH.nil
    go_simp
    refine (code_nil _).mono ?_
    rintro e u ⟨rfl, rfl⟩
    refine hK.out _ _ (by first | exact hHeld | exact HUX.out) (fun hHeld => ?_)
    clear hK K
    try simp only [Act.put, List.getElem_toArray, List.getElem_cons_zero, List.getElem_cons_succ, List.setIfInBounds_toArray, List.set_cons_zero, List.set_cons_succ]
    refine wpAnyH_take (i := 7) (v := ?_) rfl (by kernel_rfl) (by kernel_rfl) (by kernel_rfl) (fun _ _ _ h => h) (Or.inl ⟨by rfl, ?_⟩) (by assumption) ?_
    rotate_left 1
    · intro w hSw
      (try dsimp only at hSw)
      go_simp
      all_goals (with_reducible rfl)
    try simp only [Act.put, List.getElem_toArray, List.getElem_cons_zero, List.getElem_cons_succ, List.setIfInBounds_toArray, List.set_cons_zero, List.set_cons_succ]
    refine wpAnyH_ready (rs := [9]) (by kernel_rfl) (by simp) ?_
    refine AllReadyH.cons rfl (fun K hK => ?_) AllReadyH.nil
    go_simp
    refine (code_nil _).mono ?_
    rintro e u ⟨rfl, rfl⟩
    refine hK.out _ _ (by first | exact hHeld | exact HUX.out) (fun hHeld => ?_)
    clear hK K
    try simp only [Act.put, List.getElem_toArray, List.getElem_cons_zero, List.getElem_cons_succ, List.setIfInBounds_toArray, List.set_cons_zero, List.set_cons_succ]
    refine wpAnyH_take (i := 10) (v := ?_) rfl (by kernel_rfl) (by kernel_rfl) (by kernel_rfl) (fun _ _ _ h => h) (Or.inl ⟨by rfl, ?_⟩) (by assumption) ?_
    rotate_left 1
    · intro w hSw
      (try dsimp only at hSw)
      go_simp
      all_goals (with_reducible rfl)
    try simp only [Act.put, List.getElem_toArray, List.getElem_cons_zero, List.getElem_cons_succ, List.setIfInBounds_toArray, List.set_cons_zero, List.set_cons_succ]
    refine wpAnyH_take (i := 11) (v := ?_) rfl (by kernel_rfl) (by kernel_rfl) (by kernel_rfl) (fun _ _ _ h => h) (Or.inl ⟨by rfl, ?_⟩) (by assumption) ?_
    rotate_left 1
    · intro w hSw
      (try dsimp only at hSw)
      go_simp
      all_goals (with_reducible rfl)
    try simp only [Act.put, List.getElem_toArray, List.getElem_cons_zero, List.getElem_cons_succ, List.setIfInBounds_toArray, List.set_cons_zero, List.set_cons_succ]
    refine wpAnyH_take (i := 12) (v := ?_) rfl (by kernel_rfl) (by kernel_rfl) (by kernel_rfl) (fun _ _ _ h => h) (Or.inl ⟨by rfl, ?_⟩) (by assumption) ?_
    rotate_left 1
    · intro w hSw
      (try dsimp only at hSw)
      go_simp
      all_goals (with_reducible rfl)
    try simp only [Act.put, List.getElem_toArray, List.getElem_cons_zero, List.getElem_cons_succ, List.setIfInBounds_toArray, List.set_cons_zero, List.set_cons_succ]
    refine wpAnyH_take (i := 13) (v := ?_) rfl (by kernel_rfl) (by kernel_rfl) (by kernel_rfl) (fun _ _ _ h => h) (Or.inl ⟨by rfl, ?_⟩) (by assumption) ?_
    rotate_left 1
    · intro w hSw
      (try dsimp only at hSw)
      go_simp
      all_goals (with_reducible rfl)
    try simp only [Act.put, List.getElem_toArray, List.getElem_cons_zero, List.getElem_cons_succ, List.setIfInBounds_toArray, List.set_cons_zero, List.set_cons_succ]
    refine wpAnyH_ready (rs := [14]) (by kernel_rfl) (by simp) ?_
    refine AllReadyH.cons rfl (fun K hK => ?_) AllReadyH.nil
    go_simp
    refine (code_code 17 _ (by decide) (by decide)).mono ?_
    rintro e u ⟨rfl, rfl⟩
    refine hK.out _ _ (by first | exact hHeld | exact HUX.out) (fun hHeld => ?_)
    clear hK K
    try simp only [Act.put, List.getElem_toArray, List.getElem_cons_zero, List.getElem_cons_succ, List.setIfInBounds_toArray, List.set_cons_zero, List.set_cons_succ]
    refine wpAnyH_take (i := 15) (v := ?_) rfl (by kernel_rfl) (by kernel_rfl) (by kernel_rfl) (fun _ _ _ h => h) (Or.inl ⟨by rfl, ?_⟩) (by assumption) ?_
    rotate_left 1
    · intro w hSw
      (try dsimp only at hSw)
      go_simp
      all_goals (with_reducible rfl)
    try simp only [Act.put, List.getElem_toArray, List.getElem_cons_zero, List.getElem_cons_succ, List.setIfInBounds_toArray, List.set_cons_zero, List.set_cons_succ]
    refine wpAnyH_take (i := 16) (v := ?_) rfl (by kernel_rfl) (by kernel_rfl) (by kernel_rfl) (fun _ _ _ h => h) (Or.inl ⟨by rfl, ?_⟩) (by assumption) ?_
    rotate_left 1
    · intro w hSw
      (try dsimp only at hSw)
      go_simp
      all_goals (with_reducible rfl)
    try simp only [Act.put, List.getElem_toArray, List.getElem_cons_zero, List.getElem_cons_succ, List.setIfInBounds_toArray, List.set_cons_zero, List.set_cons_succ]
    refine wpAnyH_take (i := 17) (v := ?_) rfl (by kernel_rfl) (by kernel_rfl) (by kernel_rfl) (fun _ _ _ h => h) (Or.inl ⟨by rfl, ?_⟩) (by assumption) ?_
    rotate_left 1
    · intro w hSw
      (try dsimp only at hSw)
      go_simp
      all_goals (with_reducible rfl)
    try simp only [Act.put, List.getElem_toArray, List.getElem_cons_zero, List.getElem_cons_succ, List.setIfInBounds_toArray, List.set_cons_zero, List.set_cons_succ]
    refine wpAnyH_take (i := 18) (v := ?_) rfl (by kernel_rfl) (by kernel_rfl) (by kernel_rfl) (fun _ _ _ h => h) (Or.inl ⟨by rfl, ?_⟩) (by assumption) ?_
    rotate_left 1
    · intro w hSw
      (try dsimp only at hSw)
      go_simp
      all_goals (with_reducible rfl)
    try simp only [Act.put, List.getElem_toArray, List.getElem_cons_zero, List.getElem_cons_succ, List.setIfInBounds_toArray, List.set_cons_zero, List.set_cons_succ]
    refine wpAnyH_take (i := 19) (v := ?_) rfl (by kernel_rfl) (by kernel_rfl) (by kernel_rfl) (fun _ _ _ h => h) (Or.inl ⟨by rfl, ?_⟩) (by assumption) ?_
    rotate_left 1
    · intro w hSw
      (try dsimp only at hSw)
      go_simp
      all_goals (with_reducible rfl)
    try simp only [Act.put, List.getElem_toArray, List.getElem_cons_zero, List.getElem_cons_succ, List.setIfInBounds_toArray, List.set_cons_zero, List.set_cons_succ]
    refine wpAnyH_take (i := 20) (v := ?_) rfl (by kernel_rfl) (by kernel_rfl) (by kernel_rfl) (fun _ _ _ h => h) (Or.inl ⟨by rfl, ?_⟩) (by assumption) ?_
    rotate_left 1
    · intro w hSw
      (try dsimp only at hSw)
      go_simp
      all_goals (with_reducible rfl)
    try simp only [Act.put, List.getElem_toArray, List.getElem_cons_zero, List.getElem_cons_succ, List.setIfInBounds_toArray, List.set_cons_zero, List.set_cons_succ]
    refine wpAnyH_take (i := 21) (v := ?_) rfl (by kernel_rfl) (by kernel_rfl) (by kernel_rfl) (fun _ _ _ h => h) (Or.inl ⟨by rfl, ?_⟩) (by assumption) ?_
    rotate_left 1
    · intro w hSw
      (try dsimp only at hSw)
      go_simp
      all_goals (with_reducible rfl)
    try simp only [Act.put, List.getElem_toArray, List.getElem_cons_zero, List.getElem_cons_succ, List.setIfInBounds_toArray, List.set_cons_zero, List.set_cons_succ]
    refine wpAnyH_take (i := 22) (v := ?_) rfl (by kernel_rfl) (by kernel_rfl) (by kernel_rfl) (fun _ _ _ h => h) (Or.inl ⟨by rfl, ?_⟩) (by assumption) ?_
    rotate_left 1
    · intro w hSw
      (try dsimp only at hSw)
      go_simp
      all_goals (with_reducible rfl)
    try simp only [Act.put, List.getElem_toArray, List.getElem_cons_zero, List.getElem_cons_succ, List.setIfInBounds_toArray, List.set_cons_zero, List.set_cons_succ]
    refine wpAnyH_take (i := 23) (v := ?_) rfl (by kernel_rfl) (by kernel_rfl) (by kernel_rfl) (fun _ _ _ h => h) (Or.inl ⟨by rfl, ?_⟩) (by assumption) ?_
    rotate_left 1
    · intro w hSw
      (try dsimp only at hSw)
      go_simp
      all_goals (with_reducible rfl)
    try simp only [Act.put, List.getElem_toArray, List.getElem_cons_zero, List.getElem_cons_succ, List.setIfInBounds_toArray, List.set_cons_zero, List.set_cons_succ]
    refine wpAnyH_take (i := 24) (v := ?_) rfl (by kernel_rfl) (by kernel_rfl) (by kernel_rfl) (fun _ _ _ h => h) (Or.inl ⟨by rfl, ?_⟩) (by assumption) ?_
    rotate_left 1
    · intro w hSw
      (try dsimp only at hSw)
      go_simp
      all_goals (with_reducible rfl)
    try simp only [Act.put, List.getElem_toArray, List.getElem_cons_zero, List.getElem_cons_succ, List.setIfInBounds_toArray, List.set_cons_zero, List.set_cons_succ]
    refine wpAnyH_take (i := 25) (v := ?_) rfl (by kernel_rfl) (by kernel_rfl) (by kernel_rfl) (fun _ _ _ h => h) (Or.inl ⟨by rfl, ?_⟩) (by assumption) ?_
    rotate_left 1
    · intro w hSw
      obtain ⟨p0, p1, p2, p3, p4, p5, p6, p7, p8, p9, p10, p11⟩ := HC15.out w hSw
      go_simp
      all_goals (with_reducible rfl)
    try simp only [Act.put, List.getElem_toArray, List.getElem_cons_zero, List.getElem_cons_succ, List.setIfInBounds_toArray, List.set_cons_zero, List.set_cons_succ]
    refine wpAnyH_take (i := 27) (v := ?_) rfl (by kernel_rfl) (by kernel_rfl) (by kernel_rfl) (fun _ _ _ h => h) (Or.inl ⟨by rfl, ?_⟩) (by assumption) ?_
    rotate_left 1
    · intro w hSw
      obtain ⟨p0, p1, p2, p3, p4, p5, p6, p7, p8, p9, p10, p11⟩ := HC3.out w hSw
      go_simp
      all_goals (with_reducible rfl)
    try simp only [Act.put, List.getElem_toArray, List.getElem_cons_zero, List.getElem_cons_succ, List.setIfInBounds_toArray, List.set_cons_zero, List.set_cons_succ]
    refine wpAnyH_ready (rs := [26]) (by kernel_rfl) (by simp) ?_
    refine AllReadyH.cons rfl (fun K hK => ?_) AllReadyH.nil
    go_simp
    refine (HTO.out _).mono ?_
    rintro e u1 ⟨rfl, hbx⟩
    have HU1 := Lib.hid (HUX.out.trans (hbx.mono HUX.out.size))
    clear hbx HUX
    have HUX := HU1
    refine hK.out _ _ (by first | exact hHeld | exact HUX.out) (fun hHeld => ?_)
    clear hK K
    try simp only [Act.put, List.getElem_toArray, List.getElem_cons_zero, List.getElem_cons_succ, List.setIfInBounds_toArray, List.set_cons_zero, List.set_cons_succ]
    refine wpAnyH_ready (rs := [28]) (by kernel_rfl) (by simp) ?_
    refine AllReadyH.cons rfl (fun K hK => ?_) AllReadyH.nil
    go_simp
    refine (HSM.out _ tx tc (HB14.out.trans (HUX.out.mono HB14.out.size)) (HI14.out.mono HUX.out (Nat.le_refl _))).mono ?_
    rintro e u2 ⟨rfl, hbx⟩
    have HU2 := Lib.hid (HUX.out.trans (hbx.mono HUX.out.size))
    clear hbx HUX
    have HUX := HU2
    refine hK.out _ _ (by first | exact hHeld | exact HUX.out) (fun hHeld => ?_)
    clear hK K
    try simp only [Act.put, List.getElem_toArray, List.getElem_cons_zero, List.getElem_cons_succ, List.setIfInBounds_toArray, List.set_cons_zero, List.set_cons_succ]
    refine wpAnyH_take (i := 29) (v := ?_) rfl (by kernel_rfl) (by kernel_rfl) (by kernel_rfl) (fun _ _ _ h => h) (Or.inl ⟨by rfl, ?_⟩) (by assumption) ?_
    rotate_left 1
    · intro w hSw
      (try dsimp only at hSw)
      go_simp
      all_goals (with_reducible rfl)
    try simp only [Act.put, List.getElem_toArray, List.getElem_cons_zero, List.getElem_cons_succ, List.setIfInBounds_toArray, List.set_cons_zero, List.set_cons_succ]
    refine wpAnyH_ready (rs := [30]) (by kernel_rfl) (by simp) ?_
    refine AllReadyH.cons rfl (fun K hK => ?_) AllReadyH.nil
    go_simp
    refine hK.out _ _ (hHeld) (fun hHeld => ?_)
    clear hK K
    try simp only [Act.put, List.getElem_toArray, List.getElem_cons_zero, List.getElem_cons_succ, List.setIfInBounds_toArray, List.set_cons_zero, List.set_cons_succ]
    refine wpAnyH_done (by kernel_rfl) ?_ _
    go_wp2
    go_ret
    exact ⟨rfl, HB14.out.trans (HUX.out.mono HB14.out.size)⟩

end Go.Proofs.Ytofhbnnheadmlaa
