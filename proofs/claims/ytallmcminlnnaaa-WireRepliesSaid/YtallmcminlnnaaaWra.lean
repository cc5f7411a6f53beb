/- Package corncriblaw14: alive, WireReads. -/
import Derived.Test.YtallmcminlnnaaaWrc
import Derived.Test.YtallmcminlnnaaaOrdE
set_option linter.unusedVariables false
set_option linter.unusedSimpArgs false
namespace Go.Proofs.Ytallmcminlnnaaa
open Go.RowKit Go.Cor

theorem below_alloc14 (w : World) (o : Obj) : Below w.heap.size w (w.alloc o) := (Below.refl _ w).alloc (Nat.le_refl _) o
def mAl : Msg := ⟨0, 0, 3, 1, 0, 0, 0, true, ⟨7, 0, false, []⟩⟩
set_option maxRecDepth 100000 in
set_option maxHeartbeats 1000000 in
theorem alive14 (w : World) :
    Calls Try.prog 7 #[] w fun e w' => e = .returned (.bool true) ∧ Below w.heap.size w w' := by
  have HBY := Lib.hid (wbytes_ok mAl none 0 0 w (IsB.nil w) (by decide) ⟨by decide, by decide⟩ (by decide))
  have HL := Lib.hid (show (mbytes mAl).length = 60 by rw [length_mbytes, length_mbody]; decide)
  rw [HL.out] at HBY
  have HRD := Lib.hid (fun wx => wread_v (.slice none 0 0) [] wx (IsB.nil wx) (by decide))
  have h3 := mcode_short (l := []) (by decide)
  rw [h3.1, h3.2] at HRD
  go_enter Try.func7, Try.ntmps7
  go_wp2_with fail
  refine HBY.out.mono ?_
  rintro e w1 ⟨y, k, rfl, _, hb1⟩
  have HB1 := Lib.hid hb1
  clear hb1 h3
  go_wp2_with fail
  refine (HRD.out _).mono ?_
  rintro e w2 ⟨x, c, rfl, _, _, hb2⟩
  have HB2 := Lib.hid ((HB1.out.trans (hb2.mono HB1.out.size)).alloc (HB1.out.trans (hb2.mono HB1.out.size)).size (.cells #[.int .i64 0, .int .i64 0, .int .i64 0, .int .i64 0, .int .i64 0, .int .u64 0, .int .i64 0, .bool false, .int .u64 0, .int .u32 0, .bool false, .slice x 0 c] 29))
  clear hb2
  go_wp2_with fail
  refine (code_nil _).mono ?_
  rintro e w3 ⟨rfl, rfl⟩
  go_wp2_with fail
  refine (code_cerr 3 _ (by decide)).mono ?_
  rintro e w3 ⟨rfl, rfl⟩
  go_wp2
  go_ret
  exact ⟨rfl, HB2.out⟩
set_option maxRecDepth 100000 in
set_option maxHeartbeats 2000000 in
theorem wireReads_all (v : Value) (l : List UInt8) (w : World) (hv : IsB w v l) :
    Calls Try.prog 3 #[v] w fun e w' => e = .returned (.bool true) ∧ Below w.heap.size w w' := by
  have HA := Lib.hid (alive14 w)
  obtain ⟨N, hN⟩ : ∃ N, l.length = N := ⟨_, rfl⟩
  have hlen := fun W => len_B (P := Try.prog) hv hN 22 3 5 Try.underlying22 W
  by_cases h6 : 6000 < N
  · have g1 : (6000 : Int) < (N : Int) := by omega
    clear hv hN
    go_enter Try.func3, Try.ntmps3
    go_wp2_with fail
    refine HA.out.mono ?_
    rintro e w1 ⟨rfl, hb⟩
    have HB := Lib.hid hb
    clear hb
    go_wp2
    go_ret
    exact ⟨rfl, HB.out⟩
  have g1 : ¬ (6000 : Int) < (N : Int) := by omega
  have HV := Lib.hid (fun wx (hb : Below w.heap.size w wx) => wread_v v l wx (hv.mono hb (Nat.le_refl _)) (by omega))
  have HR := Lib.hid (fun wx (hb : Below w.heap.size w wx) => rread_any v l wx (hv.mono hb (Nat.le_refl _)) (by omega))
  have HC5 := Lib.hid (Nat.le_trans (mcode_le l) (show 5 ≤ 17 by decide))
  obtain ⟨C, hC⟩ : ∃ C, mcode l = C := ⟨_, rfl⟩
  unfold ReadT at HR
  rw [hC] at HV HC5
  simp only [hC] at HR
  have HLB := Lib.hid (show (mread l).n.data.length ≤ 1099511627776 from Nat.le_trans (mread_len l) (by omega))
  obtain ⟨⟨mfr, mtt, mkd, mvo, mli, mid, mco, mhas, mkey, mck, mgn, md⟩, hM⟩ : ∃ m, mread l = m := ⟨_, rfl⟩
  rw [hM] at HV HLB
  simp only [hM] at HR
  dsimp only at HV HR HLB
  obtain ⟨L, hL⟩ : ∃ L, md.length = L := ⟨_, rfl⟩
  rw [hL] at HV
  have HL := Lib.hid hL
  clear hv hN hC hM hL
  go_enter Try.func3, Try.ntmps3
  go_wp2_with fail
  refine HA.out.mono ?_
  rintro e w1 ⟨rfl, hb⟩
  have HB1 := Lib.hid hb
  clear hb
  go_wp2_with fail
  refine (HV.out _ HB1.out).mono ?_
  rintro e w2 ⟨x, c, rfl, hi2, _, hb2⟩
  have HB2 := Lib.hid ((HB1.out.trans (hb2.mono HB1.out.size)).alloc (HB1.out.trans (hb2.mono HB1.out.size)).size (.cells #[.int .i64 mfr, .int .i64 mtt, .int .i64 mkd, .int .i64 mvo, .int .i64 mli, .int .u64 (mid : Int), .int .i64 mco, .bool mhas, .int .u64 (mkey : Int), .int .u32 (mck : Int), .bool mgn, .slice x L c] 29))
  have hx2 := Blk.new w2 #[.int .i64 mfr, .int .i64 mtt, .int .i64 mkd, .int .i64 mvo, .int .i64 mli, .int .u64 (mid : Int), .int .i64 mco, .bool mhas, .int .u64 (mkey : Int), .int .u32 (mck : Int), .bool mgn, .slice x L c] 29
  have hi3 := hi2.mono (below_alloc14 w2 (.cells #[.int .i64 mfr, .int .i64 mtt, .int .i64 mkd, .int .i64 mvo, .int .i64 mli, .int .u64 (mid : Int), .int .i64 mco, .bool mhas, .int .u64 (mkey : Int), .int .u32 (mck : Int), .bool mgn, .slice x L c] 29)) (Nat.le_refl _)
  clear hb2 hi2
  go_wp2_with fail
  refine (HR.out _ HB2.out).mono ?_
  rintro e w4 ⟨nv, rfl, hi4, hb4⟩
  obtain ⟨M, hMl⟩ : ∃ M, md.length = M := ⟨_, rfl⟩
  obtain ⟨y, k, rfl, _, _⟩ := hi4.at_len hMl
  have hB4 := HB2.out.trans (hb4.mono HB2.out.size)
  have hx4 := hx2.below hb4 hx2.lt
  have hi5 := hi3.mono hb4 (Nat.le_refl _)
  obtain ⟨X, hX⟩ : ∃ X, w2.heap.size = X := ⟨_, rfl⟩
  have hy9 := Blk.new w4 #[.int .i64 mfr, .int .i64 mtt, .int .i64 mkd, .int .i64 mvo, .int .i64 mli, .int .u64 (mid : Int), .int .i64 mco, .bool mhas, .int .u64 (mkey : Int), .int .u32 (mck : Int), .bool mgn, .slice y M k] 36
  have hx9 := hx4.alloc (.cells #[.int .i64 mfr, .int .i64 mtt, .int .i64 mkd, .int .i64 mvo, .int .i64 mli, .int .u64 (mid : Int), .int .i64 mco, .bool mhas, .int .u64 (mkey : Int), .int .u32 (mck : Int), .bool mgn, .slice y M k] 36)
  have hb9 := hB4.alloc hB4.size (.cells #[.int .i64 mfr, .int .i64 mtt, .int .i64 mkd, .int .i64 mvo, .int .i64 mli, .int .u64 (mid : Int), .int .i64 mco, .bool mhas, .int .u64 (mkey : Int), .int .u32 (mck : Int), .bool mgn, .slice y M k] 36)
  have hi9 := hi5.mono (below_alloc14 w4 (.cells #[.int .i64 mfr, .int .i64 mtt, .int .i64 mkd, .int .i64 mvo, .int .i64 mli, .int .u64 (mid : Int), .int .i64 mco, .bool mhas, .int .u64 (mkey : Int), .int .u32 (mck : Int), .bool mgn, .slice y M k] 36)) (Nat.le_refl _)
  have hj9 := hi4.mono (below_alloc14 w4 (.cells #[.int .i64 mfr, .int .i64 mtt, .int .i64 mkd, .int .i64 mvo, .int .i64 mli, .int .u64 (mid : Int), .int .i64 mco, .bool mhas, .int .u64 (mkey : Int), .int .u32 (mck : Int), .bool mgn, .slice y M k] 36)) (Nat.le_refl _)
  obtain ⟨w9, hw9⟩ : ∃ w9, w4.alloc (.cells #[.int .i64 mfr, .int .i64 mtt, .int .i64 mkd, .int .i64 mvo, .int .i64 mli, .int .u64 (mid : Int), .int .i64 mco, .bool mhas, .int .u64 (mkey : Int), .int .u32 (mck : Int), .bool mgn, .slice y M k] 36) = w9 := ⟨_, rfl⟩
  obtain ⟨Y, hY⟩ : ∃ Y, w4.heap.size = Y := ⟨_, rfl⟩
  rw [hw9, hY] at hy9
  rw [hw9] at hx9 hb9 hi9 hj9
  rw [hX] at hx9
  go_upto_region 7 with fail
  try rw [hw9]
  try rw [hX]
  try rw [hY]
  have HB9 := Lib.hid hb9
  have HX9 := Lib.hid hx9
  have HY9 := Lib.hid hy9
  have HS := Lib.hid (show ∀ wx, Below w9.heap.size w9 wx → (fun wx => (wx.cell? ⟨X, 0, none⟩ = some (.int .i64 mfr) ∧ wx.cell? ⟨X, 1, none⟩ = some (.int .i64 mtt) ∧ wx.cell? ⟨X, 2, none⟩ = some (.int .i64 mkd) ∧ wx.cell? ⟨X, 3, none⟩ = some (.int .i64 mvo) ∧ wx.cell? ⟨X, 4, none⟩ = some (.int .i64 mli) ∧ wx.cell? ⟨X, 5, none⟩ = some (.int .u64 (mid : Int)) ∧ wx.cell? ⟨X, 6, none⟩ = some (.int .i64 mco) ∧ wx.cell? ⟨X, 7, none⟩ = some (.bool mhas) ∧ wx.cell? ⟨X, 8, none⟩ = some (.int .u64 (mkey : Int)) ∧ wx.cell? ⟨X, 9, none⟩ = some (.int .u32 (mck : Int)) ∧ wx.cell? ⟨X, 10, none⟩ = some (.bool mgn) ∧ wx.cell? ⟨X, 11, none⟩ = some (.slice x L c)) ∧ (wx.cell? ⟨Y, 0, none⟩ = some (.int .i64 mfr) ∧ wx.cell? ⟨Y, 1, none⟩ = some (.int .i64 mtt) ∧ wx.cell? ⟨Y, 2, none⟩ = some (.int .i64 mkd) ∧ wx.cell? ⟨Y, 3, none⟩ = some (.int .i64 mvo) ∧ wx.cell? ⟨Y, 4, none⟩ = some (.int .i64 mli) ∧ wx.cell? ⟨Y, 5, none⟩ = some (.int .u64 (mid : Int)) ∧ wx.cell? ⟨Y, 6, none⟩ = some (.int .i64 mco) ∧ wx.cell? ⟨Y, 7, none⟩ = some (.bool mhas) ∧ wx.cell? ⟨Y, 8, none⟩ = some (.int .u64 (mkey : Int)) ∧ wx.cell? ⟨Y, 9, none⟩ = some (.int .u32 (mck : Int)) ∧ wx.cell? ⟨Y, 10, none⟩ = some (.bool mgn) ∧ wx.cell? ⟨Y, 11, none⟩ = some (.slice y M k))) wx from fun wx hb => by
    have h1 := HX9.out.below hb HX9.out.lt
    have h2 := HY9.out.below hb HY9.out.lt
    exact ⟨⟨h1.cell 0 rfl, h1.cell 1 rfl, h1.cell 2 rfl, h1.cell 3 rfl, h1.cell 4 rfl, h1.cell 5 rfl, h1.cell 6 rfl, h1.cell 7 rfl, h1.cell 8 rfl, h1.cell 9 rfl, h1.cell 10 rfl, h1.cell 11 rfl⟩, ⟨h2.cell 0 rfl, h2.cell 1 rfl, h2.cell 2 rfl, h2.cell 3 rfl, h2.cell 4 rfl, h2.cell 5 rfl, h2.cell 6 rfl, h2.cell 7 rfl, h2.cell 8 rfl, h2.cell 9 rfl, h2.cell 10 rfl, h2.cell 11 rfl⟩⟩)
  have HTO := Lib.hid (fun wx => to_any ⟨mfr, mtt, mkd, mvo, mli, mid, mco, mhas, ⟨mkey, mck, mgn, md⟩⟩ x L c wx)
  have HSM := Lib.hid (fun wx (hb : Below w9.heap.size w9 wx) => by
    have := rsame_any ⟨mfr, mtt, mkd, mvo, mli, mid, mco, mhas, ⟨mkey, mck, mgn, md⟩⟩ ⟨mfr, mtt, mkd, mvo, mli, mid, mco, mhas, ⟨mkey, mck, mgn, md⟩⟩ (.slice x L c) (.slice y M k) wx (hi9.mono hb (Nat.le_refl _)) (hj9.mono hb (Nat.le_refl _)) HLB.out
    rw [(sameM_eq _ _).2 rfl] at this
    exact this)
  clear hx9 hy9 hb9 hi9 hj9 hw9 hX hY hx2 hi3 hb4 hB4 hx4 hi5 hi4 hMl
  refine AnyE.start (S := (fun wx => (wx.cell? ⟨X, 0, none⟩ = some (.int .i64 mfr) ∧ wx.cell? ⟨X, 1, none⟩ = some (.int .i64 mtt) ∧ wx.cell? ⟨X, 2, none⟩ = some (.int .i64 mkd) ∧ wx.cell? ⟨X, 3, none⟩ = some (.int .i64 mvo) ∧ wx.cell? ⟨X, 4, none⟩ = some (.int .i64 mli) ∧ wx.cell? ⟨X, 5, none⟩ = some (.int .u64 (mid : Int)) ∧ wx.cell? ⟨X, 6, none⟩ = some (.int .i64 mco) ∧ wx.cell? ⟨X, 7, none⟩ = some (.bool mhas) ∧ wx.cell? ⟨X, 8, none⟩ = some (.int .u64 (mkey : Int)) ∧ wx.cell? ⟨X, 9, none⟩ = some (.int .u32 (mck : Int)) ∧ wx.cell? ⟨X, 10, none⟩ = some (.bool mgn) ∧ wx.cell? ⟨X, 11, none⟩ = some (.slice x L c)) ∧ (wx.cell? ⟨Y, 0, none⟩ = some (.int .i64 mfr) ∧ wx.cell? ⟨Y, 1, none⟩ = some (.int .i64 mtt) ∧ wx.cell? ⟨Y, 2, none⟩ = some (.int .i64 mkd) ∧ wx.cell? ⟨Y, 3, none⟩ = some (.int .i64 mvo) ∧ wx.cell? ⟨Y, 4, none⟩ = some (.int .i64 mli) ∧ wx.cell? ⟨Y, 5, none⟩ = some (.int .u64 (mid : Int)) ∧ wx.cell? ⟨Y, 6, none⟩ = some (.int .i64 mco) ∧ wx.cell? ⟨Y, 7, none⟩ = some (.bool mhas) ∧ wx.cell? ⟨Y, 8, none⟩ = some (.int .u64 (mkey : Int)) ∧ wx.cell? ⟨Y, 9, none⟩ = some (.int .u32 (mck : Int)) ∧ wx.cell? ⟨Y, 10, none⟩ = some (.bool mgn) ∧ wx.cell? ⟨Y, 11, none⟩ = some (.slice y M k)))) 10 (by kernel_rfl) (HS.out _ (Below.refl _ w9).drew) (fun hHeld => ?_)
  refine AnyE.take (i := 0) (v := ?_) rfl (by kernel_rfl) (by kernel_rfl) (by kernel_rfl) (by kernel_rfl) (fun _ _ _ h => h) (Or.inl ⟨by rfl, ?_⟩) (by assumption) ?_
  rotate_left 1
  · intro w hSw
    (try dsimp only at hSw)
    go_simp
    all_goals (with_reducible rfl)
  try simp only [Act.put, List.getElem_toArray, List.getElem_cons_zero, List.getElem_cons_succ, List.setIfInBounds_toArray, List.set_cons_zero, List.set_cons_succ]
  refine AnyE.take (i := 2) (v := ?_) rfl (by kernel_rfl) (by kernel_rfl) (by kernel_rfl) (by kernel_rfl) (fun _ _ _ h => h) (Or.inl ⟨by rfl, ?_⟩) (by assumption) ?_
  rotate_left 1
  · intro w hSw
    (try dsimp only at hSw)
    go_simp
    all_goals (with_reducible rfl)
  try simp only [Act.put, List.getElem_toArray, List.getElem_cons_zero, List.getElem_cons_succ, List.setIfInBounds_toArray, List.set_cons_zero, List.set_cons_succ]
  refine AnyE.next (rs := [1]) (by kernel_rfl) (by simp) ?_
  refine AllE.cons rfl (fun K hK => ?_) AllE.nil
  go_simp
  refine (code_cerr C _ HC5.out).mono ?_
  rintro e q1 ⟨rfl, rfl⟩
  refine hK.out _ _ (HS.out _ (Below.refl _ w9).drew) (fun hHeld => ?_)
  clear hK K
  try simp only [Act.put, List.getElem_toArray, List.getElem_cons_zero, List.getElem_cons_succ, List.setIfInBounds_toArray, List.set_cons_zero, List.set_cons_succ]
  refine AnyE.take (i := 3) (v := ?_) rfl (by kernel_rfl) (by kernel_rfl) (by kernel_rfl) (by kernel_rfl) (fun _ _ _ h => h) (Or.inl ⟨by rfl, ?_⟩) (by assumption) ?_
  rotate_left 1
  · intro w hSw
    (try dsimp only at hSw)
    go_simp
    all_goals (with_reducible rfl)
  try simp only [Act.put, List.getElem_toArray, List.getElem_cons_zero, List.getElem_cons_succ, List.setIfInBounds_toArray, List.set_cons_zero, List.set_cons_succ]
  refine AnyE.take (i := 4) (v := ?_) rfl (by kernel_rfl) (by kernel_rfl) (by kernel_rfl) (by kernel_rfl) (fun _ _ _ h => h) (Or.inl ⟨by rfl, ?_⟩) (by assumption) ?_
  rotate_left 1
  · intro w hSw
    (try dsimp only at hSw)
    go_simp
    all_goals (with_reducible rfl)
  try simp only [Act.put, List.getElem_toArray, List.getElem_cons_zero, List.getElem_cons_succ, List.setIfInBounds_toArray, List.set_cons_zero, List.set_cons_succ]
  refine AnyE.take (i := 5) (v := ?_) rfl (by kernel_rfl) (by kernel_rfl) (by kernel_rfl) (by kernel_rfl) (fun _ _ _ h => h) (Or.inl ⟨by rfl, ?_⟩) (by assumption) ?_
  rotate_left 1
  · intro w hSw
    (try dsimp only at hSw)
    go_simp
    all_goals (with_reducible rfl)
  try simp only [Act.put, List.getElem_toArray, List.getElem_cons_zero, List.getElem_cons_succ, List.setIfInBounds_toArray, List.set_cons_zero, List.set_cons_succ]
  refine AnyE.take (i := 7) (v := ?_) rfl (by kernel_rfl) (by kernel_rfl) (by kernel_rfl) (by kernel_rfl) (fun _ _ _ h => h) (Or.inl ⟨by rfl, ?_⟩) (by assumption) ?_
  rotate_left 1
  · intro w hSw
    (try dsimp only at hSw)
    go_simp
    all_goals (with_reducible rfl)
  try simp only [Act.put, List.getElem_toArray, List.getElem_cons_zero, List.getElem_cons_succ, List.setIfInBounds_toArray, List.set_cons_zero, List.set_cons_succ]
  refine AnyE.next (rs := [6]) (by kernel_rfl) (by simp) ?_
  refine AllE.cons rfl (fun K hK => ?_) AllE.nil
  go_simp
  refine (HTO.out _).mono ?_
  rintro e q2 ⟨rfl, hb2⟩
  have HQ2 := Lib.hid ((Below.refl w9.heap.size w9).drew.trans hb2)
  clear hb2
  refine hK.out _ _ (HS.out _ HQ2.out) (fun hHeld => ?_)
  clear hK K
  try simp only [Act.put, List.getElem_toArray, List.getElem_cons_zero, List.getElem_cons_succ, List.setIfInBounds_toArray, List.set_cons_zero, List.set_cons_succ]
  refine AnyE.next (rs := [8]) (by kernel_rfl) (by simp) ?_
  refine AllE.cons rfl (fun K hK => ?_) AllE.nil
  go_simp
  refine (HSM.out _ HQ2.out).mono ?_
  rintro e q3 ⟨rfl, hb3⟩
  have HQ3 := Lib.hid (HQ2.out.trans (hb3.mono HQ2.out.size))
  clear hb3
  refine hK.out _ _ (HS.out _ HQ3.out) (fun hHeld => ?_)
  clear hK K
  try simp only [Act.put, List.getElem_toArray, List.getElem_cons_zero, List.getElem_cons_succ, List.setIfInBounds_toArray, List.set_cons_zero, List.set_cons_succ]
  refine AnyE.take (i := 9) (v := ?_) rfl (by kernel_rfl) (by kernel_rfl) (by kernel_rfl) (by kernel_rfl) (fun _ _ _ h => h) (Or.inl ⟨by rfl, ?_⟩) (by assumption) ?_
  rotate_left 1
  · intro w hSw
    (try dsimp only at hSw)
    go_simp
    all_goals (with_reducible rfl)
  try simp only [Act.put, List.getElem_toArray, List.getElem_cons_zero, List.getElem_cons_succ, List.setIfInBounds_toArray, List.set_cons_zero, List.set_cons_succ]
  refine AnyE.next (rs := [10]) (by kernel_rfl) (by simp) ?_
  refine AllE.last rfl (fun K hK => ?_)
  go_simp
  refine hK.out _ _ ?_
  clear hK K
  try simp only [Act.put, List.getElem_toArray, List.getElem_cons_zero, List.getElem_cons_succ, List.setIfInBounds_toArray, List.set_cons_zero, List.set_cons_succ]
  refine AnyE.done (by kernel_rfl) ?_ _
  go_wp2
  go_ret
  exact ⟨rfl, HB9.out.trans (HQ3.out.mono HB9.out.size)⟩

end Go.Proofs.Ytallmcminlnnaaa
