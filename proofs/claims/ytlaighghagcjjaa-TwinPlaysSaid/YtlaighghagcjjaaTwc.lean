/- Package twin: Ask. -/
import Derived.Test.YtlaighghagcjjaaTwbF
import Derived.Test.YtlaighghagcjjaaOrdE
namespace Go.Proofs.Ytlaighghagcjjaa
open Go.RowKit Go.Cor
set_option linter.unusedVariables false
set_option linter.unusedSimpArgs false

theorem Try.infoCmdT : (Try.prog.info? 56).map (fun i => (i.zero, i.size, i.bytes)) = some (some (.agg #[.int .i64 0, .int .i64 0, .int .i64 0, .int .i64 0, .int .i64 0, .int .i64 0, .int .i64 0, .int .i64 0]), 8, 64) := by kernel_rfl
theorem cells_cmd (c : Cm) : ∀ u ∈ ccl c, u.oneCell' = true := ccl_one c
set_option maxRecDepth 100000 in
set_option maxHeartbeats 2000000 in
theorem task_down (w : World) (B g : Nat) (S : Nat → Prop) (p : Pr) (t : Int) (c : Cm) (h : Tw w B g S p) (hu : p.up p.ld = false) :
    Calls Try.prog 21 #[pp g, .int .i64 t, cval c] w fun e w' => e = .returned (.tuple #[.int .i64 0, erc 12]) ∧ Below w.heap.size w w' := by
  obtain ⟨_, va, vb, h⟩ := h
  have HA := Lib.hid (fun cs => below_new19 w (.cells cs 56))
  have HV := Lib.hid (fun cs => h.below (HA.out cs))
  have k4 : ∀ cs, (w.alloc (.cells cs 56)).cell? ⟨g, 4, none⟩ = some (.int .i64 (sn p.ld : Int)) := fun cs => (HV.out cs).blk.cell 4 rfl
  have HD := Lib.hid (fun cs => tdoes _ g va vb p p.ld (HV.out cs).blk)
  rw [show doesN p p.ld = 0 from by unfold doesN; rw [hu]; rfl] at HD
  obtain ⟨N, hN⟩ : ∃ N, sn p.ld = N := ⟨_, rfl⟩
  rw [hN] at k4 HD
  clear h hu hN
  obtain ⟨ck, cv, ce, ca, cn, c1, c2, c3⟩ := c
  unfold cval
  go_enter Try.func21, Try.ntmps21
  go_wp2_with fail
  refine (HD.out _).mono ?_
  rintro e w2 ⟨rfl, rfl⟩
  go_wp2
  go_ret2
  exact ⟨rfl, HA.out _⟩
set_option maxRecDepth 100000 in
set_option maxHeartbeats 2000000 in
theorem task_stale (w : World) (B g : Nat) (S : Nat → Prop) (p : Pr) (t : Int) (c : Cm) (h : Tw w B g S p) (hu : p.up p.ld = true) (ht : t ≠ (p.tm : Int)) :
    Calls Try.prog 21 #[pp g, .int .i64 t, cval c] w fun e w' => e = .returned (.tuple #[.int .i64 0, erc 13]) ∧ Below w.heap.size w w' := by
  obtain ⟨_, va, vb, h⟩ := h
  have HA := Lib.hid (fun cs => below_new19 w (.cells cs 56))
  have HV := Lib.hid (fun cs => h.below (HA.out cs))
  have k4 : ∀ cs, (w.alloc (.cells cs 56)).cell? ⟨g, 4, none⟩ = some (.int .i64 (sn p.ld : Int)) := fun cs => (HV.out cs).blk.cell 4 rfl
  have k5 : ∀ cs, (w.alloc (.cells cs 56)).cell? ⟨g, 5, none⟩ = some (.int .i64 (p.tm : Int)) := fun cs => (HV.out cs).blk.cell 5 rfl
  obtain ⟨D, hd0, hD⟩ : ∃ D : Nat, D ≠ 0 ∧ doesN p p.ld = D := ⟨_, by unfold doesN; rw [hu]; simp; split <;> decide, rfl⟩
  have HD := Lib.hid (fun cs => tdoes _ g va vb p p.ld (HV.out cs).blk)
  rw [hD] at HD
  obtain ⟨N, hN⟩ : ∃ N, sn p.ld = N := ⟨_, rfl⟩
  rw [hN] at k4 HD
  obtain ⟨T, hT⟩ : ∃ T, p.tm = T := ⟨_, rfl⟩
  rw [hT] at k5 ht
  have hd1 : ((D : Int) == 0) = false := by rw [beq_eq_false_iff_ne]; omega
  clear h hu hN hD hT
  obtain ⟨ck, cv, ce, ca, cn, c1, c2, c3⟩ := c
  unfold cval
  go_enter Try.func21, Try.ntmps21
  go_wp2_with fail
  refine (HD.out _).mono ?_
  rintro e w2 ⟨rfl, rfl⟩
  go_wp2
  go_ret2
  exact ⟨rfl, HA.out _⟩
set_option maxRecDepth 100000 in
set_option maxHeartbeats 4000000 in
theorem task_ok0t (w : World) (B g : Nat) (S : Nat → Prop) (a b : List Cm) (tm st : Nat) (c : Cm) (h : Tw w B g S ⟨a, b, true, true, false, tm, st⟩) (hl : a.length ≤ 1000) :
    Calls Try.prog 21 #[pp g, .int .i64 (tm : Int), cval c] w fun e w' => e = .returned (.tuple #[.int .i64 (a.length : Int), .nilIface]) ∧ TwG w B g S ⟨(a ++ [c]), b, true, true, false, tm, st⟩ w' := by
  obtain ⟨_, va, vb, h⟩ := h
  obtain ⟨i0, hi0, hz0, hz1, hz2⟩ := info_parts Try.infoCmdT
  have HI0 := Lib.hid hi0
  have HZ0 := Lib.hid hz0
  have HZ1 := Lib.hid hz1
  have HZ2 := Lib.hid hz2
  clear hi0 hz0 hz1 hz2
  obtain ⟨ck, cv, ce, ca, cn, c1, c2, c3⟩ := c
  obtain ⟨Y, hY⟩ : ∃ Y, w.heap.size = Y := ⟨_, rfl⟩
  obtain ⟨w1, hw1⟩ : ∃ w1, w.alloc (.cells #[.int .i64 ck, .int .i64 cv, .int .i64 ce, .int .i64 ca, .int .i64 cn, .int .i64 c1, .int .i64 c2, .int .i64 c3] 56) = w1 := ⟨_, rfl⟩
  have HV1 := Lib.hid (show TwV w1 B g S va vb ⟨a, b, true, true, false, tm, st⟩ from hw1 ▸ h.below (below_new19 w (.cells #[.int .i64 ck, .int .i64 cv, .int .i64 ce, .int .i64 ca, .int .i64 cn, .int .i64 c1, .int .i64 c2, .int .i64 c3] 56)))
  have HY1 := Lib.hid (show Blk w1 Y #[.int .i64 ck, .int .i64 cv, .int .i64 ce, .int .i64 ca, .int .i64 cn, .int .i64 c1, .int .i64 c2, .int .i64 c3] 56 from hw1 ▸ hY ▸ Blk.new w #[.int .i64 ck, .int .i64 cv, .int .i64 ce, .int .i64 ca, .int .i64 cn, .int .i64 c1, .int .i64 c2, .int .i64 c3] 56)
  have HK1 := Lib.hid (show Kept S w w1 from hw1 ▸ (Kept.refl S w).alloc (.cells #[.int .i64 ck, .int .i64 cv, .int .i64 ce, .int .i64 ca, .int .i64 cn, .int .i64 c1, .int .i64 c2, .int .i64 c3] 56))
  have HNY := Lib.hid (show va.ownBlock ≠ some Y from fun e => by have := (h.lt Y (h.sv Y (.inl e))).2; omega)
  have HW1 := Lib.hid hw1
  have HYe := Lib.hid hY
  obtain ⟨N, hN⟩ : ∃ N, a.length = N := ⟨_, rfl⟩
  rw [hN] at hl
  have HN := Lib.hid hN
  have k4 : (w.alloc (.cells #[.int .i64 ck, .int .i64 cv, .int .i64 ce, .int .i64 ca, .int .i64 cn, .int .i64 c1, .int .i64 c2, .int .i64 c3] 56)).cell? ⟨g, 4, none⟩ = some (.int .i64 0) := by rw [hw1]; exact HV1.out.blk.cell 4 rfl
  clear h hN hw1 hY
  unfold cval
  go_enter Try.func21, Try.ntmps21
  go_wp2_with fail
  rw [HW1.out]
  refine (tdoes w1 g va vb ⟨a, b, true, true, false, tm, st⟩ false HV1.out.blk).mono ?_
  rw [show doesN ⟨a, b, true, true, false, tm, st⟩ false = 2 from rfl]
  rintro e w2 ⟨rfl, rfl⟩
  rw [HYe.out]
  clear k4
  have k4 : w1.cell? ⟨g, 4, none⟩ = some (.int .i64 0) := HV1.out.blk.cell 4 rfl
  have k5 : w1.cell? ⟨g, 5, none⟩ = some (.int .i64 (tm : Int)) := HV1.out.blk.cell 5 rfl
  go_wp2_with fail
  go_region
  go_wp2_with fail
  obtain ⟨w2, hw2⟩ : ∃ w2, w1.drew = w2 := ⟨_, rfl⟩
  have HV2 := Lib.hid (show TwV w2 B g S va vb ⟨a, b, true, true, false, tm, st⟩ from hw2 ▸ HV1.out.drewN 1)
  have HY2 := Lib.hid (show Blk w2 Y #[.int .i64 ck, .int .i64 cv, .int .i64 ce, .int .i64 ca, .int .i64 cn, .int .i64 c1, .int .i64 c2, .int .i64 c3] 56 from hw2 ▸ HY1.out.drew)
  have HK2 := Lib.hid (show Kept S w w2 from hw2 ▸ HK1.out.drew)
  rw [hw2]
  clear hw2 k4 k5
  have kv : w2.cell? ⟨g, 1, none⟩ = some va := HV2.out.blk.cell 1 rfl
  have y0 : w2.cell? ⟨Y, 0, none⟩ = some (.int .i64 ck) := HY2.out.cell 0 rfl
  have y1 : w2.cell? ⟨Y, 1, none⟩ = some (.int .i64 cv) := HY2.out.cell 1 rfl
  have y2 : w2.cell? ⟨Y, 2, none⟩ = some (.int .i64 ce) := HY2.out.cell 2 rfl
  have y3 : w2.cell? ⟨Y, 3, none⟩ = some (.int .i64 ca) := HY2.out.cell 3 rfl
  have y4 : w2.cell? ⟨Y, 4, none⟩ = some (.int .i64 cn) := HY2.out.cell 4 rfl
  have y5 : w2.cell? ⟨Y, 5, none⟩ = some (.int .i64 c1) := HY2.out.cell 5 rfl
  have y6 : w2.cell? ⟨Y, 6, none⟩ = some (.int .i64 c2) := HY2.out.cell 6 rfl
  have y7 : w2.cell? ⟨Y, 7, none⟩ = some (.int .i64 c3) := HY2.out.cell 7 rfl
  refine AnyE.start (S := (fun wx => wx.cell? ⟨g, 1, none⟩ = some va ∧ wx.cell? ⟨Y, 0, none⟩ = some (.int .i64 ck) ∧ wx.cell? ⟨Y, 1, none⟩ = some (.int .i64 cv) ∧ wx.cell? ⟨Y, 2, none⟩ = some (.int .i64 ce) ∧ wx.cell? ⟨Y, 3, none⟩ = some (.int .i64 ca) ∧ wx.cell? ⟨Y, 4, none⟩ = some (.int .i64 cn) ∧ wx.cell? ⟨Y, 5, none⟩ = some (.int .i64 c1) ∧ wx.cell? ⟨Y, 6, none⟩ = some (.int .i64 c2) ∧ wx.cell? ⟨Y, 7, none⟩ = some (.int .i64 c3))) 10 (by kernel_rfl) (⟨kv, y0, y1, y2, y3, y4, y5, y6, y7⟩) (fun hHeld => ?_)
  obtain ⟨w3, hw3⟩ : ∃ w3, w2.drew = w3 := ⟨_, rfl⟩
  have HV3 := Lib.hid (show TwV w3 B g S va vb ⟨a, b, true, true, false, tm, st⟩ from hw3 ▸ HV2.out.drewN 1)
  have HY3 := Lib.hid (show Blk w3 Y #[.int .i64 ck, .int .i64 cv, .int .i64 ce, .int .i64 ca, .int .i64 cn, .int .i64 c1, .int .i64 c2, .int .i64 c3] 56 from hw3 ▸ HY2.out.drew)
  have HK3 := Lib.hid (show Kept S w w3 from hw3 ▸ HK2.out.drew)
  have HZ3 := Lib.hid (show w.heap.size ≤ w3.heap.size from HK3.out.size)
  rw [hw3] at hHeld
  rw [hw3]
  clear hw3 kv y0 y1 y2 y3 y4 y5 y6 y7
  refine AnyE.take (i := 0) (v := ?_) rfl (by kernel_rfl) (by kernel_rfl) (by kernel_rfl) (by kernel_rfl) (fun _ _ _ h => h) (Or.inl ⟨by rfl, ?_⟩) (by assumption) ?_
  rotate_left 1
  · intro w hSw
    (try dsimp only at hSw)
    go_simp
    all_goals (with_reducible rfl)
  try simp only [Act.put, List.getElem_toArray, List.getElem_cons_zero, List.getElem_cons_succ, List.setIfInBounds_toArray, List.set_cons_zero, List.set_cons_succ]
  refine AnyE.take (i := 1) (v := ?_) rfl (by kernel_rfl) (by kernel_rfl) (by kernel_rfl) (by kernel_rfl) (fun _ _ _ h => h) (Or.inl ⟨by rfl, ?_⟩) (by assumption) ?_
  rotate_left 1
  · intro w hSw
    (try dsimp only at hSw)
    go_simp
    all_goals (with_reducible rfl)
  try simp only [Act.put, List.getElem_toArray, List.getElem_cons_zero, List.getElem_cons_succ, List.setIfInBounds_toArray, List.set_cons_zero, List.set_cons_succ]
  refine AnyE.take (i := 2) (v := ?_) rfl (by kernel_rfl) (by kernel_rfl) (by kernel_rfl) (by kernel_rfl) (fun _ _ _ h => h) (Or.inl ⟨by rfl, ?_⟩) (by assumption) ?_
  rotate_left 1
  · intro w hSw
    (try dsimp only at hSw)
    go_simp
    all_goals (with_reducible rfl)
  try simp only [Act.put, List.getElem_toArray, List.getElem_cons_zero, List.getElem_cons_succ, List.setIfInBounds_toArray, List.set_cons_zero, List.set_cons_succ]
  refine AnyE.take (i := 3) (v := ?_) rfl (by kernel_rfl) (by kernel_rfl) (by kernel_rfl) (by kernel_rfl) (fun _ _ _ h => h) (Or.inl ⟨by rfl, ?_⟩) (by assumption) ?_
  rotate_left 1
  · intro w hSw
    (try dsimp only at hSw)
    go_simp
    all_goals (with_reducible rfl)
  try simp only [Act.put, List.getElem_toArray, List.getElem_cons_zero, List.getElem_cons_succ, List.setIfInBounds_toArray, List.set_cons_zero, List.set_cons_succ]
  refine AnyE.take (i := 4) (v := ?_) rfl (by kernel_rfl) (by kernel_rfl) (by kernel_rfl) (by kernel_rfl) (fun _ _ _ h => h) (Or.inl ⟨by rfl, ?_⟩) (by assumption) ?_
  rotate_left 1
  · intro w hSw
    (try dsimp only at hSw)
    go_simp
    all_goals (with_reducible rfl)
  try simp only [Act.put, List.getElem_toArray, List.getElem_cons_zero, List.getElem_cons_succ, List.setIfInBounds_toArray, List.set_cons_zero, List.set_cons_succ]
  refine AnyE.take (i := 5) (v := ?_) rfl (by kernel_rfl) (by kernel_rfl) (by kernel_rfl) (by kernel_rfl) (fun _ _ _ h => h) (Or.inl ⟨by rfl, ?_⟩) (by assumption) ?_
  rotate_left 1
  · intro w hSw
    (try dsimp only at hSw)
    go_simp
    all_goals (with_reducible rfl)
  try simp only [Act.put, List.getElem_toArray, List.getElem_cons_zero, List.getElem_cons_succ, List.setIfInBounds_toArray, List.set_cons_zero, List.set_cons_succ]
  have HG3 := Lib.hid HV3.out.blk
  refine AnyE.next (rs := [6]) (by kernel_rfl) (by simp) ?_
  refine AllE.cons rfl (fun K hK => ?_) AllE.nil
  go_simp
  have HX4 := Lib.hid (show IsX (w3.alloc (.cells #[.int .i64 ck, .int .i64 cv, .int .i64 ce, .int .i64 ca, .int .i64 cn, .int .i64 c1, .int .i64 c2, .int .i64 c3] 56)) 8 (.slice (some ⟨w3.heap.size, 0, none⟩) 1 1) 1 [.int .i64 ck, .int .i64 cv, .int .i64 ce, .int .i64 ca, .int .i64 cn, .int .i64 c1, .int .i64 c2, .int .i64 c3] from IsX.lit w3 #[.int .i64 ck, .int .i64 cv, .int .i64 ce, .int .i64 ca, .int .i64 cn, .int .i64 c1, .int .i64 c2, .int .i64 c3] 56 8 1 rfl (by decide))
  have HV4 := Lib.hid (HV3.out.below (below_new19 w3 (.cells #[.int .i64 ck, .int .i64 cv, .int .i64 ce, .int .i64 ca, .int .i64 cn, .int .i64 c1, .int .i64 c2, .int .i64 c3] 56)))
  have HG4 := Lib.hid HV4.out.blk
  have HY4 := Lib.hid (HY3.out.alloc (.cells #[.int .i64 ck, .int .i64 cv, .int .i64 ce, .int .i64 ca, .int .i64 cn, .int .i64 c1, .int .i64 c2, .int .i64 c3] 56))
  have HK4 := Lib.hid (HK3.out.alloc (.cells #[.int .i64 ck, .int .i64 cv, .int .i64 ce, .int .i64 ca, .int .i64 cn, .int .i64 c1, .int .i64 c2, .int .i64 c3] 56))
  have HS4 := Lib.hid (show B ≤ (w3.alloc (.cells #[.int .i64 ck, .int .i64 cv, .int .i64 ce, .int .i64 ca, .int .i64 cn, .int .i64 c1, .int .i64 c2, .int .i64 c3] 56)).heap.size from Nat.le_of_lt (Nat.lt_of_le_of_lt (HV4.out.lt g HV4.out.sg).1 (HV4.out.lt g HV4.out.sg).2))
  refine hK.out _ _ (⟨HG4.out.cell 1 rfl, HY4.out.cell 0 rfl, HY4.out.cell 1 rfl, HY4.out.cell 2 rfl, HY4.out.cell 3 rfl, HY4.out.cell 4 rfl, HY4.out.cell 5 rfl, HY4.out.cell 6 rfl, HY4.out.cell 7 rfl⟩) (fun hHeld => ?_)
  clear hK K
  try simp only [Act.put, List.getElem_toArray, List.getElem_cons_zero, List.getElem_cons_succ, List.setIfInBounds_toArray, List.set_cons_zero, List.set_cons_succ]
  refine AnyE.next (rs := [7]) (by kernel_rfl) (by simp) ?_
  refine AllE.cons rfl (fun K hK => ?_) AllE.nil
  have HR4 := Lib.hid (by have h := HV4.out.ra; rw [HN.out] at h; exact h)
  refine step_append_X (by rfl) _ _ 63 rfl B 56 i0 _ 8 64 Try.underlying63 HI0.out HZ0.out HZ1.out HZ2.out rfl (by decide) _ (row ccl a) N rfl HR4.out _ 1 _ rfl HX4.out (cells_cmd ⟨ck, cv, ce, ca, cn, c1, c2, c3⟩) (by unfold maxLen; omega) (by omega) HS4.out ?_
  intro v5 w5 hown5 hgr5 hl5
  obtain ⟨x5, cp5, rfl, _, _⟩ := ownsRow_slice hown5
  have HG5 := Lib.hid (HG4.out.grown hgr5 HV4.out.na)
  have HY5 := Lib.hid (HY4.out.grown hgr5 HNY.out)
  have HK5 := Lib.hid ((Kept.refl (fun k => va.ownBlock = some k) _).grown hgr5 (fun k e => .inl e))
  have HL5 := Lib.hid (HV4.out.logA (l := a ++ [⟨ck, cv, ce, ca, cn, c1, c2, c3⟩]) (by rw [row_append, row_one, List.length_append, List.length_singleton, HN.out]; exact hown5) HK5.out (hl5.elim .inl (fun e => .inr (fun k e2 => by have := Option.some.inj (e.symm.trans e2); omega))))
  have HO5 := Lib.hid hown5
  have z5 := HG5.out.free 1
  have zz5 := HG5.out.cell 1 rfl
  clear hown5 hgr5 hl5
  refine hK.out _ _ (⟨HG5.out.cell 1 rfl, HY5.out.cell 0 rfl, HY5.out.cell 1 rfl, HY5.out.cell 2 rfl, HY5.out.cell 3 rfl, HY5.out.cell 4 rfl, HY5.out.cell 5 rfl, HY5.out.cell 6 rfl, HY5.out.cell 7 rfl⟩) (fun hHeld => ?_)
  clear hK K
  try simp only [Act.put, List.getElem_toArray, List.getElem_cons_zero, List.getElem_cons_succ, List.setIfInBounds_toArray, List.set_cons_zero, List.set_cons_succ]
  refine AnyE.next (rs := [8]) (by kernel_rfl) (by simp) ?_
  refine AllE.cons rfl (fun K hK => ?_) AllE.nil
  go_simp
  refine hK.out _ _ (⟨HG5.out.cell 1 rfl, HY5.out.cell 0 rfl, HY5.out.cell 1 rfl, HY5.out.cell 2 rfl, HY5.out.cell 3 rfl, HY5.out.cell 4 rfl, HY5.out.cell 5 rfl, HY5.out.cell 6 rfl, HY5.out.cell 7 rfl⟩) (fun hHeld => ?_)
  clear hK K
  try simp only [Act.put, List.getElem_toArray, List.getElem_cons_zero, List.getElem_cons_succ, List.setIfInBounds_toArray, List.set_cons_zero, List.set_cons_succ]
  refine AnyE.take (i := 9) (v := ?_) rfl (by kernel_rfl) (by kernel_rfl) (by kernel_rfl) (by kernel_rfl) (fun _ _ _ h => h) (Or.inl ⟨by rfl, ?_⟩) (by assumption) ?_
  rotate_left 1
  · intro w hSw
    (try dsimp only at hSw)
    go_simp
    all_goals (with_reducible rfl)
  try simp only [Act.put, List.getElem_toArray, List.getElem_cons_zero, List.getElem_cons_succ, List.setIfInBounds_toArray, List.set_cons_zero, List.set_cons_succ]
  refine AnyE.next (rs := [10]) (by kernel_rfl) (by simp) ?_
  refine AllE.last rfl (fun K hK => ?_)
  go_simp
  refine hK.out _ _ ?_
  clear hK K
  try simp only [Act.put, List.getElem_toArray, List.getElem_cons_zero, List.getElem_cons_succ, List.setIfInBounds_toArray, List.set_cons_zero, List.set_cons_succ]
  refine AnyE.done (by kernel_rfl) ?_ _
  obtain ⟨h6, h7, h8⟩ := HL5.out
  obtain ⟨w6, hw6⟩ : ∃ w6, w5.setCell ⟨g, 1, none⟩ (.slice x5 (N + 1) cp5) = w6 := ⟨_, rfl⟩
  rw [hw6] at h6 h8 ⊢
  have HV6 := Lib.hid h6
  have HS6 := Lib.hid (fun k hk => (h7 k hk).imp id (fun h => Nat.le_trans HK4.out.size h))
  have HK6 := Lib.hid (HK4.out.trans h8 (fun j e _ => e))
  have hw9 : wrap64 ((N : Int) + 1 - 1) = (N : Int) := by rw [IntWalk.wrap64_in _ (by omega)]; omega
  clear h6 h7 h8 hw6 z5 zz5
  have k6 : w6.cell? ⟨g, 1, none⟩ = some (.slice x5 (N + 1) cp5) := HV6.out.blk.cell 1 rfl
  go_wp2
  go_ret2
  exact ⟨by rw [HN.out]; rfl, ⟨_, _, _, HV6.out, HS6.out, HK6.out⟩⟩
set_option maxRecDepth 100000 in
set_option maxHeartbeats 4000000 in
theorem task_ok0f (w : World) (B g : Nat) (S : Nat → Prop) (a b : List Cm) (tm st : Nat) (c : Cm) (h : Tw w B g S ⟨a, b, true, false, false, tm, st⟩) (hl : a.length ≤ 1000) :
    Calls Try.prog 21 #[pp g, .int .i64 (tm : Int), cval c] w fun e w' => e = .returned (.tuple #[.int .i64 (a.length : Int), .nilIface]) ∧ TwG w B g S ⟨(a ++ [c]), b, true, false, false, tm, (a.length + 1)⟩ w' := by
  obtain ⟨_, va, vb, h⟩ := h
  obtain ⟨i0, hi0, hz0, hz1, hz2⟩ := info_parts Try.infoCmdT
  have HI0 := Lib.hid hi0
  have HZ0 := Lib.hid hz0
  have HZ1 := Lib.hid hz1
  have HZ2 := Lib.hid hz2
  clear hi0 hz0 hz1 hz2
  obtain ⟨ck, cv, ce, ca, cn, c1, c2, c3⟩ := c
  obtain ⟨Y, hY⟩ : ∃ Y, w.heap.size = Y := ⟨_, rfl⟩
  obtain ⟨w1, hw1⟩ : ∃ w1, w.alloc (.cells #[.int .i64 ck, .int .i64 cv, .int .i64 ce, .int .i64 ca, .int .i64 cn, .int .i64 c1, .int .i64 c2, .int .i64 c3] 56) = w1 := ⟨_, rfl⟩
  have HV1 := Lib.hid (show TwV w1 B g S va vb ⟨a, b, true, false, false, tm, st⟩ from hw1 ▸ h.below (below_new19 w (.cells #[.int .i64 ck, .int .i64 cv, .int .i64 ce, .int .i64 ca, .int .i64 cn, .int .i64 c1, .int .i64 c2, .int .i64 c3] 56)))
  have HY1 := Lib.hid (show Blk w1 Y #[.int .i64 ck, .int .i64 cv, .int .i64 ce, .int .i64 ca, .int .i64 cn, .int .i64 c1, .int .i64 c2, .int .i64 c3] 56 from hw1 ▸ hY ▸ Blk.new w #[.int .i64 ck, .int .i64 cv, .int .i64 ce, .int .i64 ca, .int .i64 cn, .int .i64 c1, .int .i64 c2, .int .i64 c3] 56)
  have HK1 := Lib.hid (show Kept S w w1 from hw1 ▸ (Kept.refl S w).alloc (.cells #[.int .i64 ck, .int .i64 cv, .int .i64 ce, .int .i64 ca, .int .i64 cn, .int .i64 c1, .int .i64 c2, .int .i64 c3] 56))
  have HNY := Lib.hid (show va.ownBlock ≠ some Y from fun e => by have := (h.lt Y (h.sv Y (.inl e))).2; omega)
  have HW1 := Lib.hid hw1
  have HYe := Lib.hid hY
  obtain ⟨N, hN⟩ : ∃ N, a.length = N := ⟨_, rfl⟩
  rw [hN] at hl
  have HN := Lib.hid hN
  have k4 : (w.alloc (.cells #[.int .i64 ck, .int .i64 cv, .int .i64 ce, .int .i64 ca, .int .i64 cn, .int .i64 c1, .int .i64 c2, .int .i64 c3] 56)).cell? ⟨g, 4, none⟩ = some (.int .i64 0) := by rw [hw1]; exact HV1.out.blk.cell 4 rfl
  clear h hN hw1 hY
  unfold cval
  go_enter Try.func21, Try.ntmps21
  go_wp2_with fail
  rw [HW1.out]
  refine (tdoes w1 g va vb ⟨a, b, true, false, false, tm, st⟩ false HV1.out.blk).mono ?_
  rw [show doesN ⟨a, b, true, false, false, tm, st⟩ false = 3 from rfl]
  rintro e w2 ⟨rfl, rfl⟩
  rw [HYe.out]
  clear k4
  have k4 : w1.cell? ⟨g, 4, none⟩ = some (.int .i64 0) := HV1.out.blk.cell 4 rfl
  have k5 : w1.cell? ⟨g, 5, none⟩ = some (.int .i64 (tm : Int)) := HV1.out.blk.cell 5 rfl
  go_wp2_with fail
  go_region
  go_wp2_with fail
  obtain ⟨w2, hw2⟩ : ∃ w2, w1.drew = w2 := ⟨_, rfl⟩
  have HV2 := Lib.hid (show TwV w2 B g S va vb ⟨a, b, true, false, false, tm, st⟩ from hw2 ▸ HV1.out.drewN 1)
  have HY2 := Lib.hid (show Blk w2 Y #[.int .i64 ck, .int .i64 cv, .int .i64 ce, .int .i64 ca, .int .i64 cn, .int .i64 c1, .int .i64 c2, .int .i64 c3] 56 from hw2 ▸ HY1.out.drew)
  have HK2 := Lib.hid (show Kept S w w2 from hw2 ▸ HK1.out.drew)
  rw [hw2]
  clear hw2 k4 k5
  have kv : w2.cell? ⟨g, 1, none⟩ = some va := HV2.out.blk.cell 1 rfl
  have y0 : w2.cell? ⟨Y, 0, none⟩ = some (.int .i64 ck) := HY2.out.cell 0 rfl
  have y1 : w2.cell? ⟨Y, 1, none⟩ = some (.int .i64 cv) := HY2.out.cell 1 rfl
  have y2 : w2.cell? ⟨Y, 2, none⟩ = some (.int .i64 ce) := HY2.out.cell 2 rfl
  have y3 : w2.cell? ⟨Y, 3, none⟩ = some (.int .i64 ca) := HY2.out.cell 3 rfl
  have y4 : w2.cell? ⟨Y, 4, none⟩ = some (.int .i64 cn) := HY2.out.cell 4 rfl
  have y5 : w2.cell? ⟨Y, 5, none⟩ = some (.int .i64 c1) := HY2.out.cell 5 rfl
  have y6 : w2.cell? ⟨Y, 6, none⟩ = some (.int .i64 c2) := HY2.out.cell 6 rfl
  have y7 : w2.cell? ⟨Y, 7, none⟩ = some (.int .i64 c3) := HY2.out.cell 7 rfl
  refine AnyE.start (S := (fun wx => wx.cell? ⟨g, 1, none⟩ = some va ∧ wx.cell? ⟨Y, 0, none⟩ = some (.int .i64 ck) ∧ wx.cell? ⟨Y, 1, none⟩ = some (.int .i64 cv) ∧ wx.cell? ⟨Y, 2, none⟩ = some (.int .i64 ce) ∧ wx.cell? ⟨Y, 3, none⟩ = some (.int .i64 ca) ∧ wx.cell? ⟨Y, 4, none⟩ = some (.int .i64 cn) ∧ wx.cell? ⟨Y, 5, none⟩ = some (.int .i64 c1) ∧ wx.cell? ⟨Y, 6, none⟩ = some (.int .i64 c2) ∧ wx.cell? ⟨Y, 7, none⟩ = some (.int .i64 c3))) 10 (by kernel_rfl) (⟨kv, y0, y1, y2, y3, y4, y5, y6, y7⟩) (fun hHeld => ?_)
  obtain ⟨w3, hw3⟩ : ∃ w3, w2.drew = w3 := ⟨_, rfl⟩
  have HV3 := Lib.hid (show TwV w3 B g S va vb ⟨a, b, true, false, false, tm, st⟩ from hw3 ▸ HV2.out.drewN 1)
  have HY3 := Lib.hid (show Blk w3 Y #[.int .i64 ck, .int .i64 cv, .int .i64 ce, .int .i64 ca, .int .i64 cn, .int .i64 c1, .int .i64 c2, .int .i64 c3] 56 from hw3 ▸ HY2.out.drew)
  have HK3 := Lib.hid (show Kept S w w3 from hw3 ▸ HK2.out.drew)
  have HZ3 := Lib.hid (show w.heap.size ≤ w3.heap.size from HK3.out.size)
  rw [hw3] at hHeld
  rw [hw3]
  clear hw3 kv y0 y1 y2 y3 y4 y5 y6 y7
  refine AnyE.take (i := 0) (v := ?_) rfl (by kernel_rfl) (by kernel_rfl) (by kernel_rfl) (by kernel_rfl) (fun _ _ _ h => h) (Or.inl ⟨by rfl, ?_⟩) (by assumption) ?_
  rotate_left 1
  · intro w hSw
    (try dsimp only at hSw)
    go_simp
    all_goals (with_reducible rfl)
  try simp only [Act.put, List.getElem_toArray, List.getElem_cons_zero, List.getElem_cons_succ, List.setIfInBounds_toArray, List.set_cons_zero, List.set_cons_succ]
  refine AnyE.take (i := 1) (v := ?_) rfl (by kernel_rfl) (by kernel_rfl) (by kernel_rfl) (by kernel_rfl) (fun _ _ _ h => h) (Or.inl ⟨by rfl, ?_⟩) (by assumption) ?_
  rotate_left 1
  · intro w hSw
    (try dsimp only at hSw)
    go_simp
    all_goals (with_reducible rfl)
  try simp only [Act.put, List.getElem_toArray, List.getElem_cons_zero, List.getElem_cons_succ, List.setIfInBounds_toArray, List.set_cons_zero, List.set_cons_succ]
  refine AnyE.take (i := 2) (v := ?_) rfl (by kernel_rfl) (by kernel_rfl) (by kernel_rfl) (by kernel_rfl) (fun _ _ _ h => h) (Or.inl ⟨by rfl, ?_⟩) (by assumption) ?_
  rotate_left 1
  · intro w hSw
    (try dsimp only at hSw)
    go_simp
    all_goals (with_reducible rfl)
  try simp only [Act.put, List.getElem_toArray, List.getElem_cons_zero, List.getElem_cons_succ, List.setIfInBounds_toArray, List.set_cons_zero, List.set_cons_succ]
  refine AnyE.take (i := 3) (v := ?_) rfl (by kernel_rfl) (by kernel_rfl) (by kernel_rfl) (by kernel_rfl) (fun _ _ _ h => h) (Or.inl ⟨by rfl, ?_⟩) (by assumption) ?_
  rotate_left 1
  · intro w hSw
    (try dsimp only at hSw)
    go_simp
    all_goals (with_reducible rfl)
  try simp only [Act.put, List.getElem_toArray, List.getElem_cons_zero, List.getElem_cons_succ, List.setIfInBounds_toArray, List.set_cons_zero, List.set_cons_succ]
  refine AnyE.take (i := 4) (v := ?_) rfl (by kernel_rfl) (by kernel_rfl) (by kernel_rfl) (by kernel_rfl) (fun _ _ _ h => h) (Or.inl ⟨by rfl, ?_⟩) (by assumption) ?_
  rotate_left 1
  · intro w hSw
    (try dsimp only at hSw)
    go_simp
    all_goals (with_reducible rfl)
  try simp only [Act.put, List.getElem_toArray, List.getElem_cons_zero, List.getElem_cons_succ, List.setIfInBounds_toArray, List.set_cons_zero, List.set_cons_succ]
  refine AnyE.take (i := 5) (v := ?_) rfl (by kernel_rfl) (by kernel_rfl) (by kernel_rfl) (by kernel_rfl) (fun _ _ _ h => h) (Or.inl ⟨by rfl, ?_⟩) (by assumption) ?_
  rotate_left 1
  · intro w hSw
    (try dsimp only at hSw)
    go_simp
    all_goals (with_reducible rfl)
  try simp only [Act.put, List.getElem_toArray, List.getElem_cons_zero, List.getElem_cons_succ, List.setIfInBounds_toArray, List.set_cons_zero, List.set_cons_succ]
  have HG3 := Lib.hid HV3.out.blk
  refine AnyE.next (rs := [6]) (by kernel_rfl) (by simp) ?_
  refine AllE.cons rfl (fun K hK => ?_) AllE.nil
  go_simp
  have HX4 := Lib.hid (show IsX (w3.alloc (.cells #[.int .i64 ck, .int .i64 cv, .int .i64 ce, .int .i64 ca, .int .i64 cn, .int .i64 c1, .int .i64 c2, .int .i64 c3] 56)) 8 (.slice (some ⟨w3.heap.size, 0, none⟩) 1 1) 1 [.int .i64 ck, .int .i64 cv, .int .i64 ce, .int .i64 ca, .int .i64 cn, .int .i64 c1, .int .i64 c2, .int .i64 c3] from IsX.lit w3 #[.int .i64 ck, .int .i64 cv, .int .i64 ce, .int .i64 ca, .int .i64 cn, .int .i64 c1, .int .i64 c2, .int .i64 c3] 56 8 1 rfl (by decide))
  have HV4 := Lib.hid (HV3.out.below (below_new19 w3 (.cells #[.int .i64 ck, .int .i64 cv, .int .i64 ce, .int .i64 ca, .int .i64 cn, .int .i64 c1, .int .i64 c2, .int .i64 c3] 56)))
  have HG4 := Lib.hid HV4.out.blk
  have HY4 := Lib.hid (HY3.out.alloc (.cells #[.int .i64 ck, .int .i64 cv, .int .i64 ce, .int .i64 ca, .int .i64 cn, .int .i64 c1, .int .i64 c2, .int .i64 c3] 56))
  have HK4 := Lib.hid (HK3.out.alloc (.cells #[.int .i64 ck, .int .i64 cv, .int .i64 ce, .int .i64 ca, .int .i64 cn, .int .i64 c1, .int .i64 c2, .int .i64 c3] 56))
  have HS4 := Lib.hid (show B ≤ (w3.alloc (.cells #[.int .i64 ck, .int .i64 cv, .int .i64 ce, .int .i64 ca, .int .i64 cn, .int .i64 c1, .int .i64 c2, .int .i64 c3] 56)).heap.size from Nat.le_of_lt (Nat.lt_of_le_of_lt (HV4.out.lt g HV4.out.sg).1 (HV4.out.lt g HV4.out.sg).2))
  refine hK.out _ _ (⟨HG4.out.cell 1 rfl, HY4.out.cell 0 rfl, HY4.out.cell 1 rfl, HY4.out.cell 2 rfl, HY4.out.cell 3 rfl, HY4.out.cell 4 rfl, HY4.out.cell 5 rfl, HY4.out.cell 6 rfl, HY4.out.cell 7 rfl⟩) (fun hHeld => ?_)
  clear hK K
  try simp only [Act.put, List.getElem_toArray, List.getElem_cons_zero, List.getElem_cons_succ, List.setIfInBounds_toArray, List.set_cons_zero, List.set_cons_succ]
  refine AnyE.next (rs := [7]) (by kernel_rfl) (by simp) ?_
  refine AllE.cons rfl (fun K hK => ?_) AllE.nil
  have HR4 := Lib.hid (by have h := HV4.out.ra; rw [HN.out] at h; exact h)
  refine step_append_X (by rfl) _ _ 63 rfl B 56 i0 _ 8 64 Try.underlying63 HI0.out HZ0.out HZ1.out HZ2.out rfl (by decide) _ (row ccl a) N rfl HR4.out _ 1 _ rfl HX4.out (cells_cmd ⟨ck, cv, ce, ca, cn, c1, c2, c3⟩) (by unfold maxLen; omega) (by omega) HS4.out ?_
  intro v5 w5 hown5 hgr5 hl5
  obtain ⟨x5, cp5, rfl, _, _⟩ := ownsRow_slice hown5
  have HG5 := Lib.hid (HG4.out.grown hgr5 HV4.out.na)
  have HY5 := Lib.hid (HY4.out.grown hgr5 HNY.out)
  have HK5 := Lib.hid ((Kept.refl (fun k => va.ownBlock = some k) _).grown hgr5 (fun k e => .inl e))
  have HL5 := Lib.hid (HV4.out.logA (l := a ++ [⟨ck, cv, ce, ca, cn, c1, c2, c3⟩]) (by rw [row_append, row_one, List.length_append, List.length_singleton, HN.out]; exact hown5) HK5.out (hl5.elim .inl (fun e => .inr (fun k e2 => by have := Option.some.inj (e.symm.trans e2); omega))))
  have HO5 := Lib.hid hown5
  have z5 := HG5.out.free 1
  have zz5 := HG5.out.cell 1 rfl
  clear hown5 hgr5 hl5
  refine hK.out _ _ (⟨HG5.out.cell 1 rfl, HY5.out.cell 0 rfl, HY5.out.cell 1 rfl, HY5.out.cell 2 rfl, HY5.out.cell 3 rfl, HY5.out.cell 4 rfl, HY5.out.cell 5 rfl, HY5.out.cell 6 rfl, HY5.out.cell 7 rfl⟩) (fun hHeld => ?_)
  clear hK K
  try simp only [Act.put, List.getElem_toArray, List.getElem_cons_zero, List.getElem_cons_succ, List.setIfInBounds_toArray, List.set_cons_zero, List.set_cons_succ]
  refine AnyE.next (rs := [8]) (by kernel_rfl) (by simp) ?_
  refine AllE.cons rfl (fun K hK => ?_) AllE.nil
  go_simp
  refine hK.out _ _ (⟨HG5.out.cell 1 rfl, HY5.out.cell 0 rfl, HY5.out.cell 1 rfl, HY5.out.cell 2 rfl, HY5.out.cell 3 rfl, HY5.out.cell 4 rfl, HY5.out.cell 5 rfl, HY5.out.cell 6 rfl, HY5.out.cell 7 rfl⟩) (fun hHeld => ?_)
  clear hK K
  try simp only [Act.put, List.getElem_toArray, List.getElem_cons_zero, List.getElem_cons_succ, List.setIfInBounds_toArray, List.set_cons_zero, List.set_cons_succ]
  refine AnyE.take (i := 9) (v := ?_) rfl (by kernel_rfl) (by kernel_rfl) (by kernel_rfl) (by kernel_rfl) (fun _ _ _ h => h) (Or.inl ⟨by rfl, ?_⟩) (by assumption) ?_
  rotate_left 1
  · intro w hSw
    (try dsimp only at hSw)
    go_simp
    all_goals (with_reducible rfl)
  try simp only [Act.put, List.getElem_toArray, List.getElem_cons_zero, List.getElem_cons_succ, List.setIfInBounds_toArray, List.set_cons_zero, List.set_cons_succ]
  refine AnyE.next (rs := [10]) (by kernel_rfl) (by simp) ?_
  refine AllE.last rfl (fun K hK => ?_)
  go_simp
  refine hK.out _ _ ?_
  clear hK K
  try simp only [Act.put, List.getElem_toArray, List.getElem_cons_zero, List.getElem_cons_succ, List.setIfInBounds_toArray, List.set_cons_zero, List.set_cons_succ]
  refine AnyE.done (by kernel_rfl) ?_ _
  obtain ⟨h6, h7, h8⟩ := HL5.out
  obtain ⟨w6, hw6⟩ : ∃ w6, w5.setCell ⟨g, 1, none⟩ (.slice x5 (N + 1) cp5) = w6 := ⟨_, rfl⟩
  rw [hw6] at h6 h8 ⊢
  have HV6 := Lib.hid h6
  have HS6 := Lib.hid (fun k hk => (h7 k hk).imp id (fun h => Nat.le_trans HK4.out.size h))
  have HK6 := Lib.hid (HK4.out.trans h8 (fun j e _ => e))
  have hw9 : wrap64 ((N : Int) + 1 - 1) = (N : Int) := by rw [IntWalk.wrap64_in _ (by omega)]; omega
  clear h6 h7 h8 hw6 z5 zz5
  have k6 : w6.cell? ⟨g, 1, none⟩ = some (.slice x5 (N + 1) cp5) := HV6.out.blk.cell 1 rfl
  go_wp2_with fail
  refine (tsettle _ B g _ _ _ _ HV6.out).mono ?_
  rintro e w8 ⟨rfl, n8, hw8⟩
  have h9 : TwV w8 B g (fun k => S k ∨ (Value.slice x5 (N + 1) cp5).ownBlock = some k) (.slice x5 (N + 1) cp5) vb ⟨(a ++ [⟨ck, cv, ce, ca, cn, c1, c2, c3⟩]), b, true, false, false, tm, (a.length + 1)⟩ := by
    rw [hw8]
    refine (HV6.out.drewN n8).set 6 _ ⟨(a ++ [⟨ck, cv, ce, ca, cn, c1, c2, c3⟩]), b, true, false, false, tm, (a.length + 1)⟩ ?_ rfl rfl
    simp [pcs, Pr.log]
  have h10 : Kept S w w8 := by
    rw [hw8]
    exact HK6.out.trans ((kept_drew20 _ w6 n8).setCell (p := ⟨g, 6, none⟩) (.inl HV6.out.sg) _) (fun j e hj => (HS6.out j e).elim id (fun h => by omega))
  have HV9 := Lib.hid h9
  have HK9 := Lib.hid h10
  clear h9 h10 hw8 k6
  have k6 : w8.cell? ⟨g, 1, none⟩ = some (.slice x5 (N + 1) cp5) := HV9.out.blk.cell 1 rfl
  go_wp2
  go_ret2
  exact ⟨by rw [HN.out]; rfl, ⟨_, _, _, HV9.out, HS6.out, HK9.out⟩⟩
set_option maxRecDepth 100000 in
set_option maxHeartbeats 4000000 in
theorem task_ok1t (w : World) (B g : Nat) (S : Nat → Prop) (a b : List Cm) (tm st : Nat) (c : Cm) (h : Tw w B g S ⟨a, b, true, true, true, tm, st⟩) (hl : b.length ≤ 1000) :
    Calls Try.prog 21 #[pp g, .int .i64 (tm : Int), cval c] w fun e w' => e = .returned (.tuple #[.int .i64 (b.length : Int), .nilIface]) ∧ TwG w B g S ⟨a, (b ++ [c]), true, true, true, tm, st⟩ w' := by
  obtain ⟨_, va, vb, h⟩ := h
  obtain ⟨i0, hi0, hz0, hz1, hz2⟩ := info_parts Try.infoCmdT
  have HI0 := Lib.hid hi0
  have HZ0 := Lib.hid hz0
  have HZ1 := Lib.hid hz1
  have HZ2 := Lib.hid hz2
  clear hi0 hz0 hz1 hz2
  obtain ⟨ck, cv, ce, ca, cn, c1, c2, c3⟩ := c
  obtain ⟨Y, hY⟩ : ∃ Y, w.heap.size = Y := ⟨_, rfl⟩
  obtain ⟨w1, hw1⟩ : ∃ w1, w.alloc (.cells #[.int .i64 ck, .int .i64 cv, .int .i64 ce, .int .i64 ca, .int .i64 cn, .int .i64 c1, .int .i64 c2, .int .i64 c3] 56) = w1 := ⟨_, rfl⟩
  have HV1 := Lib.hid (show TwV w1 B g S va vb ⟨a, b, true, true, true, tm, st⟩ from hw1 ▸ h.below (below_new19 w (.cells #[.int .i64 ck, .int .i64 cv, .int .i64 ce, .int .i64 ca, .int .i64 cn, .int .i64 c1, .int .i64 c2, .int .i64 c3] 56)))
  have HY1 := Lib.hid (show Blk w1 Y #[.int .i64 ck, .int .i64 cv, .int .i64 ce, .int .i64 ca, .int .i64 cn, .int .i64 c1, .int .i64 c2, .int .i64 c3] 56 from hw1 ▸ hY ▸ Blk.new w #[.int .i64 ck, .int .i64 cv, .int .i64 ce, .int .i64 ca, .int .i64 cn, .int .i64 c1, .int .i64 c2, .int .i64 c3] 56)
  have HK1 := Lib.hid (show Kept S w w1 from hw1 ▸ (Kept.refl S w).alloc (.cells #[.int .i64 ck, .int .i64 cv, .int .i64 ce, .int .i64 ca, .int .i64 cn, .int .i64 c1, .int .i64 c2, .int .i64 c3] 56))
  have HNY := Lib.hid (show vb.ownBlock ≠ some Y from fun e => by have := (h.lt Y (h.sv Y (.inr e))).2; omega)
  have HW1 := Lib.hid hw1
  have HYe := Lib.hid hY
  obtain ⟨N, hN⟩ : ∃ N, b.length = N := ⟨_, rfl⟩
  rw [hN] at hl
  have HN := Lib.hid hN
  have k4 : (w.alloc (.cells #[.int .i64 ck, .int .i64 cv, .int .i64 ce, .int .i64 ca, .int .i64 cn, .int .i64 c1, .int .i64 c2, .int .i64 c3] 56)).cell? ⟨g, 4, none⟩ = some (.int .i64 1) := by rw [hw1]; exact HV1.out.blk.cell 4 rfl
  clear h hN hw1 hY
  unfold cval
  go_enter Try.func21, Try.ntmps21
  go_wp2_with fail
  rw [HW1.out]
  refine (tdoes w1 g va vb ⟨a, b, true, true, true, tm, st⟩ true HV1.out.blk).mono ?_
  rw [show doesN ⟨a, b, true, true, true, tm, st⟩ true = 2 from rfl]
  rintro e w2 ⟨rfl, rfl⟩
  rw [HYe.out]
  clear k4
  have k4 : w1.cell? ⟨g, 4, none⟩ = some (.int .i64 1) := HV1.out.blk.cell 4 rfl
  have k5 : w1.cell? ⟨g, 5, none⟩ = some (.int .i64 (tm : Int)) := HV1.out.blk.cell 5 rfl
  go_wp2_with fail
  go_region
  go_wp2_with fail
  obtain ⟨w2, hw2⟩ : ∃ w2, w1.drew = w2 := ⟨_, rfl⟩
  have HV2 := Lib.hid (show TwV w2 B g S va vb ⟨a, b, true, true, true, tm, st⟩ from hw2 ▸ HV1.out.drewN 1)
  have HY2 := Lib.hid (show Blk w2 Y #[.int .i64 ck, .int .i64 cv, .int .i64 ce, .int .i64 ca, .int .i64 cn, .int .i64 c1, .int .i64 c2, .int .i64 c3] 56 from hw2 ▸ HY1.out.drew)
  have HK2 := Lib.hid (show Kept S w w2 from hw2 ▸ HK1.out.drew)
  rw [hw2]
  clear hw2 k4 k5
  have kv : w2.cell? ⟨g, 3, none⟩ = some vb := HV2.out.blk.cell 3 rfl
  have y0 : w2.cell? ⟨Y, 0, none⟩ = some (.int .i64 ck) := HY2.out.cell 0 rfl
  have y1 : w2.cell? ⟨Y, 1, none⟩ = some (.int .i64 cv) := HY2.out.cell 1 rfl
  have y2 : w2.cell? ⟨Y, 2, none⟩ = some (.int .i64 ce) := HY2.out.cell 2 rfl
  have y3 : w2.cell? ⟨Y, 3, none⟩ = some (.int .i64 ca) := HY2.out.cell 3 rfl
  have y4 : w2.cell? ⟨Y, 4, none⟩ = some (.int .i64 cn) := HY2.out.cell 4 rfl
  have y5 : w2.cell? ⟨Y, 5, none⟩ = some (.int .i64 c1) := HY2.out.cell 5 rfl
  have y6 : w2.cell? ⟨Y, 6, none⟩ = some (.int .i64 c2) := HY2.out.cell 6 rfl
  have y7 : w2.cell? ⟨Y, 7, none⟩ = some (.int .i64 c3) := HY2.out.cell 7 rfl
  refine AnyE.start (S := (fun wx => wx.cell? ⟨g, 3, none⟩ = some vb ∧ wx.cell? ⟨Y, 0, none⟩ = some (.int .i64 ck) ∧ wx.cell? ⟨Y, 1, none⟩ = some (.int .i64 cv) ∧ wx.cell? ⟨Y, 2, none⟩ = some (.int .i64 ce) ∧ wx.cell? ⟨Y, 3, none⟩ = some (.int .i64 ca) ∧ wx.cell? ⟨Y, 4, none⟩ = some (.int .i64 cn) ∧ wx.cell? ⟨Y, 5, none⟩ = some (.int .i64 c1) ∧ wx.cell? ⟨Y, 6, none⟩ = some (.int .i64 c2) ∧ wx.cell? ⟨Y, 7, none⟩ = some (.int .i64 c3))) 10 (by kernel_rfl) (⟨kv, y0, y1, y2, y3, y4, y5, y6, y7⟩) (fun hHeld => ?_)
  obtain ⟨w3, hw3⟩ : ∃ w3, w2.drew = w3 := ⟨_, rfl⟩
  have HV3 := Lib.hid (show TwV w3 B g S va vb ⟨a, b, true, true, true, tm, st⟩ from hw3 ▸ HV2.out.drewN 1)
  have HY3 := Lib.hid (show Blk w3 Y #[.int .i64 ck, .int .i64 cv, .int .i64 ce, .int .i64 ca, .int .i64 cn, .int .i64 c1, .int .i64 c2, .int .i64 c3] 56 from hw3 ▸ HY2.out.drew)
  have HK3 := Lib.hid (show Kept S w w3 from hw3 ▸ HK2.out.drew)
  have HZ3 := Lib.hid (show w.heap.size ≤ w3.heap.size from HK3.out.size)
  rw [hw3] at hHeld
  rw [hw3]
  clear hw3 kv y0 y1 y2 y3 y4 y5 y6 y7
  refine AnyE.take (i := 0) (v := ?_) rfl (by kernel_rfl) (by kernel_rfl) (by kernel_rfl) (by kernel_rfl) (fun _ _ _ h => h) (Or.inl ⟨by rfl, ?_⟩) (by assumption) ?_
  rotate_left 1
  · intro w hSw
    (try dsimp only at hSw)
    go_simp
    all_goals (with_reducible rfl)
  try simp only [Act.put, List.getElem_toArray, List.getElem_cons_zero, List.getElem_cons_succ, List.setIfInBounds_toArray, List.set_cons_zero, List.set_cons_succ]
  refine AnyE.take (i := 1) (v := ?_) rfl (by kernel_rfl) (by kernel_rfl) (by kernel_rfl) (by kernel_rfl) (fun _ _ _ h => h) (Or.inl ⟨by rfl, ?_⟩) (by assumption) ?_
  rotate_left 1
  · intro w hSw
    (try dsimp only at hSw)
    go_simp
    all_goals (with_reducible rfl)
  try simp only [Act.put, List.getElem_toArray, List.getElem_cons_zero, List.getElem_cons_succ, List.setIfInBounds_toArray, List.set_cons_zero, List.set_cons_succ]
  refine AnyE.take (i := 2) (v := ?_) rfl (by kernel_rfl) (by kernel_rfl) (by kernel_rfl) (by kernel_rfl) (fun _ _ _ h => h) (Or.inl ⟨by rfl, ?_⟩) (by assumption) ?_
  rotate_left 1
  · intro w hSw
    (try dsimp only at hSw)
    go_simp
    all_goals (with_reducible rfl)
  try simp only [Act.put, List.getElem_toArray, List.getElem_cons_zero, List.getElem_cons_succ, List.setIfInBounds_toArray, List.set_cons_zero, List.set_cons_succ]
  refine AnyE.take (i := 3) (v := ?_) rfl (by kernel_rfl) (by kernel_rfl) (by kernel_rfl) (by kernel_rfl) (fun _ _ _ h => h) (Or.inl ⟨by rfl, ?_⟩) (by assumption) ?_
  rotate_left 1
  · intro w hSw
    (try dsimp only at hSw)
    go_simp
    all_goals (with_reducible rfl)
  try simp only [Act.put, List.getElem_toArray, List.getElem_cons_zero, List.getElem_cons_succ, List.setIfInBounds_toArray, List.set_cons_zero, List.set_cons_succ]
  refine AnyE.take (i := 4) (v := ?_) rfl (by kernel_rfl) (by kernel_rfl) (by kernel_rfl) (by kernel_rfl) (fun _ _ _ h => h) (Or.inl ⟨by rfl, ?_⟩) (by assumption) ?_
  rotate_left 1
  · intro w hSw
    (try dsimp only at hSw)
    go_simp
    all_goals (with_reducible rfl)
  try simp only [Act.put, List.getElem_toArray, List.getElem_cons_zero, List.getElem_cons_succ, List.setIfInBounds_toArray, List.set_cons_zero, List.set_cons_succ]
  refine AnyE.take (i := 5) (v := ?_) rfl (by kernel_rfl) (by kernel_rfl) (by kernel_rfl) (by kernel_rfl) (fun _ _ _ h => h) (Or.inl ⟨by rfl, ?_⟩) (by assumption) ?_
  rotate_left 1
  · intro w hSw
    (try dsimp only at hSw)
    go_simp
    all_goals (with_reducible rfl)
  try simp only [Act.put, List.getElem_toArray, List.getElem_cons_zero, List.getElem_cons_succ, List.setIfInBounds_toArray, List.set_cons_zero, List.set_cons_succ]
  have HG3 := Lib.hid HV3.out.blk
  refine AnyE.next (rs := [6]) (by kernel_rfl) (by simp) ?_
  refine AllE.cons rfl (fun K hK => ?_) AllE.nil
  go_simp
  have HX4 := Lib.hid (show IsX (w3.alloc (.cells #[.int .i64 ck, .int .i64 cv, .int .i64 ce, .int .i64 ca, .int .i64 cn, .int .i64 c1, .int .i64 c2, .int .i64 c3] 56)) 8 (.slice (some ⟨w3.heap.size, 0, none⟩) 1 1) 1 [.int .i64 ck, .int .i64 cv, .int .i64 ce, .int .i64 ca, .int .i64 cn, .int .i64 c1, .int .i64 c2, .int .i64 c3] from IsX.lit w3 #[.int .i64 ck, .int .i64 cv, .int .i64 ce, .int .i64 ca, .int .i64 cn, .int .i64 c1, .int .i64 c2, .int .i64 c3] 56 8 1 rfl (by decide))
  have HV4 := Lib.hid (HV3.out.below (below_new19 w3 (.cells #[.int .i64 ck, .int .i64 cv, .int .i64 ce, .int .i64 ca, .int .i64 cn, .int .i64 c1, .int .i64 c2, .int .i64 c3] 56)))
  have HG4 := Lib.hid HV4.out.blk
  have HY4 := Lib.hid (HY3.out.alloc (.cells #[.int .i64 ck, .int .i64 cv, .int .i64 ce, .int .i64 ca, .int .i64 cn, .int .i64 c1, .int .i64 c2, .int .i64 c3] 56))
  have HK4 := Lib.hid (HK3.out.alloc (.cells #[.int .i64 ck, .int .i64 cv, .int .i64 ce, .int .i64 ca, .int .i64 cn, .int .i64 c1, .int .i64 c2, .int .i64 c3] 56))
  have HS4 := Lib.hid (show B ≤ (w3.alloc (.cells #[.int .i64 ck, .int .i64 cv, .int .i64 ce, .int .i64 ca, .int .i64 cn, .int .i64 c1, .int .i64 c2, .int .i64 c3] 56)).heap.size from Nat.le_of_lt (Nat.lt_of_le_of_lt (HV4.out.lt g HV4.out.sg).1 (HV4.out.lt g HV4.out.sg).2))
  refine hK.out _ _ (⟨HG4.out.cell 3 rfl, HY4.out.cell 0 rfl, HY4.out.cell 1 rfl, HY4.out.cell 2 rfl, HY4.out.cell 3 rfl, HY4.out.cell 4 rfl, HY4.out.cell 5 rfl, HY4.out.cell 6 rfl, HY4.out.cell 7 rfl⟩) (fun hHeld => ?_)
  clear hK K
  try simp only [Act.put, List.getElem_toArray, List.getElem_cons_zero, List.getElem_cons_succ, List.setIfInBounds_toArray, List.set_cons_zero, List.set_cons_succ]
  refine AnyE.next (rs := [7]) (by kernel_rfl) (by simp) ?_
  refine AllE.cons rfl (fun K hK => ?_) AllE.nil
  have HR4 := Lib.hid (by have h := HV4.out.rb; rw [HN.out] at h; exact h)
  refine step_append_X (by rfl) _ _ 63 rfl B 56 i0 _ 8 64 Try.underlying63 HI0.out HZ0.out HZ1.out HZ2.out rfl (by decide) _ (row ccl b) N rfl HR4.out _ 1 _ rfl HX4.out (cells_cmd ⟨ck, cv, ce, ca, cn, c1, c2, c3⟩) (by unfold maxLen; omega) (by omega) HS4.out ?_
  intro v5 w5 hown5 hgr5 hl5
  obtain ⟨x5, cp5, rfl, _, _⟩ := ownsRow_slice hown5
  have HG5 := Lib.hid (HG4.out.grown hgr5 HV4.out.nb)
  have HY5 := Lib.hid (HY4.out.grown hgr5 HNY.out)
  have HK5 := Lib.hid ((Kept.refl (fun k => vb.ownBlock = some k) _).grown hgr5 (fun k e => .inl e))
  have HL5 := Lib.hid (HV4.out.logB (l := b ++ [⟨ck, cv, ce, ca, cn, c1, c2, c3⟩]) (by rw [row_append, row_one, List.length_append, List.length_singleton, HN.out]; exact hown5) HK5.out (hl5.elim .inl (fun e => .inr (fun k e2 => by have := Option.some.inj (e.symm.trans e2); omega))))
  have HO5 := Lib.hid hown5
  have z5 := HG5.out.free 3
  have zz5 := HG5.out.cell 3 rfl
  clear hown5 hgr5 hl5
  refine hK.out _ _ (⟨HG5.out.cell 3 rfl, HY5.out.cell 0 rfl, HY5.out.cell 1 rfl, HY5.out.cell 2 rfl, HY5.out.cell 3 rfl, HY5.out.cell 4 rfl, HY5.out.cell 5 rfl, HY5.out.cell 6 rfl, HY5.out.cell 7 rfl⟩) (fun hHeld => ?_)
  clear hK K
  try simp only [Act.put, List.getElem_toArray, List.getElem_cons_zero, List.getElem_cons_succ, List.setIfInBounds_toArray, List.set_cons_zero, List.set_cons_succ]
  refine AnyE.next (rs := [8]) (by kernel_rfl) (by simp) ?_
  refine AllE.cons rfl (fun K hK => ?_) AllE.nil
  go_simp
  refine hK.out _ _ (⟨HG5.out.cell 3 rfl, HY5.out.cell 0 rfl, HY5.out.cell 1 rfl, HY5.out.cell 2 rfl, HY5.out.cell 3 rfl, HY5.out.cell 4 rfl, HY5.out.cell 5 rfl, HY5.out.cell 6 rfl, HY5.out.cell 7 rfl⟩) (fun hHeld => ?_)
  clear hK K
  try simp only [Act.put, List.getElem_toArray, List.getElem_cons_zero, List.getElem_cons_succ, List.setIfInBounds_toArray, List.set_cons_zero, List.set_cons_succ]
  refine AnyE.take (i := 9) (v := ?_) rfl (by kernel_rfl) (by kernel_rfl) (by kernel_rfl) (by kernel_rfl) (fun _ _ _ h => h) (Or.inl ⟨by rfl, ?_⟩) (by assumption) ?_
  rotate_left 1
  · intro w hSw
    (try dsimp only at hSw)
    go_simp
    all_goals (with_reducible rfl)
  try simp only [Act.put, List.getElem_toArray, List.getElem_cons_zero, List.getElem_cons_succ, List.setIfInBounds_toArray, List.set_cons_zero, List.set_cons_succ]
  refine AnyE.next (rs := [10]) (by kernel_rfl) (by simp) ?_
  refine AllE.last rfl (fun K hK => ?_)
  go_simp
  refine hK.out _ _ ?_
  clear hK K
  try simp only [Act.put, List.getElem_toArray, List.getElem_cons_zero, List.getElem_cons_succ, List.setIfInBounds_toArray, List.set_cons_zero, List.set_cons_succ]
  refine AnyE.done (by kernel_rfl) ?_ _
  obtain ⟨h6, h7, h8⟩ := HL5.out
  obtain ⟨w6, hw6⟩ : ∃ w6, w5.setCell ⟨g, 3, none⟩ (.slice x5 (N + 1) cp5) = w6 := ⟨_, rfl⟩
  rw [hw6] at h6 h8 ⊢
  have HV6 := Lib.hid h6
  have HS6 := Lib.hid (fun k hk => (h7 k hk).imp id (fun h => Nat.le_trans HK4.out.size h))
  have HK6 := Lib.hid (HK4.out.trans h8 (fun j e _ => e))
  have hw9 : wrap64 ((N : Int) + 1 - 1) = (N : Int) := by rw [IntWalk.wrap64_in _ (by omega)]; omega
  clear h6 h7 h8 hw6 z5 zz5
  have k6 : w6.cell? ⟨g, 3, none⟩ = some (.slice x5 (N + 1) cp5) := HV6.out.blk.cell 3 rfl
  go_wp2
  go_ret2
  exact ⟨by rw [HN.out]; rfl, ⟨_, _, _, HV6.out, HS6.out, HK6.out⟩⟩
set_option maxRecDepth 100000 in
set_option maxHeartbeats 4000000 in
theorem task_ok1f (w : World) (B g : Nat) (S : Nat → Prop) (a b : List Cm) (tm st : Nat) (c : Cm) (h : Tw w B g S ⟨a, b, false, true, true, tm, st⟩) (hl : b.length ≤ 1000) :
    Calls Try.prog 21 #[pp g, .int .i64 (tm : Int), cval c] w fun e w' => e = .returned (.tuple #[.int .i64 (b.length : Int), .nilIface]) ∧ TwG w B g S ⟨a, (b ++ [c]), false, true, true, tm, (b.length + 1)⟩ w' := by
  obtain ⟨_, va, vb, h⟩ := h
  obtain ⟨i0, hi0, hz0, hz1, hz2⟩ := info_parts Try.infoCmdT
  have HI0 := Lib.hid hi0
  have HZ0 := Lib.hid hz0
  have HZ1 := Lib.hid hz1
  have HZ2 := Lib.hid hz2
  clear hi0 hz0 hz1 hz2
  obtain ⟨ck, cv, ce, ca, cn, c1, c2, c3⟩ := c
  obtain ⟨Y, hY⟩ : ∃ Y, w.heap.size = Y := ⟨_, rfl⟩
  obtain ⟨w1, hw1⟩ : ∃ w1, w.alloc (.cells #[.int .i64 ck, .int .i64 cv, .int .i64 ce, .int .i64 ca, .int .i64 cn, .int .i64 c1, .int .i64 c2, .int .i64 c3] 56) = w1 := ⟨_, rfl⟩
  have HV1 := Lib.hid (show TwV w1 B g S va vb ⟨a, b, false, true, true, tm, st⟩ from hw1 ▸ h.below (below_new19 w (.cells #[.int .i64 ck, .int .i64 cv, .int .i64 ce, .int .i64 ca, .int .i64 cn, .int .i64 c1, .int .i64 c2, .int .i64 c3] 56)))
  have HY1 := Lib.hid (show Blk w1 Y #[.int .i64 ck, .int .i64 cv, .int .i64 ce, .int .i64 ca, .int .i64 cn, .int .i64 c1, .int .i64 c2, .int .i64 c3] 56 from hw1 ▸ hY ▸ Blk.new w #[.int .i64 ck, .int .i64 cv, .int .i64 ce, .int .i64 ca, .int .i64 cn, .int .i64 c1, .int .i64 c2, .int .i64 c3] 56)
  have HK1 := Lib.hid (show Kept S w w1 from hw1 ▸ (Kept.refl S w).alloc (.cells #[.int .i64 ck, .int .i64 cv, .int .i64 ce, .int .i64 ca, .int .i64 cn, .int .i64 c1, .int .i64 c2, .int .i64 c3] 56))
  have HNY := Lib.hid (show vb.ownBlock ≠ some Y from fun e => by have := (h.lt Y (h.sv Y (.inr e))).2; omega)
  have HW1 := Lib.hid hw1
  have HYe := Lib.hid hY
  obtain ⟨N, hN⟩ : ∃ N, b.length = N := ⟨_, rfl⟩
  rw [hN] at hl
  have HN := Lib.hid hN
  have k4 : (w.alloc (.cells #[.int .i64 ck, .int .i64 cv, .int .i64 ce, .int .i64 ca, .int .i64 cn, .int .i64 c1, .int .i64 c2, .int .i64 c3] 56)).cell? ⟨g, 4, none⟩ = some (.int .i64 1) := by rw [hw1]; exact HV1.out.blk.cell 4 rfl
  clear h hN hw1 hY
  unfold cval
  go_enter Try.func21, Try.ntmps21
  go_wp2_with fail
  rw [HW1.out]
  refine (tdoes w1 g va vb ⟨a, b, false, true, true, tm, st⟩ true HV1.out.blk).mono ?_
  rw [show doesN ⟨a, b, false, true, true, tm, st⟩ true = 3 from rfl]
  rintro e w2 ⟨rfl, rfl⟩
  rw [HYe.out]
  clear k4
  have k4 : w1.cell? ⟨g, 4, none⟩ = some (.int .i64 1) := HV1.out.blk.cell 4 rfl
  have k5 : w1.cell? ⟨g, 5, none⟩ = some (.int .i64 (tm : Int)) := HV1.out.blk.cell 5 rfl
  go_wp2_with fail
  go_region
  go_wp2_with fail
  obtain ⟨w2, hw2⟩ : ∃ w2, w1.drew = w2 := ⟨_, rfl⟩
  have HV2 := Lib.hid (show TwV w2 B g S va vb ⟨a, b, false, true, true, tm, st⟩ from hw2 ▸ HV1.out.drewN 1)
  have HY2 := Lib.hid (show Blk w2 Y #[.int .i64 ck, .int .i64 cv, .int .i64 ce, .int .i64 ca, .int .i64 cn, .int .i64 c1, .int .i64 c2, .int .i64 c3] 56 from hw2 ▸ HY1.out.drew)
  have HK2 := Lib.hid (show Kept S w w2 from hw2 ▸ HK1.out.drew)
  rw [hw2]
  clear hw2 k4 k5
  have kv : w2.cell? ⟨g, 3, none⟩ = some vb := HV2.out.blk.cell 3 rfl
  have y0 : w2.cell? ⟨Y, 0, none⟩ = some (.int .i64 ck) := HY2.out.cell 0 rfl
  have y1 : w2.cell? ⟨Y, 1, none⟩ = some (.int .i64 cv) := HY2.out.cell 1 rfl
  have y2 : w2.cell? ⟨Y, 2, none⟩ = some (.int .i64 ce) := HY2.out.cell 2 rfl
  have y3 : w2.cell? ⟨Y, 3, none⟩ = some (.int .i64 ca) := HY2.out.cell 3 rfl
  have y4 : w2.cell? ⟨Y, 4, none⟩ = some (.int .i64 cn) := HY2.out.cell 4 rfl
  have y5 : w2.cell? ⟨Y, 5, none⟩ = some (.int .i64 c1) := HY2.out.cell 5 rfl
  have y6 : w2.cell? ⟨Y, 6, none⟩ = some (.int .i64 c2) := HY2.out.cell 6 rfl
  have y7 : w2.cell? ⟨Y, 7, none⟩ = some (.int .i64 c3) := HY2.out.cell 7 rfl
  refine AnyE.start (S := (fun wx => wx.cell? ⟨g, 3, none⟩ = some vb ∧ wx.cell? ⟨Y, 0, none⟩ = some (.int .i64 ck) ∧ wx.cell? ⟨Y, 1, none⟩ = some (.int .i64 cv) ∧ wx.cell? ⟨Y, 2, none⟩ = some (.int .i64 ce) ∧ wx.cell? ⟨Y, 3, none⟩ = some (.int .i64 ca) ∧ wx.cell? ⟨Y, 4, none⟩ = some (.int .i64 cn) ∧ wx.cell? ⟨Y, 5, none⟩ = some (.int .i64 c1) ∧ wx.cell? ⟨Y, 6, none⟩ = some (.int .i64 c2) ∧ wx.cell? ⟨Y, 7, none⟩ = some (.int .i64 c3))) 10 (by kernel_rfl) (⟨kv, y0, y1, y2, y3, y4, y5, y6, y7⟩) (fun hHeld => ?_)
  obtain ⟨w3, hw3⟩ : ∃ w3, w2.drew = w3 := ⟨_, rfl⟩
  have HV3 := Lib.hid (show TwV w3 B g S va vb ⟨a, b, false, true, true, tm, st⟩ from hw3 ▸ HV2.out.drewN 1)
  have HY3 := Lib.hid (show Blk w3 Y #[.int .i64 ck, .int .i64 cv, .int .i64 ce, .int .i64 ca, .int .i64 cn, .int .i64 c1, .int .i64 c2, .int .i64 c3] 56 from hw3 ▸ HY2.out.drew)
  have HK3 := Lib.hid (show Kept S w w3 from hw3 ▸ HK2.out.drew)
  have HZ3 := Lib.hid (show w.heap.size ≤ w3.heap.size from HK3.out.size)
  rw [hw3] at hHeld
  rw [hw3]
  clear hw3 kv y0 y1 y2 y3 y4 y5 y6 y7
  refine AnyE.take (i := 0) (v := ?_) rfl (by kernel_rfl) (by kernel_rfl) (by kernel_rfl) (by kernel_rfl) (fun _ _ _ h => h) (Or.inl ⟨by rfl, ?_⟩) (by assumption) ?_
  rotate_left 1
  · intro w hSw
    (try dsimp only at hSw)
    go_simp
    all_goals (with_reducible rfl)
  try simp only [Act.put, List.getElem_toArray, List.getElem_cons_zero, List.getElem_cons_succ, List.setIfInBounds_toArray, List.set_cons_zero, List.set_cons_succ]
  refine AnyE.take (i := 1) (v := ?_) rfl (by kernel_rfl) (by kernel_rfl) (by kernel_rfl) (by kernel_rfl) (fun _ _ _ h => h) (Or.inl ⟨by rfl, ?_⟩) (by assumption) ?_
  rotate_left 1
  · intro w hSw
    (try dsimp only at hSw)
    go_simp
    all_goals (with_reducible rfl)
  try simp only [Act.put, List.getElem_toArray, List.getElem_cons_zero, List.getElem_cons_succ, List.setIfInBounds_toArray, List.set_cons_zero, List.set_cons_succ]
  refine AnyE.take (i := 2) (v := ?_) rfl (by kernel_rfl) (by kernel_rfl) (by kernel_rfl) (by kernel_rfl) (fun _ _ _ h => h) (Or.inl ⟨by rfl, ?_⟩) (by assumption) ?_
  rotate_left 1
  · intro w hSw
    (try dsimp only at hSw)
    go_simp
    all_goals (with_reducible rfl)
  try simp only [Act.put, List.getElem_toArray, List.getElem_cons_zero, List.getElem_cons_succ, List.setIfInBounds_toArray, List.set_cons_zero, List.set_cons_succ]
  refine AnyE.take (i := 3) (v := ?_) rfl (by kernel_rfl) (by kernel_rfl) (by kernel_rfl) (by kernel_rfl) (fun _ _ _ h => h) (Or.inl ⟨by rfl, ?_⟩) (by assumption) ?_
  rotate_left 1
  · intro w hSw
    (try dsimp only at hSw)
    go_simp
    all_goals (with_reducible rfl)
  try simp only [Act.put, List.getElem_toArray, List.getElem_cons_zero, List.getElem_cons_succ, List.setIfInBounds_toArray, List.set_cons_zero, List.set_cons_succ]
  refine AnyE.take (i := 4) (v := ?_) rfl (by kernel_rfl) (by kernel_rfl) (by kernel_rfl) (by kernel_rfl) (fun _ _ _ h => h) (Or.inl ⟨by rfl, ?_⟩) (by assumption) ?_
  rotate_left 1
  · intro w hSw
    (try dsimp only at hSw)
    go_simp
    all_goals (with_reducible rfl)
  try simp only [Act.put, List.getElem_toArray, List.getElem_cons_zero, List.getElem_cons_succ, List.setIfInBounds_toArray, List.set_cons_zero, List.set_cons_succ]
  refine AnyE.take (i := 5) (v := ?_) rfl (by kernel_rfl) (by kernel_rfl) (by kernel_rfl) (by kernel_rfl) (fun _ _ _ h => h) (Or.inl ⟨by rfl, ?_⟩) (by assumption) ?_
  rotate_left 1
  · intro w hSw
    (try dsimp only at hSw)
    go_simp
    all_goals (with_reducible rfl)
  try simp only [Act.put, List.getElem_toArray, List.getElem_cons_zero, List.getElem_cons_succ, List.setIfInBounds_toArray, List.set_cons_zero, List.set_cons_succ]
  have HG3 := Lib.hid HV3.out.blk
  refine AnyE.next (rs := [6]) (by kernel_rfl) (by simp) ?_
  refine AllE.cons rfl (fun K hK => ?_) AllE.nil
  go_simp
  have HX4 := Lib.hid (show IsX (w3.alloc (.cells #[.int .i64 ck, .int .i64 cv, .int .i64 ce, .int .i64 ca, .int .i64 cn, .int .i64 c1, .int .i64 c2, .int .i64 c3] 56)) 8 (.slice (some ⟨w3.heap.size, 0, none⟩) 1 1) 1 [.int .i64 ck, .int .i64 cv, .int .i64 ce, .int .i64 ca, .int .i64 cn, .int .i64 c1, .int .i64 c2, .int .i64 c3] from IsX.lit w3 #[.int .i64 ck, .int .i64 cv, .int .i64 ce, .int .i64 ca, .int .i64 cn, .int .i64 c1, .int .i64 c2, .int .i64 c3] 56 8 1 rfl (by decide))
  have HV4 := Lib.hid (HV3.out.below (below_new19 w3 (.cells #[.int .i64 ck, .int .i64 cv, .int .i64 ce, .int .i64 ca, .int .i64 cn, .int .i64 c1, .int .i64 c2, .int .i64 c3] 56)))
  have HG4 := Lib.hid HV4.out.blk
  have HY4 := Lib.hid (HY3.out.alloc (.cells #[.int .i64 ck, .int .i64 cv, .int .i64 ce, .int .i64 ca, .int .i64 cn, .int .i64 c1, .int .i64 c2, .int .i64 c3] 56))
  have HK4 := Lib.hid (HK3.out.alloc (.cells #[.int .i64 ck, .int .i64 cv, .int .i64 ce, .int .i64 ca, .int .i64 cn, .int .i64 c1, .int .i64 c2, .int .i64 c3] 56))
  have HS4 := Lib.hid (show B ≤ (w3.alloc (.cells #[.int .i64 ck, .int .i64 cv, .int .i64 ce, .int .i64 ca, .int .i64 cn, .int .i64 c1, .int .i64 c2, .int .i64 c3] 56)).heap.size from Nat.le_of_lt (Nat.lt_of_le_of_lt (HV4.out.lt g HV4.out.sg).1 (HV4.out.lt g HV4.out.sg).2))
  refine hK.out _ _ (⟨HG4.out.cell 3 rfl, HY4.out.cell 0 rfl, HY4.out.cell 1 rfl, HY4.out.cell 2 rfl, HY4.out.cell 3 rfl, HY4.out.cell 4 rfl, HY4.out.cell 5 rfl, HY4.out.cell 6 rfl, HY4.out.cell 7 rfl⟩) (fun hHeld => ?_)
  clear hK K
  try simp only [Act.put, List.getElem_toArray, List.getElem_cons_zero, List.getElem_cons_succ, List.setIfInBounds_toArray, List.set_cons_zero, List.set_cons_succ]
  refine AnyE.next (rs := [7]) (by kernel_rfl) (by simp) ?_
  refine AllE.cons rfl (fun K hK => ?_) AllE.nil
  have HR4 := Lib.hid (by have h := HV4.out.rb; rw [HN.out] at h; exact h)
  refine step_append_X (by rfl) _ _ 63 rfl B 56 i0 _ 8 64 Try.underlying63 HI0.out HZ0.out HZ1.out HZ2.out rfl (by decide) _ (row ccl b) N rfl HR4.out _ 1 _ rfl HX4.out (cells_cmd ⟨ck, cv, ce, ca, cn, c1, c2, c3⟩) (by unfold maxLen; omega) (by omega) HS4.out ?_
  intro v5 w5 hown5 hgr5 hl5
  obtain ⟨x5, cp5, rfl, _, _⟩ := ownsRow_slice hown5
  have HG5 := Lib.hid (HG4.out.grown hgr5 HV4.out.nb)
  have HY5 := Lib.hid (HY4.out.grown hgr5 HNY.out)
  have HK5 := Lib.hid ((Kept.refl (fun k => vb.ownBlock = some k) _).grown hgr5 (fun k e => .inl e))
  have HL5 := Lib.hid (HV4.out.logB (l := b ++ [⟨ck, cv, ce, ca, cn, c1, c2, c3⟩]) (by rw [row_append, row_one, List.length_append, List.length_singleton, HN.out]; exact hown5) HK5.out (hl5.elim .inl (fun e => .inr (fun k e2 => by have := Option.some.inj (e.symm.trans e2); omega))))
  have HO5 := Lib.hid hown5
  have z5 := HG5.out.free 3
  have zz5 := HG5.out.cell 3 rfl
  clear hown5 hgr5 hl5
  refine hK.out _ _ (⟨HG5.out.cell 3 rfl, HY5.out.cell 0 rfl, HY5.out.cell 1 rfl, HY5.out.cell 2 rfl, HY5.out.cell 3 rfl, HY5.out.cell 4 rfl, HY5.out.cell 5 rfl, HY5.out.cell 6 rfl, HY5.out.cell 7 rfl⟩) (fun hHeld => ?_)
  clear hK K
  try simp only [Act.put, List.getElem_toArray, List.getElem_cons_zero, List.getElem_cons_succ, List.setIfInBounds_toArray, List.set_cons_zero, List.set_cons_succ]
  refine AnyE.next (rs := [8]) (by kernel_rfl) (by simp) ?_
  refine AllE.cons rfl (fun K hK => ?_) AllE.nil
  go_simp
  refine hK.out _ _ (⟨HG5.out.cell 3 rfl, HY5.out.cell 0 rfl, HY5.out.cell 1 rfl, HY5.out.cell 2 rfl, HY5.out.cell 3 rfl, HY5.out.cell 4 rfl, HY5.out.cell 5 rfl, HY5.out.cell 6 rfl, HY5.out.cell 7 rfl⟩) (fun hHeld => ?_)
  clear hK K
  try simp only [Act.put, List.getElem_toArray, List.getElem_cons_zero, List.getElem_cons_succ, List.setIfInBounds_toArray, List.set_cons_zero, List.set_cons_succ]
  refine AnyE.take (i := 9) (v := ?_) rfl (by kernel_rfl) (by kernel_rfl) (by kernel_rfl) (by kernel_rfl) (fun _ _ _ h => h) (Or.inl ⟨by rfl, ?_⟩) (by assumption) ?_
  rotate_left 1
  · intro w hSw
    (try dsimp only at hSw)
    go_simp
    all_goals (with_reducible rfl)
  try simp only [Act.put, List.getElem_toArray, List.getElem_cons_zero, List.getElem_cons_succ, List.setIfInBounds_toArray, List.set_cons_zero, List.set_cons_succ]
  refine AnyE.next (rs := [10]) (by kernel_rfl) (by simp) ?_
  refine AllE.last rfl (fun K hK => ?_)
  go_simp
  refine hK.out _ _ ?_
  clear hK K
  try simp only [Act.put, List.getElem_toArray, List.getElem_cons_zero, List.getElem_cons_succ, List.setIfInBounds_toArray, List.set_cons_zero, List.set_cons_succ]
  refine AnyE.done (by kernel_rfl) ?_ _
  obtain ⟨h6, h7, h8⟩ := HL5.out
  obtain ⟨w6, hw6⟩ : ∃ w6, w5.setCell ⟨g, 3, none⟩ (.slice x5 (N + 1) cp5) = w6 := ⟨_, rfl⟩
  rw [hw6] at h6 h8 ⊢
  have HV6 := Lib.hid h6
  have HS6 := Lib.hid (fun k hk => (h7 k hk).imp id (fun h => Nat.le_trans HK4.out.size h))
  have HK6 := Lib.hid (HK4.out.trans h8 (fun j e _ => e))
  have hw9 : wrap64 ((N : Int) + 1 - 1) = (N : Int) := by rw [IntWalk.wrap64_in _ (by omega)]; omega
  clear h6 h7 h8 hw6 z5 zz5
  have k6 : w6.cell? ⟨g, 3, none⟩ = some (.slice x5 (N + 1) cp5) := HV6.out.blk.cell 3 rfl
  go_wp2_with fail
  refine (tsettle _ B g _ _ _ _ HV6.out).mono ?_
  rintro e w8 ⟨rfl, n8, hw8⟩
  have h9 : TwV w8 B g (fun k => S k ∨ (Value.slice x5 (N + 1) cp5).ownBlock = some k) va (.slice x5 (N + 1) cp5) ⟨a, (b ++ [⟨ck, cv, ce, ca, cn, c1, c2, c3⟩]), false, true, true, tm, (b.length + 1)⟩ := by
    rw [hw8]
    refine (HV6.out.drewN n8).set 6 _ ⟨a, (b ++ [⟨ck, cv, ce, ca, cn, c1, c2, c3⟩]), false, true, true, tm, (b.length + 1)⟩ ?_ rfl rfl
    simp [pcs, Pr.log]
  have h10 : Kept S w w8 := by
    rw [hw8]
    exact HK6.out.trans ((kept_drew20 _ w6 n8).setCell (p := ⟨g, 6, none⟩) (.inl HV6.out.sg) _) (fun j e hj => (HS6.out j e).elim id (fun h => by omega))
  have HV9 := Lib.hid h9
  have HK9 := Lib.hid h10
  clear h9 h10 hw8 k6
  have k6 : w8.cell? ⟨g, 3, none⟩ = some (.slice x5 (N + 1) cp5) := HV9.out.blk.cell 3 rfl
  go_wp2
  go_ret2
  exact ⟨by rw [HN.out]; rfl, ⟨_, _, _, HV9.out, HS6.out, HK9.out⟩⟩
theorem task (w : World) (B g : Nat) (S : Nat → Prop) (p : Pr) (t : Int) (c : Cm) (h : Tw w B g S p) (ho : p.Ok) (hl : p.Le 1000) :
    Calls Try.prog 21 #[pp g, .int .i64 t, cval c] w fun e w' => e = .returned (.tuple #[.int .i64 (askN p t : Int), derr (askK p t)]) ∧ TwT w B g S (askP p t c) w' := by
  have hset := ask_set ho h.1 t c
  by_cases hu : p.up p.ld = true
  · by_cases ht : t = (p.tm : Int)
    · subst ht
      have hK : askK p p.tm = 0 := by unfold askK; rw [if_pos hu, if_pos rfl]
      have hN : askN p p.tm = (p.log p.ld).length := by unfold askN; rw [if_pos hK]
      have hst := ho.st
      have hll := hl.log p.ld
      rw [hK, hN, derr_zero]
      obtain ⟨a, b, u0, u1, ld, tm, st⟩ := p
      cases ld
      · obtain rfl : u0 = true := hu
        simp only [Pr.log, Bool.false_eq_true, if_false] at hst hll
        cases u1
        · have e : askP ⟨a, b, true, false, false, tm, st⟩ (tm : Int) c = ⟨a ++ [c], b, true, false, false, tm, a.length + 1⟩ := by
            simp [askP, askK, Pr.up, Pr.log, Pr.setLog, Pr.settle]
            omega
          exact (task_ok0f w B g S a b tm st c h hll).mono fun x w' hx => ⟨hx.1, (e ▸ hx.2 : TwG w B g S (askP ⟨a, b, true, false, false, tm, st⟩ (tm : Int) c) w').twT hset⟩
        · have e : askP ⟨a, b, true, true, false, tm, st⟩ (tm : Int) c = ⟨a ++ [c], b, true, true, false, tm, st⟩ := by
            simp [askP, askK, Pr.up, Pr.log, Pr.setLog, Pr.settle]
          exact (task_ok0t w B g S a b tm st c h hll).mono fun x w' hx => ⟨hx.1, (e ▸ hx.2 : TwG w B g S (askP ⟨a, b, true, true, false, tm, st⟩ (tm : Int) c) w').twT hset⟩
      · obtain rfl : u1 = true := hu
        simp only [Pr.log, if_true] at hst hll
        cases u0
        · have e : askP ⟨a, b, false, true, true, tm, st⟩ (tm : Int) c = ⟨a, b ++ [c], false, true, true, tm, b.length + 1⟩ := by
            simp [askP, askK, Pr.up, Pr.log, Pr.setLog, Pr.settle]
            omega
          exact (task_ok1f w B g S a b tm st c h hll).mono fun x w' hx => ⟨hx.1, (e ▸ hx.2 : TwG w B g S (askP ⟨a, b, false, true, true, tm, st⟩ (tm : Int) c) w').twT hset⟩
        · have e : askP ⟨a, b, true, true, true, tm, st⟩ (tm : Int) c = ⟨a, b ++ [c], true, true, true, tm, st⟩ := by
            simp [askP, askK, Pr.up, Pr.log, Pr.setLog, Pr.settle]
          exact (task_ok1t w B g S a b tm st c h hll).mono fun x w' hx => ⟨hx.1, (e ▸ hx.2 : TwG w B g S (askP ⟨a, b, true, true, true, tm, st⟩ (tm : Int) c) w').twT hset⟩
    · have hK : askK p t = 13 := by unfold askK; rw [if_pos hu, if_neg ht]
      have hN : askN p t = 0 := by unfold askN; rw [hK]; rfl
      have hP : askP p t c = p := by unfold askP; rw [hK]; rfl
      rw [hK, hN, hP, derr_pos (by decide)]
      exact (task_stale w B g S p t c h hu ht).mono fun x w' hx => ⟨hx.1, h.same hx.2⟩
  · have hK : askK p t = 12 := by unfold askK; rw [if_neg hu]
    have hN : askN p t = 0 := by unfold askN; rw [hK]; rfl
    have hP : askP p t c = p := by unfold askP; rw [hK]; rfl
    rw [hK, hN, hP, derr_pos (by decide)]
    exact (task_down w B g S p t c h (by simpa using hu)).mono fun x w' hx => ⟨hx.1, h.same hx.2⟩
end Go.Proofs.Ytlaighghagcjjaa
