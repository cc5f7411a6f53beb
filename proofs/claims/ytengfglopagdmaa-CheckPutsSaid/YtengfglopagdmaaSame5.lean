/- The statements of layer 5 (check): a checkpoint as the program's; two checkpoints alike. -/
import Derived.Test.YtengfglopagdmaaOf5
import Derived.Below
namespace Go.Proofs.Ytengfglopagdmaa
open Go.RowKit Go.Cor

/-- A checkpoint stored, as one operation. -/
theorem wp_store4 {P : Program} {w : World} {o : Oper} {a : Act} {K : Act → World → Prop} {Q : Exit → Act → World → Prop} (T : TypeId) (hs : (P.info? T).map (·.size) = some 4) (x y : Operand) (ho : o.op = .store T x y)
    (g : Nat) (v0 v1 v2 v3 : Value) (a0 a1 a2 : Int) (z : Option Addr) (n c : Nat) (hx : a.eval x = .pointer (some ⟨g, 0, none⟩)) (hy : a.eval y = .agg #[.int .i64 a0, .int .i64 a1, .int .i64 a2, .slice z n c])
    (c0 : w.cell? ⟨g, 0, none⟩ = some v0) (c1 : w.cell? ⟨g, 1, none⟩ = some v1) (c2 : w.cell? ⟨g, 2, none⟩ = some v2) (c3 : w.cell? ⟨g, 3, none⟩ = some v3) (fz : ∀ o, w.frozen? ⟨g, o, none⟩ = false)
    (h : K (a.put o.dst undef) ((((w.setCell ⟨g, 0, none⟩ (.int .i64 a0)).setCell ⟨g, 1, none⟩ (.int .i64 a1)).setCell ⟨g, 2, none⟩ (.int .i64 a2)).setCell ⟨g, 3, none⟩ (.slice z n c))) :
    o.wp P a w K Q := by
  obtain ⟨j, hj1, hj2⟩ := Option.map_eq_some_iff.1 hs
  have hsz : ∀ W, (sizeOf T).run P W = .ok 4 W := fun W => by simp [sizeOf, typeInfo, hj1, hj2]
  unfold Oper.wp execOp
  rw [ho]
  simp only [hx, hy]
  go_simp
  exact h
theorem Try.sizeChk : (Try.prog.info? 34).map (·.size) = some 4 := by kernel_rfl

theorem boxC_set4 {w : World} {g b : Nat} {u0 u1 u2 u3 : Value} {a c d : Int} {v : Value} (hb : b ≠ g) (h : BoxC w b a c d v) :
    BoxC ((((w.setCell ⟨g, 0, none⟩ u0).setCell ⟨g, 1, none⟩ u1).setCell ⟨g, 2, none⟩ u2).setCell ⟨g, 3, none⟩ u3) b a c d v :=
  ⟨cell_set1 hb (cell_set1 hb (cell_set1 hb (cell_set1 hb h.1))), cell_set1 hb (cell_set1 hb (cell_set1 hb (cell_set1 hb h.2.1))), cell_set1 hb (cell_set1 hb (cell_set1 hb (cell_set1 hb h.2.2.1))), cell_set1 hb (cell_set1 hb (cell_set1 hb (cell_set1 hb h.2.2.2)))⟩

set_option maxRecDepth 100000 in
set_option maxHeartbeats 4000000 in
theorem ofc_any (c : Chk) (v : Value) (w : World) (hv : IsP w v c.l) (hl : c.l.length ≤ 4398046511104) :
    Calls Try.prog 8 #[cval c v] w fun e w' =>
      ∃ x cap, e = .returned (cval c (.slice x c.l.length cap)) ∧ w'.ownsRow w.heap.size 53 5 (.slice x c.l.length cap) c.l.length (pcs c.l) ∧ Below w.heap.size w w' := by
  obtain ⟨a, b, d, ps⟩ := c
  obtain ⟨N, hN⟩ : ∃ N, ps.length = N := ⟨_, rfl⟩
  have HV := Lib.hid (show IsP w v ps from hv)
  obtain ⟨x, cap, rfl, hlc, hcm⟩ := IsP.at_len (ps := ps) hv hN
  have hl' : ps.length ≤ 4398046511104 := hl
  have HL := Lib.hid hl'
  simp only [hN]
  have HN := Lib.hid hN
  clear hv hN hl hl'
  have hA : Below w.heap.size w (w.alloc (.cells #[.int .i64 a, .int .i64 b, .int .i64 d, .slice x N cap] 24)) := (Below.refl _ _).alloc (Nat.le_refl _) _
  obtain ⟨wA, hwA⟩ : ∃ wA, wA = w.alloc (.cells #[.int .i64 a, .int .i64 b, .int .i64 d, .slice x N cap] 24) := ⟨_, rfl⟩
  have hzA : wA.heap.size = w.heap.size + 1 := by rw [hwA]; simp
  have hbx := BoxC.new w a b d (.slice x N cap) 24
  rw [← hwA] at hbx hA
  have hB : Below (w.heap.size + 1) wA (wA.alloc (.cells #[.int .i64 0, .int .i64 0, .int .i64 0, .slice none 0 0] 34)) := (Below.refl _ _).alloc (by omega) _
  have HX := Lib.hid (hbx.mono hB (Nat.lt_succ_self _))
  have HR := Lib.hid (BoxC.new wA 0 0 0 (.slice none 0 0) 34)
  have HZ := Lib.hid (show ∀ o, (wA.alloc (.cells #[.int .i64 0, .int .i64 0, .int .i64 0, .slice none 0 0] 34)).frozen? ⟨wA.heap.size, o, none⟩ = false from fun o => by go_simp)
  have HW := Lib.hid (hA.trans (hB.mono (Nat.le_succ _)))
  have hzB : (wA.alloc (.cells #[.int .i64 0, .int .i64 0, .int .i64 0, .slice none 0 0] 34)).heap.size = w.heap.size + 2 := by simp [hzA]
  have HWA := Lib.hid hwA
  clear hA hbx hB
  go_enter Try.func8, Try.ntmps8
  go_upto_region 1 with fail
  rw [← HWA.out]
  obtain ⟨wB, hwB⟩ : ∃ wB, wB = wA.alloc (.cells #[.int .i64 0, .int .i64 0, .int .i64 0, .slice none 0 0] 34) := ⟨_, rfl⟩
  rw [hzA] at HR HZ
  rw [← hwB] at HX HR HZ HW hzB ⊢
  clear hwB HWA hwA hzA
  have K0 : wB.cell? ⟨w.heap.size, 0, none⟩ = some (.int .i64 a) ∧ wB.cell? ⟨w.heap.size, 1, none⟩ = some (.int .i64 b) ∧ wB.cell? ⟨w.heap.size, 2, none⟩ = some (.int .i64 d) ∧ wB.cell? ⟨w.heap.size, 3, none⟩ = some (.slice x N cap) := HX.out
  have K1 : wB.drew.cell? ⟨w.heap.size, 0, none⟩ = some (.int .i64 a) ∧ wB.drew.cell? ⟨w.heap.size, 1, none⟩ = some (.int .i64 b) ∧ wB.drew.cell? ⟨w.heap.size, 2, none⟩ = some (.int .i64 d) ∧ wB.drew.cell? ⟨w.heap.size, 3, none⟩ = some (.slice x N cap) := K0
  have HV1 := Lib.hid (show IsP wB.drew (.slice x N cap) ps from HV.out.mono HW.out.drew (Nat.le_refl _))
  go_wp2_with fail
  refine wp_region_held_drew (S := (fun wx => wx.cell? ⟨w.heap.size, 0, none⟩ = some (.int .i64 a) ∧ wx.cell? ⟨w.heap.size, 1, none⟩ = some (.int .i64 b) ∧ wx.cell? ⟨w.heap.size, 2, none⟩ = some (.int .i64 d) ∧ wx.cell? ⟨w.heap.size, 3, none⟩ = some (.slice x N cap))) (by kernel_rfl) (K1) (fun hHeld => ?_)
  refine wpAnyH_take (i := 0) (v := ?_) rfl (by kernel_rfl) (by kernel_rfl) (by kernel_rfl) (fun _ _ _ h => h) (Or.inl ⟨by rfl, ?_⟩) (by assumption) ?_
  rotate_left 1
  · intro w hSw
    (try dsimp only at hSw)
    go_simp
    all_goals (with_reducible rfl)
  try simp only [Act.put, List.getElem_toArray, List.getElem_cons_zero, List.getElem_cons_succ, List.setIfInBounds_toArray, List.set_cons_zero, List.set_cons_succ]
  refine wpAnyH_take (i := 1) (v := ?_) rfl (by kernel_rfl) (by kernel_rfl) (by kernel_rfl) (fun _ _ _ h => h) (Or.inl ⟨by rfl, ?_⟩) (by assumption) ?_
  rotate_left 1
  · intro w hSw
    (try dsimp only at hSw)
    go_simp
    all_goals (with_reducible rfl)
  try simp only [Act.put, List.getElem_toArray, List.getElem_cons_zero, List.getElem_cons_succ, List.setIfInBounds_toArray, List.set_cons_zero, List.set_cons_succ]
  refine wpAnyH_take (i := 2) (v := ?_) rfl (by kernel_rfl) (by kernel_rfl) (by kernel_rfl) (fun _ _ _ h => h) (Or.inl ⟨by rfl, ?_⟩) (by assumption) ?_
  rotate_left 1
  · intro w hSw
    (try dsimp only at hSw)
    go_simp
    all_goals (with_reducible rfl)
  try simp only [Act.put, List.getElem_toArray, List.getElem_cons_zero, List.getElem_cons_succ, List.setIfInBounds_toArray, List.set_cons_zero, List.set_cons_succ]
  refine wpAnyH_take (i := 3) (v := ?_) rfl (by kernel_rfl) (by kernel_rfl) (by kernel_rfl) (fun _ _ _ h => h) (Or.inl ⟨by rfl, ?_⟩) (by assumption) ?_
  rotate_left 1
  · intro w hSw
    (try dsimp only at hSw)
    go_simp
    all_goals (with_reducible rfl)
  try simp only [Act.put, List.getElem_toArray, List.getElem_cons_zero, List.getElem_cons_succ, List.setIfInBounds_toArray, List.set_cons_zero, List.set_cons_succ]
  refine wpAnyH_take (i := 4) (v := ?_) rfl (by kernel_rfl) (by kernel_rfl) (by kernel_rfl) (fun _ _ _ h => h) (Or.inl ⟨by rfl, ?_⟩) (by assumption) ?_
  rotate_left 1
  · intro w hSw
    (try dsimp only at hSw)
    go_simp
    all_goals (with_reducible rfl)
  try simp only [Act.put, List.getElem_toArray, List.getElem_cons_zero, List.getElem_cons_succ, List.setIfInBounds_toArray, List.set_cons_zero, List.set_cons_succ]
  refine wpAnyH_take (i := 5) (v := ?_) rfl (by kernel_rfl) (by kernel_rfl) (by kernel_rfl) (fun _ _ _ h => h) (Or.inl ⟨by rfl, ?_⟩) (by assumption) ?_
  rotate_left 1
  · intro w hSw
    (try dsimp only at hSw)
    go_simp
    all_goals (with_reducible rfl)
  try simp only [Act.put, List.getElem_toArray, List.getElem_cons_zero, List.getElem_cons_succ, List.setIfInBounds_toArray, List.set_cons_zero, List.set_cons_succ]
  refine wpAnyH_take (i := 6) (v := ?_) rfl (by kernel_rfl) (by kernel_rfl) (by kernel_rfl) (fun _ _ _ h => h) (Or.inl ⟨by rfl, ?_⟩) (by assumption) ?_
  rotate_left 1
  · intro w hSw
    (try dsimp only at hSw)
    go_simp
    all_goals (with_reducible rfl)
  try simp only [Act.put, List.getElem_toArray, List.getElem_cons_zero, List.getElem_cons_succ, List.setIfInBounds_toArray, List.set_cons_zero, List.set_cons_succ]
  refine wpAnyH_take (i := 7) (v := ?_) rfl (by kernel_rfl) (by kernel_rfl) (by kernel_rfl) (fun _ _ _ h => h) (Or.inl ⟨by rfl, ?_⟩) (by assumption) ?_
  rotate_left 1
  · intro w hSw
    (try dsimp only at hSw)
    go_simp
    all_goals (with_reducible rfl)
  try simp only [Act.put, List.getElem_toArray, List.getElem_cons_zero, List.getElem_cons_succ, List.setIfInBounds_toArray, List.set_cons_zero, List.set_cons_succ]
  refine wpAnyH_ready (rs := [8]) (by kernel_rfl) (by simp) ?_
  refine AllReadyH.cons rfl (fun K hK => ?_) AllReadyH.nil
  go_simp
  go_at_call 19
  refine (of5_any _ ps _ HV1.out HL.out).mono ?_
  rintro e wa ⟨va, rfl, hown, hba⟩
  rw [HN.out] at hown
  obtain ⟨xa, ca, rfl⟩ := ownsRow_slice hown
  have Ka := BoxC.mono K1 hba (show w.heap.size < wB.heap.size by omega)
  have HRa := Lib.hid (HR.out.mono (((Below.refl wB.heap.size wB).drew).trans hba) (show w.heap.size + 1 < wB.heap.size by omega))
  have fza := thaw_below HZ.out (((Below.refl wB.heap.size wB).drew).trans hba) (show w.heap.size + 1 < wB.heap.size by omega)
  obtain ⟨c0, c1, c2, c3⟩ := HRa.out
  go_wp2_with fail
  refine hK.out _ _ (Ka) (fun hHeld => ?_)
  clear hK K
  try simp only [Act.put, List.getElem_toArray, List.getElem_cons_zero, List.getElem_cons_succ, List.setIfInBounds_toArray, List.set_cons_zero, List.set_cons_succ]
  refine wpAnyH_take (i := 9) (v := ?_) rfl (by kernel_rfl) (by kernel_rfl) (by kernel_rfl) (fun _ _ _ h => h) (Or.inl ⟨by rfl, ?_⟩) (by assumption) ?_
  rotate_left 1
  · intro w hSw
    (try dsimp only at hSw)
    go_simp
    all_goals (with_reducible rfl)
  try simp only [Act.put, List.getElem_toArray, List.getElem_cons_zero, List.getElem_cons_succ, List.setIfInBounds_toArray, List.set_cons_zero, List.set_cons_succ]
  refine wpAnyH_ready (rs := [10]) (by kernel_rfl) (by simp) ?_
  refine AllReadyH.cons rfl (fun K hK => ?_) AllReadyH.nil
  rw [if_pos (by rfl)]
  refine wp_store4 34 Try.sizeChk (.tmp 2) (.tmp 12) rfl (w.heap.size + 1) _ _ _ _ a b d xa N ca rfl rfl c0 c1 c2 c3 fza ?_
  refine hK.out _ _ (boxC_set4 (by omega) Ka) (fun hHeld => ?_)
  clear hK K
  try simp only [Act.put, List.getElem_toArray, List.getElem_cons_zero, List.getElem_cons_succ, List.setIfInBounds_toArray, List.set_cons_zero, List.set_cons_succ]
  refine wpAnyH_done (by kernel_rfl) ?_ _
  clear c0 c1 c2 c3 K0 K1
  have HOx := Lib.hid (ownsRow_base (ownsRow_setCell_below (ownsRow_setCell_below (ownsRow_setCell_below (ownsRow_setCell_below hown (a := ⟨w.heap.size + 1, 0, none⟩) (by show w.heap.size + 1 < wB.heap.size; omega) (.int .i64 a)) (a := ⟨w.heap.size + 1, 1, none⟩) (by show w.heap.size + 1 < wB.heap.size; omega) (.int .i64 b)) (a := ⟨w.heap.size + 1, 2, none⟩) (by show w.heap.size + 1 < wB.heap.size; omega) (.int .i64 d)) (a := ⟨w.heap.size + 1, 3, none⟩) (by show w.heap.size + 1 < wB.heap.size; omega) (.slice xa N ca)) (show w.heap.size ≤ wB.heap.size by omega))
  have HBx := Lib.hid ((((((HW.out.drew).trans (hba.mono (by show w.heap.size ≤ wB.heap.size; omega))).setCell (p := ⟨w.heap.size + 1, 0, none⟩) (by show w.heap.size ≤ w.heap.size + 1; omega) (.int .i64 a)).setCell (p := ⟨w.heap.size + 1, 1, none⟩) (by show w.heap.size ≤ w.heap.size + 1; omega) (.int .i64 b)).setCell (p := ⟨w.heap.size + 1, 2, none⟩) (by show w.heap.size ≤ w.heap.size + 1; omega) (.int .i64 d)).setCell (p := ⟨w.heap.size + 1, 3, none⟩) (by show w.heap.size ≤ w.heap.size + 1; omega) (.slice xa N ca))
  obtain ⟨z0, z1, z2, z3⟩ := HRa.out
  clear hown hba
  go_wp2
  exact bodyPost_ret (v := .agg #[.int .i64 a, .int .i64 b, .int .i64 d, .slice xa N ca]) (by simp [results, Try.results8, go_sem, z0, z1, z2, z3]) rfl ⟨xa, ca, rfl, HOx.out, HBx.out⟩

end Go.Proofs.Ytengfglopagdmaa
