/- Ckc, Ckd, Slice, Chk, Pos. -/
import Derived.Test.YtdchcepgbbdmhaaGreatDoorM14
import Derived.Test.YtdchcepgbbdmhaaGreatDoorM4
import Derived.Test.YtdchcepgbbdmhaaGreatDoorM5
import Derived.Test.YtdchcepgbbdmhaaGreatDoorM2
import Derived.Deep.CutRange
import Derived.Deep.RegionHeld3
import Derived.BigQuiet

section
namespace Go.Proofs.YtdchcepgbbdmhaaGreatDoor
open Go.RowKit Go.Cor

theorem Tryz.infoGen (a b c d e f h : Value) (W : World) (hb : b.oneCell' = true) : (Instr.field 91 (.agg #[a, b, c, d, e, f, h]) 1).run Tryz.prog W = .ok b W := by
  cases b <;> first | (exact absurd hb (by decide)) | kernel_rfl
/-- What holds ahead of a step that isn't the first one. -/
structure StepR (w : World) (g p q : Nat) (S : Nat → Prop) (d : Dsk) (k : Nat) (s : Vst) (nx : Int) (lv : Value) (ps : List Pos) : Prop where
  at_ : StepT w w g p q S d k s nx (s.num : Int) (s.gen : Int) (s.size : Int) lv ps
  r : ∀ S', Vl w g p S' d k s → Vready w g p S' d k s
theorem StepR.ready {w w' : World} {g p q : Nat} {S : Nat → Prop} {d : Dsk} {k : Nat} {s : Vst} {nx : Int} {lv : Value} {ps : List Pos} (h : StepR w g p q S d k s nx lv ps) (hb : Below w.heap.size w w') : ∃ S', Vready w' g p S' d k s := by
  obtain ⟨S', h1, _⟩ := h.at_
  exact ⟨S', (h.r S' h1).below hb⟩

set_option maxRecDepth 100000 in
set_option maxHeartbeats 2000000 in
theorem step_flush (q p g k : Nat) (S : Nat → Prop) (d : Dsk) (s : Vst) (lv : Value) (ps : List Pos) (w : World) (h : StepR w g p q S d k s 3 lv ps) {b : List UInt8} (hv : view d (nmC s.num 0) = some b) :
    Calls Tryz.prog 21 #[.pointer (some ⟨q, 0, none⟩)] w fun e w' => ∃ d', e = .returned .nilIface ∧ StepT w w' g p q S d' (k + 2) s 4 (s.num : Int) (s.gen : Int) (s.size : Int) lv ps ∧ Went d d' (k + 2) d.used d.now.length (view d) := by
  have hnum : s.num < 10 := by obtain ⟨S', h1⟩ := h.ready (Below.refl w.heap.size w); exact h1.ok.num9
  have hgen : s.gen < 10 := by obtain ⟨S', h1⟩ := h.ready (Below.refl w.heap.size w); exact h1.ok.gen9
  have hfew : k + 12 ≤ 90000 := by obtain ⟨S', h1⟩ := h.ready (Below.refl w.heap.size w); exact h1.few
  have hf0 : Fs d k := by obtain ⟨S', h1⟩ := h.ready (Below.refl w.heap.size w); exact h1.lies.fs
  have HT0 := Lib.hid (h.at_.below (Below.refl w.heap.size w).drew)
  have HINF := Lib.hid (show Calls Tryz.prog 29 #[.pointer (some ⟨g, 0, none⟩)] w.drew (fun r w' => r = .returned (infoV s) ∧ Below w.drew.heap.size w.drew w') by
    obtain ⟨S', h1⟩ := h.ready (Below.refl w.heap.size w).drew
    exact info_v g p k S' d s _ h1)
  unfold infoV at HINF
  have hfld := fun W => Tryz.infoGen (.int .i64 (s.num : Int)) (.int .i64 (s.gen : Int)) (.int .i64 (s.epoch : Int)) (.int .i64 (s.size : Int)) (.int .i64 ((s.idx.length : Int) - (Q.goneN s.idx : Int))) (.int .i64 (Q.goneN s.idx : Int)) (.bool s.shut) W rfl
  have hdd := hf0.sync hv
  have HWE := Lib.hid hdd.2
  have HC0 := Lib.hid hdd.1
  clear hdd
  have HCR := Lib.hid (fun wx (hx : StepT w wx g p q S d k s 3 (s.num : Int) (s.gen : Int) (s.size : Int) lv ps) => (show Calls Tryz.prog 54 #[.pointer (some ⟨p, 0, none⟩), .string (nmC s.num 0)] wx (fun e w' => e = .returned .nilIface ∧ StepT w w' g p q S (d.sync (nmC s.num 0)).1 (k + 2) s 3 (s.num : Int) (s.gen : Int) (s.size : Int) lv ps) by
    obtain ⟨Sd, hd, hnq, hly, hnext⟩ := hx.deed
    refine (sync_u wx p Sd d k (nmC s.num 0) hd (by omega)).mono ?_
    rintro e w' ⟨rfl, ht⟩
    rw [HC0.out]
    exact ⟨rfl, hnext _ _ _ ht⟩))
  clear h hf0 hv
  go_enter Tryz.func21, Tryz.ntmps21
  go_upto_region 1 with fail
  refine wp_region_held_drew (S := (fun wx => wx.cell? ⟨q, 1, none⟩ = some (.pointer (some ⟨g, 0, none⟩)) ∧ wx.cell? ⟨q, 2, none⟩ = some (.int .i64 3) ∧ wx.cell? ⟨q, 4, none⟩ = some (.int .i64 (s.gen : Int)))) (by kernel_rfl) (⟨HT0.out.blk.cell 1 rfl, HT0.out.blk.cell 2 rfl, HT0.out.blk.cell 4 rfl⟩) (fun hHeld => ?_)
  refine wpAnyH_take (i := 0) (v := ?_) rfl (by kernel_rfl) (by kernel_rfl) (by kernel_rfl) (fun _ _ _ h => h) (Or.inl ⟨by rfl, ?_⟩) (by assumption) ?_
  rotate_left 1
  · intro w hSw
    (try dsimp only at hSw)
    go_simp
    all_goals (with_reducible rfl)
  try simp only [Act.put, List.getElem_toArray, List.getElem_cons_zero, List.getElem_cons_succ, List.setIfInBounds_toArray, List.set_cons_zero, List.set_cons_succ]
  refine wpAnyH_take (i := 1) (v := ?_) rfl (by kernel_rfl) (by kernel_rfl) (by kernel_rfl) (fun _ _ _ h => h) (Or.inl ⟨by rfl, ?_⟩) (by assumption) ?_
  rotate_left 1
  · intro w hSw
    (try dsimp only at hSw)
    go_simp
    all_goals (with_reducible rfl)
  try simp only [Act.put, List.getElem_toArray, List.getElem_cons_zero, List.getElem_cons_succ, List.setIfInBounds_toArray, List.set_cons_zero, List.set_cons_succ]
  refine wpAnyH_take (i := 2) (v := ?_) rfl (by kernel_rfl) (by kernel_rfl) (by kernel_rfl) (fun _ _ _ h => h) (Or.inl ⟨by rfl, ?_⟩) (by assumption) ?_
  rotate_left 1
  · intro w hSw
    (try dsimp only at hSw)
    go_simp
    all_goals (with_reducible rfl)
  try simp only [Act.put, List.getElem_toArray, List.getElem_cons_zero, List.getElem_cons_succ, List.setIfInBounds_toArray, List.set_cons_zero, List.set_cons_succ]
  refine wpAnyH_take (i := 3) (v := ?_) rfl (by kernel_rfl) (by kernel_rfl) (by kernel_rfl) (fun _ _ _ h => h) (Or.inl ⟨by rfl, ?_⟩) (by assumption) ?_
  rotate_left 1
  · intro w hSw
    (try dsimp only at hSw)
    go_simp
    all_goals (with_reducible rfl)
  try simp only [Act.put, List.getElem_toArray, List.getElem_cons_zero, List.getElem_cons_succ, List.setIfInBounds_toArray, List.set_cons_zero, List.set_cons_succ]
  refine wpAnyH_take (i := 4) (v := ?_) rfl (by kernel_rfl) (by kernel_rfl) (by kernel_rfl) (fun _ _ _ h => h) (Or.inl ⟨by rfl, ?_⟩) (by assumption) ?_
  rotate_left 1
  · intro w hSw
    (try dsimp only at hSw)
    go_simp
    all_goals (with_reducible rfl)
  try simp only [Act.put, List.getElem_toArray, List.getElem_cons_zero, List.getElem_cons_succ, List.setIfInBounds_toArray, List.set_cons_zero, List.set_cons_succ]
  refine wpAnyH_take (i := 5) (v := ?_) rfl (by kernel_rfl) (by kernel_rfl) (by kernel_rfl) (fun _ _ _ h => h) (Or.inl ⟨by rfl, ?_⟩) (by assumption) ?_
  rotate_left 1
  · intro w hSw
    (try dsimp only at hSw)
    go_simp
    all_goals (with_reducible rfl)
  try simp only [Act.put, List.getElem_toArray, List.getElem_cons_zero, List.getElem_cons_succ, List.setIfInBounds_toArray, List.set_cons_zero, List.set_cons_succ]
  refine wpAnyH_take (i := 6) (v := ?_) rfl (by kernel_rfl) (by kernel_rfl) (by kernel_rfl) (fun _ _ _ h => h) (Or.inl ⟨by rfl, ?_⟩) (by assumption) ?_
  rotate_left 1
  · intro w hSw
    (try dsimp only at hSw)
    go_simp
    all_goals (with_reducible rfl)
  try simp only [Act.put, List.getElem_toArray, List.getElem_cons_zero, List.getElem_cons_succ, List.setIfInBounds_toArray, List.set_cons_zero, List.set_cons_succ]
  refine wpAnyH_take (i := 7) (v := ?_) rfl (by kernel_rfl) (by kernel_rfl) (by kernel_rfl) (fun _ _ _ h => h) (Or.inl ⟨by rfl, ?_⟩) (by assumption) ?_
  rotate_left 1
  · intro w hSw
    (try dsimp only at hSw)
    go_simp
    all_goals (with_reducible rfl)
  try simp only [Act.put, List.getElem_toArray, List.getElem_cons_zero, List.getElem_cons_succ, List.setIfInBounds_toArray, List.set_cons_zero, List.set_cons_succ]
  refine wpAnyH_take (i := 8) (v := ?_) rfl (by kernel_rfl) (by kernel_rfl) (by kernel_rfl) (fun _ _ _ h => h) (Or.inl ⟨by rfl, ?_⟩) (by assumption) ?_
  rotate_left 1
  · intro w hSw
    (try dsimp only at hSw)
    go_simp
    all_goals (with_reducible rfl)
  try simp only [Act.put, List.getElem_toArray, List.getElem_cons_zero, List.getElem_cons_succ, List.setIfInBounds_toArray, List.set_cons_zero, List.set_cons_succ]
  refine wpAnyH_take (i := 9) (v := ?_) rfl (by kernel_rfl) (by kernel_rfl) (by kernel_rfl) (fun _ _ _ h => h) (Or.inl ⟨by rfl, ?_⟩) (by assumption) ?_
  rotate_left 1
  · intro w hSw
    (try dsimp only at hSw)
    go_simp
    all_goals (with_reducible rfl)
  try simp only [Act.put, List.getElem_toArray, List.getElem_cons_zero, List.getElem_cons_succ, List.setIfInBounds_toArray, List.set_cons_zero, List.set_cons_succ]
  refine wpAnyH_take (i := 12) (v := ?_) rfl (by kernel_rfl) (by kernel_rfl) (by kernel_rfl) (fun _ _ _ h => h) (Or.inl ⟨by rfl, ?_⟩) (by assumption) ?_
  rotate_left 1
  · intro w hSw
    (try dsimp only at hSw)
    go_simp
    all_goals (with_reducible rfl)
  try simp only [Act.put, List.getElem_toArray, List.getElem_cons_zero, List.getElem_cons_succ, List.setIfInBounds_toArray, List.set_cons_zero, List.set_cons_succ]
  refine wpAnyH_take (i := 13) (v := ?_) rfl (by kernel_rfl) (by kernel_rfl) (by kernel_rfl) (fun _ _ _ h => h) (Or.inl ⟨by rfl, ?_⟩) (by assumption) ?_
  rotate_left 1
  · intro w hSw
    (try dsimp only at hSw)
    go_simp
    all_goals (with_reducible rfl)
  try simp only [Act.put, List.getElem_toArray, List.getElem_cons_zero, List.getElem_cons_succ, List.setIfInBounds_toArray, List.set_cons_zero, List.set_cons_succ]
  refine wpAnyH_take (i := 14) (v := ?_) rfl (by kernel_rfl) (by kernel_rfl) (by kernel_rfl) (fun _ _ _ h => h) (Or.inl ⟨by rfl, ?_⟩) (by assumption) ?_
  rotate_left 1
  · intro w hSw
    (try dsimp only at hSw)
    go_simp
    all_goals (with_reducible rfl)
  try simp only [Act.put, List.getElem_toArray, List.getElem_cons_zero, List.getElem_cons_succ, List.setIfInBounds_toArray, List.set_cons_zero, List.set_cons_succ]
  refine wpAnyH_take (i := 15) (v := ?_) rfl (by kernel_rfl) (by kernel_rfl) (by kernel_rfl) (fun _ _ _ h => h) (Or.inl ⟨by rfl, ?_⟩) (by assumption) ?_
  rotate_left 1
  · intro w hSw
    (try dsimp only at hSw)
    go_simp
    all_goals (with_reducible rfl)
  try simp only [Act.put, List.getElem_toArray, List.getElem_cons_zero, List.getElem_cons_succ, List.setIfInBounds_toArray, List.set_cons_zero, List.set_cons_succ]
  refine wpAnyH_take (i := 16) (v := ?_) rfl (by kernel_rfl) (by kernel_rfl) (by kernel_rfl) (fun _ _ _ h => h) (Or.inl ⟨by rfl, ?_⟩) (by assumption) ?_
  rotate_left 1
  · intro w hSw
    (try dsimp only at hSw)
    go_simp
    all_goals (with_reducible rfl)
  try simp only [Act.put, List.getElem_toArray, List.getElem_cons_zero, List.getElem_cons_succ, List.setIfInBounds_toArray, List.set_cons_zero, List.set_cons_succ]
  refine wpAnyH_ready (rs := [10]) (by kernel_rfl) (by simp) ?_
  refine AllReadyH.cons rfl (fun K hK => ?_) AllReadyH.nil
  go_simp
  refine HINF.out.mono ?_
  rintro e w1 ⟨rfl, hb⟩
  have HT1 := Lib.hid (HT0.out.below hb)
  clear hb HINF
  refine hK.out _ _ (⟨HT1.out.blk.cell 1 rfl, HT1.out.blk.cell 2 rfl, HT1.out.blk.cell 4 rfl⟩) (fun hHeld => ?_)
  clear hK K
  try simp only [Act.put, List.getElem_toArray, List.getElem_cons_zero, List.getElem_cons_succ, List.setIfInBounds_toArray, List.set_cons_zero, List.set_cons_succ]
  refine wpAnyH_take (i := 11) (v := ?_) rfl (by kernel_rfl) (by kernel_rfl) (by kernel_rfl) (fun _ _ _ h => h) (Or.inl ⟨by rfl, ?_⟩) (by assumption) ?_
  rotate_left 1
  · intro w hSw
    (try dsimp only at hSw)
    go_simp
    all_goals (with_reducible rfl)
  try simp only [Act.put, List.getElem_toArray, List.getElem_cons_zero, List.getElem_cons_succ, List.setIfInBounds_toArray, List.set_cons_zero, List.set_cons_succ]
  refine wpAnyH_take (i := 17) (v := ?_) rfl (by kernel_rfl) (by kernel_rfl) (by kernel_rfl) (fun _ _ _ h => h) (Or.inl ⟨by rfl, ?_⟩) (by assumption) ?_
  rotate_left 1
  · intro w hSw
    (try dsimp only at hSw)
    go_simp
    all_goals (with_reducible rfl)
  try simp only [Act.put, List.getElem_toArray, List.getElem_cons_zero, List.getElem_cons_succ, List.setIfInBounds_toArray, List.set_cons_zero, List.set_cons_succ]
  refine wpAnyH_take (i := 18) (v := ?_) rfl (by kernel_rfl) (by kernel_rfl) (by kernel_rfl) (fun _ _ _ h => h) (Or.inl ⟨by rfl, ?_⟩) (by assumption) ?_
  rotate_left 1
  · intro w hSw
    (try dsimp only at hSw)
    go_simp
    all_goals (with_reducible rfl)
  try simp only [Act.put, List.getElem_toArray, List.getElem_cons_zero, List.getElem_cons_succ, List.setIfInBounds_toArray, List.set_cons_zero, List.set_cons_succ]
  refine wpAnyH_done (by kernel_rfl) ?_ _
  have x2 : w1.cell? ⟨q, 2, none⟩ = some (.int .i64 3) := HT1.out.blk.cell 2 rfl
  go_upto_region 19 with fail
  have HT2 := Lib.hid (HT1.out.below (Below.refl w1.heap.size w1).drew)
  refine wp_region_held_drew (S := (fun wx => wx.cell? ⟨q, 0, none⟩ = some (.pointer (some ⟨p, 0, none⟩)))) (by kernel_rfl) (HT2.out.blk.cell 0 rfl) (fun hHeld => ?_)
  refine wpAnyH_take (i := 0) (v := ?_) rfl (by kernel_rfl) (by kernel_rfl) (by kernel_rfl) (fun _ _ _ h => h) (Or.inl ⟨by rfl, ?_⟩) (by assumption) ?_
  rotate_left 1
  · intro w hSw
    (try dsimp only at hSw)
    go_simp
    all_goals (with_reducible rfl)
  try simp only [Act.put, List.getElem_toArray, List.getElem_cons_zero, List.getElem_cons_succ, List.setIfInBounds_toArray, List.set_cons_zero, List.set_cons_succ]
  refine wpAnyH_take (i := 1) (v := ?_) rfl (by kernel_rfl) (by kernel_rfl) (by kernel_rfl) (fun _ _ _ h => h) (Or.inl ⟨by rfl, ?_⟩) (by assumption) ?_
  rotate_left 1
  · intro w hSw
    (try dsimp only at hSw)
    go_simp
    all_goals (with_reducible rfl)
  try simp only [Act.put, List.getElem_toArray, List.getElem_cons_zero, List.getElem_cons_succ, List.setIfInBounds_toArray, List.set_cons_zero, List.set_cons_succ]
  refine wpAnyH_take (i := 2) (v := ?_) rfl (by kernel_rfl) (by kernel_rfl) (by kernel_rfl) (fun _ _ _ h => h) (Or.inl ⟨by rfl, ?_⟩) (by assumption) ?_
  rotate_left 1
  · intro w hSw
    (try dsimp only at hSw)
    go_simp
    all_goals (with_reducible rfl)
  try simp only [Act.put, List.getElem_toArray, List.getElem_cons_zero, List.getElem_cons_succ, List.setIfInBounds_toArray, List.set_cons_zero, List.set_cons_succ]
  refine wpAnyH_take (i := 3) (v := ?_) rfl (by kernel_rfl) (by kernel_rfl) (by kernel_rfl) (fun _ _ _ h => h) (Or.inl ⟨by rfl, ?_⟩) (by assumption) ?_
  rotate_left 1
  · intro w hSw
    (try dsimp only at hSw)
    go_simp
    all_goals (with_reducible rfl)
  try simp only [Act.put, List.getElem_toArray, List.getElem_cons_zero, List.getElem_cons_succ, List.setIfInBounds_toArray, List.set_cons_zero, List.set_cons_succ]
  refine wpAnyH_take (i := 4) (v := ?_) rfl (by kernel_rfl) (by kernel_rfl) (by kernel_rfl) (fun _ _ _ h => h) (Or.inl ⟨by rfl, ?_⟩) (by assumption) ?_
  rotate_left 1
  · intro w hSw
    (try dsimp only at hSw)
    go_simp
    all_goals (with_reducible rfl)
  try simp only [Act.put, List.getElem_toArray, List.getElem_cons_zero, List.getElem_cons_succ, List.setIfInBounds_toArray, List.set_cons_zero, List.set_cons_succ]
  refine wpAnyH_ready (rs := [5]) (by kernel_rfl) (by simp) ?_
  refine AllReadyH.cons rfl (fun K hK => ?_) AllReadyH.nil
  go_simp
  refine (ckfile0 q p g s.num 3 (s.gen : Int) (s.size : Int) lv _ HT2.out.blk hnum).mono ?_
  rintro e w5 ⟨rfl, rfl⟩
  refine hK.out _ _ (HT2.out.blk.cell 0 rfl) (fun hHeld => ?_)
  clear hK K
  try simp only [Act.put, List.getElem_toArray, List.getElem_cons_zero, List.getElem_cons_succ, List.setIfInBounds_toArray, List.set_cons_zero, List.set_cons_succ]
  refine wpAnyH_ready (rs := [6]) (by kernel_rfl) (by simp) ?_
  refine AllReadyH.cons rfl (fun K hK => ?_) AllReadyH.nil
  go_simp
  refine (HCR.out _ HT2.out).mono ?_
  rintro e w6 ⟨rfl, ht⟩
  have HT6 := Lib.hid ht
  clear ht
  refine hK.out _ _ (HT6.out.blk.cell 0 rfl) (fun hHeld => ?_)
  clear hK K
  try simp only [Act.put, List.getElem_toArray, List.getElem_cons_zero, List.getElem_cons_succ, List.setIfInBounds_toArray, List.set_cons_zero, List.set_cons_succ]
  refine wpAnyH_take (i := 7) (v := ?_) rfl (by kernel_rfl) (by kernel_rfl) (by kernel_rfl) (fun _ _ _ h => h) (Or.inl ⟨by rfl, ?_⟩) (by assumption) ?_
  rotate_left 1
  · intro w hSw
    (try dsimp only at hSw)
    go_simp
    all_goals (with_reducible rfl)
  try simp only [Act.put, List.getElem_toArray, List.getElem_cons_zero, List.getElem_cons_succ, List.setIfInBounds_toArray, List.set_cons_zero, List.set_cons_succ]
  refine wpAnyH_done (by kernel_rfl) ?_ _
  clear HT0 HT1 HT2 HCR x2
  have x2 : w6.cell? ⟨q, 2, none⟩ = some (.int .i64 3) := HT6.out.blk.cell 2 rfl
  have xf := fun j => HT6.out.blk.free j
  have HT7 := Lib.hid (HT6.out.turn 4)
  clear HT6
  go_wp2
  go_ret
  exact ⟨_, rfl, HT7.out, HWE.out⟩
set_option maxRecDepth 100000 in
set_option maxHeartbeats 2000000 in
theorem step_last (q p g k : Nat) (S : Nat → Prop) (d : Dsk) (s : Vst) (lv : Value) (ps : List Pos) (w : World) (h : StepR w g p q S d k s 5 lv ps) :
    Calls Tryz.prog 21 #[.pointer (some ⟨q, 0, none⟩)] w fun e w' => ∃ d', e = .returned .nilIface ∧ StepT w w' g p q S d' (k + 2) s 6 (s.num : Int) (s.gen : Int) (s.size : Int) lv ps ∧ Went d d' (k + 2) d.used d.now.length (view d) := by
  have hnum : s.num < 10 := by obtain ⟨S', h1⟩ := h.ready (Below.refl w.heap.size w); exact h1.ok.num9
  have hgen : s.gen < 10 := by obtain ⟨S', h1⟩ := h.ready (Below.refl w.heap.size w); exact h1.ok.gen9
  have hfew : k + 12 ≤ 90000 := by obtain ⟨S', h1⟩ := h.ready (Below.refl w.heap.size w); exact h1.few
  have hf0 : Fs d k := by obtain ⟨S', h1⟩ := h.ready (Below.refl w.heap.size w); exact h1.lies.fs
  have HT0 := Lib.hid (h.at_.below (Below.refl w.heap.size w).drew)
  have HINF := Lib.hid (show Calls Tryz.prog 29 #[.pointer (some ⟨g, 0, none⟩)] w.drew (fun r w' => r = .returned (infoV s) ∧ Below w.drew.heap.size w.drew w') by
    obtain ⟨S', h1⟩ := h.ready (Below.refl w.heap.size w).drew
    exact info_v g p k S' d s _ h1)
  unfold infoV at HINF
  have hfld := fun W => Tryz.infoGen (.int .i64 (s.num : Int)) (.int .i64 (s.gen : Int)) (.int .i64 (s.epoch : Int)) (.int .i64 (s.size : Int)) (.int .i64 ((s.idx.length : Int) - (Q.goneN s.idx : Int))) (.int .i64 (Q.goneN s.idx : Int)) (.bool s.shut) W rfl
  have hdd := hf0.syncNames
  have HWE := Lib.hid hdd.2
  have HC0 := Lib.hid hdd.1
  clear hdd
  have HCR := Lib.hid (fun wx (hx : StepT w wx g p q S d k s 5 (s.num : Int) (s.gen : Int) (s.size : Int) lv ps) => (show Calls Tryz.prog 56 #[.pointer (some ⟨p, 0, none⟩)] wx (fun e w' => e = .returned .nilIface ∧ StepT w w' g p q S d.syncNames.1 (k + 2) s 5 (s.num : Int) (s.gen : Int) (s.size : Int) lv ps) by
    obtain ⟨Sd, hd, hnq, hly, hnext⟩ := hx.deed
    refine (syncNames_u wx p Sd d k hd (by omega)).mono ?_
    rintro e w' ⟨rfl, ht⟩
    rw [HC0.out]
    exact ⟨rfl, hnext _ _ _ ht⟩))
  clear h hf0
  go_enter Tryz.func21, Tryz.ntmps21
  go_upto_region 1 with fail
  refine wp_region_held_drew (S := (fun wx => wx.cell? ⟨q, 1, none⟩ = some (.pointer (some ⟨g, 0, none⟩)) ∧ wx.cell? ⟨q, 2, none⟩ = some (.int .i64 5) ∧ wx.cell? ⟨q, 4, none⟩ = some (.int .i64 (s.gen : Int)))) (by kernel_rfl) (⟨HT0.out.blk.cell 1 rfl, HT0.out.blk.cell 2 rfl, HT0.out.blk.cell 4 rfl⟩) (fun hHeld => ?_)
  refine wpAnyH_take (i := 0) (v := ?_) rfl (by kernel_rfl) (by kernel_rfl) (by kernel_rfl) (fun _ _ _ h => h) (Or.inl ⟨by rfl, ?_⟩) (by assumption) ?_
  rotate_left 1
  · intro w hSw
    (try dsimp only at hSw)
    go_simp
    all_goals (with_reducible rfl)
  try simp only [Act.put, List.getElem_toArray, List.getElem_cons_zero, List.getElem_cons_succ, List.setIfInBounds_toArray, List.set_cons_zero, List.set_cons_succ]
  refine wpAnyH_take (i := 1) (v := ?_) rfl (by kernel_rfl) (by kernel_rfl) (by kernel_rfl) (fun _ _ _ h => h) (Or.inl ⟨by rfl, ?_⟩) (by assumption) ?_
  rotate_left 1
  · intro w hSw
    (try dsimp only at hSw)
    go_simp
    all_goals (with_reducible rfl)
  try simp only [Act.put, List.getElem_toArray, List.getElem_cons_zero, List.getElem_cons_succ, List.setIfInBounds_toArray, List.set_cons_zero, List.set_cons_succ]
  refine wpAnyH_take (i := 2) (v := ?_) rfl (by kernel_rfl) (by kernel_rfl) (by kernel_rfl) (fun _ _ _ h => h) (Or.inl ⟨by rfl, ?_⟩) (by assumption) ?_
  rotate_left 1
  · intro w hSw
    (try dsimp only at hSw)
    go_simp
    all_goals (with_reducible rfl)
  try simp only [Act.put, List.getElem_toArray, List.getElem_cons_zero, List.getElem_cons_succ, List.setIfInBounds_toArray, List.set_cons_zero, List.set_cons_succ]
  refine wpAnyH_take (i := 3) (v := ?_) rfl (by kernel_rfl) (by kernel_rfl) (by kernel_rfl) (fun _ _ _ h => h) (Or.inl ⟨by rfl, ?_⟩) (by assumption) ?_
  rotate_left 1
  · intro w hSw
    (try dsimp only at hSw)
    go_simp
    all_goals (with_reducible rfl)
  try simp only [Act.put, List.getElem_toArray, List.getElem_cons_zero, List.getElem_cons_succ, List.setIfInBounds_toArray, List.set_cons_zero, List.set_cons_succ]
  refine wpAnyH_take (i := 4) (v := ?_) rfl (by kernel_rfl) (by kernel_rfl) (by kernel_rfl) (fun _ _ _ h => h) (Or.inl ⟨by rfl, ?_⟩) (by assumption) ?_
  rotate_left 1
  · intro w hSw
    (try dsimp only at hSw)
    go_simp
    all_goals (with_reducible rfl)
  try simp only [Act.put, List.getElem_toArray, List.getElem_cons_zero, List.getElem_cons_succ, List.setIfInBounds_toArray, List.set_cons_zero, List.set_cons_succ]
  refine wpAnyH_take (i := 5) (v := ?_) rfl (by kernel_rfl) (by kernel_rfl) (by kernel_rfl) (fun _ _ _ h => h) (Or.inl ⟨by rfl, ?_⟩) (by assumption) ?_
  rotate_left 1
  · intro w hSw
    (try dsimp only at hSw)
    go_simp
    all_goals (with_reducible rfl)
  try simp only [Act.put, List.getElem_toArray, List.getElem_cons_zero, List.getElem_cons_succ, List.setIfInBounds_toArray, List.set_cons_zero, List.set_cons_succ]
  refine wpAnyH_take (i := 6) (v := ?_) rfl (by kernel_rfl) (by kernel_rfl) (by kernel_rfl) (fun _ _ _ h => h) (Or.inl ⟨by rfl, ?_⟩) (by assumption) ?_
  rotate_left 1
  · intro w hSw
    (try dsimp only at hSw)
    go_simp
    all_goals (with_reducible rfl)
  try simp only [Act.put, List.getElem_toArray, List.getElem_cons_zero, List.getElem_cons_succ, List.setIfInBounds_toArray, List.set_cons_zero, List.set_cons_succ]
  refine wpAnyH_take (i := 7) (v := ?_) rfl (by kernel_rfl) (by kernel_rfl) (by kernel_rfl) (fun _ _ _ h => h) (Or.inl ⟨by rfl, ?_⟩) (by assumption) ?_
  rotate_left 1
  · intro w hSw
    (try dsimp only at hSw)
    go_simp
    all_goals (with_reducible rfl)
  try simp only [Act.put, List.getElem_toArray, List.getElem_cons_zero, List.getElem_cons_succ, List.setIfInBounds_toArray, List.set_cons_zero, List.set_cons_succ]
  refine wpAnyH_take (i := 8) (v := ?_) rfl (by kernel_rfl) (by kernel_rfl) (by kernel_rfl) (fun _ _ _ h => h) (Or.inl ⟨by rfl, ?_⟩) (by assumption) ?_
  rotate_left 1
  · intro w hSw
    (try dsimp only at hSw)
    go_simp
    all_goals (with_reducible rfl)
  try simp only [Act.put, List.getElem_toArray, List.getElem_cons_zero, List.getElem_cons_succ, List.setIfInBounds_toArray, List.set_cons_zero, List.set_cons_succ]
  refine wpAnyH_take (i := 9) (v := ?_) rfl (by kernel_rfl) (by kernel_rfl) (by kernel_rfl) (fun _ _ _ h => h) (Or.inl ⟨by rfl, ?_⟩) (by assumption) ?_
  rotate_left 1
  · intro w hSw
    (try dsimp only at hSw)
    go_simp
    all_goals (with_reducible rfl)
  try simp only [Act.put, List.getElem_toArray, List.getElem_cons_zero, List.getElem_cons_succ, List.setIfInBounds_toArray, List.set_cons_zero, List.set_cons_succ]
  refine wpAnyH_take (i := 12) (v := ?_) rfl (by kernel_rfl) (by kernel_rfl) (by kernel_rfl) (fun _ _ _ h => h) (Or.inl ⟨by rfl, ?_⟩) (by assumption) ?_
  rotate_left 1
  · intro w hSw
    (try dsimp only at hSw)
    go_simp
    all_goals (with_reducible rfl)
  try simp only [Act.put, List.getElem_toArray, List.getElem_cons_zero, List.getElem_cons_succ, List.setIfInBounds_toArray, List.set_cons_zero, List.set_cons_succ]
  refine wpAnyH_take (i := 13) (v := ?_) rfl (by kernel_rfl) (by kernel_rfl) (by kernel_rfl) (fun _ _ _ h => h) (Or.inl ⟨by rfl, ?_⟩) (by assumption) ?_
  rotate_left 1
  · intro w hSw
    (try dsimp only at hSw)
    go_simp
    all_goals (with_reducible rfl)
  try simp only [Act.put, List.getElem_toArray, List.getElem_cons_zero, List.getElem_cons_succ, List.setIfInBounds_toArray, List.set_cons_zero, List.set_cons_succ]
  refine wpAnyH_take (i := 14) (v := ?_) rfl (by kernel_rfl) (by kernel_rfl) (by kernel_rfl) (fun _ _ _ h => h) (Or.inl ⟨by rfl, ?_⟩) (by assumption) ?_
  rotate_left 1
  · intro w hSw
    (try dsimp only at hSw)
    go_simp
    all_goals (with_reducible rfl)
  try simp only [Act.put, List.getElem_toArray, List.getElem_cons_zero, List.getElem_cons_succ, List.setIfInBounds_toArray, List.set_cons_zero, List.set_cons_succ]
  refine wpAnyH_take (i := 15) (v := ?_) rfl (by kernel_rfl) (by kernel_rfl) (by kernel_rfl) (fun _ _ _ h => h) (Or.inl ⟨by rfl, ?_⟩) (by assumption) ?_
  rotate_left 1
  · intro w hSw
    (try dsimp only at hSw)
    go_simp
    all_goals (with_reducible rfl)
  try simp only [Act.put, List.getElem_toArray, List.getElem_cons_zero, List.getElem_cons_succ, List.setIfInBounds_toArray, List.set_cons_zero, List.set_cons_succ]
  refine wpAnyH_take (i := 16) (v := ?_) rfl (by kernel_rfl) (by kernel_rfl) (by kernel_rfl) (fun _ _ _ h => h) (Or.inl ⟨by rfl, ?_⟩) (by assumption) ?_
  rotate_left 1
  · intro w hSw
    (try dsimp only at hSw)
    go_simp
    all_goals (with_reducible rfl)
  try simp only [Act.put, List.getElem_toArray, List.getElem_cons_zero, List.getElem_cons_succ, List.setIfInBounds_toArray, List.set_cons_zero, List.set_cons_succ]
  refine wpAnyH_ready (rs := [10]) (by kernel_rfl) (by simp) ?_
  refine AllReadyH.cons rfl (fun K hK => ?_) AllReadyH.nil
  go_simp
  refine HINF.out.mono ?_
  rintro e w1 ⟨rfl, hb⟩
  have HT1 := Lib.hid (HT0.out.below hb)
  clear hb HINF
  refine hK.out _ _ (⟨HT1.out.blk.cell 1 rfl, HT1.out.blk.cell 2 rfl, HT1.out.blk.cell 4 rfl⟩) (fun hHeld => ?_)
  clear hK K
  try simp only [Act.put, List.getElem_toArray, List.getElem_cons_zero, List.getElem_cons_succ, List.setIfInBounds_toArray, List.set_cons_zero, List.set_cons_succ]
  refine wpAnyH_take (i := 11) (v := ?_) rfl (by kernel_rfl) (by kernel_rfl) (by kernel_rfl) (fun _ _ _ h => h) (Or.inl ⟨by rfl, ?_⟩) (by assumption) ?_
  rotate_left 1
  · intro w hSw
    (try dsimp only at hSw)
    go_simp
    all_goals (with_reducible rfl)
  try simp only [Act.put, List.getElem_toArray, List.getElem_cons_zero, List.getElem_cons_succ, List.setIfInBounds_toArray, List.set_cons_zero, List.set_cons_succ]
  refine wpAnyH_take (i := 17) (v := ?_) rfl (by kernel_rfl) (by kernel_rfl) (by kernel_rfl) (fun _ _ _ h => h) (Or.inl ⟨by rfl, ?_⟩) (by assumption) ?_
  rotate_left 1
  · intro w hSw
    (try dsimp only at hSw)
    go_simp
    all_goals (with_reducible rfl)
  try simp only [Act.put, List.getElem_toArray, List.getElem_cons_zero, List.getElem_cons_succ, List.setIfInBounds_toArray, List.set_cons_zero, List.set_cons_succ]
  refine wpAnyH_take (i := 18) (v := ?_) rfl (by kernel_rfl) (by kernel_rfl) (by kernel_rfl) (fun _ _ _ h => h) (Or.inl ⟨by rfl, ?_⟩) (by assumption) ?_
  rotate_left 1
  · intro w hSw
    (try dsimp only at hSw)
    go_simp
    all_goals (with_reducible rfl)
  try simp only [Act.put, List.getElem_toArray, List.getElem_cons_zero, List.getElem_cons_succ, List.setIfInBounds_toArray, List.set_cons_zero, List.set_cons_succ]
  refine wpAnyH_done (by kernel_rfl) ?_ _
  have x2 : w1.cell? ⟨q, 2, none⟩ = some (.int .i64 5) := HT1.out.blk.cell 2 rfl
  have x0 : w1.cell? ⟨q, 0, none⟩ = some (.pointer (some ⟨p, 0, none⟩)) := HT1.out.blk.cell 0 rfl
  go_wp2_with fail
  refine (HCR.out _ HT1.out).mono ?_
  rintro e w6 ⟨rfl, ht⟩
  have HT6 := Lib.hid ht
  clear ht HT0 HT1 HCR x2 x0
  have x2 : w6.cell? ⟨q, 2, none⟩ = some (.int .i64 5) := HT6.out.blk.cell 2 rfl
  have xf := fun j => HT6.out.blk.free j
  have HT7 := Lib.hid (HT6.out.turn 6)
  clear HT6
  go_wp2
  go_ret
  exact ⟨_, rfl, HT7.out, HWE.out⟩

end Go.Proofs.YtdchcepgbbdmhaaGreatDoor
end

section
namespace Go.Proofs.YtdchcepgbbdmhaaGreatDoor
open Go.RowKit Go.Cor

theorem nmC_ne {v a b : Nat} (ha : a < 10) (hb : b < 10) (h : a ≠ b) : nmC v a ≠ nmC v b := fun e => by
  have h1 := congrArg (fun x : ByteArray => x.data.toList) e
  simp [nmC] at h1
  exact h (dig_inj ha hb h1)
set_option maxRecDepth 100000 in
set_option maxHeartbeats 2000000 in
theorem step_rename (q p g k : Nat) (S : Nat → Prop) (d : Dsk) (s : Vst) (lv : Value) (ps : List Pos) (w : World) (h : StepR w g p q S d k s 4 lv ps) {b : List UInt8} (hv : view d (nmC s.num 0) = some b) (hg1 : 1 ≤ s.gen) (hvt : view d (nmC s.num s.gen) = none) :
    Calls Tryz.prog 21 #[.pointer (some ⟨q, 0, none⟩)] w fun e w' => ∃ d', e = .returned .nilIface ∧ StepT w w' g p q S d' (k + 2) s 5 (s.num : Int) (s.gen : Int) (s.size : Int) lv ps ∧ Went d d' (k + 2) d.used d.now.length (fun m => if m = nmC s.num s.gen then some b else if m = nmC s.num 0 then none else view d m) := by
  have hnum : s.num < 10 := by obtain ⟨S', h1⟩ := h.ready (Below.refl w.heap.size w); exact h1.ok.num9
  have hgen : s.gen < 10 := by obtain ⟨S', h1⟩ := h.ready (Below.refl w.heap.size w); exact h1.ok.gen9
  have hfew : k + 12 ≤ 90000 := by obtain ⟨S', h1⟩ := h.ready (Below.refl w.heap.size w); exact h1.few
  have hf0 : Fs d k := by obtain ⟨S', h1⟩ := h.ready (Below.refl w.heap.size w); exact h1.lies.fs
  have HT0 := Lib.hid (h.at_.below (Below.refl w.heap.size w).drew)
  have HINF := Lib.hid (show Calls Tryz.prog 29 #[.pointer (some ⟨g, 0, none⟩)] w.drew (fun r w' => r = .returned (infoV s) ∧ Below w.drew.heap.size w.drew w') by
    obtain ⟨S', h1⟩ := h.ready (Below.refl w.heap.size w).drew
    exact info_v g p k S' d s _ h1)
  unfold infoV at HINF
  have hfld := fun W => Tryz.infoGen (.int .i64 (s.num : Int)) (.int .i64 (s.gen : Int)) (.int .i64 (s.epoch : Int)) (.int .i64 (s.size : Int)) (.int .i64 ((s.idx.length : Int) - (Q.goneN s.idx : Int))) (.int .i64 (Q.goneN s.idx : Int)) (.bool s.shut) W rfl
  have hdd := hf0.rename hv (isNm_C hnum hgen) (nmC_ne (by decide) hgen (by omega))
  rw [hvt] at hdd
  have HWE := Lib.hid (hdd.2.of (u' := d.used) (l' := d.now.length) (show d.used - olen none = d.used from Nat.sub_zero _) (show d.now.length - (if (none : Option (List UInt8)).isSome then 1 else 0) = d.now.length by simp) (fun _ => rfl))
  have HC0 := Lib.hid hdd.1
  clear hdd
  have HCR := Lib.hid (fun wx (hx : StepT w wx g p q S d k s 4 (s.num : Int) (s.gen : Int) (s.size : Int) lv ps) => (show Calls Tryz.prog 55 #[.pointer (some ⟨p, 0, none⟩), .string (nmC s.num 0), .string (nmC s.num s.gen)] wx (fun e w' => e = .returned .nilIface ∧ StepT w w' g p q S (d.rename (nmC s.num 0) (nmC s.num s.gen)).1 (k + 2) s 4 (s.num : Int) (s.gen : Int) (s.size : Int) lv ps) by
    obtain ⟨Sd, hd, hnq, hly, hnext⟩ := hx.deed
    refine (rename_u wx p Sd d k (nmC s.num 0) (nmC s.num s.gen) hd (by omega) (by show 4 ≤ _; decide) (by show 4 ≤ _; decide)).mono ?_
    rintro e w' ⟨rfl, ht⟩
    rw [HC0.out]
    exact ⟨rfl, hnext _ _ _ ht⟩))
  clear h hf0 hv hvt hg1
  go_enter Tryz.func21, Tryz.ntmps21
  go_upto_region 1 with fail
  refine wp_region_held_drew (S := (fun wx => wx.cell? ⟨q, 1, none⟩ = some (.pointer (some ⟨g, 0, none⟩)) ∧ wx.cell? ⟨q, 2, none⟩ = some (.int .i64 4) ∧ wx.cell? ⟨q, 4, none⟩ = some (.int .i64 (s.gen : Int)))) (by kernel_rfl) (⟨HT0.out.blk.cell 1 rfl, HT0.out.blk.cell 2 rfl, HT0.out.blk.cell 4 rfl⟩) (fun hHeld => ?_)
  refine wpAnyH_take (i := 0) (v := ?_) rfl (by kernel_rfl) (by kernel_rfl) (by kernel_rfl) (fun _ _ _ h => h) (Or.inl ⟨by rfl, ?_⟩) (by assumption) ?_
  rotate_left 1
  · intro w hSw
    (try dsimp only at hSw)
    go_simp
    all_goals (with_reducible rfl)
  try simp only [Act.put, List.getElem_toArray, List.getElem_cons_zero, List.getElem_cons_succ, List.setIfInBounds_toArray, List.set_cons_zero, List.set_cons_succ]
  refine wpAnyH_take (i := 1) (v := ?_) rfl (by kernel_rfl) (by kernel_rfl) (by kernel_rfl) (fun _ _ _ h => h) (Or.inl ⟨by rfl, ?_⟩) (by assumption) ?_
  rotate_left 1
  · intro w hSw
    (try dsimp only at hSw)
    go_simp
    all_goals (with_reducible rfl)
  try simp only [Act.put, List.getElem_toArray, List.getElem_cons_zero, List.getElem_cons_succ, List.setIfInBounds_toArray, List.set_cons_zero, List.set_cons_succ]
  refine wpAnyH_take (i := 2) (v := ?_) rfl (by kernel_rfl) (by kernel_rfl) (by kernel_rfl) (fun _ _ _ h => h) (Or.inl ⟨by rfl, ?_⟩) (by assumption) ?_
  rotate_left 1
  · intro w hSw
    (try dsimp only at hSw)
    go_simp
    all_goals (with_reducible rfl)
  try simp only [Act.put, List.getElem_toArray, List.getElem_cons_zero, List.getElem_cons_succ, List.setIfInBounds_toArray, List.set_cons_zero, List.set_cons_succ]
  refine wpAnyH_take (i := 3) (v := ?_) rfl (by kernel_rfl) (by kernel_rfl) (by kernel_rfl) (fun _ _ _ h => h) (Or.inl ⟨by rfl, ?_⟩) (by assumption) ?_
  rotate_left 1
  · intro w hSw
    (try dsimp only at hSw)
    go_simp
    all_goals (with_reducible rfl)
  try simp only [Act.put, List.getElem_toArray, List.getElem_cons_zero, List.getElem_cons_succ, List.setIfInBounds_toArray, List.set_cons_zero, List.set_cons_succ]
  refine wpAnyH_take (i := 4) (v := ?_) rfl (by kernel_rfl) (by kernel_rfl) (by kernel_rfl) (fun _ _ _ h => h) (Or.inl ⟨by rfl, ?_⟩) (by assumption) ?_
  rotate_left 1
  · intro w hSw
    (try dsimp only at hSw)
    go_simp
    all_goals (with_reducible rfl)
  try simp only [Act.put, List.getElem_toArray, List.getElem_cons_zero, List.getElem_cons_succ, List.setIfInBounds_toArray, List.set_cons_zero, List.set_cons_succ]
  refine wpAnyH_take (i := 5) (v := ?_) rfl (by kernel_rfl) (by kernel_rfl) (by kernel_rfl) (fun _ _ _ h => h) (Or.inl ⟨by rfl, ?_⟩) (by assumption) ?_
  rotate_left 1
  · intro w hSw
    (try dsimp only at hSw)
    go_simp
    all_goals (with_reducible rfl)
  try simp only [Act.put, List.getElem_toArray, List.getElem_cons_zero, List.getElem_cons_succ, List.setIfInBounds_toArray, List.set_cons_zero, List.set_cons_succ]
  refine wpAnyH_take (i := 6) (v := ?_) rfl (by kernel_rfl) (by kernel_rfl) (by kernel_rfl) (fun _ _ _ h => h) (Or.inl ⟨by rfl, ?_⟩) (by assumption) ?_
  rotate_left 1
  · intro w hSw
    (try dsimp only at hSw)
    go_simp
    all_goals (with_reducible rfl)
  try simp only [Act.put, List.getElem_toArray, List.getElem_cons_zero, List.getElem_cons_succ, List.setIfInBounds_toArray, List.set_cons_zero, List.set_cons_succ]
  refine wpAnyH_take (i := 7) (v := ?_) rfl (by kernel_rfl) (by kernel_rfl) (by kernel_rfl) (fun _ _ _ h => h) (Or.inl ⟨by rfl, ?_⟩) (by assumption) ?_
  rotate_left 1
  · intro w hSw
    (try dsimp only at hSw)
    go_simp
    all_goals (with_reducible rfl)
  try simp only [Act.put, List.getElem_toArray, List.getElem_cons_zero, List.getElem_cons_succ, List.setIfInBounds_toArray, List.set_cons_zero, List.set_cons_succ]
  refine wpAnyH_take (i := 8) (v := ?_) rfl (by kernel_rfl) (by kernel_rfl) (by kernel_rfl) (fun _ _ _ h => h) (Or.inl ⟨by rfl, ?_⟩) (by assumption) ?_
  rotate_left 1
  · intro w hSw
    (try dsimp only at hSw)
    go_simp
    all_goals (with_reducible rfl)
  try simp only [Act.put, List.getElem_toArray, List.getElem_cons_zero, List.getElem_cons_succ, List.setIfInBounds_toArray, List.set_cons_zero, List.set_cons_succ]
  refine wpAnyH_take (i := 9) (v := ?_) rfl (by kernel_rfl) (by kernel_rfl) (by kernel_rfl) (fun _ _ _ h => h) (Or.inl ⟨by rfl, ?_⟩) (by assumption) ?_
  rotate_left 1
  · intro w hSw
    (try dsimp only at hSw)
    go_simp
    all_goals (with_reducible rfl)
  try simp only [Act.put, List.getElem_toArray, List.getElem_cons_zero, List.getElem_cons_succ, List.setIfInBounds_toArray, List.set_cons_zero, List.set_cons_succ]
  refine wpAnyH_take (i := 12) (v := ?_) rfl (by kernel_rfl) (by kernel_rfl) (by kernel_rfl) (fun _ _ _ h => h) (Or.inl ⟨by rfl, ?_⟩) (by assumption) ?_
  rotate_left 1
  · intro w hSw
    (try dsimp only at hSw)
    go_simp
    all_goals (with_reducible rfl)
  try simp only [Act.put, List.getElem_toArray, List.getElem_cons_zero, List.getElem_cons_succ, List.setIfInBounds_toArray, List.set_cons_zero, List.set_cons_succ]
  refine wpAnyH_take (i := 13) (v := ?_) rfl (by kernel_rfl) (by kernel_rfl) (by kernel_rfl) (fun _ _ _ h => h) (Or.inl ⟨by rfl, ?_⟩) (by assumption) ?_
  rotate_left 1
  · intro w hSw
    (try dsimp only at hSw)
    go_simp
    all_goals (with_reducible rfl)
  try simp only [Act.put, List.getElem_toArray, List.getElem_cons_zero, List.getElem_cons_succ, List.setIfInBounds_toArray, List.set_cons_zero, List.set_cons_succ]
  refine wpAnyH_take (i := 14) (v := ?_) rfl (by kernel_rfl) (by kernel_rfl) (by kernel_rfl) (fun _ _ _ h => h) (Or.inl ⟨by rfl, ?_⟩) (by assumption) ?_
  rotate_left 1
  · intro w hSw
    (try dsimp only at hSw)
    go_simp
    all_goals (with_reducible rfl)
  try simp only [Act.put, List.getElem_toArray, List.getElem_cons_zero, List.getElem_cons_succ, List.setIfInBounds_toArray, List.set_cons_zero, List.set_cons_succ]
  refine wpAnyH_take (i := 15) (v := ?_) rfl (by kernel_rfl) (by kernel_rfl) (by kernel_rfl) (fun _ _ _ h => h) (Or.inl ⟨by rfl, ?_⟩) (by assumption) ?_
  rotate_left 1
  · intro w hSw
    (try dsimp only at hSw)
    go_simp
    all_goals (with_reducible rfl)
  try simp only [Act.put, List.getElem_toArray, List.getElem_cons_zero, List.getElem_cons_succ, List.setIfInBounds_toArray, List.set_cons_zero, List.set_cons_succ]
  refine wpAnyH_take (i := 16) (v := ?_) rfl (by kernel_rfl) (by kernel_rfl) (by kernel_rfl) (fun _ _ _ h => h) (Or.inl ⟨by rfl, ?_⟩) (by assumption) ?_
  rotate_left 1
  · intro w hSw
    (try dsimp only at hSw)
    go_simp
    all_goals (with_reducible rfl)
  try simp only [Act.put, List.getElem_toArray, List.getElem_cons_zero, List.getElem_cons_succ, List.setIfInBounds_toArray, List.set_cons_zero, List.set_cons_succ]
  refine wpAnyH_ready (rs := [10]) (by kernel_rfl) (by simp) ?_
  refine AllReadyH.cons rfl (fun K hK => ?_) AllReadyH.nil
  go_simp
  refine HINF.out.mono ?_
  rintro e w1 ⟨rfl, hb⟩
  have HT1 := Lib.hid (HT0.out.below hb)
  clear hb HINF
  refine hK.out _ _ (⟨HT1.out.blk.cell 1 rfl, HT1.out.blk.cell 2 rfl, HT1.out.blk.cell 4 rfl⟩) (fun hHeld => ?_)
  clear hK K
  try simp only [Act.put, List.getElem_toArray, List.getElem_cons_zero, List.getElem_cons_succ, List.setIfInBounds_toArray, List.set_cons_zero, List.set_cons_succ]
  refine wpAnyH_take (i := 11) (v := ?_) rfl (by kernel_rfl) (by kernel_rfl) (by kernel_rfl) (fun _ _ _ h => h) (Or.inl ⟨by rfl, ?_⟩) (by assumption) ?_
  rotate_left 1
  · intro w hSw
    (try dsimp only at hSw)
    go_simp
    all_goals (with_reducible rfl)
  try simp only [Act.put, List.getElem_toArray, List.getElem_cons_zero, List.getElem_cons_succ, List.setIfInBounds_toArray, List.set_cons_zero, List.set_cons_succ]
  refine wpAnyH_take (i := 17) (v := ?_) rfl (by kernel_rfl) (by kernel_rfl) (by kernel_rfl) (fun _ _ _ h => h) (Or.inl ⟨by rfl, ?_⟩) (by assumption) ?_
  rotate_left 1
  · intro w hSw
    (try dsimp only at hSw)
    go_simp
    all_goals (with_reducible rfl)
  try simp only [Act.put, List.getElem_toArray, List.getElem_cons_zero, List.getElem_cons_succ, List.setIfInBounds_toArray, List.set_cons_zero, List.set_cons_succ]
  refine wpAnyH_take (i := 18) (v := ?_) rfl (by kernel_rfl) (by kernel_rfl) (by kernel_rfl) (fun _ _ _ h => h) (Or.inl ⟨by rfl, ?_⟩) (by assumption) ?_
  rotate_left 1
  · intro w hSw
    (try dsimp only at hSw)
    go_simp
    all_goals (with_reducible rfl)
  try simp only [Act.put, List.getElem_toArray, List.getElem_cons_zero, List.getElem_cons_succ, List.setIfInBounds_toArray, List.set_cons_zero, List.set_cons_succ]
  refine wpAnyH_done (by kernel_rfl) ?_ _
  have x2 : w1.cell? ⟨q, 2, none⟩ = some (.int .i64 4) := HT1.out.blk.cell 2 rfl
  go_upto_region 20 with fail
  have HT2 := Lib.hid (HT1.out.below (Below.refl w1.heap.size w1).drew)
  refine wp_region_held_drew (S := (fun wx => wx.cell? ⟨q, 0, none⟩ = some (.pointer (some ⟨p, 0, none⟩)) ∧ wx.cell? ⟨q, 4, none⟩ = some (.int .i64 (s.gen : Int)))) (by kernel_rfl) (⟨HT2.out.blk.cell 0 rfl, HT2.out.blk.cell 4 rfl⟩) (fun hHeld => ?_)
  refine wpAnyH_take (i := 0) (v := ?_) rfl (by kernel_rfl) (by kernel_rfl) (by kernel_rfl) (fun _ _ _ h => h) (Or.inl ⟨by rfl, ?_⟩) (by assumption) ?_
  rotate_left 1
  · intro w hSw
    (try dsimp only at hSw)
    go_simp
    all_goals (with_reducible rfl)
  try simp only [Act.put, List.getElem_toArray, List.getElem_cons_zero, List.getElem_cons_succ, List.setIfInBounds_toArray, List.set_cons_zero, List.set_cons_succ]
  refine wpAnyH_take (i := 1) (v := ?_) rfl (by kernel_rfl) (by kernel_rfl) (by kernel_rfl) (fun _ _ _ h => h) (Or.inl ⟨by rfl, ?_⟩) (by assumption) ?_
  rotate_left 1
  · intro w hSw
    (try dsimp only at hSw)
    go_simp
    all_goals (with_reducible rfl)
  try simp only [Act.put, List.getElem_toArray, List.getElem_cons_zero, List.getElem_cons_succ, List.setIfInBounds_toArray, List.set_cons_zero, List.set_cons_succ]
  refine wpAnyH_take (i := 2) (v := ?_) rfl (by kernel_rfl) (by kernel_rfl) (by kernel_rfl) (fun _ _ _ h => h) (Or.inl ⟨by rfl, ?_⟩) (by assumption) ?_
  rotate_left 1
  · intro w hSw
    (try dsimp only at hSw)
    go_simp
    all_goals (with_reducible rfl)
  try simp only [Act.put, List.getElem_toArray, List.getElem_cons_zero, List.getElem_cons_succ, List.setIfInBounds_toArray, List.set_cons_zero, List.set_cons_succ]
  refine wpAnyH_take (i := 3) (v := ?_) rfl (by kernel_rfl) (by kernel_rfl) (by kernel_rfl) (fun _ _ _ h => h) (Or.inl ⟨by rfl, ?_⟩) (by assumption) ?_
  rotate_left 1
  · intro w hSw
    (try dsimp only at hSw)
    go_simp
    all_goals (with_reducible rfl)
  try simp only [Act.put, List.getElem_toArray, List.getElem_cons_zero, List.getElem_cons_succ, List.setIfInBounds_toArray, List.set_cons_zero, List.set_cons_succ]
  refine wpAnyH_take (i := 4) (v := ?_) rfl (by kernel_rfl) (by kernel_rfl) (by kernel_rfl) (fun _ _ _ h => h) (Or.inl ⟨by rfl, ?_⟩) (by assumption) ?_
  rotate_left 1
  · intro w hSw
    (try dsimp only at hSw)
    go_simp
    all_goals (with_reducible rfl)
  try simp only [Act.put, List.getElem_toArray, List.getElem_cons_zero, List.getElem_cons_succ, List.setIfInBounds_toArray, List.set_cons_zero, List.set_cons_succ]
  refine wpAnyH_take (i := 6) (v := ?_) rfl (by kernel_rfl) (by kernel_rfl) (by kernel_rfl) (fun _ _ _ h => h) (Or.inl ⟨by rfl, ?_⟩) (by assumption) ?_
  rotate_left 1
  · intro w hSw
    (try dsimp only at hSw)
    go_simp
    all_goals (with_reducible rfl)
  try simp only [Act.put, List.getElem_toArray, List.getElem_cons_zero, List.getElem_cons_succ, List.setIfInBounds_toArray, List.set_cons_zero, List.set_cons_succ]
  refine wpAnyH_take (i := 7) (v := ?_) rfl (by kernel_rfl) (by kernel_rfl) (by kernel_rfl) (fun _ _ _ h => h) (Or.inl ⟨by rfl, ?_⟩) (by assumption) ?_
  rotate_left 1
  · intro w hSw
    (try dsimp only at hSw)
    go_simp
    all_goals (with_reducible rfl)
  try simp only [Act.put, List.getElem_toArray, List.getElem_cons_zero, List.getElem_cons_succ, List.setIfInBounds_toArray, List.set_cons_zero, List.set_cons_succ]
  refine wpAnyH_take (i := 8) (v := ?_) rfl (by kernel_rfl) (by kernel_rfl) (by kernel_rfl) (fun _ _ _ h => h) (Or.inl ⟨by rfl, ?_⟩) (by assumption) ?_
  rotate_left 1
  · intro w hSw
    (try dsimp only at hSw)
    go_simp
    all_goals (with_reducible rfl)
  try simp only [Act.put, List.getElem_toArray, List.getElem_cons_zero, List.getElem_cons_succ, List.setIfInBounds_toArray, List.set_cons_zero, List.set_cons_succ]
  refine wpAnyH_take (i := 9) (v := ?_) rfl (by kernel_rfl) (by kernel_rfl) (by kernel_rfl) (fun _ _ _ h => h) (Or.inl ⟨by rfl, ?_⟩) (by assumption) ?_
  rotate_left 1
  · intro w hSw
    (try dsimp only at hSw)
    go_simp
    all_goals (with_reducible rfl)
  try simp only [Act.put, List.getElem_toArray, List.getElem_cons_zero, List.getElem_cons_succ, List.setIfInBounds_toArray, List.set_cons_zero, List.set_cons_succ]
  refine wpAnyH_take (i := 10) (v := ?_) rfl (by kernel_rfl) (by kernel_rfl) (by kernel_rfl) (fun _ _ _ h => h) (Or.inl ⟨by rfl, ?_⟩) (by assumption) ?_
  rotate_left 1
  · intro w hSw
    (try dsimp only at hSw)
    go_simp
    all_goals (with_reducible rfl)
  try simp only [Act.put, List.getElem_toArray, List.getElem_cons_zero, List.getElem_cons_succ, List.setIfInBounds_toArray, List.set_cons_zero, List.set_cons_succ]
  refine wpAnyH_take (i := 11) (v := ?_) rfl (by kernel_rfl) (by kernel_rfl) (by kernel_rfl) (fun _ _ _ h => h) (Or.inl ⟨by rfl, ?_⟩) (by assumption) ?_
  rotate_left 1
  · intro w hSw
    (try dsimp only at hSw)
    go_simp
    all_goals (with_reducible rfl)
  try simp only [Act.put, List.getElem_toArray, List.getElem_cons_zero, List.getElem_cons_succ, List.setIfInBounds_toArray, List.set_cons_zero, List.set_cons_succ]
  refine wpAnyH_ready (rs := [5]) (by kernel_rfl) (by simp) ?_
  refine AllReadyH.cons rfl (fun K hK => ?_) AllReadyH.nil
  go_simp
  refine (ckfile0 q p g s.num 4 (s.gen : Int) (s.size : Int) lv _ HT2.out.blk hnum).mono ?_
  rintro e w5 ⟨rfl, rfl⟩
  refine hK.out _ _ (⟨HT2.out.blk.cell 0 rfl, HT2.out.blk.cell 4 rfl⟩) (fun hHeld => ?_)
  clear hK K
  try simp only [Act.put, List.getElem_toArray, List.getElem_cons_zero, List.getElem_cons_succ, List.setIfInBounds_toArray, List.set_cons_zero, List.set_cons_succ]
  refine wpAnyH_ready (rs := [12]) (by kernel_rfl) (by simp) ?_
  refine AllReadyH.cons rfl (fun K hK => ?_) AllReadyH.nil
  go_simp
  refine (ckfile q p g s.num s.gen 4 (s.gen : Int) (s.size : Int) lv _ HT2.out.blk hnum hgen).mono ?_
  rintro e w5 ⟨rfl, rfl⟩
  refine hK.out _ _ (⟨HT2.out.blk.cell 0 rfl, HT2.out.blk.cell 4 rfl⟩) (fun hHeld => ?_)
  clear hK K
  try simp only [Act.put, List.getElem_toArray, List.getElem_cons_zero, List.getElem_cons_succ, List.setIfInBounds_toArray, List.set_cons_zero, List.set_cons_succ]
  refine wpAnyH_ready (rs := [13]) (by kernel_rfl) (by simp) ?_
  refine AllReadyH.cons rfl (fun K hK => ?_) AllReadyH.nil
  go_simp
  refine (HCR.out _ HT2.out).mono ?_
  rintro e w6 ⟨rfl, ht⟩
  have HT6 := Lib.hid ht
  clear ht
  refine hK.out _ _ (⟨HT6.out.blk.cell 0 rfl, HT6.out.blk.cell 4 rfl⟩) (fun hHeld => ?_)
  clear hK K
  try simp only [Act.put, List.getElem_toArray, List.getElem_cons_zero, List.getElem_cons_succ, List.setIfInBounds_toArray, List.set_cons_zero, List.set_cons_succ]
  refine wpAnyH_take (i := 14) (v := ?_) rfl (by kernel_rfl) (by kernel_rfl) (by kernel_rfl) (fun _ _ _ h => h) (Or.inl ⟨by rfl, ?_⟩) (by assumption) ?_
  rotate_left 1
  · intro w hSw
    (try dsimp only at hSw)
    go_simp
    all_goals (with_reducible rfl)
  try simp only [Act.put, List.getElem_toArray, List.getElem_cons_zero, List.getElem_cons_succ, List.setIfInBounds_toArray, List.set_cons_zero, List.set_cons_succ]
  refine wpAnyH_done (by kernel_rfl) ?_ _
  clear HT0 HT1 HT2 HCR x2
  have x2 : w6.cell? ⟨q, 2, none⟩ = some (.int .i64 4) := HT6.out.blk.cell 2 rfl
  have xf := fun j => HT6.out.blk.free j
  have HT7 := Lib.hid (HT6.out.turn 5)
  clear HT6
  go_wp2
  go_ret
  exact ⟨_, rfl, HT7.out, HWE.out⟩

end Go.Proofs.YtdchcepgbbdmhaaGreatDoor
end

section
namespace Go.Proofs.YtdchcepgbbdmhaaGreatDoor.Ck
open Go.RowKit Go.Cor Go.Proofs.YtdchcepgbbdmhaaGreatDoor.Nd

/-- Where bytes lie, if there are some. -/
theorem IsB.addr {w : World} {v : Value} {l : List UInt8} {n : Nat} (h : IsB w v l) (hn : l.length = n) (h0 : 0 < n) : ∃ b off cap, v = .slice (some ⟨b, off, none⟩) n cap ∧ n ≤ cap ∧ cap ≤ maxLen := by
  obtain ⟨a, cap, rfl, h1, h2, _, h3⟩ := h
  rcases h3 with h3 | ⟨b, off, rfl, _⟩
  · omega
  · exact ⟨b, off, cap, by rw [hn], by omega, h2⟩
theorem slice_lh_B {P : Program} {w : World} {v : Value} {l : List UInt8} (hv : IsB w v l) (T U : TypeId) (ht : P.underlying T = some (.slice U)) (hs : (P.info? U).map (·.size) = some 1) (lo hi : Nat) (h1 : lo ≤ hi) (h2 : hi ≤ l.length) :
    ∃ sv, (∀ W, (Instr.slice T v (some (.int .i64 (lo : Int))) (some (.int .i64 (hi : Int))) none).run P W = .ok sv W) ∧ IsB w sv ((l.drop lo).take (hi - lo)) := by
  obtain ⟨i, hi1, hi2⟩ := Option.map_eq_some_iff.1 hs
  obtain ⟨a, cap, rfl, k1, k2, k0, k3⟩ := hv
  have ht' : P.underlying T = some (.slice (P.elem T)) := by simp [Program.elem, ht]
  have he : P.elem T = U := by simp [Program.elem, ht]
  have hsz : ∀ W, (sizeOf U).run P W = .ok 1 W := fun W => by simp [sizeOf, typeInfo, hi1, hi2]
  refine ⟨sliced a lo hi cap 1, fun W => ?_, ?_⟩
  · rw [run_slice_lh W T _ _ _ ht' .i64 .i64 _ _ (by omega) (by omega) (by omega), he, hsz]
    simp [Result.andThen]
  · have hlen : ((l.drop lo).take (hi - lo)).length = hi - lo := by simp; omega
    unfold sliced
    refine ⟨_, _, by rw [hlen], by rw [hlen]; omega, by omega, fun hx => ?_, ?_⟩
    · split at hx
      · omega
      · have : a = none := by simpa using hx
        rw [k0 this]
        omega
    · rw [hlen]
      by_cases h0 : hi - lo = 0
      · exact .inl h0
      · rcases k3 with k3 | ⟨b, off, rfl, hc⟩
        · omega
        · rw [if_neg (by omega)]
          refine .inr ⟨b, off + lo, by simp [add_lit], fun i hi => ?_⟩
          rw [show off + lo + i = off + (lo + i) from by omega, hc (lo + i) (by omega)]
          congr 2
          simp only [List.getD_eq_getElem?_getD, List.getElem?_take, if_pos hi, List.getElem?_drop]
theorem slice_h_B {P : Program} {w : World} {v : Value} {l : List UInt8} (hv : IsB w v l) (T U : TypeId) (ht : P.underlying T = some (.slice U)) (hs : (P.info? U).map (·.size) = some 1) (hi : Nat) (h2 : hi ≤ l.length) :
    ∃ sv, (∀ W, (Instr.slice T v none (some (.int .i64 (hi : Int))) none).run P W = .ok sv W) ∧ IsB w sv (l.take hi) := by
  obtain ⟨i, hi1, hi2⟩ := Option.map_eq_some_iff.1 hs
  have HV := hv
  obtain ⟨a, cap, rfl, k1, k2, k0, k3⟩ := hv
  have ht' : P.underlying T = some (.slice (P.elem T)) := by simp [Program.elem, ht]
  have he : P.elem T = U := by simp [Program.elem, ht]
  have hsz : ∀ W, (sizeOf U).run P W = .ok 1 W := fun W => by simp [sizeOf, typeInfo, hi1, hi2]
  refine ⟨.slice a hi cap, fun W => ?_, HV.take h2⟩
  rw [run_slice_h W T _ _ _ ht' .i64 _ (by omega) (by omega), he, hsz]
  by_cases hc0 : cap = 0
  · simp [Result.andThen, sliced, hc0]
  · have hadd : (a.map fun x => x.add 0) = a := by cases a <;> simp [Addr.add]
    simp [Result.andThen, sliced, hc0, hadd]
theorem len_B {P : Program} {w : World} {v : Value} {l : List UInt8} (hv : IsB w v l) {n : Nat} (hn : l.length = n) (T ty U : TypeId) (ht : P.underlying T = some (.slice U)) (W : World) : (Builtin.len_ #[T] ty #[v]).run P W = .ok (.int .i64 (n : Int)) W := by
  obtain ⟨a, cap, rfl, k1, k2, k0, k3⟩ := hv
  subst hn
  have ht' : P.underlying T = some (.slice (P.elem T)) := by simp [Program.elem, ht]
  exact run_len_slice (P := P) W T ty a l.length cap ht'
theorem ownsRow_slice {w : World} {base : Nat} {e : TypeId} {size : Nat} {v : Value} {n : Nat} {xs : List Value} (h : w.ownsRow base e size v n xs) : ∃ x c, v = .slice x n c := by
  rcases h.2 with ⟨rfl, rfl⟩ | ⟨g, cap, cur, rfl, _⟩
  · exact ⟨_, _, rfl⟩
  · exact ⟨_, _, rfl⟩
/-- A code as an error, or none. -/
def cerr (k : Nat) : Value := if k = 0 then .nilIface else err (k : Int)
theorem cerr_0 : cerr 0 = .nilIface := rfl
theorem cerr_pos {k : Nat} (h : k ≠ 0) : cerr k = err (k : Int) := if_neg h
end Go.Proofs.YtdchcepgbbdmhaaGreatDoor.Ck
end

section
/- Checkpoints as bytes, and the checkpoint of bytes: no code is run here. -/
namespace Go.Proofs.YtdchcepgbbdmhaaGreatDoor.Ck
open Go.RowKit Go.Cor Go.Proofs.YtdchcepgbbdmhaaGreatDoor.Nd

/-- May it be, its key aside? -/
def pcan (p : Pos) : Bool := decide (0 ≤ p.off ∧ p.off ≤ 16777216 ∧ 0 ≤ p.len ∧ p.len ≤ 4096 ∧ (p.gone = true → p.len = 0))
/-- Does its key stand right? -/
def kOk (ps : List Pos) (i : Nat) : Bool := decide (i = 0 ∨ (pat ps (i - 1)).key < (pat ps i).key)
def pOk (ps : List Pos) (i : Nat) : Bool := pcan (pat ps i) && kOk ps i
def lOk (ps : List Pos) : Bool := (List.range ps.length).all (pOk ps)
def hOk (v g u : Int) : Bool := decide (1 ≤ v ∧ v ≤ 65535 ∧ 1 ≤ g ∧ g ≤ 2147483647 ∧ 0 ≤ u ∧ u ≤ 16777216)
/-- A checkpoint. -/
structure Chk where
  vol : Int
  gen : Int
  upto : Int
  l : List Pos
/-- Why it may not be. -/
def cright (c : Chk) : Nat := if 4096 < c.l.length then 2 else if hOk c.vol c.gen c.upto = false then 1 else if lOk c.l = false then 1 else 0

theorem lOk_at {ps : List Pos} (h : lOk ps = true) {i : Nat} (hi : i < ps.length) : pOk ps i = true := by
  unfold lOk at h
  rw [List.all_eq_true] at h
  exact h i (by simpa using hi)
theorem lOk_of {ps : List Pos} (h : ∀ i, i < ps.length → pOk ps i = true) : lOk ps = true := by
  unfold lOk
  rw [List.all_eq_true]
  intro i hi
  exact h i (by simpa using hi)
theorem lOk_no {ps : List Pos} {i : Nat} (hi : i < ps.length) (h : pOk ps i = false) : lOk ps = false := by
  cases hl : lOk ps with
  | false => rfl
  | true =>
    have := lOk_at hl hi
    rw [h] at this
    cases this
theorem cright_ok {c : Chk} (h : cright c = 0) : c.l.length ≤ 4096 ∧ hOk c.vol c.gen c.upto = true ∧ lOk c.l = true := by
  unfold cright at h
  split at h
  · omega
  · split at h
    · omega
    · split at h
      · omega
      · rename_i h1 h2 h3
        exact ⟨by omega, by simpa using h2, by simpa using h3⟩
theorem cright_of {c : Chk} (h1 : c.l.length ≤ 4096) (h2 : hOk c.vol c.gen c.upto = true) (h3 : lOk c.l = true) : cright c = 0 := by
  unfold cright
  rw [if_neg (by omega), if_neg (by simp [h2]), if_neg (by simp [h3])]
theorem cright_long {c : Chk} (h1 : 4096 < c.l.length) : cright c = 2 := if_pos h1
theorem cright_head {c : Chk} (h1 : c.l.length ≤ 4096) (h2 : hOk c.vol c.gen c.upto = false) : cright c = 1 := by
  unfold cright
  rw [if_neg (by omega), if_pos h2]
theorem cright_list {c : Chk} (h1 : c.l.length ≤ 4096) (h3 : lOk c.l = false) : cright c = 1 := by
  unfold cright
  rw [if_neg (by omega), if_pos h3]
  exact ite_self _

/-- A position's bytes. -/
def pbytes (p : Pos) : List UInt8 := le p.key 8 ++ le p.off.toNat 4 ++ le p.len.toNat 4 ++ le p.cookie 4 ++ le (flagN p.gone) 4
def catP : List Pos → List UInt8
  | [] => []
  | p :: r => pbytes p ++ catP r
def chead (c : Chk) : List UInt8 := le 1128811344 4 ++ le c.vol.toNat 4 ++ le c.gen.toNat 4 ++ le c.upto.toNat 4 ++ le c.l.length 4
def cbody (c : Chk) : List UInt8 := chead c ++ catP c.l
/-- A checkpoint's bytes. -/
def cbytes (c : Chk) : List UInt8 := sealed (cbody c)

theorem length_pbytes (p : Pos) : (pbytes p).length = 24 := by simp [pbytes, length_le]
theorem length_chead (c : Chk) : (chead c).length = 20 := by simp [chead, length_le]
theorem catP_append (a b : List Pos) : catP (a ++ b) = catP a ++ catP b := by
  induction a with
  | nil => rfl
  | cons n r ih => simp [catP, ih, List.append_assoc]
theorem length_catP (ps : List Pos) : (catP ps).length = 24 * ps.length := by
  induction ps with
  | nil => rfl
  | cons n r ih =>
    simp only [catP, List.length_append, length_pbytes, ih, List.length_cons]
    omega
theorem length_cbytes (c : Chk) : (cbytes c).length = 24 + 24 * c.l.length := by
  unfold cbytes cbody
  rw [length_sealed, List.length_append, length_chead, length_catP]
  omega
theorem catP_take {ps : List Pos} {i : Nat} (h : i < ps.length) : catP (ps.take (i + 1)) = catP (ps.take i) ++ pbytes (pat ps i) := by
  rw [take_snoc h, catP_append]
  simp [catP]
theorem catP_split {ps : List Pos} {i : Nat} (h : i < ps.length) : catP ps = catP (ps.take i) ++ pbytes (pat ps i) ++ catP (ps.drop (i + 1)) := by
  rw [← catP_take h, ← catP_append, List.take_append_drop]

theorem fld_mid (p l q : List UInt8) {a b k : Nat} (ha : a = p.length + b) (h : b + k ≤ l.length) : fld (p ++ l ++ q) a k = fld l b k := by
  subst ha
  unfold fld
  rw [List.append_assoc, List.drop_append, List.drop_eq_nil_of_le (by omega), List.nil_append, Nat.add_sub_cancel_left, List.drop_append_of_le_length (by omega), List.take_append_of_le_length (by simp; omega)]
theorem fld_le (p q : List UInt8) {n a k : Nat} (ha : p.length = a) (h : n < 256 ^ k) : fld (p ++ le n k ++ q) a k = n := by
  rw [fld_append p (le n k) q ha (length_le n k), num_le, Nat.mod_eq_of_lt h]

/-- What may be fits in its bytes. -/
theorem pcan_fits {p : Pos} (h : pcan p = true) : 0 ≤ p.off ∧ p.off ≤ 16777216 ∧ 0 ≤ p.len ∧ p.len ≤ 4096 ∧ (p.gone = true → p.len = 0) := of_decide_eq_true h
theorem hOk_fits {v g u : Int} (h : hOk v g u = true) : 1 ≤ v ∧ v ≤ 65535 ∧ 1 ≤ g ∧ g ≤ 2147483647 ∧ 0 ≤ u ∧ u ≤ 16777216 := of_decide_eq_true h
theorem flagN_lt (g : Bool) : flagN g ≤ 1 := by cases g <;> decide
theorem pbytes_flds {p : Pos} (hf : p.fits) (h : pcan p = true) : fld (pbytes p) 0 8 = p.key ∧ fld (pbytes p) 8 4 = p.off.toNat ∧ fld (pbytes p) 12 4 = p.len.toNat ∧ fld (pbytes p) 16 4 = p.cookie ∧ fld (pbytes p) 20 4 = flagN p.gone := by
  have hk := hf.1
  have hc := hf.2.1
  have hp := pcan_fits h
  have hg := flagN_lt p.gone
  unfold pbytes
  refine ⟨?_, ?_, ?_, ?_, ?_⟩
  · rw [List.append_assoc, List.append_assoc, List.append_assoc]
    have := fld_le [] (le p.off.toNat 4 ++ (le p.len.toNat 4 ++ (le p.cookie 4 ++ le (flagN p.gone) 4))) (n := p.key) (a := 0) (k := 8) rfl (by omega)
    simpa using this
  · rw [List.append_assoc, List.append_assoc]
    exact fld_le _ _ (by simp [length_le]) (by omega)
  · rw [List.append_assoc]
    exact fld_le _ _ (by simp [length_le]) (by omega)
  · exact fld_le _ _ (by simp [length_le]) (by omega)
  · have := fld_le (le p.key 8 ++ le p.off.toNat 4 ++ le p.len.toNat 4 ++ le p.cookie 4) [] (n := flagN p.gone) (a := 20) (k := 4) (by simp [length_le]) (by omega)
    simpa using this
theorem chead_flds {c : Chk} (h1 : c.l.length ≤ 4096) (h : hOk c.vol c.gen c.upto = true) : fld (chead c) 0 4 = 1128811344 ∧ fld (chead c) 4 4 = c.vol.toNat ∧ fld (chead c) 8 4 = c.gen.toNat ∧ fld (chead c) 12 4 = c.upto.toNat ∧ fld (chead c) 16 4 = c.l.length := by
  have hp := hOk_fits h
  unfold chead
  refine ⟨?_, ?_, ?_, ?_, ?_⟩
  · rw [List.append_assoc, List.append_assoc, List.append_assoc]
    have := fld_le [] (le c.vol.toNat 4 ++ (le c.gen.toNat 4 ++ (le c.upto.toNat 4 ++ le c.l.length 4))) (n := 1128811344) (a := 0) (k := 4) rfl (by omega)
    simpa using this
  · rw [List.append_assoc, List.append_assoc]
    exact fld_le _ _ (by simp [length_le]) (by omega)
  · rw [List.append_assoc]
    exact fld_le _ _ (by simp [length_le]) (by omega)
  · exact fld_le _ _ (by simp [length_le]) (by omega)
  · have := fld_le (le 1128811344 4 ++ le c.vol.toNat 4 ++ le c.gen.toNat 4 ++ le c.upto.toNat 4) [] (n := c.l.length) (a := 16) (k := 4) (by simp [length_le]) (by omega)
    simpa using this

/-- What stands in bytes. -/
def cnt (l : List UInt8) : Nat := fld l 16 4
def rowG (l : List UInt8) (i : Nat) : Nat := fld l (40 + 24 * i) 4
def rowP (l : List UInt8) (i : Nat) : Pos := ⟨fld l (20 + 24 * i) 8, (fld l (28 + 24 * i) 4 : Nat), (fld l (32 + 24 * i) 4 : Nat), fld l (36 + 24 * i) 4, decide (rowG l i = 1)⟩
def rowsP (l : List UInt8) (n : Nat) : List Pos := (List.range n).map (rowP l)
def getC (l : List UInt8) : Chk := ⟨(fld l 4 4 : Nat), (fld l 8 4 : Nat), (fld l 12 4 : Nat), rowsP l (cnt l)⟩
def gAll (l : List UInt8) : Bool := (List.range (cnt l)).all fun i => decide (rowG l i ≤ 1)
instance instDecSum (l : List UInt8) : Decidable (sumOk l) := inferInstanceAs (Decidable (_ = _))
/-- What is wrong with what stands ahead, or with how many bytes there are. -/
def sizedK (l : List UInt8) : Nat :=
  if l.length < 24 then 3 else if fld l 0 4 ≠ 1128811344 ∨ 4096 < cnt l then 4 else if l.length < 24 + 24 * cnt l then 3 else if 24 + 24 * cnt l < l.length then 4 else 0
/-- What is wrong. -/
def getK (l : List UInt8) : Nat :=
  if sizedK l ≠ 0 then sizedK l else if ¬ sumOk l then 5 else if gAll l = false then 4 else if cright (getC l) ≠ 0 then 4 else 0
theorem length_rowsP (l : List UInt8) (n : Nat) : (rowsP l n).length = n := by simp [rowsP]
theorem sizedK_rest {l : List UInt8} (h : 24 ≤ l.length) (h1 : fld l 0 4 = 1128811344) (h2 : cnt l ≤ 4096) : sizedK l = if l.length < 24 + 24 * cnt l then 3 else if 24 + 24 * cnt l < l.length then 4 else 0 := by
  unfold sizedK
  rw [if_neg (by omega), if_neg (by omega)]
theorem getK_ok {l : List UInt8} (h : sizedK l = 0) (h2 : sumOk l) (h3 : gAll l = true) (h4 : cright (getC l) = 0) : getK l = 0 := by
  unfold getK
  rw [if_neg (by omega), if_neg (by simp [h2]), if_neg (by simp [h3]), if_neg (by simp [h4])]
theorem gAll_of {l : List UInt8} (h : ∀ i, i < cnt l → rowG l i ≤ 1) : gAll l = true := by
  unfold gAll
  rw [List.all_eq_true]
  intro i hi
  exact decide_eq_true (h i (by simpa using hi))
/-- The numbers ahead, from the front of a checkpoint's bytes. -/
theorem front_flds {c : Chk} (h : cright c = 0) {l : List UInt8} (hl : l.take 20 = chead c) : fld l 0 4 = 1128811344 ∧ fld l 4 4 = c.vol.toNat ∧ fld l 8 4 = c.gen.toNat ∧ fld l 12 4 = c.upto.toNat ∧ fld l 16 4 = c.l.length := by
  obtain ⟨h1, h2, h3⟩ := cright_ok h
  have e := chead_flds h1 h2
  rw [← hl] at e
  rw [fld_take l (by decide), fld_take l (by decide), fld_take l (by decide), fld_take l (by decide), fld_take l (by decide)] at e
  exact e
theorem cbytes_take (c : Chk) (r : List UInt8) : (cbytes c ++ r).take 20 = chead c := by
  unfold cbytes cbody sealed
  rw [List.append_assoc, List.append_assoc]
  exact List.take_left' (length_chead c)
/-- What is put is got. -/
theorem get_put {c : Chk} (hf : ∀ p ∈ c.l, p.fits) (h : cright c = 0) : getK (cbytes c) = 0 ∧ getC (cbytes c) = c := by
  obtain ⟨h1, h2, h3⟩ := cright_ok h
  have hh := hOk_fits h2
  have ht := cbytes_take c []
  rw [List.append_nil] at ht
  obtain ⟨e0, e1, e2, e3, e4⟩ := front_flds h ht
  have hlen := length_cbytes c
  have hc : cnt (cbytes c) = c.l.length := e4
  have hs : sizedK (cbytes c) = 0 := by
    rw [sizedK_rest (by omega) e0 (by omega), if_neg (by omega), if_neg (by omega)]
  have row : ∀ i, i < c.l.length → ∀ b k, b + k ≤ 24 → fld (cbytes c) (20 + 24 * i + b) k = fld (pbytes (pat c.l i)) b k := by
    intro i hi b k hb
    unfold cbytes cbody sealed
    rw [catP_split hi]
    rw [← List.append_assoc, ← List.append_assoc, List.append_assoc (chead c ++ catP (c.l.take i) ++ pbytes (pat c.l i))]
    refine fld_mid _ _ _ ?_ (by rw [length_pbytes]; omega)
    rw [List.length_append, length_chead, length_catP, List.length_take]
    omega
  have each : ∀ i, i < c.l.length → rowG (cbytes c) i = flagN (pat c.l i).gone ∧ rowP (cbytes c) i = pat c.l i := by
    intro i hi
    have hpo := lOk_at h3 hi
    unfold pOk at hpo
    rw [Bool.and_eq_true] at hpo
    have hpc := pcan_fits hpo.1
    have hpf : (pat c.l i).fits := hf _ (List.mem_of_getElem? (get_pat hi))
    obtain ⟨f0, f1, f2, f3, f4⟩ := pbytes_flds hpf hpo.1
    have g0 := row i hi 0 8 (by omega)
    have g1 := row i hi 8 4 (by omega)
    have g2 := row i hi 12 4 (by omega)
    have g3 := row i hi 16 4 (by omega)
    have g4 := row i hi 20 4 (by omega)
    have g4' : rowG (cbytes c) i = flagN (pat c.l i).gone := by
      unfold rowG
      rw [show 40 + 24 * i = 20 + 24 * i + 20 from by omega, g4, f4]
    refine ⟨g4', ?_⟩
    apply Pos.ext'
    · show fld _ _ _ = _
      rw [show 20 + 24 * i = 20 + 24 * i + 0 from rfl, g0, f0]
    · show ((fld _ _ _ : Nat) : Int) = _
      rw [show 28 + 24 * i = 20 + 24 * i + 8 from by omega, g1, f1]
      omega
    · show ((fld _ _ _ : Nat) : Int) = _
      rw [show 32 + 24 * i = 20 + 24 * i + 12 from by omega, g2, f2]
      omega
    · show fld _ _ _ = _
      rw [show 36 + 24 * i = 20 + 24 * i + 16 from by omega, g3, f3]
    · show decide _ = _
      rw [g4']
      cases (pat c.l i).gone <;> decide
  have hrows : rowsP (cbytes c) (cnt (cbytes c)) = c.l := by
    rw [hc]
    apply List.ext_getElem?
    intro i
    by_cases hi : i < c.l.length
    · rw [get_pat hi, ← (each i hi).2]
      simp [rowsP, hi]
    · rw [List.getElem?_eq_none (by rw [length_rowsP]; omega), List.getElem?_eq_none (by omega)]
  have hC : getC (cbytes c) = c := by
    have : getC (cbytes c) = ⟨(fld (cbytes c) 4 4 : Nat), (fld (cbytes c) 8 4 : Nat), (fld (cbytes c) 12 4 : Nat), rowsP (cbytes c) (cnt (cbytes c))⟩ := rfl
    rw [this, hrows, e1, e2, e3]
    cases c
    simp only [Chk.mk.injEq, and_true]
    simp only at hh
    omega
  refine ⟨getK_ok hs (sealed_ok _) (gAll_of fun i hi => ?_) (by rw [hC]; exact h), hC⟩
  rw [hc] at hi
  rw [(each i hi).1]
  exact flagN_lt _
end Go.Proofs.YtdchcepgbbdmhaaGreatDoor.Ck
end

section
namespace Go.Proofs.YtdchcepgbbdmhaaGreatDoor.Ck
open Go.RowKit Go.Cor Go.Proofs.YtdchcepgbbdmhaaGreatDoor.Nd

theorem Tryz.infoPos : (Tryz.prog.info? 141).map (fun i => (i.zero, i.size, i.bytes)) = some (some (.agg #[.int .u64 0, .int .i64 0, .int .i64 0, .int .u32 0, .bool false]), 5, 32) := by kernel_rfl
theorem Tryz.infoPosR : (Tryz.prog.info? 94).map (fun i => (i.zero, i.size, i.bytes)) = some (some (.agg #[.int .u64 0, .int .i64 0, .int .i64 0, .int .u32 0, .bool false]), 5, 32) := by kernel_rfl
theorem Tryz.sizePos : (Tryz.prog.info? 141).map (·.size) = some 5 := by kernel_rfl
theorem Tryz.sizePosR : (Tryz.prog.info? 94).map (·.size) = some 5 := by kernel_rfl

/-- A position as a value, and as cells. -/
abbrev pval (p : Pos) : Value := .agg #[.int .u64 (p.key : Int), .int .i64 p.off, .int .i64 p.len, .int .u32 (p.cookie : Int), .bool p.gone]
def pcells (p : Pos) : List Value := [.int .u64 (p.key : Int), .int .i64 p.off, .int .i64 p.len, .int .u32 (p.cookie : Int), .bool p.gone]
def pcs : List Pos → List Value
  | [] => []
  | p :: r => pcells p ++ pcs r
/-- A checkpoint as a value. -/
abbrev cval (c : Chk) (v : Value) : Value := .agg #[.int .i64 c.vol, .int .i64 c.gen, .int .i64 c.upto, v]
theorem pcs_append (a b : List Pos) : pcs (a ++ b) = pcs a ++ pcs b := by
  induction a with
  | nil => rfl
  | cons n r ih => simp [pcs, ih, List.append_assoc]
theorem pcs_one (ps : List Pos) : ∀ v ∈ pcs ps, v.oneCell' = true := by
  induction ps with
  | nil => intro v hv; cases hv
  | cons n r ih =>
    intro v hv
    rcases List.mem_append.1 hv with h | h
    · simp only [pcells, List.mem_cons, List.not_mem_nil, or_false] at h
      rcases h with rfl | rfl | rfl | rfl | rfl <;> rfl
    · exact ih v h
theorem pcells_one (p : Pos) : ∀ v ∈ pcells p, v.oneCell' = true := by
  intro v hv
  have := pcs_one [p] v
  simp only [pcs, List.append_nil] at this
  exact this hv
theorem pcs_get {ps : List Pos} {i : Nat} {p : Pos} (h : ps[i]? = some p) (j : Nat) (hj : j < 5) : (pcs ps)[i * 5 + j]? = (pcells p)[j]? := by
  induction ps generalizing i with
  | nil => simp at h
  | cons n r ih =>
    cases i with
    | zero =>
      simp only [List.getElem?_cons_zero, Option.some.injEq] at h
      subst h
      rw [Nat.zero_mul, Nat.zero_add, pcs, List.getElem?_append_left (by show j < 5; exact hj)]
    | succ i =>
      rw [List.getElem?_cons_succ] at h
      rw [pcs, List.getElem?_append_right (by show 5 ≤ _; omega)]
      show (pcs r)[(i + 1) * 5 + j - 5]? = _
      rw [show (i + 1) * 5 + j - 5 = i * 5 + j from by omega]
      exact ih h

/-- A position lies at an address. -/
def PCells (w : World) (b o : Nat) (p : Pos) : Prop :=
  w.cell? ⟨b, o, none⟩ = some (.int .u64 (p.key : Int)) ∧ w.cell? ⟨b, o + 1, none⟩ = some (.int .i64 p.off) ∧ w.cell? ⟨b, o + 2, none⟩ = some (.int .i64 p.len) ∧ w.cell? ⟨b, o + 3, none⟩ = some (.int .u32 (p.cookie : Int)) ∧ w.cell? ⟨b, o + 4, none⟩ = some (.bool p.gone)
theorem PCells.lt {w : World} {b o : Nat} {p : Pos} (h : PCells w b o p) : b < w.heap.size := cell_lt h.1
theorem PCells.mono {w w' : World} {b o B : Nat} {p : Pos} (h : PCells w b o p) (hb : Below B w w') (hB : b < B) : PCells w' b o p := by
  obtain ⟨h0, h1, h2, h3, h4⟩ := h
  exact ⟨(hb.cell (by exact hB)).trans h0, (hb.cell (by exact hB)).trans h1, (hb.cell (by exact hB)).trans h2, (hb.cell (by exact hB)).trans h3, (hb.cell (by exact hB)).trans h4⟩
/-- v is a slice of positions. -/
def IsP (w : World) (v : Value) (ps : List Pos) : Prop :=
  ∃ a cap, v = .slice a ps.length cap ∧ ps.length ≤ cap ∧ cap ≤ maxLen ∧ (ps.length = 0 ∨ ∃ b off, a = some ⟨b, off, none⟩ ∧ ∀ i, i < ps.length → PCells w b (off + i * 5) (pat ps i))
theorem IsP.nil (w : World) : IsP w (.slice none 0 0) [] := ⟨none, 0, rfl, Nat.le_refl _, Nat.zero_le _, .inl rfl⟩
theorem IsP.mono {w w' : World} {v : Value} {ps : List Pos} {B : Nat} (h : IsP w v ps) (hb : Below B w w') (hB : w.heap.size ≤ B) : IsP w' v ps := by
  obtain ⟨a, cap, rfl, h1, h2, h3⟩ := h
  refine ⟨a, cap, rfl, h1, h2, ?_⟩
  rcases h3 with h3 | ⟨b, off, rfl, hc⟩
  · exact .inl h3
  · exact .inr ⟨b, off, rfl, fun i hi => (hc i hi).mono hb (Nat.lt_of_lt_of_le (hc i hi).lt hB)⟩
theorem IsP.at_len {w : World} {v : Value} {ps : List Pos} {n : Nat} (h : IsP w v ps) (hn : ps.length = n) : ∃ x cap, v = .slice x n cap ∧ n ≤ cap ∧ cap ≤ maxLen := by
  obtain ⟨x, cap, rfl, h1, h2, _⟩ := h
  subst hn
  exact ⟨x, cap, rfl, h1, h2⟩
theorem PCells.own {w : World} {base : Nat} {e : TypeId} {g n cap : Nat} {ps : List Pos} (h : w.ownsRow base e 5 (.slice (some ⟨g, 0, none⟩) n cap) n (pcs ps)) {i : Nat} (hi : i < ps.length) (hn : n = ps.length) : PCells w g (i * 5) (pat ps i) := by
  subst hn
  have c : ∀ j, j < 5 → w.cell? ⟨g, i * 5 + j, none⟩ = (pcells (pat ps i))[j]? := fun j hj => by
    rw [h.cellAt (i * 5 + j) (by omega), pcs_get (get_pat hi) j hj]
  exact ⟨c 0 (by decide), c 1 (by decide), c 2 (by decide), c 3 (by decide), c 4 (by decide)⟩
theorem IsP.own {w : World} {base : Nat} {e : TypeId} {v : Value} {ps : List Pos} {n : Nat} (h : w.ownsRow base e 5 v n (pcs ps)) (hn : n = ps.length) : IsP w v ps := by
  subst hn
  rcases h.2 with ⟨rfl, h0⟩ | ⟨g, cap, cur, rfl, _, hg, hc, hm, hs, ht⟩
  · have : ps = [] := List.eq_nil_of_length_eq_zero h0
    subst this
    exact IsP.nil w
  · refine ⟨_, cap, rfl, hc, hm, .inr ⟨g, 0, rfl, fun i hi => ?_⟩⟩
    rw [Nat.zero_add]
    exact PCells.own h hi rfl
theorem len_P {P : Program} {w : World} {v : Value} {ps : List Pos} (hv : IsP w v ps) {n : Nat} (hn : ps.length = n) (T ty U : TypeId) (ht : P.underlying T = some (.slice U)) (W : World) : (Builtin.len_ #[T] ty #[v]).run P W = .ok (.int .i64 (n : Int)) W := by
  obtain ⟨a, cap, rfl, _⟩ := hv
  subst hn
  have ht' : P.underlying T = some (.slice (P.elem T)) := by simp [Program.elem, ht]
  exact run_len_slice (P := P) W T ty a ps.length cap ht'
theorem indexAt_P {P : Program} {w : World} {v : Value} {ps : List Pos} (hv : IsP w v ps) (T U : TypeId) (ht : P.underlying T = some (.slice U)) (hs : (P.info? U).map (·.size) = some 5) (i : Nat) (hi : i < ps.length) :
    ∃ b o, (∀ W, (Instr.indexAt T v (.int .i64 (i : Int))).run P W = .ok (.pointer (some ⟨b, o, none⟩)) W) ∧ PCells w b o (pat ps i) := by
  obtain ⟨j, hj1, hj2⟩ := Option.map_eq_some_iff.1 hs
  obtain ⟨a, cap, rfl, k1, k2, k3⟩ := hv
  rcases k3 with k3 | ⟨b, off, rfl, hc⟩
  · omega
  refine ⟨b, off + i * 5, fun W => ?_, hc i hi⟩
  have ht' : P.underlying T = some (.slice (P.elem T)) := by simp [Program.elem, ht]
  have he : P.elem T = U := by simp [Program.elem, ht]
  have hsz : ∀ W, (sizeOf U).run P W = .ok 5 W := fun W => by simp [sizeOf, typeInfo, hj1, hj2]
  have h0 : (0 : Int) ≤ (i : Int) := by omega
  have h1 : (i : Int) < (ps.length : Int) := by omega
  go_simp

/-- Is n from a to b? -/
def inB (n a b : Int) : Bool := decide (a ≤ n ∧ n ≤ b)
theorem within_any (n a b : Int) (w : World) :
    Calls Tryz.prog 134 #[.int .i64 n, .int .i64 a, .int .i64 b] w fun e w' => e = .returned (.bool (inB n a b)) ∧ w = w' := by
  by_cases h1 : a ≤ n
  · by_cases h2 : n ≤ b
    · have e : inB n a b = true := decide_eq_true ⟨h1, h2⟩
      rw [e]
      go_enter Tryz.func134, Tryz.ntmps134
      go_wp2
      go_ret
      exact ⟨rfl, rfl⟩
    · have e : inB n a b = false := decide_eq_false fun h => h2 h.2
      rw [e]
      go_enter Tryz.func134, Tryz.ntmps134
      go_wp2
      go_ret
      exact ⟨rfl, rfl⟩
  · have e : inB n a b = false := decide_eq_false fun h => h1 h.1
    rw [e]
    go_enter Tryz.func134, Tryz.ntmps134
    go_wp2
    go_ret
    exact ⟨rfl, rfl⟩

theorem num_anyC (n s : Nat) (w : World) (h : Sized (s : Int)) (hn : n ≤ great (s : Int)) :
    Calls Tryz.prog 115 #[.int .u64 n, .int .i64 (s : Int)] w fun e w' =>
      ∃ v', e = .returned v' ∧ w'.ownsRow w.heap.size 5 1 v' s (bvs (le n s)) ∧ Below w.heap.size w w' := by
  go_enter Tryz.func115, Tryz.ntmps115
  go_wp2_with fail
  refine (put_ok _ [] n s _ h hn (IsB.nil _) (by simp)).mono ?_
  rintro e w' ⟨v', rfl, hown, hb⟩
  rw [List.nil_append, length_le] at hown
  go_wp2
  go_ret
  exact ⟨_, rfl, hown, hb⟩

theorem can_any (p : Pos) (w : World) :
    Calls Tryz.prog 135 #[pval p] w fun e w' => e = .returned (.bool (pcan p)) ∧ Below w.heap.size w w' := by
  obtain ⟨key, off, len, cookie, gone⟩ := p
  have q1 : inB off 0 16777216 = decide (0 ≤ off ∧ off ≤ 16777216) := rfl
  have q2 : inB len 0 4096 = decide (0 ≤ len ∧ len ≤ 4096) := rfl
  by_cases h1 : 0 ≤ off ∧ off ≤ 16777216
  · rw [decide_eq_true h1] at q1
    by_cases h2 : 0 ≤ len ∧ len ≤ 4096
    · rw [decide_eq_true h2] at q2
      cases gone with
      | false =>
        have e : pcan ⟨key, off, len, cookie, false⟩ = true := decide_eq_true ⟨h1.1, h1.2, h2.1, h2.2, fun h => by cases h⟩
        rw [e]
        go_enter Tryz.func135, Tryz.ntmps135
        go_wp2_with (go_at_call 134; refine (within_any _ _ _ _).mono ?_; rintro e w' ⟨rfl, rfl⟩; first | rw [q1] | rw [q2])
        go_ret
        exact ⟨rfl, (Below.refl _ _).alloc (Nat.le_refl _) _⟩
      | true =>
        by_cases h3 : len = 0
        · have e : pcan ⟨key, off, len, cookie, true⟩ = true := decide_eq_true ⟨h1.1, h1.2, h2.1, h2.2, fun _ => h3⟩
          rw [e]
          subst h3
          go_enter Tryz.func135, Tryz.ntmps135
          go_wp2_with (go_at_call 134; refine (within_any _ _ _ _).mono ?_; rintro e w' ⟨rfl, rfl⟩; first | rw [q1] | rw [q2])
          go_ret
          exact ⟨rfl, (Below.refl _ _).alloc (Nat.le_refl _) _⟩
        · have e : pcan ⟨key, off, len, cookie, true⟩ = false := decide_eq_false fun h => h3 (h.2.2.2.2 rfl)
          rw [e]
          have q3 : (len == 0) = false := by simpa using h3
          go_enter Tryz.func135, Tryz.ntmps135
          go_wp2_with (go_at_call 134; refine (within_any _ _ _ _).mono ?_; rintro e w' ⟨rfl, rfl⟩; first | rw [q1] | rw [q2])
          go_ret
          exact ⟨rfl, (Below.refl _ _).alloc (Nat.le_refl _) _⟩
    · rw [decide_eq_false h2] at q2
      have e : pcan ⟨key, off, len, cookie, gone⟩ = false := decide_eq_false fun h => h2 ⟨h.2.2.1, h.2.2.2.1⟩
      rw [e]
      go_enter Tryz.func135, Tryz.ntmps135
      go_wp2_with (go_at_call 134; refine (within_any _ _ _ _).mono ?_; rintro e w' ⟨rfl, rfl⟩; first | rw [q1] | rw [q2])
      go_ret
      exact ⟨rfl, (Below.refl _ _).alloc (Nat.le_refl _) _⟩
  · rw [decide_eq_false h1] at q1
    have e : pcan ⟨key, off, len, cookie, gone⟩ = false := decide_eq_false fun h => h1 ⟨h.1, h.2.1⟩
    rw [e]
    go_enter Tryz.func135, Tryz.ntmps135
    go_wp2_with (go_at_call 134; refine (within_any _ _ _ _).mono ?_; rintro e w' ⟨rfl, rfl⟩; first | rw [q1] | rw [q2])
    go_ret
    exact ⟨rfl, (Below.refl _ _).alloc (Nat.le_refl _) _⟩

end Go.Proofs.YtdchcepgbbdmhaaGreatDoor.Ck
end
