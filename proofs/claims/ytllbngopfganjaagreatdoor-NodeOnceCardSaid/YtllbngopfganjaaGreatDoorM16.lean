/- Zl, Zx, Zy. -/
import Derived.Test.YtllbngopfganjaaGreatDoorM15
import Derived.Test.YtllbngopfganjaaGreatDoorM14
import Derived.Test.YtllbngopfganjaaGreatDoorM4
set_option linter.unusedVariables false
set_option linter.unusedSimpArgs false

section
namespace Go.Proofs.YtllbngopfganjaaGreatDoor.Nd
open Go.RowKit Go.Cor

set_option maxRecDepth 100000 in
set_option maxHeartbeats 4000000 in
theorem handle_busy (fr tt kd vo li : Int) (id : Nat) (co : Int) (has : Bool) (key ck : Nat) (gn : Bool) (x : Option Addr) (L c : Nat) (md : List UInt8) {B g b q vg p tg k : Nat} {So Sv St : Nat → Prop} {d : Dsk} {most : Int} {wv : Value} {n : NodeP} {r : Nat} (w : World) (h : ZAt w B g b q So Sv St vg p tg d k most wv n (r + 1)) (hv : IsB w (.slice x L c) md) (h5 : kd ≠ 5) (hq : mcheck ⟨fr, tt, kd, vo, li, id, co, has, ⟨key, ck, gn, md⟩⟩ = 0) (hp : tt = n.place) (hl : li = n.life) (hid : wfU id) (hfp : findP fr id n.l < 0) (hrm : decide ((n.l.length : Int) < 4096) = false) :
    Calls Tryz.prog 9 #[.pointer (some ⟨g, 0, none⟩), .agg #[.int .i64 fr, .int .i64 tt, .int .i64 kd, .int .i64 vo, .int .i64 li, .int .u64 (id : Int), .int .i64 co, .bool has, .int .u64 (key : Int), .int .u32 (ck : Int), .bool gn, .slice x L c]] w fun e w' => ∃ z y, e = .returned (.tuple #[mval ⟨tt, fr, 5, vo, li, id, 14, false, nz⟩ (.slice z 0 y), .nilIface]) ∧ IsB w' (.slice z 0 y) [] ∧ Below w.heap.size w w' := by
  have e5 : (kd == 5) = false := beq_eq_false_iff_ne.2 h5
  clear h5
  have hwf := mcheck_wfr hq
  have hB1 := below_new16 w (.cells #[.int .i64 fr, .int .i64 tt, .int .i64 kd, .int .i64 vo, .int .i64 li, .int .u64 (id : Int), .int .i64 co, .bool has, .int .u64 (key : Int), .int .u32 (ck : Int), .bool gn, .slice x L c] 45)
  have hB2 := hB1.alloc hB1.size (.cells #[.int .i64 0, .int .i64 0, .int .i64 0, .int .i64 0, .int .i64 0, .int .u64 0, .int .i64 0, .bool false, .int .u64 0, .int .u32 0, .bool false, .slice none 0 0] 45)
  have hX2 := (Blk.new w #[.int .i64 fr, .int .i64 tt, .int .i64 kd, .int .i64 vo, .int .i64 li, .int .u64 (id : Int), .int .i64 co, .bool has, .int .u64 (key : Int), .int .u32 (ck : Int), .bool gn, .slice x L c] 45).alloc (.cells #[.int .i64 0, .int .i64 0, .int .i64 0, .int .i64 0, .int .i64 0, .int .u64 0, .int .i64 0, .bool false, .int .u64 0, .int .u32 0, .bool false, .slice none 0 0] 45)
  have hZ2 := Blk.new (w.alloc (.cells #[.int .i64 fr, .int .i64 tt, .int .i64 kd, .int .i64 vo, .int .i64 li, .int .u64 (id : Int), .int .i64 co, .bool has, .int .u64 (key : Int), .int .u32 (ck : Int), .bool gn, .slice x L c] 45)) #[.int .i64 0, .int .i64 0, .int .i64 0, .int .i64 0, .int .i64 0, .int .u64 0, .int .i64 0, .bool false, .int .u64 0, .int .u32 0, .bool false, .slice none 0 0] 45
  rw [show (w.alloc (.cells #[.int .i64 fr, .int .i64 tt, .int .i64 kd, .int .i64 vo, .int .i64 li, .int .u64 (id : Int), .int .i64 co, .bool has, .int .u64 (key : Int), .int .u32 (ck : Int), .bool gn, .slice x L c] 45)).heap.size = w.heap.size + 1 by simp] at hZ2
  obtain ⟨w2, hw2⟩ : ∃ z, (w.alloc (.cells #[.int .i64 fr, .int .i64 tt, .int .i64 kd, .int .i64 vo, .int .i64 li, .int .u64 (id : Int), .int .i64 co, .bool has, .int .u64 (key : Int), .int .u32 (ck : Int), .bool gn, .slice x L c] 45)).alloc (.cells #[.int .i64 0, .int .i64 0, .int .i64 0, .int .i64 0, .int .i64 0, .int .u64 0, .int .i64 0, .bool false, .int .u64 0, .int .u32 0, .bool false, .slice none 0 0] 45) = z := ⟨_, rfl⟩
  rw [hw2] at hB2 hX2 hZ2
  have hs2 : w2.heap.size = w.heap.size + 1 + 1 := by rw [← hw2]; simp
  obtain ⟨PLC, hPLC⟩ : ∃ z, n.place = z := ⟨_, rfl⟩
  obtain ⟨NLF, hNLF⟩ : ∃ z, n.life = z := ⟨_, rfl⟩
  have h2 := h.below hB2
  have HCM := Lib.hid (fun (wx : World) (hb : Below w2.heap.size w2 wx) => show wx.cell? ⟨w.heap.size, 0, none⟩ = some (.int .i64 fr) ∧ wx.cell? ⟨w.heap.size, 1, none⟩ = some (.int .i64 tt) ∧ wx.cell? ⟨w.heap.size, 2, none⟩ = some (.int .i64 kd) ∧ wx.cell? ⟨w.heap.size, 3, none⟩ = some (.int .i64 vo) ∧ wx.cell? ⟨w.heap.size, 4, none⟩ = some (.int .i64 li) ∧ wx.cell? ⟨w.heap.size, 5, none⟩ = some (.int .u64 (id : Int)) ∧ wx.cell? ⟨w.heap.size, 6, none⟩ = some (.int .i64 co) ∧ wx.cell? ⟨w.heap.size, 7, none⟩ = some (.bool has) ∧ wx.cell? ⟨w.heap.size, 8, none⟩ = some (.int .u64 (key : Int)) ∧ wx.cell? ⟨w.heap.size, 9, none⟩ = some (.int .u32 (ck : Int)) ∧ wx.cell? ⟨w.heap.size, 10, none⟩ = some (.bool gn) ∧ wx.cell? ⟨w.heap.size, 11, none⟩ = some (.slice x L c) from
    have h := hX2.below hb hX2.lt
    ⟨h.cell 0 rfl, h.cell 1 rfl, h.cell 2 rfl, h.cell 3 rfl, h.cell 4 rfl, h.cell 5 rfl, h.cell 6 rfl, h.cell 7 rfl, h.cell 8 rfl, h.cell 9 rfl, h.cell 10 rfl, h.cell 11 rfl⟩)
  have HCN := Lib.hid (fun (wx : World) (hb : Below w2.heap.size w2 wx) => show wx.cell? ⟨g, 0, none⟩ = some (.int .i64 PLC) ∧ wx.cell? ⟨g, 1, none⟩ = some (.pointer (some ⟨p, 0, none⟩)) ∧ wx.cell? ⟨g, 2, none⟩ = some (.int .i64 NLF) ∧ wx.cell? ⟨g, 3, none⟩ = some (.bool true) ∧ wx.cell? ⟨g, 4, none⟩ = some (.map (some b)) ∧ wx.cell? ⟨g, 5, none⟩ = some (.pointer (some ⟨tg, 0, none⟩)) from by
    have h := (h2.below hb).blk
    rw [hPLC, hNLF] at h
    exact ⟨h.cell 0 rfl, h.cell 1 rfl, h.cell 2 rfl, h.cell 3 rfl, h.cell 4 rfl, h.cell 5 rfl⟩)
  have HSV := Lib.hid (serves_at h2.blk (UpD.vl h2.pt.vr.vl h2.pt.vr.lies))
  have HCK := Lib.hid (fun (wx : World) (hb : Below w2.heap.size w2 wx) => wcheck_any ⟨fr, tt, kd, vo, li, id, co, has, ⟨key, ck, gn, md⟩⟩ (.slice x L c) wx ((hv.mono hB2 (Nat.le_refl _)).mono hb (Nat.le_refl _)))
  have H2 := Lib.hid h2
  have HZ2 := Lib.hid hZ2
  have HB2 := Lib.hid hB2
  have HHV := Lib.hid hv
  have hlw : w.heap.size + 1 < w2.heap.size := by omega
  simp only [hq, cerr_0] at HCK
  clear hq
  have eP : (tt != PLC) = false := bne_eq_false_iff_eq.2 (by rw [← hPLC]; exact hp)
  clear hp
  have eL : (li != NLF) = false := bne_eq_false_iff_eq.2 (by rw [← hNLF]; exact hl)
  clear hl
  have HFD := Lib.hid (fun (wx : World) (hb : Below w2.heap.size w2 wx) => show Calls Tryz.prog 23 #[.pointer (some ⟨tg, 0, none⟩), .int .i64 fr, .int .u64 (id : Int)] wx fun e w' => ∃ az ac, e = .returned (.tuple #[.agg #[.int .i64 0, .int .i64 0, .int .i64 0, .int .i64 0, .int .i64 0, .int .u64 0, .int .i64 0, .bool false, .int .u64 0, .int .u32 0, .bool false, .slice az 0 ac], err 6]) ∧ Below wx.heap.size wx w' from by
    refine (ofind_any wx (h2.below hb).pt.tb fr id hwf hid).mono ?_
    rintro e w' ⟨z1, n1, c1, rfl, k1, k2, k3⟩
    have hfa : findM fr id n.l = mz := by unfold findM; rw [if_pos hfp]
    have hfk : findK fr id n.l = 6 := by unfold findK; rw [if_pos hfp]
    rw [hfa, hfk, cerr_pos (by decide)]
    rw [hfa] at k1
    obtain ⟨a9, c9, e9, _⟩ := k1.1
    cases e9
    exact ⟨_, _, rfl, k3⟩)
  clear hwf hid hfp
  have HRM := Lib.hid (fun (wx : World) (hb : Below w2.heap.size w2 wx) => oroom_any wx (h2.below hb).pt.tb)
  simp only [hrm] at HRM
  clear hrm
  have HRF := Lib.hid (fun (wx : World) => show Calls Tryz.prog 22 #[.agg #[.int .i64 fr, .int .i64 tt, .int .i64 kd, .int .i64 vo, .int .i64 li, .int .u64 (id : Int), .int .i64 co, .bool has, .int .u64 (key : Int), .int .u32 (ck : Int), .bool gn, .slice x L c], .int .i64 14] wx fun e w' => ∃ z y7, e = .returned (.agg #[.int .i64 tt, .int .i64 fr, .int .i64 5, .int .i64 vo, .int .i64 li, .int .u64 (id : Int), .int .i64 14, .bool false, .int .u64 0, .int .u32 0, .bool false, .slice z 0 y7]) ∧ IsB w' (.slice z 0 y7) [] ∧ Below wx.heap.size wx w' from refusal_f fr tt kd vo li id co has key ck gn x L c 14 wx)
  clear hPLC hNLF
  clear h hv hB1 hB2 hX2 hZ2 hs2 h2
  go_enter Tryz.func9, Tryz.ntmps9
  go_upto_region 1 with fail
  try rw [hw2]
  clear hw2
  go_wp2_with fail
  refine HSV.out.mono ?_
  rintro e wx ⟨rfl, rfl⟩
  go_upto_region 4 with fail
  have HU4 := Lib.hid (show Below w2.heap.size w2 w2.drew from (Below.refl _ _).drew)
  refine wp_region_held_drew (S := (fun wx => Below w2.heap.size w2 wx)) (by kernel_rfl) (HU4.out) (fun hHeld => ?_)
  obtain ⟨q4, hq4⟩ : ∃ q, w2.drew = q := ⟨_, rfl⟩
  rw [hq4] at HU4 hHeld
  rw [hq4]
  clear hq4
  refine wpAnyH_take (i := 0) (v := ?_) rfl (by kernel_rfl) (by kernel_rfl) (by kernel_rfl) (fun _ _ _ h => h) (Or.inl ⟨by rfl, ?_⟩) hHeld ?_
  rotate_left 1
  · intro w hSw
    (try dsimp only at hSw)
    go_simp
    all_goals (with_reducible rfl)
  try simp only [Act.put, List.getElem_toArray, List.getElem_cons_zero, List.getElem_cons_succ, List.setIfInBounds_toArray, List.set_cons_zero, List.set_cons_succ]
  refine wpAnyH_take (i := 1) (v := ?_) rfl (by kernel_rfl) (by kernel_rfl) (by kernel_rfl) (fun _ _ _ h => h) (Or.inl ⟨by rfl, ?_⟩) hHeld ?_
  rotate_left 1
  · intro w hSw
    obtain ⟨p0, p1, p2, p3, p4, p5, p6, p7, p8, p9, p10, p11⟩ := HCM.out w hSw
    go_simp
    all_goals (with_reducible rfl)
  try simp only [Act.put, List.getElem_toArray, List.getElem_cons_zero, List.getElem_cons_succ, List.setIfInBounds_toArray, List.set_cons_zero, List.set_cons_succ]
  refine wpAnyH_take (i := 2) (v := ?_) rfl (by kernel_rfl) (by kernel_rfl) (by kernel_rfl) (fun _ _ _ h => h) (Or.inl ⟨by rfl, ?_⟩) hHeld ?_
  rotate_left 1
  · intro w hSw
    (try dsimp only at hSw)
    go_simp
    all_goals (with_reducible rfl)
  try simp only [Act.put, List.getElem_toArray, List.getElem_cons_zero, List.getElem_cons_succ, List.setIfInBounds_toArray, List.set_cons_zero, List.set_cons_succ]
  refine wpAnyH_take (i := 3) (v := ?_) rfl (by kernel_rfl) (by kernel_rfl) (by kernel_rfl) (fun _ _ _ h => h) (Or.inl ⟨by rfl, ?_⟩) hHeld ?_
  rotate_left 1
  · intro w hSw
    (try dsimp only at hSw)
    go_simp
    all_goals (with_reducible rfl)
  try simp only [Act.put, List.getElem_toArray, List.getElem_cons_zero, List.getElem_cons_succ, List.setIfInBounds_toArray, List.set_cons_zero, List.set_cons_succ]
  refine wpAnyH_take (i := 4) (v := ?_) rfl (by kernel_rfl) (by kernel_rfl) (by kernel_rfl) (fun _ _ _ h => h) (Or.inl ⟨by rfl, ?_⟩) hHeld ?_
  rotate_left 1
  · intro w hSw
    obtain ⟨p0, p1, p2, p3, p4, p5, p6, p7, p8, p9, p10, p11⟩ := HCM.out w hSw
    go_simp
    all_goals (with_reducible rfl)
  try simp only [Act.put, List.getElem_toArray, List.getElem_cons_zero, List.getElem_cons_succ, List.setIfInBounds_toArray, List.set_cons_zero, List.set_cons_succ]
  refine wpAnyH_ready (rs := [5]) (by kernel_rfl) (by simp) ?_
  refine AllReadyH.cons rfl (fun K hK => ?_) AllReadyH.nil
  go_simp
  refine (HCK.out _ HU4.out).mono ?_
  rintro e u4 ⟨rfl, hbx⟩
  have HUu4 := Lib.hid (HU4.out.trans (hbx.mono HU4.out.size))
  clear hbx
  refine hK.out _ _ (HUu4.out) (fun hHeld => ?_)
  clear hK K
  try simp only [Act.put, List.getElem_toArray, List.getElem_cons_zero, List.getElem_cons_succ, List.setIfInBounds_toArray, List.set_cons_zero, List.set_cons_succ]
  refine wpAnyH_take (i := 6) (v := ?_) rfl (by kernel_rfl) (by kernel_rfl) (by kernel_rfl) (fun _ _ _ h => h) (Or.inl ⟨by rfl, ?_⟩) hHeld ?_
  rotate_left 1
  · intro w hSw
    (try dsimp only at hSw)
    go_simp
    all_goals (with_reducible rfl)
  try simp only [Act.put, List.getElem_toArray, List.getElem_cons_zero, List.getElem_cons_succ, List.setIfInBounds_toArray, List.set_cons_zero, List.set_cons_succ]
  refine wpAnyH_take (i := 7) (v := ?_) rfl (by kernel_rfl) (by kernel_rfl) (by kernel_rfl) (fun _ _ _ h => h) (Or.inl ⟨by rfl, ?_⟩) hHeld ?_
  rotate_left 1
  · intro w hSw
    (try dsimp only at hSw)
    go_simp
    all_goals (with_reducible rfl)
  try simp only [Act.put, List.getElem_toArray, List.getElem_cons_zero, List.getElem_cons_succ, List.setIfInBounds_toArray, List.set_cons_zero, List.set_cons_succ]
  refine wpAnyH_take (i := 8) (v := ?_) rfl (by kernel_rfl) (by kernel_rfl) (by kernel_rfl) (fun _ _ _ h => h) (Or.inl ⟨by rfl, ?_⟩) hHeld ?_
  rotate_left 1
  · intro w hSw
    (try dsimp only at hSw)
    go_simp
    all_goals (with_reducible rfl)
  try simp only [Act.put, List.getElem_toArray, List.getElem_cons_zero, List.getElem_cons_succ, List.setIfInBounds_toArray, List.set_cons_zero, List.set_cons_succ]
  refine wpAnyH_take (i := 9) (v := ?_) rfl (by kernel_rfl) (by kernel_rfl) (by kernel_rfl) (fun _ _ _ h => h) (Or.inl ⟨by rfl, ?_⟩) hHeld ?_
  rotate_left 1
  · intro w hSw
    (try dsimp only at hSw)
    go_simp
    all_goals (with_reducible rfl)
  try simp only [Act.put, List.getElem_toArray, List.getElem_cons_zero, List.getElem_cons_succ, List.setIfInBounds_toArray, List.set_cons_zero, List.set_cons_succ]
  refine wpAnyH_take (i := 10) (v := ?_) rfl (by kernel_rfl) (by kernel_rfl) (by kernel_rfl) (fun _ _ _ h => h) (Or.inl ⟨by rfl, ?_⟩) hHeld ?_
  rotate_left 1
  · intro w hSw
    obtain ⟨p0, p1, p2, p3, p4, p5, p6, p7, p8, p9, p10, p11⟩ := HCM.out w hSw
    go_simp
    all_goals (with_reducible rfl)
  try simp only [Act.put, List.getElem_toArray, List.getElem_cons_zero, List.getElem_cons_succ, List.setIfInBounds_toArray, List.set_cons_zero, List.set_cons_succ]
  refine wpAnyH_take (i := 11) (v := ?_) rfl (by kernel_rfl) (by kernel_rfl) (by kernel_rfl) (fun _ _ _ h => h) (Or.inl ⟨by rfl, ?_⟩) hHeld ?_
  rotate_left 1
  · intro w hSw
    (try dsimp only at hSw)
    go_simp
    all_goals (with_reducible rfl)
  try simp only [Act.put, List.getElem_toArray, List.getElem_cons_zero, List.getElem_cons_succ, List.setIfInBounds_toArray, List.set_cons_zero, List.set_cons_succ]
  refine wpAnyH_take (i := 12) (v := ?_) rfl (by kernel_rfl) (by kernel_rfl) (by kernel_rfl) (fun _ _ _ h => h) (Or.inl ⟨by rfl, ?_⟩) hHeld ?_
  rotate_left 1
  · intro w hSw
    (try dsimp only at hSw)
    go_simp
    all_goals (with_reducible rfl)
  try simp only [Act.put, List.getElem_toArray, List.getElem_cons_zero, List.getElem_cons_succ, List.setIfInBounds_toArray, List.set_cons_zero, List.set_cons_succ]
  refine wpAnyH_take (i := 13) (v := ?_) rfl (by kernel_rfl) (by kernel_rfl) (by kernel_rfl) (fun _ _ _ h => h) (Or.inl ⟨by rfl, ?_⟩) hHeld ?_
  rotate_left 1
  · intro w hSw
    (try dsimp only at hSw)
    go_simp
    all_goals (with_reducible rfl)
  try simp only [Act.put, List.getElem_toArray, List.getElem_cons_zero, List.getElem_cons_succ, List.setIfInBounds_toArray, List.set_cons_zero, List.set_cons_succ]
  refine wpAnyH_take (i := 14) (v := ?_) rfl (by kernel_rfl) (by kernel_rfl) (by kernel_rfl) (fun _ _ _ h => h) (Or.inl ⟨by rfl, ?_⟩) hHeld ?_
  rotate_left 1
  · intro w hSw
    obtain ⟨q0, q1, q2, q3, q4, q5⟩ := HCN.out w hSw
    go_simp
    all_goals (with_reducible rfl)
  try simp only [Act.put, List.getElem_toArray, List.getElem_cons_zero, List.getElem_cons_succ, List.setIfInBounds_toArray, List.set_cons_zero, List.set_cons_succ]
  refine wpAnyH_take (i := 15) (v := ?_) rfl (by kernel_rfl) (by kernel_rfl) (by kernel_rfl) (fun _ _ _ h => h) (Or.inl ⟨by rfl, ?_⟩) hHeld ?_
  rotate_left 1
  · intro w hSw
    (try dsimp only at hSw)
    go_simp
    all_goals (with_reducible rfl)
  try simp only [Act.put, List.getElem_toArray, List.getElem_cons_zero, List.getElem_cons_succ, List.setIfInBounds_toArray, List.set_cons_zero, List.set_cons_succ]
  refine wpAnyH_take (i := 16) (v := ?_) rfl (by kernel_rfl) (by kernel_rfl) (by kernel_rfl) (fun _ _ _ h => h) (Or.inl ⟨by rfl, ?_⟩) hHeld ?_
  rotate_left 1
  · intro w hSw
    (try dsimp only at hSw)
    go_simp
    all_goals (with_reducible rfl)
  try simp only [Act.put, List.getElem_toArray, List.getElem_cons_zero, List.getElem_cons_succ, List.setIfInBounds_toArray, List.set_cons_zero, List.set_cons_succ]
  refine wpAnyH_done (by kernel_rfl) ?_ _
  go_upto_region 6 with fail
  have HU6 := Lib.hid (show Below w2.heap.size w2 u4.drew from HUu4.out.drew)
  refine wp_region_held_drew (S := (fun wx => Below w2.heap.size w2 wx)) (by kernel_rfl) (HU6.out) (fun hHeld => ?_)
  obtain ⟨q6, hq6⟩ : ∃ q, u4.drew = q := ⟨_, rfl⟩
  rw [hq6] at HU6 hHeld
  rw [hq6]
  clear hq6
  refine wpAnyH_take (i := 0) (v := ?_) rfl (by kernel_rfl) (by kernel_rfl) (by kernel_rfl) (fun _ _ _ h => h) (Or.inl ⟨by rfl, ?_⟩) hHeld ?_
  rotate_left 1
  · intro w hSw
    (try dsimp only at hSw)
    go_simp
    all_goals (with_reducible rfl)
  try simp only [Act.put, List.getElem_toArray, List.getElem_cons_zero, List.getElem_cons_succ, List.setIfInBounds_toArray, List.set_cons_zero, List.set_cons_succ]
  refine wpAnyH_take (i := 1) (v := ?_) rfl (by kernel_rfl) (by kernel_rfl) (by kernel_rfl) (fun _ _ _ h => h) (Or.inl ⟨by rfl, ?_⟩) hHeld ?_
  rotate_left 1
  · intro w hSw
    obtain ⟨p0, p1, p2, p3, p4, p5, p6, p7, p8, p9, p10, p11⟩ := HCM.out w hSw
    go_simp
    all_goals (with_reducible rfl)
  try simp only [Act.put, List.getElem_toArray, List.getElem_cons_zero, List.getElem_cons_succ, List.setIfInBounds_toArray, List.set_cons_zero, List.set_cons_succ]
  refine wpAnyH_take (i := 2) (v := ?_) rfl (by kernel_rfl) (by kernel_rfl) (by kernel_rfl) (fun _ _ _ h => h) (Or.inl ⟨by rfl, ?_⟩) hHeld ?_
  rotate_left 1
  · intro w hSw
    (try dsimp only at hSw)
    go_simp
    all_goals (with_reducible rfl)
  try simp only [Act.put, List.getElem_toArray, List.getElem_cons_zero, List.getElem_cons_succ, List.setIfInBounds_toArray, List.set_cons_zero, List.set_cons_succ]
  refine wpAnyH_take (i := 3) (v := ?_) rfl (by kernel_rfl) (by kernel_rfl) (by kernel_rfl) (fun _ _ _ h => h) (Or.inl ⟨by rfl, ?_⟩) hHeld ?_
  rotate_left 1
  · intro w hSw
    (try dsimp only at hSw)
    go_simp
    all_goals (with_reducible rfl)
  try simp only [Act.put, List.getElem_toArray, List.getElem_cons_zero, List.getElem_cons_succ, List.setIfInBounds_toArray, List.set_cons_zero, List.set_cons_succ]
  refine wpAnyH_take (i := 4) (v := ?_) rfl (by kernel_rfl) (by kernel_rfl) (by kernel_rfl) (fun _ _ _ h => h) (Or.inl ⟨by rfl, ?_⟩) hHeld ?_
  rotate_left 1
  · intro w hSw
    (try dsimp only at hSw)
    go_simp
    all_goals (with_reducible rfl)
  try simp only [Act.put, List.getElem_toArray, List.getElem_cons_zero, List.getElem_cons_succ, List.setIfInBounds_toArray, List.set_cons_zero, List.set_cons_succ]
  refine wpAnyH_take (i := 5) (v := ?_) rfl (by kernel_rfl) (by kernel_rfl) (by kernel_rfl) (fun _ _ _ h => h) (Or.inl ⟨by rfl, ?_⟩) hHeld ?_
  rotate_left 1
  · intro w hSw
    obtain ⟨q0, q1, q2, q3, q4, q5⟩ := HCN.out w hSw
    go_simp
    all_goals (with_reducible rfl)
  try simp only [Act.put, List.getElem_toArray, List.getElem_cons_zero, List.getElem_cons_succ, List.setIfInBounds_toArray, List.set_cons_zero, List.set_cons_succ]
  refine wpAnyH_take (i := 6) (v := ?_) rfl (by kernel_rfl) (by kernel_rfl) (by kernel_rfl) (fun _ _ _ h => h) (Or.inl ⟨by rfl, ?_⟩) hHeld ?_
  rotate_left 1
  · intro w hSw
    (try dsimp only at hSw)
    go_simp
    all_goals (with_reducible rfl)
  try simp only [Act.put, List.getElem_toArray, List.getElem_cons_zero, List.getElem_cons_succ, List.setIfInBounds_toArray, List.set_cons_zero, List.set_cons_succ]
  refine wpAnyH_done (by kernel_rfl) ?_ _
  go_upto_region 10 with fail
  go_cut [8, 9] from 52 to 63 (fun q8 q9 wx => q9 = err 6 ∧ Hid (Below w2.heap.size w2 wx))
  case first =>
    have HU10 := Lib.hid (show Below w2.heap.size w2 q6.drew from HU6.out.drew)
    refine wp_region_held_drew (S := (fun wx => Below w2.heap.size w2 wx)) (by kernel_rfl) (HU10.out) (fun hHeld => ?_)
    obtain ⟨q10, hq10⟩ : ∃ q, q6.drew = q := ⟨_, rfl⟩
    rw [hq10] at HU10 hHeld
    rw [hq10]
    clear hq10
    refine wpAnyH_take (i := 0) (v := ?_) rfl (by kernel_rfl) (by kernel_rfl) (by kernel_rfl) (fun _ _ _ h => h) (Or.inl ⟨by rfl, ?_⟩) hHeld ?_
    rotate_left 1
    · intro w hSw
      (try dsimp only at hSw)
      go_simp
      all_goals (with_reducible rfl)
    try simp only [Act.put, List.getElem_toArray, List.getElem_cons_zero, List.getElem_cons_succ, List.setIfInBounds_toArray, List.set_cons_zero, List.set_cons_succ]
    refine wpAnyH_take (i := 1) (v := ?_) rfl (by kernel_rfl) (by kernel_rfl) (by kernel_rfl) (fun _ _ _ h => h) (Or.inl ⟨by rfl, ?_⟩) hHeld ?_
    rotate_left 1
    · intro w hSw
      (try dsimp only at hSw)
      go_simp
      all_goals (with_reducible rfl)
    try simp only [Act.put, List.getElem_toArray, List.getElem_cons_zero, List.getElem_cons_succ, List.setIfInBounds_toArray, List.set_cons_zero, List.set_cons_succ]
    refine wpAnyH_take (i := 2) (v := ?_) rfl (by kernel_rfl) (by kernel_rfl) (by kernel_rfl) (fun _ _ _ h => h) (Or.inl ⟨by rfl, ?_⟩) hHeld ?_
    rotate_left 1
    · intro w hSw
      (try dsimp only at hSw)
      go_simp
      all_goals (with_reducible rfl)
    try simp only [Act.put, List.getElem_toArray, List.getElem_cons_zero, List.getElem_cons_succ, List.setIfInBounds_toArray, List.set_cons_zero, List.set_cons_succ]
    refine wpAnyH_take (i := 3) (v := ?_) rfl (by kernel_rfl) (by kernel_rfl) (by kernel_rfl) (fun _ _ _ h => h) (Or.inl ⟨by rfl, ?_⟩) hHeld ?_
    rotate_left 1
    · intro w hSw
      obtain ⟨q0, q1, q2, q3, q4, q5⟩ := HCN.out w hSw
      go_simp
      all_goals (with_reducible rfl)
    try simp only [Act.put, List.getElem_toArray, List.getElem_cons_zero, List.getElem_cons_succ, List.setIfInBounds_toArray, List.set_cons_zero, List.set_cons_succ]
    refine wpAnyH_take (i := 4) (v := ?_) rfl (by kernel_rfl) (by kernel_rfl) (by kernel_rfl) (fun _ _ _ h => h) (Or.inl ⟨by rfl, ?_⟩) hHeld ?_
    rotate_left 1
    · intro w hSw
      (try dsimp only at hSw)
      go_simp
      all_goals (with_reducible rfl)
    try simp only [Act.put, List.getElem_toArray, List.getElem_cons_zero, List.getElem_cons_succ, List.setIfInBounds_toArray, List.set_cons_zero, List.set_cons_succ]
    refine wpAnyH_take (i := 5) (v := ?_) rfl (by kernel_rfl) (by kernel_rfl) (by kernel_rfl) (fun _ _ _ h => h) (Or.inl ⟨by rfl, ?_⟩) hHeld ?_
    rotate_left 1
    · intro w hSw
      obtain ⟨p0, p1, p2, p3, p4, p5, p6, p7, p8, p9, p10, p11⟩ := HCM.out w hSw
      go_simp
      all_goals (with_reducible rfl)
    try simp only [Act.put, List.getElem_toArray, List.getElem_cons_zero, List.getElem_cons_succ, List.setIfInBounds_toArray, List.set_cons_zero, List.set_cons_succ]
    refine wpAnyH_take (i := 6) (v := ?_) rfl (by kernel_rfl) (by kernel_rfl) (by kernel_rfl) (fun _ _ _ h => h) (Or.inl ⟨by rfl, ?_⟩) hHeld ?_
    rotate_left 1
    · intro w hSw
      (try dsimp only at hSw)
      go_simp
      all_goals (with_reducible rfl)
    try simp only [Act.put, List.getElem_toArray, List.getElem_cons_zero, List.getElem_cons_succ, List.setIfInBounds_toArray, List.set_cons_zero, List.set_cons_succ]
    refine wpAnyH_take (i := 7) (v := ?_) rfl (by kernel_rfl) (by kernel_rfl) (by kernel_rfl) (fun _ _ _ h => h) (Or.inl ⟨by rfl, ?_⟩) hHeld ?_
    rotate_left 1
    · intro w hSw
      obtain ⟨p0, p1, p2, p3, p4, p5, p6, p7, p8, p9, p10, p11⟩ := HCM.out w hSw
      go_simp
      all_goals (with_reducible rfl)
    try simp only [Act.put, List.getElem_toArray, List.getElem_cons_zero, List.getElem_cons_succ, List.setIfInBounds_toArray, List.set_cons_zero, List.set_cons_succ]
    refine wpAnyH_ready (rs := [8, 12]) (by kernel_rfl) (by simp) ?_
    refine AllReadyH.cons rfl (fun K hK => ?_) ?_
    · go_simp
      refine (HFD.out _ HU10.out).mono ?_
      rintro e f1 ⟨az, ac, rfl, hbx⟩
      have HUf1 := Lib.hid (HU10.out.trans (hbx.mono HU10.out.size))
      clear hbx
      refine hK.out _ _ (HUf1.out) (fun hHeld => ?_)
      clear hK K
      try simp only [Act.put, List.getElem_toArray, List.getElem_cons_zero, List.getElem_cons_succ, List.setIfInBounds_toArray, List.set_cons_zero, List.set_cons_succ]
      refine wpAnyH_take (i := 9) (v := ?_) rfl (by kernel_rfl) (by kernel_rfl) (by kernel_rfl) (fun _ _ _ h => h) (Or.inl ⟨by rfl, ?_⟩) hHeld ?_
      rotate_left 1
      · intro w hSw
        (try dsimp only at hSw)
        go_simp
        all_goals (with_reducible rfl)
      try simp only [Act.put, List.getElem_toArray, List.getElem_cons_zero, List.getElem_cons_succ, List.setIfInBounds_toArray, List.set_cons_zero, List.set_cons_succ]
      refine wpAnyH_take (i := 10) (v := ?_) rfl (by kernel_rfl) (by kernel_rfl) (by kernel_rfl) (fun _ _ _ h => h) (Or.inl ⟨by rfl, ?_⟩) hHeld ?_
      rotate_left 1
      · intro w hSw
        (try dsimp only at hSw)
        go_simp
        all_goals (with_reducible rfl)
      try simp only [Act.put, List.getElem_toArray, List.getElem_cons_zero, List.getElem_cons_succ, List.setIfInBounds_toArray, List.set_cons_zero, List.set_cons_succ]
      refine wpAnyH_take (i := 11) (v := ?_) rfl (by kernel_rfl) (by kernel_rfl) (by kernel_rfl) (fun _ _ _ h => h) (Or.inl ⟨by rfl, ?_⟩) hHeld ?_
      rotate_left 1
      · intro w hSw
        (try dsimp only at hSw)
        go_simp
        all_goals (with_reducible rfl)
      try simp only [Act.put, List.getElem_toArray, List.getElem_cons_zero, List.getElem_cons_succ, List.setIfInBounds_toArray, List.set_cons_zero, List.set_cons_succ]
      refine wpAnyH_ready (rs := [12]) (by kernel_rfl) (by simp) ?_
      refine AllReadyH.cons rfl (fun K hK => ?_) AllReadyH.nil
      go_simp
      have HA := Lib.hid (Blk.new f1 #[.int .i64 0, .int .i64 0, .int .i64 0, .int .i64 0, .int .i64 0, .int .u64 0, .int .i64 0, .bool false, .int .u64 0, .int .u32 0, .bool false, .slice none 0 0] 45)
      have HUa := Lib.hid (HUf1.out.alloc HUf1.out.size (.cells #[.int .i64 0, .int .i64 0, .int .i64 0, .int .i64 0, .int .i64 0, .int .u64 0, .int .i64 0, .bool false, .int .u64 0, .int .u32 0, .bool false, .slice none 0 0] 45))
      have hX10 : w2.heap.size ≤ f1.heap.size := HUf1.out.size
      refine hK.out _ _ (HUa.out) (fun hHeld => ?_)
      clear hK K
      try simp only [Act.put, List.getElem_toArray, List.getElem_cons_zero, List.getElem_cons_succ, List.setIfInBounds_toArray, List.set_cons_zero, List.set_cons_succ]
      obtain ⟨wa, hwa⟩ : ∃ q, f1.alloc (.cells #[.int .i64 0, .int .i64 0, .int .i64 0, .int .i64 0, .int .i64 0, .int .u64 0, .int .i64 0, .bool false, .int .u64 0, .int .u32 0, .bool false, .slice none 0 0] 45) = q := ⟨_, rfl⟩
      try rw [hwa] at hHeld
      rw [hwa] at HA HUa
      have hXl : f1.heap.size < wa.heap.size := HA.out.lt
      try rw [hwa]
      clear hwa
      refine wpAnyH_ready (rs := [13]) (by kernel_rfl) (by simp) ?_
      refine AllReadyH.cons rfl (fun K hK => ?_) AllReadyH.nil
      rw [if_pos (by rfl)]
      refine wp_store12Z 45 Tryz.sizeWMZ (.tmp 8) (.tmp 62) rfl f1.heap.size 45 HA.out rfl rfl (fun ws hxs hks => ?_)
      have HUs := Lib.hid (hks.below_trans HUa.out HUa.out.size (fun k hk e => by have := HUa.out.size; have := hX10; omega))
      have HXS := Lib.hid hxs
      have HKS := Lib.hid hks
      clear hxs hks
      refine hK.out _ _ (HUs.out) (fun hHeld => ?_)
      clear hK K
      try simp only [Act.put, List.getElem_toArray, List.getElem_cons_zero, List.getElem_cons_succ, List.setIfInBounds_toArray, List.set_cons_zero, List.set_cons_succ]
      refine wpAnyH_take (i := 14) (v := ?_) rfl (by kernel_rfl) (by kernel_rfl) (by kernel_rfl) (fun _ _ _ h => h) (Or.inl ⟨by rfl, ?_⟩) hHeld ?_
      rotate_left 1
      · intro w hSw
        (try dsimp only at hSw)
        go_simp
        all_goals (with_reducible rfl)
      try simp only [Act.put, List.getElem_toArray, List.getElem_cons_zero, List.getElem_cons_succ, List.setIfInBounds_toArray, List.set_cons_zero, List.set_cons_succ]
      refine wpAnyH_done (by kernel_rfl) ?_ _
      go_wp2_with fail
      go_meet
      case rel => exact ⟨rfl, HUs⟩
    refine AllReadyH.cons rfl (fun K hK => ?_) AllReadyH.nil
    go_simp
    have HA := Lib.hid (Blk.new q10 #[.int .i64 0, .int .i64 0, .int .i64 0, .int .i64 0, .int .i64 0, .int .u64 0, .int .i64 0, .bool false, .int .u64 0, .int .u32 0, .bool false, .slice none 0 0] 45)
    have HUa := Lib.hid (HU10.out.alloc HU10.out.size (.cells #[.int .i64 0, .int .i64 0, .int .i64 0, .int .i64 0, .int .i64 0, .int .u64 0, .int .i64 0, .bool false, .int .u64 0, .int .u32 0, .bool false, .slice none 0 0] 45))
    have hX10 : w2.heap.size ≤ q10.heap.size := HU10.out.size
    refine hK.out _ _ (HUa.out) (fun hHeld => ?_)
    clear hK K
    try simp only [Act.put, List.getElem_toArray, List.getElem_cons_zero, List.getElem_cons_succ, List.setIfInBounds_toArray, List.set_cons_zero, List.set_cons_succ]
    obtain ⟨wa, hwa⟩ : ∃ q, q10.alloc (.cells #[.int .i64 0, .int .i64 0, .int .i64 0, .int .i64 0, .int .i64 0, .int .u64 0, .int .i64 0, .bool false, .int .u64 0, .int .u32 0, .bool false, .slice none 0 0] 45) = q := ⟨_, rfl⟩
    try rw [hwa] at hHeld
    rw [hwa] at HA HUa
    have hXl : q10.heap.size < wa.heap.size := HA.out.lt
    try rw [hwa]
    clear hwa
    refine wpAnyH_ready (rs := [8]) (by kernel_rfl) (by simp) ?_
    refine AllReadyH.cons rfl (fun K hK => ?_) AllReadyH.nil
    go_simp
    refine (HFD.out _ HUa.out).mono ?_
    rintro e f1 ⟨az, ac, rfl, hbx⟩
    have HUf1 := Lib.hid (HUa.out.trans (hbx.mono HUa.out.size))
    have HXF := Lib.hid (HA.out.below hbx HA.out.lt)
    clear hbx
    refine hK.out _ _ (HUf1.out) (fun hHeld => ?_)
    clear hK K
    try simp only [Act.put, List.getElem_toArray, List.getElem_cons_zero, List.getElem_cons_succ, List.setIfInBounds_toArray, List.set_cons_zero, List.set_cons_succ]
    refine wpAnyH_take (i := 9) (v := ?_) rfl (by kernel_rfl) (by kernel_rfl) (by kernel_rfl) (fun _ _ _ h => h) (Or.inl ⟨by rfl, ?_⟩) hHeld ?_
    rotate_left 1
    · intro w hSw
      (try dsimp only at hSw)
      go_simp
      all_goals (with_reducible rfl)
    try simp only [Act.put, List.getElem_toArray, List.getElem_cons_zero, List.getElem_cons_succ, List.setIfInBounds_toArray, List.set_cons_zero, List.set_cons_succ]
    refine wpAnyH_take (i := 10) (v := ?_) rfl (by kernel_rfl) (by kernel_rfl) (by kernel_rfl) (fun _ _ _ h => h) (Or.inl ⟨by rfl, ?_⟩) hHeld ?_
    rotate_left 1
    · intro w hSw
      (try dsimp only at hSw)
      go_simp
      all_goals (with_reducible rfl)
    try simp only [Act.put, List.getElem_toArray, List.getElem_cons_zero, List.getElem_cons_succ, List.setIfInBounds_toArray, List.set_cons_zero, List.set_cons_succ]
    refine wpAnyH_take (i := 11) (v := ?_) rfl (by kernel_rfl) (by kernel_rfl) (by kernel_rfl) (fun _ _ _ h => h) (Or.inl ⟨by rfl, ?_⟩) hHeld ?_
    rotate_left 1
    · intro w hSw
      (try dsimp only at hSw)
      go_simp
      all_goals (with_reducible rfl)
    try simp only [Act.put, List.getElem_toArray, List.getElem_cons_zero, List.getElem_cons_succ, List.setIfInBounds_toArray, List.set_cons_zero, List.set_cons_succ]
    refine wpAnyH_ready (rs := [13]) (by kernel_rfl) (by simp) ?_
    refine AllReadyH.cons rfl (fun K hK => ?_) AllReadyH.nil
    rw [if_pos (by rfl)]
    refine wp_store12Z 45 Tryz.sizeWMZ (.tmp 8) (.tmp 62) rfl q10.heap.size 45 HXF.out rfl rfl (fun ws hxs hks => ?_)
    have HUs := Lib.hid (hks.below_trans HUf1.out HUf1.out.size (fun k hk e => by have := HUf1.out.size; have := hX10; omega))
    have HXS := Lib.hid hxs
    have HKS := Lib.hid hks
    clear hxs hks
    refine hK.out _ _ (HUs.out) (fun hHeld => ?_)
    clear hK K
    try simp only [Act.put, List.getElem_toArray, List.getElem_cons_zero, List.getElem_cons_succ, List.setIfInBounds_toArray, List.set_cons_zero, List.set_cons_succ]
    refine wpAnyH_take (i := 14) (v := ?_) rfl (by kernel_rfl) (by kernel_rfl) (by kernel_rfl) (fun _ _ _ h => h) (Or.inl ⟨by rfl, ?_⟩) hHeld ?_
    rotate_left 1
    · intro w hSw
      (try dsimp only at hSw)
      go_simp
      all_goals (with_reducible rfl)
    try simp only [Act.put, List.getElem_toArray, List.getElem_cons_zero, List.getElem_cons_succ, List.setIfInBounds_toArray, List.set_cons_zero, List.set_cons_succ]
    refine wpAnyH_done (by kernel_rfl) ?_ _
    go_wp2_with fail
    go_meet
    case rel => exact ⟨rfl, HUs⟩
  case rest =>
  obtain ⟨rfl, HUC⟩ := hcut
  obtain ⟨q0, q1, q2, q3, q4, q5⟩ := HCN.out _ HUC.out
  go_wp2_with fail
  refine (HRM.out _ HUC.out).mono ?_
  rintro e wr ⟨rfl, hbr⟩
  have HUR := Lib.hid (HUC.out.trans (hbr.mono HUC.out.size))
  clear q0 q1 q2 q3 q4 q5 hbr
  obtain ⟨p0, p1, p2, p3, p4, p5, p6, p7, p8, p9, p10, p11⟩ := HCM.out _ HUR.out
  go_wp2_with fail
  refine (HRF.out _).mono ?_
  rintro e u7 ⟨z, y7, rfl, hi7, hb7⟩
  have HU7 := Lib.hid (HUR.out.trans (hb7.mono HUR.out.size))
  have HI7 := Lib.hid hi7
  clear hi7 hb7
  clear p0 p1 p2 p3 p4 p5 p6 p7 p8 p9 p10 p11
  have hZu := HZ2.out.below HU7.out HZ2.out.lt
  have HF := Lib.hid (fin12z hZu (.int .i64 tt) (.int .i64 fr) (.int .i64 5) (.int .i64 vo) (.int .i64 li) (.int .u64 (id : Int)) (.int .i64 14) (.bool false) (.int .u64 0) (.int .u32 0) (.bool false) (.slice z 0 y7))
  have HBu := Lib.hid (HB2.out.trans (HU7.out.mono HB2.out.size))
  have z0 := hZu.cell 0 rfl
  have z1 := hZu.cell 1 rfl
  have z2 := hZu.cell 2 rfl
  have z3 := hZu.cell 3 rfl
  have z4 := hZu.cell 4 rfl
  have z5 := hZu.cell 5 rfl
  have z6 := hZu.cell 6 rfl
  have z7 := hZu.cell 7 rfl
  have z8 := hZu.cell 8 rfl
  have z9 := hZu.cell 9 rfl
  have z10 := hZu.cell 10 rfl
  have z11 := hZu.cell 11 rfl
  have zf := fun j => hZu.free j
  clear hZu
  go_wp2
  obtain ⟨j0, j1, j2, j3, j4, j5, j6, j7, j8, j9, j10, j11, jk⟩ := HF.out
  exact bodyPost_ret (v := .tuple #[.agg #[.int .i64 tt, .int .i64 fr, .int .i64 5, .int .i64 vo, .int .i64 li, .int .u64 (id : Int), .int .i64 14, .bool false, .int .u64 0, .int .u32 0, .bool false, .slice z 0 y7], .nilIface]) (by simp [results, Tryz.results9, go_sem, j0, j1, j2, j3, j4, j5, j6, j7, j8, j9, j10, j11]) rfl ⟨z, y7, rfl, HI7.out.kept jk (fun b hb e => absurd rfl hb.1), Below.trans_keptZ HBu.out jk (Nat.le_succ _)⟩

end Go.Proofs.YtllbngopfganjaaGreatDoor.Nd
end

section
namespace Go.Proofs.YtllbngopfganjaaGreatDoor.Nd
open Go.RowKit Go.Cor

theorem look_leZ (s : Vst) (k c : Nat) : s.look k c ≤ 17 := by
  unfold Vst.look
  split
  · omega
  · split
    · omega
    · split <;> omega
theorem put_leZ (s : Vst) (n : Ndl) : (s.put n).2 ≤ 17 := by
  have h := ncheck_le n
  unfold Vst.put
  split
  · simp
  · split
    · simp only; omega
    · split
      · simp
      · split
        · simp only; split <;> omega
        · unfold Vst.write; split <;> simp
theorem del_leZ (s : Vst) (k c : Nat) : (s.del k c).2 ≤ 17 := by
  have h := look_leZ s k c
  unfold Vst.del
  split
  · exact h
  · split
    · simp
    · unfold Vst.write; split <;> simp
theorem tellN_ok {s : Vst} (hs : ∀ n ∈ s.ns, n.fits ∧ ncheck n = 0) {key code : Nat} (hkey : key < 18446744073709551616) : ∀ t, tellN s key code = some t → t.fits ∧ ncheck t = 0 := by
  intro t ht
  exact tellO_ok hs (kd := 1) (code := code) (key := key) (got := nz) hkey (fun h => absurd h (by decide)) t ht
theorem doN_ok {s : Vst} {m : Msg} (hs : ∀ n ∈ s.ns, n.fits ∧ ncheck n = 0) (hs2 : ∀ n ∈ (doN s m).1.ns, n.fits ∧ ncheck n = 0) (hm : m.n.fits) :
    (doN s m).2.1 ≤ 17 ∧ ∀ t, (doN s m).2.2 = some t → t.fits ∧ ncheck t = 0 := by
  revert hs2
  unfold doN
  split
  · exact fun _ => ⟨show 1 ≤ 17 by decide, fun t h => by cases h⟩
  · split
    · exact fun _ => ⟨show 6 ≤ 17 by decide, fun t h => by cases h⟩
    · split
      · exact fun hs2 => ⟨put_leZ _ _, tellN_ok hs2 hm.1⟩
      · split
        · exact fun hs2 => ⟨lay_le _ _, fun t h => by cases h⟩
        · split
          · split
            · exact fun _ => ⟨show 0 ≤ 17 by decide, fun t h => hs t (newest_mem h).1⟩
            · exact fun _ => ⟨look_leZ _ _ _, tellN_ok hs hm.1⟩
          · exact fun hs2 => ⟨del_leZ _ _ _, tellN_ok hs2 hm.1⟩
theorem newM_ok {n : NodeP} {m : Msg} (hq : mcheck m = 0) (hm : m.n.fits) (hid : m.id < 18446744073709551616) (hs : ∀ x ∈ n.v.ns, x.fits ∧ ncheck x = 0) (hs2 : ∀ x ∈ (doN n.v m).1.ns, x.fits ∧ ncheck x = 0) :
    mcheck (newM n m) = 0 ∧ (newM n m).n.fits ∧ (newM n m).id < 18446744073709551616 ∧ (newM n m).n.data.length ≤ 4096 := by
  obtain ⟨h1, h2⟩ := doN_ok hs hs2 hm
  obtain ⟨⟨a1, a2, a3, a4, a5, a6, a7, a8, a9, a10, a11, a12, a13⟩, _⟩ := mcheck_ok hq
  have hg : (newM n m).good := ⟨a3, a4, a1, a2, by show (0 : Int) ≤ ((doN n.v m).2.1 : Int); omega, by show ((doN n.v m).2.1 : Int) ≤ 255; omega, by show (1 : Int) ≤ 5; decide, by show (5 : Int) ≤ 5; decide, fun h => absurd (show (5 : Int) < 5 from h) (by decide), a10, a11, a12, a13⟩
  cases ho : (doN n.v m).2.2 with
  | none =>
    have e1 : (newM n m).has = false := by show (doN n.v m).2.2.isSome = false; rw [ho]; rfl
    have e2 : (newM n m).n = nz := by show (doN n.v m).2.2.getD nz = nz; rw [ho]; rfl
    refine ⟨?_, by rw [e2]; exact ⟨by decide, by decide⟩, hid, by rw [e2]; decide⟩
    unfold mcheck
    rw [if_neg (fun h => h hg), if_neg (by rw [e1]; decide), if_pos (by rw [e2]; exact (sameN_eq _ _).2 rfl)]
  | some t =>
    have e1 : (newM n m).has = true := by show (doN n.v m).2.2.isSome = true; rw [ho]; rfl
    have e2 : (newM n m).n = t := by show (doN n.v m).2.2.getD nz = t; rw [ho]; rfl
    have h3 := h2 t ho
    refine ⟨?_, by rw [e2]; exact h3.1, hid, by rw [e2]; exact (ncheck_ok h3.2).1⟩
    unfold mcheck
    rw [if_neg (fun h => h hg), if_pos e1, e2]
    exact h3.2
theorem keepK_new {n : NodeP} {m : Msg} (hq : mcheck (newM n m) = 0) (hf : findP m.fr m.id n.l < 0) (hl : n.l.length < 4096) : keepK 4096 n.l (newM n m) = 0 := by
  unfold keepK
  rw [if_pos (show (newM n m).kd = 5 from rfl), if_pos hq, if_neg (show ¬ 0 ≤ findP (newM n m).to (newM n m).id n.l by show ¬ 0 ≤ findP m.fr m.id n.l; omega), if_neg (by omega)]
theorem answer_z (fr tt kd vo li : Int) (id : Nat) (co : Int) (has : Bool) (key ck : Nat) (gn : Bool) (x : Option Addr) (L c : Nat) (md : List UInt8) {B g b q vg p tg k : Nat} {So Sv St : Nat → Prop} {d : Dsk} {most : Int} {wv : Value} {n : NodeP} {r : Nat} (w : World) (h : ZAt w B g b q So Sv St vg p tg d k most wv n (r + 1)) (hq : mcheck ⟨fr, tt, kd, vo, li, id, co, has, ⟨key, ck, gn, md⟩⟩ = 0) (h5 : kd ≠ 5) (hv : IsB w (.slice x L c) md) (hvS : ∀ b, liesB (.slice x L c) md b → ¬ Sv b) (hf : Ndl.fits ⟨key, ck, gn, md⟩) (h3 : md.length ≤ 300) (hg : laidE w) (hB0 : 0 < B) :
    Calls Tryz.prog 25 #[.pointer (some ⟨g, 0, none⟩), .agg #[.int .i64 fr, .int .i64 tt, .int .i64 kd, .int .i64 vo, .int .i64 li, .int .u64 (id : Int), .int .i64 co, .bool has, .int .u64 (key : Int), .int .u32 (ck : Int), .bool gn, .slice x L c]] w fun e w' => ∃ ax an ac, e = .returned (mval (newM n ⟨fr, tt, kd, vo, li, id, co, has, ⟨key, ck, gn, md⟩⟩) (.slice ax an ac)) ∧ IsB w' (.slice ax an ac) (newM n ⟨fr, tt, kd, vo, li, id, co, has, ⟨key, ck, gn, md⟩⟩).n.data ∧ AnsT w w' B g b q So Sv St vg p tg most wv { n with v := (doN n.v ⟨fr, tt, kd, vo, li, id, co, has, ⟨key, ck, gn, md⟩⟩).1 } r (.slice ax an ac) (newM n ⟨fr, tt, kd, vo, li, id, co, has, ⟨key, ck, gn, md⟩⟩).n.data := by
  obtain ⟨⟨_, _, _, _, _, _, k1, k2, _, a10, a11, _⟩, _⟩ := mcheck_ok hq
  dsimp only at k1 k2 a10 a11
  cases has with
  | false => exact answer_no fr tt kd vo li id co key ck gn x L c md w h
  | true =>
    by_cases e1 : vo = 1
    · subst e1
      exact answer_do fr tt kd li id co key ck gn x L c md w h (by omega) hv hvS hf h3 hg hB0
    · exact answer_none fr tt kd vo li id co key ck gn x L c md w h e1 (wfI_of (by omega) (by omega))

end Go.Proofs.YtllbngopfganjaaGreatDoor.Nd
end

section
namespace Go.Proofs.YtllbngopfganjaaGreatDoor.Nd
open Go.RowKit Go.Cor

theorem ZPt_tab2 {w w' : World} {B vg p tg k : Nat} {So Sv St : Nat → Prop} {d : Dsk} {n : NodeP} {r : Nat} {L' : List Msg} (h : ZPt w B So Sv St vg p tg d k n r) (hT : TbT w B tg St 4096 L' w') (hl : L'.length + r ≤ 4096) :
    ∃ St', ZPt w' B So Sv St' vg p tg d k { n with l := L' } r ∧ Kept St w w' ∧ ∀ b, St' b → St b ∨ w.heap.size ≤ b := by
  obtain ⟨St', h1, h2, h3⟩ := hT
  refine ⟨St', ⟨vready_kept h.vr h3 (fun b hb => h.vt b hb), h1, h.ov, fun b hb e => ?_, fun b hb e => ?_, h.lo, fun b hb => ⟨(h.ow b hb).1, Nat.lt_of_lt_of_le (h.ow b hb).2 h3.size⟩, h.sz, h.few, h.steps, hl⟩, h3, h2⟩
  · rcases h2 b e with h5 | h5
    · exact h.ot b hb h5
    · have := (h.ow b hb).2; omega
  · rcases h2 b e with h5 | h5
    · exact h.vt b hb h5
    · have := h.vr.vl.lt b hb; omega
theorem ZAt_tab2 {w w' : World} {B g b q vg p tg k : Nat} {So Sv St : Nat → Prop} {d : Dsk} {most : Int} {wv : Value} {n : NodeP} {r : Nat} {L' : List Msg} (h : ZAt w B g b q So Sv St vg p tg d k most wv n r) (hT : TbT w B tg St 4096 L' w') (hl : L'.length + r ≤ 4096) :
    ∃ St', ZAt w' B g b q So Sv St' vg p tg d k most wv { n with l := L' } r ∧ Kept St w w' ∧ ∀ j, St' j → St j ∨ w.heap.size ≤ j := by
  obtain ⟨St', h1, h2, h3⟩ := ZPt_tab2 h.pt hT hl
  exact ⟨St', ⟨h1, h.blk.kept h2 (h.pt.ot g h.og), h.map.kept h2 (h.pt.ot b h.ob), h.hel.kept h2 (h.pt.ot q h.oq), h.og, h.ob, h.oq⟩, h2, h3⟩
/-- What answering leaves, without the parts' names. -/
structure NewT (w w' : World) (B g : Nat) (So Sv St : Nat → Prop) (n' : NodeP) (r : Nat) (sl : Value) (data : List UInt8) : Prop where
  out : ∃ S', NodeZ w' B g S' n' r ∧ (∀ j, S' j → (So j ∨ Sv j ∨ St j) ∨ w.heap.size ≤ j) ∧ Kept (fun j => So j ∨ Sv j ∨ St j) w w' ∧ ∀ j, liesB sl data j → w.heap.size ≤ j ∧ ¬ S' j
set_option maxRecDepth 100000 in
set_option maxHeartbeats 16000000 in
theorem handle_new (fr tt kd vo li : Int) (id : Nat) (co : Int) (has : Bool) (key ck : Nat) (gn : Bool) (x : Option Addr) (L c : Nat) (md : List UInt8) {B g b q vg p tg k : Nat} {So Sv St : Nat → Prop} {d : Dsk} {most : Int} {wv : Value} {n : NodeP} {r : Nat} (w : World) (h : ZAt w B g b q So Sv St vg p tg d k most wv n (r + 1)) (hv : IsB w (.slice x L c) md) (h5 : kd ≠ 5) (hq : mcheck ⟨fr, tt, kd, vo, li, id, co, has, ⟨key, ck, gn, md⟩⟩ = 0) (hp : tt = n.place) (hl : li = n.life) (hid : wfU id) (hid9 : id < 18446744073709551616) (hfp : findP fr id n.l < 0) (hrm : decide ((n.l.length : Int) < 4096) = true) (hvS : ∀ b, liesB (.slice x L c) md b → ¬ Sv b) (hf : Ndl.fits ⟨key, ck, gn, md⟩) (h3 : md.length ≤ 300) (hg : laidE w) (hB0 : 0 < B) :
    Calls Tryz.prog 9 #[.pointer (some ⟨g, 0, none⟩), .agg #[.int .i64 fr, .int .i64 tt, .int .i64 kd, .int .i64 vo, .int .i64 li, .int .u64 (id : Int), .int .i64 co, .bool has, .int .u64 (key : Int), .int .u32 (ck : Int), .bool gn, .slice x L c]] w fun e w' => ∃ ax an ac, e = .returned (.tuple #[mval (newM n ⟨fr, tt, kd, vo, li, id, co, has, ⟨key, ck, gn, md⟩⟩) (.slice ax an ac), .nilIface]) ∧ IsB w' (.slice ax an ac) (newM n ⟨fr, tt, kd, vo, li, id, co, has, ⟨key, ck, gn, md⟩⟩).n.data ∧ NewT w w' B g So Sv St ⟨n.place, n.life, (doN n.v ⟨fr, tt, kd, vo, li, id, co, has, ⟨key, ck, gn, md⟩⟩).1, n.l ++ [newM n ⟨fr, tt, kd, vo, li, id, co, has, ⟨key, ck, gn, md⟩⟩]⟩ r (.slice ax an ac) (newM n ⟨fr, tt, kd, vo, li, id, co, has, ⟨key, ck, gn, md⟩⟩).n.data := by
  have h5a := h5
  have hq0 := hq
  have e5 : (kd == 5) = false := beq_eq_false_iff_ne.2 h5
  clear h5
  have hwf := mcheck_wfr hq
  have HALL := Lib.hid h.pt.vr.ok.all
  have HOLD := Lib.hid (fun (j : Nat) (hj : So j ∨ Sv j ∨ St j) => (h.pt.at hj).2)
  have HQ := Lib.hid hq
  have HFT := Lib.hid hf
  have HFP := Lib.hid hfp
  have HRL := Lib.hid (show n.l.length < 4096 by have := of_decide_eq_true hrm; omega)
  have HID := Lib.hid (show id < 18446744073709551616 from hid9)
  have HTL := Lib.hid h.pt.tl
  have h0v : ¬ Sv 0 := fun e => by have := h.pt.lo 0 e; omega
  have hB1 := below_new16 w (.cells #[.int .i64 fr, .int .i64 tt, .int .i64 kd, .int .i64 vo, .int .i64 li, .int .u64 (id : Int), .int .i64 co, .bool has, .int .u64 (key : Int), .int .u32 (ck : Int), .bool gn, .slice x L c] 45)
  have hB2 := hB1.alloc hB1.size (.cells #[.int .i64 0, .int .i64 0, .int .i64 0, .int .i64 0, .int .i64 0, .int .u64 0, .int .i64 0, .bool false, .int .u64 0, .int .u32 0, .bool false, .slice none 0 0] 45)
  have hX2 := (Blk.new w #[.int .i64 fr, .int .i64 tt, .int .i64 kd, .int .i64 vo, .int .i64 li, .int .u64 (id : Int), .int .i64 co, .bool has, .int .u64 (key : Int), .int .u32 (ck : Int), .bool gn, .slice x L c] 45).alloc (.cells #[.int .i64 0, .int .i64 0, .int .i64 0, .int .i64 0, .int .i64 0, .int .u64 0, .int .i64 0, .bool false, .int .u64 0, .int .u32 0, .bool false, .slice none 0 0] 45)
  have hZ2 := Blk.new (w.alloc (.cells #[.int .i64 fr, .int .i64 tt, .int .i64 kd, .int .i64 vo, .int .i64 li, .int .u64 (id : Int), .int .i64 co, .bool has, .int .u64 (key : Int), .int .u32 (ck : Int), .bool gn, .slice x L c] 45)) #[.int .i64 0, .int .i64 0, .int .i64 0, .int .i64 0, .int .i64 0, .int .u64 0, .int .i64 0, .bool false, .int .u64 0, .int .u32 0, .bool false, .slice none 0 0] 45
  rw [show (w.alloc (.cells #[.int .i64 fr, .int .i64 tt, .int .i64 kd, .int .i64 vo, .int .i64 li, .int .u64 (id : Int), .int .i64 co, .bool has, .int .u64 (key : Int), .int .u32 (ck : Int), .bool gn, .slice x L c] 45)).heap.size = w.heap.size + 1 by simp] at hZ2
  obtain ⟨w2, hw2⟩ : ∃ z, (w.alloc (.cells #[.int .i64 fr, .int .i64 tt, .int .i64 kd, .int .i64 vo, .int .i64 li, .int .u64 (id : Int), .int .i64 co, .bool has, .int .u64 (key : Int), .int .u32 (ck : Int), .bool gn, .slice x L c] 45)).alloc (.cells #[.int .i64 0, .int .i64 0, .int .i64 0, .int .i64 0, .int .i64 0, .int .u64 0, .int .i64 0, .bool false, .int .u64 0, .int .u32 0, .bool false, .slice none 0 0] 45) = z := ⟨_, rfl⟩
  rw [hw2] at hB2 hX2 hZ2
  have hs2 : w2.heap.size = w.heap.size + 1 + 1 := by rw [← hw2]; simp
  obtain ⟨PLC, hPLC⟩ : ∃ z, n.place = z := ⟨_, rfl⟩
  obtain ⟨NLF, hNLF⟩ : ∃ z, n.life = z := ⟨_, rfl⟩
  have h2 := h.below hB2
  have HCM := Lib.hid (fun (wx : World) (hb : Below w2.heap.size w2 wx) => show wx.cell? ⟨w.heap.size, 0, none⟩ = some (.int .i64 fr) ∧ wx.cell? ⟨w.heap.size, 1, none⟩ = some (.int .i64 tt) ∧ wx.cell? ⟨w.heap.size, 2, none⟩ = some (.int .i64 kd) ∧ wx.cell? ⟨w.heap.size, 3, none⟩ = some (.int .i64 vo) ∧ wx.cell? ⟨w.heap.size, 4, none⟩ = some (.int .i64 li) ∧ wx.cell? ⟨w.heap.size, 5, none⟩ = some (.int .u64 (id : Int)) ∧ wx.cell? ⟨w.heap.size, 6, none⟩ = some (.int .i64 co) ∧ wx.cell? ⟨w.heap.size, 7, none⟩ = some (.bool has) ∧ wx.cell? ⟨w.heap.size, 8, none⟩ = some (.int .u64 (key : Int)) ∧ wx.cell? ⟨w.heap.size, 9, none⟩ = some (.int .u32 (ck : Int)) ∧ wx.cell? ⟨w.heap.size, 10, none⟩ = some (.bool gn) ∧ wx.cell? ⟨w.heap.size, 11, none⟩ = some (.slice x L c) from
    have h := hX2.below hb hX2.lt
    ⟨h.cell 0 rfl, h.cell 1 rfl, h.cell 2 rfl, h.cell 3 rfl, h.cell 4 rfl, h.cell 5 rfl, h.cell 6 rfl, h.cell 7 rfl, h.cell 8 rfl, h.cell 9 rfl, h.cell 10 rfl, h.cell 11 rfl⟩)
  have HCN := Lib.hid (fun (wx : World) (hb : Below w2.heap.size w2 wx) => show wx.cell? ⟨g, 0, none⟩ = some (.int .i64 PLC) ∧ wx.cell? ⟨g, 1, none⟩ = some (.pointer (some ⟨p, 0, none⟩)) ∧ wx.cell? ⟨g, 2, none⟩ = some (.int .i64 NLF) ∧ wx.cell? ⟨g, 3, none⟩ = some (.bool true) ∧ wx.cell? ⟨g, 4, none⟩ = some (.map (some b)) ∧ wx.cell? ⟨g, 5, none⟩ = some (.pointer (some ⟨tg, 0, none⟩)) from by
    have h := (h2.below hb).blk
    rw [hPLC, hNLF] at h
    exact ⟨h.cell 0 rfl, h.cell 1 rfl, h.cell 2 rfl, h.cell 3 rfl, h.cell 4 rfl, h.cell 5 rfl⟩)
  have HSV := Lib.hid (serves_at h2.blk (UpD.vl h2.pt.vr.vl h2.pt.vr.lies))
  have HCK := Lib.hid (fun (wx : World) (hb : Below w2.heap.size w2 wx) => wcheck_any ⟨fr, tt, kd, vo, li, id, co, has, ⟨key, ck, gn, md⟩⟩ (.slice x L c) wx ((hv.mono hB2 (Nat.le_refl _)).mono hb (Nat.le_refl _)))
  have H2 := Lib.hid h2
  have HZ2 := Lib.hid hZ2
  have HB2 := Lib.hid hB2
  have HHV := Lib.hid hv
  have hlw : w.heap.size + 1 < w2.heap.size := by omega
  simp only [hq, cerr_0] at HCK
  clear hq
  have eP : (tt != PLC) = false := bne_eq_false_iff_eq.2 (by rw [← hPLC]; exact hp)
  clear hp
  have eL : (li != NLF) = false := bne_eq_false_iff_eq.2 (by rw [← hNLF]; exact hl)
  clear hl
  have HFD := Lib.hid (fun (wx : World) (hb : Below w2.heap.size w2 wx) => show Calls Tryz.prog 23 #[.pointer (some ⟨tg, 0, none⟩), .int .i64 fr, .int .u64 (id : Int)] wx fun e w' => ∃ az ac, e = .returned (.tuple #[.agg #[.int .i64 0, .int .i64 0, .int .i64 0, .int .i64 0, .int .i64 0, .int .u64 0, .int .i64 0, .bool false, .int .u64 0, .int .u32 0, .bool false, .slice az 0 ac], err 6]) ∧ Below wx.heap.size wx w' from by
    refine (ofind_any wx (h2.below hb).pt.tb fr id hwf hid).mono ?_
    rintro e w' ⟨z1, n1, c1, rfl, k1, k2, k3⟩
    have hfa : findM fr id n.l = mz := by unfold findM; rw [if_pos hfp]
    have hfk : findK fr id n.l = 6 := by unfold findK; rw [if_pos hfp]
    rw [hfa, hfk, cerr_pos (by decide)]
    rw [hfa] at k1
    obtain ⟨a9, c9, e9, _⟩ := k1.1
    cases e9
    exact ⟨_, _, rfl, k3⟩)
  clear hwf hid hfp
  have HRM := Lib.hid (fun (wx : World) (hb : Below w2.heap.size w2 wx) => oroom_any wx (h2.below hb).pt.tb)
  simp only [hrm] at HRM
  clear hrm
  have hAN := fun (wx : World) (hb : Below w2.heap.size w2 wx) => answer_z fr tt kd vo li id co has key ck gn x L c md wx (h2.below hb) hq0 h5a ((hv.mono hB2 (Nat.le_refl _)).mono hb (Nat.le_refl _)) hvS hf h3 (cell_on17a hb (cell_on17a hB2 hg)) hB0
  obtain ⟨A, hA⟩ : ∃ A, newM n ⟨fr, tt, kd, vo, li, id, co, has, ⟨key, ck, gn, md⟩⟩ = A := ⟨_, rfl⟩
  obtain ⟨V, hV⟩ : ∃ V, (doN n.v ⟨fr, tt, kd, vo, li, id, co, has, ⟨key, ck, gn, md⟩⟩).1 = V := ⟨_, rfl⟩
  simp only [hA, hV] at hAN ⊢
  obtain ⟨afr, att, akd, avo, ali, aid, aco, ahas, akey, ack, agn, amd⟩ := A
  have HAN := Lib.hid (show ∀ (wx : World) (hb : Below w2.heap.size w2 wx), Calls Tryz.prog 25 #[.pointer (some ⟨g, 0, none⟩), .agg #[.int .i64 fr, .int .i64 tt, .int .i64 kd, .int .i64 vo, .int .i64 li, .int .u64 (id : Int), .int .i64 co, .bool has, .int .u64 (key : Int), .int .u32 (ck : Int), .bool gn, .slice x L c]] wx fun e w' => ∃ ax an ac, e = .returned (.agg #[.int .i64 afr, .int .i64 att, .int .i64 akd, .int .i64 avo, .int .i64 ali, .int .u64 (aid : Int), .int .i64 aco, .bool ahas, .int .u64 (akey : Int), .int .u32 (ack : Int), .bool agn, .slice ax an ac]) ∧ IsB w' (.slice ax an ac) amd ∧ AnsT wx w' B g b q So Sv St vg p tg most wv { n with v := V } r (.slice ax an ac) amd from hAN)
  have HAEQ := Lib.hid hA
  have HVEQ := Lib.hid hV
  clear hvS hf h3 hg hB0 hq0 h5a h0v hid9 hAN hA hV
  clear hPLC hNLF
  clear h hv hB1 hB2 hX2 hZ2 hs2 h2
  go_enter Tryz.func9, Tryz.ntmps9
  go_upto_region 1 with fail
  try rw [hw2]
  clear hw2
  go_wp2_with fail
  refine HSV.out.mono ?_
  rintro e wx ⟨rfl, rfl⟩
  go_upto_region 4 with fail
  have HU4 := Lib.hid (show Below w2.heap.size w2 w2.drew from (Below.refl _ _).drew)
  refine wp_region_held_drew (S := (fun wx => Below w2.heap.size w2 wx)) (by kernel_rfl) (HU4.out) (fun hHeld => ?_)
  obtain ⟨q4, hq4⟩ : ∃ q, w2.drew = q := ⟨_, rfl⟩
  rw [hq4] at HU4 hHeld
  rw [hq4]
  clear hq4
  refine wpAnyH_take (i := 0) (v := ?_) rfl (by kernel_rfl) (by kernel_rfl) (by kernel_rfl) (fun _ _ _ h => h) (Or.inl ⟨by rfl, ?_⟩) hHeld ?_
  rotate_left 1
  · intro w hSw
    (try dsimp only at hSw)
    go_simp
    all_goals (with_reducible rfl)
  try simp only [Act.put, List.getElem_toArray, List.getElem_cons_zero, List.getElem_cons_succ, List.setIfInBounds_toArray, List.set_cons_zero, List.set_cons_succ]
  refine wpAnyH_take (i := 1) (v := ?_) rfl (by kernel_rfl) (by kernel_rfl) (by kernel_rfl) (fun _ _ _ h => h) (Or.inl ⟨by rfl, ?_⟩) hHeld ?_
  rotate_left 1
  · intro w hSw
    obtain ⟨p0, p1, p2, p3, p4, p5, p6, p7, p8, p9, p10, p11⟩ := HCM.out w hSw
    go_simp
    all_goals (with_reducible rfl)
  try simp only [Act.put, List.getElem_toArray, List.getElem_cons_zero, List.getElem_cons_succ, List.setIfInBounds_toArray, List.set_cons_zero, List.set_cons_succ]
  refine wpAnyH_take (i := 2) (v := ?_) rfl (by kernel_rfl) (by kernel_rfl) (by kernel_rfl) (fun _ _ _ h => h) (Or.inl ⟨by rfl, ?_⟩) hHeld ?_
  rotate_left 1
  · intro w hSw
    (try dsimp only at hSw)
    go_simp
    all_goals (with_reducible rfl)
  try simp only [Act.put, List.getElem_toArray, List.getElem_cons_zero, List.getElem_cons_succ, List.setIfInBounds_toArray, List.set_cons_zero, List.set_cons_succ]
  refine wpAnyH_take (i := 3) (v := ?_) rfl (by kernel_rfl) (by kernel_rfl) (by kernel_rfl) (fun _ _ _ h => h) (Or.inl ⟨by rfl, ?_⟩) hHeld ?_
  rotate_left 1
  · intro w hSw
    (try dsimp only at hSw)
    go_simp
    all_goals (with_reducible rfl)
  try simp only [Act.put, List.getElem_toArray, List.getElem_cons_zero, List.getElem_cons_succ, List.setIfInBounds_toArray, List.set_cons_zero, List.set_cons_succ]
  refine wpAnyH_take (i := 4) (v := ?_) rfl (by kernel_rfl) (by kernel_rfl) (by kernel_rfl) (fun _ _ _ h => h) (Or.inl ⟨by rfl, ?_⟩) hHeld ?_
  rotate_left 1
  · intro w hSw
    obtain ⟨p0, p1, p2, p3, p4, p5, p6, p7, p8, p9, p10, p11⟩ := HCM.out w hSw
    go_simp
    all_goals (with_reducible rfl)
  try simp only [Act.put, List.getElem_toArray, List.getElem_cons_zero, List.getElem_cons_succ, List.setIfInBounds_toArray, List.set_cons_zero, List.set_cons_succ]
  refine wpAnyH_ready (rs := [5]) (by kernel_rfl) (by simp) ?_
  refine AllReadyH.cons rfl (fun K hK => ?_) AllReadyH.nil
  go_simp
  refine (HCK.out _ HU4.out).mono ?_
  rintro e u4 ⟨rfl, hbx⟩
  have HUu4 := Lib.hid (HU4.out.trans (hbx.mono HU4.out.size))
  clear hbx
  refine hK.out _ _ (HUu4.out) (fun hHeld => ?_)
  clear hK K
  try simp only [Act.put, List.getElem_toArray, List.getElem_cons_zero, List.getElem_cons_succ, List.setIfInBounds_toArray, List.set_cons_zero, List.set_cons_succ]
  refine wpAnyH_take (i := 6) (v := ?_) rfl (by kernel_rfl) (by kernel_rfl) (by kernel_rfl) (fun _ _ _ h => h) (Or.inl ⟨by rfl, ?_⟩) hHeld ?_
  rotate_left 1
  · intro w hSw
    (try dsimp only at hSw)
    go_simp
    all_goals (with_reducible rfl)
  try simp only [Act.put, List.getElem_toArray, List.getElem_cons_zero, List.getElem_cons_succ, List.setIfInBounds_toArray, List.set_cons_zero, List.set_cons_succ]
  refine wpAnyH_take (i := 7) (v := ?_) rfl (by kernel_rfl) (by kernel_rfl) (by kernel_rfl) (fun _ _ _ h => h) (Or.inl ⟨by rfl, ?_⟩) hHeld ?_
  rotate_left 1
  · intro w hSw
    (try dsimp only at hSw)
    go_simp
    all_goals (with_reducible rfl)
  try simp only [Act.put, List.getElem_toArray, List.getElem_cons_zero, List.getElem_cons_succ, List.setIfInBounds_toArray, List.set_cons_zero, List.set_cons_succ]
  refine wpAnyH_take (i := 8) (v := ?_) rfl (by kernel_rfl) (by kernel_rfl) (by kernel_rfl) (fun _ _ _ h => h) (Or.inl ⟨by rfl, ?_⟩) hHeld ?_
  rotate_left 1
  · intro w hSw
    (try dsimp only at hSw)
    go_simp
    all_goals (with_reducible rfl)
  try simp only [Act.put, List.getElem_toArray, List.getElem_cons_zero, List.getElem_cons_succ, List.setIfInBounds_toArray, List.set_cons_zero, List.set_cons_succ]
  refine wpAnyH_take (i := 9) (v := ?_) rfl (by kernel_rfl) (by kernel_rfl) (by kernel_rfl) (fun _ _ _ h => h) (Or.inl ⟨by rfl, ?_⟩) hHeld ?_
  rotate_left 1
  · intro w hSw
    (try dsimp only at hSw)
    go_simp
    all_goals (with_reducible rfl)
  try simp only [Act.put, List.getElem_toArray, List.getElem_cons_zero, List.getElem_cons_succ, List.setIfInBounds_toArray, List.set_cons_zero, List.set_cons_succ]
  refine wpAnyH_take (i := 10) (v := ?_) rfl (by kernel_rfl) (by kernel_rfl) (by kernel_rfl) (fun _ _ _ h => h) (Or.inl ⟨by rfl, ?_⟩) hHeld ?_
  rotate_left 1
  · intro w hSw
    obtain ⟨p0, p1, p2, p3, p4, p5, p6, p7, p8, p9, p10, p11⟩ := HCM.out w hSw
    go_simp
    all_goals (with_reducible rfl)
  try simp only [Act.put, List.getElem_toArray, List.getElem_cons_zero, List.getElem_cons_succ, List.setIfInBounds_toArray, List.set_cons_zero, List.set_cons_succ]
  refine wpAnyH_take (i := 11) (v := ?_) rfl (by kernel_rfl) (by kernel_rfl) (by kernel_rfl) (fun _ _ _ h => h) (Or.inl ⟨by rfl, ?_⟩) hHeld ?_
  rotate_left 1
  · intro w hSw
    (try dsimp only at hSw)
    go_simp
    all_goals (with_reducible rfl)
  try simp only [Act.put, List.getElem_toArray, List.getElem_cons_zero, List.getElem_cons_succ, List.setIfInBounds_toArray, List.set_cons_zero, List.set_cons_succ]
  refine wpAnyH_take (i := 12) (v := ?_) rfl (by kernel_rfl) (by kernel_rfl) (by kernel_rfl) (fun _ _ _ h => h) (Or.inl ⟨by rfl, ?_⟩) hHeld ?_
  rotate_left 1
  · intro w hSw
    (try dsimp only at hSw)
    go_simp
    all_goals (with_reducible rfl)
  try simp only [Act.put, List.getElem_toArray, List.getElem_cons_zero, List.getElem_cons_succ, List.setIfInBounds_toArray, List.set_cons_zero, List.set_cons_succ]
  refine wpAnyH_take (i := 13) (v := ?_) rfl (by kernel_rfl) (by kernel_rfl) (by kernel_rfl) (fun _ _ _ h => h) (Or.inl ⟨by rfl, ?_⟩) hHeld ?_
  rotate_left 1
  · intro w hSw
    (try dsimp only at hSw)
    go_simp
    all_goals (with_reducible rfl)
  try simp only [Act.put, List.getElem_toArray, List.getElem_cons_zero, List.getElem_cons_succ, List.setIfInBounds_toArray, List.set_cons_zero, List.set_cons_succ]
  refine wpAnyH_take (i := 14) (v := ?_) rfl (by kernel_rfl) (by kernel_rfl) (by kernel_rfl) (fun _ _ _ h => h) (Or.inl ⟨by rfl, ?_⟩) hHeld ?_
  rotate_left 1
  · intro w hSw
    obtain ⟨q0, q1, q2, q3, q4, q5⟩ := HCN.out w hSw
    go_simp
    all_goals (with_reducible rfl)
  try simp only [Act.put, List.getElem_toArray, List.getElem_cons_zero, List.getElem_cons_succ, List.setIfInBounds_toArray, List.set_cons_zero, List.set_cons_succ]
  refine wpAnyH_take (i := 15) (v := ?_) rfl (by kernel_rfl) (by kernel_rfl) (by kernel_rfl) (fun _ _ _ h => h) (Or.inl ⟨by rfl, ?_⟩) hHeld ?_
  rotate_left 1
  · intro w hSw
    (try dsimp only at hSw)
    go_simp
    all_goals (with_reducible rfl)
  try simp only [Act.put, List.getElem_toArray, List.getElem_cons_zero, List.getElem_cons_succ, List.setIfInBounds_toArray, List.set_cons_zero, List.set_cons_succ]
  refine wpAnyH_take (i := 16) (v := ?_) rfl (by kernel_rfl) (by kernel_rfl) (by kernel_rfl) (fun _ _ _ h => h) (Or.inl ⟨by rfl, ?_⟩) hHeld ?_
  rotate_left 1
  · intro w hSw
    (try dsimp only at hSw)
    go_simp
    all_goals (with_reducible rfl)
  try simp only [Act.put, List.getElem_toArray, List.getElem_cons_zero, List.getElem_cons_succ, List.setIfInBounds_toArray, List.set_cons_zero, List.set_cons_succ]
  refine wpAnyH_done (by kernel_rfl) ?_ _
  go_upto_region 6 with fail
  have HU6 := Lib.hid (show Below w2.heap.size w2 u4.drew from HUu4.out.drew)
  refine wp_region_held_drew (S := (fun wx => Below w2.heap.size w2 wx)) (by kernel_rfl) (HU6.out) (fun hHeld => ?_)
  obtain ⟨q6, hq6⟩ : ∃ q, u4.drew = q := ⟨_, rfl⟩
  rw [hq6] at HU6 hHeld
  rw [hq6]
  clear hq6
  refine wpAnyH_take (i := 0) (v := ?_) rfl (by kernel_rfl) (by kernel_rfl) (by kernel_rfl) (fun _ _ _ h => h) (Or.inl ⟨by rfl, ?_⟩) hHeld ?_
  rotate_left 1
  · intro w hSw
    (try dsimp only at hSw)
    go_simp
    all_goals (with_reducible rfl)
  try simp only [Act.put, List.getElem_toArray, List.getElem_cons_zero, List.getElem_cons_succ, List.setIfInBounds_toArray, List.set_cons_zero, List.set_cons_succ]
  refine wpAnyH_take (i := 1) (v := ?_) rfl (by kernel_rfl) (by kernel_rfl) (by kernel_rfl) (fun _ _ _ h => h) (Or.inl ⟨by rfl, ?_⟩) hHeld ?_
  rotate_left 1
  · intro w hSw
    obtain ⟨p0, p1, p2, p3, p4, p5, p6, p7, p8, p9, p10, p11⟩ := HCM.out w hSw
    go_simp
    all_goals (with_reducible rfl)
  try simp only [Act.put, List.getElem_toArray, List.getElem_cons_zero, List.getElem_cons_succ, List.setIfInBounds_toArray, List.set_cons_zero, List.set_cons_succ]
  refine wpAnyH_take (i := 2) (v := ?_) rfl (by kernel_rfl) (by kernel_rfl) (by kernel_rfl) (fun _ _ _ h => h) (Or.inl ⟨by rfl, ?_⟩) hHeld ?_
  rotate_left 1
  · intro w hSw
    (try dsimp only at hSw)
    go_simp
    all_goals (with_reducible rfl)
  try simp only [Act.put, List.getElem_toArray, List.getElem_cons_zero, List.getElem_cons_succ, List.setIfInBounds_toArray, List.set_cons_zero, List.set_cons_succ]
  refine wpAnyH_take (i := 3) (v := ?_) rfl (by kernel_rfl) (by kernel_rfl) (by kernel_rfl) (fun _ _ _ h => h) (Or.inl ⟨by rfl, ?_⟩) hHeld ?_
  rotate_left 1
  · intro w hSw
    (try dsimp only at hSw)
    go_simp
    all_goals (with_reducible rfl)
  try simp only [Act.put, List.getElem_toArray, List.getElem_cons_zero, List.getElem_cons_succ, List.setIfInBounds_toArray, List.set_cons_zero, List.set_cons_succ]
  refine wpAnyH_take (i := 4) (v := ?_) rfl (by kernel_rfl) (by kernel_rfl) (by kernel_rfl) (fun _ _ _ h => h) (Or.inl ⟨by rfl, ?_⟩) hHeld ?_
  rotate_left 1
  · intro w hSw
    (try dsimp only at hSw)
    go_simp
    all_goals (with_reducible rfl)
  try simp only [Act.put, List.getElem_toArray, List.getElem_cons_zero, List.getElem_cons_succ, List.setIfInBounds_toArray, List.set_cons_zero, List.set_cons_succ]
  refine wpAnyH_take (i := 5) (v := ?_) rfl (by kernel_rfl) (by kernel_rfl) (by kernel_rfl) (fun _ _ _ h => h) (Or.inl ⟨by rfl, ?_⟩) hHeld ?_
  rotate_left 1
  · intro w hSw
    obtain ⟨q0, q1, q2, q3, q4, q5⟩ := HCN.out w hSw
    go_simp
    all_goals (with_reducible rfl)
  try simp only [Act.put, List.getElem_toArray, List.getElem_cons_zero, List.getElem_cons_succ, List.setIfInBounds_toArray, List.set_cons_zero, List.set_cons_succ]
  refine wpAnyH_take (i := 6) (v := ?_) rfl (by kernel_rfl) (by kernel_rfl) (by kernel_rfl) (fun _ _ _ h => h) (Or.inl ⟨by rfl, ?_⟩) hHeld ?_
  rotate_left 1
  · intro w hSw
    (try dsimp only at hSw)
    go_simp
    all_goals (with_reducible rfl)
  try simp only [Act.put, List.getElem_toArray, List.getElem_cons_zero, List.getElem_cons_succ, List.setIfInBounds_toArray, List.set_cons_zero, List.set_cons_succ]
  refine wpAnyH_done (by kernel_rfl) ?_ _
  go_upto_region 10 with fail
  go_cut [8, 9] from 52 to 63 (fun q8 q9 wx => q9 = err 6 ∧ Hid (Below w2.heap.size w2 wx))
  case first =>
    have HU10 := Lib.hid (show Below w2.heap.size w2 q6.drew from HU6.out.drew)
    refine wp_region_held_drew (S := (fun wx => Below w2.heap.size w2 wx)) (by kernel_rfl) (HU10.out) (fun hHeld => ?_)
    obtain ⟨q10, hq10⟩ : ∃ q, q6.drew = q := ⟨_, rfl⟩
    rw [hq10] at HU10 hHeld
    rw [hq10]
    clear hq10
    refine wpAnyH_take (i := 0) (v := ?_) rfl (by kernel_rfl) (by kernel_rfl) (by kernel_rfl) (fun _ _ _ h => h) (Or.inl ⟨by rfl, ?_⟩) hHeld ?_
    rotate_left 1
    · intro w hSw
      (try dsimp only at hSw)
      go_simp
      all_goals (with_reducible rfl)
    try simp only [Act.put, List.getElem_toArray, List.getElem_cons_zero, List.getElem_cons_succ, List.setIfInBounds_toArray, List.set_cons_zero, List.set_cons_succ]
    refine wpAnyH_take (i := 1) (v := ?_) rfl (by kernel_rfl) (by kernel_rfl) (by kernel_rfl) (fun _ _ _ h => h) (Or.inl ⟨by rfl, ?_⟩) hHeld ?_
    rotate_left 1
    · intro w hSw
      (try dsimp only at hSw)
      go_simp
      all_goals (with_reducible rfl)
    try simp only [Act.put, List.getElem_toArray, List.getElem_cons_zero, List.getElem_cons_succ, List.setIfInBounds_toArray, List.set_cons_zero, List.set_cons_succ]
    refine wpAnyH_take (i := 2) (v := ?_) rfl (by kernel_rfl) (by kernel_rfl) (by kernel_rfl) (fun _ _ _ h => h) (Or.inl ⟨by rfl, ?_⟩) hHeld ?_
    rotate_left 1
    · intro w hSw
      (try dsimp only at hSw)
      go_simp
      all_goals (with_reducible rfl)
    try simp only [Act.put, List.getElem_toArray, List.getElem_cons_zero, List.getElem_cons_succ, List.setIfInBounds_toArray, List.set_cons_zero, List.set_cons_succ]
    refine wpAnyH_take (i := 3) (v := ?_) rfl (by kernel_rfl) (by kernel_rfl) (by kernel_rfl) (fun _ _ _ h => h) (Or.inl ⟨by rfl, ?_⟩) hHeld ?_
    rotate_left 1
    · intro w hSw
      obtain ⟨q0, q1, q2, q3, q4, q5⟩ := HCN.out w hSw
      go_simp
      all_goals (with_reducible rfl)
    try simp only [Act.put, List.getElem_toArray, List.getElem_cons_zero, List.getElem_cons_succ, List.setIfInBounds_toArray, List.set_cons_zero, List.set_cons_succ]
    refine wpAnyH_take (i := 4) (v := ?_) rfl (by kernel_rfl) (by kernel_rfl) (by kernel_rfl) (fun _ _ _ h => h) (Or.inl ⟨by rfl, ?_⟩) hHeld ?_
    rotate_left 1
    · intro w hSw
      (try dsimp only at hSw)
      go_simp
      all_goals (with_reducible rfl)
    try simp only [Act.put, List.getElem_toArray, List.getElem_cons_zero, List.getElem_cons_succ, List.setIfInBounds_toArray, List.set_cons_zero, List.set_cons_succ]
    refine wpAnyH_take (i := 5) (v := ?_) rfl (by kernel_rfl) (by kernel_rfl) (by kernel_rfl) (fun _ _ _ h => h) (Or.inl ⟨by rfl, ?_⟩) hHeld ?_
    rotate_left 1
    · intro w hSw
      obtain ⟨p0, p1, p2, p3, p4, p5, p6, p7, p8, p9, p10, p11⟩ := HCM.out w hSw
      go_simp
      all_goals (with_reducible rfl)
    try simp only [Act.put, List.getElem_toArray, List.getElem_cons_zero, List.getElem_cons_succ, List.setIfInBounds_toArray, List.set_cons_zero, List.set_cons_succ]
    refine wpAnyH_take (i := 6) (v := ?_) rfl (by kernel_rfl) (by kernel_rfl) (by kernel_rfl) (fun _ _ _ h => h) (Or.inl ⟨by rfl, ?_⟩) hHeld ?_
    rotate_left 1
    · intro w hSw
      (try dsimp only at hSw)
      go_simp
      all_goals (with_reducible rfl)
    try simp only [Act.put, List.getElem_toArray, List.getElem_cons_zero, List.getElem_cons_succ, List.setIfInBounds_toArray, List.set_cons_zero, List.set_cons_succ]
    refine wpAnyH_take (i := 7) (v := ?_) rfl (by kernel_rfl) (by kernel_rfl) (by kernel_rfl) (fun _ _ _ h => h) (Or.inl ⟨by rfl, ?_⟩) hHeld ?_
    rotate_left 1
    · intro w hSw
      obtain ⟨p0, p1, p2, p3, p4, p5, p6, p7, p8, p9, p10, p11⟩ := HCM.out w hSw
      go_simp
      all_goals (with_reducible rfl)
    try simp only [Act.put, List.getElem_toArray, List.getElem_cons_zero, List.getElem_cons_succ, List.setIfInBounds_toArray, List.set_cons_zero, List.set_cons_succ]
    refine wpAnyH_ready (rs := [8, 12]) (by kernel_rfl) (by simp) ?_
    refine AllReadyH.cons rfl (fun K hK => ?_) ?_
    · go_simp
      refine (HFD.out _ HU10.out).mono ?_
      rintro e f1 ⟨az, ac, rfl, hbx⟩
      have HUf1 := Lib.hid (HU10.out.trans (hbx.mono HU10.out.size))
      clear hbx
      refine hK.out _ _ (HUf1.out) (fun hHeld => ?_)
      clear hK K
      try simp only [Act.put, List.getElem_toArray, List.getElem_cons_zero, List.getElem_cons_succ, List.setIfInBounds_toArray, List.set_cons_zero, List.set_cons_succ]
      refine wpAnyH_take (i := 9) (v := ?_) rfl (by kernel_rfl) (by kernel_rfl) (by kernel_rfl) (fun _ _ _ h => h) (Or.inl ⟨by rfl, ?_⟩) hHeld ?_
      rotate_left 1
      · intro w hSw
        (try dsimp only at hSw)
        go_simp
        all_goals (with_reducible rfl)
      try simp only [Act.put, List.getElem_toArray, List.getElem_cons_zero, List.getElem_cons_succ, List.setIfInBounds_toArray, List.set_cons_zero, List.set_cons_succ]
      refine wpAnyH_take (i := 10) (v := ?_) rfl (by kernel_rfl) (by kernel_rfl) (by kernel_rfl) (fun _ _ _ h => h) (Or.inl ⟨by rfl, ?_⟩) hHeld ?_
      rotate_left 1
      · intro w hSw
        (try dsimp only at hSw)
        go_simp
        all_goals (with_reducible rfl)
      try simp only [Act.put, List.getElem_toArray, List.getElem_cons_zero, List.getElem_cons_succ, List.setIfInBounds_toArray, List.set_cons_zero, List.set_cons_succ]
      refine wpAnyH_take (i := 11) (v := ?_) rfl (by kernel_rfl) (by kernel_rfl) (by kernel_rfl) (fun _ _ _ h => h) (Or.inl ⟨by rfl, ?_⟩) hHeld ?_
      rotate_left 1
      · intro w hSw
        (try dsimp only at hSw)
        go_simp
        all_goals (with_reducible rfl)
      try simp only [Act.put, List.getElem_toArray, List.getElem_cons_zero, List.getElem_cons_succ, List.setIfInBounds_toArray, List.set_cons_zero, List.set_cons_succ]
      refine wpAnyH_ready (rs := [12]) (by kernel_rfl) (by simp) ?_
      refine AllReadyH.cons rfl (fun K hK => ?_) AllReadyH.nil
      go_simp
      have HA := Lib.hid (Blk.new f1 #[.int .i64 0, .int .i64 0, .int .i64 0, .int .i64 0, .int .i64 0, .int .u64 0, .int .i64 0, .bool false, .int .u64 0, .int .u32 0, .bool false, .slice none 0 0] 45)
      have HUa := Lib.hid (HUf1.out.alloc HUf1.out.size (.cells #[.int .i64 0, .int .i64 0, .int .i64 0, .int .i64 0, .int .i64 0, .int .u64 0, .int .i64 0, .bool false, .int .u64 0, .int .u32 0, .bool false, .slice none 0 0] 45))
      have hX10 : w2.heap.size ≤ f1.heap.size := HUf1.out.size
      refine hK.out _ _ (HUa.out) (fun hHeld => ?_)
      clear hK K
      try simp only [Act.put, List.getElem_toArray, List.getElem_cons_zero, List.getElem_cons_succ, List.setIfInBounds_toArray, List.set_cons_zero, List.set_cons_succ]
      obtain ⟨wa, hwa⟩ : ∃ q, f1.alloc (.cells #[.int .i64 0, .int .i64 0, .int .i64 0, .int .i64 0, .int .i64 0, .int .u64 0, .int .i64 0, .bool false, .int .u64 0, .int .u32 0, .bool false, .slice none 0 0] 45) = q := ⟨_, rfl⟩
      try rw [hwa] at hHeld
      rw [hwa] at HA HUa
      have hXl : f1.heap.size < wa.heap.size := HA.out.lt
      try rw [hwa]
      clear hwa
      refine wpAnyH_ready (rs := [13]) (by kernel_rfl) (by simp) ?_
      refine AllReadyH.cons rfl (fun K hK => ?_) AllReadyH.nil
      rw [if_pos (by rfl)]
      refine wp_store12Z 45 Tryz.sizeWMZ (.tmp 8) (.tmp 62) rfl f1.heap.size 45 HA.out rfl rfl (fun ws hxs hks => ?_)
      have HUs := Lib.hid (hks.below_trans HUa.out HUa.out.size (fun k hk e => by have := HUa.out.size; have := hX10; omega))
      have HXS := Lib.hid hxs
      have HKS := Lib.hid hks
      clear hxs hks
      refine hK.out _ _ (HUs.out) (fun hHeld => ?_)
      clear hK K
      try simp only [Act.put, List.getElem_toArray, List.getElem_cons_zero, List.getElem_cons_succ, List.setIfInBounds_toArray, List.set_cons_zero, List.set_cons_succ]
      refine wpAnyH_take (i := 14) (v := ?_) rfl (by kernel_rfl) (by kernel_rfl) (by kernel_rfl) (fun _ _ _ h => h) (Or.inl ⟨by rfl, ?_⟩) hHeld ?_
      rotate_left 1
      · intro w hSw
        (try dsimp only at hSw)
        go_simp
        all_goals (with_reducible rfl)
      try simp only [Act.put, List.getElem_toArray, List.getElem_cons_zero, List.getElem_cons_succ, List.setIfInBounds_toArray, List.set_cons_zero, List.set_cons_succ]
      refine wpAnyH_done (by kernel_rfl) ?_ _
      go_wp2_with fail
      go_meet
      case rel => exact ⟨rfl, HUs⟩
    refine AllReadyH.cons rfl (fun K hK => ?_) AllReadyH.nil
    go_simp
    have HA := Lib.hid (Blk.new q10 #[.int .i64 0, .int .i64 0, .int .i64 0, .int .i64 0, .int .i64 0, .int .u64 0, .int .i64 0, .bool false, .int .u64 0, .int .u32 0, .bool false, .slice none 0 0] 45)
    have HUa := Lib.hid (HU10.out.alloc HU10.out.size (.cells #[.int .i64 0, .int .i64 0, .int .i64 0, .int .i64 0, .int .i64 0, .int .u64 0, .int .i64 0, .bool false, .int .u64 0, .int .u32 0, .bool false, .slice none 0 0] 45))
    have hX10 : w2.heap.size ≤ q10.heap.size := HU10.out.size
    refine hK.out _ _ (HUa.out) (fun hHeld => ?_)
    clear hK K
    try simp only [Act.put, List.getElem_toArray, List.getElem_cons_zero, List.getElem_cons_succ, List.setIfInBounds_toArray, List.set_cons_zero, List.set_cons_succ]
    obtain ⟨wa, hwa⟩ : ∃ q, q10.alloc (.cells #[.int .i64 0, .int .i64 0, .int .i64 0, .int .i64 0, .int .i64 0, .int .u64 0, .int .i64 0, .bool false, .int .u64 0, .int .u32 0, .bool false, .slice none 0 0] 45) = q := ⟨_, rfl⟩
    try rw [hwa] at hHeld
    rw [hwa] at HA HUa
    have hXl : q10.heap.size < wa.heap.size := HA.out.lt
    try rw [hwa]
    clear hwa
    refine wpAnyH_ready (rs := [8]) (by kernel_rfl) (by simp) ?_
    refine AllReadyH.cons rfl (fun K hK => ?_) AllReadyH.nil
    go_simp
    refine (HFD.out _ HUa.out).mono ?_
    rintro e f1 ⟨az, ac, rfl, hbx⟩
    have HUf1 := Lib.hid (HUa.out.trans (hbx.mono HUa.out.size))
    have HXF := Lib.hid (HA.out.below hbx HA.out.lt)
    clear hbx
    refine hK.out _ _ (HUf1.out) (fun hHeld => ?_)
    clear hK K
    try simp only [Act.put, List.getElem_toArray, List.getElem_cons_zero, List.getElem_cons_succ, List.setIfInBounds_toArray, List.set_cons_zero, List.set_cons_succ]
    refine wpAnyH_take (i := 9) (v := ?_) rfl (by kernel_rfl) (by kernel_rfl) (by kernel_rfl) (fun _ _ _ h => h) (Or.inl ⟨by rfl, ?_⟩) hHeld ?_
    rotate_left 1
    · intro w hSw
      (try dsimp only at hSw)
      go_simp
      all_goals (with_reducible rfl)
    try simp only [Act.put, List.getElem_toArray, List.getElem_cons_zero, List.getElem_cons_succ, List.setIfInBounds_toArray, List.set_cons_zero, List.set_cons_succ]
    refine wpAnyH_take (i := 10) (v := ?_) rfl (by kernel_rfl) (by kernel_rfl) (by kernel_rfl) (fun _ _ _ h => h) (Or.inl ⟨by rfl, ?_⟩) hHeld ?_
    rotate_left 1
    · intro w hSw
      (try dsimp only at hSw)
      go_simp
      all_goals (with_reducible rfl)
    try simp only [Act.put, List.getElem_toArray, List.getElem_cons_zero, List.getElem_cons_succ, List.setIfInBounds_toArray, List.set_cons_zero, List.set_cons_succ]
    refine wpAnyH_take (i := 11) (v := ?_) rfl (by kernel_rfl) (by kernel_rfl) (by kernel_rfl) (fun _ _ _ h => h) (Or.inl ⟨by rfl, ?_⟩) hHeld ?_
    rotate_left 1
    · intro w hSw
      (try dsimp only at hSw)
      go_simp
      all_goals (with_reducible rfl)
    try simp only [Act.put, List.getElem_toArray, List.getElem_cons_zero, List.getElem_cons_succ, List.setIfInBounds_toArray, List.set_cons_zero, List.set_cons_succ]
    refine wpAnyH_ready (rs := [13]) (by kernel_rfl) (by simp) ?_
    refine AllReadyH.cons rfl (fun K hK => ?_) AllReadyH.nil
    rw [if_pos (by rfl)]
    refine wp_store12Z 45 Tryz.sizeWMZ (.tmp 8) (.tmp 62) rfl q10.heap.size 45 HXF.out rfl rfl (fun ws hxs hks => ?_)
    have HUs := Lib.hid (hks.below_trans HUf1.out HUf1.out.size (fun k hk e => by have := HUf1.out.size; have := hX10; omega))
    have HXS := Lib.hid hxs
    have HKS := Lib.hid hks
    clear hxs hks
    refine hK.out _ _ (HUs.out) (fun hHeld => ?_)
    clear hK K
    try simp only [Act.put, List.getElem_toArray, List.getElem_cons_zero, List.getElem_cons_succ, List.setIfInBounds_toArray, List.set_cons_zero, List.set_cons_succ]
    refine wpAnyH_take (i := 14) (v := ?_) rfl (by kernel_rfl) (by kernel_rfl) (by kernel_rfl) (fun _ _ _ h => h) (Or.inl ⟨by rfl, ?_⟩) hHeld ?_
    rotate_left 1
    · intro w hSw
      (try dsimp only at hSw)
      go_simp
      all_goals (with_reducible rfl)
    try simp only [Act.put, List.getElem_toArray, List.getElem_cons_zero, List.getElem_cons_succ, List.setIfInBounds_toArray, List.set_cons_zero, List.set_cons_succ]
    refine wpAnyH_done (by kernel_rfl) ?_ _
    go_wp2_with fail
    go_meet
    case rel => exact ⟨rfl, HUs⟩
  case rest =>
  obtain ⟨rfl, HUC⟩ := hcut
  obtain ⟨q0, q1, q2, q3, q4, q5⟩ := HCN.out _ HUC.out
  go_wp2_with fail
  refine (HRM.out _ HUC.out).mono ?_
  rintro e wr ⟨rfl, hbr⟩
  have HUR := Lib.hid (HUC.out.trans (hbr.mono HUC.out.size))
  clear q0 q1 q2 q3 q4 q5 hbr
  obtain ⟨p0, p1, p2, p3, p4, p5, p6, p7, p8, p9, p10, p11⟩ := HCM.out _ HUR.out
  go_wp2_with fail
  refine (HAN.out _ HUR.out).mono ?_
  rintro e w5 ⟨ax, an, ac, rfl, hi5, ⟨Sv', d', k', hz5, hk5, hs5, hl5⟩⟩
  have hall5 := hz5.pt.vr.ok.all
  have hok := newM_ok HQ.out HFT.out HID.out HALL.out (by rw [HVEQ.out]; exact hall5)
  have hkk := keepK_new hok.1 HFP.out HRL.out
  rw [HAEQ.out] at hok hkk
  have hb56 := below_new16 w5 (.cells #[.int .i64 afr, .int .i64 att, .int .i64 akd, .int .i64 avo, .int .i64 ali, .int .u64 (aid : Int), .int .i64 aco, .bool ahas, .int .u64 (akey : Int), .int .u32 (ack : Int), .bool agn, .slice ax an ac] 45)
  have hA6 := Blk.new w5 #[.int .i64 afr, .int .i64 att, .int .i64 akd, .int .i64 avo, .int .i64 ali, .int .u64 (aid : Int), .int .i64 aco, .bool ahas, .int .u64 (akey : Int), .int .u32 (ack : Int), .bool agn, .slice ax an ac] 45
  have hz6 := hz5.below hb56
  have hi6 := hi5.mono hb56 (Nat.le_refl _)
  have hZ6 := (((HZ2.out.below HUR.out HZ2.out.lt).kept hk5 (fun e => by have := HOLD.out _ (.inr (.inl e)); omega))).below hb56 (by have := (((HZ2.out.below HUR.out HZ2.out.lt).kept hk5 (fun e => by have := HOLD.out _ (.inr (.inl e)); omega))).lt; omega)
  obtain ⟨w6, hw6⟩ : ∃ zz, w5.alloc (.cells #[.int .i64 afr, .int .i64 att, .int .i64 akd, .int .i64 avo, .int .i64 ali, .int .u64 (aid : Int), .int .i64 aco, .bool ahas, .int .u64 (akey : Int), .int .u32 (ack : Int), .bool agn, .slice ax an ac] 45) = zz := ⟨_, rfl⟩
  rw [hw6] at hb56 hA6 hz6 hi6 hZ6
  have hXs : w5.heap.size < w6.heap.size := hA6.lt
  have h2r : w2.heap.size ≤ wr.heap.size := HUR.out.size
  have hr5 : wr.heap.size ≤ w5.heap.size := hk5.size
  have hXnt : ¬ St w5.heap.size := fun e => by have := HOLD.out _ (.inr (.inr e)); omega
  have HK6 := Lib.hid (fun (wx : World) (hk : Kept St w6 wx) => show wx.cell? ⟨g, 5, none⟩ = some (.pointer (some ⟨tg, 0, none⟩)) ∧ wx.cell? ⟨w5.heap.size, 0, none⟩ = some (.int .i64 afr) ∧ wx.cell? ⟨w5.heap.size, 1, none⟩ = some (.int .i64 att) ∧ wx.cell? ⟨w5.heap.size, 2, none⟩ = some (.int .i64 akd) ∧ wx.cell? ⟨w5.heap.size, 3, none⟩ = some (.int .i64 avo) ∧ wx.cell? ⟨w5.heap.size, 4, none⟩ = some (.int .i64 ali) ∧ wx.cell? ⟨w5.heap.size, 5, none⟩ = some (.int .u64 (aid : Int)) ∧ wx.cell? ⟨w5.heap.size, 6, none⟩ = some (.int .i64 aco) ∧ wx.cell? ⟨w5.heap.size, 7, none⟩ = some (.bool ahas) ∧ wx.cell? ⟨w5.heap.size, 8, none⟩ = some (.int .u64 (akey : Int)) ∧ wx.cell? ⟨w5.heap.size, 9, none⟩ = some (.int .u32 (ack : Int)) ∧ wx.cell? ⟨w5.heap.size, 10, none⟩ = some (.bool agn) ∧ wx.cell? ⟨w5.heap.size, 11, none⟩ = some (.slice ax an ac) from
    have h8 := hA6.kept hk hXnt
    ⟨(hz6.blk.kept hk (hz6.pt.ot g hz6.og)).cell 5 rfl, h8.cell 0 rfl, h8.cell 1 rfl, h8.cell 2 rfl, h8.cell 3 rfl, h8.cell 4 rfl, h8.cell 5 rfl, h8.cell 6 rfl, h8.cell 7 rfl, h8.cell 8 rfl, h8.cell 9 rfl, h8.cell 10 rfl, h8.cell 11 rfl⟩)
  have HUPP := Lib.hid (up_at hz6.blk (UpD.vl hz6.pt.vr.vl hz6.pt.vr.lies))
  have HKE := Lib.hid (fun (wx : World) (hb : Below w6.heap.size w6 wx) => show Calls Tryz.prog 27 #[.pointer (some ⟨tg, 0, none⟩), .agg #[.int .i64 afr, .int .i64 att, .int .i64 akd, .int .i64 avo, .int .i64 ali, .int .u64 (aid : Int), .int .i64 aco, .bool ahas, .int .u64 (akey : Int), .int .u32 (ack : Int), .bool agn, .slice ax an ac]] wx fun e w' => e = .returned .nilIface ∧ TbT wx B tg St 4096 (n.l ++ [⟨afr, att, akd, avo, ali, aid, aco, ahas, ⟨akey, ack, agn, amd⟩⟩]) w' from by
    have h8 := okeep_any wx (hz6.below hb).pt.tb ⟨afr, att, akd, avo, ali, aid, aco, ahas, ⟨akey, ack, agn, amd⟩⟩ ax an ac (hi6.mono hb (Nat.le_refl _)) hok.2.1 hok.2.2.1
    unfold keepL at h8
    rw [if_pos hkk, hkk, cerr_0] at h8
    exact h8)
  have HZZ5 := Lib.hid hz5
  have HZZ6 := Lib.hid hz6
  have HI6 := Lib.hid hi6
  have HZ6 := Lib.hid hZ6
  have HK5 := Lib.hid hk5
  have HS5 := Lib.hid hs5
  have HL5 := Lib.hid hl5
  have HI5 := Lib.hid (fun (b : Nat) (hb : liesB (.slice ax an ac) amd b) => hi5.lies_lt hb)
  have HB56 := Lib.hid hb56
  clear hall5 hok hkk hi5 hl5 hz5 hk5 hs5 hb56 hA6 hz6 hi6 hZ6 hXnt p0 p1 p2 p3 p4 p5 p6 p7 p8 p9 p10 p11
  go_upto_region 16 with fail
  try rw [hw6]
  clear hw6
  go_wp2_with fail
  refine HUPP.out.mono ?_
  rintro e wx ⟨rfl, rfl⟩
  go_upto_region 18 with fail
  have HK18 := Lib.hid (show Kept St w6 w6.drew from (Kept.refl St w6).drew)
  refine wp_region_held_drew (S := (fun wx => Kept St w6 wx)) (by kernel_rfl) (HK18.out) (fun hHeld => ?_)
  obtain ⟨q18, hq18⟩ : ∃ q, w6.drew = q := ⟨_, rfl⟩
  have hb18 : Below w6.heap.size w6 q18 := by rw [← hq18]; exact (Below.refl _ _).drew
  have HB18 := Lib.hid hb18
  clear hb18
  rw [hq18] at HK18 hHeld
  rw [hq18]
  clear hq18
  refine wpAnyH_take (i := 0) (v := ?_) rfl (by kernel_rfl) (by kernel_rfl) (by kernel_rfl) (fun _ _ _ h => h) (Or.inl ⟨by rfl, ?_⟩) hHeld ?_
  rotate_left 1
  · intro w hSw
    (try dsimp only at hSw)
    go_simp
    all_goals (with_reducible rfl)
  try simp only [Act.put, List.getElem_toArray, List.getElem_cons_zero, List.getElem_cons_succ, List.setIfInBounds_toArray, List.set_cons_zero, List.set_cons_succ]
  refine wpAnyH_take (i := 1) (v := ?_) rfl (by kernel_rfl) (by kernel_rfl) (by kernel_rfl) (fun _ _ _ h => h) (Or.inl ⟨by rfl, ?_⟩) hHeld ?_
  rotate_left 1
  · intro w hSw
    (try dsimp only at hSw)
    go_simp
    all_goals (with_reducible rfl)
  try simp only [Act.put, List.getElem_toArray, List.getElem_cons_zero, List.getElem_cons_succ, List.setIfInBounds_toArray, List.set_cons_zero, List.set_cons_succ]
  refine wpAnyH_take (i := 2) (v := ?_) rfl (by kernel_rfl) (by kernel_rfl) (by kernel_rfl) (fun _ _ _ h => h) (Or.inl ⟨by rfl, ?_⟩) hHeld ?_
  rotate_left 1
  · intro w hSw
    (try dsimp only at hSw)
    go_simp
    all_goals (with_reducible rfl)
  try simp only [Act.put, List.getElem_toArray, List.getElem_cons_zero, List.getElem_cons_succ, List.setIfInBounds_toArray, List.set_cons_zero, List.set_cons_succ]
  refine wpAnyH_take (i := 3) (v := ?_) rfl (by kernel_rfl) (by kernel_rfl) (by kernel_rfl) (fun _ _ _ h => h) (Or.inl ⟨by rfl, ?_⟩) hHeld ?_
  rotate_left 1
  · intro w hSw
    have q5 := (HK6.out w hSw).1
    go_simp
    all_goals (with_reducible rfl)
  try simp only [Act.put, List.getElem_toArray, List.getElem_cons_zero, List.getElem_cons_succ, List.setIfInBounds_toArray, List.set_cons_zero, List.set_cons_succ]
  refine wpAnyH_take (i := 4) (v := ?_) rfl (by kernel_rfl) (by kernel_rfl) (by kernel_rfl) (fun _ _ _ h => h) (Or.inl ⟨by rfl, ?_⟩) hHeld ?_
  rotate_left 1
  · intro w hSw
    obtain ⟨p0, p1, p2, p3, p4, p5, p6, p7, p8, p9, p10, p11⟩ := (HK6.out w hSw).2
    go_simp
    all_goals (with_reducible rfl)
  try simp only [Act.put, List.getElem_toArray, List.getElem_cons_zero, List.getElem_cons_succ, List.setIfInBounds_toArray, List.set_cons_zero, List.set_cons_succ]
  refine wpAnyH_ready (rs := [5]) (by kernel_rfl) (by simp) ?_
  refine AllReadyH.cons rfl (fun K hK => ?_) AllReadyH.nil
  go_simp
  refine (HKE.out _ HB18.out).mono ?_
  rintro e w7 ⟨rfl, ⟨htb⟩⟩
  have HTB := Lib.hid htb
  have HK67 := Lib.hid (show Kept St w6 w7 from by
    obtain ⟨St', _, _, hk⟩ := HTB.out
    exact HK18.out.trans hk (fun j hj _ => hj))
  clear htb
  refine hK.out _ _ (HK67.out) (fun hHeld => ?_)
  clear hK K
  try simp only [Act.put, List.getElem_toArray, List.getElem_cons_zero, List.getElem_cons_succ, List.setIfInBounds_toArray, List.set_cons_zero, List.set_cons_succ]
  refine wpAnyH_take (i := 6) (v := ?_) rfl (by kernel_rfl) (by kernel_rfl) (by kernel_rfl) (fun _ _ _ h => h) (Or.inl ⟨by rfl, ?_⟩) hHeld ?_
  rotate_left 1
  · intro w hSw
    (try dsimp only at hSw)
    go_simp
    all_goals (with_reducible rfl)
  try simp only [Act.put, List.getElem_toArray, List.getElem_cons_zero, List.getElem_cons_succ, List.setIfInBounds_toArray, List.set_cons_zero, List.set_cons_succ]
  refine wpAnyH_done (by kernel_rfl) ?_ _
  obtain ⟨p0, p1, p2, p3, p4, p5, p6, p7, p8, p9, p10, p11⟩ := (HK6.out _ HK67.out).2
  have hZ7 := HZ6.out.kept HK67.out (fun e => by have := HOLD.out _ (.inr (.inr e)); omega)
  have HF := Lib.hid (fin12z hZ7 (.int .i64 afr) (.int .i64 att) (.int .i64 akd) (.int .i64 avo) (.int .i64 ali) (.int .u64 (aid : Int)) (.int .i64 aco) (.bool ahas) (.int .u64 (akey : Int)) (.int .u32 (ack : Int)) (.bool agn) (.slice ax an ac))
  have z0 := hZ7.cell 0 rfl
  have z1 := hZ7.cell 1 rfl
  have z2 := hZ7.cell 2 rfl
  have z3 := hZ7.cell 3 rfl
  have z4 := hZ7.cell 4 rfl
  have z5 := hZ7.cell 5 rfl
  have z6 := hZ7.cell 6 rfl
  have z7 := hZ7.cell 7 rfl
  have z8 := hZ7.cell 8 rfl
  have z9 := hZ7.cell 9 rfl
  have z10 := hZ7.cell 10 rfl
  have z11 := hZ7.cell 11 rfl
  have zf := fun j => hZ7.free j
  clear hZ7
  go_wp2
  obtain ⟨j0, j1, j2, j3, j4, j5, j6, j7, j8, j9, j10, j11, jk⟩ := HF.out
  refine bodyPost_ret (v := .tuple #[.agg #[.int .i64 afr, .int .i64 att, .int .i64 akd, .int .i64 avo, .int .i64 ali, .int .u64 (aid : Int), .int .i64 aco, .bool ahas, .int .u64 (akey : Int), .int .u32 (ack : Int), .bool agn, .slice ax an ac], .nilIface]) (by simp [results, Tryz.results9, go_sem, j0, j1, j2, j3, j4, j5, j6, j7, j8, j9, j10, j11]) rfl ⟨ax, an, ac, rfl, (HI6.out.kept HK67.out (fun b hb e => by have h8 := (HL5.out b hb).1; have := HOLD.out _ (.inr (.inr e)); omega)).kept jk (fun b hb e => by have h8 := (HL5.out b hb).1; omega), ?_⟩
  obtain ⟨St', hz7, hkT, hsT⟩ := ZAt_tab2 (HZZ6.out.below HB18.out) (L' := n.l ++ [⟨afr, att, akd, avo, ali, aid, aco, ahas, ⟨akey, ack, agn, amd⟩⟩]) ⟨HTB.out⟩ (by rw [List.length_append]; show n.l.length + 1 + r ≤ 4096; have := HTL.out; omega)
  have hq18 : w6.heap.size ≤ q18.heap.size := HB18.out.size
  have hne : ∀ j, So j ∨ Sv' j ∨ St' j → ¬ j = w.heap.size + 1 := fun j hj e => by
    rcases hj with hj | hj | hj
    · have := HOLD.out j (.inl hj); omega
    · rcases HS5.out j hj with h8 | h8
      · have := HOLD.out j (.inr (.inl h8)); omega
      · omega
    · rcases hsT j hj with h8 | h8
      · have := HOLD.out j (.inr (.inr h8)); omega
      · omega
  refine ⟨fun j => So j ∨ Sv' j ∨ St' j, ⟨b, q, So, Sv', St', vg, p, tg, d', k', most, wv, hz7.kept jk hne, fun j => Iff.rfl⟩, fun j hj => ?_, ?_, fun j hj => ⟨?_, fun e => ?_⟩⟩
  · rcases hj with hj | hj | hj
    · exact .inl (.inl hj)
    · rcases HS5.out j hj with h8 | h8
      · exact .inl (.inr (.inl h8))
      · exact .inr (by have := HB2.out.size; omega)
    · rcases hsT j hj with h8 | h8
      · exact .inl (.inr (.inr h8))
      · exact .inr (by have := HB2.out.size; omega)
  · have h02 : w.heap.size ≤ w2.heap.size := HB2.out.size
    have k1 : Kept (fun j => So j ∨ Sv j ∨ St j) w wr := Kept.of_below (HB2.out.trans (HUR.out.mono h02)) (Nat.le_refl _)
    have k2 := k1.trans HK5.out (fun j hj _ => .inr (.inl hj))
    have k3 := k2.trans (Kept.of_below (S := fun _ => False) HB56.out (Nat.le_refl _)) (fun j hj _ => hj.elim)
    have k4 := k3.trans HK67.out (fun j hj _ => .inr (.inr hj))
    exact k4.trans jk (fun j e hj => by subst e; omega)
  · have h8 := (HL5.out j hj).1
    have := HB2.out.size
    omega
  · have h8 := HL5.out j hj
    have h9 := HI5.out j hj
    rcases e with e | e | e
    · have := HOLD.out j (.inl e); omega
    · exact h8.2 e
    · rcases hsT j e with h7 | h7
      · have := HOLD.out j (.inr (.inr h7)); omega
      · omega

end Go.Proofs.YtllbngopfganjaaGreatDoor.Nd
end
