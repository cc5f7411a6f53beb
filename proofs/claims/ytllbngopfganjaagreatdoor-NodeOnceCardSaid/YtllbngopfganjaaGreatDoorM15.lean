/- Zi, Zj. -/
import Derived.Test.YtllbngopfganjaaGreatDoorM14
set_option linter.unusedVariables false
set_option linter.unusedSimpArgs false

section
namespace Go.Proofs.YtllbngopfganjaaGreatDoor.Nd
open Go.RowKit Go.Cor

set_option maxRecDepth 100000 in
set_option maxHeartbeats 4000000 in
theorem handle_stale (fr tt kd vo li : Int) (id : Nat) (co : Int) (has : Bool) (key ck : Nat) (gn : Bool) (x : Option Addr) (L c : Nat) (md : List UInt8) {B g b q vg p tg k : Nat} {So Sv St : Nat → Prop} {d : Dsk} {most : Int} {wv : Value} {n : NodeP} {r : Nat} (w : World) (h : ZAt w B g b q So Sv St vg p tg d k most wv n (r + 1)) (hv : IsB w (.slice x L c) md) (h5 : kd ≠ 5) (hq : mcheck ⟨fr, tt, kd, vo, li, id, co, has, ⟨key, ck, gn, md⟩⟩ = 0) (hp : tt = n.place) (hl : li ≠ n.life) :
    Calls Tryz.prog 9 #[.pointer (some ⟨g, 0, none⟩), .agg #[.int .i64 fr, .int .i64 tt, .int .i64 kd, .int .i64 vo, .int .i64 li, .int .u64 (id : Int), .int .i64 co, .bool has, .int .u64 (key : Int), .int .u32 (ck : Int), .bool gn, .slice x L c]] w fun e w' => ∃ z y, e = .returned (.tuple #[mval ⟨tt, fr, 5, vo, n.life, id, 13, false, nz⟩ (.slice z 0 y), .nilIface]) ∧ IsB w' (.slice z 0 y) [] ∧ Below w.heap.size w w' := by
  have e5 : (kd == 5) = false := beq_eq_false_iff_ne.2 h5
  clear h5
  have hB1 := below_new16 w (.cells #[.int .i64 fr, .int .i64 tt, .int .i64 kd, .int .i64 vo, .int .i64 li, .int .u64 (id : Int), .int .i64 co, .bool has, .int .u64 (key : Int), .int .u32 (ck : Int), .bool gn, .slice x L c] 45)
  have hB2 := hB1.alloc hB1.size (.cells #[.int .i64 0, .int .i64 0, .int .i64 0, .int .i64 0, .int .i64 0, .int .u64 0, .int .i64 0, .bool false, .int .u64 0, .int .u32 0, .bool false, .slice none 0 0] 45)
  have hX2 := (Blk.new w #[.int .i64 fr, .int .i64 tt, .int .i64 kd, .int .i64 vo, .int .i64 li, .int .u64 (id : Int), .int .i64 co, .bool has, .int .u64 (key : Int), .int .u32 (ck : Int), .bool gn, .slice x L c] 45).alloc (.cells #[.int .i64 0, .int .i64 0, .int .i64 0, .int .i64 0, .int .i64 0, .int .u64 0, .int .i64 0, .bool false, .int .u64 0, .int .u32 0, .bool false, .slice none 0 0] 45)
  have hZ2 := Blk.new (w.alloc (.cells #[.int .i64 fr, .int .i64 tt, .int .i64 kd, .int .i64 vo, .int .i64 li, .int .u64 (id : Int), .int .i64 co, .bool has, .int .u64 (key : Int), .int .u32 (ck : Int), .bool gn, .slice x L c] 45)) #[.int .i64 0, .int .i64 0, .int .i64 0, .int .i64 0, .int .i64 0, .int .u64 0, .int .i64 0, .bool false, .int .u64 0, .int .u32 0, .bool false, .slice none 0 0] 45
  rw [show (w.alloc (.cells #[.int .i64 fr, .int .i64 tt, .int .i64 kd, .int .i64 vo, .int .i64 li, .int .u64 (id : Int), .int .i64 co, .bool has, .int .u64 (key : Int), .int .u32 (ck : Int), .bool gn, .slice x L c] 45)).heap.size = w.heap.size + 1 by simp] at hZ2
  obtain ⟨w2, hw2⟩ : ∃ z, (w.alloc (.cells #[.int .i64 fr, .int .i64 tt, .int .i64 kd, .int .i64 vo, .int .i64 li, .int .u64 (id : Int), .int .i64 co, .bool has, .int .u64 (key : Int), .int .u32 (ck : Int), .bool gn, .slice x L c] 45)).alloc (.cells #[.int .i64 0, .int .i64 0, .int .i64 0, .int .i64 0, .int .i64 0, .int .u64 0, .int .i64 0, .bool false, .int .u64 0, .int .u32 0, .bool false, .slice none 0 0] 45) = z := ⟨_, rfl⟩
  rw [hw2] at hB2 hX2 hZ2
  have hs2 : w2.heap.size = w.heap.size + 1 + 1 := by rw [← hw2]; simp
  obtain ⟨PLC, hPLC⟩ : ∃ z, n.place = z := ⟨_, rfl⟩
  obtain ⟨NLF, hNLF⟩ : ∃ z, n.life = z := ⟨_, rfl⟩
  have h2 := h.below hB2
  have HCM := Lib.hid (fun (wx : World) (hb : Below w2.heap.size w2 wx) => show wx.cell? ⟨w.heap.size, 0, none⟩ = some (.int .i64 fr) ∧ wx.cell? ⟨w.heap.size, 1, none⟩ = some (.int .i64 tt) ∧ wx.cell? ⟨w.heap.size, 2, none⟩ = some (.int .i64 kd) ∧ wx.cell? ⟨w.heap.size, 3, none⟩ = some (.int .i64 vo) ∧ wx.cell? ⟨w.heap.size, 4, none⟩ = some (.int .i64 li) ∧ wx.cell? ⟨w.heap.size, 5, none⟩ = some (.int .u64 (id : Int)) ∧ wx.cell? ⟨w.heap.size, 6, none⟩ = some (.int .i64 co) ∧ wx.cell? ⟨w.heap.size, 7, none⟩ = some (.bool has) ∧ wx.cell? ⟨w.heap.size, 8, none⟩ = some (.int .u64 (key : Int)) ∧ wx.cell? ⟨w.heap.size, 9, none⟩ = some (.int .u32 (ck : Int)) ∧ wx.cell? ⟨w.heap.size, 10, none⟩ = some (.bool gn) ∧ wx.cell? ⟨w.heap.size, 11, none⟩ = some (.slice x L c) from
    have h := hX2.below hb hX2.lt
    ⟨h.cell 0 rfl, h.cell 1 rfl, h.cell 2 rfl, h.cell 3 rfl, h.cell 4 rfl, h.cell 5 rfl, h.cell 6 rfl, h.cell 7 rfl, h.cell 8 rfl, h.cell 9 rfl, h.cell 10 rfl, h.cell 11 rfl⟩)
  have HCN := Lib.hid (fun (wx : World) (hb : Below w2.heap.size w2 wx) => show wx.cell? ⟨g, 0, none⟩ = some (.int .i64 PLC) ∧ wx.cell? ⟨g, 1, none⟩ = some (.pointer (some ⟨p, 0, none⟩)) ∧ wx.cell? ⟨g, 2, none⟩ = some (.int .i64 NLF) ∧ wx.cell? ⟨g, 3, none⟩ = some (.bool true) ∧ wx.cell? ⟨g, 4, none⟩ = some (.map (some b)) ∧ wx.cell? ⟨g, 5, none⟩ = some (.pointer (some ⟨tg, 0, none⟩)) from by
    have h := (h2.below hb).blk
    rw [hPLC, hNLF] at h
    exact ⟨h.cell 0 rfl, h.cell 1 rfl, h.cell 2 rfl, h.cell 3 rfl, h.cell 4 rfl, h.cell 5 rfl⟩)
  have HSV := Lib.hid (serves_at h2.blk (UpD.vl h2.pt.vr.vl h2.pt.vr.lies))
  have HCK := Lib.hid (fun (wx : World) (hb : Below w2.heap.size w2 wx) => wcheck_any ⟨fr, tt, kd, vo, li, id, co, has, ⟨key, ck, gn, md⟩⟩ (.slice x L c) wx ((hv.mono hB2 (Nat.le_refl _)).mono hb (Nat.le_refl _)))
  have H2 := Lib.hid h2
  have HZ2 := Lib.hid hZ2
  have HB2 := Lib.hid hB2
  have HHV := Lib.hid hv
  have hlw : w.heap.size + 1 < w2.heap.size := by omega
  simp only [hq, cerr_0] at HCK
  clear hq
  have eP : (tt != PLC) = false := bne_eq_false_iff_eq.2 (by rw [← hPLC]; exact hp)
  clear hp
  have eL : (li != NLF) = true := bne_iff_ne.2 (by rw [← hNLF]; exact hl)
  clear hl
  have HRF := Lib.hid (fun (wx : World) => show Calls Tryz.prog 22 #[.agg #[.int .i64 fr, .int .i64 tt, .int .i64 kd, .int .i64 vo, .int .i64 li, .int .u64 (id : Int), .int .i64 co, .bool has, .int .u64 (key : Int), .int .u32 (ck : Int), .bool gn, .slice x L c], .int .i64 13] wx fun e w' => ∃ z y7, e = .returned (.agg #[.int .i64 tt, .int .i64 fr, .int .i64 5, .int .i64 vo, .int .i64 li, .int .u64 (id : Int), .int .i64 13, .bool false, .int .u64 0, .int .u32 0, .bool false, .slice z 0 y7]) ∧ IsB w' (.slice z 0 y7) [] ∧ Below wx.heap.size wx w' from refusal_f fr tt kd vo li id co has key ck gn x L c 13 wx)
  clear hPLC
  rw [hNLF]
  clear hNLF
  clear h hv hB1 hB2 hX2 hZ2 hs2 h2
  go_enter Tryz.func9, Tryz.ntmps9
  go_upto_region 1 with fail
  try rw [hw2]
  clear hw2
  go_wp2_with fail
  refine HSV.out.mono ?_
  rintro e wx ⟨rfl, rfl⟩
  go_upto_region 4 with fail
  have HU4 := Lib.hid (show Below w2.heap.size w2 w2.drew from (Below.refl _ _).drew)
  refine wp_region_held_drew (S := (fun wx => Below w2.heap.size w2 wx)) (by kernel_rfl) (HU4.out) (fun hHeld => ?_)
  obtain ⟨q4, hq4⟩ : ∃ q, w2.drew = q := ⟨_, rfl⟩
  rw [hq4] at HU4 hHeld
  rw [hq4]
  clear hq4
  refine wpAnyH_take (i := 0) (v := ?_) rfl (by kernel_rfl) (by kernel_rfl) (by kernel_rfl) (fun _ _ _ h => h) (Or.inl ⟨by rfl, ?_⟩) hHeld ?_
  rotate_left 1
  · intro w hSw
    (try dsimp only at hSw)
    go_simp
    all_goals (with_reducible rfl)
  try simp only [Act.put, List.getElem_toArray, List.getElem_cons_zero, List.getElem_cons_succ, List.setIfInBounds_toArray, List.set_cons_zero, List.set_cons_succ]
  refine wpAnyH_take (i := 1) (v := ?_) rfl (by kernel_rfl) (by kernel_rfl) (by kernel_rfl) (fun _ _ _ h => h) (Or.inl ⟨by rfl, ?_⟩) hHeld ?_
  rotate_left 1
  · intro w hSw
    obtain ⟨p0, p1, p2, p3, p4, p5, p6, p7, p8, p9, p10, p11⟩ := HCM.out w hSw
    go_simp
    all_goals (with_reducible rfl)
  try simp only [Act.put, List.getElem_toArray, List.getElem_cons_zero, List.getElem_cons_succ, List.setIfInBounds_toArray, List.set_cons_zero, List.set_cons_succ]
  refine wpAnyH_take (i := 2) (v := ?_) rfl (by kernel_rfl) (by kernel_rfl) (by kernel_rfl) (fun _ _ _ h => h) (Or.inl ⟨by rfl, ?_⟩) hHeld ?_
  rotate_left 1
  · intro w hSw
    (try dsimp only at hSw)
    go_simp
    all_goals (with_reducible rfl)
  try simp only [Act.put, List.getElem_toArray, List.getElem_cons_zero, List.getElem_cons_succ, List.setIfInBounds_toArray, List.set_cons_zero, List.set_cons_succ]
  refine wpAnyH_take (i := 3) (v := ?_) rfl (by kernel_rfl) (by kernel_rfl) (by kernel_rfl) (fun _ _ _ h => h) (Or.inl ⟨by rfl, ?_⟩) hHeld ?_
  rotate_left 1
  · intro w hSw
    (try dsimp only at hSw)
    go_simp
    all_goals (with_reducible rfl)
  try simp only [Act.put, List.getElem_toArray, List.getElem_cons_zero, List.getElem_cons_succ, List.setIfInBounds_toArray, List.set_cons_zero, List.set_cons_succ]
  refine wpAnyH_take (i := 4) (v := ?_) rfl (by kernel_rfl) (by kernel_rfl) (by kernel_rfl) (fun _ _ _ h => h) (Or.inl ⟨by rfl, ?_⟩) hHeld ?_
  rotate_left 1
  · intro w hSw
    obtain ⟨p0, p1, p2, p3, p4, p5, p6, p7, p8, p9, p10, p11⟩ := HCM.out w hSw
    go_simp
    all_goals (with_reducible rfl)
  try simp only [Act.put, List.getElem_toArray, List.getElem_cons_zero, List.getElem_cons_succ, List.setIfInBounds_toArray, List.set_cons_zero, List.set_cons_succ]
  refine wpAnyH_ready (rs := [5]) (by kernel_rfl) (by simp) ?_
  refine AllReadyH.cons rfl (fun K hK => ?_) AllReadyH.nil
  go_simp
  refine (HCK.out _ HU4.out).mono ?_
  rintro e u4 ⟨rfl, hbx⟩
  have HUu4 := Lib.hid (HU4.out.trans (hbx.mono HU4.out.size))
  clear hbx
  refine hK.out _ _ (HUu4.out) (fun hHeld => ?_)
  clear hK K
  try simp only [Act.put, List.getElem_toArray, List.getElem_cons_zero, List.getElem_cons_succ, List.setIfInBounds_toArray, List.set_cons_zero, List.set_cons_succ]
  refine wpAnyH_take (i := 6) (v := ?_) rfl (by kernel_rfl) (by kernel_rfl) (by kernel_rfl) (fun _ _ _ h => h) (Or.inl ⟨by rfl, ?_⟩) hHeld ?_
  rotate_left 1
  · intro w hSw
    (try dsimp only at hSw)
    go_simp
    all_goals (with_reducible rfl)
  try simp only [Act.put, List.getElem_toArray, List.getElem_cons_zero, List.getElem_cons_succ, List.setIfInBounds_toArray, List.set_cons_zero, List.set_cons_succ]
  refine wpAnyH_take (i := 7) (v := ?_) rfl (by kernel_rfl) (by kernel_rfl) (by kernel_rfl) (fun _ _ _ h => h) (Or.inl ⟨by rfl, ?_⟩) hHeld ?_
  rotate_left 1
  · intro w hSw
    (try dsimp only at hSw)
    go_simp
    all_goals (with_reducible rfl)
  try simp only [Act.put, List.getElem_toArray, List.getElem_cons_zero, List.getElem_cons_succ, List.setIfInBounds_toArray, List.set_cons_zero, List.set_cons_succ]
  refine wpAnyH_take (i := 8) (v := ?_) rfl (by kernel_rfl) (by kernel_rfl) (by kernel_rfl) (fun _ _ _ h => h) (Or.inl ⟨by rfl, ?_⟩) hHeld ?_
  rotate_left 1
  · intro w hSw
    (try dsimp only at hSw)
    go_simp
    all_goals (with_reducible rfl)
  try simp only [Act.put, List.getElem_toArray, List.getElem_cons_zero, List.getElem_cons_succ, List.setIfInBounds_toArray, List.set_cons_zero, List.set_cons_succ]
  refine wpAnyH_take (i := 9) (v := ?_) rfl (by kernel_rfl) (by kernel_rfl) (by kernel_rfl) (fun _ _ _ h => h) (Or.inl ⟨by rfl, ?_⟩) hHeld ?_
  rotate_left 1
  · intro w hSw
    (try dsimp only at hSw)
    go_simp
    all_goals (with_reducible rfl)
  try simp only [Act.put, List.getElem_toArray, List.getElem_cons_zero, List.getElem_cons_succ, List.setIfInBounds_toArray, List.set_cons_zero, List.set_cons_succ]
  refine wpAnyH_take (i := 10) (v := ?_) rfl (by kernel_rfl) (by kernel_rfl) (by kernel_rfl) (fun _ _ _ h => h) (Or.inl ⟨by rfl, ?_⟩) hHeld ?_
  rotate_left 1
  · intro w hSw
    obtain ⟨p0, p1, p2, p3, p4, p5, p6, p7, p8, p9, p10, p11⟩ := HCM.out w hSw
    go_simp
    all_goals (with_reducible rfl)
  try simp only [Act.put, List.getElem_toArray, List.getElem_cons_zero, List.getElem_cons_succ, List.setIfInBounds_toArray, List.set_cons_zero, List.set_cons_succ]
  refine wpAnyH_take (i := 11) (v := ?_) rfl (by kernel_rfl) (by kernel_rfl) (by kernel_rfl) (fun _ _ _ h => h) (Or.inl ⟨by rfl, ?_⟩) hHeld ?_
  rotate_left 1
  · intro w hSw
    (try dsimp only at hSw)
    go_simp
    all_goals (with_reducible rfl)
  try simp only [Act.put, List.getElem_toArray, List.getElem_cons_zero, List.getElem_cons_succ, List.setIfInBounds_toArray, List.set_cons_zero, List.set_cons_succ]
  refine wpAnyH_take (i := 12) (v := ?_) rfl (by kernel_rfl) (by kernel_rfl) (by kernel_rfl) (fun _ _ _ h => h) (Or.inl ⟨by rfl, ?_⟩) hHeld ?_
  rotate_left 1
  · intro w hSw
    (try dsimp only at hSw)
    go_simp
    all_goals (with_reducible rfl)
  try simp only [Act.put, List.getElem_toArray, List.getElem_cons_zero, List.getElem_cons_succ, List.setIfInBounds_toArray, List.set_cons_zero, List.set_cons_succ]
  refine wpAnyH_take (i := 13) (v := ?_) rfl (by kernel_rfl) (by kernel_rfl) (by kernel_rfl) (fun _ _ _ h => h) (Or.inl ⟨by rfl, ?_⟩) hHeld ?_
  rotate_left 1
  · intro w hSw
    (try dsimp only at hSw)
    go_simp
    all_goals (with_reducible rfl)
  try simp only [Act.put, List.getElem_toArray, List.getElem_cons_zero, List.getElem_cons_succ, List.setIfInBounds_toArray, List.set_cons_zero, List.set_cons_succ]
  refine wpAnyH_take (i := 14) (v := ?_) rfl (by kernel_rfl) (by kernel_rfl) (by kernel_rfl) (fun _ _ _ h => h) (Or.inl ⟨by rfl, ?_⟩) hHeld ?_
  rotate_left 1
  · intro w hSw
    obtain ⟨q0, q1, q2, q3, q4, q5⟩ := HCN.out w hSw
    go_simp
    all_goals (with_reducible rfl)
  try simp only [Act.put, List.getElem_toArray, List.getElem_cons_zero, List.getElem_cons_succ, List.setIfInBounds_toArray, List.set_cons_zero, List.set_cons_succ]
  refine wpAnyH_take (i := 15) (v := ?_) rfl (by kernel_rfl) (by kernel_rfl) (by kernel_rfl) (fun _ _ _ h => h) (Or.inl ⟨by rfl, ?_⟩) hHeld ?_
  rotate_left 1
  · intro w hSw
    (try dsimp only at hSw)
    go_simp
    all_goals (with_reducible rfl)
  try simp only [Act.put, List.getElem_toArray, List.getElem_cons_zero, List.getElem_cons_succ, List.setIfInBounds_toArray, List.set_cons_zero, List.set_cons_succ]
  refine wpAnyH_take (i := 16) (v := ?_) rfl (by kernel_rfl) (by kernel_rfl) (by kernel_rfl) (fun _ _ _ h => h) (Or.inl ⟨by rfl, ?_⟩) hHeld ?_
  rotate_left 1
  · intro w hSw
    (try dsimp only at hSw)
    go_simp
    all_goals (with_reducible rfl)
  try simp only [Act.put, List.getElem_toArray, List.getElem_cons_zero, List.getElem_cons_succ, List.setIfInBounds_toArray, List.set_cons_zero, List.set_cons_succ]
  refine wpAnyH_done (by kernel_rfl) ?_ _
  go_upto_region 6 with fail
  have HU6 := Lib.hid (show Below w2.heap.size w2 u4.drew from HUu4.out.drew)
  refine wp_region_held_drew (S := (fun wx => Below w2.heap.size w2 wx)) (by kernel_rfl) (HU6.out) (fun hHeld => ?_)
  obtain ⟨q6, hq6⟩ : ∃ q, u4.drew = q := ⟨_, rfl⟩
  rw [hq6] at HU6 hHeld
  rw [hq6]
  clear hq6
  refine wpAnyH_take (i := 0) (v := ?_) rfl (by kernel_rfl) (by kernel_rfl) (by kernel_rfl) (fun _ _ _ h => h) (Or.inl ⟨by rfl, ?_⟩) hHeld ?_
  rotate_left 1
  · intro w hSw
    (try dsimp only at hSw)
    go_simp
    all_goals (with_reducible rfl)
  try simp only [Act.put, List.getElem_toArray, List.getElem_cons_zero, List.getElem_cons_succ, List.setIfInBounds_toArray, List.set_cons_zero, List.set_cons_succ]
  refine wpAnyH_take (i := 1) (v := ?_) rfl (by kernel_rfl) (by kernel_rfl) (by kernel_rfl) (fun _ _ _ h => h) (Or.inl ⟨by rfl, ?_⟩) hHeld ?_
  rotate_left 1
  · intro w hSw
    obtain ⟨p0, p1, p2, p3, p4, p5, p6, p7, p8, p9, p10, p11⟩ := HCM.out w hSw
    go_simp
    all_goals (with_reducible rfl)
  try simp only [Act.put, List.getElem_toArray, List.getElem_cons_zero, List.getElem_cons_succ, List.setIfInBounds_toArray, List.set_cons_zero, List.set_cons_succ]
  refine wpAnyH_take (i := 2) (v := ?_) rfl (by kernel_rfl) (by kernel_rfl) (by kernel_rfl) (fun _ _ _ h => h) (Or.inl ⟨by rfl, ?_⟩) hHeld ?_
  rotate_left 1
  · intro w hSw
    (try dsimp only at hSw)
    go_simp
    all_goals (with_reducible rfl)
  try simp only [Act.put, List.getElem_toArray, List.getElem_cons_zero, List.getElem_cons_succ, List.setIfInBounds_toArray, List.set_cons_zero, List.set_cons_succ]
  refine wpAnyH_take (i := 3) (v := ?_) rfl (by kernel_rfl) (by kernel_rfl) (by kernel_rfl) (fun _ _ _ h => h) (Or.inl ⟨by rfl, ?_⟩) hHeld ?_
  rotate_left 1
  · intro w hSw
    (try dsimp only at hSw)
    go_simp
    all_goals (with_reducible rfl)
  try simp only [Act.put, List.getElem_toArray, List.getElem_cons_zero, List.getElem_cons_succ, List.setIfInBounds_toArray, List.set_cons_zero, List.set_cons_succ]
  refine wpAnyH_take (i := 4) (v := ?_) rfl (by kernel_rfl) (by kernel_rfl) (by kernel_rfl) (fun _ _ _ h => h) (Or.inl ⟨by rfl, ?_⟩) hHeld ?_
  rotate_left 1
  · intro w hSw
    (try dsimp only at hSw)
    go_simp
    all_goals (with_reducible rfl)
  try simp only [Act.put, List.getElem_toArray, List.getElem_cons_zero, List.getElem_cons_succ, List.setIfInBounds_toArray, List.set_cons_zero, List.set_cons_succ]
  refine wpAnyH_take (i := 5) (v := ?_) rfl (by kernel_rfl) (by kernel_rfl) (by kernel_rfl) (fun _ _ _ h => h) (Or.inl ⟨by rfl, ?_⟩) hHeld ?_
  rotate_left 1
  · intro w hSw
    obtain ⟨q0, q1, q2, q3, q4, q5⟩ := HCN.out w hSw
    go_simp
    all_goals (with_reducible rfl)
  try simp only [Act.put, List.getElem_toArray, List.getElem_cons_zero, List.getElem_cons_succ, List.setIfInBounds_toArray, List.set_cons_zero, List.set_cons_succ]
  refine wpAnyH_take (i := 6) (v := ?_) rfl (by kernel_rfl) (by kernel_rfl) (by kernel_rfl) (fun _ _ _ h => h) (Or.inl ⟨by rfl, ?_⟩) hHeld ?_
  rotate_left 1
  · intro w hSw
    (try dsimp only at hSw)
    go_simp
    all_goals (with_reducible rfl)
  try simp only [Act.put, List.getElem_toArray, List.getElem_cons_zero, List.getElem_cons_succ, List.setIfInBounds_toArray, List.set_cons_zero, List.set_cons_succ]
  refine wpAnyH_done (by kernel_rfl) ?_ _
  go_upto_region 7 with fail
  obtain ⟨p0, p1, p2, p3, p4, p5, p6, p7, p8, p9, p10, p11⟩ := HCM.out _ HU6.out
  go_wp2_with fail
  refine (HRF.out _).mono ?_
  rintro e u7 ⟨z, y7, rfl, hi7, hb7⟩
  have HU7 := Lib.hid (HU6.out.trans (hb7.mono HU6.out.size))
  have hA8 := Blk.new u7 #[.int .i64 tt, .int .i64 fr, .int .i64 5, .int .i64 vo, .int .i64 li, .int .u64 (id : Int), .int .i64 13, .bool false, .int .u64 0, .int .u32 0, .bool false, .slice z 0 y7] 45
  have hb8 := below_new16 u7 (.cells #[.int .i64 tt, .int .i64 fr, .int .i64 5, .int .i64 vo, .int .i64 li, .int .u64 (id : Int), .int .i64 13, .bool false, .int .u64 0, .int .u32 0, .bool false, .slice z 0 y7] 45)
  have hi8 := hi7.mono hb8 (Nat.le_refl _)
  obtain ⟨w8, hw8⟩ : ∃ zz, u7.alloc (.cells #[.int .i64 tt, .int .i64 fr, .int .i64 5, .int .i64 vo, .int .i64 li, .int .u64 (id : Int), .int .i64 13, .bool false, .int .u64 0, .int .u32 0, .bool false, .slice z 0 y7] 45) = zz := ⟨_, rfl⟩
  rw [hw8] at hA8 hb8 hi8
  have HU8 := Lib.hid (HU7.out.trans (hb8.mono HU7.out.size))
  have hs8 := hA8.set 4 (.int .i64 NLF)
  simp at hs8
  have hk8 := (Kept.refl (fun j => j = u7.heap.size) w8).setCell (p := ⟨u7.heap.size, 4, none⟩) (.inl rfl) (.int .i64 NLF)
  have h27 : w2.heap.size ≤ u7.heap.size := HU7.out.size
  have hU9 := HU8.out.setCell (p := ⟨u7.heap.size, 4, none⟩) h27 (.int .i64 NLF)
  have hi9 := hi8.kept hk8 (fun b hb e => absurd rfl hb.1)
  obtain ⟨w9, hw9⟩ : ∃ z, w8.setCell ⟨u7.heap.size, 4, none⟩ (.int .i64 NLF) = z := ⟨_, rfl⟩
  rw [hw9] at hs8 hU9 hi9
  have HU9 := Lib.hid hU9
  have HS9 := Lib.hid hs8
  have HI9 := Lib.hid hi9
  obtain ⟨q0, q1, q2, q3, q4, q5⟩ := HCN.out w8 HU8.out
  have r4 := hA8.cell 4 rfl
  have rf := fun j => hA8.free j
  have HW9 := Lib.hid hw9
  clear p0 p1 p2 p3 p4 p5 p6 p7 p8 p9 p10 p11
  clear hi7 hb7 hA8 hb8 hi8 hs8 hk8 hU9 hi9 hw9
  go_upto_region 8 with fail
  try rw [hw8]
  clear hw8
  go_upto_region 9 with fail
  try rw [HW9.out]
  clear q0 q1 q2 q3 q4 q5 r4 rf
  have s0 := HS9.out.cell 0 rfl
  have s1 := HS9.out.cell 1 rfl
  have s2 := HS9.out.cell 2 rfl
  have s3 := HS9.out.cell 3 rfl
  have s4 := HS9.out.cell 4 rfl
  have s5 := HS9.out.cell 5 rfl
  have s6 := HS9.out.cell 6 rfl
  have s7 := HS9.out.cell 7 rfl
  have s8 := HS9.out.cell 8 rfl
  have s9 := HS9.out.cell 9 rfl
  have s10 := HS9.out.cell 10 rfl
  have s11 := HS9.out.cell 11 rfl
  have hZu := HZ2.out.below HU9.out HZ2.out.lt
  have HF := Lib.hid (fin12z hZu (.int .i64 tt) (.int .i64 fr) (.int .i64 5) (.int .i64 vo) (.int .i64 NLF) (.int .u64 (id : Int)) (.int .i64 13) (.bool false) (.int .u64 0) (.int .u32 0) (.bool false) (.slice z 0 y7))
  have HBu := Lib.hid (HB2.out.trans (HU9.out.mono HB2.out.size))
  have z0 := hZu.cell 0 rfl
  have z1 := hZu.cell 1 rfl
  have z2 := hZu.cell 2 rfl
  have z3 := hZu.cell 3 rfl
  have z4 := hZu.cell 4 rfl
  have z5 := hZu.cell 5 rfl
  have z6 := hZu.cell 6 rfl
  have z7 := hZu.cell 7 rfl
  have z8 := hZu.cell 8 rfl
  have z9 := hZu.cell 9 rfl
  have z10 := hZu.cell 10 rfl
  have z11 := hZu.cell 11 rfl
  have zf := fun j => hZu.free j
  clear hZu
  go_wp2
  obtain ⟨j0, j1, j2, j3, j4, j5, j6, j7, j8, j9, j10, j11, jk⟩ := HF.out
  exact bodyPost_ret (v := .tuple #[.agg #[.int .i64 tt, .int .i64 fr, .int .i64 5, .int .i64 vo, .int .i64 NLF, .int .u64 (id : Int), .int .i64 13, .bool false, .int .u64 0, .int .u32 0, .bool false, .slice z 0 y7], .nilIface]) (by simp [results, Tryz.results9, go_sem, j0, j1, j2, j3, j4, j5, j6, j7, j8, j9, j10, j11]) rfl ⟨z, y7, rfl, HI9.out.kept jk (fun b hb e => absurd rfl hb.1), Below.trans_keptZ HBu.out jk (Nat.le_succ _)⟩

end Go.Proofs.YtllbngopfganjaaGreatDoor.Nd
end

section
namespace Go.Proofs.YtllbngopfganjaaGreatDoor.Nd
open Go.RowKit Go.Cor

theorem fin12zb {w : World} {B : Nat} {a0 a1 a2 a3 a4 a5 a6 a7 a8 a9 a10 a11 : Value} {T : TypeId} (h : Blk w B #[a0, a1, a2, a3, a4, a5, a6, a7, a8, a9, a10, a11] T) (u0 u1 u2 u3 u4 u5 u6 u7 u8 u9 u10 u11 : Value) :
    Blk ((((((((((((w.setCell ⟨B, 0, none⟩ u0).setCell ⟨B, 1, none⟩ u1).setCell ⟨B, 2, none⟩ u2).setCell ⟨B, 3, none⟩ u3).setCell ⟨B, 4, none⟩ u4).setCell ⟨B, 5, none⟩ u5).setCell ⟨B, 6, none⟩ u6).setCell ⟨B, 7, none⟩ u7).setCell ⟨B, 8, none⟩ u8).setCell ⟨B, 9, none⟩ u9).setCell ⟨B, 10, none⟩ u10).setCell ⟨B, 11, none⟩ u11) B #[u0, u1, u2, u3, u4, u5, u6, u7, u8, u9, u10, u11] T ∧ Kept (fun j => j = B) w ((((((((((((w.setCell ⟨B, 0, none⟩ u0).setCell ⟨B, 1, none⟩ u1).setCell ⟨B, 2, none⟩ u2).setCell ⟨B, 3, none⟩ u3).setCell ⟨B, 4, none⟩ u4).setCell ⟨B, 5, none⟩ u5).setCell ⟨B, 6, none⟩ u6).setCell ⟨B, 7, none⟩ u7).setCell ⟨B, 8, none⟩ u8).setCell ⟨B, 9, none⟩ u9).setCell ⟨B, 10, none⟩ u10).setCell ⟨B, 11, none⟩ u11) := by
  have h1 := ((((((h.set 0 u0).set 1 u1).set 2 u2).set 3 u3).set 4 u4).set 5 u5)
  simp at h1
  have h2 := ((((((h1.set 6 u6).set 7 u7).set 8 u8).set 9 u9).set 10 u10).set 11 u11)
  simp at h2
  exact ⟨h2, (fin12z h u0 u1 u2 u3 u4 u5 u6 u7 u8 u9 u10 u11).2.2.2.2.2.2.2.2.2.2.2.2⟩
theorem Tryz.sizeWMZ : (Tryz.prog.info? 45).map (·.size) = some 12 := by kernel_rfl
set_option maxHeartbeats 1000000 in
/-- A message stored into a box, as one operation. -/
theorem wp_store12Z {P : Program} {w : World} {o : Oper} {a : Act} {K : Act → World → Prop} {Q : Exit → Act → World → Prop} (T : TypeId) (hs : (P.info? T).map (·.size) = some 12) (x y : Operand) (ho : o.op = .store T x y)
    (g : Nat) (T' : TypeId) {a0 a1 a2 a3 a4 a5 a6 a7 a8 a9 a10 a11 : Value} (hb : Blk w g #[a0, a1, a2, a3, a4, a5, a6, a7, a8, a9, a10, a11] T') {v0 v1 v2 v3 v4 v5 v6 v8 v9 : Int} {v7 v10 : Bool} {s : Option Addr} {n c : Nat}
    (hx : a.eval x = .pointer (some ⟨g, 0, none⟩)) (hy : a.eval y = .agg #[.int .i64 v0, .int .i64 v1, .int .i64 v2, .int .i64 v3, .int .i64 v4, .int .u64 v5, .int .i64 v6, .bool v7, .int .u64 v8, .int .u32 v9, .bool v10, .slice s n c])
    (h : ∀ w', Blk w' g #[.int .i64 v0, .int .i64 v1, .int .i64 v2, .int .i64 v3, .int .i64 v4, .int .u64 v5, .int .i64 v6, .bool v7, .int .u64 v8, .int .u32 v9, .bool v10, .slice s n c] T' → Kept (fun j => j = g) w w' → K (a.put o.dst undef) w') : o.wp P a w K Q := by
  obtain ⟨j, hj1, hj2⟩ := Option.map_eq_some_iff.1 hs
  have hsz : ∀ W, (sizeOf T).run P W = .ok 12 W := fun W => by simp [sizeOf, typeInfo, hj1, hj2]
  have hF := fin12zb hb (.int .i64 v0) (.int .i64 v1) (.int .i64 v2) (.int .i64 v3) (.int .i64 v4) (.int .u64 v5) (.int .i64 v6) (.bool v7) (.int .u64 v8) (.int .u32 v9) (.bool v10) (.slice s n c)
  have c0 := hb.cell 0 rfl
  have c1 := hb.cell 1 rfl
  have c2 := hb.cell 2 rfl
  have c3 := hb.cell 3 rfl
  have c4 := hb.cell 4 rfl
  have c5 := hb.cell 5 rfl
  have c6 := hb.cell 6 rfl
  have c7 := hb.cell 7 rfl
  have c8 := hb.cell 8 rfl
  have c9 := hb.cell 9 rfl
  have c10 := hb.cell 10 rfl
  have c11 := hb.cell 11 rfl
  have fz := fun j => hb.free j
  have HF := Lib.hid hF
  clear hF
  unfold Oper.wp execOp
  rw [ho]
  simp only [hx, hy]
  go_simp
  exact h _ HF.out.1 HF.out.2
theorem mcheck_wfr {m : Msg} (h : mcheck m = 0) : wfI m.fr := by
  obtain ⟨⟨h1, h2, _⟩, _⟩ := mcheck_ok h
  exact wfI_of (by omega) (by omega)
set_option maxRecDepth 100000 in
set_option maxHeartbeats 4000000 in
theorem handle_found (fr tt kd vo li : Int) (id : Nat) (co : Int) (has : Bool) (key ck : Nat) (gn : Bool) (x : Option Addr) (L c : Nat) (md : List UInt8) {B g b q vg p tg k : Nat} {So Sv St : Nat → Prop} {d : Dsk} {most : Int} {wv : Value} {n : NodeP} {r : Nat} (w : World) (h : ZAt w B g b q So Sv St vg p tg d k most wv n (r + 1)) (hv : IsB w (.slice x L c) md) (h5 : kd ≠ 5) (hq : mcheck ⟨fr, tt, kd, vo, li, id, co, has, ⟨key, ck, gn, md⟩⟩ = 0) (hp : tt = n.place) (hl : li = n.life) (hid : wfU id) (hfp : 0 ≤ findP fr id n.l) :
    Calls Tryz.prog 9 #[.pointer (some ⟨g, 0, none⟩), .agg #[.int .i64 fr, .int .i64 tt, .int .i64 kd, .int .i64 vo, .int .i64 li, .int .u64 (id : Int), .int .i64 co, .bool has, .int .u64 (key : Int), .int .u32 (ck : Int), .bool gn, .slice x L c]] w fun e w' => ∃ az an ac, e = .returned (.tuple #[mval (findM fr id n.l) (.slice az an ac), .nilIface]) ∧ IsB w' (.slice az an ac) (findM fr id n.l).n.data ∧ (∀ b, liesB (.slice az an ac) (findM fr id n.l).n.data b → w.heap.size ≤ b) ∧ Below w.heap.size w w' := by
  have e5 : (kd == 5) = false := beq_eq_false_iff_ne.2 h5
  clear h5
  have hwf := mcheck_wfr hq
  have hfk : findK fr id n.l = 0 := by unfold findK; rw [if_neg (by omega)]
  obtain ⟨A, hfa⟩ : ∃ A, findM fr id n.l = A := ⟨_, rfl⟩
  obtain ⟨afr, att, akd, avo, ali, aid, aco, ahas, akey, ack, agn, amd⟩ := A
  clear hfp
  have hB1 := below_new16 w (.cells #[.int .i64 fr, .int .i64 tt, .int .i64 kd, .int .i64 vo, .int .i64 li, .int .u64 (id : Int), .int .i64 co, .bool has, .int .u64 (key : Int), .int .u32 (ck : Int), .bool gn, .slice x L c] 45)
  have hB2 := hB1.alloc hB1.size (.cells #[.int .i64 0, .int .i64 0, .int .i64 0, .int .i64 0, .int .i64 0, .int .u64 0, .int .i64 0, .bool false, .int .u64 0, .int .u32 0, .bool false, .slice none 0 0] 45)
  have hX2 := (Blk.new w #[.int .i64 fr, .int .i64 tt, .int .i64 kd, .int .i64 vo, .int .i64 li, .int .u64 (id : Int), .int .i64 co, .bool has, .int .u64 (key : Int), .int .u32 (ck : Int), .bool gn, .slice x L c] 45).alloc (.cells #[.int .i64 0, .int .i64 0, .int .i64 0, .int .i64 0, .int .i64 0, .int .u64 0, .int .i64 0, .bool false, .int .u64 0, .int .u32 0, .bool false, .slice none 0 0] 45)
  have hZ2 := Blk.new (w.alloc (.cells #[.int .i64 fr, .int .i64 tt, .int .i64 kd, .int .i64 vo, .int .i64 li, .int .u64 (id : Int), .int .i64 co, .bool has, .int .u64 (key : Int), .int .u32 (ck : Int), .bool gn, .slice x L c] 45)) #[.int .i64 0, .int .i64 0, .int .i64 0, .int .i64 0, .int .i64 0, .int .u64 0, .int .i64 0, .bool false, .int .u64 0, .int .u32 0, .bool false, .slice none 0 0] 45
  rw [show (w.alloc (.cells #[.int .i64 fr, .int .i64 tt, .int .i64 kd, .int .i64 vo, .int .i64 li, .int .u64 (id : Int), .int .i64 co, .bool has, .int .u64 (key : Int), .int .u32 (ck : Int), .bool gn, .slice x L c] 45)).heap.size = w.heap.size + 1 by simp] at hZ2
  obtain ⟨w2, hw2⟩ : ∃ z, (w.alloc (.cells #[.int .i64 fr, .int .i64 tt, .int .i64 kd, .int .i64 vo, .int .i64 li, .int .u64 (id : Int), .int .i64 co, .bool has, .int .u64 (key : Int), .int .u32 (ck : Int), .bool gn, .slice x L c] 45)).alloc (.cells #[.int .i64 0, .int .i64 0, .int .i64 0, .int .i64 0, .int .i64 0, .int .u64 0, .int .i64 0, .bool false, .int .u64 0, .int .u32 0, .bool false, .slice none 0 0] 45) = z := ⟨_, rfl⟩
  rw [hw2] at hB2 hX2 hZ2
  have hs2 : w2.heap.size = w.heap.size + 1 + 1 := by rw [← hw2]; simp
  obtain ⟨PLC, hPLC⟩ : ∃ z, n.place = z := ⟨_, rfl⟩
  obtain ⟨NLF, hNLF⟩ : ∃ z, n.life = z := ⟨_, rfl⟩
  have h2 := h.below hB2
  have HCM := Lib.hid (fun (wx : World) (hb : Below w2.heap.size w2 wx) => show wx.cell? ⟨w.heap.size, 0, none⟩ = some (.int .i64 fr) ∧ wx.cell? ⟨w.heap.size, 1, none⟩ = some (.int .i64 tt) ∧ wx.cell? ⟨w.heap.size, 2, none⟩ = some (.int .i64 kd) ∧ wx.cell? ⟨w.heap.size, 3, none⟩ = some (.int .i64 vo) ∧ wx.cell? ⟨w.heap.size, 4, none⟩ = some (.int .i64 li) ∧ wx.cell? ⟨w.heap.size, 5, none⟩ = some (.int .u64 (id : Int)) ∧ wx.cell? ⟨w.heap.size, 6, none⟩ = some (.int .i64 co) ∧ wx.cell? ⟨w.heap.size, 7, none⟩ = some (.bool has) ∧ wx.cell? ⟨w.heap.size, 8, none⟩ = some (.int .u64 (key : Int)) ∧ wx.cell? ⟨w.heap.size, 9, none⟩ = some (.int .u32 (ck : Int)) ∧ wx.cell? ⟨w.heap.size, 10, none⟩ = some (.bool gn) ∧ wx.cell? ⟨w.heap.size, 11, none⟩ = some (.slice x L c) from
    have h := hX2.below hb hX2.lt
    ⟨h.cell 0 rfl, h.cell 1 rfl, h.cell 2 rfl, h.cell 3 rfl, h.cell 4 rfl, h.cell 5 rfl, h.cell 6 rfl, h.cell 7 rfl, h.cell 8 rfl, h.cell 9 rfl, h.cell 10 rfl, h.cell 11 rfl⟩)
  have HCN := Lib.hid (fun (wx : World) (hb : Below w2.heap.size w2 wx) => show wx.cell? ⟨g, 0, none⟩ = some (.int .i64 PLC) ∧ wx.cell? ⟨g, 1, none⟩ = some (.pointer (some ⟨p, 0, none⟩)) ∧ wx.cell? ⟨g, 2, none⟩ = some (.int .i64 NLF) ∧ wx.cell? ⟨g, 3, none⟩ = some (.bool true) ∧ wx.cell? ⟨g, 4, none⟩ = some (.map (some b)) ∧ wx.cell? ⟨g, 5, none⟩ = some (.pointer (some ⟨tg, 0, none⟩)) from by
    have h := (h2.below hb).blk
    rw [hPLC, hNLF] at h
    exact ⟨h.cell 0 rfl, h.cell 1 rfl, h.cell 2 rfl, h.cell 3 rfl, h.cell 4 rfl, h.cell 5 rfl⟩)
  have HSV := Lib.hid (serves_at h2.blk (UpD.vl h2.pt.vr.vl h2.pt.vr.lies))
  have HCK := Lib.hid (fun (wx : World) (hb : Below w2.heap.size w2 wx) => wcheck_any ⟨fr, tt, kd, vo, li, id, co, has, ⟨key, ck, gn, md⟩⟩ (.slice x L c) wx ((hv.mono hB2 (Nat.le_refl _)).mono hb (Nat.le_refl _)))
  have H2 := Lib.hid h2
  have HZ2 := Lib.hid hZ2
  have HB2 := Lib.hid hB2
  have HHV := Lib.hid hv
  have hlw : w.heap.size + 1 < w2.heap.size := by omega
  simp only [hq, cerr_0] at HCK
  clear hq
  have eP : (tt != PLC) = false := bne_eq_false_iff_eq.2 (by rw [← hPLC]; exact hp)
  clear hp
  have eL : (li != NLF) = false := bne_eq_false_iff_eq.2 (by rw [← hNLF]; exact hl)
  clear hl
  have HFD := Lib.hid (fun (wx : World) (hb : Below w2.heap.size w2 wx) => show Calls Tryz.prog 23 #[.pointer (some ⟨tg, 0, none⟩), .int .i64 fr, .int .u64 (id : Int)] wx fun e w' => ∃ az an ac, e = .returned (.tuple #[.agg #[.int .i64 afr, .int .i64 att, .int .i64 akd, .int .i64 avo, .int .i64 ali, .int .u64 (aid : Int), .int .i64 aco, .bool ahas, .int .u64 (akey : Int), .int .u32 (ack : Int), .bool agn, .slice az an ac], .nilIface]) ∧ IsB w' (.slice az an ac) amd ∧ (∀ b, liesB (.slice az an ac) amd b → wx.heap.size ≤ b) ∧ Below wx.heap.size wx w' from by
    refine (ofind_any wx (h2.below hb).pt.tb fr id hwf hid).mono ?_
    rintro e w' ⟨z1, n1, c1, rfl, k1, k2, k3⟩
    rw [hfa, hfk, cerr_0]
    rw [hfa] at k1 k2
    exact ⟨z1, n1, c1, rfl, k1.1, k2, k3⟩)
  clear hwf hid hfk
  clear hPLC hNLF
  rw [hfa]
  clear hfa
  clear h hv hB1 hB2 hX2 hZ2 hs2 h2
  go_enter Tryz.func9, Tryz.ntmps9
  go_upto_region 1 with fail
  try rw [hw2]
  clear hw2
  go_wp2_with fail
  refine HSV.out.mono ?_
  rintro e wx ⟨rfl, rfl⟩
  go_upto_region 4 with fail
  have HU4 := Lib.hid (show Below w2.heap.size w2 w2.drew from (Below.refl _ _).drew)
  refine wp_region_held_drew (S := (fun wx => Below w2.heap.size w2 wx)) (by kernel_rfl) (HU4.out) (fun hHeld => ?_)
  obtain ⟨q4, hq4⟩ : ∃ q, w2.drew = q := ⟨_, rfl⟩
  rw [hq4] at HU4 hHeld
  rw [hq4]
  clear hq4
  refine wpAnyH_take (i := 0) (v := ?_) rfl (by kernel_rfl) (by kernel_rfl) (by kernel_rfl) (fun _ _ _ h => h) (Or.inl ⟨by rfl, ?_⟩) hHeld ?_
  rotate_left 1
  · intro w hSw
    (try dsimp only at hSw)
    go_simp
    all_goals (with_reducible rfl)
  try simp only [Act.put, List.getElem_toArray, List.getElem_cons_zero, List.getElem_cons_succ, List.setIfInBounds_toArray, List.set_cons_zero, List.set_cons_succ]
  refine wpAnyH_take (i := 1) (v := ?_) rfl (by kernel_rfl) (by kernel_rfl) (by kernel_rfl) (fun _ _ _ h => h) (Or.inl ⟨by rfl, ?_⟩) hHeld ?_
  rotate_left 1
  · intro w hSw
    obtain ⟨p0, p1, p2, p3, p4, p5, p6, p7, p8, p9, p10, p11⟩ := HCM.out w hSw
    go_simp
    all_goals (with_reducible rfl)
  try simp only [Act.put, List.getElem_toArray, List.getElem_cons_zero, List.getElem_cons_succ, List.setIfInBounds_toArray, List.set_cons_zero, List.set_cons_succ]
  refine wpAnyH_take (i := 2) (v := ?_) rfl (by kernel_rfl) (by kernel_rfl) (by kernel_rfl) (fun _ _ _ h => h) (Or.inl ⟨by rfl, ?_⟩) hHeld ?_
  rotate_left 1
  · intro w hSw
    (try dsimp only at hSw)
    go_simp
    all_goals (with_reducible rfl)
  try simp only [Act.put, List.getElem_toArray, List.getElem_cons_zero, List.getElem_cons_succ, List.setIfInBounds_toArray, List.set_cons_zero, List.set_cons_succ]
  refine wpAnyH_take (i := 3) (v := ?_) rfl (by kernel_rfl) (by kernel_rfl) (by kernel_rfl) (fun _ _ _ h => h) (Or.inl ⟨by rfl, ?_⟩) hHeld ?_
  rotate_left 1
  · intro w hSw
    (try dsimp only at hSw)
    go_simp
    all_goals (with_reducible rfl)
  try simp only [Act.put, List.getElem_toArray, List.getElem_cons_zero, List.getElem_cons_succ, List.setIfInBounds_toArray, List.set_cons_zero, List.set_cons_succ]
  refine wpAnyH_take (i := 4) (v := ?_) rfl (by kernel_rfl) (by kernel_rfl) (by kernel_rfl) (fun _ _ _ h => h) (Or.inl ⟨by rfl, ?_⟩) hHeld ?_
  rotate_left 1
  · intro w hSw
    obtain ⟨p0, p1, p2, p3, p4, p5, p6, p7, p8, p9, p10, p11⟩ := HCM.out w hSw
    go_simp
    all_goals (with_reducible rfl)
  try simp only [Act.put, List.getElem_toArray, List.getElem_cons_zero, List.getElem_cons_succ, List.setIfInBounds_toArray, List.set_cons_zero, List.set_cons_succ]
  refine wpAnyH_ready (rs := [5]) (by kernel_rfl) (by simp) ?_
  refine AllReadyH.cons rfl (fun K hK => ?_) AllReadyH.nil
  go_simp
  refine (HCK.out _ HU4.out).mono ?_
  rintro e u4 ⟨rfl, hbx⟩
  have HUu4 := Lib.hid (HU4.out.trans (hbx.mono HU4.out.size))
  clear hbx
  refine hK.out _ _ (HUu4.out) (fun hHeld => ?_)
  clear hK K
  try simp only [Act.put, List.getElem_toArray, List.getElem_cons_zero, List.getElem_cons_succ, List.setIfInBounds_toArray, List.set_cons_zero, List.set_cons_succ]
  refine wpAnyH_take (i := 6) (v := ?_) rfl (by kernel_rfl) (by kernel_rfl) (by kernel_rfl) (fun _ _ _ h => h) (Or.inl ⟨by rfl, ?_⟩) hHeld ?_
  rotate_left 1
  · intro w hSw
    (try dsimp only at hSw)
    go_simp
    all_goals (with_reducible rfl)
  try simp only [Act.put, List.getElem_toArray, List.getElem_cons_zero, List.getElem_cons_succ, List.setIfInBounds_toArray, List.set_cons_zero, List.set_cons_succ]
  refine wpAnyH_take (i := 7) (v := ?_) rfl (by kernel_rfl) (by kernel_rfl) (by kernel_rfl) (fun _ _ _ h => h) (Or.inl ⟨by rfl, ?_⟩) hHeld ?_
  rotate_left 1
  · intro w hSw
    (try dsimp only at hSw)
    go_simp
    all_goals (with_reducible rfl)
  try simp only [Act.put, List.getElem_toArray, List.getElem_cons_zero, List.getElem_cons_succ, List.setIfInBounds_toArray, List.set_cons_zero, List.set_cons_succ]
  refine wpAnyH_take (i := 8) (v := ?_) rfl (by kernel_rfl) (by kernel_rfl) (by kernel_rfl) (fun _ _ _ h => h) (Or.inl ⟨by rfl, ?_⟩) hHeld ?_
  rotate_left 1
  · intro w hSw
    (try dsimp only at hSw)
    go_simp
    all_goals (with_reducible rfl)
  try simp only [Act.put, List.getElem_toArray, List.getElem_cons_zero, List.getElem_cons_succ, List.setIfInBounds_toArray, List.set_cons_zero, List.set_cons_succ]
  refine wpAnyH_take (i := 9) (v := ?_) rfl (by kernel_rfl) (by kernel_rfl) (by kernel_rfl) (fun _ _ _ h => h) (Or.inl ⟨by rfl, ?_⟩) hHeld ?_
  rotate_left 1
  · intro w hSw
    (try dsimp only at hSw)
    go_simp
    all_goals (with_reducible rfl)
  try simp only [Act.put, List.getElem_toArray, List.getElem_cons_zero, List.getElem_cons_succ, List.setIfInBounds_toArray, List.set_cons_zero, List.set_cons_succ]
  refine wpAnyH_take (i := 10) (v := ?_) rfl (by kernel_rfl) (by kernel_rfl) (by kernel_rfl) (fun _ _ _ h => h) (Or.inl ⟨by rfl, ?_⟩) hHeld ?_
  rotate_left 1
  · intro w hSw
    obtain ⟨p0, p1, p2, p3, p4, p5, p6, p7, p8, p9, p10, p11⟩ := HCM.out w hSw
    go_simp
    all_goals (with_reducible rfl)
  try simp only [Act.put, List.getElem_toArray, List.getElem_cons_zero, List.getElem_cons_succ, List.setIfInBounds_toArray, List.set_cons_zero, List.set_cons_succ]
  refine wpAnyH_take (i := 11) (v := ?_) rfl (by kernel_rfl) (by kernel_rfl) (by kernel_rfl) (fun _ _ _ h => h) (Or.inl ⟨by rfl, ?_⟩) hHeld ?_
  rotate_left 1
  · intro w hSw
    (try dsimp only at hSw)
    go_simp
    all_goals (with_reducible rfl)
  try simp only [Act.put, List.getElem_toArray, List.getElem_cons_zero, List.getElem_cons_succ, List.setIfInBounds_toArray, List.set_cons_zero, List.set_cons_succ]
  refine wpAnyH_take (i := 12) (v := ?_) rfl (by kernel_rfl) (by kernel_rfl) (by kernel_rfl) (fun _ _ _ h => h) (Or.inl ⟨by rfl, ?_⟩) hHeld ?_
  rotate_left 1
  · intro w hSw
    (try dsimp only at hSw)
    go_simp
    all_goals (with_reducible rfl)
  try simp only [Act.put, List.getElem_toArray, List.getElem_cons_zero, List.getElem_cons_succ, List.setIfInBounds_toArray, List.set_cons_zero, List.set_cons_succ]
  refine wpAnyH_take (i := 13) (v := ?_) rfl (by kernel_rfl) (by kernel_rfl) (by kernel_rfl) (fun _ _ _ h => h) (Or.inl ⟨by rfl, ?_⟩) hHeld ?_
  rotate_left 1
  · intro w hSw
    (try dsimp only at hSw)
    go_simp
    all_goals (with_reducible rfl)
  try simp only [Act.put, List.getElem_toArray, List.getElem_cons_zero, List.getElem_cons_succ, List.setIfInBounds_toArray, List.set_cons_zero, List.set_cons_succ]
  refine wpAnyH_take (i := 14) (v := ?_) rfl (by kernel_rfl) (by kernel_rfl) (by kernel_rfl) (fun _ _ _ h => h) (Or.inl ⟨by rfl, ?_⟩) hHeld ?_
  rotate_left 1
  · intro w hSw
    obtain ⟨q0, q1, q2, q3, q4, q5⟩ := HCN.out w hSw
    go_simp
    all_goals (with_reducible rfl)
  try simp only [Act.put, List.getElem_toArray, List.getElem_cons_zero, List.getElem_cons_succ, List.setIfInBounds_toArray, List.set_cons_zero, List.set_cons_succ]
  refine wpAnyH_take (i := 15) (v := ?_) rfl (by kernel_rfl) (by kernel_rfl) (by kernel_rfl) (fun _ _ _ h => h) (Or.inl ⟨by rfl, ?_⟩) hHeld ?_
  rotate_left 1
  · intro w hSw
    (try dsimp only at hSw)
    go_simp
    all_goals (with_reducible rfl)
  try simp only [Act.put, List.getElem_toArray, List.getElem_cons_zero, List.getElem_cons_succ, List.setIfInBounds_toArray, List.set_cons_zero, List.set_cons_succ]
  refine wpAnyH_take (i := 16) (v := ?_) rfl (by kernel_rfl) (by kernel_rfl) (by kernel_rfl) (fun _ _ _ h => h) (Or.inl ⟨by rfl, ?_⟩) hHeld ?_
  rotate_left 1
  · intro w hSw
    (try dsimp only at hSw)
    go_simp
    all_goals (with_reducible rfl)
  try simp only [Act.put, List.getElem_toArray, List.getElem_cons_zero, List.getElem_cons_succ, List.setIfInBounds_toArray, List.set_cons_zero, List.set_cons_succ]
  refine wpAnyH_done (by kernel_rfl) ?_ _
  go_upto_region 6 with fail
  have HU6 := Lib.hid (show Below w2.heap.size w2 u4.drew from HUu4.out.drew)
  refine wp_region_held_drew (S := (fun wx => Below w2.heap.size w2 wx)) (by kernel_rfl) (HU6.out) (fun hHeld => ?_)
  obtain ⟨q6, hq6⟩ : ∃ q, u4.drew = q := ⟨_, rfl⟩
  rw [hq6] at HU6 hHeld
  rw [hq6]
  clear hq6
  refine wpAnyH_take (i := 0) (v := ?_) rfl (by kernel_rfl) (by kernel_rfl) (by kernel_rfl) (fun _ _ _ h => h) (Or.inl ⟨by rfl, ?_⟩) hHeld ?_
  rotate_left 1
  · intro w hSw
    (try dsimp only at hSw)
    go_simp
    all_goals (with_reducible rfl)
  try simp only [Act.put, List.getElem_toArray, List.getElem_cons_zero, List.getElem_cons_succ, List.setIfInBounds_toArray, List.set_cons_zero, List.set_cons_succ]
  refine wpAnyH_take (i := 1) (v := ?_) rfl (by kernel_rfl) (by kernel_rfl) (by kernel_rfl) (fun _ _ _ h => h) (Or.inl ⟨by rfl, ?_⟩) hHeld ?_
  rotate_left 1
  · intro w hSw
    obtain ⟨p0, p1, p2, p3, p4, p5, p6, p7, p8, p9, p10, p11⟩ := HCM.out w hSw
    go_simp
    all_goals (with_reducible rfl)
  try simp only [Act.put, List.getElem_toArray, List.getElem_cons_zero, List.getElem_cons_succ, List.setIfInBounds_toArray, List.set_cons_zero, List.set_cons_succ]
  refine wpAnyH_take (i := 2) (v := ?_) rfl (by kernel_rfl) (by kernel_rfl) (by kernel_rfl) (fun _ _ _ h => h) (Or.inl ⟨by rfl, ?_⟩) hHeld ?_
  rotate_left 1
  · intro w hSw
    (try dsimp only at hSw)
    go_simp
    all_goals (with_reducible rfl)
  try simp only [Act.put, List.getElem_toArray, List.getElem_cons_zero, List.getElem_cons_succ, List.setIfInBounds_toArray, List.set_cons_zero, List.set_cons_succ]
  refine wpAnyH_take (i := 3) (v := ?_) rfl (by kernel_rfl) (by kernel_rfl) (by kernel_rfl) (fun _ _ _ h => h) (Or.inl ⟨by rfl, ?_⟩) hHeld ?_
  rotate_left 1
  · intro w hSw
    (try dsimp only at hSw)
    go_simp
    all_goals (with_reducible rfl)
  try simp only [Act.put, List.getElem_toArray, List.getElem_cons_zero, List.getElem_cons_succ, List.setIfInBounds_toArray, List.set_cons_zero, List.set_cons_succ]
  refine wpAnyH_take (i := 4) (v := ?_) rfl (by kernel_rfl) (by kernel_rfl) (by kernel_rfl) (fun _ _ _ h => h) (Or.inl ⟨by rfl, ?_⟩) hHeld ?_
  rotate_left 1
  · intro w hSw
    (try dsimp only at hSw)
    go_simp
    all_goals (with_reducible rfl)
  try simp only [Act.put, List.getElem_toArray, List.getElem_cons_zero, List.getElem_cons_succ, List.setIfInBounds_toArray, List.set_cons_zero, List.set_cons_succ]
  refine wpAnyH_take (i := 5) (v := ?_) rfl (by kernel_rfl) (by kernel_rfl) (by kernel_rfl) (fun _ _ _ h => h) (Or.inl ⟨by rfl, ?_⟩) hHeld ?_
  rotate_left 1
  · intro w hSw
    obtain ⟨q0, q1, q2, q3, q4, q5⟩ := HCN.out w hSw
    go_simp
    all_goals (with_reducible rfl)
  try simp only [Act.put, List.getElem_toArray, List.getElem_cons_zero, List.getElem_cons_succ, List.setIfInBounds_toArray, List.set_cons_zero, List.set_cons_succ]
  refine wpAnyH_take (i := 6) (v := ?_) rfl (by kernel_rfl) (by kernel_rfl) (by kernel_rfl) (fun _ _ _ h => h) (Or.inl ⟨by rfl, ?_⟩) hHeld ?_
  rotate_left 1
  · intro w hSw
    (try dsimp only at hSw)
    go_simp
    all_goals (with_reducible rfl)
  try simp only [Act.put, List.getElem_toArray, List.getElem_cons_zero, List.getElem_cons_succ, List.setIfInBounds_toArray, List.set_cons_zero, List.set_cons_succ]
  refine wpAnyH_done (by kernel_rfl) ?_ _
  go_upto_region 10 with fail
  go_cut [8, 9] from 52 to 63 (fun q8 q9 wx => ∃ (X : Nat) (az : Option Addr) (an ac : Nat), q8 = .pointer (some ⟨X, 0, none⟩) ∧ q9 = .nilIface ∧ Hid (Blk wx X #[.int .i64 afr, .int .i64 att, .int .i64 akd, .int .i64 avo, .int .i64 ali, .int .u64 (aid : Int), .int .i64 aco, .bool ahas, .int .u64 (akey : Int), .int .u32 (ack : Int), .bool agn, .slice az an ac] 45) ∧ Hid (Below w2.heap.size w2 wx) ∧ Hid (IsB wx (.slice az an ac) amd) ∧ Hid (∀ b, liesB (.slice az an ac) amd b → w2.heap.size ≤ b))
  case first =>
    have HU10 := Lib.hid (show Below w2.heap.size w2 q6.drew from HU6.out.drew)
    refine wp_region_held_drew (S := (fun wx => Below w2.heap.size w2 wx)) (by kernel_rfl) (HU10.out) (fun hHeld => ?_)
    obtain ⟨q10, hq10⟩ : ∃ q, q6.drew = q := ⟨_, rfl⟩
    rw [hq10] at HU10 hHeld
    rw [hq10]
    clear hq10
    refine wpAnyH_take (i := 0) (v := ?_) rfl (by kernel_rfl) (by kernel_rfl) (by kernel_rfl) (fun _ _ _ h => h) (Or.inl ⟨by rfl, ?_⟩) hHeld ?_
    rotate_left 1
    · intro w hSw
      (try dsimp only at hSw)
      go_simp
      all_goals (with_reducible rfl)
    try simp only [Act.put, List.getElem_toArray, List.getElem_cons_zero, List.getElem_cons_succ, List.setIfInBounds_toArray, List.set_cons_zero, List.set_cons_succ]
    refine wpAnyH_take (i := 1) (v := ?_) rfl (by kernel_rfl) (by kernel_rfl) (by kernel_rfl) (fun _ _ _ h => h) (Or.inl ⟨by rfl, ?_⟩) hHeld ?_
    rotate_left 1
    · intro w hSw
      (try dsimp only at hSw)
      go_simp
      all_goals (with_reducible rfl)
    try simp only [Act.put, List.getElem_toArray, List.getElem_cons_zero, List.getElem_cons_succ, List.setIfInBounds_toArray, List.set_cons_zero, List.set_cons_succ]
    refine wpAnyH_take (i := 2) (v := ?_) rfl (by kernel_rfl) (by kernel_rfl) (by kernel_rfl) (fun _ _ _ h => h) (Or.inl ⟨by rfl, ?_⟩) hHeld ?_
    rotate_left 1
    · intro w hSw
      (try dsimp only at hSw)
      go_simp
      all_goals (with_reducible rfl)
    try simp only [Act.put, List.getElem_toArray, List.getElem_cons_zero, List.getElem_cons_succ, List.setIfInBounds_toArray, List.set_cons_zero, List.set_cons_succ]
    refine wpAnyH_take (i := 3) (v := ?_) rfl (by kernel_rfl) (by kernel_rfl) (by kernel_rfl) (fun _ _ _ h => h) (Or.inl ⟨by rfl, ?_⟩) hHeld ?_
    rotate_left 1
    · intro w hSw
      obtain ⟨q0, q1, q2, q3, q4, q5⟩ := HCN.out w hSw
      go_simp
      all_goals (with_reducible rfl)
    try simp only [Act.put, List.getElem_toArray, List.getElem_cons_zero, List.getElem_cons_succ, List.setIfInBounds_toArray, List.set_cons_zero, List.set_cons_succ]
    refine wpAnyH_take (i := 4) (v := ?_) rfl (by kernel_rfl) (by kernel_rfl) (by kernel_rfl) (fun _ _ _ h => h) (Or.inl ⟨by rfl, ?_⟩) hHeld ?_
    rotate_left 1
    · intro w hSw
      (try dsimp only at hSw)
      go_simp
      all_goals (with_reducible rfl)
    try simp only [Act.put, List.getElem_toArray, List.getElem_cons_zero, List.getElem_cons_succ, List.setIfInBounds_toArray, List.set_cons_zero, List.set_cons_succ]
    refine wpAnyH_take (i := 5) (v := ?_) rfl (by kernel_rfl) (by kernel_rfl) (by kernel_rfl) (fun _ _ _ h => h) (Or.inl ⟨by rfl, ?_⟩) hHeld ?_
    rotate_left 1
    · intro w hSw
      obtain ⟨p0, p1, p2, p3, p4, p5, p6, p7, p8, p9, p10, p11⟩ := HCM.out w hSw
      go_simp
      all_goals (with_reducible rfl)
    try simp only [Act.put, List.getElem_toArray, List.getElem_cons_zero, List.getElem_cons_succ, List.setIfInBounds_toArray, List.set_cons_zero, List.set_cons_succ]
    refine wpAnyH_take (i := 6) (v := ?_) rfl (by kernel_rfl) (by kernel_rfl) (by kernel_rfl) (fun _ _ _ h => h) (Or.inl ⟨by rfl, ?_⟩) hHeld ?_
    rotate_left 1
    · intro w hSw
      (try dsimp only at hSw)
      go_simp
      all_goals (with_reducible rfl)
    try simp only [Act.put, List.getElem_toArray, List.getElem_cons_zero, List.getElem_cons_succ, List.setIfInBounds_toArray, List.set_cons_zero, List.set_cons_succ]
    refine wpAnyH_take (i := 7) (v := ?_) rfl (by kernel_rfl) (by kernel_rfl) (by kernel_rfl) (fun _ _ _ h => h) (Or.inl ⟨by rfl, ?_⟩) hHeld ?_
    rotate_left 1
    · intro w hSw
      obtain ⟨p0, p1, p2, p3, p4, p5, p6, p7, p8, p9, p10, p11⟩ := HCM.out w hSw
      go_simp
      all_goals (with_reducible rfl)
    try simp only [Act.put, List.getElem_toArray, List.getElem_cons_zero, List.getElem_cons_succ, List.setIfInBounds_toArray, List.set_cons_zero, List.set_cons_succ]
    refine wpAnyH_ready (rs := [8, 12]) (by kernel_rfl) (by simp) ?_
    refine AllReadyH.cons rfl (fun K hK => ?_) ?_
    · go_simp
      refine (HFD.out _ HU10.out).mono ?_
      rintro e f1 ⟨az, an, ac, rfl, hi, hlo, hbx⟩
      have HUf1 := Lib.hid (HU10.out.trans (hbx.mono HU10.out.size))
      have HI := Lib.hid hi
      have HLO := Lib.hid hlo
      clear hi hlo
      clear hbx
      refine hK.out _ _ (HUf1.out) (fun hHeld => ?_)
      clear hK K
      try simp only [Act.put, List.getElem_toArray, List.getElem_cons_zero, List.getElem_cons_succ, List.setIfInBounds_toArray, List.set_cons_zero, List.set_cons_succ]
      refine wpAnyH_take (i := 9) (v := ?_) rfl (by kernel_rfl) (by kernel_rfl) (by kernel_rfl) (fun _ _ _ h => h) (Or.inl ⟨by rfl, ?_⟩) hHeld ?_
      rotate_left 1
      · intro w hSw
        (try dsimp only at hSw)
        go_simp
        all_goals (with_reducible rfl)
      try simp only [Act.put, List.getElem_toArray, List.getElem_cons_zero, List.getElem_cons_succ, List.setIfInBounds_toArray, List.set_cons_zero, List.set_cons_succ]
      refine wpAnyH_take (i := 10) (v := ?_) rfl (by kernel_rfl) (by kernel_rfl) (by kernel_rfl) (fun _ _ _ h => h) (Or.inl ⟨by rfl, ?_⟩) hHeld ?_
      rotate_left 1
      · intro w hSw
        (try dsimp only at hSw)
        go_simp
        all_goals (with_reducible rfl)
      try simp only [Act.put, List.getElem_toArray, List.getElem_cons_zero, List.getElem_cons_succ, List.setIfInBounds_toArray, List.set_cons_zero, List.set_cons_succ]
      refine wpAnyH_take (i := 11) (v := ?_) rfl (by kernel_rfl) (by kernel_rfl) (by kernel_rfl) (fun _ _ _ h => h) (Or.inl ⟨by rfl, ?_⟩) hHeld ?_
      rotate_left 1
      · intro w hSw
        (try dsimp only at hSw)
        go_simp
        all_goals (with_reducible rfl)
      try simp only [Act.put, List.getElem_toArray, List.getElem_cons_zero, List.getElem_cons_succ, List.setIfInBounds_toArray, List.set_cons_zero, List.set_cons_succ]
      refine wpAnyH_ready (rs := [12]) (by kernel_rfl) (by simp) ?_
      refine AllReadyH.cons rfl (fun K hK => ?_) AllReadyH.nil
      go_simp
      have HA := Lib.hid (Blk.new f1 #[.int .i64 0, .int .i64 0, .int .i64 0, .int .i64 0, .int .i64 0, .int .u64 0, .int .i64 0, .bool false, .int .u64 0, .int .u32 0, .bool false, .slice none 0 0] 45)
      have HUa := Lib.hid (HUf1.out.alloc HUf1.out.size (.cells #[.int .i64 0, .int .i64 0, .int .i64 0, .int .i64 0, .int .i64 0, .int .u64 0, .int .i64 0, .bool false, .int .u64 0, .int .u32 0, .bool false, .slice none 0 0] 45))
      have hX10 : w2.heap.size ≤ f1.heap.size := HUf1.out.size
      have HIA := Lib.hid (HI.out.mono (below_new16 f1 (.cells #[.int .i64 0, .int .i64 0, .int .i64 0, .int .i64 0, .int .i64 0, .int .u64 0, .int .i64 0, .bool false, .int .u64 0, .int .u32 0, .bool false, .slice none 0 0] 45)) (Nat.le_refl _))
      refine hK.out _ _ (HUa.out) (fun hHeld => ?_)
      clear hK K
      try simp only [Act.put, List.getElem_toArray, List.getElem_cons_zero, List.getElem_cons_succ, List.setIfInBounds_toArray, List.set_cons_zero, List.set_cons_succ]
      obtain ⟨wa, hwa⟩ : ∃ q, f1.alloc (.cells #[.int .i64 0, .int .i64 0, .int .i64 0, .int .i64 0, .int .i64 0, .int .u64 0, .int .i64 0, .bool false, .int .u64 0, .int .u32 0, .bool false, .slice none 0 0] 45) = q := ⟨_, rfl⟩
      try rw [hwa] at hHeld
      rw [hwa] at HA HUa HIA
      have hXl : f1.heap.size < wa.heap.size := HA.out.lt
      try rw [hwa]
      clear hwa
      refine wpAnyH_ready (rs := [13]) (by kernel_rfl) (by simp) ?_
      refine AllReadyH.cons rfl (fun K hK => ?_) AllReadyH.nil
      rw [if_pos (by rfl)]
      refine wp_store12Z 45 Tryz.sizeWMZ (.tmp 8) (.tmp 62) rfl f1.heap.size 45 HA.out rfl rfl (fun ws hxs hks => ?_)
      have HUs := Lib.hid (hks.below_trans HUa.out HUa.out.size (fun k hk e => by have := HUa.out.size; have := hX10; omega))
      have HXS := Lib.hid hxs
      have HKS := Lib.hid hks
      clear hxs hks
      refine hK.out _ _ (HUs.out) (fun hHeld => ?_)
      clear hK K
      try simp only [Act.put, List.getElem_toArray, List.getElem_cons_zero, List.getElem_cons_succ, List.setIfInBounds_toArray, List.set_cons_zero, List.set_cons_succ]
      refine wpAnyH_take (i := 14) (v := ?_) rfl (by kernel_rfl) (by kernel_rfl) (by kernel_rfl) (fun _ _ _ h => h) (Or.inl ⟨by rfl, ?_⟩) hHeld ?_
      rotate_left 1
      · intro w hSw
        (try dsimp only at hSw)
        go_simp
        all_goals (with_reducible rfl)
      try simp only [Act.put, List.getElem_toArray, List.getElem_cons_zero, List.getElem_cons_succ, List.setIfInBounds_toArray, List.set_cons_zero, List.set_cons_succ]
      refine wpAnyH_done (by kernel_rfl) ?_ _
      go_wp2_with fail
      go_meet
      case rel => exact ⟨f1.heap.size, az, an, ac, rfl, rfl, HXS, HUs, Lib.hid (HIA.out.kept HKS.out (fun b hb e => by have := HI.out.lies_lt hb; omega)), Lib.hid (fun b hb => by have := HLO.out b hb; have := HU10.out.size; omega)⟩
    refine AllReadyH.cons rfl (fun K hK => ?_) AllReadyH.nil
    go_simp
    have HA := Lib.hid (Blk.new q10 #[.int .i64 0, .int .i64 0, .int .i64 0, .int .i64 0, .int .i64 0, .int .u64 0, .int .i64 0, .bool false, .int .u64 0, .int .u32 0, .bool false, .slice none 0 0] 45)
    have HUa := Lib.hid (HU10.out.alloc HU10.out.size (.cells #[.int .i64 0, .int .i64 0, .int .i64 0, .int .i64 0, .int .i64 0, .int .u64 0, .int .i64 0, .bool false, .int .u64 0, .int .u32 0, .bool false, .slice none 0 0] 45))
    have hX10 : w2.heap.size ≤ q10.heap.size := HU10.out.size
    refine hK.out _ _ (HUa.out) (fun hHeld => ?_)
    clear hK K
    try simp only [Act.put, List.getElem_toArray, List.getElem_cons_zero, List.getElem_cons_succ, List.setIfInBounds_toArray, List.set_cons_zero, List.set_cons_succ]
    obtain ⟨wa, hwa⟩ : ∃ q, q10.alloc (.cells #[.int .i64 0, .int .i64 0, .int .i64 0, .int .i64 0, .int .i64 0, .int .u64 0, .int .i64 0, .bool false, .int .u64 0, .int .u32 0, .bool false, .slice none 0 0] 45) = q := ⟨_, rfl⟩
    try rw [hwa] at hHeld
    rw [hwa] at HA HUa
    have hXl : q10.heap.size < wa.heap.size := HA.out.lt
    try rw [hwa]
    clear hwa
    refine wpAnyH_ready (rs := [8]) (by kernel_rfl) (by simp) ?_
    refine AllReadyH.cons rfl (fun K hK => ?_) AllReadyH.nil
    go_simp
    refine (HFD.out _ HUa.out).mono ?_
    rintro e f1 ⟨az, an, ac, rfl, hi, hlo, hbx⟩
    have HUf1 := Lib.hid (HUa.out.trans (hbx.mono HUa.out.size))
    have HI := Lib.hid hi
    have HLO := Lib.hid hlo
    clear hi hlo
    have HXF := Lib.hid (HA.out.below hbx HA.out.lt)
    clear hbx
    refine hK.out _ _ (HUf1.out) (fun hHeld => ?_)
    clear hK K
    try simp only [Act.put, List.getElem_toArray, List.getElem_cons_zero, List.getElem_cons_succ, List.setIfInBounds_toArray, List.set_cons_zero, List.set_cons_succ]
    refine wpAnyH_take (i := 9) (v := ?_) rfl (by kernel_rfl) (by kernel_rfl) (by kernel_rfl) (fun _ _ _ h => h) (Or.inl ⟨by rfl, ?_⟩) hHeld ?_
    rotate_left 1
    · intro w hSw
      (try dsimp only at hSw)
      go_simp
      all_goals (with_reducible rfl)
    try simp only [Act.put, List.getElem_toArray, List.getElem_cons_zero, List.getElem_cons_succ, List.setIfInBounds_toArray, List.set_cons_zero, List.set_cons_succ]
    refine wpAnyH_take (i := 10) (v := ?_) rfl (by kernel_rfl) (by kernel_rfl) (by kernel_rfl) (fun _ _ _ h => h) (Or.inl ⟨by rfl, ?_⟩) hHeld ?_
    rotate_left 1
    · intro w hSw
      (try dsimp only at hSw)
      go_simp
      all_goals (with_reducible rfl)
    try simp only [Act.put, List.getElem_toArray, List.getElem_cons_zero, List.getElem_cons_succ, List.setIfInBounds_toArray, List.set_cons_zero, List.set_cons_succ]
    refine wpAnyH_take (i := 11) (v := ?_) rfl (by kernel_rfl) (by kernel_rfl) (by kernel_rfl) (fun _ _ _ h => h) (Or.inl ⟨by rfl, ?_⟩) hHeld ?_
    rotate_left 1
    · intro w hSw
      (try dsimp only at hSw)
      go_simp
      all_goals (with_reducible rfl)
    try simp only [Act.put, List.getElem_toArray, List.getElem_cons_zero, List.getElem_cons_succ, List.setIfInBounds_toArray, List.set_cons_zero, List.set_cons_succ]
    refine wpAnyH_ready (rs := [13]) (by kernel_rfl) (by simp) ?_
    refine AllReadyH.cons rfl (fun K hK => ?_) AllReadyH.nil
    rw [if_pos (by rfl)]
    refine wp_store12Z 45 Tryz.sizeWMZ (.tmp 8) (.tmp 62) rfl q10.heap.size 45 HXF.out rfl rfl (fun ws hxs hks => ?_)
    have HUs := Lib.hid (hks.below_trans HUf1.out HUf1.out.size (fun k hk e => by have := HUf1.out.size; have := hX10; omega))
    have HXS := Lib.hid hxs
    have HKS := Lib.hid hks
    clear hxs hks
    refine hK.out _ _ (HUs.out) (fun hHeld => ?_)
    clear hK K
    try simp only [Act.put, List.getElem_toArray, List.getElem_cons_zero, List.getElem_cons_succ, List.setIfInBounds_toArray, List.set_cons_zero, List.set_cons_succ]
    refine wpAnyH_take (i := 14) (v := ?_) rfl (by kernel_rfl) (by kernel_rfl) (by kernel_rfl) (fun _ _ _ h => h) (Or.inl ⟨by rfl, ?_⟩) hHeld ?_
    rotate_left 1
    · intro w hSw
      (try dsimp only at hSw)
      go_simp
      all_goals (with_reducible rfl)
    try simp only [Act.put, List.getElem_toArray, List.getElem_cons_zero, List.getElem_cons_succ, List.setIfInBounds_toArray, List.set_cons_zero, List.set_cons_succ]
    refine wpAnyH_done (by kernel_rfl) ?_ _
    go_wp2_with fail
    go_meet
    case rel => exact ⟨q10.heap.size, az, an, ac, rfl, rfl, HXS, HUs, Lib.hid (HI.out.kept HKS.out (fun b hb e => by have := HLO.out b hb; omega)), Lib.hid (fun b hb => by have := HLO.out b hb; have := HU10.out.size; omega)⟩
  case rest =>
  obtain ⟨X, az, an, ac, rfl, rfl, HX, HUC, HIC, HLC⟩ := hcut
  have s0 := HX.out.cell 0 rfl
  have s1 := HX.out.cell 1 rfl
  have s2 := HX.out.cell 2 rfl
  have s3 := HX.out.cell 3 rfl
  have s4 := HX.out.cell 4 rfl
  have s5 := HX.out.cell 5 rfl
  have s6 := HX.out.cell 6 rfl
  have s7 := HX.out.cell 7 rfl
  have s8 := HX.out.cell 8 rfl
  have s9 := HX.out.cell 9 rfl
  have s10 := HX.out.cell 10 rfl
  have s11 := HX.out.cell 11 rfl
  have hZu := HZ2.out.below HUC.out HZ2.out.lt
  have HF := Lib.hid (fin12z hZu (.int .i64 afr) (.int .i64 att) (.int .i64 akd) (.int .i64 avo) (.int .i64 ali) (.int .u64 (aid : Int)) (.int .i64 aco) (.bool ahas) (.int .u64 (akey : Int)) (.int .u32 (ack : Int)) (.bool agn) (.slice az an ac))
  have HBu := Lib.hid (HB2.out.trans (HUC.out.mono HB2.out.size))
  have z0 := hZu.cell 0 rfl
  have z1 := hZu.cell 1 rfl
  have z2 := hZu.cell 2 rfl
  have z3 := hZu.cell 3 rfl
  have z4 := hZu.cell 4 rfl
  have z5 := hZu.cell 5 rfl
  have z6 := hZu.cell 6 rfl
  have z7 := hZu.cell 7 rfl
  have z8 := hZu.cell 8 rfl
  have z9 := hZu.cell 9 rfl
  have z10 := hZu.cell 10 rfl
  have z11 := hZu.cell 11 rfl
  have zf := fun j => hZu.free j
  clear hZu
  go_wp2
  obtain ⟨j0, j1, j2, j3, j4, j5, j6, j7, j8, j9, j10, j11, jk⟩ := HF.out
  exact bodyPost_ret (v := .tuple #[.agg #[.int .i64 afr, .int .i64 att, .int .i64 akd, .int .i64 avo, .int .i64 ali, .int .u64 (aid : Int), .int .i64 aco, .bool ahas, .int .u64 (akey : Int), .int .u32 (ack : Int), .bool agn, .slice az an ac], .nilIface]) (by simp [results, Tryz.results9, go_sem, j0, j1, j2, j3, j4, j5, j6, j7, j8, j9, j10, j11]) rfl ⟨az, an, ac, rfl, HIC.out.kept jk (fun b hb e => by have := HLC.out b hb; omega), fun b hb => by have := HLC.out b hb; omega, Below.trans_keptZ HBu.out jk (Nat.le_succ _)⟩

end Go.Proofs.YtllbngopfganjaaGreatDoor.Nd
end
