/- Package twin: Ship. -/
import Derived.Test.YtlaighghagcjjaaTwc
namespace Go.Proofs.Ytlaighghagcjjaa
open Go.RowKit Go.Cor
set_option linter.unusedVariables false
set_option linter.unusedSimpArgs false

/-- A command's cells. -/
def Cmd8 (w : World) (b o : Nat) (c : Cm) : Prop := w.cell? ⟨b, o, none⟩ = some (.int .i64 c.kind) ∧ w.cell? ⟨b, o + 1, none⟩ = some (.int .i64 c.vol) ∧ w.cell? ⟨b, o + 2, none⟩ = some (.int .i64 c.ep) ∧ w.cell? ⟨b, o + 3, none⟩ = some (.int .i64 c.at_) ∧ w.cell? ⟨b, o + 4, none⟩ = some (.int .i64 c.node) ∧ w.cell? ⟨b, o + 5, none⟩ = some (.int .i64 c.a) ∧ w.cell? ⟨b, o + 6, none⟩ = some (.int .i64 c.b) ∧ w.cell? ⟨b, o + 7, none⟩ = some (.int .i64 c.c)
theorem Cmd8.kept {T : Nat → Prop} {w w' : World} {b o : Nat} {c : Cm} (h : Cmd8 w b o c) (hk : Kept T w w') (hT : ¬ T b) : Cmd8 w' b o c := by
  obtain ⟨h0, h1, h2, h3, h4, h5, h6, h7⟩ := h
  exact ⟨hk.cell h0 hT, hk.cell h1 hT, hk.cell h2 hT, hk.cell h3 hT, hk.cell h4 hT, hk.cell h5 hT, hk.cell h6 hT, hk.cell h7 hT⟩
/-- A command of a log. -/
theorem cmd_own {w : World} {B : Nat} {v : Value} {l : List Cm} {i : Nat} {c : Cm} (hv : w.ownsRow B 56 8 v l.length (row ccl l)) (he : l[i]? = some c) :
    ∃ b, v.ownBlock = some b ∧ (∀ W, (Instr.indexAt 63 v (.int .i64 (i : Int))).run Try.prog W = .ok (.pointer (some ⟨b, i * 8, none⟩)) W) ∧ Cmd8 w b (i * 8) c := by
  obtain ⟨b, hb, hx, hc, _⟩ := indexAt_own (P := Try.prog) hv 63 56 Try.underlying63 Try.sizeCmdD i (List.getElem?_eq_some_iff.1 he).1
  have hg : ∀ j, j < 8 → w.cell? ⟨b, i * 8 + j, none⟩ = (ccl c)[j]? := fun j hj => by rw [hc j hj, row_get ccl_len he j hj]
  exact ⟨b, hb, hx, hg 0 (by decide), hg 1 (by decide), hg 2 (by decide), hg 3 (by decide), hg 4 (by decide), hg 5 (by decide), hg 6 (by decide), hg 7 (by decide)⟩
set_option maxRecDepth 100000 in
set_option maxHeartbeats 2000000 in
theorem tship_down (w : World) (B g : Nat) (S : Nat → Prop) (p : Pr) (t : Int) (h : Tw w B g S p) (hu : ¬ (p.u0 = true ∧ p.u1 = true)) :
    Calls Try.prog 22 #[pp g, .int .i64 t] w fun e w' => e = .returned (erc 12) ∧ Below w.heap.size w w' := by
  obtain ⟨_, va, vb, h⟩ := h
  have k4 : w.cell? ⟨g, 4, none⟩ = some (.int .i64 (sn p.ld : Int)) := h.blk.cell 4 rfl
  obtain ⟨D, hd0, hD⟩ : ∃ D : Nat, D ≠ 2 ∧ doesN p p.ld = D := ⟨_, by
    unfold doesN
    split
    · split
      · split
        · rename_i h1 _ h2
          exact absurd (two_up h1 h2) hu
        · decide
      · decide
    · decide, rfl⟩
  have HD := Lib.hid (tdoes _ g va vb p p.ld h.blk)
  rw [hD] at HD
  obtain ⟨N, hN⟩ : ∃ N, sn p.ld = N := ⟨_, rfl⟩
  rw [hN] at k4 HD
  have hd1 : ((D : Int) == 2) = false := by rw [beq_eq_false_iff_ne]; omega
  clear h hu hN hD
  go_enter Try.func22, Try.ntmps22
  go_wp2_with fail
  refine HD.out.mono ?_
  rintro e w2 ⟨rfl, rfl⟩
  go_wp2
  go_ret
  exact ⟨rfl, Below.refl _ _⟩
set_option maxRecDepth 100000 in
set_option maxHeartbeats 2000000 in
theorem tship_stale (w : World) (B g : Nat) (S : Nat → Prop) (p : Pr) (t : Int) (h : Tw w B g S p) (hu : p.u0 = true ∧ p.u1 = true) (ht : t ≠ (p.tm : Int)) :
    Calls Try.prog 22 #[pp g, .int .i64 t] w fun e w' => e = .returned (erc 13) ∧ Below w.heap.size w w' := by
  obtain ⟨_, va, vb, h⟩ := h
  have k4 : w.cell? ⟨g, 4, none⟩ = some (.int .i64 (sn p.ld : Int)) := h.blk.cell 4 rfl
  have k5 : w.cell? ⟨g, 5, none⟩ = some (.int .i64 (p.tm : Int)) := h.blk.cell 5 rfl
  have HD := Lib.hid (tdoes _ g va vb p p.ld h.blk)
  rw [show doesN p p.ld = 2 from by unfold doesN; rw [if_pos (up_two hu _), if_pos rfl, if_pos (up_two hu _)]] at HD
  obtain ⟨N, hN⟩ : ∃ N, sn p.ld = N := ⟨_, rfl⟩
  rw [hN] at k4 HD
  obtain ⟨T, hT⟩ : ∃ T, p.tm = T := ⟨_, rfl⟩
  rw [hT] at k5 ht
  clear h hu hN hT
  go_enter Try.func22, Try.ntmps22
  go_wp2_with fail
  refine HD.out.mono ?_
  rintro e w2 ⟨rfl, rfl⟩
  go_wp2
  go_ret
  exact ⟨rfl, Below.refl _ _⟩
set_option maxRecDepth 100000 in
set_option maxHeartbeats 4000000 in
theorem tship_none0 (w : World) (B g : Nat) (S : Nat → Prop) (a b : List Cm) (tm st : Nat) (h : Tw w B g S ⟨a, b, true, true, false, tm, st⟩) (hl : a.length ≤ b.length) :
    Calls Try.prog 22 #[pp g, .int .i64 (tm : Int)] w fun e w' => e = .returned (erc 6) ∧ Below w.heap.size w w' := by
  obtain ⟨_, va, vb, h⟩ := h
  have k1 : w.cell? ⟨g, 1, none⟩ = some va := h.blk.cell 1 rfl
  have k3 : w.cell? ⟨g, 3, none⟩ = some vb := h.blk.cell 3 rfl
  have k4 : w.cell? ⟨g, 4, none⟩ = some (.int .i64 0) := h.blk.cell 4 rfl
  have k5 : w.cell? ⟨g, 5, none⟩ = some (.int .i64 (tm : Int)) := h.blk.cell 5 rfl
  have la := fun W => len_X (P := Try.prog) (isX_cmd h.ra) 63 3 56 Try.underlying63 W
  have lb := fun W => len_X (P := Try.prog) (isX_cmd h.rb) 63 3 56 Try.underlying63 W
  dsimp only at la lb
  have HD := Lib.hid (tdoes w g va vb ⟨a, b, true, true, false, tm, st⟩ false h.blk)
  rw [show doesN ⟨a, b, true, true, false, tm, st⟩ false = 2 from rfl] at HD
  obtain ⟨N, hN⟩ : ∃ N, a.length = N := ⟨_, rfl⟩
  obtain ⟨M, hM⟩ : ∃ M, b.length = M := ⟨_, rfl⟩
  rw [hN, hM] at hl
  rw [hN] at la
  rw [hM] at lb
  clear h hN hM
  go_enter Try.func22, Try.ntmps22
  go_wp2_with fail
  refine HD.out.mono ?_
  rintro e w2 ⟨rfl, rfl⟩
  go_wp2_with fail
  go_region
  go_wp2
  go_ret
  exact ⟨rfl, below_drewN19 (Below.refl _ _) 1⟩
set_option maxRecDepth 100000 in
set_option maxHeartbeats 4000000 in
theorem tship_none1 (w : World) (B g : Nat) (S : Nat → Prop) (a b : List Cm) (tm st : Nat) (h : Tw w B g S ⟨a, b, true, true, true, tm, st⟩) (hl : b.length ≤ a.length) :
    Calls Try.prog 22 #[pp g, .int .i64 (tm : Int)] w fun e w' => e = .returned (erc 6) ∧ Below w.heap.size w w' := by
  obtain ⟨_, va, vb, h⟩ := h
  have k1 : w.cell? ⟨g, 1, none⟩ = some va := h.blk.cell 1 rfl
  have k3 : w.cell? ⟨g, 3, none⟩ = some vb := h.blk.cell 3 rfl
  have k4 : w.cell? ⟨g, 4, none⟩ = some (.int .i64 1) := h.blk.cell 4 rfl
  have k5 : w.cell? ⟨g, 5, none⟩ = some (.int .i64 (tm : Int)) := h.blk.cell 5 rfl
  have la := fun W => len_X (P := Try.prog) (isX_cmd h.ra) 63 3 56 Try.underlying63 W
  have lb := fun W => len_X (P := Try.prog) (isX_cmd h.rb) 63 3 56 Try.underlying63 W
  dsimp only at la lb
  have HD := Lib.hid (tdoes w g va vb ⟨a, b, true, true, true, tm, st⟩ true h.blk)
  rw [show doesN ⟨a, b, true, true, true, tm, st⟩ true = 2 from rfl] at HD
  obtain ⟨N, hN⟩ : ∃ N, b.length = N := ⟨_, rfl⟩
  obtain ⟨M, hM⟩ : ∃ M, a.length = M := ⟨_, rfl⟩
  rw [hN, hM] at hl
  rw [hM] at la
  rw [hN] at lb
  clear h hN hM
  go_enter Try.func22, Try.ntmps22
  go_wp2_with fail
  refine HD.out.mono ?_
  rintro e w2 ⟨rfl, rfl⟩
  go_wp2_with fail
  go_region
  go_wp2
  go_ret
  exact ⟨rfl, below_drewN19 (Below.refl _ _) 1⟩
set_option maxRecDepth 100000 in
set_option maxHeartbeats 4000000 in
theorem tship_ok0 (w : World) (B g : Nat) (S : Nat → Prop) (a b : List Cm) (tm st : Nat) (c : Cm) (h : Tw w B g S ⟨a, b, true, true, false, tm, st⟩) (hc : a[b.length]? = some c) (hst : st = b.length) (hl : a.length ≤ 1000) :
    Calls Try.prog 22 #[pp g, .int .i64 (tm : Int)] w fun e w' => e = .returned .nilIface ∧ TwG w B g S ⟨a, (b ++ [c]), true, true, false, tm, b.length + 1⟩ w' := by
  obtain ⟨_, va, vb, h⟩ := h
  obtain ⟨i0, hi0, hz0, hz1, hz2⟩ := info_parts Try.infoCmdT
  have HI0 := Lib.hid hi0
  have HZ0 := Lib.hid hz0
  have HZ1 := Lib.hid hz1
  have HZ2 := Lib.hid hz2
  clear hi0 hz0 hz1 hz2
  have hlt := (List.getElem?_eq_some_iff.1 hc).1
  obtain ⟨Y, hY, hidx, y8⟩ := cmd_own h.ra hc
  have HNY := Lib.hid (show ¬ (vb.ownBlock = some Y) from fun e => h.ab Y hY e)
  obtain ⟨ck, cv, ce, ca, cn, c1, c2, c3⟩ := c
  have la := fun W => len_X (P := Try.prog) (isX_cmd h.ra) 63 3 56 Try.underlying63 W
  have lb := fun W => len_X (P := Try.prog) (isX_cmd h.rb) 63 3 56 Try.underlying63 W
  dsimp only at la lb
  have HV1 := Lib.hid h
  obtain ⟨N, hN⟩ : ∃ N, a.length = N := ⟨_, rfl⟩
  obtain ⟨M, hM⟩ : ∃ M, b.length = M := ⟨_, rfl⟩
  rw [hN] at hl hlt
  rw [hM] at hlt hidx y8 hst ⊢
  rw [hN] at la
  rw [hM] at lb
  have hst2 := hst.symm
  subst hst2
  have HY1 := Lib.hid y8
  have HM := Lib.hid hM
  have HN := Lib.hid hN
  have k4 : w.cell? ⟨g, 4, none⟩ = some (.int .i64 0) := h.blk.cell 4 rfl
  have k5 : w.cell? ⟨g, 5, none⟩ = some (.int .i64 (tm : Int)) := h.blk.cell 5 rfl
  have k1 : w.cell? ⟨g, 1, none⟩ = some va := h.blk.cell 1 rfl
  have k3 : w.cell? ⟨g, 3, none⟩ = some vb := h.blk.cell 3 rfl
  clear h hN hM hY y8 hc
  go_enter Try.func22, Try.ntmps22
  go_wp2_with fail
  refine (tdoes w g va vb ⟨a, b, true, true, false, tm, M⟩ false HV1.out.blk).mono ?_
  rw [show doesN ⟨a, b, true, true, false, tm, M⟩ false = 2 from rfl]
  rintro e w2 ⟨rfl, rfl⟩
  go_wp2_with fail
  go_region
  go_wp2_with fail
  obtain ⟨w2, hw2⟩ : ∃ w2, w.drew = w2 := ⟨_, rfl⟩
  have HV2 := Lib.hid (show TwV w2 B g S va vb ⟨a, b, true, true, false, tm, M⟩ from hw2 ▸ HV1.out.drewN 1)
  have HY2 := Lib.hid (show Cmd8 w2 Y (M * 8) ⟨ck, cv, ce, ca, cn, c1, c2, c3⟩ from hw2 ▸ HY1.out.kept (kept_drew20 (fun _ => False) w 1) (fun h => h))
  have HK2 := Lib.hid (show Kept S w w2 from hw2 ▸ kept_drew20 S w 1)
  rw [hw2]
  clear hw2 k1 k3 k4 k5
  have k1 : w2.cell? ⟨g, 1, none⟩ = some va := HV2.out.blk.cell 1 rfl
  have k3 : w2.cell? ⟨g, 3, none⟩ = some vb := HV2.out.blk.cell 3 rfl
  obtain ⟨y0, y1, y2, y3, y4, y5, y6, y7⟩ := HY2.out
  refine AnyE.start (S := (fun wx => wx.cell? ⟨g, 1, none⟩ = some va ∧ wx.cell? ⟨g, 3, none⟩ = some vb ∧ wx.cell? ⟨Y, M * 8, none⟩ = some (.int .i64 ck) ∧ wx.cell? ⟨Y, M * 8 + 1, none⟩ = some (.int .i64 cv) ∧ wx.cell? ⟨Y, M * 8 + 2, none⟩ = some (.int .i64 ce) ∧ wx.cell? ⟨Y, M * 8 + 3, none⟩ = some (.int .i64 ca) ∧ wx.cell? ⟨Y, M * 8 + 4, none⟩ = some (.int .i64 cn) ∧ wx.cell? ⟨Y, M * 8 + 5, none⟩ = some (.int .i64 c1) ∧ wx.cell? ⟨Y, M * 8 + 6, none⟩ = some (.int .i64 c2) ∧ wx.cell? ⟨Y, M * 8 + 7, none⟩ = some (.int .i64 c3))) 16 (by kernel_rfl) (⟨k1, k3, y0, y1, y2, y3, y4, y5, y6, y7⟩) (fun hHeld => ?_)
  obtain ⟨w3, hw3⟩ : ∃ w3, w2.drew = w3 := ⟨_, rfl⟩
  have HV3 := Lib.hid (show TwV w3 B g S va vb ⟨a, b, true, true, false, tm, M⟩ from hw3 ▸ HV2.out.drewN 1)
  have HY3 := Lib.hid (show Cmd8 w3 Y (M * 8) ⟨ck, cv, ce, ca, cn, c1, c2, c3⟩ from hw3 ▸ HY2.out.kept (kept_drew20 (fun _ => False) w2 1) (fun h => h))
  have HK3 := Lib.hid (show Kept S w w3 from hw3 ▸ HK2.out.drew)
  rw [hw3] at hHeld
  rw [hw3]
  clear hw3 k1 k3 y0 y1 y2 y3 y4 y5 y6 y7
  refine AnyE.take (i := 0) (v := ?_) rfl (by kernel_rfl) (by kernel_rfl) (by kernel_rfl) (by kernel_rfl) (fun _ _ _ h => h) (Or.inl ⟨by rfl, ?_⟩) (by assumption) ?_
  rotate_left 1
  · intro w hSw
    (try dsimp only at hSw)
    go_simp
    all_goals (with_reducible rfl)
  try simp only [Act.put, List.getElem_toArray, List.getElem_cons_zero, List.getElem_cons_succ, List.setIfInBounds_toArray, List.set_cons_zero, List.set_cons_succ]
  refine AnyE.take (i := 1) (v := ?_) rfl (by kernel_rfl) (by kernel_rfl) (by kernel_rfl) (by kernel_rfl) (fun _ _ _ h => h) (Or.inl ⟨by rfl, ?_⟩) (by assumption) ?_
  rotate_left 1
  · intro w hSw
    (try dsimp only at hSw)
    go_simp
    all_goals (with_reducible rfl)
  try simp only [Act.put, List.getElem_toArray, List.getElem_cons_zero, List.getElem_cons_succ, List.setIfInBounds_toArray, List.set_cons_zero, List.set_cons_succ]
  refine AnyE.take (i := 2) (v := ?_) rfl (by kernel_rfl) (by kernel_rfl) (by kernel_rfl) (by kernel_rfl) (fun _ _ _ h => h) (Or.inl ⟨by rfl, ?_⟩) (by assumption) ?_
  rotate_left 1
  · intro w hSw
    (try dsimp only at hSw)
    go_simp
    all_goals (with_reducible rfl)
  try simp only [Act.put, List.getElem_toArray, List.getElem_cons_zero, List.getElem_cons_succ, List.setIfInBounds_toArray, List.set_cons_zero, List.set_cons_succ]
  refine AnyE.take (i := 3) (v := ?_) rfl (by kernel_rfl) (by kernel_rfl) (by kernel_rfl) (by kernel_rfl) (fun _ _ _ h => h) (Or.inl ⟨by rfl, ?_⟩) (by assumption) ?_
  rotate_left 1
  · intro w hSw
    (try dsimp only at hSw)
    go_simp
    all_goals (with_reducible rfl)
  try simp only [Act.put, List.getElem_toArray, List.getElem_cons_zero, List.getElem_cons_succ, List.setIfInBounds_toArray, List.set_cons_zero, List.set_cons_succ]
  refine AnyE.take (i := 4) (v := ?_) rfl (by kernel_rfl) (by kernel_rfl) (by kernel_rfl) (by kernel_rfl) (fun _ _ _ h => h) (Or.inl ⟨by rfl, ?_⟩) (by assumption) ?_
  rotate_left 1
  · intro w hSw
    (try dsimp only at hSw)
    go_simp
    all_goals (with_reducible rfl)
  try simp only [Act.put, List.getElem_toArray, List.getElem_cons_zero, List.getElem_cons_succ, List.setIfInBounds_toArray, List.set_cons_zero, List.set_cons_succ]
  refine AnyE.take (i := 5) (v := ?_) rfl (by kernel_rfl) (by kernel_rfl) (by kernel_rfl) (by kernel_rfl) (fun _ _ _ h => h) (Or.inl ⟨by rfl, ?_⟩) (by assumption) ?_
  rotate_left 1
  · intro w hSw
    (try dsimp only at hSw)
    go_simp
    all_goals (with_reducible rfl)
  try simp only [Act.put, List.getElem_toArray, List.getElem_cons_zero, List.getElem_cons_succ, List.setIfInBounds_toArray, List.set_cons_zero, List.set_cons_succ]
  refine AnyE.take (i := 6) (v := ?_) rfl (by kernel_rfl) (by kernel_rfl) (by kernel_rfl) (by kernel_rfl) (fun _ _ _ h => h) (Or.inl ⟨by rfl, ?_⟩) (by assumption) ?_
  rotate_left 1
  · intro w hSw
    (try dsimp only at hSw)
    go_simp
    all_goals (with_reducible rfl)
  try simp only [Act.put, List.getElem_toArray, List.getElem_cons_zero, List.getElem_cons_succ, List.setIfInBounds_toArray, List.set_cons_zero, List.set_cons_succ]
  refine AnyE.take (i := 7) (v := ?_) rfl (by kernel_rfl) (by kernel_rfl) (by kernel_rfl) (by kernel_rfl) (fun _ _ _ h => h) (Or.inl ⟨by rfl, ?_⟩) (by assumption) ?_
  rotate_left 1
  · intro w hSw
    (try dsimp only at hSw)
    go_simp
    all_goals (with_reducible rfl)
  try simp only [Act.put, List.getElem_toArray, List.getElem_cons_zero, List.getElem_cons_succ, List.setIfInBounds_toArray, List.set_cons_zero, List.set_cons_succ]
  refine AnyE.take (i := 8) (v := ?_) rfl (by kernel_rfl) (by kernel_rfl) (by kernel_rfl) (by kernel_rfl) (fun _ _ _ h => h) (Or.inl ⟨by rfl, ?_⟩) (by assumption) ?_
  rotate_left 1
  · intro w hSw
    (try dsimp only at hSw)
    go_simp
    all_goals (with_reducible rfl)
  try simp only [Act.put, List.getElem_toArray, List.getElem_cons_zero, List.getElem_cons_succ, List.setIfInBounds_toArray, List.set_cons_zero, List.set_cons_succ]
  refine AnyE.take (i := 9) (v := ?_) rfl (by kernel_rfl) (by kernel_rfl) (by kernel_rfl) (by kernel_rfl) (fun _ _ _ h => h) (Or.inl ⟨by rfl, ?_⟩) (by assumption) ?_
  rotate_left 1
  · intro w hSw
    (try dsimp only at hSw)
    go_simp
    all_goals (with_reducible rfl)
  try simp only [Act.put, List.getElem_toArray, List.getElem_cons_zero, List.getElem_cons_succ, List.setIfInBounds_toArray, List.set_cons_zero, List.set_cons_succ]
  refine AnyE.take (i := 10) (v := ?_) rfl (by kernel_rfl) (by kernel_rfl) (by kernel_rfl) (by kernel_rfl) (fun _ _ _ h => h) (Or.inl ⟨by rfl, ?_⟩) (by assumption) ?_
  rotate_left 1
  · intro w hSw
    (try dsimp only at hSw)
    go_simp
    all_goals (with_reducible rfl)
  try simp only [Act.put, List.getElem_toArray, List.getElem_cons_zero, List.getElem_cons_succ, List.setIfInBounds_toArray, List.set_cons_zero, List.set_cons_succ]
  refine AnyE.take (i := 11) (v := ?_) rfl (by kernel_rfl) (by kernel_rfl) (by kernel_rfl) (by kernel_rfl) (fun _ _ _ h => h) (Or.inl ⟨by rfl, ?_⟩) (by assumption) ?_
  rotate_left 1
  · intro w hSw
    (try dsimp only at hSw)
    go_simp
    all_goals (with_reducible rfl)
  try simp only [Act.put, List.getElem_toArray, List.getElem_cons_zero, List.getElem_cons_succ, List.setIfInBounds_toArray, List.set_cons_zero, List.set_cons_succ]
  refine AnyE.next (rs := [12]) (by kernel_rfl) (by simp) ?_
  refine AllE.cons rfl (fun K hK => ?_) AllE.nil
  go_simp
  have HX4 := Lib.hid (show IsX (w3.alloc (.cells #[.int .i64 ck, .int .i64 cv, .int .i64 ce, .int .i64 ca, .int .i64 cn, .int .i64 c1, .int .i64 c2, .int .i64 c3] 56)) 8 (.slice (some ⟨w3.heap.size, 0, none⟩) 1 1) 1 [.int .i64 ck, .int .i64 cv, .int .i64 ce, .int .i64 ca, .int .i64 cn, .int .i64 c1, .int .i64 c2, .int .i64 c3] from IsX.lit w3 #[.int .i64 ck, .int .i64 cv, .int .i64 ce, .int .i64 ca, .int .i64 cn, .int .i64 c1, .int .i64 c2, .int .i64 c3] 56 8 1 rfl (by decide))
  have HV4 := Lib.hid (HV3.out.below (below_new19 w3 (.cells #[.int .i64 ck, .int .i64 cv, .int .i64 ce, .int .i64 ca, .int .i64 cn, .int .i64 c1, .int .i64 c2, .int .i64 c3] 56)))
  have HG4 := Lib.hid HV4.out.blk
  have HY4 := Lib.hid (HY3.out.kept ((Kept.refl (fun _ => False) w3).alloc (.cells #[.int .i64 ck, .int .i64 cv, .int .i64 ce, .int .i64 ca, .int .i64 cn, .int .i64 c1, .int .i64 c2, .int .i64 c3] 56)) (fun h => h))
  have HK4 := Lib.hid (HK3.out.alloc (.cells #[.int .i64 ck, .int .i64 cv, .int .i64 ce, .int .i64 ca, .int .i64 cn, .int .i64 c1, .int .i64 c2, .int .i64 c3] 56))
  have HS4 := Lib.hid (show B ≤ (w3.alloc (.cells #[.int .i64 ck, .int .i64 cv, .int .i64 ce, .int .i64 ca, .int .i64 cn, .int .i64 c1, .int .i64 c2, .int .i64 c3] 56)).heap.size from Nat.le_of_lt (Nat.lt_of_le_of_lt (HV4.out.lt g HV4.out.sg).1 (HV4.out.lt g HV4.out.sg).2))
  refine hK.out _ _ (⟨HG4.out.cell 1 rfl, HG4.out.cell 3 rfl, HY4.out⟩) (fun hHeld => ?_)
  clear hK K
  try simp only [Act.put, List.getElem_toArray, List.getElem_cons_zero, List.getElem_cons_succ, List.setIfInBounds_toArray, List.set_cons_zero, List.set_cons_succ]
  refine AnyE.next (rs := [13]) (by kernel_rfl) (by simp) ?_
  refine AllE.cons rfl (fun K hK => ?_) AllE.nil
  have HR4 := Lib.hid (by have h := HV4.out.rb; rw [HM.out] at h; exact h)
  refine step_append_X (by rfl) _ _ 63 rfl B 56 i0 _ 8 64 Try.underlying63 HI0.out HZ0.out HZ1.out HZ2.out rfl (by decide) _ (row ccl b) M rfl HR4.out _ 1 _ rfl HX4.out (cells_cmd ⟨ck, cv, ce, ca, cn, c1, c2, c3⟩) (by unfold maxLen; omega) (by omega) HS4.out ?_
  intro v5 w5 hown5 hgr5 hl5
  obtain ⟨x5, cp5, rfl, _, _⟩ := ownsRow_slice hown5
  have HG5 := Lib.hid (HG4.out.grown hgr5 HV4.out.nb)
  have HK5 := Lib.hid ((Kept.refl (fun k => vb.ownBlock = some k) _).grown hgr5 (fun k e => .inl e))
  have HY5 := Lib.hid (HY4.out.kept HK5.out HNY.out)
  have HL5 := Lib.hid (HV4.out.logB (l := b ++ [⟨ck, cv, ce, ca, cn, c1, c2, c3⟩]) (by rw [row_append, row_one, List.length_append, List.length_singleton, HM.out]; exact hown5) HK5.out (hl5.elim .inl (fun e => .inr (fun k e2 => by have := Option.some.inj (e.symm.trans e2); omega))))
  have HO5 := Lib.hid hown5
  have z5 := HG5.out.free 3
  have zz5 := HG5.out.cell 3 rfl
  clear hown5 hgr5 hl5
  refine hK.out _ _ (⟨HG5.out.cell 1 rfl, HG5.out.cell 3 rfl, HY5.out⟩) (fun hHeld => ?_)
  clear hK K
  try simp only [Act.put, List.getElem_toArray, List.getElem_cons_zero, List.getElem_cons_succ, List.setIfInBounds_toArray, List.set_cons_zero, List.set_cons_succ]
  refine AnyE.next (rs := [14]) (by kernel_rfl) (by simp) ?_
  refine AllE.cons rfl (fun K hK => ?_) AllE.nil
  go_simp
  refine hK.out _ _ (⟨HG5.out.cell 1 rfl, HG5.out.cell 3 rfl, HY5.out⟩) (fun hHeld => ?_)
  clear hK K
  try simp only [Act.put, List.getElem_toArray, List.getElem_cons_zero, List.getElem_cons_succ, List.setIfInBounds_toArray, List.set_cons_zero, List.set_cons_succ]
  refine AnyE.take (i := 15) (v := ?_) rfl (by kernel_rfl) (by kernel_rfl) (by kernel_rfl) (by kernel_rfl) (fun _ _ _ h => h) (Or.inl ⟨by rfl, ?_⟩) (by assumption) ?_
  rotate_left 1
  · intro w hSw
    (try dsimp only at hSw)
    go_simp
    all_goals (with_reducible rfl)
  try simp only [Act.put, List.getElem_toArray, List.getElem_cons_zero, List.getElem_cons_succ, List.setIfInBounds_toArray, List.set_cons_zero, List.set_cons_succ]
  refine AnyE.next (rs := [16]) (by kernel_rfl) (by simp) ?_
  refine AllE.last rfl (fun K hK => ?_)
  go_simp
  refine hK.out _ _ ?_
  clear hK K
  try simp only [Act.put, List.getElem_toArray, List.getElem_cons_zero, List.getElem_cons_succ, List.setIfInBounds_toArray, List.set_cons_zero, List.set_cons_succ]
  refine AnyE.done (by kernel_rfl) ?_ _
  obtain ⟨h6, h7, h8⟩ := HL5.out
  obtain ⟨w6, hw6⟩ : ∃ w6, w5.setCell ⟨g, 3, none⟩ (.slice x5 (M + 1) cp5) = w6 := ⟨_, rfl⟩
  rw [hw6] at h6 h8 ⊢
  have HV6 := Lib.hid h6
  have HS6 := Lib.hid (fun k hk => (h7 k hk).imp id (fun h => Nat.le_trans HK4.out.size h))
  have HK6 := Lib.hid (HK4.out.trans h8 (fun j e _ => e))
  have HV7 := Lib.hid (show TwV (w6.setCell ⟨g, 6, none⟩ (.int .i64 ((M : Int) + 1))) B g (fun k => S k ∨ (Value.slice x5 (M + 1) cp5).ownBlock = some k) va (.slice x5 (M + 1) cp5) ⟨a, (b ++ [⟨ck, cv, ce, ca, cn, c1, c2, c3⟩]), true, true, false, tm, M + 1⟩ from by
    refine HV6.out.set 6 _ ⟨a, (b ++ [⟨ck, cv, ce, ca, cn, c1, c2, c3⟩]), true, true, false, tm, M + 1⟩ ?_ rfl rfl
    simp [pcs])
  have HK7 := Lib.hid (HK6.out.setCell (p := ⟨g, 6, none⟩) (.inl HV1.out.sg) (.int .i64 ((M : Int) + 1)))
  have hw9 : wrap64 ((M : Int) + 1) = (M : Int) + 1 := IntWalk.wrap64_in _ (by omega)
  clear h6 h7 h8 hw6 z5 zz5 la lb hidx
  have k6 : w6.cell? ⟨g, 6, none⟩ = some (.int .i64 (M : Int)) := HV6.out.blk.cell 6 rfl
  have f6 := HV6.out.blk.free 6
  go_wp2
  go_ret
  exact ⟨rfl, ⟨_, _, _, HV7.out, HS6.out, HK7.out⟩⟩
set_option maxRecDepth 100000 in
set_option maxHeartbeats 4000000 in
theorem tship_ok1 (w : World) (B g : Nat) (S : Nat → Prop) (a b : List Cm) (tm st : Nat) (c : Cm) (h : Tw w B g S ⟨a, b, true, true, true, tm, st⟩) (hc : b[a.length]? = some c) (hst : st = a.length) (hl : b.length ≤ 1000) :
    Calls Try.prog 22 #[pp g, .int .i64 (tm : Int)] w fun e w' => e = .returned .nilIface ∧ TwG w B g S ⟨(a ++ [c]), b, true, true, true, tm, a.length + 1⟩ w' := by
  obtain ⟨_, va, vb, h⟩ := h
  obtain ⟨i0, hi0, hz0, hz1, hz2⟩ := info_parts Try.infoCmdT
  have HI0 := Lib.hid hi0
  have HZ0 := Lib.hid hz0
  have HZ1 := Lib.hid hz1
  have HZ2 := Lib.hid hz2
  clear hi0 hz0 hz1 hz2
  have hlt := (List.getElem?_eq_some_iff.1 hc).1
  obtain ⟨Y, hY, hidx, y8⟩ := cmd_own h.rb hc
  have HNY := Lib.hid (show ¬ (va.ownBlock = some Y) from fun e => h.ab Y e hY)
  obtain ⟨ck, cv, ce, ca, cn, c1, c2, c3⟩ := c
  have la := fun W => len_X (P := Try.prog) (isX_cmd h.ra) 63 3 56 Try.underlying63 W
  have lb := fun W => len_X (P := Try.prog) (isX_cmd h.rb) 63 3 56 Try.underlying63 W
  dsimp only at la lb
  have HV1 := Lib.hid h
  obtain ⟨N, hN⟩ : ∃ N, b.length = N := ⟨_, rfl⟩
  obtain ⟨M, hM⟩ : ∃ M, a.length = M := ⟨_, rfl⟩
  rw [hN] at hl hlt
  rw [hM] at hlt hidx y8 hst ⊢
  rw [hM] at la
  rw [hN] at lb
  have hst2 := hst.symm
  subst hst2
  have HY1 := Lib.hid y8
  have HM := Lib.hid hM
  have HN := Lib.hid hN
  have k4 : w.cell? ⟨g, 4, none⟩ = some (.int .i64 1) := h.blk.cell 4 rfl
  have k5 : w.cell? ⟨g, 5, none⟩ = some (.int .i64 (tm : Int)) := h.blk.cell 5 rfl
  have k1 : w.cell? ⟨g, 1, none⟩ = some va := h.blk.cell 1 rfl
  have k3 : w.cell? ⟨g, 3, none⟩ = some vb := h.blk.cell 3 rfl
  clear h hN hM hY y8 hc
  go_enter Try.func22, Try.ntmps22
  go_wp2_with fail
  refine (tdoes w g va vb ⟨a, b, true, true, true, tm, M⟩ true HV1.out.blk).mono ?_
  rw [show doesN ⟨a, b, true, true, true, tm, M⟩ true = 2 from rfl]
  rintro e w2 ⟨rfl, rfl⟩
  go_wp2_with fail
  go_region
  go_wp2_with fail
  obtain ⟨w2, hw2⟩ : ∃ w2, w.drew = w2 := ⟨_, rfl⟩
  have HV2 := Lib.hid (show TwV w2 B g S va vb ⟨a, b, true, true, true, tm, M⟩ from hw2 ▸ HV1.out.drewN 1)
  have HY2 := Lib.hid (show Cmd8 w2 Y (M * 8) ⟨ck, cv, ce, ca, cn, c1, c2, c3⟩ from hw2 ▸ HY1.out.kept (kept_drew20 (fun _ => False) w 1) (fun h => h))
  have HK2 := Lib.hid (show Kept S w w2 from hw2 ▸ kept_drew20 S w 1)
  rw [hw2]
  clear hw2 k1 k3 k4 k5
  have k1 : w2.cell? ⟨g, 1, none⟩ = some va := HV2.out.blk.cell 1 rfl
  have k3 : w2.cell? ⟨g, 3, none⟩ = some vb := HV2.out.blk.cell 3 rfl
  obtain ⟨y0, y1, y2, y3, y4, y5, y6, y7⟩ := HY2.out
  refine AnyE.start (S := (fun wx => wx.cell? ⟨g, 1, none⟩ = some va ∧ wx.cell? ⟨g, 3, none⟩ = some vb ∧ wx.cell? ⟨Y, M * 8, none⟩ = some (.int .i64 ck) ∧ wx.cell? ⟨Y, M * 8 + 1, none⟩ = some (.int .i64 cv) ∧ wx.cell? ⟨Y, M * 8 + 2, none⟩ = some (.int .i64 ce) ∧ wx.cell? ⟨Y, M * 8 + 3, none⟩ = some (.int .i64 ca) ∧ wx.cell? ⟨Y, M * 8 + 4, none⟩ = some (.int .i64 cn) ∧ wx.cell? ⟨Y, M * 8 + 5, none⟩ = some (.int .i64 c1) ∧ wx.cell? ⟨Y, M * 8 + 6, none⟩ = some (.int .i64 c2) ∧ wx.cell? ⟨Y, M * 8 + 7, none⟩ = some (.int .i64 c3))) 16 (by kernel_rfl) (⟨k1, k3, y0, y1, y2, y3, y4, y5, y6, y7⟩) (fun hHeld => ?_)
  obtain ⟨w3, hw3⟩ : ∃ w3, w2.drew = w3 := ⟨_, rfl⟩
  have HV3 := Lib.hid (show TwV w3 B g S va vb ⟨a, b, true, true, true, tm, M⟩ from hw3 ▸ HV2.out.drewN 1)
  have HY3 := Lib.hid (show Cmd8 w3 Y (M * 8) ⟨ck, cv, ce, ca, cn, c1, c2, c3⟩ from hw3 ▸ HY2.out.kept (kept_drew20 (fun _ => False) w2 1) (fun h => h))
  have HK3 := Lib.hid (show Kept S w w3 from hw3 ▸ HK2.out.drew)
  rw [hw3] at hHeld
  rw [hw3]
  clear hw3 k1 k3 y0 y1 y2 y3 y4 y5 y6 y7
  refine AnyE.take (i := 0) (v := ?_) rfl (by kernel_rfl) (by kernel_rfl) (by kernel_rfl) (by kernel_rfl) (fun _ _ _ h => h) (Or.inl ⟨by rfl, ?_⟩) (by assumption) ?_
  rotate_left 1
  · intro w hSw
    (try dsimp only at hSw)
    go_simp
    all_goals (with_reducible rfl)
  try simp only [Act.put, List.getElem_toArray, List.getElem_cons_zero, List.getElem_cons_succ, List.setIfInBounds_toArray, List.set_cons_zero, List.set_cons_succ]
  refine AnyE.take (i := 1) (v := ?_) rfl (by kernel_rfl) (by kernel_rfl) (by kernel_rfl) (by kernel_rfl) (fun _ _ _ h => h) (Or.inl ⟨by rfl, ?_⟩) (by assumption) ?_
  rotate_left 1
  · intro w hSw
    (try dsimp only at hSw)
    go_simp
    all_goals (with_reducible rfl)
  try simp only [Act.put, List.getElem_toArray, List.getElem_cons_zero, List.getElem_cons_succ, List.setIfInBounds_toArray, List.set_cons_zero, List.set_cons_succ]
  refine AnyE.take (i := 2) (v := ?_) rfl (by kernel_rfl) (by kernel_rfl) (by kernel_rfl) (by kernel_rfl) (fun _ _ _ h => h) (Or.inl ⟨by rfl, ?_⟩) (by assumption) ?_
  rotate_left 1
  · intro w hSw
    (try dsimp only at hSw)
    go_simp
    all_goals (with_reducible rfl)
  try simp only [Act.put, List.getElem_toArray, List.getElem_cons_zero, List.getElem_cons_succ, List.setIfInBounds_toArray, List.set_cons_zero, List.set_cons_succ]
  refine AnyE.take (i := 3) (v := ?_) rfl (by kernel_rfl) (by kernel_rfl) (by kernel_rfl) (by kernel_rfl) (fun _ _ _ h => h) (Or.inl ⟨by rfl, ?_⟩) (by assumption) ?_
  rotate_left 1
  · intro w hSw
    (try dsimp only at hSw)
    go_simp
    all_goals (with_reducible rfl)
  try simp only [Act.put, List.getElem_toArray, List.getElem_cons_zero, List.getElem_cons_succ, List.setIfInBounds_toArray, List.set_cons_zero, List.set_cons_succ]
  refine AnyE.take (i := 4) (v := ?_) rfl (by kernel_rfl) (by kernel_rfl) (by kernel_rfl) (by kernel_rfl) (fun _ _ _ h => h) (Or.inl ⟨by rfl, ?_⟩) (by assumption) ?_
  rotate_left 1
  · intro w hSw
    (try dsimp only at hSw)
    go_simp
    all_goals (with_reducible rfl)
  try simp only [Act.put, List.getElem_toArray, List.getElem_cons_zero, List.getElem_cons_succ, List.setIfInBounds_toArray, List.set_cons_zero, List.set_cons_succ]
  refine AnyE.take (i := 5) (v := ?_) rfl (by kernel_rfl) (by kernel_rfl) (by kernel_rfl) (by kernel_rfl) (fun _ _ _ h => h) (Or.inl ⟨by rfl, ?_⟩) (by assumption) ?_
  rotate_left 1
  · intro w hSw
    (try dsimp only at hSw)
    go_simp
    all_goals (with_reducible rfl)
  try simp only [Act.put, List.getElem_toArray, List.getElem_cons_zero, List.getElem_cons_succ, List.setIfInBounds_toArray, List.set_cons_zero, List.set_cons_succ]
  refine AnyE.take (i := 6) (v := ?_) rfl (by kernel_rfl) (by kernel_rfl) (by kernel_rfl) (by kernel_rfl) (fun _ _ _ h => h) (Or.inl ⟨by rfl, ?_⟩) (by assumption) ?_
  rotate_left 1
  · intro w hSw
    (try dsimp only at hSw)
    go_simp
    all_goals (with_reducible rfl)
  try simp only [Act.put, List.getElem_toArray, List.getElem_cons_zero, List.getElem_cons_succ, List.setIfInBounds_toArray, List.set_cons_zero, List.set_cons_succ]
  refine AnyE.take (i := 7) (v := ?_) rfl (by kernel_rfl) (by kernel_rfl) (by kernel_rfl) (by kernel_rfl) (fun _ _ _ h => h) (Or.inl ⟨by rfl, ?_⟩) (by assumption) ?_
  rotate_left 1
  · intro w hSw
    (try dsimp only at hSw)
    go_simp
    all_goals (with_reducible rfl)
  try simp only [Act.put, List.getElem_toArray, List.getElem_cons_zero, List.getElem_cons_succ, List.setIfInBounds_toArray, List.set_cons_zero, List.set_cons_succ]
  refine AnyE.take (i := 8) (v := ?_) rfl (by kernel_rfl) (by kernel_rfl) (by kernel_rfl) (by kernel_rfl) (fun _ _ _ h => h) (Or.inl ⟨by rfl, ?_⟩) (by assumption) ?_
  rotate_left 1
  · intro w hSw
    (try dsimp only at hSw)
    go_simp
    all_goals (with_reducible rfl)
  try simp only [Act.put, List.getElem_toArray, List.getElem_cons_zero, List.getElem_cons_succ, List.setIfInBounds_toArray, List.set_cons_zero, List.set_cons_succ]
  refine AnyE.take (i := 9) (v := ?_) rfl (by kernel_rfl) (by kernel_rfl) (by kernel_rfl) (by kernel_rfl) (fun _ _ _ h => h) (Or.inl ⟨by rfl, ?_⟩) (by assumption) ?_
  rotate_left 1
  · intro w hSw
    (try dsimp only at hSw)
    go_simp
    all_goals (with_reducible rfl)
  try simp only [Act.put, List.getElem_toArray, List.getElem_cons_zero, List.getElem_cons_succ, List.setIfInBounds_toArray, List.set_cons_zero, List.set_cons_succ]
  refine AnyE.take (i := 10) (v := ?_) rfl (by kernel_rfl) (by kernel_rfl) (by kernel_rfl) (by kernel_rfl) (fun _ _ _ h => h) (Or.inl ⟨by rfl, ?_⟩) (by assumption) ?_
  rotate_left 1
  · intro w hSw
    (try dsimp only at hSw)
    go_simp
    all_goals (with_reducible rfl)
  try simp only [Act.put, List.getElem_toArray, List.getElem_cons_zero, List.getElem_cons_succ, List.setIfInBounds_toArray, List.set_cons_zero, List.set_cons_succ]
  refine AnyE.take (i := 11) (v := ?_) rfl (by kernel_rfl) (by kernel_rfl) (by kernel_rfl) (by kernel_rfl) (fun _ _ _ h => h) (Or.inl ⟨by rfl, ?_⟩) (by assumption) ?_
  rotate_left 1
  · intro w hSw
    (try dsimp only at hSw)
    go_simp
    all_goals (with_reducible rfl)
  try simp only [Act.put, List.getElem_toArray, List.getElem_cons_zero, List.getElem_cons_succ, List.setIfInBounds_toArray, List.set_cons_zero, List.set_cons_succ]
  refine AnyE.next (rs := [12]) (by kernel_rfl) (by simp) ?_
  refine AllE.cons rfl (fun K hK => ?_) AllE.nil
  go_simp
  have HX4 := Lib.hid (show IsX (w3.alloc (.cells #[.int .i64 ck, .int .i64 cv, .int .i64 ce, .int .i64 ca, .int .i64 cn, .int .i64 c1, .int .i64 c2, .int .i64 c3] 56)) 8 (.slice (some ⟨w3.heap.size, 0, none⟩) 1 1) 1 [.int .i64 ck, .int .i64 cv, .int .i64 ce, .int .i64 ca, .int .i64 cn, .int .i64 c1, .int .i64 c2, .int .i64 c3] from IsX.lit w3 #[.int .i64 ck, .int .i64 cv, .int .i64 ce, .int .i64 ca, .int .i64 cn, .int .i64 c1, .int .i64 c2, .int .i64 c3] 56 8 1 rfl (by decide))
  have HV4 := Lib.hid (HV3.out.below (below_new19 w3 (.cells #[.int .i64 ck, .int .i64 cv, .int .i64 ce, .int .i64 ca, .int .i64 cn, .int .i64 c1, .int .i64 c2, .int .i64 c3] 56)))
  have HG4 := Lib.hid HV4.out.blk
  have HY4 := Lib.hid (HY3.out.kept ((Kept.refl (fun _ => False) w3).alloc (.cells #[.int .i64 ck, .int .i64 cv, .int .i64 ce, .int .i64 ca, .int .i64 cn, .int .i64 c1, .int .i64 c2, .int .i64 c3] 56)) (fun h => h))
  have HK4 := Lib.hid (HK3.out.alloc (.cells #[.int .i64 ck, .int .i64 cv, .int .i64 ce, .int .i64 ca, .int .i64 cn, .int .i64 c1, .int .i64 c2, .int .i64 c3] 56))
  have HS4 := Lib.hid (show B ≤ (w3.alloc (.cells #[.int .i64 ck, .int .i64 cv, .int .i64 ce, .int .i64 ca, .int .i64 cn, .int .i64 c1, .int .i64 c2, .int .i64 c3] 56)).heap.size from Nat.le_of_lt (Nat.lt_of_le_of_lt (HV4.out.lt g HV4.out.sg).1 (HV4.out.lt g HV4.out.sg).2))
  refine hK.out _ _ (⟨HG4.out.cell 1 rfl, HG4.out.cell 3 rfl, HY4.out⟩) (fun hHeld => ?_)
  clear hK K
  try simp only [Act.put, List.getElem_toArray, List.getElem_cons_zero, List.getElem_cons_succ, List.setIfInBounds_toArray, List.set_cons_zero, List.set_cons_succ]
  refine AnyE.next (rs := [13]) (by kernel_rfl) (by simp) ?_
  refine AllE.cons rfl (fun K hK => ?_) AllE.nil
  have HR4 := Lib.hid (by have h := HV4.out.ra; rw [HM.out] at h; exact h)
  refine step_append_X (by rfl) _ _ 63 rfl B 56 i0 _ 8 64 Try.underlying63 HI0.out HZ0.out HZ1.out HZ2.out rfl (by decide) _ (row ccl a) M rfl HR4.out _ 1 _ rfl HX4.out (cells_cmd ⟨ck, cv, ce, ca, cn, c1, c2, c3⟩) (by unfold maxLen; omega) (by omega) HS4.out ?_
  intro v5 w5 hown5 hgr5 hl5
  obtain ⟨x5, cp5, rfl, _, _⟩ := ownsRow_slice hown5
  have HG5 := Lib.hid (HG4.out.grown hgr5 HV4.out.na)
  have HK5 := Lib.hid ((Kept.refl (fun k => va.ownBlock = some k) _).grown hgr5 (fun k e => .inl e))
  have HY5 := Lib.hid (HY4.out.kept HK5.out HNY.out)
  have HL5 := Lib.hid (HV4.out.logA (l := a ++ [⟨ck, cv, ce, ca, cn, c1, c2, c3⟩]) (by rw [row_append, row_one, List.length_append, List.length_singleton, HM.out]; exact hown5) HK5.out (hl5.elim .inl (fun e => .inr (fun k e2 => by have := Option.some.inj (e.symm.trans e2); omega))))
  have HO5 := Lib.hid hown5
  have z5 := HG5.out.free 1
  have zz5 := HG5.out.cell 1 rfl
  clear hown5 hgr5 hl5
  refine hK.out _ _ (⟨HG5.out.cell 1 rfl, HG5.out.cell 3 rfl, HY5.out⟩) (fun hHeld => ?_)
  clear hK K
  try simp only [Act.put, List.getElem_toArray, List.getElem_cons_zero, List.getElem_cons_succ, List.setIfInBounds_toArray, List.set_cons_zero, List.set_cons_succ]
  refine AnyE.next (rs := [14]) (by kernel_rfl) (by simp) ?_
  refine AllE.cons rfl (fun K hK => ?_) AllE.nil
  go_simp
  refine hK.out _ _ (⟨HG5.out.cell 1 rfl, HG5.out.cell 3 rfl, HY5.out⟩) (fun hHeld => ?_)
  clear hK K
  try simp only [Act.put, List.getElem_toArray, List.getElem_cons_zero, List.getElem_cons_succ, List.setIfInBounds_toArray, List.set_cons_zero, List.set_cons_succ]
  refine AnyE.take (i := 15) (v := ?_) rfl (by kernel_rfl) (by kernel_rfl) (by kernel_rfl) (by kernel_rfl) (fun _ _ _ h => h) (Or.inl ⟨by rfl, ?_⟩) (by assumption) ?_
  rotate_left 1
  · intro w hSw
    (try dsimp only at hSw)
    go_simp
    all_goals (with_reducible rfl)
  try simp only [Act.put, List.getElem_toArray, List.getElem_cons_zero, List.getElem_cons_succ, List.setIfInBounds_toArray, List.set_cons_zero, List.set_cons_succ]
  refine AnyE.next (rs := [16]) (by kernel_rfl) (by simp) ?_
  refine AllE.last rfl (fun K hK => ?_)
  go_simp
  refine hK.out _ _ ?_
  clear hK K
  try simp only [Act.put, List.getElem_toArray, List.getElem_cons_zero, List.getElem_cons_succ, List.setIfInBounds_toArray, List.set_cons_zero, List.set_cons_succ]
  refine AnyE.done (by kernel_rfl) ?_ _
  obtain ⟨h6, h7, h8⟩ := HL5.out
  obtain ⟨w6, hw6⟩ : ∃ w6, w5.setCell ⟨g, 1, none⟩ (.slice x5 (M + 1) cp5) = w6 := ⟨_, rfl⟩
  rw [hw6] at h6 h8 ⊢
  have HV6 := Lib.hid h6
  have HS6 := Lib.hid (fun k hk => (h7 k hk).imp id (fun h => Nat.le_trans HK4.out.size h))
  have HK6 := Lib.hid (HK4.out.trans h8 (fun j e _ => e))
  have HV7 := Lib.hid (show TwV (w6.setCell ⟨g, 6, none⟩ (.int .i64 ((M : Int) + 1))) B g (fun k => S k ∨ (Value.slice x5 (M + 1) cp5).ownBlock = some k) (.slice x5 (M + 1) cp5) vb ⟨(a ++ [⟨ck, cv, ce, ca, cn, c1, c2, c3⟩]), b, true, true, true, tm, M + 1⟩ from by
    refine HV6.out.set 6 _ ⟨(a ++ [⟨ck, cv, ce, ca, cn, c1, c2, c3⟩]), b, true, true, true, tm, M + 1⟩ ?_ rfl rfl
    simp [pcs])
  have HK7 := Lib.hid (HK6.out.setCell (p := ⟨g, 6, none⟩) (.inl HV1.out.sg) (.int .i64 ((M : Int) + 1)))
  have hw9 : wrap64 ((M : Int) + 1) = (M : Int) + 1 := IntWalk.wrap64_in _ (by omega)
  clear h6 h7 h8 hw6 z5 zz5 la lb hidx
  have k6 : w6.cell? ⟨g, 6, none⟩ = some (.int .i64 (M : Int)) := HV6.out.blk.cell 6 rfl
  have f6 := HV6.out.blk.free 6
  go_wp2
  go_ret
  exact ⟨rfl, ⟨_, _, _, HV7.out, HS6.out, HK7.out⟩⟩
theorem take_more {L F : List Cm} {c : Cm} (h : F = L.take F.length) (hc : L[F.length]? = some c) : L.take (F.length + 1) = F ++ [c] := by
  rw [List.take_add_one, hc, ← h]
  rfl
theorem tship (w : World) (B g : Nat) (S : Nat → Prop) (p : Pr) (t : Int) (h : Tw w B g S p) (ho : p.Ok) (hl : p.Le 1000) :
    Calls Try.prog 22 #[pp g, .int .i64 t] w fun e w' => e = .returned (derr (shipK p t)) ∧ TwT w B g S (shipP p t) w' := by
  have hset := ship_set ho h.1 t
  by_cases hu : p.u0 = true ∧ p.u1 = true
  · by_cases ht : t = (p.tm : Int)
    · subst ht
      by_cases hle : (p.log p.ld).length ≤ (p.log (!p.ld)).length
      · have hK : shipK p p.tm = 6 := by unfold shipK; rw [if_pos hu, if_pos rfl, if_pos hle]
        have hP : shipP p p.tm = p := by unfold shipP; rw [hK]; rfl
        rw [hK, hP, derr_pos (by decide)]
        have hs := fun w' hb => h.same (w' := w') hb
        obtain ⟨a, b, u0, u1, ld, tm, st⟩ := p
        obtain ⟨rfl, rfl⟩ : u0 = true ∧ u1 = true := hu
        cases ld
        · exact (tship_none0 w B g S a b tm st h hle).mono fun x w' hx => ⟨hx.1, hs _ hx.2⟩
        · exact (tship_none1 w B g S a b tm st h hle).mono fun x w' hx => ⟨hx.1, hs _ hx.2⟩
      · have hK : shipK p p.tm = 0 := by unfold shipK; rw [if_pos hu, if_pos rfl, if_neg hle]
        rw [hK, derr_zero]
        have hfo := (ho.fo (up_two hu _)).2.1
        have hll := hl.log p.ld
        have hst : p.st = (p.log (!p.ld)).length := by
          have := h.1
          unfold Pr.Set at this
          rw [if_pos (up_two hu _)] at this
          exact this
        obtain ⟨c, hc⟩ : ∃ c, (p.log p.ld)[(p.log (!p.ld)).length]? = some c := ⟨_, List.getElem?_eq_getElem (by omega)⟩
        have hP : shipP p p.tm = (p.setLog (!p.ld) (p.log (!p.ld) ++ [c])).settle ((p.log (!p.ld)).length + 1) := by
          unfold shipP
          rw [if_pos hK, take_more hfo hc]
        obtain ⟨a, b, u0, u1, ld, tm, st⟩ := p
        obtain ⟨rfl, rfl⟩ : u0 = true ∧ u1 = true := hu
        cases ld
        · have e : shipP ⟨a, b, true, true, false, tm, st⟩ (tm : Int) = ⟨a, b ++ [c], true, true, false, tm, b.length + 1⟩ := by
            refine hP.trans ?_
            simp only [Pr.log, Bool.not_false, if_true] at hst
            simp [Pr.setLog, Pr.settle, Pr.log]
            omega
          exact (tship_ok0 w B g S a b tm st c h hc hst hll).mono fun x w' hx => ⟨hx.1, (e ▸ hx.2 : TwG w B g S (shipP ⟨a, b, true, true, false, tm, st⟩ (tm : Int)) w').twT hset⟩
        · have e : shipP ⟨a, b, true, true, true, tm, st⟩ (tm : Int) = ⟨a ++ [c], b, true, true, true, tm, a.length + 1⟩ := by
            refine hP.trans ?_
            simp only [Pr.log, Bool.not_true, Bool.false_eq_true, if_false] at hst
            simp [Pr.setLog, Pr.settle, Pr.log]
            omega
          exact (tship_ok1 w B g S a b tm st c h hc hst hll).mono fun x w' hx => ⟨hx.1, (e ▸ hx.2 : TwG w B g S (shipP ⟨a, b, true, true, true, tm, st⟩ (tm : Int)) w').twT hset⟩
    · have hK : shipK p t = 13 := by unfold shipK; rw [if_pos hu, if_neg ht]
      have hP : shipP p t = p := by unfold shipP; rw [hK]; rfl
      rw [hK, hP, derr_pos (by decide)]
      exact (tship_stale w B g S p t h hu ht).mono fun x w' hx => ⟨hx.1, h.same hx.2⟩
  · have hK : shipK p t = 12 := by unfold shipK; rw [if_neg hu]
    have hP : shipP p t = p := by unfold shipP; rw [hK]; rfl
    rw [hK, hP, derr_pos (by decide)]
    exact (tship_down w B g S p t h hu).mono fun x w' hx => ⟨hx.1, h.same hx.2⟩
end Go.Proofs.Ytlaighghagcjjaa
