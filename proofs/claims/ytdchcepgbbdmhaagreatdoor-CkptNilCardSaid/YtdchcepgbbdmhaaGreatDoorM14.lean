/- Samev, Ck, Cku, Ckb. -/
import Derived.Test.YtdchcepgbbdmhaaGreatDoorM13

section
namespace Go.Proofs.YtdchcepgbbdmhaaGreatDoor
open Go.RowKit Go.Cor

theorem below_drawn9 {B : Nat} {a w : World} (h : Below B a w) (n : Nat) : Below B a (w.drewN n) := h.trans ⟨rfl, rfl, rfl, Nat.le_refl _, fun _ _ => rfl⟩
theorem from_all (l : List Pos) (h : l.length ≤ 5000) : Q.fromL l 0 5000 = l := by
  unfold Q.fromL
  have h0 : psn l 0 = 0 := by
    cases l <;> simp [psn]
  rw [h0, List.drop_zero]
  exact List.take_of_length_le (by simpa using h)
set_option maxRecDepth 100000 in
set_option maxHeartbeats 4000000 in
theorem same_v (g p k : Nat) (S : Nat → Prop) (d : Dsk) (s : Vst) (S2 : Nat → Prop) (lv dv : Value) (ps : List (Ndl × Value)) (w : World) (h : Vready w g p S d k s) (hd : DocP w S2 s lv dv ps) :
    Calls Tryz.prog 14 #[.pointer (some ⟨g, 0, none⟩), dval s lv dv] w fun e w' => e = .returned (.bool true) ∧ Below w.heap.size w w' := by
  obtain ⟨lx, lc, rfl, _, _⟩ := IsX.slice hd.l
  obtain ⟨dx, dc, rfl, _, _⟩ := IsX.slice hd.d.1
  have hI5 : s.idx.length ≤ 5000 := by have := s.idx_len; have := h.ok.few; omega
  have hGI := Q.goneN_le s.idx
  have HAL := Lib.hid (from_all s.idx hI5)
  obtain ⟨I, hI⟩ : ∃ I, s.idx.length = I := ⟨_, rfl⟩
  obtain ⟨N, hN⟩ : ∃ N, ps.length = N := ⟨_, rfl⟩
  obtain ⟨G, hG⟩ : ∃ G, Q.goneN s.idx = G := ⟨_, rfl⟩
  have hbx := below_alloc w (.cells #[.int .i64 (s.num : Int), .int .i64 (s.most : Int), .int .i64 (s.epoch : Int), .int .i64 (s.size : Int), .bool s.shut, .slice lx I lc, .slice dx N dc] 30)
  have HINF := Lib.hid (show Calls Tryz.prog 29 #[.pointer (some ⟨g, 0, none⟩)] (w.alloc (.cells #[.int .i64 (s.num : Int), .int .i64 (s.most : Int), .int .i64 (s.epoch : Int), .int .i64 (s.size : Int), .bool s.shut, .slice lx I lc, .slice dx N dc] 30)) (fun r w' => r = .returned (.agg #[.int .i64 (s.num : Int), .int .i64 (s.gen : Int), .int .i64 (s.epoch : Int), .int .i64 (s.size : Int), .int .i64 ((I : Int) - (G : Int)), .int .i64 (G : Int), .bool s.shut]) ∧ Below (w.alloc (.cells #[.int .i64 (s.num : Int), .int .i64 (s.most : Int), .int .i64 (s.epoch : Int), .int .i64 (s.size : Int), .bool s.shut, .slice lx I lc, .slice dx N dc] 30)).heap.size (w.alloc (.cells #[.int .i64 (s.num : Int), .int .i64 (s.most : Int), .int .i64 (s.epoch : Int), .int .i64 (s.size : Int), .bool s.shut, .slice lx I lc, .slice dx N dc] 30)) w') by
    have := info_v g p k S d s _ (h.below hbx)
    unfold infoV at this
    rw [hI, hG] at this
    exact this)
  rw [hI, hN] at hd ⊢
  rw [hG, hI] at hGI
  rw [hI] at hI5
  have HH := Lib.hid h
  have HD := Lib.hid hd
  have HI := Lib.hid hI
  have HG := Lib.hid hG
  have HB0 := Lib.hid hbx
  clear h hd hI hG hN hbx
  go_enter Tryz.func14, Tryz.ntmps14
  go_wp2_with fail
  refine HINF.out.mono ?_
  rintro e w2 ⟨rfl, hb⟩
  have hb2 : Below w.heap.size w w2 := HB0.out.trans (hb.mono (by simp))
  have hv2 := (Blk.new w #[.int .i64 (s.num : Int), .int .i64 (s.most : Int), .int .i64 (s.epoch : Int), .int .i64 (s.size : Int), .bool s.shut, .slice lx I lc, .slice dx N dc] 30).below hb (Blk.new w #[.int .i64 (s.num : Int), .int .i64 (s.most : Int), .int .i64 (s.epoch : Int), .int .i64 (s.size : Int), .bool s.shut, .slice lx I lc, .slice dx N dc] 30).lt
  have hv3 := hv2.alloc (.cells #[.int .i64 (s.num : Int), .int .i64 (s.gen : Int), .int .i64 (s.epoch : Int), .int .i64 (s.size : Int), .int .i64 ((I : Int) - (G : Int)), .int .i64 (G : Int), .bool s.shut] 91)
  have hi3 := Blk.new w2 #[.int .i64 (s.num : Int), .int .i64 (s.gen : Int), .int .i64 (s.epoch : Int), .int .i64 (s.size : Int), .int .i64 ((I : Int) - (G : Int)), .int .i64 (G : Int), .bool s.shut] 91
  have hb3 := hb2.alloc hb2.size (.cells #[.int .i64 (s.num : Int), .int .i64 (s.gen : Int), .int .i64 (s.epoch : Int), .int .i64 (s.size : Int), .int .i64 ((I : Int) - (G : Int)), .int .i64 (G : Int), .bool s.shut] 91)
  go_upto_region 2 with fail
  obtain ⟨w3, hw3⟩ : ∃ w3, w2.alloc (.cells #[.int .i64 (s.num : Int), .int .i64 (s.gen : Int), .int .i64 (s.epoch : Int), .int .i64 (s.size : Int), .int .i64 ((I : Int) - (G : Int)), .int .i64 (G : Int), .bool s.shut] 91) = w3 := ⟨_, rfl⟩
  obtain ⟨IB, hIB⟩ : ∃ IB, w2.heap.size = IB := ⟨_, rfl⟩
  rw [hw3, hIB] at hi3
  rw [hw3] at hv3 hb3
  rw [hw3, hIB]
  have HV3 := Lib.hid hv3
  have HI3 := Lib.hid hi3
  have HB3 := Lib.hid hb3
  have v5 := HV3.out.cell 5 rfl
  clear hw3 hIB hb2 hv2 hv3 hi3 hb3 hb HINF HB0
  go_wp2_with fail
  go_loopw [6, 7] (fun gc c wr => ∃ i : Nat, i ≤ I ∧ gc = .int .i64 (Q.goneN (s.idx.take i) : Int) ∧ c = .int .i64 (i : Int) ∧ wr = w3) (fun _ c _ => (I - intOf c).toNat)
  case atStart => exact ⟨0, Nat.zero_le _, rfl, rfl, rfl⟩
  case round =>
    obtain ⟨i, hiI, rfl, rfl, rfl⟩ := hrel
    obtain ⟨M, hM⟩ : ∃ M, Q.goneN (s.idx.take i) = M := ⟨_, rfl⟩
    have hMI : M ≤ i := by
      rw [← hM]
      exact Nat.le_trans (Q.goneN_le _) (by rw [List.length_take]; exact Nat.min_le_left _ _)
    rw [hM]
    by_cases hi : i < I
    · obtain ⟨b, o, hidx, hp⟩ := Q.indexAt_P (P := Tryz.prog) (HD.out.l.mono HB3.out (Nat.le_refl _)) 27 94 Tryz.underlying27 Tryz.sizePs5 i (by rw [HI.out]; exact hi)
      have hsn := Q.goneN_snoc (show i < s.idx.length by rw [HI.out]; exact hi)
      rw [hM] at hsn
      obtain ⟨⟨pk, po, pl, pc, pg⟩, hpp⟩ : ∃ p, pat s.idx i = p := ⟨_, rfl⟩
      rw [hpp] at hp hsn
      obtain ⟨c0, c1, c2, c3, c4⟩ := hp
      dsimp only at c0 c1 c2 c3 c4 hsn
      have e1 : IntKind.i64.wrap ((i : Int) + 1) = (i : Int) + 1 := IntWalk.i64_in _ (by omega)
      have e2 : IntKind.i64.wrap ((M : Int) + 1) = (M : Int) + 1 := IntWalk.i64_in _ (by omega)
      clear hpp hM
      cases pg with
      | true =>
        have HSN := Lib.hid (show Q.goneN (s.idx.take (i + 1)) = M + 1 by simpa using hsn)
        clear hsn
        go_wp2
        go_roundw
        case rel => exact ⟨i + 1, by omega, by rw [HSN.out]; simp, by simp, by trivial⟩
        case measure => simp [intOf] <;> omega
      | false =>
        have HSN := Lib.hid (show Q.goneN (s.idx.take (i + 1)) = M by simpa using hsn)
        clear hsn
        go_wp2
        go_roundw
        case rel => exact ⟨i + 1, by omega, by rw [HSN.out], by simp, by trivial⟩
        case measure => simp [intOf] <;> omega
    · obtain rfl : I = i := by omega
      have hMG : M = G := by rw [← hM, ← HG.out, List.take_of_length_le (by rw [HI.out]; exact Nat.le_refl _)]
      subst hMG
      clear hM hi
      have e3 : IntKind.i64.wrap ((I : Int) - (M : Int)) = (I : Int) - (M : Int) := IntWalk.i64_in _ (by omega)
      have HS8 := Lib.hid (show ∀ wx, Below wr.heap.size wr wx → (fun wx => (wx.cell? ⟨w.heap.size, 0, none⟩ = some (.int .i64 (s.num : Int)) ∧ wx.cell? ⟨w.heap.size, 1, none⟩ = some (.int .i64 (s.most : Int)) ∧ wx.cell? ⟨w.heap.size, 2, none⟩ = some (.int .i64 (s.epoch : Int)) ∧ wx.cell? ⟨w.heap.size, 3, none⟩ = some (.int .i64 (s.size : Int)) ∧ wx.cell? ⟨w.heap.size, 4, none⟩ = some (.bool s.shut) ∧ wx.cell? ⟨w.heap.size, 5, none⟩ = some (.slice lx I lc) ∧ wx.cell? ⟨w.heap.size, 6, none⟩ = some (.slice dx N dc)) ∧ (wx.cell? ⟨IB, 0, none⟩ = some (.int .i64 (s.num : Int)) ∧ wx.cell? ⟨IB, 1, none⟩ = some (.int .i64 (s.gen : Int)) ∧ wx.cell? ⟨IB, 2, none⟩ = some (.int .i64 (s.epoch : Int)) ∧ wx.cell? ⟨IB, 3, none⟩ = some (.int .i64 (s.size : Int)) ∧ wx.cell? ⟨IB, 4, none⟩ = some (.int .i64 ((I : Int) - (M : Int))) ∧ wx.cell? ⟨IB, 5, none⟩ = some (.int .i64 (M : Int)) ∧ wx.cell? ⟨IB, 6, none⟩ = some (.bool s.shut))) wx from fun wx hb => by
        have h1 := HV3.out.below hb HV3.out.lt
        have h2 := HI3.out.below hb HI3.out.lt
        exact ⟨⟨h1.cell 0 rfl, h1.cell 1 rfl, h1.cell 2 rfl, h1.cell 3 rfl, h1.cell 4 rfl, h1.cell 5 rfl, h1.cell 6 rfl⟩, ⟨h2.cell 0 rfl, h2.cell 1 rfl, h2.cell 2 rfl, h2.cell 3 rfl, h2.cell 4 rfl, h2.cell 5 rfl, h2.cell 6 rfl⟩⟩)
      have HKY := Lib.hid (fun wx (hb : Below w.heap.size w wx) => show Calls Tryz.prog 32 #[.pointer (some ⟨g, 0, none⟩), .int .u64 0, .int .i64 5000] wx (fun r w' => ∃ v', r = .returned v' ∧ w'.ownsRow wx.heap.size 141 5 v' s.idx.length (row Q.pcells s.idx) ∧ Below wx.heap.size wx w') by
        have := keys_v 0 5000 g p k S d s wx (HH.out.below hb)
        rw [HAL.out] at this
        exact this)
      have HQ0 := Lib.hid ((Below.refl wr.heap.size wr).drew)
      have HW0 := Lib.hid HB3.out.drew
      go_upto_region 8 with fail
      refine wp_region_held_drew (S := (fun wx => (wx.cell? ⟨w.heap.size, 0, none⟩ = some (.int .i64 (s.num : Int)) ∧ wx.cell? ⟨w.heap.size, 1, none⟩ = some (.int .i64 (s.most : Int)) ∧ wx.cell? ⟨w.heap.size, 2, none⟩ = some (.int .i64 (s.epoch : Int)) ∧ wx.cell? ⟨w.heap.size, 3, none⟩ = some (.int .i64 (s.size : Int)) ∧ wx.cell? ⟨w.heap.size, 4, none⟩ = some (.bool s.shut) ∧ wx.cell? ⟨w.heap.size, 5, none⟩ = some (.slice lx I lc) ∧ wx.cell? ⟨w.heap.size, 6, none⟩ = some (.slice dx N dc)) ∧ (wx.cell? ⟨IB, 0, none⟩ = some (.int .i64 (s.num : Int)) ∧ wx.cell? ⟨IB, 1, none⟩ = some (.int .i64 (s.gen : Int)) ∧ wx.cell? ⟨IB, 2, none⟩ = some (.int .i64 (s.epoch : Int)) ∧ wx.cell? ⟨IB, 3, none⟩ = some (.int .i64 (s.size : Int)) ∧ wx.cell? ⟨IB, 4, none⟩ = some (.int .i64 ((I : Int) - (M : Int))) ∧ wx.cell? ⟨IB, 5, none⟩ = some (.int .i64 (M : Int)) ∧ wx.cell? ⟨IB, 6, none⟩ = some (.bool s.shut)))) (by kernel_rfl) (HS8.out _ HQ0.out) (fun hHeld => ?_)
      refine wpAnyH_take (i := 0) (v := ?_) rfl (by kernel_rfl) (by kernel_rfl) (by kernel_rfl) (fun _ _ _ h => h) (Or.inl ⟨by rfl, ?_⟩) (by assumption) ?_
      rotate_left 1
      · intro w hSw
        (try dsimp only at hSw)
        go_simp
        all_goals (with_reducible rfl)
      try simp only [Act.put, List.getElem_toArray, List.getElem_cons_zero, List.getElem_cons_succ, List.setIfInBounds_toArray, List.set_cons_zero, List.set_cons_succ]
      refine wpAnyH_take (i := 1) (v := ?_) rfl (by kernel_rfl) (by kernel_rfl) (by kernel_rfl) (fun _ _ _ h => h) (Or.inl ⟨by rfl, ?_⟩) (by assumption) ?_
      rotate_left 1
      · intro w hSw
        (try dsimp only at hSw)
        go_simp
        all_goals (with_reducible rfl)
      try simp only [Act.put, List.getElem_toArray, List.getElem_cons_zero, List.getElem_cons_succ, List.setIfInBounds_toArray, List.set_cons_zero, List.set_cons_succ]
      refine wpAnyH_take (i := 2) (v := ?_) rfl (by kernel_rfl) (by kernel_rfl) (by kernel_rfl) (fun _ _ _ h => h) (Or.inl ⟨by rfl, ?_⟩) (by assumption) ?_
      rotate_left 1
      · intro w hSw
        (try dsimp only at hSw)
        go_simp
        all_goals (with_reducible rfl)
      try simp only [Act.put, List.getElem_toArray, List.getElem_cons_zero, List.getElem_cons_succ, List.setIfInBounds_toArray, List.set_cons_zero, List.set_cons_succ]
      refine wpAnyH_take (i := 3) (v := ?_) rfl (by kernel_rfl) (by kernel_rfl) (by kernel_rfl) (fun _ _ _ h => h) (Or.inl ⟨by rfl, ?_⟩) (by assumption) ?_
      rotate_left 1
      · intro w hSw
        (try dsimp only at hSw)
        go_simp
        all_goals (with_reducible rfl)
      try simp only [Act.put, List.getElem_toArray, List.getElem_cons_zero, List.getElem_cons_succ, List.setIfInBounds_toArray, List.set_cons_zero, List.set_cons_succ]
      refine wpAnyH_take (i := 4) (v := ?_) rfl (by kernel_rfl) (by kernel_rfl) (by kernel_rfl) (fun _ _ _ h => h) (Or.inl ⟨by rfl, ?_⟩) (by assumption) ?_
      rotate_left 1
      · intro w hSw
        (try dsimp only at hSw)
        go_simp
        all_goals (with_reducible rfl)
      try simp only [Act.put, List.getElem_toArray, List.getElem_cons_zero, List.getElem_cons_succ, List.setIfInBounds_toArray, List.set_cons_zero, List.set_cons_succ]
      refine wpAnyH_take (i := 5) (v := ?_) rfl (by kernel_rfl) (by kernel_rfl) (by kernel_rfl) (fun _ _ _ h => h) (Or.inl ⟨by rfl, ?_⟩) (by assumption) ?_
      rotate_left 1
      · intro w hSw
        (try dsimp only at hSw)
        go_simp
        all_goals (with_reducible rfl)
      try simp only [Act.put, List.getElem_toArray, List.getElem_cons_zero, List.getElem_cons_succ, List.setIfInBounds_toArray, List.set_cons_zero, List.set_cons_succ]
      refine wpAnyH_take (i := 6) (v := ?_) rfl (by kernel_rfl) (by kernel_rfl) (by kernel_rfl) (fun _ _ _ h => h) (Or.inl ⟨by rfl, ?_⟩) (by assumption) ?_
      rotate_left 1
      · intro w hSw
        (try dsimp only at hSw)
        go_simp
        all_goals (with_reducible rfl)
      try simp only [Act.put, List.getElem_toArray, List.getElem_cons_zero, List.getElem_cons_succ, List.setIfInBounds_toArray, List.set_cons_zero, List.set_cons_succ]
      refine wpAnyH_take (i := 7) (v := ?_) rfl (by kernel_rfl) (by kernel_rfl) (by kernel_rfl) (fun _ _ _ h => h) (Or.inl ⟨by rfl, ?_⟩) (by assumption) ?_
      rotate_left 1
      · intro w hSw
        (try dsimp only at hSw)
        go_simp
        all_goals (with_reducible rfl)
      try simp only [Act.put, List.getElem_toArray, List.getElem_cons_zero, List.getElem_cons_succ, List.setIfInBounds_toArray, List.set_cons_zero, List.set_cons_succ]
      refine wpAnyH_take (i := 8) (v := ?_) rfl (by kernel_rfl) (by kernel_rfl) (by kernel_rfl) (fun _ _ _ h => h) (Or.inl ⟨by rfl, ?_⟩) (by assumption) ?_
      rotate_left 1
      · intro w hSw
        (try dsimp only at hSw)
        go_simp
        all_goals (with_reducible rfl)
      try simp only [Act.put, List.getElem_toArray, List.getElem_cons_zero, List.getElem_cons_succ, List.setIfInBounds_toArray, List.set_cons_zero, List.set_cons_succ]
      refine wpAnyH_take (i := 9) (v := ?_) rfl (by kernel_rfl) (by kernel_rfl) (by kernel_rfl) (fun _ _ _ h => h) (Or.inl ⟨by rfl, ?_⟩) (by assumption) ?_
      rotate_left 1
      · intro w hSw
        (try dsimp only at hSw)
        go_simp
        all_goals (with_reducible rfl)
      try simp only [Act.put, List.getElem_toArray, List.getElem_cons_zero, List.getElem_cons_succ, List.setIfInBounds_toArray, List.set_cons_zero, List.set_cons_succ]
      refine wpAnyH_take (i := 10) (v := ?_) rfl (by kernel_rfl) (by kernel_rfl) (by kernel_rfl) (fun _ _ _ h => h) (Or.inl ⟨by rfl, ?_⟩) (by assumption) ?_
      rotate_left 1
      · intro w hSw
        (try dsimp only at hSw)
        go_simp
        all_goals (with_reducible rfl)
      try simp only [Act.put, List.getElem_toArray, List.getElem_cons_zero, List.getElem_cons_succ, List.setIfInBounds_toArray, List.set_cons_zero, List.set_cons_succ]
      refine wpAnyH_take (i := 11) (v := ?_) rfl (by kernel_rfl) (by kernel_rfl) (by kernel_rfl) (fun _ _ _ h => h) (Or.inl ⟨by rfl, ?_⟩) (by assumption) ?_
      rotate_left 1
      · intro w hSw
        (try dsimp only at hSw)
        go_simp
        all_goals (with_reducible rfl)
      try simp only [Act.put, List.getElem_toArray, List.getElem_cons_zero, List.getElem_cons_succ, List.setIfInBounds_toArray, List.set_cons_zero, List.set_cons_succ]
      refine wpAnyH_take (i := 12) (v := ?_) rfl (by kernel_rfl) (by kernel_rfl) (by kernel_rfl) (fun _ _ _ h => h) (Or.inl ⟨by rfl, ?_⟩) (by assumption) ?_
      rotate_left 1
      · intro w hSw
        (try dsimp only at hSw)
        go_simp
        all_goals (with_reducible rfl)
      try simp only [Act.put, List.getElem_toArray, List.getElem_cons_zero, List.getElem_cons_succ, List.setIfInBounds_toArray, List.set_cons_zero, List.set_cons_succ]
      refine wpAnyH_take (i := 13) (v := ?_) rfl (by kernel_rfl) (by kernel_rfl) (by kernel_rfl) (fun _ _ _ h => h) (Or.inl ⟨by rfl, ?_⟩) (by assumption) ?_
      rotate_left 1
      · intro w hSw
        (try dsimp only at hSw)
        go_simp
        all_goals (with_reducible rfl)
      try simp only [Act.put, List.getElem_toArray, List.getElem_cons_zero, List.getElem_cons_succ, List.setIfInBounds_toArray, List.set_cons_zero, List.set_cons_succ]
      refine wpAnyH_take (i := 14) (v := ?_) rfl (by kernel_rfl) (by kernel_rfl) (by kernel_rfl) (fun _ _ _ h => h) (Or.inl ⟨by rfl, ?_⟩) (by assumption) ?_
      rotate_left 1
      · intro w hSw
        (try dsimp only at hSw)
        go_simp
        all_goals (with_reducible rfl)
      try simp only [Act.put, List.getElem_toArray, List.getElem_cons_zero, List.getElem_cons_succ, List.setIfInBounds_toArray, List.set_cons_zero, List.set_cons_succ]
      refine wpAnyH_take (i := 15) (v := ?_) rfl (by kernel_rfl) (by kernel_rfl) (by kernel_rfl) (fun _ _ _ h => h) (Or.inl ⟨by rfl, ?_⟩) (by assumption) ?_
      rotate_left 1
      · intro w hSw
        (try dsimp only at hSw)
        go_simp
        all_goals (with_reducible rfl)
      try simp only [Act.put, List.getElem_toArray, List.getElem_cons_zero, List.getElem_cons_succ, List.setIfInBounds_toArray, List.set_cons_zero, List.set_cons_succ]
      refine wpAnyH_take (i := 16) (v := ?_) rfl (by kernel_rfl) (by kernel_rfl) (by kernel_rfl) (fun _ _ _ h => h) (Or.inl ⟨by rfl, ?_⟩) (by assumption) ?_
      rotate_left 1
      · intro w hSw
        (try dsimp only at hSw)
        go_simp
        all_goals (with_reducible rfl)
      try simp only [Act.put, List.getElem_toArray, List.getElem_cons_zero, List.getElem_cons_succ, List.setIfInBounds_toArray, List.set_cons_zero, List.set_cons_succ]
      refine wpAnyH_take (i := 17) (v := ?_) rfl (by kernel_rfl) (by kernel_rfl) (by kernel_rfl) (fun _ _ _ h => h) (Or.inl ⟨by rfl, ?_⟩) (by assumption) ?_
      rotate_left 1
      · intro w hSw
        (try dsimp only at hSw)
        go_simp
        all_goals (with_reducible rfl)
      try simp only [Act.put, List.getElem_toArray, List.getElem_cons_zero, List.getElem_cons_succ, List.setIfInBounds_toArray, List.set_cons_zero, List.set_cons_succ]
      refine wpAnyH_take (i := 18) (v := ?_) rfl (by kernel_rfl) (by kernel_rfl) (by kernel_rfl) (fun _ _ _ h => h) (Or.inl ⟨by rfl, ?_⟩) (by assumption) ?_
      rotate_left 1
      · intro w hSw
        (try dsimp only at hSw)
        go_simp
        all_goals (with_reducible rfl)
      try simp only [Act.put, List.getElem_toArray, List.getElem_cons_zero, List.getElem_cons_succ, List.setIfInBounds_toArray, List.set_cons_zero, List.set_cons_succ]
      refine wpAnyH_take (i := 19) (v := ?_) rfl (by kernel_rfl) (by kernel_rfl) (by kernel_rfl) (fun _ _ _ h => h) (Or.inl ⟨by rfl, ?_⟩) (by assumption) ?_
      rotate_left 1
      · intro w hSw
        (try dsimp only at hSw)
        go_simp
        all_goals (with_reducible rfl)
      try simp only [Act.put, List.getElem_toArray, List.getElem_cons_zero, List.getElem_cons_succ, List.setIfInBounds_toArray, List.set_cons_zero, List.set_cons_succ]
      refine wpAnyH_take (i := 20) (v := ?_) rfl (by kernel_rfl) (by kernel_rfl) (by kernel_rfl) (fun _ _ _ h => h) (Or.inl ⟨by rfl, ?_⟩) (by assumption) ?_
      rotate_left 1
      · intro w hSw
        (try dsimp only at hSw)
        go_simp
        all_goals (with_reducible rfl)
      try simp only [Act.put, List.getElem_toArray, List.getElem_cons_zero, List.getElem_cons_succ, List.setIfInBounds_toArray, List.set_cons_zero, List.set_cons_succ]
      refine wpAnyH_take (i := 21) (v := ?_) rfl (by kernel_rfl) (by kernel_rfl) (by kernel_rfl) (fun _ _ _ h => h) (Or.inl ⟨by rfl, ?_⟩) (by assumption) ?_
      rotate_left 1
      · intro w hSw
        (try dsimp only at hSw)
        go_simp
        all_goals (with_reducible rfl)
      try simp only [Act.put, List.getElem_toArray, List.getElem_cons_zero, List.getElem_cons_succ, List.setIfInBounds_toArray, List.set_cons_zero, List.set_cons_succ]
      refine wpAnyH_take (i := 22) (v := ?_) rfl (by kernel_rfl) (by kernel_rfl) (by kernel_rfl) (fun _ _ _ h => h) (Or.inl ⟨by rfl, ?_⟩) (by assumption) ?_
      rotate_left 1
      · intro w hSw
        (try dsimp only at hSw)
        go_simp
        all_goals (with_reducible rfl)
      try simp only [Act.put, List.getElem_toArray, List.getElem_cons_zero, List.getElem_cons_succ, List.setIfInBounds_toArray, List.set_cons_zero, List.set_cons_succ]
      refine wpAnyH_take (i := 23) (v := ?_) rfl (by kernel_rfl) (by kernel_rfl) (by kernel_rfl) (fun _ _ _ h => h) (Or.inl ⟨by rfl, ?_⟩) (by assumption) ?_
      rotate_left 1
      · intro w hSw
        (try dsimp only at hSw)
        go_simp
        all_goals (with_reducible rfl)
      try simp only [Act.put, List.getElem_toArray, List.getElem_cons_zero, List.getElem_cons_succ, List.setIfInBounds_toArray, List.set_cons_zero, List.set_cons_succ]
      refine wpAnyH_take (i := 24) (v := ?_) rfl (by kernel_rfl) (by kernel_rfl) (by kernel_rfl) (fun _ _ _ h => h) (Or.inl ⟨by rfl, ?_⟩) (by assumption) ?_
      rotate_left 1
      · intro w hSw
        (try dsimp only at hSw)
        go_simp
        all_goals (with_reducible rfl)
      try simp only [Act.put, List.getElem_toArray, List.getElem_cons_zero, List.getElem_cons_succ, List.setIfInBounds_toArray, List.set_cons_zero, List.set_cons_succ]
      refine wpAnyH_take (i := 25) (v := ?_) rfl (by kernel_rfl) (by kernel_rfl) (by kernel_rfl) (fun _ _ _ h => h) (Or.inl ⟨by rfl, ?_⟩) (by assumption) ?_
      rotate_left 1
      · intro w hSw
        (try dsimp only at hSw)
        go_simp
        all_goals (with_reducible rfl)
      try simp only [Act.put, List.getElem_toArray, List.getElem_cons_zero, List.getElem_cons_succ, List.setIfInBounds_toArray, List.set_cons_zero, List.set_cons_succ]
      refine wpAnyH_take (i := 26) (v := ?_) rfl (by kernel_rfl) (by kernel_rfl) (by kernel_rfl) (fun _ _ _ h => h) (Or.inl ⟨by rfl, ?_⟩) (by assumption) ?_
      rotate_left 1
      · intro w hSw
        (try dsimp only at hSw)
        go_simp
        all_goals (with_reducible rfl)
      try simp only [Act.put, List.getElem_toArray, List.getElem_cons_zero, List.getElem_cons_succ, List.setIfInBounds_toArray, List.set_cons_zero, List.set_cons_succ]
      refine wpAnyH_take (i := 27) (v := ?_) rfl (by kernel_rfl) (by kernel_rfl) (by kernel_rfl) (fun _ _ _ h => h) (Or.inl ⟨by rfl, ?_⟩) (by assumption) ?_
      rotate_left 1
      · intro w hSw
        (try dsimp only at hSw)
        go_simp
        all_goals (with_reducible rfl)
      try simp only [Act.put, List.getElem_toArray, List.getElem_cons_zero, List.getElem_cons_succ, List.setIfInBounds_toArray, List.set_cons_zero, List.set_cons_succ]
      refine wpAnyH_take (i := 28) (v := ?_) rfl (by kernel_rfl) (by kernel_rfl) (by kernel_rfl) (fun _ _ _ h => h) (Or.inl ⟨by rfl, ?_⟩) (by assumption) ?_
      rotate_left 1
      · intro w hSw
        (try dsimp only at hSw)
        go_simp
        all_goals (with_reducible rfl)
      try simp only [Act.put, List.getElem_toArray, List.getElem_cons_zero, List.getElem_cons_succ, List.setIfInBounds_toArray, List.set_cons_zero, List.set_cons_succ]
      refine wpAnyH_take (i := 29) (v := ?_) rfl (by kernel_rfl) (by kernel_rfl) (by kernel_rfl) (fun _ _ _ h => h) (Or.inl ⟨by rfl, ?_⟩) (by assumption) ?_
      rotate_left 1
      · intro w hSw
        (try dsimp only at hSw)
        go_simp
        all_goals (with_reducible rfl)
      try simp only [Act.put, List.getElem_toArray, List.getElem_cons_zero, List.getElem_cons_succ, List.setIfInBounds_toArray, List.set_cons_zero, List.set_cons_succ]
      refine wpAnyH_take (i := 30) (v := ?_) rfl (by kernel_rfl) (by kernel_rfl) (by kernel_rfl) (fun _ _ _ h => h) (Or.inl ⟨by rfl, ?_⟩) (by assumption) ?_
      rotate_left 1
      · intro w hSw
        (try dsimp only at hSw)
        go_simp
        all_goals (with_reducible rfl)
      try simp only [Act.put, List.getElem_toArray, List.getElem_cons_zero, List.getElem_cons_succ, List.setIfInBounds_toArray, List.set_cons_zero, List.set_cons_succ]
      refine wpAnyH_take (i := 31) (v := ?_) rfl (by kernel_rfl) (by kernel_rfl) (by kernel_rfl) (fun _ _ _ h => h) (Or.inl ⟨by rfl, ?_⟩) (by assumption) ?_
      rotate_left 1
      · intro w hSw
        (try dsimp only at hSw)
        go_simp
        all_goals (with_reducible rfl)
      try simp only [Act.put, List.getElem_toArray, List.getElem_cons_zero, List.getElem_cons_succ, List.setIfInBounds_toArray, List.set_cons_zero, List.set_cons_succ]
      refine wpAnyH_take (i := 32) (v := ?_) rfl (by kernel_rfl) (by kernel_rfl) (by kernel_rfl) (fun _ _ _ h => h) (Or.inl ⟨by rfl, ?_⟩) (by assumption) ?_
      rotate_left 1
      · intro w hSw
        (try dsimp only at hSw)
        go_simp
        all_goals (with_reducible rfl)
      try simp only [Act.put, List.getElem_toArray, List.getElem_cons_zero, List.getElem_cons_succ, List.setIfInBounds_toArray, List.set_cons_zero, List.set_cons_succ]
      refine wpAnyH_take (i := 33) (v := ?_) rfl (by kernel_rfl) (by kernel_rfl) (by kernel_rfl) (fun _ _ _ h => h) (Or.inl ⟨by rfl, ?_⟩) (by assumption) ?_
      rotate_left 1
      · intro w hSw
        (try dsimp only at hSw)
        go_simp
        all_goals (with_reducible rfl)
      try simp only [Act.put, List.getElem_toArray, List.getElem_cons_zero, List.getElem_cons_succ, List.setIfInBounds_toArray, List.set_cons_zero, List.set_cons_succ]
      refine wpAnyH_take (i := 34) (v := ?_) rfl (by kernel_rfl) (by kernel_rfl) (by kernel_rfl) (fun _ _ _ h => h) (Or.inl ⟨by rfl, ?_⟩) (by assumption) ?_
      rotate_left 1
      · intro w hSw
        (try dsimp only at hSw)
        go_simp
        all_goals (with_reducible rfl)
      try simp only [Act.put, List.getElem_toArray, List.getElem_cons_zero, List.getElem_cons_succ, List.setIfInBounds_toArray, List.set_cons_zero, List.set_cons_succ]
      refine wpAnyH_take (i := 35) (v := ?_) rfl (by kernel_rfl) (by kernel_rfl) (by kernel_rfl) (fun _ _ _ h => h) (Or.inl ⟨by rfl, ?_⟩) (by assumption) ?_
      rotate_left 1
      · intro w hSw
        (try dsimp only at hSw)
        go_simp
        all_goals (with_reducible rfl)
      try simp only [Act.put, List.getElem_toArray, List.getElem_cons_zero, List.getElem_cons_succ, List.setIfInBounds_toArray, List.set_cons_zero, List.set_cons_succ]
      refine wpAnyH_take (i := 36) (v := ?_) rfl (by kernel_rfl) (by kernel_rfl) (by kernel_rfl) (fun _ _ _ h => h) (Or.inl ⟨by rfl, ?_⟩) (by assumption) ?_
      rotate_left 1
      · intro w hSw
        (try dsimp only at hSw)
        go_simp
        all_goals (with_reducible rfl)
      try simp only [Act.put, List.getElem_toArray, List.getElem_cons_zero, List.getElem_cons_succ, List.setIfInBounds_toArray, List.set_cons_zero, List.set_cons_succ]
      refine wpAnyH_take (i := 37) (v := ?_) rfl (by kernel_rfl) (by kernel_rfl) (by kernel_rfl) (fun _ _ _ h => h) (Or.inl ⟨by rfl, ?_⟩) (by assumption) ?_
      rotate_left 1
      · intro w hSw
        (try dsimp only at hSw)
        go_simp
        all_goals (with_reducible rfl)
      try simp only [Act.put, List.getElem_toArray, List.getElem_cons_zero, List.getElem_cons_succ, List.setIfInBounds_toArray, List.set_cons_zero, List.set_cons_succ]
      refine wpAnyH_take (i := 38) (v := ?_) rfl (by kernel_rfl) (by kernel_rfl) (by kernel_rfl) (fun _ _ _ h => h) (Or.inl ⟨by rfl, ?_⟩) (by assumption) ?_
      rotate_left 1
      · intro w hSw
        (try dsimp only at hSw)
        go_simp
        all_goals (with_reducible rfl)
      try simp only [Act.put, List.getElem_toArray, List.getElem_cons_zero, List.getElem_cons_succ, List.setIfInBounds_toArray, List.set_cons_zero, List.set_cons_succ]
      refine wpAnyH_take (i := 39) (v := ?_) rfl (by kernel_rfl) (by kernel_rfl) (by kernel_rfl) (fun _ _ _ h => h) (Or.inl ⟨by rfl, ?_⟩) (by assumption) ?_
      rotate_left 1
      · intro w hSw
        (try dsimp only at hSw)
        go_simp
        all_goals (with_reducible rfl)
      try simp only [Act.put, List.getElem_toArray, List.getElem_cons_zero, List.getElem_cons_succ, List.setIfInBounds_toArray, List.set_cons_zero, List.set_cons_succ]
      refine wpAnyH_take (i := 40) (v := ?_) rfl (by kernel_rfl) (by kernel_rfl) (by kernel_rfl) (fun _ _ _ h => h) (Or.inl ⟨by rfl, ?_⟩) (by assumption) ?_
      rotate_left 1
      · intro w hSw
        (try dsimp only at hSw)
        go_simp
        all_goals (with_reducible rfl)
      try simp only [Act.put, List.getElem_toArray, List.getElem_cons_zero, List.getElem_cons_succ, List.setIfInBounds_toArray, List.set_cons_zero, List.set_cons_succ]
      refine wpAnyH_take (i := 41) (v := ?_) rfl (by kernel_rfl) (by kernel_rfl) (by kernel_rfl) (fun _ _ _ h => h) (Or.inl ⟨by rfl, ?_⟩) (by assumption) ?_
      rotate_left 1
      · intro w hSw
        (try dsimp only at hSw)
        go_simp
        all_goals (with_reducible rfl)
      try simp only [Act.put, List.getElem_toArray, List.getElem_cons_zero, List.getElem_cons_succ, List.setIfInBounds_toArray, List.set_cons_zero, List.set_cons_succ]
      refine wpAnyH_take (i := 42) (v := ?_) rfl (by kernel_rfl) (by kernel_rfl) (by kernel_rfl) (fun _ _ _ h => h) (Or.inl ⟨by rfl, ?_⟩) (by assumption) ?_
      rotate_left 1
      · intro w hSw
        (try dsimp only at hSw)
        go_simp
        all_goals (with_reducible rfl)
      try simp only [Act.put, List.getElem_toArray, List.getElem_cons_zero, List.getElem_cons_succ, List.setIfInBounds_toArray, List.set_cons_zero, List.set_cons_succ]
      refine wpAnyH_take (i := 43) (v := ?_) rfl (by kernel_rfl) (by kernel_rfl) (by kernel_rfl) (fun _ _ _ h => h) (Or.inl ⟨by rfl, ?_⟩) (by assumption) ?_
      rotate_left 1
      · intro w hSw
        (try dsimp only at hSw)
        go_simp
        all_goals (with_reducible rfl)
      try simp only [Act.put, List.getElem_toArray, List.getElem_cons_zero, List.getElem_cons_succ, List.setIfInBounds_toArray, List.set_cons_zero, List.set_cons_succ]
      refine wpAnyH_take (i := 46) (v := ?_) rfl (by kernel_rfl) (by kernel_rfl) (by kernel_rfl) (fun _ _ _ h => h) (Or.inl ⟨by rfl, ?_⟩) (by assumption) ?_
      rotate_left 1
      · intro w hSw
        (try dsimp only at hSw)
        go_simp
        all_goals (with_reducible rfl)
      try simp only [Act.put, List.getElem_toArray, List.getElem_cons_zero, List.getElem_cons_succ, List.setIfInBounds_toArray, List.set_cons_zero, List.set_cons_succ]
      refine wpAnyH_take (i := 47) (v := ?_) rfl (by kernel_rfl) (by kernel_rfl) (by kernel_rfl) (fun _ _ _ h => h) (Or.inl ⟨by rfl, ?_⟩) (by assumption) ?_
      rotate_left 1
      · intro w hSw
        (try dsimp only at hSw)
        go_simp
        all_goals (with_reducible rfl)
      try simp only [Act.put, List.getElem_toArray, List.getElem_cons_zero, List.getElem_cons_succ, List.setIfInBounds_toArray, List.set_cons_zero, List.set_cons_succ]
      refine wpAnyH_ready (rs := [44]) (by kernel_rfl) (by simp) ?_
      refine AllReadyH.cons rfl (fun K hK => ?_) AllReadyH.nil
      go_simp
      refine (HKY.out _ HW0.out).mono ?_
      rintro e q1 ⟨kv, rfl, hown, hb⟩
      have HQ1 := Lib.hid (HQ0.out.trans (hb.mono HQ0.out.size))
      have HW1 := Lib.hid (HW0.out.trans (hb.mono HW0.out.size))
      have HP1 := Lib.hid (show Q.IsP q1 kv s.idx from Q.IsP.own hown rfl)
      clear hown hb
      refine hK.out _ _ (HS8.out _ HQ1.out) (fun hHeld => ?_)
      clear hK K
      try simp only [Act.put, List.getElem_toArray, List.getElem_cons_zero, List.getElem_cons_succ, List.setIfInBounds_toArray, List.set_cons_zero, List.set_cons_succ]
      refine wpAnyH_ready (rs := [45]) (by kernel_rfl) (by simp) ?_
      refine AllReadyH.cons rfl (fun K hK => ?_) AllReadyH.nil
      go_simp
      refine (Q.to5_any kv s.idx _ HP1.out (by rw [HI.out]; omega)).mono ?_
      rintro e q2 ⟨kw, rfl, hown, hb⟩
      have HQ2 := Lib.hid (HQ1.out.trans (hb.mono HQ1.out.size))
      have HW2 := Lib.hid (HW1.out.trans (hb.mono HW1.out.size))
      have HP2 := Lib.hid (show Q.IsP q2 kw s.idx from Q.IsP.own hown rfl)
      clear hown hb
      refine hK.out _ _ (HS8.out _ HQ2.out) (fun hHeld => ?_)
      clear hK K
      try simp only [Act.put, List.getElem_toArray, List.getElem_cons_zero, List.getElem_cons_succ, List.setIfInBounds_toArray, List.set_cons_zero, List.set_cons_succ]
      refine wpAnyH_ready (rs := [48]) (by kernel_rfl) (by simp) ?_
      refine AllReadyH.cons rfl (fun K hK => ?_) AllReadyH.nil
      go_simp
      refine (Q.same5_yes kw _ s.idx _ HP2.out (HD.out.l.mono HW2.out (Nat.le_refl _)) (by rw [HI.out]; omega)).mono ?_
      rintro e q3 ⟨rfl, n, rfl⟩
      have HQ3 := Lib.hid (below_drawn9 HQ2.out n)
      have HW3 := Lib.hid (below_drawn9 HW2.out n)
      refine hK.out _ _ (HS8.out _ HQ3.out) (fun hHeld => ?_)
      clear hK K
      try simp only [Act.put, List.getElem_toArray, List.getElem_cons_zero, List.getElem_cons_succ, List.setIfInBounds_toArray, List.set_cons_zero, List.set_cons_succ]
      refine wpAnyH_take (i := 49) (v := ?_) rfl (by kernel_rfl) (by kernel_rfl) (by kernel_rfl) (fun _ _ _ h => h) (Or.inl ⟨by rfl, ?_⟩) (by assumption) ?_
      rotate_left 1
      · intro w hSw
        (try dsimp only at hSw)
        go_simp
        all_goals (with_reducible rfl)
      try simp only [Act.put, List.getElem_toArray, List.getElem_cons_zero, List.getElem_cons_succ, List.setIfInBounds_toArray, List.set_cons_zero, List.set_cons_succ]
      refine wpAnyH_take (i := 50) (v := ?_) rfl (by kernel_rfl) (by kernel_rfl) (by kernel_rfl) (fun _ _ _ h => h) (Or.inl ⟨by rfl, ?_⟩) (by assumption) ?_
      rotate_left 1
      · intro w hSw
        (try dsimp only at hSw)
        go_simp
        all_goals (with_reducible rfl)
      try simp only [Act.put, List.getElem_toArray, List.getElem_cons_zero, List.getElem_cons_succ, List.setIfInBounds_toArray, List.set_cons_zero, List.set_cons_succ]
      refine wpAnyH_done (by kernel_rfl) ?_ _
      go_wp2
      go_ret
      exact ⟨rfl, HW3.out⟩

end Go.Proofs.YtdchcepgbbdmhaaGreatDoor
end

section
namespace Go.Proofs.YtdchcepgbbdmhaaGreatDoor
open Go.RowKit Go.Cor

/-- A writer: where it lies (q), its disk, its volume, what it does next, and the checkpoint. -/
abbrev wcells (p g : Nat) (nx : Int) (vn gn up : Int) (lv : Value) : Array Value := #[.pointer (some ⟨p, 0, none⟩), .pointer (some ⟨g, 0, none⟩), .int .i64 nx, .int .i64 vn, .int .i64 gn, .int .i64 up, lv]
theorem cknew_nod (g : Value) (w : World) :
    Calls Tryz.prog 8 #[.pointer none, g] w fun e w' => e = .returned (.tuple #[.pointer none, ercode 15]) ∧ w = w' := by
  go_enter Tryz.func8, Tryz.ntmps8
  go_wp2
  exact bodyPost_ret (v := .tuple #[.pointer none, ercode 15]) (by simp [results, Tryz.results8, go_sem]) rfl ⟨rfl, rfl⟩
theorem cknew_nov (p : Nat) (w : World) :
    Calls Tryz.prog 8 #[.pointer (some ⟨p, 0, none⟩), .pointer none] w fun e w' => e = .returned (.tuple #[.pointer none, ercode 15]) ∧ w = w' := by
  go_enter Tryz.func8, Tryz.ntmps8
  go_wp2
  exact bodyPost_ret (v := .tuple #[.pointer none, ercode 15]) (by simp [results, Tryz.results8, go_sem]) rfl ⟨rfl, rfl⟩
theorem cknew_ok (p g : Nat) (w : World) :
    Calls Tryz.prog 8 #[.pointer (some ⟨p, 0, none⟩), .pointer (some ⟨g, 0, none⟩)] w fun e w' => e = .returned (.tuple #[.pointer (some ⟨w.heap.size, 0, none⟩), .nilIface]) ∧ Blk w' w.heap.size (wcells p g 0 0 0 0 (.slice none 0 0)) 69 ∧ Below w.heap.size w w' := by
  go_enter Tryz.func8, Tryz.ntmps8
  go_wp2
  exact bodyPost_ret (v := .tuple #[.pointer (some ⟨w.heap.size, 0, none⟩), .nilIface]) (by simp [results, Tryz.results8, go_sem]) rfl ⟨rfl, Blk.new w _ _, below_alloc w _⟩
theorem step_nil (w : World) :
    Calls Tryz.prog 7 #[.pointer none] w fun e w' => e = .returned (.tuple #[.bool false, ercode 15]) ∧ w = w' := by
  go_enter Tryz.func7, Tryz.ntmps7
  go_wp2
  exact bodyPost_ret (v := .tuple #[.bool false, ercode 15]) (by simp [results, Tryz.results7, go_sem]) rfl ⟨rfl, rfl⟩
theorem upto_nil (w : World) :
    Calls Tryz.prog 10 #[.pointer none] w fun e w' => e = .returned (.int .i64 0) ∧ w = w' := by
  go_enter Tryz.func10, Tryz.ntmps10
  go_wp2
  go_ret
  exact ⟨rfl, rfl⟩
/-- Step of a writer that is over. -/
theorem step_over (q p g : Nat) (vn gn up : Int) (lv : Value) (w : World) (h : Blk w q (wcells p g 6 vn gn up lv) 69) :
    Calls Tryz.prog 7 #[.pointer (some ⟨q, 0, none⟩)] w fun e w' => e = .returned (.tuple #[.bool false, ercode 16]) ∧ w = w' := by
  have c2 := h.cell 2 rfl
  clear h
  go_enter Tryz.func7, Tryz.ntmps7
  go_wp2
  exact bodyPost_ret (v := .tuple #[.bool false, ercode 16]) (by simp [results, Tryz.results7, go_sem]) rfl ⟨rfl, rfl⟩
/-- The names of a writer's files. -/
theorem ckfile (q p g vn : Nat) (gen : Nat) (nx gn up : Int) (lv : Value) (w : World) (h : Blk w q (wcells p g nx (vn : Int) gn up lv) 69) (hv : vn < 10) (hg : gen < 10) :
    Calls Tryz.prog 52 #[.pointer (some ⟨q, 0, none⟩), .int .i64 (gen : Int)] w fun e w' => e = .returned (.string (nmC vn gen)) ∧ w = w' := by
  have c3 := h.cell 3 rfl
  clear h
  go_enter Tryz.func52, Tryz.ntmps52
  go_wp2_with fail
  refine (names_h vn gen _ hv hg).mono ?_
  rintro e w' ⟨rfl, rfl⟩
  go_wp2
  go_ret
  exact ⟨rfl, rfl⟩
theorem ckfile0 (q p g vn : Nat) (nx gn up : Int) (lv : Value) (w : World) (h : Blk w q (wcells p g nx (vn : Int) gn up lv) 69) (hv : vn < 10) :
    Calls Tryz.prog 52 #[.pointer (some ⟨q, 0, none⟩), .int .i64 0] w fun e w' => e = .returned (.string (nmC vn 0)) ∧ w = w' :=
  ckfile q p g vn 0 nx gn up lv w h hv (by decide)

end Go.Proofs.YtdchcepgbbdmhaaGreatDoor
end

section
namespace Go.Proofs.YtdchcepgbbdmhaaGreatDoor
open Go.RowKit Go.Cor

set_option maxRecDepth 100000 in
set_option maxHeartbeats 1000000 in
theorem ckunname (q p g vn k : Nat) (nx gn up : Int) (lv : Value) (S : Nat → Prop) (d : Dsk) (w : World) (h : Blk w q (wcells p g nx (vn : Int) gn up lv) 69) (hv : vn < 10) (hd : Dk w p S d k) (hf : Fs d k) (hk : k + 2 ≤ 90000) (hq : ¬ S q) (hn : view d (nmC vn 0) = none) :
    Calls Tryz.prog 50 #[.pointer (some ⟨q, 0, none⟩)] w fun e w' => e = .returned .nilIface ∧ Dt w w' p S d (k + 2) := by
  have HR := Lib.hid (fun wx (hx : Dk wx p S d k) => (show Calls Tryz.prog 85 #[.pointer (some ⟨p, 0, none⟩), .string (nmC vn 0)] wx (fun e w' => e = .returned (ercode 6) ∧ Dt wx w' p S d (k + 2)) by
    have h1 := remove_u wx p S d k (nmC vn 0) hx hk (by show 4 ≤ _; decide)
    rw [hf.remove_none hn] at h1
    exact h1))
  have HB := Lib.hid (h.below (Below.refl w.heap.size w).drew h.lt)
  have HD := Lib.hid (hd.below (Below.refl w.heap.size w).drew (Nat.le_refl _))
  clear h hd hf hn
  go_enter Tryz.func50, Tryz.ntmps50
  go_upto_region 1 with fail
  refine wp_region_held_drew (S := (fun wx => wx.cell? ⟨q, 0, none⟩ = some (.pointer (some ⟨p, 0, none⟩)))) (by kernel_rfl) (HB.out.cell 0 rfl) (fun hHeld => ?_)
  refine wpAnyH_take (i := 0) (v := ?_) rfl (by kernel_rfl) (by kernel_rfl) (by kernel_rfl) (fun _ _ _ h => h) (Or.inl ⟨by rfl, ?_⟩) (by assumption) ?_
  rotate_left 1
  · intro w hSw
    (try dsimp only at hSw)
    go_simp
    all_goals (with_reducible rfl)
  try simp only [Act.put, List.getElem_toArray, List.getElem_cons_zero, List.getElem_cons_succ, List.setIfInBounds_toArray, List.set_cons_zero, List.set_cons_succ]
  refine wpAnyH_take (i := 1) (v := ?_) rfl (by kernel_rfl) (by kernel_rfl) (by kernel_rfl) (fun _ _ _ h => h) (Or.inl ⟨by rfl, ?_⟩) (by assumption) ?_
  rotate_left 1
  · intro w hSw
    (try dsimp only at hSw)
    go_simp
    all_goals (with_reducible rfl)
  try simp only [Act.put, List.getElem_toArray, List.getElem_cons_zero, List.getElem_cons_succ, List.setIfInBounds_toArray, List.set_cons_zero, List.set_cons_succ]
  refine wpAnyH_take (i := 2) (v := ?_) rfl (by kernel_rfl) (by kernel_rfl) (by kernel_rfl) (fun _ _ _ h => h) (Or.inl ⟨by rfl, ?_⟩) (by assumption) ?_
  rotate_left 1
  · intro w hSw
    (try dsimp only at hSw)
    go_simp
    all_goals (with_reducible rfl)
  try simp only [Act.put, List.getElem_toArray, List.getElem_cons_zero, List.getElem_cons_succ, List.setIfInBounds_toArray, List.set_cons_zero, List.set_cons_succ]
  refine wpAnyH_take (i := 3) (v := ?_) rfl (by kernel_rfl) (by kernel_rfl) (by kernel_rfl) (fun _ _ _ h => h) (Or.inl ⟨by rfl, ?_⟩) (by assumption) ?_
  rotate_left 1
  · intro w hSw
    (try dsimp only at hSw)
    go_simp
    all_goals (with_reducible rfl)
  try simp only [Act.put, List.getElem_toArray, List.getElem_cons_zero, List.getElem_cons_succ, List.setIfInBounds_toArray, List.set_cons_zero, List.set_cons_succ]
  refine wpAnyH_take (i := 4) (v := ?_) rfl (by kernel_rfl) (by kernel_rfl) (by kernel_rfl) (fun _ _ _ h => h) (Or.inl ⟨by rfl, ?_⟩) (by assumption) ?_
  rotate_left 1
  · intro w hSw
    (try dsimp only at hSw)
    go_simp
    all_goals (with_reducible rfl)
  try simp only [Act.put, List.getElem_toArray, List.getElem_cons_zero, List.getElem_cons_succ, List.setIfInBounds_toArray, List.set_cons_zero, List.set_cons_succ]
  refine wpAnyH_ready (rs := [5]) (by kernel_rfl) (by simp) ?_
  refine AllReadyH.cons rfl (fun K hK => ?_) AllReadyH.nil
  go_simp
  refine (ckfile0 q p g vn nx gn up lv _ HB.out hv).mono ?_
  rintro e w1 ⟨rfl, rfl⟩
  refine hK.out _ _ (HB.out.cell 0 rfl) (fun hHeld => ?_)
  clear hK K
  try simp only [Act.put, List.getElem_toArray, List.getElem_cons_zero, List.getElem_cons_succ, List.setIfInBounds_toArray, List.set_cons_zero, List.set_cons_succ]
  refine wpAnyH_ready (rs := [6]) (by kernel_rfl) (by simp) ?_
  refine AllReadyH.cons rfl (fun K hK => ?_) AllReadyH.nil
  go_simp
  refine (HR.out _ HD.out).mono ?_
  rintro e w2 ⟨rfl, ht⟩
  have HT := Lib.hid ht
  clear ht
  refine hK.out _ _ (by obtain ⟨S2, h1, h2, h3⟩ := HT.out; exact (HB.out.kept h2 hq).cell 0 rfl) (fun hHeld => ?_)
  clear hK K
  try simp only [Act.put, List.getElem_toArray, List.getElem_cons_zero, List.getElem_cons_succ, List.setIfInBounds_toArray, List.set_cons_zero, List.set_cons_succ]
  refine wpAnyH_take (i := 7) (v := ?_) rfl (by kernel_rfl) (by kernel_rfl) (by kernel_rfl) (fun _ _ _ h => h) (Or.inl ⟨by rfl, ?_⟩) (by assumption) ?_
  rotate_left 1
  · intro w hSw
    (try dsimp only at hSw)
    go_simp
    all_goals (with_reducible rfl)
  try simp only [Act.put, List.getElem_toArray, List.getElem_cons_zero, List.getElem_cons_succ, List.setIfInBounds_toArray, List.set_cons_zero, List.set_cons_succ]
  refine wpAnyH_done (by kernel_rfl) ?_ _
  go_wp2_with fail
  refine (is_same 6 _).mono ?_
  rintro e w3 ⟨rfl, rfl⟩
  go_wp2
  go_ret
  refine ⟨rfl, ?_⟩
  obtain ⟨S2, h1, h2, h3⟩ := HT.out
  exact ⟨S2, h1, (Kept.of_below (S := S) (Below.refl w.heap.size w).drew (Nat.le_refl _)).trans h2 (fun _ h _ => h), h3⟩

theorem row_set4 {w : World} {base g : Nat} {e : TypeId} {size : Nat} {v : Value} {n : Nat} {xs : List Value} (h : w.ownsRow base e size v n xs) (hg : g < base) (u0 u1 u2 u3 : Value) : (set4 w g u0 u1 u2 u3).ownsRow base e size v n xs := by
  unfold set4
  exact ownsRow_setCell_below (ownsRow_setCell_below (ownsRow_setCell_below (ownsRow_setCell_below h hg _) hg _) hg _) hg _
set_option maxRecDepth 100000 in
set_option maxHeartbeats 1000000 in
theorem snap_v (g p k : Nat) (S : Nat → Prop) (d : Dsk) (s : Vst) (w : World) (h : Vready w g p S d k s) :
    Calls Tryz.prog 51 #[.pointer (some ⟨g, 0, none⟩)] w fun e w' => ∃ (x : Option Addr) (L c : Nat), L = s.idx.length ∧ e = .returned (.agg #[.int .i64 (s.num : Int), .int .i64 (s.gen : Int), .int .i64 (s.size : Int), .slice x L c]) ∧ w'.ownsRow (w.heap.size + 1) 141 5 (.slice x L c) L (row Q.pcells s.idx) ∧ Below w.heap.size w w' := by
  have hal := below_alloc w (.cells #[.int .i64 0, .int .i64 0, .int .i64 0, .slice none 0 0] 67)
  obtain ⟨x, xv, hbox, hix⟩ := (h.below hal).box
  have hl : s.idx.length ≤ 1048576 := by have := s.idx_len; have := h.ok.few; omega
  have HZ := Lib.hid ((Blk.new w #[.int .i64 0, .int .i64 0, .int .i64 0, .slice none 0 0] 67).drew)
  have HV := Lib.hid hbox.drew
  have HX := Lib.hid (hix.below (Below.refl _ _).drew (Nat.le_refl _))
  have HB := Lib.hid hal.drew
  obtain ⟨c0, c1, c2, c3, c4, c5, c6, c7, cf⟩ := vbox_facts HV.out
  obtain ⟨I, hI⟩ : ∃ I, s.idx.length = I := ⟨_, rfl⟩
  have HI := Lib.hid hI
  clear h hal hbox hix hI
  go_enter Tryz.func51, Tryz.ntmps51
  go_upto_region 3 with fail
  refine AnyE.start (S := (fun wx => wx.cell? ⟨g, 1, none⟩ = some (.int .i64 (s.num : Int)) ∧ wx.cell? ⟨g, 2, none⟩ = some (.int .i64 (s.gen : Int)) ∧ wx.cell? ⟨g, 6, none⟩ = some (.int .i64 (s.size : Int)) ∧ wx.cell? ⟨g, 7, none⟩ = some (.pointer (some ⟨x, 0, none⟩)))) 20 (by kernel_rfl) (⟨c1, c2, c6, c7⟩) (fun hHeld => ?_)
  obtain ⟨w1, hw1⟩ : ∃ w1, (w.alloc (.cells #[.int .i64 0, .int .i64 0, .int .i64 0, .slice none 0 0] 67)).drew = w1 := ⟨_, rfl⟩
  rw [hw1] at HZ HV HX HB hHeld
  rw [hw1]
  have hs1 : w.heap.size + 1 = w1.heap.size := by rw [← hw1]; simp
  clear hw1 c0 c1 c2 c3 c4 c5 c6 c7 cf
  refine AnyE.take (i := 0) (v := ?_) rfl (by kernel_rfl) (by kernel_rfl) (by kernel_rfl) (by kernel_rfl) (fun _ _ _ h => h) (Or.inl ⟨by rfl, ?_⟩) (by assumption) ?_
  rotate_left 1
  · intro w hSw
    (try dsimp only at hSw)
    go_simp
    all_goals (with_reducible rfl)
  try simp only [Act.put, List.getElem_toArray, List.getElem_cons_zero, List.getElem_cons_succ, List.setIfInBounds_toArray, List.set_cons_zero, List.set_cons_succ]
  refine AnyE.take (i := 1) (v := ?_) rfl (by kernel_rfl) (by kernel_rfl) (by kernel_rfl) (by kernel_rfl) (fun _ _ _ h => h) (Or.inl ⟨by rfl, ?_⟩) (by assumption) ?_
  rotate_left 1
  · intro w hSw
    (try dsimp only at hSw)
    go_simp
    all_goals (with_reducible rfl)
  try simp only [Act.put, List.getElem_toArray, List.getElem_cons_zero, List.getElem_cons_succ, List.setIfInBounds_toArray, List.set_cons_zero, List.set_cons_succ]
  refine AnyE.take (i := 2) (v := ?_) rfl (by kernel_rfl) (by kernel_rfl) (by kernel_rfl) (by kernel_rfl) (fun _ _ _ h => h) (Or.inl ⟨by rfl, ?_⟩) (by assumption) ?_
  rotate_left 1
  · intro w hSw
    (try dsimp only at hSw)
    go_simp
    all_goals (with_reducible rfl)
  try simp only [Act.put, List.getElem_toArray, List.getElem_cons_zero, List.getElem_cons_succ, List.setIfInBounds_toArray, List.set_cons_zero, List.set_cons_succ]
  refine AnyE.take (i := 3) (v := ?_) rfl (by kernel_rfl) (by kernel_rfl) (by kernel_rfl) (by kernel_rfl) (fun _ _ _ h => h) (Or.inl ⟨by rfl, ?_⟩) (by assumption) ?_
  rotate_left 1
  · intro w hSw
    (try dsimp only at hSw)
    go_simp
    all_goals (with_reducible rfl)
  try simp only [Act.put, List.getElem_toArray, List.getElem_cons_zero, List.getElem_cons_succ, List.setIfInBounds_toArray, List.set_cons_zero, List.set_cons_succ]
  refine AnyE.take (i := 4) (v := ?_) rfl (by kernel_rfl) (by kernel_rfl) (by kernel_rfl) (by kernel_rfl) (fun _ _ _ h => h) (Or.inl ⟨by rfl, ?_⟩) (by assumption) ?_
  rotate_left 1
  · intro w hSw
    (try dsimp only at hSw)
    go_simp
    all_goals (with_reducible rfl)
  try simp only [Act.put, List.getElem_toArray, List.getElem_cons_zero, List.getElem_cons_succ, List.setIfInBounds_toArray, List.set_cons_zero, List.set_cons_succ]
  refine AnyE.take (i := 5) (v := ?_) rfl (by kernel_rfl) (by kernel_rfl) (by kernel_rfl) (by kernel_rfl) (fun _ _ _ h => h) (Or.inl ⟨by rfl, ?_⟩) (by assumption) ?_
  rotate_left 1
  · intro w hSw
    (try dsimp only at hSw)
    go_simp
    all_goals (with_reducible rfl)
  try simp only [Act.put, List.getElem_toArray, List.getElem_cons_zero, List.getElem_cons_succ, List.setIfInBounds_toArray, List.set_cons_zero, List.set_cons_succ]
  refine AnyE.take (i := 6) (v := ?_) rfl (by kernel_rfl) (by kernel_rfl) (by kernel_rfl) (by kernel_rfl) (fun _ _ _ h => h) (Or.inl ⟨by rfl, ?_⟩) (by assumption) ?_
  rotate_left 1
  · intro w hSw
    (try dsimp only at hSw)
    go_simp
    all_goals (with_reducible rfl)
  try simp only [Act.put, List.getElem_toArray, List.getElem_cons_zero, List.getElem_cons_succ, List.setIfInBounds_toArray, List.set_cons_zero, List.set_cons_succ]
  refine AnyE.take (i := 7) (v := ?_) rfl (by kernel_rfl) (by kernel_rfl) (by kernel_rfl) (by kernel_rfl) (fun _ _ _ h => h) (Or.inl ⟨by rfl, ?_⟩) (by assumption) ?_
  rotate_left 1
  · intro w hSw
    (try dsimp only at hSw)
    go_simp
    all_goals (with_reducible rfl)
  try simp only [Act.put, List.getElem_toArray, List.getElem_cons_zero, List.getElem_cons_succ, List.setIfInBounds_toArray, List.set_cons_zero, List.set_cons_succ]
  refine AnyE.take (i := 8) (v := ?_) rfl (by kernel_rfl) (by kernel_rfl) (by kernel_rfl) (by kernel_rfl) (fun _ _ _ h => h) (Or.inl ⟨by rfl, ?_⟩) (by assumption) ?_
  rotate_left 1
  · intro w hSw
    (try dsimp only at hSw)
    go_simp
    all_goals (with_reducible rfl)
  try simp only [Act.put, List.getElem_toArray, List.getElem_cons_zero, List.getElem_cons_succ, List.setIfInBounds_toArray, List.set_cons_zero, List.set_cons_succ]
  refine AnyE.take (i := 9) (v := ?_) rfl (by kernel_rfl) (by kernel_rfl) (by kernel_rfl) (by kernel_rfl) (fun _ _ _ h => h) (Or.inl ⟨by rfl, ?_⟩) (by assumption) ?_
  rotate_left 1
  · intro w hSw
    (try dsimp only at hSw)
    go_simp
    all_goals (with_reducible rfl)
  try simp only [Act.put, List.getElem_toArray, List.getElem_cons_zero, List.getElem_cons_succ, List.setIfInBounds_toArray, List.set_cons_zero, List.set_cons_succ]
  refine AnyE.take (i := 10) (v := ?_) rfl (by kernel_rfl) (by kernel_rfl) (by kernel_rfl) (by kernel_rfl) (fun _ _ _ h => h) (Or.inl ⟨by rfl, ?_⟩) (by assumption) ?_
  rotate_left 1
  · intro w hSw
    (try dsimp only at hSw)
    go_simp
    all_goals (with_reducible rfl)
  try simp only [Act.put, List.getElem_toArray, List.getElem_cons_zero, List.getElem_cons_succ, List.setIfInBounds_toArray, List.set_cons_zero, List.set_cons_succ]
  refine AnyE.take (i := 11) (v := ?_) rfl (by kernel_rfl) (by kernel_rfl) (by kernel_rfl) (by kernel_rfl) (fun _ _ _ h => h) (Or.inl ⟨by rfl, ?_⟩) (by assumption) ?_
  rotate_left 1
  · intro w hSw
    (try dsimp only at hSw)
    go_simp
    all_goals (with_reducible rfl)
  try simp only [Act.put, List.getElem_toArray, List.getElem_cons_zero, List.getElem_cons_succ, List.setIfInBounds_toArray, List.set_cons_zero, List.set_cons_succ]
  refine AnyE.take (i := 12) (v := ?_) rfl (by kernel_rfl) (by kernel_rfl) (by kernel_rfl) (by kernel_rfl) (fun _ _ _ h => h) (Or.inl ⟨by rfl, ?_⟩) (by assumption) ?_
  rotate_left 1
  · intro w hSw
    (try dsimp only at hSw)
    go_simp
    all_goals (with_reducible rfl)
  try simp only [Act.put, List.getElem_toArray, List.getElem_cons_zero, List.getElem_cons_succ, List.setIfInBounds_toArray, List.set_cons_zero, List.set_cons_succ]
  refine AnyE.take (i := 13) (v := ?_) rfl (by kernel_rfl) (by kernel_rfl) (by kernel_rfl) (by kernel_rfl) (fun _ _ _ h => h) (Or.inl ⟨by rfl, ?_⟩) (by assumption) ?_
  rotate_left 1
  · intro w hSw
    (try dsimp only at hSw)
    go_simp
    all_goals (with_reducible rfl)
  try simp only [Act.put, List.getElem_toArray, List.getElem_cons_zero, List.getElem_cons_succ, List.setIfInBounds_toArray, List.set_cons_zero, List.set_cons_succ]
  refine AnyE.take (i := 14) (v := ?_) rfl (by kernel_rfl) (by kernel_rfl) (by kernel_rfl) (by kernel_rfl) (fun _ _ _ h => h) (Or.inl ⟨by rfl, ?_⟩) (by assumption) ?_
  rotate_left 1
  · intro w hSw
    (try dsimp only at hSw)
    go_simp
    all_goals (with_reducible rfl)
  try simp only [Act.put, List.getElem_toArray, List.getElem_cons_zero, List.getElem_cons_succ, List.setIfInBounds_toArray, List.set_cons_zero, List.set_cons_succ]
  refine AnyE.take (i := 15) (v := ?_) rfl (by kernel_rfl) (by kernel_rfl) (by kernel_rfl) (by kernel_rfl) (fun _ _ _ h => h) (Or.inl ⟨by rfl, ?_⟩) (by assumption) ?_
  rotate_left 1
  · intro w hSw
    (try dsimp only at hSw)
    go_simp
    all_goals (with_reducible rfl)
  try simp only [Act.put, List.getElem_toArray, List.getElem_cons_zero, List.getElem_cons_succ, List.setIfInBounds_toArray, List.set_cons_zero, List.set_cons_succ]
  refine AnyE.take (i := 16) (v := ?_) rfl (by kernel_rfl) (by kernel_rfl) (by kernel_rfl) (by kernel_rfl) (fun _ _ _ h => h) (Or.inl ⟨by rfl, ?_⟩) (by assumption) ?_
  rotate_left 1
  · intro w hSw
    (try dsimp only at hSw)
    go_simp
    all_goals (with_reducible rfl)
  try simp only [Act.put, List.getElem_toArray, List.getElem_cons_zero, List.getElem_cons_succ, List.setIfInBounds_toArray, List.set_cons_zero, List.set_cons_succ]
  refine AnyE.take (i := 17) (v := ?_) rfl (by kernel_rfl) (by kernel_rfl) (by kernel_rfl) (by kernel_rfl) (fun _ _ _ h => h) (Or.inl ⟨by rfl, ?_⟩) (by assumption) ?_
  rotate_left 1
  · intro w hSw
    (try dsimp only at hSw)
    go_simp
    all_goals (with_reducible rfl)
  try simp only [Act.put, List.getElem_toArray, List.getElem_cons_zero, List.getElem_cons_succ, List.setIfInBounds_toArray, List.set_cons_zero, List.set_cons_succ]
  refine AnyE.next (rs := [18]) (by kernel_rfl) (by simp) ?_
  refine AllE.cons rfl (fun K hK => ?_) AllE.nil
  go_simp
  refine (Q.all_any _ xv s.idx _ (.at x xv s.idx HX.out) hl).mono ?_
  rintro e w2 ⟨v', rfl, hown, hb⟩
  obtain ⟨vx, vc, rfl, _, _⟩ := ownsRow_slice hown
  rw [HI.out] at hown ⊢
  have HO2 := Lib.hid hown
  have HB2 := Lib.hid hb
  clear hown hb
  refine hK.out _ _ (by have h := HV.out.below HB2.out HV.out.lt; exact ⟨h.cell 1 rfl, h.cell 2 rfl, h.cell 6 rfl, h.cell 7 rfl⟩) (fun hHeld => ?_)
  clear hK K
  try simp only [Act.put, List.getElem_toArray, List.getElem_cons_zero, List.getElem_cons_succ, List.setIfInBounds_toArray, List.set_cons_zero, List.set_cons_succ]
  refine AnyE.take (i := 19) (v := ?_) rfl (by kernel_rfl) (by kernel_rfl) (by kernel_rfl) (by kernel_rfl) (fun _ _ _ h => h) (Or.inl ⟨by rfl, ?_⟩) (by assumption) ?_
  rotate_left 1
  · intro w hSw
    (try dsimp only at hSw)
    go_simp
    all_goals (with_reducible rfl)
  try simp only [Act.put, List.getElem_toArray, List.getElem_cons_zero, List.getElem_cons_succ, List.setIfInBounds_toArray, List.set_cons_zero, List.set_cons_succ]
  have hz2 := HZ.out.below HB2.out HZ.out.lt
  have z0 := hz2.cell 0 rfl
  have z1 := hz2.cell 1 rfl
  have z2 := hz2.cell 2 rfl
  have z3 := hz2.cell 3 rfl
  have zf := fun j => hz2.free j
  have HF := Lib.hid (blk_set4 hz2 (.int .i64 (s.num : Int)) (.int .i64 (s.gen : Int)) (.int .i64 (s.size : Int)) (.slice vx I vc))
  have HBF := Lib.hid (below_set4 (u0 := .int .i64 (s.num : Int)) (u1 := .int .i64 (s.gen : Int)) (u2 := .int .i64 (s.size : Int)) (u3 := .slice vx I vc) (HB.out.trans (HB2.out.mono HB.out.size)) (Nat.le_refl w.heap.size))
  have HOF := Lib.hid (row_set4 (ownsRow_base HO2.out (show w.heap.size + 1 ≤ w1.heap.size by omega)) (show w.heap.size < w.heap.size + 1 by omega) (.int .i64 (s.num : Int)) (.int .i64 (s.gen : Int)) (.int .i64 (s.size : Int)) (.slice vx I vc))
  unfold set4 at HF HBF HOF
  clear hz2
  refine AnyE.next (rs := [20]) (by kernel_rfl) (by simp) ?_
  refine AllE.last rfl (fun K hK => ?_)
  go_simp
  refine hK.out _ _ ?_
  clear hK K
  try simp only [Act.put, List.getElem_toArray, List.getElem_cons_zero, List.getElem_cons_succ, List.setIfInBounds_toArray, List.set_cons_zero, List.set_cons_succ]
  refine AnyE.done (by kernel_rfl) ?_ _
  have y0 := HF.out.cell 0 rfl
  have y1 := HF.out.cell 1 rfl
  have y2 := HF.out.cell 2 rfl
  have y3 := HF.out.cell 3 rfl
  clear z0 z1 z2 z3 zf
  go_wp2
  exact bodyPost_ret (v := .agg #[.int .i64 (s.num : Int), .int .i64 (s.gen : Int), .int .i64 (s.size : Int), .slice vx I vc]) (by simp [results, Tryz.results51, go_sem, y0, y1, y2, y3]) rfl ⟨vx, I, vc, HI.out.symm, rfl, HOF.out, HBF.out⟩

end Go.Proofs.YtdchcepgbbdmhaaGreatDoor
end

section
namespace Go.Proofs.YtdchcepgbbdmhaaGreatDoor
open Go.RowKit Go.Cor

/-- What a step leaves: the volume and its disk, the writer, and its positions. -/
def StepT (w w' : World) (g p q : Nat) (S : Nat → Prop) (d' : Dsk) (k' : Nat) (s : Vst) (nx vn gn up : Int) (lv : Value) (ps : List Pos) : Prop :=
  ∃ S', Vl w' g p S' d' k' s ∧ Kept (fun b => S b ∨ b = q) w w' ∧ (∀ b, S' b → S b ∨ w.heap.size ≤ b) ∧ ¬ S' q ∧ Blk w' q (wcells p g nx vn gn up lv) 69 ∧ Q.IsP w' lv ps ∧ ∀ b, liesX lv ps.length b → ¬ S' b ∧ b ≠ q
/-- A cell of the writer turned. -/
theorem StepT.turn {w w1 : World} {g p q : Nat} {S : Nat → Prop} {d' : Dsk} {k' : Nat} {s : Vst} {nx vn gn up : Int} {lv : Value} {ps : List Pos} (h : StepT w w1 g p q S d' k' s nx vn gn up lv ps) (nx' : Int) : StepT w (w1.setCell ⟨q, 2, none⟩ (.int .i64 nx')) g p q S d' k' s nx' vn gn up lv ps := by
  obtain ⟨S', h1, h2, h3, h4, h5, h6, h7⟩ := h
  have hk : Kept (fun b => b = q) w1 (w1.setCell ⟨q, 2, none⟩ (.int .i64 nx')) := (Kept.refl (fun b => b = q) w1).setCell (.inl rfl) _
  exact ⟨S', h1.kept hk (fun b hb e => h4 (e ▸ hb)), h2.trans hk (fun j e _ => .inr e), h3, h4, by have := h5.set 2 (.int .i64 nx'); exact this, IsX.kept h6 hk (fun b hb => (h7 b hb).2), h7⟩
theorem StepT.below {w w1 w2 : World} {g p q : Nat} {S : Nat → Prop} {d' : Dsk} {k' : Nat} {s : Vst} {nx vn gn up : Int} {lv : Value} {ps : List Pos} (h : StepT w w1 g p q S d' k' s nx vn gn up lv ps) (hb : Below w1.heap.size w1 w2) : StepT w w2 g p q S d' k' s nx vn gn up lv ps := by
  obtain ⟨S', h1, h2, h3, h4, h5, h6, h7⟩ := h
  exact ⟨S', h1.below hb (Nat.le_refl _), h2.trans (Kept.of_below (S := fun _ => False) hb (Nat.le_refl _)) (fun _ e _ => e.elim), h3, h4, h5.below hb h5.lt, h6.mono hb (Nat.le_refl _), h7⟩
theorem StepT.blk {w w1 : World} {g p q : Nat} {S : Nat → Prop} {d' : Dsk} {k' : Nat} {s : Vst} {nx vn gn up : Int} {lv : Value} {ps : List Pos} (h : StepT w w1 g p q S d' k' s nx vn gn up lv ps) : Blk w1 q (wcells p g nx vn gn up lv) 69 := by
  obtain ⟨S', h1, h2, h3, h4, h5, h6, h7⟩ := h
  exact h5
theorem StepT.isP {w w1 : World} {g p q : Nat} {S : Nat → Prop} {d' : Dsk} {k' : Nat} {s : Vst} {nx vn gn up : Int} {lv : Value} {ps : List Pos} (h : StepT w w1 g p q S d' k' s nx vn gn up lv ps) : Q.IsP w1 lv ps := by
  obtain ⟨S', h1, h2, h3, h4, h5, h6, h7⟩ := h
  exact h6
/-- A deed of the disk behind it. -/
theorem StepT.deed {w w1 : World} {g p q : Nat} {S : Nat → Prop} {d : Dsk} {k : Nat} {s : Vst} {nx vn gn up : Int} {lv : Value} {ps : List Pos} (h : StepT w w1 g p q S d k s nx vn gn up lv ps) :
    ∃ Sd, Dk w1 p Sd d k ∧ ¬ Sd q ∧ (∀ b, liesX lv ps.length b → ¬ Sd b) ∧ ∀ w2 d' k', Dt w1 w2 p Sd d' k' → StepT w w2 g p q S d' k' s nx vn gn up lv ps := by
  obtain ⟨S', h1, h2, h3, h4, h5, h6, h7⟩ := h
  obtain ⟨Sd, hd, hs, hn⟩ := h1.disk
  refine ⟨Sd, hd, fun e => h4 (hs q e), fun b hb e => (h7 b hb).1 (hs b e), fun w2 d' k' ht => ?_⟩
  obtain ⟨S2, a1, a2, a3⟩ := hn w2 d' k' ht
  have hs1 := h2.size
  refine ⟨S2, a1, h2.trans a2 (fun j hj hl => ?_), fun b hb => ?_, fun e => ?_, h5.kept a2 h4, IsX.kept h6 a2 (fun b hb => (h7 b hb).1), fun b hb => ⟨fun e => ?_, (h7 b hb).2⟩⟩
  · rcases h3 j hj with e | e
    · exact .inl e
    · omega
  · rcases a3 b hb with e | e
    · exact h3 b e
    · exact .inr (by omega)
  · rcases a3 q e with e | e
    · exact h4 e
    · have := h5.lt; omega
  · rcases a3 b e with e | e
    · exact (h7 b hb).1 e
    · have := IsX.lies_lt h6 (by decide) hb; omega

set_option maxRecDepth 100000 in
set_option maxHeartbeats 2000000 in
theorem step_first (q p g k : Nat) (S : Nat → Prop) (d : Dsk) (s : Vst) (w : World) (h : Blk w q (wcells p g 0 0 0 0 (.slice none 0 0)) 69) (hr : Vready w g p S d k s) (hq : ¬ S q) (hn : view d (nmC s.num 0) = none) :
    Calls Tryz.prog 21 #[.pointer (some ⟨q, 0, none⟩)] w fun e w' => ∃ d' lx lc, e = .returned .nilIface ∧ StepT w w' g p q S d' (k + 4) s 2 (s.num : Int) (s.gen : Int) (s.size : Int) (.slice lx s.idx.length lc) s.idx ∧
      Went d d' (k + 4) d.used (d.now.length + 1) (fun m => if m = nmC s.num 0 then some [] else view d m) := by
  have hnum := hr.ok.num9
  have hlt := h.lt
  have hf0 := hr.lies.fs
  have hnm : isNm (nmC s.num 0) = true := isNm_C (by omega) (by decide)
  have hc := (hf0.more (Nat.le_add_right k 2)).create hnm hn (by have := hr.names; omega)
  have HC0 := Lib.hid hc.1
  have HWE := Lib.hid hc.2
  have HB := Lib.hid h.drew
  have HRD := Lib.hid (hr.below (Below.refl w.heap.size w).drew)
  have HF := Lib.hid hf0
  have HNV := Lib.hid hn
  have HQ := Lib.hid hq
  have hfew := hr.few
  have HW0 := Lib.hid (Below.refl w.heap.size w).drew
  obtain ⟨I, hI⟩ : ∃ I, s.idx.length = I := ⟨_, rfl⟩
  have HI := Lib.hid hI
  rw [hI]
  clear h hr hq hn hf0 hc hnm hI
  go_enter Tryz.func21, Tryz.ntmps21
  go_upto_region 1 with fail
  refine wp_region_held_drew (S := (fun wx => wx.cell? ⟨q, 2, none⟩ = some (.int .i64 0))) (by kernel_rfl) (HB.out.cell 2 rfl) (fun hHeld => ?_)
  refine wpAnyH_take (i := 0) (v := ?_) rfl (by kernel_rfl) (by kernel_rfl) (by kernel_rfl) (fun _ _ _ h => h) (Or.inl ⟨by rfl, ?_⟩) (by assumption) ?_
  rotate_left 1
  · intro w hSw
    (try dsimp only at hSw)
    go_simp
    all_goals (with_reducible rfl)
  try simp only [Act.put, List.getElem_toArray, List.getElem_cons_zero, List.getElem_cons_succ, List.setIfInBounds_toArray, List.set_cons_zero, List.set_cons_succ]
  refine wpAnyH_take (i := 1) (v := ?_) rfl (by kernel_rfl) (by kernel_rfl) (by kernel_rfl) (fun _ _ _ h => h) (Or.inl ⟨by rfl, ?_⟩) (by assumption) ?_
  rotate_left 1
  · intro w hSw
    (try dsimp only at hSw)
    go_simp
    all_goals (with_reducible rfl)
  try simp only [Act.put, List.getElem_toArray, List.getElem_cons_zero, List.getElem_cons_succ, List.setIfInBounds_toArray, List.set_cons_zero, List.set_cons_succ]
  refine wpAnyH_take (i := 2) (v := ?_) rfl (by kernel_rfl) (by kernel_rfl) (by kernel_rfl) (fun _ _ _ h => h) (Or.inl ⟨by rfl, ?_⟩) (by assumption) ?_
  rotate_left 1
  · intro w hSw
    (try dsimp only at hSw)
    go_simp
    all_goals (with_reducible rfl)
  try simp only [Act.put, List.getElem_toArray, List.getElem_cons_zero, List.getElem_cons_succ, List.setIfInBounds_toArray, List.set_cons_zero, List.set_cons_succ]
  refine wpAnyH_take (i := 3) (v := ?_) rfl (by kernel_rfl) (by kernel_rfl) (by kernel_rfl) (fun _ _ _ h => h) (Or.inl ⟨by rfl, ?_⟩) (by assumption) ?_
  rotate_left 1
  · intro w hSw
    (try dsimp only at hSw)
    go_simp
    all_goals (with_reducible rfl)
  try simp only [Act.put, List.getElem_toArray, List.getElem_cons_zero, List.getElem_cons_succ, List.setIfInBounds_toArray, List.set_cons_zero, List.set_cons_succ]
  refine wpAnyH_take (i := 4) (v := ?_) rfl (by kernel_rfl) (by kernel_rfl) (by kernel_rfl) (fun _ _ _ h => h) (Or.inl ⟨by rfl, ?_⟩) (by assumption) ?_
  rotate_left 1
  · intro w hSw
    (try dsimp only at hSw)
    go_simp
    all_goals (with_reducible rfl)
  try simp only [Act.put, List.getElem_toArray, List.getElem_cons_zero, List.getElem_cons_succ, List.setIfInBounds_toArray, List.set_cons_zero, List.set_cons_succ]
  refine wpAnyH_take (i := 5) (v := ?_) rfl (by kernel_rfl) (by kernel_rfl) (by kernel_rfl) (fun _ _ _ h => h) (Or.inl ⟨by rfl, ?_⟩) (by assumption) ?_
  rotate_left 1
  · intro w hSw
    (try dsimp only at hSw)
    go_simp
    all_goals (with_reducible rfl)
  try simp only [Act.put, List.getElem_toArray, List.getElem_cons_zero, List.getElem_cons_succ, List.setIfInBounds_toArray, List.set_cons_zero, List.set_cons_succ]
  refine wpAnyH_take (i := 6) (v := undef) rfl (by kernel_rfl) (by kernel_rfl) (by kernel_rfl) (fun _ _ _ h => h) (Or.inr ⟨by rfl, rfl⟩) (by assumption) ?_
  try simp only [Act.put, List.getElem_toArray, List.getElem_cons_zero, List.getElem_cons_succ, List.setIfInBounds_toArray, List.set_cons_zero, List.set_cons_succ]
  refine wpAnyH_take (i := 7) (v := undef) rfl (by kernel_rfl) (by kernel_rfl) (by kernel_rfl) (fun _ _ _ h => h) (Or.inr ⟨by rfl, rfl⟩) (by assumption) ?_
  try simp only [Act.put, List.getElem_toArray, List.getElem_cons_zero, List.getElem_cons_succ, List.setIfInBounds_toArray, List.set_cons_zero, List.set_cons_succ]
  refine wpAnyH_take (i := 8) (v := undef) rfl (by kernel_rfl) (by kernel_rfl) (by kernel_rfl) (fun _ _ _ h => h) (Or.inr ⟨by rfl, rfl⟩) (by assumption) ?_
  try simp only [Act.put, List.getElem_toArray, List.getElem_cons_zero, List.getElem_cons_succ, List.setIfInBounds_toArray, List.set_cons_zero, List.set_cons_succ]
  refine wpAnyH_take (i := 9) (v := undef) rfl (by kernel_rfl) (by kernel_rfl) (by kernel_rfl) (fun _ _ _ h => h) (Or.inr ⟨by rfl, rfl⟩) (by assumption) ?_
  try simp only [Act.put, List.getElem_toArray, List.getElem_cons_zero, List.getElem_cons_succ, List.setIfInBounds_toArray, List.set_cons_zero, List.set_cons_succ]
  refine wpAnyH_take (i := 10) (v := undef) rfl (by kernel_rfl) (by kernel_rfl) (by kernel_rfl) (fun _ _ _ h => h) (Or.inr ⟨by rfl, rfl⟩) (by assumption) ?_
  try simp only [Act.put, List.getElem_toArray, List.getElem_cons_zero, List.getElem_cons_succ, List.setIfInBounds_toArray, List.set_cons_zero, List.set_cons_succ]
  refine wpAnyH_take (i := 11) (v := undef) rfl (by kernel_rfl) (by kernel_rfl) (by kernel_rfl) (fun _ _ _ h => h) (Or.inr ⟨by rfl, rfl⟩) (by assumption) ?_
  try simp only [Act.put, List.getElem_toArray, List.getElem_cons_zero, List.getElem_cons_succ, List.setIfInBounds_toArray, List.set_cons_zero, List.set_cons_succ]
  refine wpAnyH_take (i := 12) (v := undef) rfl (by kernel_rfl) (by kernel_rfl) (by kernel_rfl) (fun _ _ _ h => h) (Or.inr ⟨by rfl, rfl⟩) (by assumption) ?_
  try simp only [Act.put, List.getElem_toArray, List.getElem_cons_zero, List.getElem_cons_succ, List.setIfInBounds_toArray, List.set_cons_zero, List.set_cons_succ]
  refine wpAnyH_take (i := 13) (v := undef) rfl (by kernel_rfl) (by kernel_rfl) (by kernel_rfl) (fun _ _ _ h => h) (Or.inr ⟨by rfl, rfl⟩) (by assumption) ?_
  try simp only [Act.put, List.getElem_toArray, List.getElem_cons_zero, List.getElem_cons_succ, List.setIfInBounds_toArray, List.set_cons_zero, List.set_cons_succ]
  refine wpAnyH_take (i := 14) (v := undef) rfl (by kernel_rfl) (by kernel_rfl) (by kernel_rfl) (fun _ _ _ h => h) (Or.inr ⟨by rfl, rfl⟩) (by assumption) ?_
  try simp only [Act.put, List.getElem_toArray, List.getElem_cons_zero, List.getElem_cons_succ, List.setIfInBounds_toArray, List.set_cons_zero, List.set_cons_succ]
  refine wpAnyH_take (i := 15) (v := undef) rfl (by kernel_rfl) (by kernel_rfl) (by kernel_rfl) (fun _ _ _ h => h) (Or.inr ⟨by rfl, rfl⟩) (by assumption) ?_
  try simp only [Act.put, List.getElem_toArray, List.getElem_cons_zero, List.getElem_cons_succ, List.setIfInBounds_toArray, List.set_cons_zero, List.set_cons_succ]
  refine wpAnyH_take (i := 16) (v := undef) rfl (by kernel_rfl) (by kernel_rfl) (by kernel_rfl) (fun _ _ _ h => h) (Or.inr ⟨by rfl, rfl⟩) (by assumption) ?_
  try simp only [Act.put, List.getElem_toArray, List.getElem_cons_zero, List.getElem_cons_succ, List.setIfInBounds_toArray, List.set_cons_zero, List.set_cons_succ]
  refine wpAnyH_take (i := 17) (v := undef) rfl (by kernel_rfl) (by kernel_rfl) (by kernel_rfl) (fun _ _ _ h => h) (Or.inr ⟨by rfl, rfl⟩) (by assumption) ?_
  try simp only [Act.put, List.getElem_toArray, List.getElem_cons_zero, List.getElem_cons_succ, List.setIfInBounds_toArray, List.set_cons_zero, List.set_cons_succ]
  refine wpAnyH_take (i := 18) (v := ?_) rfl (by kernel_rfl) (by kernel_rfl) (by kernel_rfl) (fun _ _ _ h => h) (Or.inl ⟨by rfl, ?_⟩) (by assumption) ?_
  rotate_left 1
  · intro w hSw
    (try dsimp only at hSw)
    go_simp
    all_goals (with_reducible rfl)
  try simp only [Act.put, List.getElem_toArray, List.getElem_cons_zero, List.getElem_cons_succ, List.setIfInBounds_toArray, List.set_cons_zero, List.set_cons_succ]
  refine wpAnyH_done (by kernel_rfl) ?_ _
  obtain ⟨w0, hw0⟩ : ∃ w0, w.drew = w0 := ⟨_, rfl⟩
  rw [hw0] at HB HRD HW0
  rw [hw0]
  have hlt0 : q < w0.heap.size := HB.out.lt
  have hsz0 : w.heap.size ≤ w0.heap.size := by rw [← hw0]; exact Nat.le_refl _
  have hsz1 : w0.heap.size = w.heap.size := by rw [← hw0]; rfl
  clear hw0
  have b1 : w0.cell? ⟨q, 1, none⟩ = some (.pointer (some ⟨g, 0, none⟩)) := HB.out.cell 1 rfl
  have b2 : w0.cell? ⟨q, 2, none⟩ = some (.int .i64 0) := HB.out.cell 2 rfl
  go_wp2_with fail
  refine (snap_v g p k S d s w0 HRD.out).mono ?_
  rintro e w1 ⟨vx, vL, vc, hL, rfl, hown, hb⟩
  rw [HI.out] at hL
  subst hL
  have hq1 := HB.out.below hb hlt0
  have c3 : w1.cell? ⟨q, 3, none⟩ = some (.int .i64 0) := hq1.cell 3 rfl
  have c4 : w1.cell? ⟨q, 4, none⟩ = some (.int .i64 0) := hq1.cell 4 rfl
  have c5 : w1.cell? ⟨q, 5, none⟩ = some (.int .i64 0) := hq1.cell 5 rfl
  have c6 : w1.cell? ⟨q, 6, none⟩ = some (.slice none 0 0) := hq1.cell 6 rfl
  have cf := fun j => hq1.free j
  have hq2 := (((hq1.set 3 (.int .i64 (s.num : Int))).set 4 (.int .i64 (s.gen : Int))).set 5 (.int .i64 (s.size : Int))).set 6 (.slice vx vL vc)
  have hk2 : Kept (fun b => b = q) w1 ((((w1.setCell ⟨q, 3, none⟩ (.int .i64 (s.num : Int))).setCell ⟨q, 4, none⟩ (.int .i64 (s.gen : Int))).setCell ⟨q, 5, none⟩ (.int .i64 (s.size : Int))).setCell ⟨q, 6, none⟩ (.slice vx vL vc)) := ((((Kept.refl (fun b => b = q) w1).setCell (.inl rfl) _).setCell (.inl rfl) _).setCell (.inl rfl) _).setCell (.inl rfl) _
  go_upto_region 13 with fail
  obtain ⟨w2, hw2⟩ : ∃ w2, (((w1.setCell ⟨q, 3, none⟩ (.int .i64 (s.num : Int))).setCell ⟨q, 4, none⟩ (.int .i64 (s.gen : Int))).setCell ⟨q, 5, none⟩ (.int .i64 (s.size : Int))).setCell ⟨q, 6, none⟩ (.slice vx vL vc) = w2 := ⟨_, rfl⟩
  rw [hw2] at hq2 hk2
  rw [hw2]
  have hT2 : StepT w w2 g p q S d k s 0 (s.num : Int) (s.gen : Int) (s.size : Int) (.slice vx vL vc) s.idx := by
    have hsl := HRD.out.vl.lt
    have hp1 : Q.IsP w1 (.slice vx vL vc) s.idx := Q.IsP.own hown HI.out.symm
    have hlies : ∀ b, liesX (.slice vx vL vc) s.idx.length b → w0.heap.size + 1 ≤ b := fun b hb => (hown.lt b hb.2).1
    refine ⟨S, (HRD.out.vl.below hb (Nat.le_refl _)).kept hk2 (fun b hb e => HQ.out (e ▸ hb)), ?_, fun b hb => .inl hb, HQ.out, hq2, IsX.kept hp1 hk2 (fun b hb => ?_), fun b hb => ⟨fun e => ?_, ?_⟩⟩
    · exact ((Kept.of_below (S := fun b => S b ∨ b = q) HW0.out (Nat.le_refl _)).trans (Kept.of_below (S := fun _ => False) hb (by omega)) (fun _ e _ => e.elim)).trans hk2 (fun _ e _ => .inr e)
    · have := hlies b hb; omega
    · have := hlies b hb; have := hsl b e; omega
    · have := hlies b hb; omega
  obtain ⟨Sd, hd, hnq, hly, hnext⟩ := hT2.deed
  have HU := Lib.hid (ckunname q p g s.num k 0 (s.gen : Int) (s.size : Int) (.slice vx vL vc) Sd d w2 hT2.blk hnum hd HF.out (by omega) hnq HNV.out)
  have HNX := Lib.hid hnext
  clear hT2 hd hnq hly hnext hq2 hk2 hw2 hq1 c3 c4 c5 c6 cf b1 b2 hown hb
  go_wp2_with fail
  refine HU.out.mono ?_
  rintro e w3 ⟨rfl, ht⟩
  have HT3 := Lib.hid (HNX.out w3 d (k + 2) ht)
  clear ht HU HNX
  have x2 : w3.cell? ⟨q, 2, none⟩ = some (.int .i64 0) := HT3.out.blk.cell 2 rfl
  have xf := fun j => HT3.out.blk.free j
  have HT4 := Lib.hid (HT3.out.turn 1)
  go_upto_region 17 with fail
  obtain ⟨w4, hw4⟩ : ∃ w4, w3.setCell ⟨q, 2, none⟩ (.int .i64 1) = w4 := ⟨_, rfl⟩
  rw [hw4] at HT4
  rw [hw4]
  have HT5 := Lib.hid (HT4.out.below (Below.refl w4.heap.size w4).drew)
  obtain ⟨Sd, hd, hnq, hly, hnext⟩ := HT5.out.deed
  have HCR := Lib.hid (show Calls Tryz.prog 11 #[.pointer (some ⟨p, 0, none⟩), .string (nmC s.num 0)] w4.drew (fun e w' => e = .returned .nilIface ∧ StepT w w' g p q S (d.create (nmC s.num 0)).1 (k + 2 + 2) s 1 (s.num : Int) (s.gen : Int) (s.size : Int) (.slice vx vL vc) s.idx) by
    refine (create_u w4.drew p Sd d (k + 2) (nmC s.num 0) hd (by omega) (by show 4 ≤ _; decide)).mono ?_
    rintro e w' ⟨rfl, ht⟩
    rw [HC0.out]
    exact ⟨rfl, hnext _ _ _ ht⟩)
  clear hw4 hd hnq hly hnext x2 xf HT3 HT4
  refine wp_region_held_drew (S := (fun wx => wx.cell? ⟨q, 0, none⟩ = some (.pointer (some ⟨p, 0, none⟩)))) (by kernel_rfl) (HT5.out.blk.cell 0 rfl) (fun hHeld => ?_)
  refine wpAnyH_take (i := 0) (v := ?_) rfl (by kernel_rfl) (by kernel_rfl) (by kernel_rfl) (fun _ _ _ h => h) (Or.inl ⟨by rfl, ?_⟩) (by assumption) ?_
  rotate_left 1
  · intro w hSw
    (try dsimp only at hSw)
    go_simp
    all_goals (with_reducible rfl)
  try simp only [Act.put, List.getElem_toArray, List.getElem_cons_zero, List.getElem_cons_succ, List.setIfInBounds_toArray, List.set_cons_zero, List.set_cons_succ]
  refine wpAnyH_take (i := 1) (v := ?_) rfl (by kernel_rfl) (by kernel_rfl) (by kernel_rfl) (fun _ _ _ h => h) (Or.inl ⟨by rfl, ?_⟩) (by assumption) ?_
  rotate_left 1
  · intro w hSw
    (try dsimp only at hSw)
    go_simp
    all_goals (with_reducible rfl)
  try simp only [Act.put, List.getElem_toArray, List.getElem_cons_zero, List.getElem_cons_succ, List.setIfInBounds_toArray, List.set_cons_zero, List.set_cons_succ]
  refine wpAnyH_take (i := 2) (v := ?_) rfl (by kernel_rfl) (by kernel_rfl) (by kernel_rfl) (fun _ _ _ h => h) (Or.inl ⟨by rfl, ?_⟩) (by assumption) ?_
  rotate_left 1
  · intro w hSw
    (try dsimp only at hSw)
    go_simp
    all_goals (with_reducible rfl)
  try simp only [Act.put, List.getElem_toArray, List.getElem_cons_zero, List.getElem_cons_succ, List.setIfInBounds_toArray, List.set_cons_zero, List.set_cons_succ]
  refine wpAnyH_take (i := 3) (v := ?_) rfl (by kernel_rfl) (by kernel_rfl) (by kernel_rfl) (fun _ _ _ h => h) (Or.inl ⟨by rfl, ?_⟩) (by assumption) ?_
  rotate_left 1
  · intro w hSw
    (try dsimp only at hSw)
    go_simp
    all_goals (with_reducible rfl)
  try simp only [Act.put, List.getElem_toArray, List.getElem_cons_zero, List.getElem_cons_succ, List.setIfInBounds_toArray, List.set_cons_zero, List.set_cons_succ]
  refine wpAnyH_take (i := 4) (v := ?_) rfl (by kernel_rfl) (by kernel_rfl) (by kernel_rfl) (fun _ _ _ h => h) (Or.inl ⟨by rfl, ?_⟩) (by assumption) ?_
  rotate_left 1
  · intro w hSw
    (try dsimp only at hSw)
    go_simp
    all_goals (with_reducible rfl)
  try simp only [Act.put, List.getElem_toArray, List.getElem_cons_zero, List.getElem_cons_succ, List.setIfInBounds_toArray, List.set_cons_zero, List.set_cons_succ]
  refine wpAnyH_ready (rs := [5]) (by kernel_rfl) (by simp) ?_
  refine AllReadyH.cons rfl (fun K hK => ?_) AllReadyH.nil
  go_simp
  refine (ckfile0 q p g s.num 1 (s.gen : Int) (s.size : Int) (.slice vx vL vc) _ HT5.out.blk hnum).mono ?_
  rintro e w5 ⟨rfl, rfl⟩
  refine hK.out _ _ (HT5.out.blk.cell 0 rfl) (fun hHeld => ?_)
  clear hK K
  try simp only [Act.put, List.getElem_toArray, List.getElem_cons_zero, List.getElem_cons_succ, List.setIfInBounds_toArray, List.set_cons_zero, List.set_cons_succ]
  refine wpAnyH_ready (rs := [6]) (by kernel_rfl) (by simp) ?_
  refine AllReadyH.cons rfl (fun K hK => ?_) AllReadyH.nil
  go_simp
  refine HCR.out.mono ?_
  rintro e w6 ⟨rfl, ht⟩
  have HT6 := Lib.hid ht
  clear ht
  refine hK.out _ _ (HT6.out.blk.cell 0 rfl) (fun hHeld => ?_)
  clear hK K
  try simp only [Act.put, List.getElem_toArray, List.getElem_cons_zero, List.getElem_cons_succ, List.setIfInBounds_toArray, List.set_cons_zero, List.set_cons_succ]
  refine wpAnyH_take (i := 7) (v := ?_) rfl (by kernel_rfl) (by kernel_rfl) (by kernel_rfl) (fun _ _ _ h => h) (Or.inl ⟨by rfl, ?_⟩) (by assumption) ?_
  rotate_left 1
  · intro w hSw
    (try dsimp only at hSw)
    go_simp
    all_goals (with_reducible rfl)
  try simp only [Act.put, List.getElem_toArray, List.getElem_cons_zero, List.getElem_cons_succ, List.setIfInBounds_toArray, List.set_cons_zero, List.set_cons_succ]
  refine wpAnyH_done (by kernel_rfl) ?_ _
  have x2 : w6.cell? ⟨q, 2, none⟩ = some (.int .i64 1) := HT6.out.blk.cell 2 rfl
  have xf := fun j => HT6.out.blk.free j
  have HT7 := Lib.hid (HT6.out.turn 2)
  clear HT6 HT5
  go_wp2
  go_ret
  exact ⟨_, vx, vc, rfl, HT7.out, HWE.out⟩

end Go.Proofs.YtdchcepgbbdmhaaGreatDoor
end
