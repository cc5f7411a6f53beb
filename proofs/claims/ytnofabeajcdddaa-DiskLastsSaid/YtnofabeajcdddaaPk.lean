/- The laws' Picks, by contract. -/
import Derived.Test.YtnofabeajcdddaaSt
namespace Go.Proofs.Ytnofabeajcdddaa
open Go.RowKit Go.Cor

theorem Try.sizePckR : (Try.prog.info? 109).map (·.size) = some 2 := by kernel_rfl
theorem elem_grown {w w' : World} {b o : Nat} {u v : Value} {row : Option Nat} (h : w.cell? ⟨b, o, none⟩ = some u ∧ w.cell? ⟨b, o + 1, none⟩ = some v) (hg : w.grownBy w' row) (hr : ¬ row = some b) : w'.cell? ⟨b, o, none⟩ = some u ∧ w'.cell? ⟨b, o + 1, none⟩ = some v :=
  ⟨hg.cell h.1 (fun e => hr e.symm), hg.cell h.2 (fun e => hr e.symm)⟩
theorem cell_other {w : World} {b o : Nat} {u : Value} {a : Addr} (h : w.cell? ⟨b, o, none⟩ = some u) (hb : b ≠ a.block) (x : Value) : (w.setCell a x).cell? ⟨b, o, none⟩ = some u :=
  (World.cell?_of_block (w := w) (heap_setCell_other w a b x hb)).trans h

set_option maxRecDepth 100000 in
set_option maxHeartbeats 4000000 in
theorem picks_any (names : Int) (pv : Value) (ps : List Pck) (w : World) (hv : IsX w 2 pv ps.length (row pck ps)) (hl : ps.length ≤ 1000) :
    Calls Try.prog 26 #[.agg #[.int .i64 names, pv]] w fun e w' => ∃ v', e = .returned (.agg #[.int .i64 names, v']) ∧ w'.ownsRow (w.heap.size + 3) 107 2 v' ps.length (row pck ps) ∧ Below w.heap.size w w' := by
  obtain ⟨i0, hi, hz0, hz1, hz2⟩ := info_parts Try.infoPck
  obtain ⟨N, hN⟩ : ∃ N, ps.length = N := ⟨_, rfl⟩
  have hlen := fun W => len_X (P := Try.prog) hv 40 3 _ Try.underlying40 W
  rw [hN] at hlen hl ⊢
  have HV := Lib.hid hv
  have HN := Lib.hid hN
  have HI := Lib.hid hi
  have HZ0 := Lib.hid hz0
  have HZ1 := Lib.hid hz1
  have HZ2 := Lib.hid hz2
  obtain ⟨xp, cp, hpv, _, _⟩ := hv.slice
  have HPV := Lib.hid hpv
  clear hv hN hi hz0 hz1 hz2 hpv
  have hb0 : Blk (((w.alloc (.cells #[.int .i64 names, pv] 42)).alloc (.cells #[.int .i64 0, .slice none 0 0] 64)).alloc (.cells #[.int .i64 names, .slice none 0 0] 64)) w.heap.size #[.int .i64 names, pv] 42 := ((Blk.new w _ _).alloc _).alloc _
  go_enter Try.func26, Try.ntmps26
  go_wp2_with fail
  go_loopw [4] (fun c wr => ∃ (i : Nat) (x : Option Addr) (z : Nat), i ≤ N ∧ c = .int .i64 i ∧ Hid (Blk wr w.heap.size #[.int .i64 names, pv] 42) ∧ Hid (Blk wr (w.heap.size + 1 + 1) #[.int .i64 names, .slice x i z] 64) ∧ Hid (Blk wr (w.heap.size + 1) #[.int .i64 0, .slice none 0 0] 64) ∧ Hid (wr.ownsRow (w.heap.size + 3) 107 2 (.slice x i z) i (row pck (ps.take i))) ∧ Hid (Below w.heap.size w wr)) (fun c _ => N - (intOf c).toNat)
  case atStart =>
    have hb1 := (Blk.new w #[.int .i64 names, pv] 42)
    refine ⟨0, none, 0, Nat.zero_le _, rfl, Lib.hid hb0, Lib.hid ?_, Lib.hid ?_, Lib.hid (World.ownsRow_nil _ _ _ _), Lib.hid ((((Below.refl _ _).alloc (Nat.le_refl _) _).alloc (by simp) _).alloc (by simp; omega) _)⟩
    · have h := Blk.new ((w.alloc (.cells #[.int .i64 names, pv] 42)).alloc (.cells #[.int .i64 0, .slice none 0 0] 64)) #[.int .i64 names, .slice none 0 0] 64
      rw [show ((w.alloc (.cells #[.int .i64 names, pv] 42)).alloc (.cells #[.int .i64 0, .slice none 0 0] 64)).heap.size = w.heap.size + 1 + 1 from by simp] at h
      exact h
    · have h := (Blk.new (w.alloc (.cells #[.int .i64 names, pv] 42)) #[.int .i64 0, .slice none 0 0] 64).alloc (.cells #[.int .i64 names, .slice none 0 0] 64)
      rw [show (w.alloc (.cells #[.int .i64 names, pv] 42)).heap.size = w.heap.size + 1 from by simp] at h
      exact h
  case round =>
    obtain ⟨i, x, z, hiN, rfl, hP, hQ, hR, hO, hB⟩ := hrel
    have HB := hB
    obtain ⟨_, p1⟩ := pbox_facts hP.out
    obtain ⟨q0, o1⟩ := pbox_facts hQ.out
    have hs1 := hQ.out.lt
    by_cases hlt : i < N
    · obtain ⟨p, hp⟩ : ∃ p, ps[i]? = some p := ⟨_, List.getElem?_eq_getElem (by rw [HN.out]; omega)⟩
      obtain ⟨b, o, hidx, hob, hc⟩ := indexAt_X HV.out 40 _ Try.underlying40 Try.sizePckR i (by rw [HN.out]; exact hlt)
      have k0 : wr.cell? ⟨b, o, none⟩ = some (.int .i64 p.keep) := by
        have := hc 0 (by decide)
        rw [row_get pck_len hp 0 (by decide)] at this
        exact (hB.out.cell (cell_lt this)).trans this
      have k1 : wr.cell? ⟨b, o + 1, none⟩ = some (.int .u8 (p.turn.toNat : Int)) := by
        have := hc 1 (by decide)
        rw [row_get pck_len hp 1 (by decide)] at this
        exact (hB.out.cell (cell_lt this)).trans this
      have hbw : b < w.heap.size := by
        have := hc 0 (by decide)
        rw [row_get pck_len hp 0 (by decide)] at this
        exact cell_lt this
      have hbr : b < wr.heap.size := by omega
      have hbn : b ≠ (⟨w.heap.size + 1 + 1, 1, none⟩ : Addr).block := by show b ≠ w.heap.size + 1 + 1; omega
      have HSN := Lib.hid (show row pck (ps.take (i + 1)) = row pck (ps.take i) ++ #[Value.int .i64 p.keep, .int .u8 (p.turn.toNat : Int)].toList from by
        obtain ⟨hi, he⟩ := List.getElem?_eq_some_iff.1 hp
        rw [List.take_succ_eq_append_getElem hi, row_append, row_one, he]
        rfl)
      have HSX := Lib.hid (IsX.lit wr.drew #[.int .i64 p.keep, .int .u8 (p.turn.toNat : Int)] 107 2 1 rfl (by decide))
      have HPA := Lib.hid (Blk.alloc (w := wr.drew) hP.out (.cells #[.int .i64 p.keep, .int .u8 (p.turn.toNat : Int)] 107))
      have HQA := Lib.hid (Blk.alloc (w := wr.drew) hQ.out (.cells #[.int .i64 p.keep, .int .u8 (p.turn.toNat : Int)] 107))
      have HRA := Lib.hid (Blk.alloc (w := wr.drew) hR.out (.cells #[.int .i64 p.keep, .int .u8 (p.turn.toNat : Int)] 107))
      have HOA := Lib.hid (World.ownsRow.alloc (w := wr.drew) (show wr.drew.ownsRow _ _ _ _ _ _ from hO.out) (.cells #[.int .i64 p.keep, .int .u8 (p.turn.toNat : Int)] 107))
      have S0 : wr.drew.cell? ⟨w.heap.size, 1, none⟩ = some pv ∧ wr.drew.cell? ⟨b, o, none⟩ = some (.int .i64 p.keep) ∧ wr.drew.cell? ⟨b, o + 1, none⟩ = some (.int .u8 (p.turn.toNat : Int)) := ⟨p1, k0, k1⟩
      have hba : Below wr.drew.heap.size wr.drew (wr.drew.alloc (.cells #[.int .i64 p.keep, .int .u8 (p.turn.toNat : Int)] 107)) := (Below.refl _ _).alloc (Nat.le_refl _) _
      have SA : (wr.drew.alloc (.cells #[.int .i64 p.keep, .int .u8 (p.turn.toNat : Int)] 107)).cell? ⟨w.heap.size, 1, none⟩ = some pv ∧ (wr.drew.alloc (.cells #[.int .i64 p.keep, .int .u8 (p.turn.toNat : Int)] 107)).cell? ⟨b, o, none⟩ = some (.int .i64 p.keep) ∧ (wr.drew.alloc (.cells #[.int .i64 p.keep, .int .u8 (p.turn.toNat : Int)] 107)).cell? ⟨b, o + 1, none⟩ = some (.int .u8 (p.turn.toNat : Int)) :=
        ⟨(hba.cell (cell_lt S0.1)).trans S0.1, (hba.cell (cell_lt S0.2.1)).trans S0.2.1, (hba.cell (cell_lt S0.2.2)).trans S0.2.2⟩
      have HEA := Lib.hid (And.intro SA.2.1 SA.2.2)
      clear hp hc hob k0 k1
      go_upto_region 5 with fail
      refine wp_region_held_drew (S := (fun wx => wx.cell? ⟨w.heap.size, 1, none⟩ = some pv ∧ wx.cell? ⟨b, o, none⟩ = some (.int .i64 p.keep) ∧ wx.cell? ⟨b, o + 1, none⟩ = some (.int .u8 (p.turn.toNat : Int)))) (by kernel_rfl) (S0) (fun hHeld => ?_)
      refine wpAnyH_take (i := 0) (v := ?_) rfl (by kernel_rfl) (by kernel_rfl) (by kernel_rfl) (fun _ _ _ h => h) (Or.inl ⟨by rfl, ?_⟩) (by assumption) ?_
      rotate_left 1
      · intro w hSw
        (try dsimp only at hSw)
        go_simp
        all_goals (with_reducible rfl)
      try simp only [Act.put, List.getElem_toArray, List.getElem_cons_zero, List.getElem_cons_succ, List.setIfInBounds_toArray, List.set_cons_zero, List.set_cons_succ]
      refine wpAnyH_take (i := 2) (v := ?_) rfl (by kernel_rfl) (by kernel_rfl) (by kernel_rfl) (fun _ _ _ h => h) (Or.inl ⟨by rfl, ?_⟩) (by assumption) ?_
      rotate_left 1
      · intro w hSw
        (try dsimp only at hSw)
        go_simp
        all_goals (with_reducible rfl)
      try simp only [Act.put, List.getElem_toArray, List.getElem_cons_zero, List.getElem_cons_succ, List.setIfInBounds_toArray, List.set_cons_zero, List.set_cons_succ]
      refine wpAnyH_take (i := 3) (v := ?_) rfl (by kernel_rfl) (by kernel_rfl) (by kernel_rfl) (fun _ _ _ h => h) (Or.inl ⟨by rfl, ?_⟩) (by assumption) ?_
      rotate_left 1
      · intro w hSw
        (try dsimp only at hSw)
        go_simp
        all_goals (with_reducible rfl)
      try simp only [Act.put, List.getElem_toArray, List.getElem_cons_zero, List.getElem_cons_succ, List.setIfInBounds_toArray, List.set_cons_zero, List.set_cons_succ]
      refine wpAnyH_take (i := 4) (v := ?_) rfl (by kernel_rfl) (by kernel_rfl) (by kernel_rfl) (fun _ _ _ h => h) (Or.inl ⟨by rfl, ?_⟩) (by assumption) ?_
      rotate_left 1
      · intro w hSw
        (try dsimp only at hSw)
        go_simp
        all_goals (with_reducible rfl)
      try simp only [Act.put, List.getElem_toArray, List.getElem_cons_zero, List.getElem_cons_succ, List.setIfInBounds_toArray, List.set_cons_zero, List.set_cons_succ]
      refine wpAnyH_take (i := 5) (v := ?_) rfl (by kernel_rfl) (by kernel_rfl) (by kernel_rfl) (fun _ _ _ h => h) (Or.inl ⟨by rfl, ?_⟩) (by assumption) ?_
      rotate_left 1
      · intro w hSw
        (try dsimp only at hSw)
        go_simp
        all_goals (with_reducible rfl)
      try simp only [Act.put, List.getElem_toArray, List.getElem_cons_zero, List.getElem_cons_succ, List.setIfInBounds_toArray, List.set_cons_zero, List.set_cons_succ]
      refine wpAnyH_take (i := 6) (v := ?_) rfl (by kernel_rfl) (by kernel_rfl) (by kernel_rfl) (fun _ _ _ h => h) (Or.inl ⟨by rfl, ?_⟩) (by assumption) ?_
      rotate_left 1
      · intro w hSw
        (try dsimp only at hSw)
        go_simp
        all_goals (with_reducible rfl)
      try simp only [Act.put, List.getElem_toArray, List.getElem_cons_zero, List.getElem_cons_succ, List.setIfInBounds_toArray, List.set_cons_zero, List.set_cons_succ]
      refine wpAnyH_ready (rs := [1, 7]) (by kernel_rfl) (by simp) ?_
      refine AllReadyH.cons rfl (fun K hK => ?_) ?_
      · go_simp
        refine hK.out _ _ ((by first | exact S0 | exact SA)) (fun hHeld => ?_)
        clear hK K
        try simp only [Act.put, List.getElem_toArray, List.getElem_cons_zero, List.getElem_cons_succ, List.setIfInBounds_toArray, List.set_cons_zero, List.set_cons_succ]
        refine wpAnyH_ready (rs := [7]) (by kernel_rfl) (by simp) ?_
        refine AllReadyH.cons rfl (fun K hK => ?_) AllReadyH.nil
        go_simp
        refine hK.out _ _ ((by first | exact S0 | exact SA)) (fun hHeld => ?_)
        clear hK K
        try simp only [Act.put, List.getElem_toArray, List.getElem_cons_zero, List.getElem_cons_succ, List.setIfInBounds_toArray, List.set_cons_zero, List.set_cons_succ]
        refine wpAnyH_ready (rs := [8]) (by kernel_rfl) (by simp) ?_
        refine AllReadyH.cons rfl (fun K hK => ?_) AllReadyH.nil
        refine step_append_X (by rfl) _ _ 62 rfl (w.heap.size + 3) 107 i0 _ 2 16 Try.underlying62 HI.out HZ0.out HZ1.out HZ2.out rfl (by decide) _ _ _ rfl HOA.out _ 1 _ rfl HSX.out (by intro u hu; simp only [List.mem_cons, List.not_mem_nil, or_false] at hu; rcases hu with rfl | rfl <;> rfl) (by unfold maxLen; omega) (by omega) (by simp; omega) ?_
        intro v4 w4 hown4 hgr4 hat4
        obtain ⟨x4, z4, rfl, hz4a, hz4b⟩ := ownsRow_slice hown4
        have HP4 := Lib.hid (HPA.out.grown (w' := w4) hgr4 (fun e => by have := (HOA.out.lt _ e).1; omega))
        have HQ4 := Lib.hid (HQA.out.grown (w' := w4) hgr4 (fun e => by have := (HOA.out.lt _ e).1; omega))
        have HR4 := Lib.hid (HRA.out.grown (w' := w4) hgr4 (fun e => by have := (HOA.out.lt _ e).1; omega))
        have hel := elem_grown HEA.out hgr4 (fun e => by have := (HOA.out.lt _ e).1; omega)
        have HB4 := Lib.hid (((HB.out.drew).alloc (by simp; omega) (.cells #[.int .i64 p.keep, .int .u8 (p.turn.toNat : Int)] 107)).grown hgr4 (by simp; omega) (fun j hj => by have := (HOA.out.lt j hj).1; omega))
        have HO4 := Lib.hid hown4
        have m4 := HQ4.out.cell 1 rfl
        have g4 := HQ4.out.free 1
        clear hown4 hgr4 hat4 o1
        
        refine hK.out _ _ (⟨HP4.out.cell 1 rfl, hel.1, hel.2⟩) (fun hHeld => ?_)
        clear hK K
        try simp only [Act.put, List.getElem_toArray, List.getElem_cons_zero, List.getElem_cons_succ, List.setIfInBounds_toArray, List.set_cons_zero, List.set_cons_succ]
        refine wpAnyH_take (i := 9) (v := ?_) rfl (by kernel_rfl) (by kernel_rfl) (by kernel_rfl) (fun _ _ _ h => h) (Or.inl ⟨by rfl, ?_⟩) (by assumption) ?_
        rotate_left 1
        · intro w hSw
          (try dsimp only at hSw)
          go_simp
          all_goals (with_reducible rfl)
        try simp only [Act.put, List.getElem_toArray, List.getElem_cons_zero, List.getElem_cons_succ, List.setIfInBounds_toArray, List.set_cons_zero, List.set_cons_succ]
        refine wpAnyH_ready (rs := [10]) (by kernel_rfl) (by simp) ?_
        refine AllReadyH.cons rfl (fun K hK => ?_) AllReadyH.nil
        go_simp
        refine hK.out _ _ (⟨(HP4.out.other (a := ⟨w.heap.size + 1 + 1, 1, none⟩) (by show w.heap.size + 1 + 1 ≠ w.heap.size; omega) (.slice x4 (i + 1) z4)).cell 1 rfl, (cell_other hel.1 hbn _), (cell_other hel.2 hbn _)⟩) (fun hHeld => ?_)
        clear hK K
        try simp only [Act.put, List.getElem_toArray, List.getElem_cons_zero, List.getElem_cons_succ, List.setIfInBounds_toArray, List.set_cons_zero, List.set_cons_succ]
        refine wpAnyH_done (by kernel_rfl) ?_ _
        go_wp2_with fail
        go_roundw
        case rel => exact ⟨i + 1, x4, z4, by omega, by go_num, Lib.hid (HP4.out.other (a := ⟨w.heap.size + 1 + 1, 1, none⟩) (by show w.heap.size + 1 + 1 ≠ w.heap.size; omega) _), Lib.hid (HQ4.out.set 1 (.slice x4 (i + 1) z4)), Lib.hid (HR4.out.other (a := ⟨w.heap.size + 1 + 1, 1, none⟩) (by show w.heap.size + 1 + 1 ≠ w.heap.size + 1; omega) _), Lib.hid (by rw [HSN.out]; exact ownsRow_kept (S := fun j => j = w.heap.size + 1 + 1) HO4.out ((Kept.refl (fun j => j = w.heap.size + 1 + 1) w4).setCell (p := ⟨w.heap.size + 1 + 1, 1, none⟩) (.inl rfl) _) (fun j e e2 => by have := (HO4.out.lt j e).1; omega)), Lib.hid (HB4.out.setCell (p := ⟨w.heap.size + 1 + 1, 1, none⟩) (by show w.heap.size ≤ w.heap.size + 1 + 1; omega) _)⟩
        case measure => simp [intOf]; omega
      refine AllReadyH.cons rfl (fun K hK => ?_) AllReadyH.nil
      go_simp
      refine hK.out _ _ ((by first | exact S0 | exact SA)) (fun hHeld => ?_)
      clear hK K
      try simp only [Act.put, List.getElem_toArray, List.getElem_cons_zero, List.getElem_cons_succ, List.setIfInBounds_toArray, List.set_cons_zero, List.set_cons_succ]
      refine wpAnyH_ready (rs := [1]) (by kernel_rfl) (by simp) ?_
      refine AllReadyH.cons rfl (fun K hK => ?_) AllReadyH.nil
      go_simp
      refine hK.out _ _ ((by first | exact S0 | exact SA)) (fun hHeld => ?_)
      clear hK K
      try simp only [Act.put, List.getElem_toArray, List.getElem_cons_zero, List.getElem_cons_succ, List.setIfInBounds_toArray, List.set_cons_zero, List.set_cons_succ]
      refine wpAnyH_ready (rs := [8]) (by kernel_rfl) (by simp) ?_
      refine AllReadyH.cons rfl (fun K hK => ?_) AllReadyH.nil
      refine step_append_X (by rfl) _ _ 62 rfl (w.heap.size + 3) 107 i0 _ 2 16 Try.underlying62 HI.out HZ0.out HZ1.out HZ2.out rfl (by decide) _ _ _ rfl HOA.out _ 1 _ rfl HSX.out (by intro u hu; simp only [List.mem_cons, List.not_mem_nil, or_false] at hu; rcases hu with rfl | rfl <;> rfl) (by unfold maxLen; omega) (by omega) (by simp; omega) ?_
      intro v4 w4 hown4 hgr4 hat4
      obtain ⟨x4, z4, rfl, hz4a, hz4b⟩ := ownsRow_slice hown4
      have HP4 := Lib.hid (HPA.out.grown (w' := w4) hgr4 (fun e => by have := (HOA.out.lt _ e).1; omega))
      have HQ4 := Lib.hid (HQA.out.grown (w' := w4) hgr4 (fun e => by have := (HOA.out.lt _ e).1; omega))
      have HR4 := Lib.hid (HRA.out.grown (w' := w4) hgr4 (fun e => by have := (HOA.out.lt _ e).1; omega))
      have hel := elem_grown HEA.out hgr4 (fun e => by have := (HOA.out.lt _ e).1; omega)
      have HB4 := Lib.hid (((HB.out.drew).alloc (by simp; omega) (.cells #[.int .i64 p.keep, .int .u8 (p.turn.toNat : Int)] 107)).grown hgr4 (by simp; omega) (fun j hj => by have := (HOA.out.lt j hj).1; omega))
      have HO4 := Lib.hid hown4
      have m4 := HQ4.out.cell 1 rfl
      have g4 := HQ4.out.free 1
      clear hown4 hgr4 hat4 o1
      
      refine hK.out _ _ (⟨HP4.out.cell 1 rfl, hel.1, hel.2⟩) (fun hHeld => ?_)
      clear hK K
      try simp only [Act.put, List.getElem_toArray, List.getElem_cons_zero, List.getElem_cons_succ, List.setIfInBounds_toArray, List.set_cons_zero, List.set_cons_succ]
      refine wpAnyH_take (i := 9) (v := ?_) rfl (by kernel_rfl) (by kernel_rfl) (by kernel_rfl) (fun _ _ _ h => h) (Or.inl ⟨by rfl, ?_⟩) (by assumption) ?_
      rotate_left 1
      · intro w hSw
        (try dsimp only at hSw)
        go_simp
        all_goals (with_reducible rfl)
      try simp only [Act.put, List.getElem_toArray, List.getElem_cons_zero, List.getElem_cons_succ, List.setIfInBounds_toArray, List.set_cons_zero, List.set_cons_succ]
      refine wpAnyH_ready (rs := [10]) (by kernel_rfl) (by simp) ?_
      refine AllReadyH.cons rfl (fun K hK => ?_) AllReadyH.nil
      go_simp
      refine hK.out _ _ (⟨(HP4.out.other (a := ⟨w.heap.size + 1 + 1, 1, none⟩) (by show w.heap.size + 1 + 1 ≠ w.heap.size; omega) (.slice x4 (i + 1) z4)).cell 1 rfl, (cell_other hel.1 hbn _), (cell_other hel.2 hbn _)⟩) (fun hHeld => ?_)
      clear hK K
      try simp only [Act.put, List.getElem_toArray, List.getElem_cons_zero, List.getElem_cons_succ, List.setIfInBounds_toArray, List.set_cons_zero, List.set_cons_succ]
      refine wpAnyH_done (by kernel_rfl) ?_ _
      go_wp2_with fail
      go_roundw
      case rel => exact ⟨i + 1, x4, z4, by omega, by go_num, Lib.hid (HP4.out.other (a := ⟨w.heap.size + 1 + 1, 1, none⟩) (by show w.heap.size + 1 + 1 ≠ w.heap.size; omega) _), Lib.hid (HQ4.out.set 1 (.slice x4 (i + 1) z4)), Lib.hid (HR4.out.other (a := ⟨w.heap.size + 1 + 1, 1, none⟩) (by show w.heap.size + 1 + 1 ≠ w.heap.size + 1; omega) _), Lib.hid (by rw [HSN.out]; exact ownsRow_kept (S := fun j => j = w.heap.size + 1 + 1) HO4.out ((Kept.refl (fun j => j = w.heap.size + 1 + 1) w4).setCell (p := ⟨w.heap.size + 1 + 1, 1, none⟩) (.inl rfl) _) (fun j e e2 => by have := (HO4.out.lt j e).1; omega)), Lib.hid (HB4.out.setCell (p := ⟨w.heap.size + 1 + 1, 1, none⟩) (by show w.heap.size ≤ w.heap.size + 1 + 1; omega) _)⟩
      case measure => simp [intOf]; omega
    · obtain rfl : i = N := by omega
      obtain ⟨r0, r1⟩ := pbox_facts hR.out
      have fr0 := hR.out.free 0
      have fr1 := hR.out.free 1
      go_wp2
      have h2 := ((hR.out.set 0 (.int .i64 names)).set 1 (.slice x i z))
      have e0 := h2.cell 0 (v := .int .i64 names) rfl
      have e1 := h2.cell 1 (v := .slice x i z) rfl
      refine bodyPost_ret (v := .agg #[.int .i64 names, .slice x i z]) (by simp [results, Try.results26, go_sem, e0, e1]) rfl ⟨_, rfl, ?_, ?_⟩
      · have h := hO.out
        rw [List.take_of_length_le (by rw [HN.out]; exact Nat.le_refl _)] at h
        exact ownsRow_kept (S := fun j => j = w.heap.size + 1) h (((Kept.refl (fun j => j = w.heap.size + 1) wr).setCell (p := ⟨w.heap.size + 1, 0, none⟩) (.inl rfl) _).setCell (p := ⟨w.heap.size + 1, 1, none⟩) (.inl rfl) _) (fun j e e2 => by have := (h.lt j e).1; omega)
      · exact (hB.out.setCell (p := ⟨w.heap.size + 1, 0, none⟩) (by show w.heap.size ≤ w.heap.size + 1; omega) _).setCell (p := ⟨w.heap.size + 1, 1, none⟩) (by show w.heap.size ≤ w.heap.size + 1; omega) _

end Go.Proofs.Ytnofabeajcdddaa
