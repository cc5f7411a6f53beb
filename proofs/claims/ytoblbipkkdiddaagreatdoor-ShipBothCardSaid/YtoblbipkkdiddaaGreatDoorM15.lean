/- Rdo3, Far9, MadeI, Shipa, MadeJ. -/
import Derived.Test.YtoblbipkkdiddaaGreatDoorM14
import Derived.Test.YtoblbipkkdiddaaGreatDoorM9
set_option linter.unusedVariables false
set_option linter.unusedSimpArgs false

section
namespace Go.Proofs.YtoblbipkkdiddaaGreatDoor
open Go.RowKit Go.Cor

theorem Tryz.infoPs5 : (Tryz.prog.info? 67).map (fun i => (i.zero, i.size, i.bytes)) = some (some (.agg #[.int .u64 0, .int .i64 0, .int .i64 0, .int .u32 0, .bool false]), 5, 32) := by kernel_rfl
theorem Tryz.sizePs5 : (Tryz.prog.info? 67).map (·.size) = some 5 := by kernel_rfl
set_option maxRecDepth 100000 in
set_option maxHeartbeats 1000000 in
theorem rdo_3 (m : Int) (key cookie : Nat) (gone : Bool) (data : List UInt8) (x : Option Addr) (vL vc : Nat) (S : Nat → Prop) (s : Vst) (lv dv : Value) (ps : List (Ndl × Value)) (w : World) (h : DocP w S s lv dv ps) (hSw : ∀ b, S b → b < w.heap.size) (hI2 : s.idx.length ≤ 1048576) :
    Calls Tryz.prog 30 #[dval s lv dv, .agg #[.int .i64 3, .int .i64 m, .int .u64 (key : Int), .int .u32 (cookie : Int), .bool gone, .slice x vL vc]] w (DoR w S s 0) := by
  obtain ⟨lx, lc, rfl, _, _⟩ := IsX.slice h.l
  obtain ⟨dx, dc, rfl, _, _⟩ := IsX.slice h.d.1
  have hpl : ps.length = s.ns.length := by rw [← h.ns, List.length_map]
  obtain ⟨I, hI⟩ : ∃ I, s.idx.length = I := ⟨_, rfl⟩
  obtain ⟨N, hN⟩ : ∃ N, ps.length = N := ⟨_, rfl⟩
  rw [hI] at hI2
  rw [hI, hN] at h ⊢
  have HB0 := Lib.hid (five_below w #[.int .i64 (s.num : Int), .int .i64 (s.most : Int), .int .i64 (s.epoch : Int), .int .i64 (s.size : Int), .bool s.shut, .slice lx I lc, .slice dx N dc] #[.int .i64 3, .int .i64 m, .int .u64 (key : Int), .int .u32 (cookie : Int), .bool gone, .slice x vL vc] #[.int .i64 0, .int .i64 0, .int .i64 0, .int .i64 0, .bool false, .slice none 0 0, .slice none 0 0] #[.int .u64 0, .int .u32 0, .bool false, .slice none 0 0] #[.int .u64 0, .int .u32 0, .bool false, .slice none 0 0] 30 86 30 47 47)
  have HD := Lib.hid (show DocP (((((w.alloc (.cells #[.int .i64 (s.num : Int), .int .i64 (s.most : Int), .int .i64 (s.epoch : Int), .int .i64 (s.size : Int), .bool s.shut, .slice lx I lc, .slice dx N dc] 30)).alloc (.cells #[.int .i64 3, .int .i64 m, .int .u64 (key : Int), .int .u32 (cookie : Int), .bool gone, .slice x vL vc] 86)).alloc (.cells #[.int .i64 0, .int .i64 0, .int .i64 0, .int .i64 0, .bool false, .slice none 0 0, .slice none 0 0] 30)).alloc (.cells #[.int .u64 0, .int .u32 0, .bool false, .slice none 0 0] 47)).alloc (.cells #[.int .u64 0, .int .u32 0, .bool false, .slice none 0 0] 47)) (fun b => S b ∨ (w.heap.size ≤ b ∧ b < w.heap.size + 5)) s (.slice lx I lc) (.slice dx N dc) ps from (h.kept (Kept.refl S w) (fun b hb => .inl hb) |>.kept (S' := (fun b => S b ∨ (w.heap.size ≤ b ∧ b < w.heap.size + 5))) (Kept.refl S w) (fun b hb => by rcases hb with hb | hb; exact .inl hb; exact .inr hb.1)).below HB0.out)
  have HI := Lib.hid hI
  clear h hI hN hpl hSw
  go_enter Tryz.func30, Tryz.ntmps30
  go_upto_region 16 with fail
  have hb := Below.refl (((((w.alloc (.cells #[.int .i64 (s.num : Int), .int .i64 (s.most : Int), .int .i64 (s.epoch : Int), .int .i64 (s.size : Int), .bool s.shut, .slice lx I lc, .slice dx N dc] 30)).alloc (.cells #[.int .i64 3, .int .i64 m, .int .u64 (key : Int), .int .u32 (cookie : Int), .bool gone, .slice x vL vc] 86)).alloc (.cells #[.int .i64 0, .int .i64 0, .int .i64 0, .int .i64 0, .bool false, .slice none 0 0, .slice none 0 0] 30)).alloc (.cells #[.int .u64 0, .int .u32 0, .bool false, .slice none 0 0] 47)).alloc (.cells #[.int .u64 0, .int .u32 0, .bool false, .slice none 0 0] 47)).heap.size (((((w.alloc (.cells #[.int .i64 (s.num : Int), .int .i64 (s.most : Int), .int .i64 (s.epoch : Int), .int .i64 (s.size : Int), .bool s.shut, .slice lx I lc, .slice dx N dc] 30)).alloc (.cells #[.int .i64 3, .int .i64 m, .int .u64 (key : Int), .int .u32 (cookie : Int), .bool gone, .slice x vL vc] 86)).alloc (.cells #[.int .i64 0, .int .i64 0, .int .i64 0, .int .i64 0, .bool false, .slice none 0 0, .slice none 0 0] 30)).alloc (.cells #[.int .u64 0, .int .u32 0, .bool false, .slice none 0 0] 47)).alloc (.cells #[.int .u64 0, .int .u32 0, .bool false, .slice none 0 0] 47))
  obtain ⟨hV, hA, hT, hR, hZ, hB, hlt⟩ := five_facts hb
  have HV := Lib.hid hV
  have HA := Lib.hid hA
  have HT := Lib.hid hT
  have HR := Lib.hid hR
  have HZ := Lib.hid hZ
  have HBB := Lib.hid hB
  have HDD := HD
  clear hV hA hT hR hZ hB hb
  obtain ⟨w2, hw2⟩ : ∃ w2, (((((w.alloc (.cells #[.int .i64 (s.num : Int), .int .i64 (s.most : Int), .int .i64 (s.epoch : Int), .int .i64 (s.size : Int), .bool s.shut, .slice lx I lc, .slice dx N dc] 30)).alloc (.cells #[.int .i64 3, .int .i64 m, .int .u64 (key : Int), .int .u32 (cookie : Int), .bool gone, .slice x vL vc] 86)).alloc (.cells #[.int .i64 0, .int .i64 0, .int .i64 0, .int .i64 0, .bool false, .slice none 0 0, .slice none 0 0] 30)).alloc (.cells #[.int .u64 0, .int .u32 0, .bool false, .slice none 0 0] 47)).alloc (.cells #[.int .u64 0, .int .u32 0, .bool false, .slice none 0 0] 47)) = w2 := ⟨_, rfl⟩
  rw [hw2] at HV HA HT HR HZ HBB HDD hlt
  rw [hw2]
  clear HB0 HD hw2
  obtain ⟨i0, hi, hz0, hz1, hz2⟩ := info_parts Tryz.infoPs5
  go_wp2_with fail
  go_loopw [16, 17] (fun l c wq => ∃ (i n cap : Nat) (xa : Option Addr) (xs : List Value), i ≤ I ∧ n ≤ i ∧ c = .int .i64 (i : Int) ∧ l = .slice xa n cap ∧ Hid (Below w2.heap.size w2 wq) ∧ Hid (wq.ownsRow w2.heap.size 67 5 (.slice xa n cap) n xs)) (fun _ c _ => (I - intOf c).toNat)
  case atStart => exact ⟨0, 0, 0, none, [], Nat.zero_le _, Nat.le_refl _, rfl, rfl, Lib.hid (Below.refl _ _), Lib.hid (World.ownsRow_nil _ _ _ _)⟩
  case round =>
    obtain ⟨i, n, cap, xa, xs, hiI, hni, rfl, rfl, HW, HO⟩ := hrel
    have v5 := (HV.out.below HW.out HV.out.lt).cell 5 rfl
    have a1 := (HA.out.below HW.out HA.out.lt).cell 1 rfl
    have a2 := (HA.out.below HW.out HA.out.lt).cell 2 rfl
    by_cases hlt2 : i < I
    · obtain ⟨b, o, hidx, hp⟩ := Q.indexAt_P (P := Tryz.prog) (HDD.out.l.mono HW.out (Nat.le_refl _)) 27 67 Tryz.underlying27 Tryz.sizePs5 i (by rw [HI.out]; exact hlt2)
      obtain ⟨⟨pk, po, pl, pc, pg⟩, hpp⟩ : ∃ p, pat s.idx i = p := ⟨_, rfl⟩
      rw [hpp] at hp
      obtain ⟨c0, c1, c2, c3, c4⟩ := hp
      dsimp only at c0 c1 c2 c3 c4
      clear hpp
      have e1 : IntKind.i64.wrap ((i : Int) + 1) = (i : Int) + 1 := IntWalk.i64_in _ (by omega)
      have hs := HW.out.size
      by_cases hk : key ≤ pk
      · have hk2 : (key : Int) ≤ (pk : Int) := by omega
        by_cases hm : (n : Int) < m
        · go_upto_region 20 with fail
          refine wp_region_held_drew (S := (fun wx => wx.cell? ⟨w.heap.size, 5, none⟩ = some (.slice lx I lc) ∧ wx.cell? ⟨w.heap.size + 1, 1, none⟩ = some (.int .i64 m) ∧ wx.cell? ⟨w.heap.size + 1, 2, none⟩ = some (.int .u64 (key : Int)) ∧ wx.cell? ⟨b, o, none⟩ = some (.int .u64 (pk : Int)))) (by kernel_rfl) (⟨v5, a1, a2, c0⟩) (fun hHeld => ?_)
          refine wpAnyH_take (i := 0) (v := ?_) rfl (by kernel_rfl) (by kernel_rfl) (by kernel_rfl) (fun _ _ _ h => h) (Or.inl ⟨by rfl, ?_⟩) (by assumption) ?_
          rotate_left 1
          · intro w hSw
            (try dsimp only at hSw)
            go_simp
            all_goals (with_reducible rfl)
          try simp only [Act.put, List.getElem_toArray, List.getElem_cons_zero, List.getElem_cons_succ, List.setIfInBounds_toArray, List.set_cons_zero, List.set_cons_succ]
          refine wpAnyH_take (i := 1) (v := ?_) rfl (by kernel_rfl) (by kernel_rfl) (by kernel_rfl) (fun _ _ _ h => h) (Or.inl ⟨by rfl, ?_⟩) (by assumption) ?_
          rotate_left 1
          · intro w hSw
            (try dsimp only at hSw)
            go_simp
            all_goals (with_reducible rfl)
          try simp only [Act.put, List.getElem_toArray, List.getElem_cons_zero, List.getElem_cons_succ, List.setIfInBounds_toArray, List.set_cons_zero, List.set_cons_succ]
          refine wpAnyH_take (i := 2) (v := ?_) rfl (by kernel_rfl) (by kernel_rfl) (by kernel_rfl) (fun _ _ _ h => h) (Or.inl ⟨by rfl, ?_⟩) (by assumption) ?_
          rotate_left 1
          · intro w hSw
            (try dsimp only at hSw)
            go_simp
            all_goals (with_reducible rfl)
          try simp only [Act.put, List.getElem_toArray, List.getElem_cons_zero, List.getElem_cons_succ, List.setIfInBounds_toArray, List.set_cons_zero, List.set_cons_succ]
          refine wpAnyH_take (i := 3) (v := ?_) rfl (by kernel_rfl) (by kernel_rfl) (by kernel_rfl) (fun _ _ _ h => h) (Or.inl ⟨by rfl, ?_⟩) (by assumption) ?_
          rotate_left 1
          · intro w hSw
            (try dsimp only at hSw)
            go_simp
            all_goals (with_reducible rfl)
          try simp only [Act.put, List.getElem_toArray, List.getElem_cons_zero, List.getElem_cons_succ, List.setIfInBounds_toArray, List.set_cons_zero, List.set_cons_succ]
          refine wpAnyH_take (i := 4) (v := ?_) rfl (by kernel_rfl) (by kernel_rfl) (by kernel_rfl) (fun _ _ _ h => h) (Or.inl ⟨by rfl, ?_⟩) (by assumption) ?_
          rotate_left 1
          · intro w hSw
            (try dsimp only at hSw)
            go_simp
            all_goals (with_reducible rfl)
          try simp only [Act.put, List.getElem_toArray, List.getElem_cons_zero, List.getElem_cons_succ, List.setIfInBounds_toArray, List.set_cons_zero, List.set_cons_succ]
          refine wpAnyH_take (i := 5) (v := ?_) rfl (by kernel_rfl) (by kernel_rfl) (by kernel_rfl) (fun _ _ _ h => h) (Or.inl ⟨by rfl, ?_⟩) (by assumption) ?_
          rotate_left 1
          · intro w hSw
            (try dsimp only at hSw)
            go_simp
            all_goals (with_reducible rfl)
          try simp only [Act.put, List.getElem_toArray, List.getElem_cons_zero, List.getElem_cons_succ, List.setIfInBounds_toArray, List.set_cons_zero, List.set_cons_succ]
          refine wpAnyH_take (i := 6) (v := ?_) rfl (by kernel_rfl) (by kernel_rfl) (by kernel_rfl) (fun _ _ _ h => h) (Or.inl ⟨by rfl, ?_⟩) (by assumption) ?_
          rotate_left 1
          · intro w hSw
            (try dsimp only at hSw)
            go_simp
            all_goals (with_reducible rfl)
          try simp only [Act.put, List.getElem_toArray, List.getElem_cons_zero, List.getElem_cons_succ, List.setIfInBounds_toArray, List.set_cons_zero, List.set_cons_succ]
          refine wpAnyH_take (i := 7) (v := ?_) rfl (by kernel_rfl) (by kernel_rfl) (by kernel_rfl) (fun _ _ _ h => h) (Or.inl ⟨by rfl, ?_⟩) (by assumption) ?_
          rotate_left 1
          · intro w hSw
            (try dsimp only at hSw)
            go_simp
            all_goals (with_reducible rfl)
          try simp only [Act.put, List.getElem_toArray, List.getElem_cons_zero, List.getElem_cons_succ, List.setIfInBounds_toArray, List.set_cons_zero, List.set_cons_succ]
          refine wpAnyH_take (i := 8) (v := ?_) rfl (by kernel_rfl) (by kernel_rfl) (by kernel_rfl) (fun _ _ _ h => h) (Or.inl ⟨by rfl, ?_⟩) (by assumption) ?_
          rotate_left 1
          · intro w hSw
            (try dsimp only at hSw)
            go_simp
            all_goals (with_reducible rfl)
          try simp only [Act.put, List.getElem_toArray, List.getElem_cons_zero, List.getElem_cons_succ, List.setIfInBounds_toArray, List.set_cons_zero, List.set_cons_succ]
          refine wpAnyH_take (i := 9) (v := ?_) rfl (by kernel_rfl) (by kernel_rfl) (by kernel_rfl) (fun _ _ _ h => h) (Or.inl ⟨by rfl, ?_⟩) (by assumption) ?_
          rotate_left 1
          · intro w hSw
            (try dsimp only at hSw)
            go_simp
            all_goals (with_reducible rfl)
          try simp only [Act.put, List.getElem_toArray, List.getElem_cons_zero, List.getElem_cons_succ, List.setIfInBounds_toArray, List.set_cons_zero, List.set_cons_succ]
          refine wpAnyH_take (i := 10) (v := ?_) rfl (by kernel_rfl) (by kernel_rfl) (by kernel_rfl) (fun _ _ _ h => h) (Or.inl ⟨by rfl, ?_⟩) (by assumption) ?_
          rotate_left 1
          · intro w hSw
            (try dsimp only at hSw)
            go_simp
            all_goals (with_reducible rfl)
          try simp only [Act.put, List.getElem_toArray, List.getElem_cons_zero, List.getElem_cons_succ, List.setIfInBounds_toArray, List.set_cons_zero, List.set_cons_succ]
          refine wpAnyH_take (i := 11) (v := ?_) rfl (by kernel_rfl) (by kernel_rfl) (by kernel_rfl) (fun _ _ _ h => h) (Or.inl ⟨by rfl, ?_⟩) (by assumption) ?_
          rotate_left 1
          · intro w hSw
            (try dsimp only at hSw)
            go_simp
            all_goals (with_reducible rfl)
          try simp only [Act.put, List.getElem_toArray, List.getElem_cons_zero, List.getElem_cons_succ, List.setIfInBounds_toArray, List.set_cons_zero, List.set_cons_succ]
          refine wpAnyH_take (i := 12) (v := ?_) rfl (by kernel_rfl) (by kernel_rfl) (by kernel_rfl) (fun _ _ _ h => h) (Or.inl ⟨by rfl, ?_⟩) (by assumption) ?_
          rotate_left 1
          · intro w hSw
            (try dsimp only at hSw)
            go_simp
            all_goals (with_reducible rfl)
          try simp only [Act.put, List.getElem_toArray, List.getElem_cons_zero, List.getElem_cons_succ, List.setIfInBounds_toArray, List.set_cons_zero, List.set_cons_succ]
          refine wpAnyH_take (i := 13) (v := ?_) rfl (by kernel_rfl) (by kernel_rfl) (by kernel_rfl) (fun _ _ _ h => h) (Or.inl ⟨by rfl, ?_⟩) (by assumption) ?_
          rotate_left 1
          · intro w hSw
            (try dsimp only at hSw)
            go_simp
            all_goals (with_reducible rfl)
          try simp only [Act.put, List.getElem_toArray, List.getElem_cons_zero, List.getElem_cons_succ, List.setIfInBounds_toArray, List.set_cons_zero, List.set_cons_succ]
          refine wpAnyH_take (i := 14) (v := ?_) rfl (by kernel_rfl) (by kernel_rfl) (by kernel_rfl) (fun _ _ _ h => h) (Or.inl ⟨by rfl, ?_⟩) (by assumption) ?_
          rotate_left 1
          · intro w hSw
            (try dsimp only at hSw)
            go_simp
            all_goals (with_reducible rfl)
          try simp only [Act.put, List.getElem_toArray, List.getElem_cons_zero, List.getElem_cons_succ, List.setIfInBounds_toArray, List.set_cons_zero, List.set_cons_succ]
          refine wpAnyH_take (i := 15) (v := ?_) rfl (by kernel_rfl) (by kernel_rfl) (by kernel_rfl) (fun _ _ _ h => h) (Or.inl ⟨by rfl, ?_⟩) (by assumption) ?_
          rotate_left 1
          · intro w hSw
            (try dsimp only at hSw)
            go_simp
            all_goals (with_reducible rfl)
          try simp only [Act.put, List.getElem_toArray, List.getElem_cons_zero, List.getElem_cons_succ, List.setIfInBounds_toArray, List.set_cons_zero, List.set_cons_succ]
          refine wpAnyH_take (i := 16) (v := ?_) rfl (by kernel_rfl) (by kernel_rfl) (by kernel_rfl) (fun _ _ _ h => h) (Or.inl ⟨by rfl, ?_⟩) (by assumption) ?_
          rotate_left 1
          · intro w hSw
            (try dsimp only at hSw)
            go_simp
            all_goals (with_reducible rfl)
          try simp only [Act.put, List.getElem_toArray, List.getElem_cons_zero, List.getElem_cons_succ, List.setIfInBounds_toArray, List.set_cons_zero, List.set_cons_succ]
          refine wpAnyH_done (by kernel_rfl) ?_ _
          go_wp2_with (at_builtin; refine wpList_append_X (by rfl) _ _ 27 27 rfl (fun _ _ _ => rfl) w2.heap.size 67 i0 _ 5 32 Tryz.underlying27 hi hz0 hz1 hz2 rfl (by decide) _ xs n rfl (HO.out.drew.alloc _) _ 1 [.int .u64 (pk : Int), .int .i64 po, .int .i64 pl, .int .u32 (pc : Int), .bool pg] rfl (IsX.own (World.ownsRow_lit _ #[.int .u64 (pk : Int), .int .i64 po, .int .i64 pl, .int .u32 (pc : Int), .bool pg] 1 (Nat.le_refl _) (by unfold maxLen; omega) rfl)) (by simp [Value.oneCell']) ?c1 ?c2 ?c3 ?_)
          case c1 => unfold maxLen; omega
          case c2 => omega
          case c3 => simp; omega
          intro v4 w4 hown4 hgr4 hl4
          obtain ⟨xa4, cap4, rfl, _, _⟩ := ownsRow_slice hown4
          have HW4 := Lib.hid ((HW.out.drew.alloc hs (.cells #[.int .u64 (pk : Int), .int .i64 po, .int .i64 pl, .int .u32 (pc : Int), .bool pg] 67)).grown hgr4 (by simp; omega) (fun k e => (HO.out.lt k e).1))
          have HO4 := Lib.hid hown4
          clear hown4 hgr4 hl4
          go_wp2
          go_roundw
          case rel => exact ⟨i + 1, n + 1, cap4, xa4, _, by omega, by omega, by simp, by trivial, HW4, HO4⟩
          case measure => simp [intOf] <;> omega
        · go_upto_region 20 with fail
          refine wp_region_held_drew (S := (fun wx => wx.cell? ⟨w.heap.size, 5, none⟩ = some (.slice lx I lc) ∧ wx.cell? ⟨w.heap.size + 1, 1, none⟩ = some (.int .i64 m) ∧ wx.cell? ⟨w.heap.size + 1, 2, none⟩ = some (.int .u64 (key : Int)) ∧ wx.cell? ⟨b, o, none⟩ = some (.int .u64 (pk : Int)))) (by kernel_rfl) (⟨v5, a1, a2, c0⟩) (fun hHeld => ?_)
          refine wpAnyH_take (i := 0) (v := ?_) rfl (by kernel_rfl) (by kernel_rfl) (by kernel_rfl) (fun _ _ _ h => h) (Or.inl ⟨by rfl, ?_⟩) (by assumption) ?_
          rotate_left 1
          · intro w hSw
            (try dsimp only at hSw)
            go_simp
            all_goals (with_reducible rfl)
          try simp only [Act.put, List.getElem_toArray, List.getElem_cons_zero, List.getElem_cons_succ, List.setIfInBounds_toArray, List.set_cons_zero, List.set_cons_succ]
          refine wpAnyH_take (i := 1) (v := ?_) rfl (by kernel_rfl) (by kernel_rfl) (by kernel_rfl) (fun _ _ _ h => h) (Or.inl ⟨by rfl, ?_⟩) (by assumption) ?_
          rotate_left 1
          · intro w hSw
            (try dsimp only at hSw)
            go_simp
            all_goals (with_reducible rfl)
          try simp only [Act.put, List.getElem_toArray, List.getElem_cons_zero, List.getElem_cons_succ, List.setIfInBounds_toArray, List.set_cons_zero, List.set_cons_succ]
          refine wpAnyH_take (i := 2) (v := ?_) rfl (by kernel_rfl) (by kernel_rfl) (by kernel_rfl) (fun _ _ _ h => h) (Or.inl ⟨by rfl, ?_⟩) (by assumption) ?_
          rotate_left 1
          · intro w hSw
            (try dsimp only at hSw)
            go_simp
            all_goals (with_reducible rfl)
          try simp only [Act.put, List.getElem_toArray, List.getElem_cons_zero, List.getElem_cons_succ, List.setIfInBounds_toArray, List.set_cons_zero, List.set_cons_succ]
          refine wpAnyH_take (i := 3) (v := ?_) rfl (by kernel_rfl) (by kernel_rfl) (by kernel_rfl) (fun _ _ _ h => h) (Or.inl ⟨by rfl, ?_⟩) (by assumption) ?_
          rotate_left 1
          · intro w hSw
            (try dsimp only at hSw)
            go_simp
            all_goals (with_reducible rfl)
          try simp only [Act.put, List.getElem_toArray, List.getElem_cons_zero, List.getElem_cons_succ, List.setIfInBounds_toArray, List.set_cons_zero, List.set_cons_succ]
          refine wpAnyH_take (i := 4) (v := ?_) rfl (by kernel_rfl) (by kernel_rfl) (by kernel_rfl) (fun _ _ _ h => h) (Or.inl ⟨by rfl, ?_⟩) (by assumption) ?_
          rotate_left 1
          · intro w hSw
            (try dsimp only at hSw)
            go_simp
            all_goals (with_reducible rfl)
          try simp only [Act.put, List.getElem_toArray, List.getElem_cons_zero, List.getElem_cons_succ, List.setIfInBounds_toArray, List.set_cons_zero, List.set_cons_succ]
          refine wpAnyH_take (i := 5) (v := ?_) rfl (by kernel_rfl) (by kernel_rfl) (by kernel_rfl) (fun _ _ _ h => h) (Or.inl ⟨by rfl, ?_⟩) (by assumption) ?_
          rotate_left 1
          · intro w hSw
            (try dsimp only at hSw)
            go_simp
            all_goals (with_reducible rfl)
          try simp only [Act.put, List.getElem_toArray, List.getElem_cons_zero, List.getElem_cons_succ, List.setIfInBounds_toArray, List.set_cons_zero, List.set_cons_succ]
          refine wpAnyH_take (i := 6) (v := ?_) rfl (by kernel_rfl) (by kernel_rfl) (by kernel_rfl) (fun _ _ _ h => h) (Or.inl ⟨by rfl, ?_⟩) (by assumption) ?_
          rotate_left 1
          · intro w hSw
            (try dsimp only at hSw)
            go_simp
            all_goals (with_reducible rfl)
          try simp only [Act.put, List.getElem_toArray, List.getElem_cons_zero, List.getElem_cons_succ, List.setIfInBounds_toArray, List.set_cons_zero, List.set_cons_succ]
          refine wpAnyH_take (i := 7) (v := ?_) rfl (by kernel_rfl) (by kernel_rfl) (by kernel_rfl) (fun _ _ _ h => h) (Or.inl ⟨by rfl, ?_⟩) (by assumption) ?_
          rotate_left 1
          · intro w hSw
            (try dsimp only at hSw)
            go_simp
            all_goals (with_reducible rfl)
          try simp only [Act.put, List.getElem_toArray, List.getElem_cons_zero, List.getElem_cons_succ, List.setIfInBounds_toArray, List.set_cons_zero, List.set_cons_succ]
          refine wpAnyH_take (i := 8) (v := ?_) rfl (by kernel_rfl) (by kernel_rfl) (by kernel_rfl) (fun _ _ _ h => h) (Or.inl ⟨by rfl, ?_⟩) (by assumption) ?_
          rotate_left 1
          · intro w hSw
            (try dsimp only at hSw)
            go_simp
            all_goals (with_reducible rfl)
          try simp only [Act.put, List.getElem_toArray, List.getElem_cons_zero, List.getElem_cons_succ, List.setIfInBounds_toArray, List.set_cons_zero, List.set_cons_succ]
          refine wpAnyH_take (i := 9) (v := ?_) rfl (by kernel_rfl) (by kernel_rfl) (by kernel_rfl) (fun _ _ _ h => h) (Or.inl ⟨by rfl, ?_⟩) (by assumption) ?_
          rotate_left 1
          · intro w hSw
            (try dsimp only at hSw)
            go_simp
            all_goals (with_reducible rfl)
          try simp only [Act.put, List.getElem_toArray, List.getElem_cons_zero, List.getElem_cons_succ, List.setIfInBounds_toArray, List.set_cons_zero, List.set_cons_succ]
          refine wpAnyH_take (i := 10) (v := ?_) rfl (by kernel_rfl) (by kernel_rfl) (by kernel_rfl) (fun _ _ _ h => h) (Or.inl ⟨by rfl, ?_⟩) (by assumption) ?_
          rotate_left 1
          · intro w hSw
            (try dsimp only at hSw)
            go_simp
            all_goals (with_reducible rfl)
          try simp only [Act.put, List.getElem_toArray, List.getElem_cons_zero, List.getElem_cons_succ, List.setIfInBounds_toArray, List.set_cons_zero, List.set_cons_succ]
          refine wpAnyH_take (i := 11) (v := ?_) rfl (by kernel_rfl) (by kernel_rfl) (by kernel_rfl) (fun _ _ _ h => h) (Or.inl ⟨by rfl, ?_⟩) (by assumption) ?_
          rotate_left 1
          · intro w hSw
            (try dsimp only at hSw)
            go_simp
            all_goals (with_reducible rfl)
          try simp only [Act.put, List.getElem_toArray, List.getElem_cons_zero, List.getElem_cons_succ, List.setIfInBounds_toArray, List.set_cons_zero, List.set_cons_succ]
          refine wpAnyH_take (i := 12) (v := ?_) rfl (by kernel_rfl) (by kernel_rfl) (by kernel_rfl) (fun _ _ _ h => h) (Or.inl ⟨by rfl, ?_⟩) (by assumption) ?_
          rotate_left 1
          · intro w hSw
            (try dsimp only at hSw)
            go_simp
            all_goals (with_reducible rfl)
          try simp only [Act.put, List.getElem_toArray, List.getElem_cons_zero, List.getElem_cons_succ, List.setIfInBounds_toArray, List.set_cons_zero, List.set_cons_succ]
          refine wpAnyH_take (i := 13) (v := ?_) rfl (by kernel_rfl) (by kernel_rfl) (by kernel_rfl) (fun _ _ _ h => h) (Or.inl ⟨by rfl, ?_⟩) (by assumption) ?_
          rotate_left 1
          · intro w hSw
            (try dsimp only at hSw)
            go_simp
            all_goals (with_reducible rfl)
          try simp only [Act.put, List.getElem_toArray, List.getElem_cons_zero, List.getElem_cons_succ, List.setIfInBounds_toArray, List.set_cons_zero, List.set_cons_succ]
          refine wpAnyH_take (i := 14) (v := ?_) rfl (by kernel_rfl) (by kernel_rfl) (by kernel_rfl) (fun _ _ _ h => h) (Or.inl ⟨by rfl, ?_⟩) (by assumption) ?_
          rotate_left 1
          · intro w hSw
            (try dsimp only at hSw)
            go_simp
            all_goals (with_reducible rfl)
          try simp only [Act.put, List.getElem_toArray, List.getElem_cons_zero, List.getElem_cons_succ, List.setIfInBounds_toArray, List.set_cons_zero, List.set_cons_succ]
          refine wpAnyH_take (i := 15) (v := ?_) rfl (by kernel_rfl) (by kernel_rfl) (by kernel_rfl) (fun _ _ _ h => h) (Or.inl ⟨by rfl, ?_⟩) (by assumption) ?_
          rotate_left 1
          · intro w hSw
            (try dsimp only at hSw)
            go_simp
            all_goals (with_reducible rfl)
          try simp only [Act.put, List.getElem_toArray, List.getElem_cons_zero, List.getElem_cons_succ, List.setIfInBounds_toArray, List.set_cons_zero, List.set_cons_succ]
          refine wpAnyH_take (i := 16) (v := ?_) rfl (by kernel_rfl) (by kernel_rfl) (by kernel_rfl) (fun _ _ _ h => h) (Or.inl ⟨by rfl, ?_⟩) (by assumption) ?_
          rotate_left 1
          · intro w hSw
            (try dsimp only at hSw)
            go_simp
            all_goals (with_reducible rfl)
          try simp only [Act.put, List.getElem_toArray, List.getElem_cons_zero, List.getElem_cons_succ, List.setIfInBounds_toArray, List.set_cons_zero, List.set_cons_succ]
          refine wpAnyH_done (by kernel_rfl) ?_ _
          go_wp2
          go_roundw
          case rel => exact ⟨i + 1, n, cap, xa, xs, by omega, by omega, by simp, by trivial, Lib.hid HW.out.drew, Lib.hid HO.out.drew⟩
          case measure => simp [intOf] <;> omega
      · have hk2 : ¬ (key : Int) ≤ (pk : Int) := by omega
        go_upto_region 20 with fail
        refine wp_region_held_drew (S := (fun wx => wx.cell? ⟨w.heap.size, 5, none⟩ = some (.slice lx I lc) ∧ wx.cell? ⟨w.heap.size + 1, 1, none⟩ = some (.int .i64 m) ∧ wx.cell? ⟨w.heap.size + 1, 2, none⟩ = some (.int .u64 (key : Int)) ∧ wx.cell? ⟨b, o, none⟩ = some (.int .u64 (pk : Int)))) (by kernel_rfl) (⟨v5, a1, a2, c0⟩) (fun hHeld => ?_)
        refine wpAnyH_take (i := 0) (v := ?_) rfl (by kernel_rfl) (by kernel_rfl) (by kernel_rfl) (fun _ _ _ h => h) (Or.inl ⟨by rfl, ?_⟩) (by assumption) ?_
        rotate_left 1
        · intro w hSw
          (try dsimp only at hSw)
          go_simp
          all_goals (with_reducible rfl)
        try simp only [Act.put, List.getElem_toArray, List.getElem_cons_zero, List.getElem_cons_succ, List.setIfInBounds_toArray, List.set_cons_zero, List.set_cons_succ]
        refine wpAnyH_take (i := 1) (v := ?_) rfl (by kernel_rfl) (by kernel_rfl) (by kernel_rfl) (fun _ _ _ h => h) (Or.inl ⟨by rfl, ?_⟩) (by assumption) ?_
        rotate_left 1
        · intro w hSw
          (try dsimp only at hSw)
          go_simp
          all_goals (with_reducible rfl)
        try simp only [Act.put, List.getElem_toArray, List.getElem_cons_zero, List.getElem_cons_succ, List.setIfInBounds_toArray, List.set_cons_zero, List.set_cons_succ]
        refine wpAnyH_take (i := 2) (v := ?_) rfl (by kernel_rfl) (by kernel_rfl) (by kernel_rfl) (fun _ _ _ h => h) (Or.inl ⟨by rfl, ?_⟩) (by assumption) ?_
        rotate_left 1
        · intro w hSw
          (try dsimp only at hSw)
          go_simp
          all_goals (with_reducible rfl)
        try simp only [Act.put, List.getElem_toArray, List.getElem_cons_zero, List.getElem_cons_succ, List.setIfInBounds_toArray, List.set_cons_zero, List.set_cons_succ]
        refine wpAnyH_take (i := 3) (v := ?_) rfl (by kernel_rfl) (by kernel_rfl) (by kernel_rfl) (fun _ _ _ h => h) (Or.inl ⟨by rfl, ?_⟩) (by assumption) ?_
        rotate_left 1
        · intro w hSw
          (try dsimp only at hSw)
          go_simp
          all_goals (with_reducible rfl)
        try simp only [Act.put, List.getElem_toArray, List.getElem_cons_zero, List.getElem_cons_succ, List.setIfInBounds_toArray, List.set_cons_zero, List.set_cons_succ]
        refine wpAnyH_take (i := 4) (v := ?_) rfl (by kernel_rfl) (by kernel_rfl) (by kernel_rfl) (fun _ _ _ h => h) (Or.inl ⟨by rfl, ?_⟩) (by assumption) ?_
        rotate_left 1
        · intro w hSw
          (try dsimp only at hSw)
          go_simp
          all_goals (with_reducible rfl)
        try simp only [Act.put, List.getElem_toArray, List.getElem_cons_zero, List.getElem_cons_succ, List.setIfInBounds_toArray, List.set_cons_zero, List.set_cons_succ]
        refine wpAnyH_take (i := 5) (v := ?_) rfl (by kernel_rfl) (by kernel_rfl) (by kernel_rfl) (fun _ _ _ h => h) (Or.inl ⟨by rfl, ?_⟩) (by assumption) ?_
        rotate_left 1
        · intro w hSw
          (try dsimp only at hSw)
          go_simp
          all_goals (with_reducible rfl)
        try simp only [Act.put, List.getElem_toArray, List.getElem_cons_zero, List.getElem_cons_succ, List.setIfInBounds_toArray, List.set_cons_zero, List.set_cons_succ]
        refine wpAnyH_take (i := 6) (v := ?_) rfl (by kernel_rfl) (by kernel_rfl) (by kernel_rfl) (fun _ _ _ h => h) (Or.inl ⟨by rfl, ?_⟩) (by assumption) ?_
        rotate_left 1
        · intro w hSw
          (try dsimp only at hSw)
          go_simp
          all_goals (with_reducible rfl)
        try simp only [Act.put, List.getElem_toArray, List.getElem_cons_zero, List.getElem_cons_succ, List.setIfInBounds_toArray, List.set_cons_zero, List.set_cons_succ]
        refine wpAnyH_take (i := 7) (v := ?_) rfl (by kernel_rfl) (by kernel_rfl) (by kernel_rfl) (fun _ _ _ h => h) (Or.inl ⟨by rfl, ?_⟩) (by assumption) ?_
        rotate_left 1
        · intro w hSw
          (try dsimp only at hSw)
          go_simp
          all_goals (with_reducible rfl)
        try simp only [Act.put, List.getElem_toArray, List.getElem_cons_zero, List.getElem_cons_succ, List.setIfInBounds_toArray, List.set_cons_zero, List.set_cons_succ]
        refine wpAnyH_take (i := 8) (v := ?_) rfl (by kernel_rfl) (by kernel_rfl) (by kernel_rfl) (fun _ _ _ h => h) (Or.inl ⟨by rfl, ?_⟩) (by assumption) ?_
        rotate_left 1
        · intro w hSw
          (try dsimp only at hSw)
          go_simp
          all_goals (with_reducible rfl)
        try simp only [Act.put, List.getElem_toArray, List.getElem_cons_zero, List.getElem_cons_succ, List.setIfInBounds_toArray, List.set_cons_zero, List.set_cons_succ]
        refine wpAnyH_take (i := 9) (v := ?_) rfl (by kernel_rfl) (by kernel_rfl) (by kernel_rfl) (fun _ _ _ h => h) (Or.inl ⟨by rfl, ?_⟩) (by assumption) ?_
        rotate_left 1
        · intro w hSw
          (try dsimp only at hSw)
          go_simp
          all_goals (with_reducible rfl)
        try simp only [Act.put, List.getElem_toArray, List.getElem_cons_zero, List.getElem_cons_succ, List.setIfInBounds_toArray, List.set_cons_zero, List.set_cons_succ]
        refine wpAnyH_take (i := 10) (v := ?_) rfl (by kernel_rfl) (by kernel_rfl) (by kernel_rfl) (fun _ _ _ h => h) (Or.inl ⟨by rfl, ?_⟩) (by assumption) ?_
        rotate_left 1
        · intro w hSw
          (try dsimp only at hSw)
          go_simp
          all_goals (with_reducible rfl)
        try simp only [Act.put, List.getElem_toArray, List.getElem_cons_zero, List.getElem_cons_succ, List.setIfInBounds_toArray, List.set_cons_zero, List.set_cons_succ]
        refine wpAnyH_take (i := 11) (v := undef) rfl (by kernel_rfl) (by kernel_rfl) (by kernel_rfl) (fun _ _ _ h => h) (Or.inr ⟨by rfl, rfl⟩) (by assumption) ?_
        try simp only [Act.put, List.getElem_toArray, List.getElem_cons_zero, List.getElem_cons_succ, List.setIfInBounds_toArray, List.set_cons_zero, List.set_cons_succ]
        refine wpAnyH_take (i := 12) (v := undef) rfl (by kernel_rfl) (by kernel_rfl) (by kernel_rfl) (fun _ _ _ h => h) (Or.inr ⟨by rfl, rfl⟩) (by assumption) ?_
        try simp only [Act.put, List.getElem_toArray, List.getElem_cons_zero, List.getElem_cons_succ, List.setIfInBounds_toArray, List.set_cons_zero, List.set_cons_succ]
        refine wpAnyH_take (i := 13) (v := undef) rfl (by kernel_rfl) (by kernel_rfl) (by kernel_rfl) (fun _ _ _ h => h) (Or.inr ⟨by rfl, rfl⟩) (by assumption) ?_
        try simp only [Act.put, List.getElem_toArray, List.getElem_cons_zero, List.getElem_cons_succ, List.setIfInBounds_toArray, List.set_cons_zero, List.set_cons_succ]
        refine wpAnyH_take (i := 14) (v := undef) rfl (by kernel_rfl) (by kernel_rfl) (by kernel_rfl) (fun _ _ _ h => h) (Or.inr ⟨by rfl, rfl⟩) (by assumption) ?_
        try simp only [Act.put, List.getElem_toArray, List.getElem_cons_zero, List.getElem_cons_succ, List.setIfInBounds_toArray, List.set_cons_zero, List.set_cons_succ]
        refine wpAnyH_take (i := 15) (v := undef) rfl (by kernel_rfl) (by kernel_rfl) (by kernel_rfl) (fun _ _ _ h => h) (Or.inr ⟨by rfl, rfl⟩) (by assumption) ?_
        try simp only [Act.put, List.getElem_toArray, List.getElem_cons_zero, List.getElem_cons_succ, List.setIfInBounds_toArray, List.set_cons_zero, List.set_cons_succ]
        refine wpAnyH_take (i := 16) (v := ?_) rfl (by kernel_rfl) (by kernel_rfl) (by kernel_rfl) (fun _ _ _ h => h) (Or.inl ⟨by rfl, ?_⟩) (by assumption) ?_
        rotate_left 1
        · intro w hSw
          (try dsimp only at hSw)
          go_simp
          all_goals (with_reducible rfl)
        try simp only [Act.put, List.getElem_toArray, List.getElem_cons_zero, List.getElem_cons_succ, List.setIfInBounds_toArray, List.set_cons_zero, List.set_cons_succ]
        refine wpAnyH_done (by kernel_rfl) ?_ _
        go_wp2
        go_roundw
        case rel => exact ⟨i + 1, n, cap, xa, xs, by omega, by omega, by simp, by trivial, Lib.hid HW.out.drew, Lib.hid HO.out.drew⟩
        case measure => simp [intOf] <;> omega
    · obtain rfl : I = i := by omega
      go_upto_region 22 with fail
      obtain ⟨wt, hwt⟩ : ∃ wt, (wr).drew = wt := ⟨_, rfl⟩
      obtain ⟨yV, yN, yT, yR, yB, yD⟩ := (show Blk (wr).drew w.heap.size #[.int .i64 (s.num : Int), .int .i64 (s.most : Int), .int .i64 (s.epoch : Int), .int .i64 (s.size : Int), .bool s.shut, .slice lx I lc, .slice dx N dc] 30 ∧ Blk (wr).drew (w.heap.size + 1 + 1 + 1 + 1) #[.int .u64 0, .int .u32 0, .bool false, .slice none 0 0] 47 ∧ _ ∧ _ ∧ _ ∧ _ from ⟨HV.out.below (HW.out).drew HV.out.lt, HZ.out.below (HW.out).drew HZ.out.lt, HT.out.below (HW.out).drew HT.out.lt, HR.out.below (HW.out).drew HR.out.lt, HBB.out.trans (((HW.out).drew).mono HBB.out.size), HDD.out.below (HW.out).drew⟩)
      rw [hwt] at yV yN yT yR yB yD
      have XV := Lib.hid yV
      have XN := Lib.hid yN
      have XT := Lib.hid yT
      have XR := Lib.hid yR
      have XB := Lib.hid yB
      have XD := Lib.hid yD
      clear yV yN yT yR yB yD
      have n1 : w.heap.size + 1 + 1 ≠ w.heap.size := by omega
      have n2 : w.heap.size + 1 + 1 ≠ w.heap.size + 1 + 1 + 1 + 1 := by omega
      have n3 : w.heap.size + 1 + 1 + 1 ≠ w.heap.size := by omega
      have n4 : w.heap.size + 1 + 1 + 1 ≠ w.heap.size + 1 + 1 + 1 + 1 := by omega
      have n5 : w.heap.size + 1 + 1 ≠ w.heap.size + 1 + 1 + 1 := by omega
      have n6 : w.heap.size + 1 + 1 + 1 ≠ w.heap.size + 1 + 1 := by omega
      have XV2 := Lib.hid (XV.out.other7 n1 (.int .i64 (s.num : Int)) (.int .i64 (s.most : Int)) (.int .i64 (s.epoch : Int)) (.int .i64 (s.size : Int)) (.bool s.shut) (.slice lx I lc) (.slice dx N dc))
      have XN2 := Lib.hid (XN.out.other7 n2 (.int .i64 (s.num : Int)) (.int .i64 (s.most : Int)) (.int .i64 (s.epoch : Int)) (.int .i64 (s.size : Int)) (.bool s.shut) (.slice lx I lc) (.slice dx N dc))
      have XR2 := Lib.hid (XR.out.other7 n5 (.int .i64 (s.num : Int)) (.int .i64 (s.most : Int)) (.int .i64 (s.epoch : Int)) (.int .i64 (s.size : Int)) (.bool s.shut) (.slice lx I lc) (.slice dx N dc))
      have XT2 := Lib.hid (blk_set7 XT.out (.int .i64 (s.num : Int)) (.int .i64 (s.most : Int)) (.int .i64 (s.epoch : Int)) (.int .i64 (s.size : Int)) (.bool s.shut) (.slice lx I lc) (.slice dx N dc))
      have XV3 := Lib.hid (XV2.out.other4 n3 (.int .u64 0) (.int .u32 0) (.bool false) (.slice none 0 0))
      have XN3 := Lib.hid (XN2.out.other4 n4 (.int .u64 0) (.int .u32 0) (.bool false) (.slice none 0 0))
      have XT3 := Lib.hid (XT2.out.other4 n6 (.int .u64 0) (.int .u32 0) (.bool false) (.slice none 0 0))
      have XR3 := Lib.hid (blk_set4 XR2.out (.int .u64 0) (.int .u32 0) (.bool false) (.slice none 0 0))
      have XB3 := Lib.hid (below_set4 (g := w.heap.size + 1 + 1 + 1) (u0 := .int .u64 0) (u1 := .int .u32 0) (u2 := .bool false) (u3 := .slice none 0 0) (below_set7 (g := w.heap.size + 1 + 1) (u0 := .int .i64 (s.num : Int)) (u1 := .int .i64 (s.most : Int)) (u2 := .int .i64 (s.epoch : Int)) (u3 := .int .i64 (s.size : Int)) (u4 := .bool s.shut) (u5 := .slice lx I lc) (u6 := .slice dx N dc) XB.out (by omega)) (show w.heap.size ≤ w.heap.size + 1 + 1 + 1 by omega))
      have XD3 := Lib.hid ((XD.out.kept (S' := (fun b => S b ∨ (w.heap.size ≤ b ∧ b < w.heap.size + 5))) (((kept_set7 wt (w.heap.size + 1 + 1) (.int .i64 (s.num : Int)) (.int .i64 (s.most : Int)) (.int .i64 (s.epoch : Int)) (.int .i64 (s.size : Int)) (.bool s.shut) (.slice lx I lc) (.slice dx N dc)).mono (fun j _ hj => by subst hj; exact .inr ⟨by omega, by omega⟩)).trans ((kept_set4 _ (w.heap.size + 1 + 1 + 1) (.int .u64 0) (.int .u32 0) (.bool false) (.slice none 0 0)).mono (fun j _ hj => by subst hj; exact .inr ⟨by omega, by omega⟩)) (fun _ h _ => h)) (fun b hb => .inl hb)).kept (S' := S) (Kept.refl (fun b => S b ∨ (w.heap.size ≤ b ∧ b < w.heap.size + 5)) _) (fun b hb => .inl (.inl hb)))
      clear n1 n2 n3 n4 n5 n6
      have z0 := XT.out.cell 0 rfl
      have z1 := XT.out.cell 1 rfl
      have z2 := XT.out.cell 2 rfl
      have z3 := XT.out.cell 3 rfl
      have z4 := XT.out.cell 4 rfl
      have z5 := XT.out.cell 5 rfl
      have z6 := XT.out.cell 6 rfl
      have zf := fun j => XT.out.free j
      have r0 := XR2.out.cell 0 rfl
      have r1 := XR2.out.cell 1 rfl
      have r2 := XR2.out.cell 2 rfl
      have r3 := XR2.out.cell 3 rfl
      have rf := fun j => XR2.out.free j
      unfold set7 at XV2 XN2 XT2 XV3 XN3 XT3 XR3 XB3 XD3 r0 r1 r2 r3 rf
      unfold set4 at XV3 XN3 XT3 XR3 XB3 XD3
      refine AnyE.start (S := (fun wx => wx.cell? ⟨w.heap.size, 0, none⟩ = some (.int .i64 (s.num : Int)) ∧ wx.cell? ⟨w.heap.size, 1, none⟩ = some (.int .i64 (s.most : Int)) ∧ wx.cell? ⟨w.heap.size, 2, none⟩ = some (.int .i64 (s.epoch : Int)) ∧ wx.cell? ⟨w.heap.size, 3, none⟩ = some (.int .i64 (s.size : Int)) ∧ wx.cell? ⟨w.heap.size, 4, none⟩ = some (.bool s.shut) ∧ wx.cell? ⟨w.heap.size, 5, none⟩ = some (.slice lx I lc) ∧ wx.cell? ⟨w.heap.size, 6, none⟩ = some (.slice dx N dc) ∧ wx.cell? ⟨w.heap.size + 1 + 1 + 1 + 1, 0, none⟩ = some (.int .u64 0) ∧ wx.cell? ⟨w.heap.size + 1 + 1 + 1 + 1, 1, none⟩ = some (.int .u32 0) ∧ wx.cell? ⟨w.heap.size + 1 + 1 + 1 + 1, 2, none⟩ = some (.bool false) ∧ wx.cell? ⟨w.heap.size + 1 + 1 + 1 + 1, 3, none⟩ = some (.slice none 0 0))) 6 (by kernel_rfl) (by rw [hwt]; exact ⟨XV.out.cell 0 rfl, XV.out.cell 1 rfl, XV.out.cell 2 rfl, XV.out.cell 3 rfl, XV.out.cell 4 rfl, XV.out.cell 5 rfl, XV.out.cell 6 rfl, XN.out.cell 0 rfl, XN.out.cell 1 rfl, XN.out.cell 2 rfl, XN.out.cell 3 rfl⟩) (fun hHeld => ?_)
      rw [hwt] at hHeld
      rw [hwt]
      clear hwt
      refine AnyE.take (i := 0) (v := ?_) rfl (by kernel_rfl) (by kernel_rfl) (by kernel_rfl) (by kernel_rfl) (fun _ _ _ h => h) (Or.inl ⟨by rfl, ?_⟩) (by assumption) ?_
      rotate_left 1
      · intro w hSw
        (try dsimp only at hSw)
        go_simp
        all_goals (with_reducible rfl)
      try simp only [Act.put, List.getElem_toArray, List.getElem_cons_zero, List.getElem_cons_succ, List.setIfInBounds_toArray, List.set_cons_zero, List.set_cons_succ]
      refine AnyE.take (i := 1) (v := ?_) rfl (by kernel_rfl) (by kernel_rfl) (by kernel_rfl) (by kernel_rfl) (fun _ _ _ h => h) (Or.inl ⟨by rfl, ?_⟩) (by assumption) ?_
      rotate_left 1
      · intro w hSw
        (try dsimp only at hSw)
        go_simp
        all_goals (with_reducible rfl)
      try simp only [Act.put, List.getElem_toArray, List.getElem_cons_zero, List.getElem_cons_succ, List.setIfInBounds_toArray, List.set_cons_zero, List.set_cons_succ]
      refine AnyE.take (i := 2) (v := ?_) rfl (by kernel_rfl) (by kernel_rfl) (by kernel_rfl) (by kernel_rfl) (fun _ _ _ h => h) (Or.inl ⟨by rfl, ?_⟩) (by assumption) ?_
      rotate_left 1
      · intro w hSw
        (try dsimp only at hSw)
        go_simp
        all_goals (with_reducible rfl)
      try simp only [Act.put, List.getElem_toArray, List.getElem_cons_zero, List.getElem_cons_succ, List.setIfInBounds_toArray, List.set_cons_zero, List.set_cons_succ]
      refine AnyE.next (rs := [3]) (by kernel_rfl) (by simp) ?_
      refine AllE.cons rfl (fun K hK => ?_) AllE.nil
      go_simp
      refine hK.out _ _ (⟨XV2.out.cell 0 rfl, XV2.out.cell 1 rfl, XV2.out.cell 2 rfl, XV2.out.cell 3 rfl, XV2.out.cell 4 rfl, XV2.out.cell 5 rfl, XV2.out.cell 6 rfl, XN2.out.cell 0 rfl, XN2.out.cell 1 rfl, XN2.out.cell 2 rfl, XN2.out.cell 3 rfl⟩) (fun hHeld => ?_)
      clear hK K
      try simp only [Act.put, List.getElem_toArray, List.getElem_cons_zero, List.getElem_cons_succ, List.setIfInBounds_toArray, List.set_cons_zero, List.set_cons_succ]
      refine AnyE.next (rs := [4]) (by kernel_rfl) (by simp) ?_
      refine AllE.cons rfl (fun K hK => ?_) AllE.nil
      go_simp
      refine hK.out _ _ (⟨XV3.out.cell 0 rfl, XV3.out.cell 1 rfl, XV3.out.cell 2 rfl, XV3.out.cell 3 rfl, XV3.out.cell 4 rfl, XV3.out.cell 5 rfl, XV3.out.cell 6 rfl, XN3.out.cell 0 rfl, XN3.out.cell 1 rfl, XN3.out.cell 2 rfl, XN3.out.cell 3 rfl⟩) (fun hHeld => ?_)
      clear hK K
      try simp only [Act.put, List.getElem_toArray, List.getElem_cons_zero, List.getElem_cons_succ, List.setIfInBounds_toArray, List.set_cons_zero, List.set_cons_succ]
      refine AnyE.take (i := 5) (v := ?_) rfl (by kernel_rfl) (by kernel_rfl) (by kernel_rfl) (by kernel_rfl) (fun _ _ _ h => h) (Or.inl ⟨by rfl, ?_⟩) (by assumption) ?_
      rotate_left 1
      · intro w hSw
        (try dsimp only at hSw)
        go_simp
        all_goals (with_reducible rfl)
      try simp only [Act.put, List.getElem_toArray, List.getElem_cons_zero, List.getElem_cons_succ, List.setIfInBounds_toArray, List.set_cons_zero, List.set_cons_succ]
      refine AnyE.next (rs := [6]) (by kernel_rfl) (by simp) ?_
      refine AllE.last rfl (fun K hK => ?_)
      go_simp
      refine hK.out _ _ ?_
      clear hK K
      try simp only [Act.put, List.getElem_toArray, List.getElem_cons_zero, List.getElem_cons_succ, List.setIfInBounds_toArray, List.set_cons_zero, List.set_cons_succ]
      refine AnyE.done (by kernel_rfl) ?_ _
      clear z0 z1 z2 z3 z4 z5 z6 zf r0 r1 r2 r3 rf
      have y0 := XT3.out.cell 0 rfl
      have y1 := XT3.out.cell 1 rfl
      have y2 := XT3.out.cell 2 rfl
      have y3 := XT3.out.cell 3 rfl
      have y4 := XT3.out.cell 4 rfl
      have y5 := XT3.out.cell 5 rfl
      have y6 := XT3.out.cell 6 rfl
      have x0 := XR3.out.cell 0 rfl
      have x1 := XR3.out.cell 1 rfl
      have x2 := XR3.out.cell 2 rfl
      have x3 := XR3.out.cell 3 rfl
      go_wp2
      exact bodyPost_ret (v := .tuple #[.agg #[.int .i64 (s.num : Int), .int .i64 (s.most : Int), .int .i64 (s.epoch : Int), .int .i64 (s.size : Int), .bool s.shut, .slice lx I lc, .slice dx N dc], .agg #[.int .u64 0, .int .u32 0, .bool false, .slice none 0 0], .slice xa n cap, .int .i64 0]) (by simp [results, Tryz.results30, go_sem, y0, y1, y2, y3, y4, y5, y6, x0, x1, x2, x3]) rfl ⟨_, _, ps, _, _, _, _, _, _, _, rfl, XD3.out, XB3.out⟩

theorem do_rw (a : A9) (x : Option Addr) (vL vc : Nat) (S : Nat → Prop) (s : Vst) (lv dv : Value) (ps : List (Ndl × Value)) (w : World) (h : DocP w S s lv dv ps) (hSw : ∀ b, S b → b < w.heap.size) (hv : IsB w (.slice x vL vc) a.n.data) (hvS : ∀ b, liesB (.slice x vL vc) a.n.data b → ¬ S b) (hf : s.ns.length < 4095) (hsok : s.Ok) (hI2 : s.idx.length ≤ 1048576) :
    Calls Tryz.prog 30 #[dval s lv dv, av a (.slice x vL vc)] w (DoR w S (actV s a).1 (actV s a).2) := by
  obtain ⟨kd, m, ⟨key, cookie, gone, data⟩⟩ := a
  unfold actV
  dsimp only
  split
  · rename_i e; subst e
    exact rdo_0 m key cookie gone data x vL vc S s lv dv ps w h hSw hv hvS hf hsok
  · rename_i h0
    split
    · rename_i e; subst e
      exact rdo_1 m key cookie gone data x vL vc S s lv dv ps w h hSw hf hsok
    · rename_i h1
      split
      · rename_i e; subst e
        by_cases hl : s.look key cookie = 0
        · rw [hl]
          exact rdo_2t m key cookie gone data x vL vc S s lv dv ps w h hSw hf hl
        · exact rdo_2f m key cookie gone data x vL vc S s lv dv ps w h hSw hf hl
      · rename_i h2
        split
        · rename_i e; subst e
          exact rdo_4 m key cookie gone data x vL vc S s lv dv ps w h hSw
        · rename_i h4
          by_cases h3 : kd = 3
          · subst h3
            exact rdo_3 m key cookie gone data x vL vc S s lv dv ps w h hSw hI2
          · exact rdo_x kd m key cookie gone data x vL vc S s lv dv ps w h hSw h0 h1 h2 h3 h4
end Go.Proofs.YtoblbipkkdiddaaGreatDoor
end

section
namespace Go.Proofs.YtoblbipkkdiddaaGreatDoor
open Go.RowKit Go.Cor

/-- The document's volume as it is made. -/
theorem new_r (n m e : Nat) (w : World) :
    Calls Tryz.prog 29 #[.int .i64 (n : Int), .int .i64 (m : Int), .int .i64 (e : Int)] w fun en w' => en = .returned (.agg #[.int .i64 (n : Int), .int .i64 (m : Int), .int .i64 (e : Int), .int .i64 16, .bool false, .slice none 0 0, .slice none 0 0]) ∧ Below w.heap.size w w' := by
  go_enter Tryz.func29, Tryz.ntmps29
  go_wp2
  refine bodyPost_ret (v := .agg #[.int .i64 (n : Int), .int .i64 (m : Int), .int .i64 (e : Int), .int .i64 16, .bool false, .slice none 0 0, .slice none 0 0]) (by simp [results, Tryz.results29, go_sem]) rfl ⟨rfl, ?_⟩
  exact below_alloc w _

/-- The acts as they lie: each with its data's slice. -/
abbrev A9v := A9 × Value
def acl (x : A9v) : List Value := [.int .i64 x.1.kind, .int .i64 x.1.m, .int .u64 (x.1.n.key : Int), .int .u32 (x.1.n.cookie : Int), .bool x.1.n.gone, x.2]
theorem acl_len (x : A9v) : (acl x).length = 6 := rfl
def IsA (w : World) (v : Value) (l : List A9v) : Prop := IsX w 6 v l.length (row acl l) ∧ ∀ x ∈ l, IsB w x.2 x.1.n.data ∧ x.2.oneCell' = true
theorem IsA.mono {w w' : World} {v : Value} {l : List A9v} {B : Nat} (h : IsA w v l) (hb : Below B w w') (hB : w.heap.size ≤ B) : IsA w' v l := ⟨h.1.mono hb hB, fun x hx => ⟨(h.2 x hx).1.mono hb hB, (h.2 x hx).2⟩⟩
def farA (l : List A9) : Bool := decide (60 < l.length) || l.any (fun a => decide (300 < a.n.data.length))
theorem Tryz.sizeA9 : (Tryz.prog.info? 86).map (·.size) = some 6 := by kernel_rfl
/-- An act of the slice: where it lies. -/
theorem act_at {w : World} {v : Value} {l : List A9v} (h : IsA w v l) {i : Nat} {x : A9v} (hx : l[i]? = some x) :
    ∃ b o, (∀ W, (Instr.indexAt 22 v (.int .i64 (i : Int))).run Tryz.prog W = .ok (.pointer (some ⟨b, o, none⟩)) W) ∧ w.cell? ⟨b, o, none⟩ = some (.int .i64 x.1.kind) ∧ w.cell? ⟨b, o + 1, none⟩ = some (.int .i64 x.1.m) ∧ w.cell? ⟨b, o + 2, none⟩ = some (.int .u64 (x.1.n.key : Int)) ∧ w.cell? ⟨b, o + 3, none⟩ = some (.int .u32 (x.1.n.cookie : Int)) ∧ w.cell? ⟨b, o + 4, none⟩ = some (.bool x.1.n.gone) ∧ w.cell? ⟨b, o + 5, none⟩ = some x.2 := by
  have hi : i < l.length := (List.getElem?_eq_some_iff.1 hx).1
  obtain ⟨b, o, hidx, _, hcell⟩ := indexAt_X h.1 22 86 Tryz.underlying22 Tryz.sizeA9 i hi
  have g : ∀ j, j < 6 → w.cell? ⟨b, o + j, none⟩ = (acl x)[j]? := fun j hj => by
    have h1 := hcell j hj
    rw [row_get acl_len hx j hj] at h1
    exact h1
  exact ⟨b, o, hidx, g 0 (by decide), g 1 (by decide), g 2 (by decide), g 3 (by decide), g 4 (by decide), g 5 (by decide)⟩

theorem far_any (v : Value) (l : List A9v) (w : World) (h : IsA w v l) (hl : l.length ≤ 1048576) :
    Calls Tryz.prog 10 #[v] w fun e w' => e = .returned (.bool (farA (l.map (·.1)))) ∧ w = w' := by
  have hlen := fun W => len_X (P := Tryz.prog) h.1 22 3 _ Tryz.underlying22 W
  obtain ⟨N, hN⟩ : ∃ N, l.length = N := ⟨_, rfl⟩
  rw [hN] at hlen hl
  have HH := Lib.hid h
  have HN := Lib.hid hN
  by_cases h60 : 60 < N
  · have hf : farA (l.map (·.1)) = true := by unfold farA; rw [List.length_map, hN, decide_eq_true h60]; rfl
    rw [hf]
    have h60' : (60 : Int) < (N : Int) := by omega
    clear h hf hN
    go_enter Tryz.func10, Tryz.ntmps10
    go_wp2
    go_ret
    exact ⟨rfl, rfl⟩
  · obtain ⟨r, hr⟩ : ∃ r, farA (l.map (·.1)) = r := ⟨_, rfl⟩
    have HR := Lib.hid (show (l.map (·.1)).any (fun a => decide (300 < a.n.data.length)) = r by
      rw [← hr]; unfold farA; rw [List.length_map, hN, decide_eq_false h60]; rfl)
    rw [hr]
    have h60' : ¬ (60 : Int) < (N : Int) := by omega
    clear h hr hN
    go_enter Tryz.func10, Tryz.ntmps10
    go_wp2_with fail
    go_loopw [3] (fun c wq => ∃ i : Nat, i ≤ N ∧ c = .int .i64 (i : Int) ∧ wq = w ∧ Hid (∀ (j : Nat) (x : A9v), j < i → l[j]? = some x → ¬ 300 < x.1.n.data.length)) (fun c _ => (N - intOf c).toNat)
    case atStart => exact ⟨0, Nat.zero_le _, rfl, rfl, Lib.hid (fun j x hj => absurd hj (Nat.not_lt_zero j))⟩
    case round =>
      obtain ⟨i, hiN, rfl, rfl, HJ⟩ := hrel
      by_cases hi : i < N
      · obtain ⟨x, hx⟩ : ∃ x, l[i]? = some x := ⟨_, List.getElem?_eq_getElem (by rw [HN.out]; exact hi)⟩
        obtain ⟨b, o, hidx, _, _, _, _, _, c5⟩ := act_at HH.out hx
        obtain ⟨L, hL⟩ : ∃ L, x.1.n.data.length = L := ⟨_, rfl⟩
        obtain ⟨xa, xc, hxv, _, _⟩ := (HH.out.2 x (List.mem_of_getElem? hx)).1.at_len hL
        rw [hxv] at c5
        have HX := Lib.hid hx
        have HL := Lib.hid hL
        have e1 : IntKind.i64.wrap ((i : Int) + 1) = (i : Int) + 1 := IntWalk.i64_in _ (by omega)
        clear hx hL hxv
        by_cases h3 : 300 < L
        · have h3' : (300 : Int) < (L : Int) := by omega
          have HT := Lib.hid (show r = true by
            rw [← HR.out, List.any_eq_true]
            exact ⟨x.1, List.mem_map.2 ⟨x, List.mem_of_getElem? HX.out, rfl⟩, by rw [HL.out]; exact decide_eq_true h3⟩)
          go_wp2
          go_ret
          exact ⟨by rw [HT.out]; rfl, rfl⟩
        · have h3' : ¬ (300 : Int) < (L : Int) := by omega
          go_wp2
          go_roundw
          case rel => exact ⟨i + 1, by omega, by simp, by trivial, Lib.hid (fun j y hj hy => by
            by_cases e : j = i
            · subst e
              rw [HX.out] at hy
              cases hy
              rw [HL.out]; exact h3
            · exact HJ.out j y (by omega) hy)⟩
          case measure => simp [intOf] <;> omega
      · have HT := Lib.hid (show r = false by
          rw [← HR.out, Bool.eq_false_iff]
          intro ht
          rw [List.any_eq_true] at ht
          obtain ⟨a, ha, h3⟩ := ht
          obtain ⟨y, hy, rfl⟩ := List.mem_map.1 ha
          obtain ⟨j, hj⟩ := List.getElem?_of_mem hy
          have := (List.getElem?_eq_some_iff.1 hj).1
          have := HN.out
          exact HJ.out j y (by omega) hj (by simpa using h3))
        go_wp2
        go_ret
        exact ⟨by rw [HT.out]; rfl, rfl⟩

end Go.Proofs.YtoblbipkkdiddaaGreatDoor
end

section
namespace Go.Proofs.YtoblbipkkdiddaaGreatDoor
open Go.RowKit Go.Cor

theorem nlen_small {n : Ndl} (h : n.data.length ≤ 300) : nlen n ≤ 400 := by
  unfold nlen padn
  omega
theorem write_keeps (s : Vst) (n : Ndl) : (s.write n).1.num = s.num ∧ (s.write n).1.gen = s.gen ∧ (s.write n).1.most = s.most := by
  unfold Vst.write Vst.wrote
  split <;> exact ⟨rfl, rfl, rfl⟩
theorem write_grows (s : Vst) (n : Ndl) (h : nlen n ≤ 400) : (s.write n).1.ns.length ≤ s.ns.length + 1 ∧ (s.write n).1.size ≤ s.size + 400 ∧ s.size ≤ (s.write n).1.size := by
  unfold Vst.write
  split
  · exact ⟨Nat.le_succ _, Nat.le_add_right _ _, Nat.le_refl _⟩
  · refine ⟨by simp [Vst.wrote], ?_, ?_⟩
    · show (s.wrote n).size ≤ _
      rw [s.size_wrote]; omega
    · show _ ≤ (s.wrote n).size
      rw [s.size_wrote]; omega
theorem put_write (s : Vst) (n : Ndl) : (s.put n).1 = s ∨ (s.put n).1 = (s.write n).1 := by
  unfold Vst.put
  split
  · exact .inl rfl
  · split
    · exact .inl rfl
    · split
      · exact .inl rfl
      · split
        · exact .inl rfl
        · exact .inr rfl
theorem del_write (s : Vst) (k c : Nat) : (s.del k c).1 = s ∨ (s.del k c).1 = (s.write (grave k c)).1 := by
  unfold Vst.del
  split
  · exact .inl rfl
  · split
    · exact .inl rfl
    · exact .inr rfl
theorem set_keeps (s : Vst) (e : Int) (b : Bool) : (s.set e b).1.num = s.num ∧ (s.set e b).1.gen = s.gen ∧ (s.set e b).1.most = s.most ∧ (s.set e b).1.ns = s.ns := by
  unfold Vst.set
  split
  · exact ⟨rfl, rfl, rfl, rfl⟩
  · split <;> exact ⟨rfl, rfl, rfl, rfl⟩
/-- What every act leaves as it was, and how far it grows. -/
structure Keeps (s s' : Vst) : Prop where
  num : s'.num = s.num
  gen : s'.gen = s.gen
  most : s'.most = s.most
  few : s'.ns.length ≤ s.ns.length + 1
  size : s'.size ≤ s.size + 400
theorem Keeps.refl (s : Vst) : Keeps s s := ⟨rfl, rfl, rfl, Nat.le_succ _, by omega⟩
theorem actV_keeps (s : Vst) (a : A9) (h : a.n.data.length ≤ 300) : Keeps s (actV s a).1 := by
  have kw : ∀ n, nlen n ≤ 400 → Keeps s (s.write n).1 := fun n hn =>
    ⟨(write_keeps s n).1, (write_keeps s n).2.1, (write_keeps s n).2.2, (write_grows s n hn).1, (write_grows s n hn).2.1⟩
  unfold actV
  split
  · rcases put_write s a.n with e | e
    · rw [e]; exact Keeps.refl s
    · rw [e]; exact kw _ (nlen_small h)
  · split
    · rcases del_write s a.n.key a.n.cookie with e | e
      · rw [e]; exact Keeps.refl s
      · rw [e]; exact kw _ (nlen_small (by simp [grave]))
    · split
      · exact Keeps.refl s
      · split
        · obtain ⟨h1, h2, h3, h4⟩ := set_keeps s a.m a.n.gone
          exact ⟨h1, h2, h3, by rw [h4]; omega, by unfold Vst.size; rw [h4]; omega⟩
        · exact Keeps.refl s

abbrev SX (S : Nat → Prop) (B0 B1 : Nat) (b : Nat) : Prop := S b ∨ b = B0 ∨ b = B1
/-- Between two acts. -/
structure MadeI (w wq : World) (g p B0 B1 : Nat) (S : Nat → Prop) (d : Dsk) (k i : Nat) (s : Vst) (lv dv : Value) (ps : List (Ndl × Value)) : Prop where
  r : Vready wq g p S d k s
  few : k ≤ 16 + 10 * i
  doc : DocP wq (SX S B0 B1) s lv dv ps
  low : ∀ b, S b → w.heap.size ≤ b ∧ b ≠ B0 ∧ b ≠ B1
  b0 : w.heap.size ≤ B0
  b1 : w.heap.size ≤ B1
  ne : B1 ≠ B0
  z : Blk wq B0 zvol 30
  v : Blk wq B1 #[.int .i64 (s.num : Int), .int .i64 (s.most : Int), .int .i64 (s.epoch : Int), .int .i64 (s.size : Int), .bool s.shut, lv, dv] 30
  bel : Below w.heap.size w wq
  used : d.used = 24 + s.size
  cap : d.cap = 1048576
  names : d.now.length = 2
  num : s.num = 1
  gen : s.gen = 1
  most : s.most = 1048576
  ns : s.ns.length ≤ i
  size : s.size ≤ 16 + 400 * i
  views : ∀ m, m ≠ nmD 1 1 → m ≠ nmM 1 → m ≠ nmS 1 → view d m = none
theorem MadeI.lt {w wq : World} {g p B0 B1 : Nat} {S : Nat → Prop} {d : Dsk} {k i : Nat} {s : Vst} {lv dv : Value} {ps : List (Ndl × Value)} (h : MadeI w wq g p B0 B1 S d k i s lv dv ps) : ∀ b, SX S B0 B1 b → b < wq.heap.size := fun b hb => by
  rcases hb with hb | rfl | rfl
  · exact h.r.vl.lt b hb
  · exact h.z.lt
  · exact h.v.lt
set_option maxRecDepth 100000 in
/-- There is room for an act. -/
theorem MadeI.room {w wq : World} {g p B0 B1 : Nat} {S : Nat → Prop} {d : Dsk} {k i : Nat} {s : Vst} {lv dv : Value} {ps : List (Ndl × Value)} (h : MadeI w wq g p B0 B1 S d k i s lv dv ps) (hi : i ≤ 60) (n : Ndl) (hn : nlen n ≤ 400) : Room s d n := by
  have h1 := h.size
  have h2 := h.ns
  have h3 := h.used
  have h4 := h.cap
  have h5 := h.most
  exact ⟨by omega, by omega, by omega⟩

set_option maxRecDepth 100000 in
/-- One act further: the document's first (wa), then the program's (wb), then the box. -/
theorem MadeI.step {w wr wa wb : World} {g p B0 B1 X : Nat} {S : Nat → Prop} {d : Dsk} {k i : Nat} {s : Vst} {lv dv : Value} {ps : List (Ndl × Value)} (h : MadeI w wr g p B0 B1 S d k i s lv dv ps) (hi : i ≤ 60) (a : A9) (hd9 : a.n.data.length ≤ 300)
    {lv1 dv1 : Value} {ps1 : List (Ndl × Value)} {s1 : Vst} (hs1 : (actV s a).1 = s1) (hba : Below wr.heap.size wr wa) (hda : DocP wa (SX S B0 B1) s1 lv1 dv1 ps1)
    (hX : Blk wa X #[.int .i64 (s1.num : Int), .int .i64 (s1.most : Int), .int .i64 (s1.epoch : Int), .int .i64 (s1.size : Int), .bool s1.shut, lv1, dv1] 30) (hXr : wr.heap.size ≤ X)
    (ht : VolT wa wb g p S d s (k + 10) s1) (o : Obj) :
    Blk (wb.alloc o) X #[.int .i64 (s1.num : Int), .int .i64 (s1.most : Int), .int .i64 (s1.epoch : Int), .int .i64 (s1.size : Int), .bool s1.shut, lv1, dv1] 30 ∧
    Blk (wb.alloc o) B1 #[.int .i64 (s.num : Int), .int .i64 (s.most : Int), .int .i64 (s.epoch : Int), .int .i64 (s.size : Int), .bool s.shut, lv, dv] 30 ∧
    ∃ S' d', MadeI w (set7 (wb.alloc o) B1 (.int .i64 (s1.num : Int)) (.int .i64 (s1.most : Int)) (.int .i64 (s1.epoch : Int)) (.int .i64 (s1.size : Int)) (.bool s1.shut) lv1 dv1) g p B0 B1 S' d' (k + 10) (i + 1) s1 lv1 dv1 ps1 := by
  have hkp := actV_keeps s a hd9
  rw [hs1] at hkp
  obtain ⟨d', ⟨S', hv', hk, hS'⟩, hl', hok', hcap, hnow, hused, hview⟩ := ht
  have hlow := h.low
  have hlt := h.r.vl.lt
  have hz1 : B0 < wr.heap.size := h.z.lt
  have hz2 : B1 < wr.heap.size := h.v.lt
  have hsz := hba.size
  have hne := h.ne
  have hXS : ¬ S X := fun e => by have := hlt X e; omega
  have hX1 := (hX.kept hk hXS).alloc o
  have hB1S : ¬ S B1 := fun e => (hlow B1 e).2.2 rfl
  have hB0S : ¬ S B0 := fun e => (hlow B0 e).2.1 rfl
  have hv1 := ((h.v.below hba hz2).kept hk hB1S).alloc o
  have hz3 := ((h.z.below hba hz1).kept hk hB0S).alloc o
  have hB1S' : ¬ S' B1 := fun e => by
    rcases hS' B1 e with e | e
    · exact hB1S e
    · omega
  have hB0S' : ¬ S' B0 := fun e => by
    rcases hS' B0 e with e | e
    · exact hB0S e
    · omega
  have hbel := h.bel
  have hws := hbel.size
  have hbw : Below w.heap.size w wb := (hbel.trans (hba.mono hws)).trans (hk.below (by omega) (fun j hj e => by have := (hlow j e).1; omega))
  have hbs : wa.heap.size ≤ wb.heap.size := hk.size
  refine ⟨hX1, hv1, S', d', ⟨⟨?_, hl', hok', ?_, ?_⟩, ?_, ?_, ?_, h.b0, h.b1, hne, ?_, ?_, ?_, ?_, ?_, ?_, ?_, ?_, ?_, ?_, ?_, ?_⟩⟩
  · exact (hv'.below (below_alloc wb o) (Nat.le_refl _)).kept (kept_set7 _ B1 _ _ _ _ _ _ _) (fun b hb e => by subst e; exact hB1S' hb)
  · have := h.few; omega
  · rw [hnow]; have := h.names; omega
  · have := h.few; omega
  · have h1 : DocP (wb.alloc o) (SX S' B0 B1) s1 lv1 dv1 ps1 := (hda.kept ((hk.alloc o).mono (T := SX S B0 B1) (fun _ _ e => .inl e)) (S' := SX S' B0 B1) (fun b hb => by
      rcases hb with hb | hb
      · rcases hS' b hb with hb | hb
        · exact .inl (.inl hb)
        · exact .inr hb
      · exact .inl (.inr hb)))
    exact h1.kept ((kept_set7 _ B1 _ _ _ _ _ _ _).mono (fun j _ e => .inr (.inr e))) (fun b hb => .inl hb)
  · intro b hb
    rcases hS' b hb with e | e
    · exact hlow b e
    · exact ⟨by omega, by omega, by omega⟩
  · exact hz3.other7 hne _ _ _ _ _ _ _
  · exact blk_set7 hv1 _ _ _ _ _ _ _
  · exact below_set7 (hbw.alloc hbw.size o) h.b1
  · have := h.used; omega
  · rw [hcap]; exact h.cap
  · rw [hnow]; exact h.names
  · rw [hkp.num]; exact h.num
  · rw [hkp.gen]; exact h.gen
  · rw [hkp.most]; exact h.most
  · have := hkp.few; have := h.ns; omega
  · have := hkp.size; have := h.size; omega
  · intro m h1 h2 h3
    rw [hview m (by rw [h.num, h.gen]; exact h1) (by rw [h.num]; exact h2) (by rw [h.num]; exact h3)]
    exact h.views m h1 h2 h3

end Go.Proofs.YtoblbipkkdiddaaGreatDoor
end

section
namespace Go.Proofs.YtoblbipkkdiddaaGreatDoor
open Go.RowKit Go.Cor

/-- A needle that may come behind some. -/
def Next (ns : List Ndl) (m : Ndl) : Prop := ∀ o, newest ns m.key = some o → o.gone = false ∧ m.gone = true ∧ o.cookie = m.cookie
inductive Grows (a : List Ndl) : List Ndl → Prop
  | same : Grows a a
  | more {b : List Ndl} (m : Ndl) : Grows a b → Next b m → Grows a (b ++ [m])
theorem Grows.trans {a b c : List Ndl} (h : Grows a b) (k : Grows b c) : Grows a c := by
  induction k with
  | same => exact h
  | more m _ hn ih => exact .more m ih hn
/-- What a key had is there, or what outdates it. -/
theorem Grows.has {a b : List Ndl} (h : Grows a b) : ∀ k o, newest a k = some o → ∃ n, newest b k = some n ∧ (o.gone = true → n.gone = true) ∧ o.cookie = n.cookie ∧ (n.gone = false → o = n) := by
  induction h with
  | same => exact fun k o ho => ⟨o, ho, id, rfl, fun _ => rfl⟩
  | @more b m _ hn ih =>
    intro k o ho
    obtain ⟨n, h1, h2, h3, h4⟩ := ih k o ho
    by_cases hk : m.key = k
    · subst hk
      obtain ⟨g1, g2, g3⟩ := hn n h1
      exact ⟨m, by rw [newest_snoc, if_pos rfl], fun _ => g2, h3.trans g3, fun h => by rw [g2] at h; cases h⟩
    · exact ⟨n, by rw [newest_snoc, if_neg hk]; exact h1, h2, h3, h4⟩
theorem Grows.agree {a b : Vst} (h : Grows b.ns a.ns) : Agree a b := fun k n o hn ho => by
  obtain ⟨n', h1, h2, h3, h4⟩ := h.has k o ho
  rw [hn] at h1
  cases h1
  exact ⟨h3, fun _ h => h4 h⟩
theorem Grows.join {a b : Vst} (h : Grows b.ns a.ns) (k : Nat) : ∀ o, joinN (newest a.ns k) (newest b.ns k) = some o → ∃ n, newest a.ns k = some n ∧ (o.gone = true ↔ n.gone = true) ∧ (o.gone = false → o = n) ∧ o.cookie = n.cookie := by
  intro o ho
  cases hn : newest a.ns k with
  | none =>
    rw [hn, joinN_none] at ho
    obtain ⟨n, h1, _⟩ := h.has k o ho
    rw [hn] at h1
    cases h1
  | some n =>
    rw [hn] at ho
    obtain ⟨o', e, g1, _, g3⟩ := joinN_some (n := n) (y := newest b.ns k)
    rw [e] at ho
    cases ho
    rcases g3 with rfl | hq
    · exact ⟨_, rfl, Iff.rfl, fun _ => rfl, rfl⟩
    · obtain ⟨n', h1, h2, h3, h4⟩ := h.has k _ hq
      rw [hn] at h1
      cases h1
      refine ⟨n, rfl, ⟨h2, g1⟩, fun hg => h4 ?_, h3⟩
      cases hng : n.gone with
      | false => rfl
      | true => rw [g1 hng] at hg; cases hg
theorem Grows.back {a b c : Vst} (h : Grows b.ns a.ns) (hj : ∀ k, newest c.ns k = joinN (newest a.ns k) (newest b.ns k)) : behindL c a = [] :=
  behind_none fun k o ho => by
    rw [hj] at ho
    obtain ⟨n, h1, h2, _⟩ := h.join k o ho
    exact ⟨n, h1, h2.1⟩
/-- A blob is got alike from both. -/
theorem Grows.look {a b c : Vst} (h : Grows b.ns a.ns) (hj : ∀ k, newest c.ns k = joinN (newest a.ns k) (newest b.ns k)) (k ck : Nat) : c.look k ck = a.look k ck ∧ (a.look k ck = 0 → newest c.ns k = newest a.ns k) := by
  cases hc : newest c.ns k with
  | none =>
    have ha : newest a.ns k = none := by
      cases hn : newest a.ns k with
      | none => rfl
      | some n =>
        obtain ⟨o, e, _⟩ := joinN_some (n := n) (y := newest b.ns k)
        rw [hj, hn, e] at hc
        cases hc
    unfold Vst.look
    rw [hc, ha]
    exact ⟨rfl, fun h => by simp at h⟩
  | some o =>
    rw [hj] at hc
    obtain ⟨n, h1, h2, h3, h4⟩ := h.join k o hc
    have hcn : newest c.ns k = some o := by rw [hj]; exact hc
    unfold Vst.look
    rw [hcn, h1]
    cases hg : o.gone with
    | true =>
      have hg2 := h2.1 hg
      simp [hg, hg2]
    | false =>
      have := h3 hg
      subst this
      exact ⟨by simp [hg], fun _ => rfl⟩

theorem write_next {s : Vst} {n : Ndl} (h : Next s.ns n) : (s.write n).1.ns = s.ns ∨ (s.write n).1.ns = s.ns ++ [n] ∧ Next s.ns n := by
  unfold Vst.write
  split
  · exact .inl rfl
  · exact .inr ⟨rfl, h⟩
theorem put_next (s : Vst) (n : Ndl) : (s.put n).1.ns = s.ns ∨ (s.put n).1.ns = s.ns ++ [n] ∧ Next s.ns n := by
  unfold Vst.put
  split
  · exact .inl rfl
  · split
    · exact .inl rfl
    · split
      · exact .inl rfl
      · split
        · exact .inl rfl
        · rename_i ho
          exact write_next fun o h => by rw [ho] at h; cases h
theorem del_next (s : Vst) (k c : Nat) : (s.del k c).1.ns = s.ns ∨ (s.del k c).1.ns = s.ns ++ [grave k c] ∧ Next s.ns (grave k c) := by
  unfold Vst.del
  split
  · exact .inl rfl
  · rename_i hl
    split
    · exact .inl rfl
    · refine write_next fun o h => ?_
      have hl0 : s.look k c = 0 := by
        by_cases e : s.look k c = 0
        · exact e
        · exact absurd e hl
      obtain ⟨n, _, _, h1, h2, h3, _⟩ := look_some hl0
      have h' : newest s.ns k = some o := h
      rw [h1] at h'
      cases h'
      exact ⟨h2, rfl, h3⟩
theorem actV_next (s : Vst) (a : A9) : (actV s a).1.ns = s.ns ∨ ∃ m, (actV s a).1.ns = s.ns ++ [m] ∧ Next s.ns m ∧ (m = a.n ∨ m = grave a.n.key a.n.cookie) := by
  unfold actV
  split
  · exact (put_next s a.n).imp id fun h => ⟨_, h.1, h.2, .inl rfl⟩
  · split
    · exact (del_next s _ _).imp id fun h => ⟨_, h.1, h.2, .inr rfl⟩
    · split
      · exact .inl rfl
      · split
        · exact .inl (set_keeps s a.m a.n.gone).2.2.2
        · exact .inl rfl
/-- Behind some acts. -/
def runA (s : Vst) (l : List A9) : Vst := l.foldl (fun s a => (actV s a).1) s
theorem runA_snoc (s : Vst) (l : List A9) (a : A9) : runA s (l ++ [a]) = (actV (runA s l) a).1 := by simp [runA]
theorem runA_append (s : Vst) (l m : List A9) : runA s (l ++ m) = runA (runA s l) m := by simp [runA]
theorem runA_grows : ∀ (l : List A9) (s : Vst), Grows s.ns (runA s l).ns
  | [], _ => .same
  | a :: l, s => by
    have h : Grows s.ns (actV s a).1.ns := by
      rcases actV_next s a with h | ⟨m, h1, h2, _⟩
      · rw [h]; exact .same
      · rw [h1]; exact .more m .same h2
    exact h.trans (runA_grows l _)
theorem runA_take (s : Vst) (l : List A9) (j : Nat) : Grows (runA s (l.take j)).ns (runA s l).ns := by
  have h := runA_grows (l.drop j) (runA s (l.take j))
  rw [← runA_append, List.take_append_drop] at h
  exact h
theorem runA_small : ∀ (l : List A9) (s : Vst), (∀ a ∈ l, a.n.data.length ≤ 300) → ∀ n ∈ (runA s l).ns, n ∈ s.ns ∨ n.data.length ≤ 300
  | [], _, _, n, hn => .inl hn
  | a :: l, s, h, n, hn => by
    rcases runA_small l (actV s a).1 (fun b hb => h b (List.mem_cons_of_mem _ hb)) n hn with h1 | h1
    · rcases actV_next s a with e | ⟨m, e, _, hm⟩
      · rw [e] at h1; exact .inl h1
      · rw [e] at h1
        rcases List.mem_append.1 h1 with h1 | h1
        · exact .inl h1
        · rw [List.mem_singleton.1 h1]
          rcases hm with rfl | rfl
          · exact .inr (h a (List.mem_cons_self ..))
          · exact .inr (by simp [grave])
    · exact .inr h1

/-- The number of a volume is of no matter to its acts. -/
def _root_.Go.Cor.Vst.at (s : Vst) (v : Nat) : Vst := { s with num := v }
theorem write_at (s : Vst) (v : Nat) (n : Ndl) : (s.at v).write n = ((s.write n).1.at v, (s.write n).2) := by
  unfold Vst.write Vst.at Vst.wrote Vst.size
  simp only
  split <;> rfl
theorem put_at (s : Vst) (v : Nat) (n : Ndl) : (s.at v).put n = ((s.put n).1.at v, (s.put n).2) := by
  unfold Vst.put
  show (if n.gone = true then _ else if ncheck n ≠ 0 then _ else if s.shut = true then _ else match newest s.ns n.key with | some o => _ | none => (s.at v).write n) = _
  split
  · rfl
  · split
    · rfl
    · split
      · rfl
      · cases newest s.ns n.key with
        | some o => rfl
        | none => exact write_at s v n
theorem del_at (s : Vst) (v k c : Nat) : (s.at v).del k c = ((s.del k c).1.at v, (s.del k c).2) := by
  unfold Vst.del
  show (if s.look k c ≠ 0 then _ else if s.shut = true then _ else (s.at v).write (grave k c)) = _
  split
  · rfl
  · split
    · rfl
    · exact write_at s v _
theorem set_at (s : Vst) (v : Nat) (e : Int) (b : Bool) : (s.at v).set e b = ((s.set e b).1.at v, (s.set e b).2) := by
  unfold Vst.set
  show (if e < 0 ∨ 2147483647 < e then _ else if e < (s.epoch : Int) then _ else _) = _
  split
  · rfl
  · split <;> rfl
theorem actV_at (s : Vst) (v : Nat) (a : A9) : actV (s.at v) a = ((actV s a).1.at v, (actV s a).2) := by
  unfold actV
  split
  · exact put_at s v a.n
  · split
    · exact del_at s v _ _
    · split
      · rfl
      · split
        · exact set_at s v _ _
        · rfl
theorem runA_at : ∀ (l : List A9) (s : Vst) (v : Nat), runA (s.at v) l = (runA s l).at v
  | [], _, _ => rfl
  | a :: l, s, v => by
    show runA (actV (s.at v) a).1 l = _
    rw [actV_at]
    exact runA_at l _ v

theorem tot_le {L : List Ndl} {B : Nat} (h : ∀ n ∈ L, nlen n ≤ B) : tot L ≤ B * L.length := by
  induction L with
  | nil => exact Nat.zero_le _
  | cons n r ih =>
    have h1 := h n (List.mem_cons_self ..)
    have h2 := ih fun m hm => h m (List.mem_cons_of_mem _ hm)
    simp only [tot, List.length_cons]
    rw [Nat.mul_add]
    omega

end Go.Proofs.YtoblbipkkdiddaaGreatDoor
end

section
namespace Go.Proofs.YtoblbipkkdiddaaGreatDoor
open Go.RowKit Go.Cor

/-- Between two acts. -/
structure MadeJ (V M : Nat) (w wq : World) (g p B0 B1 : Nat) (S : Nat → Prop) (d : Dsk) (k i : Nat) (s : Vst) (lv dv : Value) (ps : List (Ndl × Value)) (acs : List A9) : Prop where
  r : Vready wq g p S d k s
  few : k ≤ 16 + 10 * i
  doc : DocP wq (SX S B0 B1) s lv dv ps
  low : ∀ b, S b → w.heap.size ≤ b ∧ b ≠ B0 ∧ b ≠ B1
  b0 : w.heap.size ≤ B0
  b1 : w.heap.size ≤ B1
  ne : B1 ≠ B0
  z : Blk wq B0 zvol 30
  v : Blk wq B1 #[.int .i64 (s.num : Int), .int .i64 (s.most : Int), .int .i64 (s.epoch : Int), .int .i64 (s.size : Int), .bool s.shut, lv, dv] 30
  bel : Below w.heap.size w wq
  used : d.used = 24 + s.size
  cap : d.cap = 1048576
  names : d.now.length = 2
  num : s.num = V
  gen : s.gen = 1
  most : s.most = M
  ns : s.ns.length ≤ i
  size : s.size ≤ 16 + 400 * i
  run : s = runA (vst0 V M 0) acs
  views : ∀ m, m ≠ nmD V 1 → m ≠ nmM V → m ≠ nmS V → view d m = none
theorem MadeJ.lt {V M : Nat} {w wq : World} {g p B0 B1 : Nat} {S : Nat → Prop} {d : Dsk} {k i : Nat} {s : Vst} {lv dv : Value} {ps : List (Ndl × Value)} {acs : List A9} (h : MadeJ V M w wq g p B0 B1 S d k i s lv dv ps acs) : ∀ b, SX S B0 B1 b → b < wq.heap.size := fun b hb => by
  rcases hb with hb | rfl | rfl
  · exact h.r.vl.lt b hb
  · exact h.z.lt
  · exact h.v.lt
set_option maxRecDepth 100000 in
/-- What is wanted of the room for an act. -/
theorem MadeJ.room {V M : Nat} {w wq : World} {g p B0 B1 : Nat} {S : Nat → Prop} {d : Dsk} {k i : Nat} {s : Vst} {lv dv : Value} {ps : List (Ndl × Value)} {acs : List A9} (h : MadeJ V M w wq g p B0 B1 S d k i s lv dv ps acs) (hi : i ≤ 60) (n : Ndl) (hn : nlen n ≤ 400) : Room' s d n := by
  have h1 := h.size
  have h2 := h.ns
  have h3 := h.used
  have h4 := h.cap
  exact ⟨by omega, fun _ => by omega⟩

set_option maxRecDepth 100000 in
/-- One act further: the document's first (wa), then the program's (wb), then the box. -/
theorem MadeJ.step {V M : Nat} {w wr wa wb : World} {g p B0 B1 X : Nat} {S : Nat → Prop} {d : Dsk} {k i : Nat} {s : Vst} {lv dv : Value} {ps : List (Ndl × Value)} {acs : List A9} (h : MadeJ V M w wr g p B0 B1 S d k i s lv dv ps acs) (hi : i ≤ 60) (a : A9) (hd9 : a.n.data.length ≤ 300)
    {lv1 dv1 : Value} {ps1 : List (Ndl × Value)} {s1 : Vst} (hs1 : (actV s a).1 = s1) (hba : Below wr.heap.size wr wa) (hda : DocP wa (SX S B0 B1) s1 lv1 dv1 ps1)
    (hX : Blk wa X #[.int .i64 (s1.num : Int), .int .i64 (s1.most : Int), .int .i64 (s1.epoch : Int), .int .i64 (s1.size : Int), .bool s1.shut, lv1, dv1] 30) (hXr : wr.heap.size ≤ X)
    (ht : VolT wa wb g p S d s (k + 10) s1) (o : Obj) :
    Blk (wb.alloc o) X #[.int .i64 (s1.num : Int), .int .i64 (s1.most : Int), .int .i64 (s1.epoch : Int), .int .i64 (s1.size : Int), .bool s1.shut, lv1, dv1] 30 ∧
    Blk (wb.alloc o) B1 #[.int .i64 (s.num : Int), .int .i64 (s.most : Int), .int .i64 (s.epoch : Int), .int .i64 (s.size : Int), .bool s.shut, lv, dv] 30 ∧
    ∃ S' d', MadeJ V M w (set7 (wb.alloc o) B1 (.int .i64 (s1.num : Int)) (.int .i64 (s1.most : Int)) (.int .i64 (s1.epoch : Int)) (.int .i64 (s1.size : Int)) (.bool s1.shut) lv1 dv1) g p B0 B1 S' d' (k + 10) (i + 1) s1 lv1 dv1 ps1 (acs ++ [a]) := by
  have hkp := actV_keeps s a hd9
  rw [hs1] at hkp
  obtain ⟨d', ⟨S', hv', hk, hS'⟩, hl', hok', hcap, hnow, hused, hview⟩ := ht
  have hlow := h.low
  have hlt := h.r.vl.lt
  have hz1 : B0 < wr.heap.size := h.z.lt
  have hz2 : B1 < wr.heap.size := h.v.lt
  have hsz := hba.size
  have hne := h.ne
  have hXS : ¬ S X := fun e => by have := hlt X e; omega
  have hX1 := (hX.kept hk hXS).alloc o
  have hB1S : ¬ S B1 := fun e => (hlow B1 e).2.2 rfl
  have hB0S : ¬ S B0 := fun e => (hlow B0 e).2.1 rfl
  have hv1 := ((h.v.below hba hz2).kept hk hB1S).alloc o
  have hz3 := ((h.z.below hba hz1).kept hk hB0S).alloc o
  have hB1S' : ¬ S' B1 := fun e => by
    rcases hS' B1 e with e | e
    · exact hB1S e
    · omega
  have hB0S' : ¬ S' B0 := fun e => by
    rcases hS' B0 e with e | e
    · exact hB0S e
    · omega
  have hbel := h.bel
  have hws := hbel.size
  have hbw : Below w.heap.size w wb := (hbel.trans (hba.mono hws)).trans (hk.below (by omega) (fun j hj e => by have := (hlow j e).1; omega))
  have hbs : wa.heap.size ≤ wb.heap.size := hk.size
  refine ⟨hX1, hv1, S', d', ⟨⟨?_, hl', hok', ?_, ?_⟩, ?_, ?_, ?_, h.b0, h.b1, hne, ?_, ?_, ?_, ?_, ?_, ?_, ?_, ?_, ?_, ?_, ?_, ?_, ?_⟩⟩
  · exact (hv'.below (below_alloc wb o) (Nat.le_refl _)).kept (kept_set7 _ B1 _ _ _ _ _ _ _) (fun b hb e => by subst e; exact hB1S' hb)
  · have := h.few; omega
  · rw [hnow]; have := h.names; omega
  · have := h.few; omega
  · have h1 : DocP (wb.alloc o) (SX S' B0 B1) s1 lv1 dv1 ps1 := (hda.kept ((hk.alloc o).mono (T := SX S B0 B1) (fun _ _ e => .inl e)) (S' := SX S' B0 B1) (fun b hb => by
      rcases hb with hb | hb
      · rcases hS' b hb with hb | hb
        · exact .inl (.inl hb)
        · exact .inr hb
      · exact .inl (.inr hb)))
    exact h1.kept ((kept_set7 _ B1 _ _ _ _ _ _ _).mono (fun j _ e => .inr (.inr e))) (fun b hb => .inl hb)
  · intro b hb
    rcases hS' b hb with e | e
    · exact hlow b e
    · exact ⟨by omega, by omega, by omega⟩
  · exact hz3.other7 hne _ _ _ _ _ _ _
  · exact blk_set7 hv1 _ _ _ _ _ _ _
  · exact below_set7 (hbw.alloc hbw.size o) h.b1
  · have := h.used; omega
  · rw [hcap]; exact h.cap
  · rw [hnow]; exact h.names
  · rw [hkp.num]; exact h.num
  · rw [hkp.gen]; exact h.gen
  · rw [hkp.most]; exact h.most
  · have := hkp.few; have := h.ns; omega
  · have := hkp.size; have := h.size; omega
  · rw [runA_snoc, ← h.run]; exact hs1.symm
  · intro m h1 h2 h3
    rw [hview m (by rw [h.num, h.gen]; exact h1) (by rw [h.num]; exact h2) (by rw [h.num]; exact h3)]
    exact h.views m h1 h2 h3

end Go.Proofs.YtoblbipkkdiddaaGreatDoor
end
