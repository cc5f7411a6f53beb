/- Package disk: what a crash leaves of a file: by contract. -/
import Derived.Test.YtnofabeajcdddaaNms
namespace Go.Proofs.Ytnofabeajcdddaa
open Go.RowKit Go.Cor

theorem pbox_facts {w : World} {g : Nat} {a0 a1 : Value} {T : TypeId} (h : Blk w g #[a0, a1] T) : w.cell? ⟨g, 0, none⟩ = some a0 ∧ w.cell? ⟨g, 1, none⟩ = some a1 := ⟨h.cell 0 rfl, h.cell 1 rfl⟩
def Fell (w : World) (g : Nat) (kk : Int) (v : Value) (f' : Fil) (w' : World) : Prop :=
  ∃ v', Blk w' g #[.int .i64 kk, v', .int .i64 (f'.lasts : Int)] 93 ∧ w'.ownsRow 0 5 1 v' f'.b.length (bvs f'.b) ∧ Kept (fun j => some g = some j ∨ v.ownBlock = some j) w w' ∧ ∀ j, v'.ownBlock = some j → v.ownBlock = some j

set_option maxRecDepth 100000 in
set_option maxHeartbeats 4000000 in
theorem fall_no (w : World) (g : Nat) (kk : Int) (v : Value) (f : Fil) (p : Pck) (hB : Blk w g #[.int .i64 kk, v, .int .i64 (f.lasts : Int)] 93) (ho : w.ownsRow 0 5 1 v f.b.length (bvs f.b)) (hne : ¬ v.ownBlock = some g) (hf : f.lasts ≤ f.b.length) (hl : f.b.length ≤ 16777216) (hC : clampN p.keep (f.b.length - f.lasts) = 0) :
    Calls Try.prog 48 #[.pointer (some ⟨g, 0, none⟩), pckV p] w fun e w' => e = .returned (.tuple #[]) ∧ Fell w g kk v (fallF f p) w' := by
  obtain ⟨C, hCC⟩ : ∃ C, clampN p.keep (f.b.length - f.lasts) = C := ⟨_, rfl⟩
  obtain ⟨N, hN⟩ : ∃ N, f.b.length = N := ⟨_, rfl⟩
  obtain ⟨la, hla⟩ : ∃ la, f.lasts = la := ⟨_, rfl⟩
  obtain ⟨q, hq⟩ : ∃ q, la + C = q := ⟨_, rfl⟩
  have hCl : C ≤ N - la := by rw [← hCC, ← hN, ← hla]; exact Nat.min_le_right _ _
  obtain ⟨R, hR⟩ : ∃ R, N - la = R := ⟨_, rfl⟩
  rw [hCC] at hC
  have hfall : fallF f p = ⟨if 0 < C then (f.b.take q).set (q - 1) (f.b.getD (q - 1) 0 ^^^ p.turn) else f.b.take q, q⟩ := by
    unfold fallF
    dsimp only
    rw [hCC, hla, hq]
  rw [hfall, if_neg (by omega)]
  rw [hN, hla, hR] at hCC
  rw [hN] at hl hf
  rw [hla] at hf
  have hglt := hB.lt
  have hlen := fun W => len_X (P := Try.prog) (IsX.own ho) 37 3 _ Try.underlying37 W
  rw [hN] at hlen
  obtain ⟨x, cap, hV, hc1, hc2⟩ := ownsRow_slice ho
  rw [hN] at hV hc1
  have hsl := slice_h_X (P := Try.prog) 1 x N cap 37 _ Try.underlying37 Try.sizeU8b q (by omega)
  rw [← hV] at hsl
  have hlen2 := fun W => len_X (P := Try.prog) (v := .slice x q cap) (w := w) (size := 1) (n := q) (cs := (bvs f.b).take (q * 1)) (by have h := IsX.own ho; rw [hN, hV] at h; exact h.take (by omega)) 37 3 _ Try.underlying37 W
  have hY : w.ownsRow 0 5 1 (.slice x q cap) q (bvs (f.b.take q)) := by
    have h := ho
    rw [hN, hV] at h
    have := ownsRow_take h (show q ≤ N by omega)
    rw [Nat.mul_one, bvs_take] at this
    exact this
  have HOB := Lib.hid (show ∀ i, (Value.slice x q cap).ownBlock = some i → v.ownBlock = some i from by rw [hV]; intro i hi; cases x <;> exact hi)
  have HY := Lib.hid hY
  have HB := Lib.hid (show Blk w g #[.int .i64 kk, v, .int .i64 (la : Int)] 93 from by rw [← hla]; exact hB)
  have HW := Lib.hid (within_any p.keep R)
  have HCC := Lib.hid hCC
  have HNE := Lib.hid hne
  have hvlt := fun i hi => (ho.lt i hi).2
  have HVL := Lib.hid hvlt
  have hw1 : IntKind.i64.wrap ((N : Int) - (la : Int)) = (R : Int) := by rw [IntWalk.i64_in _ (by omega)]; omega
  have hw2 : IntKind.i64.wrap ((la : Int) + (C : Int)) = (q : Int) := by rw [IntWalk.i64_in _ (by omega)]; omega
  have h3 : ¬ (0 : Int) < (C : Int) := by omega
  have HC := Lib.hid hC
  clear hC
  have h0 : (w.alloc (.cells #[.int .i64 p.keep, .int .u8 (p.turn.toNat : Int)] 107)).drew.cell? ⟨w.heap.size, 0, none⟩ = some (.int .i64 p.keep) ∧ (w.alloc (.cells #[.int .i64 p.keep, .int .u8 (p.turn.toNat : Int)] 107)).drew.cell? ⟨g, 1, none⟩ = some v ∧ (w.alloc (.cells #[.int .i64 p.keep, .int .u8 (p.turn.toNat : Int)] 107)).drew.cell? ⟨g, 2, none⟩ = some (.int .i64 (la : Int)) :=
    ⟨(Blk.new w _ _).cell 0 rfl, (HB.out.alloc _).cell 1 rfl, (HB.out.alloc _).cell 2 rfl⟩
  clear hB ho hne hY hV hfall hCC hN hla hq hR hvlt
  go_enter Try.func48, Try.ntmps48
  go_upto_region 1 with fail
  go_cut [4] from 4 to 17 (fun c wx => c = .int .i64 (C : Int) ∧ Hid (Blk wx w.heap.size #[.int .i64 p.keep, .int .u8 (p.turn.toNat : Int)] 107 ∧ Below w.heap.size w wx))
  case first =>
    go_region_held3 (fun wx => wx.cell? ⟨w.heap.size, 0, none⟩ = some (.int .i64 p.keep) ∧ wx.cell? ⟨g, 1, none⟩ = some v ∧ wx.cell? ⟨g, 2, none⟩ = some (.int .i64 (la : Int))) (exact h0) (first | (go_at_call 46; refine (HW.out _).mono ?_; rintro e wa ⟨rfl, rfl⟩; rw [HCC.out]))
    go_wp2_with fail
    go_meet
    exact ⟨rfl, Lib.hid ⟨(Blk.new w _ _).drew, ((Below.refl _ w).alloc (Nat.le_refl _) _).drew⟩⟩
  case rest =>
    obtain ⟨rfl, hcut2⟩ := hcut
    obtain ⟨w1, hw1'⟩ : ∃ w1, w1 = wc := ⟨_, rfl⟩
    subst hw1'
    clear h0 HW
    have HP1 := Lib.hid hcut2.out.1
    have HB1 := Lib.hid hcut2.out.2
    have HX1 := Lib.hid (HB.out.below hcut2.out.2 hglt)
    have HY1 := Lib.hid (ownsRow_below HY.out hcut2.out.2 (Nat.le_refl _))
    have hs1 : w.heap.size < w1.heap.size := HP1.out.lt
    clear hcut2
    obtain ⟨_, k1, k2⟩ := fbox_facts HX1.out
    have g1 := HX1.out.free 1
    have HK1 := Lib.hid (Kept.of_below (S := fun j => some g = some j ∨ v.ownBlock = some j) HB1.out (Nat.le_refl _))
    go_upto_region 2 with fail
    go_cut [29] from 18 to 31 (fun _ wx => Hid (Blk wx g #[.int .i64 kk, .slice x q cap, .int .i64 (la : Int)] 93 ∧ Blk wx w.heap.size #[.int .i64 p.keep, .int .u8 (p.turn.toNat : Int)] 107 ∧ wx.ownsRow 0 5 1 (.slice x q cap) q (bvs (f.b.take q)) ∧ Kept (fun j => some g = some j ∨ v.ownBlock = some j) w wx))
    case first =>
      refine wp_region_held_drew (S := (fun wx => wx.cell? ⟨g, 2, none⟩ = some (.int .i64 (la : Int)))) (by kernel_rfl) (k2) (fun hHeld => ?_)
      refine wpAnyH_take (i := 0) (v := ?_) rfl (by kernel_rfl) (by kernel_rfl) (by kernel_rfl) (fun _ _ _ h => h) (Or.inl ⟨by rfl, ?_⟩) (by assumption) ?_
      rotate_left 1
      · intro w hSw
        (try dsimp only at hSw)
        go_simp
        all_goals (with_reducible rfl)
      try simp only [Act.put, List.getElem_toArray, List.getElem_cons_zero, List.getElem_cons_succ, List.setIfInBounds_toArray, List.set_cons_zero, List.set_cons_succ]
      refine wpAnyH_take (i := 1) (v := ?_) rfl (by kernel_rfl) (by kernel_rfl) (by kernel_rfl) (fun _ _ _ h => h) (Or.inl ⟨by rfl, ?_⟩) (by assumption) ?_
      rotate_left 1
      · intro w hSw
        (try dsimp only at hSw)
        go_simp
        all_goals (with_reducible rfl)
      try simp only [Act.put, List.getElem_toArray, List.getElem_cons_zero, List.getElem_cons_succ, List.setIfInBounds_toArray, List.set_cons_zero, List.set_cons_succ]
      refine wpAnyH_take (i := 2) (v := ?_) rfl (by kernel_rfl) (by kernel_rfl) (by kernel_rfl) (fun _ _ _ h => h) (Or.inl ⟨by rfl, ?_⟩) (by assumption) ?_
      rotate_left 1
      · intro w hSw
        (try dsimp only at hSw)
        go_simp
        all_goals (with_reducible rfl)
      try simp only [Act.put, List.getElem_toArray, List.getElem_cons_zero, List.getElem_cons_succ, List.setIfInBounds_toArray, List.set_cons_zero, List.set_cons_succ]
      refine wpAnyH_take (i := 3) (v := ?_) rfl (by kernel_rfl) (by kernel_rfl) (by kernel_rfl) (fun _ _ _ h => h) (Or.inl ⟨by rfl, ?_⟩) (by assumption) ?_
      rotate_left 1
      · intro w hSw
        (try dsimp only at hSw)
        go_simp
        all_goals (with_reducible rfl)
      try simp only [Act.put, List.getElem_toArray, List.getElem_cons_zero, List.getElem_cons_succ, List.setIfInBounds_toArray, List.set_cons_zero, List.set_cons_succ]
      refine wpAnyH_take (i := 5) (v := ?_) rfl (by kernel_rfl) (by kernel_rfl) (by kernel_rfl) (fun _ _ _ h => h) (Or.inl ⟨by rfl, ?_⟩) (by assumption) ?_
      rotate_left 1
      · intro w hSw
        (try dsimp only at hSw)
        go_simp
        all_goals (with_reducible rfl)
      try simp only [Act.put, List.getElem_toArray, List.getElem_cons_zero, List.getElem_cons_succ, List.setIfInBounds_toArray, List.set_cons_zero, List.set_cons_succ]
      refine wpAnyH_take (i := 6) (v := ?_) rfl (by kernel_rfl) (by kernel_rfl) (by kernel_rfl) (fun _ _ _ h => h) (Or.inl ⟨by rfl, ?_⟩) (by assumption) ?_
      rotate_left 1
      · intro w hSw
        (try dsimp only at hSw)
        go_simp
        all_goals (with_reducible rfl)
      try simp only [Act.put, List.getElem_toArray, List.getElem_cons_zero, List.getElem_cons_succ, List.setIfInBounds_toArray, List.set_cons_zero, List.set_cons_succ]
      refine wpAnyH_take (i := 7) (v := ?_) rfl (by kernel_rfl) (by kernel_rfl) (by kernel_rfl) (fun _ _ _ h => h) (Or.inl ⟨by rfl, ?_⟩) (by assumption) ?_
      rotate_left 1
      · intro w hSw
        (try dsimp only at hSw)
        go_simp
        all_goals (with_reducible rfl)
      try simp only [Act.put, List.getElem_toArray, List.getElem_cons_zero, List.getElem_cons_succ, List.setIfInBounds_toArray, List.set_cons_zero, List.set_cons_succ]
      refine wpAnyH_take (i := 8) (v := ?_) rfl (by kernel_rfl) (by kernel_rfl) (by kernel_rfl) (fun _ _ _ h => h) (Or.inl ⟨by rfl, ?_⟩) (by assumption) ?_
      rotate_left 1
      · intro w hSw
        (try dsimp only at hSw)
        go_simp
        all_goals (with_reducible rfl)
      try simp only [Act.put, List.getElem_toArray, List.getElem_cons_zero, List.getElem_cons_succ, List.setIfInBounds_toArray, List.set_cons_zero, List.set_cons_succ]
      refine wpAnyH_take (i := 9) (v := ?_) rfl (by kernel_rfl) (by kernel_rfl) (by kernel_rfl) (fun _ _ _ h => h) (Or.inl ⟨by rfl, ?_⟩) (by assumption) ?_
      rotate_left 1
      · intro w hSw
        (try dsimp only at hSw)
        go_simp
        all_goals (with_reducible rfl)
      try simp only [Act.put, List.getElem_toArray, List.getElem_cons_zero, List.getElem_cons_succ, List.setIfInBounds_toArray, List.set_cons_zero, List.set_cons_succ]
      refine wpAnyH_take (i := 10) (v := ?_) rfl (by kernel_rfl) (by kernel_rfl) (by kernel_rfl) (fun _ _ _ h => h) (Or.inl ⟨by rfl, ?_⟩) (by assumption) ?_
      rotate_left 1
      · intro w hSw
        (try dsimp only at hSw)
        go_simp
        all_goals (with_reducible rfl)
      try simp only [Act.put, List.getElem_toArray, List.getElem_cons_zero, List.getElem_cons_succ, List.setIfInBounds_toArray, List.set_cons_zero, List.set_cons_succ]
      refine wpAnyH_ready (rs := [4]) (by kernel_rfl) (by simp) ?_
      refine AllReadyH.cons rfl (fun K hK => ?_) AllReadyH.nil
      go_simp
      refine hK.out _ _ (k2) (fun hHeld => ?_)
      clear hK K
      try simp only [Act.put, List.getElem_toArray, List.getElem_cons_zero, List.getElem_cons_succ, List.setIfInBounds_toArray, List.set_cons_zero, List.set_cons_succ]
      refine wpAnyH_take (i := 11) (v := ?_) rfl (by kernel_rfl) (by kernel_rfl) (by kernel_rfl) (fun _ _ _ h => h) (Or.inl ⟨by rfl, ?_⟩) (by assumption) ?_
      rotate_left 1
      · intro w hSw
        (try dsimp only at hSw)
        go_simp
        all_goals (with_reducible rfl)
      try simp only [Act.put, List.getElem_toArray, List.getElem_cons_zero, List.getElem_cons_succ, List.setIfInBounds_toArray, List.set_cons_zero, List.set_cons_succ]
      refine wpAnyH_take (i := 12) (v := ?_) rfl (by kernel_rfl) (by kernel_rfl) (by kernel_rfl) (fun _ _ _ h => h) (Or.inl ⟨by rfl, ?_⟩) (by assumption) ?_
      rotate_left 1
      · intro w hSw
        (try dsimp only at hSw)
        go_simp
        all_goals (with_reducible rfl)
      try simp only [Act.put, List.getElem_toArray, List.getElem_cons_zero, List.getElem_cons_succ, List.setIfInBounds_toArray, List.set_cons_zero, List.set_cons_succ]
      refine wpAnyH_take (i := 13) (v := ?_) rfl (by kernel_rfl) (by kernel_rfl) (by kernel_rfl) (fun _ _ _ h => h) (Or.inl ⟨by rfl, ?_⟩) (by assumption) ?_
      rotate_left 1
      · intro w hSw
        (try dsimp only at hSw)
        go_simp
        all_goals (with_reducible rfl)
      try simp only [Act.put, List.getElem_toArray, List.getElem_cons_zero, List.getElem_cons_succ, List.setIfInBounds_toArray, List.set_cons_zero, List.set_cons_succ]
      refine wpAnyH_ready (rs := [14]) (by kernel_rfl) (by simp) ?_
      refine AllReadyH.cons rfl (fun K hK => ?_) AllReadyH.nil
      go_simp
      refine hK.out _ _ (HX1.out.set 1 (Value.slice x q cap) |>.cell 2 rfl) (fun hHeld => ?_)
      clear hK K
      try simp only [Act.put, List.getElem_toArray, List.getElem_cons_zero, List.getElem_cons_succ, List.setIfInBounds_toArray, List.set_cons_zero, List.set_cons_succ]
      refine wpAnyH_done (by kernel_rfl) ?_ _
      go_wp2_with fail
      go_meet
      exact Lib.hid ⟨(HX1.out.set 1 (.slice x q cap)).drew, (HP1.out.other (a := ⟨g, 1, none⟩) (by show g ≠ _; omega) _).drew, ownsRow_kept (S := fun j => some g = some j) HY1.out (((Kept.refl (fun j => some g = some j) w1).setCell (p := ⟨g, 1, none⟩) (.inl rfl) _).drew) (fun i e e2 => HNE.out (by rw [HOB.out i e, e2])), (HK1.out.setCell (p := ⟨g, 1, none⟩) (.inl (.inl rfl)) _).drew⟩
    case rest =>
      obtain ⟨w2, hw2'⟩ : ∃ w2, w2 = wc := ⟨_, rfl⟩
      subst hw2'
      clear HP1 HB1 HX1 HY1 HK1 k1 k2 g1 hs1
      have HX2 := Lib.hid hcut.out.1
      have HP2 := Lib.hid hcut.out.2.1
      have HY2 := Lib.hid hcut.out.2.2.1
      have HK2 := Lib.hid hcut.out.2.2.2
      have hs2 : w.heap.size < w2.heap.size := HP2.out.lt
      clear hcut
      obtain ⟨_, k1, k2⟩ := fbox_facts HX2.out
      have g2 := HX2.out.free 2
      go_wp2
      go_end0
      exact ⟨rfl, .slice x q cap, HX2.out.set 2 (.int .i64 (q : Int)), by have := ownsRow_kept (S := fun j => some g = some j) HY2.out ((Kept.refl (fun j => some g = some j) w2).setCell (p := ⟨g, 2, none⟩) (.inl rfl) (.int .i64 (q : Int))) (fun i e e2 => HNE.out (by rw [HOB.out i e, e2])); rw [show (f.b.take q).length = q from by have := HY2.out.1; simpa using this]; exact this, HK2.out.setCell (p := ⟨g, 2, none⟩) (.inl (.inl rfl)) _, HOB.out⟩

set_option maxRecDepth 100000 in
set_option maxHeartbeats 4000000 in
theorem fall_yes (w : World) (g : Nat) (kk : Int) (v : Value) (f : Fil) (p : Pck) (hB : Blk w g #[.int .i64 kk, v, .int .i64 (f.lasts : Int)] 93) (ho : w.ownsRow 0 5 1 v f.b.length (bvs f.b)) (hne : ¬ v.ownBlock = some g) (hf : f.lasts ≤ f.b.length) (hl : f.b.length ≤ 16777216) (hC : 0 < clampN p.keep (f.b.length - f.lasts)) :
    Calls Try.prog 48 #[.pointer (some ⟨g, 0, none⟩), pckV p] w fun e w' => e = .returned (.tuple #[]) ∧ Fell w g kk v (fallF f p) w' := by
  obtain ⟨C, hCC⟩ : ∃ C, clampN p.keep (f.b.length - f.lasts) = C := ⟨_, rfl⟩
  obtain ⟨N, hN⟩ : ∃ N, f.b.length = N := ⟨_, rfl⟩
  obtain ⟨la, hla⟩ : ∃ la, f.lasts = la := ⟨_, rfl⟩
  obtain ⟨q, hq⟩ : ∃ q, la + C = q := ⟨_, rfl⟩
  have hCl : C ≤ N - la := by rw [← hCC, ← hN, ← hla]; exact Nat.min_le_right _ _
  obtain ⟨R, hR⟩ : ∃ R, N - la = R := ⟨_, rfl⟩
  rw [hCC] at hC
  have hfall : fallF f p = ⟨if 0 < C then (f.b.take q).set (q - 1) (f.b.getD (q - 1) 0 ^^^ p.turn) else f.b.take q, q⟩ := by
    unfold fallF
    dsimp only
    rw [hCC, hla, hq]
  rw [hfall, if_pos hC]
  rw [hN, hla, hR] at hCC
  rw [hN] at hl hf
  rw [hla] at hf
  have hglt := hB.lt
  have hlen := fun W => len_X (P := Try.prog) (IsX.own ho) 37 3 _ Try.underlying37 W
  rw [hN] at hlen
  obtain ⟨x, cap, hV, hc1, hc2⟩ := ownsRow_slice ho
  rw [hN] at hV hc1
  have hsl := slice_h_X (P := Try.prog) 1 x N cap 37 _ Try.underlying37 Try.sizeU8b q (by omega)
  rw [← hV] at hsl
  have hlen2 := fun W => len_X (P := Try.prog) (v := .slice x q cap) (w := w) (size := 1) (n := q) (cs := (bvs f.b).take (q * 1)) (by have h := IsX.own ho; rw [hN, hV] at h; exact h.take (by omega)) 37 3 _ Try.underlying37 W
  have hY : w.ownsRow 0 5 1 (.slice x q cap) q (bvs (f.b.take q)) := by
    have h := ho
    rw [hN, hV] at h
    have := ownsRow_take h (show q ≤ N by omega)
    rw [Nat.mul_one, bvs_take] at this
    exact this
  have HOB := Lib.hid (show ∀ i, (Value.slice x q cap).ownBlock = some i → v.ownBlock = some i from by rw [hV]; intro i hi; cases x <;> exact hi)
  have HY := Lib.hid hY
  have HB := Lib.hid (show Blk w g #[.int .i64 kk, v, .int .i64 (la : Int)] 93 from by rw [← hla]; exact hB)
  have HW := Lib.hid (within_any p.keep R)
  have HCC := Lib.hid hCC
  have HNE := Lib.hid hne
  have hvlt := fun i hi => (ho.lt i hi).2
  have HVL := Lib.hid hvlt
  have hw1 : IntKind.i64.wrap ((N : Int) - (la : Int)) = (R : Int) := by rw [IntWalk.i64_in _ (by omega)]; omega
  have hw2 : IntKind.i64.wrap ((la : Int) + (C : Int)) = (q : Int) := by rw [IntWalk.i64_in _ (by omega)]; omega
  have h3 : (0 : Int) < (C : Int) := by omega
  have hdc : decide (0 < C) = true := decide_eq_true (by omega)
  obtain ⟨m, hm⟩ : ∃ m, q = m + 1 := ⟨q - 1, by omega⟩
  have hw3 : IntKind.i64.wrap ((q : Int) - 1) = (m : Int) := by rw [IntWalk.i64_in _ (by omega)]; omega
  rw [show q - 1 = m from by omega]
  obtain ⟨yb, hyb⟩ : ∃ yb, f.b.getD m 0 = yb := ⟨_, rfl⟩
  rw [hyb]
  have HMQ := Lib.hid (show m < q from by omega)
  have HYB := Lib.hid (show (f.b.take q).getD m 0 = yb from by rw [← hyb, List.getD_eq_getElem?_getD, List.getD_eq_getElem?_getD, List.getElem?_take, if_pos (by omega)])
  have HC := Lib.hid hC
  have hxor : bits .xor .u8 (yb.toNat : Int) (p.turn.toNat : Int) = (((yb ^^^ p.turn : UInt8)).toNat : Int) := by rw [u8_xor_nat _ _ yb.toNat_lt p.turn.toNat_lt, UInt8.toNat_xor]
  clear hC hm hyb
  have h0 : (w.alloc (.cells #[.int .i64 p.keep, .int .u8 (p.turn.toNat : Int)] 107)).drew.cell? ⟨w.heap.size, 0, none⟩ = some (.int .i64 p.keep) ∧ (w.alloc (.cells #[.int .i64 p.keep, .int .u8 (p.turn.toNat : Int)] 107)).drew.cell? ⟨g, 1, none⟩ = some v ∧ (w.alloc (.cells #[.int .i64 p.keep, .int .u8 (p.turn.toNat : Int)] 107)).drew.cell? ⟨g, 2, none⟩ = some (.int .i64 (la : Int)) :=
    ⟨(Blk.new w _ _).cell 0 rfl, (HB.out.alloc _).cell 1 rfl, (HB.out.alloc _).cell 2 rfl⟩
  clear hB ho hne hY hV hfall hCC hN hla hq hR hvlt
  go_enter Try.func48, Try.ntmps48
  go_upto_region 1 with fail
  go_cut [4] from 4 to 17 (fun c wx => c = .int .i64 (C : Int) ∧ Hid (Blk wx w.heap.size #[.int .i64 p.keep, .int .u8 (p.turn.toNat : Int)] 107 ∧ Below w.heap.size w wx))
  case first =>
    go_region_held3 (fun wx => wx.cell? ⟨w.heap.size, 0, none⟩ = some (.int .i64 p.keep) ∧ wx.cell? ⟨g, 1, none⟩ = some v ∧ wx.cell? ⟨g, 2, none⟩ = some (.int .i64 (la : Int))) (exact h0) (first | (go_at_call 46; refine (HW.out _).mono ?_; rintro e wa ⟨rfl, rfl⟩; rw [HCC.out]))
    go_wp2_with fail
    go_meet
    exact ⟨rfl, Lib.hid ⟨(Blk.new w _ _).drew, ((Below.refl _ w).alloc (Nat.le_refl _) _).drew⟩⟩
  case rest =>
    obtain ⟨rfl, hcut2⟩ := hcut
    obtain ⟨w1, hw1'⟩ : ∃ w1, w1 = wc := ⟨_, rfl⟩
    subst hw1'
    clear h0 HW
    have HP1 := Lib.hid hcut2.out.1
    have HB1 := Lib.hid hcut2.out.2
    have HX1 := Lib.hid (HB.out.below hcut2.out.2 hglt)
    have HY1 := Lib.hid (ownsRow_below HY.out hcut2.out.2 (Nat.le_refl _))
    have hs1 : w.heap.size < w1.heap.size := HP1.out.lt
    clear hcut2
    obtain ⟨_, k1, k2⟩ := fbox_facts HX1.out
    have g1 := HX1.out.free 1
    have HK1 := Lib.hid (Kept.of_below (S := fun j => some g = some j ∨ v.ownBlock = some j) HB1.out (Nat.le_refl _))
    go_upto_region 2 with fail
    go_cut [29] from 18 to 31 (fun _ wx => Hid (Blk wx g #[.int .i64 kk, .slice x q cap, .int .i64 (la : Int)] 93 ∧ Blk wx w.heap.size #[.int .i64 p.keep, .int .u8 (p.turn.toNat : Int)] 107 ∧ wx.ownsRow 0 5 1 (.slice x q cap) q (bvs (f.b.take q)) ∧ Kept (fun j => some g = some j ∨ v.ownBlock = some j) w wx))
    case first =>
      refine wp_region_held_drew (S := (fun wx => wx.cell? ⟨g, 2, none⟩ = some (.int .i64 (la : Int)))) (by kernel_rfl) (k2) (fun hHeld => ?_)
      refine wpAnyH_take (i := 0) (v := ?_) rfl (by kernel_rfl) (by kernel_rfl) (by kernel_rfl) (fun _ _ _ h => h) (Or.inl ⟨by rfl, ?_⟩) (by assumption) ?_
      rotate_left 1
      · intro w hSw
        (try dsimp only at hSw)
        go_simp
        all_goals (with_reducible rfl)
      try simp only [Act.put, List.getElem_toArray, List.getElem_cons_zero, List.getElem_cons_succ, List.setIfInBounds_toArray, List.set_cons_zero, List.set_cons_succ]
      refine wpAnyH_take (i := 1) (v := ?_) rfl (by kernel_rfl) (by kernel_rfl) (by kernel_rfl) (fun _ _ _ h => h) (Or.inl ⟨by rfl, ?_⟩) (by assumption) ?_
      rotate_left 1
      · intro w hSw
        (try dsimp only at hSw)
        go_simp
        all_goals (with_reducible rfl)
      try simp only [Act.put, List.getElem_toArray, List.getElem_cons_zero, List.getElem_cons_succ, List.setIfInBounds_toArray, List.set_cons_zero, List.set_cons_succ]
      refine wpAnyH_take (i := 2) (v := ?_) rfl (by kernel_rfl) (by kernel_rfl) (by kernel_rfl) (fun _ _ _ h => h) (Or.inl ⟨by rfl, ?_⟩) (by assumption) ?_
      rotate_left 1
      · intro w hSw
        (try dsimp only at hSw)
        go_simp
        all_goals (with_reducible rfl)
      try simp only [Act.put, List.getElem_toArray, List.getElem_cons_zero, List.getElem_cons_succ, List.setIfInBounds_toArray, List.set_cons_zero, List.set_cons_succ]
      refine wpAnyH_take (i := 3) (v := ?_) rfl (by kernel_rfl) (by kernel_rfl) (by kernel_rfl) (fun _ _ _ h => h) (Or.inl ⟨by rfl, ?_⟩) (by assumption) ?_
      rotate_left 1
      · intro w hSw
        (try dsimp only at hSw)
        go_simp
        all_goals (with_reducible rfl)
      try simp only [Act.put, List.getElem_toArray, List.getElem_cons_zero, List.getElem_cons_succ, List.setIfInBounds_toArray, List.set_cons_zero, List.set_cons_succ]
      refine wpAnyH_take (i := 5) (v := ?_) rfl (by kernel_rfl) (by kernel_rfl) (by kernel_rfl) (fun _ _ _ h => h) (Or.inl ⟨by rfl, ?_⟩) (by assumption) ?_
      rotate_left 1
      · intro w hSw
        (try dsimp only at hSw)
        go_simp
        all_goals (with_reducible rfl)
      try simp only [Act.put, List.getElem_toArray, List.getElem_cons_zero, List.getElem_cons_succ, List.setIfInBounds_toArray, List.set_cons_zero, List.set_cons_succ]
      refine wpAnyH_take (i := 6) (v := ?_) rfl (by kernel_rfl) (by kernel_rfl) (by kernel_rfl) (fun _ _ _ h => h) (Or.inl ⟨by rfl, ?_⟩) (by assumption) ?_
      rotate_left 1
      · intro w hSw
        (try dsimp only at hSw)
        go_simp
        all_goals (with_reducible rfl)
      try simp only [Act.put, List.getElem_toArray, List.getElem_cons_zero, List.getElem_cons_succ, List.setIfInBounds_toArray, List.set_cons_zero, List.set_cons_succ]
      refine wpAnyH_take (i := 7) (v := ?_) rfl (by kernel_rfl) (by kernel_rfl) (by kernel_rfl) (fun _ _ _ h => h) (Or.inl ⟨by rfl, ?_⟩) (by assumption) ?_
      rotate_left 1
      · intro w hSw
        (try dsimp only at hSw)
        go_simp
        all_goals (with_reducible rfl)
      try simp only [Act.put, List.getElem_toArray, List.getElem_cons_zero, List.getElem_cons_succ, List.setIfInBounds_toArray, List.set_cons_zero, List.set_cons_succ]
      refine wpAnyH_take (i := 8) (v := ?_) rfl (by kernel_rfl) (by kernel_rfl) (by kernel_rfl) (fun _ _ _ h => h) (Or.inl ⟨by rfl, ?_⟩) (by assumption) ?_
      rotate_left 1
      · intro w hSw
        (try dsimp only at hSw)
        go_simp
        all_goals (with_reducible rfl)
      try simp only [Act.put, List.getElem_toArray, List.getElem_cons_zero, List.getElem_cons_succ, List.setIfInBounds_toArray, List.set_cons_zero, List.set_cons_succ]
      refine wpAnyH_take (i := 9) (v := ?_) rfl (by kernel_rfl) (by kernel_rfl) (by kernel_rfl) (fun _ _ _ h => h) (Or.inl ⟨by rfl, ?_⟩) (by assumption) ?_
      rotate_left 1
      · intro w hSw
        (try dsimp only at hSw)
        go_simp
        all_goals (with_reducible rfl)
      try simp only [Act.put, List.getElem_toArray, List.getElem_cons_zero, List.getElem_cons_succ, List.setIfInBounds_toArray, List.set_cons_zero, List.set_cons_succ]
      refine wpAnyH_take (i := 10) (v := ?_) rfl (by kernel_rfl) (by kernel_rfl) (by kernel_rfl) (fun _ _ _ h => h) (Or.inl ⟨by rfl, ?_⟩) (by assumption) ?_
      rotate_left 1
      · intro w hSw
        (try dsimp only at hSw)
        go_simp
        all_goals (with_reducible rfl)
      try simp only [Act.put, List.getElem_toArray, List.getElem_cons_zero, List.getElem_cons_succ, List.setIfInBounds_toArray, List.set_cons_zero, List.set_cons_succ]
      refine wpAnyH_ready (rs := [4]) (by kernel_rfl) (by simp) ?_
      refine AllReadyH.cons rfl (fun K hK => ?_) AllReadyH.nil
      go_simp
      refine hK.out _ _ (k2) (fun hHeld => ?_)
      clear hK K
      try simp only [Act.put, List.getElem_toArray, List.getElem_cons_zero, List.getElem_cons_succ, List.setIfInBounds_toArray, List.set_cons_zero, List.set_cons_succ]
      refine wpAnyH_take (i := 11) (v := ?_) rfl (by kernel_rfl) (by kernel_rfl) (by kernel_rfl) (fun _ _ _ h => h) (Or.inl ⟨by rfl, ?_⟩) (by assumption) ?_
      rotate_left 1
      · intro w hSw
        (try dsimp only at hSw)
        go_simp
        all_goals (with_reducible rfl)
      try simp only [Act.put, List.getElem_toArray, List.getElem_cons_zero, List.getElem_cons_succ, List.setIfInBounds_toArray, List.set_cons_zero, List.set_cons_succ]
      refine wpAnyH_take (i := 12) (v := ?_) rfl (by kernel_rfl) (by kernel_rfl) (by kernel_rfl) (fun _ _ _ h => h) (Or.inl ⟨by rfl, ?_⟩) (by assumption) ?_
      rotate_left 1
      · intro w hSw
        (try dsimp only at hSw)
        go_simp
        all_goals (with_reducible rfl)
      try simp only [Act.put, List.getElem_toArray, List.getElem_cons_zero, List.getElem_cons_succ, List.setIfInBounds_toArray, List.set_cons_zero, List.set_cons_succ]
      refine wpAnyH_take (i := 13) (v := ?_) rfl (by kernel_rfl) (by kernel_rfl) (by kernel_rfl) (fun _ _ _ h => h) (Or.inl ⟨by rfl, ?_⟩) (by assumption) ?_
      rotate_left 1
      · intro w hSw
        (try dsimp only at hSw)
        go_simp
        all_goals (with_reducible rfl)
      try simp only [Act.put, List.getElem_toArray, List.getElem_cons_zero, List.getElem_cons_succ, List.setIfInBounds_toArray, List.set_cons_zero, List.set_cons_succ]
      refine wpAnyH_ready (rs := [14]) (by kernel_rfl) (by simp) ?_
      refine AllReadyH.cons rfl (fun K hK => ?_) AllReadyH.nil
      go_simp
      refine hK.out _ _ (HX1.out.set 1 (Value.slice x q cap) |>.cell 2 rfl) (fun hHeld => ?_)
      clear hK K
      try simp only [Act.put, List.getElem_toArray, List.getElem_cons_zero, List.getElem_cons_succ, List.setIfInBounds_toArray, List.set_cons_zero, List.set_cons_succ]
      refine wpAnyH_done (by kernel_rfl) ?_ _
      go_wp2_with fail
      go_meet
      exact Lib.hid ⟨(HX1.out.set 1 (.slice x q cap)).drew, (HP1.out.other (a := ⟨g, 1, none⟩) (by show g ≠ _; omega) _).drew, ownsRow_kept (S := fun j => some g = some j) HY1.out (((Kept.refl (fun j => some g = some j) w1).setCell (p := ⟨g, 1, none⟩) (.inl rfl) _).drew) (fun i e e2 => HNE.out (by rw [HOB.out i e, e2])), (HK1.out.setCell (p := ⟨g, 1, none⟩) (.inl (.inl rfl)) _).drew⟩
    case rest =>
      obtain ⟨w2, hw2'⟩ : ∃ w2, w2 = wc := ⟨_, rfl⟩
      subst hw2'
      clear HP1 HB1 HX1 HY1 HK1 k1 k2 g1 hs1
      have HX2 := Lib.hid hcut.out.1
      have HP2 := Lib.hid hcut.out.2.1
      have HY2 := Lib.hid hcut.out.2.2.1
      have HK2 := Lib.hid hcut.out.2.2.2
      have hs2 : w.heap.size < w2.heap.size := HP2.out.lt
      clear hcut
      obtain ⟨_, k1, k2⟩ := fbox_facts HX2.out
      have g2 := HX2.out.free 2
      have p1 := HP2.out.cell 1 (v := .int .u8 (p.turn.toNat : Int)) rfl
      obtain ⟨gb, hgo, hidx, hcells, hfree, hst⟩ := indexAt_own HY2.out 37 _ Try.underlying37 Try.sizeU8b m HMQ.out
      rw [Nat.mul_one] at hidx hcells
      have kb := hcells 0 (by decide)
      rw [Nat.add_zero, bvs_get (by have := HY2.out.1; rw [length_bvs, Nat.mul_one] at this; rw [this]; exact HMQ.out), HYB.out] at kb
      have gbf := hfree m
      have HGV := Lib.hid (HOB.out gb hgo)
      have HX2B := Lib.hid (HX2.out.other (a := ⟨gb, m, none⟩) (fun e => HNE.out (by rw [HGV.out]; show some gb = some g; rw [show gb = g from e])) (bv (yb ^^^ p.turn)))
      have HP2B := Lib.hid (HP2.out.other (a := ⟨gb, m, none⟩) (fun e => by have := HVL.out gb HGV.out; have e' : gb = w.heap.size := e; omega) (bv (yb ^^^ p.turn)))
      have HST := Lib.hid (hst m (bv (yb ^^^ p.turn)))
      clear hcells hfree hst hgo
      go_upto_region 4 with fail
      go_cut [48] from 34 to 49 (fun _ wx => Hid (Blk wx g #[.int .i64 kk, .slice x q cap, .int .i64 (la : Int)] 93 ∧ wx.ownsRow 0 5 1 (.slice x q cap) q (bvs ((f.b.take q).set m (yb ^^^ p.turn))) ∧ Kept (fun j => some g = some j ∨ v.ownBlock = some j) w wx))
      case first =>
        refine wp_region_held_drew (S := (fun wx => wx.cell? ⟨g, 1, none⟩ = some (Value.slice x q cap) ∧ wx.cell? ⟨w.heap.size, 1, none⟩ = some (.int .u8 (p.turn.toNat : Int)))) (by kernel_rfl) (⟨k1, p1⟩) (fun hHeld => ?_)
        refine wpAnyH_take (i := 0) (v := ?_) rfl (by kernel_rfl) (by kernel_rfl) (by kernel_rfl) (fun _ _ _ h => h) (Or.inl ⟨by rfl, ?_⟩) (by assumption) ?_
        rotate_left 1
        · intro w hSw
          (try dsimp only at hSw)
          go_simp
          all_goals (with_reducible rfl)
        try simp only [Act.put, List.getElem_toArray, List.getElem_cons_zero, List.getElem_cons_succ, List.setIfInBounds_toArray, List.set_cons_zero, List.set_cons_succ]
        refine wpAnyH_take (i := 1) (v := ?_) rfl (by kernel_rfl) (by kernel_rfl) (by kernel_rfl) (fun _ _ _ h => h) (Or.inl ⟨by rfl, ?_⟩) (by assumption) ?_
        rotate_left 1
        · intro w hSw
          (try dsimp only at hSw)
          go_simp
          all_goals (with_reducible rfl)
        try simp only [Act.put, List.getElem_toArray, List.getElem_cons_zero, List.getElem_cons_succ, List.setIfInBounds_toArray, List.set_cons_zero, List.set_cons_succ]
        refine wpAnyH_take (i := 2) (v := ?_) rfl (by kernel_rfl) (by kernel_rfl) (by kernel_rfl) (fun _ _ _ h => h) (Or.inl ⟨by rfl, ?_⟩) (by assumption) ?_
        rotate_left 1
        · intro w hSw
          (try dsimp only at hSw)
          go_simp
          all_goals (with_reducible rfl)
        try simp only [Act.put, List.getElem_toArray, List.getElem_cons_zero, List.getElem_cons_succ, List.setIfInBounds_toArray, List.set_cons_zero, List.set_cons_succ]
        refine wpAnyH_take (i := 3) (v := ?_) rfl (by kernel_rfl) (by kernel_rfl) (by kernel_rfl) (fun _ _ _ h => h) (Or.inl ⟨by rfl, ?_⟩) (by assumption) ?_
        rotate_left 1
        · intro w hSw
          (try dsimp only at hSw)
          go_simp
          all_goals (with_reducible rfl)
        try simp only [Act.put, List.getElem_toArray, List.getElem_cons_zero, List.getElem_cons_succ, List.setIfInBounds_toArray, List.set_cons_zero, List.set_cons_succ]
        refine wpAnyH_take (i := 4) (v := ?_) rfl (by kernel_rfl) (by kernel_rfl) (by kernel_rfl) (fun _ _ _ h => h) (Or.inl ⟨by rfl, ?_⟩) (by assumption) ?_
        rotate_left 1
        · intro w hSw
          (try dsimp only at hSw)
          go_simp
          all_goals (with_reducible rfl)
        try simp only [Act.put, List.getElem_toArray, List.getElem_cons_zero, List.getElem_cons_succ, List.setIfInBounds_toArray, List.set_cons_zero, List.set_cons_succ]
        refine wpAnyH_take (i := 5) (v := ?_) rfl (by kernel_rfl) (by kernel_rfl) (by kernel_rfl) (fun _ _ _ h => h) (Or.inl ⟨by rfl, ?_⟩) (by assumption) ?_
        rotate_left 1
        · intro w hSw
          (try dsimp only at hSw)
          go_simp
          all_goals (with_reducible rfl)
        try simp only [Act.put, List.getElem_toArray, List.getElem_cons_zero, List.getElem_cons_succ, List.setIfInBounds_toArray, List.set_cons_zero, List.set_cons_succ]
        refine wpAnyH_take (i := 6) (v := ?_) rfl (by kernel_rfl) (by kernel_rfl) (by kernel_rfl) (fun _ _ _ h => h) (Or.inl ⟨by rfl, ?_⟩) (by assumption) ?_
        rotate_left 1
        · intro w hSw
          (try dsimp only at hSw)
          go_simp
          all_goals (with_reducible rfl)
        try simp only [Act.put, List.getElem_toArray, List.getElem_cons_zero, List.getElem_cons_succ, List.setIfInBounds_toArray, List.set_cons_zero, List.set_cons_succ]
        refine wpAnyH_take (i := 7) (v := ?_) rfl (by kernel_rfl) (by kernel_rfl) (by kernel_rfl) (fun _ _ _ h => h) (Or.inl ⟨by rfl, ?_⟩) (by assumption) ?_
        rotate_left 1
        · intro w hSw
          (try dsimp only at hSw)
          go_simp
          all_goals (with_reducible rfl)
        try simp only [Act.put, List.getElem_toArray, List.getElem_cons_zero, List.getElem_cons_succ, List.setIfInBounds_toArray, List.set_cons_zero, List.set_cons_succ]
        refine wpAnyH_take (i := 8) (v := ?_) rfl (by kernel_rfl) (by kernel_rfl) (by kernel_rfl) (fun _ _ _ h => h) (Or.inl ⟨by rfl, ?_⟩) (by assumption) ?_
        rotate_left 1
        · intro w hSw
          (try dsimp only at hSw)
          go_simp
          all_goals (with_reducible rfl)
        try simp only [Act.put, List.getElem_toArray, List.getElem_cons_zero, List.getElem_cons_succ, List.setIfInBounds_toArray, List.set_cons_zero, List.set_cons_succ]
        refine wpAnyH_take (i := 9) (v := ?_) rfl (by kernel_rfl) (by kernel_rfl) (by kernel_rfl) (fun _ _ _ h => h) (Or.inl ⟨by rfl, ?_⟩) (by assumption) ?_
        rotate_left 1
        · intro w hSw
          (try dsimp only at hSw)
          go_simp
          all_goals (with_reducible rfl)
        try simp only [Act.put, List.getElem_toArray, List.getElem_cons_zero, List.getElem_cons_succ, List.setIfInBounds_toArray, List.set_cons_zero, List.set_cons_succ]
        refine wpAnyH_take (i := 10) (v := ?_) rfl (by kernel_rfl) (by kernel_rfl) (by kernel_rfl) (fun _ _ _ h => h) (Or.inl ⟨by rfl, ?_⟩) (by assumption) ?_
        rotate_left 1
        · intro w hSw
          (try dsimp only at hSw)
          go_simp
          all_goals (with_reducible rfl)
        try simp only [Act.put, List.getElem_toArray, List.getElem_cons_zero, List.getElem_cons_succ, List.setIfInBounds_toArray, List.set_cons_zero, List.set_cons_succ]
        refine wpAnyH_take (i := 12) (v := ?_) rfl (by kernel_rfl) (by kernel_rfl) (by kernel_rfl) (fun _ _ _ h => h) (Or.inl ⟨by rfl, ?_⟩) (by assumption) ?_
        rotate_left 1
        · intro w hSw
          (try dsimp only at hSw)
          go_simp
          all_goals (with_reducible rfl)
        try simp only [Act.put, List.getElem_toArray, List.getElem_cons_zero, List.getElem_cons_succ, List.setIfInBounds_toArray, List.set_cons_zero, List.set_cons_succ]
        refine wpAnyH_take (i := 13) (v := ?_) rfl (by kernel_rfl) (by kernel_rfl) (by kernel_rfl) (fun _ _ _ h => h) (Or.inl ⟨by rfl, ?_⟩) (by assumption) ?_
        rotate_left 1
        · intro w hSw
          (try dsimp only at hSw)
          go_simp
          all_goals (with_reducible rfl)
        try simp only [Act.put, List.getElem_toArray, List.getElem_cons_zero, List.getElem_cons_succ, List.setIfInBounds_toArray, List.set_cons_zero, List.set_cons_succ]
        refine wpAnyH_ready (rs := [11]) (by kernel_rfl) (by simp) ?_
        refine AllReadyH.cons rfl (fun K hK => ?_) AllReadyH.nil
        go_simp
        refine hK.out _ _ (⟨k1, p1⟩) (fun hHeld => ?_)
        clear hK K
        try simp only [Act.put, List.getElem_toArray, List.getElem_cons_zero, List.getElem_cons_succ, List.setIfInBounds_toArray, List.set_cons_zero, List.set_cons_succ]
        refine wpAnyH_take (i := 14) (v := ?_) rfl (by kernel_rfl) (by kernel_rfl) (by kernel_rfl) (fun _ _ _ h => h) (Or.inl ⟨by rfl, ?_⟩) (by assumption) ?_
        rotate_left 1
        · intro w hSw
          (try dsimp only at hSw)
          go_simp
          all_goals (with_reducible rfl)
        try simp only [Act.put, List.getElem_toArray, List.getElem_cons_zero, List.getElem_cons_succ, List.setIfInBounds_toArray, List.set_cons_zero, List.set_cons_succ]
        refine wpAnyH_take (i := 15) (v := ?_) rfl (by kernel_rfl) (by kernel_rfl) (by kernel_rfl) (fun _ _ _ h => h) (Or.inl ⟨by rfl, ?_⟩) (by assumption) ?_
        rotate_left 1
        · intro w hSw
          (try dsimp only at hSw)
          go_simp
          all_goals (with_reducible rfl)
        try simp only [Act.put, List.getElem_toArray, List.getElem_cons_zero, List.getElem_cons_succ, List.setIfInBounds_toArray, List.set_cons_zero, List.set_cons_succ]
        refine wpAnyH_ready (rs := [16]) (by kernel_rfl) (by simp) ?_
        refine AllReadyH.cons rfl (fun K hK => ?_) AllReadyH.nil
        go_simp
        refine hK.out _ _ (⟨HX2B.out.cell 1 rfl, HP2B.out.cell 1 rfl⟩) (fun hHeld => ?_)
        clear hK K
        try simp only [Act.put, List.getElem_toArray, List.getElem_cons_zero, List.getElem_cons_succ, List.setIfInBounds_toArray, List.set_cons_zero, List.set_cons_succ]
        refine wpAnyH_done (by kernel_rfl) ?_ _
        go_wp2_with fail
        go_meet
        rw [show (Value.int .u8 ((yb.toNat ^^^ p.turn.toNat : Nat) : Int)) = bv (yb ^^^ p.turn) from by show _ = Value.int .u8 (((yb ^^^ p.turn).toNat : Nat) : Int); rw [UInt8.toNat_xor]]
        exact Lib.hid ⟨HX2B.out.drew, by have h := HST.out; rw [bvs_set] at h; exact h, (HK2.out.setCell (p := ⟨gb, m, none⟩) (.inl (.inr HGV.out)) (bv (yb ^^^ p.turn))).drew⟩
      case rest =>
        obtain ⟨w3, hw3'⟩ : ∃ w3, w3 = wc := ⟨_, rfl⟩
        subst hw3'
        clear k1 k2 g2 p1 kb gbf hidx HX2B HP2B HST
        have HX3 := Lib.hid hcut.out.1
        have HY3 := Lib.hid hcut.out.2.1
        have HK3 := Lib.hid hcut.out.2.2
        clear hcut
        obtain ⟨_, k1, k2⟩ := fbox_facts HX3.out
        have g2 := HX3.out.free 2
        go_wp2
        go_end0
        exact ⟨rfl, .slice x q cap, HX3.out.set 2 (.int .i64 (q : Int)), by have := ownsRow_kept (S := fun j => some g = some j) HY3.out ((Kept.refl (fun j => some g = some j) w3).setCell (p := ⟨g, 2, none⟩) (.inl rfl) (.int .i64 (q : Int))) (fun i e e2 => HNE.out (by rw [HOB.out i e, e2])); rw [show ((f.b.take q).set m (yb ^^^ p.turn)).length = q from by have := HY3.out.1; simpa using this]; exact this, HK3.out.setCell (p := ⟨g, 2, none⟩) (.inl (.inl rfl)) _, HOB.out⟩

theorem fall_any (w : World) (g : Nat) (kk : Int) (v : Value) (f : Fil) (p : Pck) (hB : Blk w g #[.int .i64 kk, v, .int .i64 (f.lasts : Int)] 93) (ho : w.ownsRow 0 5 1 v f.b.length (bvs f.b)) (hne : ¬ v.ownBlock = some g) (hf : f.lasts ≤ f.b.length) (hl : f.b.length ≤ 16777216) :
    Calls Try.prog 48 #[.pointer (some ⟨g, 0, none⟩), pckV p] w fun e w' => e = .returned (.tuple #[]) ∧ Fell w g kk v (fallF f p) w' := by
  by_cases h : clampN p.keep (f.b.length - f.lasts) = 0
  · exact fall_no w g kk v f p hB ho hne hf hl h
  · exact fall_yes w g kk v f p hB ho hne hf hl (by omega)

end Go.Proofs.Ytnofabeajcdddaa
