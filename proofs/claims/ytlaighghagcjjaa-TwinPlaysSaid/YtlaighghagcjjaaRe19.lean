/- The document's own answer for layer 19: Do of a new volume. -/
import Derived.Test.YtlaighghagcjjaaRd19
import Derived.Test.YtlaighghagcjjaaOrdE
namespace Go.Proofs.Ytlaighghagcjjaa
open Go.RowKit Go.Cor
set_option linter.unusedVariables false
set_option linter.unusedSimpArgs false

theorem IsX.litAt14 (w : World) (cs : Array Value) (T : TypeId) (size n b : Nat) (hb : w.heap.size = b) (hs : cs.size = n * size) (hm : n ≤ maxLen) : IsX (w.alloc (.cells cs T)) size (.slice (some ⟨b, 0, none⟩) n n) n cs.toList := by
  subst hb
  exact IsX.lit w cs T size n hs hm
theorem own_litAt14 (w : World) (B : Nat) (T : TypeId) (size b : Nat) (hb : w.heap.size = b) (hB : B ≤ b) : (w.alloc (.cells #[] T)).ownsRow B T size (.slice (some ⟨b, 0, none⟩) 0 0) 0 [] := by
  subst hb
  exact World.ownsRow_lit (base := B) (e := T) (size := size) w #[] 0 hB (Nat.zero_le _) (by simp)
theorem bel_alloc15 (w : World) (o : Obj) : Below w.heap.size w (w.alloc o) := (Below.refl _ w).alloc (Nat.le_refl _) o
theorem Try.infoEnR19 : (Try.prog.info? 86).map (fun i => (i.zero, i.size, i.bytes)) = some (some (.agg #[.int .i64 0, .int .i64 0, .int .i64 0, .int .i64 0, .int .i64 0, .bool false]), 6, 48) := by kernel_rfl
set_option maxRecDepth 100000 in
set_option maxHeartbeats 2000000 in
theorem rd_full (x : Option Addr) (n cp : Nat) (L : List En) (cv ce ca cn : Int) (A B D : Nat) (w : World) (hv : IsX w 6 (.slice x n cp) n (row ecl L)) (hn : 4096 ≤ n) (hA : A < 256) (hBB : B < 256) (hDD : D < 256) (hab : A ≠ B) (had : A ≠ D) (hbd : B ≠ D) :
    Calls Try.prog 25 #[.slice x n cp, .agg #[.int .i64 1, .int .i64 cv, .int .i64 ce, .int .i64 ca, .int .i64 cn, .int .i64 (A : Int), .int .i64 (B : Int), .int .i64 (D : Int)]] w fun e w' => e = .returned (.tuple #[.slice x n cp, .int .i64 0, .int .i64 11]) ∧ Below w.heap.size w w' := by
  have hge : (n : Int) ≥ 4096 := by omega
  have ha : decide (near (A : Int)) = true := decide_eq_true ⟨by omega, by omega⟩
  have hb : decide (near (B : Int)) = true := decide_eq_true ⟨by omega, by omega⟩
  have hd : decide (near (D : Int)) = true := decide_eq_true ⟨by omega, by omega⟩
  have h1 : ((A : Int) == (B : Int)) = false := by rw [beq_eq_false_iff_ne]; omega
  have h2 : ((A : Int) == (D : Int)) = false := by rw [beq_eq_false_iff_ne]; omega
  have h3 : ((B : Int) == (D : Int)) = false := by rw [beq_eq_false_iff_ne]; omega
  have hlen := fun W => len_X (P := Try.prog) hv 58 3 86 Try.underlying58 W
  have HV := Lib.hid hv
  clear hA hBB hDD hab had hbd hv
  have hY := Blk.new w #[.int .i64 1, .int .i64 cv, .int .i64 ce, .int .i64 ca, .int .i64 cn, .int .i64 (A : Int), .int .i64 (B : Int), .int .i64 (D : Int)] 33
  have hB := below_newR w (.cells #[.int .i64 1, .int .i64 cv, .int .i64 ce, .int .i64 ca, .int .i64 cn, .int .i64 (A : Int), .int .i64 (B : Int), .int .i64 (D : Int)] 33)
  obtain ⟨W0, hW0⟩ : ∃ z, w.alloc (.cells #[.int .i64 1, .int .i64 cv, .int .i64 ce, .int .i64 ca, .int .i64 cn, .int .i64 (A : Int), .int .i64 (B : Int), .int .i64 (D : Int)] 33) = z := ⟨_, rfl⟩
  rw [hW0] at hY hB
  obtain ⟨Y, hYe⟩ : ∃ z, w.heap.size = z := ⟨_, rfl⟩
  rw [hYe] at hY
  have HW0 := Lib.hid hW0
  have HYe := Lib.hid hYe
  have HY := Lib.hid hY
  have HB := Lib.hid hB
  have y0 := HY.out.cell 0 rfl
  have y1 := HY.out.cell 1 rfl
  have y2 := HY.out.cell 2 rfl
  have y3 := HY.out.cell 3 rfl
  have y4 := HY.out.cell 4 rfl
  have y5 := HY.out.cell 5 rfl
  have y6 := HY.out.cell 6 rfl
  have y7 := HY.out.cell 7 rfl
  clear hW0 hYe hY hB
  go_enter Try.func25, Try.ntmps25
  go_wp2_with fail
  rw [HW0.out]
  try rw [HYe.out]
  go_region
  go_wp2_with (go_at_call 39; first | (with_reducible refine (near_yes _ _ (by assumption)).mono ?_; rintro e wc ⟨rfl, rfl⟩) | (with_reducible refine (near_no _ _ (by assumption)).mono ?_; rintro e wc ⟨rfl, rfl⟩))
  go_ret3
  exact ⟨rfl, HB.out.drew⟩
set_option maxRecDepth 100000 in
set_option maxHeartbeats 8000000 in
theorem rd_make (x : Option Addr) (n cp : Nat) (L : List En) (cv ce ca cn : Int) (A B D N1 : Nat) (w : World) (hv : IsX w 6 (.slice x n cp) n (row ecl L)) (hn : n < 4096) (hN1 : n + 1 = N1) (hA : A < 256) (hBB : B < 256) (hDD : D < 256) (hab : A ≠ B) (had : A ≠ D) (hbd : B ≠ D) :
    Calls Try.prog 25 #[.slice x n cp, .agg #[.int .i64 1, .int .i64 cv, .int .i64 ce, .int .i64 ca, .int .i64 cn, .int .i64 (A : Int), .int .i64 (B : Int), .int .i64 (D : Int)]] w fun e w' => ∃ v', e = .returned (.tuple #[v', .int .i64 (N1 : Int), .int .i64 0]) ∧ IsX w' 6 v' N1 (row ecl (L ++ [⟨N1, 1, A, B, D, false⟩])) ∧ (∀ k, v'.ownBlock = some k → w.heap.size ≤ k) ∧ Below w.heap.size w w' := by
  have hge : ¬ (n : Int) ≥ 4096 := by omega
  have hne : (n : Int) + 1 = (N1 : Int) := by omega
  have hwe : IntKind.i64.wrap (N1 : Int) = (N1 : Int) := IntWalk.i64_in _ (by omega)
  obtain ⟨i0, hi0, hz0, hz1, hz2⟩ := info_parts Try.infoEnR19
  have HI0 := Lib.hid hi0
  have HZ0 := Lib.hid hz0
  have HZ1 := Lib.hid hz1
  have HZ2 := Lib.hid hz2
  have HN1 := Lib.hid hN1
  clear hi0 hz0 hz1 hz2 hN1
  have ha : decide (near (A : Int)) = true := decide_eq_true ⟨by omega, by omega⟩
  have hb : decide (near (B : Int)) = true := decide_eq_true ⟨by omega, by omega⟩
  have hd : decide (near (D : Int)) = true := decide_eq_true ⟨by omega, by omega⟩
  have h1 : ((A : Int) == (B : Int)) = false := by rw [beq_eq_false_iff_ne]; omega
  have h2 : ((A : Int) == (D : Int)) = false := by rw [beq_eq_false_iff_ne]; omega
  have h3 : ((B : Int) == (D : Int)) = false := by rw [beq_eq_false_iff_ne]; omega
  have hlen := fun W => len_X (P := Try.prog) hv 58 3 86 Try.underlying58 W
  have HV := Lib.hid hv
  clear hA hBB hDD hab had hbd hv
  have hY := Blk.new w #[.int .i64 1, .int .i64 cv, .int .i64 ce, .int .i64 ca, .int .i64 cn, .int .i64 (A : Int), .int .i64 (B : Int), .int .i64 (D : Int)] 33
  have hB := below_newR w (.cells #[.int .i64 1, .int .i64 cv, .int .i64 ce, .int .i64 ca, .int .i64 cn, .int .i64 (A : Int), .int .i64 (B : Int), .int .i64 (D : Int)] 33)
  obtain ⟨W0, hW0⟩ : ∃ z, w.alloc (.cells #[.int .i64 1, .int .i64 cv, .int .i64 ce, .int .i64 ca, .int .i64 cn, .int .i64 (A : Int), .int .i64 (B : Int), .int .i64 (D : Int)] 33) = z := ⟨_, rfl⟩
  rw [hW0] at hY hB
  obtain ⟨Y, hYe⟩ : ∃ z, w.heap.size = z := ⟨_, rfl⟩
  rw [hYe] at hY
  have HW0 := Lib.hid hW0
  have HYe := Lib.hid hYe
  have HY := Lib.hid hY
  have HB := Lib.hid hB
  have y0 := HY.out.cell 0 rfl
  have y1 := HY.out.cell 1 rfl
  have y2 := HY.out.cell 2 rfl
  have y3 := HY.out.cell 3 rfl
  have y4 := HY.out.cell 4 rfl
  have y5 := HY.out.cell 5 rfl
  have y6 := HY.out.cell 6 rfl
  have y7 := HY.out.cell 7 rfl
  clear hW0 hYe hY hB
  go_enter Try.func25, Try.ntmps25
  go_wp2_with fail
  rw [HW0.out]
  try rw [HYe.out]
  go_region
  go_upto_region 9 with (go_at_call 39; first | (with_reducible refine (near_yes _ _ (by assumption)).mono ?_; rintro e wc ⟨rfl, rfl⟩) | (with_reducible refine (near_no _ _ (by assumption)).mono ?_; rintro e wc ⟨rfl, rfl⟩))
  obtain ⟨w1, hw1⟩ : ∃ z, W0.drew = z := ⟨_, rfl⟩
  have hba : Below w.heap.size w w1 := by rw [← hw1]; exact HB.out.drew
  have hY1 : Blk w1 Y #[.int .i64 1, .int .i64 cv, .int .i64 ce, .int .i64 ca, .int .i64 cn, .int .i64 (A : Int), .int .i64 (B : Int), .int .i64 (D : Int)] 33 := by rw [← hw1]; exact HY.out.drew
  have HBA := Lib.hid hba
  have HS := Lib.hid (fun (wx : World) (hb : Below w1.heap.size w1.drew wx) => show wx.cell? ⟨Y, 5, none⟩ = some (.int .i64 (A : Int)) ∧ wx.cell? ⟨Y, 6, none⟩ = some (.int .i64 (B : Int)) ∧ wx.cell? ⟨Y, 7, none⟩ = some (.int .i64 (D : Int)) from
    have h := hY1.below ((Below.refl w1.heap.size w1).drew.trans hb) hY1.lt
    ⟨h.cell 5 rfl, h.cell 6 rfl, h.cell 7 rfl⟩)
  have S0 := HS.out w1.drew (Below.refl _ _)
  have HD2 := Lib.hid (show IsX w1.drew 6 (.slice x n cp) n (row ecl L) from HV.out.mono hba.drew (Nat.le_refl _))
  rw [hw1]
  clear hw1 hba hY1 y0 y1 y2 y3 y4 y5 y6 y7
  refine AnyE.start (S := (fun wx => wx.cell? ⟨Y, 5, none⟩ = some (.int .i64 (A : Int)) ∧ wx.cell? ⟨Y, 6, none⟩ = some (.int .i64 (B : Int)) ∧ wx.cell? ⟨Y, 7, none⟩ = some (.int .i64 (D : Int)))) 16 (by kernel_rfl) (S0) (fun hHeld => ?_)
  refine AnyE.take (i := 1) (v := ?_) rfl (by kernel_rfl) (by kernel_rfl) (by kernel_rfl) (by kernel_rfl) (fun _ _ _ h => h) (Or.inl ⟨by rfl, ?_⟩) (by assumption) ?_
  rotate_left 1
  · intro w hSw
    (try dsimp only at hSw)
    go_simp
    all_goals (with_reducible rfl)
  try simp only [Act.put, List.getElem_toArray, List.getElem_cons_zero, List.getElem_cons_succ, List.setIfInBounds_toArray, List.set_cons_zero, List.set_cons_succ]
  refine AnyE.take (i := 3) (v := ?_) rfl (by kernel_rfl) (by kernel_rfl) (by kernel_rfl) (by kernel_rfl) (fun _ _ _ h => h) (Or.inl ⟨by rfl, ?_⟩) (by assumption) ?_
  rotate_left 1
  · intro w hSw
    (try dsimp only at hSw)
    go_simp
    all_goals (with_reducible rfl)
  try simp only [Act.put, List.getElem_toArray, List.getElem_cons_zero, List.getElem_cons_succ, List.setIfInBounds_toArray, List.set_cons_zero, List.set_cons_succ]
  refine AnyE.take (i := 4) (v := ?_) rfl (by kernel_rfl) (by kernel_rfl) (by kernel_rfl) (by kernel_rfl) (fun _ _ _ h => h) (Or.inl ⟨by rfl, ?_⟩) (by assumption) ?_
  rotate_left 1
  · intro w hSw
    (try dsimp only at hSw)
    go_simp
    all_goals (with_reducible rfl)
  try simp only [Act.put, List.getElem_toArray, List.getElem_cons_zero, List.getElem_cons_succ, List.setIfInBounds_toArray, List.set_cons_zero, List.set_cons_succ]
  refine AnyE.take (i := 5) (v := ?_) rfl (by kernel_rfl) (by kernel_rfl) (by kernel_rfl) (by kernel_rfl) (fun _ _ _ h => h) (Or.inl ⟨by rfl, ?_⟩) (by assumption) ?_
  rotate_left 1
  · intro w hSw
    (try dsimp only at hSw)
    go_simp
    all_goals (with_reducible rfl)
  try simp only [Act.put, List.getElem_toArray, List.getElem_cons_zero, List.getElem_cons_succ, List.setIfInBounds_toArray, List.set_cons_zero, List.set_cons_succ]
  refine AnyE.take (i := 6) (v := ?_) rfl (by kernel_rfl) (by kernel_rfl) (by kernel_rfl) (by kernel_rfl) (fun _ _ _ h => h) (Or.inl ⟨by rfl, ?_⟩) (by assumption) ?_
  rotate_left 1
  · intro w hSw
    (try dsimp only at hSw)
    go_simp
    all_goals (with_reducible rfl)
  try simp only [Act.put, List.getElem_toArray, List.getElem_cons_zero, List.getElem_cons_succ, List.setIfInBounds_toArray, List.set_cons_zero, List.set_cons_succ]
  refine AnyE.take (i := 7) (v := ?_) rfl (by kernel_rfl) (by kernel_rfl) (by kernel_rfl) (by kernel_rfl) (fun _ _ _ h => h) (Or.inl ⟨by rfl, ?_⟩) (by assumption) ?_
  rotate_left 1
  · intro w hSw
    (try dsimp only at hSw)
    go_simp
    all_goals (with_reducible rfl)
  try simp only [Act.put, List.getElem_toArray, List.getElem_cons_zero, List.getElem_cons_succ, List.setIfInBounds_toArray, List.set_cons_zero, List.set_cons_succ]
  refine AnyE.take (i := 8) (v := ?_) rfl (by kernel_rfl) (by kernel_rfl) (by kernel_rfl) (by kernel_rfl) (fun _ _ _ h => h) (Or.inl ⟨by rfl, ?_⟩) (by assumption) ?_
  rotate_left 1
  · intro w hSw
    (try dsimp only at hSw)
    go_simp
    all_goals (with_reducible rfl)
  try simp only [Act.put, List.getElem_toArray, List.getElem_cons_zero, List.getElem_cons_succ, List.setIfInBounds_toArray, List.set_cons_zero, List.set_cons_succ]
  refine AnyE.take (i := 11) (v := ?_) rfl (by kernel_rfl) (by kernel_rfl) (by kernel_rfl) (by kernel_rfl) (fun _ _ _ h => h) (Or.inl ⟨by rfl, ?_⟩) (by assumption) ?_
  rotate_left 1
  · intro w hSw
    (try dsimp only at hSw)
    go_simp
    all_goals (with_reducible rfl)
  try simp only [Act.put, List.getElem_toArray, List.getElem_cons_zero, List.getElem_cons_succ, List.setIfInBounds_toArray, List.set_cons_zero, List.set_cons_succ]
  refine AnyE.take (i := 12) (v := ?_) rfl (by kernel_rfl) (by kernel_rfl) (by kernel_rfl) (by kernel_rfl) (fun _ _ _ h => h) (Or.inl ⟨by rfl, ?_⟩) (by assumption) ?_
  rotate_left 1
  · intro w hSw
    (try dsimp only at hSw)
    go_simp
    all_goals (with_reducible rfl)
  try simp only [Act.put, List.getElem_toArray, List.getElem_cons_zero, List.getElem_cons_succ, List.setIfInBounds_toArray, List.set_cons_zero, List.set_cons_succ]
  refine AnyE.take (i := 13) (v := ?_) rfl (by kernel_rfl) (by kernel_rfl) (by kernel_rfl) (by kernel_rfl) (fun _ _ _ h => h) (Or.inl ⟨by rfl, ?_⟩) (by assumption) ?_
  rotate_left 1
  · intro w hSw
    (try dsimp only at hSw)
    go_simp
    all_goals (with_reducible rfl)
  try simp only [Act.put, List.getElem_toArray, List.getElem_cons_zero, List.getElem_cons_succ, List.setIfInBounds_toArray, List.set_cons_zero, List.set_cons_succ]
  refine AnyE.next (rs := [0, 9]) (by kernel_rfl) (by simp) ?_
  refine AllE.cons rfl (fun K hK => ?_) ?_
  · go_simp
    refine hK.out _ _ (HS.out _ ((Below.refl w1.heap.size w1.drew).alloc (by have h := (Below.refl w1.heap.size w1.drew).size; exact h) (.cells #[] 86))) (fun hHeld => ?_)
    clear hK K
    try simp only [Act.put, List.getElem_toArray, List.getElem_cons_zero, List.getElem_cons_succ, List.setIfInBounds_toArray, List.set_cons_zero, List.set_cons_succ]
    refine AnyE.next (rs := [2, 9]) (by kernel_rfl) (by simp) ?_
    refine AllE.cons rfl (fun K hK => ?_) ?_
    · refine step_append_X (by rfl) _ _ 58 rfl w1.heap.size 86 i0 _ 6 48 Try.underlying58 HI0.out HZ0.out HZ1.out HZ2.out rfl (by decide) _ [] 0 rfl (own_litAt14 w1.drew w1.heap.size 86 6 w1.heap.size rfl (Nat.le_refl _)) _ n _ rfl (HD2.out.mono ((Below.refl w1.heap.size w1.drew).alloc (by have h := (Below.refl w1.heap.size w1.drew).size; exact h) (.cells #[] 86)) (Nat.le_refl _)) (row_mem fun x _ => ecl_one x) (by unfold maxLen; omega) (by omega) (by have h := ((Below.refl w1.heap.size w1.drew).alloc (by have h := (Below.refl w1.heap.size w1.drew).size; exact h) (.cells #[] 86)).size; exact h) ?_
      intro v6 w6 hown6 hgr6 hat6
      have HO6 := Lib.hid (show w6.ownsRow w1.heap.size 86 6 v6 n (row ecl L) from by have h := hown6; rw [Nat.zero_add] at h; simpa using h)
      have HB6 := Lib.hid (((Below.refl w1.heap.size w1.drew).alloc (by have h := (Below.refl w1.heap.size w1.drew).size; exact h) (.cells #[] 86)).grown hgr6 (by have h := ((Below.refl w1.heap.size w1.drew).alloc (by have h := (Below.refl w1.heap.size w1.drew).size; exact h) (.cells #[] 86)).size; exact h) (fun j hj => by have h := ((own_litAt14 w1.drew w1.heap.size 86 6 w1.heap.size rfl (Nat.le_refl _))).lt j hj; exact h.1))
      have S6 := HS.out _ HB6.out
      refine hK.out _ _ (S6) (fun hHeld => ?_)
      clear hK K
      try simp only [Act.put, List.getElem_toArray, List.getElem_cons_zero, List.getElem_cons_succ, List.setIfInBounds_toArray, List.set_cons_zero, List.set_cons_succ]
      refine AnyE.next (rs := [9]) (by kernel_rfl) (by simp) ?_
      refine AllE.cons rfl (fun K hK => ?_) AllE.nil
      go_simp
      refine hK.out _ _ (HS.out _ (HB6.out.alloc HB6.out.size (.cells #[.int .i64 (N1 : Int), .int .i64 1, .int .i64 (A : Int), .int .i64 (B : Int), .int .i64 (D : Int), .bool false] 86))) (fun hHeld => ?_)
      clear hK K
      try simp only [Act.put, List.getElem_toArray, List.getElem_cons_zero, List.getElem_cons_succ, List.setIfInBounds_toArray, List.set_cons_zero, List.set_cons_succ]
      refine AnyE.next (rs := [10]) (by kernel_rfl) (by simp) ?_
      refine AllE.cons rfl (fun K hK => ?_) AllE.nil
      refine step_append_X (by rfl) _ _ 58 rfl w1.heap.size 86 i0 _ 6 48 Try.underlying58 HI0.out HZ0.out HZ1.out HZ2.out rfl (by decide) _ (row ecl L) n rfl (HO6.out.alloc (.cells #[.int .i64 (N1 : Int), .int .i64 1, .int .i64 (A : Int), .int .i64 (B : Int), .int .i64 (D : Int), .bool false] 86)) _ 1 _ rfl (IsX.litAt14 w6 #[.int .i64 (N1 : Int), .int .i64 1, .int .i64 (A : Int), .int .i64 (B : Int), .int .i64 (D : Int), .bool false] 86 6 1 w6.heap.size rfl rfl (by decide)) (fun u hu => ecl_one ⟨N1, 1, A, B, D, false⟩ u hu) (by unfold maxLen; omega) (by omega) (by have h := (HB6.out.alloc HB6.out.size (.cells #[.int .i64 (N1 : Int), .int .i64 1, .int .i64 (A : Int), .int .i64 (B : Int), .int .i64 (D : Int), .bool false] 86)).size; exact h) ?_
      intro v9 w9 hown9 hgr9 hat9
      rw [HN1.out] at hown9
      obtain ⟨x9, z9, rfl, _, _⟩ := Go.Cor.ownsRow_slice hown9
      have HB9 := Lib.hid ((HB6.out.alloc HB6.out.size (.cells #[.int .i64 (N1 : Int), .int .i64 1, .int .i64 (A : Int), .int .i64 (B : Int), .int .i64 (D : Int), .bool false] 86)).grown hgr9 (by have h := (HB6.out.alloc HB6.out.size (.cells #[.int .i64 (N1 : Int), .int .i64 1, .int .i64 (A : Int), .int .i64 (B : Int), .int .i64 (D : Int), .bool false] 86)).size; exact h) (fun j hj => by have h := ((HO6.out.alloc (.cells #[.int .i64 (N1 : Int), .int .i64 1, .int .i64 (A : Int), .int .i64 (B : Int), .int .i64 (D : Int), .bool false] 86))).lt j hj; exact h.1))
      have HO9 := Lib.hid (show w9.ownsRow w1.heap.size 86 6 (.slice x9 N1 z9) N1 (row ecl (L ++ [⟨N1, 1, A, B, D, false⟩])) from by rw [row_append, row_one]; exact hown9)
      have S9 := HS.out _ HB9.out
      clear hown9 hgr9 hat9
      refine hK.out _ _ (S9) (fun hHeld => ?_)
      clear hK K
      try simp only [Act.put, List.getElem_toArray, List.getElem_cons_zero, List.getElem_cons_succ, List.setIfInBounds_toArray, List.set_cons_zero, List.set_cons_succ]
      refine AnyE.next (rs := [14]) (by kernel_rfl) (by simp) ?_
      refine AllE.cons rfl (fun K hK => ?_) AllE.nil
      go_simp
      refine hK.out _ _ (S9) (fun hHeld => ?_)
      clear hK K
      try simp only [Act.put, List.getElem_toArray, List.getElem_cons_zero, List.getElem_cons_succ, List.setIfInBounds_toArray, List.set_cons_zero, List.set_cons_succ]
      refine AnyE.next (rs := [15]) (by kernel_rfl) (by simp) ?_
      refine AllE.cons rfl (fun K hK => ?_) AllE.nil
      go_simp
      refine hK.out _ _ (S9) (fun hHeld => ?_)
      clear hK K
      try simp only [Act.put, List.getElem_toArray, List.getElem_cons_zero, List.getElem_cons_succ, List.setIfInBounds_toArray, List.set_cons_zero, List.set_cons_succ]
      refine AnyE.next (rs := [16]) (by kernel_rfl) (by simp) ?_
      refine AllE.last rfl (fun K hK => ?_)
      go_simp
      refine hK.out _ _ ?_
      clear hK K
      try simp only [Act.put, List.getElem_toArray, List.getElem_cons_zero, List.getElem_cons_succ, List.setIfInBounds_toArray, List.set_cons_zero, List.set_cons_succ]
      refine AnyE.done (by kernel_rfl) ?_ _
      have HBQ := Lib.hid ((Below.refl w1.heap.size w1).drew.trans HB9.out)
      clear S9
      go_wp2
      go_ret3
      exact ⟨_, rfl, IsX.own HO9.out, (fun k e => Nat.le_trans HBA.out.size (HO9.out.lt k e).1), HBA.out.trans (HBQ.out.mono HBA.out.size)⟩
    refine AllE.cons rfl (fun K hK => ?_) AllE.nil
    go_simp
    refine hK.out _ _ (HS.out _ (((Below.refl w1.heap.size w1.drew).alloc (by have h := (Below.refl w1.heap.size w1.drew).size; exact h) (.cells #[] 86)).alloc (by have h := ((Below.refl w1.heap.size w1.drew).alloc (by have h := (Below.refl w1.heap.size w1.drew).size; exact h) (.cells #[] 86)).size; exact h) (.cells #[.int .i64 (N1 : Int), .int .i64 1, .int .i64 (A : Int), .int .i64 (B : Int), .int .i64 (D : Int), .bool false] 86))) (fun hHeld => ?_)
    clear hK K
    try simp only [Act.put, List.getElem_toArray, List.getElem_cons_zero, List.getElem_cons_succ, List.setIfInBounds_toArray, List.set_cons_zero, List.set_cons_succ]
    refine AnyE.next (rs := [2]) (by kernel_rfl) (by simp) ?_
    refine AllE.cons rfl (fun K hK => ?_) AllE.nil
    refine step_append_X (by rfl) _ _ 58 rfl w1.heap.size 86 i0 _ 6 48 Try.underlying58 HI0.out HZ0.out HZ1.out HZ2.out rfl (by decide) _ [] 0 rfl ((own_litAt14 w1.drew w1.heap.size 86 6 w1.heap.size rfl (Nat.le_refl _)).alloc (.cells #[.int .i64 (N1 : Int), .int .i64 1, .int .i64 (A : Int), .int .i64 (B : Int), .int .i64 (D : Int), .bool false] 86)) _ n _ rfl (HD2.out.mono (((Below.refl w1.heap.size w1.drew).alloc (by have h := (Below.refl w1.heap.size w1.drew).size; exact h) (.cells #[] 86)).alloc (by have h := ((Below.refl w1.heap.size w1.drew).alloc (by have h := (Below.refl w1.heap.size w1.drew).size; exact h) (.cells #[] 86)).size; exact h) (.cells #[.int .i64 (N1 : Int), .int .i64 1, .int .i64 (A : Int), .int .i64 (B : Int), .int .i64 (D : Int), .bool false] 86)) (Nat.le_refl _)) (row_mem fun x _ => ecl_one x) (by unfold maxLen; omega) (by omega) (by have h := (((Below.refl w1.heap.size w1.drew).alloc (by have h := (Below.refl w1.heap.size w1.drew).size; exact h) (.cells #[] 86)).alloc (by have h := ((Below.refl w1.heap.size w1.drew).alloc (by have h := (Below.refl w1.heap.size w1.drew).size; exact h) (.cells #[] 86)).size; exact h) (.cells #[.int .i64 (N1 : Int), .int .i64 1, .int .i64 (A : Int), .int .i64 (B : Int), .int .i64 (D : Int), .bool false] 86)).size; exact h) ?_
    intro v6 w6 hown6 hgr6 hat6
    have HO6 := Lib.hid (show w6.ownsRow w1.heap.size 86 6 v6 n (row ecl L) from by have h := hown6; rw [Nat.zero_add] at h; simpa using h)
    have HB6 := Lib.hid ((((Below.refl w1.heap.size w1.drew).alloc (by have h := (Below.refl w1.heap.size w1.drew).size; exact h) (.cells #[] 86)).alloc (by have h := ((Below.refl w1.heap.size w1.drew).alloc (by have h := (Below.refl w1.heap.size w1.drew).size; exact h) (.cells #[] 86)).size; exact h) (.cells #[.int .i64 (N1 : Int), .int .i64 1, .int .i64 (A : Int), .int .i64 (B : Int), .int .i64 (D : Int), .bool false] 86)).grown hgr6 (by have h := (((Below.refl w1.heap.size w1.drew).alloc (by have h := (Below.refl w1.heap.size w1.drew).size; exact h) (.cells #[] 86)).alloc (by have h := ((Below.refl w1.heap.size w1.drew).alloc (by have h := (Below.refl w1.heap.size w1.drew).size; exact h) (.cells #[] 86)).size; exact h) (.cells #[.int .i64 (N1 : Int), .int .i64 1, .int .i64 (A : Int), .int .i64 (B : Int), .int .i64 (D : Int), .bool false] 86)).size; exact h) (fun j hj => by have h := (((own_litAt14 w1.drew w1.heap.size 86 6 w1.heap.size rfl (Nat.le_refl _)).alloc (.cells #[.int .i64 (N1 : Int), .int .i64 1, .int .i64 (A : Int), .int .i64 (B : Int), .int .i64 (D : Int), .bool false] 86))).lt j hj; exact h.1))
    have S6 := HS.out _ HB6.out
    refine hK.out _ _ (S6) (fun hHeld => ?_)
    clear hK K
    try simp only [Act.put, List.getElem_toArray, List.getElem_cons_zero, List.getElem_cons_succ, List.setIfInBounds_toArray, List.set_cons_zero, List.set_cons_succ]
    refine AnyE.next (rs := [10]) (by kernel_rfl) (by simp) ?_
    refine AllE.cons rfl (fun K hK => ?_) AllE.nil
    refine step_append_X (by rfl) _ _ 58 rfl w1.heap.size 86 i0 _ 6 48 Try.underlying58 HI0.out HZ0.out HZ1.out HZ2.out rfl (by decide) _ (row ecl L) n rfl HO6.out _ 1 _ rfl (((IsX.litAt14 (w1.drew.alloc (.cells #[] 86)) #[.int .i64 (N1 : Int), .int .i64 1, .int .i64 (A : Int), .int .i64 (B : Int), .int .i64 (D : Int), .bool false] 86 6 1 (w1.heap.size + 1) (by simp) rfl (by decide))).kept ((Kept.refl (fun j => some w1.heap.size = some j) _).grown hgr6 (fun k hk => .inl hk)) (fun k hk hs => by have h1 : some (w1.heap.size + 1) = some k := hk.2; have h2 := Option.some.inj h1; have h3 := Option.some.inj hs; omega)) (fun u hu => ecl_one ⟨N1, 1, A, B, D, false⟩ u hu) (by unfold maxLen; omega) (by omega) (by have h := HB6.out.size; exact h) ?_
    intro v9 w9 hown9 hgr9 hat9
    rw [HN1.out] at hown9
    obtain ⟨x9, z9, rfl, _, _⟩ := Go.Cor.ownsRow_slice hown9
    have HB9 := Lib.hid (HB6.out.grown hgr9 (by have h := HB6.out.size; exact h) (fun j hj => by have h := (HO6.out).lt j hj; exact h.1))
    have HO9 := Lib.hid (show w9.ownsRow w1.heap.size 86 6 (.slice x9 N1 z9) N1 (row ecl (L ++ [⟨N1, 1, A, B, D, false⟩])) from by rw [row_append, row_one]; exact hown9)
    have S9 := HS.out _ HB9.out
    clear hown9 hgr9 hat9
    refine hK.out _ _ (S9) (fun hHeld => ?_)
    clear hK K
    try simp only [Act.put, List.getElem_toArray, List.getElem_cons_zero, List.getElem_cons_succ, List.setIfInBounds_toArray, List.set_cons_zero, List.set_cons_succ]
    refine AnyE.next (rs := [14]) (by kernel_rfl) (by simp) ?_
    refine AllE.cons rfl (fun K hK => ?_) AllE.nil
    go_simp
    refine hK.out _ _ (S9) (fun hHeld => ?_)
    clear hK K
    try simp only [Act.put, List.getElem_toArray, List.getElem_cons_zero, List.getElem_cons_succ, List.setIfInBounds_toArray, List.set_cons_zero, List.set_cons_succ]
    refine AnyE.next (rs := [15]) (by kernel_rfl) (by simp) ?_
    refine AllE.cons rfl (fun K hK => ?_) AllE.nil
    go_simp
    refine hK.out _ _ (S9) (fun hHeld => ?_)
    clear hK K
    try simp only [Act.put, List.getElem_toArray, List.getElem_cons_zero, List.getElem_cons_succ, List.setIfInBounds_toArray, List.set_cons_zero, List.set_cons_succ]
    refine AnyE.next (rs := [16]) (by kernel_rfl) (by simp) ?_
    refine AllE.last rfl (fun K hK => ?_)
    go_simp
    refine hK.out _ _ ?_
    clear hK K
    try simp only [Act.put, List.getElem_toArray, List.getElem_cons_zero, List.getElem_cons_succ, List.setIfInBounds_toArray, List.set_cons_zero, List.set_cons_succ]
    refine AnyE.done (by kernel_rfl) ?_ _
    have HBQ := Lib.hid ((Below.refl w1.heap.size w1).drew.trans HB9.out)
    clear S9
    go_wp2
    go_ret3
    exact ⟨_, rfl, IsX.own HO9.out, (fun k e => Nat.le_trans HBA.out.size (HO9.out.lt k e).1), HBA.out.trans (HBQ.out.mono HBA.out.size)⟩
  refine AllE.cons rfl (fun K hK => ?_) AllE.nil
  go_simp
  refine hK.out _ _ (HS.out _ ((Below.refl w1.heap.size w1.drew).alloc (by have h := (Below.refl w1.heap.size w1.drew).size; exact h) (.cells #[.int .i64 (N1 : Int), .int .i64 1, .int .i64 (A : Int), .int .i64 (B : Int), .int .i64 (D : Int), .bool false] 86))) (fun hHeld => ?_)
  clear hK K
  try simp only [Act.put, List.getElem_toArray, List.getElem_cons_zero, List.getElem_cons_succ, List.setIfInBounds_toArray, List.set_cons_zero, List.set_cons_succ]
  refine AnyE.next (rs := [0]) (by kernel_rfl) (by simp) ?_
  refine AllE.cons rfl (fun K hK => ?_) AllE.nil
  go_simp
  refine hK.out _ _ (HS.out _ (((Below.refl w1.heap.size w1.drew).alloc (by have h := (Below.refl w1.heap.size w1.drew).size; exact h) (.cells #[.int .i64 (N1 : Int), .int .i64 1, .int .i64 (A : Int), .int .i64 (B : Int), .int .i64 (D : Int), .bool false] 86)).alloc (by have h := ((Below.refl w1.heap.size w1.drew).alloc (by have h := (Below.refl w1.heap.size w1.drew).size; exact h) (.cells #[.int .i64 (N1 : Int), .int .i64 1, .int .i64 (A : Int), .int .i64 (B : Int), .int .i64 (D : Int), .bool false] 86)).size; exact h) (.cells #[] 86))) (fun hHeld => ?_)
  clear hK K
  try simp only [Act.put, List.getElem_toArray, List.getElem_cons_zero, List.getElem_cons_succ, List.setIfInBounds_toArray, List.set_cons_zero, List.set_cons_succ]
  refine AnyE.next (rs := [2]) (by kernel_rfl) (by simp) ?_
  refine AllE.cons rfl (fun K hK => ?_) AllE.nil
  refine step_append_X (by rfl) _ _ 58 rfl w1.heap.size 86 i0 _ 6 48 Try.underlying58 HI0.out HZ0.out HZ1.out HZ2.out rfl (by decide) _ [] 0 rfl (own_litAt14 (w1.drew.alloc (.cells #[.int .i64 (N1 : Int), .int .i64 1, .int .i64 (A : Int), .int .i64 (B : Int), .int .i64 (D : Int), .bool false] 86)) w1.heap.size 86 6 (w1.heap.size + 1) (by simp) (by omega)) _ n _ rfl (HD2.out.mono (((Below.refl w1.heap.size w1.drew).alloc (by have h := (Below.refl w1.heap.size w1.drew).size; exact h) (.cells #[.int .i64 (N1 : Int), .int .i64 1, .int .i64 (A : Int), .int .i64 (B : Int), .int .i64 (D : Int), .bool false] 86)).alloc (by have h := ((Below.refl w1.heap.size w1.drew).alloc (by have h := (Below.refl w1.heap.size w1.drew).size; exact h) (.cells #[.int .i64 (N1 : Int), .int .i64 1, .int .i64 (A : Int), .int .i64 (B : Int), .int .i64 (D : Int), .bool false] 86)).size; exact h) (.cells #[] 86)) (Nat.le_refl _)) (row_mem fun x _ => ecl_one x) (by unfold maxLen; omega) (by omega) (by have h := (((Below.refl w1.heap.size w1.drew).alloc (by have h := (Below.refl w1.heap.size w1.drew).size; exact h) (.cells #[.int .i64 (N1 : Int), .int .i64 1, .int .i64 (A : Int), .int .i64 (B : Int), .int .i64 (D : Int), .bool false] 86)).alloc (by have h := ((Below.refl w1.heap.size w1.drew).alloc (by have h := (Below.refl w1.heap.size w1.drew).size; exact h) (.cells #[.int .i64 (N1 : Int), .int .i64 1, .int .i64 (A : Int), .int .i64 (B : Int), .int .i64 (D : Int), .bool false] 86)).size; exact h) (.cells #[] 86)).size; exact h) ?_
  intro v6 w6 hown6 hgr6 hat6
  have HO6 := Lib.hid (show w6.ownsRow w1.heap.size 86 6 v6 n (row ecl L) from by have h := hown6; rw [Nat.zero_add] at h; simpa using h)
  have HB6 := Lib.hid ((((Below.refl w1.heap.size w1.drew).alloc (by have h := (Below.refl w1.heap.size w1.drew).size; exact h) (.cells #[.int .i64 (N1 : Int), .int .i64 1, .int .i64 (A : Int), .int .i64 (B : Int), .int .i64 (D : Int), .bool false] 86)).alloc (by have h := ((Below.refl w1.heap.size w1.drew).alloc (by have h := (Below.refl w1.heap.size w1.drew).size; exact h) (.cells #[.int .i64 (N1 : Int), .int .i64 1, .int .i64 (A : Int), .int .i64 (B : Int), .int .i64 (D : Int), .bool false] 86)).size; exact h) (.cells #[] 86)).grown hgr6 (by have h := (((Below.refl w1.heap.size w1.drew).alloc (by have h := (Below.refl w1.heap.size w1.drew).size; exact h) (.cells #[.int .i64 (N1 : Int), .int .i64 1, .int .i64 (A : Int), .int .i64 (B : Int), .int .i64 (D : Int), .bool false] 86)).alloc (by have h := ((Below.refl w1.heap.size w1.drew).alloc (by have h := (Below.refl w1.heap.size w1.drew).size; exact h) (.cells #[.int .i64 (N1 : Int), .int .i64 1, .int .i64 (A : Int), .int .i64 (B : Int), .int .i64 (D : Int), .bool false] 86)).size; exact h) (.cells #[] 86)).size; exact h) (fun j hj => by have h := ((own_litAt14 (w1.drew.alloc (.cells #[.int .i64 (N1 : Int), .int .i64 1, .int .i64 (A : Int), .int .i64 (B : Int), .int .i64 (D : Int), .bool false] 86)) w1.heap.size 86 6 (w1.heap.size + 1) (by simp) (by omega))).lt j hj; exact h.1))
  have S6 := HS.out _ HB6.out
  refine hK.out _ _ (S6) (fun hHeld => ?_)
  clear hK K
  try simp only [Act.put, List.getElem_toArray, List.getElem_cons_zero, List.getElem_cons_succ, List.setIfInBounds_toArray, List.set_cons_zero, List.set_cons_succ]
  refine AnyE.next (rs := [10]) (by kernel_rfl) (by simp) ?_
  refine AllE.cons rfl (fun K hK => ?_) AllE.nil
  refine step_append_X (by rfl) _ _ 58 rfl w1.heap.size 86 i0 _ 6 48 Try.underlying58 HI0.out HZ0.out HZ1.out HZ2.out rfl (by decide) _ (row ecl L) n rfl HO6.out _ 1 _ rfl ((((IsX.litAt14 w1.drew #[.int .i64 (N1 : Int), .int .i64 1, .int .i64 (A : Int), .int .i64 (B : Int), .int .i64 (D : Int), .bool false] 86 6 1 w1.heap.size rfl rfl (by decide))).mono (bel_alloc15 _ (.cells #[] 86)) (Nat.le_refl _)).kept ((Kept.refl (fun j => some (w1.heap.size + 1) = some j) _).grown hgr6 (fun k hk => .inl hk)) (fun k hk hs => by have h1 : some w1.heap.size = some k := hk.2; have h2 := Option.some.inj h1; have h3 := Option.some.inj hs; omega)) (fun u hu => ecl_one ⟨N1, 1, A, B, D, false⟩ u hu) (by unfold maxLen; omega) (by omega) (by have h := HB6.out.size; exact h) ?_
  intro v9 w9 hown9 hgr9 hat9
  rw [HN1.out] at hown9
  obtain ⟨x9, z9, rfl, _, _⟩ := Go.Cor.ownsRow_slice hown9
  have HB9 := Lib.hid (HB6.out.grown hgr9 (by have h := HB6.out.size; exact h) (fun j hj => by have h := (HO6.out).lt j hj; exact h.1))
  have HO9 := Lib.hid (show w9.ownsRow w1.heap.size 86 6 (.slice x9 N1 z9) N1 (row ecl (L ++ [⟨N1, 1, A, B, D, false⟩])) from by rw [row_append, row_one]; exact hown9)
  have S9 := HS.out _ HB9.out
  clear hown9 hgr9 hat9
  refine hK.out _ _ (S9) (fun hHeld => ?_)
  clear hK K
  try simp only [Act.put, List.getElem_toArray, List.getElem_cons_zero, List.getElem_cons_succ, List.setIfInBounds_toArray, List.set_cons_zero, List.set_cons_succ]
  refine AnyE.next (rs := [14]) (by kernel_rfl) (by simp) ?_
  refine AllE.cons rfl (fun K hK => ?_) AllE.nil
  go_simp
  refine hK.out _ _ (S9) (fun hHeld => ?_)
  clear hK K
  try simp only [Act.put, List.getElem_toArray, List.getElem_cons_zero, List.getElem_cons_succ, List.setIfInBounds_toArray, List.set_cons_zero, List.set_cons_succ]
  refine AnyE.next (rs := [15]) (by kernel_rfl) (by simp) ?_
  refine AllE.cons rfl (fun K hK => ?_) AllE.nil
  go_simp
  refine hK.out _ _ (S9) (fun hHeld => ?_)
  clear hK K
  try simp only [Act.put, List.getElem_toArray, List.getElem_cons_zero, List.getElem_cons_succ, List.setIfInBounds_toArray, List.set_cons_zero, List.set_cons_succ]
  refine AnyE.next (rs := [16]) (by kernel_rfl) (by simp) ?_
  refine AllE.last rfl (fun K hK => ?_)
  go_simp
  refine hK.out _ _ ?_
  clear hK K
  try simp only [Act.put, List.getElem_toArray, List.getElem_cons_zero, List.getElem_cons_succ, List.setIfInBounds_toArray, List.set_cons_zero, List.set_cons_succ]
  refine AnyE.done (by kernel_rfl) ?_ _
  have HBQ := Lib.hid ((Below.refl w1.heap.size w1).drew.trans HB9.out)
  clear S9
  go_wp2
  go_ret3
  exact ⟨_, rfl, IsX.own HO9.out, (fun k e => Nat.le_trans HBA.out.size (HO9.out.lt k e).1), HBA.out.trans (HBQ.out.mono HBA.out.size)⟩
end Go.Proofs.Ytlaighghagcjjaa
