/- Package dirs: add. -/
import Derived.Test.YtlaighghagcjjaaDg2
import Derived.Test.YtlaighghagcjjaaOrdE
namespace Go.Proofs.Ytlaighghagcjjaa
open Go.RowKit Go.Cor
set_option linter.unusedVariables false
set_option linter.unusedSimpArgs false

theorem Try.infoEntD : (Try.prog.info? 77).map (fun i => (i.zero, i.size, i.bytes)) = some (some (.agg #[.int .i64 0, .int .i64 0, .int .i64 0, .int .i64 0, .int .i64 0, .bool false]), 6, 48) := by kernel_rfl
theorem one_new (N a b c : Nat) : ∀ u ∈ ([.int .i64 ((N : Int) + 1), .int .i64 1, .int .i64 (a : Int), .int .i64 (b : Int), .int .i64 (c : Int), .bool false] : List Value), u.oneCell' = true := by
  intro u hu
  simp only [List.mem_cons, List.not_mem_nil, or_false] at hu
  rcases hu with rfl | rfl | rfl | rfl | rfl | rfl <;> rfl
theorem dadd_bad (m : Value) (a b c : Int) (w : World) (h : ¬ all3 a b c) : Calls Try.prog 44 #[m, .agg #[.int .i64 a, .int .i64 b, .int .i64 c]] w fun e w' => e = .returned (.tuple #[.int .i64 0, erc 1]) ∧ Below w.heap.size w w' := by
  have hd : decide (near a ∧ near b ∧ near c ∧ a ≠ b ∧ a ≠ c ∧ b ≠ c) = false := decide_eq_false h
  have HA := Lib.hid (below_new19 w (.cells #[.int .i64 a, .int .i64 b, .int .i64 c] 31))
  clear h
  go_enter Try.func44, Try.ntmps44
  go_wp2_with fail
  refine (dright a b c _).mono ?_
  rw [hd]
  rintro e w2 ⟨rfl, hb2⟩
  have HB := Lib.hid (HA.out.trans (hb2.mono HA.out.size))
  clear hb2
  go_wp2
  go_ret2
  exact ⟨rfl, HB.out⟩
theorem add_fin {w w5 : World} {B g : Nat} {S : Nat → Prop} {L : List En} {v v5 : Value} {n : En} (ho : w5.ownsRow B 77 6 v5 (L.length + 1) (row ecl L ++ ecl n)) (hg : Blk w5 g #[v] 92) (hk : Kept S w w5)
    (hl : v5.ownBlock = v.ownBlock ∨ ∃ k, v5.ownBlock = some k ∧ w.heap.size ≤ k) (hvg : v.ownBlock ≠ some g) (hsg : S g) (hvs : ∀ k, v.ownBlock = some k → S k) (hsb : ∀ k, S k → B ≤ k ∧ k < w.heap.size) : MpT w B g S (L ++ [n]) (w5.setCell ⟨g, 0, none⟩ v5) := by
  have hne : v5.ownBlock ≠ some g := by
    rcases hl with e | ⟨k, e, hk2⟩
    · rw [e]; exact hvg
    · rw [e]
      intro e2
      have := (hsb g hsg).2
      have : k = g := Option.some.inj e2
      omega
  refine ⟨fun k => S k ∨ v5.ownBlock = some k, ⟨v5, ?_, ?_, hne, .inl hsg, (fun k e => .inr e), ?_⟩, ?_, hk.setCell (.inl hsg) v5⟩
  · simpa using hg.set 0 v5
  · have h1 := ownsRow_kept ho ((Kept.refl (fun k => k = g) w5).setCell (p := ⟨g, 0, none⟩) (.inl rfl) v5) (fun k e e2 => hne (by rw [e, e2]))
    rw [row_append, row_one, List.length_append, List.length_singleton]
    exact h1
  · have hs : (w5.setCell ⟨g, 0, none⟩ v5).heap.size = w5.heap.size := by simp [World.setCell]
    rintro k (h | h)
    · rw [hs]
      exact ⟨(hsb k h).1, Nat.lt_of_lt_of_le (hsb k h).2 hk.size⟩
    · rw [hs]
      exact ho.lt k h
  · rintro k (h | h)
    · exact .inl h
    · rcases hl with e | ⟨j, e, hj⟩
      · exact .inl (hvs k (e ▸ h))
      · rw [e] at h
        obtain rfl := Option.some.inj h
        exact .inr hj
set_option maxRecDepth 100000 in
set_option maxHeartbeats 2000000 in
theorem dadd_full (w : World) (B g : Nat) (S : Nat → Prop) (L : List En) (a b c : Nat) (h : Mp w B g S L) (hn : all3 (a : Int) (b : Int) (c : Int)) (hl : 4096 ≤ L.length) (hl2 : L.length ≤ 4096) :
    Calls Try.prog 44 #[.pointer (some ⟨g, 0, none⟩), .agg #[.int .i64 (a : Int), .int .i64 (b : Int), .int .i64 (c : Int)]] w fun e w' => e = .returned (.tuple #[.int .i64 0, erc 11]) ∧ Below w.heap.size w w' := by
  have HD := Lib.hid (decide_eq_true hn)
  obtain ⟨v, m1, m2, m3, m4, m5, m6⟩ := h
  have hlen := fun W => len_X (P := Try.prog) (isX_own19 m2) 74 3 77 Try.underlying74 W
  have hBS : B ≤ w.heap.size := Nat.le_trans (m6 g m4).1 (Nat.le_of_lt (m6 g m4).2)
  obtain ⟨N, hN⟩ : ∃ N, L.length = N := ⟨_, rfl⟩
  rw [hN] at hlen hl hl2 m2
  obtain ⟨Y, hY⟩ : ∃ Y, w.heap.size = Y := ⟨_, rfl⟩
  have HA := Lib.hid (below_new19 w (.cells #[.int .i64 (a : Int), .int .i64 (b : Int), .int .i64 (c : Int)] 31))
  have HYA := Lib.hid (hY ▸ Blk.new w #[.int .i64 (a : Int), .int .i64 (b : Int), .int .i64 (c : Int)] 31)
  have HGY := Lib.hid (show g < Y from hY ▸ (m6 g m4).2)
  have HVY := Lib.hid (show v.ownBlock ≠ some Y from fun e => by have := (m6 Y (m5 Y e)).2; omega)
  have HM1 := Lib.hid m1
  have HM2 := Lib.hid m2
  have HVG := Lib.hid m3
  have HSG := Lib.hid m4
  have HVS := Lib.hid m5
  have HSB := Lib.hid m6
  have HBS := Lib.hid hBS
  have HN := Lib.hid hN
  have HYe := Lib.hid hY
  clear m1 m2 m3 m4 m5 m6 hBS hN hn
  obtain rfl : N = 4096 := by omega
  go_enter Try.func44, Try.ntmps44
  go_wp2_with fail
  refine (dright (a : Int) (b : Int) (c : Int) _).mono ?_
  rw [HD.out]
  rintro e w2 ⟨rfl, hb2⟩
  have HB2 := Lib.hid (HA.out.trans (hb2.mono HA.out.size))
  have HY2 := Lib.hid (HYA.out.below hb2 HYA.out.lt)
  have HG2 := Lib.hid (HM1.out.below HB2.out HM1.out.lt)
  have HR2 := Lib.hid (ownsRow_below HM2.out HB2.out (Nat.le_refl _))
  have k0 := HG2.out.cell 0 rfl
  clear hb2
  go_wp2
  go_ret2
  exact ⟨rfl, HB2.out⟩
set_option maxRecDepth 100000 in
set_option maxHeartbeats 4000000 in
theorem dadd_ok (w : World) (B g : Nat) (S : Nat → Prop) (L : List En) (a b c : Nat) (h : Mp w B g S L) (hn : all3 (a : Int) (b : Int) (c : Int)) (hl : L.length < 4096) :
    Calls Try.prog 44 #[.pointer (some ⟨g, 0, none⟩), .agg #[.int .i64 (a : Int), .int .i64 (b : Int), .int .i64 (c : Int)]] w fun e w' => e = .returned (.tuple #[.int .i64 ((L.length : Int) + 1), .nilIface]) ∧ MpT w B g S (L ++ [⟨L.length + 1, 1, a, b, c, false⟩]) w' := by
  have HD := Lib.hid (decide_eq_true hn)
  obtain ⟨v, m1, m2, m3, m4, m5, m6⟩ := h
  have hlen := fun W => len_X (P := Try.prog) (isX_own19 m2) 74 3 77 Try.underlying74 W
  have hBS : B ≤ w.heap.size := Nat.le_trans (m6 g m4).1 (Nat.le_of_lt (m6 g m4).2)
  obtain ⟨N, hN⟩ : ∃ N, L.length = N := ⟨_, rfl⟩
  rw [hN] at hlen hl m2
  obtain ⟨Y, hY⟩ : ∃ Y, w.heap.size = Y := ⟨_, rfl⟩
  have HA := Lib.hid (below_new19 w (.cells #[.int .i64 (a : Int), .int .i64 (b : Int), .int .i64 (c : Int)] 31))
  have HYA := Lib.hid (hY ▸ Blk.new w #[.int .i64 (a : Int), .int .i64 (b : Int), .int .i64 (c : Int)] 31)
  have HGY := Lib.hid (show g < Y from hY ▸ (m6 g m4).2)
  have HVY := Lib.hid (show v.ownBlock ≠ some Y from fun e => by have := (m6 Y (m5 Y e)).2; omega)
  have HM1 := Lib.hid m1
  have HM2 := Lib.hid m2
  have HVG := Lib.hid m3
  have HSG := Lib.hid m4
  have HVS := Lib.hid m5
  have HSB := Lib.hid m6
  have HBS := Lib.hid hBS
  have HN := Lib.hid hN
  have HYe := Lib.hid hY
  clear m1 m2 m3 m4 m5 m6 hBS hN hn
  obtain ⟨i0, hi0, hz0, hz1, hz2⟩ := info_parts Try.infoEntD
  have HI0 := Lib.hid hi0
  have HZ0 := Lib.hid hz0
  have HZ1 := Lib.hid hz1
  have HZ2 := Lib.hid hz2
  clear hi0 hz0 hz1 hz2
  have hw1 : wrap64 ((N : Int) + 1) = (N : Int) + 1 := IntWalk.wrap64_in _ (by omega)
  have hfl : ¬ (N : Int) ≥ 4096 := by omega
  go_enter Try.func44, Try.ntmps44
  go_wp2_with fail
  refine (dright (a : Int) (b : Int) (c : Int) _).mono ?_
  rw [HD.out]
  rintro e w2 ⟨rfl, hb2⟩
  have HB2 := Lib.hid (HA.out.trans (hb2.mono HA.out.size))
  have HY2 := Lib.hid (HYA.out.below hb2 HYA.out.lt)
  have HG2 := Lib.hid (HM1.out.below HB2.out HM1.out.lt)
  have HR2 := Lib.hid (ownsRow_below HM2.out HB2.out (Nat.le_refl _))
  have k0 := HG2.out.cell 0 rfl
  clear hb2
  have y0 := HY2.out.cell 0 rfl
  have y1 := HY2.out.cell 1 rfl
  have y2 := HY2.out.cell 2 rfl
  go_wp2_with fail
  refine AnyE.start (S := (fun wx => wx.cell? ⟨g, 0, none⟩ = some v ∧ wx.cell? ⟨Y, 0, none⟩ = some (.int .i64 (a : Int)) ∧ wx.cell? ⟨Y, 1, none⟩ = some (.int .i64 (b : Int)) ∧ wx.cell? ⟨Y, 2, none⟩ = some (.int .i64 (c : Int)))) 12 (by kernel_rfl) (⟨k0, y0, y1, y2⟩) (fun hHeld => ?_)
  obtain ⟨w3, hw3⟩ : ∃ w3, w2.drew = w3 := ⟨_, rfl⟩
  have HR3 := Lib.hid (show w3.ownsRow B 77 6 v N (row ecl L) from hw3 ▸ (ownsRow_below HR2.out (below_drewN19 (Below.refl w2.heap.size w2) 1) (Nat.le_refl _)))
  have HG3 := Lib.hid (show Blk w3 g #[v] 92 from hw3 ▸ HG2.out.drew)
  have HY3 := Lib.hid (show Blk w3 Y #[.int .i64 (a : Int), .int .i64 (b : Int), .int .i64 (c : Int)] 31 from hw3 ▸ HY2.out.drew)
  have HB3 := Lib.hid (show Below w.heap.size w w3 from hw3 ▸ below_drewN19 HB2.out 1)
  rw [hw3] at hHeld
  rw [hw3]
  clear hw3 k0 y0 y1 y2
  refine AnyE.take (i := 0) (v := ?_) rfl (by kernel_rfl) (by kernel_rfl) (by kernel_rfl) (by kernel_rfl) (fun _ _ _ h => h) (Or.inl ⟨by rfl, ?_⟩) (by assumption) ?_
  rotate_left 1
  · intro w hSw
    (try dsimp only at hSw)
    go_simp
    all_goals (with_reducible rfl)
  try simp only [Act.put, List.getElem_toArray, List.getElem_cons_zero, List.getElem_cons_succ, List.setIfInBounds_toArray, List.set_cons_zero, List.set_cons_succ]
  refine AnyE.take (i := 1) (v := ?_) rfl (by kernel_rfl) (by kernel_rfl) (by kernel_rfl) (by kernel_rfl) (fun _ _ _ h => h) (Or.inl ⟨by rfl, ?_⟩) (by assumption) ?_
  rotate_left 1
  · intro w hSw
    (try dsimp only at hSw)
    go_simp
    all_goals (with_reducible rfl)
  try simp only [Act.put, List.getElem_toArray, List.getElem_cons_zero, List.getElem_cons_succ, List.setIfInBounds_toArray, List.set_cons_zero, List.set_cons_succ]
  refine AnyE.take (i := 2) (v := ?_) rfl (by kernel_rfl) (by kernel_rfl) (by kernel_rfl) (by kernel_rfl) (fun _ _ _ h => h) (Or.inl ⟨by rfl, ?_⟩) (by assumption) ?_
  rotate_left 1
  · intro w hSw
    (try dsimp only at hSw)
    go_simp
    all_goals (with_reducible rfl)
  try simp only [Act.put, List.getElem_toArray, List.getElem_cons_zero, List.getElem_cons_succ, List.setIfInBounds_toArray, List.set_cons_zero, List.set_cons_succ]
  refine AnyE.take (i := 3) (v := ?_) rfl (by kernel_rfl) (by kernel_rfl) (by kernel_rfl) (by kernel_rfl) (fun _ _ _ h => h) (Or.inl ⟨by rfl, ?_⟩) (by assumption) ?_
  rotate_left 1
  · intro w hSw
    (try dsimp only at hSw)
    go_simp
    all_goals (with_reducible rfl)
  try simp only [Act.put, List.getElem_toArray, List.getElem_cons_zero, List.getElem_cons_succ, List.setIfInBounds_toArray, List.set_cons_zero, List.set_cons_succ]
  refine AnyE.take (i := 4) (v := ?_) rfl (by kernel_rfl) (by kernel_rfl) (by kernel_rfl) (by kernel_rfl) (fun _ _ _ h => h) (Or.inl ⟨by rfl, ?_⟩) (by assumption) ?_
  rotate_left 1
  · intro w hSw
    (try dsimp only at hSw)
    go_simp
    all_goals (with_reducible rfl)
  try simp only [Act.put, List.getElem_toArray, List.getElem_cons_zero, List.getElem_cons_succ, List.setIfInBounds_toArray, List.set_cons_zero, List.set_cons_succ]
  refine AnyE.take (i := 5) (v := ?_) rfl (by kernel_rfl) (by kernel_rfl) (by kernel_rfl) (by kernel_rfl) (fun _ _ _ h => h) (Or.inl ⟨by rfl, ?_⟩) (by assumption) ?_
  rotate_left 1
  · intro w hSw
    (try dsimp only at hSw)
    go_simp
    all_goals (with_reducible rfl)
  try simp only [Act.put, List.getElem_toArray, List.getElem_cons_zero, List.getElem_cons_succ, List.setIfInBounds_toArray, List.set_cons_zero, List.set_cons_succ]
  refine AnyE.take (i := 6) (v := ?_) rfl (by kernel_rfl) (by kernel_rfl) (by kernel_rfl) (by kernel_rfl) (fun _ _ _ h => h) (Or.inl ⟨by rfl, ?_⟩) (by assumption) ?_
  rotate_left 1
  · intro w hSw
    (try dsimp only at hSw)
    go_simp
    all_goals (with_reducible rfl)
  try simp only [Act.put, List.getElem_toArray, List.getElem_cons_zero, List.getElem_cons_succ, List.setIfInBounds_toArray, List.set_cons_zero, List.set_cons_succ]
  refine AnyE.take (i := 7) (v := ?_) rfl (by kernel_rfl) (by kernel_rfl) (by kernel_rfl) (by kernel_rfl) (fun _ _ _ h => h) (Or.inl ⟨by rfl, ?_⟩) (by assumption) ?_
  rotate_left 1
  · intro w hSw
    (try dsimp only at hSw)
    go_simp
    all_goals (with_reducible rfl)
  try simp only [Act.put, List.getElem_toArray, List.getElem_cons_zero, List.getElem_cons_succ, List.setIfInBounds_toArray, List.set_cons_zero, List.set_cons_succ]
  refine AnyE.next (rs := [8]) (by kernel_rfl) (by simp) ?_
  refine AllE.cons rfl (fun K hK => ?_) AllE.nil
  go_simp
  have HX4 := Lib.hid (show IsX (w3.alloc (.cells #[.int .i64 ((N : Int) + 1), .int .i64 1, .int .i64 (a : Int), .int .i64 (b : Int), .int .i64 (c : Int), .bool false] 77)) 6 (.slice (some ⟨w3.heap.size, 0, none⟩) 1 1) 1 [.int .i64 ((N : Int) + 1), .int .i64 1, .int .i64 (a : Int), .int .i64 (b : Int), .int .i64 (c : Int), .bool false] from IsX.lit w3 #[.int .i64 ((N : Int) + 1), .int .i64 1, .int .i64 (a : Int), .int .i64 (b : Int), .int .i64 (c : Int), .bool false] 77 6 1 rfl (by decide))
  have HR4 := Lib.hid (ownsRow_below HR3.out (below_new19 w3 (.cells #[.int .i64 ((N : Int) + 1), .int .i64 1, .int .i64 (a : Int), .int .i64 (b : Int), .int .i64 (c : Int), .bool false] 77)) (Nat.le_refl _))
  have HG4 := Lib.hid (HG3.out.alloc (.cells #[.int .i64 ((N : Int) + 1), .int .i64 1, .int .i64 (a : Int), .int .i64 (b : Int), .int .i64 (c : Int), .bool false] 77))
  have HY4 := Lib.hid (HY3.out.alloc (.cells #[.int .i64 ((N : Int) + 1), .int .i64 1, .int .i64 (a : Int), .int .i64 (b : Int), .int .i64 (c : Int), .bool false] 77))
  have HB4 := Lib.hid (HB3.out.alloc HB3.out.size (.cells #[.int .i64 ((N : Int) + 1), .int .i64 1, .int .i64 (a : Int), .int .i64 (b : Int), .int .i64 (c : Int), .bool false] 77))
  have HS4 := Lib.hid (show B ≤ (w3.alloc (.cells #[.int .i64 ((N : Int) + 1), .int .i64 1, .int .i64 (a : Int), .int .i64 (b : Int), .int .i64 (c : Int), .bool false] 77)).heap.size from by have h1 := HB3.out.size; have h2 := HBS.out; simp; omega)
  refine hK.out _ _ (⟨HG4.out.cell 0 rfl, HY4.out.cell 0 rfl, HY4.out.cell 1 rfl, HY4.out.cell 2 rfl⟩) (fun hHeld => ?_)
  clear hK K
  try simp only [Act.put, List.getElem_toArray, List.getElem_cons_zero, List.getElem_cons_succ, List.setIfInBounds_toArray, List.set_cons_zero, List.set_cons_succ]
  refine AnyE.next (rs := [9]) (by kernel_rfl) (by simp) ?_
  refine AllE.cons rfl (fun K hK => ?_) AllE.nil
  refine step_append_X (by rfl) _ _ 74 rfl B 77 i0 _ 6 48 Try.underlying74 HI0.out HZ0.out HZ1.out HZ2.out rfl (by decide) _ (row ecl L) N rfl HR4.out _ 1 _ rfl HX4.out (one_new N a b c) (by unfold maxLen; omega) (by omega) HS4.out ?_
  intro v5 w5 hown5 hgr5 hl5
  obtain ⟨x5, c5, rfl, _, _⟩ := ownsRow_slice hown5
  have HG5 := Lib.hid (HG4.out.grown hgr5 HVG.out)
  have HY5 := Lib.hid (HY4.out.grown hgr5 HVY.out)
  have HK5 := Lib.hid ((Kept.of_below (S := S) HB4.out (Nat.le_refl _)).grown hgr5 (fun k e => .inl (HVS.out k e)))
  have HO5 := Lib.hid hown5
  have HL5 := Lib.hid hl5
  have z5 := HG5.out.free 0
  have zz5 := HG5.out.cell 0 rfl
  clear hown5 hgr5 hl5
  refine hK.out _ _ (⟨HG5.out.cell 0 rfl, HY5.out.cell 0 rfl, HY5.out.cell 1 rfl, HY5.out.cell 2 rfl⟩) (fun hHeld => ?_)
  clear hK K
  try simp only [Act.put, List.getElem_toArray, List.getElem_cons_zero, List.getElem_cons_succ, List.setIfInBounds_toArray, List.set_cons_zero, List.set_cons_succ]
  refine AnyE.next (rs := [10]) (by kernel_rfl) (by simp) ?_
  refine AllE.cons rfl (fun K hK => ?_) AllE.nil
  go_simp
  refine hK.out _ _ (⟨HG5.out.cell 0 rfl, HY5.out.cell 0 rfl, HY5.out.cell 1 rfl, HY5.out.cell 2 rfl⟩) (fun hHeld => ?_)
  clear hK K
  try simp only [Act.put, List.getElem_toArray, List.getElem_cons_zero, List.getElem_cons_succ, List.setIfInBounds_toArray, List.set_cons_zero, List.set_cons_succ]
  refine AnyE.take (i := 11) (v := ?_) rfl (by kernel_rfl) (by kernel_rfl) (by kernel_rfl) (by kernel_rfl) (fun _ _ _ h => h) (Or.inl ⟨by rfl, ?_⟩) (by assumption) ?_
  rotate_left 1
  · intro w hSw
    (try dsimp only at hSw)
    go_simp
    all_goals (with_reducible rfl)
  try simp only [Act.put, List.getElem_toArray, List.getElem_cons_zero, List.getElem_cons_succ, List.setIfInBounds_toArray, List.set_cons_zero, List.set_cons_succ]
  refine AnyE.next (rs := [12]) (by kernel_rfl) (by simp) ?_
  refine AllE.last rfl (fun K hK => ?_)
  go_simp
  refine hK.out _ _ ?_
  clear hK K
  try simp only [Act.put, List.getElem_toArray, List.getElem_cons_zero, List.getElem_cons_succ, List.setIfInBounds_toArray, List.set_cons_zero, List.set_cons_succ]
  refine AnyE.done (by kernel_rfl) ?_ _
  go_wp2
  go_ret2
  refine ⟨by rw [HN.out]; rfl, add_fin (by rw [HN.out]; exact HO5.out) HG5.out HK5.out (HL5.out.elim (fun e => .inl e) (fun e => .inr ⟨_, e, HB4.out.size⟩)) HVG.out HSG.out HVS.out HSB.out⟩
end Go.Proofs.Ytlaighghagcjjaa
