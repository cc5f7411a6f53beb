/- The document's net (layer 15) by contracts: Do of a send that is taken. -/
import Derived.Test.YtofhbnnheadmlaaRq
import Derived.Test.YtofhbnnheadmlaaOrdE
set_option linter.unusedVariables false
set_option linter.unusedSimpArgs false
namespace Go.Proofs.Ytofhbnnheadmlaa
open Go.RowKit Go.Cor

theorem IsX.litAt14 (w : World) (cs : Array Value) (T : TypeId) (size n b : Nat) (hb : w.heap.size = b) (hs : cs.size = n * size) (hm : n ≤ maxLen) : IsX (w.alloc (.cells cs T)) size (.slice (some ⟨b, 0, none⟩) n n) n cs.toList := by
  subst hb
  exact IsX.lit w cs T size n hs hm
theorem own_litAt14 (w : World) (B : Nat) (T : TypeId) (size b : Nat) (hb : w.heap.size = b) (hB : B ≤ b) : (w.alloc (.cells #[] T)).ownsRow B T size (.slice (some ⟨b, 0, none⟩) 0 0) 0 [] := by
  subst hb
  exact World.ownsRow_lit (base := B) (e := T) (size := size) w #[] 0 hB (Nat.zero_le _) (by simp)
theorem bel_alloc15 (w : World) (o : Obj) : Below w.heap.size w (w.alloc o) := (Below.refl _ w).alloc (Nat.le_refl _) o
set_option maxRecDepth 100000 in
set_option maxHeartbeats 8000000 in
theorem rdo_send (xl : Option Addr) (ll cl : Nat) (xc : Option Addr) (lc cc : Nat) (ai ak : Int) (fr tt kd vo li : Int) (id : Nat) (co : Int) (has : Bool) (key ck : Nat) (gn : Bool) (md : List UInt8) (x : Option Addr) (L c : Nat) (l : List (Msg × Value)) (w : World) (hll : l.length = ll) (hl : ¬ 4096 ≤ ll) (hv : IsM w (.slice xl ll cl) l) (hvm : IsB w (.slice x L c) md)
    (hck : ∀ wx, Below w.heap.size w wx → Calls Try.prog 23 #[.agg #[.int .i64 fr, .int .i64 tt, .int .i64 kd, .int .i64 vo, .int .i64 li, .int .u64 (id : Int), .int .i64 co, .bool has, .int .u64 (key : Int), .int .u32 (ck : Int), .bool gn, .slice x L c]] wx fun e w' => e = .returned (.int .i64 0) ∧ Below wx.heap.size wx w') :
    Calls Try.prog 9 #[.agg #[.slice xl ll cl, .slice xc lc cc], .agg #[.int .i64 0, .int .i64 ai, .int .i64 ak, .int .i64 fr, .int .i64 tt, .int .i64 kd, .int .i64 vo, .int .i64 li, .int .u64 (id : Int), .int .i64 co, .bool has, .int .u64 (key : Int), .int .u32 (ck : Int), .bool gn, .slice x L c]] w fun e w' => ∃ y k, e = .returned (.tuple #[.agg #[.slice y (ll + 1) k, .slice xc lc cc], .agg #[.int .i64 0, .int .i64 0, .int .i64 0, .int .i64 0, .int .i64 0, .int .u64 0, .int .i64 0, .bool false, .int .u64 0, .int .u32 0, .bool false, .slice none 0 0], .int .i64 0]) ∧ IsM w' (.slice y (ll + 1) k) (l ++ [(⟨fr, tt, kd, vo, li, id, co, has, ⟨key, ck, gn, md⟩⟩, .slice x L c)]) ∧ (∀ b, liesX (.slice y (ll + 1) k) (ll + 1) b → w.heap.size ≤ b) ∧ Below w.heap.size w w' := by
  obtain ⟨i0, hi0, hz0, hz1, hz2⟩ := info_parts Try.infoMsg14
  obtain ⟨N1, hN1⟩ : ∃ q, ll + 1 = q := ⟨_, rfl⟩
  rw [hN1]
  have hB0 := Below.refl w.heap.size w
  have hB1 := hB0.alloc (by simp) (.cells #[.slice xl ll cl, .slice xc lc cc] 38)
  have hB2 := hB1.alloc (by simp) (.cells #[.int .i64 0, .int .i64 ai, .int .i64 ak, .int .i64 fr, .int .i64 tt, .int .i64 kd, .int .i64 vo, .int .i64 li, .int .u64 (id : Int), .int .i64 co, .bool has, .int .u64 (key : Int), .int .u32 (ck : Int), .bool gn, .slice x L c] 32)
  have hB3 := hB2.alloc (by simp; omega) (.cells #[.slice none 0 0, .slice none 0 0] 38)
  have hB4 := hB3.alloc (by simp; omega) (.cells #[.int .i64 0, .int .i64 0, .int .i64 0, .int .i64 0, .int .i64 0, .int .u64 0, .int .i64 0, .bool false, .int .u64 0, .int .u32 0, .bool false, .slice none 0 0] 30)
  have hB5 := hB4.alloc (by simp; omega) (.cells #[.int .i64 0, .int .i64 0, .int .i64 0, .int .i64 0, .int .i64 0, .int .u64 0, .int .i64 0, .bool false, .int .u64 0, .int .u32 0, .bool false, .slice none 0 0] 30)
  have hx0 := (((((Blk.new w #[.slice xl ll cl, .slice xc lc cc] 38).alloc (.cells #[.int .i64 0, .int .i64 ai, .int .i64 ak, .int .i64 fr, .int .i64 tt, .int .i64 kd, .int .i64 vo, .int .i64 li, .int .u64 (id : Int), .int .i64 co, .bool has, .int .u64 (key : Int), .int .u32 (ck : Int), .bool gn, .slice x L c] 32)).alloc (.cells #[.slice none 0 0, .slice none 0 0] 38)).alloc (.cells #[.int .i64 0, .int .i64 0, .int .i64 0, .int .i64 0, .int .i64 0, .int .u64 0, .int .i64 0, .bool false, .int .u64 0, .int .u32 0, .bool false, .slice none 0 0] 30)).alloc (.cells #[.int .i64 0, .int .i64 0, .int .i64 0, .int .i64 0, .int .i64 0, .int .u64 0, .int .i64 0, .bool false, .int .u64 0, .int .u32 0, .bool false, .slice none 0 0] 30))
  have hx1 := ((((Blk.new (w.alloc (.cells #[.slice xl ll cl, .slice xc lc cc] 38)) #[.int .i64 0, .int .i64 ai, .int .i64 ak, .int .i64 fr, .int .i64 tt, .int .i64 kd, .int .i64 vo, .int .i64 li, .int .u64 (id : Int), .int .i64 co, .bool has, .int .u64 (key : Int), .int .u32 (ck : Int), .bool gn, .slice x L c] 32).alloc (.cells #[.slice none 0 0, .slice none 0 0] 38)).alloc (.cells #[.int .i64 0, .int .i64 0, .int .i64 0, .int .i64 0, .int .i64 0, .int .u64 0, .int .i64 0, .bool false, .int .u64 0, .int .u32 0, .bool false, .slice none 0 0] 30)).alloc (.cells #[.int .i64 0, .int .i64 0, .int .i64 0, .int .i64 0, .int .i64 0, .int .u64 0, .int .i64 0, .bool false, .int .u64 0, .int .u32 0, .bool false, .slice none 0 0] 30))
  rw [show (w.alloc (.cells #[.slice xl ll cl, .slice xc lc cc] 38)).heap.size = w.heap.size + 1 by simp] at hx1
  have hx2 := (((Blk.new ((w.alloc (.cells #[.slice xl ll cl, .slice xc lc cc] 38)).alloc (.cells #[.int .i64 0, .int .i64 ai, .int .i64 ak, .int .i64 fr, .int .i64 tt, .int .i64 kd, .int .i64 vo, .int .i64 li, .int .u64 (id : Int), .int .i64 co, .bool has, .int .u64 (key : Int), .int .u32 (ck : Int), .bool gn, .slice x L c] 32)) #[.slice none 0 0, .slice none 0 0] 38).alloc (.cells #[.int .i64 0, .int .i64 0, .int .i64 0, .int .i64 0, .int .i64 0, .int .u64 0, .int .i64 0, .bool false, .int .u64 0, .int .u32 0, .bool false, .slice none 0 0] 30)).alloc (.cells #[.int .i64 0, .int .i64 0, .int .i64 0, .int .i64 0, .int .i64 0, .int .u64 0, .int .i64 0, .bool false, .int .u64 0, .int .u32 0, .bool false, .slice none 0 0] 30))
  rw [show ((w.alloc (.cells #[.slice xl ll cl, .slice xc lc cc] 38)).alloc (.cells #[.int .i64 0, .int .i64 ai, .int .i64 ak, .int .i64 fr, .int .i64 tt, .int .i64 kd, .int .i64 vo, .int .i64 li, .int .u64 (id : Int), .int .i64 co, .bool has, .int .u64 (key : Int), .int .u32 (ck : Int), .bool gn, .slice x L c] 32)).heap.size = w.heap.size + 1 + 1 by simp] at hx2
  have hx3 := ((Blk.new (((w.alloc (.cells #[.slice xl ll cl, .slice xc lc cc] 38)).alloc (.cells #[.int .i64 0, .int .i64 ai, .int .i64 ak, .int .i64 fr, .int .i64 tt, .int .i64 kd, .int .i64 vo, .int .i64 li, .int .u64 (id : Int), .int .i64 co, .bool has, .int .u64 (key : Int), .int .u32 (ck : Int), .bool gn, .slice x L c] 32)).alloc (.cells #[.slice none 0 0, .slice none 0 0] 38)) #[.int .i64 0, .int .i64 0, .int .i64 0, .int .i64 0, .int .i64 0, .int .u64 0, .int .i64 0, .bool false, .int .u64 0, .int .u32 0, .bool false, .slice none 0 0] 30).alloc (.cells #[.int .i64 0, .int .i64 0, .int .i64 0, .int .i64 0, .int .i64 0, .int .u64 0, .int .i64 0, .bool false, .int .u64 0, .int .u32 0, .bool false, .slice none 0 0] 30))
  rw [show (((w.alloc (.cells #[.slice xl ll cl, .slice xc lc cc] 38)).alloc (.cells #[.int .i64 0, .int .i64 ai, .int .i64 ak, .int .i64 fr, .int .i64 tt, .int .i64 kd, .int .i64 vo, .int .i64 li, .int .u64 (id : Int), .int .i64 co, .bool has, .int .u64 (key : Int), .int .u32 (ck : Int), .bool gn, .slice x L c] 32)).alloc (.cells #[.slice none 0 0, .slice none 0 0] 38)).heap.size = w.heap.size + 1 + 1 + 1 by simp] at hx3
  have hx4 := (Blk.new ((((w.alloc (.cells #[.slice xl ll cl, .slice xc lc cc] 38)).alloc (.cells #[.int .i64 0, .int .i64 ai, .int .i64 ak, .int .i64 fr, .int .i64 tt, .int .i64 kd, .int .i64 vo, .int .i64 li, .int .u64 (id : Int), .int .i64 co, .bool has, .int .u64 (key : Int), .int .u32 (ck : Int), .bool gn, .slice x L c] 32)).alloc (.cells #[.slice none 0 0, .slice none 0 0] 38)).alloc (.cells #[.int .i64 0, .int .i64 0, .int .i64 0, .int .i64 0, .int .i64 0, .int .u64 0, .int .i64 0, .bool false, .int .u64 0, .int .u32 0, .bool false, .slice none 0 0] 30)) #[.int .i64 0, .int .i64 0, .int .i64 0, .int .i64 0, .int .i64 0, .int .u64 0, .int .i64 0, .bool false, .int .u64 0, .int .u32 0, .bool false, .slice none 0 0] 30)
  rw [show ((((w.alloc (.cells #[.slice xl ll cl, .slice xc lc cc] 38)).alloc (.cells #[.int .i64 0, .int .i64 ai, .int .i64 ak, .int .i64 fr, .int .i64 tt, .int .i64 kd, .int .i64 vo, .int .i64 li, .int .u64 (id : Int), .int .i64 co, .bool has, .int .u64 (key : Int), .int .u32 (ck : Int), .bool gn, .slice x L c] 32)).alloc (.cells #[.slice none 0 0, .slice none 0 0] 38)).alloc (.cells #[.int .i64 0, .int .i64 0, .int .i64 0, .int .i64 0, .int .i64 0, .int .u64 0, .int .i64 0, .bool false, .int .u64 0, .int .u32 0, .bool false, .slice none 0 0] 30)).heap.size = w.heap.size + 1 + 1 + 1 + 1 by simp] at hx4
  have HCK := Lib.hid (hck _ hB5)
  have k1 : ¬ (4096 : Int) ≤ (ll : Int) := by omega
  have hone := hv.one
  have hX := hv.1
  rw [hll] at hX
  have HXW := Lib.hid (fun (wx : World) (hb : Below w.heap.size w wx) => hX.mono hb (Nat.le_refl _))
  have HONE := Lib.hid hone
  have HONE1 := Lib.hid (show ∀ u ∈ mcl (⟨fr, tt, kd, vo, li, id, co, has, ⟨key, ck, gn, md⟩⟩, .slice x L c), u.oneCell' = true from fun u hu => by
    simp only [mcl, List.mem_cons, List.not_mem_nil, or_false] at hu
    rcases hu with rfl | rfl | rfl | rfl | rfl | rfl | rfl | rfl | rfl | rfl | rfl | rfl <;> rfl)
  have HV := Lib.hid hv.2
  have HVM := Lib.hid hvm
  have HL := Lib.hid hll
  have HN1 := Lib.hid hN1
  have HB5 := Lib.hid hB5
  have HX0 := Lib.hid hx0
  have HX1 := Lib.hid hx1
  have HX2 := Lib.hid hx2
  have HX3 := Lib.hid hx3
  have HX4 := Lib.hid hx4
  clear hck hB0 hB1 hB2 hB3 hB4 hB5 hx0 hx1 hx2 hx3 hx4 hv hvm hll hX hone hN1
  go_enter Try.func9, Try.ntmps9
  go_wp2_with fail
  refine HCK.out.mono ?_
  rintro e w1 ⟨rfl, hb1⟩
  have HY0 := Lib.hid (HX0.out.below hb1 HX0.out.lt)
  have HY1 := Lib.hid (HX1.out.below hb1 HX1.out.lt)
  have HY2 := Lib.hid (HX2.out.below hb1 HX2.out.lt)
  have HY3 := Lib.hid (HX3.out.below hb1 HX3.out.lt)
  have HY4 := Lib.hid (HX4.out.below hb1 HX4.out.lt)
  have HBA := Lib.hid (HB5.out.trans (hb1.mono HB5.out.size))
  clear hb1
  have HS := Lib.hid (fun (wx : World) (hb : Below w1.heap.size w1.drew wx) => show wx.cell? ⟨w.heap.size, 0, none⟩ = some (.slice xl ll cl) ∧ wx.cell? ⟨w.heap.size + 1, 3, none⟩ = some (.int .i64 fr) ∧ wx.cell? ⟨w.heap.size + 1, 4, none⟩ = some (.int .i64 tt) ∧ wx.cell? ⟨w.heap.size + 1, 5, none⟩ = some (.int .i64 kd) ∧ wx.cell? ⟨w.heap.size + 1, 6, none⟩ = some (.int .i64 vo) ∧ wx.cell? ⟨w.heap.size + 1, 7, none⟩ = some (.int .i64 li) ∧ wx.cell? ⟨w.heap.size + 1, 8, none⟩ = some (.int .u64 (id : Int)) ∧ wx.cell? ⟨w.heap.size + 1, 9, none⟩ = some (.int .i64 co) ∧ wx.cell? ⟨w.heap.size + 1, 10, none⟩ = some (.bool has) ∧ wx.cell? ⟨w.heap.size + 1, 11, none⟩ = some (.int .u64 (key : Int)) ∧ wx.cell? ⟨w.heap.size + 1, 12, none⟩ = some (.int .u32 (ck : Int)) ∧ wx.cell? ⟨w.heap.size + 1, 13, none⟩ = some (.bool gn) ∧ wx.cell? ⟨w.heap.size + 1, 14, none⟩ = some (.slice x L c) from
    have h0 := HY0.out.below ((Below.refl w1.heap.size w1).drew.trans hb) HY0.out.lt
    have h1 := HY1.out.below ((Below.refl w1.heap.size w1).drew.trans hb) HY1.out.lt
    ⟨h0.cell 0 rfl, h1.cell 3 rfl, h1.cell 4 rfl, h1.cell 5 rfl, h1.cell 6 rfl, h1.cell 7 rfl, h1.cell 8 rfl, h1.cell 9 rfl, h1.cell 10 rfl, h1.cell 11 rfl, h1.cell 12 rfl, h1.cell 13 rfl, h1.cell 14 rfl⟩)
  have S0 := HS.out w1.drew (Below.refl _ _)
  have HD2 := Lib.hid (show IsX w1.drew 12 (.slice xl ll cl) ll (row mcl l) from HXW.out _ HBA.out.drew)
  have p0 := HY0.out.cell 0 rfl
  have p1 := HY0.out.cell 1 rfl
  go_upto_region 8 with fail
  clear p0 p1
  refine AnyE.start (S := (fun wx => wx.cell? ⟨w.heap.size, 0, none⟩ = some (.slice xl ll cl) ∧ wx.cell? ⟨w.heap.size + 1, 3, none⟩ = some (.int .i64 fr) ∧ wx.cell? ⟨w.heap.size + 1, 4, none⟩ = some (.int .i64 tt) ∧ wx.cell? ⟨w.heap.size + 1, 5, none⟩ = some (.int .i64 kd) ∧ wx.cell? ⟨w.heap.size + 1, 6, none⟩ = some (.int .i64 vo) ∧ wx.cell? ⟨w.heap.size + 1, 7, none⟩ = some (.int .i64 li) ∧ wx.cell? ⟨w.heap.size + 1, 8, none⟩ = some (.int .u64 (id : Int)) ∧ wx.cell? ⟨w.heap.size + 1, 9, none⟩ = some (.int .i64 co) ∧ wx.cell? ⟨w.heap.size + 1, 10, none⟩ = some (.bool has) ∧ wx.cell? ⟨w.heap.size + 1, 11, none⟩ = some (.int .u64 (key : Int)) ∧ wx.cell? ⟨w.heap.size + 1, 12, none⟩ = some (.int .u32 (ck : Int)) ∧ wx.cell? ⟨w.heap.size + 1, 13, none⟩ = some (.bool gn) ∧ wx.cell? ⟨w.heap.size + 1, 14, none⟩ = some (.slice x L c))) 9 (by kernel_rfl) (S0) (fun hHeld => ?_)
  refine AnyE.take (i := 1) (v := ?_) rfl (by kernel_rfl) (by kernel_rfl) (by kernel_rfl) (by kernel_rfl) (fun _ _ _ h => h) (Or.inl ⟨by rfl, ?_⟩) (by assumption) ?_
  rotate_left 1
  · intro w hSw
    (try dsimp only at hSw)
    go_simp
    all_goals (with_reducible rfl)
  try simp only [Act.put, List.getElem_toArray, List.getElem_cons_zero, List.getElem_cons_succ, List.setIfInBounds_toArray, List.set_cons_zero, List.set_cons_succ]
  refine AnyE.take (i := 2) (v := ?_) rfl (by kernel_rfl) (by kernel_rfl) (by kernel_rfl) (by kernel_rfl) (fun _ _ _ h => h) (Or.inl ⟨by rfl, ?_⟩) (by assumption) ?_
  rotate_left 1
  · intro w hSw
    (try dsimp only at hSw)
    go_simp
    all_goals (with_reducible rfl)
  try simp only [Act.put, List.getElem_toArray, List.getElem_cons_zero, List.getElem_cons_succ, List.setIfInBounds_toArray, List.set_cons_zero, List.set_cons_succ]
  refine AnyE.take (i := 4) (v := ?_) rfl (by kernel_rfl) (by kernel_rfl) (by kernel_rfl) (by kernel_rfl) (fun _ _ _ h => h) (Or.inl ⟨by rfl, ?_⟩) (by assumption) ?_
  rotate_left 1
  · intro w hSw
    (try dsimp only at hSw)
    go_simp
    all_goals (with_reducible rfl)
  try simp only [Act.put, List.getElem_toArray, List.getElem_cons_zero, List.getElem_cons_succ, List.setIfInBounds_toArray, List.set_cons_zero, List.set_cons_succ]
  refine AnyE.take (i := 5) (v := ?_) rfl (by kernel_rfl) (by kernel_rfl) (by kernel_rfl) (by kernel_rfl) (fun _ _ _ h => h) (Or.inl ⟨by rfl, ?_⟩) (by assumption) ?_
  rotate_left 1
  · intro w hSw
    (try dsimp only at hSw)
    go_simp
    all_goals (with_reducible rfl)
  try simp only [Act.put, List.getElem_toArray, List.getElem_cons_zero, List.getElem_cons_succ, List.setIfInBounds_toArray, List.set_cons_zero, List.set_cons_succ]
  refine AnyE.next (rs := [0, 6]) (by kernel_rfl) (by simp) ?_
  refine AllE.cons rfl (fun K hK => ?_) ?_
  · go_simp
    refine hK.out _ _ (HS.out _ ((Below.refl w1.heap.size w1.drew).alloc (by have h := (Below.refl w1.heap.size w1.drew).size; exact h) (.cells #[] 30))) (fun hHeld => ?_)
    clear hK K
    try simp only [Act.put, List.getElem_toArray, List.getElem_cons_zero, List.getElem_cons_succ, List.setIfInBounds_toArray, List.set_cons_zero, List.set_cons_succ]
    refine AnyE.next (rs := [3, 6]) (by kernel_rfl) (by simp) ?_
    refine AllE.cons rfl (fun K hK => ?_) ?_
    · refine step_append_X (by rfl) _ _ 35 rfl w1.heap.size 30 i0 _ 12 104 Try.underlying35 hi0 hz0 hz1 hz2 rfl (by decide) _ [] 0 rfl (own_litAt14 w1.drew w1.heap.size 30 12 w1.heap.size rfl (Nat.le_refl _)) _ ll _ rfl (HD2.out.mono ((Below.refl w1.heap.size w1.drew).alloc (by have h := (Below.refl w1.heap.size w1.drew).size; exact h) (.cells #[] 30)) (Nat.le_refl _)) HONE.out (by unfold maxLen; omega) (by omega) (by have h := ((Below.refl w1.heap.size w1.drew).alloc (by have h := (Below.refl w1.heap.size w1.drew).size; exact h) (.cells #[] 30)).size; exact h) ?_
      intro v6 w6 hown6 hgr6 hat6
      have HO6 := Lib.hid (show w6.ownsRow w1.heap.size 30 12 v6 ll (row mcl l) from by have h := hown6; rw [Nat.zero_add] at h; simpa using h)
      have HB6 := Lib.hid (((Below.refl w1.heap.size w1.drew).alloc (by have h := (Below.refl w1.heap.size w1.drew).size; exact h) (.cells #[] 30)).grown hgr6 (by have h := ((Below.refl w1.heap.size w1.drew).alloc (by have h := (Below.refl w1.heap.size w1.drew).size; exact h) (.cells #[] 30)).size; exact h) (fun j hj => by have h := ((own_litAt14 w1.drew w1.heap.size 30 12 w1.heap.size rfl (Nat.le_refl _))).lt j hj; exact h.1))
      have S6 := HS.out _ HB6.out
      refine hK.out _ _ (S6) (fun hHeld => ?_)
      clear hK K
      try simp only [Act.put, List.getElem_toArray, List.getElem_cons_zero, List.getElem_cons_succ, List.setIfInBounds_toArray, List.set_cons_zero, List.set_cons_succ]
      refine AnyE.next (rs := [6]) (by kernel_rfl) (by simp) ?_
      refine AllE.cons rfl (fun K hK => ?_) AllE.nil
      go_simp
      refine hK.out _ _ (HS.out _ (HB6.out.alloc HB6.out.size (.cells #[.int .i64 fr, .int .i64 tt, .int .i64 kd, .int .i64 vo, .int .i64 li, .int .u64 (id : Int), .int .i64 co, .bool has, .int .u64 (key : Int), .int .u32 (ck : Int), .bool gn, .slice x L c] 30))) (fun hHeld => ?_)
      clear hK K
      try simp only [Act.put, List.getElem_toArray, List.getElem_cons_zero, List.getElem_cons_succ, List.setIfInBounds_toArray, List.set_cons_zero, List.set_cons_succ]
      refine AnyE.next (rs := [7]) (by kernel_rfl) (by simp) ?_
      refine AllE.cons rfl (fun K hK => ?_) AllE.nil
      refine step_append_X (by rfl) _ _ 35 rfl w1.heap.size 30 i0 _ 12 104 Try.underlying35 hi0 hz0 hz1 hz2 rfl (by decide) _ (row mcl l) ll rfl (HO6.out.alloc (.cells #[.int .i64 fr, .int .i64 tt, .int .i64 kd, .int .i64 vo, .int .i64 li, .int .u64 (id : Int), .int .i64 co, .bool has, .int .u64 (key : Int), .int .u32 (ck : Int), .bool gn, .slice x L c] 30)) _ 1 _ rfl (IsX.litAt14 w6 #[.int .i64 fr, .int .i64 tt, .int .i64 kd, .int .i64 vo, .int .i64 li, .int .u64 (id : Int), .int .i64 co, .bool has, .int .u64 (key : Int), .int .u32 (ck : Int), .bool gn, .slice x L c] 30 12 1 w6.heap.size rfl rfl (by decide)) HONE1.out (by unfold maxLen; omega) (by omega) (by have h := (HB6.out.alloc HB6.out.size (.cells #[.int .i64 fr, .int .i64 tt, .int .i64 kd, .int .i64 vo, .int .i64 li, .int .u64 (id : Int), .int .i64 co, .bool has, .int .u64 (key : Int), .int .u32 (ck : Int), .bool gn, .slice x L c] 30)).size; exact h) ?_
      intro v9 w9 hown9 hgr9 hat9
      rw [HN1.out] at hown9
      obtain ⟨x9, z9, rfl, _, _⟩ := Go.Cor.ownsRow_slice hown9
      have HB9 := Lib.hid ((HB6.out.alloc HB6.out.size (.cells #[.int .i64 fr, .int .i64 tt, .int .i64 kd, .int .i64 vo, .int .i64 li, .int .u64 (id : Int), .int .i64 co, .bool has, .int .u64 (key : Int), .int .u32 (ck : Int), .bool gn, .slice x L c] 30)).grown hgr9 (by have h := (HB6.out.alloc HB6.out.size (.cells #[.int .i64 fr, .int .i64 tt, .int .i64 kd, .int .i64 vo, .int .i64 li, .int .u64 (id : Int), .int .i64 co, .bool has, .int .u64 (key : Int), .int .u32 (ck : Int), .bool gn, .slice x L c] 30)).size; exact h) (fun j hj => by have h := ((HO6.out.alloc (.cells #[.int .i64 fr, .int .i64 tt, .int .i64 kd, .int .i64 vo, .int .i64 li, .int .u64 (id : Int), .int .i64 co, .bool has, .int .u64 (key : Int), .int .u32 (ck : Int), .bool gn, .slice x L c] 30))).lt j hj; exact h.1))
      have HO9 := Lib.hid (show w9.ownsRow w1.heap.size 30 12 (.slice x9 N1 z9) N1 (row mcl (l ++ [(⟨fr, tt, kd, vo, li, id, co, has, ⟨key, ck, gn, md⟩⟩, .slice x L c)])) from by rw [row_append, row_one]; exact hown9)
      have S9 := HS.out _ HB9.out
      have hR0 := HY0.out.below ((Below.refl w1.heap.size w1).drew.trans HB9.out) HY0.out.lt
      have pf := fun j => hR0.free j
      have HR0 := Lib.hid hR0
      clear hown9 hgr9 hat9 hR0
      refine hK.out _ _ (S9) (fun hHeld => ?_)
      clear hK K
      try simp only [Act.put, List.getElem_toArray, List.getElem_cons_zero, List.getElem_cons_succ, List.setIfInBounds_toArray, List.set_cons_zero, List.set_cons_succ]
      refine AnyE.next (rs := [8]) (by kernel_rfl) (by simp) ?_
      refine AllE.cons rfl (fun K hK => ?_) AllE.nil
      go_simp
      refine hK.out _ _ (S9) (fun hHeld => ?_)
      clear hK K
      try simp only [Act.put, List.getElem_toArray, List.getElem_cons_zero, List.getElem_cons_succ, List.setIfInBounds_toArray, List.set_cons_zero, List.set_cons_succ]
      refine AnyE.next (rs := [9]) (by kernel_rfl) (by simp) ?_
      refine AllE.last rfl (fun K hK => ?_)
      go_simp
      refine hK.out _ _ ?_
      clear hK K
      try simp only [Act.put, List.getElem_toArray, List.getElem_cons_zero, List.getElem_cons_succ, List.setIfInBounds_toArray, List.set_cons_zero, List.set_cons_succ]
      refine AnyE.done (by kernel_rfl) ?_ _
      have hlo : ∀ b, liesX (.slice x9 N1 z9) N1 b → w1.heap.size ≤ b := fun b hb => (HO9.out.lt b hb.2).1
      have hbq := ((Below.refl w1.heap.size w1).drew.trans HB9.out)
      have hb9 : Below w.heap.size w w9 := HBA.out.trans (hbq.mono HBA.out.size)
      have hR2 := HY2.out.below hbq HY2.out.lt
      have hR3 := HY3.out.below hbq HY3.out.lt
      have hR4 := HY4.out.below hbq HY4.out.lt
      have hS0 := HR0.out.set 0 (.slice x9 N1 z9)
      simp at hS0
      have hS2 := hR2.other (a := ⟨w.heap.size, 0, none⟩) (by show w.heap.size ≠ _; omega) (.slice x9 N1 z9)
      have hS3 := hR3.other (a := ⟨w.heap.size, 0, none⟩) (by show w.heap.size ≠ _; omega) (.slice x9 N1 z9)
      have hS4 := hR4.other (a := ⟨w.heap.size, 0, none⟩) (by show w.heap.size ≠ _; omega) (.slice x9 N1 z9)
      have hB9s := hb9.setCell (p := ⟨w.heap.size, 0, none⟩) (Nat.le_refl _) (.slice x9 N1 z9)
      have hK5 := (Kept.refl (fun j => j = w.heap.size) w9).setCell (p := ⟨w.heap.size, 0, none⟩) (.inl rfl) (.slice x9 N1 z9)
      have hsz := HY0.out.lt
      have hsz4 := HY4.out.lt
      have hI5 := (IsX.own HO9.out).kept hK5 (fun b hb e => by have := hlo b hb; omega)
      obtain ⟨w5, hw5⟩ : ∃ z, w9.setCell ⟨w.heap.size, 0, none⟩ (.slice x9 N1 z9) = z := ⟨_, rfl⟩
      rw [hw5] at hS0 hS2 hS3 hS4 hB9s hI5
      try rw [hw5]
      have HW5 := Lib.hid hw5
      have HS0 := Lib.hid hS0
      have HS2 := Lib.hid hS2
      have HS3 := Lib.hid hS3
      have HS4 := Lib.hid hS4
      have HB9s := Lib.hid hB9s
      have HI5 := Lib.hid hI5
      have HLO := Lib.hid hlo
      clear hlo hbq hb9 hR2 hR3 hR4 hS0 hS2 hS3 hS4 hB9s hK5 hI5 hw5 pf S9
      go_upto_region 9 with fail
      have HFN := fin14 HS2.out HS3.out (by omega) HB9s.out (by omega) (by omega) (.slice x9 N1 z9) (.slice xc lc cc) (.int .i64 0) (.int .i64 0) (.int .i64 0) (.int .i64 0) (.int .i64 0) (.int .u64 0) (.int .i64 0) (.bool false) (.int .u64 0) (.int .u32 0) (.bool false) (.slice none 0 0)
      obtain ⟨wf, hwf⟩ : ∃ z, set14 w5 (w.heap.size + 1 + 1) (w.heap.size + 1 + 1 + 1) (.slice x9 N1 z9) (.slice xc lc cc) (.int .i64 0) (.int .i64 0) (.int .i64 0) (.int .i64 0) (.int .i64 0) (.int .u64 0) (.int .i64 0) (.bool false) (.int .u64 0) (.int .u32 0) (.bool false) (.slice none 0 0) = z := ⟨_, rfl⟩
      rw [hwf] at HFN
      unfold set14 at hwf
      have HWF := Lib.hid hwf
      have HFN := Lib.hid HFN
      clear hwf
      have p0 := HS0.out.cell 0 rfl
      have p1 := HS0.out.cell 1 rfl
      have s0 := HS4.out.cell 0 rfl
      have s1 := HS4.out.cell 1 rfl
      have s2 := HS4.out.cell 2 rfl
      have s3 := HS4.out.cell 3 rfl
      have s4 := HS4.out.cell 4 rfl
      have s5 := HS4.out.cell 5 rfl
      have s6 := HS4.out.cell 6 rfl
      have s7 := HS4.out.cell 7 rfl
      have s8 := HS4.out.cell 8 rfl
      have s9 := HS4.out.cell 9 rfl
      have s10 := HS4.out.cell 10 rfl
      have s11 := HS4.out.cell 11 rfl
      have q0 := HS2.out.cell 0 rfl
      have q1 := HS2.out.cell 1 rfl
      have r0 := HS3.out.cell 0 rfl
      have r1 := HS3.out.cell 1 rfl
      have r2 := HS3.out.cell 2 rfl
      have r3 := HS3.out.cell 3 rfl
      have r4 := HS3.out.cell 4 rfl
      have r5 := HS3.out.cell 5 rfl
      have r6 := HS3.out.cell 6 rfl
      have r7 := HS3.out.cell 7 rfl
      have r8 := HS3.out.cell 8 rfl
      have r9 := HS3.out.cell 9 rfl
      have r10 := HS3.out.cell 10 rfl
      have r11 := HS3.out.cell 11 rfl
      have qf := fun j => HS2.out.free j
      have rf := fun j => HS3.out.free j
      go_region
      go_wp2
      rw [HWF.out]
      obtain ⟨g1, g2, g3, g4⟩ := HFN.out
      have f0 := g1.cell 0 rfl
      have f1 := g1.cell 1 rfl
      have e0 := g2.cell 0 rfl
      have e1 := g2.cell 1 rfl
      have e2 := g2.cell 2 rfl
      have e3 := g2.cell 3 rfl
      have e4 := g2.cell 4 rfl
      have e5 := g2.cell 5 rfl
      have e6 := g2.cell 6 rfl
      have e7 := g2.cell 7 rfl
      have e8 := g2.cell 8 rfl
      have e9 := g2.cell 9 rfl
      have e10 := g2.cell 10 rfl
      have e11 := g2.cell 11 rfl
      refine bodyPost_ret (v := .tuple #[.agg #[.slice x9 N1 z9, .slice xc lc cc], .agg #[.int .i64 0, .int .i64 0, .int .i64 0, .int .i64 0, .int .i64 0, .int .u64 0, .int .i64 0, .bool false, .int .u64 0, .int .u32 0, .bool false, .slice none 0 0], .int .i64 0]) (by simp [results, Try.results9, go_sem, f0, f1, e0, e1, e2, e3, e4, e5, e6, e7, e8, e9, e10, e11]) rfl ⟨x9, z9, rfl, ⟨by rw [show ((l ++ [(⟨fr, tt, kd, vo, li, id, co, has, ⟨key, ck, gn, md⟩⟩, .slice x L c)] : List (Msg × Value))).length = N1 by rw [List.length_append, HL.out]; exact HN1.out]; exact HI5.out.kept g4.drew (fun b hb e => by have := HLO.out b hb; rcases e with e | e <;> omega), fun z hz => ?_⟩, fun b hb => by have := HLO.out b hb; omega, g3.drew⟩
      rcases List.mem_append.1 hz with hz | hz
      · exact ⟨(HV.out z hz).1.mono g3.drew (Nat.le_refl _), (HV.out z hz).2⟩
      · rw [List.mem_singleton.1 hz]
        exact ⟨HVM.out.mono g3.drew (Nat.le_refl _), rfl⟩
    refine AllE.cons rfl (fun K hK => ?_) AllE.nil
    go_simp
    refine hK.out _ _ (HS.out _ (((Below.refl w1.heap.size w1.drew).alloc (by have h := (Below.refl w1.heap.size w1.drew).size; exact h) (.cells #[] 30)).alloc (by have h := ((Below.refl w1.heap.size w1.drew).alloc (by have h := (Below.refl w1.heap.size w1.drew).size; exact h) (.cells #[] 30)).size; exact h) (.cells #[.int .i64 fr, .int .i64 tt, .int .i64 kd, .int .i64 vo, .int .i64 li, .int .u64 (id : Int), .int .i64 co, .bool has, .int .u64 (key : Int), .int .u32 (ck : Int), .bool gn, .slice x L c] 30))) (fun hHeld => ?_)
    clear hK K
    try simp only [Act.put, List.getElem_toArray, List.getElem_cons_zero, List.getElem_cons_succ, List.setIfInBounds_toArray, List.set_cons_zero, List.set_cons_succ]
    refine AnyE.next (rs := [3]) (by kernel_rfl) (by simp) ?_
    refine AllE.cons rfl (fun K hK => ?_) AllE.nil
    refine step_append_X (by rfl) _ _ 35 rfl w1.heap.size 30 i0 _ 12 104 Try.underlying35 hi0 hz0 hz1 hz2 rfl (by decide) _ [] 0 rfl ((own_litAt14 w1.drew w1.heap.size 30 12 w1.heap.size rfl (Nat.le_refl _)).alloc (.cells #[.int .i64 fr, .int .i64 tt, .int .i64 kd, .int .i64 vo, .int .i64 li, .int .u64 (id : Int), .int .i64 co, .bool has, .int .u64 (key : Int), .int .u32 (ck : Int), .bool gn, .slice x L c] 30)) _ ll _ rfl (HD2.out.mono (((Below.refl w1.heap.size w1.drew).alloc (by have h := (Below.refl w1.heap.size w1.drew).size; exact h) (.cells #[] 30)).alloc (by have h := ((Below.refl w1.heap.size w1.drew).alloc (by have h := (Below.refl w1.heap.size w1.drew).size; exact h) (.cells #[] 30)).size; exact h) (.cells #[.int .i64 fr, .int .i64 tt, .int .i64 kd, .int .i64 vo, .int .i64 li, .int .u64 (id : Int), .int .i64 co, .bool has, .int .u64 (key : Int), .int .u32 (ck : Int), .bool gn, .slice x L c] 30)) (Nat.le_refl _)) HONE.out (by unfold maxLen; omega) (by omega) (by have h := (((Below.refl w1.heap.size w1.drew).alloc (by have h := (Below.refl w1.heap.size w1.drew).size; exact h) (.cells #[] 30)).alloc (by have h := ((Below.refl w1.heap.size w1.drew).alloc (by have h := (Below.refl w1.heap.size w1.drew).size; exact h) (.cells #[] 30)).size; exact h) (.cells #[.int .i64 fr, .int .i64 tt, .int .i64 kd, .int .i64 vo, .int .i64 li, .int .u64 (id : Int), .int .i64 co, .bool has, .int .u64 (key : Int), .int .u32 (ck : Int), .bool gn, .slice x L c] 30)).size; exact h) ?_
    intro v6 w6 hown6 hgr6 hat6
    have HO6 := Lib.hid (show w6.ownsRow w1.heap.size 30 12 v6 ll (row mcl l) from by have h := hown6; rw [Nat.zero_add] at h; simpa using h)
    have HB6 := Lib.hid ((((Below.refl w1.heap.size w1.drew).alloc (by have h := (Below.refl w1.heap.size w1.drew).size; exact h) (.cells #[] 30)).alloc (by have h := ((Below.refl w1.heap.size w1.drew).alloc (by have h := (Below.refl w1.heap.size w1.drew).size; exact h) (.cells #[] 30)).size; exact h) (.cells #[.int .i64 fr, .int .i64 tt, .int .i64 kd, .int .i64 vo, .int .i64 li, .int .u64 (id : Int), .int .i64 co, .bool has, .int .u64 (key : Int), .int .u32 (ck : Int), .bool gn, .slice x L c] 30)).grown hgr6 (by have h := (((Below.refl w1.heap.size w1.drew).alloc (by have h := (Below.refl w1.heap.size w1.drew).size; exact h) (.cells #[] 30)).alloc (by have h := ((Below.refl w1.heap.size w1.drew).alloc (by have h := (Below.refl w1.heap.size w1.drew).size; exact h) (.cells #[] 30)).size; exact h) (.cells #[.int .i64 fr, .int .i64 tt, .int .i64 kd, .int .i64 vo, .int .i64 li, .int .u64 (id : Int), .int .i64 co, .bool has, .int .u64 (key : Int), .int .u32 (ck : Int), .bool gn, .slice x L c] 30)).size; exact h) (fun j hj => by have h := (((own_litAt14 w1.drew w1.heap.size 30 12 w1.heap.size rfl (Nat.le_refl _)).alloc (.cells #[.int .i64 fr, .int .i64 tt, .int .i64 kd, .int .i64 vo, .int .i64 li, .int .u64 (id : Int), .int .i64 co, .bool has, .int .u64 (key : Int), .int .u32 (ck : Int), .bool gn, .slice x L c] 30))).lt j hj; exact h.1))
    have S6 := HS.out _ HB6.out
    refine hK.out _ _ (S6) (fun hHeld => ?_)
    clear hK K
    try simp only [Act.put, List.getElem_toArray, List.getElem_cons_zero, List.getElem_cons_succ, List.setIfInBounds_toArray, List.set_cons_zero, List.set_cons_succ]
    refine AnyE.next (rs := [7]) (by kernel_rfl) (by simp) ?_
    refine AllE.cons rfl (fun K hK => ?_) AllE.nil
    refine step_append_X (by rfl) _ _ 35 rfl w1.heap.size 30 i0 _ 12 104 Try.underlying35 hi0 hz0 hz1 hz2 rfl (by decide) _ (row mcl l) ll rfl HO6.out _ 1 _ rfl (((IsX.litAt14 (w1.drew.alloc (.cells #[] 30)) #[.int .i64 fr, .int .i64 tt, .int .i64 kd, .int .i64 vo, .int .i64 li, .int .u64 (id : Int), .int .i64 co, .bool has, .int .u64 (key : Int), .int .u32 (ck : Int), .bool gn, .slice x L c] 30 12 1 (w1.heap.size + 1) (by simp) rfl (by decide))).kept ((Kept.refl (fun j => some w1.heap.size = some j) _).grown hgr6 (fun k hk => .inl hk)) (fun k hk hs => by have h1 : some (w1.heap.size + 1) = some k := hk.2; have h2 := Option.some.inj h1; have h3 := Option.some.inj hs; omega)) HONE1.out (by unfold maxLen; omega) (by omega) (by have h := HB6.out.size; exact h) ?_
    intro v9 w9 hown9 hgr9 hat9
    rw [HN1.out] at hown9
    obtain ⟨x9, z9, rfl, _, _⟩ := Go.Cor.ownsRow_slice hown9
    have HB9 := Lib.hid (HB6.out.grown hgr9 (by have h := HB6.out.size; exact h) (fun j hj => by have h := (HO6.out).lt j hj; exact h.1))
    have HO9 := Lib.hid (show w9.ownsRow w1.heap.size 30 12 (.slice x9 N1 z9) N1 (row mcl (l ++ [(⟨fr, tt, kd, vo, li, id, co, has, ⟨key, ck, gn, md⟩⟩, .slice x L c)])) from by rw [row_append, row_one]; exact hown9)
    have S9 := HS.out _ HB9.out
    have hR0 := HY0.out.below ((Below.refl w1.heap.size w1).drew.trans HB9.out) HY0.out.lt
    have pf := fun j => hR0.free j
    have HR0 := Lib.hid hR0
    clear hown9 hgr9 hat9 hR0
    refine hK.out _ _ (S9) (fun hHeld => ?_)
    clear hK K
    try simp only [Act.put, List.getElem_toArray, List.getElem_cons_zero, List.getElem_cons_succ, List.setIfInBounds_toArray, List.set_cons_zero, List.set_cons_succ]
    refine AnyE.next (rs := [8]) (by kernel_rfl) (by simp) ?_
    refine AllE.cons rfl (fun K hK => ?_) AllE.nil
    go_simp
    refine hK.out _ _ (S9) (fun hHeld => ?_)
    clear hK K
    try simp only [Act.put, List.getElem_toArray, List.getElem_cons_zero, List.getElem_cons_succ, List.setIfInBounds_toArray, List.set_cons_zero, List.set_cons_succ]
    refine AnyE.next (rs := [9]) (by kernel_rfl) (by simp) ?_
    refine AllE.last rfl (fun K hK => ?_)
    go_simp
    refine hK.out _ _ ?_
    clear hK K
    try simp only [Act.put, List.getElem_toArray, List.getElem_cons_zero, List.getElem_cons_succ, List.setIfInBounds_toArray, List.set_cons_zero, List.set_cons_succ]
    refine AnyE.done (by kernel_rfl) ?_ _
    have hlo : ∀ b, liesX (.slice x9 N1 z9) N1 b → w1.heap.size ≤ b := fun b hb => (HO9.out.lt b hb.2).1
    have hbq := ((Below.refl w1.heap.size w1).drew.trans HB9.out)
    have hb9 : Below w.heap.size w w9 := HBA.out.trans (hbq.mono HBA.out.size)
    have hR2 := HY2.out.below hbq HY2.out.lt
    have hR3 := HY3.out.below hbq HY3.out.lt
    have hR4 := HY4.out.below hbq HY4.out.lt
    have hS0 := HR0.out.set 0 (.slice x9 N1 z9)
    simp at hS0
    have hS2 := hR2.other (a := ⟨w.heap.size, 0, none⟩) (by show w.heap.size ≠ _; omega) (.slice x9 N1 z9)
    have hS3 := hR3.other (a := ⟨w.heap.size, 0, none⟩) (by show w.heap.size ≠ _; omega) (.slice x9 N1 z9)
    have hS4 := hR4.other (a := ⟨w.heap.size, 0, none⟩) (by show w.heap.size ≠ _; omega) (.slice x9 N1 z9)
    have hB9s := hb9.setCell (p := ⟨w.heap.size, 0, none⟩) (Nat.le_refl _) (.slice x9 N1 z9)
    have hK5 := (Kept.refl (fun j => j = w.heap.size) w9).setCell (p := ⟨w.heap.size, 0, none⟩) (.inl rfl) (.slice x9 N1 z9)
    have hsz := HY0.out.lt
    have hsz4 := HY4.out.lt
    have hI5 := (IsX.own HO9.out).kept hK5 (fun b hb e => by have := hlo b hb; omega)
    obtain ⟨w5, hw5⟩ : ∃ z, w9.setCell ⟨w.heap.size, 0, none⟩ (.slice x9 N1 z9) = z := ⟨_, rfl⟩
    rw [hw5] at hS0 hS2 hS3 hS4 hB9s hI5
    try rw [hw5]
    have HW5 := Lib.hid hw5
    have HS0 := Lib.hid hS0
    have HS2 := Lib.hid hS2
    have HS3 := Lib.hid hS3
    have HS4 := Lib.hid hS4
    have HB9s := Lib.hid hB9s
    have HI5 := Lib.hid hI5
    have HLO := Lib.hid hlo
    clear hlo hbq hb9 hR2 hR3 hR4 hS0 hS2 hS3 hS4 hB9s hK5 hI5 hw5 pf S9
    go_upto_region 9 with fail
    have HFN := fin14 HS2.out HS3.out (by omega) HB9s.out (by omega) (by omega) (.slice x9 N1 z9) (.slice xc lc cc) (.int .i64 0) (.int .i64 0) (.int .i64 0) (.int .i64 0) (.int .i64 0) (.int .u64 0) (.int .i64 0) (.bool false) (.int .u64 0) (.int .u32 0) (.bool false) (.slice none 0 0)
    obtain ⟨wf, hwf⟩ : ∃ z, set14 w5 (w.heap.size + 1 + 1) (w.heap.size + 1 + 1 + 1) (.slice x9 N1 z9) (.slice xc lc cc) (.int .i64 0) (.int .i64 0) (.int .i64 0) (.int .i64 0) (.int .i64 0) (.int .u64 0) (.int .i64 0) (.bool false) (.int .u64 0) (.int .u32 0) (.bool false) (.slice none 0 0) = z := ⟨_, rfl⟩
    rw [hwf] at HFN
    unfold set14 at hwf
    have HWF := Lib.hid hwf
    have HFN := Lib.hid HFN
    clear hwf
    have p0 := HS0.out.cell 0 rfl
    have p1 := HS0.out.cell 1 rfl
    have s0 := HS4.out.cell 0 rfl
    have s1 := HS4.out.cell 1 rfl
    have s2 := HS4.out.cell 2 rfl
    have s3 := HS4.out.cell 3 rfl
    have s4 := HS4.out.cell 4 rfl
    have s5 := HS4.out.cell 5 rfl
    have s6 := HS4.out.cell 6 rfl
    have s7 := HS4.out.cell 7 rfl
    have s8 := HS4.out.cell 8 rfl
    have s9 := HS4.out.cell 9 rfl
    have s10 := HS4.out.cell 10 rfl
    have s11 := HS4.out.cell 11 rfl
    have q0 := HS2.out.cell 0 rfl
    have q1 := HS2.out.cell 1 rfl
    have r0 := HS3.out.cell 0 rfl
    have r1 := HS3.out.cell 1 rfl
    have r2 := HS3.out.cell 2 rfl
    have r3 := HS3.out.cell 3 rfl
    have r4 := HS3.out.cell 4 rfl
    have r5 := HS3.out.cell 5 rfl
    have r6 := HS3.out.cell 6 rfl
    have r7 := HS3.out.cell 7 rfl
    have r8 := HS3.out.cell 8 rfl
    have r9 := HS3.out.cell 9 rfl
    have r10 := HS3.out.cell 10 rfl
    have r11 := HS3.out.cell 11 rfl
    have qf := fun j => HS2.out.free j
    have rf := fun j => HS3.out.free j
    go_region
    go_wp2
    rw [HWF.out]
    obtain ⟨g1, g2, g3, g4⟩ := HFN.out
    have f0 := g1.cell 0 rfl
    have f1 := g1.cell 1 rfl
    have e0 := g2.cell 0 rfl
    have e1 := g2.cell 1 rfl
    have e2 := g2.cell 2 rfl
    have e3 := g2.cell 3 rfl
    have e4 := g2.cell 4 rfl
    have e5 := g2.cell 5 rfl
    have e6 := g2.cell 6 rfl
    have e7 := g2.cell 7 rfl
    have e8 := g2.cell 8 rfl
    have e9 := g2.cell 9 rfl
    have e10 := g2.cell 10 rfl
    have e11 := g2.cell 11 rfl
    refine bodyPost_ret (v := .tuple #[.agg #[.slice x9 N1 z9, .slice xc lc cc], .agg #[.int .i64 0, .int .i64 0, .int .i64 0, .int .i64 0, .int .i64 0, .int .u64 0, .int .i64 0, .bool false, .int .u64 0, .int .u32 0, .bool false, .slice none 0 0], .int .i64 0]) (by simp [results, Try.results9, go_sem, f0, f1, e0, e1, e2, e3, e4, e5, e6, e7, e8, e9, e10, e11]) rfl ⟨x9, z9, rfl, ⟨by rw [show ((l ++ [(⟨fr, tt, kd, vo, li, id, co, has, ⟨key, ck, gn, md⟩⟩, .slice x L c)] : List (Msg × Value))).length = N1 by rw [List.length_append, HL.out]; exact HN1.out]; exact HI5.out.kept g4.drew (fun b hb e => by have := HLO.out b hb; rcases e with e | e <;> omega), fun z hz => ?_⟩, fun b hb => by have := HLO.out b hb; omega, g3.drew⟩
    rcases List.mem_append.1 hz with hz | hz
    · exact ⟨(HV.out z hz).1.mono g3.drew (Nat.le_refl _), (HV.out z hz).2⟩
    · rw [List.mem_singleton.1 hz]
      exact ⟨HVM.out.mono g3.drew (Nat.le_refl _), rfl⟩
  refine AllE.cons rfl (fun K hK => ?_) AllE.nil
  go_simp
  refine hK.out _ _ (HS.out _ ((Below.refl w1.heap.size w1.drew).alloc (by have h := (Below.refl w1.heap.size w1.drew).size; exact h) (.cells #[.int .i64 fr, .int .i64 tt, .int .i64 kd, .int .i64 vo, .int .i64 li, .int .u64 (id : Int), .int .i64 co, .bool has, .int .u64 (key : Int), .int .u32 (ck : Int), .bool gn, .slice x L c] 30))) (fun hHeld => ?_)
  clear hK K
  try simp only [Act.put, List.getElem_toArray, List.getElem_cons_zero, List.getElem_cons_succ, List.setIfInBounds_toArray, List.set_cons_zero, List.set_cons_succ]
  refine AnyE.next (rs := [0]) (by kernel_rfl) (by simp) ?_
  refine AllE.cons rfl (fun K hK => ?_) AllE.nil
  go_simp
  refine hK.out _ _ (HS.out _ (((Below.refl w1.heap.size w1.drew).alloc (by have h := (Below.refl w1.heap.size w1.drew).size; exact h) (.cells #[.int .i64 fr, .int .i64 tt, .int .i64 kd, .int .i64 vo, .int .i64 li, .int .u64 (id : Int), .int .i64 co, .bool has, .int .u64 (key : Int), .int .u32 (ck : Int), .bool gn, .slice x L c] 30)).alloc (by have h := ((Below.refl w1.heap.size w1.drew).alloc (by have h := (Below.refl w1.heap.size w1.drew).size; exact h) (.cells #[.int .i64 fr, .int .i64 tt, .int .i64 kd, .int .i64 vo, .int .i64 li, .int .u64 (id : Int), .int .i64 co, .bool has, .int .u64 (key : Int), .int .u32 (ck : Int), .bool gn, .slice x L c] 30)).size; exact h) (.cells #[] 30))) (fun hHeld => ?_)
  clear hK K
  try simp only [Act.put, List.getElem_toArray, List.getElem_cons_zero, List.getElem_cons_succ, List.setIfInBounds_toArray, List.set_cons_zero, List.set_cons_succ]
  refine AnyE.next (rs := [3]) (by kernel_rfl) (by simp) ?_
  refine AllE.cons rfl (fun K hK => ?_) AllE.nil
  refine step_append_X (by rfl) _ _ 35 rfl w1.heap.size 30 i0 _ 12 104 Try.underlying35 hi0 hz0 hz1 hz2 rfl (by decide) _ [] 0 rfl (own_litAt14 (w1.drew.alloc (.cells #[.int .i64 fr, .int .i64 tt, .int .i64 kd, .int .i64 vo, .int .i64 li, .int .u64 (id : Int), .int .i64 co, .bool has, .int .u64 (key : Int), .int .u32 (ck : Int), .bool gn, .slice x L c] 30)) w1.heap.size 30 12 (w1.heap.size + 1) (by simp) (by omega)) _ ll _ rfl (HD2.out.mono (((Below.refl w1.heap.size w1.drew).alloc (by have h := (Below.refl w1.heap.size w1.drew).size; exact h) (.cells #[.int .i64 fr, .int .i64 tt, .int .i64 kd, .int .i64 vo, .int .i64 li, .int .u64 (id : Int), .int .i64 co, .bool has, .int .u64 (key : Int), .int .u32 (ck : Int), .bool gn, .slice x L c] 30)).alloc (by have h := ((Below.refl w1.heap.size w1.drew).alloc (by have h := (Below.refl w1.heap.size w1.drew).size; exact h) (.cells #[.int .i64 fr, .int .i64 tt, .int .i64 kd, .int .i64 vo, .int .i64 li, .int .u64 (id : Int), .int .i64 co, .bool has, .int .u64 (key : Int), .int .u32 (ck : Int), .bool gn, .slice x L c] 30)).size; exact h) (.cells #[] 30)) (Nat.le_refl _)) HONE.out (by unfold maxLen; omega) (by omega) (by have h := (((Below.refl w1.heap.size w1.drew).alloc (by have h := (Below.refl w1.heap.size w1.drew).size; exact h) (.cells #[.int .i64 fr, .int .i64 tt, .int .i64 kd, .int .i64 vo, .int .i64 li, .int .u64 (id : Int), .int .i64 co, .bool has, .int .u64 (key : Int), .int .u32 (ck : Int), .bool gn, .slice x L c] 30)).alloc (by have h := ((Below.refl w1.heap.size w1.drew).alloc (by have h := (Below.refl w1.heap.size w1.drew).size; exact h) (.cells #[.int .i64 fr, .int .i64 tt, .int .i64 kd, .int .i64 vo, .int .i64 li, .int .u64 (id : Int), .int .i64 co, .bool has, .int .u64 (key : Int), .int .u32 (ck : Int), .bool gn, .slice x L c] 30)).size; exact h) (.cells #[] 30)).size; exact h) ?_
  intro v6 w6 hown6 hgr6 hat6
  have HO6 := Lib.hid (show w6.ownsRow w1.heap.size 30 12 v6 ll (row mcl l) from by have h := hown6; rw [Nat.zero_add] at h; simpa using h)
  have HB6 := Lib.hid ((((Below.refl w1.heap.size w1.drew).alloc (by have h := (Below.refl w1.heap.size w1.drew).size; exact h) (.cells #[.int .i64 fr, .int .i64 tt, .int .i64 kd, .int .i64 vo, .int .i64 li, .int .u64 (id : Int), .int .i64 co, .bool has, .int .u64 (key : Int), .int .u32 (ck : Int), .bool gn, .slice x L c] 30)).alloc (by have h := ((Below.refl w1.heap.size w1.drew).alloc (by have h := (Below.refl w1.heap.size w1.drew).size; exact h) (.cells #[.int .i64 fr, .int .i64 tt, .int .i64 kd, .int .i64 vo, .int .i64 li, .int .u64 (id : Int), .int .i64 co, .bool has, .int .u64 (key : Int), .int .u32 (ck : Int), .bool gn, .slice x L c] 30)).size; exact h) (.cells #[] 30)).grown hgr6 (by have h := (((Below.refl w1.heap.size w1.drew).alloc (by have h := (Below.refl w1.heap.size w1.drew).size; exact h) (.cells #[.int .i64 fr, .int .i64 tt, .int .i64 kd, .int .i64 vo, .int .i64 li, .int .u64 (id : Int), .int .i64 co, .bool has, .int .u64 (key : Int), .int .u32 (ck : Int), .bool gn, .slice x L c] 30)).alloc (by have h := ((Below.refl w1.heap.size w1.drew).alloc (by have h := (Below.refl w1.heap.size w1.drew).size; exact h) (.cells #[.int .i64 fr, .int .i64 tt, .int .i64 kd, .int .i64 vo, .int .i64 li, .int .u64 (id : Int), .int .i64 co, .bool has, .int .u64 (key : Int), .int .u32 (ck : Int), .bool gn, .slice x L c] 30)).size; exact h) (.cells #[] 30)).size; exact h) (fun j hj => by have h := ((own_litAt14 (w1.drew.alloc (.cells #[.int .i64 fr, .int .i64 tt, .int .i64 kd, .int .i64 vo, .int .i64 li, .int .u64 (id : Int), .int .i64 co, .bool has, .int .u64 (key : Int), .int .u32 (ck : Int), .bool gn, .slice x L c] 30)) w1.heap.size 30 12 (w1.heap.size + 1) (by simp) (by omega))).lt j hj; exact h.1))
  have S6 := HS.out _ HB6.out
  refine hK.out _ _ (S6) (fun hHeld => ?_)
  clear hK K
  try simp only [Act.put, List.getElem_toArray, List.getElem_cons_zero, List.getElem_cons_succ, List.setIfInBounds_toArray, List.set_cons_zero, List.set_cons_succ]
  refine AnyE.next (rs := [7]) (by kernel_rfl) (by simp) ?_
  refine AllE.cons rfl (fun K hK => ?_) AllE.nil
  refine step_append_X (by rfl) _ _ 35 rfl w1.heap.size 30 i0 _ 12 104 Try.underlying35 hi0 hz0 hz1 hz2 rfl (by decide) _ (row mcl l) ll rfl HO6.out _ 1 _ rfl ((((IsX.litAt14 w1.drew #[.int .i64 fr, .int .i64 tt, .int .i64 kd, .int .i64 vo, .int .i64 li, .int .u64 (id : Int), .int .i64 co, .bool has, .int .u64 (key : Int), .int .u32 (ck : Int), .bool gn, .slice x L c] 30 12 1 w1.heap.size rfl rfl (by decide))).mono (bel_alloc15 _ (.cells #[] 30)) (Nat.le_refl _)).kept ((Kept.refl (fun j => some (w1.heap.size + 1) = some j) _).grown hgr6 (fun k hk => .inl hk)) (fun k hk hs => by have h1 : some w1.heap.size = some k := hk.2; have h2 := Option.some.inj h1; have h3 := Option.some.inj hs; omega)) HONE1.out (by unfold maxLen; omega) (by omega) (by have h := HB6.out.size; exact h) ?_
  intro v9 w9 hown9 hgr9 hat9
  rw [HN1.out] at hown9
  obtain ⟨x9, z9, rfl, _, _⟩ := Go.Cor.ownsRow_slice hown9
  have HB9 := Lib.hid (HB6.out.grown hgr9 (by have h := HB6.out.size; exact h) (fun j hj => by have h := (HO6.out).lt j hj; exact h.1))
  have HO9 := Lib.hid (show w9.ownsRow w1.heap.size 30 12 (.slice x9 N1 z9) N1 (row mcl (l ++ [(⟨fr, tt, kd, vo, li, id, co, has, ⟨key, ck, gn, md⟩⟩, .slice x L c)])) from by rw [row_append, row_one]; exact hown9)
  have S9 := HS.out _ HB9.out
  have hR0 := HY0.out.below ((Below.refl w1.heap.size w1).drew.trans HB9.out) HY0.out.lt
  have pf := fun j => hR0.free j
  have HR0 := Lib.hid hR0
  clear hown9 hgr9 hat9 hR0
  refine hK.out _ _ (S9) (fun hHeld => ?_)
  clear hK K
  try simp only [Act.put, List.getElem_toArray, List.getElem_cons_zero, List.getElem_cons_succ, List.setIfInBounds_toArray, List.set_cons_zero, List.set_cons_succ]
  refine AnyE.next (rs := [8]) (by kernel_rfl) (by simp) ?_
  refine AllE.cons rfl (fun K hK => ?_) AllE.nil
  go_simp
  refine hK.out _ _ (S9) (fun hHeld => ?_)
  clear hK K
  try simp only [Act.put, List.getElem_toArray, List.getElem_cons_zero, List.getElem_cons_succ, List.setIfInBounds_toArray, List.set_cons_zero, List.set_cons_succ]
  refine AnyE.next (rs := [9]) (by kernel_rfl) (by simp) ?_
  refine AllE.last rfl (fun K hK => ?_)
  go_simp
  refine hK.out _ _ ?_
  clear hK K
  try simp only [Act.put, List.getElem_toArray, List.getElem_cons_zero, List.getElem_cons_succ, List.setIfInBounds_toArray, List.set_cons_zero, List.set_cons_succ]
  refine AnyE.done (by kernel_rfl) ?_ _
  have hlo : ∀ b, liesX (.slice x9 N1 z9) N1 b → w1.heap.size ≤ b := fun b hb => (HO9.out.lt b hb.2).1
  have hbq := ((Below.refl w1.heap.size w1).drew.trans HB9.out)
  have hb9 : Below w.heap.size w w9 := HBA.out.trans (hbq.mono HBA.out.size)
  have hR2 := HY2.out.below hbq HY2.out.lt
  have hR3 := HY3.out.below hbq HY3.out.lt
  have hR4 := HY4.out.below hbq HY4.out.lt
  have hS0 := HR0.out.set 0 (.slice x9 N1 z9)
  simp at hS0
  have hS2 := hR2.other (a := ⟨w.heap.size, 0, none⟩) (by show w.heap.size ≠ _; omega) (.slice x9 N1 z9)
  have hS3 := hR3.other (a := ⟨w.heap.size, 0, none⟩) (by show w.heap.size ≠ _; omega) (.slice x9 N1 z9)
  have hS4 := hR4.other (a := ⟨w.heap.size, 0, none⟩) (by show w.heap.size ≠ _; omega) (.slice x9 N1 z9)
  have hB9s := hb9.setCell (p := ⟨w.heap.size, 0, none⟩) (Nat.le_refl _) (.slice x9 N1 z9)
  have hK5 := (Kept.refl (fun j => j = w.heap.size) w9).setCell (p := ⟨w.heap.size, 0, none⟩) (.inl rfl) (.slice x9 N1 z9)
  have hsz := HY0.out.lt
  have hsz4 := HY4.out.lt
  have hI5 := (IsX.own HO9.out).kept hK5 (fun b hb e => by have := hlo b hb; omega)
  obtain ⟨w5, hw5⟩ : ∃ z, w9.setCell ⟨w.heap.size, 0, none⟩ (.slice x9 N1 z9) = z := ⟨_, rfl⟩
  rw [hw5] at hS0 hS2 hS3 hS4 hB9s hI5
  try rw [hw5]
  have HW5 := Lib.hid hw5
  have HS0 := Lib.hid hS0
  have HS2 := Lib.hid hS2
  have HS3 := Lib.hid hS3
  have HS4 := Lib.hid hS4
  have HB9s := Lib.hid hB9s
  have HI5 := Lib.hid hI5
  have HLO := Lib.hid hlo
  clear hlo hbq hb9 hR2 hR3 hR4 hS0 hS2 hS3 hS4 hB9s hK5 hI5 hw5 pf S9
  go_upto_region 9 with fail
  have HFN := fin14 HS2.out HS3.out (by omega) HB9s.out (by omega) (by omega) (.slice x9 N1 z9) (.slice xc lc cc) (.int .i64 0) (.int .i64 0) (.int .i64 0) (.int .i64 0) (.int .i64 0) (.int .u64 0) (.int .i64 0) (.bool false) (.int .u64 0) (.int .u32 0) (.bool false) (.slice none 0 0)
  obtain ⟨wf, hwf⟩ : ∃ z, set14 w5 (w.heap.size + 1 + 1) (w.heap.size + 1 + 1 + 1) (.slice x9 N1 z9) (.slice xc lc cc) (.int .i64 0) (.int .i64 0) (.int .i64 0) (.int .i64 0) (.int .i64 0) (.int .u64 0) (.int .i64 0) (.bool false) (.int .u64 0) (.int .u32 0) (.bool false) (.slice none 0 0) = z := ⟨_, rfl⟩
  rw [hwf] at HFN
  unfold set14 at hwf
  have HWF := Lib.hid hwf
  have HFN := Lib.hid HFN
  clear hwf
  have p0 := HS0.out.cell 0 rfl
  have p1 := HS0.out.cell 1 rfl
  have s0 := HS4.out.cell 0 rfl
  have s1 := HS4.out.cell 1 rfl
  have s2 := HS4.out.cell 2 rfl
  have s3 := HS4.out.cell 3 rfl
  have s4 := HS4.out.cell 4 rfl
  have s5 := HS4.out.cell 5 rfl
  have s6 := HS4.out.cell 6 rfl
  have s7 := HS4.out.cell 7 rfl
  have s8 := HS4.out.cell 8 rfl
  have s9 := HS4.out.cell 9 rfl
  have s10 := HS4.out.cell 10 rfl
  have s11 := HS4.out.cell 11 rfl
  have q0 := HS2.out.cell 0 rfl
  have q1 := HS2.out.cell 1 rfl
  have r0 := HS3.out.cell 0 rfl
  have r1 := HS3.out.cell 1 rfl
  have r2 := HS3.out.cell 2 rfl
  have r3 := HS3.out.cell 3 rfl
  have r4 := HS3.out.cell 4 rfl
  have r5 := HS3.out.cell 5 rfl
  have r6 := HS3.out.cell 6 rfl
  have r7 := HS3.out.cell 7 rfl
  have r8 := HS3.out.cell 8 rfl
  have r9 := HS3.out.cell 9 rfl
  have r10 := HS3.out.cell 10 rfl
  have r11 := HS3.out.cell 11 rfl
  have qf := fun j => HS2.out.free j
  have rf := fun j => HS3.out.free j
  go_region
  go_wp2
  rw [HWF.out]
  obtain ⟨g1, g2, g3, g4⟩ := HFN.out
  have f0 := g1.cell 0 rfl
  have f1 := g1.cell 1 rfl
  have e0 := g2.cell 0 rfl
  have e1 := g2.cell 1 rfl
  have e2 := g2.cell 2 rfl
  have e3 := g2.cell 3 rfl
  have e4 := g2.cell 4 rfl
  have e5 := g2.cell 5 rfl
  have e6 := g2.cell 6 rfl
  have e7 := g2.cell 7 rfl
  have e8 := g2.cell 8 rfl
  have e9 := g2.cell 9 rfl
  have e10 := g2.cell 10 rfl
  have e11 := g2.cell 11 rfl
  refine bodyPost_ret (v := .tuple #[.agg #[.slice x9 N1 z9, .slice xc lc cc], .agg #[.int .i64 0, .int .i64 0, .int .i64 0, .int .i64 0, .int .i64 0, .int .u64 0, .int .i64 0, .bool false, .int .u64 0, .int .u32 0, .bool false, .slice none 0 0], .int .i64 0]) (by simp [results, Try.results9, go_sem, f0, f1, e0, e1, e2, e3, e4, e5, e6, e7, e8, e9, e10, e11]) rfl ⟨x9, z9, rfl, ⟨by rw [show ((l ++ [(⟨fr, tt, kd, vo, li, id, co, has, ⟨key, ck, gn, md⟩⟩, .slice x L c)] : List (Msg × Value))).length = N1 by rw [List.length_append, HL.out]; exact HN1.out]; exact HI5.out.kept g4.drew (fun b hb e => by have := HLO.out b hb; rcases e with e | e <;> omega), fun z hz => ?_⟩, fun b hb => by have := HLO.out b hb; omega, g3.drew⟩
  rcases List.mem_append.1 hz with hz | hz
  · exact ⟨(HV.out z hz).1.mono g3.drew (Nat.le_refl _), (HV.out z hz).2⟩
  · rw [List.mem_singleton.1 hz]
    exact ⟨HVM.out.mono g3.drew (Nat.le_refl _), rfl⟩

end Go.Proofs.Ytofhbnnheadmlaa
