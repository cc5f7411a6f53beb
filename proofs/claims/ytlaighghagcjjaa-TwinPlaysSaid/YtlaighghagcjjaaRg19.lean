/- The document's own answer for layer 19: Do of a volume, done. -/
import Derived.Test.YtlaighghagcjjaaRf19
import Derived.Test.YtlaighghagcjjaaRs19
namespace Go.Proofs.Ytlaighghagcjjaa
open Go.RowKit Go.Cor
set_option linter.unusedVariables false
set_option linter.unusedSimpArgs false

set_option maxRecDepth 100000 in
set_option maxHeartbeats 4000000 in
theorem rd_seal (v : Value) (n i : Nat) (L : List En) (ce ca cn a b d : Int) (ev ep ea eb ec M m : Nat) (w : World) (hv : IsX w 6 v n (row ecl L)) (hn : n ≤ 4096) (hi : i < n) (he : L[i]? = some ⟨ev, ep, ea, eb, ec, false⟩) (hM : ep + 1 = M) (hMb : M ≤ 1000000) :
    Calls Try.prog 25 #[v, .agg #[.int .i64 2, .int .i64 ((i : Int) + 1), .int .i64 (ep : Int), .int .i64 ca, .int .i64 cn, .int .i64 a, .int .i64 b, .int .i64 d]] w fun e w' => ∃ v', e = .returned (.tuple #[v', .int .i64 (M : Int), .int .i64 0]) ∧ IsX w' 6 v' n (row ecl (L.set i ⟨ev, M, ea, eb, ec, true⟩)) ∧ (∀ k, v'.ownBlock = some k → w.heap.size ≤ k) ∧ Below w.heap.size w w' := by
  have hlen := fun W => len_X (P := Try.prog) hv 58 3 86 Try.underlying58 W
  obtain ⟨i0, hi0, hz0, hz1, hz2⟩ := info_parts Try.infoEnR19
  have HI0 := Lib.hid hi0
  have HZ0 := Lib.hid hz0
  have HZ1 := Lib.hid hz1
  have HZ2 := Lib.hid hz2
  have HV := Lib.hid hv
  have HI := Lib.hid hi
  have HE := Lib.hid he
  have c1 : ¬ ((i : Int) + 1 < 1) := by omega
  have c2 : ¬ ((i : Int) + 1 > (n : Int)) := by omega
  have hme : (ep : Int) + 1 = (M : Int) := by omega
  have hwm : IntKind.i64.wrap (M : Int) = (M : Int) := IntWalk.i64_in _ (by omega)
  clear hv he hi hM hi0 hz0 hz1 hz2
  have hY := Blk.new w #[.int .i64 2, .int .i64 ((i : Int) + 1), .int .i64 (ep : Int), .int .i64 ca, .int .i64 cn, .int .i64 a, .int .i64 b, .int .i64 d] 33
  have hB := below_newR w (.cells #[.int .i64 2, .int .i64 ((i : Int) + 1), .int .i64 (ep : Int), .int .i64 ca, .int .i64 cn, .int .i64 a, .int .i64 b, .int .i64 d] 33)
  obtain ⟨W0, hW0⟩ : ∃ z, w.alloc (.cells #[.int .i64 2, .int .i64 ((i : Int) + 1), .int .i64 (ep : Int), .int .i64 ca, .int .i64 cn, .int .i64 a, .int .i64 b, .int .i64 d] 33) = z := ⟨_, rfl⟩
  rw [hW0] at hY hB
  obtain ⟨Y, hYe⟩ : ∃ z, w.heap.size = z := ⟨_, rfl⟩
  rw [hYe] at hY
  have HW0 := Lib.hid hW0
  have HYe := Lib.hid hYe
  have HY := Lib.hid hY
  have HB := Lib.hid hB
  have y0 := HY.out.cell 0 rfl
  have y1 := HY.out.cell 1 rfl
  have y2 := HY.out.cell 2 rfl
  have y3 := HY.out.cell 3 rfl
  have y4 := HY.out.cell 4 rfl
  have y5 := HY.out.cell 5 rfl
  have y6 := HY.out.cell 6 rfl
  have y7 := HY.out.cell 7 rfl
  clear hW0 hYe hY hB
  go_enter Try.func25, Try.ntmps25
  go_wp2_with fail
  rw [HW0.out]
  try rw [HYe.out]
  go_region
  have hX := HV.out.mono HB.out.drew (Nat.le_refl _)
  obtain ⟨bb, oo, hidx, _, hcell⟩ := indexAt_X (P := Try.prog) hX 58 86 Try.underlying58 Try.sizeEnR19 i HI.out
  have hce := fun q (hq : q < 6) => (hcell q hq).trans (row_get ecl_len HE.out q hq)
  have p0 : W0.drew.cell? ⟨bb, oo, none⟩ = some (.int .i64 (ev : Int)) := hce 0 (by decide)
  have p1 : W0.drew.cell? ⟨bb, oo + 1, none⟩ = some (.int .i64 (ep : Int)) := hce 1 (by decide)
  have p2 : W0.drew.cell? ⟨bb, oo + 2, none⟩ = some (.int .i64 (ea : Int)) := hce 2 (by decide)
  have p3 : W0.drew.cell? ⟨bb, oo + 3, none⟩ = some (.int .i64 (eb : Int)) := hce 3 (by decide)
  have p4 : W0.drew.cell? ⟨bb, oo + 4, none⟩ = some (.int .i64 (ec : Int)) := hce 4 (by decide)
  have p5 : W0.drew.cell? ⟨bb, oo + 5, none⟩ = some (.bool false) := hce 5 (by decide)
  have hZ := Blk.new W0.drew #[.int .i64 (ev : Int), .int .i64 (ep : Int), .int .i64 (ea : Int), .int .i64 (eb : Int), .int .i64 (ec : Int), .bool false] 86
  have hB := (HB.out.drew).trans ((below_newR W0.drew (.cells #[.int .i64 (ev : Int), .int .i64 (ep : Int), .int .i64 (ea : Int), .int .i64 (eb : Int), .int .i64 (ec : Int), .bool false] 86)).mono HB.out.drew.size)
  have hYl := HY.out.drew.lt
  have hY1 := HY.out.drew.alloc (.cells #[.int .i64 (ev : Int), .int .i64 (ep : Int), .int .i64 (ea : Int), .int .i64 (eb : Int), .int .i64 (ec : Int), .bool false] 86)
  have hY2 := HY.out.drew
  obtain ⟨w2, hw2⟩ : ∃ z, W0.drew = z := ⟨_, rfl⟩
  rw [hw2] at p0 p1 p2 p3 p4 p5 hZ hB hYl hY1 hY2
  rw [hw2]
  obtain ⟨W1, hW1⟩ : ∃ z, w2.alloc (.cells #[.int .i64 (ev : Int), .int .i64 (ep : Int), .int .i64 (ea : Int), .int .i64 (eb : Int), .int .i64 (ec : Int), .bool false] 86) = z := ⟨_, rfl⟩
  rw [hW1] at hZ hB hY1
  obtain ⟨Z, hZe⟩ : ∃ z, w2.heap.size = z := ⟨_, rfl⟩
  rw [hZe] at hZ hYl
  have HW1 := Lib.hid hW1
  have HZe := Lib.hid hZe
  have HZ := Lib.hid hZ
  have HB1 := Lib.hid hB
  have HY1 := Lib.hid hY1
  have HYZ := Lib.hid (show Y ≠ Z from by omega)
  have HZB := Lib.hid (show w.heap.size ≤ Z from by rw [← hZe, ← hw2]; exact HB.out.drew.size)
  clear y0 y1 y2 y3 y4 y5 y6 y7
  have y0 := hY2.cell 0 rfl
  have y1 := hY2.cell 1 rfl
  have y2 := hY2.cell 2 rfl
  have HW2 := Lib.hid hw2
  clear hX hcell hce hZ hB hW1 hZe hYl hY1 hY2 hw2
  go_upto_region 13 with fail
  rw [HW1.out]
  try rw [HZe.out]
  clear p0 p1 p2 p3 p4 p5 hidx y0 y1 y2
  have y0 := HY1.out.cell 0 rfl
  have y1 := HY1.out.cell 1 rfl
  have y2 := HY1.out.cell 2 rfl
  have y3 := HY1.out.cell 3 rfl
  have y4 := HY1.out.cell 4 rfl
  have z0 := HZ.out.cell 0 rfl
  have z1 := HZ.out.cell 1 rfl
  have z2 := HZ.out.cell 2 rfl
  have z3 := HZ.out.cell 3 rfl
  have z4 := HZ.out.cell 4 rfl
  have z5 := HZ.out.cell 5 rfl
  have hyz : Y ≠ Z := HYZ.out
  have zf := fun j => HZ.out.free j
  have hZ3 := ((HZ.out.set 5 (.bool true)).set 1 (.int .i64 (M : Int)))
  have hY3 := ((HY1.out.other (a := ⟨Z, 5, none⟩) (fun e => HYZ.out e.symm) (.bool true)).other (a := ⟨Z, 1, none⟩) (fun e => HYZ.out e.symm) (.int .i64 (M : Int)))
  have hB3 := ((HB1.out.setCell (p := ⟨Z, 5, none⟩) HZB.out (.bool true)).setCell (p := ⟨Z, 1, none⟩) HZB.out (.int .i64 (M : Int)))
  obtain ⟨W3, hW3⟩ : ∃ z, ((W1.setCell ⟨Z, 5, none⟩ (.bool true)).setCell ⟨Z, 1, none⟩ (.int .i64 (M : Int))) = z := ⟨_, rfl⟩
  rw [hW3] at hZ3 hY3 hB3
  have HZ3 := Lib.hid (show Blk W3 Z #[.int .i64 (ev : Int), .int .i64 (M : Int), .int .i64 (ea : Int), .int .i64 (eb : Int), .int .i64 (ec : Int), .bool true] 86 from by simpa using hZ3)
  have HY3 := Lib.hid hY3
  have HB3 := Lib.hid hB3
  have HW3 := Lib.hid hW3
  have HX3 := Lib.hid (HV.out.mono hB3 (Nat.le_refl _))
  clear hZ3 hY3 hB3 hW3
  go_upto_region 27 with fail
  rw [HW3.out]
  clear y0 y1 y2 y3 y4 z0 z1 z2 z3 z4 z5 zf hyz
  go_wp2_with (at_builtin; refine wpList_append_X (by rfl) _ _ 58 58 rfl (fun _ _ _ => rfl) W3.heap.size 86 i0 _ 6 48 Try.underlying58 HI0.out HZ0.out HZ1.out HZ2.out rfl (by decide) _ [] 0 rfl (World.ownsRow_lit _ #[] 0 (Nat.le_refl _) (Nat.zero_le _) rfl) v n _ rfl (HX3.out.mono (below_newR W3 _) (Nat.le_refl _)) (row_mem fun x _ => ecl_one x) (by unfold maxLen; omega) (by omega) (by simp) ?_)
  intro v4 w4 hown4 hgr4 hl4
  have ho4 : w4.ownsRow W3.heap.size 86 6 v4 n (row ecl L) := by simpa using hown4
  have HZ4 := Lib.hid ((HZ3.out.alloc (.cells #[] 86)).grown hgr4 (fun e => by have h1 := HZ3.out.lt; have h2 : W3.heap.size = Z := Option.some.inj e; omega))
  have HY4 := Lib.hid ((HY3.out.alloc (.cells #[] 86)).grown hgr4 (fun e => by have h1 := HY3.out.lt; have h2 : W3.heap.size = Y := Option.some.inj e; omega))
  have HB4 := Lib.hid ((HB3.out.alloc HB3.out.size (.cells #[] 86)).grown hgr4 (by have h1 := HB3.out.size; simp; omega) (fun k e => by have h1 := HB3.out.size; have h2 : W3.heap.size = k := Option.some.inj e; omega))
  have HGE := Lib.hid (show ∀ g, v4.ownBlock = some g → W3.heap.size ≤ g from fun g e => (ho4.lt g e).1)
  have HO4 := Lib.hid ho4
  clear hown4 hgr4 hl4 ho4
  obtain ⟨g, hvg, hidx, hcell, hfz, _⟩ := indexAt_own (P := Try.prog) HO4.out 58 86 Try.underlying58 Try.sizeEnR19 i HI.out
  have HVG := Lib.hid hvg
  have HGG := Lib.hid (show W3.heap.size ≤ g from HGE.out g hvg)
  have HCE := Lib.hid hcell
  have HFZ := Lib.hid hfz
  have y1 := HY4.out.cell 1 rfl
  have z0 := HZ4.out.cell 0 rfl
  have z1 := HZ4.out.cell 1 rfl
  have z2 := HZ4.out.cell 2 rfl
  have z3 := HZ4.out.cell 3 rfl
  have z4 := HZ4.out.cell 4 rfl
  have z5 := HZ4.out.cell 5 rfl
  clear hvg hcell hfz
  go_wp2_with (refine wpList_storeEn rfl 86 Try.sizeEnR19 (.tmp 183) (.tmp 182) rfl HO4.out g i HVG.out HE.out HCE.out HFZ.out _ _ _ _ _ _ rfl rfl ?_)
  intro w5 ho5 hk5
  have HO5 := Lib.hid ho5
  have HZ5 := Lib.hid (HZ4.out.kept hk5 (fun e => by have h1 := HZ3.out.lt; have h2 := HGG.out; omega))
  have HB5 := Lib.hid (HB4.out.trans (hk5.below HB4.out.size (fun k hk e => by have h1 := HB3.out.size; have h2 := HGG.out; omega)))
  clear ho5 hk5 hidx y1 z0 z1 z2 z3 z4 z5
  have z1 := HZ5.out.cell 1 rfl
  go_wp2_with fail
  go_region
  go_wp2
  go_ret3
  exact ⟨v4, rfl, (IsX.own HO5.out).kept (S := fun _ => False) ⟨rfl, rfl, rfl, Nat.le_refl _, fun _ _ _ => rfl⟩ (fun _ _ h => h), (fun k e => Nat.le_trans HB3.out.size (HO5.out.lt k e).1), HB5.out.drew⟩
set_option maxRecDepth 100000 in
set_option maxHeartbeats 4000000 in
theorem rd_unseal (v : Value) (n i : Nat) (L : List En) (ce ca cn a b d : Int) (ev ep ea eb ec M m : Nat) (w : World) (hv : IsX w 6 v n (row ecl L)) (hn : n ≤ 4096) (hi : i < n) (he : L[i]? = some ⟨ev, ep, ea, eb, ec, true⟩) (hM : ep + 1 = M) (hMb : M ≤ 1000000) :
    Calls Try.prog 25 #[v, .agg #[.int .i64 3, .int .i64 ((i : Int) + 1), .int .i64 (ep : Int), .int .i64 ca, .int .i64 cn, .int .i64 a, .int .i64 b, .int .i64 d]] w fun e w' => ∃ v', e = .returned (.tuple #[v', .int .i64 (M : Int), .int .i64 0]) ∧ IsX w' 6 v' n (row ecl (L.set i ⟨ev, M, ea, eb, ec, false⟩)) ∧ (∀ k, v'.ownBlock = some k → w.heap.size ≤ k) ∧ Below w.heap.size w w' := by
  have hlen := fun W => len_X (P := Try.prog) hv 58 3 86 Try.underlying58 W
  obtain ⟨i0, hi0, hz0, hz1, hz2⟩ := info_parts Try.infoEnR19
  have HI0 := Lib.hid hi0
  have HZ0 := Lib.hid hz0
  have HZ1 := Lib.hid hz1
  have HZ2 := Lib.hid hz2
  have HV := Lib.hid hv
  have HI := Lib.hid hi
  have HE := Lib.hid he
  have c1 : ¬ ((i : Int) + 1 < 1) := by omega
  have c2 : ¬ ((i : Int) + 1 > (n : Int)) := by omega
  have hme : (ep : Int) + 1 = (M : Int) := by omega
  have hwm : IntKind.i64.wrap (M : Int) = (M : Int) := IntWalk.i64_in _ (by omega)
  clear hv he hi hM hi0 hz0 hz1 hz2
  have hY := Blk.new w #[.int .i64 3, .int .i64 ((i : Int) + 1), .int .i64 (ep : Int), .int .i64 ca, .int .i64 cn, .int .i64 a, .int .i64 b, .int .i64 d] 33
  have hB := below_newR w (.cells #[.int .i64 3, .int .i64 ((i : Int) + 1), .int .i64 (ep : Int), .int .i64 ca, .int .i64 cn, .int .i64 a, .int .i64 b, .int .i64 d] 33)
  obtain ⟨W0, hW0⟩ : ∃ z, w.alloc (.cells #[.int .i64 3, .int .i64 ((i : Int) + 1), .int .i64 (ep : Int), .int .i64 ca, .int .i64 cn, .int .i64 a, .int .i64 b, .int .i64 d] 33) = z := ⟨_, rfl⟩
  rw [hW0] at hY hB
  obtain ⟨Y, hYe⟩ : ∃ z, w.heap.size = z := ⟨_, rfl⟩
  rw [hYe] at hY
  have HW0 := Lib.hid hW0
  have HYe := Lib.hid hYe
  have HY := Lib.hid hY
  have HB := Lib.hid hB
  have y0 := HY.out.cell 0 rfl
  have y1 := HY.out.cell 1 rfl
  have y2 := HY.out.cell 2 rfl
  have y3 := HY.out.cell 3 rfl
  have y4 := HY.out.cell 4 rfl
  have y5 := HY.out.cell 5 rfl
  have y6 := HY.out.cell 6 rfl
  have y7 := HY.out.cell 7 rfl
  clear hW0 hYe hY hB
  go_enter Try.func25, Try.ntmps25
  go_wp2_with fail
  rw [HW0.out]
  try rw [HYe.out]
  go_region
  have hX := HV.out.mono HB.out.drew (Nat.le_refl _)
  obtain ⟨bb, oo, hidx, _, hcell⟩ := indexAt_X (P := Try.prog) hX 58 86 Try.underlying58 Try.sizeEnR19 i HI.out
  have hce := fun q (hq : q < 6) => (hcell q hq).trans (row_get ecl_len HE.out q hq)
  have p0 : W0.drew.cell? ⟨bb, oo, none⟩ = some (.int .i64 (ev : Int)) := hce 0 (by decide)
  have p1 : W0.drew.cell? ⟨bb, oo + 1, none⟩ = some (.int .i64 (ep : Int)) := hce 1 (by decide)
  have p2 : W0.drew.cell? ⟨bb, oo + 2, none⟩ = some (.int .i64 (ea : Int)) := hce 2 (by decide)
  have p3 : W0.drew.cell? ⟨bb, oo + 3, none⟩ = some (.int .i64 (eb : Int)) := hce 3 (by decide)
  have p4 : W0.drew.cell? ⟨bb, oo + 4, none⟩ = some (.int .i64 (ec : Int)) := hce 4 (by decide)
  have p5 : W0.drew.cell? ⟨bb, oo + 5, none⟩ = some (.bool true) := hce 5 (by decide)
  have hZ := Blk.new W0.drew #[.int .i64 (ev : Int), .int .i64 (ep : Int), .int .i64 (ea : Int), .int .i64 (eb : Int), .int .i64 (ec : Int), .bool true] 86
  have hB := (HB.out.drew).trans ((below_newR W0.drew (.cells #[.int .i64 (ev : Int), .int .i64 (ep : Int), .int .i64 (ea : Int), .int .i64 (eb : Int), .int .i64 (ec : Int), .bool true] 86)).mono HB.out.drew.size)
  have hYl := HY.out.drew.lt
  have hY1 := HY.out.drew.alloc (.cells #[.int .i64 (ev : Int), .int .i64 (ep : Int), .int .i64 (ea : Int), .int .i64 (eb : Int), .int .i64 (ec : Int), .bool true] 86)
  have hY2 := HY.out.drew
  obtain ⟨w2, hw2⟩ : ∃ z, W0.drew = z := ⟨_, rfl⟩
  rw [hw2] at p0 p1 p2 p3 p4 p5 hZ hB hYl hY1 hY2
  rw [hw2]
  obtain ⟨W1, hW1⟩ : ∃ z, w2.alloc (.cells #[.int .i64 (ev : Int), .int .i64 (ep : Int), .int .i64 (ea : Int), .int .i64 (eb : Int), .int .i64 (ec : Int), .bool true] 86) = z := ⟨_, rfl⟩
  rw [hW1] at hZ hB hY1
  obtain ⟨Z, hZe⟩ : ∃ z, w2.heap.size = z := ⟨_, rfl⟩
  rw [hZe] at hZ hYl
  have HW1 := Lib.hid hW1
  have HZe := Lib.hid hZe
  have HZ := Lib.hid hZ
  have HB1 := Lib.hid hB
  have HY1 := Lib.hid hY1
  have HYZ := Lib.hid (show Y ≠ Z from by omega)
  have HZB := Lib.hid (show w.heap.size ≤ Z from by rw [← hZe, ← hw2]; exact HB.out.drew.size)
  clear y0 y1 y2 y3 y4 y5 y6 y7
  have y0 := hY2.cell 0 rfl
  have y1 := hY2.cell 1 rfl
  have y2 := hY2.cell 2 rfl
  have HW2 := Lib.hid hw2
  clear hX hcell hce hZ hB hW1 hZe hYl hY1 hY2 hw2
  go_upto_region 13 with fail
  rw [HW1.out]
  try rw [HZe.out]
  clear p0 p1 p2 p3 p4 p5 hidx y0 y1 y2
  have y0 := HY1.out.cell 0 rfl
  have y1 := HY1.out.cell 1 rfl
  have y2 := HY1.out.cell 2 rfl
  have y3 := HY1.out.cell 3 rfl
  have y4 := HY1.out.cell 4 rfl
  have z0 := HZ.out.cell 0 rfl
  have z1 := HZ.out.cell 1 rfl
  have z2 := HZ.out.cell 2 rfl
  have z3 := HZ.out.cell 3 rfl
  have z4 := HZ.out.cell 4 rfl
  have z5 := HZ.out.cell 5 rfl
  have hyz : Y ≠ Z := HYZ.out
  have zf := fun j => HZ.out.free j
  have hZ3 := ((HZ.out.set 5 (.bool false)).set 1 (.int .i64 (M : Int)))
  have hY3 := ((HY1.out.other (a := ⟨Z, 5, none⟩) (fun e => HYZ.out e.symm) (.bool false)).other (a := ⟨Z, 1, none⟩) (fun e => HYZ.out e.symm) (.int .i64 (M : Int)))
  have hB3 := ((HB1.out.setCell (p := ⟨Z, 5, none⟩) HZB.out (.bool false)).setCell (p := ⟨Z, 1, none⟩) HZB.out (.int .i64 (M : Int)))
  obtain ⟨W3, hW3⟩ : ∃ z, ((W1.setCell ⟨Z, 5, none⟩ (.bool false)).setCell ⟨Z, 1, none⟩ (.int .i64 (M : Int))) = z := ⟨_, rfl⟩
  rw [hW3] at hZ3 hY3 hB3
  have HZ3 := Lib.hid (show Blk W3 Z #[.int .i64 (ev : Int), .int .i64 (M : Int), .int .i64 (ea : Int), .int .i64 (eb : Int), .int .i64 (ec : Int), .bool false] 86 from by simpa using hZ3)
  have HY3 := Lib.hid hY3
  have HB3 := Lib.hid hB3
  have HW3 := Lib.hid hW3
  have HX3 := Lib.hid (HV.out.mono hB3 (Nat.le_refl _))
  clear hZ3 hY3 hB3 hW3
  go_upto_region 27 with fail
  rw [HW3.out]
  clear y0 y1 y2 y3 y4 z0 z1 z2 z3 z4 z5 zf hyz
  go_wp2_with (at_builtin; refine wpList_append_X (by rfl) _ _ 58 58 rfl (fun _ _ _ => rfl) W3.heap.size 86 i0 _ 6 48 Try.underlying58 HI0.out HZ0.out HZ1.out HZ2.out rfl (by decide) _ [] 0 rfl (World.ownsRow_lit _ #[] 0 (Nat.le_refl _) (Nat.zero_le _) rfl) v n _ rfl (HX3.out.mono (below_newR W3 _) (Nat.le_refl _)) (row_mem fun x _ => ecl_one x) (by unfold maxLen; omega) (by omega) (by simp) ?_)
  intro v4 w4 hown4 hgr4 hl4
  have ho4 : w4.ownsRow W3.heap.size 86 6 v4 n (row ecl L) := by simpa using hown4
  have HZ4 := Lib.hid ((HZ3.out.alloc (.cells #[] 86)).grown hgr4 (fun e => by have h1 := HZ3.out.lt; have h2 : W3.heap.size = Z := Option.some.inj e; omega))
  have HY4 := Lib.hid ((HY3.out.alloc (.cells #[] 86)).grown hgr4 (fun e => by have h1 := HY3.out.lt; have h2 : W3.heap.size = Y := Option.some.inj e; omega))
  have HB4 := Lib.hid ((HB3.out.alloc HB3.out.size (.cells #[] 86)).grown hgr4 (by have h1 := HB3.out.size; simp; omega) (fun k e => by have h1 := HB3.out.size; have h2 : W3.heap.size = k := Option.some.inj e; omega))
  have HGE := Lib.hid (show ∀ g, v4.ownBlock = some g → W3.heap.size ≤ g from fun g e => (ho4.lt g e).1)
  have HO4 := Lib.hid ho4
  clear hown4 hgr4 hl4 ho4
  obtain ⟨g, hvg, hidx, hcell, hfz, _⟩ := indexAt_own (P := Try.prog) HO4.out 58 86 Try.underlying58 Try.sizeEnR19 i HI.out
  have HVG := Lib.hid hvg
  have HGG := Lib.hid (show W3.heap.size ≤ g from HGE.out g hvg)
  have HCE := Lib.hid hcell
  have HFZ := Lib.hid hfz
  have y1 := HY4.out.cell 1 rfl
  have z0 := HZ4.out.cell 0 rfl
  have z1 := HZ4.out.cell 1 rfl
  have z2 := HZ4.out.cell 2 rfl
  have z3 := HZ4.out.cell 3 rfl
  have z4 := HZ4.out.cell 4 rfl
  have z5 := HZ4.out.cell 5 rfl
  clear hvg hcell hfz
  go_wp2_with (refine wpList_storeEn rfl 86 Try.sizeEnR19 (.tmp 183) (.tmp 182) rfl HO4.out g i HVG.out HE.out HCE.out HFZ.out _ _ _ _ _ _ rfl rfl ?_)
  intro w5 ho5 hk5
  have HO5 := Lib.hid ho5
  have HZ5 := Lib.hid (HZ4.out.kept hk5 (fun e => by have h1 := HZ3.out.lt; have h2 := HGG.out; omega))
  have HB5 := Lib.hid (HB4.out.trans (hk5.below HB4.out.size (fun k hk e => by have h1 := HB3.out.size; have h2 := HGG.out; omega)))
  clear ho5 hk5 hidx y1 z0 z1 z2 z3 z4 z5
  have z1 := HZ5.out.cell 1 rfl
  go_wp2_with fail
  go_region
  go_wp2
  go_ret3
  exact ⟨v4, rfl, (IsX.own HO5.out).kept (S := fun _ => False) ⟨rfl, rfl, rfl, Nat.le_refl _, fun _ _ _ => rfl⟩ (fun _ _ h => h), (fun k e => Nat.le_trans HB3.out.size (HO5.out.lt k e).1), HB5.out.drew⟩
set_option maxRecDepth 100000 in
set_option maxHeartbeats 4000000 in
theorem rd_rep0 (v : Value) (n i : Nat) (L : List En) (ce ca cn a b d : Int) (ev ep ea eb ec M m : Nat) (es : Bool) (w : World) (hv : IsX w 6 v n (row ecl L)) (hn : n ≤ 4096) (hi : i < n) (he : L[i]? = some ⟨ev, ep, ea, eb, ec, es⟩) (hM : ep + 1 = M) (hMb : M ≤ 1000000) (hm : m < 256) (h1 : ea ≠ m) (h2 : eb ≠ m) (h3 : ec ≠ m) :
    Calls Try.prog 25 #[v, .agg #[.int .i64 4, .int .i64 ((i : Int) + 1), .int .i64 (ep : Int), .int .i64 0, .int .i64 (m : Int), .int .i64 a, .int .i64 b, .int .i64 d]] w fun e w' => ∃ v', e = .returned (.tuple #[v', .int .i64 (M : Int), .int .i64 0]) ∧ IsX w' 6 v' n (row ecl (L.set i ⟨ev, M, m, eb, ec, es⟩)) ∧ (∀ k, v'.ownBlock = some k → w.heap.size ≤ k) ∧ Below w.heap.size w w' := by
  have hlen := fun W => len_X (P := Try.prog) hv 58 3 86 Try.underlying58 W
  obtain ⟨i0, hi0, hz0, hz1, hz2⟩ := info_parts Try.infoEnR19
  have HI0 := Lib.hid hi0
  have HZ0 := Lib.hid hz0
  have HZ1 := Lib.hid hz1
  have HZ2 := Lib.hid hz2
  have HV := Lib.hid hv
  have HI := Lib.hid hi
  have HE := Lib.hid he
  have c1 : ¬ ((i : Int) + 1 < 1) := by omega
  have c2 : ¬ ((i : Int) + 1 > (n : Int)) := by omega
  have hme : (ep : Int) + 1 = (M : Int) := by omega
  have hwm : IntKind.i64.wrap (M : Int) = (M : Int) := IntWalk.i64_in _ (by omega)
  have hd : decide (near (m : Int)) = true := decide_eq_true ⟨by omega, by omega⟩
  have e1 : ((ea : Int) == (m : Int)) = false := by rw [beq_eq_false_iff_ne]; omega
  have e2 : ((eb : Int) == (m : Int)) = false := by rw [beq_eq_false_iff_ne]; omega
  have e3 : ((ec : Int) == (m : Int)) = false := by rw [beq_eq_false_iff_ne]; omega
  clear hm h1 h2 h3
  clear hv he hi hM hi0 hz0 hz1 hz2
  have hY := Blk.new w #[.int .i64 4, .int .i64 ((i : Int) + 1), .int .i64 (ep : Int), .int .i64 0, .int .i64 (m : Int), .int .i64 a, .int .i64 b, .int .i64 d] 33
  have hB := below_newR w (.cells #[.int .i64 4, .int .i64 ((i : Int) + 1), .int .i64 (ep : Int), .int .i64 0, .int .i64 (m : Int), .int .i64 a, .int .i64 b, .int .i64 d] 33)
  obtain ⟨W0, hW0⟩ : ∃ z, w.alloc (.cells #[.int .i64 4, .int .i64 ((i : Int) + 1), .int .i64 (ep : Int), .int .i64 0, .int .i64 (m : Int), .int .i64 a, .int .i64 b, .int .i64 d] 33) = z := ⟨_, rfl⟩
  rw [hW0] at hY hB
  obtain ⟨Y, hYe⟩ : ∃ z, w.heap.size = z := ⟨_, rfl⟩
  rw [hYe] at hY
  have HW0 := Lib.hid hW0
  have HYe := Lib.hid hYe
  have HY := Lib.hid hY
  have HB := Lib.hid hB
  have y0 := HY.out.cell 0 rfl
  have y1 := HY.out.cell 1 rfl
  have y2 := HY.out.cell 2 rfl
  have y3 := HY.out.cell 3 rfl
  have y4 := HY.out.cell 4 rfl
  have y5 := HY.out.cell 5 rfl
  have y6 := HY.out.cell 6 rfl
  have y7 := HY.out.cell 7 rfl
  clear hW0 hYe hY hB
  go_enter Try.func25, Try.ntmps25
  go_wp2_with fail
  rw [HW0.out]
  try rw [HYe.out]
  go_region
  have hX := HV.out.mono HB.out.drew (Nat.le_refl _)
  obtain ⟨bb, oo, hidx, _, hcell⟩ := indexAt_X (P := Try.prog) hX 58 86 Try.underlying58 Try.sizeEnR19 i HI.out
  have hce := fun q (hq : q < 6) => (hcell q hq).trans (row_get ecl_len HE.out q hq)
  have p0 : W0.drew.cell? ⟨bb, oo, none⟩ = some (.int .i64 (ev : Int)) := hce 0 (by decide)
  have p1 : W0.drew.cell? ⟨bb, oo + 1, none⟩ = some (.int .i64 (ep : Int)) := hce 1 (by decide)
  have p2 : W0.drew.cell? ⟨bb, oo + 2, none⟩ = some (.int .i64 (ea : Int)) := hce 2 (by decide)
  have p3 : W0.drew.cell? ⟨bb, oo + 3, none⟩ = some (.int .i64 (eb : Int)) := hce 3 (by decide)
  have p4 : W0.drew.cell? ⟨bb, oo + 4, none⟩ = some (.int .i64 (ec : Int)) := hce 4 (by decide)
  have p5 : W0.drew.cell? ⟨bb, oo + 5, none⟩ = some (.bool es) := hce 5 (by decide)
  have hZ := Blk.new W0.drew #[.int .i64 (ev : Int), .int .i64 (ep : Int), .int .i64 (ea : Int), .int .i64 (eb : Int), .int .i64 (ec : Int), .bool es] 86
  have hB := (HB.out.drew).trans ((below_newR W0.drew (.cells #[.int .i64 (ev : Int), .int .i64 (ep : Int), .int .i64 (ea : Int), .int .i64 (eb : Int), .int .i64 (ec : Int), .bool es] 86)).mono HB.out.drew.size)
  have hYl := HY.out.drew.lt
  have hY1 := HY.out.drew.alloc (.cells #[.int .i64 (ev : Int), .int .i64 (ep : Int), .int .i64 (ea : Int), .int .i64 (eb : Int), .int .i64 (ec : Int), .bool es] 86)
  have hY2 := HY.out.drew
  obtain ⟨w2, hw2⟩ : ∃ z, W0.drew = z := ⟨_, rfl⟩
  rw [hw2] at p0 p1 p2 p3 p4 p5 hZ hB hYl hY1 hY2
  rw [hw2]
  obtain ⟨W1, hW1⟩ : ∃ z, w2.alloc (.cells #[.int .i64 (ev : Int), .int .i64 (ep : Int), .int .i64 (ea : Int), .int .i64 (eb : Int), .int .i64 (ec : Int), .bool es] 86) = z := ⟨_, rfl⟩
  rw [hW1] at hZ hB hY1
  obtain ⟨Z, hZe⟩ : ∃ z, w2.heap.size = z := ⟨_, rfl⟩
  rw [hZe] at hZ hYl
  have HW1 := Lib.hid hW1
  have HZe := Lib.hid hZe
  have HZ := Lib.hid hZ
  have HB1 := Lib.hid hB
  have HY1 := Lib.hid hY1
  have HYZ := Lib.hid (show Y ≠ Z from by omega)
  have HZB := Lib.hid (show w.heap.size ≤ Z from by rw [← hZe, ← hw2]; exact HB.out.drew.size)
  clear y0 y1 y2 y3 y4 y5 y6 y7
  have y0 := hY2.cell 0 rfl
  have y1 := hY2.cell 1 rfl
  have y2 := hY2.cell 2 rfl
  have HW2 := Lib.hid hw2
  clear hX hcell hce hZ hB hW1 hZe hYl hY1 hY2 hw2
  go_upto_region 13 with fail
  rw [HW1.out]
  try rw [HZe.out]
  clear p0 p1 p2 p3 p4 p5 hidx y0 y1 y2
  have y0 := HY1.out.cell 0 rfl
  have y1 := HY1.out.cell 1 rfl
  have y2 := HY1.out.cell 2 rfl
  have y3 := HY1.out.cell 3 rfl
  have y4 := HY1.out.cell 4 rfl
  have z0 := HZ.out.cell 0 rfl
  have z1 := HZ.out.cell 1 rfl
  have z2 := HZ.out.cell 2 rfl
  have z3 := HZ.out.cell 3 rfl
  have z4 := HZ.out.cell 4 rfl
  have z5 := HZ.out.cell 5 rfl
  have hyz : Y ≠ Z := HYZ.out
  have zf := fun j => HZ.out.free j
  have hZ3 := ((HZ.out.set 2 (.int .i64 (m : Int))).set 1 (.int .i64 (M : Int)))
  have hY3 := ((HY1.out.other (a := ⟨Z, 2, none⟩) (fun e => HYZ.out e.symm) (.int .i64 (m : Int))).other (a := ⟨Z, 1, none⟩) (fun e => HYZ.out e.symm) (.int .i64 (M : Int)))
  have hB3 := ((HB1.out.setCell (p := ⟨Z, 2, none⟩) HZB.out (.int .i64 (m : Int))).setCell (p := ⟨Z, 1, none⟩) HZB.out (.int .i64 (M : Int)))
  obtain ⟨W3, hW3⟩ : ∃ z, ((W1.setCell ⟨Z, 2, none⟩ (.int .i64 (m : Int))).setCell ⟨Z, 1, none⟩ (.int .i64 (M : Int))) = z := ⟨_, rfl⟩
  rw [hW3] at hZ3 hY3 hB3
  have HZ3 := Lib.hid (show Blk W3 Z #[.int .i64 (ev : Int), .int .i64 (M : Int), .int .i64 (m : Int), .int .i64 (eb : Int), .int .i64 (ec : Int), .bool es] 86 from by simpa using hZ3)
  have HY3 := Lib.hid hY3
  have HB3 := Lib.hid hB3
  have HW3 := Lib.hid hW3
  have HX3 := Lib.hid (HV.out.mono hB3 (Nat.le_refl _))
  clear hZ3 hY3 hB3 hW3
  go_upto_region 27 with (go_at_call 39; first | (with_reducible refine (near_yes _ _ (by assumption)).mono ?_; rintro e wc ⟨rfl, rfl⟩) | (with_reducible refine (near_no _ _ (by assumption)).mono ?_; rintro e wc ⟨rfl, rfl⟩))
  rw [HW3.out]
  clear y0 y1 y2 y3 y4 z0 z1 z2 z3 z4 z5 zf hyz
  go_wp2_with (at_builtin; refine wpList_append_X (by rfl) _ _ 58 58 rfl (fun _ _ _ => rfl) W3.heap.size 86 i0 _ 6 48 Try.underlying58 HI0.out HZ0.out HZ1.out HZ2.out rfl (by decide) _ [] 0 rfl (World.ownsRow_lit _ #[] 0 (Nat.le_refl _) (Nat.zero_le _) rfl) v n _ rfl (HX3.out.mono (below_newR W3 _) (Nat.le_refl _)) (row_mem fun x _ => ecl_one x) (by unfold maxLen; omega) (by omega) (by simp) ?_)
  intro v4 w4 hown4 hgr4 hl4
  have ho4 : w4.ownsRow W3.heap.size 86 6 v4 n (row ecl L) := by simpa using hown4
  have HZ4 := Lib.hid ((HZ3.out.alloc (.cells #[] 86)).grown hgr4 (fun e => by have h1 := HZ3.out.lt; have h2 : W3.heap.size = Z := Option.some.inj e; omega))
  have HY4 := Lib.hid ((HY3.out.alloc (.cells #[] 86)).grown hgr4 (fun e => by have h1 := HY3.out.lt; have h2 : W3.heap.size = Y := Option.some.inj e; omega))
  have HB4 := Lib.hid ((HB3.out.alloc HB3.out.size (.cells #[] 86)).grown hgr4 (by have h1 := HB3.out.size; simp; omega) (fun k e => by have h1 := HB3.out.size; have h2 : W3.heap.size = k := Option.some.inj e; omega))
  have HGE := Lib.hid (show ∀ g, v4.ownBlock = some g → W3.heap.size ≤ g from fun g e => (ho4.lt g e).1)
  have HO4 := Lib.hid ho4
  clear hown4 hgr4 hl4 ho4
  obtain ⟨g, hvg, hidx, hcell, hfz, _⟩ := indexAt_own (P := Try.prog) HO4.out 58 86 Try.underlying58 Try.sizeEnR19 i HI.out
  have HVG := Lib.hid hvg
  have HGG := Lib.hid (show W3.heap.size ≤ g from HGE.out g hvg)
  have HCE := Lib.hid hcell
  have HFZ := Lib.hid hfz
  have y1 := HY4.out.cell 1 rfl
  have z0 := HZ4.out.cell 0 rfl
  have z1 := HZ4.out.cell 1 rfl
  have z2 := HZ4.out.cell 2 rfl
  have z3 := HZ4.out.cell 3 rfl
  have z4 := HZ4.out.cell 4 rfl
  have z5 := HZ4.out.cell 5 rfl
  clear hvg hcell hfz
  go_wp2_with (refine wpList_storeEn rfl 86 Try.sizeEnR19 (.tmp 183) (.tmp 182) rfl HO4.out g i HVG.out HE.out HCE.out HFZ.out _ _ _ _ _ _ rfl rfl ?_)
  intro w5 ho5 hk5
  have HO5 := Lib.hid ho5
  have HZ5 := Lib.hid (HZ4.out.kept hk5 (fun e => by have h1 := HZ3.out.lt; have h2 := HGG.out; omega))
  have HB5 := Lib.hid (HB4.out.trans (hk5.below HB4.out.size (fun k hk e => by have h1 := HB3.out.size; have h2 := HGG.out; omega)))
  clear ho5 hk5 hidx y1 z0 z1 z2 z3 z4 z5
  have z1 := HZ5.out.cell 1 rfl
  go_wp2_with fail
  go_region
  go_wp2
  go_ret3
  exact ⟨v4, rfl, (IsX.own HO5.out).kept (S := fun _ => False) ⟨rfl, rfl, rfl, Nat.le_refl _, fun _ _ _ => rfl⟩ (fun _ _ h => h), (fun k e => Nat.le_trans HB3.out.size (HO5.out.lt k e).1), HB5.out.drew⟩
set_option maxRecDepth 100000 in
set_option maxHeartbeats 4000000 in
theorem rd_rep1 (v : Value) (n i : Nat) (L : List En) (ce ca cn a b d : Int) (ev ep ea eb ec M m : Nat) (es : Bool) (w : World) (hv : IsX w 6 v n (row ecl L)) (hn : n ≤ 4096) (hi : i < n) (he : L[i]? = some ⟨ev, ep, ea, eb, ec, es⟩) (hM : ep + 1 = M) (hMb : M ≤ 1000000) (hm : m < 256) (h1 : ea ≠ m) (h2 : eb ≠ m) (h3 : ec ≠ m) :
    Calls Try.prog 25 #[v, .agg #[.int .i64 4, .int .i64 ((i : Int) + 1), .int .i64 (ep : Int), .int .i64 1, .int .i64 (m : Int), .int .i64 a, .int .i64 b, .int .i64 d]] w fun e w' => ∃ v', e = .returned (.tuple #[v', .int .i64 (M : Int), .int .i64 0]) ∧ IsX w' 6 v' n (row ecl (L.set i ⟨ev, M, ea, m, ec, es⟩)) ∧ (∀ k, v'.ownBlock = some k → w.heap.size ≤ k) ∧ Below w.heap.size w w' := by
  have hlen := fun W => len_X (P := Try.prog) hv 58 3 86 Try.underlying58 W
  obtain ⟨i0, hi0, hz0, hz1, hz2⟩ := info_parts Try.infoEnR19
  have HI0 := Lib.hid hi0
  have HZ0 := Lib.hid hz0
  have HZ1 := Lib.hid hz1
  have HZ2 := Lib.hid hz2
  have HV := Lib.hid hv
  have HI := Lib.hid hi
  have HE := Lib.hid he
  have c1 : ¬ ((i : Int) + 1 < 1) := by omega
  have c2 : ¬ ((i : Int) + 1 > (n : Int)) := by omega
  have hme : (ep : Int) + 1 = (M : Int) := by omega
  have hwm : IntKind.i64.wrap (M : Int) = (M : Int) := IntWalk.i64_in _ (by omega)
  have hd : decide (near (m : Int)) = true := decide_eq_true ⟨by omega, by omega⟩
  have e1 : ((ea : Int) == (m : Int)) = false := by rw [beq_eq_false_iff_ne]; omega
  have e2 : ((eb : Int) == (m : Int)) = false := by rw [beq_eq_false_iff_ne]; omega
  have e3 : ((ec : Int) == (m : Int)) = false := by rw [beq_eq_false_iff_ne]; omega
  clear hm h1 h2 h3
  clear hv he hi hM hi0 hz0 hz1 hz2
  have hY := Blk.new w #[.int .i64 4, .int .i64 ((i : Int) + 1), .int .i64 (ep : Int), .int .i64 1, .int .i64 (m : Int), .int .i64 a, .int .i64 b, .int .i64 d] 33
  have hB := below_newR w (.cells #[.int .i64 4, .int .i64 ((i : Int) + 1), .int .i64 (ep : Int), .int .i64 1, .int .i64 (m : Int), .int .i64 a, .int .i64 b, .int .i64 d] 33)
  obtain ⟨W0, hW0⟩ : ∃ z, w.alloc (.cells #[.int .i64 4, .int .i64 ((i : Int) + 1), .int .i64 (ep : Int), .int .i64 1, .int .i64 (m : Int), .int .i64 a, .int .i64 b, .int .i64 d] 33) = z := ⟨_, rfl⟩
  rw [hW0] at hY hB
  obtain ⟨Y, hYe⟩ : ∃ z, w.heap.size = z := ⟨_, rfl⟩
  rw [hYe] at hY
  have HW0 := Lib.hid hW0
  have HYe := Lib.hid hYe
  have HY := Lib.hid hY
  have HB := Lib.hid hB
  have y0 := HY.out.cell 0 rfl
  have y1 := HY.out.cell 1 rfl
  have y2 := HY.out.cell 2 rfl
  have y3 := HY.out.cell 3 rfl
  have y4 := HY.out.cell 4 rfl
  have y5 := HY.out.cell 5 rfl
  have y6 := HY.out.cell 6 rfl
  have y7 := HY.out.cell 7 rfl
  clear hW0 hYe hY hB
  go_enter Try.func25, Try.ntmps25
  go_wp2_with fail
  rw [HW0.out]
  try rw [HYe.out]
  go_region
  have hX := HV.out.mono HB.out.drew (Nat.le_refl _)
  obtain ⟨bb, oo, hidx, _, hcell⟩ := indexAt_X (P := Try.prog) hX 58 86 Try.underlying58 Try.sizeEnR19 i HI.out
  have hce := fun q (hq : q < 6) => (hcell q hq).trans (row_get ecl_len HE.out q hq)
  have p0 : W0.drew.cell? ⟨bb, oo, none⟩ = some (.int .i64 (ev : Int)) := hce 0 (by decide)
  have p1 : W0.drew.cell? ⟨bb, oo + 1, none⟩ = some (.int .i64 (ep : Int)) := hce 1 (by decide)
  have p2 : W0.drew.cell? ⟨bb, oo + 2, none⟩ = some (.int .i64 (ea : Int)) := hce 2 (by decide)
  have p3 : W0.drew.cell? ⟨bb, oo + 3, none⟩ = some (.int .i64 (eb : Int)) := hce 3 (by decide)
  have p4 : W0.drew.cell? ⟨bb, oo + 4, none⟩ = some (.int .i64 (ec : Int)) := hce 4 (by decide)
  have p5 : W0.drew.cell? ⟨bb, oo + 5, none⟩ = some (.bool es) := hce 5 (by decide)
  have hZ := Blk.new W0.drew #[.int .i64 (ev : Int), .int .i64 (ep : Int), .int .i64 (ea : Int), .int .i64 (eb : Int), .int .i64 (ec : Int), .bool es] 86
  have hB := (HB.out.drew).trans ((below_newR W0.drew (.cells #[.int .i64 (ev : Int), .int .i64 (ep : Int), .int .i64 (ea : Int), .int .i64 (eb : Int), .int .i64 (ec : Int), .bool es] 86)).mono HB.out.drew.size)
  have hYl := HY.out.drew.lt
  have hY1 := HY.out.drew.alloc (.cells #[.int .i64 (ev : Int), .int .i64 (ep : Int), .int .i64 (ea : Int), .int .i64 (eb : Int), .int .i64 (ec : Int), .bool es] 86)
  have hY2 := HY.out.drew
  obtain ⟨w2, hw2⟩ : ∃ z, W0.drew = z := ⟨_, rfl⟩
  rw [hw2] at p0 p1 p2 p3 p4 p5 hZ hB hYl hY1 hY2
  rw [hw2]
  obtain ⟨W1, hW1⟩ : ∃ z, w2.alloc (.cells #[.int .i64 (ev : Int), .int .i64 (ep : Int), .int .i64 (ea : Int), .int .i64 (eb : Int), .int .i64 (ec : Int), .bool es] 86) = z := ⟨_, rfl⟩
  rw [hW1] at hZ hB hY1
  obtain ⟨Z, hZe⟩ : ∃ z, w2.heap.size = z := ⟨_, rfl⟩
  rw [hZe] at hZ hYl
  have HW1 := Lib.hid hW1
  have HZe := Lib.hid hZe
  have HZ := Lib.hid hZ
  have HB1 := Lib.hid hB
  have HY1 := Lib.hid hY1
  have HYZ := Lib.hid (show Y ≠ Z from by omega)
  have HZB := Lib.hid (show w.heap.size ≤ Z from by rw [← hZe, ← hw2]; exact HB.out.drew.size)
  clear y0 y1 y2 y3 y4 y5 y6 y7
  have y0 := hY2.cell 0 rfl
  have y1 := hY2.cell 1 rfl
  have y2 := hY2.cell 2 rfl
  have HW2 := Lib.hid hw2
  clear hX hcell hce hZ hB hW1 hZe hYl hY1 hY2 hw2
  go_upto_region 13 with fail
  rw [HW1.out]
  try rw [HZe.out]
  clear p0 p1 p2 p3 p4 p5 hidx y0 y1 y2
  have y0 := HY1.out.cell 0 rfl
  have y1 := HY1.out.cell 1 rfl
  have y2 := HY1.out.cell 2 rfl
  have y3 := HY1.out.cell 3 rfl
  have y4 := HY1.out.cell 4 rfl
  have z0 := HZ.out.cell 0 rfl
  have z1 := HZ.out.cell 1 rfl
  have z2 := HZ.out.cell 2 rfl
  have z3 := HZ.out.cell 3 rfl
  have z4 := HZ.out.cell 4 rfl
  have z5 := HZ.out.cell 5 rfl
  have hyz : Y ≠ Z := HYZ.out
  have zf := fun j => HZ.out.free j
  have hZ3 := ((HZ.out.set 3 (.int .i64 (m : Int))).set 1 (.int .i64 (M : Int)))
  have hY3 := ((HY1.out.other (a := ⟨Z, 3, none⟩) (fun e => HYZ.out e.symm) (.int .i64 (m : Int))).other (a := ⟨Z, 1, none⟩) (fun e => HYZ.out e.symm) (.int .i64 (M : Int)))
  have hB3 := ((HB1.out.setCell (p := ⟨Z, 3, none⟩) HZB.out (.int .i64 (m : Int))).setCell (p := ⟨Z, 1, none⟩) HZB.out (.int .i64 (M : Int)))
  obtain ⟨W3, hW3⟩ : ∃ z, ((W1.setCell ⟨Z, 3, none⟩ (.int .i64 (m : Int))).setCell ⟨Z, 1, none⟩ (.int .i64 (M : Int))) = z := ⟨_, rfl⟩
  rw [hW3] at hZ3 hY3 hB3
  have HZ3 := Lib.hid (show Blk W3 Z #[.int .i64 (ev : Int), .int .i64 (M : Int), .int .i64 (ea : Int), .int .i64 (m : Int), .int .i64 (ec : Int), .bool es] 86 from by simpa using hZ3)
  have HY3 := Lib.hid hY3
  have HB3 := Lib.hid hB3
  have HW3 := Lib.hid hW3
  have HX3 := Lib.hid (HV.out.mono hB3 (Nat.le_refl _))
  clear hZ3 hY3 hB3 hW3
  go_upto_region 27 with (go_at_call 39; first | (with_reducible refine (near_yes _ _ (by assumption)).mono ?_; rintro e wc ⟨rfl, rfl⟩) | (with_reducible refine (near_no _ _ (by assumption)).mono ?_; rintro e wc ⟨rfl, rfl⟩))
  rw [HW3.out]
  clear y0 y1 y2 y3 y4 z0 z1 z2 z3 z4 z5 zf hyz
  go_wp2_with (at_builtin; refine wpList_append_X (by rfl) _ _ 58 58 rfl (fun _ _ _ => rfl) W3.heap.size 86 i0 _ 6 48 Try.underlying58 HI0.out HZ0.out HZ1.out HZ2.out rfl (by decide) _ [] 0 rfl (World.ownsRow_lit _ #[] 0 (Nat.le_refl _) (Nat.zero_le _) rfl) v n _ rfl (HX3.out.mono (below_newR W3 _) (Nat.le_refl _)) (row_mem fun x _ => ecl_one x) (by unfold maxLen; omega) (by omega) (by simp) ?_)
  intro v4 w4 hown4 hgr4 hl4
  have ho4 : w4.ownsRow W3.heap.size 86 6 v4 n (row ecl L) := by simpa using hown4
  have HZ4 := Lib.hid ((HZ3.out.alloc (.cells #[] 86)).grown hgr4 (fun e => by have h1 := HZ3.out.lt; have h2 : W3.heap.size = Z := Option.some.inj e; omega))
  have HY4 := Lib.hid ((HY3.out.alloc (.cells #[] 86)).grown hgr4 (fun e => by have h1 := HY3.out.lt; have h2 : W3.heap.size = Y := Option.some.inj e; omega))
  have HB4 := Lib.hid ((HB3.out.alloc HB3.out.size (.cells #[] 86)).grown hgr4 (by have h1 := HB3.out.size; simp; omega) (fun k e => by have h1 := HB3.out.size; have h2 : W3.heap.size = k := Option.some.inj e; omega))
  have HGE := Lib.hid (show ∀ g, v4.ownBlock = some g → W3.heap.size ≤ g from fun g e => (ho4.lt g e).1)
  have HO4 := Lib.hid ho4
  clear hown4 hgr4 hl4 ho4
  obtain ⟨g, hvg, hidx, hcell, hfz, _⟩ := indexAt_own (P := Try.prog) HO4.out 58 86 Try.underlying58 Try.sizeEnR19 i HI.out
  have HVG := Lib.hid hvg
  have HGG := Lib.hid (show W3.heap.size ≤ g from HGE.out g hvg)
  have HCE := Lib.hid hcell
  have HFZ := Lib.hid hfz
  have y1 := HY4.out.cell 1 rfl
  have z0 := HZ4.out.cell 0 rfl
  have z1 := HZ4.out.cell 1 rfl
  have z2 := HZ4.out.cell 2 rfl
  have z3 := HZ4.out.cell 3 rfl
  have z4 := HZ4.out.cell 4 rfl
  have z5 := HZ4.out.cell 5 rfl
  clear hvg hcell hfz
  go_wp2_with (refine wpList_storeEn rfl 86 Try.sizeEnR19 (.tmp 183) (.tmp 182) rfl HO4.out g i HVG.out HE.out HCE.out HFZ.out _ _ _ _ _ _ rfl rfl ?_)
  intro w5 ho5 hk5
  have HO5 := Lib.hid ho5
  have HZ5 := Lib.hid (HZ4.out.kept hk5 (fun e => by have h1 := HZ3.out.lt; have h2 := HGG.out; omega))
  have HB5 := Lib.hid (HB4.out.trans (hk5.below HB4.out.size (fun k hk e => by have h1 := HB3.out.size; have h2 := HGG.out; omega)))
  clear ho5 hk5 hidx y1 z0 z1 z2 z3 z4 z5
  have z1 := HZ5.out.cell 1 rfl
  go_wp2_with fail
  go_region
  go_wp2
  go_ret3
  exact ⟨v4, rfl, (IsX.own HO5.out).kept (S := fun _ => False) ⟨rfl, rfl, rfl, Nat.le_refl _, fun _ _ _ => rfl⟩ (fun _ _ h => h), (fun k e => Nat.le_trans HB3.out.size (HO5.out.lt k e).1), HB5.out.drew⟩
set_option maxRecDepth 100000 in
set_option maxHeartbeats 4000000 in
theorem rd_rep2 (v : Value) (n i : Nat) (L : List En) (ce ca cn a b d : Int) (ev ep ea eb ec M m : Nat) (es : Bool) (w : World) (hv : IsX w 6 v n (row ecl L)) (hn : n ≤ 4096) (hi : i < n) (he : L[i]? = some ⟨ev, ep, ea, eb, ec, es⟩) (hM : ep + 1 = M) (hMb : M ≤ 1000000) (hm : m < 256) (h1 : ea ≠ m) (h2 : eb ≠ m) (h3 : ec ≠ m) :
    Calls Try.prog 25 #[v, .agg #[.int .i64 4, .int .i64 ((i : Int) + 1), .int .i64 (ep : Int), .int .i64 2, .int .i64 (m : Int), .int .i64 a, .int .i64 b, .int .i64 d]] w fun e w' => ∃ v', e = .returned (.tuple #[v', .int .i64 (M : Int), .int .i64 0]) ∧ IsX w' 6 v' n (row ecl (L.set i ⟨ev, M, ea, eb, m, es⟩)) ∧ (∀ k, v'.ownBlock = some k → w.heap.size ≤ k) ∧ Below w.heap.size w w' := by
  have hlen := fun W => len_X (P := Try.prog) hv 58 3 86 Try.underlying58 W
  obtain ⟨i0, hi0, hz0, hz1, hz2⟩ := info_parts Try.infoEnR19
  have HI0 := Lib.hid hi0
  have HZ0 := Lib.hid hz0
  have HZ1 := Lib.hid hz1
  have HZ2 := Lib.hid hz2
  have HV := Lib.hid hv
  have HI := Lib.hid hi
  have HE := Lib.hid he
  have c1 : ¬ ((i : Int) + 1 < 1) := by omega
  have c2 : ¬ ((i : Int) + 1 > (n : Int)) := by omega
  have hme : (ep : Int) + 1 = (M : Int) := by omega
  have hwm : IntKind.i64.wrap (M : Int) = (M : Int) := IntWalk.i64_in _ (by omega)
  have hd : decide (near (m : Int)) = true := decide_eq_true ⟨by omega, by omega⟩
  have e1 : ((ea : Int) == (m : Int)) = false := by rw [beq_eq_false_iff_ne]; omega
  have e2 : ((eb : Int) == (m : Int)) = false := by rw [beq_eq_false_iff_ne]; omega
  have e3 : ((ec : Int) == (m : Int)) = false := by rw [beq_eq_false_iff_ne]; omega
  clear hm h1 h2 h3
  clear hv he hi hM hi0 hz0 hz1 hz2
  have hY := Blk.new w #[.int .i64 4, .int .i64 ((i : Int) + 1), .int .i64 (ep : Int), .int .i64 2, .int .i64 (m : Int), .int .i64 a, .int .i64 b, .int .i64 d] 33
  have hB := below_newR w (.cells #[.int .i64 4, .int .i64 ((i : Int) + 1), .int .i64 (ep : Int), .int .i64 2, .int .i64 (m : Int), .int .i64 a, .int .i64 b, .int .i64 d] 33)
  obtain ⟨W0, hW0⟩ : ∃ z, w.alloc (.cells #[.int .i64 4, .int .i64 ((i : Int) + 1), .int .i64 (ep : Int), .int .i64 2, .int .i64 (m : Int), .int .i64 a, .int .i64 b, .int .i64 d] 33) = z := ⟨_, rfl⟩
  rw [hW0] at hY hB
  obtain ⟨Y, hYe⟩ : ∃ z, w.heap.size = z := ⟨_, rfl⟩
  rw [hYe] at hY
  have HW0 := Lib.hid hW0
  have HYe := Lib.hid hYe
  have HY := Lib.hid hY
  have HB := Lib.hid hB
  have y0 := HY.out.cell 0 rfl
  have y1 := HY.out.cell 1 rfl
  have y2 := HY.out.cell 2 rfl
  have y3 := HY.out.cell 3 rfl
  have y4 := HY.out.cell 4 rfl
  have y5 := HY.out.cell 5 rfl
  have y6 := HY.out.cell 6 rfl
  have y7 := HY.out.cell 7 rfl
  clear hW0 hYe hY hB
  go_enter Try.func25, Try.ntmps25
  go_wp2_with fail
  rw [HW0.out]
  try rw [HYe.out]
  go_region
  have hX := HV.out.mono HB.out.drew (Nat.le_refl _)
  obtain ⟨bb, oo, hidx, _, hcell⟩ := indexAt_X (P := Try.prog) hX 58 86 Try.underlying58 Try.sizeEnR19 i HI.out
  have hce := fun q (hq : q < 6) => (hcell q hq).trans (row_get ecl_len HE.out q hq)
  have p0 : W0.drew.cell? ⟨bb, oo, none⟩ = some (.int .i64 (ev : Int)) := hce 0 (by decide)
  have p1 : W0.drew.cell? ⟨bb, oo + 1, none⟩ = some (.int .i64 (ep : Int)) := hce 1 (by decide)
  have p2 : W0.drew.cell? ⟨bb, oo + 2, none⟩ = some (.int .i64 (ea : Int)) := hce 2 (by decide)
  have p3 : W0.drew.cell? ⟨bb, oo + 3, none⟩ = some (.int .i64 (eb : Int)) := hce 3 (by decide)
  have p4 : W0.drew.cell? ⟨bb, oo + 4, none⟩ = some (.int .i64 (ec : Int)) := hce 4 (by decide)
  have p5 : W0.drew.cell? ⟨bb, oo + 5, none⟩ = some (.bool es) := hce 5 (by decide)
  have hZ := Blk.new W0.drew #[.int .i64 (ev : Int), .int .i64 (ep : Int), .int .i64 (ea : Int), .int .i64 (eb : Int), .int .i64 (ec : Int), .bool es] 86
  have hB := (HB.out.drew).trans ((below_newR W0.drew (.cells #[.int .i64 (ev : Int), .int .i64 (ep : Int), .int .i64 (ea : Int), .int .i64 (eb : Int), .int .i64 (ec : Int), .bool es] 86)).mono HB.out.drew.size)
  have hYl := HY.out.drew.lt
  have hY1 := HY.out.drew.alloc (.cells #[.int .i64 (ev : Int), .int .i64 (ep : Int), .int .i64 (ea : Int), .int .i64 (eb : Int), .int .i64 (ec : Int), .bool es] 86)
  have hY2 := HY.out.drew
  obtain ⟨w2, hw2⟩ : ∃ z, W0.drew = z := ⟨_, rfl⟩
  rw [hw2] at p0 p1 p2 p3 p4 p5 hZ hB hYl hY1 hY2
  rw [hw2]
  obtain ⟨W1, hW1⟩ : ∃ z, w2.alloc (.cells #[.int .i64 (ev : Int), .int .i64 (ep : Int), .int .i64 (ea : Int), .int .i64 (eb : Int), .int .i64 (ec : Int), .bool es] 86) = z := ⟨_, rfl⟩
  rw [hW1] at hZ hB hY1
  obtain ⟨Z, hZe⟩ : ∃ z, w2.heap.size = z := ⟨_, rfl⟩
  rw [hZe] at hZ hYl
  have HW1 := Lib.hid hW1
  have HZe := Lib.hid hZe
  have HZ := Lib.hid hZ
  have HB1 := Lib.hid hB
  have HY1 := Lib.hid hY1
  have HYZ := Lib.hid (show Y ≠ Z from by omega)
  have HZB := Lib.hid (show w.heap.size ≤ Z from by rw [← hZe, ← hw2]; exact HB.out.drew.size)
  clear y0 y1 y2 y3 y4 y5 y6 y7
  have y0 := hY2.cell 0 rfl
  have y1 := hY2.cell 1 rfl
  have y2 := hY2.cell 2 rfl
  have HW2 := Lib.hid hw2
  clear hX hcell hce hZ hB hW1 hZe hYl hY1 hY2 hw2
  go_upto_region 13 with fail
  rw [HW1.out]
  try rw [HZe.out]
  clear p0 p1 p2 p3 p4 p5 hidx y0 y1 y2
  have y0 := HY1.out.cell 0 rfl
  have y1 := HY1.out.cell 1 rfl
  have y2 := HY1.out.cell 2 rfl
  have y3 := HY1.out.cell 3 rfl
  have y4 := HY1.out.cell 4 rfl
  have z0 := HZ.out.cell 0 rfl
  have z1 := HZ.out.cell 1 rfl
  have z2 := HZ.out.cell 2 rfl
  have z3 := HZ.out.cell 3 rfl
  have z4 := HZ.out.cell 4 rfl
  have z5 := HZ.out.cell 5 rfl
  have hyz : Y ≠ Z := HYZ.out
  have zf := fun j => HZ.out.free j
  have hZ3 := ((HZ.out.set 4 (.int .i64 (m : Int))).set 1 (.int .i64 (M : Int)))
  have hY3 := ((HY1.out.other (a := ⟨Z, 4, none⟩) (fun e => HYZ.out e.symm) (.int .i64 (m : Int))).other (a := ⟨Z, 1, none⟩) (fun e => HYZ.out e.symm) (.int .i64 (M : Int)))
  have hB3 := ((HB1.out.setCell (p := ⟨Z, 4, none⟩) HZB.out (.int .i64 (m : Int))).setCell (p := ⟨Z, 1, none⟩) HZB.out (.int .i64 (M : Int)))
  obtain ⟨W3, hW3⟩ : ∃ z, ((W1.setCell ⟨Z, 4, none⟩ (.int .i64 (m : Int))).setCell ⟨Z, 1, none⟩ (.int .i64 (M : Int))) = z := ⟨_, rfl⟩
  rw [hW3] at hZ3 hY3 hB3
  have HZ3 := Lib.hid (show Blk W3 Z #[.int .i64 (ev : Int), .int .i64 (M : Int), .int .i64 (ea : Int), .int .i64 (eb : Int), .int .i64 (m : Int), .bool es] 86 from by simpa using hZ3)
  have HY3 := Lib.hid hY3
  have HB3 := Lib.hid hB3
  have HW3 := Lib.hid hW3
  have HX3 := Lib.hid (HV.out.mono hB3 (Nat.le_refl _))
  clear hZ3 hY3 hB3 hW3
  go_upto_region 27 with (go_at_call 39; first | (with_reducible refine (near_yes _ _ (by assumption)).mono ?_; rintro e wc ⟨rfl, rfl⟩) | (with_reducible refine (near_no _ _ (by assumption)).mono ?_; rintro e wc ⟨rfl, rfl⟩))
  rw [HW3.out]
  clear y0 y1 y2 y3 y4 z0 z1 z2 z3 z4 z5 zf hyz
  go_wp2_with (at_builtin; refine wpList_append_X (by rfl) _ _ 58 58 rfl (fun _ _ _ => rfl) W3.heap.size 86 i0 _ 6 48 Try.underlying58 HI0.out HZ0.out HZ1.out HZ2.out rfl (by decide) _ [] 0 rfl (World.ownsRow_lit _ #[] 0 (Nat.le_refl _) (Nat.zero_le _) rfl) v n _ rfl (HX3.out.mono (below_newR W3 _) (Nat.le_refl _)) (row_mem fun x _ => ecl_one x) (by unfold maxLen; omega) (by omega) (by simp) ?_)
  intro v4 w4 hown4 hgr4 hl4
  have ho4 : w4.ownsRow W3.heap.size 86 6 v4 n (row ecl L) := by simpa using hown4
  have HZ4 := Lib.hid ((HZ3.out.alloc (.cells #[] 86)).grown hgr4 (fun e => by have h1 := HZ3.out.lt; have h2 : W3.heap.size = Z := Option.some.inj e; omega))
  have HY4 := Lib.hid ((HY3.out.alloc (.cells #[] 86)).grown hgr4 (fun e => by have h1 := HY3.out.lt; have h2 : W3.heap.size = Y := Option.some.inj e; omega))
  have HB4 := Lib.hid ((HB3.out.alloc HB3.out.size (.cells #[] 86)).grown hgr4 (by have h1 := HB3.out.size; simp; omega) (fun k e => by have h1 := HB3.out.size; have h2 : W3.heap.size = k := Option.some.inj e; omega))
  have HGE := Lib.hid (show ∀ g, v4.ownBlock = some g → W3.heap.size ≤ g from fun g e => (ho4.lt g e).1)
  have HO4 := Lib.hid ho4
  clear hown4 hgr4 hl4 ho4
  obtain ⟨g, hvg, hidx, hcell, hfz, _⟩ := indexAt_own (P := Try.prog) HO4.out 58 86 Try.underlying58 Try.sizeEnR19 i HI.out
  have HVG := Lib.hid hvg
  have HGG := Lib.hid (show W3.heap.size ≤ g from HGE.out g hvg)
  have HCE := Lib.hid hcell
  have HFZ := Lib.hid hfz
  have y1 := HY4.out.cell 1 rfl
  have z0 := HZ4.out.cell 0 rfl
  have z1 := HZ4.out.cell 1 rfl
  have z2 := HZ4.out.cell 2 rfl
  have z3 := HZ4.out.cell 3 rfl
  have z4 := HZ4.out.cell 4 rfl
  have z5 := HZ4.out.cell 5 rfl
  clear hvg hcell hfz
  go_wp2_with (refine wpList_storeEn rfl 86 Try.sizeEnR19 (.tmp 183) (.tmp 182) rfl HO4.out g i HVG.out HE.out HCE.out HFZ.out _ _ _ _ _ _ rfl rfl ?_)
  intro w5 ho5 hk5
  have HO5 := Lib.hid ho5
  have HZ5 := Lib.hid (HZ4.out.kept hk5 (fun e => by have h1 := HZ3.out.lt; have h2 := HGG.out; omega))
  have HB5 := Lib.hid (HB4.out.trans (hk5.below HB4.out.size (fun k hk e => by have h1 := HB3.out.size; have h2 := HGG.out; omega)))
  clear ho5 hk5 hidx y1 z0 z1 z2 z3 z4 z5
  have z1 := HZ5.out.cell 1 rfl
  go_wp2_with fail
  go_region
  go_wp2
  go_ret3
  exact ⟨v4, rfl, (IsX.own HO5.out).kept (S := fun _ => False) ⟨rfl, rfl, rfl, Nat.le_refl _, fun _ _ _ => rfl⟩ (fun _ _ h => h), (fun k e => Nat.le_trans HB3.out.size (HO5.out.lt k e).1), HB5.out.drew⟩
end Go.Proofs.Ytlaighghagcjjaa
