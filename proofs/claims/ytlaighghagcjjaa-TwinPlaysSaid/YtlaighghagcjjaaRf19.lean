/- The document's own answer for layer 19: Do of a volume that there isn't, or that isn't as it wants. -/
import Derived.Test.YtlaighghagcjjaaRd19
namespace Go.Proofs.Ytlaighghagcjjaa
open Go.RowKit Go.Cor
set_option linter.unusedVariables false
set_option linter.unusedSimpArgs false

theorem Try.sizeEnR19 : (Try.prog.info? 86).map (·.size) = some 6 := by kernel_rfl
set_option maxRecDepth 100000 in
set_option maxHeartbeats 4000000 in
theorem rd_none (v : Value) (n : Nat) (cs : List Value) (ck cv ce ca cn a b d : Int) (w : World) (hv : IsX w 6 v n cs) (hk : 2 ≤ ck ∧ ck ≤ 4) (hc : cv < 1 ∨ (n : Int) < cv) :
    Calls Try.prog 25 #[v, .agg #[.int .i64 ck, .int .i64 cv, .int .i64 ce, .int .i64 ca, .int .i64 cn, .int .i64 a, .int .i64 b, .int .i64 d]] w fun e w' => e = .returned (.tuple #[v, .int .i64 0, .int .i64 6]) ∧ Below w.heap.size w w' := by
  have hlen := fun W => len_X (P := Try.prog) hv 58 3 86 Try.underlying58 W
  clear hv
  by_cases h1 : cv < 1
  · clear hc
    have k1 : ¬ ck < 1 := by omega
    have k2 : ¬ ck > 4 := by omega
    have k3 : (ck == 1) = false := by rw [beq_eq_false_iff_ne]; omega
    clear hk
    have hY := Blk.new w #[.int .i64 ck, .int .i64 cv, .int .i64 ce, .int .i64 ca, .int .i64 cn, .int .i64 a, .int .i64 b, .int .i64 d] 33
    have hB := below_newR w (.cells #[.int .i64 ck, .int .i64 cv, .int .i64 ce, .int .i64 ca, .int .i64 cn, .int .i64 a, .int .i64 b, .int .i64 d] 33)
    obtain ⟨W0, hW0⟩ : ∃ z, w.alloc (.cells #[.int .i64 ck, .int .i64 cv, .int .i64 ce, .int .i64 ca, .int .i64 cn, .int .i64 a, .int .i64 b, .int .i64 d] 33) = z := ⟨_, rfl⟩
    rw [hW0] at hY hB
    obtain ⟨Y, hYe⟩ : ∃ z, w.heap.size = z := ⟨_, rfl⟩
    rw [hYe] at hY
    have HW0 := Lib.hid hW0
    have HYe := Lib.hid hYe
    have HY := Lib.hid hY
    have HB := Lib.hid hB
    have y0 := HY.out.cell 0 rfl
    have y1 := HY.out.cell 1 rfl
    have y2 := HY.out.cell 2 rfl
    have y3 := HY.out.cell 3 rfl
    have y4 := HY.out.cell 4 rfl
    have y5 := HY.out.cell 5 rfl
    have y6 := HY.out.cell 6 rfl
    have y7 := HY.out.cell 7 rfl
    clear hW0 hYe hY hB
    go_enter Try.func25, Try.ntmps25
    go_wp2_with fail
    rw [HW0.out]
    try rw [HYe.out]
    go_region
    go_wp2
    go_ret3
    exact ⟨rfl, HB.out.drew⟩
  · have h2 : cv > (n : Int) := by omega
    clear hc
    have k1 : ¬ ck < 1 := by omega
    have k2 : ¬ ck > 4 := by omega
    have k3 : (ck == 1) = false := by rw [beq_eq_false_iff_ne]; omega
    clear hk
    have hY := Blk.new w #[.int .i64 ck, .int .i64 cv, .int .i64 ce, .int .i64 ca, .int .i64 cn, .int .i64 a, .int .i64 b, .int .i64 d] 33
    have hB := below_newR w (.cells #[.int .i64 ck, .int .i64 cv, .int .i64 ce, .int .i64 ca, .int .i64 cn, .int .i64 a, .int .i64 b, .int .i64 d] 33)
    obtain ⟨W0, hW0⟩ : ∃ z, w.alloc (.cells #[.int .i64 ck, .int .i64 cv, .int .i64 ce, .int .i64 ca, .int .i64 cn, .int .i64 a, .int .i64 b, .int .i64 d] 33) = z := ⟨_, rfl⟩
    rw [hW0] at hY hB
    obtain ⟨Y, hYe⟩ : ∃ z, w.heap.size = z := ⟨_, rfl⟩
    rw [hYe] at hY
    have HW0 := Lib.hid hW0
    have HYe := Lib.hid hYe
    have HY := Lib.hid hY
    have HB := Lib.hid hB
    have y0 := HY.out.cell 0 rfl
    have y1 := HY.out.cell 1 rfl
    have y2 := HY.out.cell 2 rfl
    have y3 := HY.out.cell 3 rfl
    have y4 := HY.out.cell 4 rfl
    have y5 := HY.out.cell 5 rfl
    have y6 := HY.out.cell 6 rfl
    have y7 := HY.out.cell 7 rfl
    clear hW0 hYe hY hB
    go_enter Try.func25, Try.ntmps25
    go_wp2_with fail
    rw [HW0.out]
    try rw [HYe.out]
    go_region
    go_wp2
    go_ret3
    exact ⟨rfl, HB.out.drew⟩
set_option maxRecDepth 100000 in
set_option maxHeartbeats 4000000 in
theorem rd_stale (v : Value) (n i : Nat) (L : List En) (ce ca cn a b d : Int) (ev ep ea eb ec : Nat) (ck : Int) (es : Bool) (w : World) (hv : IsX w 6 v n (row ecl L)) (hn : n ≤ 4096) (hi : i < n) (he : L[i]? = some ⟨ev, ep, ea, eb, ec, es⟩) (hk : 2 ≤ ck ∧ ck ≤ 4) (hne : ce ≠ (ep : Int)) :
    Calls Try.prog 25 #[v, .agg #[.int .i64 ck, .int .i64 ((i : Int) + 1), .int .i64 ce, .int .i64 ca, .int .i64 cn, .int .i64 a, .int .i64 b, .int .i64 d]] w fun e w' => e = .returned (.tuple #[v, .int .i64 0, .int .i64 13]) ∧ Below w.heap.size w w' := by
  have hlen := fun W => len_X (P := Try.prog) hv 58 3 86 Try.underlying58 W
  have HV := Lib.hid hv
  have HI := Lib.hid hi
  have HE := Lib.hid he
  have c1 : ¬ ((i : Int) + 1 < 1) := by omega
  have c2 : ¬ ((i : Int) + 1 > (n : Int)) := by omega
  have k1 : ¬ ck < 1 := by omega
  have k2 : ¬ ck > 4 := by omega
  have k3 : (ck == 1) = false := by rw [beq_eq_false_iff_ne]; omega
  have d1 : ((ep : Int) != ce) = true := bne_iff_ne.2 (fun h => hne h.symm)
  clear hne hk
  clear hv he hi
  have hY := Blk.new w #[.int .i64 ck, .int .i64 ((i : Int) + 1), .int .i64 ce, .int .i64 ca, .int .i64 cn, .int .i64 a, .int .i64 b, .int .i64 d] 33
  have hB := below_newR w (.cells #[.int .i64 ck, .int .i64 ((i : Int) + 1), .int .i64 ce, .int .i64 ca, .int .i64 cn, .int .i64 a, .int .i64 b, .int .i64 d] 33)
  obtain ⟨W0, hW0⟩ : ∃ z, w.alloc (.cells #[.int .i64 ck, .int .i64 ((i : Int) + 1), .int .i64 ce, .int .i64 ca, .int .i64 cn, .int .i64 a, .int .i64 b, .int .i64 d] 33) = z := ⟨_, rfl⟩
  rw [hW0] at hY hB
  obtain ⟨Y, hYe⟩ : ∃ z, w.heap.size = z := ⟨_, rfl⟩
  rw [hYe] at hY
  have HW0 := Lib.hid hW0
  have HYe := Lib.hid hYe
  have HY := Lib.hid hY
  have HB := Lib.hid hB
  have y0 := HY.out.cell 0 rfl
  have y1 := HY.out.cell 1 rfl
  have y2 := HY.out.cell 2 rfl
  have y3 := HY.out.cell 3 rfl
  have y4 := HY.out.cell 4 rfl
  have y5 := HY.out.cell 5 rfl
  have y6 := HY.out.cell 6 rfl
  have y7 := HY.out.cell 7 rfl
  clear hW0 hYe hY hB
  go_enter Try.func25, Try.ntmps25
  go_wp2_with fail
  rw [HW0.out]
  try rw [HYe.out]
  go_region
  have hX := HV.out.mono HB.out.drew (Nat.le_refl _)
  obtain ⟨bb, oo, hidx, _, hcell⟩ := indexAt_X (P := Try.prog) hX 58 86 Try.underlying58 Try.sizeEnR19 i HI.out
  have hce := fun q (hq : q < 6) => (hcell q hq).trans (row_get ecl_len HE.out q hq)
  have p0 : W0.drew.cell? ⟨bb, oo, none⟩ = some (.int .i64 (ev : Int)) := hce 0 (by decide)
  have p1 : W0.drew.cell? ⟨bb, oo + 1, none⟩ = some (.int .i64 (ep : Int)) := hce 1 (by decide)
  have p2 : W0.drew.cell? ⟨bb, oo + 2, none⟩ = some (.int .i64 (ea : Int)) := hce 2 (by decide)
  have p3 : W0.drew.cell? ⟨bb, oo + 3, none⟩ = some (.int .i64 (eb : Int)) := hce 3 (by decide)
  have p4 : W0.drew.cell? ⟨bb, oo + 4, none⟩ = some (.int .i64 (ec : Int)) := hce 4 (by decide)
  have p5 : W0.drew.cell? ⟨bb, oo + 5, none⟩ = some (.bool es) := hce 5 (by decide)
  have hZ := Blk.new W0.drew #[.int .i64 (ev : Int), .int .i64 (ep : Int), .int .i64 (ea : Int), .int .i64 (eb : Int), .int .i64 (ec : Int), .bool es] 86
  have hB := (HB.out.drew).trans ((below_newR W0.drew (.cells #[.int .i64 (ev : Int), .int .i64 (ep : Int), .int .i64 (ea : Int), .int .i64 (eb : Int), .int .i64 (ec : Int), .bool es] 86)).mono HB.out.drew.size)
  have hYl := HY.out.drew.lt
  have hY1 := HY.out.drew.alloc (.cells #[.int .i64 (ev : Int), .int .i64 (ep : Int), .int .i64 (ea : Int), .int .i64 (eb : Int), .int .i64 (ec : Int), .bool es] 86)
  have hY2 := HY.out.drew
  obtain ⟨w2, hw2⟩ : ∃ z, W0.drew = z := ⟨_, rfl⟩
  rw [hw2] at p0 p1 p2 p3 p4 p5 hZ hB hYl hY1 hY2
  rw [hw2]
  obtain ⟨W1, hW1⟩ : ∃ z, w2.alloc (.cells #[.int .i64 (ev : Int), .int .i64 (ep : Int), .int .i64 (ea : Int), .int .i64 (eb : Int), .int .i64 (ec : Int), .bool es] 86) = z := ⟨_, rfl⟩
  rw [hW1] at hZ hB hY1
  obtain ⟨Z, hZe⟩ : ∃ z, w2.heap.size = z := ⟨_, rfl⟩
  rw [hZe] at hZ hYl
  have HW1 := Lib.hid hW1
  have HZe := Lib.hid hZe
  have HZ := Lib.hid hZ
  have HB1 := Lib.hid hB
  have HY1 := Lib.hid hY1
  have HYZ := Lib.hid (show Y ≠ Z from by omega)
  clear y0 y1 y2 y3 y4 y5 y6 y7
  have y0 := hY2.cell 0 rfl
  have y1 := hY2.cell 1 rfl
  have y2 := hY2.cell 2 rfl
  have HW2 := Lib.hid hw2
  clear hX hcell hce hZ hB hW1 hZe hYl hY1 hY2 hw2
  go_upto_region 13 with fail
  rw [HW1.out]
  try rw [HZe.out]
  clear p0 p1 p2 p3 p4 p5 hidx y0 y1 y2
  have y0 := HY1.out.cell 0 rfl
  have y1 := HY1.out.cell 1 rfl
  have y2 := HY1.out.cell 2 rfl
  have y3 := HY1.out.cell 3 rfl
  have y4 := HY1.out.cell 4 rfl
  have z0 := HZ.out.cell 0 rfl
  have z1 := HZ.out.cell 1 rfl
  have z2 := HZ.out.cell 2 rfl
  have z3 := HZ.out.cell 3 rfl
  have z4 := HZ.out.cell 4 rfl
  have z5 := HZ.out.cell 5 rfl
  go_wp2
  go_ret3
  exact ⟨rfl, HB1.out⟩
set_option maxRecDepth 100000 in
set_option maxHeartbeats 4000000 in
theorem rd_sealed (v : Value) (n i : Nat) (L : List En) (ce ca cn a b d : Int) (ev ep ea eb ec : Nat) (w : World) (hv : IsX w 6 v n (row ecl L)) (hn : n ≤ 4096) (hi : i < n) (he : L[i]? = some ⟨ev, ep, ea, eb, ec, true⟩) :
    Calls Try.prog 25 #[v, .agg #[.int .i64 2, .int .i64 ((i : Int) + 1), .int .i64 (ep : Int), .int .i64 ca, .int .i64 cn, .int .i64 a, .int .i64 b, .int .i64 d]] w fun e w' => e = .returned (.tuple #[v, .int .i64 0, .int .i64 10]) ∧ Below w.heap.size w w' := by
  have hlen := fun W => len_X (P := Try.prog) hv 58 3 86 Try.underlying58 W
  have HV := Lib.hid hv
  have HI := Lib.hid hi
  have HE := Lib.hid he
  have c1 : ¬ ((i : Int) + 1 < 1) := by omega
  have c2 : ¬ ((i : Int) + 1 > (n : Int)) := by omega
  clear hv he hi
  have hY := Blk.new w #[.int .i64 2, .int .i64 ((i : Int) + 1), .int .i64 (ep : Int), .int .i64 ca, .int .i64 cn, .int .i64 a, .int .i64 b, .int .i64 d] 33
  have hB := below_newR w (.cells #[.int .i64 2, .int .i64 ((i : Int) + 1), .int .i64 (ep : Int), .int .i64 ca, .int .i64 cn, .int .i64 a, .int .i64 b, .int .i64 d] 33)
  obtain ⟨W0, hW0⟩ : ∃ z, w.alloc (.cells #[.int .i64 2, .int .i64 ((i : Int) + 1), .int .i64 (ep : Int), .int .i64 ca, .int .i64 cn, .int .i64 a, .int .i64 b, .int .i64 d] 33) = z := ⟨_, rfl⟩
  rw [hW0] at hY hB
  obtain ⟨Y, hYe⟩ : ∃ z, w.heap.size = z := ⟨_, rfl⟩
  rw [hYe] at hY
  have HW0 := Lib.hid hW0
  have HYe := Lib.hid hYe
  have HY := Lib.hid hY
  have HB := Lib.hid hB
  have y0 := HY.out.cell 0 rfl
  have y1 := HY.out.cell 1 rfl
  have y2 := HY.out.cell 2 rfl
  have y3 := HY.out.cell 3 rfl
  have y4 := HY.out.cell 4 rfl
  have y5 := HY.out.cell 5 rfl
  have y6 := HY.out.cell 6 rfl
  have y7 := HY.out.cell 7 rfl
  clear hW0 hYe hY hB
  go_enter Try.func25, Try.ntmps25
  go_wp2_with fail
  rw [HW0.out]
  try rw [HYe.out]
  go_region
  have hX := HV.out.mono HB.out.drew (Nat.le_refl _)
  obtain ⟨bb, oo, hidx, _, hcell⟩ := indexAt_X (P := Try.prog) hX 58 86 Try.underlying58 Try.sizeEnR19 i HI.out
  have hce := fun q (hq : q < 6) => (hcell q hq).trans (row_get ecl_len HE.out q hq)
  have p0 : W0.drew.cell? ⟨bb, oo, none⟩ = some (.int .i64 (ev : Int)) := hce 0 (by decide)
  have p1 : W0.drew.cell? ⟨bb, oo + 1, none⟩ = some (.int .i64 (ep : Int)) := hce 1 (by decide)
  have p2 : W0.drew.cell? ⟨bb, oo + 2, none⟩ = some (.int .i64 (ea : Int)) := hce 2 (by decide)
  have p3 : W0.drew.cell? ⟨bb, oo + 3, none⟩ = some (.int .i64 (eb : Int)) := hce 3 (by decide)
  have p4 : W0.drew.cell? ⟨bb, oo + 4, none⟩ = some (.int .i64 (ec : Int)) := hce 4 (by decide)
  have p5 : W0.drew.cell? ⟨bb, oo + 5, none⟩ = some (.bool true) := hce 5 (by decide)
  have hZ := Blk.new W0.drew #[.int .i64 (ev : Int), .int .i64 (ep : Int), .int .i64 (ea : Int), .int .i64 (eb : Int), .int .i64 (ec : Int), .bool true] 86
  have hB := (HB.out.drew).trans ((below_newR W0.drew (.cells #[.int .i64 (ev : Int), .int .i64 (ep : Int), .int .i64 (ea : Int), .int .i64 (eb : Int), .int .i64 (ec : Int), .bool true] 86)).mono HB.out.drew.size)
  have hYl := HY.out.drew.lt
  have hY1 := HY.out.drew.alloc (.cells #[.int .i64 (ev : Int), .int .i64 (ep : Int), .int .i64 (ea : Int), .int .i64 (eb : Int), .int .i64 (ec : Int), .bool true] 86)
  have hY2 := HY.out.drew
  obtain ⟨w2, hw2⟩ : ∃ z, W0.drew = z := ⟨_, rfl⟩
  rw [hw2] at p0 p1 p2 p3 p4 p5 hZ hB hYl hY1 hY2
  rw [hw2]
  obtain ⟨W1, hW1⟩ : ∃ z, w2.alloc (.cells #[.int .i64 (ev : Int), .int .i64 (ep : Int), .int .i64 (ea : Int), .int .i64 (eb : Int), .int .i64 (ec : Int), .bool true] 86) = z := ⟨_, rfl⟩
  rw [hW1] at hZ hB hY1
  obtain ⟨Z, hZe⟩ : ∃ z, w2.heap.size = z := ⟨_, rfl⟩
  rw [hZe] at hZ hYl
  have HW1 := Lib.hid hW1
  have HZe := Lib.hid hZe
  have HZ := Lib.hid hZ
  have HB1 := Lib.hid hB
  have HY1 := Lib.hid hY1
  have HYZ := Lib.hid (show Y ≠ Z from by omega)
  clear y0 y1 y2 y3 y4 y5 y6 y7
  have y0 := hY2.cell 0 rfl
  have y1 := hY2.cell 1 rfl
  have y2 := hY2.cell 2 rfl
  have HW2 := Lib.hid hw2
  clear hX hcell hce hZ hB hW1 hZe hYl hY1 hY2 hw2
  go_upto_region 13 with fail
  rw [HW1.out]
  try rw [HZe.out]
  clear p0 p1 p2 p3 p4 p5 hidx y0 y1 y2
  have y0 := HY1.out.cell 0 rfl
  have y1 := HY1.out.cell 1 rfl
  have y2 := HY1.out.cell 2 rfl
  have y3 := HY1.out.cell 3 rfl
  have y4 := HY1.out.cell 4 rfl
  have z0 := HZ.out.cell 0 rfl
  have z1 := HZ.out.cell 1 rfl
  have z2 := HZ.out.cell 2 rfl
  have z3 := HZ.out.cell 3 rfl
  have z4 := HZ.out.cell 4 rfl
  have z5 := HZ.out.cell 5 rfl
  go_wp2
  go_ret3
  exact ⟨rfl, HB1.out⟩
set_option maxRecDepth 100000 in
set_option maxHeartbeats 4000000 in
theorem rd_open (v : Value) (n i : Nat) (L : List En) (ce ca cn a b d : Int) (ev ep ea eb ec : Nat) (w : World) (hv : IsX w 6 v n (row ecl L)) (hn : n ≤ 4096) (hi : i < n) (he : L[i]? = some ⟨ev, ep, ea, eb, ec, false⟩) :
    Calls Try.prog 25 #[v, .agg #[.int .i64 3, .int .i64 ((i : Int) + 1), .int .i64 (ep : Int), .int .i64 ca, .int .i64 cn, .int .i64 a, .int .i64 b, .int .i64 d]] w fun e w' => e = .returned (.tuple #[v, .int .i64 0, .int .i64 8]) ∧ Below w.heap.size w w' := by
  have hlen := fun W => len_X (P := Try.prog) hv 58 3 86 Try.underlying58 W
  have HV := Lib.hid hv
  have HI := Lib.hid hi
  have HE := Lib.hid he
  have c1 : ¬ ((i : Int) + 1 < 1) := by omega
  have c2 : ¬ ((i : Int) + 1 > (n : Int)) := by omega
  clear hv he hi
  have hY := Blk.new w #[.int .i64 3, .int .i64 ((i : Int) + 1), .int .i64 (ep : Int), .int .i64 ca, .int .i64 cn, .int .i64 a, .int .i64 b, .int .i64 d] 33
  have hB := below_newR w (.cells #[.int .i64 3, .int .i64 ((i : Int) + 1), .int .i64 (ep : Int), .int .i64 ca, .int .i64 cn, .int .i64 a, .int .i64 b, .int .i64 d] 33)
  obtain ⟨W0, hW0⟩ : ∃ z, w.alloc (.cells #[.int .i64 3, .int .i64 ((i : Int) + 1), .int .i64 (ep : Int), .int .i64 ca, .int .i64 cn, .int .i64 a, .int .i64 b, .int .i64 d] 33) = z := ⟨_, rfl⟩
  rw [hW0] at hY hB
  obtain ⟨Y, hYe⟩ : ∃ z, w.heap.size = z := ⟨_, rfl⟩
  rw [hYe] at hY
  have HW0 := Lib.hid hW0
  have HYe := Lib.hid hYe
  have HY := Lib.hid hY
  have HB := Lib.hid hB
  have y0 := HY.out.cell 0 rfl
  have y1 := HY.out.cell 1 rfl
  have y2 := HY.out.cell 2 rfl
  have y3 := HY.out.cell 3 rfl
  have y4 := HY.out.cell 4 rfl
  have y5 := HY.out.cell 5 rfl
  have y6 := HY.out.cell 6 rfl
  have y7 := HY.out.cell 7 rfl
  clear hW0 hYe hY hB
  go_enter Try.func25, Try.ntmps25
  go_wp2_with fail
  rw [HW0.out]
  try rw [HYe.out]
  go_region
  have hX := HV.out.mono HB.out.drew (Nat.le_refl _)
  obtain ⟨bb, oo, hidx, _, hcell⟩ := indexAt_X (P := Try.prog) hX 58 86 Try.underlying58 Try.sizeEnR19 i HI.out
  have hce := fun q (hq : q < 6) => (hcell q hq).trans (row_get ecl_len HE.out q hq)
  have p0 : W0.drew.cell? ⟨bb, oo, none⟩ = some (.int .i64 (ev : Int)) := hce 0 (by decide)
  have p1 : W0.drew.cell? ⟨bb, oo + 1, none⟩ = some (.int .i64 (ep : Int)) := hce 1 (by decide)
  have p2 : W0.drew.cell? ⟨bb, oo + 2, none⟩ = some (.int .i64 (ea : Int)) := hce 2 (by decide)
  have p3 : W0.drew.cell? ⟨bb, oo + 3, none⟩ = some (.int .i64 (eb : Int)) := hce 3 (by decide)
  have p4 : W0.drew.cell? ⟨bb, oo + 4, none⟩ = some (.int .i64 (ec : Int)) := hce 4 (by decide)
  have p5 : W0.drew.cell? ⟨bb, oo + 5, none⟩ = some (.bool false) := hce 5 (by decide)
  have hZ := Blk.new W0.drew #[.int .i64 (ev : Int), .int .i64 (ep : Int), .int .i64 (ea : Int), .int .i64 (eb : Int), .int .i64 (ec : Int), .bool false] 86
  have hB := (HB.out.drew).trans ((below_newR W0.drew (.cells #[.int .i64 (ev : Int), .int .i64 (ep : Int), .int .i64 (ea : Int), .int .i64 (eb : Int), .int .i64 (ec : Int), .bool false] 86)).mono HB.out.drew.size)
  have hYl := HY.out.drew.lt
  have hY1 := HY.out.drew.alloc (.cells #[.int .i64 (ev : Int), .int .i64 (ep : Int), .int .i64 (ea : Int), .int .i64 (eb : Int), .int .i64 (ec : Int), .bool false] 86)
  have hY2 := HY.out.drew
  obtain ⟨w2, hw2⟩ : ∃ z, W0.drew = z := ⟨_, rfl⟩
  rw [hw2] at p0 p1 p2 p3 p4 p5 hZ hB hYl hY1 hY2
  rw [hw2]
  obtain ⟨W1, hW1⟩ : ∃ z, w2.alloc (.cells #[.int .i64 (ev : Int), .int .i64 (ep : Int), .int .i64 (ea : Int), .int .i64 (eb : Int), .int .i64 (ec : Int), .bool false] 86) = z := ⟨_, rfl⟩
  rw [hW1] at hZ hB hY1
  obtain ⟨Z, hZe⟩ : ∃ z, w2.heap.size = z := ⟨_, rfl⟩
  rw [hZe] at hZ hYl
  have HW1 := Lib.hid hW1
  have HZe := Lib.hid hZe
  have HZ := Lib.hid hZ
  have HB1 := Lib.hid hB
  have HY1 := Lib.hid hY1
  have HYZ := Lib.hid (show Y ≠ Z from by omega)
  clear y0 y1 y2 y3 y4 y5 y6 y7
  have y0 := hY2.cell 0 rfl
  have y1 := hY2.cell 1 rfl
  have y2 := hY2.cell 2 rfl
  have HW2 := Lib.hid hw2
  clear hX hcell hce hZ hB hW1 hZe hYl hY1 hY2 hw2
  go_upto_region 13 with fail
  rw [HW1.out]
  try rw [HZe.out]
  clear p0 p1 p2 p3 p4 p5 hidx y0 y1 y2
  have y0 := HY1.out.cell 0 rfl
  have y1 := HY1.out.cell 1 rfl
  have y2 := HY1.out.cell 2 rfl
  have y3 := HY1.out.cell 3 rfl
  have y4 := HY1.out.cell 4 rfl
  have z0 := HZ.out.cell 0 rfl
  have z1 := HZ.out.cell 1 rfl
  have z2 := HZ.out.cell 2 rfl
  have z3 := HZ.out.cell 3 rfl
  have z4 := HZ.out.cell 4 rfl
  have z5 := HZ.out.cell 5 rfl
  go_wp2
  go_ret3
  exact ⟨rfl, HB1.out⟩
set_option maxRecDepth 100000 in
set_option maxHeartbeats 4000000 in
theorem rd_arg (v : Value) (n i : Nat) (L : List En) (ce ca cn a b d : Int) (ev ep ea eb ec : Nat) (es : Bool) (w : World) (hv : IsX w 6 v n (row ecl L)) (hn : n ≤ 4096) (hi : i < n) (he : L[i]? = some ⟨ev, ep, ea, eb, ec, es⟩) (hx : ¬ (0 ≤ ca ∧ ca ≤ 2 ∧ near cn)) :
    Calls Try.prog 25 #[v, .agg #[.int .i64 4, .int .i64 ((i : Int) + 1), .int .i64 (ep : Int), .int .i64 ca, .int .i64 cn, .int .i64 a, .int .i64 b, .int .i64 d]] w fun e w' => e = .returned (.tuple #[v, .int .i64 0, .int .i64 1]) ∧ Below w.heap.size w w' := by
  have hlen := fun W => len_X (P := Try.prog) hv 58 3 86 Try.underlying58 W
  have HV := Lib.hid hv
  have HI := Lib.hid hi
  have HE := Lib.hid he
  have c1 : ¬ ((i : Int) + 1 < 1) := by omega
  have c2 : ¬ ((i : Int) + 1 > (n : Int)) := by omega
  obtain ⟨Dn, hd⟩ : ∃ D, decide (near cn) = D := ⟨_, rfl⟩
  by_cases h1 : ca < 0
  · clear hx hd
    clear hv he hi
    have hY := Blk.new w #[.int .i64 4, .int .i64 ((i : Int) + 1), .int .i64 (ep : Int), .int .i64 ca, .int .i64 cn, .int .i64 a, .int .i64 b, .int .i64 d] 33
    have hB := below_newR w (.cells #[.int .i64 4, .int .i64 ((i : Int) + 1), .int .i64 (ep : Int), .int .i64 ca, .int .i64 cn, .int .i64 a, .int .i64 b, .int .i64 d] 33)
    obtain ⟨W0, hW0⟩ : ∃ z, w.alloc (.cells #[.int .i64 4, .int .i64 ((i : Int) + 1), .int .i64 (ep : Int), .int .i64 ca, .int .i64 cn, .int .i64 a, .int .i64 b, .int .i64 d] 33) = z := ⟨_, rfl⟩
    rw [hW0] at hY hB
    obtain ⟨Y, hYe⟩ : ∃ z, w.heap.size = z := ⟨_, rfl⟩
    rw [hYe] at hY
    have HW0 := Lib.hid hW0
    have HYe := Lib.hid hYe
    have HY := Lib.hid hY
    have HB := Lib.hid hB
    have y0 := HY.out.cell 0 rfl
    have y1 := HY.out.cell 1 rfl
    have y2 := HY.out.cell 2 rfl
    have y3 := HY.out.cell 3 rfl
    have y4 := HY.out.cell 4 rfl
    have y5 := HY.out.cell 5 rfl
    have y6 := HY.out.cell 6 rfl
    have y7 := HY.out.cell 7 rfl
    clear hW0 hYe hY hB
    go_enter Try.func25, Try.ntmps25
    go_wp2_with fail
    rw [HW0.out]
    try rw [HYe.out]
    go_region
    have hX := HV.out.mono HB.out.drew (Nat.le_refl _)
    obtain ⟨bb, oo, hidx, _, hcell⟩ := indexAt_X (P := Try.prog) hX 58 86 Try.underlying58 Try.sizeEnR19 i HI.out
    have hce := fun q (hq : q < 6) => (hcell q hq).trans (row_get ecl_len HE.out q hq)
    have p0 : W0.drew.cell? ⟨bb, oo, none⟩ = some (.int .i64 (ev : Int)) := hce 0 (by decide)
    have p1 : W0.drew.cell? ⟨bb, oo + 1, none⟩ = some (.int .i64 (ep : Int)) := hce 1 (by decide)
    have p2 : W0.drew.cell? ⟨bb, oo + 2, none⟩ = some (.int .i64 (ea : Int)) := hce 2 (by decide)
    have p3 : W0.drew.cell? ⟨bb, oo + 3, none⟩ = some (.int .i64 (eb : Int)) := hce 3 (by decide)
    have p4 : W0.drew.cell? ⟨bb, oo + 4, none⟩ = some (.int .i64 (ec : Int)) := hce 4 (by decide)
    have p5 : W0.drew.cell? ⟨bb, oo + 5, none⟩ = some (.bool es) := hce 5 (by decide)
    have hZ := Blk.new W0.drew #[.int .i64 (ev : Int), .int .i64 (ep : Int), .int .i64 (ea : Int), .int .i64 (eb : Int), .int .i64 (ec : Int), .bool es] 86
    have hB := (HB.out.drew).trans ((below_newR W0.drew (.cells #[.int .i64 (ev : Int), .int .i64 (ep : Int), .int .i64 (ea : Int), .int .i64 (eb : Int), .int .i64 (ec : Int), .bool es] 86)).mono HB.out.drew.size)
    have hYl := HY.out.drew.lt
    have hY1 := HY.out.drew.alloc (.cells #[.int .i64 (ev : Int), .int .i64 (ep : Int), .int .i64 (ea : Int), .int .i64 (eb : Int), .int .i64 (ec : Int), .bool es] 86)
    have hY2 := HY.out.drew
    obtain ⟨w2, hw2⟩ : ∃ z, W0.drew = z := ⟨_, rfl⟩
    rw [hw2] at p0 p1 p2 p3 p4 p5 hZ hB hYl hY1 hY2
    rw [hw2]
    obtain ⟨W1, hW1⟩ : ∃ z, w2.alloc (.cells #[.int .i64 (ev : Int), .int .i64 (ep : Int), .int .i64 (ea : Int), .int .i64 (eb : Int), .int .i64 (ec : Int), .bool es] 86) = z := ⟨_, rfl⟩
    rw [hW1] at hZ hB hY1
    obtain ⟨Z, hZe⟩ : ∃ z, w2.heap.size = z := ⟨_, rfl⟩
    rw [hZe] at hZ hYl
    have HW1 := Lib.hid hW1
    have HZe := Lib.hid hZe
    have HZ := Lib.hid hZ
    have HB1 := Lib.hid hB
    have HY1 := Lib.hid hY1
    have HYZ := Lib.hid (show Y ≠ Z from by omega)
    clear y0 y1 y2 y3 y4 y5 y6 y7
    have y0 := hY2.cell 0 rfl
    have y1 := hY2.cell 1 rfl
    have y2 := hY2.cell 2 rfl
    have HW2 := Lib.hid hw2
    clear hX hcell hce hZ hB hW1 hZe hYl hY1 hY2 hw2
    go_upto_region 13 with fail
    rw [HW1.out]
    try rw [HZe.out]
    clear p0 p1 p2 p3 p4 p5 hidx y0 y1 y2
    have y0 := HY1.out.cell 0 rfl
    have y1 := HY1.out.cell 1 rfl
    have y2 := HY1.out.cell 2 rfl
    have y3 := HY1.out.cell 3 rfl
    have y4 := HY1.out.cell 4 rfl
    have z0 := HZ.out.cell 0 rfl
    have z1 := HZ.out.cell 1 rfl
    have z2 := HZ.out.cell 2 rfl
    have z3 := HZ.out.cell 3 rfl
    have z4 := HZ.out.cell 4 rfl
    have z5 := HZ.out.cell 5 rfl
    go_wp2_with (go_at_call 39; first | (with_reducible refine (near_yes _ _ (by assumption)).mono ?_; rintro e wc ⟨rfl, rfl⟩) | (with_reducible refine (near_no _ _ (by assumption)).mono ?_; rintro e wc ⟨rfl, rfl⟩))
    go_ret3
    exact ⟨rfl, HB1.out⟩
  · by_cases h2 : ca > 2
    · clear hx hd
      clear hv he hi
      have hY := Blk.new w #[.int .i64 4, .int .i64 ((i : Int) + 1), .int .i64 (ep : Int), .int .i64 ca, .int .i64 cn, .int .i64 a, .int .i64 b, .int .i64 d] 33
      have hB := below_newR w (.cells #[.int .i64 4, .int .i64 ((i : Int) + 1), .int .i64 (ep : Int), .int .i64 ca, .int .i64 cn, .int .i64 a, .int .i64 b, .int .i64 d] 33)
      obtain ⟨W0, hW0⟩ : ∃ z, w.alloc (.cells #[.int .i64 4, .int .i64 ((i : Int) + 1), .int .i64 (ep : Int), .int .i64 ca, .int .i64 cn, .int .i64 a, .int .i64 b, .int .i64 d] 33) = z := ⟨_, rfl⟩
      rw [hW0] at hY hB
      obtain ⟨Y, hYe⟩ : ∃ z, w.heap.size = z := ⟨_, rfl⟩
      rw [hYe] at hY
      have HW0 := Lib.hid hW0
      have HYe := Lib.hid hYe
      have HY := Lib.hid hY
      have HB := Lib.hid hB
      have y0 := HY.out.cell 0 rfl
      have y1 := HY.out.cell 1 rfl
      have y2 := HY.out.cell 2 rfl
      have y3 := HY.out.cell 3 rfl
      have y4 := HY.out.cell 4 rfl
      have y5 := HY.out.cell 5 rfl
      have y6 := HY.out.cell 6 rfl
      have y7 := HY.out.cell 7 rfl
      clear hW0 hYe hY hB
      go_enter Try.func25, Try.ntmps25
      go_wp2_with fail
      rw [HW0.out]
      try rw [HYe.out]
      go_region
      have hX := HV.out.mono HB.out.drew (Nat.le_refl _)
      obtain ⟨bb, oo, hidx, _, hcell⟩ := indexAt_X (P := Try.prog) hX 58 86 Try.underlying58 Try.sizeEnR19 i HI.out
      have hce := fun q (hq : q < 6) => (hcell q hq).trans (row_get ecl_len HE.out q hq)
      have p0 : W0.drew.cell? ⟨bb, oo, none⟩ = some (.int .i64 (ev : Int)) := hce 0 (by decide)
      have p1 : W0.drew.cell? ⟨bb, oo + 1, none⟩ = some (.int .i64 (ep : Int)) := hce 1 (by decide)
      have p2 : W0.drew.cell? ⟨bb, oo + 2, none⟩ = some (.int .i64 (ea : Int)) := hce 2 (by decide)
      have p3 : W0.drew.cell? ⟨bb, oo + 3, none⟩ = some (.int .i64 (eb : Int)) := hce 3 (by decide)
      have p4 : W0.drew.cell? ⟨bb, oo + 4, none⟩ = some (.int .i64 (ec : Int)) := hce 4 (by decide)
      have p5 : W0.drew.cell? ⟨bb, oo + 5, none⟩ = some (.bool es) := hce 5 (by decide)
      have hZ := Blk.new W0.drew #[.int .i64 (ev : Int), .int .i64 (ep : Int), .int .i64 (ea : Int), .int .i64 (eb : Int), .int .i64 (ec : Int), .bool es] 86
      have hB := (HB.out.drew).trans ((below_newR W0.drew (.cells #[.int .i64 (ev : Int), .int .i64 (ep : Int), .int .i64 (ea : Int), .int .i64 (eb : Int), .int .i64 (ec : Int), .bool es] 86)).mono HB.out.drew.size)
      have hYl := HY.out.drew.lt
      have hY1 := HY.out.drew.alloc (.cells #[.int .i64 (ev : Int), .int .i64 (ep : Int), .int .i64 (ea : Int), .int .i64 (eb : Int), .int .i64 (ec : Int), .bool es] 86)
      have hY2 := HY.out.drew
      obtain ⟨w2, hw2⟩ : ∃ z, W0.drew = z := ⟨_, rfl⟩
      rw [hw2] at p0 p1 p2 p3 p4 p5 hZ hB hYl hY1 hY2
      rw [hw2]
      obtain ⟨W1, hW1⟩ : ∃ z, w2.alloc (.cells #[.int .i64 (ev : Int), .int .i64 (ep : Int), .int .i64 (ea : Int), .int .i64 (eb : Int), .int .i64 (ec : Int), .bool es] 86) = z := ⟨_, rfl⟩
      rw [hW1] at hZ hB hY1
      obtain ⟨Z, hZe⟩ : ∃ z, w2.heap.size = z := ⟨_, rfl⟩
      rw [hZe] at hZ hYl
      have HW1 := Lib.hid hW1
      have HZe := Lib.hid hZe
      have HZ := Lib.hid hZ
      have HB1 := Lib.hid hB
      have HY1 := Lib.hid hY1
      have HYZ := Lib.hid (show Y ≠ Z from by omega)
      clear y0 y1 y2 y3 y4 y5 y6 y7
      have y0 := hY2.cell 0 rfl
      have y1 := hY2.cell 1 rfl
      have y2 := hY2.cell 2 rfl
      have HW2 := Lib.hid hw2
      clear hX hcell hce hZ hB hW1 hZe hYl hY1 hY2 hw2
      go_upto_region 13 with fail
      rw [HW1.out]
      try rw [HZe.out]
      clear p0 p1 p2 p3 p4 p5 hidx y0 y1 y2
      have y0 := HY1.out.cell 0 rfl
      have y1 := HY1.out.cell 1 rfl
      have y2 := HY1.out.cell 2 rfl
      have y3 := HY1.out.cell 3 rfl
      have y4 := HY1.out.cell 4 rfl
      have z0 := HZ.out.cell 0 rfl
      have z1 := HZ.out.cell 1 rfl
      have z2 := HZ.out.cell 2 rfl
      have z3 := HZ.out.cell 3 rfl
      have z4 := HZ.out.cell 4 rfl
      have z5 := HZ.out.cell 5 rfl
      go_wp2_with (go_at_call 39; first | (with_reducible refine (near_yes _ _ (by assumption)).mono ?_; rintro e wc ⟨rfl, rfl⟩) | (with_reducible refine (near_no _ _ (by assumption)).mono ?_; rintro e wc ⟨rfl, rfl⟩))
      go_ret3
      exact ⟨rfl, HB1.out⟩
    · obtain rfl : Dn = false := by
        cases Dn with
        | false => rfl
        | true => exact absurd ⟨by omega, by omega, of_decide_eq_true hd⟩ hx
      clear hx
      clear hv he hi
      have hY := Blk.new w #[.int .i64 4, .int .i64 ((i : Int) + 1), .int .i64 (ep : Int), .int .i64 ca, .int .i64 cn, .int .i64 a, .int .i64 b, .int .i64 d] 33
      have hB := below_newR w (.cells #[.int .i64 4, .int .i64 ((i : Int) + 1), .int .i64 (ep : Int), .int .i64 ca, .int .i64 cn, .int .i64 a, .int .i64 b, .int .i64 d] 33)
      obtain ⟨W0, hW0⟩ : ∃ z, w.alloc (.cells #[.int .i64 4, .int .i64 ((i : Int) + 1), .int .i64 (ep : Int), .int .i64 ca, .int .i64 cn, .int .i64 a, .int .i64 b, .int .i64 d] 33) = z := ⟨_, rfl⟩
      rw [hW0] at hY hB
      obtain ⟨Y, hYe⟩ : ∃ z, w.heap.size = z := ⟨_, rfl⟩
      rw [hYe] at hY
      have HW0 := Lib.hid hW0
      have HYe := Lib.hid hYe
      have HY := Lib.hid hY
      have HB := Lib.hid hB
      have y0 := HY.out.cell 0 rfl
      have y1 := HY.out.cell 1 rfl
      have y2 := HY.out.cell 2 rfl
      have y3 := HY.out.cell 3 rfl
      have y4 := HY.out.cell 4 rfl
      have y5 := HY.out.cell 5 rfl
      have y6 := HY.out.cell 6 rfl
      have y7 := HY.out.cell 7 rfl
      clear hW0 hYe hY hB
      go_enter Try.func25, Try.ntmps25
      go_wp2_with fail
      rw [HW0.out]
      try rw [HYe.out]
      go_region
      have hX := HV.out.mono HB.out.drew (Nat.le_refl _)
      obtain ⟨bb, oo, hidx, _, hcell⟩ := indexAt_X (P := Try.prog) hX 58 86 Try.underlying58 Try.sizeEnR19 i HI.out
      have hce := fun q (hq : q < 6) => (hcell q hq).trans (row_get ecl_len HE.out q hq)
      have p0 : W0.drew.cell? ⟨bb, oo, none⟩ = some (.int .i64 (ev : Int)) := hce 0 (by decide)
      have p1 : W0.drew.cell? ⟨bb, oo + 1, none⟩ = some (.int .i64 (ep : Int)) := hce 1 (by decide)
      have p2 : W0.drew.cell? ⟨bb, oo + 2, none⟩ = some (.int .i64 (ea : Int)) := hce 2 (by decide)
      have p3 : W0.drew.cell? ⟨bb, oo + 3, none⟩ = some (.int .i64 (eb : Int)) := hce 3 (by decide)
      have p4 : W0.drew.cell? ⟨bb, oo + 4, none⟩ = some (.int .i64 (ec : Int)) := hce 4 (by decide)
      have p5 : W0.drew.cell? ⟨bb, oo + 5, none⟩ = some (.bool es) := hce 5 (by decide)
      have hZ := Blk.new W0.drew #[.int .i64 (ev : Int), .int .i64 (ep : Int), .int .i64 (ea : Int), .int .i64 (eb : Int), .int .i64 (ec : Int), .bool es] 86
      have hB := (HB.out.drew).trans ((below_newR W0.drew (.cells #[.int .i64 (ev : Int), .int .i64 (ep : Int), .int .i64 (ea : Int), .int .i64 (eb : Int), .int .i64 (ec : Int), .bool es] 86)).mono HB.out.drew.size)
      have hYl := HY.out.drew.lt
      have hY1 := HY.out.drew.alloc (.cells #[.int .i64 (ev : Int), .int .i64 (ep : Int), .int .i64 (ea : Int), .int .i64 (eb : Int), .int .i64 (ec : Int), .bool es] 86)
      have hY2 := HY.out.drew
      obtain ⟨w2, hw2⟩ : ∃ z, W0.drew = z := ⟨_, rfl⟩
      rw [hw2] at p0 p1 p2 p3 p4 p5 hZ hB hYl hY1 hY2
      rw [hw2]
      obtain ⟨W1, hW1⟩ : ∃ z, w2.alloc (.cells #[.int .i64 (ev : Int), .int .i64 (ep : Int), .int .i64 (ea : Int), .int .i64 (eb : Int), .int .i64 (ec : Int), .bool es] 86) = z := ⟨_, rfl⟩
      rw [hW1] at hZ hB hY1
      obtain ⟨Z, hZe⟩ : ∃ z, w2.heap.size = z := ⟨_, rfl⟩
      rw [hZe] at hZ hYl
      have HW1 := Lib.hid hW1
      have HZe := Lib.hid hZe
      have HZ := Lib.hid hZ
      have HB1 := Lib.hid hB
      have HY1 := Lib.hid hY1
      have HYZ := Lib.hid (show Y ≠ Z from by omega)
      clear y0 y1 y2 y3 y4 y5 y6 y7
      have y0 := hY2.cell 0 rfl
      have y1 := hY2.cell 1 rfl
      have y2 := hY2.cell 2 rfl
      have HW2 := Lib.hid hw2
      clear hX hcell hce hZ hB hW1 hZe hYl hY1 hY2 hw2
      go_upto_region 13 with fail
      rw [HW1.out]
      try rw [HZe.out]
      clear p0 p1 p2 p3 p4 p5 hidx y0 y1 y2
      have y0 := HY1.out.cell 0 rfl
      have y1 := HY1.out.cell 1 rfl
      have y2 := HY1.out.cell 2 rfl
      have y3 := HY1.out.cell 3 rfl
      have y4 := HY1.out.cell 4 rfl
      have z0 := HZ.out.cell 0 rfl
      have z1 := HZ.out.cell 1 rfl
      have z2 := HZ.out.cell 2 rfl
      have z3 := HZ.out.cell 3 rfl
      have z4 := HZ.out.cell 4 rfl
      have z5 := HZ.out.cell 5 rfl
      go_wp2_with (go_at_call 39; first | (with_reducible refine (near_yes _ _ (by assumption)).mono ?_; rintro e wc ⟨rfl, rfl⟩) | (with_reducible refine (near_no _ _ (by assumption)).mono ?_; rintro e wc ⟨rfl, rfl⟩))
      go_ret3
      exact ⟨rfl, HB1.out⟩
set_option maxRecDepth 100000 in
set_option maxHeartbeats 4000000 in
theorem rd_there (v : Value) (n i : Nat) (L : List En) (ce ca cn a b d : Int) (ev ep ea eb ec : Nat) (es : Bool) (w : World) (hv : IsX w 6 v n (row ecl L)) (hn : n ≤ 4096) (hi : i < n) (he : L[i]? = some ⟨ev, ep, ea, eb, ec, es⟩) (h1 : 0 ≤ ca) (h2 : ca ≤ 2) (hnr : near cn) (hx : (ea : Int) = cn ∨ (eb : Int) = cn ∨ (ec : Int) = cn) :
    Calls Try.prog 25 #[v, .agg #[.int .i64 4, .int .i64 ((i : Int) + 1), .int .i64 (ep : Int), .int .i64 ca, .int .i64 cn, .int .i64 a, .int .i64 b, .int .i64 d]] w fun e w' => e = .returned (.tuple #[v, .int .i64 0, .int .i64 8]) ∧ Below w.heap.size w w' := by
  have hlen := fun W => len_X (P := Try.prog) hv 58 3 86 Try.underlying58 W
  have HV := Lib.hid hv
  have HI := Lib.hid hi
  have HE := Lib.hid he
  have c1 : ¬ ((i : Int) + 1 < 1) := by omega
  have c2 : ¬ ((i : Int) + 1 > (n : Int)) := by omega
  have hd : decide (near cn) = true := decide_eq_true hnr
  have g1 : ¬ ca < 0 := by omega
  have g2 : ¬ ca > 2 := by omega
  clear hnr h1 h2
  by_cases q1 : (ea : Int) = cn
  · have e1 : ((ea : Int) == cn) = true := beq_iff_eq.2 q1
    clear hx q1
    clear hv he hi
    have hY := Blk.new w #[.int .i64 4, .int .i64 ((i : Int) + 1), .int .i64 (ep : Int), .int .i64 ca, .int .i64 cn, .int .i64 a, .int .i64 b, .int .i64 d] 33
    have hB := below_newR w (.cells #[.int .i64 4, .int .i64 ((i : Int) + 1), .int .i64 (ep : Int), .int .i64 ca, .int .i64 cn, .int .i64 a, .int .i64 b, .int .i64 d] 33)
    obtain ⟨W0, hW0⟩ : ∃ z, w.alloc (.cells #[.int .i64 4, .int .i64 ((i : Int) + 1), .int .i64 (ep : Int), .int .i64 ca, .int .i64 cn, .int .i64 a, .int .i64 b, .int .i64 d] 33) = z := ⟨_, rfl⟩
    rw [hW0] at hY hB
    obtain ⟨Y, hYe⟩ : ∃ z, w.heap.size = z := ⟨_, rfl⟩
    rw [hYe] at hY
    have HW0 := Lib.hid hW0
    have HYe := Lib.hid hYe
    have HY := Lib.hid hY
    have HB := Lib.hid hB
    have y0 := HY.out.cell 0 rfl
    have y1 := HY.out.cell 1 rfl
    have y2 := HY.out.cell 2 rfl
    have y3 := HY.out.cell 3 rfl
    have y4 := HY.out.cell 4 rfl
    have y5 := HY.out.cell 5 rfl
    have y6 := HY.out.cell 6 rfl
    have y7 := HY.out.cell 7 rfl
    clear hW0 hYe hY hB
    go_enter Try.func25, Try.ntmps25
    go_wp2_with fail
    rw [HW0.out]
    try rw [HYe.out]
    go_region
    have hX := HV.out.mono HB.out.drew (Nat.le_refl _)
    obtain ⟨bb, oo, hidx, _, hcell⟩ := indexAt_X (P := Try.prog) hX 58 86 Try.underlying58 Try.sizeEnR19 i HI.out
    have hce := fun q (hq : q < 6) => (hcell q hq).trans (row_get ecl_len HE.out q hq)
    have p0 : W0.drew.cell? ⟨bb, oo, none⟩ = some (.int .i64 (ev : Int)) := hce 0 (by decide)
    have p1 : W0.drew.cell? ⟨bb, oo + 1, none⟩ = some (.int .i64 (ep : Int)) := hce 1 (by decide)
    have p2 : W0.drew.cell? ⟨bb, oo + 2, none⟩ = some (.int .i64 (ea : Int)) := hce 2 (by decide)
    have p3 : W0.drew.cell? ⟨bb, oo + 3, none⟩ = some (.int .i64 (eb : Int)) := hce 3 (by decide)
    have p4 : W0.drew.cell? ⟨bb, oo + 4, none⟩ = some (.int .i64 (ec : Int)) := hce 4 (by decide)
    have p5 : W0.drew.cell? ⟨bb, oo + 5, none⟩ = some (.bool es) := hce 5 (by decide)
    have hZ := Blk.new W0.drew #[.int .i64 (ev : Int), .int .i64 (ep : Int), .int .i64 (ea : Int), .int .i64 (eb : Int), .int .i64 (ec : Int), .bool es] 86
    have hB := (HB.out.drew).trans ((below_newR W0.drew (.cells #[.int .i64 (ev : Int), .int .i64 (ep : Int), .int .i64 (ea : Int), .int .i64 (eb : Int), .int .i64 (ec : Int), .bool es] 86)).mono HB.out.drew.size)
    have hYl := HY.out.drew.lt
    have hY1 := HY.out.drew.alloc (.cells #[.int .i64 (ev : Int), .int .i64 (ep : Int), .int .i64 (ea : Int), .int .i64 (eb : Int), .int .i64 (ec : Int), .bool es] 86)
    have hY2 := HY.out.drew
    obtain ⟨w2, hw2⟩ : ∃ z, W0.drew = z := ⟨_, rfl⟩
    rw [hw2] at p0 p1 p2 p3 p4 p5 hZ hB hYl hY1 hY2
    rw [hw2]
    obtain ⟨W1, hW1⟩ : ∃ z, w2.alloc (.cells #[.int .i64 (ev : Int), .int .i64 (ep : Int), .int .i64 (ea : Int), .int .i64 (eb : Int), .int .i64 (ec : Int), .bool es] 86) = z := ⟨_, rfl⟩
    rw [hW1] at hZ hB hY1
    obtain ⟨Z, hZe⟩ : ∃ z, w2.heap.size = z := ⟨_, rfl⟩
    rw [hZe] at hZ hYl
    have HW1 := Lib.hid hW1
    have HZe := Lib.hid hZe
    have HZ := Lib.hid hZ
    have HB1 := Lib.hid hB
    have HY1 := Lib.hid hY1
    have HYZ := Lib.hid (show Y ≠ Z from by omega)
    clear y0 y1 y2 y3 y4 y5 y6 y7
    have y0 := hY2.cell 0 rfl
    have y1 := hY2.cell 1 rfl
    have y2 := hY2.cell 2 rfl
    have HW2 := Lib.hid hw2
    clear hX hcell hce hZ hB hW1 hZe hYl hY1 hY2 hw2
    go_upto_region 13 with fail
    rw [HW1.out]
    try rw [HZe.out]
    clear p0 p1 p2 p3 p4 p5 hidx y0 y1 y2
    have y0 := HY1.out.cell 0 rfl
    have y1 := HY1.out.cell 1 rfl
    have y2 := HY1.out.cell 2 rfl
    have y3 := HY1.out.cell 3 rfl
    have y4 := HY1.out.cell 4 rfl
    have z0 := HZ.out.cell 0 rfl
    have z1 := HZ.out.cell 1 rfl
    have z2 := HZ.out.cell 2 rfl
    have z3 := HZ.out.cell 3 rfl
    have z4 := HZ.out.cell 4 rfl
    have z5 := HZ.out.cell 5 rfl
    go_wp2_with (go_at_call 39; first | (with_reducible refine (near_yes _ _ (by assumption)).mono ?_; rintro e wc ⟨rfl, rfl⟩) | (with_reducible refine (near_no _ _ (by assumption)).mono ?_; rintro e wc ⟨rfl, rfl⟩))
    go_ret3
    exact ⟨rfl, HB1.out⟩
  · have e1 : ((ea : Int) == cn) = false := beq_eq_false_iff_ne.2 q1
    by_cases q2 : (eb : Int) = cn
    · have e2 : ((eb : Int) == cn) = true := beq_iff_eq.2 q2
      clear hx q1 q2
      clear hv he hi
      have hY := Blk.new w #[.int .i64 4, .int .i64 ((i : Int) + 1), .int .i64 (ep : Int), .int .i64 ca, .int .i64 cn, .int .i64 a, .int .i64 b, .int .i64 d] 33
      have hB := below_newR w (.cells #[.int .i64 4, .int .i64 ((i : Int) + 1), .int .i64 (ep : Int), .int .i64 ca, .int .i64 cn, .int .i64 a, .int .i64 b, .int .i64 d] 33)
      obtain ⟨W0, hW0⟩ : ∃ z, w.alloc (.cells #[.int .i64 4, .int .i64 ((i : Int) + 1), .int .i64 (ep : Int), .int .i64 ca, .int .i64 cn, .int .i64 a, .int .i64 b, .int .i64 d] 33) = z := ⟨_, rfl⟩
      rw [hW0] at hY hB
      obtain ⟨Y, hYe⟩ : ∃ z, w.heap.size = z := ⟨_, rfl⟩
      rw [hYe] at hY
      have HW0 := Lib.hid hW0
      have HYe := Lib.hid hYe
      have HY := Lib.hid hY
      have HB := Lib.hid hB
      have y0 := HY.out.cell 0 rfl
      have y1 := HY.out.cell 1 rfl
      have y2 := HY.out.cell 2 rfl
      have y3 := HY.out.cell 3 rfl
      have y4 := HY.out.cell 4 rfl
      have y5 := HY.out.cell 5 rfl
      have y6 := HY.out.cell 6 rfl
      have y7 := HY.out.cell 7 rfl
      clear hW0 hYe hY hB
      go_enter Try.func25, Try.ntmps25
      go_wp2_with fail
      rw [HW0.out]
      try rw [HYe.out]
      go_region
      have hX := HV.out.mono HB.out.drew (Nat.le_refl _)
      obtain ⟨bb, oo, hidx, _, hcell⟩ := indexAt_X (P := Try.prog) hX 58 86 Try.underlying58 Try.sizeEnR19 i HI.out
      have hce := fun q (hq : q < 6) => (hcell q hq).trans (row_get ecl_len HE.out q hq)
      have p0 : W0.drew.cell? ⟨bb, oo, none⟩ = some (.int .i64 (ev : Int)) := hce 0 (by decide)
      have p1 : W0.drew.cell? ⟨bb, oo + 1, none⟩ = some (.int .i64 (ep : Int)) := hce 1 (by decide)
      have p2 : W0.drew.cell? ⟨bb, oo + 2, none⟩ = some (.int .i64 (ea : Int)) := hce 2 (by decide)
      have p3 : W0.drew.cell? ⟨bb, oo + 3, none⟩ = some (.int .i64 (eb : Int)) := hce 3 (by decide)
      have p4 : W0.drew.cell? ⟨bb, oo + 4, none⟩ = some (.int .i64 (ec : Int)) := hce 4 (by decide)
      have p5 : W0.drew.cell? ⟨bb, oo + 5, none⟩ = some (.bool es) := hce 5 (by decide)
      have hZ := Blk.new W0.drew #[.int .i64 (ev : Int), .int .i64 (ep : Int), .int .i64 (ea : Int), .int .i64 (eb : Int), .int .i64 (ec : Int), .bool es] 86
      have hB := (HB.out.drew).trans ((below_newR W0.drew (.cells #[.int .i64 (ev : Int), .int .i64 (ep : Int), .int .i64 (ea : Int), .int .i64 (eb : Int), .int .i64 (ec : Int), .bool es] 86)).mono HB.out.drew.size)
      have hYl := HY.out.drew.lt
      have hY1 := HY.out.drew.alloc (.cells #[.int .i64 (ev : Int), .int .i64 (ep : Int), .int .i64 (ea : Int), .int .i64 (eb : Int), .int .i64 (ec : Int), .bool es] 86)
      have hY2 := HY.out.drew
      obtain ⟨w2, hw2⟩ : ∃ z, W0.drew = z := ⟨_, rfl⟩
      rw [hw2] at p0 p1 p2 p3 p4 p5 hZ hB hYl hY1 hY2
      rw [hw2]
      obtain ⟨W1, hW1⟩ : ∃ z, w2.alloc (.cells #[.int .i64 (ev : Int), .int .i64 (ep : Int), .int .i64 (ea : Int), .int .i64 (eb : Int), .int .i64 (ec : Int), .bool es] 86) = z := ⟨_, rfl⟩
      rw [hW1] at hZ hB hY1
      obtain ⟨Z, hZe⟩ : ∃ z, w2.heap.size = z := ⟨_, rfl⟩
      rw [hZe] at hZ hYl
      have HW1 := Lib.hid hW1
      have HZe := Lib.hid hZe
      have HZ := Lib.hid hZ
      have HB1 := Lib.hid hB
      have HY1 := Lib.hid hY1
      have HYZ := Lib.hid (show Y ≠ Z from by omega)
      clear y0 y1 y2 y3 y4 y5 y6 y7
      have y0 := hY2.cell 0 rfl
      have y1 := hY2.cell 1 rfl
      have y2 := hY2.cell 2 rfl
      have HW2 := Lib.hid hw2
      clear hX hcell hce hZ hB hW1 hZe hYl hY1 hY2 hw2
      go_upto_region 13 with fail
      rw [HW1.out]
      try rw [HZe.out]
      clear p0 p1 p2 p3 p4 p5 hidx y0 y1 y2
      have y0 := HY1.out.cell 0 rfl
      have y1 := HY1.out.cell 1 rfl
      have y2 := HY1.out.cell 2 rfl
      have y3 := HY1.out.cell 3 rfl
      have y4 := HY1.out.cell 4 rfl
      have z0 := HZ.out.cell 0 rfl
      have z1 := HZ.out.cell 1 rfl
      have z2 := HZ.out.cell 2 rfl
      have z3 := HZ.out.cell 3 rfl
      have z4 := HZ.out.cell 4 rfl
      have z5 := HZ.out.cell 5 rfl
      go_wp2_with (go_at_call 39; first | (with_reducible refine (near_yes _ _ (by assumption)).mono ?_; rintro e wc ⟨rfl, rfl⟩) | (with_reducible refine (near_no _ _ (by assumption)).mono ?_; rintro e wc ⟨rfl, rfl⟩))
      go_ret3
      exact ⟨rfl, HB1.out⟩
    · have e2 : ((eb : Int) == cn) = false := beq_eq_false_iff_ne.2 q2
      have e3 : ((ec : Int) == cn) = true := by
        rw [beq_iff_eq]
        rcases hx with h | h | h
        · exact absurd h q1
        · exact absurd h q2
        · exact h
      clear hx q1 q2
      clear hv he hi
      have hY := Blk.new w #[.int .i64 4, .int .i64 ((i : Int) + 1), .int .i64 (ep : Int), .int .i64 ca, .int .i64 cn, .int .i64 a, .int .i64 b, .int .i64 d] 33
      have hB := below_newR w (.cells #[.int .i64 4, .int .i64 ((i : Int) + 1), .int .i64 (ep : Int), .int .i64 ca, .int .i64 cn, .int .i64 a, .int .i64 b, .int .i64 d] 33)
      obtain ⟨W0, hW0⟩ : ∃ z, w.alloc (.cells #[.int .i64 4, .int .i64 ((i : Int) + 1), .int .i64 (ep : Int), .int .i64 ca, .int .i64 cn, .int .i64 a, .int .i64 b, .int .i64 d] 33) = z := ⟨_, rfl⟩
      rw [hW0] at hY hB
      obtain ⟨Y, hYe⟩ : ∃ z, w.heap.size = z := ⟨_, rfl⟩
      rw [hYe] at hY
      have HW0 := Lib.hid hW0
      have HYe := Lib.hid hYe
      have HY := Lib.hid hY
      have HB := Lib.hid hB
      have y0 := HY.out.cell 0 rfl
      have y1 := HY.out.cell 1 rfl
      have y2 := HY.out.cell 2 rfl
      have y3 := HY.out.cell 3 rfl
      have y4 := HY.out.cell 4 rfl
      have y5 := HY.out.cell 5 rfl
      have y6 := HY.out.cell 6 rfl
      have y7 := HY.out.cell 7 rfl
      clear hW0 hYe hY hB
      go_enter Try.func25, Try.ntmps25
      go_wp2_with fail
      rw [HW0.out]
      try rw [HYe.out]
      go_region
      have hX := HV.out.mono HB.out.drew (Nat.le_refl _)
      obtain ⟨bb, oo, hidx, _, hcell⟩ := indexAt_X (P := Try.prog) hX 58 86 Try.underlying58 Try.sizeEnR19 i HI.out
      have hce := fun q (hq : q < 6) => (hcell q hq).trans (row_get ecl_len HE.out q hq)
      have p0 : W0.drew.cell? ⟨bb, oo, none⟩ = some (.int .i64 (ev : Int)) := hce 0 (by decide)
      have p1 : W0.drew.cell? ⟨bb, oo + 1, none⟩ = some (.int .i64 (ep : Int)) := hce 1 (by decide)
      have p2 : W0.drew.cell? ⟨bb, oo + 2, none⟩ = some (.int .i64 (ea : Int)) := hce 2 (by decide)
      have p3 : W0.drew.cell? ⟨bb, oo + 3, none⟩ = some (.int .i64 (eb : Int)) := hce 3 (by decide)
      have p4 : W0.drew.cell? ⟨bb, oo + 4, none⟩ = some (.int .i64 (ec : Int)) := hce 4 (by decide)
      have p5 : W0.drew.cell? ⟨bb, oo + 5, none⟩ = some (.bool es) := hce 5 (by decide)
      have hZ := Blk.new W0.drew #[.int .i64 (ev : Int), .int .i64 (ep : Int), .int .i64 (ea : Int), .int .i64 (eb : Int), .int .i64 (ec : Int), .bool es] 86
      have hB := (HB.out.drew).trans ((below_newR W0.drew (.cells #[.int .i64 (ev : Int), .int .i64 (ep : Int), .int .i64 (ea : Int), .int .i64 (eb : Int), .int .i64 (ec : Int), .bool es] 86)).mono HB.out.drew.size)
      have hYl := HY.out.drew.lt
      have hY1 := HY.out.drew.alloc (.cells #[.int .i64 (ev : Int), .int .i64 (ep : Int), .int .i64 (ea : Int), .int .i64 (eb : Int), .int .i64 (ec : Int), .bool es] 86)
      have hY2 := HY.out.drew
      obtain ⟨w2, hw2⟩ : ∃ z, W0.drew = z := ⟨_, rfl⟩
      rw [hw2] at p0 p1 p2 p3 p4 p5 hZ hB hYl hY1 hY2
      rw [hw2]
      obtain ⟨W1, hW1⟩ : ∃ z, w2.alloc (.cells #[.int .i64 (ev : Int), .int .i64 (ep : Int), .int .i64 (ea : Int), .int .i64 (eb : Int), .int .i64 (ec : Int), .bool es] 86) = z := ⟨_, rfl⟩
      rw [hW1] at hZ hB hY1
      obtain ⟨Z, hZe⟩ : ∃ z, w2.heap.size = z := ⟨_, rfl⟩
      rw [hZe] at hZ hYl
      have HW1 := Lib.hid hW1
      have HZe := Lib.hid hZe
      have HZ := Lib.hid hZ
      have HB1 := Lib.hid hB
      have HY1 := Lib.hid hY1
      have HYZ := Lib.hid (show Y ≠ Z from by omega)
      clear y0 y1 y2 y3 y4 y5 y6 y7
      have y0 := hY2.cell 0 rfl
      have y1 := hY2.cell 1 rfl
      have y2 := hY2.cell 2 rfl
      have HW2 := Lib.hid hw2
      clear hX hcell hce hZ hB hW1 hZe hYl hY1 hY2 hw2
      go_upto_region 13 with fail
      rw [HW1.out]
      try rw [HZe.out]
      clear p0 p1 p2 p3 p4 p5 hidx y0 y1 y2
      have y0 := HY1.out.cell 0 rfl
      have y1 := HY1.out.cell 1 rfl
      have y2 := HY1.out.cell 2 rfl
      have y3 := HY1.out.cell 3 rfl
      have y4 := HY1.out.cell 4 rfl
      have z0 := HZ.out.cell 0 rfl
      have z1 := HZ.out.cell 1 rfl
      have z2 := HZ.out.cell 2 rfl
      have z3 := HZ.out.cell 3 rfl
      have z4 := HZ.out.cell 4 rfl
      have z5 := HZ.out.cell 5 rfl
      go_wp2_with (go_at_call 39; first | (with_reducible refine (near_yes _ _ (by assumption)).mono ?_; rintro e wc ⟨rfl, rfl⟩) | (with_reducible refine (near_no _ _ (by assumption)).mono ?_; rintro e wc ⟨rfl, rfl⟩))
      go_ret3
      exact ⟨rfl, HB1.out⟩
end Go.Proofs.Ytlaighghagcjjaa
