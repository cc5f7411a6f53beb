/- Package net by contracts: Peek and Take of a net as a plain value. -/
import Derived.Test.YtofhbnnheadmlaaNu
set_option linter.unusedVariables false
set_option linter.unusedSimpArgs false
namespace Go.Proofs.Ytofhbnnheadmlaa
open Go.RowKit Go.Cor

theorem fin12k {w : World} {B : Nat} {a0 a1 a2 a3 a4 a5 a6 a7 a8 a9 a10 a11 : Value} {T : TypeId} (h : Blk w B #[a0, a1, a2, a3, a4, a5, a6, a7, a8, a9, a10, a11] T) (u0 u1 u2 u3 u4 u5 u6 u7 u8 u9 u10 u11 : Value) :
    Blk (set12 w B u0 u1 u2 u3 u4 u5 u6 u7 u8 u9 u10 u11) B #[u0, u1, u2, u3, u4, u5, u6, u7, u8, u9, u10, u11] T ∧ Kept (fun j => j = B) w (set12 w B u0 u1 u2 u3 u4 u5 u6 u7 u8 u9 u10 u11) := by
  refine ⟨?_, ?_⟩
  · unfold set12
    have h1 := (((((h.set 0 u0).set 1 u1).set 2 u2).set 3 u3).set 4 u4).set 5 u5
    simp at h1
    have h2 := (((((h1.set 6 u6).set 7 u7).set 8 u8).set 9 u9).set 10 u10).set 11 u11
    simp at h2
    exact h2
  · unfold set12
    exact (((((((((((((Kept.refl (fun j => j = B) w).setCell (p := ⟨B, 0, none⟩) (.inl rfl) u0).setCell (p := ⟨B, 1, none⟩) (.inl rfl) u1).setCell (p := ⟨B, 2, none⟩) (.inl rfl) u2).setCell (p := ⟨B, 3, none⟩) (.inl rfl) u3).setCell (p := ⟨B, 4, none⟩) (.inl rfl) u4).setCell (p := ⟨B, 5, none⟩) (.inl rfl) u5).setCell (p := ⟨B, 6, none⟩) (.inl rfl) u6).setCell (p := ⟨B, 7, none⟩) (.inl rfl) u7).setCell (p := ⟨B, 8, none⟩) (.inl rfl) u8).setCell (p := ⟨B, 9, none⟩) (.inl rfl) u9).setCell (p := ⟨B, 10, none⟩) (.inl rfl) u10).setCell (p := ⟨B, 11, none⟩) (.inl rfl) u11)
theorem npeek_any {B g : Nat} {S : Nat → Prop} {n : NetP} {K : Nat} (i : Int) (w : World) (h : Nt w B g S n K) :
    Calls Try.prog 22 #[.pointer (some ⟨g, 0, none⟩), .int .i64 i] w fun e w' => ∃ x cp, e = .returned (.tuple #[mval (peekM n i) (.slice x (peekM n i).n.data.length cp), cerr (peekK n i)]) ∧ IsF w' (.slice x (peekM n i).n.data.length cp) (peekM n i).n.data ∧ (∀ b, liesB (.slice x (peekM n i).n.data.length cp) (peekM n i).n.data b → w.heap.size ≤ b) ∧ Below w.heap.size w w' := by
  obtain ⟨pv, ps, mv, hA, hl, hgd, hS1, hS2⟩ := id h
  have hlen : n.l.length = ps.length := by rw [hl, List.length_map]
  by_cases hp : 0 ≤ i ∧ i.toNat < ps.length
  · have hk : peekK n i = 0 := by unfold peekK; rw [if_pos (by rw [hlen]; exact hp)]
    obtain ⟨j, rfl⟩ := Int.eq_ofNat_of_zero_le hp.1
    have hj : ((j : Int)).toNat = j := by omega
    rw [hj] at hp
    obtain ⟨⟨m, u⟩, hx⟩ : ∃ x, ps[j]? = some x := ⟨_, List.getElem?_eq_getElem hp.2⟩
    have hgm := hgd.sub (i := j) (by rw [hlen]; exact hp.2)
    have hmj : n.l.getD j mz = m := by rw [hl, List.getD_eq_getElem?_getD, List.getElem?_map, hx]; rfl
    rw [hmj] at hgm
    have hpm : peekM n (j : Int) = m := by unfold peekM; rw [if_pos hk, hj, hmj]
    rw [hk, hpm, cerr_0]
    exact npeek_ok j m u w hA hx hgm
  · have hk : peekK n i = 6 := by unfold peekK; rw [if_neg (by rw [hlen]; exact hp)]
    have hpm : peekM n i = mz := by unfold peekM; rw [if_neg (by omega)]
    rw [hk, hpm, cerr_pos (by decide)]
    refine (npeek_no i w hA hp).mono fun e w' ⟨h1, h2⟩ => ⟨none, 0, h1, IsF.nil _, fun b hb => absurd rfl hb.1, h2⟩
set_option maxHeartbeats 2000000 in
theorem ntake_nil (i : Int) (w : World) :
    Calls Try.prog 12 #[.pointer none, .int .i64 i] w fun e w' => e = .returned (.tuple #[mval mz (.slice none 0 0), err 15]) ∧ Below w.heap.size w w' := by
  have hB0 := below_new15 w (.cells #[.int .i64 0, .int .i64 0, .int .i64 0, .int .i64 0, .int .i64 0, .int .u64 0, .int .i64 0, .bool false, .int .u64 0, .int .u32 0, .bool false, .slice none 0 0] 43)
  have hX0 := Blk.new w #[.int .i64 0, .int .i64 0, .int .i64 0, .int .i64 0, .int .i64 0, .int .u64 0, .int .i64 0, .bool false, .int .u64 0, .int .u32 0, .bool false, .slice none 0 0] 43
  obtain ⟨w1, hw1⟩ : ∃ z, w.alloc (.cells #[.int .i64 0, .int .i64 0, .int .i64 0, .int .i64 0, .int .i64 0, .int .u64 0, .int .i64 0, .bool false, .int .u64 0, .int .u32 0, .bool false, .slice none 0 0] 43) = z := ⟨_, rfl⟩
  rw [hw1] at hB0 hX0
  have HP := Lib.hid (show Calls Try.prog 22 #[.pointer none, .int .i64 i] w1 fun e w' => e = .returned (.tuple #[.agg #[.int .i64 0, .int .i64 0, .int .i64 0, .int .i64 0, .int .i64 0, .int .u64 0, .int .i64 0, .bool false, .int .u64 0, .int .u32 0, .bool false, .slice none 0 0], err 15]) ∧ Below w1.heap.size w1 w' from npeek_nil i w1)
  have HW1 := Lib.hid hw1
  have HB1 := Lib.hid hB0
  have HX1 := Lib.hid hX0
  clear hw1 hB0 hX0
  go_enter Try.func12, Try.ntmps12
  go_wp2_with fail
  rw [HW1.out]
  refine HP.out.mono ?_
  rintro e w2 ⟨rfl, hb2⟩
  have HX3 := Lib.hid ((HX1.out.below hb2 HX1.out.lt).alloc (.cells #[.int .i64 0, .int .i64 0, .int .i64 0, .int .i64 0, .int .i64 0, .int .u64 0, .int .i64 0, .bool false, .int .u64 0, .int .u32 0, .bool false, .slice none 0 0] 43))
  have HB3 := Lib.hid ((HB1.out.trans (hb2.mono HB1.out.size)).alloc (Nat.le_trans HB1.out.size hb2.size) (.cells #[.int .i64 0, .int .i64 0, .int .i64 0, .int .i64 0, .int .i64 0, .int .u64 0, .int .i64 0, .bool false, .int .u64 0, .int .u32 0, .bool false, .slice none 0 0] 43))
  have hs2 := hb2.size
  have hs1 := HX1.out.lt
  clear hb2
  have hF := fin12 HX3.out HB3.out (Nat.le_refl _) (.int .i64 0) (.int .i64 0) (.int .i64 0) (.int .i64 0) (.int .i64 0) (.int .u64 0) (.int .i64 0) (.bool false) (.int .u64 0) (.int .u32 0) (.bool false) (.slice none 0 0)
  have hKK := Lib.hid hF.2.2.2.2.2.2.2.2.2.2.2.2.2
  unfold set12 at hF hKK
  have HF := Lib.hid hF
  have r0 := HX3.out.cell 0 rfl
  have r1 := HX3.out.cell 1 rfl
  have r2 := HX3.out.cell 2 rfl
  have r3 := HX3.out.cell 3 rfl
  have r4 := HX3.out.cell 4 rfl
  have r5 := HX3.out.cell 5 rfl
  have r6 := HX3.out.cell 6 rfl
  have r7 := HX3.out.cell 7 rfl
  have r8 := HX3.out.cell 8 rfl
  have r9 := HX3.out.cell 9 rfl
  have r10 := HX3.out.cell 10 rfl
  have r11 := HX3.out.cell 11 rfl
  
  have rf := fun j => HX3.out.free j
  clear hF
  go_wp2
  obtain ⟨j0, j1, j2, j3, j4, j5, j6, j7, j8, j9, j10, j11, jb, jk⟩ := HF.out
  exact bodyPost_ret (v := .tuple #[mval mz (.slice none 0 0), err 15]) (by simp [results, Try.results12, go_sem, mz, nz, j0, j1, j2, j3, j4, j5, j6, j7, j8, j9, j10, j11]) rfl ⟨rfl, jb⟩

set_option maxHeartbeats 2000000 in
theorem ntake_none {B g : Nat} {S : Nat → Prop} {n : NetP} {K : Nat} (i : Int) (w : World) (h : Nt w B g S n K) (hp : peekK n i = 6) :
    Calls Try.prog 12 #[.pointer (some ⟨g, 0, none⟩), .int .i64 i] w fun e w' => e = .returned (.tuple #[.agg #[.int .i64 0, .int .i64 0, .int .i64 0, .int .i64 0, .int .i64 0, .int .u64 0, .int .i64 0, .bool false, .int .u64 0, .int .u32 0, .bool false, .slice none 0 0], err 6]) ∧ Below w.heap.size w w' := by
  have hB0 := below_new15 w (.cells #[.int .i64 0, .int .i64 0, .int .i64 0, .int .i64 0, .int .i64 0, .int .u64 0, .int .i64 0, .bool false, .int .u64 0, .int .u32 0, .bool false, .slice none 0 0] 43)
  have hX0 := Blk.new w #[.int .i64 0, .int .i64 0, .int .i64 0, .int .i64 0, .int .i64 0, .int .u64 0, .int .i64 0, .bool false, .int .u64 0, .int .u32 0, .bool false, .slice none 0 0] 43
  have hN1 := h.below hB0
  obtain ⟨w1, hw1⟩ : ∃ z, w.alloc (.cells #[.int .i64 0, .int .i64 0, .int .i64 0, .int .i64 0, .int .i64 0, .int .u64 0, .int .i64 0, .bool false, .int .u64 0, .int .u32 0, .bool false, .slice none 0 0] 43) = z := ⟨_, rfl⟩
  rw [hw1] at hB0 hX0 hN1
  obtain ⟨pv, ps, mv, hA, hl, hgd, hS1, hS2⟩ := hN1
  have HP := Lib.hid (show Calls Try.prog 22 #[.pointer (some ⟨g, 0, none⟩), .int .i64 i] w1 fun e w' => e = .returned (.tuple #[.agg #[.int .i64 0, .int .i64 0, .int .i64 0, .int .i64 0, .int .i64 0, .int .u64 0, .int .i64 0, .bool false, .int .u64 0, .int .u32 0, .bool false, .slice none 0 0], err 6]) ∧ Below w1.heap.size w1 w' from npeek_no i w1 hA (fun h => by
    have hlen : n.l.length = ps.length := by rw [hl, List.length_map]
    unfold peekK at hp
    rw [hlen, if_pos h] at hp
    cases hp))
  have HW1 := Lib.hid hw1
  have HB1 := Lib.hid hB0
  have HX1 := Lib.hid hX0
  clear hw1 hB0 hX0 hA hl hgd hS1 hS2 h hp
  go_enter Try.func12, Try.ntmps12
  go_wp2_with fail
  rw [HW1.out]
  refine HP.out.mono ?_
  rintro e w2 ⟨rfl, hb2⟩
  have HX3 := Lib.hid ((HX1.out.below hb2 HX1.out.lt).alloc (.cells #[.int .i64 0, .int .i64 0, .int .i64 0, .int .i64 0, .int .i64 0, .int .u64 0, .int .i64 0, .bool false, .int .u64 0, .int .u32 0, .bool false, .slice none 0 0] 43))
  have HB3 := Lib.hid ((HB1.out.trans (hb2.mono HB1.out.size)).alloc (Nat.le_trans HB1.out.size hb2.size) (.cells #[.int .i64 0, .int .i64 0, .int .i64 0, .int .i64 0, .int .i64 0, .int .u64 0, .int .i64 0, .bool false, .int .u64 0, .int .u32 0, .bool false, .slice none 0 0] 43))
  have hs2 := hb2.size
  have hs1 := HX1.out.lt
  clear hb2
  have hF := fin12 HX3.out HB3.out (Nat.le_refl _) (.int .i64 0) (.int .i64 0) (.int .i64 0) (.int .i64 0) (.int .i64 0) (.int .u64 0) (.int .i64 0) (.bool false) (.int .u64 0) (.int .u32 0) (.bool false) (.slice none 0 0)
  have hKK := Lib.hid hF.2.2.2.2.2.2.2.2.2.2.2.2.2
  unfold set12 at hF hKK
  have HF := Lib.hid hF
  have r0 := HX3.out.cell 0 rfl
  have r1 := HX3.out.cell 1 rfl
  have r2 := HX3.out.cell 2 rfl
  have r3 := HX3.out.cell 3 rfl
  have r4 := HX3.out.cell 4 rfl
  have r5 := HX3.out.cell 5 rfl
  have r6 := HX3.out.cell 6 rfl
  have r7 := HX3.out.cell 7 rfl
  have r8 := HX3.out.cell 8 rfl
  have r9 := HX3.out.cell 9 rfl
  have r10 := HX3.out.cell 10 rfl
  have r11 := HX3.out.cell 11 rfl
  
  have rf := fun j => HX3.out.free j
  clear hF
  go_wp2
  obtain ⟨j0, j1, j2, j3, j4, j5, j6, j7, j8, j9, j10, j11, jb, jk⟩ := HF.out
  exact bodyPost_ret (v := .tuple #[.agg #[.int .i64 0, .int .i64 0, .int .i64 0, .int .i64 0, .int .i64 0, .int .u64 0, .int .i64 0, .bool false, .int .u64 0, .int .u32 0, .bool false, .slice none 0 0], err 6]) (by simp [results, Try.results12, go_sem, mz, nz, j0, j1, j2, j3, j4, j5, j6, j7, j8, j9, j10, j11]) rfl ⟨rfl, jb⟩
set_option maxRecDepth 100000 in
set_option maxHeartbeats 4000000 in
theorem ntake_wait {B g : Nat} {S : Nat → Prop} {n : NetP} {K : Nat} (j : Nat) (w : World) (h : Nt w B g S n K) (hp : peekK n (j : Int) = 0) (hap : apartP n.c (n.l.getD j mz).fr (n.l.getD j mz).to = true) :
    Calls Try.prog 12 #[.pointer (some ⟨g, 0, none⟩), .int .i64 (j : Int)] w fun e w' => e = .returned (.tuple #[.agg #[.int .i64 0, .int .i64 0, .int .i64 0, .int .i64 0, .int .i64 0, .int .u64 0, .int .i64 0, .bool false, .int .u64 0, .int .u32 0, .bool false, .slice none 0 0], err 17]) ∧ Below w.heap.size w w' := by
  have hB0 := below_new15 w (.cells #[.int .i64 0, .int .i64 0, .int .i64 0, .int .i64 0, .int .i64 0, .int .u64 0, .int .i64 0, .bool false, .int .u64 0, .int .u32 0, .bool false, .slice none 0 0] 43)
  have hX0 := Blk.new w #[.int .i64 0, .int .i64 0, .int .i64 0, .int .i64 0, .int .i64 0, .int .u64 0, .int .i64 0, .bool false, .int .u64 0, .int .u32 0, .bool false, .slice none 0 0] 43
  have hN1 := h.below hB0
  obtain ⟨w1, hw1⟩ : ∃ z, w.alloc (.cells #[.int .i64 0, .int .i64 0, .int .i64 0, .int .i64 0, .int .i64 0, .int .u64 0, .int .i64 0, .bool false, .int .u64 0, .int .u32 0, .bool false, .slice none 0 0] 43) = z := ⟨_, rfl⟩
  rw [hw1] at hB0 hX0 hN1
  obtain ⟨m, hm⟩ : ∃ z, n.l.getD j mz = z := ⟨_, rfl⟩
  rw [hm] at hap
  have hjl : j < n.l.length := by have := (peekK_ok hp).2; rwa [show ((j : Int)).toNat = j by omega] at this
  have hgm := h.good.sub hjl
  rw [hm] at hgm
  have hpk := npeek_any (j : Int) w1 hN1
  have hpm : peekM n (j : Int) = m := by unfold peekM; rw [if_pos hp, show ((j : Int)).toNat = j by omega, hm]
  rw [hp, hpm, cerr_0] at hpk
  have HP := Lib.hid hpk
  have hgo := (mcheck_ok hgm.1).1
  have HAP := Lib.hid (fun (wx : World) (hb : Below w.heap.size w wx) => by
    obtain ⟨pv, ps, mv, hA, hl, hgd, hS1, hS2⟩ := h.below hb
    exact napart_at m.fr m.to wx hA (wfI_of (by have := hgo.1; omega) (by have := hgo.2.1; omega)) (wfI_of (by have := hgo.2.2.1; omega) (by have := hgo.2.2.2.1; omega)))
  rw [hap] at HAP
  have HW1 := Lib.hid hw1
  have HB1 := Lib.hid hB0
  have HX1 := Lib.hid hX0
  have HM := Lib.hid hm
  clear hw1 hB0 hX0 hN1 hpk hgo h hp hap hm hjl hgm hpm
  go_enter Try.func12, Try.ntmps12
  go_wp2_with fail
  rw [HW1.out]
  refine HP.out.mono ?_
  rintro e w2 ⟨x, cp, rfl, hi2, hl2, hb2⟩
  have hs2 := hb2.size
  have hs1 := HX1.out.lt
  have hX3 := (HX1.out.below hb2 HX1.out.lt).alloc (.cells #[.int .i64 m.fr, .int .i64 m.to, .int .i64 m.kd, .int .i64 m.vo, .int .i64 m.li, .int .u64 (m.id : Int), .int .i64 m.co, .bool m.has, .int .u64 (m.n.key : Int), .int .u32 (m.n.cookie : Int), .bool m.n.gone, .slice x m.n.data.length cp] 43)
  have hB3 := (HB1.out.trans (hb2.mono HB1.out.size)).alloc (Nat.le_trans HB1.out.size hb2.size) (.cells #[.int .i64 m.fr, .int .i64 m.to, .int .i64 m.kd, .int .i64 m.vo, .int .i64 m.li, .int .u64 (m.id : Int), .int .i64 m.co, .bool m.has, .int .u64 (m.n.key : Int), .int .u32 (m.n.cookie : Int), .bool m.n.gone, .slice x m.n.data.length cp] 43)
  have hM3 := Blk.new w2 #[.int .i64 m.fr, .int .i64 m.to, .int .i64 m.kd, .int .i64 m.vo, .int .i64 m.li, .int .u64 (m.id : Int), .int .i64 m.co, .bool m.has, .int .u64 (m.n.key : Int), .int .u32 (m.n.cookie : Int), .bool m.n.gone, .slice x m.n.data.length cp] 43
  have hi3 := hi2.mono (below_new15 w2 (.cells #[.int .i64 m.fr, .int .i64 m.to, .int .i64 m.kd, .int .i64 m.vo, .int .i64 m.li, .int .u64 (m.id : Int), .int .i64 m.co, .bool m.has, .int .u64 (m.n.key : Int), .int .u32 (m.n.cookie : Int), .bool m.n.gone, .slice x m.n.data.length cp] 43)) (Nat.le_refl _)
  obtain ⟨w3, hw3⟩ : ∃ z, w2.alloc (.cells #[.int .i64 m.fr, .int .i64 m.to, .int .i64 m.kd, .int .i64 m.vo, .int .i64 m.li, .int .u64 (m.id : Int), .int .i64 m.co, .bool m.has, .int .u64 (m.n.key : Int), .int .u32 (m.n.cookie : Int), .bool m.n.gone, .slice x m.n.data.length cp] 43) = z := ⟨_, rfl⟩
  obtain ⟨Y, hY⟩ : ∃ z, w2.heap.size = z := ⟨_, rfl⟩
  have hY1 : w1.heap.size ≤ Y := by rw [← hY]; exact hs2
  rw [hw3] at hX3 hB3 hM3 hi3
  rw [hY] at hM3
  have HW3 := Lib.hid hw3
  have HY := Lib.hid hY
  have HB3 := Lib.hid hB3
  have HX3 := Lib.hid hX3
  have HM3 := Lib.hid hM3
  have HI3 := Lib.hid hi3
  have HL3 := Lib.hid hl2
  have HY1 := Lib.hid hY1
  clear hb2 hw3 hY hX3 hB3 hM3 hi3 hi2 hl2 hs2 hY1
  go_upto_region 2 with fail
  (try rw [HW3.out])
  (try rw [HY.out])
  have b0 := HM3.out.cell 0 rfl
  have b1 := HM3.out.cell 1 rfl
  have b2 := HM3.out.cell 2 rfl
  have b3 := HM3.out.cell 3 rfl
  have b4 := HM3.out.cell 4 rfl
  have b5 := HM3.out.cell 5 rfl
  have b6 := HM3.out.cell 6 rfl
  have b7 := HM3.out.cell 7 rfl
  have b8 := HM3.out.cell 8 rfl
  have b9 := HM3.out.cell 9 rfl
  have b10 := HM3.out.cell 10 rfl
  have b11 := HM3.out.cell 11 rfl
  
  go_wp2_with fail
  refine (HAP.out w3 HB3.out).mono ?_
  rintro e w4 ⟨rfl, hb4⟩
  clear b0 b1 b2 b3 b4 b5 b6 b7 b8 b9 b10 b11
  have HX4 := Lib.hid (HX3.out.below hb4 HX3.out.lt)
  have HB4 := Lib.hid (HB3.out.trans (hb4.mono HB3.out.size))
  clear hb4
  have hF := fin12 HX4.out HB4.out (Nat.le_refl _) (.int .i64 0) (.int .i64 0) (.int .i64 0) (.int .i64 0) (.int .i64 0) (.int .u64 0) (.int .i64 0) (.bool false) (.int .u64 0) (.int .u32 0) (.bool false) (.slice none 0 0)
  unfold set12 at hF
  have HF := Lib.hid hF
  have r0 := HX4.out.cell 0 rfl
  have r1 := HX4.out.cell 1 rfl
  have r2 := HX4.out.cell 2 rfl
  have r3 := HX4.out.cell 3 rfl
  have r4 := HX4.out.cell 4 rfl
  have r5 := HX4.out.cell 5 rfl
  have r6 := HX4.out.cell 6 rfl
  have r7 := HX4.out.cell 7 rfl
  have r8 := HX4.out.cell 8 rfl
  have r9 := HX4.out.cell 9 rfl
  have r10 := HX4.out.cell 10 rfl
  have r11 := HX4.out.cell 11 rfl
  
  have rf := fun j => HX4.out.free j
  clear hF
  go_wp2
  obtain ⟨j0, j1, j2, j3, j4, j5, j6, j7, j8, j9, j10, j11, jb, jk⟩ := HF.out
  exact bodyPost_ret (v := .tuple #[.agg #[.int .i64 0, .int .i64 0, .int .i64 0, .int .i64 0, .int .i64 0, .int .u64 0, .int .i64 0, .bool false, .int .u64 0, .int .u32 0, .bool false, .slice none 0 0], err 17]) (by simp [results, Try.results12, go_sem, mz, nz, j0, j1, j2, j3, j4, j5, j6, j7, j8, j9, j10, j11]) rfl ⟨rfl, jb⟩

set_option maxRecDepth 100000 in
set_option maxHeartbeats 4000000 in
theorem ntake_ok {B g : Nat} {S : Nat → Prop} {n : NetP} {K : Nat} (j : Nat) (w : World) (h : Nt w B g S n K) (hp : peekK n (j : Int) = 0) (hap : apartP n.c (n.l.getD j mz).fr (n.l.getD j mz).to = false) :
    Calls Try.prog 12 #[.pointer (some ⟨g, 0, none⟩), .int .i64 (j : Int)] w fun e w' => ∃ x cp, e = .returned (.tuple #[mval (n.l.getD j mz) (.slice x (n.l.getD j mz).n.data.length cp), .nilIface]) ∧ IsF w' (.slice x (n.l.getD j mz).n.data.length cp) (n.l.getD j mz).n.data ∧ (∀ b, liesB (.slice x (n.l.getD j mz).n.data.length cp) (n.l.getD j mz).n.data b → w.heap.size ≤ b) ∧ NtT w B g S { n with l := n.l.eraseIdx j } K w' := by
  have hB0 := below_new15 w (.cells #[.int .i64 0, .int .i64 0, .int .i64 0, .int .i64 0, .int .i64 0, .int .u64 0, .int .i64 0, .bool false, .int .u64 0, .int .u32 0, .bool false, .slice none 0 0] 43)
  have hX0 := Blk.new w #[.int .i64 0, .int .i64 0, .int .i64 0, .int .i64 0, .int .i64 0, .int .u64 0, .int .i64 0, .bool false, .int .u64 0, .int .u32 0, .bool false, .slice none 0 0] 43
  have hN1 := h.below hB0
  obtain ⟨w1, hw1⟩ : ∃ z, w.alloc (.cells #[.int .i64 0, .int .i64 0, .int .i64 0, .int .i64 0, .int .i64 0, .int .u64 0, .int .i64 0, .bool false, .int .u64 0, .int .u32 0, .bool false, .slice none 0 0] 43) = z := ⟨_, rfl⟩
  rw [hw1] at hB0 hX0 hN1
  obtain ⟨m, hm⟩ : ∃ z, n.l.getD j mz = z := ⟨_, rfl⟩
  rw [hm] at hap
  have hjl : j < n.l.length := by have := (peekK_ok hp).2; rwa [show ((j : Int)).toNat = j by omega] at this
  have hgm := h.good.sub hjl
  rw [hm] at hgm
  have hpk := npeek_any (j : Int) w1 hN1
  have hpm : peekM n (j : Int) = m := by unfold peekM; rw [if_pos hp, show ((j : Int)).toNat = j by omega, hm]
  rw [hp, hpm, cerr_0] at hpk
  have HP := Lib.hid hpk
  have hgo := (mcheck_ok hgm.1).1
  have HAP := Lib.hid (fun (wx : World) (hb : Below w.heap.size w wx) => by
    obtain ⟨pv, ps, mv, hA, hl, hgd, hS1, hS2⟩ := h.below hb
    exact napart_at m.fr m.to wx hA (wfI_of (by have := hgo.1; omega) (by have := hgo.2.1; omega)) (wfI_of (by have := hgo.2.2.1; omega) (by have := hgo.2.2.2.1; omega)))
  rw [hap] at HAP
  have HW1 := Lib.hid hw1
  have HB1 := Lib.hid hB0
  have HX1 := Lib.hid hX0
  have HM := Lib.hid hm
  rw [hm]
  obtain ⟨pv, ps, mv, hA, hl, hgd, hS1, hS2⟩ := id h
  have HLT := Lib.hid (fun k (hk : nmem g pv ps mv k) => hA.lt hk)
  have HD := Lib.hid (fun (wx : World) (hb : Below w.heap.size w wx) => ndrop_at j wx (hA.below hb (Nat.le_refl _)) (by rw [← List.length_map (f := fun x : Msg × Value => x.1), ← hl]; exact hjl) (by rw [← List.length_map (f := fun x : Msg × Value => x.1), ← hl]; exact hgd.1))
  have HF := Lib.hid (fun (w4 w5 w6 : World) (pv' : Value) (hb : Below w.heap.size w w4) (h1 : NtAt w5 g pv' (ps.eraseIdx j) mv n.c K) (h2 : Kept (fun k => k = g ∨ pv.ownBlock = some k) w4 w5) (h3 : pv'.ownBlock = pv.ownBlock) (h4 : Kept (fun k => k = w.heap.size) w5 w6) =>
    NtT.made (w' := w6) (n' := { n with l := n.l.eraseIdx j }) hA hS1 hS2 (h1.kept h4 (fun k hk e => by have := HLT.out k (nmem_erase h3 hk); omega)) (by show n.l.eraseIdx j = _; rw [hl, List.eraseIdx_eq_take_drop_succ, List.eraseIdx_eq_take_drop_succ, List.map_append, List.map_take, List.map_drop]) (hgd.erase j) (fun k hk => .inl (hS1 k (nmem_erase h3 hk)))
      (((Kept.of_below (S := S) hb (Nat.le_refl _)).trans h2 (fun k e _ => hS1 k (e.imp id .inl))).trans h4 (fun k e hk => by omega)))
  clear hw1 hB0 hX0 hN1 hpk hgo h hp hap hm hjl hgm hpm hA hl hgd hS1 hS2
  go_enter Try.func12, Try.ntmps12
  go_wp2_with fail
  rw [HW1.out]
  refine HP.out.mono ?_
  rintro e w2 ⟨x, cp, rfl, hi2, hl2, hb2⟩
  have hs2 := hb2.size
  have hs1 := HX1.out.lt
  have hX3 := (HX1.out.below hb2 HX1.out.lt).alloc (.cells #[.int .i64 m.fr, .int .i64 m.to, .int .i64 m.kd, .int .i64 m.vo, .int .i64 m.li, .int .u64 (m.id : Int), .int .i64 m.co, .bool m.has, .int .u64 (m.n.key : Int), .int .u32 (m.n.cookie : Int), .bool m.n.gone, .slice x m.n.data.length cp] 43)
  have hB3 := (HB1.out.trans (hb2.mono HB1.out.size)).alloc (Nat.le_trans HB1.out.size hb2.size) (.cells #[.int .i64 m.fr, .int .i64 m.to, .int .i64 m.kd, .int .i64 m.vo, .int .i64 m.li, .int .u64 (m.id : Int), .int .i64 m.co, .bool m.has, .int .u64 (m.n.key : Int), .int .u32 (m.n.cookie : Int), .bool m.n.gone, .slice x m.n.data.length cp] 43)
  have hM3 := Blk.new w2 #[.int .i64 m.fr, .int .i64 m.to, .int .i64 m.kd, .int .i64 m.vo, .int .i64 m.li, .int .u64 (m.id : Int), .int .i64 m.co, .bool m.has, .int .u64 (m.n.key : Int), .int .u32 (m.n.cookie : Int), .bool m.n.gone, .slice x m.n.data.length cp] 43
  have hi3 := hi2.mono (below_new15 w2 (.cells #[.int .i64 m.fr, .int .i64 m.to, .int .i64 m.kd, .int .i64 m.vo, .int .i64 m.li, .int .u64 (m.id : Int), .int .i64 m.co, .bool m.has, .int .u64 (m.n.key : Int), .int .u32 (m.n.cookie : Int), .bool m.n.gone, .slice x m.n.data.length cp] 43)) (Nat.le_refl _)
  obtain ⟨w3, hw3⟩ : ∃ z, w2.alloc (.cells #[.int .i64 m.fr, .int .i64 m.to, .int .i64 m.kd, .int .i64 m.vo, .int .i64 m.li, .int .u64 (m.id : Int), .int .i64 m.co, .bool m.has, .int .u64 (m.n.key : Int), .int .u32 (m.n.cookie : Int), .bool m.n.gone, .slice x m.n.data.length cp] 43) = z := ⟨_, rfl⟩
  obtain ⟨Y, hY⟩ : ∃ z, w2.heap.size = z := ⟨_, rfl⟩
  have hY1 : w1.heap.size ≤ Y := by rw [← hY]; exact hs2
  rw [hw3] at hX3 hB3 hM3 hi3
  rw [hY] at hM3
  have HW3 := Lib.hid hw3
  have HY := Lib.hid hY
  have HB3 := Lib.hid hB3
  have HX3 := Lib.hid hX3
  have HM3 := Lib.hid hM3
  have HI3 := Lib.hid hi3
  have HL3 := Lib.hid hl2
  have HY1 := Lib.hid hY1
  clear hb2 hw3 hY hX3 hB3 hM3 hi3 hi2 hl2 hs2 hY1
  go_upto_region 2 with fail
  (try rw [HW3.out])
  (try rw [HY.out])
  have b0 := HM3.out.cell 0 rfl
  have b1 := HM3.out.cell 1 rfl
  have b2 := HM3.out.cell 2 rfl
  have b3 := HM3.out.cell 3 rfl
  have b4 := HM3.out.cell 4 rfl
  have b5 := HM3.out.cell 5 rfl
  have b6 := HM3.out.cell 6 rfl
  have b7 := HM3.out.cell 7 rfl
  have b8 := HM3.out.cell 8 rfl
  have b9 := HM3.out.cell 9 rfl
  have b10 := HM3.out.cell 10 rfl
  have b11 := HM3.out.cell 11 rfl
  
  go_wp2_with fail
  refine (HAP.out w3 HB3.out).mono ?_
  rintro e w4 ⟨rfl, hb4⟩
  clear b0 b1 b2 b3 b4 b5 b6 b7 b8 b9 b10 b11
  have hX4 := HX3.out.below hb4 HX3.out.lt
  have hM4 := HM3.out.below hb4 HM3.out.lt
  have HB4 := Lib.hid (HB3.out.trans (hb4.mono HB3.out.size))
  have hi4 := HI3.out.mono hb4 (Nat.le_refl _)
  have hX1 := HX1.out.lt
  clear hb4
  go_wp2_with fail
  refine (HD.out w4 HB4.out).mono ?_
  rintro e w5 ⟨rfl, pv', h1, h2, h3⟩
  have hOW : ∀ k, w.heap.size ≤ k → ¬ (k = g ∨ pv.ownBlock = some k) := fun k hk e => by
    rcases e with e | e
    · have := HLT.out k (.inl e); omega
    · have := HLT.out k (.inr (.inl e)); omega
  have hX5 := hX4.kept h2 (hOW _ (Nat.le_refl _))
  have hM5 := hM4.kept h2 (hOW _ (by have := HY1.out; omega))
  have hi5 := hi4.kept h2 (fun b hb => hOW b (by have := HL3.out b hb; omega))
  have hne : Y ≠ w.heap.size := by have := HY1.out; omega
  have hF := fin12k hX5 (.int .i64 m.fr) (.int .i64 m.to) (.int .i64 m.kd) (.int .i64 m.vo) (.int .i64 m.li) (.int .u64 (m.id : Int)) (.int .i64 m.co) (.bool m.has) (.int .u64 (m.n.key : Int)) (.int .u32 (m.n.cookie : Int)) (.bool m.n.gone) (.slice x m.n.data.length cp)
  have hi6 := hi5.kept hF.2 (fun b hb e => by have := HL3.out b hb; have := HX1.out.lt; omega)
  have HZ := Lib.hid (HF.out w4 w5 _ pv' HB4.out h1 h2 h3 hF.2)
  have HI6 := Lib.hid hi6
  unfold set12 at hF HZ HI6
  have HG := Lib.hid hF.1
  have HLX := Lib.hid (show ∀ b, liesB (.slice x m.n.data.length cp) m.n.data b → w.heap.size ≤ b from fun b hb => by have := HL3.out b hb; have := HX1.out.lt; omega)
  have HNE := Lib.hid hne
  have HX5 := Lib.hid hX5
  have HM5 := Lib.hid hM5
  clear h1 h2 h3 hF hi6 hi5 hi4 hX4 hM4 hX1 hOW hne hX5 hM5 hs1
  have r0 := HX5.out.cell 0 rfl
  have r1 := HX5.out.cell 1 rfl
  have r2 := HX5.out.cell 2 rfl
  have r3 := HX5.out.cell 3 rfl
  have r4 := HX5.out.cell 4 rfl
  have r5 := HX5.out.cell 5 rfl
  have r6 := HX5.out.cell 6 rfl
  have r7 := HX5.out.cell 7 rfl
  have r8 := HX5.out.cell 8 rfl
  have r9 := HX5.out.cell 9 rfl
  have r10 := HX5.out.cell 10 rfl
  have r11 := HX5.out.cell 11 rfl
  
  have b0 := HM5.out.cell 0 rfl
  have b1 := HM5.out.cell 1 rfl
  have b2 := HM5.out.cell 2 rfl
  have b3 := HM5.out.cell 3 rfl
  have b4 := HM5.out.cell 4 rfl
  have b5 := HM5.out.cell 5 rfl
  have b6 := HM5.out.cell 6 rfl
  have b7 := HM5.out.cell 7 rfl
  have b8 := HM5.out.cell 8 rfl
  have b9 := HM5.out.cell 9 rfl
  have b10 := HM5.out.cell 10 rfl
  have b11 := HM5.out.cell 11 rfl
  
  have rf := fun j => HX5.out.free j
  go_wp2
  have j0 := HG.out.cell 0 rfl
  have j1 := HG.out.cell 1 rfl
  have j2 := HG.out.cell 2 rfl
  have j3 := HG.out.cell 3 rfl
  have j4 := HG.out.cell 4 rfl
  have j5 := HG.out.cell 5 rfl
  have j6 := HG.out.cell 6 rfl
  have j7 := HG.out.cell 7 rfl
  have j8 := HG.out.cell 8 rfl
  have j9 := HG.out.cell 9 rfl
  have j10 := HG.out.cell 10 rfl
  have j11 := HG.out.cell 11 rfl
  exact bodyPost_ret (v := .tuple #[mval m (.slice x m.n.data.length cp), .nilIface]) (by simp [results, Try.results12, go_sem, mz, nz, j0, j1, j2, j3, j4, j5, j6, j7, j8, j9, j10, j11]) rfl ⟨x, cp, rfl, HI6.out, HLX.out, HZ.out⟩
theorem ntake_any {B g : Nat} {S : Nat → Prop} {n : NetP} {K : Nat} (i : Int) (w : World) (h : Nt w B g S n K) :
    Calls Try.prog 12 #[.pointer (some ⟨g, 0, none⟩), .int .i64 i] w fun e w' => ∃ x cp, e = .returned (.tuple #[mval (takeM n i) (.slice x (takeM n i).n.data.length cp), cerr (takeK n i)]) ∧ IsF w' (.slice x (takeM n i).n.data.length cp) (takeM n i).n.data ∧ (∀ b, liesB (.slice x (takeM n i).n.data.length cp) (takeM n i).n.data b → w.heap.size ≤ b) ∧ NtT w B g S (takeN n i) K w' := by
  have hk := takeK_peek n i
  by_cases hp : peekK n i = 0
  · rw [if_pos hp] at hk
    obtain ⟨j, rfl⟩ := Int.eq_ofNat_of_zero_le (peekK_ok hp).1
    have hj : ((j : Int)).toNat = j := by omega
    rw [hj] at hk
    cases hap : apartP n.c (n.l.getD j mz).fr (n.l.getD j mz).to with
    | true =>
      rw [hap, if_pos rfl] at hk
      have hM : takeM n (j : Int) = mz := by unfold takeM; rw [if_neg (by omega)]
      have hN : takeN n (j : Int) = n := by unfold takeN; rw [if_neg (by omega)]
      rw [hk, hM, hN, cerr_pos (by decide)]
      exact (ntake_wait j w h hp hap).mono fun e w' ⟨h1, h2⟩ => ⟨none, 0, h1, IsF.nil _, fun b hb => absurd rfl hb.1, NtT.same h h2⟩
    | false =>
      rw [hap, if_neg (by decide)] at hk
      have hM : takeM n (j : Int) = n.l.getD j mz := by unfold takeM; rw [if_pos hk, hj]
      have hN : takeN n (j : Int) = { n with l := n.l.eraseIdx j } := by unfold takeN; rw [if_pos hk, hj]
      rw [hk, hM, hN, cerr_0]
      exact ntake_ok j w h hp hap
  · rw [if_neg hp] at hk
    have hM : takeM n i = mz := by unfold takeM; rw [if_neg (by omega)]
    have hN : takeN n i = n := by unfold takeN; rw [if_neg (by omega)]
    rw [hk, hM, hN, cerr_pos (by decide)]
    exact (ntake_none i w h (peekK_no hp)).mono fun e w' ⟨h1, h2⟩ => ⟨none, 0, h1, IsF.nil _, fun b hb => absurd rfl hb.1, NtT.same h h2⟩

end Go.Proofs.Ytofhbnnheadmlaa
