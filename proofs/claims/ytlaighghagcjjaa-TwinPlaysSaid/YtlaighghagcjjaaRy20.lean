/- The document's own pair (layer 20): Do, the ways that change nothing. -/
import Derived.Test.YtlaighghagcjjaaRw20
import Derived.Test.YtlaighghagcjjaaOrdE
namespace Go.Proofs.Ytlaighghagcjjaa
open Go.RowKit Go.Cor
set_option linter.unusedVariables false
set_option linter.unusedSimpArgs false

set_option maxRecDepth 100000 in
set_option maxHeartbeats 2000000 in
theorem ship_none1 (xa xb : Option Addr) (na nb ca cb : Nat) (tm st te sd ck cv ce cc cn c1 c2 c3 : Int) (w : World) (ht : te = tm) (hn : nb = na) :
    Calls Try.prog 10 #[.agg #[.slice xa na ca, .slice xb nb cb, .bool true, .bool true, .int .i64 1, .int .i64 tm, .int .i64 st], .agg #[.int .i64 1, .int .i64 te, .int .i64 sd, .int .i64 ck, .int .i64 cv, .int .i64 ce, .int .i64 cc, .int .i64 cn, .int .i64 c1, .int .i64 c2, .int .i64 c3]] w fun e w' => e = .returned (.tuple #[.agg #[.slice xa na ca, .slice xb nb cb, .bool true, .bool true, .int .i64 1, .int .i64 tm, .int .i64 st], .int .i64 0, .int .i64 6]) ∧ Below w.heap.size w w' := by
  have hb : (te != tm) = false := by rw [bne_eq_false_iff_eq]; exact ht
  have hbn : ((nb : Int) == (na : Int)) = true := by rw [beq_iff_eq]; omega
  clear ht hn
  have hY := ((Blk.new w #[.slice xa na ca, .slice xb nb cb, .bool true, .bool true, .int .i64 1, .int .i64 tm, .int .i64 st] 29).alloc (.cells #[.int .i64 1, .int .i64 te, .int .i64 sd, .int .i64 ck, .int .i64 cv, .int .i64 ce, .int .i64 cc, .int .i64 cn, .int .i64 c1, .int .i64 c2, .int .i64 c3] 35)).alloc (.cells #[.slice none 0 0, .slice none 0 0, .bool false, .bool false, .int .i64 0, .int .i64 0, .int .i64 0] 29)
  have hA := (Blk.new (w.alloc (.cells #[.slice xa na ca, .slice xb nb cb, .bool true, .bool true, .int .i64 1, .int .i64 tm, .int .i64 st] 29)) #[.int .i64 1, .int .i64 te, .int .i64 sd, .int .i64 ck, .int .i64 cv, .int .i64 ce, .int .i64 cc, .int .i64 cn, .int .i64 c1, .int .i64 c2, .int .i64 c3] 35).alloc (.cells #[.slice none 0 0, .slice none 0 0, .bool false, .bool false, .int .i64 0, .int .i64 0, .int .i64 0] 29)
  have hR := Blk.new ((w.alloc (.cells #[.slice xa na ca, .slice xb nb cb, .bool true, .bool true, .int .i64 1, .int .i64 tm, .int .i64 st] 29)).alloc (.cells #[.int .i64 1, .int .i64 te, .int .i64 sd, .int .i64 ck, .int .i64 cv, .int .i64 ce, .int .i64 cc, .int .i64 cn, .int .i64 c1, .int .i64 c2, .int .i64 c3] 35)) #[.slice none 0 0, .slice none 0 0, .bool false, .bool false, .int .i64 0, .int .i64 0, .int .i64 0] 29
  have hB := (((Below.refl w.heap.size w).alloc (Nat.le_refl _) (.cells #[.slice xa na ca, .slice xb nb cb, .bool true, .bool true, .int .i64 1, .int .i64 tm, .int .i64 st] 29)).alloc (by simp) (.cells #[.int .i64 1, .int .i64 te, .int .i64 sd, .int .i64 ck, .int .i64 cv, .int .i64 ce, .int .i64 cc, .int .i64 cn, .int .i64 c1, .int .i64 c2, .int .i64 c3] 35)).alloc (by simp; omega) (.cells #[.slice none 0 0, .slice none 0 0, .bool false, .bool false, .int .i64 0, .int .i64 0, .int .i64 0] 29)
  obtain ⟨w0, hW⟩ : ∃ z, ((w.alloc (.cells #[.slice xa na ca, .slice xb nb cb, .bool true, .bool true, .int .i64 1, .int .i64 tm, .int .i64 st] 29)).alloc (.cells #[.int .i64 1, .int .i64 te, .int .i64 sd, .int .i64 ck, .int .i64 cv, .int .i64 ce, .int .i64 cc, .int .i64 cn, .int .i64 c1, .int .i64 c2, .int .i64 c3] 35)).alloc (.cells #[.slice none 0 0, .slice none 0 0, .bool false, .bool false, .int .i64 0, .int .i64 0, .int .i64 0] 29) = z := ⟨_, rfl⟩
  rw [hW] at hY hA hR hB
  obtain ⟨Y, hYe⟩ : ∃ z, w.heap.size = z := ⟨_, rfl⟩
  obtain ⟨X, hXe⟩ : ∃ z, (w.alloc (.cells #[.slice xa na ca, .slice xb nb cb, .bool true, .bool true, .int .i64 1, .int .i64 tm, .int .i64 st] 29)).heap.size = z := ⟨_, rfl⟩
  obtain ⟨R, hRe⟩ : ∃ z, ((w.alloc (.cells #[.slice xa na ca, .slice xb nb cb, .bool true, .bool true, .int .i64 1, .int .i64 tm, .int .i64 st] 29)).alloc (.cells #[.int .i64 1, .int .i64 te, .int .i64 sd, .int .i64 ck, .int .i64 cv, .int .i64 ce, .int .i64 cc, .int .i64 cn, .int .i64 c1, .int .i64 c2, .int .i64 c3] 35)).heap.size = z := ⟨_, rfl⟩
  rw [hYe] at hY
  rw [hXe] at hA
  rw [hRe] at hR
  have hX1 : w.heap.size + 1 = X := by rw [← hXe]; simp
  have hR1 : w.heap.size + 1 + 1 = R := by rw [← hRe]; simp
  have HW := Lib.hid hW
  have HYe := Lib.hid hYe
  have HXe := Lib.hid hX1
  have HRe := Lib.hid hR1
  have HY := Lib.hid hY
  have HA := Lib.hid hA
  have HR := Lib.hid hR
  have HB := Lib.hid hB
  clear hW hYe hXe hRe hX1 hR1 hA hR hB
  have y4 := hY.cell 4 rfl
  clear hY
  go_enter Try.func10, Try.ntmps10
  go_upto_region 1 with fail
  rw [HW.out]
  try rw [HRe.out]
  try rw [HXe.out]
  try rw [HYe.out]
  go_region
  go_upto_region 2 with fail
  clear y4
  have HS := Lib.hid (fun (wx : World) (hb : Below w0.heap.size w0 wx) => show wx.cell? ⟨Y, 0, none⟩ = some (.slice xa na ca) ∧ wx.cell? ⟨Y, 1, none⟩ = some (.slice xb nb cb) ∧ wx.cell? ⟨Y, 2, none⟩ = some (.bool true) ∧ wx.cell? ⟨Y, 3, none⟩ = some (.bool true) ∧ wx.cell? ⟨Y, 4, none⟩ = some (.int .i64 1) ∧ wx.cell? ⟨Y, 5, none⟩ = some (.int .i64 tm) ∧ wx.cell? ⟨Y, 6, none⟩ = some (.int .i64 st) from
    have h := HY.out.below hb HY.out.lt
    ⟨h.cell 0 rfl, h.cell 1 rfl, h.cell 2 rfl, h.cell 3 rfl, h.cell 4 rfl, h.cell 5 rfl, h.cell 6 rfl⟩)
  have S0 := HS.out w0.drew.drew (Below.refl w0.heap.size w0).drew.drew
  refine AnyE.start (S := (fun wx => wx.cell? ⟨Y, 0, none⟩ = some (.slice xa na ca) ∧ wx.cell? ⟨Y, 1, none⟩ = some (.slice xb nb cb) ∧ wx.cell? ⟨Y, 2, none⟩ = some (.bool true) ∧ wx.cell? ⟨Y, 3, none⟩ = some (.bool true) ∧ wx.cell? ⟨Y, 4, none⟩ = some (.int .i64 1) ∧ wx.cell? ⟨Y, 5, none⟩ = some (.int .i64 tm) ∧ wx.cell? ⟨Y, 6, none⟩ = some (.int .i64 st))) 7 (by kernel_rfl) (S0) (fun hHeld => ?_)
  refine AnyE.take (i := 0) (v := ?_) rfl (by kernel_rfl) (by kernel_rfl) (by kernel_rfl) (by kernel_rfl) (fun _ _ _ h => h) (Or.inl ⟨by rfl, ?_⟩) (by assumption) ?_
  rotate_left 1
  · intro w hSw
    (try dsimp only at hSw)
    go_simp
    all_goals (with_reducible rfl)
  try simp only [Act.put, List.getElem_toArray, List.getElem_cons_zero, List.getElem_cons_succ, List.setIfInBounds_toArray, List.set_cons_zero, List.set_cons_succ]
  refine AnyE.take (i := 1) (v := ?_) rfl (by kernel_rfl) (by kernel_rfl) (by kernel_rfl) (by kernel_rfl) (fun _ _ _ h => h) (Or.inl ⟨by rfl, ?_⟩) (by assumption) ?_
  rotate_left 1
  · intro w hSw
    (try dsimp only at hSw)
    go_simp
    all_goals (with_reducible rfl)
  try simp only [Act.put, List.getElem_toArray, List.getElem_cons_zero, List.getElem_cons_succ, List.setIfInBounds_toArray, List.set_cons_zero, List.set_cons_succ]
  refine AnyE.take (i := 3) (v := ?_) rfl (by kernel_rfl) (by kernel_rfl) (by kernel_rfl) (by kernel_rfl) (fun _ _ _ h => h) (Or.inl ⟨by rfl, ?_⟩) (by assumption) ?_
  rotate_left 1
  · intro w hSw
    (try dsimp only at hSw)
    go_simp
    all_goals (with_reducible rfl)
  try simp only [Act.put, List.getElem_toArray, List.getElem_cons_zero, List.getElem_cons_succ, List.setIfInBounds_toArray, List.set_cons_zero, List.set_cons_succ]
  refine AnyE.take (i := 4) (v := ?_) rfl (by kernel_rfl) (by kernel_rfl) (by kernel_rfl) (by kernel_rfl) (fun _ _ _ h => h) (Or.inl ⟨by rfl, ?_⟩) (by assumption) ?_
  rotate_left 1
  · intro w hSw
    (try dsimp only at hSw)
    go_simp
    all_goals (with_reducible rfl)
  try simp only [Act.put, List.getElem_toArray, List.getElem_cons_zero, List.getElem_cons_succ, List.setIfInBounds_toArray, List.set_cons_zero, List.set_cons_succ]
  refine AnyE.next (rs := [2]) (by kernel_rfl) (by simp) ?_
  refine AllE.cons rfl (fun K hK => ?_) AllE.nil
  go_simp
  refine (rlog20 xa xb na nb ca cb true true 1 tm st 1 _).mono ?_
  rintro e w1 ⟨rfl, hb1⟩
  refine hK.out _ _ (HS.out _ ((Below.refl w0.heap.size w0).drew.drew.trans (hb1.mono (Nat.le_refl _)))) (fun hHeld => ?_)
  clear hK K
  try simp only [Act.put, List.getElem_toArray, List.getElem_cons_zero, List.getElem_cons_succ, List.setIfInBounds_toArray, List.set_cons_zero, List.set_cons_succ]
  refine AnyE.next (rs := [5]) (by kernel_rfl) (by simp) ?_
  refine AllE.cons rfl (fun K hK => ?_) AllE.nil
  go_simp
  refine (rlog20 xa xb na nb ca cb true true 1 tm st 0 _).mono ?_
  rintro e w2 ⟨rfl, hb2⟩
  refine hK.out _ _ (HS.out _ (((Below.refl w0.heap.size w0).drew.drew.trans (hb1.mono (Nat.le_refl _))).trans (hb2.mono hb1.size))) (fun hHeld => ?_)
  clear hK K
  try simp only [Act.put, List.getElem_toArray, List.getElem_cons_zero, List.getElem_cons_succ, List.setIfInBounds_toArray, List.set_cons_zero, List.set_cons_succ]
  refine AnyE.next (rs := [6]) (by kernel_rfl) (by simp) ?_
  refine AllE.cons rfl (fun K hK => ?_) AllE.nil
  go_simp
  refine hK.out _ _ (HS.out _ (((Below.refl w0.heap.size w0).drew.drew.trans (hb1.mono (Nat.le_refl _))).trans (hb2.mono hb1.size))) (fun hHeld => ?_)
  clear hK K
  try simp only [Act.put, List.getElem_toArray, List.getElem_cons_zero, List.getElem_cons_succ, List.setIfInBounds_toArray, List.set_cons_zero, List.set_cons_succ]
  refine AnyE.next (rs := [7]) (by kernel_rfl) (by simp) ?_
  refine AllE.last rfl (fun K hK => ?_)
  go_simp
  refine hK.out _ _ ?_
  clear hK K
  try simp only [Act.put, List.getElem_toArray, List.getElem_cons_zero, List.getElem_cons_succ, List.setIfInBounds_toArray, List.set_cons_zero, List.set_cons_succ]
  refine AnyE.done (by kernel_rfl) ?_ _
  have hb20 := ((Below.refl w0.heap.size w0).drew.drew.trans (hb1.mono (Nat.le_refl _))).trans (hb2.mono hb1.size)
  have HY2 := Lib.hid (HY.out.below hb20 HY.out.lt)
  have HA2 := Lib.hid (HA.out.below hb20 HA.out.lt)
  have HR2 := Lib.hid (HR.out.below hb20 HR.out.lt)
  have HB2 := Lib.hid (HB.out.trans (hb20.mono HB.out.size))
  clear hb1 hb2 hb20 S0
  clear hHeld
  have y0 := HY2.out.cell 0 rfl
  have y1 := HY2.out.cell 1 rfl
  have y2 := HY2.out.cell 2 rfl
  have y3 := HY2.out.cell 3 rfl
  have y4 := HY2.out.cell 4 rfl
  have y5 := HY2.out.cell 5 rfl
  have y6 := HY2.out.cell 6 rfl
  have a0 := HA2.out.cell 0 rfl
  have a1 := HA2.out.cell 1 rfl
  have a2 := HA2.out.cell 2 rfl
  go_wp2_with (refine wpList_store7 rfl 29 Try.sizePr20 _ _ rfl R 29 HR2.out rfl rfl ?_)
  intro w3 hr3 hk3
  have HB3 := Lib.hid (HB2.out.trans (hk3.below HB2.out.size (fun q hq e => by have h1 := HRe.out; omega)))
  have z0 := hr3.cell 0 rfl
  have z1 := hr3.cell 1 rfl
  have z2 := hr3.cell 2 rfl
  have z3 := hr3.cell 3 rfl
  have z4 := hr3.cell 4 rfl
  have z5 := hr3.cell 5 rfl
  have z6 := hr3.cell 6 rfl
  clear hr3 hk3 y0 y1 y2 y3 y4 y5 y6 a0 a1 a2
  go_wp2
  exact bodyPost_ret (v := .tuple #[.agg #[.slice xa na ca, .slice xb nb cb, .bool true, .bool true, .int .i64 1, .int .i64 tm, .int .i64 st], .int .i64 0, .int .i64 6]) (by simp [results, Try.results10, go_sem, z0, z1, z2, z3, z4, z5, z6]) rfl ⟨rfl, HB3.out⟩
set_option maxRecDepth 100000 in
set_option maxHeartbeats 2000000 in
theorem side21a (xa xb : Option Addr) (na nb ca cb : Nat) (u0 u1 : Bool) (tm st te sd ck cv ce cc cn c1 c2 c3 : Int) (w : World) (hs : sd < 0) :
    Calls Try.prog 10 #[.agg #[.slice xa na ca, .slice xb nb cb, .bool u0, .bool u1, .int .i64 1, .int .i64 tm, .int .i64 st], .agg #[.int .i64 2, .int .i64 te, .int .i64 sd, .int .i64 ck, .int .i64 cv, .int .i64 ce, .int .i64 cc, .int .i64 cn, .int .i64 c1, .int .i64 c2, .int .i64 c3]] w fun e w' => e = .returned (.tuple #[.agg #[.slice xa na ca, .slice xb nb cb, .bool u0, .bool u1, .int .i64 1, .int .i64 tm, .int .i64 st], .int .i64 0, .int .i64 1]) ∧ Below w.heap.size w w' := by
  have hY := ((Blk.new w #[.slice xa na ca, .slice xb nb cb, .bool u0, .bool u1, .int .i64 1, .int .i64 tm, .int .i64 st] 29).alloc (.cells #[.int .i64 2, .int .i64 te, .int .i64 sd, .int .i64 ck, .int .i64 cv, .int .i64 ce, .int .i64 cc, .int .i64 cn, .int .i64 c1, .int .i64 c2, .int .i64 c3] 35)).alloc (.cells #[.slice none 0 0, .slice none 0 0, .bool false, .bool false, .int .i64 0, .int .i64 0, .int .i64 0] 29)
  have hA := (Blk.new (w.alloc (.cells #[.slice xa na ca, .slice xb nb cb, .bool u0, .bool u1, .int .i64 1, .int .i64 tm, .int .i64 st] 29)) #[.int .i64 2, .int .i64 te, .int .i64 sd, .int .i64 ck, .int .i64 cv, .int .i64 ce, .int .i64 cc, .int .i64 cn, .int .i64 c1, .int .i64 c2, .int .i64 c3] 35).alloc (.cells #[.slice none 0 0, .slice none 0 0, .bool false, .bool false, .int .i64 0, .int .i64 0, .int .i64 0] 29)
  have hR := Blk.new ((w.alloc (.cells #[.slice xa na ca, .slice xb nb cb, .bool u0, .bool u1, .int .i64 1, .int .i64 tm, .int .i64 st] 29)).alloc (.cells #[.int .i64 2, .int .i64 te, .int .i64 sd, .int .i64 ck, .int .i64 cv, .int .i64 ce, .int .i64 cc, .int .i64 cn, .int .i64 c1, .int .i64 c2, .int .i64 c3] 35)) #[.slice none 0 0, .slice none 0 0, .bool false, .bool false, .int .i64 0, .int .i64 0, .int .i64 0] 29
  have hB := (((Below.refl w.heap.size w).alloc (Nat.le_refl _) (.cells #[.slice xa na ca, .slice xb nb cb, .bool u0, .bool u1, .int .i64 1, .int .i64 tm, .int .i64 st] 29)).alloc (by simp) (.cells #[.int .i64 2, .int .i64 te, .int .i64 sd, .int .i64 ck, .int .i64 cv, .int .i64 ce, .int .i64 cc, .int .i64 cn, .int .i64 c1, .int .i64 c2, .int .i64 c3] 35)).alloc (by simp; omega) (.cells #[.slice none 0 0, .slice none 0 0, .bool false, .bool false, .int .i64 0, .int .i64 0, .int .i64 0] 29)
  obtain ⟨w0, hW⟩ : ∃ z, ((w.alloc (.cells #[.slice xa na ca, .slice xb nb cb, .bool u0, .bool u1, .int .i64 1, .int .i64 tm, .int .i64 st] 29)).alloc (.cells #[.int .i64 2, .int .i64 te, .int .i64 sd, .int .i64 ck, .int .i64 cv, .int .i64 ce, .int .i64 cc, .int .i64 cn, .int .i64 c1, .int .i64 c2, .int .i64 c3] 35)).alloc (.cells #[.slice none 0 0, .slice none 0 0, .bool false, .bool false, .int .i64 0, .int .i64 0, .int .i64 0] 29) = z := ⟨_, rfl⟩
  rw [hW] at hY hA hR hB
  obtain ⟨Y, hYe⟩ : ∃ z, w.heap.size = z := ⟨_, rfl⟩
  obtain ⟨X, hXe⟩ : ∃ z, (w.alloc (.cells #[.slice xa na ca, .slice xb nb cb, .bool u0, .bool u1, .int .i64 1, .int .i64 tm, .int .i64 st] 29)).heap.size = z := ⟨_, rfl⟩
  obtain ⟨R, hRe⟩ : ∃ z, ((w.alloc (.cells #[.slice xa na ca, .slice xb nb cb, .bool u0, .bool u1, .int .i64 1, .int .i64 tm, .int .i64 st] 29)).alloc (.cells #[.int .i64 2, .int .i64 te, .int .i64 sd, .int .i64 ck, .int .i64 cv, .int .i64 ce, .int .i64 cc, .int .i64 cn, .int .i64 c1, .int .i64 c2, .int .i64 c3] 35)).heap.size = z := ⟨_, rfl⟩
  rw [hYe] at hY
  rw [hXe] at hA
  rw [hRe] at hR
  have hX1 : w.heap.size + 1 = X := by rw [← hXe]; simp
  have hR1 : w.heap.size + 1 + 1 = R := by rw [← hRe]; simp
  have HW := Lib.hid hW
  have HYe := Lib.hid hYe
  have HXe := Lib.hid hX1
  have HRe := Lib.hid hR1
  have HY := Lib.hid hY
  have HA := Lib.hid hA
  have HR := Lib.hid hR
  have HB := Lib.hid hB
  clear hW hYe hXe hRe hX1 hR1 hA hR hB
  have y4 := hY.cell 4 rfl
  clear hY
  go_enter Try.func10, Try.ntmps10
  go_upto_region 1 with fail
  rw [HW.out]
  try rw [HRe.out]
  try rw [HXe.out]
  try rw [HYe.out]
  go_region
  go_upto_region 2 with fail
  clear y4
  have HS := Lib.hid (fun (wx : World) (hb : Below w0.heap.size w0 wx) => show wx.cell? ⟨Y, 0, none⟩ = some (.slice xa na ca) ∧ wx.cell? ⟨Y, 1, none⟩ = some (.slice xb nb cb) ∧ wx.cell? ⟨Y, 2, none⟩ = some (.bool u0) ∧ wx.cell? ⟨Y, 3, none⟩ = some (.bool u1) ∧ wx.cell? ⟨Y, 4, none⟩ = some (.int .i64 1) ∧ wx.cell? ⟨Y, 5, none⟩ = some (.int .i64 tm) ∧ wx.cell? ⟨Y, 6, none⟩ = some (.int .i64 st) from
    have h := HY.out.below hb HY.out.lt
    ⟨h.cell 0 rfl, h.cell 1 rfl, h.cell 2 rfl, h.cell 3 rfl, h.cell 4 rfl, h.cell 5 rfl, h.cell 6 rfl⟩)
  have S0 := HS.out w0.drew.drew (Below.refl w0.heap.size w0).drew.drew
  refine AnyE.start (S := (fun wx => wx.cell? ⟨Y, 0, none⟩ = some (.slice xa na ca) ∧ wx.cell? ⟨Y, 1, none⟩ = some (.slice xb nb cb) ∧ wx.cell? ⟨Y, 2, none⟩ = some (.bool u0) ∧ wx.cell? ⟨Y, 3, none⟩ = some (.bool u1) ∧ wx.cell? ⟨Y, 4, none⟩ = some (.int .i64 1) ∧ wx.cell? ⟨Y, 5, none⟩ = some (.int .i64 tm) ∧ wx.cell? ⟨Y, 6, none⟩ = some (.int .i64 st))) 7 (by kernel_rfl) (S0) (fun hHeld => ?_)
  refine AnyE.take (i := 0) (v := ?_) rfl (by kernel_rfl) (by kernel_rfl) (by kernel_rfl) (by kernel_rfl) (fun _ _ _ h => h) (Or.inl ⟨by rfl, ?_⟩) (by assumption) ?_
  rotate_left 1
  · intro w hSw
    (try dsimp only at hSw)
    go_simp
    all_goals (with_reducible rfl)
  try simp only [Act.put, List.getElem_toArray, List.getElem_cons_zero, List.getElem_cons_succ, List.setIfInBounds_toArray, List.set_cons_zero, List.set_cons_succ]
  refine AnyE.take (i := 1) (v := ?_) rfl (by kernel_rfl) (by kernel_rfl) (by kernel_rfl) (by kernel_rfl) (fun _ _ _ h => h) (Or.inl ⟨by rfl, ?_⟩) (by assumption) ?_
  rotate_left 1
  · intro w hSw
    (try dsimp only at hSw)
    go_simp
    all_goals (with_reducible rfl)
  try simp only [Act.put, List.getElem_toArray, List.getElem_cons_zero, List.getElem_cons_succ, List.setIfInBounds_toArray, List.set_cons_zero, List.set_cons_succ]
  refine AnyE.take (i := 3) (v := ?_) rfl (by kernel_rfl) (by kernel_rfl) (by kernel_rfl) (by kernel_rfl) (fun _ _ _ h => h) (Or.inl ⟨by rfl, ?_⟩) (by assumption) ?_
  rotate_left 1
  · intro w hSw
    (try dsimp only at hSw)
    go_simp
    all_goals (with_reducible rfl)
  try simp only [Act.put, List.getElem_toArray, List.getElem_cons_zero, List.getElem_cons_succ, List.setIfInBounds_toArray, List.set_cons_zero, List.set_cons_succ]
  refine AnyE.take (i := 4) (v := ?_) rfl (by kernel_rfl) (by kernel_rfl) (by kernel_rfl) (by kernel_rfl) (fun _ _ _ h => h) (Or.inl ⟨by rfl, ?_⟩) (by assumption) ?_
  rotate_left 1
  · intro w hSw
    (try dsimp only at hSw)
    go_simp
    all_goals (with_reducible rfl)
  try simp only [Act.put, List.getElem_toArray, List.getElem_cons_zero, List.getElem_cons_succ, List.setIfInBounds_toArray, List.set_cons_zero, List.set_cons_succ]
  refine AnyE.next (rs := [2]) (by kernel_rfl) (by simp) ?_
  refine AllE.cons rfl (fun K hK => ?_) AllE.nil
  go_simp
  refine (rlog20 xa xb na nb ca cb u0 u1 1 tm st 1 _).mono ?_
  rintro e w1 ⟨rfl, hb1⟩
  refine hK.out _ _ (HS.out _ ((Below.refl w0.heap.size w0).drew.drew.trans (hb1.mono (Nat.le_refl _)))) (fun hHeld => ?_)
  clear hK K
  try simp only [Act.put, List.getElem_toArray, List.getElem_cons_zero, List.getElem_cons_succ, List.setIfInBounds_toArray, List.set_cons_zero, List.set_cons_succ]
  refine AnyE.next (rs := [5]) (by kernel_rfl) (by simp) ?_
  refine AllE.cons rfl (fun K hK => ?_) AllE.nil
  go_simp
  refine (rlog20 xa xb na nb ca cb u0 u1 1 tm st 0 _).mono ?_
  rintro e w2 ⟨rfl, hb2⟩
  refine hK.out _ _ (HS.out _ (((Below.refl w0.heap.size w0).drew.drew.trans (hb1.mono (Nat.le_refl _))).trans (hb2.mono hb1.size))) (fun hHeld => ?_)
  clear hK K
  try simp only [Act.put, List.getElem_toArray, List.getElem_cons_zero, List.getElem_cons_succ, List.setIfInBounds_toArray, List.set_cons_zero, List.set_cons_succ]
  refine AnyE.next (rs := [6]) (by kernel_rfl) (by simp) ?_
  refine AllE.cons rfl (fun K hK => ?_) AllE.nil
  go_simp
  refine hK.out _ _ (HS.out _ (((Below.refl w0.heap.size w0).drew.drew.trans (hb1.mono (Nat.le_refl _))).trans (hb2.mono hb1.size))) (fun hHeld => ?_)
  clear hK K
  try simp only [Act.put, List.getElem_toArray, List.getElem_cons_zero, List.getElem_cons_succ, List.setIfInBounds_toArray, List.set_cons_zero, List.set_cons_succ]
  refine AnyE.next (rs := [7]) (by kernel_rfl) (by simp) ?_
  refine AllE.last rfl (fun K hK => ?_)
  go_simp
  refine hK.out _ _ ?_
  clear hK K
  try simp only [Act.put, List.getElem_toArray, List.getElem_cons_zero, List.getElem_cons_succ, List.setIfInBounds_toArray, List.set_cons_zero, List.set_cons_succ]
  refine AnyE.done (by kernel_rfl) ?_ _
  have hb20 := ((Below.refl w0.heap.size w0).drew.drew.trans (hb1.mono (Nat.le_refl _))).trans (hb2.mono hb1.size)
  have HY2 := Lib.hid (HY.out.below hb20 HY.out.lt)
  have HA2 := Lib.hid (HA.out.below hb20 HA.out.lt)
  have HR2 := Lib.hid (HR.out.below hb20 HR.out.lt)
  have HB2 := Lib.hid (HB.out.trans (hb20.mono HB.out.size))
  clear hb1 hb2 hb20 S0
  clear hHeld
  have y0 := HY2.out.cell 0 rfl
  have y1 := HY2.out.cell 1 rfl
  have y2 := HY2.out.cell 2 rfl
  have y3 := HY2.out.cell 3 rfl
  have y4 := HY2.out.cell 4 rfl
  have y5 := HY2.out.cell 5 rfl
  have y6 := HY2.out.cell 6 rfl
  have a0 := HA2.out.cell 0 rfl
  have a1 := HA2.out.cell 1 rfl
  have a2 := HA2.out.cell 2 rfl
  go_wp2_with (refine wpList_store7 rfl 29 Try.sizePr20 _ _ rfl R 29 HR2.out rfl rfl ?_)
  intro w3 hr3 hk3
  have HB3 := Lib.hid (HB2.out.trans (hk3.below HB2.out.size (fun q hq e => by have h1 := HRe.out; omega)))
  have z0 := hr3.cell 0 rfl
  have z1 := hr3.cell 1 rfl
  have z2 := hr3.cell 2 rfl
  have z3 := hr3.cell 3 rfl
  have z4 := hr3.cell 4 rfl
  have z5 := hr3.cell 5 rfl
  have z6 := hr3.cell 6 rfl
  clear hr3 hk3 y0 y1 y2 y3 y4 y5 y6 a0 a1 a2
  go_wp2
  exact bodyPost_ret (v := .tuple #[.agg #[.slice xa na ca, .slice xb nb cb, .bool u0, .bool u1, .int .i64 1, .int .i64 tm, .int .i64 st], .int .i64 0, .int .i64 1]) (by simp [results, Try.results10, go_sem, z0, z1, z2, z3, z4, z5, z6]) rfl ⟨rfl, HB3.out⟩
set_option maxRecDepth 100000 in
set_option maxHeartbeats 2000000 in
theorem side21b (xa xb : Option Addr) (na nb ca cb : Nat) (u0 u1 : Bool) (tm st te sd ck cv ce cc cn c1 c2 c3 : Int) (w : World) (hs : sd > 1) :
    Calls Try.prog 10 #[.agg #[.slice xa na ca, .slice xb nb cb, .bool u0, .bool u1, .int .i64 1, .int .i64 tm, .int .i64 st], .agg #[.int .i64 2, .int .i64 te, .int .i64 sd, .int .i64 ck, .int .i64 cv, .int .i64 ce, .int .i64 cc, .int .i64 cn, .int .i64 c1, .int .i64 c2, .int .i64 c3]] w fun e w' => e = .returned (.tuple #[.agg #[.slice xa na ca, .slice xb nb cb, .bool u0, .bool u1, .int .i64 1, .int .i64 tm, .int .i64 st], .int .i64 0, .int .i64 1]) ∧ Below w.heap.size w w' := by
  have hs0 : ¬ sd < 0 := by omega
  have hY := ((Blk.new w #[.slice xa na ca, .slice xb nb cb, .bool u0, .bool u1, .int .i64 1, .int .i64 tm, .int .i64 st] 29).alloc (.cells #[.int .i64 2, .int .i64 te, .int .i64 sd, .int .i64 ck, .int .i64 cv, .int .i64 ce, .int .i64 cc, .int .i64 cn, .int .i64 c1, .int .i64 c2, .int .i64 c3] 35)).alloc (.cells #[.slice none 0 0, .slice none 0 0, .bool false, .bool false, .int .i64 0, .int .i64 0, .int .i64 0] 29)
  have hA := (Blk.new (w.alloc (.cells #[.slice xa na ca, .slice xb nb cb, .bool u0, .bool u1, .int .i64 1, .int .i64 tm, .int .i64 st] 29)) #[.int .i64 2, .int .i64 te, .int .i64 sd, .int .i64 ck, .int .i64 cv, .int .i64 ce, .int .i64 cc, .int .i64 cn, .int .i64 c1, .int .i64 c2, .int .i64 c3] 35).alloc (.cells #[.slice none 0 0, .slice none 0 0, .bool false, .bool false, .int .i64 0, .int .i64 0, .int .i64 0] 29)
  have hR := Blk.new ((w.alloc (.cells #[.slice xa na ca, .slice xb nb cb, .bool u0, .bool u1, .int .i64 1, .int .i64 tm, .int .i64 st] 29)).alloc (.cells #[.int .i64 2, .int .i64 te, .int .i64 sd, .int .i64 ck, .int .i64 cv, .int .i64 ce, .int .i64 cc, .int .i64 cn, .int .i64 c1, .int .i64 c2, .int .i64 c3] 35)) #[.slice none 0 0, .slice none 0 0, .bool false, .bool false, .int .i64 0, .int .i64 0, .int .i64 0] 29
  have hB := (((Below.refl w.heap.size w).alloc (Nat.le_refl _) (.cells #[.slice xa na ca, .slice xb nb cb, .bool u0, .bool u1, .int .i64 1, .int .i64 tm, .int .i64 st] 29)).alloc (by simp) (.cells #[.int .i64 2, .int .i64 te, .int .i64 sd, .int .i64 ck, .int .i64 cv, .int .i64 ce, .int .i64 cc, .int .i64 cn, .int .i64 c1, .int .i64 c2, .int .i64 c3] 35)).alloc (by simp; omega) (.cells #[.slice none 0 0, .slice none 0 0, .bool false, .bool false, .int .i64 0, .int .i64 0, .int .i64 0] 29)
  obtain ⟨w0, hW⟩ : ∃ z, ((w.alloc (.cells #[.slice xa na ca, .slice xb nb cb, .bool u0, .bool u1, .int .i64 1, .int .i64 tm, .int .i64 st] 29)).alloc (.cells #[.int .i64 2, .int .i64 te, .int .i64 sd, .int .i64 ck, .int .i64 cv, .int .i64 ce, .int .i64 cc, .int .i64 cn, .int .i64 c1, .int .i64 c2, .int .i64 c3] 35)).alloc (.cells #[.slice none 0 0, .slice none 0 0, .bool false, .bool false, .int .i64 0, .int .i64 0, .int .i64 0] 29) = z := ⟨_, rfl⟩
  rw [hW] at hY hA hR hB
  obtain ⟨Y, hYe⟩ : ∃ z, w.heap.size = z := ⟨_, rfl⟩
  obtain ⟨X, hXe⟩ : ∃ z, (w.alloc (.cells #[.slice xa na ca, .slice xb nb cb, .bool u0, .bool u1, .int .i64 1, .int .i64 tm, .int .i64 st] 29)).heap.size = z := ⟨_, rfl⟩
  obtain ⟨R, hRe⟩ : ∃ z, ((w.alloc (.cells #[.slice xa na ca, .slice xb nb cb, .bool u0, .bool u1, .int .i64 1, .int .i64 tm, .int .i64 st] 29)).alloc (.cells #[.int .i64 2, .int .i64 te, .int .i64 sd, .int .i64 ck, .int .i64 cv, .int .i64 ce, .int .i64 cc, .int .i64 cn, .int .i64 c1, .int .i64 c2, .int .i64 c3] 35)).heap.size = z := ⟨_, rfl⟩
  rw [hYe] at hY
  rw [hXe] at hA
  rw [hRe] at hR
  have hX1 : w.heap.size + 1 = X := by rw [← hXe]; simp
  have hR1 : w.heap.size + 1 + 1 = R := by rw [← hRe]; simp
  have HW := Lib.hid hW
  have HYe := Lib.hid hYe
  have HXe := Lib.hid hX1
  have HRe := Lib.hid hR1
  have HY := Lib.hid hY
  have HA := Lib.hid hA
  have HR := Lib.hid hR
  have HB := Lib.hid hB
  clear hW hYe hXe hRe hX1 hR1 hA hR hB
  have y4 := hY.cell 4 rfl
  clear hY
  go_enter Try.func10, Try.ntmps10
  go_upto_region 1 with fail
  rw [HW.out]
  try rw [HRe.out]
  try rw [HXe.out]
  try rw [HYe.out]
  go_region
  go_upto_region 2 with fail
  clear y4
  have HS := Lib.hid (fun (wx : World) (hb : Below w0.heap.size w0 wx) => show wx.cell? ⟨Y, 0, none⟩ = some (.slice xa na ca) ∧ wx.cell? ⟨Y, 1, none⟩ = some (.slice xb nb cb) ∧ wx.cell? ⟨Y, 2, none⟩ = some (.bool u0) ∧ wx.cell? ⟨Y, 3, none⟩ = some (.bool u1) ∧ wx.cell? ⟨Y, 4, none⟩ = some (.int .i64 1) ∧ wx.cell? ⟨Y, 5, none⟩ = some (.int .i64 tm) ∧ wx.cell? ⟨Y, 6, none⟩ = some (.int .i64 st) from
    have h := HY.out.below hb HY.out.lt
    ⟨h.cell 0 rfl, h.cell 1 rfl, h.cell 2 rfl, h.cell 3 rfl, h.cell 4 rfl, h.cell 5 rfl, h.cell 6 rfl⟩)
  have S0 := HS.out w0.drew.drew (Below.refl w0.heap.size w0).drew.drew
  refine AnyE.start (S := (fun wx => wx.cell? ⟨Y, 0, none⟩ = some (.slice xa na ca) ∧ wx.cell? ⟨Y, 1, none⟩ = some (.slice xb nb cb) ∧ wx.cell? ⟨Y, 2, none⟩ = some (.bool u0) ∧ wx.cell? ⟨Y, 3, none⟩ = some (.bool u1) ∧ wx.cell? ⟨Y, 4, none⟩ = some (.int .i64 1) ∧ wx.cell? ⟨Y, 5, none⟩ = some (.int .i64 tm) ∧ wx.cell? ⟨Y, 6, none⟩ = some (.int .i64 st))) 7 (by kernel_rfl) (S0) (fun hHeld => ?_)
  refine AnyE.take (i := 0) (v := ?_) rfl (by kernel_rfl) (by kernel_rfl) (by kernel_rfl) (by kernel_rfl) (fun _ _ _ h => h) (Or.inl ⟨by rfl, ?_⟩) (by assumption) ?_
  rotate_left 1
  · intro w hSw
    (try dsimp only at hSw)
    go_simp
    all_goals (with_reducible rfl)
  try simp only [Act.put, List.getElem_toArray, List.getElem_cons_zero, List.getElem_cons_succ, List.setIfInBounds_toArray, List.set_cons_zero, List.set_cons_succ]
  refine AnyE.take (i := 1) (v := ?_) rfl (by kernel_rfl) (by kernel_rfl) (by kernel_rfl) (by kernel_rfl) (fun _ _ _ h => h) (Or.inl ⟨by rfl, ?_⟩) (by assumption) ?_
  rotate_left 1
  · intro w hSw
    (try dsimp only at hSw)
    go_simp
    all_goals (with_reducible rfl)
  try simp only [Act.put, List.getElem_toArray, List.getElem_cons_zero, List.getElem_cons_succ, List.setIfInBounds_toArray, List.set_cons_zero, List.set_cons_succ]
  refine AnyE.take (i := 3) (v := ?_) rfl (by kernel_rfl) (by kernel_rfl) (by kernel_rfl) (by kernel_rfl) (fun _ _ _ h => h) (Or.inl ⟨by rfl, ?_⟩) (by assumption) ?_
  rotate_left 1
  · intro w hSw
    (try dsimp only at hSw)
    go_simp
    all_goals (with_reducible rfl)
  try simp only [Act.put, List.getElem_toArray, List.getElem_cons_zero, List.getElem_cons_succ, List.setIfInBounds_toArray, List.set_cons_zero, List.set_cons_succ]
  refine AnyE.take (i := 4) (v := ?_) rfl (by kernel_rfl) (by kernel_rfl) (by kernel_rfl) (by kernel_rfl) (fun _ _ _ h => h) (Or.inl ⟨by rfl, ?_⟩) (by assumption) ?_
  rotate_left 1
  · intro w hSw
    (try dsimp only at hSw)
    go_simp
    all_goals (with_reducible rfl)
  try simp only [Act.put, List.getElem_toArray, List.getElem_cons_zero, List.getElem_cons_succ, List.setIfInBounds_toArray, List.set_cons_zero, List.set_cons_succ]
  refine AnyE.next (rs := [2]) (by kernel_rfl) (by simp) ?_
  refine AllE.cons rfl (fun K hK => ?_) AllE.nil
  go_simp
  refine (rlog20 xa xb na nb ca cb u0 u1 1 tm st 1 _).mono ?_
  rintro e w1 ⟨rfl, hb1⟩
  refine hK.out _ _ (HS.out _ ((Below.refl w0.heap.size w0).drew.drew.trans (hb1.mono (Nat.le_refl _)))) (fun hHeld => ?_)
  clear hK K
  try simp only [Act.put, List.getElem_toArray, List.getElem_cons_zero, List.getElem_cons_succ, List.setIfInBounds_toArray, List.set_cons_zero, List.set_cons_succ]
  refine AnyE.next (rs := [5]) (by kernel_rfl) (by simp) ?_
  refine AllE.cons rfl (fun K hK => ?_) AllE.nil
  go_simp
  refine (rlog20 xa xb na nb ca cb u0 u1 1 tm st 0 _).mono ?_
  rintro e w2 ⟨rfl, hb2⟩
  refine hK.out _ _ (HS.out _ (((Below.refl w0.heap.size w0).drew.drew.trans (hb1.mono (Nat.le_refl _))).trans (hb2.mono hb1.size))) (fun hHeld => ?_)
  clear hK K
  try simp only [Act.put, List.getElem_toArray, List.getElem_cons_zero, List.getElem_cons_succ, List.setIfInBounds_toArray, List.set_cons_zero, List.set_cons_succ]
  refine AnyE.next (rs := [6]) (by kernel_rfl) (by simp) ?_
  refine AllE.cons rfl (fun K hK => ?_) AllE.nil
  go_simp
  refine hK.out _ _ (HS.out _ (((Below.refl w0.heap.size w0).drew.drew.trans (hb1.mono (Nat.le_refl _))).trans (hb2.mono hb1.size))) (fun hHeld => ?_)
  clear hK K
  try simp only [Act.put, List.getElem_toArray, List.getElem_cons_zero, List.getElem_cons_succ, List.setIfInBounds_toArray, List.set_cons_zero, List.set_cons_succ]
  refine AnyE.next (rs := [7]) (by kernel_rfl) (by simp) ?_
  refine AllE.last rfl (fun K hK => ?_)
  go_simp
  refine hK.out _ _ ?_
  clear hK K
  try simp only [Act.put, List.getElem_toArray, List.getElem_cons_zero, List.getElem_cons_succ, List.setIfInBounds_toArray, List.set_cons_zero, List.set_cons_succ]
  refine AnyE.done (by kernel_rfl) ?_ _
  have hb20 := ((Below.refl w0.heap.size w0).drew.drew.trans (hb1.mono (Nat.le_refl _))).trans (hb2.mono hb1.size)
  have HY2 := Lib.hid (HY.out.below hb20 HY.out.lt)
  have HA2 := Lib.hid (HA.out.below hb20 HA.out.lt)
  have HR2 := Lib.hid (HR.out.below hb20 HR.out.lt)
  have HB2 := Lib.hid (HB.out.trans (hb20.mono HB.out.size))
  clear hb1 hb2 hb20 S0
  clear hHeld
  have y0 := HY2.out.cell 0 rfl
  have y1 := HY2.out.cell 1 rfl
  have y2 := HY2.out.cell 2 rfl
  have y3 := HY2.out.cell 3 rfl
  have y4 := HY2.out.cell 4 rfl
  have y5 := HY2.out.cell 5 rfl
  have y6 := HY2.out.cell 6 rfl
  have a0 := HA2.out.cell 0 rfl
  have a1 := HA2.out.cell 1 rfl
  have a2 := HA2.out.cell 2 rfl
  go_wp2_with (refine wpList_store7 rfl 29 Try.sizePr20 _ _ rfl R 29 HR2.out rfl rfl ?_)
  intro w3 hr3 hk3
  have HB3 := Lib.hid (HB2.out.trans (hk3.below HB2.out.size (fun q hq e => by have h1 := HRe.out; omega)))
  have z0 := hr3.cell 0 rfl
  have z1 := hr3.cell 1 rfl
  have z2 := hr3.cell 2 rfl
  have z3 := hr3.cell 3 rfl
  have z4 := hr3.cell 4 rfl
  have z5 := hr3.cell 5 rfl
  have z6 := hr3.cell 6 rfl
  clear hr3 hk3 y0 y1 y2 y3 y4 y5 y6 a0 a1 a2
  go_wp2
  exact bodyPost_ret (v := .tuple #[.agg #[.slice xa na ca, .slice xb nb cb, .bool u0, .bool u1, .int .i64 1, .int .i64 tm, .int .i64 st], .int .i64 0, .int .i64 1]) (by simp [results, Try.results10, go_sem, z0, z1, z2, z3, z4, z5, z6]) rfl ⟨rfl, HB3.out⟩
set_option maxRecDepth 100000 in
set_option maxHeartbeats 2000000 in
theorem side31a (xa xb : Option Addr) (na nb ca cb : Nat) (u0 u1 : Bool) (tm st te sd ck cv ce cc cn c1 c2 c3 : Int) (w : World) (hs : sd < 0) :
    Calls Try.prog 10 #[.agg #[.slice xa na ca, .slice xb nb cb, .bool u0, .bool u1, .int .i64 1, .int .i64 tm, .int .i64 st], .agg #[.int .i64 3, .int .i64 te, .int .i64 sd, .int .i64 ck, .int .i64 cv, .int .i64 ce, .int .i64 cc, .int .i64 cn, .int .i64 c1, .int .i64 c2, .int .i64 c3]] w fun e w' => e = .returned (.tuple #[.agg #[.slice xa na ca, .slice xb nb cb, .bool u0, .bool u1, .int .i64 1, .int .i64 tm, .int .i64 st], .int .i64 0, .int .i64 1]) ∧ Below w.heap.size w w' := by
  have hY := ((Blk.new w #[.slice xa na ca, .slice xb nb cb, .bool u0, .bool u1, .int .i64 1, .int .i64 tm, .int .i64 st] 29).alloc (.cells #[.int .i64 3, .int .i64 te, .int .i64 sd, .int .i64 ck, .int .i64 cv, .int .i64 ce, .int .i64 cc, .int .i64 cn, .int .i64 c1, .int .i64 c2, .int .i64 c3] 35)).alloc (.cells #[.slice none 0 0, .slice none 0 0, .bool false, .bool false, .int .i64 0, .int .i64 0, .int .i64 0] 29)
  have hA := (Blk.new (w.alloc (.cells #[.slice xa na ca, .slice xb nb cb, .bool u0, .bool u1, .int .i64 1, .int .i64 tm, .int .i64 st] 29)) #[.int .i64 3, .int .i64 te, .int .i64 sd, .int .i64 ck, .int .i64 cv, .int .i64 ce, .int .i64 cc, .int .i64 cn, .int .i64 c1, .int .i64 c2, .int .i64 c3] 35).alloc (.cells #[.slice none 0 0, .slice none 0 0, .bool false, .bool false, .int .i64 0, .int .i64 0, .int .i64 0] 29)
  have hR := Blk.new ((w.alloc (.cells #[.slice xa na ca, .slice xb nb cb, .bool u0, .bool u1, .int .i64 1, .int .i64 tm, .int .i64 st] 29)).alloc (.cells #[.int .i64 3, .int .i64 te, .int .i64 sd, .int .i64 ck, .int .i64 cv, .int .i64 ce, .int .i64 cc, .int .i64 cn, .int .i64 c1, .int .i64 c2, .int .i64 c3] 35)) #[.slice none 0 0, .slice none 0 0, .bool false, .bool false, .int .i64 0, .int .i64 0, .int .i64 0] 29
  have hB := (((Below.refl w.heap.size w).alloc (Nat.le_refl _) (.cells #[.slice xa na ca, .slice xb nb cb, .bool u0, .bool u1, .int .i64 1, .int .i64 tm, .int .i64 st] 29)).alloc (by simp) (.cells #[.int .i64 3, .int .i64 te, .int .i64 sd, .int .i64 ck, .int .i64 cv, .int .i64 ce, .int .i64 cc, .int .i64 cn, .int .i64 c1, .int .i64 c2, .int .i64 c3] 35)).alloc (by simp; omega) (.cells #[.slice none 0 0, .slice none 0 0, .bool false, .bool false, .int .i64 0, .int .i64 0, .int .i64 0] 29)
  obtain ⟨w0, hW⟩ : ∃ z, ((w.alloc (.cells #[.slice xa na ca, .slice xb nb cb, .bool u0, .bool u1, .int .i64 1, .int .i64 tm, .int .i64 st] 29)).alloc (.cells #[.int .i64 3, .int .i64 te, .int .i64 sd, .int .i64 ck, .int .i64 cv, .int .i64 ce, .int .i64 cc, .int .i64 cn, .int .i64 c1, .int .i64 c2, .int .i64 c3] 35)).alloc (.cells #[.slice none 0 0, .slice none 0 0, .bool false, .bool false, .int .i64 0, .int .i64 0, .int .i64 0] 29) = z := ⟨_, rfl⟩
  rw [hW] at hY hA hR hB
  obtain ⟨Y, hYe⟩ : ∃ z, w.heap.size = z := ⟨_, rfl⟩
  obtain ⟨X, hXe⟩ : ∃ z, (w.alloc (.cells #[.slice xa na ca, .slice xb nb cb, .bool u0, .bool u1, .int .i64 1, .int .i64 tm, .int .i64 st] 29)).heap.size = z := ⟨_, rfl⟩
  obtain ⟨R, hRe⟩ : ∃ z, ((w.alloc (.cells #[.slice xa na ca, .slice xb nb cb, .bool u0, .bool u1, .int .i64 1, .int .i64 tm, .int .i64 st] 29)).alloc (.cells #[.int .i64 3, .int .i64 te, .int .i64 sd, .int .i64 ck, .int .i64 cv, .int .i64 ce, .int .i64 cc, .int .i64 cn, .int .i64 c1, .int .i64 c2, .int .i64 c3] 35)).heap.size = z := ⟨_, rfl⟩
  rw [hYe] at hY
  rw [hXe] at hA
  rw [hRe] at hR
  have hX1 : w.heap.size + 1 = X := by rw [← hXe]; simp
  have hR1 : w.heap.size + 1 + 1 = R := by rw [← hRe]; simp
  have HW := Lib.hid hW
  have HYe := Lib.hid hYe
  have HXe := Lib.hid hX1
  have HRe := Lib.hid hR1
  have HY := Lib.hid hY
  have HA := Lib.hid hA
  have HR := Lib.hid hR
  have HB := Lib.hid hB
  clear hW hYe hXe hRe hX1 hR1 hA hR hB
  have y4 := hY.cell 4 rfl
  clear hY
  go_enter Try.func10, Try.ntmps10
  go_upto_region 1 with fail
  rw [HW.out]
  try rw [HRe.out]
  try rw [HXe.out]
  try rw [HYe.out]
  go_region
  go_upto_region 2 with fail
  clear y4
  have HS := Lib.hid (fun (wx : World) (hb : Below w0.heap.size w0 wx) => show wx.cell? ⟨Y, 0, none⟩ = some (.slice xa na ca) ∧ wx.cell? ⟨Y, 1, none⟩ = some (.slice xb nb cb) ∧ wx.cell? ⟨Y, 2, none⟩ = some (.bool u0) ∧ wx.cell? ⟨Y, 3, none⟩ = some (.bool u1) ∧ wx.cell? ⟨Y, 4, none⟩ = some (.int .i64 1) ∧ wx.cell? ⟨Y, 5, none⟩ = some (.int .i64 tm) ∧ wx.cell? ⟨Y, 6, none⟩ = some (.int .i64 st) from
    have h := HY.out.below hb HY.out.lt
    ⟨h.cell 0 rfl, h.cell 1 rfl, h.cell 2 rfl, h.cell 3 rfl, h.cell 4 rfl, h.cell 5 rfl, h.cell 6 rfl⟩)
  have S0 := HS.out w0.drew.drew (Below.refl w0.heap.size w0).drew.drew
  refine AnyE.start (S := (fun wx => wx.cell? ⟨Y, 0, none⟩ = some (.slice xa na ca) ∧ wx.cell? ⟨Y, 1, none⟩ = some (.slice xb nb cb) ∧ wx.cell? ⟨Y, 2, none⟩ = some (.bool u0) ∧ wx.cell? ⟨Y, 3, none⟩ = some (.bool u1) ∧ wx.cell? ⟨Y, 4, none⟩ = some (.int .i64 1) ∧ wx.cell? ⟨Y, 5, none⟩ = some (.int .i64 tm) ∧ wx.cell? ⟨Y, 6, none⟩ = some (.int .i64 st))) 7 (by kernel_rfl) (S0) (fun hHeld => ?_)
  refine AnyE.take (i := 0) (v := ?_) rfl (by kernel_rfl) (by kernel_rfl) (by kernel_rfl) (by kernel_rfl) (fun _ _ _ h => h) (Or.inl ⟨by rfl, ?_⟩) (by assumption) ?_
  rotate_left 1
  · intro w hSw
    (try dsimp only at hSw)
    go_simp
    all_goals (with_reducible rfl)
  try simp only [Act.put, List.getElem_toArray, List.getElem_cons_zero, List.getElem_cons_succ, List.setIfInBounds_toArray, List.set_cons_zero, List.set_cons_succ]
  refine AnyE.take (i := 1) (v := ?_) rfl (by kernel_rfl) (by kernel_rfl) (by kernel_rfl) (by kernel_rfl) (fun _ _ _ h => h) (Or.inl ⟨by rfl, ?_⟩) (by assumption) ?_
  rotate_left 1
  · intro w hSw
    (try dsimp only at hSw)
    go_simp
    all_goals (with_reducible rfl)
  try simp only [Act.put, List.getElem_toArray, List.getElem_cons_zero, List.getElem_cons_succ, List.setIfInBounds_toArray, List.set_cons_zero, List.set_cons_succ]
  refine AnyE.take (i := 3) (v := ?_) rfl (by kernel_rfl) (by kernel_rfl) (by kernel_rfl) (by kernel_rfl) (fun _ _ _ h => h) (Or.inl ⟨by rfl, ?_⟩) (by assumption) ?_
  rotate_left 1
  · intro w hSw
    (try dsimp only at hSw)
    go_simp
    all_goals (with_reducible rfl)
  try simp only [Act.put, List.getElem_toArray, List.getElem_cons_zero, List.getElem_cons_succ, List.setIfInBounds_toArray, List.set_cons_zero, List.set_cons_succ]
  refine AnyE.take (i := 4) (v := ?_) rfl (by kernel_rfl) (by kernel_rfl) (by kernel_rfl) (by kernel_rfl) (fun _ _ _ h => h) (Or.inl ⟨by rfl, ?_⟩) (by assumption) ?_
  rotate_left 1
  · intro w hSw
    (try dsimp only at hSw)
    go_simp
    all_goals (with_reducible rfl)
  try simp only [Act.put, List.getElem_toArray, List.getElem_cons_zero, List.getElem_cons_succ, List.setIfInBounds_toArray, List.set_cons_zero, List.set_cons_succ]
  refine AnyE.next (rs := [2]) (by kernel_rfl) (by simp) ?_
  refine AllE.cons rfl (fun K hK => ?_) AllE.nil
  go_simp
  refine (rlog20 xa xb na nb ca cb u0 u1 1 tm st 1 _).mono ?_
  rintro e w1 ⟨rfl, hb1⟩
  refine hK.out _ _ (HS.out _ ((Below.refl w0.heap.size w0).drew.drew.trans (hb1.mono (Nat.le_refl _)))) (fun hHeld => ?_)
  clear hK K
  try simp only [Act.put, List.getElem_toArray, List.getElem_cons_zero, List.getElem_cons_succ, List.setIfInBounds_toArray, List.set_cons_zero, List.set_cons_succ]
  refine AnyE.next (rs := [5]) (by kernel_rfl) (by simp) ?_
  refine AllE.cons rfl (fun K hK => ?_) AllE.nil
  go_simp
  refine (rlog20 xa xb na nb ca cb u0 u1 1 tm st 0 _).mono ?_
  rintro e w2 ⟨rfl, hb2⟩
  refine hK.out _ _ (HS.out _ (((Below.refl w0.heap.size w0).drew.drew.trans (hb1.mono (Nat.le_refl _))).trans (hb2.mono hb1.size))) (fun hHeld => ?_)
  clear hK K
  try simp only [Act.put, List.getElem_toArray, List.getElem_cons_zero, List.getElem_cons_succ, List.setIfInBounds_toArray, List.set_cons_zero, List.set_cons_succ]
  refine AnyE.next (rs := [6]) (by kernel_rfl) (by simp) ?_
  refine AllE.cons rfl (fun K hK => ?_) AllE.nil
  go_simp
  refine hK.out _ _ (HS.out _ (((Below.refl w0.heap.size w0).drew.drew.trans (hb1.mono (Nat.le_refl _))).trans (hb2.mono hb1.size))) (fun hHeld => ?_)
  clear hK K
  try simp only [Act.put, List.getElem_toArray, List.getElem_cons_zero, List.getElem_cons_succ, List.setIfInBounds_toArray, List.set_cons_zero, List.set_cons_succ]
  refine AnyE.next (rs := [7]) (by kernel_rfl) (by simp) ?_
  refine AllE.last rfl (fun K hK => ?_)
  go_simp
  refine hK.out _ _ ?_
  clear hK K
  try simp only [Act.put, List.getElem_toArray, List.getElem_cons_zero, List.getElem_cons_succ, List.setIfInBounds_toArray, List.set_cons_zero, List.set_cons_succ]
  refine AnyE.done (by kernel_rfl) ?_ _
  have hb20 := ((Below.refl w0.heap.size w0).drew.drew.trans (hb1.mono (Nat.le_refl _))).trans (hb2.mono hb1.size)
  have HY2 := Lib.hid (HY.out.below hb20 HY.out.lt)
  have HA2 := Lib.hid (HA.out.below hb20 HA.out.lt)
  have HR2 := Lib.hid (HR.out.below hb20 HR.out.lt)
  have HB2 := Lib.hid (HB.out.trans (hb20.mono HB.out.size))
  clear hb1 hb2 hb20 S0
  clear hHeld
  have y0 := HY2.out.cell 0 rfl
  have y1 := HY2.out.cell 1 rfl
  have y2 := HY2.out.cell 2 rfl
  have y3 := HY2.out.cell 3 rfl
  have y4 := HY2.out.cell 4 rfl
  have y5 := HY2.out.cell 5 rfl
  have y6 := HY2.out.cell 6 rfl
  have a0 := HA2.out.cell 0 rfl
  have a1 := HA2.out.cell 1 rfl
  have a2 := HA2.out.cell 2 rfl
  go_wp2_with (refine wpList_store7 rfl 29 Try.sizePr20 _ _ rfl R 29 HR2.out rfl rfl ?_)
  intro w3 hr3 hk3
  have HB3 := Lib.hid (HB2.out.trans (hk3.below HB2.out.size (fun q hq e => by have h1 := HRe.out; omega)))
  have z0 := hr3.cell 0 rfl
  have z1 := hr3.cell 1 rfl
  have z2 := hr3.cell 2 rfl
  have z3 := hr3.cell 3 rfl
  have z4 := hr3.cell 4 rfl
  have z5 := hr3.cell 5 rfl
  have z6 := hr3.cell 6 rfl
  clear hr3 hk3 y0 y1 y2 y3 y4 y5 y6 a0 a1 a2
  go_wp2
  exact bodyPost_ret (v := .tuple #[.agg #[.slice xa na ca, .slice xb nb cb, .bool u0, .bool u1, .int .i64 1, .int .i64 tm, .int .i64 st], .int .i64 0, .int .i64 1]) (by simp [results, Try.results10, go_sem, z0, z1, z2, z3, z4, z5, z6]) rfl ⟨rfl, HB3.out⟩
set_option maxRecDepth 100000 in
set_option maxHeartbeats 2000000 in
theorem side31b (xa xb : Option Addr) (na nb ca cb : Nat) (u0 u1 : Bool) (tm st te sd ck cv ce cc cn c1 c2 c3 : Int) (w : World) (hs : sd > 1) :
    Calls Try.prog 10 #[.agg #[.slice xa na ca, .slice xb nb cb, .bool u0, .bool u1, .int .i64 1, .int .i64 tm, .int .i64 st], .agg #[.int .i64 3, .int .i64 te, .int .i64 sd, .int .i64 ck, .int .i64 cv, .int .i64 ce, .int .i64 cc, .int .i64 cn, .int .i64 c1, .int .i64 c2, .int .i64 c3]] w fun e w' => e = .returned (.tuple #[.agg #[.slice xa na ca, .slice xb nb cb, .bool u0, .bool u1, .int .i64 1, .int .i64 tm, .int .i64 st], .int .i64 0, .int .i64 1]) ∧ Below w.heap.size w w' := by
  have hs0 : ¬ sd < 0 := by omega
  have hY := ((Blk.new w #[.slice xa na ca, .slice xb nb cb, .bool u0, .bool u1, .int .i64 1, .int .i64 tm, .int .i64 st] 29).alloc (.cells #[.int .i64 3, .int .i64 te, .int .i64 sd, .int .i64 ck, .int .i64 cv, .int .i64 ce, .int .i64 cc, .int .i64 cn, .int .i64 c1, .int .i64 c2, .int .i64 c3] 35)).alloc (.cells #[.slice none 0 0, .slice none 0 0, .bool false, .bool false, .int .i64 0, .int .i64 0, .int .i64 0] 29)
  have hA := (Blk.new (w.alloc (.cells #[.slice xa na ca, .slice xb nb cb, .bool u0, .bool u1, .int .i64 1, .int .i64 tm, .int .i64 st] 29)) #[.int .i64 3, .int .i64 te, .int .i64 sd, .int .i64 ck, .int .i64 cv, .int .i64 ce, .int .i64 cc, .int .i64 cn, .int .i64 c1, .int .i64 c2, .int .i64 c3] 35).alloc (.cells #[.slice none 0 0, .slice none 0 0, .bool false, .bool false, .int .i64 0, .int .i64 0, .int .i64 0] 29)
  have hR := Blk.new ((w.alloc (.cells #[.slice xa na ca, .slice xb nb cb, .bool u0, .bool u1, .int .i64 1, .int .i64 tm, .int .i64 st] 29)).alloc (.cells #[.int .i64 3, .int .i64 te, .int .i64 sd, .int .i64 ck, .int .i64 cv, .int .i64 ce, .int .i64 cc, .int .i64 cn, .int .i64 c1, .int .i64 c2, .int .i64 c3] 35)) #[.slice none 0 0, .slice none 0 0, .bool false, .bool false, .int .i64 0, .int .i64 0, .int .i64 0] 29
  have hB := (((Below.refl w.heap.size w).alloc (Nat.le_refl _) (.cells #[.slice xa na ca, .slice xb nb cb, .bool u0, .bool u1, .int .i64 1, .int .i64 tm, .int .i64 st] 29)).alloc (by simp) (.cells #[.int .i64 3, .int .i64 te, .int .i64 sd, .int .i64 ck, .int .i64 cv, .int .i64 ce, .int .i64 cc, .int .i64 cn, .int .i64 c1, .int .i64 c2, .int .i64 c3] 35)).alloc (by simp; omega) (.cells #[.slice none 0 0, .slice none 0 0, .bool false, .bool false, .int .i64 0, .int .i64 0, .int .i64 0] 29)
  obtain ⟨w0, hW⟩ : ∃ z, ((w.alloc (.cells #[.slice xa na ca, .slice xb nb cb, .bool u0, .bool u1, .int .i64 1, .int .i64 tm, .int .i64 st] 29)).alloc (.cells #[.int .i64 3, .int .i64 te, .int .i64 sd, .int .i64 ck, .int .i64 cv, .int .i64 ce, .int .i64 cc, .int .i64 cn, .int .i64 c1, .int .i64 c2, .int .i64 c3] 35)).alloc (.cells #[.slice none 0 0, .slice none 0 0, .bool false, .bool false, .int .i64 0, .int .i64 0, .int .i64 0] 29) = z := ⟨_, rfl⟩
  rw [hW] at hY hA hR hB
  obtain ⟨Y, hYe⟩ : ∃ z, w.heap.size = z := ⟨_, rfl⟩
  obtain ⟨X, hXe⟩ : ∃ z, (w.alloc (.cells #[.slice xa na ca, .slice xb nb cb, .bool u0, .bool u1, .int .i64 1, .int .i64 tm, .int .i64 st] 29)).heap.size = z := ⟨_, rfl⟩
  obtain ⟨R, hRe⟩ : ∃ z, ((w.alloc (.cells #[.slice xa na ca, .slice xb nb cb, .bool u0, .bool u1, .int .i64 1, .int .i64 tm, .int .i64 st] 29)).alloc (.cells #[.int .i64 3, .int .i64 te, .int .i64 sd, .int .i64 ck, .int .i64 cv, .int .i64 ce, .int .i64 cc, .int .i64 cn, .int .i64 c1, .int .i64 c2, .int .i64 c3] 35)).heap.size = z := ⟨_, rfl⟩
  rw [hYe] at hY
  rw [hXe] at hA
  rw [hRe] at hR
  have hX1 : w.heap.size + 1 = X := by rw [← hXe]; simp
  have hR1 : w.heap.size + 1 + 1 = R := by rw [← hRe]; simp
  have HW := Lib.hid hW
  have HYe := Lib.hid hYe
  have HXe := Lib.hid hX1
  have HRe := Lib.hid hR1
  have HY := Lib.hid hY
  have HA := Lib.hid hA
  have HR := Lib.hid hR
  have HB := Lib.hid hB
  clear hW hYe hXe hRe hX1 hR1 hA hR hB
  have y4 := hY.cell 4 rfl
  clear hY
  go_enter Try.func10, Try.ntmps10
  go_upto_region 1 with fail
  rw [HW.out]
  try rw [HRe.out]
  try rw [HXe.out]
  try rw [HYe.out]
  go_region
  go_upto_region 2 with fail
  clear y4
  have HS := Lib.hid (fun (wx : World) (hb : Below w0.heap.size w0 wx) => show wx.cell? ⟨Y, 0, none⟩ = some (.slice xa na ca) ∧ wx.cell? ⟨Y, 1, none⟩ = some (.slice xb nb cb) ∧ wx.cell? ⟨Y, 2, none⟩ = some (.bool u0) ∧ wx.cell? ⟨Y, 3, none⟩ = some (.bool u1) ∧ wx.cell? ⟨Y, 4, none⟩ = some (.int .i64 1) ∧ wx.cell? ⟨Y, 5, none⟩ = some (.int .i64 tm) ∧ wx.cell? ⟨Y, 6, none⟩ = some (.int .i64 st) from
    have h := HY.out.below hb HY.out.lt
    ⟨h.cell 0 rfl, h.cell 1 rfl, h.cell 2 rfl, h.cell 3 rfl, h.cell 4 rfl, h.cell 5 rfl, h.cell 6 rfl⟩)
  have S0 := HS.out w0.drew.drew (Below.refl w0.heap.size w0).drew.drew
  refine AnyE.start (S := (fun wx => wx.cell? ⟨Y, 0, none⟩ = some (.slice xa na ca) ∧ wx.cell? ⟨Y, 1, none⟩ = some (.slice xb nb cb) ∧ wx.cell? ⟨Y, 2, none⟩ = some (.bool u0) ∧ wx.cell? ⟨Y, 3, none⟩ = some (.bool u1) ∧ wx.cell? ⟨Y, 4, none⟩ = some (.int .i64 1) ∧ wx.cell? ⟨Y, 5, none⟩ = some (.int .i64 tm) ∧ wx.cell? ⟨Y, 6, none⟩ = some (.int .i64 st))) 7 (by kernel_rfl) (S0) (fun hHeld => ?_)
  refine AnyE.take (i := 0) (v := ?_) rfl (by kernel_rfl) (by kernel_rfl) (by kernel_rfl) (by kernel_rfl) (fun _ _ _ h => h) (Or.inl ⟨by rfl, ?_⟩) (by assumption) ?_
  rotate_left 1
  · intro w hSw
    (try dsimp only at hSw)
    go_simp
    all_goals (with_reducible rfl)
  try simp only [Act.put, List.getElem_toArray, List.getElem_cons_zero, List.getElem_cons_succ, List.setIfInBounds_toArray, List.set_cons_zero, List.set_cons_succ]
  refine AnyE.take (i := 1) (v := ?_) rfl (by kernel_rfl) (by kernel_rfl) (by kernel_rfl) (by kernel_rfl) (fun _ _ _ h => h) (Or.inl ⟨by rfl, ?_⟩) (by assumption) ?_
  rotate_left 1
  · intro w hSw
    (try dsimp only at hSw)
    go_simp
    all_goals (with_reducible rfl)
  try simp only [Act.put, List.getElem_toArray, List.getElem_cons_zero, List.getElem_cons_succ, List.setIfInBounds_toArray, List.set_cons_zero, List.set_cons_succ]
  refine AnyE.take (i := 3) (v := ?_) rfl (by kernel_rfl) (by kernel_rfl) (by kernel_rfl) (by kernel_rfl) (fun _ _ _ h => h) (Or.inl ⟨by rfl, ?_⟩) (by assumption) ?_
  rotate_left 1
  · intro w hSw
    (try dsimp only at hSw)
    go_simp
    all_goals (with_reducible rfl)
  try simp only [Act.put, List.getElem_toArray, List.getElem_cons_zero, List.getElem_cons_succ, List.setIfInBounds_toArray, List.set_cons_zero, List.set_cons_succ]
  refine AnyE.take (i := 4) (v := ?_) rfl (by kernel_rfl) (by kernel_rfl) (by kernel_rfl) (by kernel_rfl) (fun _ _ _ h => h) (Or.inl ⟨by rfl, ?_⟩) (by assumption) ?_
  rotate_left 1
  · intro w hSw
    (try dsimp only at hSw)
    go_simp
    all_goals (with_reducible rfl)
  try simp only [Act.put, List.getElem_toArray, List.getElem_cons_zero, List.getElem_cons_succ, List.setIfInBounds_toArray, List.set_cons_zero, List.set_cons_succ]
  refine AnyE.next (rs := [2]) (by kernel_rfl) (by simp) ?_
  refine AllE.cons rfl (fun K hK => ?_) AllE.nil
  go_simp
  refine (rlog20 xa xb na nb ca cb u0 u1 1 tm st 1 _).mono ?_
  rintro e w1 ⟨rfl, hb1⟩
  refine hK.out _ _ (HS.out _ ((Below.refl w0.heap.size w0).drew.drew.trans (hb1.mono (Nat.le_refl _)))) (fun hHeld => ?_)
  clear hK K
  try simp only [Act.put, List.getElem_toArray, List.getElem_cons_zero, List.getElem_cons_succ, List.setIfInBounds_toArray, List.set_cons_zero, List.set_cons_succ]
  refine AnyE.next (rs := [5]) (by kernel_rfl) (by simp) ?_
  refine AllE.cons rfl (fun K hK => ?_) AllE.nil
  go_simp
  refine (rlog20 xa xb na nb ca cb u0 u1 1 tm st 0 _).mono ?_
  rintro e w2 ⟨rfl, hb2⟩
  refine hK.out _ _ (HS.out _ (((Below.refl w0.heap.size w0).drew.drew.trans (hb1.mono (Nat.le_refl _))).trans (hb2.mono hb1.size))) (fun hHeld => ?_)
  clear hK K
  try simp only [Act.put, List.getElem_toArray, List.getElem_cons_zero, List.getElem_cons_succ, List.setIfInBounds_toArray, List.set_cons_zero, List.set_cons_succ]
  refine AnyE.next (rs := [6]) (by kernel_rfl) (by simp) ?_
  refine AllE.cons rfl (fun K hK => ?_) AllE.nil
  go_simp
  refine hK.out _ _ (HS.out _ (((Below.refl w0.heap.size w0).drew.drew.trans (hb1.mono (Nat.le_refl _))).trans (hb2.mono hb1.size))) (fun hHeld => ?_)
  clear hK K
  try simp only [Act.put, List.getElem_toArray, List.getElem_cons_zero, List.getElem_cons_succ, List.setIfInBounds_toArray, List.set_cons_zero, List.set_cons_succ]
  refine AnyE.next (rs := [7]) (by kernel_rfl) (by simp) ?_
  refine AllE.last rfl (fun K hK => ?_)
  go_simp
  refine hK.out _ _ ?_
  clear hK K
  try simp only [Act.put, List.getElem_toArray, List.getElem_cons_zero, List.getElem_cons_succ, List.setIfInBounds_toArray, List.set_cons_zero, List.set_cons_succ]
  refine AnyE.done (by kernel_rfl) ?_ _
  have hb20 := ((Below.refl w0.heap.size w0).drew.drew.trans (hb1.mono (Nat.le_refl _))).trans (hb2.mono hb1.size)
  have HY2 := Lib.hid (HY.out.below hb20 HY.out.lt)
  have HA2 := Lib.hid (HA.out.below hb20 HA.out.lt)
  have HR2 := Lib.hid (HR.out.below hb20 HR.out.lt)
  have HB2 := Lib.hid (HB.out.trans (hb20.mono HB.out.size))
  clear hb1 hb2 hb20 S0
  clear hHeld
  have y0 := HY2.out.cell 0 rfl
  have y1 := HY2.out.cell 1 rfl
  have y2 := HY2.out.cell 2 rfl
  have y3 := HY2.out.cell 3 rfl
  have y4 := HY2.out.cell 4 rfl
  have y5 := HY2.out.cell 5 rfl
  have y6 := HY2.out.cell 6 rfl
  have a0 := HA2.out.cell 0 rfl
  have a1 := HA2.out.cell 1 rfl
  have a2 := HA2.out.cell 2 rfl
  go_wp2_with (refine wpList_store7 rfl 29 Try.sizePr20 _ _ rfl R 29 HR2.out rfl rfl ?_)
  intro w3 hr3 hk3
  have HB3 := Lib.hid (HB2.out.trans (hk3.below HB2.out.size (fun q hq e => by have h1 := HRe.out; omega)))
  have z0 := hr3.cell 0 rfl
  have z1 := hr3.cell 1 rfl
  have z2 := hr3.cell 2 rfl
  have z3 := hr3.cell 3 rfl
  have z4 := hr3.cell 4 rfl
  have z5 := hr3.cell 5 rfl
  have z6 := hr3.cell 6 rfl
  clear hr3 hk3 y0 y1 y2 y3 y4 y5 y6 a0 a1 a2
  go_wp2
  exact bodyPost_ret (v := .tuple #[.agg #[.slice xa na ca, .slice xb nb cb, .bool u0, .bool u1, .int .i64 1, .int .i64 tm, .int .i64 st], .int .i64 0, .int .i64 1]) (by simp [results, Try.results10, go_sem, z0, z1, z2, z3, z4, z5, z6]) rfl ⟨rfl, HB3.out⟩
set_option maxRecDepth 100000 in
set_option maxHeartbeats 2000000 in
theorem fall_down00 (xa xb : Option Addr) (na nb ca cb : Nat) (u1 : Bool) (tm st te ck cv ce cc cn c1 c2 c3 : Int) (w : World) :
    Calls Try.prog 10 #[.agg #[.slice xa na ca, .slice xb nb cb, .bool false, .bool u1, .int .i64 0, .int .i64 tm, .int .i64 st], .agg #[.int .i64 2, .int .i64 te, .int .i64 0, .int .i64 ck, .int .i64 cv, .int .i64 ce, .int .i64 cc, .int .i64 cn, .int .i64 c1, .int .i64 c2, .int .i64 c3]] w fun e w' => e = .returned (.tuple #[.agg #[.slice xa na ca, .slice xb nb cb, .bool false, .bool u1, .int .i64 0, .int .i64 tm, .int .i64 st], .int .i64 0, .int .i64 12]) ∧ Below w.heap.size w w' := by
  have hY := ((Blk.new w #[.slice xa na ca, .slice xb nb cb, .bool false, .bool u1, .int .i64 0, .int .i64 tm, .int .i64 st] 29).alloc (.cells #[.int .i64 2, .int .i64 te, .int .i64 0, .int .i64 ck, .int .i64 cv, .int .i64 ce, .int .i64 cc, .int .i64 cn, .int .i64 c1, .int .i64 c2, .int .i64 c3] 35)).alloc (.cells #[.slice none 0 0, .slice none 0 0, .bool false, .bool false, .int .i64 0, .int .i64 0, .int .i64 0] 29)
  have hA := (Blk.new (w.alloc (.cells #[.slice xa na ca, .slice xb nb cb, .bool false, .bool u1, .int .i64 0, .int .i64 tm, .int .i64 st] 29)) #[.int .i64 2, .int .i64 te, .int .i64 0, .int .i64 ck, .int .i64 cv, .int .i64 ce, .int .i64 cc, .int .i64 cn, .int .i64 c1, .int .i64 c2, .int .i64 c3] 35).alloc (.cells #[.slice none 0 0, .slice none 0 0, .bool false, .bool false, .int .i64 0, .int .i64 0, .int .i64 0] 29)
  have hR := Blk.new ((w.alloc (.cells #[.slice xa na ca, .slice xb nb cb, .bool false, .bool u1, .int .i64 0, .int .i64 tm, .int .i64 st] 29)).alloc (.cells #[.int .i64 2, .int .i64 te, .int .i64 0, .int .i64 ck, .int .i64 cv, .int .i64 ce, .int .i64 cc, .int .i64 cn, .int .i64 c1, .int .i64 c2, .int .i64 c3] 35)) #[.slice none 0 0, .slice none 0 0, .bool false, .bool false, .int .i64 0, .int .i64 0, .int .i64 0] 29
  have hB := (((Below.refl w.heap.size w).alloc (Nat.le_refl _) (.cells #[.slice xa na ca, .slice xb nb cb, .bool false, .bool u1, .int .i64 0, .int .i64 tm, .int .i64 st] 29)).alloc (by simp) (.cells #[.int .i64 2, .int .i64 te, .int .i64 0, .int .i64 ck, .int .i64 cv, .int .i64 ce, .int .i64 cc, .int .i64 cn, .int .i64 c1, .int .i64 c2, .int .i64 c3] 35)).alloc (by simp; omega) (.cells #[.slice none 0 0, .slice none 0 0, .bool false, .bool false, .int .i64 0, .int .i64 0, .int .i64 0] 29)
  obtain ⟨w0, hW⟩ : ∃ z, ((w.alloc (.cells #[.slice xa na ca, .slice xb nb cb, .bool false, .bool u1, .int .i64 0, .int .i64 tm, .int .i64 st] 29)).alloc (.cells #[.int .i64 2, .int .i64 te, .int .i64 0, .int .i64 ck, .int .i64 cv, .int .i64 ce, .int .i64 cc, .int .i64 cn, .int .i64 c1, .int .i64 c2, .int .i64 c3] 35)).alloc (.cells #[.slice none 0 0, .slice none 0 0, .bool false, .bool false, .int .i64 0, .int .i64 0, .int .i64 0] 29) = z := ⟨_, rfl⟩
  rw [hW] at hY hA hR hB
  obtain ⟨Y, hYe⟩ : ∃ z, w.heap.size = z := ⟨_, rfl⟩
  obtain ⟨X, hXe⟩ : ∃ z, (w.alloc (.cells #[.slice xa na ca, .slice xb nb cb, .bool false, .bool u1, .int .i64 0, .int .i64 tm, .int .i64 st] 29)).heap.size = z := ⟨_, rfl⟩
  obtain ⟨R, hRe⟩ : ∃ z, ((w.alloc (.cells #[.slice xa na ca, .slice xb nb cb, .bool false, .bool u1, .int .i64 0, .int .i64 tm, .int .i64 st] 29)).alloc (.cells #[.int .i64 2, .int .i64 te, .int .i64 0, .int .i64 ck, .int .i64 cv, .int .i64 ce, .int .i64 cc, .int .i64 cn, .int .i64 c1, .int .i64 c2, .int .i64 c3] 35)).heap.size = z := ⟨_, rfl⟩
  rw [hYe] at hY
  rw [hXe] at hA
  rw [hRe] at hR
  have hX1 : w.heap.size + 1 = X := by rw [← hXe]; simp
  have hR1 : w.heap.size + 1 + 1 = R := by rw [← hRe]; simp
  have HW := Lib.hid hW
  have HYe := Lib.hid hYe
  have HXe := Lib.hid hX1
  have HRe := Lib.hid hR1
  have HY := Lib.hid hY
  have HA := Lib.hid hA
  have HR := Lib.hid hR
  have HB := Lib.hid hB
  clear hW hYe hXe hRe hX1 hR1 hA hR hB
  have y4 := hY.cell 4 rfl
  clear hY
  go_enter Try.func10, Try.ntmps10
  go_upto_region 1 with fail
  rw [HW.out]
  try rw [HRe.out]
  try rw [HXe.out]
  try rw [HYe.out]
  go_region
  go_upto_region 2 with fail
  clear y4
  have HS := Lib.hid (fun (wx : World) (hb : Below w0.heap.size w0 wx) => show wx.cell? ⟨Y, 0, none⟩ = some (.slice xa na ca) ∧ wx.cell? ⟨Y, 1, none⟩ = some (.slice xb nb cb) ∧ wx.cell? ⟨Y, 2, none⟩ = some (.bool false) ∧ wx.cell? ⟨Y, 3, none⟩ = some (.bool u1) ∧ wx.cell? ⟨Y, 4, none⟩ = some (.int .i64 0) ∧ wx.cell? ⟨Y, 5, none⟩ = some (.int .i64 tm) ∧ wx.cell? ⟨Y, 6, none⟩ = some (.int .i64 st) from
    have h := HY.out.below hb HY.out.lt
    ⟨h.cell 0 rfl, h.cell 1 rfl, h.cell 2 rfl, h.cell 3 rfl, h.cell 4 rfl, h.cell 5 rfl, h.cell 6 rfl⟩)
  have S0 := HS.out w0.drew.drew (Below.refl w0.heap.size w0).drew.drew
  refine AnyE.start (S := (fun wx => wx.cell? ⟨Y, 0, none⟩ = some (.slice xa na ca) ∧ wx.cell? ⟨Y, 1, none⟩ = some (.slice xb nb cb) ∧ wx.cell? ⟨Y, 2, none⟩ = some (.bool false) ∧ wx.cell? ⟨Y, 3, none⟩ = some (.bool u1) ∧ wx.cell? ⟨Y, 4, none⟩ = some (.int .i64 0) ∧ wx.cell? ⟨Y, 5, none⟩ = some (.int .i64 tm) ∧ wx.cell? ⟨Y, 6, none⟩ = some (.int .i64 st))) 7 (by kernel_rfl) (S0) (fun hHeld => ?_)
  refine AnyE.take (i := 0) (v := ?_) rfl (by kernel_rfl) (by kernel_rfl) (by kernel_rfl) (by kernel_rfl) (fun _ _ _ h => h) (Or.inl ⟨by rfl, ?_⟩) (by assumption) ?_
  rotate_left 1
  · intro w hSw
    (try dsimp only at hSw)
    go_simp
    all_goals (with_reducible rfl)
  try simp only [Act.put, List.getElem_toArray, List.getElem_cons_zero, List.getElem_cons_succ, List.setIfInBounds_toArray, List.set_cons_zero, List.set_cons_succ]
  refine AnyE.take (i := 1) (v := ?_) rfl (by kernel_rfl) (by kernel_rfl) (by kernel_rfl) (by kernel_rfl) (fun _ _ _ h => h) (Or.inl ⟨by rfl, ?_⟩) (by assumption) ?_
  rotate_left 1
  · intro w hSw
    (try dsimp only at hSw)
    go_simp
    all_goals (with_reducible rfl)
  try simp only [Act.put, List.getElem_toArray, List.getElem_cons_zero, List.getElem_cons_succ, List.setIfInBounds_toArray, List.set_cons_zero, List.set_cons_succ]
  refine AnyE.take (i := 3) (v := ?_) rfl (by kernel_rfl) (by kernel_rfl) (by kernel_rfl) (by kernel_rfl) (fun _ _ _ h => h) (Or.inl ⟨by rfl, ?_⟩) (by assumption) ?_
  rotate_left 1
  · intro w hSw
    (try dsimp only at hSw)
    go_simp
    all_goals (with_reducible rfl)
  try simp only [Act.put, List.getElem_toArray, List.getElem_cons_zero, List.getElem_cons_succ, List.setIfInBounds_toArray, List.set_cons_zero, List.set_cons_succ]
  refine AnyE.take (i := 4) (v := ?_) rfl (by kernel_rfl) (by kernel_rfl) (by kernel_rfl) (by kernel_rfl) (fun _ _ _ h => h) (Or.inl ⟨by rfl, ?_⟩) (by assumption) ?_
  rotate_left 1
  · intro w hSw
    (try dsimp only at hSw)
    go_simp
    all_goals (with_reducible rfl)
  try simp only [Act.put, List.getElem_toArray, List.getElem_cons_zero, List.getElem_cons_succ, List.setIfInBounds_toArray, List.set_cons_zero, List.set_cons_succ]
  refine AnyE.next (rs := [2]) (by kernel_rfl) (by simp) ?_
  refine AllE.cons rfl (fun K hK => ?_) AllE.nil
  go_simp
  refine (rlog20 xa xb na nb ca cb false u1 0 tm st 0 _).mono ?_
  rintro e w1 ⟨rfl, hb1⟩
  refine hK.out _ _ (HS.out _ ((Below.refl w0.heap.size w0).drew.drew.trans (hb1.mono (Nat.le_refl _)))) (fun hHeld => ?_)
  clear hK K
  try simp only [Act.put, List.getElem_toArray, List.getElem_cons_zero, List.getElem_cons_succ, List.setIfInBounds_toArray, List.set_cons_zero, List.set_cons_succ]
  refine AnyE.next (rs := [5]) (by kernel_rfl) (by simp) ?_
  refine AllE.cons rfl (fun K hK => ?_) AllE.nil
  go_simp
  refine (rlog20 xa xb na nb ca cb false u1 0 tm st 1 _).mono ?_
  rintro e w2 ⟨rfl, hb2⟩
  refine hK.out _ _ (HS.out _ (((Below.refl w0.heap.size w0).drew.drew.trans (hb1.mono (Nat.le_refl _))).trans (hb2.mono hb1.size))) (fun hHeld => ?_)
  clear hK K
  try simp only [Act.put, List.getElem_toArray, List.getElem_cons_zero, List.getElem_cons_succ, List.setIfInBounds_toArray, List.set_cons_zero, List.set_cons_succ]
  refine AnyE.next (rs := [6]) (by kernel_rfl) (by simp) ?_
  refine AllE.cons rfl (fun K hK => ?_) AllE.nil
  go_simp
  refine hK.out _ _ (HS.out _ (((Below.refl w0.heap.size w0).drew.drew.trans (hb1.mono (Nat.le_refl _))).trans (hb2.mono hb1.size))) (fun hHeld => ?_)
  clear hK K
  try simp only [Act.put, List.getElem_toArray, List.getElem_cons_zero, List.getElem_cons_succ, List.setIfInBounds_toArray, List.set_cons_zero, List.set_cons_succ]
  refine AnyE.next (rs := [7]) (by kernel_rfl) (by simp) ?_
  refine AllE.last rfl (fun K hK => ?_)
  go_simp
  refine hK.out _ _ ?_
  clear hK K
  try simp only [Act.put, List.getElem_toArray, List.getElem_cons_zero, List.getElem_cons_succ, List.setIfInBounds_toArray, List.set_cons_zero, List.set_cons_succ]
  refine AnyE.done (by kernel_rfl) ?_ _
  have hb20 := ((Below.refl w0.heap.size w0).drew.drew.trans (hb1.mono (Nat.le_refl _))).trans (hb2.mono hb1.size)
  have HY2 := Lib.hid (HY.out.below hb20 HY.out.lt)
  have HA2 := Lib.hid (HA.out.below hb20 HA.out.lt)
  have HR2 := Lib.hid (HR.out.below hb20 HR.out.lt)
  have HB2 := Lib.hid (HB.out.trans (hb20.mono HB.out.size))
  clear hb1 hb2 hb20 S0
  clear hHeld
  have y0 := HY2.out.cell 0 rfl
  have y1 := HY2.out.cell 1 rfl
  have y2 := HY2.out.cell 2 rfl
  have y3 := HY2.out.cell 3 rfl
  have y4 := HY2.out.cell 4 rfl
  have y5 := HY2.out.cell 5 rfl
  have y6 := HY2.out.cell 6 rfl
  have a0 := HA2.out.cell 0 rfl
  have a1 := HA2.out.cell 1 rfl
  have a2 := HA2.out.cell 2 rfl
  go_wp2_with (refine wpList_store7 rfl 29 Try.sizePr20 _ _ rfl R 29 HR2.out rfl rfl ?_)
  intro w3 hr3 hk3
  have HB3 := Lib.hid (HB2.out.trans (hk3.below HB2.out.size (fun q hq e => by have h1 := HRe.out; omega)))
  have z0 := hr3.cell 0 rfl
  have z1 := hr3.cell 1 rfl
  have z2 := hr3.cell 2 rfl
  have z3 := hr3.cell 3 rfl
  have z4 := hr3.cell 4 rfl
  have z5 := hr3.cell 5 rfl
  have z6 := hr3.cell 6 rfl
  clear hr3 hk3 y0 y1 y2 y3 y4 y5 y6 a0 a1 a2
  go_wp2
  exact bodyPost_ret (v := .tuple #[.agg #[.slice xa na ca, .slice xb nb cb, .bool false, .bool u1, .int .i64 0, .int .i64 tm, .int .i64 st], .int .i64 0, .int .i64 12]) (by simp [results, Try.results10, go_sem, z0, z1, z2, z3, z4, z5, z6]) rfl ⟨rfl, HB3.out⟩
set_option maxRecDepth 100000 in
set_option maxHeartbeats 2000000 in
theorem rise_busy00 (xa xb : Option Addr) (na nb ca cb : Nat) (u1 : Bool) (tm st te ck cv ce cc cn c1 c2 c3 : Int) (w : World) :
    Calls Try.prog 10 #[.agg #[.slice xa na ca, .slice xb nb cb, .bool true, .bool u1, .int .i64 0, .int .i64 tm, .int .i64 st], .agg #[.int .i64 3, .int .i64 te, .int .i64 0, .int .i64 ck, .int .i64 cv, .int .i64 ce, .int .i64 cc, .int .i64 cn, .int .i64 c1, .int .i64 c2, .int .i64 c3]] w fun e w' => e = .returned (.tuple #[.agg #[.slice xa na ca, .slice xb nb cb, .bool true, .bool u1, .int .i64 0, .int .i64 tm, .int .i64 st], .int .i64 0, .int .i64 14]) ∧ Below w.heap.size w w' := by
  have hY := ((Blk.new w #[.slice xa na ca, .slice xb nb cb, .bool true, .bool u1, .int .i64 0, .int .i64 tm, .int .i64 st] 29).alloc (.cells #[.int .i64 3, .int .i64 te, .int .i64 0, .int .i64 ck, .int .i64 cv, .int .i64 ce, .int .i64 cc, .int .i64 cn, .int .i64 c1, .int .i64 c2, .int .i64 c3] 35)).alloc (.cells #[.slice none 0 0, .slice none 0 0, .bool false, .bool false, .int .i64 0, .int .i64 0, .int .i64 0] 29)
  have hA := (Blk.new (w.alloc (.cells #[.slice xa na ca, .slice xb nb cb, .bool true, .bool u1, .int .i64 0, .int .i64 tm, .int .i64 st] 29)) #[.int .i64 3, .int .i64 te, .int .i64 0, .int .i64 ck, .int .i64 cv, .int .i64 ce, .int .i64 cc, .int .i64 cn, .int .i64 c1, .int .i64 c2, .int .i64 c3] 35).alloc (.cells #[.slice none 0 0, .slice none 0 0, .bool false, .bool false, .int .i64 0, .int .i64 0, .int .i64 0] 29)
  have hR := Blk.new ((w.alloc (.cells #[.slice xa na ca, .slice xb nb cb, .bool true, .bool u1, .int .i64 0, .int .i64 tm, .int .i64 st] 29)).alloc (.cells #[.int .i64 3, .int .i64 te, .int .i64 0, .int .i64 ck, .int .i64 cv, .int .i64 ce, .int .i64 cc, .int .i64 cn, .int .i64 c1, .int .i64 c2, .int .i64 c3] 35)) #[.slice none 0 0, .slice none 0 0, .bool false, .bool false, .int .i64 0, .int .i64 0, .int .i64 0] 29
  have hB := (((Below.refl w.heap.size w).alloc (Nat.le_refl _) (.cells #[.slice xa na ca, .slice xb nb cb, .bool true, .bool u1, .int .i64 0, .int .i64 tm, .int .i64 st] 29)).alloc (by simp) (.cells #[.int .i64 3, .int .i64 te, .int .i64 0, .int .i64 ck, .int .i64 cv, .int .i64 ce, .int .i64 cc, .int .i64 cn, .int .i64 c1, .int .i64 c2, .int .i64 c3] 35)).alloc (by simp; omega) (.cells #[.slice none 0 0, .slice none 0 0, .bool false, .bool false, .int .i64 0, .int .i64 0, .int .i64 0] 29)
  obtain ⟨w0, hW⟩ : ∃ z, ((w.alloc (.cells #[.slice xa na ca, .slice xb nb cb, .bool true, .bool u1, .int .i64 0, .int .i64 tm, .int .i64 st] 29)).alloc (.cells #[.int .i64 3, .int .i64 te, .int .i64 0, .int .i64 ck, .int .i64 cv, .int .i64 ce, .int .i64 cc, .int .i64 cn, .int .i64 c1, .int .i64 c2, .int .i64 c3] 35)).alloc (.cells #[.slice none 0 0, .slice none 0 0, .bool false, .bool false, .int .i64 0, .int .i64 0, .int .i64 0] 29) = z := ⟨_, rfl⟩
  rw [hW] at hY hA hR hB
  obtain ⟨Y, hYe⟩ : ∃ z, w.heap.size = z := ⟨_, rfl⟩
  obtain ⟨X, hXe⟩ : ∃ z, (w.alloc (.cells #[.slice xa na ca, .slice xb nb cb, .bool true, .bool u1, .int .i64 0, .int .i64 tm, .int .i64 st] 29)).heap.size = z := ⟨_, rfl⟩
  obtain ⟨R, hRe⟩ : ∃ z, ((w.alloc (.cells #[.slice xa na ca, .slice xb nb cb, .bool true, .bool u1, .int .i64 0, .int .i64 tm, .int .i64 st] 29)).alloc (.cells #[.int .i64 3, .int .i64 te, .int .i64 0, .int .i64 ck, .int .i64 cv, .int .i64 ce, .int .i64 cc, .int .i64 cn, .int .i64 c1, .int .i64 c2, .int .i64 c3] 35)).heap.size = z := ⟨_, rfl⟩
  rw [hYe] at hY
  rw [hXe] at hA
  rw [hRe] at hR
  have hX1 : w.heap.size + 1 = X := by rw [← hXe]; simp
  have hR1 : w.heap.size + 1 + 1 = R := by rw [← hRe]; simp
  have HW := Lib.hid hW
  have HYe := Lib.hid hYe
  have HXe := Lib.hid hX1
  have HRe := Lib.hid hR1
  have HY := Lib.hid hY
  have HA := Lib.hid hA
  have HR := Lib.hid hR
  have HB := Lib.hid hB
  clear hW hYe hXe hRe hX1 hR1 hA hR hB
  have y4 := hY.cell 4 rfl
  clear hY
  go_enter Try.func10, Try.ntmps10
  go_upto_region 1 with fail
  rw [HW.out]
  try rw [HRe.out]
  try rw [HXe.out]
  try rw [HYe.out]
  go_region
  go_upto_region 2 with fail
  clear y4
  have HS := Lib.hid (fun (wx : World) (hb : Below w0.heap.size w0 wx) => show wx.cell? ⟨Y, 0, none⟩ = some (.slice xa na ca) ∧ wx.cell? ⟨Y, 1, none⟩ = some (.slice xb nb cb) ∧ wx.cell? ⟨Y, 2, none⟩ = some (.bool true) ∧ wx.cell? ⟨Y, 3, none⟩ = some (.bool u1) ∧ wx.cell? ⟨Y, 4, none⟩ = some (.int .i64 0) ∧ wx.cell? ⟨Y, 5, none⟩ = some (.int .i64 tm) ∧ wx.cell? ⟨Y, 6, none⟩ = some (.int .i64 st) from
    have h := HY.out.below hb HY.out.lt
    ⟨h.cell 0 rfl, h.cell 1 rfl, h.cell 2 rfl, h.cell 3 rfl, h.cell 4 rfl, h.cell 5 rfl, h.cell 6 rfl⟩)
  have S0 := HS.out w0.drew.drew (Below.refl w0.heap.size w0).drew.drew
  refine AnyE.start (S := (fun wx => wx.cell? ⟨Y, 0, none⟩ = some (.slice xa na ca) ∧ wx.cell? ⟨Y, 1, none⟩ = some (.slice xb nb cb) ∧ wx.cell? ⟨Y, 2, none⟩ = some (.bool true) ∧ wx.cell? ⟨Y, 3, none⟩ = some (.bool u1) ∧ wx.cell? ⟨Y, 4, none⟩ = some (.int .i64 0) ∧ wx.cell? ⟨Y, 5, none⟩ = some (.int .i64 tm) ∧ wx.cell? ⟨Y, 6, none⟩ = some (.int .i64 st))) 7 (by kernel_rfl) (S0) (fun hHeld => ?_)
  refine AnyE.take (i := 0) (v := ?_) rfl (by kernel_rfl) (by kernel_rfl) (by kernel_rfl) (by kernel_rfl) (fun _ _ _ h => h) (Or.inl ⟨by rfl, ?_⟩) (by assumption) ?_
  rotate_left 1
  · intro w hSw
    (try dsimp only at hSw)
    go_simp
    all_goals (with_reducible rfl)
  try simp only [Act.put, List.getElem_toArray, List.getElem_cons_zero, List.getElem_cons_succ, List.setIfInBounds_toArray, List.set_cons_zero, List.set_cons_succ]
  refine AnyE.take (i := 1) (v := ?_) rfl (by kernel_rfl) (by kernel_rfl) (by kernel_rfl) (by kernel_rfl) (fun _ _ _ h => h) (Or.inl ⟨by rfl, ?_⟩) (by assumption) ?_
  rotate_left 1
  · intro w hSw
    (try dsimp only at hSw)
    go_simp
    all_goals (with_reducible rfl)
  try simp only [Act.put, List.getElem_toArray, List.getElem_cons_zero, List.getElem_cons_succ, List.setIfInBounds_toArray, List.set_cons_zero, List.set_cons_succ]
  refine AnyE.take (i := 3) (v := ?_) rfl (by kernel_rfl) (by kernel_rfl) (by kernel_rfl) (by kernel_rfl) (fun _ _ _ h => h) (Or.inl ⟨by rfl, ?_⟩) (by assumption) ?_
  rotate_left 1
  · intro w hSw
    (try dsimp only at hSw)
    go_simp
    all_goals (with_reducible rfl)
  try simp only [Act.put, List.getElem_toArray, List.getElem_cons_zero, List.getElem_cons_succ, List.setIfInBounds_toArray, List.set_cons_zero, List.set_cons_succ]
  refine AnyE.take (i := 4) (v := ?_) rfl (by kernel_rfl) (by kernel_rfl) (by kernel_rfl) (by kernel_rfl) (fun _ _ _ h => h) (Or.inl ⟨by rfl, ?_⟩) (by assumption) ?_
  rotate_left 1
  · intro w hSw
    (try dsimp only at hSw)
    go_simp
    all_goals (with_reducible rfl)
  try simp only [Act.put, List.getElem_toArray, List.getElem_cons_zero, List.getElem_cons_succ, List.setIfInBounds_toArray, List.set_cons_zero, List.set_cons_succ]
  refine AnyE.next (rs := [2]) (by kernel_rfl) (by simp) ?_
  refine AllE.cons rfl (fun K hK => ?_) AllE.nil
  go_simp
  refine (rlog20 xa xb na nb ca cb true u1 0 tm st 0 _).mono ?_
  rintro e w1 ⟨rfl, hb1⟩
  refine hK.out _ _ (HS.out _ ((Below.refl w0.heap.size w0).drew.drew.trans (hb1.mono (Nat.le_refl _)))) (fun hHeld => ?_)
  clear hK K
  try simp only [Act.put, List.getElem_toArray, List.getElem_cons_zero, List.getElem_cons_succ, List.setIfInBounds_toArray, List.set_cons_zero, List.set_cons_succ]
  refine AnyE.next (rs := [5]) (by kernel_rfl) (by simp) ?_
  refine AllE.cons rfl (fun K hK => ?_) AllE.nil
  go_simp
  refine (rlog20 xa xb na nb ca cb true u1 0 tm st 1 _).mono ?_
  rintro e w2 ⟨rfl, hb2⟩
  refine hK.out _ _ (HS.out _ (((Below.refl w0.heap.size w0).drew.drew.trans (hb1.mono (Nat.le_refl _))).trans (hb2.mono hb1.size))) (fun hHeld => ?_)
  clear hK K
  try simp only [Act.put, List.getElem_toArray, List.getElem_cons_zero, List.getElem_cons_succ, List.setIfInBounds_toArray, List.set_cons_zero, List.set_cons_succ]
  refine AnyE.next (rs := [6]) (by kernel_rfl) (by simp) ?_
  refine AllE.cons rfl (fun K hK => ?_) AllE.nil
  go_simp
  refine hK.out _ _ (HS.out _ (((Below.refl w0.heap.size w0).drew.drew.trans (hb1.mono (Nat.le_refl _))).trans (hb2.mono hb1.size))) (fun hHeld => ?_)
  clear hK K
  try simp only [Act.put, List.getElem_toArray, List.getElem_cons_zero, List.getElem_cons_succ, List.setIfInBounds_toArray, List.set_cons_zero, List.set_cons_succ]
  refine AnyE.next (rs := [7]) (by kernel_rfl) (by simp) ?_
  refine AllE.last rfl (fun K hK => ?_)
  go_simp
  refine hK.out _ _ ?_
  clear hK K
  try simp only [Act.put, List.getElem_toArray, List.getElem_cons_zero, List.getElem_cons_succ, List.setIfInBounds_toArray, List.set_cons_zero, List.set_cons_succ]
  refine AnyE.done (by kernel_rfl) ?_ _
  have hb20 := ((Below.refl w0.heap.size w0).drew.drew.trans (hb1.mono (Nat.le_refl _))).trans (hb2.mono hb1.size)
  have HY2 := Lib.hid (HY.out.below hb20 HY.out.lt)
  have HA2 := Lib.hid (HA.out.below hb20 HA.out.lt)
  have HR2 := Lib.hid (HR.out.below hb20 HR.out.lt)
  have HB2 := Lib.hid (HB.out.trans (hb20.mono HB.out.size))
  clear hb1 hb2 hb20 S0
  clear hHeld
  have y0 := HY2.out.cell 0 rfl
  have y1 := HY2.out.cell 1 rfl
  have y2 := HY2.out.cell 2 rfl
  have y3 := HY2.out.cell 3 rfl
  have y4 := HY2.out.cell 4 rfl
  have y5 := HY2.out.cell 5 rfl
  have y6 := HY2.out.cell 6 rfl
  have a0 := HA2.out.cell 0 rfl
  have a1 := HA2.out.cell 1 rfl
  have a2 := HA2.out.cell 2 rfl
  go_wp2_with (refine wpList_store7 rfl 29 Try.sizePr20 _ _ rfl R 29 HR2.out rfl rfl ?_)
  intro w3 hr3 hk3
  have HB3 := Lib.hid (HB2.out.trans (hk3.below HB2.out.size (fun q hq e => by have h1 := HRe.out; omega)))
  have z0 := hr3.cell 0 rfl
  have z1 := hr3.cell 1 rfl
  have z2 := hr3.cell 2 rfl
  have z3 := hr3.cell 3 rfl
  have z4 := hr3.cell 4 rfl
  have z5 := hr3.cell 5 rfl
  have z6 := hr3.cell 6 rfl
  clear hr3 hk3 y0 y1 y2 y3 y4 y5 y6 a0 a1 a2
  go_wp2
  exact bodyPost_ret (v := .tuple #[.agg #[.slice xa na ca, .slice xb nb cb, .bool true, .bool u1, .int .i64 0, .int .i64 tm, .int .i64 st], .int .i64 0, .int .i64 14]) (by simp [results, Try.results10, go_sem, z0, z1, z2, z3, z4, z5, z6]) rfl ⟨rfl, HB3.out⟩
set_option maxRecDepth 100000 in
set_option maxHeartbeats 2000000 in
theorem fall_down01 (xa xb : Option Addr) (na nb ca cb : Nat) (u0 : Bool) (tm st te ck cv ce cc cn c1 c2 c3 : Int) (w : World) :
    Calls Try.prog 10 #[.agg #[.slice xa na ca, .slice xb nb cb, .bool u0, .bool false, .int .i64 0, .int .i64 tm, .int .i64 st], .agg #[.int .i64 2, .int .i64 te, .int .i64 1, .int .i64 ck, .int .i64 cv, .int .i64 ce, .int .i64 cc, .int .i64 cn, .int .i64 c1, .int .i64 c2, .int .i64 c3]] w fun e w' => e = .returned (.tuple #[.agg #[.slice xa na ca, .slice xb nb cb, .bool u0, .bool false, .int .i64 0, .int .i64 tm, .int .i64 st], .int .i64 0, .int .i64 12]) ∧ Below w.heap.size w w' := by
  have hY := ((Blk.new w #[.slice xa na ca, .slice xb nb cb, .bool u0, .bool false, .int .i64 0, .int .i64 tm, .int .i64 st] 29).alloc (.cells #[.int .i64 2, .int .i64 te, .int .i64 1, .int .i64 ck, .int .i64 cv, .int .i64 ce, .int .i64 cc, .int .i64 cn, .int .i64 c1, .int .i64 c2, .int .i64 c3] 35)).alloc (.cells #[.slice none 0 0, .slice none 0 0, .bool false, .bool false, .int .i64 0, .int .i64 0, .int .i64 0] 29)
  have hA := (Blk.new (w.alloc (.cells #[.slice xa na ca, .slice xb nb cb, .bool u0, .bool false, .int .i64 0, .int .i64 tm, .int .i64 st] 29)) #[.int .i64 2, .int .i64 te, .int .i64 1, .int .i64 ck, .int .i64 cv, .int .i64 ce, .int .i64 cc, .int .i64 cn, .int .i64 c1, .int .i64 c2, .int .i64 c3] 35).alloc (.cells #[.slice none 0 0, .slice none 0 0, .bool false, .bool false, .int .i64 0, .int .i64 0, .int .i64 0] 29)
  have hR := Blk.new ((w.alloc (.cells #[.slice xa na ca, .slice xb nb cb, .bool u0, .bool false, .int .i64 0, .int .i64 tm, .int .i64 st] 29)).alloc (.cells #[.int .i64 2, .int .i64 te, .int .i64 1, .int .i64 ck, .int .i64 cv, .int .i64 ce, .int .i64 cc, .int .i64 cn, .int .i64 c1, .int .i64 c2, .int .i64 c3] 35)) #[.slice none 0 0, .slice none 0 0, .bool false, .bool false, .int .i64 0, .int .i64 0, .int .i64 0] 29
  have hB := (((Below.refl w.heap.size w).alloc (Nat.le_refl _) (.cells #[.slice xa na ca, .slice xb nb cb, .bool u0, .bool false, .int .i64 0, .int .i64 tm, .int .i64 st] 29)).alloc (by simp) (.cells #[.int .i64 2, .int .i64 te, .int .i64 1, .int .i64 ck, .int .i64 cv, .int .i64 ce, .int .i64 cc, .int .i64 cn, .int .i64 c1, .int .i64 c2, .int .i64 c3] 35)).alloc (by simp; omega) (.cells #[.slice none 0 0, .slice none 0 0, .bool false, .bool false, .int .i64 0, .int .i64 0, .int .i64 0] 29)
  obtain ⟨w0, hW⟩ : ∃ z, ((w.alloc (.cells #[.slice xa na ca, .slice xb nb cb, .bool u0, .bool false, .int .i64 0, .int .i64 tm, .int .i64 st] 29)).alloc (.cells #[.int .i64 2, .int .i64 te, .int .i64 1, .int .i64 ck, .int .i64 cv, .int .i64 ce, .int .i64 cc, .int .i64 cn, .int .i64 c1, .int .i64 c2, .int .i64 c3] 35)).alloc (.cells #[.slice none 0 0, .slice none 0 0, .bool false, .bool false, .int .i64 0, .int .i64 0, .int .i64 0] 29) = z := ⟨_, rfl⟩
  rw [hW] at hY hA hR hB
  obtain ⟨Y, hYe⟩ : ∃ z, w.heap.size = z := ⟨_, rfl⟩
  obtain ⟨X, hXe⟩ : ∃ z, (w.alloc (.cells #[.slice xa na ca, .slice xb nb cb, .bool u0, .bool false, .int .i64 0, .int .i64 tm, .int .i64 st] 29)).heap.size = z := ⟨_, rfl⟩
  obtain ⟨R, hRe⟩ : ∃ z, ((w.alloc (.cells #[.slice xa na ca, .slice xb nb cb, .bool u0, .bool false, .int .i64 0, .int .i64 tm, .int .i64 st] 29)).alloc (.cells #[.int .i64 2, .int .i64 te, .int .i64 1, .int .i64 ck, .int .i64 cv, .int .i64 ce, .int .i64 cc, .int .i64 cn, .int .i64 c1, .int .i64 c2, .int .i64 c3] 35)).heap.size = z := ⟨_, rfl⟩
  rw [hYe] at hY
  rw [hXe] at hA
  rw [hRe] at hR
  have hX1 : w.heap.size + 1 = X := by rw [← hXe]; simp
  have hR1 : w.heap.size + 1 + 1 = R := by rw [← hRe]; simp
  have HW := Lib.hid hW
  have HYe := Lib.hid hYe
  have HXe := Lib.hid hX1
  have HRe := Lib.hid hR1
  have HY := Lib.hid hY
  have HA := Lib.hid hA
  have HR := Lib.hid hR
  have HB := Lib.hid hB
  clear hW hYe hXe hRe hX1 hR1 hA hR hB
  have y4 := hY.cell 4 rfl
  clear hY
  go_enter Try.func10, Try.ntmps10
  go_upto_region 1 with fail
  rw [HW.out]
  try rw [HRe.out]
  try rw [HXe.out]
  try rw [HYe.out]
  go_region
  go_upto_region 2 with fail
  clear y4
  have HS := Lib.hid (fun (wx : World) (hb : Below w0.heap.size w0 wx) => show wx.cell? ⟨Y, 0, none⟩ = some (.slice xa na ca) ∧ wx.cell? ⟨Y, 1, none⟩ = some (.slice xb nb cb) ∧ wx.cell? ⟨Y, 2, none⟩ = some (.bool u0) ∧ wx.cell? ⟨Y, 3, none⟩ = some (.bool false) ∧ wx.cell? ⟨Y, 4, none⟩ = some (.int .i64 0) ∧ wx.cell? ⟨Y, 5, none⟩ = some (.int .i64 tm) ∧ wx.cell? ⟨Y, 6, none⟩ = some (.int .i64 st) from
    have h := HY.out.below hb HY.out.lt
    ⟨h.cell 0 rfl, h.cell 1 rfl, h.cell 2 rfl, h.cell 3 rfl, h.cell 4 rfl, h.cell 5 rfl, h.cell 6 rfl⟩)
  have S0 := HS.out w0.drew.drew (Below.refl w0.heap.size w0).drew.drew
  refine AnyE.start (S := (fun wx => wx.cell? ⟨Y, 0, none⟩ = some (.slice xa na ca) ∧ wx.cell? ⟨Y, 1, none⟩ = some (.slice xb nb cb) ∧ wx.cell? ⟨Y, 2, none⟩ = some (.bool u0) ∧ wx.cell? ⟨Y, 3, none⟩ = some (.bool false) ∧ wx.cell? ⟨Y, 4, none⟩ = some (.int .i64 0) ∧ wx.cell? ⟨Y, 5, none⟩ = some (.int .i64 tm) ∧ wx.cell? ⟨Y, 6, none⟩ = some (.int .i64 st))) 7 (by kernel_rfl) (S0) (fun hHeld => ?_)
  refine AnyE.take (i := 0) (v := ?_) rfl (by kernel_rfl) (by kernel_rfl) (by kernel_rfl) (by kernel_rfl) (fun _ _ _ h => h) (Or.inl ⟨by rfl, ?_⟩) (by assumption) ?_
  rotate_left 1
  · intro w hSw
    (try dsimp only at hSw)
    go_simp
    all_goals (with_reducible rfl)
  try simp only [Act.put, List.getElem_toArray, List.getElem_cons_zero, List.getElem_cons_succ, List.setIfInBounds_toArray, List.set_cons_zero, List.set_cons_succ]
  refine AnyE.take (i := 1) (v := ?_) rfl (by kernel_rfl) (by kernel_rfl) (by kernel_rfl) (by kernel_rfl) (fun _ _ _ h => h) (Or.inl ⟨by rfl, ?_⟩) (by assumption) ?_
  rotate_left 1
  · intro w hSw
    (try dsimp only at hSw)
    go_simp
    all_goals (with_reducible rfl)
  try simp only [Act.put, List.getElem_toArray, List.getElem_cons_zero, List.getElem_cons_succ, List.setIfInBounds_toArray, List.set_cons_zero, List.set_cons_succ]
  refine AnyE.take (i := 3) (v := ?_) rfl (by kernel_rfl) (by kernel_rfl) (by kernel_rfl) (by kernel_rfl) (fun _ _ _ h => h) (Or.inl ⟨by rfl, ?_⟩) (by assumption) ?_
  rotate_left 1
  · intro w hSw
    (try dsimp only at hSw)
    go_simp
    all_goals (with_reducible rfl)
  try simp only [Act.put, List.getElem_toArray, List.getElem_cons_zero, List.getElem_cons_succ, List.setIfInBounds_toArray, List.set_cons_zero, List.set_cons_succ]
  refine AnyE.take (i := 4) (v := ?_) rfl (by kernel_rfl) (by kernel_rfl) (by kernel_rfl) (by kernel_rfl) (fun _ _ _ h => h) (Or.inl ⟨by rfl, ?_⟩) (by assumption) ?_
  rotate_left 1
  · intro w hSw
    (try dsimp only at hSw)
    go_simp
    all_goals (with_reducible rfl)
  try simp only [Act.put, List.getElem_toArray, List.getElem_cons_zero, List.getElem_cons_succ, List.setIfInBounds_toArray, List.set_cons_zero, List.set_cons_succ]
  refine AnyE.next (rs := [2]) (by kernel_rfl) (by simp) ?_
  refine AllE.cons rfl (fun K hK => ?_) AllE.nil
  go_simp
  refine (rlog20 xa xb na nb ca cb u0 false 0 tm st 0 _).mono ?_
  rintro e w1 ⟨rfl, hb1⟩
  refine hK.out _ _ (HS.out _ ((Below.refl w0.heap.size w0).drew.drew.trans (hb1.mono (Nat.le_refl _)))) (fun hHeld => ?_)
  clear hK K
  try simp only [Act.put, List.getElem_toArray, List.getElem_cons_zero, List.getElem_cons_succ, List.setIfInBounds_toArray, List.set_cons_zero, List.set_cons_succ]
  refine AnyE.next (rs := [5]) (by kernel_rfl) (by simp) ?_
  refine AllE.cons rfl (fun K hK => ?_) AllE.nil
  go_simp
  refine (rlog20 xa xb na nb ca cb u0 false 0 tm st 1 _).mono ?_
  rintro e w2 ⟨rfl, hb2⟩
  refine hK.out _ _ (HS.out _ (((Below.refl w0.heap.size w0).drew.drew.trans (hb1.mono (Nat.le_refl _))).trans (hb2.mono hb1.size))) (fun hHeld => ?_)
  clear hK K
  try simp only [Act.put, List.getElem_toArray, List.getElem_cons_zero, List.getElem_cons_succ, List.setIfInBounds_toArray, List.set_cons_zero, List.set_cons_succ]
  refine AnyE.next (rs := [6]) (by kernel_rfl) (by simp) ?_
  refine AllE.cons rfl (fun K hK => ?_) AllE.nil
  go_simp
  refine hK.out _ _ (HS.out _ (((Below.refl w0.heap.size w0).drew.drew.trans (hb1.mono (Nat.le_refl _))).trans (hb2.mono hb1.size))) (fun hHeld => ?_)
  clear hK K
  try simp only [Act.put, List.getElem_toArray, List.getElem_cons_zero, List.getElem_cons_succ, List.setIfInBounds_toArray, List.set_cons_zero, List.set_cons_succ]
  refine AnyE.next (rs := [7]) (by kernel_rfl) (by simp) ?_
  refine AllE.last rfl (fun K hK => ?_)
  go_simp
  refine hK.out _ _ ?_
  clear hK K
  try simp only [Act.put, List.getElem_toArray, List.getElem_cons_zero, List.getElem_cons_succ, List.setIfInBounds_toArray, List.set_cons_zero, List.set_cons_succ]
  refine AnyE.done (by kernel_rfl) ?_ _
  have hb20 := ((Below.refl w0.heap.size w0).drew.drew.trans (hb1.mono (Nat.le_refl _))).trans (hb2.mono hb1.size)
  have HY2 := Lib.hid (HY.out.below hb20 HY.out.lt)
  have HA2 := Lib.hid (HA.out.below hb20 HA.out.lt)
  have HR2 := Lib.hid (HR.out.below hb20 HR.out.lt)
  have HB2 := Lib.hid (HB.out.trans (hb20.mono HB.out.size))
  clear hb1 hb2 hb20 S0
  clear hHeld
  have y0 := HY2.out.cell 0 rfl
  have y1 := HY2.out.cell 1 rfl
  have y2 := HY2.out.cell 2 rfl
  have y3 := HY2.out.cell 3 rfl
  have y4 := HY2.out.cell 4 rfl
  have y5 := HY2.out.cell 5 rfl
  have y6 := HY2.out.cell 6 rfl
  have a0 := HA2.out.cell 0 rfl
  have a1 := HA2.out.cell 1 rfl
  have a2 := HA2.out.cell 2 rfl
  go_wp2_with (refine wpList_store7 rfl 29 Try.sizePr20 _ _ rfl R 29 HR2.out rfl rfl ?_)
  intro w3 hr3 hk3
  have HB3 := Lib.hid (HB2.out.trans (hk3.below HB2.out.size (fun q hq e => by have h1 := HRe.out; omega)))
  have z0 := hr3.cell 0 rfl
  have z1 := hr3.cell 1 rfl
  have z2 := hr3.cell 2 rfl
  have z3 := hr3.cell 3 rfl
  have z4 := hr3.cell 4 rfl
  have z5 := hr3.cell 5 rfl
  have z6 := hr3.cell 6 rfl
  clear hr3 hk3 y0 y1 y2 y3 y4 y5 y6 a0 a1 a2
  go_wp2
  exact bodyPost_ret (v := .tuple #[.agg #[.slice xa na ca, .slice xb nb cb, .bool u0, .bool false, .int .i64 0, .int .i64 tm, .int .i64 st], .int .i64 0, .int .i64 12]) (by simp [results, Try.results10, go_sem, z0, z1, z2, z3, z4, z5, z6]) rfl ⟨rfl, HB3.out⟩
set_option maxRecDepth 100000 in
set_option maxHeartbeats 2000000 in
theorem rise_busy01 (xa xb : Option Addr) (na nb ca cb : Nat) (u0 : Bool) (tm st te ck cv ce cc cn c1 c2 c3 : Int) (w : World) :
    Calls Try.prog 10 #[.agg #[.slice xa na ca, .slice xb nb cb, .bool u0, .bool true, .int .i64 0, .int .i64 tm, .int .i64 st], .agg #[.int .i64 3, .int .i64 te, .int .i64 1, .int .i64 ck, .int .i64 cv, .int .i64 ce, .int .i64 cc, .int .i64 cn, .int .i64 c1, .int .i64 c2, .int .i64 c3]] w fun e w' => e = .returned (.tuple #[.agg #[.slice xa na ca, .slice xb nb cb, .bool u0, .bool true, .int .i64 0, .int .i64 tm, .int .i64 st], .int .i64 0, .int .i64 14]) ∧ Below w.heap.size w w' := by
  have hY := ((Blk.new w #[.slice xa na ca, .slice xb nb cb, .bool u0, .bool true, .int .i64 0, .int .i64 tm, .int .i64 st] 29).alloc (.cells #[.int .i64 3, .int .i64 te, .int .i64 1, .int .i64 ck, .int .i64 cv, .int .i64 ce, .int .i64 cc, .int .i64 cn, .int .i64 c1, .int .i64 c2, .int .i64 c3] 35)).alloc (.cells #[.slice none 0 0, .slice none 0 0, .bool false, .bool false, .int .i64 0, .int .i64 0, .int .i64 0] 29)
  have hA := (Blk.new (w.alloc (.cells #[.slice xa na ca, .slice xb nb cb, .bool u0, .bool true, .int .i64 0, .int .i64 tm, .int .i64 st] 29)) #[.int .i64 3, .int .i64 te, .int .i64 1, .int .i64 ck, .int .i64 cv, .int .i64 ce, .int .i64 cc, .int .i64 cn, .int .i64 c1, .int .i64 c2, .int .i64 c3] 35).alloc (.cells #[.slice none 0 0, .slice none 0 0, .bool false, .bool false, .int .i64 0, .int .i64 0, .int .i64 0] 29)
  have hR := Blk.new ((w.alloc (.cells #[.slice xa na ca, .slice xb nb cb, .bool u0, .bool true, .int .i64 0, .int .i64 tm, .int .i64 st] 29)).alloc (.cells #[.int .i64 3, .int .i64 te, .int .i64 1, .int .i64 ck, .int .i64 cv, .int .i64 ce, .int .i64 cc, .int .i64 cn, .int .i64 c1, .int .i64 c2, .int .i64 c3] 35)) #[.slice none 0 0, .slice none 0 0, .bool false, .bool false, .int .i64 0, .int .i64 0, .int .i64 0] 29
  have hB := (((Below.refl w.heap.size w).alloc (Nat.le_refl _) (.cells #[.slice xa na ca, .slice xb nb cb, .bool u0, .bool true, .int .i64 0, .int .i64 tm, .int .i64 st] 29)).alloc (by simp) (.cells #[.int .i64 3, .int .i64 te, .int .i64 1, .int .i64 ck, .int .i64 cv, .int .i64 ce, .int .i64 cc, .int .i64 cn, .int .i64 c1, .int .i64 c2, .int .i64 c3] 35)).alloc (by simp; omega) (.cells #[.slice none 0 0, .slice none 0 0, .bool false, .bool false, .int .i64 0, .int .i64 0, .int .i64 0] 29)
  obtain ⟨w0, hW⟩ : ∃ z, ((w.alloc (.cells #[.slice xa na ca, .slice xb nb cb, .bool u0, .bool true, .int .i64 0, .int .i64 tm, .int .i64 st] 29)).alloc (.cells #[.int .i64 3, .int .i64 te, .int .i64 1, .int .i64 ck, .int .i64 cv, .int .i64 ce, .int .i64 cc, .int .i64 cn, .int .i64 c1, .int .i64 c2, .int .i64 c3] 35)).alloc (.cells #[.slice none 0 0, .slice none 0 0, .bool false, .bool false, .int .i64 0, .int .i64 0, .int .i64 0] 29) = z := ⟨_, rfl⟩
  rw [hW] at hY hA hR hB
  obtain ⟨Y, hYe⟩ : ∃ z, w.heap.size = z := ⟨_, rfl⟩
  obtain ⟨X, hXe⟩ : ∃ z, (w.alloc (.cells #[.slice xa na ca, .slice xb nb cb, .bool u0, .bool true, .int .i64 0, .int .i64 tm, .int .i64 st] 29)).heap.size = z := ⟨_, rfl⟩
  obtain ⟨R, hRe⟩ : ∃ z, ((w.alloc (.cells #[.slice xa na ca, .slice xb nb cb, .bool u0, .bool true, .int .i64 0, .int .i64 tm, .int .i64 st] 29)).alloc (.cells #[.int .i64 3, .int .i64 te, .int .i64 1, .int .i64 ck, .int .i64 cv, .int .i64 ce, .int .i64 cc, .int .i64 cn, .int .i64 c1, .int .i64 c2, .int .i64 c3] 35)).heap.size = z := ⟨_, rfl⟩
  rw [hYe] at hY
  rw [hXe] at hA
  rw [hRe] at hR
  have hX1 : w.heap.size + 1 = X := by rw [← hXe]; simp
  have hR1 : w.heap.size + 1 + 1 = R := by rw [← hRe]; simp
  have HW := Lib.hid hW
  have HYe := Lib.hid hYe
  have HXe := Lib.hid hX1
  have HRe := Lib.hid hR1
  have HY := Lib.hid hY
  have HA := Lib.hid hA
  have HR := Lib.hid hR
  have HB := Lib.hid hB
  clear hW hYe hXe hRe hX1 hR1 hA hR hB
  have y4 := hY.cell 4 rfl
  clear hY
  go_enter Try.func10, Try.ntmps10
  go_upto_region 1 with fail
  rw [HW.out]
  try rw [HRe.out]
  try rw [HXe.out]
  try rw [HYe.out]
  go_region
  go_upto_region 2 with fail
  clear y4
  have HS := Lib.hid (fun (wx : World) (hb : Below w0.heap.size w0 wx) => show wx.cell? ⟨Y, 0, none⟩ = some (.slice xa na ca) ∧ wx.cell? ⟨Y, 1, none⟩ = some (.slice xb nb cb) ∧ wx.cell? ⟨Y, 2, none⟩ = some (.bool u0) ∧ wx.cell? ⟨Y, 3, none⟩ = some (.bool true) ∧ wx.cell? ⟨Y, 4, none⟩ = some (.int .i64 0) ∧ wx.cell? ⟨Y, 5, none⟩ = some (.int .i64 tm) ∧ wx.cell? ⟨Y, 6, none⟩ = some (.int .i64 st) from
    have h := HY.out.below hb HY.out.lt
    ⟨h.cell 0 rfl, h.cell 1 rfl, h.cell 2 rfl, h.cell 3 rfl, h.cell 4 rfl, h.cell 5 rfl, h.cell 6 rfl⟩)
  have S0 := HS.out w0.drew.drew (Below.refl w0.heap.size w0).drew.drew
  refine AnyE.start (S := (fun wx => wx.cell? ⟨Y, 0, none⟩ = some (.slice xa na ca) ∧ wx.cell? ⟨Y, 1, none⟩ = some (.slice xb nb cb) ∧ wx.cell? ⟨Y, 2, none⟩ = some (.bool u0) ∧ wx.cell? ⟨Y, 3, none⟩ = some (.bool true) ∧ wx.cell? ⟨Y, 4, none⟩ = some (.int .i64 0) ∧ wx.cell? ⟨Y, 5, none⟩ = some (.int .i64 tm) ∧ wx.cell? ⟨Y, 6, none⟩ = some (.int .i64 st))) 7 (by kernel_rfl) (S0) (fun hHeld => ?_)
  refine AnyE.take (i := 0) (v := ?_) rfl (by kernel_rfl) (by kernel_rfl) (by kernel_rfl) (by kernel_rfl) (fun _ _ _ h => h) (Or.inl ⟨by rfl, ?_⟩) (by assumption) ?_
  rotate_left 1
  · intro w hSw
    (try dsimp only at hSw)
    go_simp
    all_goals (with_reducible rfl)
  try simp only [Act.put, List.getElem_toArray, List.getElem_cons_zero, List.getElem_cons_succ, List.setIfInBounds_toArray, List.set_cons_zero, List.set_cons_succ]
  refine AnyE.take (i := 1) (v := ?_) rfl (by kernel_rfl) (by kernel_rfl) (by kernel_rfl) (by kernel_rfl) (fun _ _ _ h => h) (Or.inl ⟨by rfl, ?_⟩) (by assumption) ?_
  rotate_left 1
  · intro w hSw
    (try dsimp only at hSw)
    go_simp
    all_goals (with_reducible rfl)
  try simp only [Act.put, List.getElem_toArray, List.getElem_cons_zero, List.getElem_cons_succ, List.setIfInBounds_toArray, List.set_cons_zero, List.set_cons_succ]
  refine AnyE.take (i := 3) (v := ?_) rfl (by kernel_rfl) (by kernel_rfl) (by kernel_rfl) (by kernel_rfl) (fun _ _ _ h => h) (Or.inl ⟨by rfl, ?_⟩) (by assumption) ?_
  rotate_left 1
  · intro w hSw
    (try dsimp only at hSw)
    go_simp
    all_goals (with_reducible rfl)
  try simp only [Act.put, List.getElem_toArray, List.getElem_cons_zero, List.getElem_cons_succ, List.setIfInBounds_toArray, List.set_cons_zero, List.set_cons_succ]
  refine AnyE.take (i := 4) (v := ?_) rfl (by kernel_rfl) (by kernel_rfl) (by kernel_rfl) (by kernel_rfl) (fun _ _ _ h => h) (Or.inl ⟨by rfl, ?_⟩) (by assumption) ?_
  rotate_left 1
  · intro w hSw
    (try dsimp only at hSw)
    go_simp
    all_goals (with_reducible rfl)
  try simp only [Act.put, List.getElem_toArray, List.getElem_cons_zero, List.getElem_cons_succ, List.setIfInBounds_toArray, List.set_cons_zero, List.set_cons_succ]
  refine AnyE.next (rs := [2]) (by kernel_rfl) (by simp) ?_
  refine AllE.cons rfl (fun K hK => ?_) AllE.nil
  go_simp
  refine (rlog20 xa xb na nb ca cb u0 true 0 tm st 0 _).mono ?_
  rintro e w1 ⟨rfl, hb1⟩
  refine hK.out _ _ (HS.out _ ((Below.refl w0.heap.size w0).drew.drew.trans (hb1.mono (Nat.le_refl _)))) (fun hHeld => ?_)
  clear hK K
  try simp only [Act.put, List.getElem_toArray, List.getElem_cons_zero, List.getElem_cons_succ, List.setIfInBounds_toArray, List.set_cons_zero, List.set_cons_succ]
  refine AnyE.next (rs := [5]) (by kernel_rfl) (by simp) ?_
  refine AllE.cons rfl (fun K hK => ?_) AllE.nil
  go_simp
  refine (rlog20 xa xb na nb ca cb u0 true 0 tm st 1 _).mono ?_
  rintro e w2 ⟨rfl, hb2⟩
  refine hK.out _ _ (HS.out _ (((Below.refl w0.heap.size w0).drew.drew.trans (hb1.mono (Nat.le_refl _))).trans (hb2.mono hb1.size))) (fun hHeld => ?_)
  clear hK K
  try simp only [Act.put, List.getElem_toArray, List.getElem_cons_zero, List.getElem_cons_succ, List.setIfInBounds_toArray, List.set_cons_zero, List.set_cons_succ]
  refine AnyE.next (rs := [6]) (by kernel_rfl) (by simp) ?_
  refine AllE.cons rfl (fun K hK => ?_) AllE.nil
  go_simp
  refine hK.out _ _ (HS.out _ (((Below.refl w0.heap.size w0).drew.drew.trans (hb1.mono (Nat.le_refl _))).trans (hb2.mono hb1.size))) (fun hHeld => ?_)
  clear hK K
  try simp only [Act.put, List.getElem_toArray, List.getElem_cons_zero, List.getElem_cons_succ, List.setIfInBounds_toArray, List.set_cons_zero, List.set_cons_succ]
  refine AnyE.next (rs := [7]) (by kernel_rfl) (by simp) ?_
  refine AllE.last rfl (fun K hK => ?_)
  go_simp
  refine hK.out _ _ ?_
  clear hK K
  try simp only [Act.put, List.getElem_toArray, List.getElem_cons_zero, List.getElem_cons_succ, List.setIfInBounds_toArray, List.set_cons_zero, List.set_cons_succ]
  refine AnyE.done (by kernel_rfl) ?_ _
  have hb20 := ((Below.refl w0.heap.size w0).drew.drew.trans (hb1.mono (Nat.le_refl _))).trans (hb2.mono hb1.size)
  have HY2 := Lib.hid (HY.out.below hb20 HY.out.lt)
  have HA2 := Lib.hid (HA.out.below hb20 HA.out.lt)
  have HR2 := Lib.hid (HR.out.below hb20 HR.out.lt)
  have HB2 := Lib.hid (HB.out.trans (hb20.mono HB.out.size))
  clear hb1 hb2 hb20 S0
  clear hHeld
  have y0 := HY2.out.cell 0 rfl
  have y1 := HY2.out.cell 1 rfl
  have y2 := HY2.out.cell 2 rfl
  have y3 := HY2.out.cell 3 rfl
  have y4 := HY2.out.cell 4 rfl
  have y5 := HY2.out.cell 5 rfl
  have y6 := HY2.out.cell 6 rfl
  have a0 := HA2.out.cell 0 rfl
  have a1 := HA2.out.cell 1 rfl
  have a2 := HA2.out.cell 2 rfl
  go_wp2_with (refine wpList_store7 rfl 29 Try.sizePr20 _ _ rfl R 29 HR2.out rfl rfl ?_)
  intro w3 hr3 hk3
  have HB3 := Lib.hid (HB2.out.trans (hk3.below HB2.out.size (fun q hq e => by have h1 := HRe.out; omega)))
  have z0 := hr3.cell 0 rfl
  have z1 := hr3.cell 1 rfl
  have z2 := hr3.cell 2 rfl
  have z3 := hr3.cell 3 rfl
  have z4 := hr3.cell 4 rfl
  have z5 := hr3.cell 5 rfl
  have z6 := hr3.cell 6 rfl
  clear hr3 hk3 y0 y1 y2 y3 y4 y5 y6 a0 a1 a2
  go_wp2
  exact bodyPost_ret (v := .tuple #[.agg #[.slice xa na ca, .slice xb nb cb, .bool u0, .bool true, .int .i64 0, .int .i64 tm, .int .i64 st], .int .i64 0, .int .i64 14]) (by simp [results, Try.results10, go_sem, z0, z1, z2, z3, z4, z5, z6]) rfl ⟨rfl, HB3.out⟩
set_option maxRecDepth 100000 in
set_option maxHeartbeats 2000000 in
theorem rise_down0 (xa xb : Option Addr) (na nb ca cb : Nat) (tm st te ck cv ce cc cn c1 c2 c3 : Int) (w : World) :
    Calls Try.prog 10 #[.agg #[.slice xa na ca, .slice xb nb cb, .bool false, .bool false, .int .i64 0, .int .i64 tm, .int .i64 st], .agg #[.int .i64 3, .int .i64 te, .int .i64 1, .int .i64 ck, .int .i64 cv, .int .i64 ce, .int .i64 cc, .int .i64 cn, .int .i64 c1, .int .i64 c2, .int .i64 c3]] w fun e w' => e = .returned (.tuple #[.agg #[.slice xa na ca, .slice xb nb cb, .bool false, .bool false, .int .i64 0, .int .i64 tm, .int .i64 st], .int .i64 0, .int .i64 12]) ∧ Below w.heap.size w w' := by
  have hY := ((Blk.new w #[.slice xa na ca, .slice xb nb cb, .bool false, .bool false, .int .i64 0, .int .i64 tm, .int .i64 st] 29).alloc (.cells #[.int .i64 3, .int .i64 te, .int .i64 1, .int .i64 ck, .int .i64 cv, .int .i64 ce, .int .i64 cc, .int .i64 cn, .int .i64 c1, .int .i64 c2, .int .i64 c3] 35)).alloc (.cells #[.slice none 0 0, .slice none 0 0, .bool false, .bool false, .int .i64 0, .int .i64 0, .int .i64 0] 29)
  have hA := (Blk.new (w.alloc (.cells #[.slice xa na ca, .slice xb nb cb, .bool false, .bool false, .int .i64 0, .int .i64 tm, .int .i64 st] 29)) #[.int .i64 3, .int .i64 te, .int .i64 1, .int .i64 ck, .int .i64 cv, .int .i64 ce, .int .i64 cc, .int .i64 cn, .int .i64 c1, .int .i64 c2, .int .i64 c3] 35).alloc (.cells #[.slice none 0 0, .slice none 0 0, .bool false, .bool false, .int .i64 0, .int .i64 0, .int .i64 0] 29)
  have hR := Blk.new ((w.alloc (.cells #[.slice xa na ca, .slice xb nb cb, .bool false, .bool false, .int .i64 0, .int .i64 tm, .int .i64 st] 29)).alloc (.cells #[.int .i64 3, .int .i64 te, .int .i64 1, .int .i64 ck, .int .i64 cv, .int .i64 ce, .int .i64 cc, .int .i64 cn, .int .i64 c1, .int .i64 c2, .int .i64 c3] 35)) #[.slice none 0 0, .slice none 0 0, .bool false, .bool false, .int .i64 0, .int .i64 0, .int .i64 0] 29
  have hB := (((Below.refl w.heap.size w).alloc (Nat.le_refl _) (.cells #[.slice xa na ca, .slice xb nb cb, .bool false, .bool false, .int .i64 0, .int .i64 tm, .int .i64 st] 29)).alloc (by simp) (.cells #[.int .i64 3, .int .i64 te, .int .i64 1, .int .i64 ck, .int .i64 cv, .int .i64 ce, .int .i64 cc, .int .i64 cn, .int .i64 c1, .int .i64 c2, .int .i64 c3] 35)).alloc (by simp; omega) (.cells #[.slice none 0 0, .slice none 0 0, .bool false, .bool false, .int .i64 0, .int .i64 0, .int .i64 0] 29)
  obtain ⟨w0, hW⟩ : ∃ z, ((w.alloc (.cells #[.slice xa na ca, .slice xb nb cb, .bool false, .bool false, .int .i64 0, .int .i64 tm, .int .i64 st] 29)).alloc (.cells #[.int .i64 3, .int .i64 te, .int .i64 1, .int .i64 ck, .int .i64 cv, .int .i64 ce, .int .i64 cc, .int .i64 cn, .int .i64 c1, .int .i64 c2, .int .i64 c3] 35)).alloc (.cells #[.slice none 0 0, .slice none 0 0, .bool false, .bool false, .int .i64 0, .int .i64 0, .int .i64 0] 29) = z := ⟨_, rfl⟩
  rw [hW] at hY hA hR hB
  obtain ⟨Y, hYe⟩ : ∃ z, w.heap.size = z := ⟨_, rfl⟩
  obtain ⟨X, hXe⟩ : ∃ z, (w.alloc (.cells #[.slice xa na ca, .slice xb nb cb, .bool false, .bool false, .int .i64 0, .int .i64 tm, .int .i64 st] 29)).heap.size = z := ⟨_, rfl⟩
  obtain ⟨R, hRe⟩ : ∃ z, ((w.alloc (.cells #[.slice xa na ca, .slice xb nb cb, .bool false, .bool false, .int .i64 0, .int .i64 tm, .int .i64 st] 29)).alloc (.cells #[.int .i64 3, .int .i64 te, .int .i64 1, .int .i64 ck, .int .i64 cv, .int .i64 ce, .int .i64 cc, .int .i64 cn, .int .i64 c1, .int .i64 c2, .int .i64 c3] 35)).heap.size = z := ⟨_, rfl⟩
  rw [hYe] at hY
  rw [hXe] at hA
  rw [hRe] at hR
  have hX1 : w.heap.size + 1 = X := by rw [← hXe]; simp
  have hR1 : w.heap.size + 1 + 1 = R := by rw [← hRe]; simp
  have HW := Lib.hid hW
  have HYe := Lib.hid hYe
  have HXe := Lib.hid hX1
  have HRe := Lib.hid hR1
  have HY := Lib.hid hY
  have HA := Lib.hid hA
  have HR := Lib.hid hR
  have HB := Lib.hid hB
  clear hW hYe hXe hRe hX1 hR1 hA hR hB
  have y4 := hY.cell 4 rfl
  clear hY
  go_enter Try.func10, Try.ntmps10
  go_upto_region 1 with fail
  rw [HW.out]
  try rw [HRe.out]
  try rw [HXe.out]
  try rw [HYe.out]
  go_region
  go_upto_region 2 with fail
  clear y4
  have HS := Lib.hid (fun (wx : World) (hb : Below w0.heap.size w0 wx) => show wx.cell? ⟨Y, 0, none⟩ = some (.slice xa na ca) ∧ wx.cell? ⟨Y, 1, none⟩ = some (.slice xb nb cb) ∧ wx.cell? ⟨Y, 2, none⟩ = some (.bool false) ∧ wx.cell? ⟨Y, 3, none⟩ = some (.bool false) ∧ wx.cell? ⟨Y, 4, none⟩ = some (.int .i64 0) ∧ wx.cell? ⟨Y, 5, none⟩ = some (.int .i64 tm) ∧ wx.cell? ⟨Y, 6, none⟩ = some (.int .i64 st) from
    have h := HY.out.below hb HY.out.lt
    ⟨h.cell 0 rfl, h.cell 1 rfl, h.cell 2 rfl, h.cell 3 rfl, h.cell 4 rfl, h.cell 5 rfl, h.cell 6 rfl⟩)
  have S0 := HS.out w0.drew.drew (Below.refl w0.heap.size w0).drew.drew
  refine AnyE.start (S := (fun wx => wx.cell? ⟨Y, 0, none⟩ = some (.slice xa na ca) ∧ wx.cell? ⟨Y, 1, none⟩ = some (.slice xb nb cb) ∧ wx.cell? ⟨Y, 2, none⟩ = some (.bool false) ∧ wx.cell? ⟨Y, 3, none⟩ = some (.bool false) ∧ wx.cell? ⟨Y, 4, none⟩ = some (.int .i64 0) ∧ wx.cell? ⟨Y, 5, none⟩ = some (.int .i64 tm) ∧ wx.cell? ⟨Y, 6, none⟩ = some (.int .i64 st))) 7 (by kernel_rfl) (S0) (fun hHeld => ?_)
  refine AnyE.take (i := 0) (v := ?_) rfl (by kernel_rfl) (by kernel_rfl) (by kernel_rfl) (by kernel_rfl) (fun _ _ _ h => h) (Or.inl ⟨by rfl, ?_⟩) (by assumption) ?_
  rotate_left 1
  · intro w hSw
    (try dsimp only at hSw)
    go_simp
    all_goals (with_reducible rfl)
  try simp only [Act.put, List.getElem_toArray, List.getElem_cons_zero, List.getElem_cons_succ, List.setIfInBounds_toArray, List.set_cons_zero, List.set_cons_succ]
  refine AnyE.take (i := 1) (v := ?_) rfl (by kernel_rfl) (by kernel_rfl) (by kernel_rfl) (by kernel_rfl) (fun _ _ _ h => h) (Or.inl ⟨by rfl, ?_⟩) (by assumption) ?_
  rotate_left 1
  · intro w hSw
    (try dsimp only at hSw)
    go_simp
    all_goals (with_reducible rfl)
  try simp only [Act.put, List.getElem_toArray, List.getElem_cons_zero, List.getElem_cons_succ, List.setIfInBounds_toArray, List.set_cons_zero, List.set_cons_succ]
  refine AnyE.take (i := 3) (v := ?_) rfl (by kernel_rfl) (by kernel_rfl) (by kernel_rfl) (by kernel_rfl) (fun _ _ _ h => h) (Or.inl ⟨by rfl, ?_⟩) (by assumption) ?_
  rotate_left 1
  · intro w hSw
    (try dsimp only at hSw)
    go_simp
    all_goals (with_reducible rfl)
  try simp only [Act.put, List.getElem_toArray, List.getElem_cons_zero, List.getElem_cons_succ, List.setIfInBounds_toArray, List.set_cons_zero, List.set_cons_succ]
  refine AnyE.take (i := 4) (v := ?_) rfl (by kernel_rfl) (by kernel_rfl) (by kernel_rfl) (by kernel_rfl) (fun _ _ _ h => h) (Or.inl ⟨by rfl, ?_⟩) (by assumption) ?_
  rotate_left 1
  · intro w hSw
    (try dsimp only at hSw)
    go_simp
    all_goals (with_reducible rfl)
  try simp only [Act.put, List.getElem_toArray, List.getElem_cons_zero, List.getElem_cons_succ, List.setIfInBounds_toArray, List.set_cons_zero, List.set_cons_succ]
  refine AnyE.next (rs := [2]) (by kernel_rfl) (by simp) ?_
  refine AllE.cons rfl (fun K hK => ?_) AllE.nil
  go_simp
  refine (rlog20 xa xb na nb ca cb false false 0 tm st 0 _).mono ?_
  rintro e w1 ⟨rfl, hb1⟩
  refine hK.out _ _ (HS.out _ ((Below.refl w0.heap.size w0).drew.drew.trans (hb1.mono (Nat.le_refl _)))) (fun hHeld => ?_)
  clear hK K
  try simp only [Act.put, List.getElem_toArray, List.getElem_cons_zero, List.getElem_cons_succ, List.setIfInBounds_toArray, List.set_cons_zero, List.set_cons_succ]
  refine AnyE.next (rs := [5]) (by kernel_rfl) (by simp) ?_
  refine AllE.cons rfl (fun K hK => ?_) AllE.nil
  go_simp
  refine (rlog20 xa xb na nb ca cb false false 0 tm st 1 _).mono ?_
  rintro e w2 ⟨rfl, hb2⟩
  refine hK.out _ _ (HS.out _ (((Below.refl w0.heap.size w0).drew.drew.trans (hb1.mono (Nat.le_refl _))).trans (hb2.mono hb1.size))) (fun hHeld => ?_)
  clear hK K
  try simp only [Act.put, List.getElem_toArray, List.getElem_cons_zero, List.getElem_cons_succ, List.setIfInBounds_toArray, List.set_cons_zero, List.set_cons_succ]
  refine AnyE.next (rs := [6]) (by kernel_rfl) (by simp) ?_
  refine AllE.cons rfl (fun K hK => ?_) AllE.nil
  go_simp
  refine hK.out _ _ (HS.out _ (((Below.refl w0.heap.size w0).drew.drew.trans (hb1.mono (Nat.le_refl _))).trans (hb2.mono hb1.size))) (fun hHeld => ?_)
  clear hK K
  try simp only [Act.put, List.getElem_toArray, List.getElem_cons_zero, List.getElem_cons_succ, List.setIfInBounds_toArray, List.set_cons_zero, List.set_cons_succ]
  refine AnyE.next (rs := [7]) (by kernel_rfl) (by simp) ?_
  refine AllE.last rfl (fun K hK => ?_)
  go_simp
  refine hK.out _ _ ?_
  clear hK K
  try simp only [Act.put, List.getElem_toArray, List.getElem_cons_zero, List.getElem_cons_succ, List.setIfInBounds_toArray, List.set_cons_zero, List.set_cons_succ]
  refine AnyE.done (by kernel_rfl) ?_ _
  have hb20 := ((Below.refl w0.heap.size w0).drew.drew.trans (hb1.mono (Nat.le_refl _))).trans (hb2.mono hb1.size)
  have HY2 := Lib.hid (HY.out.below hb20 HY.out.lt)
  have HA2 := Lib.hid (HA.out.below hb20 HA.out.lt)
  have HR2 := Lib.hid (HR.out.below hb20 HR.out.lt)
  have HB2 := Lib.hid (HB.out.trans (hb20.mono HB.out.size))
  clear hb1 hb2 hb20 S0
  clear hHeld
  have y0 := HY2.out.cell 0 rfl
  have y1 := HY2.out.cell 1 rfl
  have y2 := HY2.out.cell 2 rfl
  have y3 := HY2.out.cell 3 rfl
  have y4 := HY2.out.cell 4 rfl
  have y5 := HY2.out.cell 5 rfl
  have y6 := HY2.out.cell 6 rfl
  have a0 := HA2.out.cell 0 rfl
  have a1 := HA2.out.cell 1 rfl
  have a2 := HA2.out.cell 2 rfl
  go_wp2_with (refine wpList_store7 rfl 29 Try.sizePr20 _ _ rfl R 29 HR2.out rfl rfl ?_)
  intro w3 hr3 hk3
  have HB3 := Lib.hid (HB2.out.trans (hk3.below HB2.out.size (fun q hq e => by have h1 := HRe.out; omega)))
  have z0 := hr3.cell 0 rfl
  have z1 := hr3.cell 1 rfl
  have z2 := hr3.cell 2 rfl
  have z3 := hr3.cell 3 rfl
  have z4 := hr3.cell 4 rfl
  have z5 := hr3.cell 5 rfl
  have z6 := hr3.cell 6 rfl
  clear hr3 hk3 y0 y1 y2 y3 y4 y5 y6 a0 a1 a2
  go_wp2
  exact bodyPost_ret (v := .tuple #[.agg #[.slice xa na ca, .slice xb nb cb, .bool false, .bool false, .int .i64 0, .int .i64 tm, .int .i64 st], .int .i64 0, .int .i64 12]) (by simp [results, Try.results10, go_sem, z0, z1, z2, z3, z4, z5, z6]) rfl ⟨rfl, HB3.out⟩
set_option maxRecDepth 100000 in
set_option maxHeartbeats 2000000 in
theorem fall_down10 (xa xb : Option Addr) (na nb ca cb : Nat) (u1 : Bool) (tm st te ck cv ce cc cn c1 c2 c3 : Int) (w : World) :
    Calls Try.prog 10 #[.agg #[.slice xa na ca, .slice xb nb cb, .bool false, .bool u1, .int .i64 1, .int .i64 tm, .int .i64 st], .agg #[.int .i64 2, .int .i64 te, .int .i64 0, .int .i64 ck, .int .i64 cv, .int .i64 ce, .int .i64 cc, .int .i64 cn, .int .i64 c1, .int .i64 c2, .int .i64 c3]] w fun e w' => e = .returned (.tuple #[.agg #[.slice xa na ca, .slice xb nb cb, .bool false, .bool u1, .int .i64 1, .int .i64 tm, .int .i64 st], .int .i64 0, .int .i64 12]) ∧ Below w.heap.size w w' := by
  have hY := ((Blk.new w #[.slice xa na ca, .slice xb nb cb, .bool false, .bool u1, .int .i64 1, .int .i64 tm, .int .i64 st] 29).alloc (.cells #[.int .i64 2, .int .i64 te, .int .i64 0, .int .i64 ck, .int .i64 cv, .int .i64 ce, .int .i64 cc, .int .i64 cn, .int .i64 c1, .int .i64 c2, .int .i64 c3] 35)).alloc (.cells #[.slice none 0 0, .slice none 0 0, .bool false, .bool false, .int .i64 0, .int .i64 0, .int .i64 0] 29)
  have hA := (Blk.new (w.alloc (.cells #[.slice xa na ca, .slice xb nb cb, .bool false, .bool u1, .int .i64 1, .int .i64 tm, .int .i64 st] 29)) #[.int .i64 2, .int .i64 te, .int .i64 0, .int .i64 ck, .int .i64 cv, .int .i64 ce, .int .i64 cc, .int .i64 cn, .int .i64 c1, .int .i64 c2, .int .i64 c3] 35).alloc (.cells #[.slice none 0 0, .slice none 0 0, .bool false, .bool false, .int .i64 0, .int .i64 0, .int .i64 0] 29)
  have hR := Blk.new ((w.alloc (.cells #[.slice xa na ca, .slice xb nb cb, .bool false, .bool u1, .int .i64 1, .int .i64 tm, .int .i64 st] 29)).alloc (.cells #[.int .i64 2, .int .i64 te, .int .i64 0, .int .i64 ck, .int .i64 cv, .int .i64 ce, .int .i64 cc, .int .i64 cn, .int .i64 c1, .int .i64 c2, .int .i64 c3] 35)) #[.slice none 0 0, .slice none 0 0, .bool false, .bool false, .int .i64 0, .int .i64 0, .int .i64 0] 29
  have hB := (((Below.refl w.heap.size w).alloc (Nat.le_refl _) (.cells #[.slice xa na ca, .slice xb nb cb, .bool false, .bool u1, .int .i64 1, .int .i64 tm, .int .i64 st] 29)).alloc (by simp) (.cells #[.int .i64 2, .int .i64 te, .int .i64 0, .int .i64 ck, .int .i64 cv, .int .i64 ce, .int .i64 cc, .int .i64 cn, .int .i64 c1, .int .i64 c2, .int .i64 c3] 35)).alloc (by simp; omega) (.cells #[.slice none 0 0, .slice none 0 0, .bool false, .bool false, .int .i64 0, .int .i64 0, .int .i64 0] 29)
  obtain ⟨w0, hW⟩ : ∃ z, ((w.alloc (.cells #[.slice xa na ca, .slice xb nb cb, .bool false, .bool u1, .int .i64 1, .int .i64 tm, .int .i64 st] 29)).alloc (.cells #[.int .i64 2, .int .i64 te, .int .i64 0, .int .i64 ck, .int .i64 cv, .int .i64 ce, .int .i64 cc, .int .i64 cn, .int .i64 c1, .int .i64 c2, .int .i64 c3] 35)).alloc (.cells #[.slice none 0 0, .slice none 0 0, .bool false, .bool false, .int .i64 0, .int .i64 0, .int .i64 0] 29) = z := ⟨_, rfl⟩
  rw [hW] at hY hA hR hB
  obtain ⟨Y, hYe⟩ : ∃ z, w.heap.size = z := ⟨_, rfl⟩
  obtain ⟨X, hXe⟩ : ∃ z, (w.alloc (.cells #[.slice xa na ca, .slice xb nb cb, .bool false, .bool u1, .int .i64 1, .int .i64 tm, .int .i64 st] 29)).heap.size = z := ⟨_, rfl⟩
  obtain ⟨R, hRe⟩ : ∃ z, ((w.alloc (.cells #[.slice xa na ca, .slice xb nb cb, .bool false, .bool u1, .int .i64 1, .int .i64 tm, .int .i64 st] 29)).alloc (.cells #[.int .i64 2, .int .i64 te, .int .i64 0, .int .i64 ck, .int .i64 cv, .int .i64 ce, .int .i64 cc, .int .i64 cn, .int .i64 c1, .int .i64 c2, .int .i64 c3] 35)).heap.size = z := ⟨_, rfl⟩
  rw [hYe] at hY
  rw [hXe] at hA
  rw [hRe] at hR
  have hX1 : w.heap.size + 1 = X := by rw [← hXe]; simp
  have hR1 : w.heap.size + 1 + 1 = R := by rw [← hRe]; simp
  have HW := Lib.hid hW
  have HYe := Lib.hid hYe
  have HXe := Lib.hid hX1
  have HRe := Lib.hid hR1
  have HY := Lib.hid hY
  have HA := Lib.hid hA
  have HR := Lib.hid hR
  have HB := Lib.hid hB
  clear hW hYe hXe hRe hX1 hR1 hA hR hB
  have y4 := hY.cell 4 rfl
  clear hY
  go_enter Try.func10, Try.ntmps10
  go_upto_region 1 with fail
  rw [HW.out]
  try rw [HRe.out]
  try rw [HXe.out]
  try rw [HYe.out]
  go_region
  go_upto_region 2 with fail
  clear y4
  have HS := Lib.hid (fun (wx : World) (hb : Below w0.heap.size w0 wx) => show wx.cell? ⟨Y, 0, none⟩ = some (.slice xa na ca) ∧ wx.cell? ⟨Y, 1, none⟩ = some (.slice xb nb cb) ∧ wx.cell? ⟨Y, 2, none⟩ = some (.bool false) ∧ wx.cell? ⟨Y, 3, none⟩ = some (.bool u1) ∧ wx.cell? ⟨Y, 4, none⟩ = some (.int .i64 1) ∧ wx.cell? ⟨Y, 5, none⟩ = some (.int .i64 tm) ∧ wx.cell? ⟨Y, 6, none⟩ = some (.int .i64 st) from
    have h := HY.out.below hb HY.out.lt
    ⟨h.cell 0 rfl, h.cell 1 rfl, h.cell 2 rfl, h.cell 3 rfl, h.cell 4 rfl, h.cell 5 rfl, h.cell 6 rfl⟩)
  have S0 := HS.out w0.drew.drew (Below.refl w0.heap.size w0).drew.drew
  refine AnyE.start (S := (fun wx => wx.cell? ⟨Y, 0, none⟩ = some (.slice xa na ca) ∧ wx.cell? ⟨Y, 1, none⟩ = some (.slice xb nb cb) ∧ wx.cell? ⟨Y, 2, none⟩ = some (.bool false) ∧ wx.cell? ⟨Y, 3, none⟩ = some (.bool u1) ∧ wx.cell? ⟨Y, 4, none⟩ = some (.int .i64 1) ∧ wx.cell? ⟨Y, 5, none⟩ = some (.int .i64 tm) ∧ wx.cell? ⟨Y, 6, none⟩ = some (.int .i64 st))) 7 (by kernel_rfl) (S0) (fun hHeld => ?_)
  refine AnyE.take (i := 0) (v := ?_) rfl (by kernel_rfl) (by kernel_rfl) (by kernel_rfl) (by kernel_rfl) (fun _ _ _ h => h) (Or.inl ⟨by rfl, ?_⟩) (by assumption) ?_
  rotate_left 1
  · intro w hSw
    (try dsimp only at hSw)
    go_simp
    all_goals (with_reducible rfl)
  try simp only [Act.put, List.getElem_toArray, List.getElem_cons_zero, List.getElem_cons_succ, List.setIfInBounds_toArray, List.set_cons_zero, List.set_cons_succ]
  refine AnyE.take (i := 1) (v := ?_) rfl (by kernel_rfl) (by kernel_rfl) (by kernel_rfl) (by kernel_rfl) (fun _ _ _ h => h) (Or.inl ⟨by rfl, ?_⟩) (by assumption) ?_
  rotate_left 1
  · intro w hSw
    (try dsimp only at hSw)
    go_simp
    all_goals (with_reducible rfl)
  try simp only [Act.put, List.getElem_toArray, List.getElem_cons_zero, List.getElem_cons_succ, List.setIfInBounds_toArray, List.set_cons_zero, List.set_cons_succ]
  refine AnyE.take (i := 3) (v := ?_) rfl (by kernel_rfl) (by kernel_rfl) (by kernel_rfl) (by kernel_rfl) (fun _ _ _ h => h) (Or.inl ⟨by rfl, ?_⟩) (by assumption) ?_
  rotate_left 1
  · intro w hSw
    (try dsimp only at hSw)
    go_simp
    all_goals (with_reducible rfl)
  try simp only [Act.put, List.getElem_toArray, List.getElem_cons_zero, List.getElem_cons_succ, List.setIfInBounds_toArray, List.set_cons_zero, List.set_cons_succ]
  refine AnyE.take (i := 4) (v := ?_) rfl (by kernel_rfl) (by kernel_rfl) (by kernel_rfl) (by kernel_rfl) (fun _ _ _ h => h) (Or.inl ⟨by rfl, ?_⟩) (by assumption) ?_
  rotate_left 1
  · intro w hSw
    (try dsimp only at hSw)
    go_simp
    all_goals (with_reducible rfl)
  try simp only [Act.put, List.getElem_toArray, List.getElem_cons_zero, List.getElem_cons_succ, List.setIfInBounds_toArray, List.set_cons_zero, List.set_cons_succ]
  refine AnyE.next (rs := [2]) (by kernel_rfl) (by simp) ?_
  refine AllE.cons rfl (fun K hK => ?_) AllE.nil
  go_simp
  refine (rlog20 xa xb na nb ca cb false u1 1 tm st 1 _).mono ?_
  rintro e w1 ⟨rfl, hb1⟩
  refine hK.out _ _ (HS.out _ ((Below.refl w0.heap.size w0).drew.drew.trans (hb1.mono (Nat.le_refl _)))) (fun hHeld => ?_)
  clear hK K
  try simp only [Act.put, List.getElem_toArray, List.getElem_cons_zero, List.getElem_cons_succ, List.setIfInBounds_toArray, List.set_cons_zero, List.set_cons_succ]
  refine AnyE.next (rs := [5]) (by kernel_rfl) (by simp) ?_
  refine AllE.cons rfl (fun K hK => ?_) AllE.nil
  go_simp
  refine (rlog20 xa xb na nb ca cb false u1 1 tm st 0 _).mono ?_
  rintro e w2 ⟨rfl, hb2⟩
  refine hK.out _ _ (HS.out _ (((Below.refl w0.heap.size w0).drew.drew.trans (hb1.mono (Nat.le_refl _))).trans (hb2.mono hb1.size))) (fun hHeld => ?_)
  clear hK K
  try simp only [Act.put, List.getElem_toArray, List.getElem_cons_zero, List.getElem_cons_succ, List.setIfInBounds_toArray, List.set_cons_zero, List.set_cons_succ]
  refine AnyE.next (rs := [6]) (by kernel_rfl) (by simp) ?_
  refine AllE.cons rfl (fun K hK => ?_) AllE.nil
  go_simp
  refine hK.out _ _ (HS.out _ (((Below.refl w0.heap.size w0).drew.drew.trans (hb1.mono (Nat.le_refl _))).trans (hb2.mono hb1.size))) (fun hHeld => ?_)
  clear hK K
  try simp only [Act.put, List.getElem_toArray, List.getElem_cons_zero, List.getElem_cons_succ, List.setIfInBounds_toArray, List.set_cons_zero, List.set_cons_succ]
  refine AnyE.next (rs := [7]) (by kernel_rfl) (by simp) ?_
  refine AllE.last rfl (fun K hK => ?_)
  go_simp
  refine hK.out _ _ ?_
  clear hK K
  try simp only [Act.put, List.getElem_toArray, List.getElem_cons_zero, List.getElem_cons_succ, List.setIfInBounds_toArray, List.set_cons_zero, List.set_cons_succ]
  refine AnyE.done (by kernel_rfl) ?_ _
  have hb20 := ((Below.refl w0.heap.size w0).drew.drew.trans (hb1.mono (Nat.le_refl _))).trans (hb2.mono hb1.size)
  have HY2 := Lib.hid (HY.out.below hb20 HY.out.lt)
  have HA2 := Lib.hid (HA.out.below hb20 HA.out.lt)
  have HR2 := Lib.hid (HR.out.below hb20 HR.out.lt)
  have HB2 := Lib.hid (HB.out.trans (hb20.mono HB.out.size))
  clear hb1 hb2 hb20 S0
  clear hHeld
  have y0 := HY2.out.cell 0 rfl
  have y1 := HY2.out.cell 1 rfl
  have y2 := HY2.out.cell 2 rfl
  have y3 := HY2.out.cell 3 rfl
  have y4 := HY2.out.cell 4 rfl
  have y5 := HY2.out.cell 5 rfl
  have y6 := HY2.out.cell 6 rfl
  have a0 := HA2.out.cell 0 rfl
  have a1 := HA2.out.cell 1 rfl
  have a2 := HA2.out.cell 2 rfl
  go_wp2_with (refine wpList_store7 rfl 29 Try.sizePr20 _ _ rfl R 29 HR2.out rfl rfl ?_)
  intro w3 hr3 hk3
  have HB3 := Lib.hid (HB2.out.trans (hk3.below HB2.out.size (fun q hq e => by have h1 := HRe.out; omega)))
  have z0 := hr3.cell 0 rfl
  have z1 := hr3.cell 1 rfl
  have z2 := hr3.cell 2 rfl
  have z3 := hr3.cell 3 rfl
  have z4 := hr3.cell 4 rfl
  have z5 := hr3.cell 5 rfl
  have z6 := hr3.cell 6 rfl
  clear hr3 hk3 y0 y1 y2 y3 y4 y5 y6 a0 a1 a2
  go_wp2
  exact bodyPost_ret (v := .tuple #[.agg #[.slice xa na ca, .slice xb nb cb, .bool false, .bool u1, .int .i64 1, .int .i64 tm, .int .i64 st], .int .i64 0, .int .i64 12]) (by simp [results, Try.results10, go_sem, z0, z1, z2, z3, z4, z5, z6]) rfl ⟨rfl, HB3.out⟩
set_option maxRecDepth 100000 in
set_option maxHeartbeats 2000000 in
theorem rise_busy10 (xa xb : Option Addr) (na nb ca cb : Nat) (u1 : Bool) (tm st te ck cv ce cc cn c1 c2 c3 : Int) (w : World) :
    Calls Try.prog 10 #[.agg #[.slice xa na ca, .slice xb nb cb, .bool true, .bool u1, .int .i64 1, .int .i64 tm, .int .i64 st], .agg #[.int .i64 3, .int .i64 te, .int .i64 0, .int .i64 ck, .int .i64 cv, .int .i64 ce, .int .i64 cc, .int .i64 cn, .int .i64 c1, .int .i64 c2, .int .i64 c3]] w fun e w' => e = .returned (.tuple #[.agg #[.slice xa na ca, .slice xb nb cb, .bool true, .bool u1, .int .i64 1, .int .i64 tm, .int .i64 st], .int .i64 0, .int .i64 14]) ∧ Below w.heap.size w w' := by
  have hY := ((Blk.new w #[.slice xa na ca, .slice xb nb cb, .bool true, .bool u1, .int .i64 1, .int .i64 tm, .int .i64 st] 29).alloc (.cells #[.int .i64 3, .int .i64 te, .int .i64 0, .int .i64 ck, .int .i64 cv, .int .i64 ce, .int .i64 cc, .int .i64 cn, .int .i64 c1, .int .i64 c2, .int .i64 c3] 35)).alloc (.cells #[.slice none 0 0, .slice none 0 0, .bool false, .bool false, .int .i64 0, .int .i64 0, .int .i64 0] 29)
  have hA := (Blk.new (w.alloc (.cells #[.slice xa na ca, .slice xb nb cb, .bool true, .bool u1, .int .i64 1, .int .i64 tm, .int .i64 st] 29)) #[.int .i64 3, .int .i64 te, .int .i64 0, .int .i64 ck, .int .i64 cv, .int .i64 ce, .int .i64 cc, .int .i64 cn, .int .i64 c1, .int .i64 c2, .int .i64 c3] 35).alloc (.cells #[.slice none 0 0, .slice none 0 0, .bool false, .bool false, .int .i64 0, .int .i64 0, .int .i64 0] 29)
  have hR := Blk.new ((w.alloc (.cells #[.slice xa na ca, .slice xb nb cb, .bool true, .bool u1, .int .i64 1, .int .i64 tm, .int .i64 st] 29)).alloc (.cells #[.int .i64 3, .int .i64 te, .int .i64 0, .int .i64 ck, .int .i64 cv, .int .i64 ce, .int .i64 cc, .int .i64 cn, .int .i64 c1, .int .i64 c2, .int .i64 c3] 35)) #[.slice none 0 0, .slice none 0 0, .bool false, .bool false, .int .i64 0, .int .i64 0, .int .i64 0] 29
  have hB := (((Below.refl w.heap.size w).alloc (Nat.le_refl _) (.cells #[.slice xa na ca, .slice xb nb cb, .bool true, .bool u1, .int .i64 1, .int .i64 tm, .int .i64 st] 29)).alloc (by simp) (.cells #[.int .i64 3, .int .i64 te, .int .i64 0, .int .i64 ck, .int .i64 cv, .int .i64 ce, .int .i64 cc, .int .i64 cn, .int .i64 c1, .int .i64 c2, .int .i64 c3] 35)).alloc (by simp; omega) (.cells #[.slice none 0 0, .slice none 0 0, .bool false, .bool false, .int .i64 0, .int .i64 0, .int .i64 0] 29)
  obtain ⟨w0, hW⟩ : ∃ z, ((w.alloc (.cells #[.slice xa na ca, .slice xb nb cb, .bool true, .bool u1, .int .i64 1, .int .i64 tm, .int .i64 st] 29)).alloc (.cells #[.int .i64 3, .int .i64 te, .int .i64 0, .int .i64 ck, .int .i64 cv, .int .i64 ce, .int .i64 cc, .int .i64 cn, .int .i64 c1, .int .i64 c2, .int .i64 c3] 35)).alloc (.cells #[.slice none 0 0, .slice none 0 0, .bool false, .bool false, .int .i64 0, .int .i64 0, .int .i64 0] 29) = z := ⟨_, rfl⟩
  rw [hW] at hY hA hR hB
  obtain ⟨Y, hYe⟩ : ∃ z, w.heap.size = z := ⟨_, rfl⟩
  obtain ⟨X, hXe⟩ : ∃ z, (w.alloc (.cells #[.slice xa na ca, .slice xb nb cb, .bool true, .bool u1, .int .i64 1, .int .i64 tm, .int .i64 st] 29)).heap.size = z := ⟨_, rfl⟩
  obtain ⟨R, hRe⟩ : ∃ z, ((w.alloc (.cells #[.slice xa na ca, .slice xb nb cb, .bool true, .bool u1, .int .i64 1, .int .i64 tm, .int .i64 st] 29)).alloc (.cells #[.int .i64 3, .int .i64 te, .int .i64 0, .int .i64 ck, .int .i64 cv, .int .i64 ce, .int .i64 cc, .int .i64 cn, .int .i64 c1, .int .i64 c2, .int .i64 c3] 35)).heap.size = z := ⟨_, rfl⟩
  rw [hYe] at hY
  rw [hXe] at hA
  rw [hRe] at hR
  have hX1 : w.heap.size + 1 = X := by rw [← hXe]; simp
  have hR1 : w.heap.size + 1 + 1 = R := by rw [← hRe]; simp
  have HW := Lib.hid hW
  have HYe := Lib.hid hYe
  have HXe := Lib.hid hX1
  have HRe := Lib.hid hR1
  have HY := Lib.hid hY
  have HA := Lib.hid hA
  have HR := Lib.hid hR
  have HB := Lib.hid hB
  clear hW hYe hXe hRe hX1 hR1 hA hR hB
  have y4 := hY.cell 4 rfl
  clear hY
  go_enter Try.func10, Try.ntmps10
  go_upto_region 1 with fail
  rw [HW.out]
  try rw [HRe.out]
  try rw [HXe.out]
  try rw [HYe.out]
  go_region
  go_upto_region 2 with fail
  clear y4
  have HS := Lib.hid (fun (wx : World) (hb : Below w0.heap.size w0 wx) => show wx.cell? ⟨Y, 0, none⟩ = some (.slice xa na ca) ∧ wx.cell? ⟨Y, 1, none⟩ = some (.slice xb nb cb) ∧ wx.cell? ⟨Y, 2, none⟩ = some (.bool true) ∧ wx.cell? ⟨Y, 3, none⟩ = some (.bool u1) ∧ wx.cell? ⟨Y, 4, none⟩ = some (.int .i64 1) ∧ wx.cell? ⟨Y, 5, none⟩ = some (.int .i64 tm) ∧ wx.cell? ⟨Y, 6, none⟩ = some (.int .i64 st) from
    have h := HY.out.below hb HY.out.lt
    ⟨h.cell 0 rfl, h.cell 1 rfl, h.cell 2 rfl, h.cell 3 rfl, h.cell 4 rfl, h.cell 5 rfl, h.cell 6 rfl⟩)
  have S0 := HS.out w0.drew.drew (Below.refl w0.heap.size w0).drew.drew
  refine AnyE.start (S := (fun wx => wx.cell? ⟨Y, 0, none⟩ = some (.slice xa na ca) ∧ wx.cell? ⟨Y, 1, none⟩ = some (.slice xb nb cb) ∧ wx.cell? ⟨Y, 2, none⟩ = some (.bool true) ∧ wx.cell? ⟨Y, 3, none⟩ = some (.bool u1) ∧ wx.cell? ⟨Y, 4, none⟩ = some (.int .i64 1) ∧ wx.cell? ⟨Y, 5, none⟩ = some (.int .i64 tm) ∧ wx.cell? ⟨Y, 6, none⟩ = some (.int .i64 st))) 7 (by kernel_rfl) (S0) (fun hHeld => ?_)
  refine AnyE.take (i := 0) (v := ?_) rfl (by kernel_rfl) (by kernel_rfl) (by kernel_rfl) (by kernel_rfl) (fun _ _ _ h => h) (Or.inl ⟨by rfl, ?_⟩) (by assumption) ?_
  rotate_left 1
  · intro w hSw
    (try dsimp only at hSw)
    go_simp
    all_goals (with_reducible rfl)
  try simp only [Act.put, List.getElem_toArray, List.getElem_cons_zero, List.getElem_cons_succ, List.setIfInBounds_toArray, List.set_cons_zero, List.set_cons_succ]
  refine AnyE.take (i := 1) (v := ?_) rfl (by kernel_rfl) (by kernel_rfl) (by kernel_rfl) (by kernel_rfl) (fun _ _ _ h => h) (Or.inl ⟨by rfl, ?_⟩) (by assumption) ?_
  rotate_left 1
  · intro w hSw
    (try dsimp only at hSw)
    go_simp
    all_goals (with_reducible rfl)
  try simp only [Act.put, List.getElem_toArray, List.getElem_cons_zero, List.getElem_cons_succ, List.setIfInBounds_toArray, List.set_cons_zero, List.set_cons_succ]
  refine AnyE.take (i := 3) (v := ?_) rfl (by kernel_rfl) (by kernel_rfl) (by kernel_rfl) (by kernel_rfl) (fun _ _ _ h => h) (Or.inl ⟨by rfl, ?_⟩) (by assumption) ?_
  rotate_left 1
  · intro w hSw
    (try dsimp only at hSw)
    go_simp
    all_goals (with_reducible rfl)
  try simp only [Act.put, List.getElem_toArray, List.getElem_cons_zero, List.getElem_cons_succ, List.setIfInBounds_toArray, List.set_cons_zero, List.set_cons_succ]
  refine AnyE.take (i := 4) (v := ?_) rfl (by kernel_rfl) (by kernel_rfl) (by kernel_rfl) (by kernel_rfl) (fun _ _ _ h => h) (Or.inl ⟨by rfl, ?_⟩) (by assumption) ?_
  rotate_left 1
  · intro w hSw
    (try dsimp only at hSw)
    go_simp
    all_goals (with_reducible rfl)
  try simp only [Act.put, List.getElem_toArray, List.getElem_cons_zero, List.getElem_cons_succ, List.setIfInBounds_toArray, List.set_cons_zero, List.set_cons_succ]
  refine AnyE.next (rs := [2]) (by kernel_rfl) (by simp) ?_
  refine AllE.cons rfl (fun K hK => ?_) AllE.nil
  go_simp
  refine (rlog20 xa xb na nb ca cb true u1 1 tm st 1 _).mono ?_
  rintro e w1 ⟨rfl, hb1⟩
  refine hK.out _ _ (HS.out _ ((Below.refl w0.heap.size w0).drew.drew.trans (hb1.mono (Nat.le_refl _)))) (fun hHeld => ?_)
  clear hK K
  try simp only [Act.put, List.getElem_toArray, List.getElem_cons_zero, List.getElem_cons_succ, List.setIfInBounds_toArray, List.set_cons_zero, List.set_cons_succ]
  refine AnyE.next (rs := [5]) (by kernel_rfl) (by simp) ?_
  refine AllE.cons rfl (fun K hK => ?_) AllE.nil
  go_simp
  refine (rlog20 xa xb na nb ca cb true u1 1 tm st 0 _).mono ?_
  rintro e w2 ⟨rfl, hb2⟩
  refine hK.out _ _ (HS.out _ (((Below.refl w0.heap.size w0).drew.drew.trans (hb1.mono (Nat.le_refl _))).trans (hb2.mono hb1.size))) (fun hHeld => ?_)
  clear hK K
  try simp only [Act.put, List.getElem_toArray, List.getElem_cons_zero, List.getElem_cons_succ, List.setIfInBounds_toArray, List.set_cons_zero, List.set_cons_succ]
  refine AnyE.next (rs := [6]) (by kernel_rfl) (by simp) ?_
  refine AllE.cons rfl (fun K hK => ?_) AllE.nil
  go_simp
  refine hK.out _ _ (HS.out _ (((Below.refl w0.heap.size w0).drew.drew.trans (hb1.mono (Nat.le_refl _))).trans (hb2.mono hb1.size))) (fun hHeld => ?_)
  clear hK K
  try simp only [Act.put, List.getElem_toArray, List.getElem_cons_zero, List.getElem_cons_succ, List.setIfInBounds_toArray, List.set_cons_zero, List.set_cons_succ]
  refine AnyE.next (rs := [7]) (by kernel_rfl) (by simp) ?_
  refine AllE.last rfl (fun K hK => ?_)
  go_simp
  refine hK.out _ _ ?_
  clear hK K
  try simp only [Act.put, List.getElem_toArray, List.getElem_cons_zero, List.getElem_cons_succ, List.setIfInBounds_toArray, List.set_cons_zero, List.set_cons_succ]
  refine AnyE.done (by kernel_rfl) ?_ _
  have hb20 := ((Below.refl w0.heap.size w0).drew.drew.trans (hb1.mono (Nat.le_refl _))).trans (hb2.mono hb1.size)
  have HY2 := Lib.hid (HY.out.below hb20 HY.out.lt)
  have HA2 := Lib.hid (HA.out.below hb20 HA.out.lt)
  have HR2 := Lib.hid (HR.out.below hb20 HR.out.lt)
  have HB2 := Lib.hid (HB.out.trans (hb20.mono HB.out.size))
  clear hb1 hb2 hb20 S0
  clear hHeld
  have y0 := HY2.out.cell 0 rfl
  have y1 := HY2.out.cell 1 rfl
  have y2 := HY2.out.cell 2 rfl
  have y3 := HY2.out.cell 3 rfl
  have y4 := HY2.out.cell 4 rfl
  have y5 := HY2.out.cell 5 rfl
  have y6 := HY2.out.cell 6 rfl
  have a0 := HA2.out.cell 0 rfl
  have a1 := HA2.out.cell 1 rfl
  have a2 := HA2.out.cell 2 rfl
  go_wp2_with (refine wpList_store7 rfl 29 Try.sizePr20 _ _ rfl R 29 HR2.out rfl rfl ?_)
  intro w3 hr3 hk3
  have HB3 := Lib.hid (HB2.out.trans (hk3.below HB2.out.size (fun q hq e => by have h1 := HRe.out; omega)))
  have z0 := hr3.cell 0 rfl
  have z1 := hr3.cell 1 rfl
  have z2 := hr3.cell 2 rfl
  have z3 := hr3.cell 3 rfl
  have z4 := hr3.cell 4 rfl
  have z5 := hr3.cell 5 rfl
  have z6 := hr3.cell 6 rfl
  clear hr3 hk3 y0 y1 y2 y3 y4 y5 y6 a0 a1 a2
  go_wp2
  exact bodyPost_ret (v := .tuple #[.agg #[.slice xa na ca, .slice xb nb cb, .bool true, .bool u1, .int .i64 1, .int .i64 tm, .int .i64 st], .int .i64 0, .int .i64 14]) (by simp [results, Try.results10, go_sem, z0, z1, z2, z3, z4, z5, z6]) rfl ⟨rfl, HB3.out⟩
set_option maxRecDepth 100000 in
set_option maxHeartbeats 2000000 in
theorem rise_down1 (xa xb : Option Addr) (na nb ca cb : Nat) (tm st te ck cv ce cc cn c1 c2 c3 : Int) (w : World) :
    Calls Try.prog 10 #[.agg #[.slice xa na ca, .slice xb nb cb, .bool false, .bool false, .int .i64 1, .int .i64 tm, .int .i64 st], .agg #[.int .i64 3, .int .i64 te, .int .i64 0, .int .i64 ck, .int .i64 cv, .int .i64 ce, .int .i64 cc, .int .i64 cn, .int .i64 c1, .int .i64 c2, .int .i64 c3]] w fun e w' => e = .returned (.tuple #[.agg #[.slice xa na ca, .slice xb nb cb, .bool false, .bool false, .int .i64 1, .int .i64 tm, .int .i64 st], .int .i64 0, .int .i64 12]) ∧ Below w.heap.size w w' := by
  have hY := ((Blk.new w #[.slice xa na ca, .slice xb nb cb, .bool false, .bool false, .int .i64 1, .int .i64 tm, .int .i64 st] 29).alloc (.cells #[.int .i64 3, .int .i64 te, .int .i64 0, .int .i64 ck, .int .i64 cv, .int .i64 ce, .int .i64 cc, .int .i64 cn, .int .i64 c1, .int .i64 c2, .int .i64 c3] 35)).alloc (.cells #[.slice none 0 0, .slice none 0 0, .bool false, .bool false, .int .i64 0, .int .i64 0, .int .i64 0] 29)
  have hA := (Blk.new (w.alloc (.cells #[.slice xa na ca, .slice xb nb cb, .bool false, .bool false, .int .i64 1, .int .i64 tm, .int .i64 st] 29)) #[.int .i64 3, .int .i64 te, .int .i64 0, .int .i64 ck, .int .i64 cv, .int .i64 ce, .int .i64 cc, .int .i64 cn, .int .i64 c1, .int .i64 c2, .int .i64 c3] 35).alloc (.cells #[.slice none 0 0, .slice none 0 0, .bool false, .bool false, .int .i64 0, .int .i64 0, .int .i64 0] 29)
  have hR := Blk.new ((w.alloc (.cells #[.slice xa na ca, .slice xb nb cb, .bool false, .bool false, .int .i64 1, .int .i64 tm, .int .i64 st] 29)).alloc (.cells #[.int .i64 3, .int .i64 te, .int .i64 0, .int .i64 ck, .int .i64 cv, .int .i64 ce, .int .i64 cc, .int .i64 cn, .int .i64 c1, .int .i64 c2, .int .i64 c3] 35)) #[.slice none 0 0, .slice none 0 0, .bool false, .bool false, .int .i64 0, .int .i64 0, .int .i64 0] 29
  have hB := (((Below.refl w.heap.size w).alloc (Nat.le_refl _) (.cells #[.slice xa na ca, .slice xb nb cb, .bool false, .bool false, .int .i64 1, .int .i64 tm, .int .i64 st] 29)).alloc (by simp) (.cells #[.int .i64 3, .int .i64 te, .int .i64 0, .int .i64 ck, .int .i64 cv, .int .i64 ce, .int .i64 cc, .int .i64 cn, .int .i64 c1, .int .i64 c2, .int .i64 c3] 35)).alloc (by simp; omega) (.cells #[.slice none 0 0, .slice none 0 0, .bool false, .bool false, .int .i64 0, .int .i64 0, .int .i64 0] 29)
  obtain ⟨w0, hW⟩ : ∃ z, ((w.alloc (.cells #[.slice xa na ca, .slice xb nb cb, .bool false, .bool false, .int .i64 1, .int .i64 tm, .int .i64 st] 29)).alloc (.cells #[.int .i64 3, .int .i64 te, .int .i64 0, .int .i64 ck, .int .i64 cv, .int .i64 ce, .int .i64 cc, .int .i64 cn, .int .i64 c1, .int .i64 c2, .int .i64 c3] 35)).alloc (.cells #[.slice none 0 0, .slice none 0 0, .bool false, .bool false, .int .i64 0, .int .i64 0, .int .i64 0] 29) = z := ⟨_, rfl⟩
  rw [hW] at hY hA hR hB
  obtain ⟨Y, hYe⟩ : ∃ z, w.heap.size = z := ⟨_, rfl⟩
  obtain ⟨X, hXe⟩ : ∃ z, (w.alloc (.cells #[.slice xa na ca, .slice xb nb cb, .bool false, .bool false, .int .i64 1, .int .i64 tm, .int .i64 st] 29)).heap.size = z := ⟨_, rfl⟩
  obtain ⟨R, hRe⟩ : ∃ z, ((w.alloc (.cells #[.slice xa na ca, .slice xb nb cb, .bool false, .bool false, .int .i64 1, .int .i64 tm, .int .i64 st] 29)).alloc (.cells #[.int .i64 3, .int .i64 te, .int .i64 0, .int .i64 ck, .int .i64 cv, .int .i64 ce, .int .i64 cc, .int .i64 cn, .int .i64 c1, .int .i64 c2, .int .i64 c3] 35)).heap.size = z := ⟨_, rfl⟩
  rw [hYe] at hY
  rw [hXe] at hA
  rw [hRe] at hR
  have hX1 : w.heap.size + 1 = X := by rw [← hXe]; simp
  have hR1 : w.heap.size + 1 + 1 = R := by rw [← hRe]; simp
  have HW := Lib.hid hW
  have HYe := Lib.hid hYe
  have HXe := Lib.hid hX1
  have HRe := Lib.hid hR1
  have HY := Lib.hid hY
  have HA := Lib.hid hA
  have HR := Lib.hid hR
  have HB := Lib.hid hB
  clear hW hYe hXe hRe hX1 hR1 hA hR hB
  have y4 := hY.cell 4 rfl
  clear hY
  go_enter Try.func10, Try.ntmps10
  go_upto_region 1 with fail
  rw [HW.out]
  try rw [HRe.out]
  try rw [HXe.out]
  try rw [HYe.out]
  go_region
  go_upto_region 2 with fail
  clear y4
  have HS := Lib.hid (fun (wx : World) (hb : Below w0.heap.size w0 wx) => show wx.cell? ⟨Y, 0, none⟩ = some (.slice xa na ca) ∧ wx.cell? ⟨Y, 1, none⟩ = some (.slice xb nb cb) ∧ wx.cell? ⟨Y, 2, none⟩ = some (.bool false) ∧ wx.cell? ⟨Y, 3, none⟩ = some (.bool false) ∧ wx.cell? ⟨Y, 4, none⟩ = some (.int .i64 1) ∧ wx.cell? ⟨Y, 5, none⟩ = some (.int .i64 tm) ∧ wx.cell? ⟨Y, 6, none⟩ = some (.int .i64 st) from
    have h := HY.out.below hb HY.out.lt
    ⟨h.cell 0 rfl, h.cell 1 rfl, h.cell 2 rfl, h.cell 3 rfl, h.cell 4 rfl, h.cell 5 rfl, h.cell 6 rfl⟩)
  have S0 := HS.out w0.drew.drew (Below.refl w0.heap.size w0).drew.drew
  refine AnyE.start (S := (fun wx => wx.cell? ⟨Y, 0, none⟩ = some (.slice xa na ca) ∧ wx.cell? ⟨Y, 1, none⟩ = some (.slice xb nb cb) ∧ wx.cell? ⟨Y, 2, none⟩ = some (.bool false) ∧ wx.cell? ⟨Y, 3, none⟩ = some (.bool false) ∧ wx.cell? ⟨Y, 4, none⟩ = some (.int .i64 1) ∧ wx.cell? ⟨Y, 5, none⟩ = some (.int .i64 tm) ∧ wx.cell? ⟨Y, 6, none⟩ = some (.int .i64 st))) 7 (by kernel_rfl) (S0) (fun hHeld => ?_)
  refine AnyE.take (i := 0) (v := ?_) rfl (by kernel_rfl) (by kernel_rfl) (by kernel_rfl) (by kernel_rfl) (fun _ _ _ h => h) (Or.inl ⟨by rfl, ?_⟩) (by assumption) ?_
  rotate_left 1
  · intro w hSw
    (try dsimp only at hSw)
    go_simp
    all_goals (with_reducible rfl)
  try simp only [Act.put, List.getElem_toArray, List.getElem_cons_zero, List.getElem_cons_succ, List.setIfInBounds_toArray, List.set_cons_zero, List.set_cons_succ]
  refine AnyE.take (i := 1) (v := ?_) rfl (by kernel_rfl) (by kernel_rfl) (by kernel_rfl) (by kernel_rfl) (fun _ _ _ h => h) (Or.inl ⟨by rfl, ?_⟩) (by assumption) ?_
  rotate_left 1
  · intro w hSw
    (try dsimp only at hSw)
    go_simp
    all_goals (with_reducible rfl)
  try simp only [Act.put, List.getElem_toArray, List.getElem_cons_zero, List.getElem_cons_succ, List.setIfInBounds_toArray, List.set_cons_zero, List.set_cons_succ]
  refine AnyE.take (i := 3) (v := ?_) rfl (by kernel_rfl) (by kernel_rfl) (by kernel_rfl) (by kernel_rfl) (fun _ _ _ h => h) (Or.inl ⟨by rfl, ?_⟩) (by assumption) ?_
  rotate_left 1
  · intro w hSw
    (try dsimp only at hSw)
    go_simp
    all_goals (with_reducible rfl)
  try simp only [Act.put, List.getElem_toArray, List.getElem_cons_zero, List.getElem_cons_succ, List.setIfInBounds_toArray, List.set_cons_zero, List.set_cons_succ]
  refine AnyE.take (i := 4) (v := ?_) rfl (by kernel_rfl) (by kernel_rfl) (by kernel_rfl) (by kernel_rfl) (fun _ _ _ h => h) (Or.inl ⟨by rfl, ?_⟩) (by assumption) ?_
  rotate_left 1
  · intro w hSw
    (try dsimp only at hSw)
    go_simp
    all_goals (with_reducible rfl)
  try simp only [Act.put, List.getElem_toArray, List.getElem_cons_zero, List.getElem_cons_succ, List.setIfInBounds_toArray, List.set_cons_zero, List.set_cons_succ]
  refine AnyE.next (rs := [2]) (by kernel_rfl) (by simp) ?_
  refine AllE.cons rfl (fun K hK => ?_) AllE.nil
  go_simp
  refine (rlog20 xa xb na nb ca cb false false 1 tm st 1 _).mono ?_
  rintro e w1 ⟨rfl, hb1⟩
  refine hK.out _ _ (HS.out _ ((Below.refl w0.heap.size w0).drew.drew.trans (hb1.mono (Nat.le_refl _)))) (fun hHeld => ?_)
  clear hK K
  try simp only [Act.put, List.getElem_toArray, List.getElem_cons_zero, List.getElem_cons_succ, List.setIfInBounds_toArray, List.set_cons_zero, List.set_cons_succ]
  refine AnyE.next (rs := [5]) (by kernel_rfl) (by simp) ?_
  refine AllE.cons rfl (fun K hK => ?_) AllE.nil
  go_simp
  refine (rlog20 xa xb na nb ca cb false false 1 tm st 0 _).mono ?_
  rintro e w2 ⟨rfl, hb2⟩
  refine hK.out _ _ (HS.out _ (((Below.refl w0.heap.size w0).drew.drew.trans (hb1.mono (Nat.le_refl _))).trans (hb2.mono hb1.size))) (fun hHeld => ?_)
  clear hK K
  try simp only [Act.put, List.getElem_toArray, List.getElem_cons_zero, List.getElem_cons_succ, List.setIfInBounds_toArray, List.set_cons_zero, List.set_cons_succ]
  refine AnyE.next (rs := [6]) (by kernel_rfl) (by simp) ?_
  refine AllE.cons rfl (fun K hK => ?_) AllE.nil
  go_simp
  refine hK.out _ _ (HS.out _ (((Below.refl w0.heap.size w0).drew.drew.trans (hb1.mono (Nat.le_refl _))).trans (hb2.mono hb1.size))) (fun hHeld => ?_)
  clear hK K
  try simp only [Act.put, List.getElem_toArray, List.getElem_cons_zero, List.getElem_cons_succ, List.setIfInBounds_toArray, List.set_cons_zero, List.set_cons_succ]
  refine AnyE.next (rs := [7]) (by kernel_rfl) (by simp) ?_
  refine AllE.last rfl (fun K hK => ?_)
  go_simp
  refine hK.out _ _ ?_
  clear hK K
  try simp only [Act.put, List.getElem_toArray, List.getElem_cons_zero, List.getElem_cons_succ, List.setIfInBounds_toArray, List.set_cons_zero, List.set_cons_succ]
  refine AnyE.done (by kernel_rfl) ?_ _
  have hb20 := ((Below.refl w0.heap.size w0).drew.drew.trans (hb1.mono (Nat.le_refl _))).trans (hb2.mono hb1.size)
  have HY2 := Lib.hid (HY.out.below hb20 HY.out.lt)
  have HA2 := Lib.hid (HA.out.below hb20 HA.out.lt)
  have HR2 := Lib.hid (HR.out.below hb20 HR.out.lt)
  have HB2 := Lib.hid (HB.out.trans (hb20.mono HB.out.size))
  clear hb1 hb2 hb20 S0
  clear hHeld
  have y0 := HY2.out.cell 0 rfl
  have y1 := HY2.out.cell 1 rfl
  have y2 := HY2.out.cell 2 rfl
  have y3 := HY2.out.cell 3 rfl
  have y4 := HY2.out.cell 4 rfl
  have y5 := HY2.out.cell 5 rfl
  have y6 := HY2.out.cell 6 rfl
  have a0 := HA2.out.cell 0 rfl
  have a1 := HA2.out.cell 1 rfl
  have a2 := HA2.out.cell 2 rfl
  go_wp2_with (refine wpList_store7 rfl 29 Try.sizePr20 _ _ rfl R 29 HR2.out rfl rfl ?_)
  intro w3 hr3 hk3
  have HB3 := Lib.hid (HB2.out.trans (hk3.below HB2.out.size (fun q hq e => by have h1 := HRe.out; omega)))
  have z0 := hr3.cell 0 rfl
  have z1 := hr3.cell 1 rfl
  have z2 := hr3.cell 2 rfl
  have z3 := hr3.cell 3 rfl
  have z4 := hr3.cell 4 rfl
  have z5 := hr3.cell 5 rfl
  have z6 := hr3.cell 6 rfl
  clear hr3 hk3 y0 y1 y2 y3 y4 y5 y6 a0 a1 a2
  go_wp2
  exact bodyPost_ret (v := .tuple #[.agg #[.slice xa na ca, .slice xb nb cb, .bool false, .bool false, .int .i64 1, .int .i64 tm, .int .i64 st], .int .i64 0, .int .i64 12]) (by simp [results, Try.results10, go_sem, z0, z1, z2, z3, z4, z5, z6]) rfl ⟨rfl, HB3.out⟩
set_option maxRecDepth 100000 in
set_option maxHeartbeats 2000000 in
theorem fall_down11 (xa xb : Option Addr) (na nb ca cb : Nat) (u0 : Bool) (tm st te ck cv ce cc cn c1 c2 c3 : Int) (w : World) :
    Calls Try.prog 10 #[.agg #[.slice xa na ca, .slice xb nb cb, .bool u0, .bool false, .int .i64 1, .int .i64 tm, .int .i64 st], .agg #[.int .i64 2, .int .i64 te, .int .i64 1, .int .i64 ck, .int .i64 cv, .int .i64 ce, .int .i64 cc, .int .i64 cn, .int .i64 c1, .int .i64 c2, .int .i64 c3]] w fun e w' => e = .returned (.tuple #[.agg #[.slice xa na ca, .slice xb nb cb, .bool u0, .bool false, .int .i64 1, .int .i64 tm, .int .i64 st], .int .i64 0, .int .i64 12]) ∧ Below w.heap.size w w' := by
  have hY := ((Blk.new w #[.slice xa na ca, .slice xb nb cb, .bool u0, .bool false, .int .i64 1, .int .i64 tm, .int .i64 st] 29).alloc (.cells #[.int .i64 2, .int .i64 te, .int .i64 1, .int .i64 ck, .int .i64 cv, .int .i64 ce, .int .i64 cc, .int .i64 cn, .int .i64 c1, .int .i64 c2, .int .i64 c3] 35)).alloc (.cells #[.slice none 0 0, .slice none 0 0, .bool false, .bool false, .int .i64 0, .int .i64 0, .int .i64 0] 29)
  have hA := (Blk.new (w.alloc (.cells #[.slice xa na ca, .slice xb nb cb, .bool u0, .bool false, .int .i64 1, .int .i64 tm, .int .i64 st] 29)) #[.int .i64 2, .int .i64 te, .int .i64 1, .int .i64 ck, .int .i64 cv, .int .i64 ce, .int .i64 cc, .int .i64 cn, .int .i64 c1, .int .i64 c2, .int .i64 c3] 35).alloc (.cells #[.slice none 0 0, .slice none 0 0, .bool false, .bool false, .int .i64 0, .int .i64 0, .int .i64 0] 29)
  have hR := Blk.new ((w.alloc (.cells #[.slice xa na ca, .slice xb nb cb, .bool u0, .bool false, .int .i64 1, .int .i64 tm, .int .i64 st] 29)).alloc (.cells #[.int .i64 2, .int .i64 te, .int .i64 1, .int .i64 ck, .int .i64 cv, .int .i64 ce, .int .i64 cc, .int .i64 cn, .int .i64 c1, .int .i64 c2, .int .i64 c3] 35)) #[.slice none 0 0, .slice none 0 0, .bool false, .bool false, .int .i64 0, .int .i64 0, .int .i64 0] 29
  have hB := (((Below.refl w.heap.size w).alloc (Nat.le_refl _) (.cells #[.slice xa na ca, .slice xb nb cb, .bool u0, .bool false, .int .i64 1, .int .i64 tm, .int .i64 st] 29)).alloc (by simp) (.cells #[.int .i64 2, .int .i64 te, .int .i64 1, .int .i64 ck, .int .i64 cv, .int .i64 ce, .int .i64 cc, .int .i64 cn, .int .i64 c1, .int .i64 c2, .int .i64 c3] 35)).alloc (by simp; omega) (.cells #[.slice none 0 0, .slice none 0 0, .bool false, .bool false, .int .i64 0, .int .i64 0, .int .i64 0] 29)
  obtain ⟨w0, hW⟩ : ∃ z, ((w.alloc (.cells #[.slice xa na ca, .slice xb nb cb, .bool u0, .bool false, .int .i64 1, .int .i64 tm, .int .i64 st] 29)).alloc (.cells #[.int .i64 2, .int .i64 te, .int .i64 1, .int .i64 ck, .int .i64 cv, .int .i64 ce, .int .i64 cc, .int .i64 cn, .int .i64 c1, .int .i64 c2, .int .i64 c3] 35)).alloc (.cells #[.slice none 0 0, .slice none 0 0, .bool false, .bool false, .int .i64 0, .int .i64 0, .int .i64 0] 29) = z := ⟨_, rfl⟩
  rw [hW] at hY hA hR hB
  obtain ⟨Y, hYe⟩ : ∃ z, w.heap.size = z := ⟨_, rfl⟩
  obtain ⟨X, hXe⟩ : ∃ z, (w.alloc (.cells #[.slice xa na ca, .slice xb nb cb, .bool u0, .bool false, .int .i64 1, .int .i64 tm, .int .i64 st] 29)).heap.size = z := ⟨_, rfl⟩
  obtain ⟨R, hRe⟩ : ∃ z, ((w.alloc (.cells #[.slice xa na ca, .slice xb nb cb, .bool u0, .bool false, .int .i64 1, .int .i64 tm, .int .i64 st] 29)).alloc (.cells #[.int .i64 2, .int .i64 te, .int .i64 1, .int .i64 ck, .int .i64 cv, .int .i64 ce, .int .i64 cc, .int .i64 cn, .int .i64 c1, .int .i64 c2, .int .i64 c3] 35)).heap.size = z := ⟨_, rfl⟩
  rw [hYe] at hY
  rw [hXe] at hA
  rw [hRe] at hR
  have hX1 : w.heap.size + 1 = X := by rw [← hXe]; simp
  have hR1 : w.heap.size + 1 + 1 = R := by rw [← hRe]; simp
  have HW := Lib.hid hW
  have HYe := Lib.hid hYe
  have HXe := Lib.hid hX1
  have HRe := Lib.hid hR1
  have HY := Lib.hid hY
  have HA := Lib.hid hA
  have HR := Lib.hid hR
  have HB := Lib.hid hB
  clear hW hYe hXe hRe hX1 hR1 hA hR hB
  have y4 := hY.cell 4 rfl
  clear hY
  go_enter Try.func10, Try.ntmps10
  go_upto_region 1 with fail
  rw [HW.out]
  try rw [HRe.out]
  try rw [HXe.out]
  try rw [HYe.out]
  go_region
  go_upto_region 2 with fail
  clear y4
  have HS := Lib.hid (fun (wx : World) (hb : Below w0.heap.size w0 wx) => show wx.cell? ⟨Y, 0, none⟩ = some (.slice xa na ca) ∧ wx.cell? ⟨Y, 1, none⟩ = some (.slice xb nb cb) ∧ wx.cell? ⟨Y, 2, none⟩ = some (.bool u0) ∧ wx.cell? ⟨Y, 3, none⟩ = some (.bool false) ∧ wx.cell? ⟨Y, 4, none⟩ = some (.int .i64 1) ∧ wx.cell? ⟨Y, 5, none⟩ = some (.int .i64 tm) ∧ wx.cell? ⟨Y, 6, none⟩ = some (.int .i64 st) from
    have h := HY.out.below hb HY.out.lt
    ⟨h.cell 0 rfl, h.cell 1 rfl, h.cell 2 rfl, h.cell 3 rfl, h.cell 4 rfl, h.cell 5 rfl, h.cell 6 rfl⟩)
  have S0 := HS.out w0.drew.drew (Below.refl w0.heap.size w0).drew.drew
  refine AnyE.start (S := (fun wx => wx.cell? ⟨Y, 0, none⟩ = some (.slice xa na ca) ∧ wx.cell? ⟨Y, 1, none⟩ = some (.slice xb nb cb) ∧ wx.cell? ⟨Y, 2, none⟩ = some (.bool u0) ∧ wx.cell? ⟨Y, 3, none⟩ = some (.bool false) ∧ wx.cell? ⟨Y, 4, none⟩ = some (.int .i64 1) ∧ wx.cell? ⟨Y, 5, none⟩ = some (.int .i64 tm) ∧ wx.cell? ⟨Y, 6, none⟩ = some (.int .i64 st))) 7 (by kernel_rfl) (S0) (fun hHeld => ?_)
  refine AnyE.take (i := 0) (v := ?_) rfl (by kernel_rfl) (by kernel_rfl) (by kernel_rfl) (by kernel_rfl) (fun _ _ _ h => h) (Or.inl ⟨by rfl, ?_⟩) (by assumption) ?_
  rotate_left 1
  · intro w hSw
    (try dsimp only at hSw)
    go_simp
    all_goals (with_reducible rfl)
  try simp only [Act.put, List.getElem_toArray, List.getElem_cons_zero, List.getElem_cons_succ, List.setIfInBounds_toArray, List.set_cons_zero, List.set_cons_succ]
  refine AnyE.take (i := 1) (v := ?_) rfl (by kernel_rfl) (by kernel_rfl) (by kernel_rfl) (by kernel_rfl) (fun _ _ _ h => h) (Or.inl ⟨by rfl, ?_⟩) (by assumption) ?_
  rotate_left 1
  · intro w hSw
    (try dsimp only at hSw)
    go_simp
    all_goals (with_reducible rfl)
  try simp only [Act.put, List.getElem_toArray, List.getElem_cons_zero, List.getElem_cons_succ, List.setIfInBounds_toArray, List.set_cons_zero, List.set_cons_succ]
  refine AnyE.take (i := 3) (v := ?_) rfl (by kernel_rfl) (by kernel_rfl) (by kernel_rfl) (by kernel_rfl) (fun _ _ _ h => h) (Or.inl ⟨by rfl, ?_⟩) (by assumption) ?_
  rotate_left 1
  · intro w hSw
    (try dsimp only at hSw)
    go_simp
    all_goals (with_reducible rfl)
  try simp only [Act.put, List.getElem_toArray, List.getElem_cons_zero, List.getElem_cons_succ, List.setIfInBounds_toArray, List.set_cons_zero, List.set_cons_succ]
  refine AnyE.take (i := 4) (v := ?_) rfl (by kernel_rfl) (by kernel_rfl) (by kernel_rfl) (by kernel_rfl) (fun _ _ _ h => h) (Or.inl ⟨by rfl, ?_⟩) (by assumption) ?_
  rotate_left 1
  · intro w hSw
    (try dsimp only at hSw)
    go_simp
    all_goals (with_reducible rfl)
  try simp only [Act.put, List.getElem_toArray, List.getElem_cons_zero, List.getElem_cons_succ, List.setIfInBounds_toArray, List.set_cons_zero, List.set_cons_succ]
  refine AnyE.next (rs := [2]) (by kernel_rfl) (by simp) ?_
  refine AllE.cons rfl (fun K hK => ?_) AllE.nil
  go_simp
  refine (rlog20 xa xb na nb ca cb u0 false 1 tm st 1 _).mono ?_
  rintro e w1 ⟨rfl, hb1⟩
  refine hK.out _ _ (HS.out _ ((Below.refl w0.heap.size w0).drew.drew.trans (hb1.mono (Nat.le_refl _)))) (fun hHeld => ?_)
  clear hK K
  try simp only [Act.put, List.getElem_toArray, List.getElem_cons_zero, List.getElem_cons_succ, List.setIfInBounds_toArray, List.set_cons_zero, List.set_cons_succ]
  refine AnyE.next (rs := [5]) (by kernel_rfl) (by simp) ?_
  refine AllE.cons rfl (fun K hK => ?_) AllE.nil
  go_simp
  refine (rlog20 xa xb na nb ca cb u0 false 1 tm st 0 _).mono ?_
  rintro e w2 ⟨rfl, hb2⟩
  refine hK.out _ _ (HS.out _ (((Below.refl w0.heap.size w0).drew.drew.trans (hb1.mono (Nat.le_refl _))).trans (hb2.mono hb1.size))) (fun hHeld => ?_)
  clear hK K
  try simp only [Act.put, List.getElem_toArray, List.getElem_cons_zero, List.getElem_cons_succ, List.setIfInBounds_toArray, List.set_cons_zero, List.set_cons_succ]
  refine AnyE.next (rs := [6]) (by kernel_rfl) (by simp) ?_
  refine AllE.cons rfl (fun K hK => ?_) AllE.nil
  go_simp
  refine hK.out _ _ (HS.out _ (((Below.refl w0.heap.size w0).drew.drew.trans (hb1.mono (Nat.le_refl _))).trans (hb2.mono hb1.size))) (fun hHeld => ?_)
  clear hK K
  try simp only [Act.put, List.getElem_toArray, List.getElem_cons_zero, List.getElem_cons_succ, List.setIfInBounds_toArray, List.set_cons_zero, List.set_cons_succ]
  refine AnyE.next (rs := [7]) (by kernel_rfl) (by simp) ?_
  refine AllE.last rfl (fun K hK => ?_)
  go_simp
  refine hK.out _ _ ?_
  clear hK K
  try simp only [Act.put, List.getElem_toArray, List.getElem_cons_zero, List.getElem_cons_succ, List.setIfInBounds_toArray, List.set_cons_zero, List.set_cons_succ]
  refine AnyE.done (by kernel_rfl) ?_ _
  have hb20 := ((Below.refl w0.heap.size w0).drew.drew.trans (hb1.mono (Nat.le_refl _))).trans (hb2.mono hb1.size)
  have HY2 := Lib.hid (HY.out.below hb20 HY.out.lt)
  have HA2 := Lib.hid (HA.out.below hb20 HA.out.lt)
  have HR2 := Lib.hid (HR.out.below hb20 HR.out.lt)
  have HB2 := Lib.hid (HB.out.trans (hb20.mono HB.out.size))
  clear hb1 hb2 hb20 S0
  clear hHeld
  have y0 := HY2.out.cell 0 rfl
  have y1 := HY2.out.cell 1 rfl
  have y2 := HY2.out.cell 2 rfl
  have y3 := HY2.out.cell 3 rfl
  have y4 := HY2.out.cell 4 rfl
  have y5 := HY2.out.cell 5 rfl
  have y6 := HY2.out.cell 6 rfl
  have a0 := HA2.out.cell 0 rfl
  have a1 := HA2.out.cell 1 rfl
  have a2 := HA2.out.cell 2 rfl
  go_wp2_with (refine wpList_store7 rfl 29 Try.sizePr20 _ _ rfl R 29 HR2.out rfl rfl ?_)
  intro w3 hr3 hk3
  have HB3 := Lib.hid (HB2.out.trans (hk3.below HB2.out.size (fun q hq e => by have h1 := HRe.out; omega)))
  have z0 := hr3.cell 0 rfl
  have z1 := hr3.cell 1 rfl
  have z2 := hr3.cell 2 rfl
  have z3 := hr3.cell 3 rfl
  have z4 := hr3.cell 4 rfl
  have z5 := hr3.cell 5 rfl
  have z6 := hr3.cell 6 rfl
  clear hr3 hk3 y0 y1 y2 y3 y4 y5 y6 a0 a1 a2
  go_wp2
  exact bodyPost_ret (v := .tuple #[.agg #[.slice xa na ca, .slice xb nb cb, .bool u0, .bool false, .int .i64 1, .int .i64 tm, .int .i64 st], .int .i64 0, .int .i64 12]) (by simp [results, Try.results10, go_sem, z0, z1, z2, z3, z4, z5, z6]) rfl ⟨rfl, HB3.out⟩
set_option maxRecDepth 100000 in
set_option maxHeartbeats 2000000 in
theorem rise_busy11 (xa xb : Option Addr) (na nb ca cb : Nat) (u0 : Bool) (tm st te ck cv ce cc cn c1 c2 c3 : Int) (w : World) :
    Calls Try.prog 10 #[.agg #[.slice xa na ca, .slice xb nb cb, .bool u0, .bool true, .int .i64 1, .int .i64 tm, .int .i64 st], .agg #[.int .i64 3, .int .i64 te, .int .i64 1, .int .i64 ck, .int .i64 cv, .int .i64 ce, .int .i64 cc, .int .i64 cn, .int .i64 c1, .int .i64 c2, .int .i64 c3]] w fun e w' => e = .returned (.tuple #[.agg #[.slice xa na ca, .slice xb nb cb, .bool u0, .bool true, .int .i64 1, .int .i64 tm, .int .i64 st], .int .i64 0, .int .i64 14]) ∧ Below w.heap.size w w' := by
  have hY := ((Blk.new w #[.slice xa na ca, .slice xb nb cb, .bool u0, .bool true, .int .i64 1, .int .i64 tm, .int .i64 st] 29).alloc (.cells #[.int .i64 3, .int .i64 te, .int .i64 1, .int .i64 ck, .int .i64 cv, .int .i64 ce, .int .i64 cc, .int .i64 cn, .int .i64 c1, .int .i64 c2, .int .i64 c3] 35)).alloc (.cells #[.slice none 0 0, .slice none 0 0, .bool false, .bool false, .int .i64 0, .int .i64 0, .int .i64 0] 29)
  have hA := (Blk.new (w.alloc (.cells #[.slice xa na ca, .slice xb nb cb, .bool u0, .bool true, .int .i64 1, .int .i64 tm, .int .i64 st] 29)) #[.int .i64 3, .int .i64 te, .int .i64 1, .int .i64 ck, .int .i64 cv, .int .i64 ce, .int .i64 cc, .int .i64 cn, .int .i64 c1, .int .i64 c2, .int .i64 c3] 35).alloc (.cells #[.slice none 0 0, .slice none 0 0, .bool false, .bool false, .int .i64 0, .int .i64 0, .int .i64 0] 29)
  have hR := Blk.new ((w.alloc (.cells #[.slice xa na ca, .slice xb nb cb, .bool u0, .bool true, .int .i64 1, .int .i64 tm, .int .i64 st] 29)).alloc (.cells #[.int .i64 3, .int .i64 te, .int .i64 1, .int .i64 ck, .int .i64 cv, .int .i64 ce, .int .i64 cc, .int .i64 cn, .int .i64 c1, .int .i64 c2, .int .i64 c3] 35)) #[.slice none 0 0, .slice none 0 0, .bool false, .bool false, .int .i64 0, .int .i64 0, .int .i64 0] 29
  have hB := (((Below.refl w.heap.size w).alloc (Nat.le_refl _) (.cells #[.slice xa na ca, .slice xb nb cb, .bool u0, .bool true, .int .i64 1, .int .i64 tm, .int .i64 st] 29)).alloc (by simp) (.cells #[.int .i64 3, .int .i64 te, .int .i64 1, .int .i64 ck, .int .i64 cv, .int .i64 ce, .int .i64 cc, .int .i64 cn, .int .i64 c1, .int .i64 c2, .int .i64 c3] 35)).alloc (by simp; omega) (.cells #[.slice none 0 0, .slice none 0 0, .bool false, .bool false, .int .i64 0, .int .i64 0, .int .i64 0] 29)
  obtain ⟨w0, hW⟩ : ∃ z, ((w.alloc (.cells #[.slice xa na ca, .slice xb nb cb, .bool u0, .bool true, .int .i64 1, .int .i64 tm, .int .i64 st] 29)).alloc (.cells #[.int .i64 3, .int .i64 te, .int .i64 1, .int .i64 ck, .int .i64 cv, .int .i64 ce, .int .i64 cc, .int .i64 cn, .int .i64 c1, .int .i64 c2, .int .i64 c3] 35)).alloc (.cells #[.slice none 0 0, .slice none 0 0, .bool false, .bool false, .int .i64 0, .int .i64 0, .int .i64 0] 29) = z := ⟨_, rfl⟩
  rw [hW] at hY hA hR hB
  obtain ⟨Y, hYe⟩ : ∃ z, w.heap.size = z := ⟨_, rfl⟩
  obtain ⟨X, hXe⟩ : ∃ z, (w.alloc (.cells #[.slice xa na ca, .slice xb nb cb, .bool u0, .bool true, .int .i64 1, .int .i64 tm, .int .i64 st] 29)).heap.size = z := ⟨_, rfl⟩
  obtain ⟨R, hRe⟩ : ∃ z, ((w.alloc (.cells #[.slice xa na ca, .slice xb nb cb, .bool u0, .bool true, .int .i64 1, .int .i64 tm, .int .i64 st] 29)).alloc (.cells #[.int .i64 3, .int .i64 te, .int .i64 1, .int .i64 ck, .int .i64 cv, .int .i64 ce, .int .i64 cc, .int .i64 cn, .int .i64 c1, .int .i64 c2, .int .i64 c3] 35)).heap.size = z := ⟨_, rfl⟩
  rw [hYe] at hY
  rw [hXe] at hA
  rw [hRe] at hR
  have hX1 : w.heap.size + 1 = X := by rw [← hXe]; simp
  have hR1 : w.heap.size + 1 + 1 = R := by rw [← hRe]; simp
  have HW := Lib.hid hW
  have HYe := Lib.hid hYe
  have HXe := Lib.hid hX1
  have HRe := Lib.hid hR1
  have HY := Lib.hid hY
  have HA := Lib.hid hA
  have HR := Lib.hid hR
  have HB := Lib.hid hB
  clear hW hYe hXe hRe hX1 hR1 hA hR hB
  have y4 := hY.cell 4 rfl
  clear hY
  go_enter Try.func10, Try.ntmps10
  go_upto_region 1 with fail
  rw [HW.out]
  try rw [HRe.out]
  try rw [HXe.out]
  try rw [HYe.out]
  go_region
  go_upto_region 2 with fail
  clear y4
  have HS := Lib.hid (fun (wx : World) (hb : Below w0.heap.size w0 wx) => show wx.cell? ⟨Y, 0, none⟩ = some (.slice xa na ca) ∧ wx.cell? ⟨Y, 1, none⟩ = some (.slice xb nb cb) ∧ wx.cell? ⟨Y, 2, none⟩ = some (.bool u0) ∧ wx.cell? ⟨Y, 3, none⟩ = some (.bool true) ∧ wx.cell? ⟨Y, 4, none⟩ = some (.int .i64 1) ∧ wx.cell? ⟨Y, 5, none⟩ = some (.int .i64 tm) ∧ wx.cell? ⟨Y, 6, none⟩ = some (.int .i64 st) from
    have h := HY.out.below hb HY.out.lt
    ⟨h.cell 0 rfl, h.cell 1 rfl, h.cell 2 rfl, h.cell 3 rfl, h.cell 4 rfl, h.cell 5 rfl, h.cell 6 rfl⟩)
  have S0 := HS.out w0.drew.drew (Below.refl w0.heap.size w0).drew.drew
  refine AnyE.start (S := (fun wx => wx.cell? ⟨Y, 0, none⟩ = some (.slice xa na ca) ∧ wx.cell? ⟨Y, 1, none⟩ = some (.slice xb nb cb) ∧ wx.cell? ⟨Y, 2, none⟩ = some (.bool u0) ∧ wx.cell? ⟨Y, 3, none⟩ = some (.bool true) ∧ wx.cell? ⟨Y, 4, none⟩ = some (.int .i64 1) ∧ wx.cell? ⟨Y, 5, none⟩ = some (.int .i64 tm) ∧ wx.cell? ⟨Y, 6, none⟩ = some (.int .i64 st))) 7 (by kernel_rfl) (S0) (fun hHeld => ?_)
  refine AnyE.take (i := 0) (v := ?_) rfl (by kernel_rfl) (by kernel_rfl) (by kernel_rfl) (by kernel_rfl) (fun _ _ _ h => h) (Or.inl ⟨by rfl, ?_⟩) (by assumption) ?_
  rotate_left 1
  · intro w hSw
    (try dsimp only at hSw)
    go_simp
    all_goals (with_reducible rfl)
  try simp only [Act.put, List.getElem_toArray, List.getElem_cons_zero, List.getElem_cons_succ, List.setIfInBounds_toArray, List.set_cons_zero, List.set_cons_succ]
  refine AnyE.take (i := 1) (v := ?_) rfl (by kernel_rfl) (by kernel_rfl) (by kernel_rfl) (by kernel_rfl) (fun _ _ _ h => h) (Or.inl ⟨by rfl, ?_⟩) (by assumption) ?_
  rotate_left 1
  · intro w hSw
    (try dsimp only at hSw)
    go_simp
    all_goals (with_reducible rfl)
  try simp only [Act.put, List.getElem_toArray, List.getElem_cons_zero, List.getElem_cons_succ, List.setIfInBounds_toArray, List.set_cons_zero, List.set_cons_succ]
  refine AnyE.take (i := 3) (v := ?_) rfl (by kernel_rfl) (by kernel_rfl) (by kernel_rfl) (by kernel_rfl) (fun _ _ _ h => h) (Or.inl ⟨by rfl, ?_⟩) (by assumption) ?_
  rotate_left 1
  · intro w hSw
    (try dsimp only at hSw)
    go_simp
    all_goals (with_reducible rfl)
  try simp only [Act.put, List.getElem_toArray, List.getElem_cons_zero, List.getElem_cons_succ, List.setIfInBounds_toArray, List.set_cons_zero, List.set_cons_succ]
  refine AnyE.take (i := 4) (v := ?_) rfl (by kernel_rfl) (by kernel_rfl) (by kernel_rfl) (by kernel_rfl) (fun _ _ _ h => h) (Or.inl ⟨by rfl, ?_⟩) (by assumption) ?_
  rotate_left 1
  · intro w hSw
    (try dsimp only at hSw)
    go_simp
    all_goals (with_reducible rfl)
  try simp only [Act.put, List.getElem_toArray, List.getElem_cons_zero, List.getElem_cons_succ, List.setIfInBounds_toArray, List.set_cons_zero, List.set_cons_succ]
  refine AnyE.next (rs := [2]) (by kernel_rfl) (by simp) ?_
  refine AllE.cons rfl (fun K hK => ?_) AllE.nil
  go_simp
  refine (rlog20 xa xb na nb ca cb u0 true 1 tm st 1 _).mono ?_
  rintro e w1 ⟨rfl, hb1⟩
  refine hK.out _ _ (HS.out _ ((Below.refl w0.heap.size w0).drew.drew.trans (hb1.mono (Nat.le_refl _)))) (fun hHeld => ?_)
  clear hK K
  try simp only [Act.put, List.getElem_toArray, List.getElem_cons_zero, List.getElem_cons_succ, List.setIfInBounds_toArray, List.set_cons_zero, List.set_cons_succ]
  refine AnyE.next (rs := [5]) (by kernel_rfl) (by simp) ?_
  refine AllE.cons rfl (fun K hK => ?_) AllE.nil
  go_simp
  refine (rlog20 xa xb na nb ca cb u0 true 1 tm st 0 _).mono ?_
  rintro e w2 ⟨rfl, hb2⟩
  refine hK.out _ _ (HS.out _ (((Below.refl w0.heap.size w0).drew.drew.trans (hb1.mono (Nat.le_refl _))).trans (hb2.mono hb1.size))) (fun hHeld => ?_)
  clear hK K
  try simp only [Act.put, List.getElem_toArray, List.getElem_cons_zero, List.getElem_cons_succ, List.setIfInBounds_toArray, List.set_cons_zero, List.set_cons_succ]
  refine AnyE.next (rs := [6]) (by kernel_rfl) (by simp) ?_
  refine AllE.cons rfl (fun K hK => ?_) AllE.nil
  go_simp
  refine hK.out _ _ (HS.out _ (((Below.refl w0.heap.size w0).drew.drew.trans (hb1.mono (Nat.le_refl _))).trans (hb2.mono hb1.size))) (fun hHeld => ?_)
  clear hK K
  try simp only [Act.put, List.getElem_toArray, List.getElem_cons_zero, List.getElem_cons_succ, List.setIfInBounds_toArray, List.set_cons_zero, List.set_cons_succ]
  refine AnyE.next (rs := [7]) (by kernel_rfl) (by simp) ?_
  refine AllE.last rfl (fun K hK => ?_)
  go_simp
  refine hK.out _ _ ?_
  clear hK K
  try simp only [Act.put, List.getElem_toArray, List.getElem_cons_zero, List.getElem_cons_succ, List.setIfInBounds_toArray, List.set_cons_zero, List.set_cons_succ]
  refine AnyE.done (by kernel_rfl) ?_ _
  have hb20 := ((Below.refl w0.heap.size w0).drew.drew.trans (hb1.mono (Nat.le_refl _))).trans (hb2.mono hb1.size)
  have HY2 := Lib.hid (HY.out.below hb20 HY.out.lt)
  have HA2 := Lib.hid (HA.out.below hb20 HA.out.lt)
  have HR2 := Lib.hid (HR.out.below hb20 HR.out.lt)
  have HB2 := Lib.hid (HB.out.trans (hb20.mono HB.out.size))
  clear hb1 hb2 hb20 S0
  clear hHeld
  have y0 := HY2.out.cell 0 rfl
  have y1 := HY2.out.cell 1 rfl
  have y2 := HY2.out.cell 2 rfl
  have y3 := HY2.out.cell 3 rfl
  have y4 := HY2.out.cell 4 rfl
  have y5 := HY2.out.cell 5 rfl
  have y6 := HY2.out.cell 6 rfl
  have a0 := HA2.out.cell 0 rfl
  have a1 := HA2.out.cell 1 rfl
  have a2 := HA2.out.cell 2 rfl
  go_wp2_with (refine wpList_store7 rfl 29 Try.sizePr20 _ _ rfl R 29 HR2.out rfl rfl ?_)
  intro w3 hr3 hk3
  have HB3 := Lib.hid (HB2.out.trans (hk3.below HB2.out.size (fun q hq e => by have h1 := HRe.out; omega)))
  have z0 := hr3.cell 0 rfl
  have z1 := hr3.cell 1 rfl
  have z2 := hr3.cell 2 rfl
  have z3 := hr3.cell 3 rfl
  have z4 := hr3.cell 4 rfl
  have z5 := hr3.cell 5 rfl
  have z6 := hr3.cell 6 rfl
  clear hr3 hk3 y0 y1 y2 y3 y4 y5 y6 a0 a1 a2
  go_wp2
  exact bodyPost_ret (v := .tuple #[.agg #[.slice xa na ca, .slice xb nb cb, .bool u0, .bool true, .int .i64 1, .int .i64 tm, .int .i64 st], .int .i64 0, .int .i64 14]) (by simp [results, Try.results10, go_sem, z0, z1, z2, z3, z4, z5, z6]) rfl ⟨rfl, HB3.out⟩
end Go.Proofs.Ytlaighghagcjjaa
