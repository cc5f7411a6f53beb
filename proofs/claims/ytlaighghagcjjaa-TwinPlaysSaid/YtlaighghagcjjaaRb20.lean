/- The document's own pair (layer 20): Do, a Ship; a Rise beside one that is up. -/
import Derived.Test.YtlaighghagcjjaaRa20
namespace Go.Proofs.Ytlaighghagcjjaa
open Go.RowKit Go.Cor
set_option linter.unusedVariables false
set_option linter.unusedSimpArgs false

theorem Try.sizeCmdR20 : (Try.prog.info? 33).map (·.size) = some 8 := by kernel_rfl
theorem rlog20_0 (xa xb : Option Addr) (na nb ca cb : Nat) (u0 u1 : Bool) (ld tm st : Int) (w : World) :
    Calls Try.prog 27 #[.agg #[.slice xa na ca, .slice xb nb cb, .bool u0, .bool u1, .int .i64 ld, .int .i64 tm, .int .i64 st], .int .i64 0] w fun e w' => e = .returned (.slice xa na ca) ∧ Below w.heap.size w w' := by
  have h := rlog20 xa xb na nb ca cb u0 u1 ld tm st 0 w
  simp only [if_true] at h
  exact h
theorem rlog20_1 (xa xb : Option Addr) (na nb ca cb : Nat) (u0 u1 : Bool) (ld tm st : Int) (w : World) :
    Calls Try.prog 27 #[.agg #[.slice xa na ca, .slice xb nb cb, .bool u0, .bool u1, .int .i64 ld, .int .i64 tm, .int .i64 st], .int .i64 1] w fun e w' => e = .returned (.slice xb nb cb) ∧ Below w.heap.size w w' := by
  have h := rlog20 xa xb na nb ca cb u0 u1 ld tm st 1 w
  simp only [show ((1 : Int) = 0) = False from by decide, if_false] at h
  exact h
set_option maxRecDepth 100000 in
set_option maxHeartbeats 8000000 in
theorem ship_ok0 (xa xb : Option Addr) (na nb ca cb : Nat) (L M : List Cm) (tm st sd ck cv ce cc cn c1 c2 c3 dk dv de dc dn d1 d2 d3 : Int) (w : World) (hv : IsX w 8 (.slice xb nb cb) nb (row ccl L)) (hm : IsX w 8 (.slice xa na ca) na (row ccl M)) (hn : nb ≤ 1000) (hlt : nb < na) (hc : M[nb]? = some ⟨dk, dv, de, dc, dn, d1, d2, d3⟩) :
    Calls Try.prog 10 #[.agg #[.slice xa na ca, .slice xb nb cb, .bool true, .bool true, .int .i64 0, .int .i64 tm, .int .i64 st], .agg #[.int .i64 1, .int .i64 tm, .int .i64 sd, .int .i64 ck, .int .i64 cv, .int .i64 ce, .int .i64 cc, .int .i64 cn, .int .i64 c1, .int .i64 c2, .int .i64 c3]] w fun e w' => ∃ x k, e = .returned (.tuple #[.agg #[.slice xa na ca, .slice x (nb + 1) k, .bool true, .bool true, .int .i64 0, .int .i64 tm, .int .i64 (if st < (nb : Int) + 1 then (nb : Int) + 1 else st)], .int .i64 0, .int .i64 0]) ∧ IsX w' 8 (.slice x (nb + 1) k) (nb + 1) (row ccl (L ++ [⟨dk, dv, de, dc, dn, d1, d2, d3⟩])) ∧ (∀ q, (Value.slice x (nb + 1) k).ownBlock = some q → w.heap.size ≤ q) ∧ Below w.heap.size w w' := by
  obtain ⟨i0, hi0, hz0, hz1, hz2⟩ := info_parts Try.infoCmdR19
  have HI0 := Lib.hid hi0
  have HZ0 := Lib.hid hz0
  have HZ1 := Lib.hid hz1
  have HZ2 := Lib.hid hz2
  obtain ⟨b1, o1, hidx, _, hcell⟩ := indexAt_X (P := Try.prog) hm 26 33 Try.underlying26 Try.sizeCmdR20 nb hlt
  have hce := fun q (hq : q < 8) => (hcell q hq).trans (row_get ccl_len hc q hq)
  have HCE := Lib.hid (fun (wx : World) (hb : Below w.heap.size w wx) (q : Nat) (u : Value) (h : w.cell? ⟨b1, o1 + q, none⟩ = some u) => (show wx.cell? ⟨b1, o1 + q, none⟩ = some u from (hb.cell (cell_lt h)).trans h))
  have HC8 := Lib.hid (show w.cell? ⟨b1, o1 + 0, none⟩ = some (.int .i64 dk) ∧ w.cell? ⟨b1, o1 + 1, none⟩ = some (.int .i64 dv) ∧ w.cell? ⟨b1, o1 + 2, none⟩ = some (.int .i64 de) ∧ w.cell? ⟨b1, o1 + 3, none⟩ = some (.int .i64 dc) ∧ w.cell? ⟨b1, o1 + 4, none⟩ = some (.int .i64 dn) ∧ w.cell? ⟨b1, o1 + 5, none⟩ = some (.int .i64 d1) ∧ w.cell? ⟨b1, o1 + 6, none⟩ = some (.int .i64 d2) ∧ w.cell? ⟨b1, o1 + 7, none⟩ = some (.int .i64 d3) from ⟨hce 0 (by decide), hce 1 (by decide), hce 2 (by decide), hce 3 (by decide), hce 4 (by decide), hce 5 (by decide), hce 6 (by decide), hce 7 (by decide)⟩)
  have hnl : ((nb : Int) == (na : Int)) = false := by rw [beq_eq_false_iff_ne]; omega
  have hww : wrap64 ((nb : Int) + 1) = (nb : Int) + 1 := IntWalk.wrap64_in _ (by omega)
  have HV := Lib.hid hv
  have HNB := Lib.hid hn
  clear hv hm hn hlt hc hcell hce hi0 hz0 hz1 hz2
  obtain ⟨ST, hST⟩ : ∃ z, (if st < (nb : Int) + 1 then (nb : Int) + 1 else st) = z := ⟨_, rfl⟩
  rw [hST]
  have HST := Lib.hid hST
  clear hST
  have hY := ((Blk.new w #[.slice xa na ca, .slice xb nb cb, .bool true, .bool true, .int .i64 0, .int .i64 tm, .int .i64 st] 29).alloc (.cells #[.int .i64 1, .int .i64 tm, .int .i64 sd, .int .i64 ck, .int .i64 cv, .int .i64 ce, .int .i64 cc, .int .i64 cn, .int .i64 c1, .int .i64 c2, .int .i64 c3] 35)).alloc (.cells #[.slice none 0 0, .slice none 0 0, .bool false, .bool false, .int .i64 0, .int .i64 0, .int .i64 0] 29)
  have hA := (Blk.new (w.alloc (.cells #[.slice xa na ca, .slice xb nb cb, .bool true, .bool true, .int .i64 0, .int .i64 tm, .int .i64 st] 29)) #[.int .i64 1, .int .i64 tm, .int .i64 sd, .int .i64 ck, .int .i64 cv, .int .i64 ce, .int .i64 cc, .int .i64 cn, .int .i64 c1, .int .i64 c2, .int .i64 c3] 35).alloc (.cells #[.slice none 0 0, .slice none 0 0, .bool false, .bool false, .int .i64 0, .int .i64 0, .int .i64 0] 29)
  have hR := Blk.new ((w.alloc (.cells #[.slice xa na ca, .slice xb nb cb, .bool true, .bool true, .int .i64 0, .int .i64 tm, .int .i64 st] 29)).alloc (.cells #[.int .i64 1, .int .i64 tm, .int .i64 sd, .int .i64 ck, .int .i64 cv, .int .i64 ce, .int .i64 cc, .int .i64 cn, .int .i64 c1, .int .i64 c2, .int .i64 c3] 35)) #[.slice none 0 0, .slice none 0 0, .bool false, .bool false, .int .i64 0, .int .i64 0, .int .i64 0] 29
  have hB := (((Below.refl w.heap.size w).alloc (Nat.le_refl _) (.cells #[.slice xa na ca, .slice xb nb cb, .bool true, .bool true, .int .i64 0, .int .i64 tm, .int .i64 st] 29)).alloc (by simp) (.cells #[.int .i64 1, .int .i64 tm, .int .i64 sd, .int .i64 ck, .int .i64 cv, .int .i64 ce, .int .i64 cc, .int .i64 cn, .int .i64 c1, .int .i64 c2, .int .i64 c3] 35)).alloc (by simp; omega) (.cells #[.slice none 0 0, .slice none 0 0, .bool false, .bool false, .int .i64 0, .int .i64 0, .int .i64 0] 29)
  obtain ⟨w0, hW⟩ : ∃ z, ((w.alloc (.cells #[.slice xa na ca, .slice xb nb cb, .bool true, .bool true, .int .i64 0, .int .i64 tm, .int .i64 st] 29)).alloc (.cells #[.int .i64 1, .int .i64 tm, .int .i64 sd, .int .i64 ck, .int .i64 cv, .int .i64 ce, .int .i64 cc, .int .i64 cn, .int .i64 c1, .int .i64 c2, .int .i64 c3] 35)).alloc (.cells #[.slice none 0 0, .slice none 0 0, .bool false, .bool false, .int .i64 0, .int .i64 0, .int .i64 0] 29) = z := ⟨_, rfl⟩
  rw [hW] at hY hA hR hB
  obtain ⟨Y, hYe⟩ : ∃ z, w.heap.size = z := ⟨_, rfl⟩
  obtain ⟨X, hXe⟩ : ∃ z, (w.alloc (.cells #[.slice xa na ca, .slice xb nb cb, .bool true, .bool true, .int .i64 0, .int .i64 tm, .int .i64 st] 29)).heap.size = z := ⟨_, rfl⟩
  obtain ⟨R, hRe⟩ : ∃ z, ((w.alloc (.cells #[.slice xa na ca, .slice xb nb cb, .bool true, .bool true, .int .i64 0, .int .i64 tm, .int .i64 st] 29)).alloc (.cells #[.int .i64 1, .int .i64 tm, .int .i64 sd, .int .i64 ck, .int .i64 cv, .int .i64 ce, .int .i64 cc, .int .i64 cn, .int .i64 c1, .int .i64 c2, .int .i64 c3] 35)).heap.size = z := ⟨_, rfl⟩
  rw [hYe] at hY
  rw [hXe] at hA
  rw [hRe] at hR
  have hX1 : w.heap.size + 1 = X := by rw [← hXe]; simp
  have hR1 : w.heap.size + 1 + 1 = R := by rw [← hRe]; simp
  have HW := Lib.hid hW
  have HYe := Lib.hid hYe
  have HXe := Lib.hid hX1
  have HRe := Lib.hid hR1
  have HY := Lib.hid hY
  have HA := Lib.hid hA
  have HR := Lib.hid hR
  have HB := Lib.hid hB
  clear hW hYe hXe hRe hX1 hR1 hA hR hB
  have y4 := hY.cell 4 rfl
  clear hY
  go_enter Try.func10, Try.ntmps10
  go_upto_region 1 with fail
  rw [HW.out]
  try rw [HRe.out]
  try rw [HXe.out]
  try rw [HYe.out]
  go_region
  go_upto_region 2 with fail
  clear y4
  have HS := Lib.hid (fun (wx : World) (hb : Below w0.heap.size w0 wx) => show wx.cell? ⟨Y, 0, none⟩ = some (.slice xa na ca) ∧ wx.cell? ⟨Y, 1, none⟩ = some (.slice xb nb cb) ∧ wx.cell? ⟨Y, 2, none⟩ = some (.bool true) ∧ wx.cell? ⟨Y, 3, none⟩ = some (.bool true) ∧ wx.cell? ⟨Y, 4, none⟩ = some (.int .i64 0) ∧ wx.cell? ⟨Y, 5, none⟩ = some (.int .i64 tm) ∧ wx.cell? ⟨Y, 6, none⟩ = some (.int .i64 st) from
    have h := HY.out.below hb HY.out.lt
    ⟨h.cell 0 rfl, h.cell 1 rfl, h.cell 2 rfl, h.cell 3 rfl, h.cell 4 rfl, h.cell 5 rfl, h.cell 6 rfl⟩)
  have S0 := HS.out w0.drew.drew (Below.refl w0.heap.size w0).drew.drew
  refine AnyE.start (S := (fun wx => wx.cell? ⟨Y, 0, none⟩ = some (.slice xa na ca) ∧ wx.cell? ⟨Y, 1, none⟩ = some (.slice xb nb cb) ∧ wx.cell? ⟨Y, 2, none⟩ = some (.bool true) ∧ wx.cell? ⟨Y, 3, none⟩ = some (.bool true) ∧ wx.cell? ⟨Y, 4, none⟩ = some (.int .i64 0) ∧ wx.cell? ⟨Y, 5, none⟩ = some (.int .i64 tm) ∧ wx.cell? ⟨Y, 6, none⟩ = some (.int .i64 st))) 7 (by kernel_rfl) (S0) (fun hHeld => ?_)
  refine AnyE.take (i := 0) (v := ?_) rfl (by kernel_rfl) (by kernel_rfl) (by kernel_rfl) (by kernel_rfl) (fun _ _ _ h => h) (Or.inl ⟨by rfl, ?_⟩) (by assumption) ?_
  rotate_left 1
  · intro w hSw
    (try dsimp only at hSw)
    go_simp
    all_goals (with_reducible rfl)
  try simp only [Act.put, List.getElem_toArray, List.getElem_cons_zero, List.getElem_cons_succ, List.setIfInBounds_toArray, List.set_cons_zero, List.set_cons_succ]
  refine AnyE.take (i := 1) (v := ?_) rfl (by kernel_rfl) (by kernel_rfl) (by kernel_rfl) (by kernel_rfl) (fun _ _ _ h => h) (Or.inl ⟨by rfl, ?_⟩) (by assumption) ?_
  rotate_left 1
  · intro w hSw
    (try dsimp only at hSw)
    go_simp
    all_goals (with_reducible rfl)
  try simp only [Act.put, List.getElem_toArray, List.getElem_cons_zero, List.getElem_cons_succ, List.setIfInBounds_toArray, List.set_cons_zero, List.set_cons_succ]
  refine AnyE.take (i := 3) (v := ?_) rfl (by kernel_rfl) (by kernel_rfl) (by kernel_rfl) (by kernel_rfl) (fun _ _ _ h => h) (Or.inl ⟨by rfl, ?_⟩) (by assumption) ?_
  rotate_left 1
  · intro w hSw
    (try dsimp only at hSw)
    go_simp
    all_goals (with_reducible rfl)
  try simp only [Act.put, List.getElem_toArray, List.getElem_cons_zero, List.getElem_cons_succ, List.setIfInBounds_toArray, List.set_cons_zero, List.set_cons_succ]
  refine AnyE.take (i := 4) (v := ?_) rfl (by kernel_rfl) (by kernel_rfl) (by kernel_rfl) (by kernel_rfl) (fun _ _ _ h => h) (Or.inl ⟨by rfl, ?_⟩) (by assumption) ?_
  rotate_left 1
  · intro w hSw
    (try dsimp only at hSw)
    go_simp
    all_goals (with_reducible rfl)
  try simp only [Act.put, List.getElem_toArray, List.getElem_cons_zero, List.getElem_cons_succ, List.setIfInBounds_toArray, List.set_cons_zero, List.set_cons_succ]
  refine AnyE.next (rs := [2]) (by kernel_rfl) (by simp) ?_
  refine AllE.cons rfl (fun K hK => ?_) AllE.nil
  go_simp
  refine (rlog20 xa xb na nb ca cb true true 0 tm st 0 _).mono ?_
  rintro e w1 ⟨rfl, hb1⟩
  refine hK.out _ _ (HS.out _ ((Below.refl w0.heap.size w0).drew.drew.trans (hb1.mono (Nat.le_refl _)))) (fun hHeld => ?_)
  clear hK K
  try simp only [Act.put, List.getElem_toArray, List.getElem_cons_zero, List.getElem_cons_succ, List.setIfInBounds_toArray, List.set_cons_zero, List.set_cons_succ]
  refine AnyE.next (rs := [5]) (by kernel_rfl) (by simp) ?_
  refine AllE.cons rfl (fun K hK => ?_) AllE.nil
  go_simp
  refine (rlog20 xa xb na nb ca cb true true 0 tm st 1 _).mono ?_
  rintro e w2 ⟨rfl, hb2⟩
  refine hK.out _ _ (HS.out _ (((Below.refl w0.heap.size w0).drew.drew.trans (hb1.mono (Nat.le_refl _))).trans (hb2.mono hb1.size))) (fun hHeld => ?_)
  clear hK K
  try simp only [Act.put, List.getElem_toArray, List.getElem_cons_zero, List.getElem_cons_succ, List.setIfInBounds_toArray, List.set_cons_zero, List.set_cons_succ]
  refine AnyE.next (rs := [6]) (by kernel_rfl) (by simp) ?_
  refine AllE.cons rfl (fun K hK => ?_) AllE.nil
  go_simp
  refine hK.out _ _ (HS.out _ (((Below.refl w0.heap.size w0).drew.drew.trans (hb1.mono (Nat.le_refl _))).trans (hb2.mono hb1.size))) (fun hHeld => ?_)
  clear hK K
  try simp only [Act.put, List.getElem_toArray, List.getElem_cons_zero, List.getElem_cons_succ, List.setIfInBounds_toArray, List.set_cons_zero, List.set_cons_succ]
  refine AnyE.next (rs := [7]) (by kernel_rfl) (by simp) ?_
  refine AllE.last rfl (fun K hK => ?_)
  go_simp
  refine hK.out _ _ ?_
  clear hK K
  try simp only [Act.put, List.getElem_toArray, List.getElem_cons_zero, List.getElem_cons_succ, List.setIfInBounds_toArray, List.set_cons_zero, List.set_cons_succ]
  refine AnyE.done (by kernel_rfl) ?_ _
  have hb20 := ((Below.refl w0.heap.size w0).drew.drew.trans (hb1.mono (Nat.le_refl _))).trans (hb2.mono hb1.size)
  have HY2 := Lib.hid (HY.out.below hb20 HY.out.lt)
  have HA2 := Lib.hid (HA.out.below hb20 HA.out.lt)
  have HR2 := Lib.hid (HR.out.below hb20 HR.out.lt)
  have HB2 := Lib.hid (HB.out.trans (hb20.mono HB.out.size))
  clear hb1 hb2 hb20 S0
  clear hHeld
  have y0 := HY2.out.cell 0 rfl
  have y1 := HY2.out.cell 1 rfl
  have y2 := HY2.out.cell 2 rfl
  have y3 := HY2.out.cell 3 rfl
  have y4 := HY2.out.cell 4 rfl
  have y5 := HY2.out.cell 5 rfl
  have y6 := HY2.out.cell 6 rfl
  have a0 := HA2.out.cell 0 rfl
  have a1 := HA2.out.cell 1 rfl
  have a2 := HA2.out.cell 2 rfl
  have HYR := Lib.hid (show Y ≠ R from by have h1 := HRe.out; have h2 := HYe.out; omega)
  have HYW := Lib.hid (show w.heap.size ≤ Y from by have h2 := HYe.out; omega)
  go_upto_region 20 with fail
  have HS := Lib.hid (fun (wx : World) (hb : Below w2.heap.size w2.drew wx) => show wx.cell? ⟨Y, 0, none⟩ = some (.slice xa na ca) ∧ wx.cell? ⟨Y, 1, none⟩ = some (.slice xb nb cb) ∧ wx.cell? ⟨Y, 2, none⟩ = some (.bool true) ∧ wx.cell? ⟨Y, 3, none⟩ = some (.bool true) ∧ wx.cell? ⟨Y, 4, none⟩ = some (.int .i64 0) ∧ wx.cell? ⟨Y, 5, none⟩ = some (.int .i64 tm) ∧ wx.cell? ⟨Y, 6, none⟩ = some (.int .i64 st) ∧ wx.cell? ⟨b1, o1, none⟩ = some (.int .i64 dk) ∧ wx.cell? ⟨b1, o1 + 1, none⟩ = some (.int .i64 dv) ∧ wx.cell? ⟨b1, o1 + 2, none⟩ = some (.int .i64 de) ∧ wx.cell? ⟨b1, o1 + 3, none⟩ = some (.int .i64 dc) ∧ wx.cell? ⟨b1, o1 + 4, none⟩ = some (.int .i64 dn) ∧ wx.cell? ⟨b1, o1 + 5, none⟩ = some (.int .i64 d1) ∧ wx.cell? ⟨b1, o1 + 6, none⟩ = some (.int .i64 d2) ∧ wx.cell? ⟨b1, o1 + 7, none⟩ = some (.int .i64 d3) from
    have h := HY2.out.below ((Below.refl w2.heap.size w2).drew.trans hb) HY2.out.lt
    have g := HCE.out wx (HB2.out.trans (((Below.refl w2.heap.size w2).drew.trans hb).mono HB2.out.size))
    ⟨h.cell 0 rfl, h.cell 1 rfl, h.cell 2 rfl, h.cell 3 rfl, h.cell 4 rfl, h.cell 5 rfl, h.cell 6 rfl, g 0 _ HC8.out.1, g 1 _ HC8.out.2.1, g 2 _ HC8.out.2.2.1, g 3 _ HC8.out.2.2.2.1, g 4 _ HC8.out.2.2.2.2.1, g 5 _ HC8.out.2.2.2.2.2.1, g 6 _ HC8.out.2.2.2.2.2.2.1, g 7 _ HC8.out.2.2.2.2.2.2.2⟩)
  have S0 := HS.out w2.drew (Below.refl _ _)
  have HVD := Lib.hid (show IsX w2.drew 8 (.slice xb nb cb) nb (row ccl L) from HV.out.mono HB2.out.drew (Nat.le_refl _))
  clear y0 y1 y2 y3 y4 y5 y6 a0 a1 a2
  refine AnyE.start (S := (fun wx => wx.cell? ⟨Y, 0, none⟩ = some (.slice xa na ca) ∧ wx.cell? ⟨Y, 1, none⟩ = some (.slice xb nb cb) ∧ wx.cell? ⟨Y, 2, none⟩ = some (.bool true) ∧ wx.cell? ⟨Y, 3, none⟩ = some (.bool true) ∧ wx.cell? ⟨Y, 4, none⟩ = some (.int .i64 0) ∧ wx.cell? ⟨Y, 5, none⟩ = some (.int .i64 tm) ∧ wx.cell? ⟨Y, 6, none⟩ = some (.int .i64 st) ∧ wx.cell? ⟨b1, o1, none⟩ = some (.int .i64 dk) ∧ wx.cell? ⟨b1, o1 + 1, none⟩ = some (.int .i64 dv) ∧ wx.cell? ⟨b1, o1 + 2, none⟩ = some (.int .i64 de) ∧ wx.cell? ⟨b1, o1 + 3, none⟩ = some (.int .i64 dc) ∧ wx.cell? ⟨b1, o1 + 4, none⟩ = some (.int .i64 dn) ∧ wx.cell? ⟨b1, o1 + 5, none⟩ = some (.int .i64 d1) ∧ wx.cell? ⟨b1, o1 + 6, none⟩ = some (.int .i64 d2) ∧ wx.cell? ⟨b1, o1 + 7, none⟩ = some (.int .i64 d3))) 13 (by kernel_rfl) (S0) (fun hHeld => ?_)
  refine AnyE.take (i := 0) (v := ?_) rfl (by kernel_rfl) (by kernel_rfl) (by kernel_rfl) (by kernel_rfl) (fun _ _ _ h => h) (Or.inl ⟨by rfl, ?_⟩) (by assumption) ?_
  rotate_left 1
  · intro w hSw
    (try dsimp only at hSw)
    go_simp
    all_goals (with_reducible rfl)
  try simp only [Act.put, List.getElem_toArray, List.getElem_cons_zero, List.getElem_cons_succ, List.setIfInBounds_toArray, List.set_cons_zero, List.set_cons_succ]
  refine AnyE.take (i := 1) (v := ?_) rfl (by kernel_rfl) (by kernel_rfl) (by kernel_rfl) (by kernel_rfl) (fun _ _ _ h => h) (Or.inl ⟨by rfl, ?_⟩) (by assumption) ?_
  rotate_left 1
  · intro w hSw
    (try dsimp only at hSw)
    go_simp
    all_goals (with_reducible rfl)
  try simp only [Act.put, List.getElem_toArray, List.getElem_cons_zero, List.getElem_cons_succ, List.setIfInBounds_toArray, List.set_cons_zero, List.set_cons_succ]
  refine AnyE.take (i := 3) (v := ?_) rfl (by kernel_rfl) (by kernel_rfl) (by kernel_rfl) (by kernel_rfl) (fun _ _ _ h => h) (Or.inl ⟨by rfl, ?_⟩) (by assumption) ?_
  rotate_left 1
  · intro w hSw
    (try dsimp only at hSw)
    go_simp
    all_goals (with_reducible rfl)
  try simp only [Act.put, List.getElem_toArray, List.getElem_cons_zero, List.getElem_cons_succ, List.setIfInBounds_toArray, List.set_cons_zero, List.set_cons_succ]
  refine AnyE.take (i := 5) (v := ?_) rfl (by kernel_rfl) (by kernel_rfl) (by kernel_rfl) (by kernel_rfl) (fun _ _ _ h => h) (Or.inl ⟨by rfl, ?_⟩) (by assumption) ?_
  rotate_left 1
  · intro w hSw
    (try dsimp only at hSw)
    go_simp
    all_goals (with_reducible rfl)
  try simp only [Act.put, List.getElem_toArray, List.getElem_cons_zero, List.getElem_cons_succ, List.setIfInBounds_toArray, List.set_cons_zero, List.set_cons_succ]
  refine AnyE.take (i := 6) (v := ?_) rfl (by kernel_rfl) (by kernel_rfl) (by kernel_rfl) (by kernel_rfl) (fun _ _ _ h => h) (Or.inl ⟨by rfl, ?_⟩) (by assumption) ?_
  rotate_left 1
  · intro w hSw
    (try dsimp only at hSw)
    go_simp
    all_goals (with_reducible rfl)
  try simp only [Act.put, List.getElem_toArray, List.getElem_cons_zero, List.getElem_cons_succ, List.setIfInBounds_toArray, List.set_cons_zero, List.set_cons_succ]
  refine AnyE.take (i := 7) (v := ?_) rfl (by kernel_rfl) (by kernel_rfl) (by kernel_rfl) (by kernel_rfl) (fun _ _ _ h => h) (Or.inl ⟨by rfl, ?_⟩) (by assumption) ?_
  rotate_left 1
  · intro w hSw
    (try dsimp only at hSw)
    go_simp
    all_goals (with_reducible rfl)
  try simp only [Act.put, List.getElem_toArray, List.getElem_cons_zero, List.getElem_cons_succ, List.setIfInBounds_toArray, List.set_cons_zero, List.set_cons_succ]
  refine AnyE.take (i := 8) (v := ?_) rfl (by kernel_rfl) (by kernel_rfl) (by kernel_rfl) (by kernel_rfl) (fun _ _ _ h => h) (Or.inl ⟨by rfl, ?_⟩) (by assumption) ?_
  rotate_left 1
  · intro w hSw
    (try dsimp only at hSw)
    go_simp
    all_goals (with_reducible rfl)
  try simp only [Act.put, List.getElem_toArray, List.getElem_cons_zero, List.getElem_cons_succ, List.setIfInBounds_toArray, List.set_cons_zero, List.set_cons_succ]
  refine AnyE.take (i := 9) (v := ?_) rfl (by kernel_rfl) (by kernel_rfl) (by kernel_rfl) (by kernel_rfl) (fun _ _ _ h => h) (Or.inl ⟨by rfl, ?_⟩) (by assumption) ?_
  rotate_left 1
  · intro w hSw
    (try dsimp only at hSw)
    go_simp
    all_goals (with_reducible rfl)
  try simp only [Act.put, List.getElem_toArray, List.getElem_cons_zero, List.getElem_cons_succ, List.setIfInBounds_toArray, List.set_cons_zero, List.set_cons_succ]
  refine AnyE.next (rs := [2, 10]) (by kernel_rfl) (by simp) ?_
  refine AllE.cons rfl (fun K hK => ?_) ?_
  · go_simp
    refine hK.out _ _ (HS.out _ ((Below.refl w2.heap.size w2.drew).alloc (by have h := (Below.refl w2.heap.size w2.drew).size; exact h) (.cells #[] 33))) (fun hHeld => ?_)
    clear hK K
    try simp only [Act.put, List.getElem_toArray, List.getElem_cons_zero, List.getElem_cons_succ, List.setIfInBounds_toArray, List.set_cons_zero, List.set_cons_succ]
    refine AnyE.next (rs := [4, 10]) (by kernel_rfl) (by simp) ?_
    refine AllE.cons rfl (fun K hK => ?_) ?_
    · refine step_append_X (by rfl) _ _ 26 rfl w2.heap.size 33 i0 _ 8 64 Try.underlying26 HI0.out HZ0.out HZ1.out HZ2.out rfl (by decide) _ [] 0 rfl (own_litAt14 w2.drew w2.heap.size 33 8 w2.heap.size rfl (Nat.le_refl _)) _ nb _ rfl (HVD.out.mono ((Below.refl w2.heap.size w2.drew).alloc (by have h := (Below.refl w2.heap.size w2.drew).size; exact h) (.cells #[] 33)) (Nat.le_refl _)) (row_mem fun x _ => ccl_one x) (by have h := HNB.out; unfold maxLen; omega) (by have h := HNB.out; omega) (by have h := ((Below.refl w2.heap.size w2.drew).alloc (by have h := (Below.refl w2.heap.size w2.drew).size; exact h) (.cells #[] 33)).size; exact h) ?_
      intro v6 w6 hown6 hgr6 hat6
      have HO6 := Lib.hid (show w6.ownsRow w2.heap.size 33 8 v6 nb (row ccl L) from by have h := hown6; rw [Nat.zero_add] at h; simpa using h)
      have HB6 := Lib.hid (((Below.refl w2.heap.size w2.drew).alloc (by have h := (Below.refl w2.heap.size w2.drew).size; exact h) (.cells #[] 33)).grown hgr6 (by have h := ((Below.refl w2.heap.size w2.drew).alloc (by have h := (Below.refl w2.heap.size w2.drew).size; exact h) (.cells #[] 33)).size; exact h) (fun j hj => by have h := ((own_litAt14 w2.drew w2.heap.size 33 8 w2.heap.size rfl (Nat.le_refl _))).lt j hj; exact h.1))
      have S6 := HS.out _ HB6.out
      refine hK.out _ _ (S6) (fun hHeld => ?_)
      clear hK K
      try simp only [Act.put, List.getElem_toArray, List.getElem_cons_zero, List.getElem_cons_succ, List.setIfInBounds_toArray, List.set_cons_zero, List.set_cons_succ]
      refine AnyE.next (rs := [10]) (by kernel_rfl) (by simp) ?_
      refine AllE.cons rfl (fun K hK => ?_) AllE.nil
      go_simp
      refine hK.out _ _ (HS.out _ (HB6.out.alloc HB6.out.size (.cells #[.int .i64 dk, .int .i64 dv, .int .i64 de, .int .i64 dc, .int .i64 dn, .int .i64 d1, .int .i64 d2, .int .i64 d3] 33))) (fun hHeld => ?_)
      clear hK K
      try simp only [Act.put, List.getElem_toArray, List.getElem_cons_zero, List.getElem_cons_succ, List.setIfInBounds_toArray, List.set_cons_zero, List.set_cons_succ]
      refine AnyE.next (rs := [11]) (by kernel_rfl) (by simp) ?_
      refine AllE.cons rfl (fun K hK => ?_) AllE.nil
      refine step_append_X (by rfl) _ _ 26 rfl w2.heap.size 33 i0 _ 8 64 Try.underlying26 HI0.out HZ0.out HZ1.out HZ2.out rfl (by decide) _ (row ccl L) nb rfl (HO6.out.alloc (.cells #[.int .i64 dk, .int .i64 dv, .int .i64 de, .int .i64 dc, .int .i64 dn, .int .i64 d1, .int .i64 d2, .int .i64 d3] 33)) _ 1 _ rfl (IsX.litAt14 w6 #[.int .i64 dk, .int .i64 dv, .int .i64 de, .int .i64 dc, .int .i64 dn, .int .i64 d1, .int .i64 d2, .int .i64 d3] 33 8 1 w6.heap.size rfl rfl (by decide)) (fun u hu => ccl_one ⟨dk, dv, de, dc, dn, d1, d2, d3⟩ u hu) (by have h := HNB.out; unfold maxLen; omega) (by have h := HNB.out; omega) (by have h := (HB6.out.alloc HB6.out.size (.cells #[.int .i64 dk, .int .i64 dv, .int .i64 de, .int .i64 dc, .int .i64 dn, .int .i64 d1, .int .i64 d2, .int .i64 d3] 33)).size; exact h) ?_
      intro v9 w9 hown9 hgr9 hat9
      have HB9 := Lib.hid ((HB6.out.alloc HB6.out.size (.cells #[.int .i64 dk, .int .i64 dv, .int .i64 de, .int .i64 dc, .int .i64 dn, .int .i64 d1, .int .i64 d2, .int .i64 d3] 33)).grown hgr9 (by have h := (HB6.out.alloc HB6.out.size (.cells #[.int .i64 dk, .int .i64 dv, .int .i64 de, .int .i64 dc, .int .i64 dn, .int .i64 d1, .int .i64 d2, .int .i64 d3] 33)).size; exact h) (fun j hj => by have h := ((HO6.out.alloc (.cells #[.int .i64 dk, .int .i64 dv, .int .i64 de, .int .i64 dc, .int .i64 dn, .int .i64 d1, .int .i64 d2, .int .i64 d3] 33))).lt j hj; exact h.1))
      have HX9 := Lib.hid (show IsX w9 8 v9 (nb + 1) (row ccl (L ++ [⟨dk, dv, de, dc, dn, d1, d2, d3⟩])) from IsX.own (by rw [row_append, row_one]; exact hown9))
      have S9 := HS.out _ HB9.out
      clear hown9 hgr9 hat9
      refine hK.out _ _ (S9) (fun hHeld => ?_)
      clear hK K
      try simp only [Act.put, List.getElem_toArray, List.getElem_cons_zero, List.getElem_cons_succ, List.setIfInBounds_toArray, List.set_cons_zero, List.set_cons_succ]
      refine AnyE.next (rs := [12]) (by kernel_rfl) (by simp) ?_
      refine AllE.cons rfl (fun K hK => ?_) AllE.nil
      go_simp
      refine (rwith20_1 xa xb na nb ca cb true true 0 tm st v9 (nb + 1) (L ++ [⟨dk, dv, de, dc, dn, d1, d2, d3⟩]) w9 HX9.out (by have h := HNB.out; omega)).mono ?_
      rintro e w10 ⟨x, k, rfl, hx10, ho10, hb10⟩
      skip
      have HX10 := Lib.hid hx10
      have HO10 := Lib.hid (show ∀ q, (Value.slice x (nb + 1) k).ownBlock = some q → w2.heap.size ≤ q from fun q e => Nat.le_trans HB9.out.size (ho10 q e))
      have HB10 := Lib.hid (HB9.out.trans (hb10.mono HB9.out.size))
      clear hx10 ho10 hb10
      refine hK.out _ _ (HS.out _ HB10.out) (fun hHeld => ?_)
      clear hK K
      try simp only [Act.put, List.getElem_toArray, List.getElem_cons_zero, List.getElem_cons_succ, List.setIfInBounds_toArray, List.set_cons_zero, List.set_cons_succ]
      refine AnyE.next (rs := [13]) (by kernel_rfl) (by simp) ?_
      refine AllE.last rfl (fun K hK => ?_)
      refine step_store7 rfl 29 Try.sizePr20 _ _ rfl Y 29 (show Blk w10 Y #[.slice xa na ca, .slice xb nb cb, .bool true, .bool true, .int .i64 0, .int .i64 tm, .int .i64 st] 29 from HY2.out.below ((Below.refl w2.heap.size w2).drew.trans HB10.out) HY2.out.lt) rfl rfl ?_
      intro w11 hy11 hk11
      have HY11 := Lib.hid hy11
      have HR11 := Lib.hid ((HR2.out.below ((Below.refl w2.heap.size w2).drew.trans HB10.out) HR2.out.lt).kept hk11 (fun e => HYR.out e.symm))
      have HX11 := Lib.hid (HX10.out.kept hk11 (fun q hq e => by have h1 := HO10.out q hq.2; have h2 := HY2.out.lt; omega))
      have HB11 := Lib.hid ((HB2.out.trans (((Below.refl w2.heap.size w2).drew.trans HB10.out).mono HB2.out.size)).trans (hk11.below (Nat.le_trans HB2.out.size (show w2.heap.size ≤ w10.heap.size from HB10.out.size)) (fun q hq e => by have h1 := HYW.out; omega)))
      clear hy11 hk11
      refine hK.out _ _ ?_
      clear hK K
      try simp only [Act.put, List.getElem_toArray, List.getElem_cons_zero, List.getElem_cons_succ, List.setIfInBounds_toArray, List.set_cons_zero, List.set_cons_succ]
      refine AnyE.done (by kernel_rfl) ?_ _
      have y0 := HY11.out.cell 0 rfl
      have y1 := HY11.out.cell 1 rfl
      have y2 := HY11.out.cell 2 rfl
      have y3 := HY11.out.cell 3 rfl
      have y4 := HY11.out.cell 4 rfl
      have y5 := HY11.out.cell 5 rfl
      have y6 := HY11.out.cell 6 rfl
      go_wp2_with fail
      refine (rsettle20 xa x na (nb + 1) ca k true true 0 tm st ((nb : Int) + 1) _).mono ?_
      rintro e w12 ⟨rfl, hb12⟩
      rw [HST.out]
      unfold pcl
      have HR12 := Lib.hid (HR11.out.below hb12 HR11.out.lt)
      have HX12 := Lib.hid (HX11.out.mono hb12 (Nat.le_refl _))
      have HB12 := Lib.hid (HB11.out.trans (hb12.mono HB11.out.size))
      clear hb12 y0 y1 y2 y3 y4 y5 y6
      go_wp2_with (refine wpList_store7 rfl 29 Try.sizePr20 _ _ rfl R 29 HR12.out rfl rfl ?_)
      intro w15 hr15 hk15
      have HB15 := Lib.hid (HB12.out.trans (hk15.below HB12.out.size (fun q hq e => by have h1 := HRe.out; omega)))
      have HX15 := Lib.hid (HX12.out.kept hk15 (fun q hq e => by have h1 := HO10.out q hq.2; have h2 := HR2.out.lt; omega))
      have HO15 := Lib.hid (show ∀ q, (Value.slice x (nb + 1) k).ownBlock = some q → w.heap.size ≤ q from fun q e => Nat.le_trans HB2.out.size (HO10.out q e))
      have z0 := hr15.cell 0 rfl
      have z1 := hr15.cell 1 rfl
      have z2 := hr15.cell 2 rfl
      have z3 := hr15.cell 3 rfl
      have z4 := hr15.cell 4 rfl
      have z5 := hr15.cell 5 rfl
      have z6 := hr15.cell 6 rfl
      clear hr15 hk15
      go_wp2
      exact bodyPost_ret (v := .tuple #[.agg #[.slice xa na ca, .slice x (nb + 1) k, .bool true, .bool true, .int .i64 0, .int .i64 tm, .int .i64 ST], .int .i64 0, .int .i64 0]) (by simp [results, Try.results10, go_sem, z0, z1, z2, z3, z4, z5, z6]) rfl ⟨x, k, rfl, HX15.out, HO15.out, HB15.out⟩
    refine AllE.cons rfl (fun K hK => ?_) AllE.nil
    go_simp
    refine hK.out _ _ (HS.out _ (((Below.refl w2.heap.size w2.drew).alloc (by have h := (Below.refl w2.heap.size w2.drew).size; exact h) (.cells #[] 33)).alloc (by have h := ((Below.refl w2.heap.size w2.drew).alloc (by have h := (Below.refl w2.heap.size w2.drew).size; exact h) (.cells #[] 33)).size; exact h) (.cells #[.int .i64 dk, .int .i64 dv, .int .i64 de, .int .i64 dc, .int .i64 dn, .int .i64 d1, .int .i64 d2, .int .i64 d3] 33))) (fun hHeld => ?_)
    clear hK K
    try simp only [Act.put, List.getElem_toArray, List.getElem_cons_zero, List.getElem_cons_succ, List.setIfInBounds_toArray, List.set_cons_zero, List.set_cons_succ]
    refine AnyE.next (rs := [4]) (by kernel_rfl) (by simp) ?_
    refine AllE.cons rfl (fun K hK => ?_) AllE.nil
    refine step_append_X (by rfl) _ _ 26 rfl w2.heap.size 33 i0 _ 8 64 Try.underlying26 HI0.out HZ0.out HZ1.out HZ2.out rfl (by decide) _ [] 0 rfl ((own_litAt14 w2.drew w2.heap.size 33 8 w2.heap.size rfl (Nat.le_refl _)).alloc (.cells #[.int .i64 dk, .int .i64 dv, .int .i64 de, .int .i64 dc, .int .i64 dn, .int .i64 d1, .int .i64 d2, .int .i64 d3] 33)) _ nb _ rfl (HVD.out.mono (((Below.refl w2.heap.size w2.drew).alloc (by have h := (Below.refl w2.heap.size w2.drew).size; exact h) (.cells #[] 33)).alloc (by have h := ((Below.refl w2.heap.size w2.drew).alloc (by have h := (Below.refl w2.heap.size w2.drew).size; exact h) (.cells #[] 33)).size; exact h) (.cells #[.int .i64 dk, .int .i64 dv, .int .i64 de, .int .i64 dc, .int .i64 dn, .int .i64 d1, .int .i64 d2, .int .i64 d3] 33)) (Nat.le_refl _)) (row_mem fun x _ => ccl_one x) (by have h := HNB.out; unfold maxLen; omega) (by have h := HNB.out; omega) (by have h := (((Below.refl w2.heap.size w2.drew).alloc (by have h := (Below.refl w2.heap.size w2.drew).size; exact h) (.cells #[] 33)).alloc (by have h := ((Below.refl w2.heap.size w2.drew).alloc (by have h := (Below.refl w2.heap.size w2.drew).size; exact h) (.cells #[] 33)).size; exact h) (.cells #[.int .i64 dk, .int .i64 dv, .int .i64 de, .int .i64 dc, .int .i64 dn, .int .i64 d1, .int .i64 d2, .int .i64 d3] 33)).size; exact h) ?_
    intro v6 w6 hown6 hgr6 hat6
    have HO6 := Lib.hid (show w6.ownsRow w2.heap.size 33 8 v6 nb (row ccl L) from by have h := hown6; rw [Nat.zero_add] at h; simpa using h)
    have HB6 := Lib.hid ((((Below.refl w2.heap.size w2.drew).alloc (by have h := (Below.refl w2.heap.size w2.drew).size; exact h) (.cells #[] 33)).alloc (by have h := ((Below.refl w2.heap.size w2.drew).alloc (by have h := (Below.refl w2.heap.size w2.drew).size; exact h) (.cells #[] 33)).size; exact h) (.cells #[.int .i64 dk, .int .i64 dv, .int .i64 de, .int .i64 dc, .int .i64 dn, .int .i64 d1, .int .i64 d2, .int .i64 d3] 33)).grown hgr6 (by have h := (((Below.refl w2.heap.size w2.drew).alloc (by have h := (Below.refl w2.heap.size w2.drew).size; exact h) (.cells #[] 33)).alloc (by have h := ((Below.refl w2.heap.size w2.drew).alloc (by have h := (Below.refl w2.heap.size w2.drew).size; exact h) (.cells #[] 33)).size; exact h) (.cells #[.int .i64 dk, .int .i64 dv, .int .i64 de, .int .i64 dc, .int .i64 dn, .int .i64 d1, .int .i64 d2, .int .i64 d3] 33)).size; exact h) (fun j hj => by have h := (((own_litAt14 w2.drew w2.heap.size 33 8 w2.heap.size rfl (Nat.le_refl _)).alloc (.cells #[.int .i64 dk, .int .i64 dv, .int .i64 de, .int .i64 dc, .int .i64 dn, .int .i64 d1, .int .i64 d2, .int .i64 d3] 33))).lt j hj; exact h.1))
    have S6 := HS.out _ HB6.out
    refine hK.out _ _ (S6) (fun hHeld => ?_)
    clear hK K
    try simp only [Act.put, List.getElem_toArray, List.getElem_cons_zero, List.getElem_cons_succ, List.setIfInBounds_toArray, List.set_cons_zero, List.set_cons_succ]
    refine AnyE.next (rs := [11]) (by kernel_rfl) (by simp) ?_
    refine AllE.cons rfl (fun K hK => ?_) AllE.nil
    refine step_append_X (by rfl) _ _ 26 rfl w2.heap.size 33 i0 _ 8 64 Try.underlying26 HI0.out HZ0.out HZ1.out HZ2.out rfl (by decide) _ (row ccl L) nb rfl HO6.out _ 1 _ rfl (((IsX.litAt14 (w2.drew.alloc (.cells #[] 33)) #[.int .i64 dk, .int .i64 dv, .int .i64 de, .int .i64 dc, .int .i64 dn, .int .i64 d1, .int .i64 d2, .int .i64 d3] 33 8 1 (w2.heap.size + 1) (by simp) rfl (by decide))).kept ((Kept.refl (fun j => some w2.heap.size = some j) _).grown hgr6 (fun k hk => .inl hk)) (fun k hk hs => by have h1 : some (w2.heap.size + 1) = some k := hk.2; have h2 := Option.some.inj h1; have h3 := Option.some.inj hs; omega)) (fun u hu => ccl_one ⟨dk, dv, de, dc, dn, d1, d2, d3⟩ u hu) (by have h := HNB.out; unfold maxLen; omega) (by have h := HNB.out; omega) (by have h := HB6.out.size; exact h) ?_
    intro v9 w9 hown9 hgr9 hat9
    have HB9 := Lib.hid (HB6.out.grown hgr9 (by have h := HB6.out.size; exact h) (fun j hj => by have h := (HO6.out).lt j hj; exact h.1))
    have HX9 := Lib.hid (show IsX w9 8 v9 (nb + 1) (row ccl (L ++ [⟨dk, dv, de, dc, dn, d1, d2, d3⟩])) from IsX.own (by rw [row_append, row_one]; exact hown9))
    have S9 := HS.out _ HB9.out
    clear hown9 hgr9 hat9
    refine hK.out _ _ (S9) (fun hHeld => ?_)
    clear hK K
    try simp only [Act.put, List.getElem_toArray, List.getElem_cons_zero, List.getElem_cons_succ, List.setIfInBounds_toArray, List.set_cons_zero, List.set_cons_succ]
    refine AnyE.next (rs := [12]) (by kernel_rfl) (by simp) ?_
    refine AllE.cons rfl (fun K hK => ?_) AllE.nil
    go_simp
    refine (rwith20_1 xa xb na nb ca cb true true 0 tm st v9 (nb + 1) (L ++ [⟨dk, dv, de, dc, dn, d1, d2, d3⟩]) w9 HX9.out (by have h := HNB.out; omega)).mono ?_
    rintro e w10 ⟨x, k, rfl, hx10, ho10, hb10⟩
    skip
    have HX10 := Lib.hid hx10
    have HO10 := Lib.hid (show ∀ q, (Value.slice x (nb + 1) k).ownBlock = some q → w2.heap.size ≤ q from fun q e => Nat.le_trans HB9.out.size (ho10 q e))
    have HB10 := Lib.hid (HB9.out.trans (hb10.mono HB9.out.size))
    clear hx10 ho10 hb10
    refine hK.out _ _ (HS.out _ HB10.out) (fun hHeld => ?_)
    clear hK K
    try simp only [Act.put, List.getElem_toArray, List.getElem_cons_zero, List.getElem_cons_succ, List.setIfInBounds_toArray, List.set_cons_zero, List.set_cons_succ]
    refine AnyE.next (rs := [13]) (by kernel_rfl) (by simp) ?_
    refine AllE.last rfl (fun K hK => ?_)
    refine step_store7 rfl 29 Try.sizePr20 _ _ rfl Y 29 (show Blk w10 Y #[.slice xa na ca, .slice xb nb cb, .bool true, .bool true, .int .i64 0, .int .i64 tm, .int .i64 st] 29 from HY2.out.below ((Below.refl w2.heap.size w2).drew.trans HB10.out) HY2.out.lt) rfl rfl ?_
    intro w11 hy11 hk11
    have HY11 := Lib.hid hy11
    have HR11 := Lib.hid ((HR2.out.below ((Below.refl w2.heap.size w2).drew.trans HB10.out) HR2.out.lt).kept hk11 (fun e => HYR.out e.symm))
    have HX11 := Lib.hid (HX10.out.kept hk11 (fun q hq e => by have h1 := HO10.out q hq.2; have h2 := HY2.out.lt; omega))
    have HB11 := Lib.hid ((HB2.out.trans (((Below.refl w2.heap.size w2).drew.trans HB10.out).mono HB2.out.size)).trans (hk11.below (Nat.le_trans HB2.out.size (show w2.heap.size ≤ w10.heap.size from HB10.out.size)) (fun q hq e => by have h1 := HYW.out; omega)))
    clear hy11 hk11
    refine hK.out _ _ ?_
    clear hK K
    try simp only [Act.put, List.getElem_toArray, List.getElem_cons_zero, List.getElem_cons_succ, List.setIfInBounds_toArray, List.set_cons_zero, List.set_cons_succ]
    refine AnyE.done (by kernel_rfl) ?_ _
    have y0 := HY11.out.cell 0 rfl
    have y1 := HY11.out.cell 1 rfl
    have y2 := HY11.out.cell 2 rfl
    have y3 := HY11.out.cell 3 rfl
    have y4 := HY11.out.cell 4 rfl
    have y5 := HY11.out.cell 5 rfl
    have y6 := HY11.out.cell 6 rfl
    go_wp2_with fail
    refine (rsettle20 xa x na (nb + 1) ca k true true 0 tm st ((nb : Int) + 1) _).mono ?_
    rintro e w12 ⟨rfl, hb12⟩
    rw [HST.out]
    unfold pcl
    have HR12 := Lib.hid (HR11.out.below hb12 HR11.out.lt)
    have HX12 := Lib.hid (HX11.out.mono hb12 (Nat.le_refl _))
    have HB12 := Lib.hid (HB11.out.trans (hb12.mono HB11.out.size))
    clear hb12 y0 y1 y2 y3 y4 y5 y6
    go_wp2_with (refine wpList_store7 rfl 29 Try.sizePr20 _ _ rfl R 29 HR12.out rfl rfl ?_)
    intro w15 hr15 hk15
    have HB15 := Lib.hid (HB12.out.trans (hk15.below HB12.out.size (fun q hq e => by have h1 := HRe.out; omega)))
    have HX15 := Lib.hid (HX12.out.kept hk15 (fun q hq e => by have h1 := HO10.out q hq.2; have h2 := HR2.out.lt; omega))
    have HO15 := Lib.hid (show ∀ q, (Value.slice x (nb + 1) k).ownBlock = some q → w.heap.size ≤ q from fun q e => Nat.le_trans HB2.out.size (HO10.out q e))
    have z0 := hr15.cell 0 rfl
    have z1 := hr15.cell 1 rfl
    have z2 := hr15.cell 2 rfl
    have z3 := hr15.cell 3 rfl
    have z4 := hr15.cell 4 rfl
    have z5 := hr15.cell 5 rfl
    have z6 := hr15.cell 6 rfl
    clear hr15 hk15
    go_wp2
    exact bodyPost_ret (v := .tuple #[.agg #[.slice xa na ca, .slice x (nb + 1) k, .bool true, .bool true, .int .i64 0, .int .i64 tm, .int .i64 ST], .int .i64 0, .int .i64 0]) (by simp [results, Try.results10, go_sem, z0, z1, z2, z3, z4, z5, z6]) rfl ⟨x, k, rfl, HX15.out, HO15.out, HB15.out⟩
  refine AllE.cons rfl (fun K hK => ?_) AllE.nil
  go_simp
  refine hK.out _ _ (HS.out _ ((Below.refl w2.heap.size w2.drew).alloc (by have h := (Below.refl w2.heap.size w2.drew).size; exact h) (.cells #[.int .i64 dk, .int .i64 dv, .int .i64 de, .int .i64 dc, .int .i64 dn, .int .i64 d1, .int .i64 d2, .int .i64 d3] 33))) (fun hHeld => ?_)
  clear hK K
  try simp only [Act.put, List.getElem_toArray, List.getElem_cons_zero, List.getElem_cons_succ, List.setIfInBounds_toArray, List.set_cons_zero, List.set_cons_succ]
  refine AnyE.next (rs := [2]) (by kernel_rfl) (by simp) ?_
  refine AllE.cons rfl (fun K hK => ?_) AllE.nil
  go_simp
  refine hK.out _ _ (HS.out _ (((Below.refl w2.heap.size w2.drew).alloc (by have h := (Below.refl w2.heap.size w2.drew).size; exact h) (.cells #[.int .i64 dk, .int .i64 dv, .int .i64 de, .int .i64 dc, .int .i64 dn, .int .i64 d1, .int .i64 d2, .int .i64 d3] 33)).alloc (by have h := ((Below.refl w2.heap.size w2.drew).alloc (by have h := (Below.refl w2.heap.size w2.drew).size; exact h) (.cells #[.int .i64 dk, .int .i64 dv, .int .i64 de, .int .i64 dc, .int .i64 dn, .int .i64 d1, .int .i64 d2, .int .i64 d3] 33)).size; exact h) (.cells #[] 33))) (fun hHeld => ?_)
  clear hK K
  try simp only [Act.put, List.getElem_toArray, List.getElem_cons_zero, List.getElem_cons_succ, List.setIfInBounds_toArray, List.set_cons_zero, List.set_cons_succ]
  refine AnyE.next (rs := [4]) (by kernel_rfl) (by simp) ?_
  refine AllE.cons rfl (fun K hK => ?_) AllE.nil
  refine step_append_X (by rfl) _ _ 26 rfl w2.heap.size 33 i0 _ 8 64 Try.underlying26 HI0.out HZ0.out HZ1.out HZ2.out rfl (by decide) _ [] 0 rfl (own_litAt14 (w2.drew.alloc (.cells #[.int .i64 dk, .int .i64 dv, .int .i64 de, .int .i64 dc, .int .i64 dn, .int .i64 d1, .int .i64 d2, .int .i64 d3] 33)) w2.heap.size 33 8 (w2.heap.size + 1) (by simp) (by omega)) _ nb _ rfl (HVD.out.mono (((Below.refl w2.heap.size w2.drew).alloc (by have h := (Below.refl w2.heap.size w2.drew).size; exact h) (.cells #[.int .i64 dk, .int .i64 dv, .int .i64 de, .int .i64 dc, .int .i64 dn, .int .i64 d1, .int .i64 d2, .int .i64 d3] 33)).alloc (by have h := ((Below.refl w2.heap.size w2.drew).alloc (by have h := (Below.refl w2.heap.size w2.drew).size; exact h) (.cells #[.int .i64 dk, .int .i64 dv, .int .i64 de, .int .i64 dc, .int .i64 dn, .int .i64 d1, .int .i64 d2, .int .i64 d3] 33)).size; exact h) (.cells #[] 33)) (Nat.le_refl _)) (row_mem fun x _ => ccl_one x) (by have h := HNB.out; unfold maxLen; omega) (by have h := HNB.out; omega) (by have h := (((Below.refl w2.heap.size w2.drew).alloc (by have h := (Below.refl w2.heap.size w2.drew).size; exact h) (.cells #[.int .i64 dk, .int .i64 dv, .int .i64 de, .int .i64 dc, .int .i64 dn, .int .i64 d1, .int .i64 d2, .int .i64 d3] 33)).alloc (by have h := ((Below.refl w2.heap.size w2.drew).alloc (by have h := (Below.refl w2.heap.size w2.drew).size; exact h) (.cells #[.int .i64 dk, .int .i64 dv, .int .i64 de, .int .i64 dc, .int .i64 dn, .int .i64 d1, .int .i64 d2, .int .i64 d3] 33)).size; exact h) (.cells #[] 33)).size; exact h) ?_
  intro v6 w6 hown6 hgr6 hat6
  have HO6 := Lib.hid (show w6.ownsRow w2.heap.size 33 8 v6 nb (row ccl L) from by have h := hown6; rw [Nat.zero_add] at h; simpa using h)
  have HB6 := Lib.hid ((((Below.refl w2.heap.size w2.drew).alloc (by have h := (Below.refl w2.heap.size w2.drew).size; exact h) (.cells #[.int .i64 dk, .int .i64 dv, .int .i64 de, .int .i64 dc, .int .i64 dn, .int .i64 d1, .int .i64 d2, .int .i64 d3] 33)).alloc (by have h := ((Below.refl w2.heap.size w2.drew).alloc (by have h := (Below.refl w2.heap.size w2.drew).size; exact h) (.cells #[.int .i64 dk, .int .i64 dv, .int .i64 de, .int .i64 dc, .int .i64 dn, .int .i64 d1, .int .i64 d2, .int .i64 d3] 33)).size; exact h) (.cells #[] 33)).grown hgr6 (by have h := (((Below.refl w2.heap.size w2.drew).alloc (by have h := (Below.refl w2.heap.size w2.drew).size; exact h) (.cells #[.int .i64 dk, .int .i64 dv, .int .i64 de, .int .i64 dc, .int .i64 dn, .int .i64 d1, .int .i64 d2, .int .i64 d3] 33)).alloc (by have h := ((Below.refl w2.heap.size w2.drew).alloc (by have h := (Below.refl w2.heap.size w2.drew).size; exact h) (.cells #[.int .i64 dk, .int .i64 dv, .int .i64 de, .int .i64 dc, .int .i64 dn, .int .i64 d1, .int .i64 d2, .int .i64 d3] 33)).size; exact h) (.cells #[] 33)).size; exact h) (fun j hj => by have h := ((own_litAt14 (w2.drew.alloc (.cells #[.int .i64 dk, .int .i64 dv, .int .i64 de, .int .i64 dc, .int .i64 dn, .int .i64 d1, .int .i64 d2, .int .i64 d3] 33)) w2.heap.size 33 8 (w2.heap.size + 1) (by simp) (by omega))).lt j hj; exact h.1))
  have S6 := HS.out _ HB6.out
  refine hK.out _ _ (S6) (fun hHeld => ?_)
  clear hK K
  try simp only [Act.put, List.getElem_toArray, List.getElem_cons_zero, List.getElem_cons_succ, List.setIfInBounds_toArray, List.set_cons_zero, List.set_cons_succ]
  refine AnyE.next (rs := [11]) (by kernel_rfl) (by simp) ?_
  refine AllE.cons rfl (fun K hK => ?_) AllE.nil
  refine step_append_X (by rfl) _ _ 26 rfl w2.heap.size 33 i0 _ 8 64 Try.underlying26 HI0.out HZ0.out HZ1.out HZ2.out rfl (by decide) _ (row ccl L) nb rfl HO6.out _ 1 _ rfl ((((IsX.litAt14 w2.drew #[.int .i64 dk, .int .i64 dv, .int .i64 de, .int .i64 dc, .int .i64 dn, .int .i64 d1, .int .i64 d2, .int .i64 d3] 33 8 1 w2.heap.size rfl rfl (by decide))).mono (bel_alloc15 _ (.cells #[] 33)) (Nat.le_refl _)).kept ((Kept.refl (fun j => some (w2.heap.size + 1) = some j) _).grown hgr6 (fun k hk => .inl hk)) (fun k hk hs => by have h1 : some w2.heap.size = some k := hk.2; have h2 := Option.some.inj h1; have h3 := Option.some.inj hs; omega)) (fun u hu => ccl_one ⟨dk, dv, de, dc, dn, d1, d2, d3⟩ u hu) (by have h := HNB.out; unfold maxLen; omega) (by have h := HNB.out; omega) (by have h := HB6.out.size; exact h) ?_
  intro v9 w9 hown9 hgr9 hat9
  have HB9 := Lib.hid (HB6.out.grown hgr9 (by have h := HB6.out.size; exact h) (fun j hj => by have h := (HO6.out).lt j hj; exact h.1))
  have HX9 := Lib.hid (show IsX w9 8 v9 (nb + 1) (row ccl (L ++ [⟨dk, dv, de, dc, dn, d1, d2, d3⟩])) from IsX.own (by rw [row_append, row_one]; exact hown9))
  have S9 := HS.out _ HB9.out
  clear hown9 hgr9 hat9
  refine hK.out _ _ (S9) (fun hHeld => ?_)
  clear hK K
  try simp only [Act.put, List.getElem_toArray, List.getElem_cons_zero, List.getElem_cons_succ, List.setIfInBounds_toArray, List.set_cons_zero, List.set_cons_succ]
  refine AnyE.next (rs := [12]) (by kernel_rfl) (by simp) ?_
  refine AllE.cons rfl (fun K hK => ?_) AllE.nil
  go_simp
  refine (rwith20_1 xa xb na nb ca cb true true 0 tm st v9 (nb + 1) (L ++ [⟨dk, dv, de, dc, dn, d1, d2, d3⟩]) w9 HX9.out (by have h := HNB.out; omega)).mono ?_
  rintro e w10 ⟨x, k, rfl, hx10, ho10, hb10⟩
  skip
  have HX10 := Lib.hid hx10
  have HO10 := Lib.hid (show ∀ q, (Value.slice x (nb + 1) k).ownBlock = some q → w2.heap.size ≤ q from fun q e => Nat.le_trans HB9.out.size (ho10 q e))
  have HB10 := Lib.hid (HB9.out.trans (hb10.mono HB9.out.size))
  clear hx10 ho10 hb10
  refine hK.out _ _ (HS.out _ HB10.out) (fun hHeld => ?_)
  clear hK K
  try simp only [Act.put, List.getElem_toArray, List.getElem_cons_zero, List.getElem_cons_succ, List.setIfInBounds_toArray, List.set_cons_zero, List.set_cons_succ]
  refine AnyE.next (rs := [13]) (by kernel_rfl) (by simp) ?_
  refine AllE.last rfl (fun K hK => ?_)
  refine step_store7 rfl 29 Try.sizePr20 _ _ rfl Y 29 (show Blk w10 Y #[.slice xa na ca, .slice xb nb cb, .bool true, .bool true, .int .i64 0, .int .i64 tm, .int .i64 st] 29 from HY2.out.below ((Below.refl w2.heap.size w2).drew.trans HB10.out) HY2.out.lt) rfl rfl ?_
  intro w11 hy11 hk11
  have HY11 := Lib.hid hy11
  have HR11 := Lib.hid ((HR2.out.below ((Below.refl w2.heap.size w2).drew.trans HB10.out) HR2.out.lt).kept hk11 (fun e => HYR.out e.symm))
  have HX11 := Lib.hid (HX10.out.kept hk11 (fun q hq e => by have h1 := HO10.out q hq.2; have h2 := HY2.out.lt; omega))
  have HB11 := Lib.hid ((HB2.out.trans (((Below.refl w2.heap.size w2).drew.trans HB10.out).mono HB2.out.size)).trans (hk11.below (Nat.le_trans HB2.out.size (show w2.heap.size ≤ w10.heap.size from HB10.out.size)) (fun q hq e => by have h1 := HYW.out; omega)))
  clear hy11 hk11
  refine hK.out _ _ ?_
  clear hK K
  try simp only [Act.put, List.getElem_toArray, List.getElem_cons_zero, List.getElem_cons_succ, List.setIfInBounds_toArray, List.set_cons_zero, List.set_cons_succ]
  refine AnyE.done (by kernel_rfl) ?_ _
  have y0 := HY11.out.cell 0 rfl
  have y1 := HY11.out.cell 1 rfl
  have y2 := HY11.out.cell 2 rfl
  have y3 := HY11.out.cell 3 rfl
  have y4 := HY11.out.cell 4 rfl
  have y5 := HY11.out.cell 5 rfl
  have y6 := HY11.out.cell 6 rfl
  go_wp2_with fail
  refine (rsettle20 xa x na (nb + 1) ca k true true 0 tm st ((nb : Int) + 1) _).mono ?_
  rintro e w12 ⟨rfl, hb12⟩
  rw [HST.out]
  unfold pcl
  have HR12 := Lib.hid (HR11.out.below hb12 HR11.out.lt)
  have HX12 := Lib.hid (HX11.out.mono hb12 (Nat.le_refl _))
  have HB12 := Lib.hid (HB11.out.trans (hb12.mono HB11.out.size))
  clear hb12 y0 y1 y2 y3 y4 y5 y6
  go_wp2_with (refine wpList_store7 rfl 29 Try.sizePr20 _ _ rfl R 29 HR12.out rfl rfl ?_)
  intro w15 hr15 hk15
  have HB15 := Lib.hid (HB12.out.trans (hk15.below HB12.out.size (fun q hq e => by have h1 := HRe.out; omega)))
  have HX15 := Lib.hid (HX12.out.kept hk15 (fun q hq e => by have h1 := HO10.out q hq.2; have h2 := HR2.out.lt; omega))
  have HO15 := Lib.hid (show ∀ q, (Value.slice x (nb + 1) k).ownBlock = some q → w.heap.size ≤ q from fun q e => Nat.le_trans HB2.out.size (HO10.out q e))
  have z0 := hr15.cell 0 rfl
  have z1 := hr15.cell 1 rfl
  have z2 := hr15.cell 2 rfl
  have z3 := hr15.cell 3 rfl
  have z4 := hr15.cell 4 rfl
  have z5 := hr15.cell 5 rfl
  have z6 := hr15.cell 6 rfl
  clear hr15 hk15
  go_wp2
  exact bodyPost_ret (v := .tuple #[.agg #[.slice xa na ca, .slice x (nb + 1) k, .bool true, .bool true, .int .i64 0, .int .i64 tm, .int .i64 ST], .int .i64 0, .int .i64 0]) (by simp [results, Try.results10, go_sem, z0, z1, z2, z3, z4, z5, z6]) rfl ⟨x, k, rfl, HX15.out, HO15.out, HB15.out⟩
set_option maxRecDepth 100000 in
set_option maxHeartbeats 8000000 in
theorem ship_ok1 (xa xb : Option Addr) (na nb ca cb : Nat) (L M : List Cm) (tm st sd ck cv ce cc cn c1 c2 c3 dk dv de dc dn d1 d2 d3 : Int) (w : World) (hv : IsX w 8 (.slice xa na ca) na (row ccl L)) (hm : IsX w 8 (.slice xb nb cb) nb (row ccl M)) (hn : na ≤ 1000) (hlt : na < nb) (hc : M[na]? = some ⟨dk, dv, de, dc, dn, d1, d2, d3⟩) :
    Calls Try.prog 10 #[.agg #[.slice xa na ca, .slice xb nb cb, .bool true, .bool true, .int .i64 1, .int .i64 tm, .int .i64 st], .agg #[.int .i64 1, .int .i64 tm, .int .i64 sd, .int .i64 ck, .int .i64 cv, .int .i64 ce, .int .i64 cc, .int .i64 cn, .int .i64 c1, .int .i64 c2, .int .i64 c3]] w fun e w' => ∃ x k, e = .returned (.tuple #[.agg #[.slice x (na + 1) k, .slice xb nb cb, .bool true, .bool true, .int .i64 1, .int .i64 tm, .int .i64 (if st < (na : Int) + 1 then (na : Int) + 1 else st)], .int .i64 0, .int .i64 0]) ∧ IsX w' 8 (.slice x (na + 1) k) (na + 1) (row ccl (L ++ [⟨dk, dv, de, dc, dn, d1, d2, d3⟩])) ∧ (∀ q, (Value.slice x (na + 1) k).ownBlock = some q → w.heap.size ≤ q) ∧ Below w.heap.size w w' := by
  obtain ⟨i0, hi0, hz0, hz1, hz2⟩ := info_parts Try.infoCmdR19
  have HI0 := Lib.hid hi0
  have HZ0 := Lib.hid hz0
  have HZ1 := Lib.hid hz1
  have HZ2 := Lib.hid hz2
  obtain ⟨b1, o1, hidx, _, hcell⟩ := indexAt_X (P := Try.prog) hm 26 33 Try.underlying26 Try.sizeCmdR20 na hlt
  have hce := fun q (hq : q < 8) => (hcell q hq).trans (row_get ccl_len hc q hq)
  have HCE := Lib.hid (fun (wx : World) (hb : Below w.heap.size w wx) (q : Nat) (u : Value) (h : w.cell? ⟨b1, o1 + q, none⟩ = some u) => (show wx.cell? ⟨b1, o1 + q, none⟩ = some u from (hb.cell (cell_lt h)).trans h))
  have HC8 := Lib.hid (show w.cell? ⟨b1, o1 + 0, none⟩ = some (.int .i64 dk) ∧ w.cell? ⟨b1, o1 + 1, none⟩ = some (.int .i64 dv) ∧ w.cell? ⟨b1, o1 + 2, none⟩ = some (.int .i64 de) ∧ w.cell? ⟨b1, o1 + 3, none⟩ = some (.int .i64 dc) ∧ w.cell? ⟨b1, o1 + 4, none⟩ = some (.int .i64 dn) ∧ w.cell? ⟨b1, o1 + 5, none⟩ = some (.int .i64 d1) ∧ w.cell? ⟨b1, o1 + 6, none⟩ = some (.int .i64 d2) ∧ w.cell? ⟨b1, o1 + 7, none⟩ = some (.int .i64 d3) from ⟨hce 0 (by decide), hce 1 (by decide), hce 2 (by decide), hce 3 (by decide), hce 4 (by decide), hce 5 (by decide), hce 6 (by decide), hce 7 (by decide)⟩)
  have hnl : ((na : Int) == (nb : Int)) = false := by rw [beq_eq_false_iff_ne]; omega
  have hww : wrap64 ((na : Int) + 1) = (na : Int) + 1 := IntWalk.wrap64_in _ (by omega)
  have HV := Lib.hid hv
  have HNB := Lib.hid hn
  clear hv hm hn hlt hc hcell hce hi0 hz0 hz1 hz2
  obtain ⟨ST, hST⟩ : ∃ z, (if st < (na : Int) + 1 then (na : Int) + 1 else st) = z := ⟨_, rfl⟩
  rw [hST]
  have HST := Lib.hid hST
  clear hST
  have hY := ((Blk.new w #[.slice xa na ca, .slice xb nb cb, .bool true, .bool true, .int .i64 1, .int .i64 tm, .int .i64 st] 29).alloc (.cells #[.int .i64 1, .int .i64 tm, .int .i64 sd, .int .i64 ck, .int .i64 cv, .int .i64 ce, .int .i64 cc, .int .i64 cn, .int .i64 c1, .int .i64 c2, .int .i64 c3] 35)).alloc (.cells #[.slice none 0 0, .slice none 0 0, .bool false, .bool false, .int .i64 0, .int .i64 0, .int .i64 0] 29)
  have hA := (Blk.new (w.alloc (.cells #[.slice xa na ca, .slice xb nb cb, .bool true, .bool true, .int .i64 1, .int .i64 tm, .int .i64 st] 29)) #[.int .i64 1, .int .i64 tm, .int .i64 sd, .int .i64 ck, .int .i64 cv, .int .i64 ce, .int .i64 cc, .int .i64 cn, .int .i64 c1, .int .i64 c2, .int .i64 c3] 35).alloc (.cells #[.slice none 0 0, .slice none 0 0, .bool false, .bool false, .int .i64 0, .int .i64 0, .int .i64 0] 29)
  have hR := Blk.new ((w.alloc (.cells #[.slice xa na ca, .slice xb nb cb, .bool true, .bool true, .int .i64 1, .int .i64 tm, .int .i64 st] 29)).alloc (.cells #[.int .i64 1, .int .i64 tm, .int .i64 sd, .int .i64 ck, .int .i64 cv, .int .i64 ce, .int .i64 cc, .int .i64 cn, .int .i64 c1, .int .i64 c2, .int .i64 c3] 35)) #[.slice none 0 0, .slice none 0 0, .bool false, .bool false, .int .i64 0, .int .i64 0, .int .i64 0] 29
  have hB := (((Below.refl w.heap.size w).alloc (Nat.le_refl _) (.cells #[.slice xa na ca, .slice xb nb cb, .bool true, .bool true, .int .i64 1, .int .i64 tm, .int .i64 st] 29)).alloc (by simp) (.cells #[.int .i64 1, .int .i64 tm, .int .i64 sd, .int .i64 ck, .int .i64 cv, .int .i64 ce, .int .i64 cc, .int .i64 cn, .int .i64 c1, .int .i64 c2, .int .i64 c3] 35)).alloc (by simp; omega) (.cells #[.slice none 0 0, .slice none 0 0, .bool false, .bool false, .int .i64 0, .int .i64 0, .int .i64 0] 29)
  obtain ⟨w0, hW⟩ : ∃ z, ((w.alloc (.cells #[.slice xa na ca, .slice xb nb cb, .bool true, .bool true, .int .i64 1, .int .i64 tm, .int .i64 st] 29)).alloc (.cells #[.int .i64 1, .int .i64 tm, .int .i64 sd, .int .i64 ck, .int .i64 cv, .int .i64 ce, .int .i64 cc, .int .i64 cn, .int .i64 c1, .int .i64 c2, .int .i64 c3] 35)).alloc (.cells #[.slice none 0 0, .slice none 0 0, .bool false, .bool false, .int .i64 0, .int .i64 0, .int .i64 0] 29) = z := ⟨_, rfl⟩
  rw [hW] at hY hA hR hB
  obtain ⟨Y, hYe⟩ : ∃ z, w.heap.size = z := ⟨_, rfl⟩
  obtain ⟨X, hXe⟩ : ∃ z, (w.alloc (.cells #[.slice xa na ca, .slice xb nb cb, .bool true, .bool true, .int .i64 1, .int .i64 tm, .int .i64 st] 29)).heap.size = z := ⟨_, rfl⟩
  obtain ⟨R, hRe⟩ : ∃ z, ((w.alloc (.cells #[.slice xa na ca, .slice xb nb cb, .bool true, .bool true, .int .i64 1, .int .i64 tm, .int .i64 st] 29)).alloc (.cells #[.int .i64 1, .int .i64 tm, .int .i64 sd, .int .i64 ck, .int .i64 cv, .int .i64 ce, .int .i64 cc, .int .i64 cn, .int .i64 c1, .int .i64 c2, .int .i64 c3] 35)).heap.size = z := ⟨_, rfl⟩
  rw [hYe] at hY
  rw [hXe] at hA
  rw [hRe] at hR
  have hX1 : w.heap.size + 1 = X := by rw [← hXe]; simp
  have hR1 : w.heap.size + 1 + 1 = R := by rw [← hRe]; simp
  have HW := Lib.hid hW
  have HYe := Lib.hid hYe
  have HXe := Lib.hid hX1
  have HRe := Lib.hid hR1
  have HY := Lib.hid hY
  have HA := Lib.hid hA
  have HR := Lib.hid hR
  have HB := Lib.hid hB
  clear hW hYe hXe hRe hX1 hR1 hA hR hB
  have y4 := hY.cell 4 rfl
  clear hY
  go_enter Try.func10, Try.ntmps10
  go_upto_region 1 with fail
  rw [HW.out]
  try rw [HRe.out]
  try rw [HXe.out]
  try rw [HYe.out]
  go_region
  go_upto_region 2 with fail
  clear y4
  have HS := Lib.hid (fun (wx : World) (hb : Below w0.heap.size w0 wx) => show wx.cell? ⟨Y, 0, none⟩ = some (.slice xa na ca) ∧ wx.cell? ⟨Y, 1, none⟩ = some (.slice xb nb cb) ∧ wx.cell? ⟨Y, 2, none⟩ = some (.bool true) ∧ wx.cell? ⟨Y, 3, none⟩ = some (.bool true) ∧ wx.cell? ⟨Y, 4, none⟩ = some (.int .i64 1) ∧ wx.cell? ⟨Y, 5, none⟩ = some (.int .i64 tm) ∧ wx.cell? ⟨Y, 6, none⟩ = some (.int .i64 st) from
    have h := HY.out.below hb HY.out.lt
    ⟨h.cell 0 rfl, h.cell 1 rfl, h.cell 2 rfl, h.cell 3 rfl, h.cell 4 rfl, h.cell 5 rfl, h.cell 6 rfl⟩)
  have S0 := HS.out w0.drew.drew (Below.refl w0.heap.size w0).drew.drew
  refine AnyE.start (S := (fun wx => wx.cell? ⟨Y, 0, none⟩ = some (.slice xa na ca) ∧ wx.cell? ⟨Y, 1, none⟩ = some (.slice xb nb cb) ∧ wx.cell? ⟨Y, 2, none⟩ = some (.bool true) ∧ wx.cell? ⟨Y, 3, none⟩ = some (.bool true) ∧ wx.cell? ⟨Y, 4, none⟩ = some (.int .i64 1) ∧ wx.cell? ⟨Y, 5, none⟩ = some (.int .i64 tm) ∧ wx.cell? ⟨Y, 6, none⟩ = some (.int .i64 st))) 7 (by kernel_rfl) (S0) (fun hHeld => ?_)
  refine AnyE.take (i := 0) (v := ?_) rfl (by kernel_rfl) (by kernel_rfl) (by kernel_rfl) (by kernel_rfl) (fun _ _ _ h => h) (Or.inl ⟨by rfl, ?_⟩) (by assumption) ?_
  rotate_left 1
  · intro w hSw
    (try dsimp only at hSw)
    go_simp
    all_goals (with_reducible rfl)
  try simp only [Act.put, List.getElem_toArray, List.getElem_cons_zero, List.getElem_cons_succ, List.setIfInBounds_toArray, List.set_cons_zero, List.set_cons_succ]
  refine AnyE.take (i := 1) (v := ?_) rfl (by kernel_rfl) (by kernel_rfl) (by kernel_rfl) (by kernel_rfl) (fun _ _ _ h => h) (Or.inl ⟨by rfl, ?_⟩) (by assumption) ?_
  rotate_left 1
  · intro w hSw
    (try dsimp only at hSw)
    go_simp
    all_goals (with_reducible rfl)
  try simp only [Act.put, List.getElem_toArray, List.getElem_cons_zero, List.getElem_cons_succ, List.setIfInBounds_toArray, List.set_cons_zero, List.set_cons_succ]
  refine AnyE.take (i := 3) (v := ?_) rfl (by kernel_rfl) (by kernel_rfl) (by kernel_rfl) (by kernel_rfl) (fun _ _ _ h => h) (Or.inl ⟨by rfl, ?_⟩) (by assumption) ?_
  rotate_left 1
  · intro w hSw
    (try dsimp only at hSw)
    go_simp
    all_goals (with_reducible rfl)
  try simp only [Act.put, List.getElem_toArray, List.getElem_cons_zero, List.getElem_cons_succ, List.setIfInBounds_toArray, List.set_cons_zero, List.set_cons_succ]
  refine AnyE.take (i := 4) (v := ?_) rfl (by kernel_rfl) (by kernel_rfl) (by kernel_rfl) (by kernel_rfl) (fun _ _ _ h => h) (Or.inl ⟨by rfl, ?_⟩) (by assumption) ?_
  rotate_left 1
  · intro w hSw
    (try dsimp only at hSw)
    go_simp
    all_goals (with_reducible rfl)
  try simp only [Act.put, List.getElem_toArray, List.getElem_cons_zero, List.getElem_cons_succ, List.setIfInBounds_toArray, List.set_cons_zero, List.set_cons_succ]
  refine AnyE.next (rs := [2]) (by kernel_rfl) (by simp) ?_
  refine AllE.cons rfl (fun K hK => ?_) AllE.nil
  go_simp
  refine (rlog20 xa xb na nb ca cb true true 1 tm st 1 _).mono ?_
  rintro e w1 ⟨rfl, hb1⟩
  refine hK.out _ _ (HS.out _ ((Below.refl w0.heap.size w0).drew.drew.trans (hb1.mono (Nat.le_refl _)))) (fun hHeld => ?_)
  clear hK K
  try simp only [Act.put, List.getElem_toArray, List.getElem_cons_zero, List.getElem_cons_succ, List.setIfInBounds_toArray, List.set_cons_zero, List.set_cons_succ]
  refine AnyE.next (rs := [5]) (by kernel_rfl) (by simp) ?_
  refine AllE.cons rfl (fun K hK => ?_) AllE.nil
  go_simp
  refine (rlog20 xa xb na nb ca cb true true 1 tm st 0 _).mono ?_
  rintro e w2 ⟨rfl, hb2⟩
  refine hK.out _ _ (HS.out _ (((Below.refl w0.heap.size w0).drew.drew.trans (hb1.mono (Nat.le_refl _))).trans (hb2.mono hb1.size))) (fun hHeld => ?_)
  clear hK K
  try simp only [Act.put, List.getElem_toArray, List.getElem_cons_zero, List.getElem_cons_succ, List.setIfInBounds_toArray, List.set_cons_zero, List.set_cons_succ]
  refine AnyE.next (rs := [6]) (by kernel_rfl) (by simp) ?_
  refine AllE.cons rfl (fun K hK => ?_) AllE.nil
  go_simp
  refine hK.out _ _ (HS.out _ (((Below.refl w0.heap.size w0).drew.drew.trans (hb1.mono (Nat.le_refl _))).trans (hb2.mono hb1.size))) (fun hHeld => ?_)
  clear hK K
  try simp only [Act.put, List.getElem_toArray, List.getElem_cons_zero, List.getElem_cons_succ, List.setIfInBounds_toArray, List.set_cons_zero, List.set_cons_succ]
  refine AnyE.next (rs := [7]) (by kernel_rfl) (by simp) ?_
  refine AllE.last rfl (fun K hK => ?_)
  go_simp
  refine hK.out _ _ ?_
  clear hK K
  try simp only [Act.put, List.getElem_toArray, List.getElem_cons_zero, List.getElem_cons_succ, List.setIfInBounds_toArray, List.set_cons_zero, List.set_cons_succ]
  refine AnyE.done (by kernel_rfl) ?_ _
  have hb20 := ((Below.refl w0.heap.size w0).drew.drew.trans (hb1.mono (Nat.le_refl _))).trans (hb2.mono hb1.size)
  have HY2 := Lib.hid (HY.out.below hb20 HY.out.lt)
  have HA2 := Lib.hid (HA.out.below hb20 HA.out.lt)
  have HR2 := Lib.hid (HR.out.below hb20 HR.out.lt)
  have HB2 := Lib.hid (HB.out.trans (hb20.mono HB.out.size))
  clear hb1 hb2 hb20 S0
  clear hHeld
  have y0 := HY2.out.cell 0 rfl
  have y1 := HY2.out.cell 1 rfl
  have y2 := HY2.out.cell 2 rfl
  have y3 := HY2.out.cell 3 rfl
  have y4 := HY2.out.cell 4 rfl
  have y5 := HY2.out.cell 5 rfl
  have y6 := HY2.out.cell 6 rfl
  have a0 := HA2.out.cell 0 rfl
  have a1 := HA2.out.cell 1 rfl
  have a2 := HA2.out.cell 2 rfl
  have HYR := Lib.hid (show Y ≠ R from by have h1 := HRe.out; have h2 := HYe.out; omega)
  have HYW := Lib.hid (show w.heap.size ≤ Y from by have h2 := HYe.out; omega)
  go_upto_region 20 with fail
  have HS := Lib.hid (fun (wx : World) (hb : Below w2.heap.size w2.drew wx) => show wx.cell? ⟨Y, 0, none⟩ = some (.slice xa na ca) ∧ wx.cell? ⟨Y, 1, none⟩ = some (.slice xb nb cb) ∧ wx.cell? ⟨Y, 2, none⟩ = some (.bool true) ∧ wx.cell? ⟨Y, 3, none⟩ = some (.bool true) ∧ wx.cell? ⟨Y, 4, none⟩ = some (.int .i64 1) ∧ wx.cell? ⟨Y, 5, none⟩ = some (.int .i64 tm) ∧ wx.cell? ⟨Y, 6, none⟩ = some (.int .i64 st) ∧ wx.cell? ⟨b1, o1, none⟩ = some (.int .i64 dk) ∧ wx.cell? ⟨b1, o1 + 1, none⟩ = some (.int .i64 dv) ∧ wx.cell? ⟨b1, o1 + 2, none⟩ = some (.int .i64 de) ∧ wx.cell? ⟨b1, o1 + 3, none⟩ = some (.int .i64 dc) ∧ wx.cell? ⟨b1, o1 + 4, none⟩ = some (.int .i64 dn) ∧ wx.cell? ⟨b1, o1 + 5, none⟩ = some (.int .i64 d1) ∧ wx.cell? ⟨b1, o1 + 6, none⟩ = some (.int .i64 d2) ∧ wx.cell? ⟨b1, o1 + 7, none⟩ = some (.int .i64 d3) from
    have h := HY2.out.below ((Below.refl w2.heap.size w2).drew.trans hb) HY2.out.lt
    have g := HCE.out wx (HB2.out.trans (((Below.refl w2.heap.size w2).drew.trans hb).mono HB2.out.size))
    ⟨h.cell 0 rfl, h.cell 1 rfl, h.cell 2 rfl, h.cell 3 rfl, h.cell 4 rfl, h.cell 5 rfl, h.cell 6 rfl, g 0 _ HC8.out.1, g 1 _ HC8.out.2.1, g 2 _ HC8.out.2.2.1, g 3 _ HC8.out.2.2.2.1, g 4 _ HC8.out.2.2.2.2.1, g 5 _ HC8.out.2.2.2.2.2.1, g 6 _ HC8.out.2.2.2.2.2.2.1, g 7 _ HC8.out.2.2.2.2.2.2.2⟩)
  have S0 := HS.out w2.drew (Below.refl _ _)
  have HVD := Lib.hid (show IsX w2.drew 8 (.slice xa na ca) na (row ccl L) from HV.out.mono HB2.out.drew (Nat.le_refl _))
  clear y0 y1 y2 y3 y4 y5 y6 a0 a1 a2
  refine AnyE.start (S := (fun wx => wx.cell? ⟨Y, 0, none⟩ = some (.slice xa na ca) ∧ wx.cell? ⟨Y, 1, none⟩ = some (.slice xb nb cb) ∧ wx.cell? ⟨Y, 2, none⟩ = some (.bool true) ∧ wx.cell? ⟨Y, 3, none⟩ = some (.bool true) ∧ wx.cell? ⟨Y, 4, none⟩ = some (.int .i64 1) ∧ wx.cell? ⟨Y, 5, none⟩ = some (.int .i64 tm) ∧ wx.cell? ⟨Y, 6, none⟩ = some (.int .i64 st) ∧ wx.cell? ⟨b1, o1, none⟩ = some (.int .i64 dk) ∧ wx.cell? ⟨b1, o1 + 1, none⟩ = some (.int .i64 dv) ∧ wx.cell? ⟨b1, o1 + 2, none⟩ = some (.int .i64 de) ∧ wx.cell? ⟨b1, o1 + 3, none⟩ = some (.int .i64 dc) ∧ wx.cell? ⟨b1, o1 + 4, none⟩ = some (.int .i64 dn) ∧ wx.cell? ⟨b1, o1 + 5, none⟩ = some (.int .i64 d1) ∧ wx.cell? ⟨b1, o1 + 6, none⟩ = some (.int .i64 d2) ∧ wx.cell? ⟨b1, o1 + 7, none⟩ = some (.int .i64 d3))) 13 (by kernel_rfl) (S0) (fun hHeld => ?_)
  refine AnyE.take (i := 0) (v := ?_) rfl (by kernel_rfl) (by kernel_rfl) (by kernel_rfl) (by kernel_rfl) (fun _ _ _ h => h) (Or.inl ⟨by rfl, ?_⟩) (by assumption) ?_
  rotate_left 1
  · intro w hSw
    (try dsimp only at hSw)
    go_simp
    all_goals (with_reducible rfl)
  try simp only [Act.put, List.getElem_toArray, List.getElem_cons_zero, List.getElem_cons_succ, List.setIfInBounds_toArray, List.set_cons_zero, List.set_cons_succ]
  refine AnyE.take (i := 1) (v := ?_) rfl (by kernel_rfl) (by kernel_rfl) (by kernel_rfl) (by kernel_rfl) (fun _ _ _ h => h) (Or.inl ⟨by rfl, ?_⟩) (by assumption) ?_
  rotate_left 1
  · intro w hSw
    (try dsimp only at hSw)
    go_simp
    all_goals (with_reducible rfl)
  try simp only [Act.put, List.getElem_toArray, List.getElem_cons_zero, List.getElem_cons_succ, List.setIfInBounds_toArray, List.set_cons_zero, List.set_cons_succ]
  refine AnyE.take (i := 3) (v := ?_) rfl (by kernel_rfl) (by kernel_rfl) (by kernel_rfl) (by kernel_rfl) (fun _ _ _ h => h) (Or.inl ⟨by rfl, ?_⟩) (by assumption) ?_
  rotate_left 1
  · intro w hSw
    (try dsimp only at hSw)
    go_simp
    all_goals (with_reducible rfl)
  try simp only [Act.put, List.getElem_toArray, List.getElem_cons_zero, List.getElem_cons_succ, List.setIfInBounds_toArray, List.set_cons_zero, List.set_cons_succ]
  refine AnyE.take (i := 5) (v := ?_) rfl (by kernel_rfl) (by kernel_rfl) (by kernel_rfl) (by kernel_rfl) (fun _ _ _ h => h) (Or.inl ⟨by rfl, ?_⟩) (by assumption) ?_
  rotate_left 1
  · intro w hSw
    (try dsimp only at hSw)
    go_simp
    all_goals (with_reducible rfl)
  try simp only [Act.put, List.getElem_toArray, List.getElem_cons_zero, List.getElem_cons_succ, List.setIfInBounds_toArray, List.set_cons_zero, List.set_cons_succ]
  refine AnyE.take (i := 6) (v := ?_) rfl (by kernel_rfl) (by kernel_rfl) (by kernel_rfl) (by kernel_rfl) (fun _ _ _ h => h) (Or.inl ⟨by rfl, ?_⟩) (by assumption) ?_
  rotate_left 1
  · intro w hSw
    (try dsimp only at hSw)
    go_simp
    all_goals (with_reducible rfl)
  try simp only [Act.put, List.getElem_toArray, List.getElem_cons_zero, List.getElem_cons_succ, List.setIfInBounds_toArray, List.set_cons_zero, List.set_cons_succ]
  refine AnyE.take (i := 7) (v := ?_) rfl (by kernel_rfl) (by kernel_rfl) (by kernel_rfl) (by kernel_rfl) (fun _ _ _ h => h) (Or.inl ⟨by rfl, ?_⟩) (by assumption) ?_
  rotate_left 1
  · intro w hSw
    (try dsimp only at hSw)
    go_simp
    all_goals (with_reducible rfl)
  try simp only [Act.put, List.getElem_toArray, List.getElem_cons_zero, List.getElem_cons_succ, List.setIfInBounds_toArray, List.set_cons_zero, List.set_cons_succ]
  refine AnyE.take (i := 8) (v := ?_) rfl (by kernel_rfl) (by kernel_rfl) (by kernel_rfl) (by kernel_rfl) (fun _ _ _ h => h) (Or.inl ⟨by rfl, ?_⟩) (by assumption) ?_
  rotate_left 1
  · intro w hSw
    (try dsimp only at hSw)
    go_simp
    all_goals (with_reducible rfl)
  try simp only [Act.put, List.getElem_toArray, List.getElem_cons_zero, List.getElem_cons_succ, List.setIfInBounds_toArray, List.set_cons_zero, List.set_cons_succ]
  refine AnyE.take (i := 9) (v := ?_) rfl (by kernel_rfl) (by kernel_rfl) (by kernel_rfl) (by kernel_rfl) (fun _ _ _ h => h) (Or.inl ⟨by rfl, ?_⟩) (by assumption) ?_
  rotate_left 1
  · intro w hSw
    (try dsimp only at hSw)
    go_simp
    all_goals (with_reducible rfl)
  try simp only [Act.put, List.getElem_toArray, List.getElem_cons_zero, List.getElem_cons_succ, List.setIfInBounds_toArray, List.set_cons_zero, List.set_cons_succ]
  refine AnyE.next (rs := [2, 10]) (by kernel_rfl) (by simp) ?_
  refine AllE.cons rfl (fun K hK => ?_) ?_
  · go_simp
    refine hK.out _ _ (HS.out _ ((Below.refl w2.heap.size w2.drew).alloc (by have h := (Below.refl w2.heap.size w2.drew).size; exact h) (.cells #[] 33))) (fun hHeld => ?_)
    clear hK K
    try simp only [Act.put, List.getElem_toArray, List.getElem_cons_zero, List.getElem_cons_succ, List.setIfInBounds_toArray, List.set_cons_zero, List.set_cons_succ]
    refine AnyE.next (rs := [4, 10]) (by kernel_rfl) (by simp) ?_
    refine AllE.cons rfl (fun K hK => ?_) ?_
    · refine step_append_X (by rfl) _ _ 26 rfl w2.heap.size 33 i0 _ 8 64 Try.underlying26 HI0.out HZ0.out HZ1.out HZ2.out rfl (by decide) _ [] 0 rfl (own_litAt14 w2.drew w2.heap.size 33 8 w2.heap.size rfl (Nat.le_refl _)) _ na _ rfl (HVD.out.mono ((Below.refl w2.heap.size w2.drew).alloc (by have h := (Below.refl w2.heap.size w2.drew).size; exact h) (.cells #[] 33)) (Nat.le_refl _)) (row_mem fun x _ => ccl_one x) (by have h := HNB.out; unfold maxLen; omega) (by have h := HNB.out; omega) (by have h := ((Below.refl w2.heap.size w2.drew).alloc (by have h := (Below.refl w2.heap.size w2.drew).size; exact h) (.cells #[] 33)).size; exact h) ?_
      intro v6 w6 hown6 hgr6 hat6
      have HO6 := Lib.hid (show w6.ownsRow w2.heap.size 33 8 v6 na (row ccl L) from by have h := hown6; rw [Nat.zero_add] at h; simpa using h)
      have HB6 := Lib.hid (((Below.refl w2.heap.size w2.drew).alloc (by have h := (Below.refl w2.heap.size w2.drew).size; exact h) (.cells #[] 33)).grown hgr6 (by have h := ((Below.refl w2.heap.size w2.drew).alloc (by have h := (Below.refl w2.heap.size w2.drew).size; exact h) (.cells #[] 33)).size; exact h) (fun j hj => by have h := ((own_litAt14 w2.drew w2.heap.size 33 8 w2.heap.size rfl (Nat.le_refl _))).lt j hj; exact h.1))
      have S6 := HS.out _ HB6.out
      refine hK.out _ _ (S6) (fun hHeld => ?_)
      clear hK K
      try simp only [Act.put, List.getElem_toArray, List.getElem_cons_zero, List.getElem_cons_succ, List.setIfInBounds_toArray, List.set_cons_zero, List.set_cons_succ]
      refine AnyE.next (rs := [10]) (by kernel_rfl) (by simp) ?_
      refine AllE.cons rfl (fun K hK => ?_) AllE.nil
      go_simp
      refine hK.out _ _ (HS.out _ (HB6.out.alloc HB6.out.size (.cells #[.int .i64 dk, .int .i64 dv, .int .i64 de, .int .i64 dc, .int .i64 dn, .int .i64 d1, .int .i64 d2, .int .i64 d3] 33))) (fun hHeld => ?_)
      clear hK K
      try simp only [Act.put, List.getElem_toArray, List.getElem_cons_zero, List.getElem_cons_succ, List.setIfInBounds_toArray, List.set_cons_zero, List.set_cons_succ]
      refine AnyE.next (rs := [11]) (by kernel_rfl) (by simp) ?_
      refine AllE.cons rfl (fun K hK => ?_) AllE.nil
      refine step_append_X (by rfl) _ _ 26 rfl w2.heap.size 33 i0 _ 8 64 Try.underlying26 HI0.out HZ0.out HZ1.out HZ2.out rfl (by decide) _ (row ccl L) na rfl (HO6.out.alloc (.cells #[.int .i64 dk, .int .i64 dv, .int .i64 de, .int .i64 dc, .int .i64 dn, .int .i64 d1, .int .i64 d2, .int .i64 d3] 33)) _ 1 _ rfl (IsX.litAt14 w6 #[.int .i64 dk, .int .i64 dv, .int .i64 de, .int .i64 dc, .int .i64 dn, .int .i64 d1, .int .i64 d2, .int .i64 d3] 33 8 1 w6.heap.size rfl rfl (by decide)) (fun u hu => ccl_one ⟨dk, dv, de, dc, dn, d1, d2, d3⟩ u hu) (by have h := HNB.out; unfold maxLen; omega) (by have h := HNB.out; omega) (by have h := (HB6.out.alloc HB6.out.size (.cells #[.int .i64 dk, .int .i64 dv, .int .i64 de, .int .i64 dc, .int .i64 dn, .int .i64 d1, .int .i64 d2, .int .i64 d3] 33)).size; exact h) ?_
      intro v9 w9 hown9 hgr9 hat9
      have HB9 := Lib.hid ((HB6.out.alloc HB6.out.size (.cells #[.int .i64 dk, .int .i64 dv, .int .i64 de, .int .i64 dc, .int .i64 dn, .int .i64 d1, .int .i64 d2, .int .i64 d3] 33)).grown hgr9 (by have h := (HB6.out.alloc HB6.out.size (.cells #[.int .i64 dk, .int .i64 dv, .int .i64 de, .int .i64 dc, .int .i64 dn, .int .i64 d1, .int .i64 d2, .int .i64 d3] 33)).size; exact h) (fun j hj => by have h := ((HO6.out.alloc (.cells #[.int .i64 dk, .int .i64 dv, .int .i64 de, .int .i64 dc, .int .i64 dn, .int .i64 d1, .int .i64 d2, .int .i64 d3] 33))).lt j hj; exact h.1))
      have HX9 := Lib.hid (show IsX w9 8 v9 (na + 1) (row ccl (L ++ [⟨dk, dv, de, dc, dn, d1, d2, d3⟩])) from IsX.own (by rw [row_append, row_one]; exact hown9))
      have S9 := HS.out _ HB9.out
      clear hown9 hgr9 hat9
      refine hK.out _ _ (S9) (fun hHeld => ?_)
      clear hK K
      try simp only [Act.put, List.getElem_toArray, List.getElem_cons_zero, List.getElem_cons_succ, List.setIfInBounds_toArray, List.set_cons_zero, List.set_cons_succ]
      refine AnyE.next (rs := [12]) (by kernel_rfl) (by simp) ?_
      refine AllE.cons rfl (fun K hK => ?_) AllE.nil
      go_simp
      refine (rwith20_0 xa xb na nb ca cb true true 1 tm st v9 (na + 1) (L ++ [⟨dk, dv, de, dc, dn, d1, d2, d3⟩]) w9 HX9.out (by have h := HNB.out; omega)).mono ?_
      rintro e w10 ⟨x, k, rfl, hx10, ho10, hb10⟩
      skip
      have HX10 := Lib.hid hx10
      have HO10 := Lib.hid (show ∀ q, (Value.slice x (na + 1) k).ownBlock = some q → w2.heap.size ≤ q from fun q e => Nat.le_trans HB9.out.size (ho10 q e))
      have HB10 := Lib.hid (HB9.out.trans (hb10.mono HB9.out.size))
      clear hx10 ho10 hb10
      refine hK.out _ _ (HS.out _ HB10.out) (fun hHeld => ?_)
      clear hK K
      try simp only [Act.put, List.getElem_toArray, List.getElem_cons_zero, List.getElem_cons_succ, List.setIfInBounds_toArray, List.set_cons_zero, List.set_cons_succ]
      refine AnyE.next (rs := [13]) (by kernel_rfl) (by simp) ?_
      refine AllE.last rfl (fun K hK => ?_)
      refine step_store7 rfl 29 Try.sizePr20 _ _ rfl Y 29 (show Blk w10 Y #[.slice xa na ca, .slice xb nb cb, .bool true, .bool true, .int .i64 1, .int .i64 tm, .int .i64 st] 29 from HY2.out.below ((Below.refl w2.heap.size w2).drew.trans HB10.out) HY2.out.lt) rfl rfl ?_
      intro w11 hy11 hk11
      have HY11 := Lib.hid hy11
      have HR11 := Lib.hid ((HR2.out.below ((Below.refl w2.heap.size w2).drew.trans HB10.out) HR2.out.lt).kept hk11 (fun e => HYR.out e.symm))
      have HX11 := Lib.hid (HX10.out.kept hk11 (fun q hq e => by have h1 := HO10.out q hq.2; have h2 := HY2.out.lt; omega))
      have HB11 := Lib.hid ((HB2.out.trans (((Below.refl w2.heap.size w2).drew.trans HB10.out).mono HB2.out.size)).trans (hk11.below (Nat.le_trans HB2.out.size (show w2.heap.size ≤ w10.heap.size from HB10.out.size)) (fun q hq e => by have h1 := HYW.out; omega)))
      clear hy11 hk11
      refine hK.out _ _ ?_
      clear hK K
      try simp only [Act.put, List.getElem_toArray, List.getElem_cons_zero, List.getElem_cons_succ, List.setIfInBounds_toArray, List.set_cons_zero, List.set_cons_succ]
      refine AnyE.done (by kernel_rfl) ?_ _
      have y0 := HY11.out.cell 0 rfl
      have y1 := HY11.out.cell 1 rfl
      have y2 := HY11.out.cell 2 rfl
      have y3 := HY11.out.cell 3 rfl
      have y4 := HY11.out.cell 4 rfl
      have y5 := HY11.out.cell 5 rfl
      have y6 := HY11.out.cell 6 rfl
      go_wp2_with fail
      refine (rsettle20 x xb (na + 1) nb k cb true true 1 tm st ((na : Int) + 1) _).mono ?_
      rintro e w12 ⟨rfl, hb12⟩
      rw [HST.out]
      unfold pcl
      have HR12 := Lib.hid (HR11.out.below hb12 HR11.out.lt)
      have HX12 := Lib.hid (HX11.out.mono hb12 (Nat.le_refl _))
      have HB12 := Lib.hid (HB11.out.trans (hb12.mono HB11.out.size))
      clear hb12 y0 y1 y2 y3 y4 y5 y6
      go_wp2_with (refine wpList_store7 rfl 29 Try.sizePr20 _ _ rfl R 29 HR12.out rfl rfl ?_)
      intro w15 hr15 hk15
      have HB15 := Lib.hid (HB12.out.trans (hk15.below HB12.out.size (fun q hq e => by have h1 := HRe.out; omega)))
      have HX15 := Lib.hid (HX12.out.kept hk15 (fun q hq e => by have h1 := HO10.out q hq.2; have h2 := HR2.out.lt; omega))
      have HO15 := Lib.hid (show ∀ q, (Value.slice x (na + 1) k).ownBlock = some q → w.heap.size ≤ q from fun q e => Nat.le_trans HB2.out.size (HO10.out q e))
      have z0 := hr15.cell 0 rfl
      have z1 := hr15.cell 1 rfl
      have z2 := hr15.cell 2 rfl
      have z3 := hr15.cell 3 rfl
      have z4 := hr15.cell 4 rfl
      have z5 := hr15.cell 5 rfl
      have z6 := hr15.cell 6 rfl
      clear hr15 hk15
      go_wp2
      exact bodyPost_ret (v := .tuple #[.agg #[.slice x (na + 1) k, .slice xb nb cb, .bool true, .bool true, .int .i64 1, .int .i64 tm, .int .i64 ST], .int .i64 0, .int .i64 0]) (by simp [results, Try.results10, go_sem, z0, z1, z2, z3, z4, z5, z6]) rfl ⟨x, k, rfl, HX15.out, HO15.out, HB15.out⟩
    refine AllE.cons rfl (fun K hK => ?_) AllE.nil
    go_simp
    refine hK.out _ _ (HS.out _ (((Below.refl w2.heap.size w2.drew).alloc (by have h := (Below.refl w2.heap.size w2.drew).size; exact h) (.cells #[] 33)).alloc (by have h := ((Below.refl w2.heap.size w2.drew).alloc (by have h := (Below.refl w2.heap.size w2.drew).size; exact h) (.cells #[] 33)).size; exact h) (.cells #[.int .i64 dk, .int .i64 dv, .int .i64 de, .int .i64 dc, .int .i64 dn, .int .i64 d1, .int .i64 d2, .int .i64 d3] 33))) (fun hHeld => ?_)
    clear hK K
    try simp only [Act.put, List.getElem_toArray, List.getElem_cons_zero, List.getElem_cons_succ, List.setIfInBounds_toArray, List.set_cons_zero, List.set_cons_succ]
    refine AnyE.next (rs := [4]) (by kernel_rfl) (by simp) ?_
    refine AllE.cons rfl (fun K hK => ?_) AllE.nil
    refine step_append_X (by rfl) _ _ 26 rfl w2.heap.size 33 i0 _ 8 64 Try.underlying26 HI0.out HZ0.out HZ1.out HZ2.out rfl (by decide) _ [] 0 rfl ((own_litAt14 w2.drew w2.heap.size 33 8 w2.heap.size rfl (Nat.le_refl _)).alloc (.cells #[.int .i64 dk, .int .i64 dv, .int .i64 de, .int .i64 dc, .int .i64 dn, .int .i64 d1, .int .i64 d2, .int .i64 d3] 33)) _ na _ rfl (HVD.out.mono (((Below.refl w2.heap.size w2.drew).alloc (by have h := (Below.refl w2.heap.size w2.drew).size; exact h) (.cells #[] 33)).alloc (by have h := ((Below.refl w2.heap.size w2.drew).alloc (by have h := (Below.refl w2.heap.size w2.drew).size; exact h) (.cells #[] 33)).size; exact h) (.cells #[.int .i64 dk, .int .i64 dv, .int .i64 de, .int .i64 dc, .int .i64 dn, .int .i64 d1, .int .i64 d2, .int .i64 d3] 33)) (Nat.le_refl _)) (row_mem fun x _ => ccl_one x) (by have h := HNB.out; unfold maxLen; omega) (by have h := HNB.out; omega) (by have h := (((Below.refl w2.heap.size w2.drew).alloc (by have h := (Below.refl w2.heap.size w2.drew).size; exact h) (.cells #[] 33)).alloc (by have h := ((Below.refl w2.heap.size w2.drew).alloc (by have h := (Below.refl w2.heap.size w2.drew).size; exact h) (.cells #[] 33)).size; exact h) (.cells #[.int .i64 dk, .int .i64 dv, .int .i64 de, .int .i64 dc, .int .i64 dn, .int .i64 d1, .int .i64 d2, .int .i64 d3] 33)).size; exact h) ?_
    intro v6 w6 hown6 hgr6 hat6
    have HO6 := Lib.hid (show w6.ownsRow w2.heap.size 33 8 v6 na (row ccl L) from by have h := hown6; rw [Nat.zero_add] at h; simpa using h)
    have HB6 := Lib.hid ((((Below.refl w2.heap.size w2.drew).alloc (by have h := (Below.refl w2.heap.size w2.drew).size; exact h) (.cells #[] 33)).alloc (by have h := ((Below.refl w2.heap.size w2.drew).alloc (by have h := (Below.refl w2.heap.size w2.drew).size; exact h) (.cells #[] 33)).size; exact h) (.cells #[.int .i64 dk, .int .i64 dv, .int .i64 de, .int .i64 dc, .int .i64 dn, .int .i64 d1, .int .i64 d2, .int .i64 d3] 33)).grown hgr6 (by have h := (((Below.refl w2.heap.size w2.drew).alloc (by have h := (Below.refl w2.heap.size w2.drew).size; exact h) (.cells #[] 33)).alloc (by have h := ((Below.refl w2.heap.size w2.drew).alloc (by have h := (Below.refl w2.heap.size w2.drew).size; exact h) (.cells #[] 33)).size; exact h) (.cells #[.int .i64 dk, .int .i64 dv, .int .i64 de, .int .i64 dc, .int .i64 dn, .int .i64 d1, .int .i64 d2, .int .i64 d3] 33)).size; exact h) (fun j hj => by have h := (((own_litAt14 w2.drew w2.heap.size 33 8 w2.heap.size rfl (Nat.le_refl _)).alloc (.cells #[.int .i64 dk, .int .i64 dv, .int .i64 de, .int .i64 dc, .int .i64 dn, .int .i64 d1, .int .i64 d2, .int .i64 d3] 33))).lt j hj; exact h.1))
    have S6 := HS.out _ HB6.out
    refine hK.out _ _ (S6) (fun hHeld => ?_)
    clear hK K
    try simp only [Act.put, List.getElem_toArray, List.getElem_cons_zero, List.getElem_cons_succ, List.setIfInBounds_toArray, List.set_cons_zero, List.set_cons_succ]
    refine AnyE.next (rs := [11]) (by kernel_rfl) (by simp) ?_
    refine AllE.cons rfl (fun K hK => ?_) AllE.nil
    refine step_append_X (by rfl) _ _ 26 rfl w2.heap.size 33 i0 _ 8 64 Try.underlying26 HI0.out HZ0.out HZ1.out HZ2.out rfl (by decide) _ (row ccl L) na rfl HO6.out _ 1 _ rfl (((IsX.litAt14 (w2.drew.alloc (.cells #[] 33)) #[.int .i64 dk, .int .i64 dv, .int .i64 de, .int .i64 dc, .int .i64 dn, .int .i64 d1, .int .i64 d2, .int .i64 d3] 33 8 1 (w2.heap.size + 1) (by simp) rfl (by decide))).kept ((Kept.refl (fun j => some w2.heap.size = some j) _).grown hgr6 (fun k hk => .inl hk)) (fun k hk hs => by have h1 : some (w2.heap.size + 1) = some k := hk.2; have h2 := Option.some.inj h1; have h3 := Option.some.inj hs; omega)) (fun u hu => ccl_one ⟨dk, dv, de, dc, dn, d1, d2, d3⟩ u hu) (by have h := HNB.out; unfold maxLen; omega) (by have h := HNB.out; omega) (by have h := HB6.out.size; exact h) ?_
    intro v9 w9 hown9 hgr9 hat9
    have HB9 := Lib.hid (HB6.out.grown hgr9 (by have h := HB6.out.size; exact h) (fun j hj => by have h := (HO6.out).lt j hj; exact h.1))
    have HX9 := Lib.hid (show IsX w9 8 v9 (na + 1) (row ccl (L ++ [⟨dk, dv, de, dc, dn, d1, d2, d3⟩])) from IsX.own (by rw [row_append, row_one]; exact hown9))
    have S9 := HS.out _ HB9.out
    clear hown9 hgr9 hat9
    refine hK.out _ _ (S9) (fun hHeld => ?_)
    clear hK K
    try simp only [Act.put, List.getElem_toArray, List.getElem_cons_zero, List.getElem_cons_succ, List.setIfInBounds_toArray, List.set_cons_zero, List.set_cons_succ]
    refine AnyE.next (rs := [12]) (by kernel_rfl) (by simp) ?_
    refine AllE.cons rfl (fun K hK => ?_) AllE.nil
    go_simp
    refine (rwith20_0 xa xb na nb ca cb true true 1 tm st v9 (na + 1) (L ++ [⟨dk, dv, de, dc, dn, d1, d2, d3⟩]) w9 HX9.out (by have h := HNB.out; omega)).mono ?_
    rintro e w10 ⟨x, k, rfl, hx10, ho10, hb10⟩
    skip
    have HX10 := Lib.hid hx10
    have HO10 := Lib.hid (show ∀ q, (Value.slice x (na + 1) k).ownBlock = some q → w2.heap.size ≤ q from fun q e => Nat.le_trans HB9.out.size (ho10 q e))
    have HB10 := Lib.hid (HB9.out.trans (hb10.mono HB9.out.size))
    clear hx10 ho10 hb10
    refine hK.out _ _ (HS.out _ HB10.out) (fun hHeld => ?_)
    clear hK K
    try simp only [Act.put, List.getElem_toArray, List.getElem_cons_zero, List.getElem_cons_succ, List.setIfInBounds_toArray, List.set_cons_zero, List.set_cons_succ]
    refine AnyE.next (rs := [13]) (by kernel_rfl) (by simp) ?_
    refine AllE.last rfl (fun K hK => ?_)
    refine step_store7 rfl 29 Try.sizePr20 _ _ rfl Y 29 (show Blk w10 Y #[.slice xa na ca, .slice xb nb cb, .bool true, .bool true, .int .i64 1, .int .i64 tm, .int .i64 st] 29 from HY2.out.below ((Below.refl w2.heap.size w2).drew.trans HB10.out) HY2.out.lt) rfl rfl ?_
    intro w11 hy11 hk11
    have HY11 := Lib.hid hy11
    have HR11 := Lib.hid ((HR2.out.below ((Below.refl w2.heap.size w2).drew.trans HB10.out) HR2.out.lt).kept hk11 (fun e => HYR.out e.symm))
    have HX11 := Lib.hid (HX10.out.kept hk11 (fun q hq e => by have h1 := HO10.out q hq.2; have h2 := HY2.out.lt; omega))
    have HB11 := Lib.hid ((HB2.out.trans (((Below.refl w2.heap.size w2).drew.trans HB10.out).mono HB2.out.size)).trans (hk11.below (Nat.le_trans HB2.out.size (show w2.heap.size ≤ w10.heap.size from HB10.out.size)) (fun q hq e => by have h1 := HYW.out; omega)))
    clear hy11 hk11
    refine hK.out _ _ ?_
    clear hK K
    try simp only [Act.put, List.getElem_toArray, List.getElem_cons_zero, List.getElem_cons_succ, List.setIfInBounds_toArray, List.set_cons_zero, List.set_cons_succ]
    refine AnyE.done (by kernel_rfl) ?_ _
    have y0 := HY11.out.cell 0 rfl
    have y1 := HY11.out.cell 1 rfl
    have y2 := HY11.out.cell 2 rfl
    have y3 := HY11.out.cell 3 rfl
    have y4 := HY11.out.cell 4 rfl
    have y5 := HY11.out.cell 5 rfl
    have y6 := HY11.out.cell 6 rfl
    go_wp2_with fail
    refine (rsettle20 x xb (na + 1) nb k cb true true 1 tm st ((na : Int) + 1) _).mono ?_
    rintro e w12 ⟨rfl, hb12⟩
    rw [HST.out]
    unfold pcl
    have HR12 := Lib.hid (HR11.out.below hb12 HR11.out.lt)
    have HX12 := Lib.hid (HX11.out.mono hb12 (Nat.le_refl _))
    have HB12 := Lib.hid (HB11.out.trans (hb12.mono HB11.out.size))
    clear hb12 y0 y1 y2 y3 y4 y5 y6
    go_wp2_with (refine wpList_store7 rfl 29 Try.sizePr20 _ _ rfl R 29 HR12.out rfl rfl ?_)
    intro w15 hr15 hk15
    have HB15 := Lib.hid (HB12.out.trans (hk15.below HB12.out.size (fun q hq e => by have h1 := HRe.out; omega)))
    have HX15 := Lib.hid (HX12.out.kept hk15 (fun q hq e => by have h1 := HO10.out q hq.2; have h2 := HR2.out.lt; omega))
    have HO15 := Lib.hid (show ∀ q, (Value.slice x (na + 1) k).ownBlock = some q → w.heap.size ≤ q from fun q e => Nat.le_trans HB2.out.size (HO10.out q e))
    have z0 := hr15.cell 0 rfl
    have z1 := hr15.cell 1 rfl
    have z2 := hr15.cell 2 rfl
    have z3 := hr15.cell 3 rfl
    have z4 := hr15.cell 4 rfl
    have z5 := hr15.cell 5 rfl
    have z6 := hr15.cell 6 rfl
    clear hr15 hk15
    go_wp2
    exact bodyPost_ret (v := .tuple #[.agg #[.slice x (na + 1) k, .slice xb nb cb, .bool true, .bool true, .int .i64 1, .int .i64 tm, .int .i64 ST], .int .i64 0, .int .i64 0]) (by simp [results, Try.results10, go_sem, z0, z1, z2, z3, z4, z5, z6]) rfl ⟨x, k, rfl, HX15.out, HO15.out, HB15.out⟩
  refine AllE.cons rfl (fun K hK => ?_) AllE.nil
  go_simp
  refine hK.out _ _ (HS.out _ ((Below.refl w2.heap.size w2.drew).alloc (by have h := (Below.refl w2.heap.size w2.drew).size; exact h) (.cells #[.int .i64 dk, .int .i64 dv, .int .i64 de, .int .i64 dc, .int .i64 dn, .int .i64 d1, .int .i64 d2, .int .i64 d3] 33))) (fun hHeld => ?_)
  clear hK K
  try simp only [Act.put, List.getElem_toArray, List.getElem_cons_zero, List.getElem_cons_succ, List.setIfInBounds_toArray, List.set_cons_zero, List.set_cons_succ]
  refine AnyE.next (rs := [2]) (by kernel_rfl) (by simp) ?_
  refine AllE.cons rfl (fun K hK => ?_) AllE.nil
  go_simp
  refine hK.out _ _ (HS.out _ (((Below.refl w2.heap.size w2.drew).alloc (by have h := (Below.refl w2.heap.size w2.drew).size; exact h) (.cells #[.int .i64 dk, .int .i64 dv, .int .i64 de, .int .i64 dc, .int .i64 dn, .int .i64 d1, .int .i64 d2, .int .i64 d3] 33)).alloc (by have h := ((Below.refl w2.heap.size w2.drew).alloc (by have h := (Below.refl w2.heap.size w2.drew).size; exact h) (.cells #[.int .i64 dk, .int .i64 dv, .int .i64 de, .int .i64 dc, .int .i64 dn, .int .i64 d1, .int .i64 d2, .int .i64 d3] 33)).size; exact h) (.cells #[] 33))) (fun hHeld => ?_)
  clear hK K
  try simp only [Act.put, List.getElem_toArray, List.getElem_cons_zero, List.getElem_cons_succ, List.setIfInBounds_toArray, List.set_cons_zero, List.set_cons_succ]
  refine AnyE.next (rs := [4]) (by kernel_rfl) (by simp) ?_
  refine AllE.cons rfl (fun K hK => ?_) AllE.nil
  refine step_append_X (by rfl) _ _ 26 rfl w2.heap.size 33 i0 _ 8 64 Try.underlying26 HI0.out HZ0.out HZ1.out HZ2.out rfl (by decide) _ [] 0 rfl (own_litAt14 (w2.drew.alloc (.cells #[.int .i64 dk, .int .i64 dv, .int .i64 de, .int .i64 dc, .int .i64 dn, .int .i64 d1, .int .i64 d2, .int .i64 d3] 33)) w2.heap.size 33 8 (w2.heap.size + 1) (by simp) (by omega)) _ na _ rfl (HVD.out.mono (((Below.refl w2.heap.size w2.drew).alloc (by have h := (Below.refl w2.heap.size w2.drew).size; exact h) (.cells #[.int .i64 dk, .int .i64 dv, .int .i64 de, .int .i64 dc, .int .i64 dn, .int .i64 d1, .int .i64 d2, .int .i64 d3] 33)).alloc (by have h := ((Below.refl w2.heap.size w2.drew).alloc (by have h := (Below.refl w2.heap.size w2.drew).size; exact h) (.cells #[.int .i64 dk, .int .i64 dv, .int .i64 de, .int .i64 dc, .int .i64 dn, .int .i64 d1, .int .i64 d2, .int .i64 d3] 33)).size; exact h) (.cells #[] 33)) (Nat.le_refl _)) (row_mem fun x _ => ccl_one x) (by have h := HNB.out; unfold maxLen; omega) (by have h := HNB.out; omega) (by have h := (((Below.refl w2.heap.size w2.drew).alloc (by have h := (Below.refl w2.heap.size w2.drew).size; exact h) (.cells #[.int .i64 dk, .int .i64 dv, .int .i64 de, .int .i64 dc, .int .i64 dn, .int .i64 d1, .int .i64 d2, .int .i64 d3] 33)).alloc (by have h := ((Below.refl w2.heap.size w2.drew).alloc (by have h := (Below.refl w2.heap.size w2.drew).size; exact h) (.cells #[.int .i64 dk, .int .i64 dv, .int .i64 de, .int .i64 dc, .int .i64 dn, .int .i64 d1, .int .i64 d2, .int .i64 d3] 33)).size; exact h) (.cells #[] 33)).size; exact h) ?_
  intro v6 w6 hown6 hgr6 hat6
  have HO6 := Lib.hid (show w6.ownsRow w2.heap.size 33 8 v6 na (row ccl L) from by have h := hown6; rw [Nat.zero_add] at h; simpa using h)
  have HB6 := Lib.hid ((((Below.refl w2.heap.size w2.drew).alloc (by have h := (Below.refl w2.heap.size w2.drew).size; exact h) (.cells #[.int .i64 dk, .int .i64 dv, .int .i64 de, .int .i64 dc, .int .i64 dn, .int .i64 d1, .int .i64 d2, .int .i64 d3] 33)).alloc (by have h := ((Below.refl w2.heap.size w2.drew).alloc (by have h := (Below.refl w2.heap.size w2.drew).size; exact h) (.cells #[.int .i64 dk, .int .i64 dv, .int .i64 de, .int .i64 dc, .int .i64 dn, .int .i64 d1, .int .i64 d2, .int .i64 d3] 33)).size; exact h) (.cells #[] 33)).grown hgr6 (by have h := (((Below.refl w2.heap.size w2.drew).alloc (by have h := (Below.refl w2.heap.size w2.drew).size; exact h) (.cells #[.int .i64 dk, .int .i64 dv, .int .i64 de, .int .i64 dc, .int .i64 dn, .int .i64 d1, .int .i64 d2, .int .i64 d3] 33)).alloc (by have h := ((Below.refl w2.heap.size w2.drew).alloc (by have h := (Below.refl w2.heap.size w2.drew).size; exact h) (.cells #[.int .i64 dk, .int .i64 dv, .int .i64 de, .int .i64 dc, .int .i64 dn, .int .i64 d1, .int .i64 d2, .int .i64 d3] 33)).size; exact h) (.cells #[] 33)).size; exact h) (fun j hj => by have h := ((own_litAt14 (w2.drew.alloc (.cells #[.int .i64 dk, .int .i64 dv, .int .i64 de, .int .i64 dc, .int .i64 dn, .int .i64 d1, .int .i64 d2, .int .i64 d3] 33)) w2.heap.size 33 8 (w2.heap.size + 1) (by simp) (by omega))).lt j hj; exact h.1))
  have S6 := HS.out _ HB6.out
  refine hK.out _ _ (S6) (fun hHeld => ?_)
  clear hK K
  try simp only [Act.put, List.getElem_toArray, List.getElem_cons_zero, List.getElem_cons_succ, List.setIfInBounds_toArray, List.set_cons_zero, List.set_cons_succ]
  refine AnyE.next (rs := [11]) (by kernel_rfl) (by simp) ?_
  refine AllE.cons rfl (fun K hK => ?_) AllE.nil
  refine step_append_X (by rfl) _ _ 26 rfl w2.heap.size 33 i0 _ 8 64 Try.underlying26 HI0.out HZ0.out HZ1.out HZ2.out rfl (by decide) _ (row ccl L) na rfl HO6.out _ 1 _ rfl ((((IsX.litAt14 w2.drew #[.int .i64 dk, .int .i64 dv, .int .i64 de, .int .i64 dc, .int .i64 dn, .int .i64 d1, .int .i64 d2, .int .i64 d3] 33 8 1 w2.heap.size rfl rfl (by decide))).mono (bel_alloc15 _ (.cells #[] 33)) (Nat.le_refl _)).kept ((Kept.refl (fun j => some (w2.heap.size + 1) = some j) _).grown hgr6 (fun k hk => .inl hk)) (fun k hk hs => by have h1 : some w2.heap.size = some k := hk.2; have h2 := Option.some.inj h1; have h3 := Option.some.inj hs; omega)) (fun u hu => ccl_one ⟨dk, dv, de, dc, dn, d1, d2, d3⟩ u hu) (by have h := HNB.out; unfold maxLen; omega) (by have h := HNB.out; omega) (by have h := HB6.out.size; exact h) ?_
  intro v9 w9 hown9 hgr9 hat9
  have HB9 := Lib.hid (HB6.out.grown hgr9 (by have h := HB6.out.size; exact h) (fun j hj => by have h := (HO6.out).lt j hj; exact h.1))
  have HX9 := Lib.hid (show IsX w9 8 v9 (na + 1) (row ccl (L ++ [⟨dk, dv, de, dc, dn, d1, d2, d3⟩])) from IsX.own (by rw [row_append, row_one]; exact hown9))
  have S9 := HS.out _ HB9.out
  clear hown9 hgr9 hat9
  refine hK.out _ _ (S9) (fun hHeld => ?_)
  clear hK K
  try simp only [Act.put, List.getElem_toArray, List.getElem_cons_zero, List.getElem_cons_succ, List.setIfInBounds_toArray, List.set_cons_zero, List.set_cons_succ]
  refine AnyE.next (rs := [12]) (by kernel_rfl) (by simp) ?_
  refine AllE.cons rfl (fun K hK => ?_) AllE.nil
  go_simp
  refine (rwith20_0 xa xb na nb ca cb true true 1 tm st v9 (na + 1) (L ++ [⟨dk, dv, de, dc, dn, d1, d2, d3⟩]) w9 HX9.out (by have h := HNB.out; omega)).mono ?_
  rintro e w10 ⟨x, k, rfl, hx10, ho10, hb10⟩
  skip
  have HX10 := Lib.hid hx10
  have HO10 := Lib.hid (show ∀ q, (Value.slice x (na + 1) k).ownBlock = some q → w2.heap.size ≤ q from fun q e => Nat.le_trans HB9.out.size (ho10 q e))
  have HB10 := Lib.hid (HB9.out.trans (hb10.mono HB9.out.size))
  clear hx10 ho10 hb10
  refine hK.out _ _ (HS.out _ HB10.out) (fun hHeld => ?_)
  clear hK K
  try simp only [Act.put, List.getElem_toArray, List.getElem_cons_zero, List.getElem_cons_succ, List.setIfInBounds_toArray, List.set_cons_zero, List.set_cons_succ]
  refine AnyE.next (rs := [13]) (by kernel_rfl) (by simp) ?_
  refine AllE.last rfl (fun K hK => ?_)
  refine step_store7 rfl 29 Try.sizePr20 _ _ rfl Y 29 (show Blk w10 Y #[.slice xa na ca, .slice xb nb cb, .bool true, .bool true, .int .i64 1, .int .i64 tm, .int .i64 st] 29 from HY2.out.below ((Below.refl w2.heap.size w2).drew.trans HB10.out) HY2.out.lt) rfl rfl ?_
  intro w11 hy11 hk11
  have HY11 := Lib.hid hy11
  have HR11 := Lib.hid ((HR2.out.below ((Below.refl w2.heap.size w2).drew.trans HB10.out) HR2.out.lt).kept hk11 (fun e => HYR.out e.symm))
  have HX11 := Lib.hid (HX10.out.kept hk11 (fun q hq e => by have h1 := HO10.out q hq.2; have h2 := HY2.out.lt; omega))
  have HB11 := Lib.hid ((HB2.out.trans (((Below.refl w2.heap.size w2).drew.trans HB10.out).mono HB2.out.size)).trans (hk11.below (Nat.le_trans HB2.out.size (show w2.heap.size ≤ w10.heap.size from HB10.out.size)) (fun q hq e => by have h1 := HYW.out; omega)))
  clear hy11 hk11
  refine hK.out _ _ ?_
  clear hK K
  try simp only [Act.put, List.getElem_toArray, List.getElem_cons_zero, List.getElem_cons_succ, List.setIfInBounds_toArray, List.set_cons_zero, List.set_cons_succ]
  refine AnyE.done (by kernel_rfl) ?_ _
  have y0 := HY11.out.cell 0 rfl
  have y1 := HY11.out.cell 1 rfl
  have y2 := HY11.out.cell 2 rfl
  have y3 := HY11.out.cell 3 rfl
  have y4 := HY11.out.cell 4 rfl
  have y5 := HY11.out.cell 5 rfl
  have y6 := HY11.out.cell 6 rfl
  go_wp2_with fail
  refine (rsettle20 x xb (na + 1) nb k cb true true 1 tm st ((na : Int) + 1) _).mono ?_
  rintro e w12 ⟨rfl, hb12⟩
  rw [HST.out]
  unfold pcl
  have HR12 := Lib.hid (HR11.out.below hb12 HR11.out.lt)
  have HX12 := Lib.hid (HX11.out.mono hb12 (Nat.le_refl _))
  have HB12 := Lib.hid (HB11.out.trans (hb12.mono HB11.out.size))
  clear hb12 y0 y1 y2 y3 y4 y5 y6
  go_wp2_with (refine wpList_store7 rfl 29 Try.sizePr20 _ _ rfl R 29 HR12.out rfl rfl ?_)
  intro w15 hr15 hk15
  have HB15 := Lib.hid (HB12.out.trans (hk15.below HB12.out.size (fun q hq e => by have h1 := HRe.out; omega)))
  have HX15 := Lib.hid (HX12.out.kept hk15 (fun q hq e => by have h1 := HO10.out q hq.2; have h2 := HR2.out.lt; omega))
  have HO15 := Lib.hid (show ∀ q, (Value.slice x (na + 1) k).ownBlock = some q → w.heap.size ≤ q from fun q e => Nat.le_trans HB2.out.size (HO10.out q e))
  have z0 := hr15.cell 0 rfl
  have z1 := hr15.cell 1 rfl
  have z2 := hr15.cell 2 rfl
  have z3 := hr15.cell 3 rfl
  have z4 := hr15.cell 4 rfl
  have z5 := hr15.cell 5 rfl
  have z6 := hr15.cell 6 rfl
  clear hr15 hk15
  go_wp2
  exact bodyPost_ret (v := .tuple #[.agg #[.slice x (na + 1) k, .slice xb nb cb, .bool true, .bool true, .int .i64 1, .int .i64 tm, .int .i64 ST], .int .i64 0, .int .i64 0]) (by simp [results, Try.results10, go_sem, z0, z1, z2, z3, z4, z5, z6]) rfl ⟨x, k, rfl, HX15.out, HO15.out, HB15.out⟩
set_option maxRecDepth 100000 in
set_option maxHeartbeats 8000000 in
theorem rise_ok0 (xa xb : Option Addr) (na nb ca cb : Nat) (L : List Cm) (tm st te ck cv ce cc cn c1 c2 c3 : Int) (w : World) (hv : IsX w 8 (.slice xa na ca) na (row ccl L)) (hn : na ≤ 1000) :
    Calls Try.prog 10 #[.agg #[.slice xa na ca, .slice xb nb cb, .bool true, .bool false, .int .i64 0, .int .i64 tm, .int .i64 st], .agg #[.int .i64 3, .int .i64 te, .int .i64 1, .int .i64 ck, .int .i64 cv, .int .i64 ce, .int .i64 cc, .int .i64 cn, .int .i64 c1, .int .i64 c2, .int .i64 c3]] w fun e w' => ∃ x k, e = .returned (.tuple #[.agg #[.slice xa na ca, .slice x na k, .bool true, .bool true, .int .i64 0, .int .i64 tm, .int .i64 st], .int .i64 0, .int .i64 0]) ∧ IsX w' 8 (.slice x na k) na (row ccl L) ∧ (∀ q, (Value.slice x na k).ownBlock = some q → w.heap.size ≤ q) ∧ Below w.heap.size w w' := by
  have HV := Lib.hid hv
  have HNB := Lib.hid hn
  clear hv hn
  have hY := ((Blk.new w #[.slice xa na ca, .slice xb nb cb, .bool true, .bool false, .int .i64 0, .int .i64 tm, .int .i64 st] 29).alloc (.cells #[.int .i64 3, .int .i64 te, .int .i64 1, .int .i64 ck, .int .i64 cv, .int .i64 ce, .int .i64 cc, .int .i64 cn, .int .i64 c1, .int .i64 c2, .int .i64 c3] 35)).alloc (.cells #[.slice none 0 0, .slice none 0 0, .bool false, .bool false, .int .i64 0, .int .i64 0, .int .i64 0] 29)
  have hA := (Blk.new (w.alloc (.cells #[.slice xa na ca, .slice xb nb cb, .bool true, .bool false, .int .i64 0, .int .i64 tm, .int .i64 st] 29)) #[.int .i64 3, .int .i64 te, .int .i64 1, .int .i64 ck, .int .i64 cv, .int .i64 ce, .int .i64 cc, .int .i64 cn, .int .i64 c1, .int .i64 c2, .int .i64 c3] 35).alloc (.cells #[.slice none 0 0, .slice none 0 0, .bool false, .bool false, .int .i64 0, .int .i64 0, .int .i64 0] 29)
  have hR := Blk.new ((w.alloc (.cells #[.slice xa na ca, .slice xb nb cb, .bool true, .bool false, .int .i64 0, .int .i64 tm, .int .i64 st] 29)).alloc (.cells #[.int .i64 3, .int .i64 te, .int .i64 1, .int .i64 ck, .int .i64 cv, .int .i64 ce, .int .i64 cc, .int .i64 cn, .int .i64 c1, .int .i64 c2, .int .i64 c3] 35)) #[.slice none 0 0, .slice none 0 0, .bool false, .bool false, .int .i64 0, .int .i64 0, .int .i64 0] 29
  have hB := (((Below.refl w.heap.size w).alloc (Nat.le_refl _) (.cells #[.slice xa na ca, .slice xb nb cb, .bool true, .bool false, .int .i64 0, .int .i64 tm, .int .i64 st] 29)).alloc (by simp) (.cells #[.int .i64 3, .int .i64 te, .int .i64 1, .int .i64 ck, .int .i64 cv, .int .i64 ce, .int .i64 cc, .int .i64 cn, .int .i64 c1, .int .i64 c2, .int .i64 c3] 35)).alloc (by simp; omega) (.cells #[.slice none 0 0, .slice none 0 0, .bool false, .bool false, .int .i64 0, .int .i64 0, .int .i64 0] 29)
  obtain ⟨w0, hW⟩ : ∃ z, ((w.alloc (.cells #[.slice xa na ca, .slice xb nb cb, .bool true, .bool false, .int .i64 0, .int .i64 tm, .int .i64 st] 29)).alloc (.cells #[.int .i64 3, .int .i64 te, .int .i64 1, .int .i64 ck, .int .i64 cv, .int .i64 ce, .int .i64 cc, .int .i64 cn, .int .i64 c1, .int .i64 c2, .int .i64 c3] 35)).alloc (.cells #[.slice none 0 0, .slice none 0 0, .bool false, .bool false, .int .i64 0, .int .i64 0, .int .i64 0] 29) = z := ⟨_, rfl⟩
  rw [hW] at hY hA hR hB
  obtain ⟨Y, hYe⟩ : ∃ z, w.heap.size = z := ⟨_, rfl⟩
  obtain ⟨X, hXe⟩ : ∃ z, (w.alloc (.cells #[.slice xa na ca, .slice xb nb cb, .bool true, .bool false, .int .i64 0, .int .i64 tm, .int .i64 st] 29)).heap.size = z := ⟨_, rfl⟩
  obtain ⟨R, hRe⟩ : ∃ z, ((w.alloc (.cells #[.slice xa na ca, .slice xb nb cb, .bool true, .bool false, .int .i64 0, .int .i64 tm, .int .i64 st] 29)).alloc (.cells #[.int .i64 3, .int .i64 te, .int .i64 1, .int .i64 ck, .int .i64 cv, .int .i64 ce, .int .i64 cc, .int .i64 cn, .int .i64 c1, .int .i64 c2, .int .i64 c3] 35)).heap.size = z := ⟨_, rfl⟩
  rw [hYe] at hY
  rw [hXe] at hA
  rw [hRe] at hR
  have hX1 : w.heap.size + 1 = X := by rw [← hXe]; simp
  have hR1 : w.heap.size + 1 + 1 = R := by rw [← hRe]; simp
  have HW := Lib.hid hW
  have HYe := Lib.hid hYe
  have HXe := Lib.hid hX1
  have HRe := Lib.hid hR1
  have HY := Lib.hid hY
  have HA := Lib.hid hA
  have HR := Lib.hid hR
  have HB := Lib.hid hB
  clear hW hYe hXe hRe hX1 hR1 hA hR hB
  have y4 := hY.cell 4 rfl
  clear hY
  go_enter Try.func10, Try.ntmps10
  go_upto_region 1 with fail
  rw [HW.out]
  try rw [HRe.out]
  try rw [HXe.out]
  try rw [HYe.out]
  go_region
  go_upto_region 2 with fail
  clear y4
  have HS := Lib.hid (fun (wx : World) (hb : Below w0.heap.size w0 wx) => show wx.cell? ⟨Y, 0, none⟩ = some (.slice xa na ca) ∧ wx.cell? ⟨Y, 1, none⟩ = some (.slice xb nb cb) ∧ wx.cell? ⟨Y, 2, none⟩ = some (.bool true) ∧ wx.cell? ⟨Y, 3, none⟩ = some (.bool false) ∧ wx.cell? ⟨Y, 4, none⟩ = some (.int .i64 0) ∧ wx.cell? ⟨Y, 5, none⟩ = some (.int .i64 tm) ∧ wx.cell? ⟨Y, 6, none⟩ = some (.int .i64 st) from
    have h := HY.out.below hb HY.out.lt
    ⟨h.cell 0 rfl, h.cell 1 rfl, h.cell 2 rfl, h.cell 3 rfl, h.cell 4 rfl, h.cell 5 rfl, h.cell 6 rfl⟩)
  have S0 := HS.out w0.drew.drew (Below.refl w0.heap.size w0).drew.drew
  refine AnyE.start (S := (fun wx => wx.cell? ⟨Y, 0, none⟩ = some (.slice xa na ca) ∧ wx.cell? ⟨Y, 1, none⟩ = some (.slice xb nb cb) ∧ wx.cell? ⟨Y, 2, none⟩ = some (.bool true) ∧ wx.cell? ⟨Y, 3, none⟩ = some (.bool false) ∧ wx.cell? ⟨Y, 4, none⟩ = some (.int .i64 0) ∧ wx.cell? ⟨Y, 5, none⟩ = some (.int .i64 tm) ∧ wx.cell? ⟨Y, 6, none⟩ = some (.int .i64 st))) 7 (by kernel_rfl) (S0) (fun hHeld => ?_)
  refine AnyE.take (i := 0) (v := ?_) rfl (by kernel_rfl) (by kernel_rfl) (by kernel_rfl) (by kernel_rfl) (fun _ _ _ h => h) (Or.inl ⟨by rfl, ?_⟩) (by assumption) ?_
  rotate_left 1
  · intro w hSw
    (try dsimp only at hSw)
    go_simp
    all_goals (with_reducible rfl)
  try simp only [Act.put, List.getElem_toArray, List.getElem_cons_zero, List.getElem_cons_succ, List.setIfInBounds_toArray, List.set_cons_zero, List.set_cons_succ]
  refine AnyE.take (i := 1) (v := ?_) rfl (by kernel_rfl) (by kernel_rfl) (by kernel_rfl) (by kernel_rfl) (fun _ _ _ h => h) (Or.inl ⟨by rfl, ?_⟩) (by assumption) ?_
  rotate_left 1
  · intro w hSw
    (try dsimp only at hSw)
    go_simp
    all_goals (with_reducible rfl)
  try simp only [Act.put, List.getElem_toArray, List.getElem_cons_zero, List.getElem_cons_succ, List.setIfInBounds_toArray, List.set_cons_zero, List.set_cons_succ]
  refine AnyE.take (i := 3) (v := ?_) rfl (by kernel_rfl) (by kernel_rfl) (by kernel_rfl) (by kernel_rfl) (fun _ _ _ h => h) (Or.inl ⟨by rfl, ?_⟩) (by assumption) ?_
  rotate_left 1
  · intro w hSw
    (try dsimp only at hSw)
    go_simp
    all_goals (with_reducible rfl)
  try simp only [Act.put, List.getElem_toArray, List.getElem_cons_zero, List.getElem_cons_succ, List.setIfInBounds_toArray, List.set_cons_zero, List.set_cons_succ]
  refine AnyE.take (i := 4) (v := ?_) rfl (by kernel_rfl) (by kernel_rfl) (by kernel_rfl) (by kernel_rfl) (fun _ _ _ h => h) (Or.inl ⟨by rfl, ?_⟩) (by assumption) ?_
  rotate_left 1
  · intro w hSw
    (try dsimp only at hSw)
    go_simp
    all_goals (with_reducible rfl)
  try simp only [Act.put, List.getElem_toArray, List.getElem_cons_zero, List.getElem_cons_succ, List.setIfInBounds_toArray, List.set_cons_zero, List.set_cons_succ]
  refine AnyE.next (rs := [2]) (by kernel_rfl) (by simp) ?_
  refine AllE.cons rfl (fun K hK => ?_) AllE.nil
  go_simp
  refine (rlog20 xa xb na nb ca cb true false 0 tm st 0 _).mono ?_
  rintro e w1 ⟨rfl, hb1⟩
  refine hK.out _ _ (HS.out _ ((Below.refl w0.heap.size w0).drew.drew.trans (hb1.mono (Nat.le_refl _)))) (fun hHeld => ?_)
  clear hK K
  try simp only [Act.put, List.getElem_toArray, List.getElem_cons_zero, List.getElem_cons_succ, List.setIfInBounds_toArray, List.set_cons_zero, List.set_cons_succ]
  refine AnyE.next (rs := [5]) (by kernel_rfl) (by simp) ?_
  refine AllE.cons rfl (fun K hK => ?_) AllE.nil
  go_simp
  refine (rlog20 xa xb na nb ca cb true false 0 tm st 1 _).mono ?_
  rintro e w2 ⟨rfl, hb2⟩
  refine hK.out _ _ (HS.out _ (((Below.refl w0.heap.size w0).drew.drew.trans (hb1.mono (Nat.le_refl _))).trans (hb2.mono hb1.size))) (fun hHeld => ?_)
  clear hK K
  try simp only [Act.put, List.getElem_toArray, List.getElem_cons_zero, List.getElem_cons_succ, List.setIfInBounds_toArray, List.set_cons_zero, List.set_cons_succ]
  refine AnyE.next (rs := [6]) (by kernel_rfl) (by simp) ?_
  refine AllE.cons rfl (fun K hK => ?_) AllE.nil
  go_simp
  refine hK.out _ _ (HS.out _ (((Below.refl w0.heap.size w0).drew.drew.trans (hb1.mono (Nat.le_refl _))).trans (hb2.mono hb1.size))) (fun hHeld => ?_)
  clear hK K
  try simp only [Act.put, List.getElem_toArray, List.getElem_cons_zero, List.getElem_cons_succ, List.setIfInBounds_toArray, List.set_cons_zero, List.set_cons_succ]
  refine AnyE.next (rs := [7]) (by kernel_rfl) (by simp) ?_
  refine AllE.last rfl (fun K hK => ?_)
  go_simp
  refine hK.out _ _ ?_
  clear hK K
  try simp only [Act.put, List.getElem_toArray, List.getElem_cons_zero, List.getElem_cons_succ, List.setIfInBounds_toArray, List.set_cons_zero, List.set_cons_succ]
  refine AnyE.done (by kernel_rfl) ?_ _
  have hb20 := ((Below.refl w0.heap.size w0).drew.drew.trans (hb1.mono (Nat.le_refl _))).trans (hb2.mono hb1.size)
  have HY2 := Lib.hid (HY.out.below hb20 HY.out.lt)
  have HA2 := Lib.hid (HA.out.below hb20 HA.out.lt)
  have HR2 := Lib.hid (HR.out.below hb20 HR.out.lt)
  have HB2 := Lib.hid (HB.out.trans (hb20.mono HB.out.size))
  clear hb1 hb2 hb20 S0
  clear hHeld
  have y0 := HY2.out.cell 0 rfl
  have y1 := HY2.out.cell 1 rfl
  have y2 := HY2.out.cell 2 rfl
  have y3 := HY2.out.cell 3 rfl
  have y4 := HY2.out.cell 4 rfl
  have y5 := HY2.out.cell 5 rfl
  have y6 := HY2.out.cell 6 rfl
  have a0 := HA2.out.cell 0 rfl
  have a1 := HA2.out.cell 1 rfl
  have a2 := HA2.out.cell 2 rfl
  have HXR := Lib.hid (show X ≠ R from by have h1 := HXe.out; have h2 := HRe.out; omega)
  have HYX := Lib.hid (show Y ≠ X from by have h1 := HXe.out; have h2 := HYe.out; omega)
  have HYR := Lib.hid (show Y ≠ R from by have h1 := HRe.out; have h2 := HYe.out; omega)
  have HYW := Lib.hid (show w.heap.size ≤ Y from by have h2 := HYe.out; omega)
  have yf := fun j => HY2.out.free j
  have hy3 := (HY2.out.set 3 (.bool true))
  have hr3 := HR2.out.other (a := ⟨Y, 3, none⟩) (fun e => HYR.out e) (.bool true)
  have ha3 := HA2.out.other (a := ⟨Y, 3, none⟩) (fun e => HYX.out e) (.bool true)
  have hb3 := HB2.out.setCell (p := ⟨Y, 3, none⟩) HYW.out (.bool true)
  obtain ⟨w3, hw3⟩ : ∃ z, (w2.setCell ⟨Y, 3, none⟩ (.bool true)) = z := ⟨_, rfl⟩
  rw [hw3] at hy3 hr3 ha3 hb3
  have HY3 := Lib.hid (show Blk w3 Y #[.slice xa na ca, .slice xb nb cb, .bool true, .bool true, .int .i64 0, .int .i64 tm, .int .i64 st] 29 from by simpa using hy3)
  have HR3 := Lib.hid hr3
  have HA3 := Lib.hid ha3
  have HB3 := Lib.hid hb3
  have HW3 := Lib.hid hw3
  clear hy3 hr3 ha3 hb3 hw3
  go_upto_region 39 with fail
  rw [HW3.out]
  clear y0 y1 y2 y3 y4 y5 y6 a0 a1 a2 yf
  have HS := Lib.hid (fun (wx : World) (hb : Below w3.heap.size w3.drew wx) => show wx.cell? ⟨Y, 0, none⟩ = some (.slice xa na ca) ∧ wx.cell? ⟨Y, 1, none⟩ = some (.slice xb nb cb) ∧ wx.cell? ⟨Y, 2, none⟩ = some (.bool true) ∧ wx.cell? ⟨Y, 3, none⟩ = some (.bool true) ∧ wx.cell? ⟨Y, 4, none⟩ = some (.int .i64 0) ∧ wx.cell? ⟨Y, 5, none⟩ = some (.int .i64 tm) ∧ wx.cell? ⟨Y, 6, none⟩ = some (.int .i64 st) ∧ wx.cell? ⟨X, 2, none⟩ = some (.int .i64 1) from
    have h := HY3.out.below ((Below.refl w3.heap.size w3).drew.trans hb) HY3.out.lt
    have g := HA3.out.below ((Below.refl w3.heap.size w3).drew.trans hb) HA3.out.lt
    ⟨h.cell 0 rfl, h.cell 1 rfl, h.cell 2 rfl, h.cell 3 rfl, h.cell 4 rfl, h.cell 5 rfl, h.cell 6 rfl, g.cell 2 rfl⟩)
  have S0 := HS.out w3.drew (Below.refl _ _)
  refine AnyE.start (S := (fun wx => wx.cell? ⟨Y, 0, none⟩ = some (.slice xa na ca) ∧ wx.cell? ⟨Y, 1, none⟩ = some (.slice xb nb cb) ∧ wx.cell? ⟨Y, 2, none⟩ = some (.bool true) ∧ wx.cell? ⟨Y, 3, none⟩ = some (.bool true) ∧ wx.cell? ⟨Y, 4, none⟩ = some (.int .i64 0) ∧ wx.cell? ⟨Y, 5, none⟩ = some (.int .i64 tm) ∧ wx.cell? ⟨Y, 6, none⟩ = some (.int .i64 st) ∧ wx.cell? ⟨X, 2, none⟩ = some (.int .i64 1))) 11 (by kernel_rfl) (S0) (fun hHeld => ?_)
  refine AnyE.take (i := 0) (v := ?_) rfl (by kernel_rfl) (by kernel_rfl) (by kernel_rfl) (by kernel_rfl) (fun _ _ _ h => h) (Or.inl ⟨by rfl, ?_⟩) (by assumption) ?_
  rotate_left 1
  · intro w hSw
    (try dsimp only at hSw)
    go_simp
    all_goals (with_reducible rfl)
  try simp only [Act.put, List.getElem_toArray, List.getElem_cons_zero, List.getElem_cons_succ, List.setIfInBounds_toArray, List.set_cons_zero, List.set_cons_succ]
  refine AnyE.take (i := 1) (v := ?_) rfl (by kernel_rfl) (by kernel_rfl) (by kernel_rfl) (by kernel_rfl) (fun _ _ _ h => h) (Or.inl ⟨by rfl, ?_⟩) (by assumption) ?_
  rotate_left 1
  · intro w hSw
    (try dsimp only at hSw)
    go_simp
    all_goals (with_reducible rfl)
  try simp only [Act.put, List.getElem_toArray, List.getElem_cons_zero, List.getElem_cons_succ, List.setIfInBounds_toArray, List.set_cons_zero, List.set_cons_succ]
  refine AnyE.take (i := 2) (v := ?_) rfl (by kernel_rfl) (by kernel_rfl) (by kernel_rfl) (by kernel_rfl) (fun _ _ _ h => h) (Or.inl ⟨by rfl, ?_⟩) (by assumption) ?_
  rotate_left 1
  · intro w hSw
    (try dsimp only at hSw)
    go_simp
    all_goals (with_reducible rfl)
  try simp only [Act.put, List.getElem_toArray, List.getElem_cons_zero, List.getElem_cons_succ, List.setIfInBounds_toArray, List.set_cons_zero, List.set_cons_succ]
  refine AnyE.take (i := 3) (v := ?_) rfl (by kernel_rfl) (by kernel_rfl) (by kernel_rfl) (by kernel_rfl) (fun _ _ _ h => h) (Or.inl ⟨by rfl, ?_⟩) (by assumption) ?_
  rotate_left 1
  · intro w hSw
    (try dsimp only at hSw)
    go_simp
    all_goals (with_reducible rfl)
  try simp only [Act.put, List.getElem_toArray, List.getElem_cons_zero, List.getElem_cons_succ, List.setIfInBounds_toArray, List.set_cons_zero, List.set_cons_succ]
  refine AnyE.take (i := 4) (v := ?_) rfl (by kernel_rfl) (by kernel_rfl) (by kernel_rfl) (by kernel_rfl) (fun _ _ _ h => h) (Or.inl ⟨by rfl, ?_⟩) (by assumption) ?_
  rotate_left 1
  · intro w hSw
    (try dsimp only at hSw)
    go_simp
    all_goals (with_reducible rfl)
  try simp only [Act.put, List.getElem_toArray, List.getElem_cons_zero, List.getElem_cons_succ, List.setIfInBounds_toArray, List.set_cons_zero, List.set_cons_succ]
  refine AnyE.take (i := 5) (v := ?_) rfl (by kernel_rfl) (by kernel_rfl) (by kernel_rfl) (by kernel_rfl) (fun _ _ _ h => h) (Or.inl ⟨by rfl, ?_⟩) (by assumption) ?_
  rotate_left 1
  · intro w hSw
    (try dsimp only at hSw)
    go_simp
    all_goals (with_reducible rfl)
  try simp only [Act.put, List.getElem_toArray, List.getElem_cons_zero, List.getElem_cons_succ, List.setIfInBounds_toArray, List.set_cons_zero, List.set_cons_succ]
  refine AnyE.take (i := 6) (v := ?_) rfl (by kernel_rfl) (by kernel_rfl) (by kernel_rfl) (by kernel_rfl) (fun _ _ _ h => h) (Or.inl ⟨by rfl, ?_⟩) (by assumption) ?_
  rotate_left 1
  · intro w hSw
    (try dsimp only at hSw)
    go_simp
    all_goals (with_reducible rfl)
  try simp only [Act.put, List.getElem_toArray, List.getElem_cons_zero, List.getElem_cons_succ, List.setIfInBounds_toArray, List.set_cons_zero, List.set_cons_succ]
  refine AnyE.next (rs := [7]) (by kernel_rfl) (by simp) ?_
  refine AllE.cons rfl (fun K hK => ?_) AllE.nil
  go_simp
  refine (rlog20_0 xa xb na nb ca cb true true 0 tm st _).mono ?_
  rintro e w4 ⟨rfl, hb4⟩
  have HB4 := Lib.hid (show Below w3.heap.size w3.drew w4 from hb4)
  have HV4 := Lib.hid (show IsX w4 8 (.slice xa na ca) na (row ccl L) from HV.out.mono (HB3.out.drew.trans (hb4.mono HB3.out.size)) (Nat.le_refl _))
  clear hb4
  refine hK.out _ _ (HS.out _ HB4.out) (fun hHeld => ?_)
  clear hK K
  try simp only [Act.put, List.getElem_toArray, List.getElem_cons_zero, List.getElem_cons_succ, List.setIfInBounds_toArray, List.set_cons_zero, List.set_cons_succ]
  refine AnyE.next (rs := [8]) (by kernel_rfl) (by simp) ?_
  refine AllE.cons rfl (fun K hK => ?_) AllE.nil
  go_simp
  refine (rwith20_1 xa xb na nb ca cb true true 0 tm st (.slice xa na ca) na L w4 HV4.out (by have h := HNB.out; omega)).mono ?_
  rintro e w10 ⟨x, k, rfl, hx10, ho10, hb10⟩
  have HX10 := Lib.hid hx10
  have HO10 := Lib.hid (show ∀ q, (Value.slice x na k).ownBlock = some q → w3.heap.size ≤ q from fun q e => Nat.le_trans HB4.out.size (ho10 q e))
  have HB10 := Lib.hid (HB4.out.trans (hb10.mono HB4.out.size))
  clear hx10 ho10 hb10
  refine hK.out _ _ (HS.out _ HB10.out) (fun hHeld => ?_)
  clear hK K
  try simp only [Act.put, List.getElem_toArray, List.getElem_cons_zero, List.getElem_cons_succ, List.setIfInBounds_toArray, List.set_cons_zero, List.set_cons_succ]
  refine AnyE.next (rs := [9]) (by kernel_rfl) (by simp) ?_
  refine AllE.cons rfl (fun K hK => ?_) AllE.nil
  refine step_store7 rfl 29 Try.sizePr20 _ _ rfl R 29 (show Blk w10 R #[.slice none 0 0, .slice none 0 0, .bool false, .bool false, .int .i64 0, .int .i64 0, .int .i64 0] 29 from HR3.out.below ((Below.refl w3.heap.size w3).drew.trans HB10.out) HR3.out.lt) rfl rfl ?_
  intro w11 hr11 hk11
  have HR11 := Lib.hid hr11
  have HX11 := Lib.hid (HX10.out.kept hk11 (fun q hq e => by have h1 := HO10.out q hq.2; have h2 := HR3.out.lt; omega))
  have HB11 := Lib.hid ((HB3.out.trans (((Below.refl w3.heap.size w3).drew.trans HB10.out).mono HB3.out.size)).trans (hk11.below (Nat.le_trans HB3.out.size (show w3.heap.size ≤ w10.heap.size from HB10.out.size)) (fun q hq e => by have h1 := HRe.out; omega)))
  have S11 : w11.cell? ⟨Y, 0, none⟩ = some (.slice xa na ca) ∧ w11.cell? ⟨Y, 1, none⟩ = some (.slice xb nb cb) ∧ w11.cell? ⟨Y, 2, none⟩ = some (.bool true) ∧ w11.cell? ⟨Y, 3, none⟩ = some (.bool true) ∧ w11.cell? ⟨Y, 4, none⟩ = some (.int .i64 0) ∧ w11.cell? ⟨Y, 5, none⟩ = some (.int .i64 tm) ∧ w11.cell? ⟨Y, 6, none⟩ = some (.int .i64 st) ∧ w11.cell? ⟨X, 2, none⟩ = some (.int .i64 1) := by
    have h := (HY3.out.below ((Below.refl w3.heap.size w3).drew.trans HB10.out) HY3.out.lt).kept hk11 (fun e => HYR.out e)
    have g := (HA3.out.below ((Below.refl w3.heap.size w3).drew.trans HB10.out) HA3.out.lt).kept hk11 (fun e => HXR.out e)
    exact ⟨h.cell 0 rfl, h.cell 1 rfl, h.cell 2 rfl, h.cell 3 rfl, h.cell 4 rfl, h.cell 5 rfl, h.cell 6 rfl, g.cell 2 rfl⟩
  clear hr11 hk11
  refine hK.out _ _ (S11) (fun hHeld => ?_)
  clear hK K
  try simp only [Act.put, List.getElem_toArray, List.getElem_cons_zero, List.getElem_cons_succ, List.setIfInBounds_toArray, List.set_cons_zero, List.set_cons_succ]
  refine AnyE.take (i := 10) (v := ?_) rfl (by kernel_rfl) (by kernel_rfl) (by kernel_rfl) (by kernel_rfl) (fun _ _ _ h => h) (Or.inl ⟨by rfl, ?_⟩) (by assumption) ?_
  rotate_left 1
  · intro w hSw
    (try dsimp only at hSw)
    go_simp
    all_goals (with_reducible rfl)
  try simp only [Act.put, List.getElem_toArray, List.getElem_cons_zero, List.getElem_cons_succ, List.setIfInBounds_toArray, List.set_cons_zero, List.set_cons_succ]
  refine AnyE.next (rs := [11]) (by kernel_rfl) (by simp) ?_
  refine AllE.last rfl (fun K hK => ?_)
  go_simp
  refine hK.out _ _ ?_
  clear hK K
  try simp only [Act.put, List.getElem_toArray, List.getElem_cons_zero, List.getElem_cons_succ, List.setIfInBounds_toArray, List.set_cons_zero, List.set_cons_succ]
  refine AnyE.done (by kernel_rfl) ?_ _
  have HO15 := Lib.hid (show ∀ q, (Value.slice x na k).ownBlock = some q → w.heap.size ≤ q from fun q e => Nat.le_trans HB3.out.size (HO10.out q e))
  have z0 := HR11.out.cell 0 rfl
  have z1 := HR11.out.cell 1 rfl
  have z2 := HR11.out.cell 2 rfl
  have z3 := HR11.out.cell 3 rfl
  have z4 := HR11.out.cell 4 rfl
  have z5 := HR11.out.cell 5 rfl
  have z6 := HR11.out.cell 6 rfl
  go_wp2
  exact bodyPost_ret (v := .tuple #[.agg #[.slice xa na ca, .slice x na k, .bool true, .bool true, .int .i64 0, .int .i64 tm, .int .i64 st], .int .i64 0, .int .i64 0]) (by simp [results, Try.results10, go_sem, z0, z1, z2, z3, z4, z5, z6]) rfl ⟨x, k, rfl, HX11.out, HO15.out, HB11.out⟩
set_option maxRecDepth 100000 in
set_option maxHeartbeats 8000000 in
theorem rise_ok1 (xa xb : Option Addr) (na nb ca cb : Nat) (L : List Cm) (tm st te ck cv ce cc cn c1 c2 c3 : Int) (w : World) (hv : IsX w 8 (.slice xb nb cb) nb (row ccl L)) (hn : nb ≤ 1000) :
    Calls Try.prog 10 #[.agg #[.slice xa na ca, .slice xb nb cb, .bool false, .bool true, .int .i64 1, .int .i64 tm, .int .i64 st], .agg #[.int .i64 3, .int .i64 te, .int .i64 0, .int .i64 ck, .int .i64 cv, .int .i64 ce, .int .i64 cc, .int .i64 cn, .int .i64 c1, .int .i64 c2, .int .i64 c3]] w fun e w' => ∃ x k, e = .returned (.tuple #[.agg #[.slice x nb k, .slice xb nb cb, .bool true, .bool true, .int .i64 1, .int .i64 tm, .int .i64 st], .int .i64 0, .int .i64 0]) ∧ IsX w' 8 (.slice x nb k) nb (row ccl L) ∧ (∀ q, (Value.slice x nb k).ownBlock = some q → w.heap.size ≤ q) ∧ Below w.heap.size w w' := by
  have HV := Lib.hid hv
  have HNB := Lib.hid hn
  clear hv hn
  have hY := ((Blk.new w #[.slice xa na ca, .slice xb nb cb, .bool false, .bool true, .int .i64 1, .int .i64 tm, .int .i64 st] 29).alloc (.cells #[.int .i64 3, .int .i64 te, .int .i64 0, .int .i64 ck, .int .i64 cv, .int .i64 ce, .int .i64 cc, .int .i64 cn, .int .i64 c1, .int .i64 c2, .int .i64 c3] 35)).alloc (.cells #[.slice none 0 0, .slice none 0 0, .bool false, .bool false, .int .i64 0, .int .i64 0, .int .i64 0] 29)
  have hA := (Blk.new (w.alloc (.cells #[.slice xa na ca, .slice xb nb cb, .bool false, .bool true, .int .i64 1, .int .i64 tm, .int .i64 st] 29)) #[.int .i64 3, .int .i64 te, .int .i64 0, .int .i64 ck, .int .i64 cv, .int .i64 ce, .int .i64 cc, .int .i64 cn, .int .i64 c1, .int .i64 c2, .int .i64 c3] 35).alloc (.cells #[.slice none 0 0, .slice none 0 0, .bool false, .bool false, .int .i64 0, .int .i64 0, .int .i64 0] 29)
  have hR := Blk.new ((w.alloc (.cells #[.slice xa na ca, .slice xb nb cb, .bool false, .bool true, .int .i64 1, .int .i64 tm, .int .i64 st] 29)).alloc (.cells #[.int .i64 3, .int .i64 te, .int .i64 0, .int .i64 ck, .int .i64 cv, .int .i64 ce, .int .i64 cc, .int .i64 cn, .int .i64 c1, .int .i64 c2, .int .i64 c3] 35)) #[.slice none 0 0, .slice none 0 0, .bool false, .bool false, .int .i64 0, .int .i64 0, .int .i64 0] 29
  have hB := (((Below.refl w.heap.size w).alloc (Nat.le_refl _) (.cells #[.slice xa na ca, .slice xb nb cb, .bool false, .bool true, .int .i64 1, .int .i64 tm, .int .i64 st] 29)).alloc (by simp) (.cells #[.int .i64 3, .int .i64 te, .int .i64 0, .int .i64 ck, .int .i64 cv, .int .i64 ce, .int .i64 cc, .int .i64 cn, .int .i64 c1, .int .i64 c2, .int .i64 c3] 35)).alloc (by simp; omega) (.cells #[.slice none 0 0, .slice none 0 0, .bool false, .bool false, .int .i64 0, .int .i64 0, .int .i64 0] 29)
  obtain ⟨w0, hW⟩ : ∃ z, ((w.alloc (.cells #[.slice xa na ca, .slice xb nb cb, .bool false, .bool true, .int .i64 1, .int .i64 tm, .int .i64 st] 29)).alloc (.cells #[.int .i64 3, .int .i64 te, .int .i64 0, .int .i64 ck, .int .i64 cv, .int .i64 ce, .int .i64 cc, .int .i64 cn, .int .i64 c1, .int .i64 c2, .int .i64 c3] 35)).alloc (.cells #[.slice none 0 0, .slice none 0 0, .bool false, .bool false, .int .i64 0, .int .i64 0, .int .i64 0] 29) = z := ⟨_, rfl⟩
  rw [hW] at hY hA hR hB
  obtain ⟨Y, hYe⟩ : ∃ z, w.heap.size = z := ⟨_, rfl⟩
  obtain ⟨X, hXe⟩ : ∃ z, (w.alloc (.cells #[.slice xa na ca, .slice xb nb cb, .bool false, .bool true, .int .i64 1, .int .i64 tm, .int .i64 st] 29)).heap.size = z := ⟨_, rfl⟩
  obtain ⟨R, hRe⟩ : ∃ z, ((w.alloc (.cells #[.slice xa na ca, .slice xb nb cb, .bool false, .bool true, .int .i64 1, .int .i64 tm, .int .i64 st] 29)).alloc (.cells #[.int .i64 3, .int .i64 te, .int .i64 0, .int .i64 ck, .int .i64 cv, .int .i64 ce, .int .i64 cc, .int .i64 cn, .int .i64 c1, .int .i64 c2, .int .i64 c3] 35)).heap.size = z := ⟨_, rfl⟩
  rw [hYe] at hY
  rw [hXe] at hA
  rw [hRe] at hR
  have hX1 : w.heap.size + 1 = X := by rw [← hXe]; simp
  have hR1 : w.heap.size + 1 + 1 = R := by rw [← hRe]; simp
  have HW := Lib.hid hW
  have HYe := Lib.hid hYe
  have HXe := Lib.hid hX1
  have HRe := Lib.hid hR1
  have HY := Lib.hid hY
  have HA := Lib.hid hA
  have HR := Lib.hid hR
  have HB := Lib.hid hB
  clear hW hYe hXe hRe hX1 hR1 hA hR hB
  have y4 := hY.cell 4 rfl
  clear hY
  go_enter Try.func10, Try.ntmps10
  go_upto_region 1 with fail
  rw [HW.out]
  try rw [HRe.out]
  try rw [HXe.out]
  try rw [HYe.out]
  go_region
  go_upto_region 2 with fail
  clear y4
  have HS := Lib.hid (fun (wx : World) (hb : Below w0.heap.size w0 wx) => show wx.cell? ⟨Y, 0, none⟩ = some (.slice xa na ca) ∧ wx.cell? ⟨Y, 1, none⟩ = some (.slice xb nb cb) ∧ wx.cell? ⟨Y, 2, none⟩ = some (.bool false) ∧ wx.cell? ⟨Y, 3, none⟩ = some (.bool true) ∧ wx.cell? ⟨Y, 4, none⟩ = some (.int .i64 1) ∧ wx.cell? ⟨Y, 5, none⟩ = some (.int .i64 tm) ∧ wx.cell? ⟨Y, 6, none⟩ = some (.int .i64 st) from
    have h := HY.out.below hb HY.out.lt
    ⟨h.cell 0 rfl, h.cell 1 rfl, h.cell 2 rfl, h.cell 3 rfl, h.cell 4 rfl, h.cell 5 rfl, h.cell 6 rfl⟩)
  have S0 := HS.out w0.drew.drew (Below.refl w0.heap.size w0).drew.drew
  refine AnyE.start (S := (fun wx => wx.cell? ⟨Y, 0, none⟩ = some (.slice xa na ca) ∧ wx.cell? ⟨Y, 1, none⟩ = some (.slice xb nb cb) ∧ wx.cell? ⟨Y, 2, none⟩ = some (.bool false) ∧ wx.cell? ⟨Y, 3, none⟩ = some (.bool true) ∧ wx.cell? ⟨Y, 4, none⟩ = some (.int .i64 1) ∧ wx.cell? ⟨Y, 5, none⟩ = some (.int .i64 tm) ∧ wx.cell? ⟨Y, 6, none⟩ = some (.int .i64 st))) 7 (by kernel_rfl) (S0) (fun hHeld => ?_)
  refine AnyE.take (i := 0) (v := ?_) rfl (by kernel_rfl) (by kernel_rfl) (by kernel_rfl) (by kernel_rfl) (fun _ _ _ h => h) (Or.inl ⟨by rfl, ?_⟩) (by assumption) ?_
  rotate_left 1
  · intro w hSw
    (try dsimp only at hSw)
    go_simp
    all_goals (with_reducible rfl)
  try simp only [Act.put, List.getElem_toArray, List.getElem_cons_zero, List.getElem_cons_succ, List.setIfInBounds_toArray, List.set_cons_zero, List.set_cons_succ]
  refine AnyE.take (i := 1) (v := ?_) rfl (by kernel_rfl) (by kernel_rfl) (by kernel_rfl) (by kernel_rfl) (fun _ _ _ h => h) (Or.inl ⟨by rfl, ?_⟩) (by assumption) ?_
  rotate_left 1
  · intro w hSw
    (try dsimp only at hSw)
    go_simp
    all_goals (with_reducible rfl)
  try simp only [Act.put, List.getElem_toArray, List.getElem_cons_zero, List.getElem_cons_succ, List.setIfInBounds_toArray, List.set_cons_zero, List.set_cons_succ]
  refine AnyE.take (i := 3) (v := ?_) rfl (by kernel_rfl) (by kernel_rfl) (by kernel_rfl) (by kernel_rfl) (fun _ _ _ h => h) (Or.inl ⟨by rfl, ?_⟩) (by assumption) ?_
  rotate_left 1
  · intro w hSw
    (try dsimp only at hSw)
    go_simp
    all_goals (with_reducible rfl)
  try simp only [Act.put, List.getElem_toArray, List.getElem_cons_zero, List.getElem_cons_succ, List.setIfInBounds_toArray, List.set_cons_zero, List.set_cons_succ]
  refine AnyE.take (i := 4) (v := ?_) rfl (by kernel_rfl) (by kernel_rfl) (by kernel_rfl) (by kernel_rfl) (fun _ _ _ h => h) (Or.inl ⟨by rfl, ?_⟩) (by assumption) ?_
  rotate_left 1
  · intro w hSw
    (try dsimp only at hSw)
    go_simp
    all_goals (with_reducible rfl)
  try simp only [Act.put, List.getElem_toArray, List.getElem_cons_zero, List.getElem_cons_succ, List.setIfInBounds_toArray, List.set_cons_zero, List.set_cons_succ]
  refine AnyE.next (rs := [2]) (by kernel_rfl) (by simp) ?_
  refine AllE.cons rfl (fun K hK => ?_) AllE.nil
  go_simp
  refine (rlog20 xa xb na nb ca cb false true 1 tm st 1 _).mono ?_
  rintro e w1 ⟨rfl, hb1⟩
  refine hK.out _ _ (HS.out _ ((Below.refl w0.heap.size w0).drew.drew.trans (hb1.mono (Nat.le_refl _)))) (fun hHeld => ?_)
  clear hK K
  try simp only [Act.put, List.getElem_toArray, List.getElem_cons_zero, List.getElem_cons_succ, List.setIfInBounds_toArray, List.set_cons_zero, List.set_cons_succ]
  refine AnyE.next (rs := [5]) (by kernel_rfl) (by simp) ?_
  refine AllE.cons rfl (fun K hK => ?_) AllE.nil
  go_simp
  refine (rlog20 xa xb na nb ca cb false true 1 tm st 0 _).mono ?_
  rintro e w2 ⟨rfl, hb2⟩
  refine hK.out _ _ (HS.out _ (((Below.refl w0.heap.size w0).drew.drew.trans (hb1.mono (Nat.le_refl _))).trans (hb2.mono hb1.size))) (fun hHeld => ?_)
  clear hK K
  try simp only [Act.put, List.getElem_toArray, List.getElem_cons_zero, List.getElem_cons_succ, List.setIfInBounds_toArray, List.set_cons_zero, List.set_cons_succ]
  refine AnyE.next (rs := [6]) (by kernel_rfl) (by simp) ?_
  refine AllE.cons rfl (fun K hK => ?_) AllE.nil
  go_simp
  refine hK.out _ _ (HS.out _ (((Below.refl w0.heap.size w0).drew.drew.trans (hb1.mono (Nat.le_refl _))).trans (hb2.mono hb1.size))) (fun hHeld => ?_)
  clear hK K
  try simp only [Act.put, List.getElem_toArray, List.getElem_cons_zero, List.getElem_cons_succ, List.setIfInBounds_toArray, List.set_cons_zero, List.set_cons_succ]
  refine AnyE.next (rs := [7]) (by kernel_rfl) (by simp) ?_
  refine AllE.last rfl (fun K hK => ?_)
  go_simp
  refine hK.out _ _ ?_
  clear hK K
  try simp only [Act.put, List.getElem_toArray, List.getElem_cons_zero, List.getElem_cons_succ, List.setIfInBounds_toArray, List.set_cons_zero, List.set_cons_succ]
  refine AnyE.done (by kernel_rfl) ?_ _
  have hb20 := ((Below.refl w0.heap.size w0).drew.drew.trans (hb1.mono (Nat.le_refl _))).trans (hb2.mono hb1.size)
  have HY2 := Lib.hid (HY.out.below hb20 HY.out.lt)
  have HA2 := Lib.hid (HA.out.below hb20 HA.out.lt)
  have HR2 := Lib.hid (HR.out.below hb20 HR.out.lt)
  have HB2 := Lib.hid (HB.out.trans (hb20.mono HB.out.size))
  clear hb1 hb2 hb20 S0
  clear hHeld
  have y0 := HY2.out.cell 0 rfl
  have y1 := HY2.out.cell 1 rfl
  have y2 := HY2.out.cell 2 rfl
  have y3 := HY2.out.cell 3 rfl
  have y4 := HY2.out.cell 4 rfl
  have y5 := HY2.out.cell 5 rfl
  have y6 := HY2.out.cell 6 rfl
  have a0 := HA2.out.cell 0 rfl
  have a1 := HA2.out.cell 1 rfl
  have a2 := HA2.out.cell 2 rfl
  have HXR := Lib.hid (show X ≠ R from by have h1 := HXe.out; have h2 := HRe.out; omega)
  have HYX := Lib.hid (show Y ≠ X from by have h1 := HXe.out; have h2 := HYe.out; omega)
  have HYR := Lib.hid (show Y ≠ R from by have h1 := HRe.out; have h2 := HYe.out; omega)
  have HYW := Lib.hid (show w.heap.size ≤ Y from by have h2 := HYe.out; omega)
  have yf := fun j => HY2.out.free j
  have hy3 := (HY2.out.set 2 (.bool true))
  have hr3 := HR2.out.other (a := ⟨Y, 2, none⟩) (fun e => HYR.out e) (.bool true)
  have ha3 := HA2.out.other (a := ⟨Y, 2, none⟩) (fun e => HYX.out e) (.bool true)
  have hb3 := HB2.out.setCell (p := ⟨Y, 2, none⟩) HYW.out (.bool true)
  obtain ⟨w3, hw3⟩ : ∃ z, (w2.setCell ⟨Y, 2, none⟩ (.bool true)) = z := ⟨_, rfl⟩
  rw [hw3] at hy3 hr3 ha3 hb3
  have HY3 := Lib.hid (show Blk w3 Y #[.slice xa na ca, .slice xb nb cb, .bool true, .bool true, .int .i64 1, .int .i64 tm, .int .i64 st] 29 from by simpa using hy3)
  have HR3 := Lib.hid hr3
  have HA3 := Lib.hid ha3
  have HB3 := Lib.hid hb3
  have HW3 := Lib.hid hw3
  clear hy3 hr3 ha3 hb3 hw3
  go_upto_region 39 with fail
  rw [HW3.out]
  clear y0 y1 y2 y3 y4 y5 y6 a0 a1 a2 yf
  have HS := Lib.hid (fun (wx : World) (hb : Below w3.heap.size w3.drew wx) => show wx.cell? ⟨Y, 0, none⟩ = some (.slice xa na ca) ∧ wx.cell? ⟨Y, 1, none⟩ = some (.slice xb nb cb) ∧ wx.cell? ⟨Y, 2, none⟩ = some (.bool true) ∧ wx.cell? ⟨Y, 3, none⟩ = some (.bool true) ∧ wx.cell? ⟨Y, 4, none⟩ = some (.int .i64 1) ∧ wx.cell? ⟨Y, 5, none⟩ = some (.int .i64 tm) ∧ wx.cell? ⟨Y, 6, none⟩ = some (.int .i64 st) ∧ wx.cell? ⟨X, 2, none⟩ = some (.int .i64 0) from
    have h := HY3.out.below ((Below.refl w3.heap.size w3).drew.trans hb) HY3.out.lt
    have g := HA3.out.below ((Below.refl w3.heap.size w3).drew.trans hb) HA3.out.lt
    ⟨h.cell 0 rfl, h.cell 1 rfl, h.cell 2 rfl, h.cell 3 rfl, h.cell 4 rfl, h.cell 5 rfl, h.cell 6 rfl, g.cell 2 rfl⟩)
  have S0 := HS.out w3.drew (Below.refl _ _)
  refine AnyE.start (S := (fun wx => wx.cell? ⟨Y, 0, none⟩ = some (.slice xa na ca) ∧ wx.cell? ⟨Y, 1, none⟩ = some (.slice xb nb cb) ∧ wx.cell? ⟨Y, 2, none⟩ = some (.bool true) ∧ wx.cell? ⟨Y, 3, none⟩ = some (.bool true) ∧ wx.cell? ⟨Y, 4, none⟩ = some (.int .i64 1) ∧ wx.cell? ⟨Y, 5, none⟩ = some (.int .i64 tm) ∧ wx.cell? ⟨Y, 6, none⟩ = some (.int .i64 st) ∧ wx.cell? ⟨X, 2, none⟩ = some (.int .i64 0))) 11 (by kernel_rfl) (S0) (fun hHeld => ?_)
  refine AnyE.take (i := 0) (v := ?_) rfl (by kernel_rfl) (by kernel_rfl) (by kernel_rfl) (by kernel_rfl) (fun _ _ _ h => h) (Or.inl ⟨by rfl, ?_⟩) (by assumption) ?_
  rotate_left 1
  · intro w hSw
    (try dsimp only at hSw)
    go_simp
    all_goals (with_reducible rfl)
  try simp only [Act.put, List.getElem_toArray, List.getElem_cons_zero, List.getElem_cons_succ, List.setIfInBounds_toArray, List.set_cons_zero, List.set_cons_succ]
  refine AnyE.take (i := 1) (v := ?_) rfl (by kernel_rfl) (by kernel_rfl) (by kernel_rfl) (by kernel_rfl) (fun _ _ _ h => h) (Or.inl ⟨by rfl, ?_⟩) (by assumption) ?_
  rotate_left 1
  · intro w hSw
    (try dsimp only at hSw)
    go_simp
    all_goals (with_reducible rfl)
  try simp only [Act.put, List.getElem_toArray, List.getElem_cons_zero, List.getElem_cons_succ, List.setIfInBounds_toArray, List.set_cons_zero, List.set_cons_succ]
  refine AnyE.take (i := 2) (v := ?_) rfl (by kernel_rfl) (by kernel_rfl) (by kernel_rfl) (by kernel_rfl) (fun _ _ _ h => h) (Or.inl ⟨by rfl, ?_⟩) (by assumption) ?_
  rotate_left 1
  · intro w hSw
    (try dsimp only at hSw)
    go_simp
    all_goals (with_reducible rfl)
  try simp only [Act.put, List.getElem_toArray, List.getElem_cons_zero, List.getElem_cons_succ, List.setIfInBounds_toArray, List.set_cons_zero, List.set_cons_succ]
  refine AnyE.take (i := 3) (v := ?_) rfl (by kernel_rfl) (by kernel_rfl) (by kernel_rfl) (by kernel_rfl) (fun _ _ _ h => h) (Or.inl ⟨by rfl, ?_⟩) (by assumption) ?_
  rotate_left 1
  · intro w hSw
    (try dsimp only at hSw)
    go_simp
    all_goals (with_reducible rfl)
  try simp only [Act.put, List.getElem_toArray, List.getElem_cons_zero, List.getElem_cons_succ, List.setIfInBounds_toArray, List.set_cons_zero, List.set_cons_succ]
  refine AnyE.take (i := 4) (v := ?_) rfl (by kernel_rfl) (by kernel_rfl) (by kernel_rfl) (by kernel_rfl) (fun _ _ _ h => h) (Or.inl ⟨by rfl, ?_⟩) (by assumption) ?_
  rotate_left 1
  · intro w hSw
    (try dsimp only at hSw)
    go_simp
    all_goals (with_reducible rfl)
  try simp only [Act.put, List.getElem_toArray, List.getElem_cons_zero, List.getElem_cons_succ, List.setIfInBounds_toArray, List.set_cons_zero, List.set_cons_succ]
  refine AnyE.take (i := 5) (v := ?_) rfl (by kernel_rfl) (by kernel_rfl) (by kernel_rfl) (by kernel_rfl) (fun _ _ _ h => h) (Or.inl ⟨by rfl, ?_⟩) (by assumption) ?_
  rotate_left 1
  · intro w hSw
    (try dsimp only at hSw)
    go_simp
    all_goals (with_reducible rfl)
  try simp only [Act.put, List.getElem_toArray, List.getElem_cons_zero, List.getElem_cons_succ, List.setIfInBounds_toArray, List.set_cons_zero, List.set_cons_succ]
  refine AnyE.take (i := 6) (v := ?_) rfl (by kernel_rfl) (by kernel_rfl) (by kernel_rfl) (by kernel_rfl) (fun _ _ _ h => h) (Or.inl ⟨by rfl, ?_⟩) (by assumption) ?_
  rotate_left 1
  · intro w hSw
    (try dsimp only at hSw)
    go_simp
    all_goals (with_reducible rfl)
  try simp only [Act.put, List.getElem_toArray, List.getElem_cons_zero, List.getElem_cons_succ, List.setIfInBounds_toArray, List.set_cons_zero, List.set_cons_succ]
  refine AnyE.next (rs := [7]) (by kernel_rfl) (by simp) ?_
  refine AllE.cons rfl (fun K hK => ?_) AllE.nil
  go_simp
  refine (rlog20_1 xa xb na nb ca cb true true 1 tm st _).mono ?_
  rintro e w4 ⟨rfl, hb4⟩
  have HB4 := Lib.hid (show Below w3.heap.size w3.drew w4 from hb4)
  have HV4 := Lib.hid (show IsX w4 8 (.slice xb nb cb) nb (row ccl L) from HV.out.mono (HB3.out.drew.trans (hb4.mono HB3.out.size)) (Nat.le_refl _))
  clear hb4
  refine hK.out _ _ (HS.out _ HB4.out) (fun hHeld => ?_)
  clear hK K
  try simp only [Act.put, List.getElem_toArray, List.getElem_cons_zero, List.getElem_cons_succ, List.setIfInBounds_toArray, List.set_cons_zero, List.set_cons_succ]
  refine AnyE.next (rs := [8]) (by kernel_rfl) (by simp) ?_
  refine AllE.cons rfl (fun K hK => ?_) AllE.nil
  go_simp
  refine (rwith20_0 xa xb na nb ca cb true true 1 tm st (.slice xb nb cb) nb L w4 HV4.out (by have h := HNB.out; omega)).mono ?_
  rintro e w10 ⟨x, k, rfl, hx10, ho10, hb10⟩
  have HX10 := Lib.hid hx10
  have HO10 := Lib.hid (show ∀ q, (Value.slice x nb k).ownBlock = some q → w3.heap.size ≤ q from fun q e => Nat.le_trans HB4.out.size (ho10 q e))
  have HB10 := Lib.hid (HB4.out.trans (hb10.mono HB4.out.size))
  clear hx10 ho10 hb10
  refine hK.out _ _ (HS.out _ HB10.out) (fun hHeld => ?_)
  clear hK K
  try simp only [Act.put, List.getElem_toArray, List.getElem_cons_zero, List.getElem_cons_succ, List.setIfInBounds_toArray, List.set_cons_zero, List.set_cons_succ]
  refine AnyE.next (rs := [9]) (by kernel_rfl) (by simp) ?_
  refine AllE.cons rfl (fun K hK => ?_) AllE.nil
  refine step_store7 rfl 29 Try.sizePr20 _ _ rfl R 29 (show Blk w10 R #[.slice none 0 0, .slice none 0 0, .bool false, .bool false, .int .i64 0, .int .i64 0, .int .i64 0] 29 from HR3.out.below ((Below.refl w3.heap.size w3).drew.trans HB10.out) HR3.out.lt) rfl rfl ?_
  intro w11 hr11 hk11
  have HR11 := Lib.hid hr11
  have HX11 := Lib.hid (HX10.out.kept hk11 (fun q hq e => by have h1 := HO10.out q hq.2; have h2 := HR3.out.lt; omega))
  have HB11 := Lib.hid ((HB3.out.trans (((Below.refl w3.heap.size w3).drew.trans HB10.out).mono HB3.out.size)).trans (hk11.below (Nat.le_trans HB3.out.size (show w3.heap.size ≤ w10.heap.size from HB10.out.size)) (fun q hq e => by have h1 := HRe.out; omega)))
  have S11 : w11.cell? ⟨Y, 0, none⟩ = some (.slice xa na ca) ∧ w11.cell? ⟨Y, 1, none⟩ = some (.slice xb nb cb) ∧ w11.cell? ⟨Y, 2, none⟩ = some (.bool true) ∧ w11.cell? ⟨Y, 3, none⟩ = some (.bool true) ∧ w11.cell? ⟨Y, 4, none⟩ = some (.int .i64 1) ∧ w11.cell? ⟨Y, 5, none⟩ = some (.int .i64 tm) ∧ w11.cell? ⟨Y, 6, none⟩ = some (.int .i64 st) ∧ w11.cell? ⟨X, 2, none⟩ = some (.int .i64 0) := by
    have h := (HY3.out.below ((Below.refl w3.heap.size w3).drew.trans HB10.out) HY3.out.lt).kept hk11 (fun e => HYR.out e)
    have g := (HA3.out.below ((Below.refl w3.heap.size w3).drew.trans HB10.out) HA3.out.lt).kept hk11 (fun e => HXR.out e)
    exact ⟨h.cell 0 rfl, h.cell 1 rfl, h.cell 2 rfl, h.cell 3 rfl, h.cell 4 rfl, h.cell 5 rfl, h.cell 6 rfl, g.cell 2 rfl⟩
  clear hr11 hk11
  refine hK.out _ _ (S11) (fun hHeld => ?_)
  clear hK K
  try simp only [Act.put, List.getElem_toArray, List.getElem_cons_zero, List.getElem_cons_succ, List.setIfInBounds_toArray, List.set_cons_zero, List.set_cons_succ]
  refine AnyE.take (i := 10) (v := ?_) rfl (by kernel_rfl) (by kernel_rfl) (by kernel_rfl) (by kernel_rfl) (fun _ _ _ h => h) (Or.inl ⟨by rfl, ?_⟩) (by assumption) ?_
  rotate_left 1
  · intro w hSw
    (try dsimp only at hSw)
    go_simp
    all_goals (with_reducible rfl)
  try simp only [Act.put, List.getElem_toArray, List.getElem_cons_zero, List.getElem_cons_succ, List.setIfInBounds_toArray, List.set_cons_zero, List.set_cons_succ]
  refine AnyE.next (rs := [11]) (by kernel_rfl) (by simp) ?_
  refine AllE.last rfl (fun K hK => ?_)
  go_simp
  refine hK.out _ _ ?_
  clear hK K
  try simp only [Act.put, List.getElem_toArray, List.getElem_cons_zero, List.getElem_cons_succ, List.setIfInBounds_toArray, List.set_cons_zero, List.set_cons_succ]
  refine AnyE.done (by kernel_rfl) ?_ _
  have HO15 := Lib.hid (show ∀ q, (Value.slice x nb k).ownBlock = some q → w.heap.size ≤ q from fun q e => Nat.le_trans HB3.out.size (HO10.out q e))
  have z0 := HR11.out.cell 0 rfl
  have z1 := HR11.out.cell 1 rfl
  have z2 := HR11.out.cell 2 rfl
  have z3 := HR11.out.cell 3 rfl
  have z4 := HR11.out.cell 4 rfl
  have z5 := HR11.out.cell 5 rfl
  have z6 := HR11.out.cell 6 rfl
  go_wp2
  exact bodyPost_ret (v := .tuple #[.agg #[.slice x nb k, .slice xb nb cb, .bool true, .bool true, .int .i64 1, .int .i64 tm, .int .i64 st], .int .i64 0, .int .i64 0]) (by simp [results, Try.results10, go_sem, z0, z1, z2, z3, z4, z5, z6]) rfl ⟨x, k, rfl, HX11.out, HO15.out, HB11.out⟩
end Go.Proofs.Ytlaighghagcjjaa
