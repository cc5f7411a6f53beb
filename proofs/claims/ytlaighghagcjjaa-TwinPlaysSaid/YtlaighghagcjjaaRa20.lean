/- The document's own pair (layer 20): Do, an Ask that is taken. -/
import Derived.Test.YtlaighghagcjjaaRw20
import Derived.Test.YtlaighghagcjjaaOrdE
namespace Go.Proofs.Ytlaighghagcjjaa
open Go.RowKit Go.Cor
set_option linter.unusedVariables false
set_option linter.unusedSimpArgs false

theorem rwith20_0 (xa xb : Option Addr) (na nb ca cb : Nat) (u0 u1 : Bool) (ld tm st : Int) (v : Value) (n : Nat) (l : List Cm) (w : World) (hv : IsX w 8 v n (row ccl l)) (hn : n ≤ 100000) :
    Calls Try.prog 28 #[.agg #[.slice xa na ca, .slice xb nb cb, .bool u0, .bool u1, .int .i64 ld, .int .i64 tm, .int .i64 st], .int .i64 0, v] w fun e w' => ∃ x k, e = .returned (.agg #[.slice x n k, .slice xb nb cb, .bool u0, .bool u1, .int .i64 ld, .int .i64 tm, .int .i64 st]) ∧ IsX w' 8 (.slice x n k) n (row ccl l) ∧ (∀ q, (Value.slice x n k).ownBlock = some q → w.heap.size ≤ q) ∧ Below w.heap.size w w' := by
  have h := rwith20 xa xb na nb ca cb u0 u1 ld tm st 0 v n l w hv hn
  simp only [if_true] at h
  exact h
theorem rwith20_1 (xa xb : Option Addr) (na nb ca cb : Nat) (u0 u1 : Bool) (ld tm st : Int) (v : Value) (n : Nat) (l : List Cm) (w : World) (hv : IsX w 8 v n (row ccl l)) (hn : n ≤ 100000) :
    Calls Try.prog 28 #[.agg #[.slice xa na ca, .slice xb nb cb, .bool u0, .bool u1, .int .i64 ld, .int .i64 tm, .int .i64 st], .int .i64 1, v] w fun e w' => ∃ x k, e = .returned (.agg #[.slice xa na ca, .slice x n k, .bool u0, .bool u1, .int .i64 ld, .int .i64 tm, .int .i64 st]) ∧ IsX w' 8 (.slice x n k) n (row ccl l) ∧ (∀ q, (Value.slice x n k).ownBlock = some q → w.heap.size ≤ q) ∧ Below w.heap.size w w' := by
  have h := rwith20 xa xb na nb ca cb u0 u1 ld tm st 1 v n l w hv hn
  simp only [show ((1 : Int) = 0) = False from by decide, if_false] at h
  exact h
set_option maxHeartbeats 1000000 in
/-- A pair stored into a box, in a region that draws. -/
theorem step_store7 {P : Program} {ops : Array Oper} {o : Oper} {a : Act} {w : World} {K : Act → World → Prop} {Q : Exit → Act → World → Prop} {E : Prop} (hg : o.guard = none) (T : TypeId) (hs : (P.info? T).map (·.size) = some 7) (x y : Operand) (ho : o.op = .store T x y)
    (g : Nat) (T' : TypeId) {a0 a1 a2 a3 a4 a5 a6 : Value} (hb : Blk w g #[a0, a1, a2, a3, a4, a5, a6] T') {xa xb : Option Addr} {na ca nb cb : Nat} {u0 u1 : Bool} {ld tm st : Int}
    (hx : a.eval x = .pointer (some ⟨g, 0, none⟩)) (hy : a.eval y = .agg #[.slice xa na ca, .slice xb nb cb, .bool u0, .bool u1, .int .i64 ld, .int .i64 tm, .int .i64 st])
    (h : ∀ w', Blk w' g #[.slice xa na ca, .slice xb nb cb, .bool u0, .bool u1, .int .i64 ld, .int .i64 tm, .int .i64 st] T' → Kept (fun j => j = g) w w' → K (a.put o.dst undef) w') :
    if Region.wanted o (yielded ops a.tmps) = true then Oper.wp P o a w K Q else E := by
  have hw : Region.wanted o (yielded ops a.tmps) = true := by simp [Region.wanted, hg]
  rw [if_pos hw]
  obtain ⟨j, hj1, hj2⟩ := Option.map_eq_some_iff.1 hs
  have hsz : ∀ W, (sizeOf T).run P W = .ok 7 W := fun W => by simp [sizeOf, typeInfo, hj1, hj2]
  have hF := (((((((hb.set 0 (.slice xa na ca)).set 1 (.slice xb nb cb)).set 2 (.bool u0)).set 3 (.bool u1)).set 4 (.int .i64 ld)).set 5 (.int .i64 tm)).set 6 (.int .i64 st))
  simp at hF
  have hk := ((((((((Kept.refl (fun j => j = g) w).setCell (p := ⟨g, 0, none⟩) (.inl rfl) (.slice xa na ca)).setCell (p := ⟨g, 1, none⟩) (.inl rfl) (.slice xb nb cb)).setCell (p := ⟨g, 2, none⟩) (.inl rfl) (.bool u0)).setCell (p := ⟨g, 3, none⟩) (.inl rfl) (.bool u1)).setCell (p := ⟨g, 4, none⟩) (.inl rfl) (.int .i64 ld)).setCell (p := ⟨g, 5, none⟩) (.inl rfl) (.int .i64 tm)).setCell (p := ⟨g, 6, none⟩) (.inl rfl) (.int .i64 st))
  have HF := Lib.hid (And.intro hF hk)
  have c0 := hb.cell 0 rfl
  have c1 := hb.cell 1 rfl
  have c2 := hb.cell 2 rfl
  have c3 := hb.cell 3 rfl
  have c4 := hb.cell 4 rfl
  have c5 := hb.cell 5 rfl
  have c6 := hb.cell 6 rfl
  have fz := fun j => hb.free j
  clear hF hk
  unfold Oper.wp execOp
  rw [ho]
  simp only [hx, hy]
  go_simp
  exact h _ HF.out.1 HF.out.2
set_option maxRecDepth 100000 in
set_option maxHeartbeats 8000000 in
theorem ask_ok0u (xa xb : Option Addr) (na nb ca cb : Nat) (L : List Cm) (tm st sd ck cv ce cc cn c1 c2 c3 : Int) (w : World) (hv : IsX w 8 (.slice xa na ca) na (row ccl L)) (hn : na ≤ 1000) :
    Calls Try.prog 10 #[.agg #[.slice xa na ca, .slice xb nb cb, .bool true, .bool true, .int .i64 0, .int .i64 tm, .int .i64 st], .agg #[.int .i64 0, .int .i64 tm, .int .i64 sd, .int .i64 ck, .int .i64 cv, .int .i64 ce, .int .i64 cc, .int .i64 cn, .int .i64 c1, .int .i64 c2, .int .i64 c3]] w fun e w' => ∃ x k, e = .returned (.tuple #[.agg #[.slice x (na + 1) k, .slice xb nb cb, .bool true, .bool true, .int .i64 0, .int .i64 tm, .int .i64 st], .int .i64 (na : Int), .int .i64 0]) ∧ IsX w' 8 (.slice x (na + 1) k) (na + 1) (row ccl (L ++ [⟨ck, cv, ce, cc, cn, c1, c2, c3⟩])) ∧ (∀ q, (Value.slice x (na + 1) k).ownBlock = some q → w.heap.size ≤ q) ∧ Below w.heap.size w w' := by
  obtain ⟨i0, hi0, hz0, hz1, hz2⟩ := info_parts Try.infoCmdR19
  have HI0 := Lib.hid hi0
  have HZ0 := Lib.hid hz0
  have HZ1 := Lib.hid hz1
  have HZ2 := Lib.hid hz2
  have hlen := fun W => len_X (P := Try.prog) hv 26 3 33 Try.underlying26 W
  have hww : wrap64 ((na : Int) + 1) = (na : Int) + 1 := IntWalk.wrap64_in _ (by omega)
  have HV := Lib.hid hv
  have HNB := Lib.hid hn
  clear hv hn hi0 hz0 hz1 hz2
  have hY := ((Blk.new w #[.slice xa na ca, .slice xb nb cb, .bool true, .bool true, .int .i64 0, .int .i64 tm, .int .i64 st] 29).alloc (.cells #[.int .i64 0, .int .i64 tm, .int .i64 sd, .int .i64 ck, .int .i64 cv, .int .i64 ce, .int .i64 cc, .int .i64 cn, .int .i64 c1, .int .i64 c2, .int .i64 c3] 35)).alloc (.cells #[.slice none 0 0, .slice none 0 0, .bool false, .bool false, .int .i64 0, .int .i64 0, .int .i64 0] 29)
  have hA := (Blk.new (w.alloc (.cells #[.slice xa na ca, .slice xb nb cb, .bool true, .bool true, .int .i64 0, .int .i64 tm, .int .i64 st] 29)) #[.int .i64 0, .int .i64 tm, .int .i64 sd, .int .i64 ck, .int .i64 cv, .int .i64 ce, .int .i64 cc, .int .i64 cn, .int .i64 c1, .int .i64 c2, .int .i64 c3] 35).alloc (.cells #[.slice none 0 0, .slice none 0 0, .bool false, .bool false, .int .i64 0, .int .i64 0, .int .i64 0] 29)
  have hR := Blk.new ((w.alloc (.cells #[.slice xa na ca, .slice xb nb cb, .bool true, .bool true, .int .i64 0, .int .i64 tm, .int .i64 st] 29)).alloc (.cells #[.int .i64 0, .int .i64 tm, .int .i64 sd, .int .i64 ck, .int .i64 cv, .int .i64 ce, .int .i64 cc, .int .i64 cn, .int .i64 c1, .int .i64 c2, .int .i64 c3] 35)) #[.slice none 0 0, .slice none 0 0, .bool false, .bool false, .int .i64 0, .int .i64 0, .int .i64 0] 29
  have hB := (((Below.refl w.heap.size w).alloc (Nat.le_refl _) (.cells #[.slice xa na ca, .slice xb nb cb, .bool true, .bool true, .int .i64 0, .int .i64 tm, .int .i64 st] 29)).alloc (by simp) (.cells #[.int .i64 0, .int .i64 tm, .int .i64 sd, .int .i64 ck, .int .i64 cv, .int .i64 ce, .int .i64 cc, .int .i64 cn, .int .i64 c1, .int .i64 c2, .int .i64 c3] 35)).alloc (by simp; omega) (.cells #[.slice none 0 0, .slice none 0 0, .bool false, .bool false, .int .i64 0, .int .i64 0, .int .i64 0] 29)
  obtain ⟨w0, hW⟩ : ∃ z, ((w.alloc (.cells #[.slice xa na ca, .slice xb nb cb, .bool true, .bool true, .int .i64 0, .int .i64 tm, .int .i64 st] 29)).alloc (.cells #[.int .i64 0, .int .i64 tm, .int .i64 sd, .int .i64 ck, .int .i64 cv, .int .i64 ce, .int .i64 cc, .int .i64 cn, .int .i64 c1, .int .i64 c2, .int .i64 c3] 35)).alloc (.cells #[.slice none 0 0, .slice none 0 0, .bool false, .bool false, .int .i64 0, .int .i64 0, .int .i64 0] 29) = z := ⟨_, rfl⟩
  rw [hW] at hY hA hR hB
  obtain ⟨Y, hYe⟩ : ∃ z, w.heap.size = z := ⟨_, rfl⟩
  obtain ⟨X, hXe⟩ : ∃ z, (w.alloc (.cells #[.slice xa na ca, .slice xb nb cb, .bool true, .bool true, .int .i64 0, .int .i64 tm, .int .i64 st] 29)).heap.size = z := ⟨_, rfl⟩
  obtain ⟨R, hRe⟩ : ∃ z, ((w.alloc (.cells #[.slice xa na ca, .slice xb nb cb, .bool true, .bool true, .int .i64 0, .int .i64 tm, .int .i64 st] 29)).alloc (.cells #[.int .i64 0, .int .i64 tm, .int .i64 sd, .int .i64 ck, .int .i64 cv, .int .i64 ce, .int .i64 cc, .int .i64 cn, .int .i64 c1, .int .i64 c2, .int .i64 c3] 35)).heap.size = z := ⟨_, rfl⟩
  rw [hYe] at hY
  rw [hXe] at hA
  rw [hRe] at hR
  have hX1 : w.heap.size + 1 = X := by rw [← hXe]; simp
  have hR1 : w.heap.size + 1 + 1 = R := by rw [← hRe]; simp
  have HW := Lib.hid hW
  have HYe := Lib.hid hYe
  have HXe := Lib.hid hX1
  have HRe := Lib.hid hR1
  have HY := Lib.hid hY
  have HA := Lib.hid hA
  have HR := Lib.hid hR
  have HB := Lib.hid hB
  clear hW hYe hXe hRe hX1 hR1 hA hR hB
  have y4 := hY.cell 4 rfl
  clear hY
  go_enter Try.func10, Try.ntmps10
  go_upto_region 1 with fail
  rw [HW.out]
  try rw [HRe.out]
  try rw [HXe.out]
  try rw [HYe.out]
  go_region
  go_upto_region 2 with fail
  clear y4
  have HS := Lib.hid (fun (wx : World) (hb : Below w0.heap.size w0 wx) => show wx.cell? ⟨Y, 0, none⟩ = some (.slice xa na ca) ∧ wx.cell? ⟨Y, 1, none⟩ = some (.slice xb nb cb) ∧ wx.cell? ⟨Y, 2, none⟩ = some (.bool true) ∧ wx.cell? ⟨Y, 3, none⟩ = some (.bool true) ∧ wx.cell? ⟨Y, 4, none⟩ = some (.int .i64 0) ∧ wx.cell? ⟨Y, 5, none⟩ = some (.int .i64 tm) ∧ wx.cell? ⟨Y, 6, none⟩ = some (.int .i64 st) from
    have h := HY.out.below hb HY.out.lt
    ⟨h.cell 0 rfl, h.cell 1 rfl, h.cell 2 rfl, h.cell 3 rfl, h.cell 4 rfl, h.cell 5 rfl, h.cell 6 rfl⟩)
  have S0 := HS.out w0.drew.drew (Below.refl w0.heap.size w0).drew.drew
  refine AnyE.start (S := (fun wx => wx.cell? ⟨Y, 0, none⟩ = some (.slice xa na ca) ∧ wx.cell? ⟨Y, 1, none⟩ = some (.slice xb nb cb) ∧ wx.cell? ⟨Y, 2, none⟩ = some (.bool true) ∧ wx.cell? ⟨Y, 3, none⟩ = some (.bool true) ∧ wx.cell? ⟨Y, 4, none⟩ = some (.int .i64 0) ∧ wx.cell? ⟨Y, 5, none⟩ = some (.int .i64 tm) ∧ wx.cell? ⟨Y, 6, none⟩ = some (.int .i64 st))) 7 (by kernel_rfl) (S0) (fun hHeld => ?_)
  refine AnyE.take (i := 0) (v := ?_) rfl (by kernel_rfl) (by kernel_rfl) (by kernel_rfl) (by kernel_rfl) (fun _ _ _ h => h) (Or.inl ⟨by rfl, ?_⟩) (by assumption) ?_
  rotate_left 1
  · intro w hSw
    (try dsimp only at hSw)
    go_simp
    all_goals (with_reducible rfl)
  try simp only [Act.put, List.getElem_toArray, List.getElem_cons_zero, List.getElem_cons_succ, List.setIfInBounds_toArray, List.set_cons_zero, List.set_cons_succ]
  refine AnyE.take (i := 1) (v := ?_) rfl (by kernel_rfl) (by kernel_rfl) (by kernel_rfl) (by kernel_rfl) (fun _ _ _ h => h) (Or.inl ⟨by rfl, ?_⟩) (by assumption) ?_
  rotate_left 1
  · intro w hSw
    (try dsimp only at hSw)
    go_simp
    all_goals (with_reducible rfl)
  try simp only [Act.put, List.getElem_toArray, List.getElem_cons_zero, List.getElem_cons_succ, List.setIfInBounds_toArray, List.set_cons_zero, List.set_cons_succ]
  refine AnyE.take (i := 3) (v := ?_) rfl (by kernel_rfl) (by kernel_rfl) (by kernel_rfl) (by kernel_rfl) (fun _ _ _ h => h) (Or.inl ⟨by rfl, ?_⟩) (by assumption) ?_
  rotate_left 1
  · intro w hSw
    (try dsimp only at hSw)
    go_simp
    all_goals (with_reducible rfl)
  try simp only [Act.put, List.getElem_toArray, List.getElem_cons_zero, List.getElem_cons_succ, List.setIfInBounds_toArray, List.set_cons_zero, List.set_cons_succ]
  refine AnyE.take (i := 4) (v := ?_) rfl (by kernel_rfl) (by kernel_rfl) (by kernel_rfl) (by kernel_rfl) (fun _ _ _ h => h) (Or.inl ⟨by rfl, ?_⟩) (by assumption) ?_
  rotate_left 1
  · intro w hSw
    (try dsimp only at hSw)
    go_simp
    all_goals (with_reducible rfl)
  try simp only [Act.put, List.getElem_toArray, List.getElem_cons_zero, List.getElem_cons_succ, List.setIfInBounds_toArray, List.set_cons_zero, List.set_cons_succ]
  refine AnyE.next (rs := [2]) (by kernel_rfl) (by simp) ?_
  refine AllE.cons rfl (fun K hK => ?_) AllE.nil
  go_simp
  refine (rlog20 xa xb na nb ca cb true true 0 tm st 0 _).mono ?_
  rintro e w1 ⟨rfl, hb1⟩
  refine hK.out _ _ (HS.out _ ((Below.refl w0.heap.size w0).drew.drew.trans (hb1.mono (Nat.le_refl _)))) (fun hHeld => ?_)
  clear hK K
  try simp only [Act.put, List.getElem_toArray, List.getElem_cons_zero, List.getElem_cons_succ, List.setIfInBounds_toArray, List.set_cons_zero, List.set_cons_succ]
  refine AnyE.next (rs := [5]) (by kernel_rfl) (by simp) ?_
  refine AllE.cons rfl (fun K hK => ?_) AllE.nil
  go_simp
  refine (rlog20 xa xb na nb ca cb true true 0 tm st 1 _).mono ?_
  rintro e w2 ⟨rfl, hb2⟩
  refine hK.out _ _ (HS.out _ (((Below.refl w0.heap.size w0).drew.drew.trans (hb1.mono (Nat.le_refl _))).trans (hb2.mono hb1.size))) (fun hHeld => ?_)
  clear hK K
  try simp only [Act.put, List.getElem_toArray, List.getElem_cons_zero, List.getElem_cons_succ, List.setIfInBounds_toArray, List.set_cons_zero, List.set_cons_succ]
  refine AnyE.next (rs := [6]) (by kernel_rfl) (by simp) ?_
  refine AllE.cons rfl (fun K hK => ?_) AllE.nil
  go_simp
  refine hK.out _ _ (HS.out _ (((Below.refl w0.heap.size w0).drew.drew.trans (hb1.mono (Nat.le_refl _))).trans (hb2.mono hb1.size))) (fun hHeld => ?_)
  clear hK K
  try simp only [Act.put, List.getElem_toArray, List.getElem_cons_zero, List.getElem_cons_succ, List.setIfInBounds_toArray, List.set_cons_zero, List.set_cons_succ]
  refine AnyE.next (rs := [7]) (by kernel_rfl) (by simp) ?_
  refine AllE.last rfl (fun K hK => ?_)
  go_simp
  refine hK.out _ _ ?_
  clear hK K
  try simp only [Act.put, List.getElem_toArray, List.getElem_cons_zero, List.getElem_cons_succ, List.setIfInBounds_toArray, List.set_cons_zero, List.set_cons_succ]
  refine AnyE.done (by kernel_rfl) ?_ _
  have hb20 := ((Below.refl w0.heap.size w0).drew.drew.trans (hb1.mono (Nat.le_refl _))).trans (hb2.mono hb1.size)
  have HY2 := Lib.hid (HY.out.below hb20 HY.out.lt)
  have HA2 := Lib.hid (HA.out.below hb20 HA.out.lt)
  have HR2 := Lib.hid (HR.out.below hb20 HR.out.lt)
  have HB2 := Lib.hid (HB.out.trans (hb20.mono HB.out.size))
  clear hb1 hb2 hb20 S0
  clear hHeld
  have y0 := HY2.out.cell 0 rfl
  have y1 := HY2.out.cell 1 rfl
  have y2 := HY2.out.cell 2 rfl
  have y3 := HY2.out.cell 3 rfl
  have y4 := HY2.out.cell 4 rfl
  have y5 := HY2.out.cell 5 rfl
  have y6 := HY2.out.cell 6 rfl
  have a0 := HA2.out.cell 0 rfl
  have a1 := HA2.out.cell 1 rfl
  have a2 := HA2.out.cell 2 rfl
  have HYX := Lib.hid (show Y ≠ X from by have h1 := HXe.out; have h2 := HYe.out; omega)
  have HYR := Lib.hid (show Y ≠ R from by have h1 := HRe.out; have h2 := HYe.out; omega)
  have HYW := Lib.hid (show w.heap.size ≤ Y from by have h2 := HYe.out; omega)
  go_upto_region 9 with fail
  have HS := Lib.hid (fun (wx : World) (hb : Below w2.heap.size w2.drew wx) => show wx.cell? ⟨Y, 0, none⟩ = some (.slice xa na ca) ∧ wx.cell? ⟨Y, 1, none⟩ = some (.slice xb nb cb) ∧ wx.cell? ⟨Y, 2, none⟩ = some (.bool true) ∧ wx.cell? ⟨Y, 3, none⟩ = some (.bool true) ∧ wx.cell? ⟨Y, 4, none⟩ = some (.int .i64 0) ∧ wx.cell? ⟨Y, 5, none⟩ = some (.int .i64 tm) ∧ wx.cell? ⟨Y, 6, none⟩ = some (.int .i64 st) ∧ wx.cell? ⟨X, 0, none⟩ = some (.int .i64 0) ∧ wx.cell? ⟨X, 1, none⟩ = some (.int .i64 tm) ∧ wx.cell? ⟨X, 2, none⟩ = some (.int .i64 sd) ∧ wx.cell? ⟨X, 3, none⟩ = some (.int .i64 ck) ∧ wx.cell? ⟨X, 4, none⟩ = some (.int .i64 cv) ∧ wx.cell? ⟨X, 5, none⟩ = some (.int .i64 ce) ∧ wx.cell? ⟨X, 6, none⟩ = some (.int .i64 cc) ∧ wx.cell? ⟨X, 7, none⟩ = some (.int .i64 cn) ∧ wx.cell? ⟨X, 8, none⟩ = some (.int .i64 c1) ∧ wx.cell? ⟨X, 9, none⟩ = some (.int .i64 c2) ∧ wx.cell? ⟨X, 10, none⟩ = some (.int .i64 c3) from
    have h := HY2.out.below ((Below.refl w2.heap.size w2).drew.trans hb) HY2.out.lt
    have g := HA2.out.below ((Below.refl w2.heap.size w2).drew.trans hb) HA2.out.lt
    ⟨h.cell 0 rfl, h.cell 1 rfl, h.cell 2 rfl, h.cell 3 rfl, h.cell 4 rfl, h.cell 5 rfl, h.cell 6 rfl, g.cell 0 rfl, g.cell 1 rfl, g.cell 2 rfl, g.cell 3 rfl, g.cell 4 rfl, g.cell 5 rfl, g.cell 6 rfl, g.cell 7 rfl, g.cell 8 rfl, g.cell 9 rfl, g.cell 10 rfl⟩)
  have S0 := HS.out w2.drew (Below.refl _ _)
  have HVD := Lib.hid (show IsX w2.drew 8 (.slice xa na ca) na (row ccl L) from HV.out.mono HB2.out.drew (Nat.le_refl _))
  clear y0 y1 y2 y3 y4 y5 y6 a0 a1 a2
  refine AnyE.start (S := (fun wx => wx.cell? ⟨Y, 0, none⟩ = some (.slice xa na ca) ∧ wx.cell? ⟨Y, 1, none⟩ = some (.slice xb nb cb) ∧ wx.cell? ⟨Y, 2, none⟩ = some (.bool true) ∧ wx.cell? ⟨Y, 3, none⟩ = some (.bool true) ∧ wx.cell? ⟨Y, 4, none⟩ = some (.int .i64 0) ∧ wx.cell? ⟨Y, 5, none⟩ = some (.int .i64 tm) ∧ wx.cell? ⟨Y, 6, none⟩ = some (.int .i64 st) ∧ wx.cell? ⟨X, 0, none⟩ = some (.int .i64 0) ∧ wx.cell? ⟨X, 1, none⟩ = some (.int .i64 tm) ∧ wx.cell? ⟨X, 2, none⟩ = some (.int .i64 sd) ∧ wx.cell? ⟨X, 3, none⟩ = some (.int .i64 ck) ∧ wx.cell? ⟨X, 4, none⟩ = some (.int .i64 cv) ∧ wx.cell? ⟨X, 5, none⟩ = some (.int .i64 ce) ∧ wx.cell? ⟨X, 6, none⟩ = some (.int .i64 cc) ∧ wx.cell? ⟨X, 7, none⟩ = some (.int .i64 cn) ∧ wx.cell? ⟨X, 8, none⟩ = some (.int .i64 c1) ∧ wx.cell? ⟨X, 9, none⟩ = some (.int .i64 c2) ∧ wx.cell? ⟨X, 10, none⟩ = some (.int .i64 c3))) 10 (by kernel_rfl) (S0) (fun hHeld => ?_)
  refine AnyE.take (i := 0) (v := ?_) rfl (by kernel_rfl) (by kernel_rfl) (by kernel_rfl) (by kernel_rfl) (fun _ _ _ h => h) (Or.inl ⟨by rfl, ?_⟩) (by assumption) ?_
  rotate_left 1
  · intro w hSw
    (try dsimp only at hSw)
    go_simp
    all_goals (with_reducible rfl)
  try simp only [Act.put, List.getElem_toArray, List.getElem_cons_zero, List.getElem_cons_succ, List.setIfInBounds_toArray, List.set_cons_zero, List.set_cons_succ]
  refine AnyE.take (i := 1) (v := ?_) rfl (by kernel_rfl) (by kernel_rfl) (by kernel_rfl) (by kernel_rfl) (fun _ _ _ h => h) (Or.inl ⟨by rfl, ?_⟩) (by assumption) ?_
  rotate_left 1
  · intro w hSw
    (try dsimp only at hSw)
    go_simp
    all_goals (with_reducible rfl)
  try simp only [Act.put, List.getElem_toArray, List.getElem_cons_zero, List.getElem_cons_succ, List.setIfInBounds_toArray, List.set_cons_zero, List.set_cons_succ]
  refine AnyE.take (i := 3) (v := ?_) rfl (by kernel_rfl) (by kernel_rfl) (by kernel_rfl) (by kernel_rfl) (fun _ _ _ h => h) (Or.inl ⟨by rfl, ?_⟩) (by assumption) ?_
  rotate_left 1
  · intro w hSw
    (try dsimp only at hSw)
    go_simp
    all_goals (with_reducible rfl)
  try simp only [Act.put, List.getElem_toArray, List.getElem_cons_zero, List.getElem_cons_succ, List.setIfInBounds_toArray, List.set_cons_zero, List.set_cons_succ]
  refine AnyE.take (i := 5) (v := ?_) rfl (by kernel_rfl) (by kernel_rfl) (by kernel_rfl) (by kernel_rfl) (fun _ _ _ h => h) (Or.inl ⟨by rfl, ?_⟩) (by assumption) ?_
  rotate_left 1
  · intro w hSw
    (try dsimp only at hSw)
    go_simp
    all_goals (with_reducible rfl)
  try simp only [Act.put, List.getElem_toArray, List.getElem_cons_zero, List.getElem_cons_succ, List.setIfInBounds_toArray, List.set_cons_zero, List.set_cons_succ]
  refine AnyE.take (i := 6) (v := ?_) rfl (by kernel_rfl) (by kernel_rfl) (by kernel_rfl) (by kernel_rfl) (fun _ _ _ h => h) (Or.inl ⟨by rfl, ?_⟩) (by assumption) ?_
  rotate_left 1
  · intro w hSw
    (try dsimp only at hSw)
    go_simp
    all_goals (with_reducible rfl)
  try simp only [Act.put, List.getElem_toArray, List.getElem_cons_zero, List.getElem_cons_succ, List.setIfInBounds_toArray, List.set_cons_zero, List.set_cons_succ]
  refine AnyE.next (rs := [2, 7]) (by kernel_rfl) (by simp) ?_
  refine AllE.cons rfl (fun K hK => ?_) ?_
  · go_simp
    refine hK.out _ _ (HS.out _ ((Below.refl w2.heap.size w2.drew).alloc (by have h := (Below.refl w2.heap.size w2.drew).size; exact h) (.cells #[] 33))) (fun hHeld => ?_)
    clear hK K
    try simp only [Act.put, List.getElem_toArray, List.getElem_cons_zero, List.getElem_cons_succ, List.setIfInBounds_toArray, List.set_cons_zero, List.set_cons_succ]
    refine AnyE.next (rs := [4, 7]) (by kernel_rfl) (by simp) ?_
    refine AllE.cons rfl (fun K hK => ?_) ?_
    · refine step_append_X (by rfl) _ _ 26 rfl w2.heap.size 33 i0 _ 8 64 Try.underlying26 HI0.out HZ0.out HZ1.out HZ2.out rfl (by decide) _ [] 0 rfl (own_litAt14 w2.drew w2.heap.size 33 8 w2.heap.size rfl (Nat.le_refl _)) _ na _ rfl (HVD.out.mono ((Below.refl w2.heap.size w2.drew).alloc (by have h := (Below.refl w2.heap.size w2.drew).size; exact h) (.cells #[] 33)) (Nat.le_refl _)) (row_mem fun x _ => ccl_one x) (by have h := HNB.out; unfold maxLen; omega) (by have h := HNB.out; omega) (by have h := ((Below.refl w2.heap.size w2.drew).alloc (by have h := (Below.refl w2.heap.size w2.drew).size; exact h) (.cells #[] 33)).size; exact h) ?_
      intro v6 w6 hown6 hgr6 hat6
      have HO6 := Lib.hid (show w6.ownsRow w2.heap.size 33 8 v6 na (row ccl L) from by have h := hown6; rw [Nat.zero_add] at h; simpa using h)
      have HB6 := Lib.hid (((Below.refl w2.heap.size w2.drew).alloc (by have h := (Below.refl w2.heap.size w2.drew).size; exact h) (.cells #[] 33)).grown hgr6 (by have h := ((Below.refl w2.heap.size w2.drew).alloc (by have h := (Below.refl w2.heap.size w2.drew).size; exact h) (.cells #[] 33)).size; exact h) (fun j hj => by have h := ((own_litAt14 w2.drew w2.heap.size 33 8 w2.heap.size rfl (Nat.le_refl _))).lt j hj; exact h.1))
      have S6 := HS.out _ HB6.out
      refine hK.out _ _ (S6) (fun hHeld => ?_)
      clear hK K
      try simp only [Act.put, List.getElem_toArray, List.getElem_cons_zero, List.getElem_cons_succ, List.setIfInBounds_toArray, List.set_cons_zero, List.set_cons_succ]
      refine AnyE.next (rs := [7]) (by kernel_rfl) (by simp) ?_
      refine AllE.cons rfl (fun K hK => ?_) AllE.nil
      go_simp
      refine hK.out _ _ (HS.out _ (HB6.out.alloc HB6.out.size (.cells #[.int .i64 ck, .int .i64 cv, .int .i64 ce, .int .i64 cc, .int .i64 cn, .int .i64 c1, .int .i64 c2, .int .i64 c3] 33))) (fun hHeld => ?_)
      clear hK K
      try simp only [Act.put, List.getElem_toArray, List.getElem_cons_zero, List.getElem_cons_succ, List.setIfInBounds_toArray, List.set_cons_zero, List.set_cons_succ]
      refine AnyE.next (rs := [8]) (by kernel_rfl) (by simp) ?_
      refine AllE.cons rfl (fun K hK => ?_) AllE.nil
      refine step_append_X (by rfl) _ _ 26 rfl w2.heap.size 33 i0 _ 8 64 Try.underlying26 HI0.out HZ0.out HZ1.out HZ2.out rfl (by decide) _ (row ccl L) na rfl (HO6.out.alloc (.cells #[.int .i64 ck, .int .i64 cv, .int .i64 ce, .int .i64 cc, .int .i64 cn, .int .i64 c1, .int .i64 c2, .int .i64 c3] 33)) _ 1 _ rfl (IsX.litAt14 w6 #[.int .i64 ck, .int .i64 cv, .int .i64 ce, .int .i64 cc, .int .i64 cn, .int .i64 c1, .int .i64 c2, .int .i64 c3] 33 8 1 w6.heap.size rfl rfl (by decide)) (fun u hu => ccl_one ⟨ck, cv, ce, cc, cn, c1, c2, c3⟩ u hu) (by have h := HNB.out; unfold maxLen; omega) (by have h := HNB.out; omega) (by have h := (HB6.out.alloc HB6.out.size (.cells #[.int .i64 ck, .int .i64 cv, .int .i64 ce, .int .i64 cc, .int .i64 cn, .int .i64 c1, .int .i64 c2, .int .i64 c3] 33)).size; exact h) ?_
      intro v9 w9 hown9 hgr9 hat9
      have HB9 := Lib.hid ((HB6.out.alloc HB6.out.size (.cells #[.int .i64 ck, .int .i64 cv, .int .i64 ce, .int .i64 cc, .int .i64 cn, .int .i64 c1, .int .i64 c2, .int .i64 c3] 33)).grown hgr9 (by have h := (HB6.out.alloc HB6.out.size (.cells #[.int .i64 ck, .int .i64 cv, .int .i64 ce, .int .i64 cc, .int .i64 cn, .int .i64 c1, .int .i64 c2, .int .i64 c3] 33)).size; exact h) (fun j hj => by have h := ((HO6.out.alloc (.cells #[.int .i64 ck, .int .i64 cv, .int .i64 ce, .int .i64 cc, .int .i64 cn, .int .i64 c1, .int .i64 c2, .int .i64 c3] 33))).lt j hj; exact h.1))
      have HX9 := Lib.hid (show IsX w9 8 v9 (na + 1) (row ccl (L ++ [⟨ck, cv, ce, cc, cn, c1, c2, c3⟩])) from IsX.own (by rw [row_append, row_one]; exact hown9))
      have S9 := HS.out _ HB9.out
      clear hown9 hgr9 hat9
      refine hK.out _ _ (S9) (fun hHeld => ?_)
      clear hK K
      try simp only [Act.put, List.getElem_toArray, List.getElem_cons_zero, List.getElem_cons_succ, List.setIfInBounds_toArray, List.set_cons_zero, List.set_cons_succ]
      refine AnyE.next (rs := [9]) (by kernel_rfl) (by simp) ?_
      refine AllE.cons rfl (fun K hK => ?_) AllE.nil
      go_simp
      refine (rwith20_0 xa xb na nb ca cb true true 0 tm st v9 (na + 1) (L ++ [⟨ck, cv, ce, cc, cn, c1, c2, c3⟩]) w9 HX9.out (by have h := HNB.out; omega)).mono ?_
      rintro e w10 ⟨x, k, rfl, hx10, ho10, hb10⟩
      skip
      have HX10 := Lib.hid hx10
      have HO10 := Lib.hid (show ∀ q, (Value.slice x (na + 1) k).ownBlock = some q → w2.heap.size ≤ q from fun q e => Nat.le_trans HB9.out.size (ho10 q e))
      have HB10 := Lib.hid (HB9.out.trans (hb10.mono HB9.out.size))
      clear hx10 ho10 hb10
      refine hK.out _ _ (HS.out _ HB10.out) (fun hHeld => ?_)
      clear hK K
      try simp only [Act.put, List.getElem_toArray, List.getElem_cons_zero, List.getElem_cons_succ, List.setIfInBounds_toArray, List.set_cons_zero, List.set_cons_succ]
      refine AnyE.next (rs := [10]) (by kernel_rfl) (by simp) ?_
      refine AllE.last rfl (fun K hK => ?_)
      refine step_store7 rfl 29 Try.sizePr20 _ _ rfl Y 29 (show Blk w10 Y #[.slice xa na ca, .slice xb nb cb, .bool true, .bool true, .int .i64 0, .int .i64 tm, .int .i64 st] 29 from HY2.out.below ((Below.refl w2.heap.size w2).drew.trans HB10.out) HY2.out.lt) rfl rfl ?_
      intro w11 hy11 hk11
      have HY11 := Lib.hid hy11
      have HR11 := Lib.hid ((HR2.out.below ((Below.refl w2.heap.size w2).drew.trans HB10.out) HR2.out.lt).kept hk11 (fun e => HYR.out e.symm))
      have HX11 := Lib.hid (HX10.out.kept hk11 (fun q hq e => by have h1 := HO10.out q hq.2; have h2 := HY2.out.lt; omega))
      have HB11 := Lib.hid ((HB2.out.trans (((Below.refl w2.heap.size w2).drew.trans HB10.out).mono HB2.out.size)).trans (hk11.below (Nat.le_trans HB2.out.size (show w2.heap.size ≤ w10.heap.size from HB10.out.size)) (fun q hq e => by have h1 := HYW.out; omega)))
      clear hy11 hk11
      refine hK.out _ _ ?_
      clear hK K
      try simp only [Act.put, List.getElem_toArray, List.getElem_cons_zero, List.getElem_cons_succ, List.setIfInBounds_toArray, List.set_cons_zero, List.set_cons_succ]
      refine AnyE.done (by kernel_rfl) ?_ _
      have y0 := HY11.out.cell 0 rfl
      have y1 := HY11.out.cell 1 rfl
      have y2 := HY11.out.cell 2 rfl
      have y3 := HY11.out.cell 3 rfl
      have y4 := HY11.out.cell 4 rfl
      have y5 := HY11.out.cell 5 rfl
      have y6 := HY11.out.cell 6 rfl
      go_wp2_with (refine wpList_store7 rfl 29 Try.sizePr20 _ _ rfl R 29 HR11.out rfl rfl ?_)
      intro w15 hr15 hk15
      have HB15 := Lib.hid (HB11.out.trans (hk15.below HB11.out.size (fun q hq e => by have h1 := HRe.out; omega)))
      have HX15 := Lib.hid (HX11.out.kept hk15 (fun q hq e => by have h1 := HO10.out q hq.2; have h2 := HR2.out.lt; omega))
      have HO15 := Lib.hid (show ∀ q, (Value.slice x (na + 1) k).ownBlock = some q → w.heap.size ≤ q from fun q e => Nat.le_trans HB2.out.size (HO10.out q e))
      have z0 := hr15.cell 0 rfl
      have z1 := hr15.cell 1 rfl
      have z2 := hr15.cell 2 rfl
      have z3 := hr15.cell 3 rfl
      have z4 := hr15.cell 4 rfl
      have z5 := hr15.cell 5 rfl
      have z6 := hr15.cell 6 rfl
      clear hr15 hk15 y0 y1 y2 y3 y4 y5 y6
      go_wp2
      exact bodyPost_ret (v := .tuple #[.agg #[.slice x (na + 1) k, .slice xb nb cb, .bool true, .bool true, .int .i64 0, .int .i64 tm, .int .i64 st], .int .i64 (na : Int), .int .i64 0]) (by simp [results, Try.results10, go_sem, z0, z1, z2, z3, z4, z5, z6]) rfl ⟨x, k, rfl, HX15.out, HO15.out, HB15.out⟩
    refine AllE.cons rfl (fun K hK => ?_) AllE.nil
    go_simp
    refine hK.out _ _ (HS.out _ (((Below.refl w2.heap.size w2.drew).alloc (by have h := (Below.refl w2.heap.size w2.drew).size; exact h) (.cells #[] 33)).alloc (by have h := ((Below.refl w2.heap.size w2.drew).alloc (by have h := (Below.refl w2.heap.size w2.drew).size; exact h) (.cells #[] 33)).size; exact h) (.cells #[.int .i64 ck, .int .i64 cv, .int .i64 ce, .int .i64 cc, .int .i64 cn, .int .i64 c1, .int .i64 c2, .int .i64 c3] 33))) (fun hHeld => ?_)
    clear hK K
    try simp only [Act.put, List.getElem_toArray, List.getElem_cons_zero, List.getElem_cons_succ, List.setIfInBounds_toArray, List.set_cons_zero, List.set_cons_succ]
    refine AnyE.next (rs := [4]) (by kernel_rfl) (by simp) ?_
    refine AllE.cons rfl (fun K hK => ?_) AllE.nil
    refine step_append_X (by rfl) _ _ 26 rfl w2.heap.size 33 i0 _ 8 64 Try.underlying26 HI0.out HZ0.out HZ1.out HZ2.out rfl (by decide) _ [] 0 rfl ((own_litAt14 w2.drew w2.heap.size 33 8 w2.heap.size rfl (Nat.le_refl _)).alloc (.cells #[.int .i64 ck, .int .i64 cv, .int .i64 ce, .int .i64 cc, .int .i64 cn, .int .i64 c1, .int .i64 c2, .int .i64 c3] 33)) _ na _ rfl (HVD.out.mono (((Below.refl w2.heap.size w2.drew).alloc (by have h := (Below.refl w2.heap.size w2.drew).size; exact h) (.cells #[] 33)).alloc (by have h := ((Below.refl w2.heap.size w2.drew).alloc (by have h := (Below.refl w2.heap.size w2.drew).size; exact h) (.cells #[] 33)).size; exact h) (.cells #[.int .i64 ck, .int .i64 cv, .int .i64 ce, .int .i64 cc, .int .i64 cn, .int .i64 c1, .int .i64 c2, .int .i64 c3] 33)) (Nat.le_refl _)) (row_mem fun x _ => ccl_one x) (by have h := HNB.out; unfold maxLen; omega) (by have h := HNB.out; omega) (by have h := (((Below.refl w2.heap.size w2.drew).alloc (by have h := (Below.refl w2.heap.size w2.drew).size; exact h) (.cells #[] 33)).alloc (by have h := ((Below.refl w2.heap.size w2.drew).alloc (by have h := (Below.refl w2.heap.size w2.drew).size; exact h) (.cells #[] 33)).size; exact h) (.cells #[.int .i64 ck, .int .i64 cv, .int .i64 ce, .int .i64 cc, .int .i64 cn, .int .i64 c1, .int .i64 c2, .int .i64 c3] 33)).size; exact h) ?_
    intro v6 w6 hown6 hgr6 hat6
    have HO6 := Lib.hid (show w6.ownsRow w2.heap.size 33 8 v6 na (row ccl L) from by have h := hown6; rw [Nat.zero_add] at h; simpa using h)
    have HB6 := Lib.hid ((((Below.refl w2.heap.size w2.drew).alloc (by have h := (Below.refl w2.heap.size w2.drew).size; exact h) (.cells #[] 33)).alloc (by have h := ((Below.refl w2.heap.size w2.drew).alloc (by have h := (Below.refl w2.heap.size w2.drew).size; exact h) (.cells #[] 33)).size; exact h) (.cells #[.int .i64 ck, .int .i64 cv, .int .i64 ce, .int .i64 cc, .int .i64 cn, .int .i64 c1, .int .i64 c2, .int .i64 c3] 33)).grown hgr6 (by have h := (((Below.refl w2.heap.size w2.drew).alloc (by have h := (Below.refl w2.heap.size w2.drew).size; exact h) (.cells #[] 33)).alloc (by have h := ((Below.refl w2.heap.size w2.drew).alloc (by have h := (Below.refl w2.heap.size w2.drew).size; exact h) (.cells #[] 33)).size; exact h) (.cells #[.int .i64 ck, .int .i64 cv, .int .i64 ce, .int .i64 cc, .int .i64 cn, .int .i64 c1, .int .i64 c2, .int .i64 c3] 33)).size; exact h) (fun j hj => by have h := (((own_litAt14 w2.drew w2.heap.size 33 8 w2.heap.size rfl (Nat.le_refl _)).alloc (.cells #[.int .i64 ck, .int .i64 cv, .int .i64 ce, .int .i64 cc, .int .i64 cn, .int .i64 c1, .int .i64 c2, .int .i64 c3] 33))).lt j hj; exact h.1))
    have S6 := HS.out _ HB6.out
    refine hK.out _ _ (S6) (fun hHeld => ?_)
    clear hK K
    try simp only [Act.put, List.getElem_toArray, List.getElem_cons_zero, List.getElem_cons_succ, List.setIfInBounds_toArray, List.set_cons_zero, List.set_cons_succ]
    refine AnyE.next (rs := [8]) (by kernel_rfl) (by simp) ?_
    refine AllE.cons rfl (fun K hK => ?_) AllE.nil
    refine step_append_X (by rfl) _ _ 26 rfl w2.heap.size 33 i0 _ 8 64 Try.underlying26 HI0.out HZ0.out HZ1.out HZ2.out rfl (by decide) _ (row ccl L) na rfl HO6.out _ 1 _ rfl (((IsX.litAt14 (w2.drew.alloc (.cells #[] 33)) #[.int .i64 ck, .int .i64 cv, .int .i64 ce, .int .i64 cc, .int .i64 cn, .int .i64 c1, .int .i64 c2, .int .i64 c3] 33 8 1 (w2.heap.size + 1) (by simp) rfl (by decide))).kept ((Kept.refl (fun j => some w2.heap.size = some j) _).grown hgr6 (fun k hk => .inl hk)) (fun k hk hs => by have h1 : some (w2.heap.size + 1) = some k := hk.2; have h2 := Option.some.inj h1; have h3 := Option.some.inj hs; omega)) (fun u hu => ccl_one ⟨ck, cv, ce, cc, cn, c1, c2, c3⟩ u hu) (by have h := HNB.out; unfold maxLen; omega) (by have h := HNB.out; omega) (by have h := HB6.out.size; exact h) ?_
    intro v9 w9 hown9 hgr9 hat9
    have HB9 := Lib.hid (HB6.out.grown hgr9 (by have h := HB6.out.size; exact h) (fun j hj => by have h := (HO6.out).lt j hj; exact h.1))
    have HX9 := Lib.hid (show IsX w9 8 v9 (na + 1) (row ccl (L ++ [⟨ck, cv, ce, cc, cn, c1, c2, c3⟩])) from IsX.own (by rw [row_append, row_one]; exact hown9))
    have S9 := HS.out _ HB9.out
    clear hown9 hgr9 hat9
    refine hK.out _ _ (S9) (fun hHeld => ?_)
    clear hK K
    try simp only [Act.put, List.getElem_toArray, List.getElem_cons_zero, List.getElem_cons_succ, List.setIfInBounds_toArray, List.set_cons_zero, List.set_cons_succ]
    refine AnyE.next (rs := [9]) (by kernel_rfl) (by simp) ?_
    refine AllE.cons rfl (fun K hK => ?_) AllE.nil
    go_simp
    refine (rwith20_0 xa xb na nb ca cb true true 0 tm st v9 (na + 1) (L ++ [⟨ck, cv, ce, cc, cn, c1, c2, c3⟩]) w9 HX9.out (by have h := HNB.out; omega)).mono ?_
    rintro e w10 ⟨x, k, rfl, hx10, ho10, hb10⟩
    skip
    have HX10 := Lib.hid hx10
    have HO10 := Lib.hid (show ∀ q, (Value.slice x (na + 1) k).ownBlock = some q → w2.heap.size ≤ q from fun q e => Nat.le_trans HB9.out.size (ho10 q e))
    have HB10 := Lib.hid (HB9.out.trans (hb10.mono HB9.out.size))
    clear hx10 ho10 hb10
    refine hK.out _ _ (HS.out _ HB10.out) (fun hHeld => ?_)
    clear hK K
    try simp only [Act.put, List.getElem_toArray, List.getElem_cons_zero, List.getElem_cons_succ, List.setIfInBounds_toArray, List.set_cons_zero, List.set_cons_succ]
    refine AnyE.next (rs := [10]) (by kernel_rfl) (by simp) ?_
    refine AllE.last rfl (fun K hK => ?_)
    refine step_store7 rfl 29 Try.sizePr20 _ _ rfl Y 29 (show Blk w10 Y #[.slice xa na ca, .slice xb nb cb, .bool true, .bool true, .int .i64 0, .int .i64 tm, .int .i64 st] 29 from HY2.out.below ((Below.refl w2.heap.size w2).drew.trans HB10.out) HY2.out.lt) rfl rfl ?_
    intro w11 hy11 hk11
    have HY11 := Lib.hid hy11
    have HR11 := Lib.hid ((HR2.out.below ((Below.refl w2.heap.size w2).drew.trans HB10.out) HR2.out.lt).kept hk11 (fun e => HYR.out e.symm))
    have HX11 := Lib.hid (HX10.out.kept hk11 (fun q hq e => by have h1 := HO10.out q hq.2; have h2 := HY2.out.lt; omega))
    have HB11 := Lib.hid ((HB2.out.trans (((Below.refl w2.heap.size w2).drew.trans HB10.out).mono HB2.out.size)).trans (hk11.below (Nat.le_trans HB2.out.size (show w2.heap.size ≤ w10.heap.size from HB10.out.size)) (fun q hq e => by have h1 := HYW.out; omega)))
    clear hy11 hk11
    refine hK.out _ _ ?_
    clear hK K
    try simp only [Act.put, List.getElem_toArray, List.getElem_cons_zero, List.getElem_cons_succ, List.setIfInBounds_toArray, List.set_cons_zero, List.set_cons_succ]
    refine AnyE.done (by kernel_rfl) ?_ _
    have y0 := HY11.out.cell 0 rfl
    have y1 := HY11.out.cell 1 rfl
    have y2 := HY11.out.cell 2 rfl
    have y3 := HY11.out.cell 3 rfl
    have y4 := HY11.out.cell 4 rfl
    have y5 := HY11.out.cell 5 rfl
    have y6 := HY11.out.cell 6 rfl
    go_wp2_with (refine wpList_store7 rfl 29 Try.sizePr20 _ _ rfl R 29 HR11.out rfl rfl ?_)
    intro w15 hr15 hk15
    have HB15 := Lib.hid (HB11.out.trans (hk15.below HB11.out.size (fun q hq e => by have h1 := HRe.out; omega)))
    have HX15 := Lib.hid (HX11.out.kept hk15 (fun q hq e => by have h1 := HO10.out q hq.2; have h2 := HR2.out.lt; omega))
    have HO15 := Lib.hid (show ∀ q, (Value.slice x (na + 1) k).ownBlock = some q → w.heap.size ≤ q from fun q e => Nat.le_trans HB2.out.size (HO10.out q e))
    have z0 := hr15.cell 0 rfl
    have z1 := hr15.cell 1 rfl
    have z2 := hr15.cell 2 rfl
    have z3 := hr15.cell 3 rfl
    have z4 := hr15.cell 4 rfl
    have z5 := hr15.cell 5 rfl
    have z6 := hr15.cell 6 rfl
    clear hr15 hk15 y0 y1 y2 y3 y4 y5 y6
    go_wp2
    exact bodyPost_ret (v := .tuple #[.agg #[.slice x (na + 1) k, .slice xb nb cb, .bool true, .bool true, .int .i64 0, .int .i64 tm, .int .i64 st], .int .i64 (na : Int), .int .i64 0]) (by simp [results, Try.results10, go_sem, z0, z1, z2, z3, z4, z5, z6]) rfl ⟨x, k, rfl, HX15.out, HO15.out, HB15.out⟩
  refine AllE.cons rfl (fun K hK => ?_) AllE.nil
  go_simp
  refine hK.out _ _ (HS.out _ ((Below.refl w2.heap.size w2.drew).alloc (by have h := (Below.refl w2.heap.size w2.drew).size; exact h) (.cells #[.int .i64 ck, .int .i64 cv, .int .i64 ce, .int .i64 cc, .int .i64 cn, .int .i64 c1, .int .i64 c2, .int .i64 c3] 33))) (fun hHeld => ?_)
  clear hK K
  try simp only [Act.put, List.getElem_toArray, List.getElem_cons_zero, List.getElem_cons_succ, List.setIfInBounds_toArray, List.set_cons_zero, List.set_cons_succ]
  refine AnyE.next (rs := [2]) (by kernel_rfl) (by simp) ?_
  refine AllE.cons rfl (fun K hK => ?_) AllE.nil
  go_simp
  refine hK.out _ _ (HS.out _ (((Below.refl w2.heap.size w2.drew).alloc (by have h := (Below.refl w2.heap.size w2.drew).size; exact h) (.cells #[.int .i64 ck, .int .i64 cv, .int .i64 ce, .int .i64 cc, .int .i64 cn, .int .i64 c1, .int .i64 c2, .int .i64 c3] 33)).alloc (by have h := ((Below.refl w2.heap.size w2.drew).alloc (by have h := (Below.refl w2.heap.size w2.drew).size; exact h) (.cells #[.int .i64 ck, .int .i64 cv, .int .i64 ce, .int .i64 cc, .int .i64 cn, .int .i64 c1, .int .i64 c2, .int .i64 c3] 33)).size; exact h) (.cells #[] 33))) (fun hHeld => ?_)
  clear hK K
  try simp only [Act.put, List.getElem_toArray, List.getElem_cons_zero, List.getElem_cons_succ, List.setIfInBounds_toArray, List.set_cons_zero, List.set_cons_succ]
  refine AnyE.next (rs := [4]) (by kernel_rfl) (by simp) ?_
  refine AllE.cons rfl (fun K hK => ?_) AllE.nil
  refine step_append_X (by rfl) _ _ 26 rfl w2.heap.size 33 i0 _ 8 64 Try.underlying26 HI0.out HZ0.out HZ1.out HZ2.out rfl (by decide) _ [] 0 rfl (own_litAt14 (w2.drew.alloc (.cells #[.int .i64 ck, .int .i64 cv, .int .i64 ce, .int .i64 cc, .int .i64 cn, .int .i64 c1, .int .i64 c2, .int .i64 c3] 33)) w2.heap.size 33 8 (w2.heap.size + 1) (by simp) (by omega)) _ na _ rfl (HVD.out.mono (((Below.refl w2.heap.size w2.drew).alloc (by have h := (Below.refl w2.heap.size w2.drew).size; exact h) (.cells #[.int .i64 ck, .int .i64 cv, .int .i64 ce, .int .i64 cc, .int .i64 cn, .int .i64 c1, .int .i64 c2, .int .i64 c3] 33)).alloc (by have h := ((Below.refl w2.heap.size w2.drew).alloc (by have h := (Below.refl w2.heap.size w2.drew).size; exact h) (.cells #[.int .i64 ck, .int .i64 cv, .int .i64 ce, .int .i64 cc, .int .i64 cn, .int .i64 c1, .int .i64 c2, .int .i64 c3] 33)).size; exact h) (.cells #[] 33)) (Nat.le_refl _)) (row_mem fun x _ => ccl_one x) (by have h := HNB.out; unfold maxLen; omega) (by have h := HNB.out; omega) (by have h := (((Below.refl w2.heap.size w2.drew).alloc (by have h := (Below.refl w2.heap.size w2.drew).size; exact h) (.cells #[.int .i64 ck, .int .i64 cv, .int .i64 ce, .int .i64 cc, .int .i64 cn, .int .i64 c1, .int .i64 c2, .int .i64 c3] 33)).alloc (by have h := ((Below.refl w2.heap.size w2.drew).alloc (by have h := (Below.refl w2.heap.size w2.drew).size; exact h) (.cells #[.int .i64 ck, .int .i64 cv, .int .i64 ce, .int .i64 cc, .int .i64 cn, .int .i64 c1, .int .i64 c2, .int .i64 c3] 33)).size; exact h) (.cells #[] 33)).size; exact h) ?_
  intro v6 w6 hown6 hgr6 hat6
  have HO6 := Lib.hid (show w6.ownsRow w2.heap.size 33 8 v6 na (row ccl L) from by have h := hown6; rw [Nat.zero_add] at h; simpa using h)
  have HB6 := Lib.hid ((((Below.refl w2.heap.size w2.drew).alloc (by have h := (Below.refl w2.heap.size w2.drew).size; exact h) (.cells #[.int .i64 ck, .int .i64 cv, .int .i64 ce, .int .i64 cc, .int .i64 cn, .int .i64 c1, .int .i64 c2, .int .i64 c3] 33)).alloc (by have h := ((Below.refl w2.heap.size w2.drew).alloc (by have h := (Below.refl w2.heap.size w2.drew).size; exact h) (.cells #[.int .i64 ck, .int .i64 cv, .int .i64 ce, .int .i64 cc, .int .i64 cn, .int .i64 c1, .int .i64 c2, .int .i64 c3] 33)).size; exact h) (.cells #[] 33)).grown hgr6 (by have h := (((Below.refl w2.heap.size w2.drew).alloc (by have h := (Below.refl w2.heap.size w2.drew).size; exact h) (.cells #[.int .i64 ck, .int .i64 cv, .int .i64 ce, .int .i64 cc, .int .i64 cn, .int .i64 c1, .int .i64 c2, .int .i64 c3] 33)).alloc (by have h := ((Below.refl w2.heap.size w2.drew).alloc (by have h := (Below.refl w2.heap.size w2.drew).size; exact h) (.cells #[.int .i64 ck, .int .i64 cv, .int .i64 ce, .int .i64 cc, .int .i64 cn, .int .i64 c1, .int .i64 c2, .int .i64 c3] 33)).size; exact h) (.cells #[] 33)).size; exact h) (fun j hj => by have h := ((own_litAt14 (w2.drew.alloc (.cells #[.int .i64 ck, .int .i64 cv, .int .i64 ce, .int .i64 cc, .int .i64 cn, .int .i64 c1, .int .i64 c2, .int .i64 c3] 33)) w2.heap.size 33 8 (w2.heap.size + 1) (by simp) (by omega))).lt j hj; exact h.1))
  have S6 := HS.out _ HB6.out
  refine hK.out _ _ (S6) (fun hHeld => ?_)
  clear hK K
  try simp only [Act.put, List.getElem_toArray, List.getElem_cons_zero, List.getElem_cons_succ, List.setIfInBounds_toArray, List.set_cons_zero, List.set_cons_succ]
  refine AnyE.next (rs := [8]) (by kernel_rfl) (by simp) ?_
  refine AllE.cons rfl (fun K hK => ?_) AllE.nil
  refine step_append_X (by rfl) _ _ 26 rfl w2.heap.size 33 i0 _ 8 64 Try.underlying26 HI0.out HZ0.out HZ1.out HZ2.out rfl (by decide) _ (row ccl L) na rfl HO6.out _ 1 _ rfl ((((IsX.litAt14 w2.drew #[.int .i64 ck, .int .i64 cv, .int .i64 ce, .int .i64 cc, .int .i64 cn, .int .i64 c1, .int .i64 c2, .int .i64 c3] 33 8 1 w2.heap.size rfl rfl (by decide))).mono (bel_alloc15 _ (.cells #[] 33)) (Nat.le_refl _)).kept ((Kept.refl (fun j => some (w2.heap.size + 1) = some j) _).grown hgr6 (fun k hk => .inl hk)) (fun k hk hs => by have h1 : some w2.heap.size = some k := hk.2; have h2 := Option.some.inj h1; have h3 := Option.some.inj hs; omega)) (fun u hu => ccl_one ⟨ck, cv, ce, cc, cn, c1, c2, c3⟩ u hu) (by have h := HNB.out; unfold maxLen; omega) (by have h := HNB.out; omega) (by have h := HB6.out.size; exact h) ?_
  intro v9 w9 hown9 hgr9 hat9
  have HB9 := Lib.hid (HB6.out.grown hgr9 (by have h := HB6.out.size; exact h) (fun j hj => by have h := (HO6.out).lt j hj; exact h.1))
  have HX9 := Lib.hid (show IsX w9 8 v9 (na + 1) (row ccl (L ++ [⟨ck, cv, ce, cc, cn, c1, c2, c3⟩])) from IsX.own (by rw [row_append, row_one]; exact hown9))
  have S9 := HS.out _ HB9.out
  clear hown9 hgr9 hat9
  refine hK.out _ _ (S9) (fun hHeld => ?_)
  clear hK K
  try simp only [Act.put, List.getElem_toArray, List.getElem_cons_zero, List.getElem_cons_succ, List.setIfInBounds_toArray, List.set_cons_zero, List.set_cons_succ]
  refine AnyE.next (rs := [9]) (by kernel_rfl) (by simp) ?_
  refine AllE.cons rfl (fun K hK => ?_) AllE.nil
  go_simp
  refine (rwith20_0 xa xb na nb ca cb true true 0 tm st v9 (na + 1) (L ++ [⟨ck, cv, ce, cc, cn, c1, c2, c3⟩]) w9 HX9.out (by have h := HNB.out; omega)).mono ?_
  rintro e w10 ⟨x, k, rfl, hx10, ho10, hb10⟩
  skip
  have HX10 := Lib.hid hx10
  have HO10 := Lib.hid (show ∀ q, (Value.slice x (na + 1) k).ownBlock = some q → w2.heap.size ≤ q from fun q e => Nat.le_trans HB9.out.size (ho10 q e))
  have HB10 := Lib.hid (HB9.out.trans (hb10.mono HB9.out.size))
  clear hx10 ho10 hb10
  refine hK.out _ _ (HS.out _ HB10.out) (fun hHeld => ?_)
  clear hK K
  try simp only [Act.put, List.getElem_toArray, List.getElem_cons_zero, List.getElem_cons_succ, List.setIfInBounds_toArray, List.set_cons_zero, List.set_cons_succ]
  refine AnyE.next (rs := [10]) (by kernel_rfl) (by simp) ?_
  refine AllE.last rfl (fun K hK => ?_)
  refine step_store7 rfl 29 Try.sizePr20 _ _ rfl Y 29 (show Blk w10 Y #[.slice xa na ca, .slice xb nb cb, .bool true, .bool true, .int .i64 0, .int .i64 tm, .int .i64 st] 29 from HY2.out.below ((Below.refl w2.heap.size w2).drew.trans HB10.out) HY2.out.lt) rfl rfl ?_
  intro w11 hy11 hk11
  have HY11 := Lib.hid hy11
  have HR11 := Lib.hid ((HR2.out.below ((Below.refl w2.heap.size w2).drew.trans HB10.out) HR2.out.lt).kept hk11 (fun e => HYR.out e.symm))
  have HX11 := Lib.hid (HX10.out.kept hk11 (fun q hq e => by have h1 := HO10.out q hq.2; have h2 := HY2.out.lt; omega))
  have HB11 := Lib.hid ((HB2.out.trans (((Below.refl w2.heap.size w2).drew.trans HB10.out).mono HB2.out.size)).trans (hk11.below (Nat.le_trans HB2.out.size (show w2.heap.size ≤ w10.heap.size from HB10.out.size)) (fun q hq e => by have h1 := HYW.out; omega)))
  clear hy11 hk11
  refine hK.out _ _ ?_
  clear hK K
  try simp only [Act.put, List.getElem_toArray, List.getElem_cons_zero, List.getElem_cons_succ, List.setIfInBounds_toArray, List.set_cons_zero, List.set_cons_succ]
  refine AnyE.done (by kernel_rfl) ?_ _
  have y0 := HY11.out.cell 0 rfl
  have y1 := HY11.out.cell 1 rfl
  have y2 := HY11.out.cell 2 rfl
  have y3 := HY11.out.cell 3 rfl
  have y4 := HY11.out.cell 4 rfl
  have y5 := HY11.out.cell 5 rfl
  have y6 := HY11.out.cell 6 rfl
  go_wp2_with (refine wpList_store7 rfl 29 Try.sizePr20 _ _ rfl R 29 HR11.out rfl rfl ?_)
  intro w15 hr15 hk15
  have HB15 := Lib.hid (HB11.out.trans (hk15.below HB11.out.size (fun q hq e => by have h1 := HRe.out; omega)))
  have HX15 := Lib.hid (HX11.out.kept hk15 (fun q hq e => by have h1 := HO10.out q hq.2; have h2 := HR2.out.lt; omega))
  have HO15 := Lib.hid (show ∀ q, (Value.slice x (na + 1) k).ownBlock = some q → w.heap.size ≤ q from fun q e => Nat.le_trans HB2.out.size (HO10.out q e))
  have z0 := hr15.cell 0 rfl
  have z1 := hr15.cell 1 rfl
  have z2 := hr15.cell 2 rfl
  have z3 := hr15.cell 3 rfl
  have z4 := hr15.cell 4 rfl
  have z5 := hr15.cell 5 rfl
  have z6 := hr15.cell 6 rfl
  clear hr15 hk15 y0 y1 y2 y3 y4 y5 y6
  go_wp2
  exact bodyPost_ret (v := .tuple #[.agg #[.slice x (na + 1) k, .slice xb nb cb, .bool true, .bool true, .int .i64 0, .int .i64 tm, .int .i64 st], .int .i64 (na : Int), .int .i64 0]) (by simp [results, Try.results10, go_sem, z0, z1, z2, z3, z4, z5, z6]) rfl ⟨x, k, rfl, HX15.out, HO15.out, HB15.out⟩
set_option maxRecDepth 100000 in
set_option maxHeartbeats 8000000 in
theorem ask_ok0d (xa xb : Option Addr) (na nb ca cb : Nat) (L : List Cm) (tm st sd ck cv ce cc cn c1 c2 c3 : Int) (w : World) (hv : IsX w 8 (.slice xa na ca) na (row ccl L)) (hn : na ≤ 1000) :
    Calls Try.prog 10 #[.agg #[.slice xa na ca, .slice xb nb cb, .bool true, .bool false, .int .i64 0, .int .i64 tm, .int .i64 st], .agg #[.int .i64 0, .int .i64 tm, .int .i64 sd, .int .i64 ck, .int .i64 cv, .int .i64 ce, .int .i64 cc, .int .i64 cn, .int .i64 c1, .int .i64 c2, .int .i64 c3]] w fun e w' => ∃ x k, e = .returned (.tuple #[.agg #[.slice x (na + 1) k, .slice xb nb cb, .bool true, .bool false, .int .i64 0, .int .i64 tm, .int .i64 (if st < (na : Int) + 1 then (na : Int) + 1 else st)], .int .i64 (na : Int), .int .i64 0]) ∧ IsX w' 8 (.slice x (na + 1) k) (na + 1) (row ccl (L ++ [⟨ck, cv, ce, cc, cn, c1, c2, c3⟩])) ∧ (∀ q, (Value.slice x (na + 1) k).ownBlock = some q → w.heap.size ≤ q) ∧ Below w.heap.size w w' := by
  obtain ⟨i0, hi0, hz0, hz1, hz2⟩ := info_parts Try.infoCmdR19
  have HI0 := Lib.hid hi0
  have HZ0 := Lib.hid hz0
  have HZ1 := Lib.hid hz1
  have HZ2 := Lib.hid hz2
  have hlen := fun W => len_X (P := Try.prog) hv 26 3 33 Try.underlying26 W
  have hww : wrap64 ((na : Int) + 1) = (na : Int) + 1 := IntWalk.wrap64_in _ (by omega)
  have HV := Lib.hid hv
  have HNB := Lib.hid hn
  clear hv hn hi0 hz0 hz1 hz2
  obtain ⟨ST, hST⟩ : ∃ z, (if st < (na : Int) + 1 then (na : Int) + 1 else st) = z := ⟨_, rfl⟩
  rw [hST]
  have HST := Lib.hid hST
  clear hST
  have hY := ((Blk.new w #[.slice xa na ca, .slice xb nb cb, .bool true, .bool false, .int .i64 0, .int .i64 tm, .int .i64 st] 29).alloc (.cells #[.int .i64 0, .int .i64 tm, .int .i64 sd, .int .i64 ck, .int .i64 cv, .int .i64 ce, .int .i64 cc, .int .i64 cn, .int .i64 c1, .int .i64 c2, .int .i64 c3] 35)).alloc (.cells #[.slice none 0 0, .slice none 0 0, .bool false, .bool false, .int .i64 0, .int .i64 0, .int .i64 0] 29)
  have hA := (Blk.new (w.alloc (.cells #[.slice xa na ca, .slice xb nb cb, .bool true, .bool false, .int .i64 0, .int .i64 tm, .int .i64 st] 29)) #[.int .i64 0, .int .i64 tm, .int .i64 sd, .int .i64 ck, .int .i64 cv, .int .i64 ce, .int .i64 cc, .int .i64 cn, .int .i64 c1, .int .i64 c2, .int .i64 c3] 35).alloc (.cells #[.slice none 0 0, .slice none 0 0, .bool false, .bool false, .int .i64 0, .int .i64 0, .int .i64 0] 29)
  have hR := Blk.new ((w.alloc (.cells #[.slice xa na ca, .slice xb nb cb, .bool true, .bool false, .int .i64 0, .int .i64 tm, .int .i64 st] 29)).alloc (.cells #[.int .i64 0, .int .i64 tm, .int .i64 sd, .int .i64 ck, .int .i64 cv, .int .i64 ce, .int .i64 cc, .int .i64 cn, .int .i64 c1, .int .i64 c2, .int .i64 c3] 35)) #[.slice none 0 0, .slice none 0 0, .bool false, .bool false, .int .i64 0, .int .i64 0, .int .i64 0] 29
  have hB := (((Below.refl w.heap.size w).alloc (Nat.le_refl _) (.cells #[.slice xa na ca, .slice xb nb cb, .bool true, .bool false, .int .i64 0, .int .i64 tm, .int .i64 st] 29)).alloc (by simp) (.cells #[.int .i64 0, .int .i64 tm, .int .i64 sd, .int .i64 ck, .int .i64 cv, .int .i64 ce, .int .i64 cc, .int .i64 cn, .int .i64 c1, .int .i64 c2, .int .i64 c3] 35)).alloc (by simp; omega) (.cells #[.slice none 0 0, .slice none 0 0, .bool false, .bool false, .int .i64 0, .int .i64 0, .int .i64 0] 29)
  obtain ⟨w0, hW⟩ : ∃ z, ((w.alloc (.cells #[.slice xa na ca, .slice xb nb cb, .bool true, .bool false, .int .i64 0, .int .i64 tm, .int .i64 st] 29)).alloc (.cells #[.int .i64 0, .int .i64 tm, .int .i64 sd, .int .i64 ck, .int .i64 cv, .int .i64 ce, .int .i64 cc, .int .i64 cn, .int .i64 c1, .int .i64 c2, .int .i64 c3] 35)).alloc (.cells #[.slice none 0 0, .slice none 0 0, .bool false, .bool false, .int .i64 0, .int .i64 0, .int .i64 0] 29) = z := ⟨_, rfl⟩
  rw [hW] at hY hA hR hB
  obtain ⟨Y, hYe⟩ : ∃ z, w.heap.size = z := ⟨_, rfl⟩
  obtain ⟨X, hXe⟩ : ∃ z, (w.alloc (.cells #[.slice xa na ca, .slice xb nb cb, .bool true, .bool false, .int .i64 0, .int .i64 tm, .int .i64 st] 29)).heap.size = z := ⟨_, rfl⟩
  obtain ⟨R, hRe⟩ : ∃ z, ((w.alloc (.cells #[.slice xa na ca, .slice xb nb cb, .bool true, .bool false, .int .i64 0, .int .i64 tm, .int .i64 st] 29)).alloc (.cells #[.int .i64 0, .int .i64 tm, .int .i64 sd, .int .i64 ck, .int .i64 cv, .int .i64 ce, .int .i64 cc, .int .i64 cn, .int .i64 c1, .int .i64 c2, .int .i64 c3] 35)).heap.size = z := ⟨_, rfl⟩
  rw [hYe] at hY
  rw [hXe] at hA
  rw [hRe] at hR
  have hX1 : w.heap.size + 1 = X := by rw [← hXe]; simp
  have hR1 : w.heap.size + 1 + 1 = R := by rw [← hRe]; simp
  have HW := Lib.hid hW
  have HYe := Lib.hid hYe
  have HXe := Lib.hid hX1
  have HRe := Lib.hid hR1
  have HY := Lib.hid hY
  have HA := Lib.hid hA
  have HR := Lib.hid hR
  have HB := Lib.hid hB
  clear hW hYe hXe hRe hX1 hR1 hA hR hB
  have y4 := hY.cell 4 rfl
  clear hY
  go_enter Try.func10, Try.ntmps10
  go_upto_region 1 with fail
  rw [HW.out]
  try rw [HRe.out]
  try rw [HXe.out]
  try rw [HYe.out]
  go_region
  go_upto_region 2 with fail
  clear y4
  have HS := Lib.hid (fun (wx : World) (hb : Below w0.heap.size w0 wx) => show wx.cell? ⟨Y, 0, none⟩ = some (.slice xa na ca) ∧ wx.cell? ⟨Y, 1, none⟩ = some (.slice xb nb cb) ∧ wx.cell? ⟨Y, 2, none⟩ = some (.bool true) ∧ wx.cell? ⟨Y, 3, none⟩ = some (.bool false) ∧ wx.cell? ⟨Y, 4, none⟩ = some (.int .i64 0) ∧ wx.cell? ⟨Y, 5, none⟩ = some (.int .i64 tm) ∧ wx.cell? ⟨Y, 6, none⟩ = some (.int .i64 st) from
    have h := HY.out.below hb HY.out.lt
    ⟨h.cell 0 rfl, h.cell 1 rfl, h.cell 2 rfl, h.cell 3 rfl, h.cell 4 rfl, h.cell 5 rfl, h.cell 6 rfl⟩)
  have S0 := HS.out w0.drew.drew (Below.refl w0.heap.size w0).drew.drew
  refine AnyE.start (S := (fun wx => wx.cell? ⟨Y, 0, none⟩ = some (.slice xa na ca) ∧ wx.cell? ⟨Y, 1, none⟩ = some (.slice xb nb cb) ∧ wx.cell? ⟨Y, 2, none⟩ = some (.bool true) ∧ wx.cell? ⟨Y, 3, none⟩ = some (.bool false) ∧ wx.cell? ⟨Y, 4, none⟩ = some (.int .i64 0) ∧ wx.cell? ⟨Y, 5, none⟩ = some (.int .i64 tm) ∧ wx.cell? ⟨Y, 6, none⟩ = some (.int .i64 st))) 7 (by kernel_rfl) (S0) (fun hHeld => ?_)
  refine AnyE.take (i := 0) (v := ?_) rfl (by kernel_rfl) (by kernel_rfl) (by kernel_rfl) (by kernel_rfl) (fun _ _ _ h => h) (Or.inl ⟨by rfl, ?_⟩) (by assumption) ?_
  rotate_left 1
  · intro w hSw
    (try dsimp only at hSw)
    go_simp
    all_goals (with_reducible rfl)
  try simp only [Act.put, List.getElem_toArray, List.getElem_cons_zero, List.getElem_cons_succ, List.setIfInBounds_toArray, List.set_cons_zero, List.set_cons_succ]
  refine AnyE.take (i := 1) (v := ?_) rfl (by kernel_rfl) (by kernel_rfl) (by kernel_rfl) (by kernel_rfl) (fun _ _ _ h => h) (Or.inl ⟨by rfl, ?_⟩) (by assumption) ?_
  rotate_left 1
  · intro w hSw
    (try dsimp only at hSw)
    go_simp
    all_goals (with_reducible rfl)
  try simp only [Act.put, List.getElem_toArray, List.getElem_cons_zero, List.getElem_cons_succ, List.setIfInBounds_toArray, List.set_cons_zero, List.set_cons_succ]
  refine AnyE.take (i := 3) (v := ?_) rfl (by kernel_rfl) (by kernel_rfl) (by kernel_rfl) (by kernel_rfl) (fun _ _ _ h => h) (Or.inl ⟨by rfl, ?_⟩) (by assumption) ?_
  rotate_left 1
  · intro w hSw
    (try dsimp only at hSw)
    go_simp
    all_goals (with_reducible rfl)
  try simp only [Act.put, List.getElem_toArray, List.getElem_cons_zero, List.getElem_cons_succ, List.setIfInBounds_toArray, List.set_cons_zero, List.set_cons_succ]
  refine AnyE.take (i := 4) (v := ?_) rfl (by kernel_rfl) (by kernel_rfl) (by kernel_rfl) (by kernel_rfl) (fun _ _ _ h => h) (Or.inl ⟨by rfl, ?_⟩) (by assumption) ?_
  rotate_left 1
  · intro w hSw
    (try dsimp only at hSw)
    go_simp
    all_goals (with_reducible rfl)
  try simp only [Act.put, List.getElem_toArray, List.getElem_cons_zero, List.getElem_cons_succ, List.setIfInBounds_toArray, List.set_cons_zero, List.set_cons_succ]
  refine AnyE.next (rs := [2]) (by kernel_rfl) (by simp) ?_
  refine AllE.cons rfl (fun K hK => ?_) AllE.nil
  go_simp
  refine (rlog20 xa xb na nb ca cb true false 0 tm st 0 _).mono ?_
  rintro e w1 ⟨rfl, hb1⟩
  refine hK.out _ _ (HS.out _ ((Below.refl w0.heap.size w0).drew.drew.trans (hb1.mono (Nat.le_refl _)))) (fun hHeld => ?_)
  clear hK K
  try simp only [Act.put, List.getElem_toArray, List.getElem_cons_zero, List.getElem_cons_succ, List.setIfInBounds_toArray, List.set_cons_zero, List.set_cons_succ]
  refine AnyE.next (rs := [5]) (by kernel_rfl) (by simp) ?_
  refine AllE.cons rfl (fun K hK => ?_) AllE.nil
  go_simp
  refine (rlog20 xa xb na nb ca cb true false 0 tm st 1 _).mono ?_
  rintro e w2 ⟨rfl, hb2⟩
  refine hK.out _ _ (HS.out _ (((Below.refl w0.heap.size w0).drew.drew.trans (hb1.mono (Nat.le_refl _))).trans (hb2.mono hb1.size))) (fun hHeld => ?_)
  clear hK K
  try simp only [Act.put, List.getElem_toArray, List.getElem_cons_zero, List.getElem_cons_succ, List.setIfInBounds_toArray, List.set_cons_zero, List.set_cons_succ]
  refine AnyE.next (rs := [6]) (by kernel_rfl) (by simp) ?_
  refine AllE.cons rfl (fun K hK => ?_) AllE.nil
  go_simp
  refine hK.out _ _ (HS.out _ (((Below.refl w0.heap.size w0).drew.drew.trans (hb1.mono (Nat.le_refl _))).trans (hb2.mono hb1.size))) (fun hHeld => ?_)
  clear hK K
  try simp only [Act.put, List.getElem_toArray, List.getElem_cons_zero, List.getElem_cons_succ, List.setIfInBounds_toArray, List.set_cons_zero, List.set_cons_succ]
  refine AnyE.next (rs := [7]) (by kernel_rfl) (by simp) ?_
  refine AllE.last rfl (fun K hK => ?_)
  go_simp
  refine hK.out _ _ ?_
  clear hK K
  try simp only [Act.put, List.getElem_toArray, List.getElem_cons_zero, List.getElem_cons_succ, List.setIfInBounds_toArray, List.set_cons_zero, List.set_cons_succ]
  refine AnyE.done (by kernel_rfl) ?_ _
  have hb20 := ((Below.refl w0.heap.size w0).drew.drew.trans (hb1.mono (Nat.le_refl _))).trans (hb2.mono hb1.size)
  have HY2 := Lib.hid (HY.out.below hb20 HY.out.lt)
  have HA2 := Lib.hid (HA.out.below hb20 HA.out.lt)
  have HR2 := Lib.hid (HR.out.below hb20 HR.out.lt)
  have HB2 := Lib.hid (HB.out.trans (hb20.mono HB.out.size))
  clear hb1 hb2 hb20 S0
  clear hHeld
  have y0 := HY2.out.cell 0 rfl
  have y1 := HY2.out.cell 1 rfl
  have y2 := HY2.out.cell 2 rfl
  have y3 := HY2.out.cell 3 rfl
  have y4 := HY2.out.cell 4 rfl
  have y5 := HY2.out.cell 5 rfl
  have y6 := HY2.out.cell 6 rfl
  have a0 := HA2.out.cell 0 rfl
  have a1 := HA2.out.cell 1 rfl
  have a2 := HA2.out.cell 2 rfl
  have HYX := Lib.hid (show Y ≠ X from by have h1 := HXe.out; have h2 := HYe.out; omega)
  have HYR := Lib.hid (show Y ≠ R from by have h1 := HRe.out; have h2 := HYe.out; omega)
  have HYW := Lib.hid (show w.heap.size ≤ Y from by have h2 := HYe.out; omega)
  go_upto_region 9 with fail
  have HS := Lib.hid (fun (wx : World) (hb : Below w2.heap.size w2.drew wx) => show wx.cell? ⟨Y, 0, none⟩ = some (.slice xa na ca) ∧ wx.cell? ⟨Y, 1, none⟩ = some (.slice xb nb cb) ∧ wx.cell? ⟨Y, 2, none⟩ = some (.bool true) ∧ wx.cell? ⟨Y, 3, none⟩ = some (.bool false) ∧ wx.cell? ⟨Y, 4, none⟩ = some (.int .i64 0) ∧ wx.cell? ⟨Y, 5, none⟩ = some (.int .i64 tm) ∧ wx.cell? ⟨Y, 6, none⟩ = some (.int .i64 st) ∧ wx.cell? ⟨X, 0, none⟩ = some (.int .i64 0) ∧ wx.cell? ⟨X, 1, none⟩ = some (.int .i64 tm) ∧ wx.cell? ⟨X, 2, none⟩ = some (.int .i64 sd) ∧ wx.cell? ⟨X, 3, none⟩ = some (.int .i64 ck) ∧ wx.cell? ⟨X, 4, none⟩ = some (.int .i64 cv) ∧ wx.cell? ⟨X, 5, none⟩ = some (.int .i64 ce) ∧ wx.cell? ⟨X, 6, none⟩ = some (.int .i64 cc) ∧ wx.cell? ⟨X, 7, none⟩ = some (.int .i64 cn) ∧ wx.cell? ⟨X, 8, none⟩ = some (.int .i64 c1) ∧ wx.cell? ⟨X, 9, none⟩ = some (.int .i64 c2) ∧ wx.cell? ⟨X, 10, none⟩ = some (.int .i64 c3) from
    have h := HY2.out.below ((Below.refl w2.heap.size w2).drew.trans hb) HY2.out.lt
    have g := HA2.out.below ((Below.refl w2.heap.size w2).drew.trans hb) HA2.out.lt
    ⟨h.cell 0 rfl, h.cell 1 rfl, h.cell 2 rfl, h.cell 3 rfl, h.cell 4 rfl, h.cell 5 rfl, h.cell 6 rfl, g.cell 0 rfl, g.cell 1 rfl, g.cell 2 rfl, g.cell 3 rfl, g.cell 4 rfl, g.cell 5 rfl, g.cell 6 rfl, g.cell 7 rfl, g.cell 8 rfl, g.cell 9 rfl, g.cell 10 rfl⟩)
  have S0 := HS.out w2.drew (Below.refl _ _)
  have HVD := Lib.hid (show IsX w2.drew 8 (.slice xa na ca) na (row ccl L) from HV.out.mono HB2.out.drew (Nat.le_refl _))
  clear y0 y1 y2 y3 y4 y5 y6 a0 a1 a2
  refine AnyE.start (S := (fun wx => wx.cell? ⟨Y, 0, none⟩ = some (.slice xa na ca) ∧ wx.cell? ⟨Y, 1, none⟩ = some (.slice xb nb cb) ∧ wx.cell? ⟨Y, 2, none⟩ = some (.bool true) ∧ wx.cell? ⟨Y, 3, none⟩ = some (.bool false) ∧ wx.cell? ⟨Y, 4, none⟩ = some (.int .i64 0) ∧ wx.cell? ⟨Y, 5, none⟩ = some (.int .i64 tm) ∧ wx.cell? ⟨Y, 6, none⟩ = some (.int .i64 st) ∧ wx.cell? ⟨X, 0, none⟩ = some (.int .i64 0) ∧ wx.cell? ⟨X, 1, none⟩ = some (.int .i64 tm) ∧ wx.cell? ⟨X, 2, none⟩ = some (.int .i64 sd) ∧ wx.cell? ⟨X, 3, none⟩ = some (.int .i64 ck) ∧ wx.cell? ⟨X, 4, none⟩ = some (.int .i64 cv) ∧ wx.cell? ⟨X, 5, none⟩ = some (.int .i64 ce) ∧ wx.cell? ⟨X, 6, none⟩ = some (.int .i64 cc) ∧ wx.cell? ⟨X, 7, none⟩ = some (.int .i64 cn) ∧ wx.cell? ⟨X, 8, none⟩ = some (.int .i64 c1) ∧ wx.cell? ⟨X, 9, none⟩ = some (.int .i64 c2) ∧ wx.cell? ⟨X, 10, none⟩ = some (.int .i64 c3))) 10 (by kernel_rfl) (S0) (fun hHeld => ?_)
  refine AnyE.take (i := 0) (v := ?_) rfl (by kernel_rfl) (by kernel_rfl) (by kernel_rfl) (by kernel_rfl) (fun _ _ _ h => h) (Or.inl ⟨by rfl, ?_⟩) (by assumption) ?_
  rotate_left 1
  · intro w hSw
    (try dsimp only at hSw)
    go_simp
    all_goals (with_reducible rfl)
  try simp only [Act.put, List.getElem_toArray, List.getElem_cons_zero, List.getElem_cons_succ, List.setIfInBounds_toArray, List.set_cons_zero, List.set_cons_succ]
  refine AnyE.take (i := 1) (v := ?_) rfl (by kernel_rfl) (by kernel_rfl) (by kernel_rfl) (by kernel_rfl) (fun _ _ _ h => h) (Or.inl ⟨by rfl, ?_⟩) (by assumption) ?_
  rotate_left 1
  · intro w hSw
    (try dsimp only at hSw)
    go_simp
    all_goals (with_reducible rfl)
  try simp only [Act.put, List.getElem_toArray, List.getElem_cons_zero, List.getElem_cons_succ, List.setIfInBounds_toArray, List.set_cons_zero, List.set_cons_succ]
  refine AnyE.take (i := 3) (v := ?_) rfl (by kernel_rfl) (by kernel_rfl) (by kernel_rfl) (by kernel_rfl) (fun _ _ _ h => h) (Or.inl ⟨by rfl, ?_⟩) (by assumption) ?_
  rotate_left 1
  · intro w hSw
    (try dsimp only at hSw)
    go_simp
    all_goals (with_reducible rfl)
  try simp only [Act.put, List.getElem_toArray, List.getElem_cons_zero, List.getElem_cons_succ, List.setIfInBounds_toArray, List.set_cons_zero, List.set_cons_succ]
  refine AnyE.take (i := 5) (v := ?_) rfl (by kernel_rfl) (by kernel_rfl) (by kernel_rfl) (by kernel_rfl) (fun _ _ _ h => h) (Or.inl ⟨by rfl, ?_⟩) (by assumption) ?_
  rotate_left 1
  · intro w hSw
    (try dsimp only at hSw)
    go_simp
    all_goals (with_reducible rfl)
  try simp only [Act.put, List.getElem_toArray, List.getElem_cons_zero, List.getElem_cons_succ, List.setIfInBounds_toArray, List.set_cons_zero, List.set_cons_succ]
  refine AnyE.take (i := 6) (v := ?_) rfl (by kernel_rfl) (by kernel_rfl) (by kernel_rfl) (by kernel_rfl) (fun _ _ _ h => h) (Or.inl ⟨by rfl, ?_⟩) (by assumption) ?_
  rotate_left 1
  · intro w hSw
    (try dsimp only at hSw)
    go_simp
    all_goals (with_reducible rfl)
  try simp only [Act.put, List.getElem_toArray, List.getElem_cons_zero, List.getElem_cons_succ, List.setIfInBounds_toArray, List.set_cons_zero, List.set_cons_succ]
  refine AnyE.next (rs := [2, 7]) (by kernel_rfl) (by simp) ?_
  refine AllE.cons rfl (fun K hK => ?_) ?_
  · go_simp
    refine hK.out _ _ (HS.out _ ((Below.refl w2.heap.size w2.drew).alloc (by have h := (Below.refl w2.heap.size w2.drew).size; exact h) (.cells #[] 33))) (fun hHeld => ?_)
    clear hK K
    try simp only [Act.put, List.getElem_toArray, List.getElem_cons_zero, List.getElem_cons_succ, List.setIfInBounds_toArray, List.set_cons_zero, List.set_cons_succ]
    refine AnyE.next (rs := [4, 7]) (by kernel_rfl) (by simp) ?_
    refine AllE.cons rfl (fun K hK => ?_) ?_
    · refine step_append_X (by rfl) _ _ 26 rfl w2.heap.size 33 i0 _ 8 64 Try.underlying26 HI0.out HZ0.out HZ1.out HZ2.out rfl (by decide) _ [] 0 rfl (own_litAt14 w2.drew w2.heap.size 33 8 w2.heap.size rfl (Nat.le_refl _)) _ na _ rfl (HVD.out.mono ((Below.refl w2.heap.size w2.drew).alloc (by have h := (Below.refl w2.heap.size w2.drew).size; exact h) (.cells #[] 33)) (Nat.le_refl _)) (row_mem fun x _ => ccl_one x) (by have h := HNB.out; unfold maxLen; omega) (by have h := HNB.out; omega) (by have h := ((Below.refl w2.heap.size w2.drew).alloc (by have h := (Below.refl w2.heap.size w2.drew).size; exact h) (.cells #[] 33)).size; exact h) ?_
      intro v6 w6 hown6 hgr6 hat6
      have HO6 := Lib.hid (show w6.ownsRow w2.heap.size 33 8 v6 na (row ccl L) from by have h := hown6; rw [Nat.zero_add] at h; simpa using h)
      have HB6 := Lib.hid (((Below.refl w2.heap.size w2.drew).alloc (by have h := (Below.refl w2.heap.size w2.drew).size; exact h) (.cells #[] 33)).grown hgr6 (by have h := ((Below.refl w2.heap.size w2.drew).alloc (by have h := (Below.refl w2.heap.size w2.drew).size; exact h) (.cells #[] 33)).size; exact h) (fun j hj => by have h := ((own_litAt14 w2.drew w2.heap.size 33 8 w2.heap.size rfl (Nat.le_refl _))).lt j hj; exact h.1))
      have S6 := HS.out _ HB6.out
      refine hK.out _ _ (S6) (fun hHeld => ?_)
      clear hK K
      try simp only [Act.put, List.getElem_toArray, List.getElem_cons_zero, List.getElem_cons_succ, List.setIfInBounds_toArray, List.set_cons_zero, List.set_cons_succ]
      refine AnyE.next (rs := [7]) (by kernel_rfl) (by simp) ?_
      refine AllE.cons rfl (fun K hK => ?_) AllE.nil
      go_simp
      refine hK.out _ _ (HS.out _ (HB6.out.alloc HB6.out.size (.cells #[.int .i64 ck, .int .i64 cv, .int .i64 ce, .int .i64 cc, .int .i64 cn, .int .i64 c1, .int .i64 c2, .int .i64 c3] 33))) (fun hHeld => ?_)
      clear hK K
      try simp only [Act.put, List.getElem_toArray, List.getElem_cons_zero, List.getElem_cons_succ, List.setIfInBounds_toArray, List.set_cons_zero, List.set_cons_succ]
      refine AnyE.next (rs := [8]) (by kernel_rfl) (by simp) ?_
      refine AllE.cons rfl (fun K hK => ?_) AllE.nil
      refine step_append_X (by rfl) _ _ 26 rfl w2.heap.size 33 i0 _ 8 64 Try.underlying26 HI0.out HZ0.out HZ1.out HZ2.out rfl (by decide) _ (row ccl L) na rfl (HO6.out.alloc (.cells #[.int .i64 ck, .int .i64 cv, .int .i64 ce, .int .i64 cc, .int .i64 cn, .int .i64 c1, .int .i64 c2, .int .i64 c3] 33)) _ 1 _ rfl (IsX.litAt14 w6 #[.int .i64 ck, .int .i64 cv, .int .i64 ce, .int .i64 cc, .int .i64 cn, .int .i64 c1, .int .i64 c2, .int .i64 c3] 33 8 1 w6.heap.size rfl rfl (by decide)) (fun u hu => ccl_one ⟨ck, cv, ce, cc, cn, c1, c2, c3⟩ u hu) (by have h := HNB.out; unfold maxLen; omega) (by have h := HNB.out; omega) (by have h := (HB6.out.alloc HB6.out.size (.cells #[.int .i64 ck, .int .i64 cv, .int .i64 ce, .int .i64 cc, .int .i64 cn, .int .i64 c1, .int .i64 c2, .int .i64 c3] 33)).size; exact h) ?_
      intro v9 w9 hown9 hgr9 hat9
      have HB9 := Lib.hid ((HB6.out.alloc HB6.out.size (.cells #[.int .i64 ck, .int .i64 cv, .int .i64 ce, .int .i64 cc, .int .i64 cn, .int .i64 c1, .int .i64 c2, .int .i64 c3] 33)).grown hgr9 (by have h := (HB6.out.alloc HB6.out.size (.cells #[.int .i64 ck, .int .i64 cv, .int .i64 ce, .int .i64 cc, .int .i64 cn, .int .i64 c1, .int .i64 c2, .int .i64 c3] 33)).size; exact h) (fun j hj => by have h := ((HO6.out.alloc (.cells #[.int .i64 ck, .int .i64 cv, .int .i64 ce, .int .i64 cc, .int .i64 cn, .int .i64 c1, .int .i64 c2, .int .i64 c3] 33))).lt j hj; exact h.1))
      have HX9 := Lib.hid (show IsX w9 8 v9 (na + 1) (row ccl (L ++ [⟨ck, cv, ce, cc, cn, c1, c2, c3⟩])) from IsX.own (by rw [row_append, row_one]; exact hown9))
      have S9 := HS.out _ HB9.out
      clear hown9 hgr9 hat9
      refine hK.out _ _ (S9) (fun hHeld => ?_)
      clear hK K
      try simp only [Act.put, List.getElem_toArray, List.getElem_cons_zero, List.getElem_cons_succ, List.setIfInBounds_toArray, List.set_cons_zero, List.set_cons_succ]
      refine AnyE.next (rs := [9]) (by kernel_rfl) (by simp) ?_
      refine AllE.cons rfl (fun K hK => ?_) AllE.nil
      go_simp
      refine (rwith20_0 xa xb na nb ca cb true false 0 tm st v9 (na + 1) (L ++ [⟨ck, cv, ce, cc, cn, c1, c2, c3⟩]) w9 HX9.out (by have h := HNB.out; omega)).mono ?_
      rintro e w10 ⟨x, k, rfl, hx10, ho10, hb10⟩
      skip
      have HX10 := Lib.hid hx10
      have HO10 := Lib.hid (show ∀ q, (Value.slice x (na + 1) k).ownBlock = some q → w2.heap.size ≤ q from fun q e => Nat.le_trans HB9.out.size (ho10 q e))
      have HB10 := Lib.hid (HB9.out.trans (hb10.mono HB9.out.size))
      clear hx10 ho10 hb10
      refine hK.out _ _ (HS.out _ HB10.out) (fun hHeld => ?_)
      clear hK K
      try simp only [Act.put, List.getElem_toArray, List.getElem_cons_zero, List.getElem_cons_succ, List.setIfInBounds_toArray, List.set_cons_zero, List.set_cons_succ]
      refine AnyE.next (rs := [10]) (by kernel_rfl) (by simp) ?_
      refine AllE.last rfl (fun K hK => ?_)
      refine step_store7 rfl 29 Try.sizePr20 _ _ rfl Y 29 (show Blk w10 Y #[.slice xa na ca, .slice xb nb cb, .bool true, .bool false, .int .i64 0, .int .i64 tm, .int .i64 st] 29 from HY2.out.below ((Below.refl w2.heap.size w2).drew.trans HB10.out) HY2.out.lt) rfl rfl ?_
      intro w11 hy11 hk11
      have HY11 := Lib.hid hy11
      have HR11 := Lib.hid ((HR2.out.below ((Below.refl w2.heap.size w2).drew.trans HB10.out) HR2.out.lt).kept hk11 (fun e => HYR.out e.symm))
      have HX11 := Lib.hid (HX10.out.kept hk11 (fun q hq e => by have h1 := HO10.out q hq.2; have h2 := HY2.out.lt; omega))
      have HB11 := Lib.hid ((HB2.out.trans (((Below.refl w2.heap.size w2).drew.trans HB10.out).mono HB2.out.size)).trans (hk11.below (Nat.le_trans HB2.out.size (show w2.heap.size ≤ w10.heap.size from HB10.out.size)) (fun q hq e => by have h1 := HYW.out; omega)))
      clear hy11 hk11
      refine hK.out _ _ ?_
      clear hK K
      try simp only [Act.put, List.getElem_toArray, List.getElem_cons_zero, List.getElem_cons_succ, List.setIfInBounds_toArray, List.set_cons_zero, List.set_cons_succ]
      refine AnyE.done (by kernel_rfl) ?_ _
      have y0 := HY11.out.cell 0 rfl
      have y1 := HY11.out.cell 1 rfl
      have y2 := HY11.out.cell 2 rfl
      have y3 := HY11.out.cell 3 rfl
      have y4 := HY11.out.cell 4 rfl
      have y5 := HY11.out.cell 5 rfl
      have y6 := HY11.out.cell 6 rfl
      go_upto_region 11 with fail
      go_wp2_with fail
      refine (rsettle20 x xb (na + 1) nb k cb true false 0 tm st ((na : Int) + 1) _).mono ?_
      rintro e w12 ⟨rfl, hb12⟩
      rw [HST.out]
      unfold pcl
      have HY12 := Lib.hid (HY11.out.below hb12 HY11.out.lt)
      have HR12 := Lib.hid (HR11.out.below hb12 HR11.out.lt)
      have HX12 := Lib.hid (HX11.out.mono hb12 (Nat.le_refl _))
      have HB12 := Lib.hid (HB11.out.trans (hb12.mono HB11.out.size))
      clear hb12 y0 y1 y2 y3 y4 y5 y6
      go_wp2_with (refine wpList_store7 rfl 29 Try.sizePr20 _ _ rfl Y 29 HY12.out rfl rfl ?_)
      intro w13 hy13 hk13
      have HR13 := Lib.hid (HR12.out.kept hk13 (fun e => HYR.out e.symm))
      have HX13 := Lib.hid (HX12.out.kept hk13 (fun q hq e => by have h1 := HO10.out q hq.2; have h2 := HY2.out.lt; omega))
      have HB13 := Lib.hid (HB12.out.trans (hk13.below HB12.out.size (fun q hq e => by have h1 := HYW.out; omega)))
      have y0 := hy13.cell 0 rfl
      have y1 := hy13.cell 1 rfl
      have y2 := hy13.cell 2 rfl
      have y3 := hy13.cell 3 rfl
      have y4 := hy13.cell 4 rfl
      have y5 := hy13.cell 5 rfl
      have y6 := hy13.cell 6 rfl
      clear hy13 hk13
      go_wp2_with (refine wpList_store7 rfl 29 Try.sizePr20 _ _ rfl R 29 HR13.out rfl rfl ?_)
      intro w15 hr15 hk15
      have HB15 := Lib.hid (HB13.out.trans (hk15.below HB13.out.size (fun q hq e => by have h1 := HRe.out; omega)))
      have HX15 := Lib.hid (HX13.out.kept hk15 (fun q hq e => by have h1 := HO10.out q hq.2; have h2 := HR2.out.lt; omega))
      have HO15 := Lib.hid (show ∀ q, (Value.slice x (na + 1) k).ownBlock = some q → w.heap.size ≤ q from fun q e => Nat.le_trans HB2.out.size (HO10.out q e))
      have z0 := hr15.cell 0 rfl
      have z1 := hr15.cell 1 rfl
      have z2 := hr15.cell 2 rfl
      have z3 := hr15.cell 3 rfl
      have z4 := hr15.cell 4 rfl
      have z5 := hr15.cell 5 rfl
      have z6 := hr15.cell 6 rfl
      clear hr15 hk15 y0 y1 y2 y3 y4 y5 y6
      go_wp2
      exact bodyPost_ret (v := .tuple #[.agg #[.slice x (na + 1) k, .slice xb nb cb, .bool true, .bool false, .int .i64 0, .int .i64 tm, .int .i64 ST], .int .i64 (na : Int), .int .i64 0]) (by simp [results, Try.results10, go_sem, z0, z1, z2, z3, z4, z5, z6]) rfl ⟨x, k, rfl, HX15.out, HO15.out, HB15.out⟩
    refine AllE.cons rfl (fun K hK => ?_) AllE.nil
    go_simp
    refine hK.out _ _ (HS.out _ (((Below.refl w2.heap.size w2.drew).alloc (by have h := (Below.refl w2.heap.size w2.drew).size; exact h) (.cells #[] 33)).alloc (by have h := ((Below.refl w2.heap.size w2.drew).alloc (by have h := (Below.refl w2.heap.size w2.drew).size; exact h) (.cells #[] 33)).size; exact h) (.cells #[.int .i64 ck, .int .i64 cv, .int .i64 ce, .int .i64 cc, .int .i64 cn, .int .i64 c1, .int .i64 c2, .int .i64 c3] 33))) (fun hHeld => ?_)
    clear hK K
    try simp only [Act.put, List.getElem_toArray, List.getElem_cons_zero, List.getElem_cons_succ, List.setIfInBounds_toArray, List.set_cons_zero, List.set_cons_succ]
    refine AnyE.next (rs := [4]) (by kernel_rfl) (by simp) ?_
    refine AllE.cons rfl (fun K hK => ?_) AllE.nil
    refine step_append_X (by rfl) _ _ 26 rfl w2.heap.size 33 i0 _ 8 64 Try.underlying26 HI0.out HZ0.out HZ1.out HZ2.out rfl (by decide) _ [] 0 rfl ((own_litAt14 w2.drew w2.heap.size 33 8 w2.heap.size rfl (Nat.le_refl _)).alloc (.cells #[.int .i64 ck, .int .i64 cv, .int .i64 ce, .int .i64 cc, .int .i64 cn, .int .i64 c1, .int .i64 c2, .int .i64 c3] 33)) _ na _ rfl (HVD.out.mono (((Below.refl w2.heap.size w2.drew).alloc (by have h := (Below.refl w2.heap.size w2.drew).size; exact h) (.cells #[] 33)).alloc (by have h := ((Below.refl w2.heap.size w2.drew).alloc (by have h := (Below.refl w2.heap.size w2.drew).size; exact h) (.cells #[] 33)).size; exact h) (.cells #[.int .i64 ck, .int .i64 cv, .int .i64 ce, .int .i64 cc, .int .i64 cn, .int .i64 c1, .int .i64 c2, .int .i64 c3] 33)) (Nat.le_refl _)) (row_mem fun x _ => ccl_one x) (by have h := HNB.out; unfold maxLen; omega) (by have h := HNB.out; omega) (by have h := (((Below.refl w2.heap.size w2.drew).alloc (by have h := (Below.refl w2.heap.size w2.drew).size; exact h) (.cells #[] 33)).alloc (by have h := ((Below.refl w2.heap.size w2.drew).alloc (by have h := (Below.refl w2.heap.size w2.drew).size; exact h) (.cells #[] 33)).size; exact h) (.cells #[.int .i64 ck, .int .i64 cv, .int .i64 ce, .int .i64 cc, .int .i64 cn, .int .i64 c1, .int .i64 c2, .int .i64 c3] 33)).size; exact h) ?_
    intro v6 w6 hown6 hgr6 hat6
    have HO6 := Lib.hid (show w6.ownsRow w2.heap.size 33 8 v6 na (row ccl L) from by have h := hown6; rw [Nat.zero_add] at h; simpa using h)
    have HB6 := Lib.hid ((((Below.refl w2.heap.size w2.drew).alloc (by have h := (Below.refl w2.heap.size w2.drew).size; exact h) (.cells #[] 33)).alloc (by have h := ((Below.refl w2.heap.size w2.drew).alloc (by have h := (Below.refl w2.heap.size w2.drew).size; exact h) (.cells #[] 33)).size; exact h) (.cells #[.int .i64 ck, .int .i64 cv, .int .i64 ce, .int .i64 cc, .int .i64 cn, .int .i64 c1, .int .i64 c2, .int .i64 c3] 33)).grown hgr6 (by have h := (((Below.refl w2.heap.size w2.drew).alloc (by have h := (Below.refl w2.heap.size w2.drew).size; exact h) (.cells #[] 33)).alloc (by have h := ((Below.refl w2.heap.size w2.drew).alloc (by have h := (Below.refl w2.heap.size w2.drew).size; exact h) (.cells #[] 33)).size; exact h) (.cells #[.int .i64 ck, .int .i64 cv, .int .i64 ce, .int .i64 cc, .int .i64 cn, .int .i64 c1, .int .i64 c2, .int .i64 c3] 33)).size; exact h) (fun j hj => by have h := (((own_litAt14 w2.drew w2.heap.size 33 8 w2.heap.size rfl (Nat.le_refl _)).alloc (.cells #[.int .i64 ck, .int .i64 cv, .int .i64 ce, .int .i64 cc, .int .i64 cn, .int .i64 c1, .int .i64 c2, .int .i64 c3] 33))).lt j hj; exact h.1))
    have S6 := HS.out _ HB6.out
    refine hK.out _ _ (S6) (fun hHeld => ?_)
    clear hK K
    try simp only [Act.put, List.getElem_toArray, List.getElem_cons_zero, List.getElem_cons_succ, List.setIfInBounds_toArray, List.set_cons_zero, List.set_cons_succ]
    refine AnyE.next (rs := [8]) (by kernel_rfl) (by simp) ?_
    refine AllE.cons rfl (fun K hK => ?_) AllE.nil
    refine step_append_X (by rfl) _ _ 26 rfl w2.heap.size 33 i0 _ 8 64 Try.underlying26 HI0.out HZ0.out HZ1.out HZ2.out rfl (by decide) _ (row ccl L) na rfl HO6.out _ 1 _ rfl (((IsX.litAt14 (w2.drew.alloc (.cells #[] 33)) #[.int .i64 ck, .int .i64 cv, .int .i64 ce, .int .i64 cc, .int .i64 cn, .int .i64 c1, .int .i64 c2, .int .i64 c3] 33 8 1 (w2.heap.size + 1) (by simp) rfl (by decide))).kept ((Kept.refl (fun j => some w2.heap.size = some j) _).grown hgr6 (fun k hk => .inl hk)) (fun k hk hs => by have h1 : some (w2.heap.size + 1) = some k := hk.2; have h2 := Option.some.inj h1; have h3 := Option.some.inj hs; omega)) (fun u hu => ccl_one ⟨ck, cv, ce, cc, cn, c1, c2, c3⟩ u hu) (by have h := HNB.out; unfold maxLen; omega) (by have h := HNB.out; omega) (by have h := HB6.out.size; exact h) ?_
    intro v9 w9 hown9 hgr9 hat9
    have HB9 := Lib.hid (HB6.out.grown hgr9 (by have h := HB6.out.size; exact h) (fun j hj => by have h := (HO6.out).lt j hj; exact h.1))
    have HX9 := Lib.hid (show IsX w9 8 v9 (na + 1) (row ccl (L ++ [⟨ck, cv, ce, cc, cn, c1, c2, c3⟩])) from IsX.own (by rw [row_append, row_one]; exact hown9))
    have S9 := HS.out _ HB9.out
    clear hown9 hgr9 hat9
    refine hK.out _ _ (S9) (fun hHeld => ?_)
    clear hK K
    try simp only [Act.put, List.getElem_toArray, List.getElem_cons_zero, List.getElem_cons_succ, List.setIfInBounds_toArray, List.set_cons_zero, List.set_cons_succ]
    refine AnyE.next (rs := [9]) (by kernel_rfl) (by simp) ?_
    refine AllE.cons rfl (fun K hK => ?_) AllE.nil
    go_simp
    refine (rwith20_0 xa xb na nb ca cb true false 0 tm st v9 (na + 1) (L ++ [⟨ck, cv, ce, cc, cn, c1, c2, c3⟩]) w9 HX9.out (by have h := HNB.out; omega)).mono ?_
    rintro e w10 ⟨x, k, rfl, hx10, ho10, hb10⟩
    skip
    have HX10 := Lib.hid hx10
    have HO10 := Lib.hid (show ∀ q, (Value.slice x (na + 1) k).ownBlock = some q → w2.heap.size ≤ q from fun q e => Nat.le_trans HB9.out.size (ho10 q e))
    have HB10 := Lib.hid (HB9.out.trans (hb10.mono HB9.out.size))
    clear hx10 ho10 hb10
    refine hK.out _ _ (HS.out _ HB10.out) (fun hHeld => ?_)
    clear hK K
    try simp only [Act.put, List.getElem_toArray, List.getElem_cons_zero, List.getElem_cons_succ, List.setIfInBounds_toArray, List.set_cons_zero, List.set_cons_succ]
    refine AnyE.next (rs := [10]) (by kernel_rfl) (by simp) ?_
    refine AllE.last rfl (fun K hK => ?_)
    refine step_store7 rfl 29 Try.sizePr20 _ _ rfl Y 29 (show Blk w10 Y #[.slice xa na ca, .slice xb nb cb, .bool true, .bool false, .int .i64 0, .int .i64 tm, .int .i64 st] 29 from HY2.out.below ((Below.refl w2.heap.size w2).drew.trans HB10.out) HY2.out.lt) rfl rfl ?_
    intro w11 hy11 hk11
    have HY11 := Lib.hid hy11
    have HR11 := Lib.hid ((HR2.out.below ((Below.refl w2.heap.size w2).drew.trans HB10.out) HR2.out.lt).kept hk11 (fun e => HYR.out e.symm))
    have HX11 := Lib.hid (HX10.out.kept hk11 (fun q hq e => by have h1 := HO10.out q hq.2; have h2 := HY2.out.lt; omega))
    have HB11 := Lib.hid ((HB2.out.trans (((Below.refl w2.heap.size w2).drew.trans HB10.out).mono HB2.out.size)).trans (hk11.below (Nat.le_trans HB2.out.size (show w2.heap.size ≤ w10.heap.size from HB10.out.size)) (fun q hq e => by have h1 := HYW.out; omega)))
    clear hy11 hk11
    refine hK.out _ _ ?_
    clear hK K
    try simp only [Act.put, List.getElem_toArray, List.getElem_cons_zero, List.getElem_cons_succ, List.setIfInBounds_toArray, List.set_cons_zero, List.set_cons_succ]
    refine AnyE.done (by kernel_rfl) ?_ _
    have y0 := HY11.out.cell 0 rfl
    have y1 := HY11.out.cell 1 rfl
    have y2 := HY11.out.cell 2 rfl
    have y3 := HY11.out.cell 3 rfl
    have y4 := HY11.out.cell 4 rfl
    have y5 := HY11.out.cell 5 rfl
    have y6 := HY11.out.cell 6 rfl
    go_upto_region 11 with fail
    go_wp2_with fail
    refine (rsettle20 x xb (na + 1) nb k cb true false 0 tm st ((na : Int) + 1) _).mono ?_
    rintro e w12 ⟨rfl, hb12⟩
    rw [HST.out]
    unfold pcl
    have HY12 := Lib.hid (HY11.out.below hb12 HY11.out.lt)
    have HR12 := Lib.hid (HR11.out.below hb12 HR11.out.lt)
    have HX12 := Lib.hid (HX11.out.mono hb12 (Nat.le_refl _))
    have HB12 := Lib.hid (HB11.out.trans (hb12.mono HB11.out.size))
    clear hb12 y0 y1 y2 y3 y4 y5 y6
    go_wp2_with (refine wpList_store7 rfl 29 Try.sizePr20 _ _ rfl Y 29 HY12.out rfl rfl ?_)
    intro w13 hy13 hk13
    have HR13 := Lib.hid (HR12.out.kept hk13 (fun e => HYR.out e.symm))
    have HX13 := Lib.hid (HX12.out.kept hk13 (fun q hq e => by have h1 := HO10.out q hq.2; have h2 := HY2.out.lt; omega))
    have HB13 := Lib.hid (HB12.out.trans (hk13.below HB12.out.size (fun q hq e => by have h1 := HYW.out; omega)))
    have y0 := hy13.cell 0 rfl
    have y1 := hy13.cell 1 rfl
    have y2 := hy13.cell 2 rfl
    have y3 := hy13.cell 3 rfl
    have y4 := hy13.cell 4 rfl
    have y5 := hy13.cell 5 rfl
    have y6 := hy13.cell 6 rfl
    clear hy13 hk13
    go_wp2_with (refine wpList_store7 rfl 29 Try.sizePr20 _ _ rfl R 29 HR13.out rfl rfl ?_)
    intro w15 hr15 hk15
    have HB15 := Lib.hid (HB13.out.trans (hk15.below HB13.out.size (fun q hq e => by have h1 := HRe.out; omega)))
    have HX15 := Lib.hid (HX13.out.kept hk15 (fun q hq e => by have h1 := HO10.out q hq.2; have h2 := HR2.out.lt; omega))
    have HO15 := Lib.hid (show ∀ q, (Value.slice x (na + 1) k).ownBlock = some q → w.heap.size ≤ q from fun q e => Nat.le_trans HB2.out.size (HO10.out q e))
    have z0 := hr15.cell 0 rfl
    have z1 := hr15.cell 1 rfl
    have z2 := hr15.cell 2 rfl
    have z3 := hr15.cell 3 rfl
    have z4 := hr15.cell 4 rfl
    have z5 := hr15.cell 5 rfl
    have z6 := hr15.cell 6 rfl
    clear hr15 hk15 y0 y1 y2 y3 y4 y5 y6
    go_wp2
    exact bodyPost_ret (v := .tuple #[.agg #[.slice x (na + 1) k, .slice xb nb cb, .bool true, .bool false, .int .i64 0, .int .i64 tm, .int .i64 ST], .int .i64 (na : Int), .int .i64 0]) (by simp [results, Try.results10, go_sem, z0, z1, z2, z3, z4, z5, z6]) rfl ⟨x, k, rfl, HX15.out, HO15.out, HB15.out⟩
  refine AllE.cons rfl (fun K hK => ?_) AllE.nil
  go_simp
  refine hK.out _ _ (HS.out _ ((Below.refl w2.heap.size w2.drew).alloc (by have h := (Below.refl w2.heap.size w2.drew).size; exact h) (.cells #[.int .i64 ck, .int .i64 cv, .int .i64 ce, .int .i64 cc, .int .i64 cn, .int .i64 c1, .int .i64 c2, .int .i64 c3] 33))) (fun hHeld => ?_)
  clear hK K
  try simp only [Act.put, List.getElem_toArray, List.getElem_cons_zero, List.getElem_cons_succ, List.setIfInBounds_toArray, List.set_cons_zero, List.set_cons_succ]
  refine AnyE.next (rs := [2]) (by kernel_rfl) (by simp) ?_
  refine AllE.cons rfl (fun K hK => ?_) AllE.nil
  go_simp
  refine hK.out _ _ (HS.out _ (((Below.refl w2.heap.size w2.drew).alloc (by have h := (Below.refl w2.heap.size w2.drew).size; exact h) (.cells #[.int .i64 ck, .int .i64 cv, .int .i64 ce, .int .i64 cc, .int .i64 cn, .int .i64 c1, .int .i64 c2, .int .i64 c3] 33)).alloc (by have h := ((Below.refl w2.heap.size w2.drew).alloc (by have h := (Below.refl w2.heap.size w2.drew).size; exact h) (.cells #[.int .i64 ck, .int .i64 cv, .int .i64 ce, .int .i64 cc, .int .i64 cn, .int .i64 c1, .int .i64 c2, .int .i64 c3] 33)).size; exact h) (.cells #[] 33))) (fun hHeld => ?_)
  clear hK K
  try simp only [Act.put, List.getElem_toArray, List.getElem_cons_zero, List.getElem_cons_succ, List.setIfInBounds_toArray, List.set_cons_zero, List.set_cons_succ]
  refine AnyE.next (rs := [4]) (by kernel_rfl) (by simp) ?_
  refine AllE.cons rfl (fun K hK => ?_) AllE.nil
  refine step_append_X (by rfl) _ _ 26 rfl w2.heap.size 33 i0 _ 8 64 Try.underlying26 HI0.out HZ0.out HZ1.out HZ2.out rfl (by decide) _ [] 0 rfl (own_litAt14 (w2.drew.alloc (.cells #[.int .i64 ck, .int .i64 cv, .int .i64 ce, .int .i64 cc, .int .i64 cn, .int .i64 c1, .int .i64 c2, .int .i64 c3] 33)) w2.heap.size 33 8 (w2.heap.size + 1) (by simp) (by omega)) _ na _ rfl (HVD.out.mono (((Below.refl w2.heap.size w2.drew).alloc (by have h := (Below.refl w2.heap.size w2.drew).size; exact h) (.cells #[.int .i64 ck, .int .i64 cv, .int .i64 ce, .int .i64 cc, .int .i64 cn, .int .i64 c1, .int .i64 c2, .int .i64 c3] 33)).alloc (by have h := ((Below.refl w2.heap.size w2.drew).alloc (by have h := (Below.refl w2.heap.size w2.drew).size; exact h) (.cells #[.int .i64 ck, .int .i64 cv, .int .i64 ce, .int .i64 cc, .int .i64 cn, .int .i64 c1, .int .i64 c2, .int .i64 c3] 33)).size; exact h) (.cells #[] 33)) (Nat.le_refl _)) (row_mem fun x _ => ccl_one x) (by have h := HNB.out; unfold maxLen; omega) (by have h := HNB.out; omega) (by have h := (((Below.refl w2.heap.size w2.drew).alloc (by have h := (Below.refl w2.heap.size w2.drew).size; exact h) (.cells #[.int .i64 ck, .int .i64 cv, .int .i64 ce, .int .i64 cc, .int .i64 cn, .int .i64 c1, .int .i64 c2, .int .i64 c3] 33)).alloc (by have h := ((Below.refl w2.heap.size w2.drew).alloc (by have h := (Below.refl w2.heap.size w2.drew).size; exact h) (.cells #[.int .i64 ck, .int .i64 cv, .int .i64 ce, .int .i64 cc, .int .i64 cn, .int .i64 c1, .int .i64 c2, .int .i64 c3] 33)).size; exact h) (.cells #[] 33)).size; exact h) ?_
  intro v6 w6 hown6 hgr6 hat6
  have HO6 := Lib.hid (show w6.ownsRow w2.heap.size 33 8 v6 na (row ccl L) from by have h := hown6; rw [Nat.zero_add] at h; simpa using h)
  have HB6 := Lib.hid ((((Below.refl w2.heap.size w2.drew).alloc (by have h := (Below.refl w2.heap.size w2.drew).size; exact h) (.cells #[.int .i64 ck, .int .i64 cv, .int .i64 ce, .int .i64 cc, .int .i64 cn, .int .i64 c1, .int .i64 c2, .int .i64 c3] 33)).alloc (by have h := ((Below.refl w2.heap.size w2.drew).alloc (by have h := (Below.refl w2.heap.size w2.drew).size; exact h) (.cells #[.int .i64 ck, .int .i64 cv, .int .i64 ce, .int .i64 cc, .int .i64 cn, .int .i64 c1, .int .i64 c2, .int .i64 c3] 33)).size; exact h) (.cells #[] 33)).grown hgr6 (by have h := (((Below.refl w2.heap.size w2.drew).alloc (by have h := (Below.refl w2.heap.size w2.drew).size; exact h) (.cells #[.int .i64 ck, .int .i64 cv, .int .i64 ce, .int .i64 cc, .int .i64 cn, .int .i64 c1, .int .i64 c2, .int .i64 c3] 33)).alloc (by have h := ((Below.refl w2.heap.size w2.drew).alloc (by have h := (Below.refl w2.heap.size w2.drew).size; exact h) (.cells #[.int .i64 ck, .int .i64 cv, .int .i64 ce, .int .i64 cc, .int .i64 cn, .int .i64 c1, .int .i64 c2, .int .i64 c3] 33)).size; exact h) (.cells #[] 33)).size; exact h) (fun j hj => by have h := ((own_litAt14 (w2.drew.alloc (.cells #[.int .i64 ck, .int .i64 cv, .int .i64 ce, .int .i64 cc, .int .i64 cn, .int .i64 c1, .int .i64 c2, .int .i64 c3] 33)) w2.heap.size 33 8 (w2.heap.size + 1) (by simp) (by omega))).lt j hj; exact h.1))
  have S6 := HS.out _ HB6.out
  refine hK.out _ _ (S6) (fun hHeld => ?_)
  clear hK K
  try simp only [Act.put, List.getElem_toArray, List.getElem_cons_zero, List.getElem_cons_succ, List.setIfInBounds_toArray, List.set_cons_zero, List.set_cons_succ]
  refine AnyE.next (rs := [8]) (by kernel_rfl) (by simp) ?_
  refine AllE.cons rfl (fun K hK => ?_) AllE.nil
  refine step_append_X (by rfl) _ _ 26 rfl w2.heap.size 33 i0 _ 8 64 Try.underlying26 HI0.out HZ0.out HZ1.out HZ2.out rfl (by decide) _ (row ccl L) na rfl HO6.out _ 1 _ rfl ((((IsX.litAt14 w2.drew #[.int .i64 ck, .int .i64 cv, .int .i64 ce, .int .i64 cc, .int .i64 cn, .int .i64 c1, .int .i64 c2, .int .i64 c3] 33 8 1 w2.heap.size rfl rfl (by decide))).mono (bel_alloc15 _ (.cells #[] 33)) (Nat.le_refl _)).kept ((Kept.refl (fun j => some (w2.heap.size + 1) = some j) _).grown hgr6 (fun k hk => .inl hk)) (fun k hk hs => by have h1 : some w2.heap.size = some k := hk.2; have h2 := Option.some.inj h1; have h3 := Option.some.inj hs; omega)) (fun u hu => ccl_one ⟨ck, cv, ce, cc, cn, c1, c2, c3⟩ u hu) (by have h := HNB.out; unfold maxLen; omega) (by have h := HNB.out; omega) (by have h := HB6.out.size; exact h) ?_
  intro v9 w9 hown9 hgr9 hat9
  have HB9 := Lib.hid (HB6.out.grown hgr9 (by have h := HB6.out.size; exact h) (fun j hj => by have h := (HO6.out).lt j hj; exact h.1))
  have HX9 := Lib.hid (show IsX w9 8 v9 (na + 1) (row ccl (L ++ [⟨ck, cv, ce, cc, cn, c1, c2, c3⟩])) from IsX.own (by rw [row_append, row_one]; exact hown9))
  have S9 := HS.out _ HB9.out
  clear hown9 hgr9 hat9
  refine hK.out _ _ (S9) (fun hHeld => ?_)
  clear hK K
  try simp only [Act.put, List.getElem_toArray, List.getElem_cons_zero, List.getElem_cons_succ, List.setIfInBounds_toArray, List.set_cons_zero, List.set_cons_succ]
  refine AnyE.next (rs := [9]) (by kernel_rfl) (by simp) ?_
  refine AllE.cons rfl (fun K hK => ?_) AllE.nil
  go_simp
  refine (rwith20_0 xa xb na nb ca cb true false 0 tm st v9 (na + 1) (L ++ [⟨ck, cv, ce, cc, cn, c1, c2, c3⟩]) w9 HX9.out (by have h := HNB.out; omega)).mono ?_
  rintro e w10 ⟨x, k, rfl, hx10, ho10, hb10⟩
  skip
  have HX10 := Lib.hid hx10
  have HO10 := Lib.hid (show ∀ q, (Value.slice x (na + 1) k).ownBlock = some q → w2.heap.size ≤ q from fun q e => Nat.le_trans HB9.out.size (ho10 q e))
  have HB10 := Lib.hid (HB9.out.trans (hb10.mono HB9.out.size))
  clear hx10 ho10 hb10
  refine hK.out _ _ (HS.out _ HB10.out) (fun hHeld => ?_)
  clear hK K
  try simp only [Act.put, List.getElem_toArray, List.getElem_cons_zero, List.getElem_cons_succ, List.setIfInBounds_toArray, List.set_cons_zero, List.set_cons_succ]
  refine AnyE.next (rs := [10]) (by kernel_rfl) (by simp) ?_
  refine AllE.last rfl (fun K hK => ?_)
  refine step_store7 rfl 29 Try.sizePr20 _ _ rfl Y 29 (show Blk w10 Y #[.slice xa na ca, .slice xb nb cb, .bool true, .bool false, .int .i64 0, .int .i64 tm, .int .i64 st] 29 from HY2.out.below ((Below.refl w2.heap.size w2).drew.trans HB10.out) HY2.out.lt) rfl rfl ?_
  intro w11 hy11 hk11
  have HY11 := Lib.hid hy11
  have HR11 := Lib.hid ((HR2.out.below ((Below.refl w2.heap.size w2).drew.trans HB10.out) HR2.out.lt).kept hk11 (fun e => HYR.out e.symm))
  have HX11 := Lib.hid (HX10.out.kept hk11 (fun q hq e => by have h1 := HO10.out q hq.2; have h2 := HY2.out.lt; omega))
  have HB11 := Lib.hid ((HB2.out.trans (((Below.refl w2.heap.size w2).drew.trans HB10.out).mono HB2.out.size)).trans (hk11.below (Nat.le_trans HB2.out.size (show w2.heap.size ≤ w10.heap.size from HB10.out.size)) (fun q hq e => by have h1 := HYW.out; omega)))
  clear hy11 hk11
  refine hK.out _ _ ?_
  clear hK K
  try simp only [Act.put, List.getElem_toArray, List.getElem_cons_zero, List.getElem_cons_succ, List.setIfInBounds_toArray, List.set_cons_zero, List.set_cons_succ]
  refine AnyE.done (by kernel_rfl) ?_ _
  have y0 := HY11.out.cell 0 rfl
  have y1 := HY11.out.cell 1 rfl
  have y2 := HY11.out.cell 2 rfl
  have y3 := HY11.out.cell 3 rfl
  have y4 := HY11.out.cell 4 rfl
  have y5 := HY11.out.cell 5 rfl
  have y6 := HY11.out.cell 6 rfl
  go_upto_region 11 with fail
  go_wp2_with fail
  refine (rsettle20 x xb (na + 1) nb k cb true false 0 tm st ((na : Int) + 1) _).mono ?_
  rintro e w12 ⟨rfl, hb12⟩
  rw [HST.out]
  unfold pcl
  have HY12 := Lib.hid (HY11.out.below hb12 HY11.out.lt)
  have HR12 := Lib.hid (HR11.out.below hb12 HR11.out.lt)
  have HX12 := Lib.hid (HX11.out.mono hb12 (Nat.le_refl _))
  have HB12 := Lib.hid (HB11.out.trans (hb12.mono HB11.out.size))
  clear hb12 y0 y1 y2 y3 y4 y5 y6
  go_wp2_with (refine wpList_store7 rfl 29 Try.sizePr20 _ _ rfl Y 29 HY12.out rfl rfl ?_)
  intro w13 hy13 hk13
  have HR13 := Lib.hid (HR12.out.kept hk13 (fun e => HYR.out e.symm))
  have HX13 := Lib.hid (HX12.out.kept hk13 (fun q hq e => by have h1 := HO10.out q hq.2; have h2 := HY2.out.lt; omega))
  have HB13 := Lib.hid (HB12.out.trans (hk13.below HB12.out.size (fun q hq e => by have h1 := HYW.out; omega)))
  have y0 := hy13.cell 0 rfl
  have y1 := hy13.cell 1 rfl
  have y2 := hy13.cell 2 rfl
  have y3 := hy13.cell 3 rfl
  have y4 := hy13.cell 4 rfl
  have y5 := hy13.cell 5 rfl
  have y6 := hy13.cell 6 rfl
  clear hy13 hk13
  go_wp2_with (refine wpList_store7 rfl 29 Try.sizePr20 _ _ rfl R 29 HR13.out rfl rfl ?_)
  intro w15 hr15 hk15
  have HB15 := Lib.hid (HB13.out.trans (hk15.below HB13.out.size (fun q hq e => by have h1 := HRe.out; omega)))
  have HX15 := Lib.hid (HX13.out.kept hk15 (fun q hq e => by have h1 := HO10.out q hq.2; have h2 := HR2.out.lt; omega))
  have HO15 := Lib.hid (show ∀ q, (Value.slice x (na + 1) k).ownBlock = some q → w.heap.size ≤ q from fun q e => Nat.le_trans HB2.out.size (HO10.out q e))
  have z0 := hr15.cell 0 rfl
  have z1 := hr15.cell 1 rfl
  have z2 := hr15.cell 2 rfl
  have z3 := hr15.cell 3 rfl
  have z4 := hr15.cell 4 rfl
  have z5 := hr15.cell 5 rfl
  have z6 := hr15.cell 6 rfl
  clear hr15 hk15 y0 y1 y2 y3 y4 y5 y6
  go_wp2
  exact bodyPost_ret (v := .tuple #[.agg #[.slice x (na + 1) k, .slice xb nb cb, .bool true, .bool false, .int .i64 0, .int .i64 tm, .int .i64 ST], .int .i64 (na : Int), .int .i64 0]) (by simp [results, Try.results10, go_sem, z0, z1, z2, z3, z4, z5, z6]) rfl ⟨x, k, rfl, HX15.out, HO15.out, HB15.out⟩
set_option maxRecDepth 100000 in
set_option maxHeartbeats 8000000 in
theorem ask_ok1u (xa xb : Option Addr) (na nb ca cb : Nat) (L : List Cm) (tm st sd ck cv ce cc cn c1 c2 c3 : Int) (w : World) (hv : IsX w 8 (.slice xb nb cb) nb (row ccl L)) (hn : nb ≤ 1000) :
    Calls Try.prog 10 #[.agg #[.slice xa na ca, .slice xb nb cb, .bool true, .bool true, .int .i64 1, .int .i64 tm, .int .i64 st], .agg #[.int .i64 0, .int .i64 tm, .int .i64 sd, .int .i64 ck, .int .i64 cv, .int .i64 ce, .int .i64 cc, .int .i64 cn, .int .i64 c1, .int .i64 c2, .int .i64 c3]] w fun e w' => ∃ x k, e = .returned (.tuple #[.agg #[.slice xa na ca, .slice x (nb + 1) k, .bool true, .bool true, .int .i64 1, .int .i64 tm, .int .i64 st], .int .i64 (nb : Int), .int .i64 0]) ∧ IsX w' 8 (.slice x (nb + 1) k) (nb + 1) (row ccl (L ++ [⟨ck, cv, ce, cc, cn, c1, c2, c3⟩])) ∧ (∀ q, (Value.slice x (nb + 1) k).ownBlock = some q → w.heap.size ≤ q) ∧ Below w.heap.size w w' := by
  obtain ⟨i0, hi0, hz0, hz1, hz2⟩ := info_parts Try.infoCmdR19
  have HI0 := Lib.hid hi0
  have HZ0 := Lib.hid hz0
  have HZ1 := Lib.hid hz1
  have HZ2 := Lib.hid hz2
  have hlen := fun W => len_X (P := Try.prog) hv 26 3 33 Try.underlying26 W
  have hww : wrap64 ((nb : Int) + 1) = (nb : Int) + 1 := IntWalk.wrap64_in _ (by omega)
  have HV := Lib.hid hv
  have HNB := Lib.hid hn
  clear hv hn hi0 hz0 hz1 hz2
  have hY := ((Blk.new w #[.slice xa na ca, .slice xb nb cb, .bool true, .bool true, .int .i64 1, .int .i64 tm, .int .i64 st] 29).alloc (.cells #[.int .i64 0, .int .i64 tm, .int .i64 sd, .int .i64 ck, .int .i64 cv, .int .i64 ce, .int .i64 cc, .int .i64 cn, .int .i64 c1, .int .i64 c2, .int .i64 c3] 35)).alloc (.cells #[.slice none 0 0, .slice none 0 0, .bool false, .bool false, .int .i64 0, .int .i64 0, .int .i64 0] 29)
  have hA := (Blk.new (w.alloc (.cells #[.slice xa na ca, .slice xb nb cb, .bool true, .bool true, .int .i64 1, .int .i64 tm, .int .i64 st] 29)) #[.int .i64 0, .int .i64 tm, .int .i64 sd, .int .i64 ck, .int .i64 cv, .int .i64 ce, .int .i64 cc, .int .i64 cn, .int .i64 c1, .int .i64 c2, .int .i64 c3] 35).alloc (.cells #[.slice none 0 0, .slice none 0 0, .bool false, .bool false, .int .i64 0, .int .i64 0, .int .i64 0] 29)
  have hR := Blk.new ((w.alloc (.cells #[.slice xa na ca, .slice xb nb cb, .bool true, .bool true, .int .i64 1, .int .i64 tm, .int .i64 st] 29)).alloc (.cells #[.int .i64 0, .int .i64 tm, .int .i64 sd, .int .i64 ck, .int .i64 cv, .int .i64 ce, .int .i64 cc, .int .i64 cn, .int .i64 c1, .int .i64 c2, .int .i64 c3] 35)) #[.slice none 0 0, .slice none 0 0, .bool false, .bool false, .int .i64 0, .int .i64 0, .int .i64 0] 29
  have hB := (((Below.refl w.heap.size w).alloc (Nat.le_refl _) (.cells #[.slice xa na ca, .slice xb nb cb, .bool true, .bool true, .int .i64 1, .int .i64 tm, .int .i64 st] 29)).alloc (by simp) (.cells #[.int .i64 0, .int .i64 tm, .int .i64 sd, .int .i64 ck, .int .i64 cv, .int .i64 ce, .int .i64 cc, .int .i64 cn, .int .i64 c1, .int .i64 c2, .int .i64 c3] 35)).alloc (by simp; omega) (.cells #[.slice none 0 0, .slice none 0 0, .bool false, .bool false, .int .i64 0, .int .i64 0, .int .i64 0] 29)
  obtain ⟨w0, hW⟩ : ∃ z, ((w.alloc (.cells #[.slice xa na ca, .slice xb nb cb, .bool true, .bool true, .int .i64 1, .int .i64 tm, .int .i64 st] 29)).alloc (.cells #[.int .i64 0, .int .i64 tm, .int .i64 sd, .int .i64 ck, .int .i64 cv, .int .i64 ce, .int .i64 cc, .int .i64 cn, .int .i64 c1, .int .i64 c2, .int .i64 c3] 35)).alloc (.cells #[.slice none 0 0, .slice none 0 0, .bool false, .bool false, .int .i64 0, .int .i64 0, .int .i64 0] 29) = z := ⟨_, rfl⟩
  rw [hW] at hY hA hR hB
  obtain ⟨Y, hYe⟩ : ∃ z, w.heap.size = z := ⟨_, rfl⟩
  obtain ⟨X, hXe⟩ : ∃ z, (w.alloc (.cells #[.slice xa na ca, .slice xb nb cb, .bool true, .bool true, .int .i64 1, .int .i64 tm, .int .i64 st] 29)).heap.size = z := ⟨_, rfl⟩
  obtain ⟨R, hRe⟩ : ∃ z, ((w.alloc (.cells #[.slice xa na ca, .slice xb nb cb, .bool true, .bool true, .int .i64 1, .int .i64 tm, .int .i64 st] 29)).alloc (.cells #[.int .i64 0, .int .i64 tm, .int .i64 sd, .int .i64 ck, .int .i64 cv, .int .i64 ce, .int .i64 cc, .int .i64 cn, .int .i64 c1, .int .i64 c2, .int .i64 c3] 35)).heap.size = z := ⟨_, rfl⟩
  rw [hYe] at hY
  rw [hXe] at hA
  rw [hRe] at hR
  have hX1 : w.heap.size + 1 = X := by rw [← hXe]; simp
  have hR1 : w.heap.size + 1 + 1 = R := by rw [← hRe]; simp
  have HW := Lib.hid hW
  have HYe := Lib.hid hYe
  have HXe := Lib.hid hX1
  have HRe := Lib.hid hR1
  have HY := Lib.hid hY
  have HA := Lib.hid hA
  have HR := Lib.hid hR
  have HB := Lib.hid hB
  clear hW hYe hXe hRe hX1 hR1 hA hR hB
  have y4 := hY.cell 4 rfl
  clear hY
  go_enter Try.func10, Try.ntmps10
  go_upto_region 1 with fail
  rw [HW.out]
  try rw [HRe.out]
  try rw [HXe.out]
  try rw [HYe.out]
  go_region
  go_upto_region 2 with fail
  clear y4
  have HS := Lib.hid (fun (wx : World) (hb : Below w0.heap.size w0 wx) => show wx.cell? ⟨Y, 0, none⟩ = some (.slice xa na ca) ∧ wx.cell? ⟨Y, 1, none⟩ = some (.slice xb nb cb) ∧ wx.cell? ⟨Y, 2, none⟩ = some (.bool true) ∧ wx.cell? ⟨Y, 3, none⟩ = some (.bool true) ∧ wx.cell? ⟨Y, 4, none⟩ = some (.int .i64 1) ∧ wx.cell? ⟨Y, 5, none⟩ = some (.int .i64 tm) ∧ wx.cell? ⟨Y, 6, none⟩ = some (.int .i64 st) from
    have h := HY.out.below hb HY.out.lt
    ⟨h.cell 0 rfl, h.cell 1 rfl, h.cell 2 rfl, h.cell 3 rfl, h.cell 4 rfl, h.cell 5 rfl, h.cell 6 rfl⟩)
  have S0 := HS.out w0.drew.drew (Below.refl w0.heap.size w0).drew.drew
  refine AnyE.start (S := (fun wx => wx.cell? ⟨Y, 0, none⟩ = some (.slice xa na ca) ∧ wx.cell? ⟨Y, 1, none⟩ = some (.slice xb nb cb) ∧ wx.cell? ⟨Y, 2, none⟩ = some (.bool true) ∧ wx.cell? ⟨Y, 3, none⟩ = some (.bool true) ∧ wx.cell? ⟨Y, 4, none⟩ = some (.int .i64 1) ∧ wx.cell? ⟨Y, 5, none⟩ = some (.int .i64 tm) ∧ wx.cell? ⟨Y, 6, none⟩ = some (.int .i64 st))) 7 (by kernel_rfl) (S0) (fun hHeld => ?_)
  refine AnyE.take (i := 0) (v := ?_) rfl (by kernel_rfl) (by kernel_rfl) (by kernel_rfl) (by kernel_rfl) (fun _ _ _ h => h) (Or.inl ⟨by rfl, ?_⟩) (by assumption) ?_
  rotate_left 1
  · intro w hSw
    (try dsimp only at hSw)
    go_simp
    all_goals (with_reducible rfl)
  try simp only [Act.put, List.getElem_toArray, List.getElem_cons_zero, List.getElem_cons_succ, List.setIfInBounds_toArray, List.set_cons_zero, List.set_cons_succ]
  refine AnyE.take (i := 1) (v := ?_) rfl (by kernel_rfl) (by kernel_rfl) (by kernel_rfl) (by kernel_rfl) (fun _ _ _ h => h) (Or.inl ⟨by rfl, ?_⟩) (by assumption) ?_
  rotate_left 1
  · intro w hSw
    (try dsimp only at hSw)
    go_simp
    all_goals (with_reducible rfl)
  try simp only [Act.put, List.getElem_toArray, List.getElem_cons_zero, List.getElem_cons_succ, List.setIfInBounds_toArray, List.set_cons_zero, List.set_cons_succ]
  refine AnyE.take (i := 3) (v := ?_) rfl (by kernel_rfl) (by kernel_rfl) (by kernel_rfl) (by kernel_rfl) (fun _ _ _ h => h) (Or.inl ⟨by rfl, ?_⟩) (by assumption) ?_
  rotate_left 1
  · intro w hSw
    (try dsimp only at hSw)
    go_simp
    all_goals (with_reducible rfl)
  try simp only [Act.put, List.getElem_toArray, List.getElem_cons_zero, List.getElem_cons_succ, List.setIfInBounds_toArray, List.set_cons_zero, List.set_cons_succ]
  refine AnyE.take (i := 4) (v := ?_) rfl (by kernel_rfl) (by kernel_rfl) (by kernel_rfl) (by kernel_rfl) (fun _ _ _ h => h) (Or.inl ⟨by rfl, ?_⟩) (by assumption) ?_
  rotate_left 1
  · intro w hSw
    (try dsimp only at hSw)
    go_simp
    all_goals (with_reducible rfl)
  try simp only [Act.put, List.getElem_toArray, List.getElem_cons_zero, List.getElem_cons_succ, List.setIfInBounds_toArray, List.set_cons_zero, List.set_cons_succ]
  refine AnyE.next (rs := [2]) (by kernel_rfl) (by simp) ?_
  refine AllE.cons rfl (fun K hK => ?_) AllE.nil
  go_simp
  refine (rlog20 xa xb na nb ca cb true true 1 tm st 1 _).mono ?_
  rintro e w1 ⟨rfl, hb1⟩
  refine hK.out _ _ (HS.out _ ((Below.refl w0.heap.size w0).drew.drew.trans (hb1.mono (Nat.le_refl _)))) (fun hHeld => ?_)
  clear hK K
  try simp only [Act.put, List.getElem_toArray, List.getElem_cons_zero, List.getElem_cons_succ, List.setIfInBounds_toArray, List.set_cons_zero, List.set_cons_succ]
  refine AnyE.next (rs := [5]) (by kernel_rfl) (by simp) ?_
  refine AllE.cons rfl (fun K hK => ?_) AllE.nil
  go_simp
  refine (rlog20 xa xb na nb ca cb true true 1 tm st 0 _).mono ?_
  rintro e w2 ⟨rfl, hb2⟩
  refine hK.out _ _ (HS.out _ (((Below.refl w0.heap.size w0).drew.drew.trans (hb1.mono (Nat.le_refl _))).trans (hb2.mono hb1.size))) (fun hHeld => ?_)
  clear hK K
  try simp only [Act.put, List.getElem_toArray, List.getElem_cons_zero, List.getElem_cons_succ, List.setIfInBounds_toArray, List.set_cons_zero, List.set_cons_succ]
  refine AnyE.next (rs := [6]) (by kernel_rfl) (by simp) ?_
  refine AllE.cons rfl (fun K hK => ?_) AllE.nil
  go_simp
  refine hK.out _ _ (HS.out _ (((Below.refl w0.heap.size w0).drew.drew.trans (hb1.mono (Nat.le_refl _))).trans (hb2.mono hb1.size))) (fun hHeld => ?_)
  clear hK K
  try simp only [Act.put, List.getElem_toArray, List.getElem_cons_zero, List.getElem_cons_succ, List.setIfInBounds_toArray, List.set_cons_zero, List.set_cons_succ]
  refine AnyE.next (rs := [7]) (by kernel_rfl) (by simp) ?_
  refine AllE.last rfl (fun K hK => ?_)
  go_simp
  refine hK.out _ _ ?_
  clear hK K
  try simp only [Act.put, List.getElem_toArray, List.getElem_cons_zero, List.getElem_cons_succ, List.setIfInBounds_toArray, List.set_cons_zero, List.set_cons_succ]
  refine AnyE.done (by kernel_rfl) ?_ _
  have hb20 := ((Below.refl w0.heap.size w0).drew.drew.trans (hb1.mono (Nat.le_refl _))).trans (hb2.mono hb1.size)
  have HY2 := Lib.hid (HY.out.below hb20 HY.out.lt)
  have HA2 := Lib.hid (HA.out.below hb20 HA.out.lt)
  have HR2 := Lib.hid (HR.out.below hb20 HR.out.lt)
  have HB2 := Lib.hid (HB.out.trans (hb20.mono HB.out.size))
  clear hb1 hb2 hb20 S0
  clear hHeld
  have y0 := HY2.out.cell 0 rfl
  have y1 := HY2.out.cell 1 rfl
  have y2 := HY2.out.cell 2 rfl
  have y3 := HY2.out.cell 3 rfl
  have y4 := HY2.out.cell 4 rfl
  have y5 := HY2.out.cell 5 rfl
  have y6 := HY2.out.cell 6 rfl
  have a0 := HA2.out.cell 0 rfl
  have a1 := HA2.out.cell 1 rfl
  have a2 := HA2.out.cell 2 rfl
  have HYX := Lib.hid (show Y ≠ X from by have h1 := HXe.out; have h2 := HYe.out; omega)
  have HYR := Lib.hid (show Y ≠ R from by have h1 := HRe.out; have h2 := HYe.out; omega)
  have HYW := Lib.hid (show w.heap.size ≤ Y from by have h2 := HYe.out; omega)
  go_upto_region 9 with fail
  have HS := Lib.hid (fun (wx : World) (hb : Below w2.heap.size w2.drew wx) => show wx.cell? ⟨Y, 0, none⟩ = some (.slice xa na ca) ∧ wx.cell? ⟨Y, 1, none⟩ = some (.slice xb nb cb) ∧ wx.cell? ⟨Y, 2, none⟩ = some (.bool true) ∧ wx.cell? ⟨Y, 3, none⟩ = some (.bool true) ∧ wx.cell? ⟨Y, 4, none⟩ = some (.int .i64 1) ∧ wx.cell? ⟨Y, 5, none⟩ = some (.int .i64 tm) ∧ wx.cell? ⟨Y, 6, none⟩ = some (.int .i64 st) ∧ wx.cell? ⟨X, 0, none⟩ = some (.int .i64 0) ∧ wx.cell? ⟨X, 1, none⟩ = some (.int .i64 tm) ∧ wx.cell? ⟨X, 2, none⟩ = some (.int .i64 sd) ∧ wx.cell? ⟨X, 3, none⟩ = some (.int .i64 ck) ∧ wx.cell? ⟨X, 4, none⟩ = some (.int .i64 cv) ∧ wx.cell? ⟨X, 5, none⟩ = some (.int .i64 ce) ∧ wx.cell? ⟨X, 6, none⟩ = some (.int .i64 cc) ∧ wx.cell? ⟨X, 7, none⟩ = some (.int .i64 cn) ∧ wx.cell? ⟨X, 8, none⟩ = some (.int .i64 c1) ∧ wx.cell? ⟨X, 9, none⟩ = some (.int .i64 c2) ∧ wx.cell? ⟨X, 10, none⟩ = some (.int .i64 c3) from
    have h := HY2.out.below ((Below.refl w2.heap.size w2).drew.trans hb) HY2.out.lt
    have g := HA2.out.below ((Below.refl w2.heap.size w2).drew.trans hb) HA2.out.lt
    ⟨h.cell 0 rfl, h.cell 1 rfl, h.cell 2 rfl, h.cell 3 rfl, h.cell 4 rfl, h.cell 5 rfl, h.cell 6 rfl, g.cell 0 rfl, g.cell 1 rfl, g.cell 2 rfl, g.cell 3 rfl, g.cell 4 rfl, g.cell 5 rfl, g.cell 6 rfl, g.cell 7 rfl, g.cell 8 rfl, g.cell 9 rfl, g.cell 10 rfl⟩)
  have S0 := HS.out w2.drew (Below.refl _ _)
  have HVD := Lib.hid (show IsX w2.drew 8 (.slice xb nb cb) nb (row ccl L) from HV.out.mono HB2.out.drew (Nat.le_refl _))
  clear y0 y1 y2 y3 y4 y5 y6 a0 a1 a2
  refine AnyE.start (S := (fun wx => wx.cell? ⟨Y, 0, none⟩ = some (.slice xa na ca) ∧ wx.cell? ⟨Y, 1, none⟩ = some (.slice xb nb cb) ∧ wx.cell? ⟨Y, 2, none⟩ = some (.bool true) ∧ wx.cell? ⟨Y, 3, none⟩ = some (.bool true) ∧ wx.cell? ⟨Y, 4, none⟩ = some (.int .i64 1) ∧ wx.cell? ⟨Y, 5, none⟩ = some (.int .i64 tm) ∧ wx.cell? ⟨Y, 6, none⟩ = some (.int .i64 st) ∧ wx.cell? ⟨X, 0, none⟩ = some (.int .i64 0) ∧ wx.cell? ⟨X, 1, none⟩ = some (.int .i64 tm) ∧ wx.cell? ⟨X, 2, none⟩ = some (.int .i64 sd) ∧ wx.cell? ⟨X, 3, none⟩ = some (.int .i64 ck) ∧ wx.cell? ⟨X, 4, none⟩ = some (.int .i64 cv) ∧ wx.cell? ⟨X, 5, none⟩ = some (.int .i64 ce) ∧ wx.cell? ⟨X, 6, none⟩ = some (.int .i64 cc) ∧ wx.cell? ⟨X, 7, none⟩ = some (.int .i64 cn) ∧ wx.cell? ⟨X, 8, none⟩ = some (.int .i64 c1) ∧ wx.cell? ⟨X, 9, none⟩ = some (.int .i64 c2) ∧ wx.cell? ⟨X, 10, none⟩ = some (.int .i64 c3))) 10 (by kernel_rfl) (S0) (fun hHeld => ?_)
  refine AnyE.take (i := 0) (v := ?_) rfl (by kernel_rfl) (by kernel_rfl) (by kernel_rfl) (by kernel_rfl) (fun _ _ _ h => h) (Or.inl ⟨by rfl, ?_⟩) (by assumption) ?_
  rotate_left 1
  · intro w hSw
    (try dsimp only at hSw)
    go_simp
    all_goals (with_reducible rfl)
  try simp only [Act.put, List.getElem_toArray, List.getElem_cons_zero, List.getElem_cons_succ, List.setIfInBounds_toArray, List.set_cons_zero, List.set_cons_succ]
  refine AnyE.take (i := 1) (v := ?_) rfl (by kernel_rfl) (by kernel_rfl) (by kernel_rfl) (by kernel_rfl) (fun _ _ _ h => h) (Or.inl ⟨by rfl, ?_⟩) (by assumption) ?_
  rotate_left 1
  · intro w hSw
    (try dsimp only at hSw)
    go_simp
    all_goals (with_reducible rfl)
  try simp only [Act.put, List.getElem_toArray, List.getElem_cons_zero, List.getElem_cons_succ, List.setIfInBounds_toArray, List.set_cons_zero, List.set_cons_succ]
  refine AnyE.take (i := 3) (v := ?_) rfl (by kernel_rfl) (by kernel_rfl) (by kernel_rfl) (by kernel_rfl) (fun _ _ _ h => h) (Or.inl ⟨by rfl, ?_⟩) (by assumption) ?_
  rotate_left 1
  · intro w hSw
    (try dsimp only at hSw)
    go_simp
    all_goals (with_reducible rfl)
  try simp only [Act.put, List.getElem_toArray, List.getElem_cons_zero, List.getElem_cons_succ, List.setIfInBounds_toArray, List.set_cons_zero, List.set_cons_succ]
  refine AnyE.take (i := 5) (v := ?_) rfl (by kernel_rfl) (by kernel_rfl) (by kernel_rfl) (by kernel_rfl) (fun _ _ _ h => h) (Or.inl ⟨by rfl, ?_⟩) (by assumption) ?_
  rotate_left 1
  · intro w hSw
    (try dsimp only at hSw)
    go_simp
    all_goals (with_reducible rfl)
  try simp only [Act.put, List.getElem_toArray, List.getElem_cons_zero, List.getElem_cons_succ, List.setIfInBounds_toArray, List.set_cons_zero, List.set_cons_succ]
  refine AnyE.take (i := 6) (v := ?_) rfl (by kernel_rfl) (by kernel_rfl) (by kernel_rfl) (by kernel_rfl) (fun _ _ _ h => h) (Or.inl ⟨by rfl, ?_⟩) (by assumption) ?_
  rotate_left 1
  · intro w hSw
    (try dsimp only at hSw)
    go_simp
    all_goals (with_reducible rfl)
  try simp only [Act.put, List.getElem_toArray, List.getElem_cons_zero, List.getElem_cons_succ, List.setIfInBounds_toArray, List.set_cons_zero, List.set_cons_succ]
  refine AnyE.next (rs := [2, 7]) (by kernel_rfl) (by simp) ?_
  refine AllE.cons rfl (fun K hK => ?_) ?_
  · go_simp
    refine hK.out _ _ (HS.out _ ((Below.refl w2.heap.size w2.drew).alloc (by have h := (Below.refl w2.heap.size w2.drew).size; exact h) (.cells #[] 33))) (fun hHeld => ?_)
    clear hK K
    try simp only [Act.put, List.getElem_toArray, List.getElem_cons_zero, List.getElem_cons_succ, List.setIfInBounds_toArray, List.set_cons_zero, List.set_cons_succ]
    refine AnyE.next (rs := [4, 7]) (by kernel_rfl) (by simp) ?_
    refine AllE.cons rfl (fun K hK => ?_) ?_
    · refine step_append_X (by rfl) _ _ 26 rfl w2.heap.size 33 i0 _ 8 64 Try.underlying26 HI0.out HZ0.out HZ1.out HZ2.out rfl (by decide) _ [] 0 rfl (own_litAt14 w2.drew w2.heap.size 33 8 w2.heap.size rfl (Nat.le_refl _)) _ nb _ rfl (HVD.out.mono ((Below.refl w2.heap.size w2.drew).alloc (by have h := (Below.refl w2.heap.size w2.drew).size; exact h) (.cells #[] 33)) (Nat.le_refl _)) (row_mem fun x _ => ccl_one x) (by have h := HNB.out; unfold maxLen; omega) (by have h := HNB.out; omega) (by have h := ((Below.refl w2.heap.size w2.drew).alloc (by have h := (Below.refl w2.heap.size w2.drew).size; exact h) (.cells #[] 33)).size; exact h) ?_
      intro v6 w6 hown6 hgr6 hat6
      have HO6 := Lib.hid (show w6.ownsRow w2.heap.size 33 8 v6 nb (row ccl L) from by have h := hown6; rw [Nat.zero_add] at h; simpa using h)
      have HB6 := Lib.hid (((Below.refl w2.heap.size w2.drew).alloc (by have h := (Below.refl w2.heap.size w2.drew).size; exact h) (.cells #[] 33)).grown hgr6 (by have h := ((Below.refl w2.heap.size w2.drew).alloc (by have h := (Below.refl w2.heap.size w2.drew).size; exact h) (.cells #[] 33)).size; exact h) (fun j hj => by have h := ((own_litAt14 w2.drew w2.heap.size 33 8 w2.heap.size rfl (Nat.le_refl _))).lt j hj; exact h.1))
      have S6 := HS.out _ HB6.out
      refine hK.out _ _ (S6) (fun hHeld => ?_)
      clear hK K
      try simp only [Act.put, List.getElem_toArray, List.getElem_cons_zero, List.getElem_cons_succ, List.setIfInBounds_toArray, List.set_cons_zero, List.set_cons_succ]
      refine AnyE.next (rs := [7]) (by kernel_rfl) (by simp) ?_
      refine AllE.cons rfl (fun K hK => ?_) AllE.nil
      go_simp
      refine hK.out _ _ (HS.out _ (HB6.out.alloc HB6.out.size (.cells #[.int .i64 ck, .int .i64 cv, .int .i64 ce, .int .i64 cc, .int .i64 cn, .int .i64 c1, .int .i64 c2, .int .i64 c3] 33))) (fun hHeld => ?_)
      clear hK K
      try simp only [Act.put, List.getElem_toArray, List.getElem_cons_zero, List.getElem_cons_succ, List.setIfInBounds_toArray, List.set_cons_zero, List.set_cons_succ]
      refine AnyE.next (rs := [8]) (by kernel_rfl) (by simp) ?_
      refine AllE.cons rfl (fun K hK => ?_) AllE.nil
      refine step_append_X (by rfl) _ _ 26 rfl w2.heap.size 33 i0 _ 8 64 Try.underlying26 HI0.out HZ0.out HZ1.out HZ2.out rfl (by decide) _ (row ccl L) nb rfl (HO6.out.alloc (.cells #[.int .i64 ck, .int .i64 cv, .int .i64 ce, .int .i64 cc, .int .i64 cn, .int .i64 c1, .int .i64 c2, .int .i64 c3] 33)) _ 1 _ rfl (IsX.litAt14 w6 #[.int .i64 ck, .int .i64 cv, .int .i64 ce, .int .i64 cc, .int .i64 cn, .int .i64 c1, .int .i64 c2, .int .i64 c3] 33 8 1 w6.heap.size rfl rfl (by decide)) (fun u hu => ccl_one ⟨ck, cv, ce, cc, cn, c1, c2, c3⟩ u hu) (by have h := HNB.out; unfold maxLen; omega) (by have h := HNB.out; omega) (by have h := (HB6.out.alloc HB6.out.size (.cells #[.int .i64 ck, .int .i64 cv, .int .i64 ce, .int .i64 cc, .int .i64 cn, .int .i64 c1, .int .i64 c2, .int .i64 c3] 33)).size; exact h) ?_
      intro v9 w9 hown9 hgr9 hat9
      have HB9 := Lib.hid ((HB6.out.alloc HB6.out.size (.cells #[.int .i64 ck, .int .i64 cv, .int .i64 ce, .int .i64 cc, .int .i64 cn, .int .i64 c1, .int .i64 c2, .int .i64 c3] 33)).grown hgr9 (by have h := (HB6.out.alloc HB6.out.size (.cells #[.int .i64 ck, .int .i64 cv, .int .i64 ce, .int .i64 cc, .int .i64 cn, .int .i64 c1, .int .i64 c2, .int .i64 c3] 33)).size; exact h) (fun j hj => by have h := ((HO6.out.alloc (.cells #[.int .i64 ck, .int .i64 cv, .int .i64 ce, .int .i64 cc, .int .i64 cn, .int .i64 c1, .int .i64 c2, .int .i64 c3] 33))).lt j hj; exact h.1))
      have HX9 := Lib.hid (show IsX w9 8 v9 (nb + 1) (row ccl (L ++ [⟨ck, cv, ce, cc, cn, c1, c2, c3⟩])) from IsX.own (by rw [row_append, row_one]; exact hown9))
      have S9 := HS.out _ HB9.out
      clear hown9 hgr9 hat9
      refine hK.out _ _ (S9) (fun hHeld => ?_)
      clear hK K
      try simp only [Act.put, List.getElem_toArray, List.getElem_cons_zero, List.getElem_cons_succ, List.setIfInBounds_toArray, List.set_cons_zero, List.set_cons_succ]
      refine AnyE.next (rs := [9]) (by kernel_rfl) (by simp) ?_
      refine AllE.cons rfl (fun K hK => ?_) AllE.nil
      go_simp
      refine (rwith20_1 xa xb na nb ca cb true true 1 tm st v9 (nb + 1) (L ++ [⟨ck, cv, ce, cc, cn, c1, c2, c3⟩]) w9 HX9.out (by have h := HNB.out; omega)).mono ?_
      rintro e w10 ⟨x, k, rfl, hx10, ho10, hb10⟩
      skip
      have HX10 := Lib.hid hx10
      have HO10 := Lib.hid (show ∀ q, (Value.slice x (nb + 1) k).ownBlock = some q → w2.heap.size ≤ q from fun q e => Nat.le_trans HB9.out.size (ho10 q e))
      have HB10 := Lib.hid (HB9.out.trans (hb10.mono HB9.out.size))
      clear hx10 ho10 hb10
      refine hK.out _ _ (HS.out _ HB10.out) (fun hHeld => ?_)
      clear hK K
      try simp only [Act.put, List.getElem_toArray, List.getElem_cons_zero, List.getElem_cons_succ, List.setIfInBounds_toArray, List.set_cons_zero, List.set_cons_succ]
      refine AnyE.next (rs := [10]) (by kernel_rfl) (by simp) ?_
      refine AllE.last rfl (fun K hK => ?_)
      refine step_store7 rfl 29 Try.sizePr20 _ _ rfl Y 29 (show Blk w10 Y #[.slice xa na ca, .slice xb nb cb, .bool true, .bool true, .int .i64 1, .int .i64 tm, .int .i64 st] 29 from HY2.out.below ((Below.refl w2.heap.size w2).drew.trans HB10.out) HY2.out.lt) rfl rfl ?_
      intro w11 hy11 hk11
      have HY11 := Lib.hid hy11
      have HR11 := Lib.hid ((HR2.out.below ((Below.refl w2.heap.size w2).drew.trans HB10.out) HR2.out.lt).kept hk11 (fun e => HYR.out e.symm))
      have HX11 := Lib.hid (HX10.out.kept hk11 (fun q hq e => by have h1 := HO10.out q hq.2; have h2 := HY2.out.lt; omega))
      have HB11 := Lib.hid ((HB2.out.trans (((Below.refl w2.heap.size w2).drew.trans HB10.out).mono HB2.out.size)).trans (hk11.below (Nat.le_trans HB2.out.size (show w2.heap.size ≤ w10.heap.size from HB10.out.size)) (fun q hq e => by have h1 := HYW.out; omega)))
      clear hy11 hk11
      refine hK.out _ _ ?_
      clear hK K
      try simp only [Act.put, List.getElem_toArray, List.getElem_cons_zero, List.getElem_cons_succ, List.setIfInBounds_toArray, List.set_cons_zero, List.set_cons_succ]
      refine AnyE.done (by kernel_rfl) ?_ _
      have y0 := HY11.out.cell 0 rfl
      have y1 := HY11.out.cell 1 rfl
      have y2 := HY11.out.cell 2 rfl
      have y3 := HY11.out.cell 3 rfl
      have y4 := HY11.out.cell 4 rfl
      have y5 := HY11.out.cell 5 rfl
      have y6 := HY11.out.cell 6 rfl
      go_wp2_with (refine wpList_store7 rfl 29 Try.sizePr20 _ _ rfl R 29 HR11.out rfl rfl ?_)
      intro w15 hr15 hk15
      have HB15 := Lib.hid (HB11.out.trans (hk15.below HB11.out.size (fun q hq e => by have h1 := HRe.out; omega)))
      have HX15 := Lib.hid (HX11.out.kept hk15 (fun q hq e => by have h1 := HO10.out q hq.2; have h2 := HR2.out.lt; omega))
      have HO15 := Lib.hid (show ∀ q, (Value.slice x (nb + 1) k).ownBlock = some q → w.heap.size ≤ q from fun q e => Nat.le_trans HB2.out.size (HO10.out q e))
      have z0 := hr15.cell 0 rfl
      have z1 := hr15.cell 1 rfl
      have z2 := hr15.cell 2 rfl
      have z3 := hr15.cell 3 rfl
      have z4 := hr15.cell 4 rfl
      have z5 := hr15.cell 5 rfl
      have z6 := hr15.cell 6 rfl
      clear hr15 hk15 y0 y1 y2 y3 y4 y5 y6
      go_wp2
      exact bodyPost_ret (v := .tuple #[.agg #[.slice xa na ca, .slice x (nb + 1) k, .bool true, .bool true, .int .i64 1, .int .i64 tm, .int .i64 st], .int .i64 (nb : Int), .int .i64 0]) (by simp [results, Try.results10, go_sem, z0, z1, z2, z3, z4, z5, z6]) rfl ⟨x, k, rfl, HX15.out, HO15.out, HB15.out⟩
    refine AllE.cons rfl (fun K hK => ?_) AllE.nil
    go_simp
    refine hK.out _ _ (HS.out _ (((Below.refl w2.heap.size w2.drew).alloc (by have h := (Below.refl w2.heap.size w2.drew).size; exact h) (.cells #[] 33)).alloc (by have h := ((Below.refl w2.heap.size w2.drew).alloc (by have h := (Below.refl w2.heap.size w2.drew).size; exact h) (.cells #[] 33)).size; exact h) (.cells #[.int .i64 ck, .int .i64 cv, .int .i64 ce, .int .i64 cc, .int .i64 cn, .int .i64 c1, .int .i64 c2, .int .i64 c3] 33))) (fun hHeld => ?_)
    clear hK K
    try simp only [Act.put, List.getElem_toArray, List.getElem_cons_zero, List.getElem_cons_succ, List.setIfInBounds_toArray, List.set_cons_zero, List.set_cons_succ]
    refine AnyE.next (rs := [4]) (by kernel_rfl) (by simp) ?_
    refine AllE.cons rfl (fun K hK => ?_) AllE.nil
    refine step_append_X (by rfl) _ _ 26 rfl w2.heap.size 33 i0 _ 8 64 Try.underlying26 HI0.out HZ0.out HZ1.out HZ2.out rfl (by decide) _ [] 0 rfl ((own_litAt14 w2.drew w2.heap.size 33 8 w2.heap.size rfl (Nat.le_refl _)).alloc (.cells #[.int .i64 ck, .int .i64 cv, .int .i64 ce, .int .i64 cc, .int .i64 cn, .int .i64 c1, .int .i64 c2, .int .i64 c3] 33)) _ nb _ rfl (HVD.out.mono (((Below.refl w2.heap.size w2.drew).alloc (by have h := (Below.refl w2.heap.size w2.drew).size; exact h) (.cells #[] 33)).alloc (by have h := ((Below.refl w2.heap.size w2.drew).alloc (by have h := (Below.refl w2.heap.size w2.drew).size; exact h) (.cells #[] 33)).size; exact h) (.cells #[.int .i64 ck, .int .i64 cv, .int .i64 ce, .int .i64 cc, .int .i64 cn, .int .i64 c1, .int .i64 c2, .int .i64 c3] 33)) (Nat.le_refl _)) (row_mem fun x _ => ccl_one x) (by have h := HNB.out; unfold maxLen; omega) (by have h := HNB.out; omega) (by have h := (((Below.refl w2.heap.size w2.drew).alloc (by have h := (Below.refl w2.heap.size w2.drew).size; exact h) (.cells #[] 33)).alloc (by have h := ((Below.refl w2.heap.size w2.drew).alloc (by have h := (Below.refl w2.heap.size w2.drew).size; exact h) (.cells #[] 33)).size; exact h) (.cells #[.int .i64 ck, .int .i64 cv, .int .i64 ce, .int .i64 cc, .int .i64 cn, .int .i64 c1, .int .i64 c2, .int .i64 c3] 33)).size; exact h) ?_
    intro v6 w6 hown6 hgr6 hat6
    have HO6 := Lib.hid (show w6.ownsRow w2.heap.size 33 8 v6 nb (row ccl L) from by have h := hown6; rw [Nat.zero_add] at h; simpa using h)
    have HB6 := Lib.hid ((((Below.refl w2.heap.size w2.drew).alloc (by have h := (Below.refl w2.heap.size w2.drew).size; exact h) (.cells #[] 33)).alloc (by have h := ((Below.refl w2.heap.size w2.drew).alloc (by have h := (Below.refl w2.heap.size w2.drew).size; exact h) (.cells #[] 33)).size; exact h) (.cells #[.int .i64 ck, .int .i64 cv, .int .i64 ce, .int .i64 cc, .int .i64 cn, .int .i64 c1, .int .i64 c2, .int .i64 c3] 33)).grown hgr6 (by have h := (((Below.refl w2.heap.size w2.drew).alloc (by have h := (Below.refl w2.heap.size w2.drew).size; exact h) (.cells #[] 33)).alloc (by have h := ((Below.refl w2.heap.size w2.drew).alloc (by have h := (Below.refl w2.heap.size w2.drew).size; exact h) (.cells #[] 33)).size; exact h) (.cells #[.int .i64 ck, .int .i64 cv, .int .i64 ce, .int .i64 cc, .int .i64 cn, .int .i64 c1, .int .i64 c2, .int .i64 c3] 33)).size; exact h) (fun j hj => by have h := (((own_litAt14 w2.drew w2.heap.size 33 8 w2.heap.size rfl (Nat.le_refl _)).alloc (.cells #[.int .i64 ck, .int .i64 cv, .int .i64 ce, .int .i64 cc, .int .i64 cn, .int .i64 c1, .int .i64 c2, .int .i64 c3] 33))).lt j hj; exact h.1))
    have S6 := HS.out _ HB6.out
    refine hK.out _ _ (S6) (fun hHeld => ?_)
    clear hK K
    try simp only [Act.put, List.getElem_toArray, List.getElem_cons_zero, List.getElem_cons_succ, List.setIfInBounds_toArray, List.set_cons_zero, List.set_cons_succ]
    refine AnyE.next (rs := [8]) (by kernel_rfl) (by simp) ?_
    refine AllE.cons rfl (fun K hK => ?_) AllE.nil
    refine step_append_X (by rfl) _ _ 26 rfl w2.heap.size 33 i0 _ 8 64 Try.underlying26 HI0.out HZ0.out HZ1.out HZ2.out rfl (by decide) _ (row ccl L) nb rfl HO6.out _ 1 _ rfl (((IsX.litAt14 (w2.drew.alloc (.cells #[] 33)) #[.int .i64 ck, .int .i64 cv, .int .i64 ce, .int .i64 cc, .int .i64 cn, .int .i64 c1, .int .i64 c2, .int .i64 c3] 33 8 1 (w2.heap.size + 1) (by simp) rfl (by decide))).kept ((Kept.refl (fun j => some w2.heap.size = some j) _).grown hgr6 (fun k hk => .inl hk)) (fun k hk hs => by have h1 : some (w2.heap.size + 1) = some k := hk.2; have h2 := Option.some.inj h1; have h3 := Option.some.inj hs; omega)) (fun u hu => ccl_one ⟨ck, cv, ce, cc, cn, c1, c2, c3⟩ u hu) (by have h := HNB.out; unfold maxLen; omega) (by have h := HNB.out; omega) (by have h := HB6.out.size; exact h) ?_
    intro v9 w9 hown9 hgr9 hat9
    have HB9 := Lib.hid (HB6.out.grown hgr9 (by have h := HB6.out.size; exact h) (fun j hj => by have h := (HO6.out).lt j hj; exact h.1))
    have HX9 := Lib.hid (show IsX w9 8 v9 (nb + 1) (row ccl (L ++ [⟨ck, cv, ce, cc, cn, c1, c2, c3⟩])) from IsX.own (by rw [row_append, row_one]; exact hown9))
    have S9 := HS.out _ HB9.out
    clear hown9 hgr9 hat9
    refine hK.out _ _ (S9) (fun hHeld => ?_)
    clear hK K
    try simp only [Act.put, List.getElem_toArray, List.getElem_cons_zero, List.getElem_cons_succ, List.setIfInBounds_toArray, List.set_cons_zero, List.set_cons_succ]
    refine AnyE.next (rs := [9]) (by kernel_rfl) (by simp) ?_
    refine AllE.cons rfl (fun K hK => ?_) AllE.nil
    go_simp
    refine (rwith20_1 xa xb na nb ca cb true true 1 tm st v9 (nb + 1) (L ++ [⟨ck, cv, ce, cc, cn, c1, c2, c3⟩]) w9 HX9.out (by have h := HNB.out; omega)).mono ?_
    rintro e w10 ⟨x, k, rfl, hx10, ho10, hb10⟩
    skip
    have HX10 := Lib.hid hx10
    have HO10 := Lib.hid (show ∀ q, (Value.slice x (nb + 1) k).ownBlock = some q → w2.heap.size ≤ q from fun q e => Nat.le_trans HB9.out.size (ho10 q e))
    have HB10 := Lib.hid (HB9.out.trans (hb10.mono HB9.out.size))
    clear hx10 ho10 hb10
    refine hK.out _ _ (HS.out _ HB10.out) (fun hHeld => ?_)
    clear hK K
    try simp only [Act.put, List.getElem_toArray, List.getElem_cons_zero, List.getElem_cons_succ, List.setIfInBounds_toArray, List.set_cons_zero, List.set_cons_succ]
    refine AnyE.next (rs := [10]) (by kernel_rfl) (by simp) ?_
    refine AllE.last rfl (fun K hK => ?_)
    refine step_store7 rfl 29 Try.sizePr20 _ _ rfl Y 29 (show Blk w10 Y #[.slice xa na ca, .slice xb nb cb, .bool true, .bool true, .int .i64 1, .int .i64 tm, .int .i64 st] 29 from HY2.out.below ((Below.refl w2.heap.size w2).drew.trans HB10.out) HY2.out.lt) rfl rfl ?_
    intro w11 hy11 hk11
    have HY11 := Lib.hid hy11
    have HR11 := Lib.hid ((HR2.out.below ((Below.refl w2.heap.size w2).drew.trans HB10.out) HR2.out.lt).kept hk11 (fun e => HYR.out e.symm))
    have HX11 := Lib.hid (HX10.out.kept hk11 (fun q hq e => by have h1 := HO10.out q hq.2; have h2 := HY2.out.lt; omega))
    have HB11 := Lib.hid ((HB2.out.trans (((Below.refl w2.heap.size w2).drew.trans HB10.out).mono HB2.out.size)).trans (hk11.below (Nat.le_trans HB2.out.size (show w2.heap.size ≤ w10.heap.size from HB10.out.size)) (fun q hq e => by have h1 := HYW.out; omega)))
    clear hy11 hk11
    refine hK.out _ _ ?_
    clear hK K
    try simp only [Act.put, List.getElem_toArray, List.getElem_cons_zero, List.getElem_cons_succ, List.setIfInBounds_toArray, List.set_cons_zero, List.set_cons_succ]
    refine AnyE.done (by kernel_rfl) ?_ _
    have y0 := HY11.out.cell 0 rfl
    have y1 := HY11.out.cell 1 rfl
    have y2 := HY11.out.cell 2 rfl
    have y3 := HY11.out.cell 3 rfl
    have y4 := HY11.out.cell 4 rfl
    have y5 := HY11.out.cell 5 rfl
    have y6 := HY11.out.cell 6 rfl
    go_wp2_with (refine wpList_store7 rfl 29 Try.sizePr20 _ _ rfl R 29 HR11.out rfl rfl ?_)
    intro w15 hr15 hk15
    have HB15 := Lib.hid (HB11.out.trans (hk15.below HB11.out.size (fun q hq e => by have h1 := HRe.out; omega)))
    have HX15 := Lib.hid (HX11.out.kept hk15 (fun q hq e => by have h1 := HO10.out q hq.2; have h2 := HR2.out.lt; omega))
    have HO15 := Lib.hid (show ∀ q, (Value.slice x (nb + 1) k).ownBlock = some q → w.heap.size ≤ q from fun q e => Nat.le_trans HB2.out.size (HO10.out q e))
    have z0 := hr15.cell 0 rfl
    have z1 := hr15.cell 1 rfl
    have z2 := hr15.cell 2 rfl
    have z3 := hr15.cell 3 rfl
    have z4 := hr15.cell 4 rfl
    have z5 := hr15.cell 5 rfl
    have z6 := hr15.cell 6 rfl
    clear hr15 hk15 y0 y1 y2 y3 y4 y5 y6
    go_wp2
    exact bodyPost_ret (v := .tuple #[.agg #[.slice xa na ca, .slice x (nb + 1) k, .bool true, .bool true, .int .i64 1, .int .i64 tm, .int .i64 st], .int .i64 (nb : Int), .int .i64 0]) (by simp [results, Try.results10, go_sem, z0, z1, z2, z3, z4, z5, z6]) rfl ⟨x, k, rfl, HX15.out, HO15.out, HB15.out⟩
  refine AllE.cons rfl (fun K hK => ?_) AllE.nil
  go_simp
  refine hK.out _ _ (HS.out _ ((Below.refl w2.heap.size w2.drew).alloc (by have h := (Below.refl w2.heap.size w2.drew).size; exact h) (.cells #[.int .i64 ck, .int .i64 cv, .int .i64 ce, .int .i64 cc, .int .i64 cn, .int .i64 c1, .int .i64 c2, .int .i64 c3] 33))) (fun hHeld => ?_)
  clear hK K
  try simp only [Act.put, List.getElem_toArray, List.getElem_cons_zero, List.getElem_cons_succ, List.setIfInBounds_toArray, List.set_cons_zero, List.set_cons_succ]
  refine AnyE.next (rs := [2]) (by kernel_rfl) (by simp) ?_
  refine AllE.cons rfl (fun K hK => ?_) AllE.nil
  go_simp
  refine hK.out _ _ (HS.out _ (((Below.refl w2.heap.size w2.drew).alloc (by have h := (Below.refl w2.heap.size w2.drew).size; exact h) (.cells #[.int .i64 ck, .int .i64 cv, .int .i64 ce, .int .i64 cc, .int .i64 cn, .int .i64 c1, .int .i64 c2, .int .i64 c3] 33)).alloc (by have h := ((Below.refl w2.heap.size w2.drew).alloc (by have h := (Below.refl w2.heap.size w2.drew).size; exact h) (.cells #[.int .i64 ck, .int .i64 cv, .int .i64 ce, .int .i64 cc, .int .i64 cn, .int .i64 c1, .int .i64 c2, .int .i64 c3] 33)).size; exact h) (.cells #[] 33))) (fun hHeld => ?_)
  clear hK K
  try simp only [Act.put, List.getElem_toArray, List.getElem_cons_zero, List.getElem_cons_succ, List.setIfInBounds_toArray, List.set_cons_zero, List.set_cons_succ]
  refine AnyE.next (rs := [4]) (by kernel_rfl) (by simp) ?_
  refine AllE.cons rfl (fun K hK => ?_) AllE.nil
  refine step_append_X (by rfl) _ _ 26 rfl w2.heap.size 33 i0 _ 8 64 Try.underlying26 HI0.out HZ0.out HZ1.out HZ2.out rfl (by decide) _ [] 0 rfl (own_litAt14 (w2.drew.alloc (.cells #[.int .i64 ck, .int .i64 cv, .int .i64 ce, .int .i64 cc, .int .i64 cn, .int .i64 c1, .int .i64 c2, .int .i64 c3] 33)) w2.heap.size 33 8 (w2.heap.size + 1) (by simp) (by omega)) _ nb _ rfl (HVD.out.mono (((Below.refl w2.heap.size w2.drew).alloc (by have h := (Below.refl w2.heap.size w2.drew).size; exact h) (.cells #[.int .i64 ck, .int .i64 cv, .int .i64 ce, .int .i64 cc, .int .i64 cn, .int .i64 c1, .int .i64 c2, .int .i64 c3] 33)).alloc (by have h := ((Below.refl w2.heap.size w2.drew).alloc (by have h := (Below.refl w2.heap.size w2.drew).size; exact h) (.cells #[.int .i64 ck, .int .i64 cv, .int .i64 ce, .int .i64 cc, .int .i64 cn, .int .i64 c1, .int .i64 c2, .int .i64 c3] 33)).size; exact h) (.cells #[] 33)) (Nat.le_refl _)) (row_mem fun x _ => ccl_one x) (by have h := HNB.out; unfold maxLen; omega) (by have h := HNB.out; omega) (by have h := (((Below.refl w2.heap.size w2.drew).alloc (by have h := (Below.refl w2.heap.size w2.drew).size; exact h) (.cells #[.int .i64 ck, .int .i64 cv, .int .i64 ce, .int .i64 cc, .int .i64 cn, .int .i64 c1, .int .i64 c2, .int .i64 c3] 33)).alloc (by have h := ((Below.refl w2.heap.size w2.drew).alloc (by have h := (Below.refl w2.heap.size w2.drew).size; exact h) (.cells #[.int .i64 ck, .int .i64 cv, .int .i64 ce, .int .i64 cc, .int .i64 cn, .int .i64 c1, .int .i64 c2, .int .i64 c3] 33)).size; exact h) (.cells #[] 33)).size; exact h) ?_
  intro v6 w6 hown6 hgr6 hat6
  have HO6 := Lib.hid (show w6.ownsRow w2.heap.size 33 8 v6 nb (row ccl L) from by have h := hown6; rw [Nat.zero_add] at h; simpa using h)
  have HB6 := Lib.hid ((((Below.refl w2.heap.size w2.drew).alloc (by have h := (Below.refl w2.heap.size w2.drew).size; exact h) (.cells #[.int .i64 ck, .int .i64 cv, .int .i64 ce, .int .i64 cc, .int .i64 cn, .int .i64 c1, .int .i64 c2, .int .i64 c3] 33)).alloc (by have h := ((Below.refl w2.heap.size w2.drew).alloc (by have h := (Below.refl w2.heap.size w2.drew).size; exact h) (.cells #[.int .i64 ck, .int .i64 cv, .int .i64 ce, .int .i64 cc, .int .i64 cn, .int .i64 c1, .int .i64 c2, .int .i64 c3] 33)).size; exact h) (.cells #[] 33)).grown hgr6 (by have h := (((Below.refl w2.heap.size w2.drew).alloc (by have h := (Below.refl w2.heap.size w2.drew).size; exact h) (.cells #[.int .i64 ck, .int .i64 cv, .int .i64 ce, .int .i64 cc, .int .i64 cn, .int .i64 c1, .int .i64 c2, .int .i64 c3] 33)).alloc (by have h := ((Below.refl w2.heap.size w2.drew).alloc (by have h := (Below.refl w2.heap.size w2.drew).size; exact h) (.cells #[.int .i64 ck, .int .i64 cv, .int .i64 ce, .int .i64 cc, .int .i64 cn, .int .i64 c1, .int .i64 c2, .int .i64 c3] 33)).size; exact h) (.cells #[] 33)).size; exact h) (fun j hj => by have h := ((own_litAt14 (w2.drew.alloc (.cells #[.int .i64 ck, .int .i64 cv, .int .i64 ce, .int .i64 cc, .int .i64 cn, .int .i64 c1, .int .i64 c2, .int .i64 c3] 33)) w2.heap.size 33 8 (w2.heap.size + 1) (by simp) (by omega))).lt j hj; exact h.1))
  have S6 := HS.out _ HB6.out
  refine hK.out _ _ (S6) (fun hHeld => ?_)
  clear hK K
  try simp only [Act.put, List.getElem_toArray, List.getElem_cons_zero, List.getElem_cons_succ, List.setIfInBounds_toArray, List.set_cons_zero, List.set_cons_succ]
  refine AnyE.next (rs := [8]) (by kernel_rfl) (by simp) ?_
  refine AllE.cons rfl (fun K hK => ?_) AllE.nil
  refine step_append_X (by rfl) _ _ 26 rfl w2.heap.size 33 i0 _ 8 64 Try.underlying26 HI0.out HZ0.out HZ1.out HZ2.out rfl (by decide) _ (row ccl L) nb rfl HO6.out _ 1 _ rfl ((((IsX.litAt14 w2.drew #[.int .i64 ck, .int .i64 cv, .int .i64 ce, .int .i64 cc, .int .i64 cn, .int .i64 c1, .int .i64 c2, .int .i64 c3] 33 8 1 w2.heap.size rfl rfl (by decide))).mono (bel_alloc15 _ (.cells #[] 33)) (Nat.le_refl _)).kept ((Kept.refl (fun j => some (w2.heap.size + 1) = some j) _).grown hgr6 (fun k hk => .inl hk)) (fun k hk hs => by have h1 : some w2.heap.size = some k := hk.2; have h2 := Option.some.inj h1; have h3 := Option.some.inj hs; omega)) (fun u hu => ccl_one ⟨ck, cv, ce, cc, cn, c1, c2, c3⟩ u hu) (by have h := HNB.out; unfold maxLen; omega) (by have h := HNB.out; omega) (by have h := HB6.out.size; exact h) ?_
  intro v9 w9 hown9 hgr9 hat9
  have HB9 := Lib.hid (HB6.out.grown hgr9 (by have h := HB6.out.size; exact h) (fun j hj => by have h := (HO6.out).lt j hj; exact h.1))
  have HX9 := Lib.hid (show IsX w9 8 v9 (nb + 1) (row ccl (L ++ [⟨ck, cv, ce, cc, cn, c1, c2, c3⟩])) from IsX.own (by rw [row_append, row_one]; exact hown9))
  have S9 := HS.out _ HB9.out
  clear hown9 hgr9 hat9
  refine hK.out _ _ (S9) (fun hHeld => ?_)
  clear hK K
  try simp only [Act.put, List.getElem_toArray, List.getElem_cons_zero, List.getElem_cons_succ, List.setIfInBounds_toArray, List.set_cons_zero, List.set_cons_succ]
  refine AnyE.next (rs := [9]) (by kernel_rfl) (by simp) ?_
  refine AllE.cons rfl (fun K hK => ?_) AllE.nil
  go_simp
  refine (rwith20_1 xa xb na nb ca cb true true 1 tm st v9 (nb + 1) (L ++ [⟨ck, cv, ce, cc, cn, c1, c2, c3⟩]) w9 HX9.out (by have h := HNB.out; omega)).mono ?_
  rintro e w10 ⟨x, k, rfl, hx10, ho10, hb10⟩
  skip
  have HX10 := Lib.hid hx10
  have HO10 := Lib.hid (show ∀ q, (Value.slice x (nb + 1) k).ownBlock = some q → w2.heap.size ≤ q from fun q e => Nat.le_trans HB9.out.size (ho10 q e))
  have HB10 := Lib.hid (HB9.out.trans (hb10.mono HB9.out.size))
  clear hx10 ho10 hb10
  refine hK.out _ _ (HS.out _ HB10.out) (fun hHeld => ?_)
  clear hK K
  try simp only [Act.put, List.getElem_toArray, List.getElem_cons_zero, List.getElem_cons_succ, List.setIfInBounds_toArray, List.set_cons_zero, List.set_cons_succ]
  refine AnyE.next (rs := [10]) (by kernel_rfl) (by simp) ?_
  refine AllE.last rfl (fun K hK => ?_)
  refine step_store7 rfl 29 Try.sizePr20 _ _ rfl Y 29 (show Blk w10 Y #[.slice xa na ca, .slice xb nb cb, .bool true, .bool true, .int .i64 1, .int .i64 tm, .int .i64 st] 29 from HY2.out.below ((Below.refl w2.heap.size w2).drew.trans HB10.out) HY2.out.lt) rfl rfl ?_
  intro w11 hy11 hk11
  have HY11 := Lib.hid hy11
  have HR11 := Lib.hid ((HR2.out.below ((Below.refl w2.heap.size w2).drew.trans HB10.out) HR2.out.lt).kept hk11 (fun e => HYR.out e.symm))
  have HX11 := Lib.hid (HX10.out.kept hk11 (fun q hq e => by have h1 := HO10.out q hq.2; have h2 := HY2.out.lt; omega))
  have HB11 := Lib.hid ((HB2.out.trans (((Below.refl w2.heap.size w2).drew.trans HB10.out).mono HB2.out.size)).trans (hk11.below (Nat.le_trans HB2.out.size (show w2.heap.size ≤ w10.heap.size from HB10.out.size)) (fun q hq e => by have h1 := HYW.out; omega)))
  clear hy11 hk11
  refine hK.out _ _ ?_
  clear hK K
  try simp only [Act.put, List.getElem_toArray, List.getElem_cons_zero, List.getElem_cons_succ, List.setIfInBounds_toArray, List.set_cons_zero, List.set_cons_succ]
  refine AnyE.done (by kernel_rfl) ?_ _
  have y0 := HY11.out.cell 0 rfl
  have y1 := HY11.out.cell 1 rfl
  have y2 := HY11.out.cell 2 rfl
  have y3 := HY11.out.cell 3 rfl
  have y4 := HY11.out.cell 4 rfl
  have y5 := HY11.out.cell 5 rfl
  have y6 := HY11.out.cell 6 rfl
  go_wp2_with (refine wpList_store7 rfl 29 Try.sizePr20 _ _ rfl R 29 HR11.out rfl rfl ?_)
  intro w15 hr15 hk15
  have HB15 := Lib.hid (HB11.out.trans (hk15.below HB11.out.size (fun q hq e => by have h1 := HRe.out; omega)))
  have HX15 := Lib.hid (HX11.out.kept hk15 (fun q hq e => by have h1 := HO10.out q hq.2; have h2 := HR2.out.lt; omega))
  have HO15 := Lib.hid (show ∀ q, (Value.slice x (nb + 1) k).ownBlock = some q → w.heap.size ≤ q from fun q e => Nat.le_trans HB2.out.size (HO10.out q e))
  have z0 := hr15.cell 0 rfl
  have z1 := hr15.cell 1 rfl
  have z2 := hr15.cell 2 rfl
  have z3 := hr15.cell 3 rfl
  have z4 := hr15.cell 4 rfl
  have z5 := hr15.cell 5 rfl
  have z6 := hr15.cell 6 rfl
  clear hr15 hk15 y0 y1 y2 y3 y4 y5 y6
  go_wp2
  exact bodyPost_ret (v := .tuple #[.agg #[.slice xa na ca, .slice x (nb + 1) k, .bool true, .bool true, .int .i64 1, .int .i64 tm, .int .i64 st], .int .i64 (nb : Int), .int .i64 0]) (by simp [results, Try.results10, go_sem, z0, z1, z2, z3, z4, z5, z6]) rfl ⟨x, k, rfl, HX15.out, HO15.out, HB15.out⟩
set_option maxRecDepth 100000 in
set_option maxHeartbeats 8000000 in
theorem ask_ok1d (xa xb : Option Addr) (na nb ca cb : Nat) (L : List Cm) (tm st sd ck cv ce cc cn c1 c2 c3 : Int) (w : World) (hv : IsX w 8 (.slice xb nb cb) nb (row ccl L)) (hn : nb ≤ 1000) :
    Calls Try.prog 10 #[.agg #[.slice xa na ca, .slice xb nb cb, .bool false, .bool true, .int .i64 1, .int .i64 tm, .int .i64 st], .agg #[.int .i64 0, .int .i64 tm, .int .i64 sd, .int .i64 ck, .int .i64 cv, .int .i64 ce, .int .i64 cc, .int .i64 cn, .int .i64 c1, .int .i64 c2, .int .i64 c3]] w fun e w' => ∃ x k, e = .returned (.tuple #[.agg #[.slice xa na ca, .slice x (nb + 1) k, .bool false, .bool true, .int .i64 1, .int .i64 tm, .int .i64 (if st < (nb : Int) + 1 then (nb : Int) + 1 else st)], .int .i64 (nb : Int), .int .i64 0]) ∧ IsX w' 8 (.slice x (nb + 1) k) (nb + 1) (row ccl (L ++ [⟨ck, cv, ce, cc, cn, c1, c2, c3⟩])) ∧ (∀ q, (Value.slice x (nb + 1) k).ownBlock = some q → w.heap.size ≤ q) ∧ Below w.heap.size w w' := by
  obtain ⟨i0, hi0, hz0, hz1, hz2⟩ := info_parts Try.infoCmdR19
  have HI0 := Lib.hid hi0
  have HZ0 := Lib.hid hz0
  have HZ1 := Lib.hid hz1
  have HZ2 := Lib.hid hz2
  have hlen := fun W => len_X (P := Try.prog) hv 26 3 33 Try.underlying26 W
  have hww : wrap64 ((nb : Int) + 1) = (nb : Int) + 1 := IntWalk.wrap64_in _ (by omega)
  have HV := Lib.hid hv
  have HNB := Lib.hid hn
  clear hv hn hi0 hz0 hz1 hz2
  obtain ⟨ST, hST⟩ : ∃ z, (if st < (nb : Int) + 1 then (nb : Int) + 1 else st) = z := ⟨_, rfl⟩
  rw [hST]
  have HST := Lib.hid hST
  clear hST
  have hY := ((Blk.new w #[.slice xa na ca, .slice xb nb cb, .bool false, .bool true, .int .i64 1, .int .i64 tm, .int .i64 st] 29).alloc (.cells #[.int .i64 0, .int .i64 tm, .int .i64 sd, .int .i64 ck, .int .i64 cv, .int .i64 ce, .int .i64 cc, .int .i64 cn, .int .i64 c1, .int .i64 c2, .int .i64 c3] 35)).alloc (.cells #[.slice none 0 0, .slice none 0 0, .bool false, .bool false, .int .i64 0, .int .i64 0, .int .i64 0] 29)
  have hA := (Blk.new (w.alloc (.cells #[.slice xa na ca, .slice xb nb cb, .bool false, .bool true, .int .i64 1, .int .i64 tm, .int .i64 st] 29)) #[.int .i64 0, .int .i64 tm, .int .i64 sd, .int .i64 ck, .int .i64 cv, .int .i64 ce, .int .i64 cc, .int .i64 cn, .int .i64 c1, .int .i64 c2, .int .i64 c3] 35).alloc (.cells #[.slice none 0 0, .slice none 0 0, .bool false, .bool false, .int .i64 0, .int .i64 0, .int .i64 0] 29)
  have hR := Blk.new ((w.alloc (.cells #[.slice xa na ca, .slice xb nb cb, .bool false, .bool true, .int .i64 1, .int .i64 tm, .int .i64 st] 29)).alloc (.cells #[.int .i64 0, .int .i64 tm, .int .i64 sd, .int .i64 ck, .int .i64 cv, .int .i64 ce, .int .i64 cc, .int .i64 cn, .int .i64 c1, .int .i64 c2, .int .i64 c3] 35)) #[.slice none 0 0, .slice none 0 0, .bool false, .bool false, .int .i64 0, .int .i64 0, .int .i64 0] 29
  have hB := (((Below.refl w.heap.size w).alloc (Nat.le_refl _) (.cells #[.slice xa na ca, .slice xb nb cb, .bool false, .bool true, .int .i64 1, .int .i64 tm, .int .i64 st] 29)).alloc (by simp) (.cells #[.int .i64 0, .int .i64 tm, .int .i64 sd, .int .i64 ck, .int .i64 cv, .int .i64 ce, .int .i64 cc, .int .i64 cn, .int .i64 c1, .int .i64 c2, .int .i64 c3] 35)).alloc (by simp; omega) (.cells #[.slice none 0 0, .slice none 0 0, .bool false, .bool false, .int .i64 0, .int .i64 0, .int .i64 0] 29)
  obtain ⟨w0, hW⟩ : ∃ z, ((w.alloc (.cells #[.slice xa na ca, .slice xb nb cb, .bool false, .bool true, .int .i64 1, .int .i64 tm, .int .i64 st] 29)).alloc (.cells #[.int .i64 0, .int .i64 tm, .int .i64 sd, .int .i64 ck, .int .i64 cv, .int .i64 ce, .int .i64 cc, .int .i64 cn, .int .i64 c1, .int .i64 c2, .int .i64 c3] 35)).alloc (.cells #[.slice none 0 0, .slice none 0 0, .bool false, .bool false, .int .i64 0, .int .i64 0, .int .i64 0] 29) = z := ⟨_, rfl⟩
  rw [hW] at hY hA hR hB
  obtain ⟨Y, hYe⟩ : ∃ z, w.heap.size = z := ⟨_, rfl⟩
  obtain ⟨X, hXe⟩ : ∃ z, (w.alloc (.cells #[.slice xa na ca, .slice xb nb cb, .bool false, .bool true, .int .i64 1, .int .i64 tm, .int .i64 st] 29)).heap.size = z := ⟨_, rfl⟩
  obtain ⟨R, hRe⟩ : ∃ z, ((w.alloc (.cells #[.slice xa na ca, .slice xb nb cb, .bool false, .bool true, .int .i64 1, .int .i64 tm, .int .i64 st] 29)).alloc (.cells #[.int .i64 0, .int .i64 tm, .int .i64 sd, .int .i64 ck, .int .i64 cv, .int .i64 ce, .int .i64 cc, .int .i64 cn, .int .i64 c1, .int .i64 c2, .int .i64 c3] 35)).heap.size = z := ⟨_, rfl⟩
  rw [hYe] at hY
  rw [hXe] at hA
  rw [hRe] at hR
  have hX1 : w.heap.size + 1 = X := by rw [← hXe]; simp
  have hR1 : w.heap.size + 1 + 1 = R := by rw [← hRe]; simp
  have HW := Lib.hid hW
  have HYe := Lib.hid hYe
  have HXe := Lib.hid hX1
  have HRe := Lib.hid hR1
  have HY := Lib.hid hY
  have HA := Lib.hid hA
  have HR := Lib.hid hR
  have HB := Lib.hid hB
  clear hW hYe hXe hRe hX1 hR1 hA hR hB
  have y4 := hY.cell 4 rfl
  clear hY
  go_enter Try.func10, Try.ntmps10
  go_upto_region 1 with fail
  rw [HW.out]
  try rw [HRe.out]
  try rw [HXe.out]
  try rw [HYe.out]
  go_region
  go_upto_region 2 with fail
  clear y4
  have HS := Lib.hid (fun (wx : World) (hb : Below w0.heap.size w0 wx) => show wx.cell? ⟨Y, 0, none⟩ = some (.slice xa na ca) ∧ wx.cell? ⟨Y, 1, none⟩ = some (.slice xb nb cb) ∧ wx.cell? ⟨Y, 2, none⟩ = some (.bool false) ∧ wx.cell? ⟨Y, 3, none⟩ = some (.bool true) ∧ wx.cell? ⟨Y, 4, none⟩ = some (.int .i64 1) ∧ wx.cell? ⟨Y, 5, none⟩ = some (.int .i64 tm) ∧ wx.cell? ⟨Y, 6, none⟩ = some (.int .i64 st) from
    have h := HY.out.below hb HY.out.lt
    ⟨h.cell 0 rfl, h.cell 1 rfl, h.cell 2 rfl, h.cell 3 rfl, h.cell 4 rfl, h.cell 5 rfl, h.cell 6 rfl⟩)
  have S0 := HS.out w0.drew.drew (Below.refl w0.heap.size w0).drew.drew
  refine AnyE.start (S := (fun wx => wx.cell? ⟨Y, 0, none⟩ = some (.slice xa na ca) ∧ wx.cell? ⟨Y, 1, none⟩ = some (.slice xb nb cb) ∧ wx.cell? ⟨Y, 2, none⟩ = some (.bool false) ∧ wx.cell? ⟨Y, 3, none⟩ = some (.bool true) ∧ wx.cell? ⟨Y, 4, none⟩ = some (.int .i64 1) ∧ wx.cell? ⟨Y, 5, none⟩ = some (.int .i64 tm) ∧ wx.cell? ⟨Y, 6, none⟩ = some (.int .i64 st))) 7 (by kernel_rfl) (S0) (fun hHeld => ?_)
  refine AnyE.take (i := 0) (v := ?_) rfl (by kernel_rfl) (by kernel_rfl) (by kernel_rfl) (by kernel_rfl) (fun _ _ _ h => h) (Or.inl ⟨by rfl, ?_⟩) (by assumption) ?_
  rotate_left 1
  · intro w hSw
    (try dsimp only at hSw)
    go_simp
    all_goals (with_reducible rfl)
  try simp only [Act.put, List.getElem_toArray, List.getElem_cons_zero, List.getElem_cons_succ, List.setIfInBounds_toArray, List.set_cons_zero, List.set_cons_succ]
  refine AnyE.take (i := 1) (v := ?_) rfl (by kernel_rfl) (by kernel_rfl) (by kernel_rfl) (by kernel_rfl) (fun _ _ _ h => h) (Or.inl ⟨by rfl, ?_⟩) (by assumption) ?_
  rotate_left 1
  · intro w hSw
    (try dsimp only at hSw)
    go_simp
    all_goals (with_reducible rfl)
  try simp only [Act.put, List.getElem_toArray, List.getElem_cons_zero, List.getElem_cons_succ, List.setIfInBounds_toArray, List.set_cons_zero, List.set_cons_succ]
  refine AnyE.take (i := 3) (v := ?_) rfl (by kernel_rfl) (by kernel_rfl) (by kernel_rfl) (by kernel_rfl) (fun _ _ _ h => h) (Or.inl ⟨by rfl, ?_⟩) (by assumption) ?_
  rotate_left 1
  · intro w hSw
    (try dsimp only at hSw)
    go_simp
    all_goals (with_reducible rfl)
  try simp only [Act.put, List.getElem_toArray, List.getElem_cons_zero, List.getElem_cons_succ, List.setIfInBounds_toArray, List.set_cons_zero, List.set_cons_succ]
  refine AnyE.take (i := 4) (v := ?_) rfl (by kernel_rfl) (by kernel_rfl) (by kernel_rfl) (by kernel_rfl) (fun _ _ _ h => h) (Or.inl ⟨by rfl, ?_⟩) (by assumption) ?_
  rotate_left 1
  · intro w hSw
    (try dsimp only at hSw)
    go_simp
    all_goals (with_reducible rfl)
  try simp only [Act.put, List.getElem_toArray, List.getElem_cons_zero, List.getElem_cons_succ, List.setIfInBounds_toArray, List.set_cons_zero, List.set_cons_succ]
  refine AnyE.next (rs := [2]) (by kernel_rfl) (by simp) ?_
  refine AllE.cons rfl (fun K hK => ?_) AllE.nil
  go_simp
  refine (rlog20 xa xb na nb ca cb false true 1 tm st 1 _).mono ?_
  rintro e w1 ⟨rfl, hb1⟩
  refine hK.out _ _ (HS.out _ ((Below.refl w0.heap.size w0).drew.drew.trans (hb1.mono (Nat.le_refl _)))) (fun hHeld => ?_)
  clear hK K
  try simp only [Act.put, List.getElem_toArray, List.getElem_cons_zero, List.getElem_cons_succ, List.setIfInBounds_toArray, List.set_cons_zero, List.set_cons_succ]
  refine AnyE.next (rs := [5]) (by kernel_rfl) (by simp) ?_
  refine AllE.cons rfl (fun K hK => ?_) AllE.nil
  go_simp
  refine (rlog20 xa xb na nb ca cb false true 1 tm st 0 _).mono ?_
  rintro e w2 ⟨rfl, hb2⟩
  refine hK.out _ _ (HS.out _ (((Below.refl w0.heap.size w0).drew.drew.trans (hb1.mono (Nat.le_refl _))).trans (hb2.mono hb1.size))) (fun hHeld => ?_)
  clear hK K
  try simp only [Act.put, List.getElem_toArray, List.getElem_cons_zero, List.getElem_cons_succ, List.setIfInBounds_toArray, List.set_cons_zero, List.set_cons_succ]
  refine AnyE.next (rs := [6]) (by kernel_rfl) (by simp) ?_
  refine AllE.cons rfl (fun K hK => ?_) AllE.nil
  go_simp
  refine hK.out _ _ (HS.out _ (((Below.refl w0.heap.size w0).drew.drew.trans (hb1.mono (Nat.le_refl _))).trans (hb2.mono hb1.size))) (fun hHeld => ?_)
  clear hK K
  try simp only [Act.put, List.getElem_toArray, List.getElem_cons_zero, List.getElem_cons_succ, List.setIfInBounds_toArray, List.set_cons_zero, List.set_cons_succ]
  refine AnyE.next (rs := [7]) (by kernel_rfl) (by simp) ?_
  refine AllE.last rfl (fun K hK => ?_)
  go_simp
  refine hK.out _ _ ?_
  clear hK K
  try simp only [Act.put, List.getElem_toArray, List.getElem_cons_zero, List.getElem_cons_succ, List.setIfInBounds_toArray, List.set_cons_zero, List.set_cons_succ]
  refine AnyE.done (by kernel_rfl) ?_ _
  have hb20 := ((Below.refl w0.heap.size w0).drew.drew.trans (hb1.mono (Nat.le_refl _))).trans (hb2.mono hb1.size)
  have HY2 := Lib.hid (HY.out.below hb20 HY.out.lt)
  have HA2 := Lib.hid (HA.out.below hb20 HA.out.lt)
  have HR2 := Lib.hid (HR.out.below hb20 HR.out.lt)
  have HB2 := Lib.hid (HB.out.trans (hb20.mono HB.out.size))
  clear hb1 hb2 hb20 S0
  clear hHeld
  have y0 := HY2.out.cell 0 rfl
  have y1 := HY2.out.cell 1 rfl
  have y2 := HY2.out.cell 2 rfl
  have y3 := HY2.out.cell 3 rfl
  have y4 := HY2.out.cell 4 rfl
  have y5 := HY2.out.cell 5 rfl
  have y6 := HY2.out.cell 6 rfl
  have a0 := HA2.out.cell 0 rfl
  have a1 := HA2.out.cell 1 rfl
  have a2 := HA2.out.cell 2 rfl
  have HYX := Lib.hid (show Y ≠ X from by have h1 := HXe.out; have h2 := HYe.out; omega)
  have HYR := Lib.hid (show Y ≠ R from by have h1 := HRe.out; have h2 := HYe.out; omega)
  have HYW := Lib.hid (show w.heap.size ≤ Y from by have h2 := HYe.out; omega)
  go_upto_region 9 with fail
  have HS := Lib.hid (fun (wx : World) (hb : Below w2.heap.size w2.drew wx) => show wx.cell? ⟨Y, 0, none⟩ = some (.slice xa na ca) ∧ wx.cell? ⟨Y, 1, none⟩ = some (.slice xb nb cb) ∧ wx.cell? ⟨Y, 2, none⟩ = some (.bool false) ∧ wx.cell? ⟨Y, 3, none⟩ = some (.bool true) ∧ wx.cell? ⟨Y, 4, none⟩ = some (.int .i64 1) ∧ wx.cell? ⟨Y, 5, none⟩ = some (.int .i64 tm) ∧ wx.cell? ⟨Y, 6, none⟩ = some (.int .i64 st) ∧ wx.cell? ⟨X, 0, none⟩ = some (.int .i64 0) ∧ wx.cell? ⟨X, 1, none⟩ = some (.int .i64 tm) ∧ wx.cell? ⟨X, 2, none⟩ = some (.int .i64 sd) ∧ wx.cell? ⟨X, 3, none⟩ = some (.int .i64 ck) ∧ wx.cell? ⟨X, 4, none⟩ = some (.int .i64 cv) ∧ wx.cell? ⟨X, 5, none⟩ = some (.int .i64 ce) ∧ wx.cell? ⟨X, 6, none⟩ = some (.int .i64 cc) ∧ wx.cell? ⟨X, 7, none⟩ = some (.int .i64 cn) ∧ wx.cell? ⟨X, 8, none⟩ = some (.int .i64 c1) ∧ wx.cell? ⟨X, 9, none⟩ = some (.int .i64 c2) ∧ wx.cell? ⟨X, 10, none⟩ = some (.int .i64 c3) from
    have h := HY2.out.below ((Below.refl w2.heap.size w2).drew.trans hb) HY2.out.lt
    have g := HA2.out.below ((Below.refl w2.heap.size w2).drew.trans hb) HA2.out.lt
    ⟨h.cell 0 rfl, h.cell 1 rfl, h.cell 2 rfl, h.cell 3 rfl, h.cell 4 rfl, h.cell 5 rfl, h.cell 6 rfl, g.cell 0 rfl, g.cell 1 rfl, g.cell 2 rfl, g.cell 3 rfl, g.cell 4 rfl, g.cell 5 rfl, g.cell 6 rfl, g.cell 7 rfl, g.cell 8 rfl, g.cell 9 rfl, g.cell 10 rfl⟩)
  have S0 := HS.out w2.drew (Below.refl _ _)
  have HVD := Lib.hid (show IsX w2.drew 8 (.slice xb nb cb) nb (row ccl L) from HV.out.mono HB2.out.drew (Nat.le_refl _))
  clear y0 y1 y2 y3 y4 y5 y6 a0 a1 a2
  refine AnyE.start (S := (fun wx => wx.cell? ⟨Y, 0, none⟩ = some (.slice xa na ca) ∧ wx.cell? ⟨Y, 1, none⟩ = some (.slice xb nb cb) ∧ wx.cell? ⟨Y, 2, none⟩ = some (.bool false) ∧ wx.cell? ⟨Y, 3, none⟩ = some (.bool true) ∧ wx.cell? ⟨Y, 4, none⟩ = some (.int .i64 1) ∧ wx.cell? ⟨Y, 5, none⟩ = some (.int .i64 tm) ∧ wx.cell? ⟨Y, 6, none⟩ = some (.int .i64 st) ∧ wx.cell? ⟨X, 0, none⟩ = some (.int .i64 0) ∧ wx.cell? ⟨X, 1, none⟩ = some (.int .i64 tm) ∧ wx.cell? ⟨X, 2, none⟩ = some (.int .i64 sd) ∧ wx.cell? ⟨X, 3, none⟩ = some (.int .i64 ck) ∧ wx.cell? ⟨X, 4, none⟩ = some (.int .i64 cv) ∧ wx.cell? ⟨X, 5, none⟩ = some (.int .i64 ce) ∧ wx.cell? ⟨X, 6, none⟩ = some (.int .i64 cc) ∧ wx.cell? ⟨X, 7, none⟩ = some (.int .i64 cn) ∧ wx.cell? ⟨X, 8, none⟩ = some (.int .i64 c1) ∧ wx.cell? ⟨X, 9, none⟩ = some (.int .i64 c2) ∧ wx.cell? ⟨X, 10, none⟩ = some (.int .i64 c3))) 10 (by kernel_rfl) (S0) (fun hHeld => ?_)
  refine AnyE.take (i := 0) (v := ?_) rfl (by kernel_rfl) (by kernel_rfl) (by kernel_rfl) (by kernel_rfl) (fun _ _ _ h => h) (Or.inl ⟨by rfl, ?_⟩) (by assumption) ?_
  rotate_left 1
  · intro w hSw
    (try dsimp only at hSw)
    go_simp
    all_goals (with_reducible rfl)
  try simp only [Act.put, List.getElem_toArray, List.getElem_cons_zero, List.getElem_cons_succ, List.setIfInBounds_toArray, List.set_cons_zero, List.set_cons_succ]
  refine AnyE.take (i := 1) (v := ?_) rfl (by kernel_rfl) (by kernel_rfl) (by kernel_rfl) (by kernel_rfl) (fun _ _ _ h => h) (Or.inl ⟨by rfl, ?_⟩) (by assumption) ?_
  rotate_left 1
  · intro w hSw
    (try dsimp only at hSw)
    go_simp
    all_goals (with_reducible rfl)
  try simp only [Act.put, List.getElem_toArray, List.getElem_cons_zero, List.getElem_cons_succ, List.setIfInBounds_toArray, List.set_cons_zero, List.set_cons_succ]
  refine AnyE.take (i := 3) (v := ?_) rfl (by kernel_rfl) (by kernel_rfl) (by kernel_rfl) (by kernel_rfl) (fun _ _ _ h => h) (Or.inl ⟨by rfl, ?_⟩) (by assumption) ?_
  rotate_left 1
  · intro w hSw
    (try dsimp only at hSw)
    go_simp
    all_goals (with_reducible rfl)
  try simp only [Act.put, List.getElem_toArray, List.getElem_cons_zero, List.getElem_cons_succ, List.setIfInBounds_toArray, List.set_cons_zero, List.set_cons_succ]
  refine AnyE.take (i := 5) (v := ?_) rfl (by kernel_rfl) (by kernel_rfl) (by kernel_rfl) (by kernel_rfl) (fun _ _ _ h => h) (Or.inl ⟨by rfl, ?_⟩) (by assumption) ?_
  rotate_left 1
  · intro w hSw
    (try dsimp only at hSw)
    go_simp
    all_goals (with_reducible rfl)
  try simp only [Act.put, List.getElem_toArray, List.getElem_cons_zero, List.getElem_cons_succ, List.setIfInBounds_toArray, List.set_cons_zero, List.set_cons_succ]
  refine AnyE.take (i := 6) (v := ?_) rfl (by kernel_rfl) (by kernel_rfl) (by kernel_rfl) (by kernel_rfl) (fun _ _ _ h => h) (Or.inl ⟨by rfl, ?_⟩) (by assumption) ?_
  rotate_left 1
  · intro w hSw
    (try dsimp only at hSw)
    go_simp
    all_goals (with_reducible rfl)
  try simp only [Act.put, List.getElem_toArray, List.getElem_cons_zero, List.getElem_cons_succ, List.setIfInBounds_toArray, List.set_cons_zero, List.set_cons_succ]
  refine AnyE.next (rs := [2, 7]) (by kernel_rfl) (by simp) ?_
  refine AllE.cons rfl (fun K hK => ?_) ?_
  · go_simp
    refine hK.out _ _ (HS.out _ ((Below.refl w2.heap.size w2.drew).alloc (by have h := (Below.refl w2.heap.size w2.drew).size; exact h) (.cells #[] 33))) (fun hHeld => ?_)
    clear hK K
    try simp only [Act.put, List.getElem_toArray, List.getElem_cons_zero, List.getElem_cons_succ, List.setIfInBounds_toArray, List.set_cons_zero, List.set_cons_succ]
    refine AnyE.next (rs := [4, 7]) (by kernel_rfl) (by simp) ?_
    refine AllE.cons rfl (fun K hK => ?_) ?_
    · refine step_append_X (by rfl) _ _ 26 rfl w2.heap.size 33 i0 _ 8 64 Try.underlying26 HI0.out HZ0.out HZ1.out HZ2.out rfl (by decide) _ [] 0 rfl (own_litAt14 w2.drew w2.heap.size 33 8 w2.heap.size rfl (Nat.le_refl _)) _ nb _ rfl (HVD.out.mono ((Below.refl w2.heap.size w2.drew).alloc (by have h := (Below.refl w2.heap.size w2.drew).size; exact h) (.cells #[] 33)) (Nat.le_refl _)) (row_mem fun x _ => ccl_one x) (by have h := HNB.out; unfold maxLen; omega) (by have h := HNB.out; omega) (by have h := ((Below.refl w2.heap.size w2.drew).alloc (by have h := (Below.refl w2.heap.size w2.drew).size; exact h) (.cells #[] 33)).size; exact h) ?_
      intro v6 w6 hown6 hgr6 hat6
      have HO6 := Lib.hid (show w6.ownsRow w2.heap.size 33 8 v6 nb (row ccl L) from by have h := hown6; rw [Nat.zero_add] at h; simpa using h)
      have HB6 := Lib.hid (((Below.refl w2.heap.size w2.drew).alloc (by have h := (Below.refl w2.heap.size w2.drew).size; exact h) (.cells #[] 33)).grown hgr6 (by have h := ((Below.refl w2.heap.size w2.drew).alloc (by have h := (Below.refl w2.heap.size w2.drew).size; exact h) (.cells #[] 33)).size; exact h) (fun j hj => by have h := ((own_litAt14 w2.drew w2.heap.size 33 8 w2.heap.size rfl (Nat.le_refl _))).lt j hj; exact h.1))
      have S6 := HS.out _ HB6.out
      refine hK.out _ _ (S6) (fun hHeld => ?_)
      clear hK K
      try simp only [Act.put, List.getElem_toArray, List.getElem_cons_zero, List.getElem_cons_succ, List.setIfInBounds_toArray, List.set_cons_zero, List.set_cons_succ]
      refine AnyE.next (rs := [7]) (by kernel_rfl) (by simp) ?_
      refine AllE.cons rfl (fun K hK => ?_) AllE.nil
      go_simp
      refine hK.out _ _ (HS.out _ (HB6.out.alloc HB6.out.size (.cells #[.int .i64 ck, .int .i64 cv, .int .i64 ce, .int .i64 cc, .int .i64 cn, .int .i64 c1, .int .i64 c2, .int .i64 c3] 33))) (fun hHeld => ?_)
      clear hK K
      try simp only [Act.put, List.getElem_toArray, List.getElem_cons_zero, List.getElem_cons_succ, List.setIfInBounds_toArray, List.set_cons_zero, List.set_cons_succ]
      refine AnyE.next (rs := [8]) (by kernel_rfl) (by simp) ?_
      refine AllE.cons rfl (fun K hK => ?_) AllE.nil
      refine step_append_X (by rfl) _ _ 26 rfl w2.heap.size 33 i0 _ 8 64 Try.underlying26 HI0.out HZ0.out HZ1.out HZ2.out rfl (by decide) _ (row ccl L) nb rfl (HO6.out.alloc (.cells #[.int .i64 ck, .int .i64 cv, .int .i64 ce, .int .i64 cc, .int .i64 cn, .int .i64 c1, .int .i64 c2, .int .i64 c3] 33)) _ 1 _ rfl (IsX.litAt14 w6 #[.int .i64 ck, .int .i64 cv, .int .i64 ce, .int .i64 cc, .int .i64 cn, .int .i64 c1, .int .i64 c2, .int .i64 c3] 33 8 1 w6.heap.size rfl rfl (by decide)) (fun u hu => ccl_one ⟨ck, cv, ce, cc, cn, c1, c2, c3⟩ u hu) (by have h := HNB.out; unfold maxLen; omega) (by have h := HNB.out; omega) (by have h := (HB6.out.alloc HB6.out.size (.cells #[.int .i64 ck, .int .i64 cv, .int .i64 ce, .int .i64 cc, .int .i64 cn, .int .i64 c1, .int .i64 c2, .int .i64 c3] 33)).size; exact h) ?_
      intro v9 w9 hown9 hgr9 hat9
      have HB9 := Lib.hid ((HB6.out.alloc HB6.out.size (.cells #[.int .i64 ck, .int .i64 cv, .int .i64 ce, .int .i64 cc, .int .i64 cn, .int .i64 c1, .int .i64 c2, .int .i64 c3] 33)).grown hgr9 (by have h := (HB6.out.alloc HB6.out.size (.cells #[.int .i64 ck, .int .i64 cv, .int .i64 ce, .int .i64 cc, .int .i64 cn, .int .i64 c1, .int .i64 c2, .int .i64 c3] 33)).size; exact h) (fun j hj => by have h := ((HO6.out.alloc (.cells #[.int .i64 ck, .int .i64 cv, .int .i64 ce, .int .i64 cc, .int .i64 cn, .int .i64 c1, .int .i64 c2, .int .i64 c3] 33))).lt j hj; exact h.1))
      have HX9 := Lib.hid (show IsX w9 8 v9 (nb + 1) (row ccl (L ++ [⟨ck, cv, ce, cc, cn, c1, c2, c3⟩])) from IsX.own (by rw [row_append, row_one]; exact hown9))
      have S9 := HS.out _ HB9.out
      clear hown9 hgr9 hat9
      refine hK.out _ _ (S9) (fun hHeld => ?_)
      clear hK K
      try simp only [Act.put, List.getElem_toArray, List.getElem_cons_zero, List.getElem_cons_succ, List.setIfInBounds_toArray, List.set_cons_zero, List.set_cons_succ]
      refine AnyE.next (rs := [9]) (by kernel_rfl) (by simp) ?_
      refine AllE.cons rfl (fun K hK => ?_) AllE.nil
      go_simp
      refine (rwith20_1 xa xb na nb ca cb false true 1 tm st v9 (nb + 1) (L ++ [⟨ck, cv, ce, cc, cn, c1, c2, c3⟩]) w9 HX9.out (by have h := HNB.out; omega)).mono ?_
      rintro e w10 ⟨x, k, rfl, hx10, ho10, hb10⟩
      skip
      have HX10 := Lib.hid hx10
      have HO10 := Lib.hid (show ∀ q, (Value.slice x (nb + 1) k).ownBlock = some q → w2.heap.size ≤ q from fun q e => Nat.le_trans HB9.out.size (ho10 q e))
      have HB10 := Lib.hid (HB9.out.trans (hb10.mono HB9.out.size))
      clear hx10 ho10 hb10
      refine hK.out _ _ (HS.out _ HB10.out) (fun hHeld => ?_)
      clear hK K
      try simp only [Act.put, List.getElem_toArray, List.getElem_cons_zero, List.getElem_cons_succ, List.setIfInBounds_toArray, List.set_cons_zero, List.set_cons_succ]
      refine AnyE.next (rs := [10]) (by kernel_rfl) (by simp) ?_
      refine AllE.last rfl (fun K hK => ?_)
      refine step_store7 rfl 29 Try.sizePr20 _ _ rfl Y 29 (show Blk w10 Y #[.slice xa na ca, .slice xb nb cb, .bool false, .bool true, .int .i64 1, .int .i64 tm, .int .i64 st] 29 from HY2.out.below ((Below.refl w2.heap.size w2).drew.trans HB10.out) HY2.out.lt) rfl rfl ?_
      intro w11 hy11 hk11
      have HY11 := Lib.hid hy11
      have HR11 := Lib.hid ((HR2.out.below ((Below.refl w2.heap.size w2).drew.trans HB10.out) HR2.out.lt).kept hk11 (fun e => HYR.out e.symm))
      have HX11 := Lib.hid (HX10.out.kept hk11 (fun q hq e => by have h1 := HO10.out q hq.2; have h2 := HY2.out.lt; omega))
      have HB11 := Lib.hid ((HB2.out.trans (((Below.refl w2.heap.size w2).drew.trans HB10.out).mono HB2.out.size)).trans (hk11.below (Nat.le_trans HB2.out.size (show w2.heap.size ≤ w10.heap.size from HB10.out.size)) (fun q hq e => by have h1 := HYW.out; omega)))
      clear hy11 hk11
      refine hK.out _ _ ?_
      clear hK K
      try simp only [Act.put, List.getElem_toArray, List.getElem_cons_zero, List.getElem_cons_succ, List.setIfInBounds_toArray, List.set_cons_zero, List.set_cons_succ]
      refine AnyE.done (by kernel_rfl) ?_ _
      have y0 := HY11.out.cell 0 rfl
      have y1 := HY11.out.cell 1 rfl
      have y2 := HY11.out.cell 2 rfl
      have y3 := HY11.out.cell 3 rfl
      have y4 := HY11.out.cell 4 rfl
      have y5 := HY11.out.cell 5 rfl
      have y6 := HY11.out.cell 6 rfl
      go_upto_region 11 with fail
      go_wp2_with fail
      refine (rsettle20 xa x na (nb + 1) ca k false true 1 tm st ((nb : Int) + 1) _).mono ?_
      rintro e w12 ⟨rfl, hb12⟩
      rw [HST.out]
      unfold pcl
      have HY12 := Lib.hid (HY11.out.below hb12 HY11.out.lt)
      have HR12 := Lib.hid (HR11.out.below hb12 HR11.out.lt)
      have HX12 := Lib.hid (HX11.out.mono hb12 (Nat.le_refl _))
      have HB12 := Lib.hid (HB11.out.trans (hb12.mono HB11.out.size))
      clear hb12 y0 y1 y2 y3 y4 y5 y6
      go_wp2_with (refine wpList_store7 rfl 29 Try.sizePr20 _ _ rfl Y 29 HY12.out rfl rfl ?_)
      intro w13 hy13 hk13
      have HR13 := Lib.hid (HR12.out.kept hk13 (fun e => HYR.out e.symm))
      have HX13 := Lib.hid (HX12.out.kept hk13 (fun q hq e => by have h1 := HO10.out q hq.2; have h2 := HY2.out.lt; omega))
      have HB13 := Lib.hid (HB12.out.trans (hk13.below HB12.out.size (fun q hq e => by have h1 := HYW.out; omega)))
      have y0 := hy13.cell 0 rfl
      have y1 := hy13.cell 1 rfl
      have y2 := hy13.cell 2 rfl
      have y3 := hy13.cell 3 rfl
      have y4 := hy13.cell 4 rfl
      have y5 := hy13.cell 5 rfl
      have y6 := hy13.cell 6 rfl
      clear hy13 hk13
      go_wp2_with (refine wpList_store7 rfl 29 Try.sizePr20 _ _ rfl R 29 HR13.out rfl rfl ?_)
      intro w15 hr15 hk15
      have HB15 := Lib.hid (HB13.out.trans (hk15.below HB13.out.size (fun q hq e => by have h1 := HRe.out; omega)))
      have HX15 := Lib.hid (HX13.out.kept hk15 (fun q hq e => by have h1 := HO10.out q hq.2; have h2 := HR2.out.lt; omega))
      have HO15 := Lib.hid (show ∀ q, (Value.slice x (nb + 1) k).ownBlock = some q → w.heap.size ≤ q from fun q e => Nat.le_trans HB2.out.size (HO10.out q e))
      have z0 := hr15.cell 0 rfl
      have z1 := hr15.cell 1 rfl
      have z2 := hr15.cell 2 rfl
      have z3 := hr15.cell 3 rfl
      have z4 := hr15.cell 4 rfl
      have z5 := hr15.cell 5 rfl
      have z6 := hr15.cell 6 rfl
      clear hr15 hk15 y0 y1 y2 y3 y4 y5 y6
      go_wp2
      exact bodyPost_ret (v := .tuple #[.agg #[.slice xa na ca, .slice x (nb + 1) k, .bool false, .bool true, .int .i64 1, .int .i64 tm, .int .i64 ST], .int .i64 (nb : Int), .int .i64 0]) (by simp [results, Try.results10, go_sem, z0, z1, z2, z3, z4, z5, z6]) rfl ⟨x, k, rfl, HX15.out, HO15.out, HB15.out⟩
    refine AllE.cons rfl (fun K hK => ?_) AllE.nil
    go_simp
    refine hK.out _ _ (HS.out _ (((Below.refl w2.heap.size w2.drew).alloc (by have h := (Below.refl w2.heap.size w2.drew).size; exact h) (.cells #[] 33)).alloc (by have h := ((Below.refl w2.heap.size w2.drew).alloc (by have h := (Below.refl w2.heap.size w2.drew).size; exact h) (.cells #[] 33)).size; exact h) (.cells #[.int .i64 ck, .int .i64 cv, .int .i64 ce, .int .i64 cc, .int .i64 cn, .int .i64 c1, .int .i64 c2, .int .i64 c3] 33))) (fun hHeld => ?_)
    clear hK K
    try simp only [Act.put, List.getElem_toArray, List.getElem_cons_zero, List.getElem_cons_succ, List.setIfInBounds_toArray, List.set_cons_zero, List.set_cons_succ]
    refine AnyE.next (rs := [4]) (by kernel_rfl) (by simp) ?_
    refine AllE.cons rfl (fun K hK => ?_) AllE.nil
    refine step_append_X (by rfl) _ _ 26 rfl w2.heap.size 33 i0 _ 8 64 Try.underlying26 HI0.out HZ0.out HZ1.out HZ2.out rfl (by decide) _ [] 0 rfl ((own_litAt14 w2.drew w2.heap.size 33 8 w2.heap.size rfl (Nat.le_refl _)).alloc (.cells #[.int .i64 ck, .int .i64 cv, .int .i64 ce, .int .i64 cc, .int .i64 cn, .int .i64 c1, .int .i64 c2, .int .i64 c3] 33)) _ nb _ rfl (HVD.out.mono (((Below.refl w2.heap.size w2.drew).alloc (by have h := (Below.refl w2.heap.size w2.drew).size; exact h) (.cells #[] 33)).alloc (by have h := ((Below.refl w2.heap.size w2.drew).alloc (by have h := (Below.refl w2.heap.size w2.drew).size; exact h) (.cells #[] 33)).size; exact h) (.cells #[.int .i64 ck, .int .i64 cv, .int .i64 ce, .int .i64 cc, .int .i64 cn, .int .i64 c1, .int .i64 c2, .int .i64 c3] 33)) (Nat.le_refl _)) (row_mem fun x _ => ccl_one x) (by have h := HNB.out; unfold maxLen; omega) (by have h := HNB.out; omega) (by have h := (((Below.refl w2.heap.size w2.drew).alloc (by have h := (Below.refl w2.heap.size w2.drew).size; exact h) (.cells #[] 33)).alloc (by have h := ((Below.refl w2.heap.size w2.drew).alloc (by have h := (Below.refl w2.heap.size w2.drew).size; exact h) (.cells #[] 33)).size; exact h) (.cells #[.int .i64 ck, .int .i64 cv, .int .i64 ce, .int .i64 cc, .int .i64 cn, .int .i64 c1, .int .i64 c2, .int .i64 c3] 33)).size; exact h) ?_
    intro v6 w6 hown6 hgr6 hat6
    have HO6 := Lib.hid (show w6.ownsRow w2.heap.size 33 8 v6 nb (row ccl L) from by have h := hown6; rw [Nat.zero_add] at h; simpa using h)
    have HB6 := Lib.hid ((((Below.refl w2.heap.size w2.drew).alloc (by have h := (Below.refl w2.heap.size w2.drew).size; exact h) (.cells #[] 33)).alloc (by have h := ((Below.refl w2.heap.size w2.drew).alloc (by have h := (Below.refl w2.heap.size w2.drew).size; exact h) (.cells #[] 33)).size; exact h) (.cells #[.int .i64 ck, .int .i64 cv, .int .i64 ce, .int .i64 cc, .int .i64 cn, .int .i64 c1, .int .i64 c2, .int .i64 c3] 33)).grown hgr6 (by have h := (((Below.refl w2.heap.size w2.drew).alloc (by have h := (Below.refl w2.heap.size w2.drew).size; exact h) (.cells #[] 33)).alloc (by have h := ((Below.refl w2.heap.size w2.drew).alloc (by have h := (Below.refl w2.heap.size w2.drew).size; exact h) (.cells #[] 33)).size; exact h) (.cells #[.int .i64 ck, .int .i64 cv, .int .i64 ce, .int .i64 cc, .int .i64 cn, .int .i64 c1, .int .i64 c2, .int .i64 c3] 33)).size; exact h) (fun j hj => by have h := (((own_litAt14 w2.drew w2.heap.size 33 8 w2.heap.size rfl (Nat.le_refl _)).alloc (.cells #[.int .i64 ck, .int .i64 cv, .int .i64 ce, .int .i64 cc, .int .i64 cn, .int .i64 c1, .int .i64 c2, .int .i64 c3] 33))).lt j hj; exact h.1))
    have S6 := HS.out _ HB6.out
    refine hK.out _ _ (S6) (fun hHeld => ?_)
    clear hK K
    try simp only [Act.put, List.getElem_toArray, List.getElem_cons_zero, List.getElem_cons_succ, List.setIfInBounds_toArray, List.set_cons_zero, List.set_cons_succ]
    refine AnyE.next (rs := [8]) (by kernel_rfl) (by simp) ?_
    refine AllE.cons rfl (fun K hK => ?_) AllE.nil
    refine step_append_X (by rfl) _ _ 26 rfl w2.heap.size 33 i0 _ 8 64 Try.underlying26 HI0.out HZ0.out HZ1.out HZ2.out rfl (by decide) _ (row ccl L) nb rfl HO6.out _ 1 _ rfl (((IsX.litAt14 (w2.drew.alloc (.cells #[] 33)) #[.int .i64 ck, .int .i64 cv, .int .i64 ce, .int .i64 cc, .int .i64 cn, .int .i64 c1, .int .i64 c2, .int .i64 c3] 33 8 1 (w2.heap.size + 1) (by simp) rfl (by decide))).kept ((Kept.refl (fun j => some w2.heap.size = some j) _).grown hgr6 (fun k hk => .inl hk)) (fun k hk hs => by have h1 : some (w2.heap.size + 1) = some k := hk.2; have h2 := Option.some.inj h1; have h3 := Option.some.inj hs; omega)) (fun u hu => ccl_one ⟨ck, cv, ce, cc, cn, c1, c2, c3⟩ u hu) (by have h := HNB.out; unfold maxLen; omega) (by have h := HNB.out; omega) (by have h := HB6.out.size; exact h) ?_
    intro v9 w9 hown9 hgr9 hat9
    have HB9 := Lib.hid (HB6.out.grown hgr9 (by have h := HB6.out.size; exact h) (fun j hj => by have h := (HO6.out).lt j hj; exact h.1))
    have HX9 := Lib.hid (show IsX w9 8 v9 (nb + 1) (row ccl (L ++ [⟨ck, cv, ce, cc, cn, c1, c2, c3⟩])) from IsX.own (by rw [row_append, row_one]; exact hown9))
    have S9 := HS.out _ HB9.out
    clear hown9 hgr9 hat9
    refine hK.out _ _ (S9) (fun hHeld => ?_)
    clear hK K
    try simp only [Act.put, List.getElem_toArray, List.getElem_cons_zero, List.getElem_cons_succ, List.setIfInBounds_toArray, List.set_cons_zero, List.set_cons_succ]
    refine AnyE.next (rs := [9]) (by kernel_rfl) (by simp) ?_
    refine AllE.cons rfl (fun K hK => ?_) AllE.nil
    go_simp
    refine (rwith20_1 xa xb na nb ca cb false true 1 tm st v9 (nb + 1) (L ++ [⟨ck, cv, ce, cc, cn, c1, c2, c3⟩]) w9 HX9.out (by have h := HNB.out; omega)).mono ?_
    rintro e w10 ⟨x, k, rfl, hx10, ho10, hb10⟩
    skip
    have HX10 := Lib.hid hx10
    have HO10 := Lib.hid (show ∀ q, (Value.slice x (nb + 1) k).ownBlock = some q → w2.heap.size ≤ q from fun q e => Nat.le_trans HB9.out.size (ho10 q e))
    have HB10 := Lib.hid (HB9.out.trans (hb10.mono HB9.out.size))
    clear hx10 ho10 hb10
    refine hK.out _ _ (HS.out _ HB10.out) (fun hHeld => ?_)
    clear hK K
    try simp only [Act.put, List.getElem_toArray, List.getElem_cons_zero, List.getElem_cons_succ, List.setIfInBounds_toArray, List.set_cons_zero, List.set_cons_succ]
    refine AnyE.next (rs := [10]) (by kernel_rfl) (by simp) ?_
    refine AllE.last rfl (fun K hK => ?_)
    refine step_store7 rfl 29 Try.sizePr20 _ _ rfl Y 29 (show Blk w10 Y #[.slice xa na ca, .slice xb nb cb, .bool false, .bool true, .int .i64 1, .int .i64 tm, .int .i64 st] 29 from HY2.out.below ((Below.refl w2.heap.size w2).drew.trans HB10.out) HY2.out.lt) rfl rfl ?_
    intro w11 hy11 hk11
    have HY11 := Lib.hid hy11
    have HR11 := Lib.hid ((HR2.out.below ((Below.refl w2.heap.size w2).drew.trans HB10.out) HR2.out.lt).kept hk11 (fun e => HYR.out e.symm))
    have HX11 := Lib.hid (HX10.out.kept hk11 (fun q hq e => by have h1 := HO10.out q hq.2; have h2 := HY2.out.lt; omega))
    have HB11 := Lib.hid ((HB2.out.trans (((Below.refl w2.heap.size w2).drew.trans HB10.out).mono HB2.out.size)).trans (hk11.below (Nat.le_trans HB2.out.size (show w2.heap.size ≤ w10.heap.size from HB10.out.size)) (fun q hq e => by have h1 := HYW.out; omega)))
    clear hy11 hk11
    refine hK.out _ _ ?_
    clear hK K
    try simp only [Act.put, List.getElem_toArray, List.getElem_cons_zero, List.getElem_cons_succ, List.setIfInBounds_toArray, List.set_cons_zero, List.set_cons_succ]
    refine AnyE.done (by kernel_rfl) ?_ _
    have y0 := HY11.out.cell 0 rfl
    have y1 := HY11.out.cell 1 rfl
    have y2 := HY11.out.cell 2 rfl
    have y3 := HY11.out.cell 3 rfl
    have y4 := HY11.out.cell 4 rfl
    have y5 := HY11.out.cell 5 rfl
    have y6 := HY11.out.cell 6 rfl
    go_upto_region 11 with fail
    go_wp2_with fail
    refine (rsettle20 xa x na (nb + 1) ca k false true 1 tm st ((nb : Int) + 1) _).mono ?_
    rintro e w12 ⟨rfl, hb12⟩
    rw [HST.out]
    unfold pcl
    have HY12 := Lib.hid (HY11.out.below hb12 HY11.out.lt)
    have HR12 := Lib.hid (HR11.out.below hb12 HR11.out.lt)
    have HX12 := Lib.hid (HX11.out.mono hb12 (Nat.le_refl _))
    have HB12 := Lib.hid (HB11.out.trans (hb12.mono HB11.out.size))
    clear hb12 y0 y1 y2 y3 y4 y5 y6
    go_wp2_with (refine wpList_store7 rfl 29 Try.sizePr20 _ _ rfl Y 29 HY12.out rfl rfl ?_)
    intro w13 hy13 hk13
    have HR13 := Lib.hid (HR12.out.kept hk13 (fun e => HYR.out e.symm))
    have HX13 := Lib.hid (HX12.out.kept hk13 (fun q hq e => by have h1 := HO10.out q hq.2; have h2 := HY2.out.lt; omega))
    have HB13 := Lib.hid (HB12.out.trans (hk13.below HB12.out.size (fun q hq e => by have h1 := HYW.out; omega)))
    have y0 := hy13.cell 0 rfl
    have y1 := hy13.cell 1 rfl
    have y2 := hy13.cell 2 rfl
    have y3 := hy13.cell 3 rfl
    have y4 := hy13.cell 4 rfl
    have y5 := hy13.cell 5 rfl
    have y6 := hy13.cell 6 rfl
    clear hy13 hk13
    go_wp2_with (refine wpList_store7 rfl 29 Try.sizePr20 _ _ rfl R 29 HR13.out rfl rfl ?_)
    intro w15 hr15 hk15
    have HB15 := Lib.hid (HB13.out.trans (hk15.below HB13.out.size (fun q hq e => by have h1 := HRe.out; omega)))
    have HX15 := Lib.hid (HX13.out.kept hk15 (fun q hq e => by have h1 := HO10.out q hq.2; have h2 := HR2.out.lt; omega))
    have HO15 := Lib.hid (show ∀ q, (Value.slice x (nb + 1) k).ownBlock = some q → w.heap.size ≤ q from fun q e => Nat.le_trans HB2.out.size (HO10.out q e))
    have z0 := hr15.cell 0 rfl
    have z1 := hr15.cell 1 rfl
    have z2 := hr15.cell 2 rfl
    have z3 := hr15.cell 3 rfl
    have z4 := hr15.cell 4 rfl
    have z5 := hr15.cell 5 rfl
    have z6 := hr15.cell 6 rfl
    clear hr15 hk15 y0 y1 y2 y3 y4 y5 y6
    go_wp2
    exact bodyPost_ret (v := .tuple #[.agg #[.slice xa na ca, .slice x (nb + 1) k, .bool false, .bool true, .int .i64 1, .int .i64 tm, .int .i64 ST], .int .i64 (nb : Int), .int .i64 0]) (by simp [results, Try.results10, go_sem, z0, z1, z2, z3, z4, z5, z6]) rfl ⟨x, k, rfl, HX15.out, HO15.out, HB15.out⟩
  refine AllE.cons rfl (fun K hK => ?_) AllE.nil
  go_simp
  refine hK.out _ _ (HS.out _ ((Below.refl w2.heap.size w2.drew).alloc (by have h := (Below.refl w2.heap.size w2.drew).size; exact h) (.cells #[.int .i64 ck, .int .i64 cv, .int .i64 ce, .int .i64 cc, .int .i64 cn, .int .i64 c1, .int .i64 c2, .int .i64 c3] 33))) (fun hHeld => ?_)
  clear hK K
  try simp only [Act.put, List.getElem_toArray, List.getElem_cons_zero, List.getElem_cons_succ, List.setIfInBounds_toArray, List.set_cons_zero, List.set_cons_succ]
  refine AnyE.next (rs := [2]) (by kernel_rfl) (by simp) ?_
  refine AllE.cons rfl (fun K hK => ?_) AllE.nil
  go_simp
  refine hK.out _ _ (HS.out _ (((Below.refl w2.heap.size w2.drew).alloc (by have h := (Below.refl w2.heap.size w2.drew).size; exact h) (.cells #[.int .i64 ck, .int .i64 cv, .int .i64 ce, .int .i64 cc, .int .i64 cn, .int .i64 c1, .int .i64 c2, .int .i64 c3] 33)).alloc (by have h := ((Below.refl w2.heap.size w2.drew).alloc (by have h := (Below.refl w2.heap.size w2.drew).size; exact h) (.cells #[.int .i64 ck, .int .i64 cv, .int .i64 ce, .int .i64 cc, .int .i64 cn, .int .i64 c1, .int .i64 c2, .int .i64 c3] 33)).size; exact h) (.cells #[] 33))) (fun hHeld => ?_)
  clear hK K
  try simp only [Act.put, List.getElem_toArray, List.getElem_cons_zero, List.getElem_cons_succ, List.setIfInBounds_toArray, List.set_cons_zero, List.set_cons_succ]
  refine AnyE.next (rs := [4]) (by kernel_rfl) (by simp) ?_
  refine AllE.cons rfl (fun K hK => ?_) AllE.nil
  refine step_append_X (by rfl) _ _ 26 rfl w2.heap.size 33 i0 _ 8 64 Try.underlying26 HI0.out HZ0.out HZ1.out HZ2.out rfl (by decide) _ [] 0 rfl (own_litAt14 (w2.drew.alloc (.cells #[.int .i64 ck, .int .i64 cv, .int .i64 ce, .int .i64 cc, .int .i64 cn, .int .i64 c1, .int .i64 c2, .int .i64 c3] 33)) w2.heap.size 33 8 (w2.heap.size + 1) (by simp) (by omega)) _ nb _ rfl (HVD.out.mono (((Below.refl w2.heap.size w2.drew).alloc (by have h := (Below.refl w2.heap.size w2.drew).size; exact h) (.cells #[.int .i64 ck, .int .i64 cv, .int .i64 ce, .int .i64 cc, .int .i64 cn, .int .i64 c1, .int .i64 c2, .int .i64 c3] 33)).alloc (by have h := ((Below.refl w2.heap.size w2.drew).alloc (by have h := (Below.refl w2.heap.size w2.drew).size; exact h) (.cells #[.int .i64 ck, .int .i64 cv, .int .i64 ce, .int .i64 cc, .int .i64 cn, .int .i64 c1, .int .i64 c2, .int .i64 c3] 33)).size; exact h) (.cells #[] 33)) (Nat.le_refl _)) (row_mem fun x _ => ccl_one x) (by have h := HNB.out; unfold maxLen; omega) (by have h := HNB.out; omega) (by have h := (((Below.refl w2.heap.size w2.drew).alloc (by have h := (Below.refl w2.heap.size w2.drew).size; exact h) (.cells #[.int .i64 ck, .int .i64 cv, .int .i64 ce, .int .i64 cc, .int .i64 cn, .int .i64 c1, .int .i64 c2, .int .i64 c3] 33)).alloc (by have h := ((Below.refl w2.heap.size w2.drew).alloc (by have h := (Below.refl w2.heap.size w2.drew).size; exact h) (.cells #[.int .i64 ck, .int .i64 cv, .int .i64 ce, .int .i64 cc, .int .i64 cn, .int .i64 c1, .int .i64 c2, .int .i64 c3] 33)).size; exact h) (.cells #[] 33)).size; exact h) ?_
  intro v6 w6 hown6 hgr6 hat6
  have HO6 := Lib.hid (show w6.ownsRow w2.heap.size 33 8 v6 nb (row ccl L) from by have h := hown6; rw [Nat.zero_add] at h; simpa using h)
  have HB6 := Lib.hid ((((Below.refl w2.heap.size w2.drew).alloc (by have h := (Below.refl w2.heap.size w2.drew).size; exact h) (.cells #[.int .i64 ck, .int .i64 cv, .int .i64 ce, .int .i64 cc, .int .i64 cn, .int .i64 c1, .int .i64 c2, .int .i64 c3] 33)).alloc (by have h := ((Below.refl w2.heap.size w2.drew).alloc (by have h := (Below.refl w2.heap.size w2.drew).size; exact h) (.cells #[.int .i64 ck, .int .i64 cv, .int .i64 ce, .int .i64 cc, .int .i64 cn, .int .i64 c1, .int .i64 c2, .int .i64 c3] 33)).size; exact h) (.cells #[] 33)).grown hgr6 (by have h := (((Below.refl w2.heap.size w2.drew).alloc (by have h := (Below.refl w2.heap.size w2.drew).size; exact h) (.cells #[.int .i64 ck, .int .i64 cv, .int .i64 ce, .int .i64 cc, .int .i64 cn, .int .i64 c1, .int .i64 c2, .int .i64 c3] 33)).alloc (by have h := ((Below.refl w2.heap.size w2.drew).alloc (by have h := (Below.refl w2.heap.size w2.drew).size; exact h) (.cells #[.int .i64 ck, .int .i64 cv, .int .i64 ce, .int .i64 cc, .int .i64 cn, .int .i64 c1, .int .i64 c2, .int .i64 c3] 33)).size; exact h) (.cells #[] 33)).size; exact h) (fun j hj => by have h := ((own_litAt14 (w2.drew.alloc (.cells #[.int .i64 ck, .int .i64 cv, .int .i64 ce, .int .i64 cc, .int .i64 cn, .int .i64 c1, .int .i64 c2, .int .i64 c3] 33)) w2.heap.size 33 8 (w2.heap.size + 1) (by simp) (by omega))).lt j hj; exact h.1))
  have S6 := HS.out _ HB6.out
  refine hK.out _ _ (S6) (fun hHeld => ?_)
  clear hK K
  try simp only [Act.put, List.getElem_toArray, List.getElem_cons_zero, List.getElem_cons_succ, List.setIfInBounds_toArray, List.set_cons_zero, List.set_cons_succ]
  refine AnyE.next (rs := [8]) (by kernel_rfl) (by simp) ?_
  refine AllE.cons rfl (fun K hK => ?_) AllE.nil
  refine step_append_X (by rfl) _ _ 26 rfl w2.heap.size 33 i0 _ 8 64 Try.underlying26 HI0.out HZ0.out HZ1.out HZ2.out rfl (by decide) _ (row ccl L) nb rfl HO6.out _ 1 _ rfl ((((IsX.litAt14 w2.drew #[.int .i64 ck, .int .i64 cv, .int .i64 ce, .int .i64 cc, .int .i64 cn, .int .i64 c1, .int .i64 c2, .int .i64 c3] 33 8 1 w2.heap.size rfl rfl (by decide))).mono (bel_alloc15 _ (.cells #[] 33)) (Nat.le_refl _)).kept ((Kept.refl (fun j => some (w2.heap.size + 1) = some j) _).grown hgr6 (fun k hk => .inl hk)) (fun k hk hs => by have h1 : some w2.heap.size = some k := hk.2; have h2 := Option.some.inj h1; have h3 := Option.some.inj hs; omega)) (fun u hu => ccl_one ⟨ck, cv, ce, cc, cn, c1, c2, c3⟩ u hu) (by have h := HNB.out; unfold maxLen; omega) (by have h := HNB.out; omega) (by have h := HB6.out.size; exact h) ?_
  intro v9 w9 hown9 hgr9 hat9
  have HB9 := Lib.hid (HB6.out.grown hgr9 (by have h := HB6.out.size; exact h) (fun j hj => by have h := (HO6.out).lt j hj; exact h.1))
  have HX9 := Lib.hid (show IsX w9 8 v9 (nb + 1) (row ccl (L ++ [⟨ck, cv, ce, cc, cn, c1, c2, c3⟩])) from IsX.own (by rw [row_append, row_one]; exact hown9))
  have S9 := HS.out _ HB9.out
  clear hown9 hgr9 hat9
  refine hK.out _ _ (S9) (fun hHeld => ?_)
  clear hK K
  try simp only [Act.put, List.getElem_toArray, List.getElem_cons_zero, List.getElem_cons_succ, List.setIfInBounds_toArray, List.set_cons_zero, List.set_cons_succ]
  refine AnyE.next (rs := [9]) (by kernel_rfl) (by simp) ?_
  refine AllE.cons rfl (fun K hK => ?_) AllE.nil
  go_simp
  refine (rwith20_1 xa xb na nb ca cb false true 1 tm st v9 (nb + 1) (L ++ [⟨ck, cv, ce, cc, cn, c1, c2, c3⟩]) w9 HX9.out (by have h := HNB.out; omega)).mono ?_
  rintro e w10 ⟨x, k, rfl, hx10, ho10, hb10⟩
  skip
  have HX10 := Lib.hid hx10
  have HO10 := Lib.hid (show ∀ q, (Value.slice x (nb + 1) k).ownBlock = some q → w2.heap.size ≤ q from fun q e => Nat.le_trans HB9.out.size (ho10 q e))
  have HB10 := Lib.hid (HB9.out.trans (hb10.mono HB9.out.size))
  clear hx10 ho10 hb10
  refine hK.out _ _ (HS.out _ HB10.out) (fun hHeld => ?_)
  clear hK K
  try simp only [Act.put, List.getElem_toArray, List.getElem_cons_zero, List.getElem_cons_succ, List.setIfInBounds_toArray, List.set_cons_zero, List.set_cons_succ]
  refine AnyE.next (rs := [10]) (by kernel_rfl) (by simp) ?_
  refine AllE.last rfl (fun K hK => ?_)
  refine step_store7 rfl 29 Try.sizePr20 _ _ rfl Y 29 (show Blk w10 Y #[.slice xa na ca, .slice xb nb cb, .bool false, .bool true, .int .i64 1, .int .i64 tm, .int .i64 st] 29 from HY2.out.below ((Below.refl w2.heap.size w2).drew.trans HB10.out) HY2.out.lt) rfl rfl ?_
  intro w11 hy11 hk11
  have HY11 := Lib.hid hy11
  have HR11 := Lib.hid ((HR2.out.below ((Below.refl w2.heap.size w2).drew.trans HB10.out) HR2.out.lt).kept hk11 (fun e => HYR.out e.symm))
  have HX11 := Lib.hid (HX10.out.kept hk11 (fun q hq e => by have h1 := HO10.out q hq.2; have h2 := HY2.out.lt; omega))
  have HB11 := Lib.hid ((HB2.out.trans (((Below.refl w2.heap.size w2).drew.trans HB10.out).mono HB2.out.size)).trans (hk11.below (Nat.le_trans HB2.out.size (show w2.heap.size ≤ w10.heap.size from HB10.out.size)) (fun q hq e => by have h1 := HYW.out; omega)))
  clear hy11 hk11
  refine hK.out _ _ ?_
  clear hK K
  try simp only [Act.put, List.getElem_toArray, List.getElem_cons_zero, List.getElem_cons_succ, List.setIfInBounds_toArray, List.set_cons_zero, List.set_cons_succ]
  refine AnyE.done (by kernel_rfl) ?_ _
  have y0 := HY11.out.cell 0 rfl
  have y1 := HY11.out.cell 1 rfl
  have y2 := HY11.out.cell 2 rfl
  have y3 := HY11.out.cell 3 rfl
  have y4 := HY11.out.cell 4 rfl
  have y5 := HY11.out.cell 5 rfl
  have y6 := HY11.out.cell 6 rfl
  go_upto_region 11 with fail
  go_wp2_with fail
  refine (rsettle20 xa x na (nb + 1) ca k false true 1 tm st ((nb : Int) + 1) _).mono ?_
  rintro e w12 ⟨rfl, hb12⟩
  rw [HST.out]
  unfold pcl
  have HY12 := Lib.hid (HY11.out.below hb12 HY11.out.lt)
  have HR12 := Lib.hid (HR11.out.below hb12 HR11.out.lt)
  have HX12 := Lib.hid (HX11.out.mono hb12 (Nat.le_refl _))
  have HB12 := Lib.hid (HB11.out.trans (hb12.mono HB11.out.size))
  clear hb12 y0 y1 y2 y3 y4 y5 y6
  go_wp2_with (refine wpList_store7 rfl 29 Try.sizePr20 _ _ rfl Y 29 HY12.out rfl rfl ?_)
  intro w13 hy13 hk13
  have HR13 := Lib.hid (HR12.out.kept hk13 (fun e => HYR.out e.symm))
  have HX13 := Lib.hid (HX12.out.kept hk13 (fun q hq e => by have h1 := HO10.out q hq.2; have h2 := HY2.out.lt; omega))
  have HB13 := Lib.hid (HB12.out.trans (hk13.below HB12.out.size (fun q hq e => by have h1 := HYW.out; omega)))
  have y0 := hy13.cell 0 rfl
  have y1 := hy13.cell 1 rfl
  have y2 := hy13.cell 2 rfl
  have y3 := hy13.cell 3 rfl
  have y4 := hy13.cell 4 rfl
  have y5 := hy13.cell 5 rfl
  have y6 := hy13.cell 6 rfl
  clear hy13 hk13
  go_wp2_with (refine wpList_store7 rfl 29 Try.sizePr20 _ _ rfl R 29 HR13.out rfl rfl ?_)
  intro w15 hr15 hk15
  have HB15 := Lib.hid (HB13.out.trans (hk15.below HB13.out.size (fun q hq e => by have h1 := HRe.out; omega)))
  have HX15 := Lib.hid (HX13.out.kept hk15 (fun q hq e => by have h1 := HO10.out q hq.2; have h2 := HR2.out.lt; omega))
  have HO15 := Lib.hid (show ∀ q, (Value.slice x (nb + 1) k).ownBlock = some q → w.heap.size ≤ q from fun q e => Nat.le_trans HB2.out.size (HO10.out q e))
  have z0 := hr15.cell 0 rfl
  have z1 := hr15.cell 1 rfl
  have z2 := hr15.cell 2 rfl
  have z3 := hr15.cell 3 rfl
  have z4 := hr15.cell 4 rfl
  have z5 := hr15.cell 5 rfl
  have z6 := hr15.cell 6 rfl
  clear hr15 hk15 y0 y1 y2 y3 y4 y5 y6
  go_wp2
  exact bodyPost_ret (v := .tuple #[.agg #[.slice xa na ca, .slice x (nb + 1) k, .bool false, .bool true, .int .i64 1, .int .i64 tm, .int .i64 ST], .int .i64 (nb : Int), .int .i64 0]) (by simp [results, Try.results10, go_sem, z0, z1, z2, z3, z4, z5, z6]) rfl ⟨x, k, rfl, HX15.out, HO15.out, HB15.out⟩
end Go.Proofs.Ytlaighghagcjjaa
