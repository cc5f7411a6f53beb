/- The document's own pair (layer 20): with. -/
import Derived.Test.YtlaighghagcjjaaRp20
namespace Go.Proofs.Ytlaighghagcjjaa
open Go.RowKit Go.Cor
set_option linter.unusedVariables false
set_option linter.unusedSimpArgs false

theorem Try.sizePr20 : (Try.prog.info? 29).map (·.size) = some 7 := by kernel_rfl
theorem Try.infoCmdR19 : (Try.prog.info? 33).map (fun i => (i.zero, i.size, i.bytes)) = some (some (.agg #[.int .i64 0, .int .i64 0, .int .i64 0, .int .i64 0, .int .i64 0, .int .i64 0, .int .i64 0, .int .i64 0]), 8, 64) := by kernel_rfl
set_option maxHeartbeats 1000000 in
/-- A pair stored into a box, as one operation. -/
theorem wpList_store7 {P : Program} {w : World} {ops : Array Oper} {rest : List Oper} {o : Oper} {a : Act} {Q : Exit → Act → World → Prop} (hg : o.guard = none) (T : TypeId) (hs : (P.info? T).map (·.size) = some 7) (x y : Operand) (ho : o.op = .store T x y)
    (g : Nat) (T' : TypeId) {a0 a1 a2 a3 a4 a5 a6 : Value} (hb : Blk w g #[a0, a1, a2, a3, a4, a5, a6] T') {xa xb : Option Addr} {na ca nb cb : Nat} {u0 u1 : Bool} {ld tm st : Int}
    (hx : a.eval x = .pointer (some ⟨g, 0, none⟩)) (hy : a.eval y = .agg #[.slice xa na ca, .slice xb nb cb, .bool u0, .bool u1, .int .i64 ld, .int .i64 tm, .int .i64 st])
    (h : ∀ w', Blk w' g #[.slice xa na ca, .slice xb nb cb, .bool u0, .bool u1, .int .i64 ld, .int .i64 tm, .int .i64 st] T' → Kept (fun j => j = g) w w' → wpList P ops Q rest (a.put o.dst undef) w') : wpList P ops Q (o :: rest) a w := by
  refine wpList_plain hg fun K hK => ?_
  obtain ⟨j, hj1, hj2⟩ := Option.map_eq_some_iff.1 hs
  have hsz : ∀ W, (sizeOf T).run P W = .ok 7 W := fun W => by simp [sizeOf, typeInfo, hj1, hj2]
  have hF := (((((((hb.set 0 (.slice xa na ca)).set 1 (.slice xb nb cb)).set 2 (.bool u0)).set 3 (.bool u1)).set 4 (.int .i64 ld)).set 5 (.int .i64 tm)).set 6 (.int .i64 st))
  simp at hF
  have hk := ((((((((Kept.refl (fun j => j = g) w).setCell (p := ⟨g, 0, none⟩) (.inl rfl) (.slice xa na ca)).setCell (p := ⟨g, 1, none⟩) (.inl rfl) (.slice xb nb cb)).setCell (p := ⟨g, 2, none⟩) (.inl rfl) (.bool u0)).setCell (p := ⟨g, 3, none⟩) (.inl rfl) (.bool u1)).setCell (p := ⟨g, 4, none⟩) (.inl rfl) (.int .i64 ld)).setCell (p := ⟨g, 5, none⟩) (.inl rfl) (.int .i64 tm)).setCell (p := ⟨g, 6, none⟩) (.inl rfl) (.int .i64 st))
  have HF := Lib.hid (And.intro hF hk)
  have c0 := hb.cell 0 rfl
  have c1 := hb.cell 1 rfl
  have c2 := hb.cell 2 rfl
  have c3 := hb.cell 3 rfl
  have c4 := hb.cell 4 rfl
  have c5 := hb.cell 5 rfl
  have c6 := hb.cell 6 rfl
  have fz := fun j => hb.free j
  clear hF hk
  unfold Oper.wp execOp
  rw [ho]
  simp only [hx, hy]
  go_simp
  exact hK _ _ (h _ HF.out.1 HF.out.2)
set_option maxRecDepth 100000 in
set_option maxHeartbeats 4000000 in
theorem rwith20 (xa xb : Option Addr) (na nb ca cb : Nat) (u0 u1 : Bool) (ld tm st sd : Int) (v : Value) (n : Nat) (l : List Cm) (w : World) (hv : IsX w 8 v n (row ccl l)) (hn : n ≤ 100000) :
    Calls Try.prog 28 #[.agg #[.slice xa na ca, .slice xb nb cb, .bool u0, .bool u1, .int .i64 ld, .int .i64 tm, .int .i64 st], .int .i64 sd, v] w fun e w' => ∃ x k, e = .returned (.agg (if sd = 0 then #[.slice x n k, .slice xb nb cb, .bool u0, .bool u1, .int .i64 ld, .int .i64 tm, .int .i64 st] else #[.slice xa na ca, .slice x n k, .bool u0, .bool u1, .int .i64 ld, .int .i64 tm, .int .i64 st])) ∧ IsX w' 8 (.slice x n k) n (row ccl l) ∧ (∀ q, (Value.slice x n k).ownBlock = some q → w.heap.size ≤ q) ∧ Below w.heap.size w w' := by
  obtain ⟨i0, hi0, hz0, hz1, hz2⟩ := info_parts Try.infoCmdR19
  have HI0 := Lib.hid hi0
  have HZ0 := Lib.hid hz0
  have HZ1 := Lib.hid hz1
  have HZ2 := Lib.hid hz2
  have hY := (Blk.new w #[.slice xa na ca, .slice xb nb cb, .bool u0, .bool u1, .int .i64 ld, .int .i64 tm, .int .i64 st] 29).alloc (.cells #[.slice none 0 0, .slice none 0 0, .bool false, .bool false, .int .i64 0, .int .i64 0, .int .i64 0] 29)
  have hR := Blk.new (w.alloc (.cells #[.slice xa na ca, .slice xb nb cb, .bool u0, .bool u1, .int .i64 ld, .int .i64 tm, .int .i64 st] 29)) #[.slice none 0 0, .slice none 0 0, .bool false, .bool false, .int .i64 0, .int .i64 0, .int .i64 0] 29
  rw [show (w.alloc (.cells #[.slice xa na ca, .slice xb nb cb, .bool u0, .bool u1, .int .i64 ld, .int .i64 tm, .int .i64 st] 29)).heap.size = w.heap.size + 1 by simp] at hR
  have hB := ((Below.refl w.heap.size w).alloc (Nat.le_refl _) (.cells #[.slice xa na ca, .slice xb nb cb, .bool u0, .bool u1, .int .i64 ld, .int .i64 tm, .int .i64 st] 29)).alloc (by simp) (.cells #[.slice none 0 0, .slice none 0 0, .bool false, .bool false, .int .i64 0, .int .i64 0, .int .i64 0] 29)
  have hS : ((w.alloc (.cells #[.slice xa na ca, .slice xb nb cb, .bool u0, .bool u1, .int .i64 ld, .int .i64 tm, .int .i64 st] 29)).alloc (.cells #[.slice none 0 0, .slice none 0 0, .bool false, .bool false, .int .i64 0, .int .i64 0, .int .i64 0] 29)).heap.size = w.heap.size + 2 := by simp
  obtain ⟨w0, hW⟩ : ∃ z, (w.alloc (.cells #[.slice xa na ca, .slice xb nb cb, .bool u0, .bool u1, .int .i64 ld, .int .i64 tm, .int .i64 st] 29)).alloc (.cells #[.slice none 0 0, .slice none 0 0, .bool false, .bool false, .int .i64 0, .int .i64 0, .int .i64 0] 29) = z := ⟨_, rfl⟩
  rw [hW] at hY hR hB hS
  have HW := Lib.hid hW
  have HY0 := Lib.hid hY
  have HR0 := Lib.hid hR
  have HB0 := Lib.hid hB
  have HBS := Lib.hid hS
  have HV0 := Lib.hid (hv.mono hB (Nat.le_refl _))
  clear hW hY hR hB hS hv hi0 hz0 hz1 hz2
  by_cases h : sd = 0
  · simp only [if_pos h]
    have hb : (sd == 0) = true := by rw [beq_iff_eq]; exact h
    clear h
    go_enter Try.func28, Try.ntmps28
    go_upto_region 1 with fail
    try unfold pcl
    rw [HW.out]
    go_wp2_with (at_builtin; refine wpList_append_X (by rfl) _ _ 26 26 rfl (fun _ _ _ => rfl) w0.heap.size 33 i0 _ 8 64 Try.underlying26 HI0.out HZ0.out HZ1.out HZ2.out rfl (by decide) _ [] 0 rfl (World.ownsRow_lit _ #[] 0 (Nat.le_refl _) (Nat.zero_le _) rfl) v n _ rfl (HV0.out.mono (below_newR w0 _) (Nat.le_refl _)) (row_mem fun x _ => ccl_one x) (by unfold maxLen; omega) (by omega) (by simp) ?_)
    intro v4 w4 hown4 hgr4 hl4
    have ho4 : w4.ownsRow w0.heap.size 33 8 v4 n (row ccl l) := by simpa using hown4
    obtain ⟨x, k, rfl, _, _⟩ := ownsRow_slice ho4
    have HY4 := Lib.hid ((HY0.out.alloc (.cells #[] 33)).grown hgr4 (fun e => by have h1 := HY0.out.lt; have h2 : w0.heap.size = w.heap.size := Option.some.inj e; omega))
    have HR4 := Lib.hid ((HR0.out.alloc (.cells #[] 33)).grown hgr4 (fun e => by have h1 := HR0.out.lt; have h2 : w0.heap.size = w.heap.size + 1 := Option.some.inj e; omega))
    have HB4 := Lib.hid ((HB0.out.alloc HB0.out.size (.cells #[] 33)).grown hgr4 (by have h1 := HB0.out.size; simp; omega) (fun q e => by have h1 := HB0.out.size; have h2 : w0.heap.size = q := Option.some.inj e; omega))
    have HO4 := Lib.hid ho4
    clear hown4 hgr4 hl4 ho4
    -- the field
    have y0 := HY4.out.cell 0 rfl
    have yf := fun j => HY4.out.free j
    have hy5 := HY4.out.set 0 (.slice x n k)
    have hr5 := HR4.out.other (a := ⟨w.heap.size, 0, none⟩) (by simp) (.slice x n k)
    have hb5 := HB4.out.setCell (p := ⟨w.heap.size, 0, none⟩) (Nat.le_refl _) (.slice x n k)
    have hk5 := (Kept.refl (fun q => q = w.heap.size) w4).setCell (p := ⟨w.heap.size, 0, none⟩) (.inl rfl) (.slice x n k)
    obtain ⟨w5, hw5⟩ : ∃ z, w4.setCell ⟨w.heap.size, 0, none⟩ (.slice x n k) = z := ⟨_, rfl⟩
    rw [hw5] at hy5 hr5 hb5 hk5
    have HY5 := Lib.hid (show Blk w5 w.heap.size #[.slice x n k, .slice xb nb cb, .bool u0, .bool u1, .int .i64 ld, .int .i64 tm, .int .i64 st] 29 from by simpa using hy5)
    have HR5 := Lib.hid hr5
    have HB5 := Lib.hid hb5
    have HX5 := Lib.hid ((IsX.own HO4.out).kept hk5 (fun q hq e => by have h1 := (HO4.out.lt q hq.2).1; have h2 := HBS.out; omega))
    have HW5 := Lib.hid hw5
    clear hy5 hr5 hb5 hk5 hw5
    go_upto_region 5 with fail
    rw [HW5.out]
    clear y0 yf
    have y0 := HY5.out.cell 0 rfl
    have y1 := HY5.out.cell 1 rfl
    have y2 := HY5.out.cell 2 rfl
    have y3 := HY5.out.cell 3 rfl
    have y4 := HY5.out.cell 4 rfl
    have y5 := HY5.out.cell 5 rfl
    have y6 := HY5.out.cell 6 rfl
    go_wp2_with (refine wpList_store7 rfl 29 Try.sizePr20 (.tmp 6) (.tmp 16) rfl (w.heap.size + 1) 29 HR5.out rfl rfl ?_)
    intro w6 hr6 hk6
    have HB6 := Lib.hid (HB5.out.trans (hk6.below HB5.out.size (fun q hq e => by omega)))
    have HX6 := Lib.hid (HX5.out.kept hk6 (fun q hq e => by have h1 := (HO4.out.lt q hq.2).1; have h2 := HBS.out; omega))
    have z0 := hr6.cell 0 rfl
    have z1 := hr6.cell 1 rfl
    have z2 := hr6.cell 2 rfl
    have z3 := hr6.cell 3 rfl
    have z4 := hr6.cell 4 rfl
    have z5 := hr6.cell 5 rfl
    have z6 := hr6.cell 6 rfl
    clear hr6 hk6 y0 y1 y2 y3 y4 y5 y6
    go_wp2
    exact bodyPost_ret (v := .agg #[.slice x n k, .slice xb nb cb, .bool u0, .bool u1, .int .i64 ld, .int .i64 tm, .int .i64 st]) (by simp [results, Try.results28, go_sem, z0, z1, z2, z3, z4, z5, z6]) rfl ⟨x, k, rfl, HX6.out, (fun q e => by have h1 := (HO4.out.lt q e).1; have h2 := HBS.out; omega), HB6.out⟩
  · simp only [if_neg h]
    have hb : (sd == 0) = false := by rw [beq_eq_false_iff_ne]; exact h
    clear h
    go_enter Try.func28, Try.ntmps28
    go_upto_region 1 with fail
    try unfold pcl
    rw [HW.out]
    go_wp2_with (at_builtin; refine wpList_append_X (by rfl) _ _ 26 26 rfl (fun _ _ _ => rfl) w0.heap.size 33 i0 _ 8 64 Try.underlying26 HI0.out HZ0.out HZ1.out HZ2.out rfl (by decide) _ [] 0 rfl (World.ownsRow_lit _ #[] 0 (Nat.le_refl _) (Nat.zero_le _) rfl) v n _ rfl (HV0.out.mono (below_newR w0 _) (Nat.le_refl _)) (row_mem fun x _ => ccl_one x) (by unfold maxLen; omega) (by omega) (by simp) ?_)
    intro v4 w4 hown4 hgr4 hl4
    have ho4 : w4.ownsRow w0.heap.size 33 8 v4 n (row ccl l) := by simpa using hown4
    obtain ⟨x, k, rfl, _, _⟩ := ownsRow_slice ho4
    have HY4 := Lib.hid ((HY0.out.alloc (.cells #[] 33)).grown hgr4 (fun e => by have h1 := HY0.out.lt; have h2 : w0.heap.size = w.heap.size := Option.some.inj e; omega))
    have HR4 := Lib.hid ((HR0.out.alloc (.cells #[] 33)).grown hgr4 (fun e => by have h1 := HR0.out.lt; have h2 : w0.heap.size = w.heap.size + 1 := Option.some.inj e; omega))
    have HB4 := Lib.hid ((HB0.out.alloc HB0.out.size (.cells #[] 33)).grown hgr4 (by have h1 := HB0.out.size; simp; omega) (fun q e => by have h1 := HB0.out.size; have h2 : w0.heap.size = q := Option.some.inj e; omega))
    have HO4 := Lib.hid ho4
    clear hown4 hgr4 hl4 ho4
    -- the field
    have y1 := HY4.out.cell 1 rfl
    have yf := fun j => HY4.out.free j
    have hy5 := HY4.out.set 1 (.slice x n k)
    have hr5 := HR4.out.other (a := ⟨w.heap.size, 1, none⟩) (by simp) (.slice x n k)
    have hb5 := HB4.out.setCell (p := ⟨w.heap.size, 1, none⟩) (Nat.le_refl _) (.slice x n k)
    have hk5 := (Kept.refl (fun q => q = w.heap.size) w4).setCell (p := ⟨w.heap.size, 1, none⟩) (.inl rfl) (.slice x n k)
    obtain ⟨w5, hw5⟩ : ∃ z, w4.setCell ⟨w.heap.size, 1, none⟩ (.slice x n k) = z := ⟨_, rfl⟩
    rw [hw5] at hy5 hr5 hb5 hk5
    have HY5 := Lib.hid (show Blk w5 w.heap.size #[.slice xa na ca, .slice x n k, .bool u0, .bool u1, .int .i64 ld, .int .i64 tm, .int .i64 st] 29 from by simpa using hy5)
    have HR5 := Lib.hid hr5
    have HB5 := Lib.hid hb5
    have HX5 := Lib.hid ((IsX.own HO4.out).kept hk5 (fun q hq e => by have h1 := (HO4.out.lt q hq.2).1; have h2 := HBS.out; omega))
    have HW5 := Lib.hid hw5
    clear hy5 hr5 hb5 hk5 hw5
    go_upto_region 5 with fail
    rw [HW5.out]
    clear y1 yf
    have y0 := HY5.out.cell 0 rfl
    have y1 := HY5.out.cell 1 rfl
    have y2 := HY5.out.cell 2 rfl
    have y3 := HY5.out.cell 3 rfl
    have y4 := HY5.out.cell 4 rfl
    have y5 := HY5.out.cell 5 rfl
    have y6 := HY5.out.cell 6 rfl
    go_wp2_with (refine wpList_store7 rfl 29 Try.sizePr20 (.tmp 6) (.tmp 16) rfl (w.heap.size + 1) 29 HR5.out rfl rfl ?_)
    intro w6 hr6 hk6
    have HB6 := Lib.hid (HB5.out.trans (hk6.below HB5.out.size (fun q hq e => by omega)))
    have HX6 := Lib.hid (HX5.out.kept hk6 (fun q hq e => by have h1 := (HO4.out.lt q hq.2).1; have h2 := HBS.out; omega))
    have z0 := hr6.cell 0 rfl
    have z1 := hr6.cell 1 rfl
    have z2 := hr6.cell 2 rfl
    have z3 := hr6.cell 3 rfl
    have z4 := hr6.cell 4 rfl
    have z5 := hr6.cell 5 rfl
    have z6 := hr6.cell 6 rfl
    clear hr6 hk6 y0 y1 y2 y3 y4 y5 y6
    go_wp2
    exact bodyPost_ret (v := .agg #[.slice xa na ca, .slice x n k, .bool u0, .bool u1, .int .i64 ld, .int .i64 tm, .int .i64 st]) (by simp [results, Try.results28, go_sem, z0, z1, z2, z3, z4, z5, z6]) rfl ⟨x, k, rfl, HX6.out, (fun q e => by have h1 := (HO4.out.lt q e).1; have h2 := HBS.out; omega), HB6.out⟩
end Go.Proofs.Ytlaighghagcjjaa
