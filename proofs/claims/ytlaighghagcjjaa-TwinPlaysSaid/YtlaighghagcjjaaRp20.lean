/- The document's own pair (layer 20): New, Log, settle, with. -/
import Derived.Test.YtlaighghagcjjaaRh19
namespace Go.Proofs.Ytlaighghagcjjaa
open Go.RowKit Go.Cor
set_option linter.unusedVariables false
set_option linter.unusedSimpArgs false

/-- A pair as a value, its fields named. -/
abbrev pcl (va vb : Value) (u0 u1 : Bool) (ld tm st : Int) : Array Value := #[va, vb, .bool u0, .bool u1, .int .i64 ld, .int .i64 tm, .int .i64 st]
set_option maxRecDepth 100000 in
set_option maxHeartbeats 1000000 in
theorem rnew20 (w : World) : Calls Try.prog 9 #[] w fun e w' => e = .returned (.agg (pcl (.slice none 0 0) (.slice none 0 0) true true 0 1 0)) ∧ Below w.heap.size w w' := by
  have HB := Lib.hid (below_newR w (.cells (pcl (.slice none 0 0) (.slice none 0 0) true true 0 1 0) 29))
  have hZ := Blk.new w (pcl (.slice none 0 0) (.slice none 0 0) true true 0 1 0) 29
  obtain ⟨W, hW⟩ : ∃ z, w.alloc (.cells (pcl (.slice none 0 0) (.slice none 0 0) true true 0 1 0) 29) = z := ⟨_, rfl⟩
  rw [hW] at hZ HB
  have HW := Lib.hid hW
  have z0 := hZ.cell 0 rfl
  have z1 := hZ.cell 1 rfl
  have z2 := hZ.cell 2 rfl
  have z3 := hZ.cell 3 rfl
  have z4 := hZ.cell 4 rfl
  have z5 := hZ.cell 5 rfl
  have z6 := hZ.cell 6 rfl
  clear hW
  go_enter Try.func9, Try.ntmps9
  go_wp2
  rw [HW.out]
  refine bodyPost_ret (v := .agg (pcl (.slice none 0 0) (.slice none 0 0) true true 0 1 0)) (by simp [results, Try.results9, go_sem, z0, z1, z2, z3, z4, z5, z6, pcl]) rfl ⟨rfl, HB.out⟩
set_option maxRecDepth 100000 in
set_option maxHeartbeats 1000000 in
theorem rlog20 (xa xb : Option Addr) (na nb ca cb : Nat) (u0 u1 : Bool) (ld tm st sd : Int) (w : World) :
    Calls Try.prog 27 #[.agg (pcl (.slice xa na ca) (.slice xb nb cb) u0 u1 ld tm st), .int .i64 sd] w fun e w' => e = .returned (if sd = 0 then .slice xa na ca else .slice xb nb cb) ∧ Below w.heap.size w w' := by
  have HB := Lib.hid (below_newR w (.cells (pcl (.slice xa na ca) (.slice xb nb cb) u0 u1 ld tm st) 29))
  by_cases h : sd = 0
  · rw [if_pos h]
    have hb : (sd == 0) = true := by rw [beq_iff_eq]; exact h
    clear h
    go_enter Try.func27, Try.ntmps27
    go_wp2
    go_ret
    exact ⟨rfl, HB.out⟩
  · rw [if_neg h]
    have hb : (sd == 0) = false := by rw [beq_eq_false_iff_ne]; exact h
    clear h
    go_enter Try.func27, Try.ntmps27
    go_wp2
    go_ret
    exact ⟨rfl, HB.out⟩
set_option maxRecDepth 100000 in
set_option maxHeartbeats 1000000 in
theorem rsettle20 (xa xb : Option Addr) (na nb ca cb : Nat) (u0 u1 : Bool) (ld tm st n : Int) (w : World) :
    Calls Try.prog 29 #[.agg (pcl (.slice xa na ca) (.slice xb nb cb) u0 u1 ld tm st), .int .i64 n] w fun e w' => e = .returned (.agg (pcl (.slice xa na ca) (.slice xb nb cb) u0 u1 ld tm (if st < n then n else st))) ∧ Below w.heap.size w w' := by
  by_cases h : st < n
  · rw [if_pos h]
    have hb : n > st := h
    clear h
    have hZ := Blk.new (w.alloc (.cells #[.slice xa na ca, .slice xb nb cb, .bool u0, .bool u1, .int .i64 ld, .int .i64 tm, .int .i64 n] 29)) #[.slice xa na ca, .slice xb nb cb, .bool u0, .bool u1, .int .i64 ld, .int .i64 tm, .int .i64 n] 29
    rw [show (w.alloc (.cells #[.slice xa na ca, .slice xb nb cb, .bool u0, .bool u1, .int .i64 ld, .int .i64 tm, .int .i64 n] 29)).heap.size = w.heap.size + 1 by simp] at hZ
    have hB := ((Below.refl w.heap.size w).alloc (Nat.le_refl _) (.cells #[.slice xa na ca, .slice xb nb cb, .bool u0, .bool u1, .int .i64 ld, .int .i64 tm, .int .i64 n] 29)).alloc (by simp) (.cells #[.slice xa na ca, .slice xb nb cb, .bool u0, .bool u1, .int .i64 ld, .int .i64 tm, .int .i64 n] 29)
    obtain ⟨W, hW⟩ : ∃ z, (w.alloc (.cells #[.slice xa na ca, .slice xb nb cb, .bool u0, .bool u1, .int .i64 ld, .int .i64 tm, .int .i64 n] 29)).alloc (.cells #[.slice xa na ca, .slice xb nb cb, .bool u0, .bool u1, .int .i64 ld, .int .i64 tm, .int .i64 n] 29) = z := ⟨_, rfl⟩
    rw [hW] at hZ hB
    have HW := Lib.hid hW
    have HB := Lib.hid hB
    have HZ := Lib.hid hZ
    clear hW hB hZ
    go_enter Try.func29, Try.ntmps29
    go_wp2
    try unfold pcl
    rw [HW.out]
    have z0 := HZ.out.cell 0 rfl
    have z1 := HZ.out.cell 1 rfl
    have z2 := HZ.out.cell 2 rfl
    have z3 := HZ.out.cell 3 rfl
    have z4 := HZ.out.cell 4 rfl
    have z5 := HZ.out.cell 5 rfl
    have z6 := HZ.out.cell 6 rfl
    refine bodyPost_ret (v := .agg #[.slice xa na ca, .slice xb nb cb, .bool u0, .bool u1, .int .i64 ld, .int .i64 tm, .int .i64 n]) (by simp [results, Try.results29, go_sem, z0, z1, z2, z3, z4, z5, z6]) rfl ⟨rfl, HB.out⟩
  · rw [if_neg h]
    have hb : ¬ n > st := h
    clear h
    have hZ := Blk.new (w.alloc (.cells #[.slice xa na ca, .slice xb nb cb, .bool u0, .bool u1, .int .i64 ld, .int .i64 tm, .int .i64 st] 29)) #[.slice xa na ca, .slice xb nb cb, .bool u0, .bool u1, .int .i64 ld, .int .i64 tm, .int .i64 st] 29
    rw [show (w.alloc (.cells #[.slice xa na ca, .slice xb nb cb, .bool u0, .bool u1, .int .i64 ld, .int .i64 tm, .int .i64 st] 29)).heap.size = w.heap.size + 1 by simp] at hZ
    have hB := ((Below.refl w.heap.size w).alloc (Nat.le_refl _) (.cells #[.slice xa na ca, .slice xb nb cb, .bool u0, .bool u1, .int .i64 ld, .int .i64 tm, .int .i64 st] 29)).alloc (by simp) (.cells #[.slice xa na ca, .slice xb nb cb, .bool u0, .bool u1, .int .i64 ld, .int .i64 tm, .int .i64 st] 29)
    obtain ⟨W, hW⟩ : ∃ z, (w.alloc (.cells #[.slice xa na ca, .slice xb nb cb, .bool u0, .bool u1, .int .i64 ld, .int .i64 tm, .int .i64 st] 29)).alloc (.cells #[.slice xa na ca, .slice xb nb cb, .bool u0, .bool u1, .int .i64 ld, .int .i64 tm, .int .i64 st] 29) = z := ⟨_, rfl⟩
    rw [hW] at hZ hB
    have HW := Lib.hid hW
    have HB := Lib.hid hB
    have HZ := Lib.hid hZ
    clear hW hB hZ
    go_enter Try.func29, Try.ntmps29
    go_wp2
    try unfold pcl
    rw [HW.out]
    have z0 := HZ.out.cell 0 rfl
    have z1 := HZ.out.cell 1 rfl
    have z2 := HZ.out.cell 2 rfl
    have z3 := HZ.out.cell 3 rfl
    have z4 := HZ.out.cell 4 rfl
    have z5 := HZ.out.cell 5 rfl
    have z6 := HZ.out.cell 6 rfl
    refine bodyPost_ret (v := .agg #[.slice xa na ca, .slice xb nb cb, .bool u0, .bool u1, .int .i64 ld, .int .i64 tm, .int .i64 st]) (by simp [results, Try.results29, go_sem, z0, z1, z2, z3, z4, z5, z6]) rfl ⟨rfl, HB.out⟩
end Go.Proofs.Ytlaighghagcjjaa
