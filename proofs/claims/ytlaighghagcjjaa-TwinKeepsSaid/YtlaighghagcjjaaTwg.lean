/- Package twin: Answer, Map. -/
import Derived.Test.YtlaighghagcjjaaTwf
namespace Go.Proofs.Ytlaighghagcjjaa
open Go.RowKit Go.Cor
set_option linter.unusedVariables false
set_option linter.unusedSimpArgs false

set_option maxRecDepth 100000 in
set_option maxHeartbeats 4000000 in
theorem tanswer0 (w : World) (B g : Nat) (S : Nat → Prop) (a b : List Cm) (u0 u1 : Bool) (tm st : Nat) (i : Nat) (c : Cm) (h : Tw w B g S ⟨a, b, u0, u1, false, tm, st⟩) (hi : i < st) (hc : a[i]? = some c) (hl : a.length ≤ 1000) :
    Calls Try.prog 19 #[pp g, .int .i64 (i : Int)] w fun e w' => e = .returned (.tuple #[.int .i64 (doN (repL [] (a.take i)) c : Int), derr (doK (repL [] (a.take i)) c)]) ∧ Below w.heap.size w w' := by
  obtain ⟨_, va, vb, h⟩ := h
  have hlt := (List.getElem?_eq_some_iff.1 hc).1
  obtain ⟨Y, hY, hidx, y8⟩ := cmd_own h.ra hc
  have hok : LOk (repL [] (a.take i)) 1000000 := (repL_ok (LOk.nil 1) (Nat.le_refl _) (a.take i)).more (by rw [List.length_take]; omega)
  have HK := Lib.hid hok
  obtain ⟨x, cap, rfl, hcap, _⟩ := ownsRow_slice h.ra
  have hx0 := (isX_cmd h.ra).take (j := i) (by dsimp only; omega)
  dsimp only at hx0 hcap
  rw [row_take ccl_len] at hx0
  have hx1 : IsX w 8 (.slice x i cap) (a.take i).length (row ccl (a.take i)) := by rw [List.length_take, Nat.min_eq_left (Nat.le_of_lt hlt)]; exact hx0
  have HX := Lib.hid (hx1.mono (below_drewN19 (Below.refl w.heap.size w) 1) (Nat.le_refl _))
  have hsl := fun W => slice_h_X (P := Try.prog) 8 x a.length cap 63 56 Try.underlying63 Try.sizeCmdD i (by omega) W
  have HY := Lib.hid y8
  have HLT := Lib.hid (show (a.take i).length ≤ 100000 from by rw [List.length_take]; omega)
  have k4 : w.cell? ⟨g, 4, none⟩ = some (.int .i64 0) := h.blk.cell 4 rfl
  have k6 : w.cell? ⟨g, 6, none⟩ = some (.int .i64 (st : Int)) := h.blk.cell 6 rfl
  have k1 : w.cell? ⟨g, 1, none⟩ = some (.slice x a.length cap) := h.blk.cell 1 rfl
  have h0 : ¬ (i : Int) < 0 := by omega
  have h2 : ¬ (i : Int) ≥ (st : Int) := by omega
  obtain ⟨N, hN⟩ : ∃ N, a.length = N := ⟨_, rfl⟩
  rw [hN] at k1 hsl hidx
  clear h hc hi hok hx0 hx1 y8 hY hN hl hlt
  go_enter Try.func19, Try.ntmps19
  go_wp2_with fail
  go_region
  go_wp2_with fail
  refine (dreplay _ _ _ HX.out HLT.out).mono ?_
  rintro e w3 ⟨g3, S3, rfl, h3, hb3⟩
  have HB3 := Lib.hid ((below_drewN19 (Below.refl w.heap.size w) 1).trans hb3)
  have HM3 := Lib.hid h3
  have HY3 := Lib.hid (HY.out.kept (Kept.of_below (S := fun _ => False) HB3.out (Nat.le_refl _)) (fun h => h))
  have HD3 := Lib.hid (ddo w3 _ g3 S3 _ c h3 HK.out)
  clear h3 hb3 k1 k4 k6
  obtain ⟨ck, cv, ce, ca, cn, c1, c2, c3⟩ := c
  obtain ⟨y0, y1, y2, y3, y4, y5, y6, y7⟩ := HY3.out
  unfold cval at HD3
  go_wp2_with fail
  refine HD3.out.mono ?_
  rintro e w4 ⟨rfl, h4⟩
  have HB4 := Lib.hid (show Below w.heap.size w w4 from by
    obtain ⟨S4, _, _, h6⟩ := h4.out
    exact Kept.below_trans HB3.out h6 HB3.out.size (fun k hk hs => by have := (HM3.out.lt hs).1; have e : (w.drewN 1).heap.size = w.heap.size := rfl; omega))
  clear h4
  go_wp2
  go_ret2
  exact ⟨rfl, HB4.out⟩
set_option maxRecDepth 100000 in
set_option maxHeartbeats 4000000 in
theorem tanswer1 (w : World) (B g : Nat) (S : Nat → Prop) (a b : List Cm) (u0 u1 : Bool) (tm st : Nat) (i : Nat) (c : Cm) (h : Tw w B g S ⟨a, b, u0, u1, true, tm, st⟩) (hi : i < st) (hc : b[i]? = some c) (hl : b.length ≤ 1000) :
    Calls Try.prog 19 #[pp g, .int .i64 (i : Int)] w fun e w' => e = .returned (.tuple #[.int .i64 (doN (repL [] (b.take i)) c : Int), derr (doK (repL [] (b.take i)) c)]) ∧ Below w.heap.size w w' := by
  obtain ⟨_, va, vb, h⟩ := h
  have hlt := (List.getElem?_eq_some_iff.1 hc).1
  obtain ⟨Y, hY, hidx, y8⟩ := cmd_own h.rb hc
  have hok : LOk (repL [] (b.take i)) 1000000 := (repL_ok (LOk.nil 1) (Nat.le_refl _) (b.take i)).more (by rw [List.length_take]; omega)
  have HK := Lib.hid hok
  obtain ⟨x, cap, rfl, hcap, _⟩ := ownsRow_slice h.rb
  have hx0 := (isX_cmd h.rb).take (j := i) (by dsimp only; omega)
  dsimp only at hx0 hcap
  rw [row_take ccl_len] at hx0
  have hx1 : IsX w 8 (.slice x i cap) (b.take i).length (row ccl (b.take i)) := by rw [List.length_take, Nat.min_eq_left (Nat.le_of_lt hlt)]; exact hx0
  have HX := Lib.hid (hx1.mono (below_drewN19 (Below.refl w.heap.size w) 1) (Nat.le_refl _))
  have hsl := fun W => slice_h_X (P := Try.prog) 8 x b.length cap 63 56 Try.underlying63 Try.sizeCmdD i (by omega) W
  have HY := Lib.hid y8
  have HLT := Lib.hid (show (b.take i).length ≤ 100000 from by rw [List.length_take]; omega)
  have k4 : w.cell? ⟨g, 4, none⟩ = some (.int .i64 1) := h.blk.cell 4 rfl
  have k6 : w.cell? ⟨g, 6, none⟩ = some (.int .i64 (st : Int)) := h.blk.cell 6 rfl
  have k1 : w.cell? ⟨g, 3, none⟩ = some (.slice x b.length cap) := h.blk.cell 3 rfl
  have h0 : ¬ (i : Int) < 0 := by omega
  have h2 : ¬ (i : Int) ≥ (st : Int) := by omega
  obtain ⟨N, hN⟩ : ∃ N, b.length = N := ⟨_, rfl⟩
  rw [hN] at k1 hsl hidx
  clear h hc hi hok hx0 hx1 y8 hY hN hl hlt
  go_enter Try.func19, Try.ntmps19
  go_wp2_with fail
  go_region
  go_wp2_with fail
  refine (dreplay _ _ _ HX.out HLT.out).mono ?_
  rintro e w3 ⟨g3, S3, rfl, h3, hb3⟩
  have HB3 := Lib.hid ((below_drewN19 (Below.refl w.heap.size w) 1).trans hb3)
  have HM3 := Lib.hid h3
  have HY3 := Lib.hid (HY.out.kept (Kept.of_below (S := fun _ => False) HB3.out (Nat.le_refl _)) (fun h => h))
  have HD3 := Lib.hid (ddo w3 _ g3 S3 _ c h3 HK.out)
  clear h3 hb3 k1 k4 k6
  obtain ⟨ck, cv, ce, ca, cn, c1, c2, c3⟩ := c
  obtain ⟨y0, y1, y2, y3, y4, y5, y6, y7⟩ := HY3.out
  unfold cval at HD3
  go_wp2_with fail
  refine HD3.out.mono ?_
  rintro e w4 ⟨rfl, h4⟩
  have HB4 := Lib.hid (show Below w.heap.size w w4 from by
    obtain ⟨S4, _, _, h6⟩ := h4.out
    exact Kept.below_trans HB3.out h6 HB3.out.size (fun k hk hs => by have := (HM3.out.lt hs).1; have e : (w.drewN 1).heap.size = w.heap.size := rfl; omega))
  clear h4
  go_wp2
  go_ret2
  exact ⟨rfl, HB4.out⟩
set_option maxRecDepth 100000 in
set_option maxHeartbeats 4000000 in
theorem tmap0 (w : World) (B g : Nat) (S : Nat → Prop) (p : Pr) (h : Tw w B g S p) (hl : p.a.length ≤ 1000) :
    Calls Try.prog 16 #[pp g, .int .i64 0] w fun e w' => ∃ g' S', e = .returned (pp g') ∧ Mp w' w.heap.size g' S' (repL [] p.a) ∧ Below w.heap.size w w' := by
  obtain ⟨_, va, vb, h⟩ := h
  have HC := Lib.hid (tcheck_ok w g false)
  rw [show ((sn false : Nat) : Int) = 0 from rfl] at HC
  have k1 : w.cell? ⟨g, 1, none⟩ = some va := h.blk.cell 1 rfl
  have HR := Lib.hid (dreplay w va p.a (isX_cmd h.ra) (Nat.le_trans hl (by decide)))
  clear h hl
  go_enter Try.func16, Try.ntmps16
  go_wp2_with fail
  refine HC.out.mono ?_
  rintro e w1 ⟨rfl, rfl⟩
  go_wp2_with fail
  refine HR.out.mono ?_
  rintro e w3 ⟨g3, S3, rfl, h3, hb3⟩
  have HM3 := Lib.hid h3
  have HB3 := Lib.hid hb3
  clear h3 hb3 k1
  go_wp2
  go_ret
  exact ⟨g3, S3, rfl, HM3.out, HB3.out⟩
set_option maxRecDepth 100000 in
set_option maxHeartbeats 4000000 in
theorem tmap1 (w : World) (B g : Nat) (S : Nat → Prop) (p : Pr) (h : Tw w B g S p) (hl : p.b.length ≤ 1000) :
    Calls Try.prog 16 #[pp g, .int .i64 1] w fun e w' => ∃ g' S', e = .returned (pp g') ∧ Mp w' w.heap.size g' S' (repL [] p.b) ∧ Below w.heap.size w w' := by
  obtain ⟨_, va, vb, h⟩ := h
  have HC := Lib.hid (tcheck_ok w g true)
  rw [show ((sn true : Nat) : Int) = 1 from rfl] at HC
  have k1 : w.cell? ⟨g, 3, none⟩ = some vb := h.blk.cell 3 rfl
  have HR := Lib.hid (dreplay w vb p.b (isX_cmd h.rb) (Nat.le_trans hl (by decide)))
  clear h hl
  go_enter Try.func16, Try.ntmps16
  go_wp2_with fail
  refine HC.out.mono ?_
  rintro e w1 ⟨rfl, rfl⟩
  go_wp2_with fail
  refine HR.out.mono ?_
  rintro e w3 ⟨g3, S3, rfl, h3, hb3⟩
  have HM3 := Lib.hid h3
  have HB3 := Lib.hid hb3
  clear h3 hb3 k1
  go_wp2
  go_ret
  exact ⟨g3, S3, rfl, HM3.out, HB3.out⟩
theorem tmap (w : World) (B g : Nat) (S : Nat → Prop) (p : Pr) (s : Bool) (h : Tw w B g S p) (hl : p.Le 1000) :
    Calls Try.prog 16 #[pp g, .int .i64 (sn s : Int)] w fun e w' => ∃ g' S', e = .returned (pp g') ∧ Mp w' w.heap.size g' S' (repL [] (p.log s)) ∧ Below w.heap.size w w' := by
  cases s
  · exact tmap0 w B g S p h (hl.log false)
  · exact tmap1 w B g S p h (hl.log true)
theorem tanswer (w : World) (B g : Nat) (S : Nat → Prop) (p : Pr) (i : Nat) (h : Tw w B g S p) (ho : p.Ok) (hl : p.Le 1000) (hi : i < p.st) :
    Calls Try.prog 19 #[pp g, .int .i64 (i : Int)] w fun e w' => e = .returned (.tuple #[.int .i64 (ansN (p.log p.ld) i : Int), derr (ansK (p.log p.ld) i)]) ∧ Below w.heap.size w w' := by
  have hst := ho.st
  have hll := hl.log p.ld
  obtain ⟨c, hc⟩ : ∃ c, (p.log p.ld)[i]? = some c := ⟨_, List.getElem?_eq_getElem (by omega)⟩
  have e1 : ansN (p.log p.ld) i = doN (repL [] ((p.log p.ld).take i)) c := by unfold ansN; rw [hc]
  have e2 : ansK (p.log p.ld) i = doK (repL [] ((p.log p.ld).take i)) c := by unfold ansK; rw [hc]
  rw [e1, e2]
  obtain ⟨a, b, u0, u1, ld, tm, st⟩ := p
  cases ld
  · exact tanswer0 w B g S a b u0 u1 tm st i c h hi hc hll
  · exact tanswer1 w B g S a b u0 u1 tm st i c h hi hc hll
end Go.Proofs.Ytlaighghagcjjaa
