/- The document's net (layer 15) by contracts: Do. -/
import Derived.Test.YtofhbnnheadmlaaRn
import Derived.Deep.CutRange
import Derived.Deep.RegionHeld3
import Derived.RegionTactic
import Derived.StillTailTactics
set_option linter.unusedVariables false
set_option linter.unusedSimpArgs false
namespace Go.Proofs.Ytofhbnnheadmlaa
open Go.RowKit Go.Cor

def set14 (w : World) (A B : Nat) (u0 u1 v0 v1 v2 v3 v4 v5 v6 v7 v8 v9 v10 v11 : Value) : World := ((((((((((((((w.setCell ⟨A, 0, none⟩ u0).setCell ⟨A, 1, none⟩ u1).setCell ⟨B, 0, none⟩ v0).setCell ⟨B, 1, none⟩ v1).setCell ⟨B, 2, none⟩ v2).setCell ⟨B, 3, none⟩ v3).setCell ⟨B, 4, none⟩ v4).setCell ⟨B, 5, none⟩ v5).setCell ⟨B, 6, none⟩ v6).setCell ⟨B, 7, none⟩ v7).setCell ⟨B, 8, none⟩ v8).setCell ⟨B, 9, none⟩ v9).setCell ⟨B, 10, none⟩ v10).setCell ⟨B, 11, none⟩ v11)
theorem fin14 {w0 w : World} {A B : Nat} {a0 a1 b0 b1 b2 b3 b4 b5 b6 b7 b8 b9 b10 b11 : Value} {T T' : TypeId} (hA : Blk w A #[a0, a1] T) (hB : Blk w B #[b0, b1, b2, b3, b4, b5, b6, b7, b8, b9, b10, b11] T') (hne : A ≠ B) (hb : Below w0.heap.size w0 w) (h1 : w0.heap.size ≤ A) (h2 : w0.heap.size ≤ B) (u0 u1 v0 v1 v2 v3 v4 v5 v6 v7 v8 v9 v10 v11 : Value) :
    Blk (set14 w A B u0 u1 v0 v1 v2 v3 v4 v5 v6 v7 v8 v9 v10 v11) A #[u0, u1] T ∧ Blk (set14 w A B u0 u1 v0 v1 v2 v3 v4 v5 v6 v7 v8 v9 v10 v11) B #[v0, v1, v2, v3, v4, v5, v6, v7, v8, v9, v10, v11] T' ∧ Below w0.heap.size w0 (set14 w A B u0 u1 v0 v1 v2 v3 v4 v5 v6 v7 v8 v9 v10 v11) ∧ Kept (fun j => j = A ∨ j = B) w (set14 w A B u0 u1 v0 v1 v2 v3 v4 v5 v6 v7 v8 v9 v10 v11) := by
  have hne' : B ≠ A := fun e => hne e.symm
  refine ⟨?_, ?_, ?_, ?_⟩
  · unfold set14
    have e := (hA.set 0 u0).set 1 u1
    simp at e
    exact ((((((((((((e.other (a := ⟨B, 0, none⟩) hne' v0).other (a := ⟨B, 1, none⟩) hne' v1).other (a := ⟨B, 2, none⟩) hne' v2).other (a := ⟨B, 3, none⟩) hne' v3).other (a := ⟨B, 4, none⟩) hne' v4).other (a := ⟨B, 5, none⟩) hne' v5).other (a := ⟨B, 6, none⟩) hne' v6).other (a := ⟨B, 7, none⟩) hne' v7).other (a := ⟨B, 8, none⟩) hne' v8).other (a := ⟨B, 9, none⟩) hne' v9).other (a := ⟨B, 10, none⟩) hne' v10).other (a := ⟨B, 11, none⟩) hne' v11)
  · unfold set14
    have e := (hB.other (a := ⟨A, 0, none⟩) hne u0).other (a := ⟨A, 1, none⟩) hne u1
    have e1 := ((((((e.set 0 v0).set 1 v1).set 2 v2).set 3 v3).set 4 v4).set 5 v5)
    simp at e1
    have e2 := ((((((e1.set 6 v6).set 7 v7).set 8 v8).set 9 v9).set 10 v10).set 11 v11)
    simp at e2
    exact e2
  · unfold set14
    exact ((((((((((((((hb.setCell (p := ⟨A, 0, none⟩) h1 u0).setCell (p := ⟨A, 1, none⟩) h1 u1).setCell (p := ⟨B, 0, none⟩) h2 v0).setCell (p := ⟨B, 1, none⟩) h2 v1).setCell (p := ⟨B, 2, none⟩) h2 v2).setCell (p := ⟨B, 3, none⟩) h2 v3).setCell (p := ⟨B, 4, none⟩) h2 v4).setCell (p := ⟨B, 5, none⟩) h2 v5).setCell (p := ⟨B, 6, none⟩) h2 v6).setCell (p := ⟨B, 7, none⟩) h2 v7).setCell (p := ⟨B, 8, none⟩) h2 v8).setCell (p := ⟨B, 9, none⟩) h2 v9).setCell (p := ⟨B, 10, none⟩) h2 v10).setCell (p := ⟨B, 11, none⟩) h2 v11)
  · unfold set14
    exact (((((((((((((((Kept.refl (fun j => j = A ∨ j = B) w).setCell (p := ⟨A, 0, none⟩) (.inl (.inl rfl)) u0).setCell (p := ⟨A, 1, none⟩) (.inl (.inl rfl)) u1).setCell (p := ⟨B, 0, none⟩) (.inl (.inr rfl)) v0).setCell (p := ⟨B, 1, none⟩) (.inl (.inr rfl)) v1).setCell (p := ⟨B, 2, none⟩) (.inl (.inr rfl)) v2).setCell (p := ⟨B, 3, none⟩) (.inl (.inr rfl)) v3).setCell (p := ⟨B, 4, none⟩) (.inl (.inr rfl)) v4).setCell (p := ⟨B, 5, none⟩) (.inl (.inr rfl)) v5).setCell (p := ⟨B, 6, none⟩) (.inl (.inr rfl)) v6).setCell (p := ⟨B, 7, none⟩) (.inl (.inr rfl)) v7).setCell (p := ⟨B, 8, none⟩) (.inl (.inr rfl)) v8).setCell (p := ⟨B, 9, none⟩) (.inl (.inr rfl)) v9).setCell (p := ⟨B, 10, none⟩) (.inl (.inr rfl)) v10).setCell (p := ⟨B, 11, none⟩) (.inl (.inr rfl)) v11)
set_option maxRecDepth 100000 in
set_option maxHeartbeats 2000000 in
theorem rdo_refused (xl : Option Addr) (ll cl : Nat) (xc : Option Addr) (lc cc : Nat) (ai ak : Int) (fr tt kd vo li : Int) (id : Nat) (co : Int) (has : Bool) (key ck : Nat) (gn : Bool) (x : Option Addr) (L c : Nat) (C : Nat) (w : World) (hC : C ≠ 0)
    (hck : ∀ wx, Below w.heap.size w wx → Calls Try.prog 23 #[.agg #[.int .i64 fr, .int .i64 tt, .int .i64 kd, .int .i64 vo, .int .i64 li, .int .u64 (id : Int), .int .i64 co, .bool has, .int .u64 (key : Int), .int .u32 (ck : Int), .bool gn, .slice x L c]] wx fun e w' => e = .returned (.int .i64 (C : Nat)) ∧ Below wx.heap.size wx w') :
    Calls Try.prog 9 #[.agg #[.slice xl ll cl, .slice xc lc cc], .agg #[.int .i64 0, .int .i64 ai, .int .i64 ak, .int .i64 fr, .int .i64 tt, .int .i64 kd, .int .i64 vo, .int .i64 li, .int .u64 (id : Int), .int .i64 co, .bool has, .int .u64 (key : Int), .int .u32 (ck : Int), .bool gn, .slice x L c]] w fun e w' => e = .returned (.tuple #[.agg #[.slice xl ll cl, .slice xc lc cc], .agg #[.int .i64 0, .int .i64 0, .int .i64 0, .int .i64 0, .int .i64 0, .int .u64 0, .int .i64 0, .bool false, .int .u64 0, .int .u32 0, .bool false, .slice none 0 0], .int .i64 (C : Nat)]) ∧ Below w.heap.size w w' := by
  have hB0 := Below.refl w.heap.size w
  have hB1 := hB0.alloc (by simp) (.cells #[.slice xl ll cl, .slice xc lc cc] 38)
  have hB2 := hB1.alloc (by simp) (.cells #[.int .i64 0, .int .i64 ai, .int .i64 ak, .int .i64 fr, .int .i64 tt, .int .i64 kd, .int .i64 vo, .int .i64 li, .int .u64 (id : Int), .int .i64 co, .bool has, .int .u64 (key : Int), .int .u32 (ck : Int), .bool gn, .slice x L c] 32)
  have hB3 := hB2.alloc (by simp; omega) (.cells #[.slice none 0 0, .slice none 0 0] 38)
  have hB4 := hB3.alloc (by simp; omega) (.cells #[.int .i64 0, .int .i64 0, .int .i64 0, .int .i64 0, .int .i64 0, .int .u64 0, .int .i64 0, .bool false, .int .u64 0, .int .u32 0, .bool false, .slice none 0 0] 30)
  have hB5 := hB4.alloc (by simp; omega) (.cells #[.int .i64 0, .int .i64 0, .int .i64 0, .int .i64 0, .int .i64 0, .int .u64 0, .int .i64 0, .bool false, .int .u64 0, .int .u32 0, .bool false, .slice none 0 0] 30)
  have hx0 := (((((Blk.new w #[.slice xl ll cl, .slice xc lc cc] 38).alloc (.cells #[.int .i64 0, .int .i64 ai, .int .i64 ak, .int .i64 fr, .int .i64 tt, .int .i64 kd, .int .i64 vo, .int .i64 li, .int .u64 (id : Int), .int .i64 co, .bool has, .int .u64 (key : Int), .int .u32 (ck : Int), .bool gn, .slice x L c] 32)).alloc (.cells #[.slice none 0 0, .slice none 0 0] 38)).alloc (.cells #[.int .i64 0, .int .i64 0, .int .i64 0, .int .i64 0, .int .i64 0, .int .u64 0, .int .i64 0, .bool false, .int .u64 0, .int .u32 0, .bool false, .slice none 0 0] 30)).alloc (.cells #[.int .i64 0, .int .i64 0, .int .i64 0, .int .i64 0, .int .i64 0, .int .u64 0, .int .i64 0, .bool false, .int .u64 0, .int .u32 0, .bool false, .slice none 0 0] 30))
  have hx1 := ((((Blk.new (w.alloc (.cells #[.slice xl ll cl, .slice xc lc cc] 38)) #[.int .i64 0, .int .i64 ai, .int .i64 ak, .int .i64 fr, .int .i64 tt, .int .i64 kd, .int .i64 vo, .int .i64 li, .int .u64 (id : Int), .int .i64 co, .bool has, .int .u64 (key : Int), .int .u32 (ck : Int), .bool gn, .slice x L c] 32).alloc (.cells #[.slice none 0 0, .slice none 0 0] 38)).alloc (.cells #[.int .i64 0, .int .i64 0, .int .i64 0, .int .i64 0, .int .i64 0, .int .u64 0, .int .i64 0, .bool false, .int .u64 0, .int .u32 0, .bool false, .slice none 0 0] 30)).alloc (.cells #[.int .i64 0, .int .i64 0, .int .i64 0, .int .i64 0, .int .i64 0, .int .u64 0, .int .i64 0, .bool false, .int .u64 0, .int .u32 0, .bool false, .slice none 0 0] 30))
  rw [show (w.alloc (.cells #[.slice xl ll cl, .slice xc lc cc] 38)).heap.size = w.heap.size + 1 by simp] at hx1
  have hx2 := (((Blk.new ((w.alloc (.cells #[.slice xl ll cl, .slice xc lc cc] 38)).alloc (.cells #[.int .i64 0, .int .i64 ai, .int .i64 ak, .int .i64 fr, .int .i64 tt, .int .i64 kd, .int .i64 vo, .int .i64 li, .int .u64 (id : Int), .int .i64 co, .bool has, .int .u64 (key : Int), .int .u32 (ck : Int), .bool gn, .slice x L c] 32)) #[.slice none 0 0, .slice none 0 0] 38).alloc (.cells #[.int .i64 0, .int .i64 0, .int .i64 0, .int .i64 0, .int .i64 0, .int .u64 0, .int .i64 0, .bool false, .int .u64 0, .int .u32 0, .bool false, .slice none 0 0] 30)).alloc (.cells #[.int .i64 0, .int .i64 0, .int .i64 0, .int .i64 0, .int .i64 0, .int .u64 0, .int .i64 0, .bool false, .int .u64 0, .int .u32 0, .bool false, .slice none 0 0] 30))
  rw [show ((w.alloc (.cells #[.slice xl ll cl, .slice xc lc cc] 38)).alloc (.cells #[.int .i64 0, .int .i64 ai, .int .i64 ak, .int .i64 fr, .int .i64 tt, .int .i64 kd, .int .i64 vo, .int .i64 li, .int .u64 (id : Int), .int .i64 co, .bool has, .int .u64 (key : Int), .int .u32 (ck : Int), .bool gn, .slice x L c] 32)).heap.size = w.heap.size + 1 + 1 by simp] at hx2
  have hx3 := ((Blk.new (((w.alloc (.cells #[.slice xl ll cl, .slice xc lc cc] 38)).alloc (.cells #[.int .i64 0, .int .i64 ai, .int .i64 ak, .int .i64 fr, .int .i64 tt, .int .i64 kd, .int .i64 vo, .int .i64 li, .int .u64 (id : Int), .int .i64 co, .bool has, .int .u64 (key : Int), .int .u32 (ck : Int), .bool gn, .slice x L c] 32)).alloc (.cells #[.slice none 0 0, .slice none 0 0] 38)) #[.int .i64 0, .int .i64 0, .int .i64 0, .int .i64 0, .int .i64 0, .int .u64 0, .int .i64 0, .bool false, .int .u64 0, .int .u32 0, .bool false, .slice none 0 0] 30).alloc (.cells #[.int .i64 0, .int .i64 0, .int .i64 0, .int .i64 0, .int .i64 0, .int .u64 0, .int .i64 0, .bool false, .int .u64 0, .int .u32 0, .bool false, .slice none 0 0] 30))
  rw [show (((w.alloc (.cells #[.slice xl ll cl, .slice xc lc cc] 38)).alloc (.cells #[.int .i64 0, .int .i64 ai, .int .i64 ak, .int .i64 fr, .int .i64 tt, .int .i64 kd, .int .i64 vo, .int .i64 li, .int .u64 (id : Int), .int .i64 co, .bool has, .int .u64 (key : Int), .int .u32 (ck : Int), .bool gn, .slice x L c] 32)).alloc (.cells #[.slice none 0 0, .slice none 0 0] 38)).heap.size = w.heap.size + 1 + 1 + 1 by simp] at hx3
  have hx4 := (Blk.new ((((w.alloc (.cells #[.slice xl ll cl, .slice xc lc cc] 38)).alloc (.cells #[.int .i64 0, .int .i64 ai, .int .i64 ak, .int .i64 fr, .int .i64 tt, .int .i64 kd, .int .i64 vo, .int .i64 li, .int .u64 (id : Int), .int .i64 co, .bool has, .int .u64 (key : Int), .int .u32 (ck : Int), .bool gn, .slice x L c] 32)).alloc (.cells #[.slice none 0 0, .slice none 0 0] 38)).alloc (.cells #[.int .i64 0, .int .i64 0, .int .i64 0, .int .i64 0, .int .i64 0, .int .u64 0, .int .i64 0, .bool false, .int .u64 0, .int .u32 0, .bool false, .slice none 0 0] 30)) #[.int .i64 0, .int .i64 0, .int .i64 0, .int .i64 0, .int .i64 0, .int .u64 0, .int .i64 0, .bool false, .int .u64 0, .int .u32 0, .bool false, .slice none 0 0] 30)
  rw [show ((((w.alloc (.cells #[.slice xl ll cl, .slice xc lc cc] 38)).alloc (.cells #[.int .i64 0, .int .i64 ai, .int .i64 ak, .int .i64 fr, .int .i64 tt, .int .i64 kd, .int .i64 vo, .int .i64 li, .int .u64 (id : Int), .int .i64 co, .bool has, .int .u64 (key : Int), .int .u32 (ck : Int), .bool gn, .slice x L c] 32)).alloc (.cells #[.slice none 0 0, .slice none 0 0] 38)).alloc (.cells #[.int .i64 0, .int .i64 0, .int .i64 0, .int .i64 0, .int .i64 0, .int .u64 0, .int .i64 0, .bool false, .int .u64 0, .int .u32 0, .bool false, .slice none 0 0] 30)).heap.size = w.heap.size + 1 + 1 + 1 + 1 by simp] at hx4
  have HCK := Lib.hid (hck _ hB5)
  have k1 : ((C : Int) != 0) = true := bne_iff_ne.2 (by omega)
  have HB5 := Lib.hid hB5
  have HX0 := Lib.hid hx0
  have HX1 := Lib.hid hx1
  have HX2 := Lib.hid hx2
  have HX3 := Lib.hid hx3
  have HX4 := Lib.hid hx4
  clear hck hC hB0 hB1 hB2 hB3 hB4 hB5 hx0 hx1 hx2 hx3 hx4
  go_enter Try.func9, Try.ntmps9
  go_wp2_with fail
  refine HCK.out.mono ?_
  rintro e w1 ⟨rfl, hb1⟩
  have HY0 := Lib.hid (HX0.out.below hb1 HX0.out.lt)
  have HY2 := Lib.hid (HX2.out.below hb1 HX2.out.lt)
  have HY3 := Lib.hid (HX3.out.below hb1 HX3.out.lt)
  have HY4 := Lib.hid (HX4.out.below hb1 HX4.out.lt)
  have HB6 := Lib.hid (HB5.out.trans (hb1.mono HB5.out.size))
  clear hb1
  go_upto_region 5 with fail
  have HFN := fin14 HY2.out HY3.out (by omega) HB6.out (by omega) (by omega) (.slice xl ll cl) (.slice xc lc cc) (.int .i64 0) (.int .i64 0) (.int .i64 0) (.int .i64 0) (.int .i64 0) (.int .u64 0) (.int .i64 0) (.bool false) (.int .u64 0) (.int .u32 0) (.bool false) (.slice none 0 0)
  obtain ⟨wf, hwf⟩ : ∃ z, set14 w1 (w.heap.size + 1 + 1) (w.heap.size + 1 + 1 + 1) (.slice xl ll cl) (.slice xc lc cc) (.int .i64 0) (.int .i64 0) (.int .i64 0) (.int .i64 0) (.int .i64 0) (.int .u64 0) (.int .i64 0) (.bool false) (.int .u64 0) (.int .u32 0) (.bool false) (.slice none 0 0) = z := ⟨_, rfl⟩
  rw [hwf] at HFN
  unfold set14 at hwf
  have HWF := Lib.hid hwf
  have HFN := Lib.hid HFN
  clear hwf
  have p0 := HY0.out.cell 0 rfl
  have p1 := HY0.out.cell 1 rfl
  have s0 := HY4.out.cell 0 rfl
  have s1 := HY4.out.cell 1 rfl
  have s2 := HY4.out.cell 2 rfl
  have s3 := HY4.out.cell 3 rfl
  have s4 := HY4.out.cell 4 rfl
  have s5 := HY4.out.cell 5 rfl
  have s6 := HY4.out.cell 6 rfl
  have s7 := HY4.out.cell 7 rfl
  have s8 := HY4.out.cell 8 rfl
  have s9 := HY4.out.cell 9 rfl
  have s10 := HY4.out.cell 10 rfl
  have s11 := HY4.out.cell 11 rfl
  have q0 := HY2.out.cell 0 rfl
  have q1 := HY2.out.cell 1 rfl
  have r0 := HY3.out.cell 0 rfl
  have r1 := HY3.out.cell 1 rfl
  have r2 := HY3.out.cell 2 rfl
  have r3 := HY3.out.cell 3 rfl
  have r4 := HY3.out.cell 4 rfl
  have r5 := HY3.out.cell 5 rfl
  have r6 := HY3.out.cell 6 rfl
  have r7 := HY3.out.cell 7 rfl
  have r8 := HY3.out.cell 8 rfl
  have r9 := HY3.out.cell 9 rfl
  have r10 := HY3.out.cell 10 rfl
  have r11 := HY3.out.cell 11 rfl
  have qf := fun j => HY2.out.free j
  have rf := fun j => HY3.out.free j
  go_region
  go_wp2
  rw [HWF.out]
  obtain ⟨g1, g2, g3, g4⟩ := HFN.out
  have f0 := g1.cell 0 rfl
  have f1 := g1.cell 1 rfl
  have e0 := g2.cell 0 rfl
  have e1 := g2.cell 1 rfl
  have e2 := g2.cell 2 rfl
  have e3 := g2.cell 3 rfl
  have e4 := g2.cell 4 rfl
  have e5 := g2.cell 5 rfl
  have e6 := g2.cell 6 rfl
  have e7 := g2.cell 7 rfl
  have e8 := g2.cell 8 rfl
  have e9 := g2.cell 9 rfl
  have e10 := g2.cell 10 rfl
  have e11 := g2.cell 11 rfl
  exact bodyPost_ret (v := .tuple #[.agg #[.slice xl ll cl, .slice xc lc cc], .agg #[.int .i64 0, .int .i64 0, .int .i64 0, .int .i64 0, .int .i64 0, .int .u64 0, .int .i64 0, .bool false, .int .u64 0, .int .u32 0, .bool false, .slice none 0 0], .int .i64 (C : Int)]) (by simp [results, Try.results9, go_sem, f0, f1, e0, e1, e2, e3, e4, e5, e6, e7, e8, e9, e10, e11]) rfl ⟨rfl, g3.drew⟩
set_option maxRecDepth 100000 in
set_option maxHeartbeats 2000000 in
theorem rdo_full (xl : Option Addr) (ll cl : Nat) (xc : Option Addr) (lc cc : Nat) (ai ak : Int) (fr tt kd vo li : Int) (id : Nat) (co : Int) (has : Bool) (key ck : Nat) (gn : Bool) (x : Option Addr) (L c : Nat) (w : World) (hl : 4096 ≤ ll)
    (hck : ∀ wx, Below w.heap.size w wx → Calls Try.prog 23 #[.agg #[.int .i64 fr, .int .i64 tt, .int .i64 kd, .int .i64 vo, .int .i64 li, .int .u64 (id : Int), .int .i64 co, .bool has, .int .u64 (key : Int), .int .u32 (ck : Int), .bool gn, .slice x L c]] wx fun e w' => e = .returned (.int .i64 0) ∧ Below wx.heap.size wx w') :
    Calls Try.prog 9 #[.agg #[.slice xl ll cl, .slice xc lc cc], .agg #[.int .i64 0, .int .i64 ai, .int .i64 ak, .int .i64 fr, .int .i64 tt, .int .i64 kd, .int .i64 vo, .int .i64 li, .int .u64 (id : Int), .int .i64 co, .bool has, .int .u64 (key : Int), .int .u32 (ck : Int), .bool gn, .slice x L c]] w fun e w' => e = .returned (.tuple #[.agg #[.slice xl ll cl, .slice xc lc cc], .agg #[.int .i64 0, .int .i64 0, .int .i64 0, .int .i64 0, .int .i64 0, .int .u64 0, .int .i64 0, .bool false, .int .u64 0, .int .u32 0, .bool false, .slice none 0 0], .int .i64 11]) ∧ Below w.heap.size w w' := by
  have hB0 := Below.refl w.heap.size w
  have hB1 := hB0.alloc (by simp) (.cells #[.slice xl ll cl, .slice xc lc cc] 38)
  have hB2 := hB1.alloc (by simp) (.cells #[.int .i64 0, .int .i64 ai, .int .i64 ak, .int .i64 fr, .int .i64 tt, .int .i64 kd, .int .i64 vo, .int .i64 li, .int .u64 (id : Int), .int .i64 co, .bool has, .int .u64 (key : Int), .int .u32 (ck : Int), .bool gn, .slice x L c] 32)
  have hB3 := hB2.alloc (by simp; omega) (.cells #[.slice none 0 0, .slice none 0 0] 38)
  have hB4 := hB3.alloc (by simp; omega) (.cells #[.int .i64 0, .int .i64 0, .int .i64 0, .int .i64 0, .int .i64 0, .int .u64 0, .int .i64 0, .bool false, .int .u64 0, .int .u32 0, .bool false, .slice none 0 0] 30)
  have hB5 := hB4.alloc (by simp; omega) (.cells #[.int .i64 0, .int .i64 0, .int .i64 0, .int .i64 0, .int .i64 0, .int .u64 0, .int .i64 0, .bool false, .int .u64 0, .int .u32 0, .bool false, .slice none 0 0] 30)
  have hx0 := (((((Blk.new w #[.slice xl ll cl, .slice xc lc cc] 38).alloc (.cells #[.int .i64 0, .int .i64 ai, .int .i64 ak, .int .i64 fr, .int .i64 tt, .int .i64 kd, .int .i64 vo, .int .i64 li, .int .u64 (id : Int), .int .i64 co, .bool has, .int .u64 (key : Int), .int .u32 (ck : Int), .bool gn, .slice x L c] 32)).alloc (.cells #[.slice none 0 0, .slice none 0 0] 38)).alloc (.cells #[.int .i64 0, .int .i64 0, .int .i64 0, .int .i64 0, .int .i64 0, .int .u64 0, .int .i64 0, .bool false, .int .u64 0, .int .u32 0, .bool false, .slice none 0 0] 30)).alloc (.cells #[.int .i64 0, .int .i64 0, .int .i64 0, .int .i64 0, .int .i64 0, .int .u64 0, .int .i64 0, .bool false, .int .u64 0, .int .u32 0, .bool false, .slice none 0 0] 30))
  have hx1 := ((((Blk.new (w.alloc (.cells #[.slice xl ll cl, .slice xc lc cc] 38)) #[.int .i64 0, .int .i64 ai, .int .i64 ak, .int .i64 fr, .int .i64 tt, .int .i64 kd, .int .i64 vo, .int .i64 li, .int .u64 (id : Int), .int .i64 co, .bool has, .int .u64 (key : Int), .int .u32 (ck : Int), .bool gn, .slice x L c] 32).alloc (.cells #[.slice none 0 0, .slice none 0 0] 38)).alloc (.cells #[.int .i64 0, .int .i64 0, .int .i64 0, .int .i64 0, .int .i64 0, .int .u64 0, .int .i64 0, .bool false, .int .u64 0, .int .u32 0, .bool false, .slice none 0 0] 30)).alloc (.cells #[.int .i64 0, .int .i64 0, .int .i64 0, .int .i64 0, .int .i64 0, .int .u64 0, .int .i64 0, .bool false, .int .u64 0, .int .u32 0, .bool false, .slice none 0 0] 30))
  rw [show (w.alloc (.cells #[.slice xl ll cl, .slice xc lc cc] 38)).heap.size = w.heap.size + 1 by simp] at hx1
  have hx2 := (((Blk.new ((w.alloc (.cells #[.slice xl ll cl, .slice xc lc cc] 38)).alloc (.cells #[.int .i64 0, .int .i64 ai, .int .i64 ak, .int .i64 fr, .int .i64 tt, .int .i64 kd, .int .i64 vo, .int .i64 li, .int .u64 (id : Int), .int .i64 co, .bool has, .int .u64 (key : Int), .int .u32 (ck : Int), .bool gn, .slice x L c] 32)) #[.slice none 0 0, .slice none 0 0] 38).alloc (.cells #[.int .i64 0, .int .i64 0, .int .i64 0, .int .i64 0, .int .i64 0, .int .u64 0, .int .i64 0, .bool false, .int .u64 0, .int .u32 0, .bool false, .slice none 0 0] 30)).alloc (.cells #[.int .i64 0, .int .i64 0, .int .i64 0, .int .i64 0, .int .i64 0, .int .u64 0, .int .i64 0, .bool false, .int .u64 0, .int .u32 0, .bool false, .slice none 0 0] 30))
  rw [show ((w.alloc (.cells #[.slice xl ll cl, .slice xc lc cc] 38)).alloc (.cells #[.int .i64 0, .int .i64 ai, .int .i64 ak, .int .i64 fr, .int .i64 tt, .int .i64 kd, .int .i64 vo, .int .i64 li, .int .u64 (id : Int), .int .i64 co, .bool has, .int .u64 (key : Int), .int .u32 (ck : Int), .bool gn, .slice x L c] 32)).heap.size = w.heap.size + 1 + 1 by simp] at hx2
  have hx3 := ((Blk.new (((w.alloc (.cells #[.slice xl ll cl, .slice xc lc cc] 38)).alloc (.cells #[.int .i64 0, .int .i64 ai, .int .i64 ak, .int .i64 fr, .int .i64 tt, .int .i64 kd, .int .i64 vo, .int .i64 li, .int .u64 (id : Int), .int .i64 co, .bool has, .int .u64 (key : Int), .int .u32 (ck : Int), .bool gn, .slice x L c] 32)).alloc (.cells #[.slice none 0 0, .slice none 0 0] 38)) #[.int .i64 0, .int .i64 0, .int .i64 0, .int .i64 0, .int .i64 0, .int .u64 0, .int .i64 0, .bool false, .int .u64 0, .int .u32 0, .bool false, .slice none 0 0] 30).alloc (.cells #[.int .i64 0, .int .i64 0, .int .i64 0, .int .i64 0, .int .i64 0, .int .u64 0, .int .i64 0, .bool false, .int .u64 0, .int .u32 0, .bool false, .slice none 0 0] 30))
  rw [show (((w.alloc (.cells #[.slice xl ll cl, .slice xc lc cc] 38)).alloc (.cells #[.int .i64 0, .int .i64 ai, .int .i64 ak, .int .i64 fr, .int .i64 tt, .int .i64 kd, .int .i64 vo, .int .i64 li, .int .u64 (id : Int), .int .i64 co, .bool has, .int .u64 (key : Int), .int .u32 (ck : Int), .bool gn, .slice x L c] 32)).alloc (.cells #[.slice none 0 0, .slice none 0 0] 38)).heap.size = w.heap.size + 1 + 1 + 1 by simp] at hx3
  have hx4 := (Blk.new ((((w.alloc (.cells #[.slice xl ll cl, .slice xc lc cc] 38)).alloc (.cells #[.int .i64 0, .int .i64 ai, .int .i64 ak, .int .i64 fr, .int .i64 tt, .int .i64 kd, .int .i64 vo, .int .i64 li, .int .u64 (id : Int), .int .i64 co, .bool has, .int .u64 (key : Int), .int .u32 (ck : Int), .bool gn, .slice x L c] 32)).alloc (.cells #[.slice none 0 0, .slice none 0 0] 38)).alloc (.cells #[.int .i64 0, .int .i64 0, .int .i64 0, .int .i64 0, .int .i64 0, .int .u64 0, .int .i64 0, .bool false, .int .u64 0, .int .u32 0, .bool false, .slice none 0 0] 30)) #[.int .i64 0, .int .i64 0, .int .i64 0, .int .i64 0, .int .i64 0, .int .u64 0, .int .i64 0, .bool false, .int .u64 0, .int .u32 0, .bool false, .slice none 0 0] 30)
  rw [show ((((w.alloc (.cells #[.slice xl ll cl, .slice xc lc cc] 38)).alloc (.cells #[.int .i64 0, .int .i64 ai, .int .i64 ak, .int .i64 fr, .int .i64 tt, .int .i64 kd, .int .i64 vo, .int .i64 li, .int .u64 (id : Int), .int .i64 co, .bool has, .int .u64 (key : Int), .int .u32 (ck : Int), .bool gn, .slice x L c] 32)).alloc (.cells #[.slice none 0 0, .slice none 0 0] 38)).alloc (.cells #[.int .i64 0, .int .i64 0, .int .i64 0, .int .i64 0, .int .i64 0, .int .u64 0, .int .i64 0, .bool false, .int .u64 0, .int .u32 0, .bool false, .slice none 0 0] 30)).heap.size = w.heap.size + 1 + 1 + 1 + 1 by simp] at hx4
  have HCK := Lib.hid (hck _ hB5)
  have k1 : (4096 : Int) ≤ (ll : Int) := by omega
  have HB5 := Lib.hid hB5
  have HX0 := Lib.hid hx0
  have HX1 := Lib.hid hx1
  have HX2 := Lib.hid hx2
  have HX3 := Lib.hid hx3
  have HX4 := Lib.hid hx4
  clear hck hl hB0 hB1 hB2 hB3 hB4 hB5 hx0 hx1 hx2 hx3 hx4
  go_enter Try.func9, Try.ntmps9
  go_wp2_with fail
  refine HCK.out.mono ?_
  rintro e w1 ⟨rfl, hb1⟩
  have HY0 := Lib.hid (HX0.out.below hb1 HX0.out.lt)
  have HY2 := Lib.hid (HX2.out.below hb1 HX2.out.lt)
  have HY3 := Lib.hid (HX3.out.below hb1 HX3.out.lt)
  have HY4 := Lib.hid (HX4.out.below hb1 HX4.out.lt)
  have HB6 := Lib.hid (HB5.out.trans (hb1.mono HB5.out.size))
  clear hb1
  have p0 := HY0.out.cell 0 rfl
  have p1 := HY0.out.cell 1 rfl
  go_upto_region 7 with fail
  have HFN := fin14 HY2.out HY3.out (by omega) HB6.out (by omega) (by omega) (.slice xl ll cl) (.slice xc lc cc) (.int .i64 0) (.int .i64 0) (.int .i64 0) (.int .i64 0) (.int .i64 0) (.int .u64 0) (.int .i64 0) (.bool false) (.int .u64 0) (.int .u32 0) (.bool false) (.slice none 0 0)
  obtain ⟨wf, hwf⟩ : ∃ z, set14 w1 (w.heap.size + 1 + 1) (w.heap.size + 1 + 1 + 1) (.slice xl ll cl) (.slice xc lc cc) (.int .i64 0) (.int .i64 0) (.int .i64 0) (.int .i64 0) (.int .i64 0) (.int .u64 0) (.int .i64 0) (.bool false) (.int .u64 0) (.int .u32 0) (.bool false) (.slice none 0 0) = z := ⟨_, rfl⟩
  rw [hwf] at HFN
  unfold set14 at hwf
  have HWF := Lib.hid hwf
  have HFN := Lib.hid HFN
  clear hwf
  have s0 := HY4.out.cell 0 rfl
  have s1 := HY4.out.cell 1 rfl
  have s2 := HY4.out.cell 2 rfl
  have s3 := HY4.out.cell 3 rfl
  have s4 := HY4.out.cell 4 rfl
  have s5 := HY4.out.cell 5 rfl
  have s6 := HY4.out.cell 6 rfl
  have s7 := HY4.out.cell 7 rfl
  have s8 := HY4.out.cell 8 rfl
  have s9 := HY4.out.cell 9 rfl
  have s10 := HY4.out.cell 10 rfl
  have s11 := HY4.out.cell 11 rfl
  have q0 := HY2.out.cell 0 rfl
  have q1 := HY2.out.cell 1 rfl
  have r0 := HY3.out.cell 0 rfl
  have r1 := HY3.out.cell 1 rfl
  have r2 := HY3.out.cell 2 rfl
  have r3 := HY3.out.cell 3 rfl
  have r4 := HY3.out.cell 4 rfl
  have r5 := HY3.out.cell 5 rfl
  have r6 := HY3.out.cell 6 rfl
  have r7 := HY3.out.cell 7 rfl
  have r8 := HY3.out.cell 8 rfl
  have r9 := HY3.out.cell 9 rfl
  have r10 := HY3.out.cell 10 rfl
  have r11 := HY3.out.cell 11 rfl
  have qf := fun j => HY2.out.free j
  have rf := fun j => HY3.out.free j
  go_region
  go_wp2
  rw [HWF.out]
  obtain ⟨g1, g2, g3, g4⟩ := HFN.out
  have f0 := g1.cell 0 rfl
  have f1 := g1.cell 1 rfl
  have e0 := g2.cell 0 rfl
  have e1 := g2.cell 1 rfl
  have e2 := g2.cell 2 rfl
  have e3 := g2.cell 3 rfl
  have e4 := g2.cell 4 rfl
  have e5 := g2.cell 5 rfl
  have e6 := g2.cell 6 rfl
  have e7 := g2.cell 7 rfl
  have e8 := g2.cell 8 rfl
  have e9 := g2.cell 9 rfl
  have e10 := g2.cell 10 rfl
  have e11 := g2.cell 11 rfl
  exact bodyPost_ret (v := .tuple #[.agg #[.slice xl ll cl, .slice xc lc cc], .agg #[.int .i64 0, .int .i64 0, .int .i64 0, .int .i64 0, .int .i64 0, .int .u64 0, .int .i64 0, .bool false, .int .u64 0, .int .u32 0, .bool false, .slice none 0 0], .int .i64 11]) (by simp [results, Try.results9, go_sem, f0, f1, e0, e1, e2, e3, e4, e5, e6, e7, e8, e9, e10, e11]) rfl ⟨rfl, g3.drew⟩
set_option maxRecDepth 100000 in
set_option maxHeartbeats 2000000 in
theorem rdo_none (xl : Option Addr) (ll cl : Nat) (xc : Option Addr) (lc cc : Nat) (kk ai ak : Int) (fr tt kd vo li : Int) (id : Nat) (co : Int) (has : Bool) (key ck : Nat) (gn : Bool) (x : Option Addr) (L c : Nat) (w : World) (h0 : kk ≠ 0) (h4 : ¬ 4 ≤ kk) (hr : ¬ (0 ≤ ai ∧ ai < (ll : Int))) :
    Calls Try.prog 9 #[.agg #[.slice xl ll cl, .slice xc lc cc], .agg #[.int .i64 kk, .int .i64 ai, .int .i64 ak, .int .i64 fr, .int .i64 tt, .int .i64 kd, .int .i64 vo, .int .i64 li, .int .u64 (id : Int), .int .i64 co, .bool has, .int .u64 (key : Int), .int .u32 (ck : Int), .bool gn, .slice x L c]] w fun e w' => e = .returned (.tuple #[.agg #[.slice xl ll cl, .slice xc lc cc], .agg #[.int .i64 0, .int .i64 0, .int .i64 0, .int .i64 0, .int .i64 0, .int .u64 0, .int .i64 0, .bool false, .int .u64 0, .int .u32 0, .bool false, .slice none 0 0], .int .i64 6]) ∧ Below w.heap.size w w' := by
  have hB0 := Below.refl w.heap.size w
  have hB1 := hB0.alloc (by simp) (.cells #[.slice xl ll cl, .slice xc lc cc] 38)
  have hB2 := hB1.alloc (by simp) (.cells #[.int .i64 kk, .int .i64 ai, .int .i64 ak, .int .i64 fr, .int .i64 tt, .int .i64 kd, .int .i64 vo, .int .i64 li, .int .u64 (id : Int), .int .i64 co, .bool has, .int .u64 (key : Int), .int .u32 (ck : Int), .bool gn, .slice x L c] 32)
  have hB3 := hB2.alloc (by simp; omega) (.cells #[.slice none 0 0, .slice none 0 0] 38)
  have hB4 := hB3.alloc (by simp; omega) (.cells #[.int .i64 0, .int .i64 0, .int .i64 0, .int .i64 0, .int .i64 0, .int .u64 0, .int .i64 0, .bool false, .int .u64 0, .int .u32 0, .bool false, .slice none 0 0] 30)
  have hB5 := hB4.alloc (by simp; omega) (.cells #[.int .i64 0, .int .i64 0, .int .i64 0, .int .i64 0, .int .i64 0, .int .u64 0, .int .i64 0, .bool false, .int .u64 0, .int .u32 0, .bool false, .slice none 0 0] 30)
  have hx0 := (((((Blk.new w #[.slice xl ll cl, .slice xc lc cc] 38).alloc (.cells #[.int .i64 kk, .int .i64 ai, .int .i64 ak, .int .i64 fr, .int .i64 tt, .int .i64 kd, .int .i64 vo, .int .i64 li, .int .u64 (id : Int), .int .i64 co, .bool has, .int .u64 (key : Int), .int .u32 (ck : Int), .bool gn, .slice x L c] 32)).alloc (.cells #[.slice none 0 0, .slice none 0 0] 38)).alloc (.cells #[.int .i64 0, .int .i64 0, .int .i64 0, .int .i64 0, .int .i64 0, .int .u64 0, .int .i64 0, .bool false, .int .u64 0, .int .u32 0, .bool false, .slice none 0 0] 30)).alloc (.cells #[.int .i64 0, .int .i64 0, .int .i64 0, .int .i64 0, .int .i64 0, .int .u64 0, .int .i64 0, .bool false, .int .u64 0, .int .u32 0, .bool false, .slice none 0 0] 30))
  have hx1 := ((((Blk.new (w.alloc (.cells #[.slice xl ll cl, .slice xc lc cc] 38)) #[.int .i64 kk, .int .i64 ai, .int .i64 ak, .int .i64 fr, .int .i64 tt, .int .i64 kd, .int .i64 vo, .int .i64 li, .int .u64 (id : Int), .int .i64 co, .bool has, .int .u64 (key : Int), .int .u32 (ck : Int), .bool gn, .slice x L c] 32).alloc (.cells #[.slice none 0 0, .slice none 0 0] 38)).alloc (.cells #[.int .i64 0, .int .i64 0, .int .i64 0, .int .i64 0, .int .i64 0, .int .u64 0, .int .i64 0, .bool false, .int .u64 0, .int .u32 0, .bool false, .slice none 0 0] 30)).alloc (.cells #[.int .i64 0, .int .i64 0, .int .i64 0, .int .i64 0, .int .i64 0, .int .u64 0, .int .i64 0, .bool false, .int .u64 0, .int .u32 0, .bool false, .slice none 0 0] 30))
  rw [show (w.alloc (.cells #[.slice xl ll cl, .slice xc lc cc] 38)).heap.size = w.heap.size + 1 by simp] at hx1
  have hx2 := (((Blk.new ((w.alloc (.cells #[.slice xl ll cl, .slice xc lc cc] 38)).alloc (.cells #[.int .i64 kk, .int .i64 ai, .int .i64 ak, .int .i64 fr, .int .i64 tt, .int .i64 kd, .int .i64 vo, .int .i64 li, .int .u64 (id : Int), .int .i64 co, .bool has, .int .u64 (key : Int), .int .u32 (ck : Int), .bool gn, .slice x L c] 32)) #[.slice none 0 0, .slice none 0 0] 38).alloc (.cells #[.int .i64 0, .int .i64 0, .int .i64 0, .int .i64 0, .int .i64 0, .int .u64 0, .int .i64 0, .bool false, .int .u64 0, .int .u32 0, .bool false, .slice none 0 0] 30)).alloc (.cells #[.int .i64 0, .int .i64 0, .int .i64 0, .int .i64 0, .int .i64 0, .int .u64 0, .int .i64 0, .bool false, .int .u64 0, .int .u32 0, .bool false, .slice none 0 0] 30))
  rw [show ((w.alloc (.cells #[.slice xl ll cl, .slice xc lc cc] 38)).alloc (.cells #[.int .i64 kk, .int .i64 ai, .int .i64 ak, .int .i64 fr, .int .i64 tt, .int .i64 kd, .int .i64 vo, .int .i64 li, .int .u64 (id : Int), .int .i64 co, .bool has, .int .u64 (key : Int), .int .u32 (ck : Int), .bool gn, .slice x L c] 32)).heap.size = w.heap.size + 1 + 1 by simp] at hx2
  have hx3 := ((Blk.new (((w.alloc (.cells #[.slice xl ll cl, .slice xc lc cc] 38)).alloc (.cells #[.int .i64 kk, .int .i64 ai, .int .i64 ak, .int .i64 fr, .int .i64 tt, .int .i64 kd, .int .i64 vo, .int .i64 li, .int .u64 (id : Int), .int .i64 co, .bool has, .int .u64 (key : Int), .int .u32 (ck : Int), .bool gn, .slice x L c] 32)).alloc (.cells #[.slice none 0 0, .slice none 0 0] 38)) #[.int .i64 0, .int .i64 0, .int .i64 0, .int .i64 0, .int .i64 0, .int .u64 0, .int .i64 0, .bool false, .int .u64 0, .int .u32 0, .bool false, .slice none 0 0] 30).alloc (.cells #[.int .i64 0, .int .i64 0, .int .i64 0, .int .i64 0, .int .i64 0, .int .u64 0, .int .i64 0, .bool false, .int .u64 0, .int .u32 0, .bool false, .slice none 0 0] 30))
  rw [show (((w.alloc (.cells #[.slice xl ll cl, .slice xc lc cc] 38)).alloc (.cells #[.int .i64 kk, .int .i64 ai, .int .i64 ak, .int .i64 fr, .int .i64 tt, .int .i64 kd, .int .i64 vo, .int .i64 li, .int .u64 (id : Int), .int .i64 co, .bool has, .int .u64 (key : Int), .int .u32 (ck : Int), .bool gn, .slice x L c] 32)).alloc (.cells #[.slice none 0 0, .slice none 0 0] 38)).heap.size = w.heap.size + 1 + 1 + 1 by simp] at hx3
  have hx4 := (Blk.new ((((w.alloc (.cells #[.slice xl ll cl, .slice xc lc cc] 38)).alloc (.cells #[.int .i64 kk, .int .i64 ai, .int .i64 ak, .int .i64 fr, .int .i64 tt, .int .i64 kd, .int .i64 vo, .int .i64 li, .int .u64 (id : Int), .int .i64 co, .bool has, .int .u64 (key : Int), .int .u32 (ck : Int), .bool gn, .slice x L c] 32)).alloc (.cells #[.slice none 0 0, .slice none 0 0] 38)).alloc (.cells #[.int .i64 0, .int .i64 0, .int .i64 0, .int .i64 0, .int .i64 0, .int .u64 0, .int .i64 0, .bool false, .int .u64 0, .int .u32 0, .bool false, .slice none 0 0] 30)) #[.int .i64 0, .int .i64 0, .int .i64 0, .int .i64 0, .int .i64 0, .int .u64 0, .int .i64 0, .bool false, .int .u64 0, .int .u32 0, .bool false, .slice none 0 0] 30)
  rw [show ((((w.alloc (.cells #[.slice xl ll cl, .slice xc lc cc] 38)).alloc (.cells #[.int .i64 kk, .int .i64 ai, .int .i64 ak, .int .i64 fr, .int .i64 tt, .int .i64 kd, .int .i64 vo, .int .i64 li, .int .u64 (id : Int), .int .i64 co, .bool has, .int .u64 (key : Int), .int .u32 (ck : Int), .bool gn, .slice x L c] 32)).alloc (.cells #[.slice none 0 0, .slice none 0 0] 38)).alloc (.cells #[.int .i64 0, .int .i64 0, .int .i64 0, .int .i64 0, .int .i64 0, .int .u64 0, .int .i64 0, .bool false, .int .u64 0, .int .u32 0, .bool false, .slice none 0 0] 30)).heap.size = w.heap.size + 1 + 1 + 1 + 1 by simp] at hx4
  obtain ⟨w1, hw1⟩ : ∃ z, (((((w.alloc (.cells #[.slice xl ll cl, .slice xc lc cc] 38)).alloc (.cells #[.int .i64 kk, .int .i64 ai, .int .i64 ak, .int .i64 fr, .int .i64 tt, .int .i64 kd, .int .i64 vo, .int .i64 li, .int .u64 (id : Int), .int .i64 co, .bool has, .int .u64 (key : Int), .int .u32 (ck : Int), .bool gn, .slice x L c] 32)).alloc (.cells #[.slice none 0 0, .slice none 0 0] 38)).alloc (.cells #[.int .i64 0, .int .i64 0, .int .i64 0, .int .i64 0, .int .i64 0, .int .u64 0, .int .i64 0, .bool false, .int .u64 0, .int .u32 0, .bool false, .slice none 0 0] 30)).alloc (.cells #[.int .i64 0, .int .i64 0, .int .i64 0, .int .i64 0, .int .i64 0, .int .u64 0, .int .i64 0, .bool false, .int .u64 0, .int .u32 0, .bool false, .slice none 0 0] 30)) = z := ⟨_, rfl⟩
  rw [hw1] at hB5 hx0 hx1 hx2 hx3 hx4
  have HW1 := Lib.hid hw1
  have HB6 := Lib.hid hB5
  have HY0 := Lib.hid hx0
  have HY2 := Lib.hid hx2
  have HY3 := Lib.hid hx3
  have HY4 := Lib.hid hx4
  clear hw1 hB0 hB1 hB2 hB3 hB4 hB5 hx0 hx1 hx2 hx3 hx4
  have k0 : (kk == 0) = false := beq_eq_false_iff_ne.2 h0
  clear h0
  by_cases hn : ai < 0
  · clear hr
    go_enter Try.func9, Try.ntmps9
    go_upto_region 25 with fail
    rw [HW1.out]
    have HFN := fin14 HY2.out HY3.out (by omega) HB6.out (by omega) (by omega) (.slice xl ll cl) (.slice xc lc cc) (.int .i64 0) (.int .i64 0) (.int .i64 0) (.int .i64 0) (.int .i64 0) (.int .u64 0) (.int .i64 0) (.bool false) (.int .u64 0) (.int .u32 0) (.bool false) (.slice none 0 0)
    obtain ⟨wf, hwf⟩ : ∃ z, set14 w1 (w.heap.size + 1 + 1) (w.heap.size + 1 + 1 + 1) (.slice xl ll cl) (.slice xc lc cc) (.int .i64 0) (.int .i64 0) (.int .i64 0) (.int .i64 0) (.int .i64 0) (.int .u64 0) (.int .i64 0) (.bool false) (.int .u64 0) (.int .u32 0) (.bool false) (.slice none 0 0) = z := ⟨_, rfl⟩
    rw [hwf] at HFN
    unfold set14 at hwf
    have HWF := Lib.hid hwf
    have HFN := Lib.hid HFN
    clear hwf
    have p0 := HY0.out.cell 0 rfl
    have p1 := HY0.out.cell 1 rfl
    have s0 := HY4.out.cell 0 rfl
    have s1 := HY4.out.cell 1 rfl
    have s2 := HY4.out.cell 2 rfl
    have s3 := HY4.out.cell 3 rfl
    have s4 := HY4.out.cell 4 rfl
    have s5 := HY4.out.cell 5 rfl
    have s6 := HY4.out.cell 6 rfl
    have s7 := HY4.out.cell 7 rfl
    have s8 := HY4.out.cell 8 rfl
    have s9 := HY4.out.cell 9 rfl
    have s10 := HY4.out.cell 10 rfl
    have s11 := HY4.out.cell 11 rfl
    have q0 := HY2.out.cell 0 rfl
    have q1 := HY2.out.cell 1 rfl
    have r0 := HY3.out.cell 0 rfl
    have r1 := HY3.out.cell 1 rfl
    have r2 := HY3.out.cell 2 rfl
    have r3 := HY3.out.cell 3 rfl
    have r4 := HY3.out.cell 4 rfl
    have r5 := HY3.out.cell 5 rfl
    have r6 := HY3.out.cell 6 rfl
    have r7 := HY3.out.cell 7 rfl
    have r8 := HY3.out.cell 8 rfl
    have r9 := HY3.out.cell 9 rfl
    have r10 := HY3.out.cell 10 rfl
    have r11 := HY3.out.cell 11 rfl
    have qf := fun j => HY2.out.free j
    have rf := fun j => HY3.out.free j
    go_region
    go_wp2
    rw [HWF.out]
    obtain ⟨g1, g2, g3, g4⟩ := HFN.out
    have f0 := g1.cell 0 rfl
    have f1 := g1.cell 1 rfl
    have e0 := g2.cell 0 rfl
    have e1 := g2.cell 1 rfl
    have e2 := g2.cell 2 rfl
    have e3 := g2.cell 3 rfl
    have e4 := g2.cell 4 rfl
    have e5 := g2.cell 5 rfl
    have e6 := g2.cell 6 rfl
    have e7 := g2.cell 7 rfl
    have e8 := g2.cell 8 rfl
    have e9 := g2.cell 9 rfl
    have e10 := g2.cell 10 rfl
    have e11 := g2.cell 11 rfl
    exact bodyPost_ret (v := .tuple #[.agg #[.slice xl ll cl, .slice xc lc cc], .agg #[.int .i64 0, .int .i64 0, .int .i64 0, .int .i64 0, .int .i64 0, .int .u64 0, .int .i64 0, .bool false, .int .u64 0, .int .u32 0, .bool false, .slice none 0 0], .int .i64 6]) (by simp [results, Try.results9, go_sem, f0, f1, e0, e1, e2, e3, e4, e5, e6, e7, e8, e9, e10, e11]) rfl ⟨rfl, g3.drew⟩
  have h5 : (ll : Int) ≤ ai := by omega
  clear hr
  go_enter Try.func9, Try.ntmps9
  go_upto_region 25 with fail
  rw [HW1.out]
  have HFN := fin14 HY2.out HY3.out (by omega) HB6.out (by omega) (by omega) (.slice xl ll cl) (.slice xc lc cc) (.int .i64 0) (.int .i64 0) (.int .i64 0) (.int .i64 0) (.int .i64 0) (.int .u64 0) (.int .i64 0) (.bool false) (.int .u64 0) (.int .u32 0) (.bool false) (.slice none 0 0)
  obtain ⟨wf, hwf⟩ : ∃ z, set14 w1 (w.heap.size + 1 + 1) (w.heap.size + 1 + 1 + 1) (.slice xl ll cl) (.slice xc lc cc) (.int .i64 0) (.int .i64 0) (.int .i64 0) (.int .i64 0) (.int .i64 0) (.int .u64 0) (.int .i64 0) (.bool false) (.int .u64 0) (.int .u32 0) (.bool false) (.slice none 0 0) = z := ⟨_, rfl⟩
  rw [hwf] at HFN
  unfold set14 at hwf
  have HWF := Lib.hid hwf
  have HFN := Lib.hid HFN
  clear hwf
  have p0 := HY0.out.cell 0 rfl
  have p1 := HY0.out.cell 1 rfl
  have s0 := HY4.out.cell 0 rfl
  have s1 := HY4.out.cell 1 rfl
  have s2 := HY4.out.cell 2 rfl
  have s3 := HY4.out.cell 3 rfl
  have s4 := HY4.out.cell 4 rfl
  have s5 := HY4.out.cell 5 rfl
  have s6 := HY4.out.cell 6 rfl
  have s7 := HY4.out.cell 7 rfl
  have s8 := HY4.out.cell 8 rfl
  have s9 := HY4.out.cell 9 rfl
  have s10 := HY4.out.cell 10 rfl
  have s11 := HY4.out.cell 11 rfl
  have q0 := HY2.out.cell 0 rfl
  have q1 := HY2.out.cell 1 rfl
  have r0 := HY3.out.cell 0 rfl
  have r1 := HY3.out.cell 1 rfl
  have r2 := HY3.out.cell 2 rfl
  have r3 := HY3.out.cell 3 rfl
  have r4 := HY3.out.cell 4 rfl
  have r5 := HY3.out.cell 5 rfl
  have r6 := HY3.out.cell 6 rfl
  have r7 := HY3.out.cell 7 rfl
  have r8 := HY3.out.cell 8 rfl
  have r9 := HY3.out.cell 9 rfl
  have r10 := HY3.out.cell 10 rfl
  have r11 := HY3.out.cell 11 rfl
  have qf := fun j => HY2.out.free j
  have rf := fun j => HY3.out.free j
  go_region
  go_wp2
  rw [HWF.out]
  obtain ⟨g1, g2, g3, g4⟩ := HFN.out
  have f0 := g1.cell 0 rfl
  have f1 := g1.cell 1 rfl
  have e0 := g2.cell 0 rfl
  have e1 := g2.cell 1 rfl
  have e2 := g2.cell 2 rfl
  have e3 := g2.cell 3 rfl
  have e4 := g2.cell 4 rfl
  have e5 := g2.cell 5 rfl
  have e6 := g2.cell 6 rfl
  have e7 := g2.cell 7 rfl
  have e8 := g2.cell 8 rfl
  have e9 := g2.cell 9 rfl
  have e10 := g2.cell 10 rfl
  have e11 := g2.cell 11 rfl
  exact bodyPost_ret (v := .tuple #[.agg #[.slice xl ll cl, .slice xc lc cc], .agg #[.int .i64 0, .int .i64 0, .int .i64 0, .int .i64 0, .int .i64 0, .int .u64 0, .int .i64 0, .bool false, .int .u64 0, .int .u32 0, .bool false, .slice none 0 0], .int .i64 6]) (by simp [results, Try.results9, go_sem, f0, f1, e0, e1, e2, e3, e4, e5, e6, e7, e8, e9, e10, e11]) rfl ⟨rfl, g3.drew⟩
set_option maxRecDepth 100000 in
set_option maxHeartbeats 2000000 in
theorem rdo_cut_bad (xl : Option Addr) (ll cl : Nat) (xc : Option Addr) (lc cc : Nat) (kk ai ak : Int) (fr tt kd vo li : Int) (id : Nat) (co : Int) (has : Bool) (key ck : Nat) (gn : Bool) (x : Option Addr) (L c : Nat) (w : World) (h4 : 4 ≤ kk) (hr : ¬ (0 ≤ ai ∧ ai ≤ 255 ∧ 0 ≤ ak ∧ ak ≤ 255 ∧ ai ≠ ak)) :
    Calls Try.prog 9 #[.agg #[.slice xl ll cl, .slice xc lc cc], .agg #[.int .i64 kk, .int .i64 ai, .int .i64 ak, .int .i64 fr, .int .i64 tt, .int .i64 kd, .int .i64 vo, .int .i64 li, .int .u64 (id : Int), .int .i64 co, .bool has, .int .u64 (key : Int), .int .u32 (ck : Int), .bool gn, .slice x L c]] w fun e w' => e = .returned (.tuple #[.agg #[.slice xl ll cl, .slice xc lc cc], .agg #[.int .i64 0, .int .i64 0, .int .i64 0, .int .i64 0, .int .i64 0, .int .u64 0, .int .i64 0, .bool false, .int .u64 0, .int .u32 0, .bool false, .slice none 0 0], .int .i64 1]) ∧ Below w.heap.size w w' := by
  have hB0 := Below.refl w.heap.size w
  have hB1 := hB0.alloc (by simp) (.cells #[.slice xl ll cl, .slice xc lc cc] 38)
  have hB2 := hB1.alloc (by simp) (.cells #[.int .i64 kk, .int .i64 ai, .int .i64 ak, .int .i64 fr, .int .i64 tt, .int .i64 kd, .int .i64 vo, .int .i64 li, .int .u64 (id : Int), .int .i64 co, .bool has, .int .u64 (key : Int), .int .u32 (ck : Int), .bool gn, .slice x L c] 32)
  have hB3 := hB2.alloc (by simp; omega) (.cells #[.slice none 0 0, .slice none 0 0] 38)
  have hB4 := hB3.alloc (by simp; omega) (.cells #[.int .i64 0, .int .i64 0, .int .i64 0, .int .i64 0, .int .i64 0, .int .u64 0, .int .i64 0, .bool false, .int .u64 0, .int .u32 0, .bool false, .slice none 0 0] 30)
  have hB5 := hB4.alloc (by simp; omega) (.cells #[.int .i64 0, .int .i64 0, .int .i64 0, .int .i64 0, .int .i64 0, .int .u64 0, .int .i64 0, .bool false, .int .u64 0, .int .u32 0, .bool false, .slice none 0 0] 30)
  have hx0 := (((((Blk.new w #[.slice xl ll cl, .slice xc lc cc] 38).alloc (.cells #[.int .i64 kk, .int .i64 ai, .int .i64 ak, .int .i64 fr, .int .i64 tt, .int .i64 kd, .int .i64 vo, .int .i64 li, .int .u64 (id : Int), .int .i64 co, .bool has, .int .u64 (key : Int), .int .u32 (ck : Int), .bool gn, .slice x L c] 32)).alloc (.cells #[.slice none 0 0, .slice none 0 0] 38)).alloc (.cells #[.int .i64 0, .int .i64 0, .int .i64 0, .int .i64 0, .int .i64 0, .int .u64 0, .int .i64 0, .bool false, .int .u64 0, .int .u32 0, .bool false, .slice none 0 0] 30)).alloc (.cells #[.int .i64 0, .int .i64 0, .int .i64 0, .int .i64 0, .int .i64 0, .int .u64 0, .int .i64 0, .bool false, .int .u64 0, .int .u32 0, .bool false, .slice none 0 0] 30))
  have hx1 := ((((Blk.new (w.alloc (.cells #[.slice xl ll cl, .slice xc lc cc] 38)) #[.int .i64 kk, .int .i64 ai, .int .i64 ak, .int .i64 fr, .int .i64 tt, .int .i64 kd, .int .i64 vo, .int .i64 li, .int .u64 (id : Int), .int .i64 co, .bool has, .int .u64 (key : Int), .int .u32 (ck : Int), .bool gn, .slice x L c] 32).alloc (.cells #[.slice none 0 0, .slice none 0 0] 38)).alloc (.cells #[.int .i64 0, .int .i64 0, .int .i64 0, .int .i64 0, .int .i64 0, .int .u64 0, .int .i64 0, .bool false, .int .u64 0, .int .u32 0, .bool false, .slice none 0 0] 30)).alloc (.cells #[.int .i64 0, .int .i64 0, .int .i64 0, .int .i64 0, .int .i64 0, .int .u64 0, .int .i64 0, .bool false, .int .u64 0, .int .u32 0, .bool false, .slice none 0 0] 30))
  rw [show (w.alloc (.cells #[.slice xl ll cl, .slice xc lc cc] 38)).heap.size = w.heap.size + 1 by simp] at hx1
  have hx2 := (((Blk.new ((w.alloc (.cells #[.slice xl ll cl, .slice xc lc cc] 38)).alloc (.cells #[.int .i64 kk, .int .i64 ai, .int .i64 ak, .int .i64 fr, .int .i64 tt, .int .i64 kd, .int .i64 vo, .int .i64 li, .int .u64 (id : Int), .int .i64 co, .bool has, .int .u64 (key : Int), .int .u32 (ck : Int), .bool gn, .slice x L c] 32)) #[.slice none 0 0, .slice none 0 0] 38).alloc (.cells #[.int .i64 0, .int .i64 0, .int .i64 0, .int .i64 0, .int .i64 0, .int .u64 0, .int .i64 0, .bool false, .int .u64 0, .int .u32 0, .bool false, .slice none 0 0] 30)).alloc (.cells #[.int .i64 0, .int .i64 0, .int .i64 0, .int .i64 0, .int .i64 0, .int .u64 0, .int .i64 0, .bool false, .int .u64 0, .int .u32 0, .bool false, .slice none 0 0] 30))
  rw [show ((w.alloc (.cells #[.slice xl ll cl, .slice xc lc cc] 38)).alloc (.cells #[.int .i64 kk, .int .i64 ai, .int .i64 ak, .int .i64 fr, .int .i64 tt, .int .i64 kd, .int .i64 vo, .int .i64 li, .int .u64 (id : Int), .int .i64 co, .bool has, .int .u64 (key : Int), .int .u32 (ck : Int), .bool gn, .slice x L c] 32)).heap.size = w.heap.size + 1 + 1 by simp] at hx2
  have hx3 := ((Blk.new (((w.alloc (.cells #[.slice xl ll cl, .slice xc lc cc] 38)).alloc (.cells #[.int .i64 kk, .int .i64 ai, .int .i64 ak, .int .i64 fr, .int .i64 tt, .int .i64 kd, .int .i64 vo, .int .i64 li, .int .u64 (id : Int), .int .i64 co, .bool has, .int .u64 (key : Int), .int .u32 (ck : Int), .bool gn, .slice x L c] 32)).alloc (.cells #[.slice none 0 0, .slice none 0 0] 38)) #[.int .i64 0, .int .i64 0, .int .i64 0, .int .i64 0, .int .i64 0, .int .u64 0, .int .i64 0, .bool false, .int .u64 0, .int .u32 0, .bool false, .slice none 0 0] 30).alloc (.cells #[.int .i64 0, .int .i64 0, .int .i64 0, .int .i64 0, .int .i64 0, .int .u64 0, .int .i64 0, .bool false, .int .u64 0, .int .u32 0, .bool false, .slice none 0 0] 30))
  rw [show (((w.alloc (.cells #[.slice xl ll cl, .slice xc lc cc] 38)).alloc (.cells #[.int .i64 kk, .int .i64 ai, .int .i64 ak, .int .i64 fr, .int .i64 tt, .int .i64 kd, .int .i64 vo, .int .i64 li, .int .u64 (id : Int), .int .i64 co, .bool has, .int .u64 (key : Int), .int .u32 (ck : Int), .bool gn, .slice x L c] 32)).alloc (.cells #[.slice none 0 0, .slice none 0 0] 38)).heap.size = w.heap.size + 1 + 1 + 1 by simp] at hx3
  have hx4 := (Blk.new ((((w.alloc (.cells #[.slice xl ll cl, .slice xc lc cc] 38)).alloc (.cells #[.int .i64 kk, .int .i64 ai, .int .i64 ak, .int .i64 fr, .int .i64 tt, .int .i64 kd, .int .i64 vo, .int .i64 li, .int .u64 (id : Int), .int .i64 co, .bool has, .int .u64 (key : Int), .int .u32 (ck : Int), .bool gn, .slice x L c] 32)).alloc (.cells #[.slice none 0 0, .slice none 0 0] 38)).alloc (.cells #[.int .i64 0, .int .i64 0, .int .i64 0, .int .i64 0, .int .i64 0, .int .u64 0, .int .i64 0, .bool false, .int .u64 0, .int .u32 0, .bool false, .slice none 0 0] 30)) #[.int .i64 0, .int .i64 0, .int .i64 0, .int .i64 0, .int .i64 0, .int .u64 0, .int .i64 0, .bool false, .int .u64 0, .int .u32 0, .bool false, .slice none 0 0] 30)
  rw [show ((((w.alloc (.cells #[.slice xl ll cl, .slice xc lc cc] 38)).alloc (.cells #[.int .i64 kk, .int .i64 ai, .int .i64 ak, .int .i64 fr, .int .i64 tt, .int .i64 kd, .int .i64 vo, .int .i64 li, .int .u64 (id : Int), .int .i64 co, .bool has, .int .u64 (key : Int), .int .u32 (ck : Int), .bool gn, .slice x L c] 32)).alloc (.cells #[.slice none 0 0, .slice none 0 0] 38)).alloc (.cells #[.int .i64 0, .int .i64 0, .int .i64 0, .int .i64 0, .int .i64 0, .int .u64 0, .int .i64 0, .bool false, .int .u64 0, .int .u32 0, .bool false, .slice none 0 0] 30)).heap.size = w.heap.size + 1 + 1 + 1 + 1 by simp] at hx4
  obtain ⟨w1, hw1⟩ : ∃ z, (((((w.alloc (.cells #[.slice xl ll cl, .slice xc lc cc] 38)).alloc (.cells #[.int .i64 kk, .int .i64 ai, .int .i64 ak, .int .i64 fr, .int .i64 tt, .int .i64 kd, .int .i64 vo, .int .i64 li, .int .u64 (id : Int), .int .i64 co, .bool has, .int .u64 (key : Int), .int .u32 (ck : Int), .bool gn, .slice x L c] 32)).alloc (.cells #[.slice none 0 0, .slice none 0 0] 38)).alloc (.cells #[.int .i64 0, .int .i64 0, .int .i64 0, .int .i64 0, .int .i64 0, .int .u64 0, .int .i64 0, .bool false, .int .u64 0, .int .u32 0, .bool false, .slice none 0 0] 30)).alloc (.cells #[.int .i64 0, .int .i64 0, .int .i64 0, .int .i64 0, .int .i64 0, .int .u64 0, .int .i64 0, .bool false, .int .u64 0, .int .u32 0, .bool false, .slice none 0 0] 30)) = z := ⟨_, rfl⟩
  rw [hw1] at hB5 hx0 hx1 hx2 hx3 hx4
  have HW1 := Lib.hid hw1
  have HB6 := Lib.hid hB5
  have HY0 := Lib.hid hx0
  have HY2 := Lib.hid hx2
  have HY3 := Lib.hid hx3
  have HY4 := Lib.hid hx4
  clear hw1 hB0 hB1 hB2 hB3 hB4 hB5 hx0 hx1 hx2 hx3 hx4
  have k0 : (kk == 0) = false := beq_eq_false_iff_ne.2 (by omega)
  by_cases c0 : ai < 0
  · clear hr
    go_enter Try.func9, Try.ntmps9
    go_upto_region 12 with fail
    rw [HW1.out]
    have HFN := fin14 HY2.out HY3.out (by omega) HB6.out (by omega) (by omega) (.slice xl ll cl) (.slice xc lc cc) (.int .i64 0) (.int .i64 0) (.int .i64 0) (.int .i64 0) (.int .i64 0) (.int .u64 0) (.int .i64 0) (.bool false) (.int .u64 0) (.int .u32 0) (.bool false) (.slice none 0 0)
    obtain ⟨wf, hwf⟩ : ∃ z, set14 w1 (w.heap.size + 1 + 1) (w.heap.size + 1 + 1 + 1) (.slice xl ll cl) (.slice xc lc cc) (.int .i64 0) (.int .i64 0) (.int .i64 0) (.int .i64 0) (.int .i64 0) (.int .u64 0) (.int .i64 0) (.bool false) (.int .u64 0) (.int .u32 0) (.bool false) (.slice none 0 0) = z := ⟨_, rfl⟩
    rw [hwf] at HFN
    unfold set14 at hwf
    have HWF := Lib.hid hwf
    have HFN := Lib.hid HFN
    clear hwf
    have p0 := HY0.out.cell 0 rfl
    have p1 := HY0.out.cell 1 rfl
    have s0 := HY4.out.cell 0 rfl
    have s1 := HY4.out.cell 1 rfl
    have s2 := HY4.out.cell 2 rfl
    have s3 := HY4.out.cell 3 rfl
    have s4 := HY4.out.cell 4 rfl
    have s5 := HY4.out.cell 5 rfl
    have s6 := HY4.out.cell 6 rfl
    have s7 := HY4.out.cell 7 rfl
    have s8 := HY4.out.cell 8 rfl
    have s9 := HY4.out.cell 9 rfl
    have s10 := HY4.out.cell 10 rfl
    have s11 := HY4.out.cell 11 rfl
    have q0 := HY2.out.cell 0 rfl
    have q1 := HY2.out.cell 1 rfl
    have r0 := HY3.out.cell 0 rfl
    have r1 := HY3.out.cell 1 rfl
    have r2 := HY3.out.cell 2 rfl
    have r3 := HY3.out.cell 3 rfl
    have r4 := HY3.out.cell 4 rfl
    have r5 := HY3.out.cell 5 rfl
    have r6 := HY3.out.cell 6 rfl
    have r7 := HY3.out.cell 7 rfl
    have r8 := HY3.out.cell 8 rfl
    have r9 := HY3.out.cell 9 rfl
    have r10 := HY3.out.cell 10 rfl
    have r11 := HY3.out.cell 11 rfl
    have qf := fun j => HY2.out.free j
    have rf := fun j => HY3.out.free j
    go_region
    go_wp2
    rw [HWF.out]
    obtain ⟨g1, g2, g3, g4⟩ := HFN.out
    have f0 := g1.cell 0 rfl
    have f1 := g1.cell 1 rfl
    have e0 := g2.cell 0 rfl
    have e1 := g2.cell 1 rfl
    have e2 := g2.cell 2 rfl
    have e3 := g2.cell 3 rfl
    have e4 := g2.cell 4 rfl
    have e5 := g2.cell 5 rfl
    have e6 := g2.cell 6 rfl
    have e7 := g2.cell 7 rfl
    have e8 := g2.cell 8 rfl
    have e9 := g2.cell 9 rfl
    have e10 := g2.cell 10 rfl
    have e11 := g2.cell 11 rfl
    exact bodyPost_ret (v := .tuple #[.agg #[.slice xl ll cl, .slice xc lc cc], .agg #[.int .i64 0, .int .i64 0, .int .i64 0, .int .i64 0, .int .i64 0, .int .u64 0, .int .i64 0, .bool false, .int .u64 0, .int .u32 0, .bool false, .slice none 0 0], .int .i64 1]) (by simp [results, Try.results9, go_sem, f0, f1, e0, e1, e2, e3, e4, e5, e6, e7, e8, e9, e10, e11]) rfl ⟨rfl, g3.drew⟩
  by_cases c1 : 255 < ai
  · clear hr
    go_enter Try.func9, Try.ntmps9
    go_upto_region 12 with fail
    rw [HW1.out]
    have HFN := fin14 HY2.out HY3.out (by omega) HB6.out (by omega) (by omega) (.slice xl ll cl) (.slice xc lc cc) (.int .i64 0) (.int .i64 0) (.int .i64 0) (.int .i64 0) (.int .i64 0) (.int .u64 0) (.int .i64 0) (.bool false) (.int .u64 0) (.int .u32 0) (.bool false) (.slice none 0 0)
    obtain ⟨wf, hwf⟩ : ∃ z, set14 w1 (w.heap.size + 1 + 1) (w.heap.size + 1 + 1 + 1) (.slice xl ll cl) (.slice xc lc cc) (.int .i64 0) (.int .i64 0) (.int .i64 0) (.int .i64 0) (.int .i64 0) (.int .u64 0) (.int .i64 0) (.bool false) (.int .u64 0) (.int .u32 0) (.bool false) (.slice none 0 0) = z := ⟨_, rfl⟩
    rw [hwf] at HFN
    unfold set14 at hwf
    have HWF := Lib.hid hwf
    have HFN := Lib.hid HFN
    clear hwf
    have p0 := HY0.out.cell 0 rfl
    have p1 := HY0.out.cell 1 rfl
    have s0 := HY4.out.cell 0 rfl
    have s1 := HY4.out.cell 1 rfl
    have s2 := HY4.out.cell 2 rfl
    have s3 := HY4.out.cell 3 rfl
    have s4 := HY4.out.cell 4 rfl
    have s5 := HY4.out.cell 5 rfl
    have s6 := HY4.out.cell 6 rfl
    have s7 := HY4.out.cell 7 rfl
    have s8 := HY4.out.cell 8 rfl
    have s9 := HY4.out.cell 9 rfl
    have s10 := HY4.out.cell 10 rfl
    have s11 := HY4.out.cell 11 rfl
    have q0 := HY2.out.cell 0 rfl
    have q1 := HY2.out.cell 1 rfl
    have r0 := HY3.out.cell 0 rfl
    have r1 := HY3.out.cell 1 rfl
    have r2 := HY3.out.cell 2 rfl
    have r3 := HY3.out.cell 3 rfl
    have r4 := HY3.out.cell 4 rfl
    have r5 := HY3.out.cell 5 rfl
    have r6 := HY3.out.cell 6 rfl
    have r7 := HY3.out.cell 7 rfl
    have r8 := HY3.out.cell 8 rfl
    have r9 := HY3.out.cell 9 rfl
    have r10 := HY3.out.cell 10 rfl
    have r11 := HY3.out.cell 11 rfl
    have qf := fun j => HY2.out.free j
    have rf := fun j => HY3.out.free j
    go_region
    go_wp2
    rw [HWF.out]
    obtain ⟨g1, g2, g3, g4⟩ := HFN.out
    have f0 := g1.cell 0 rfl
    have f1 := g1.cell 1 rfl
    have e0 := g2.cell 0 rfl
    have e1 := g2.cell 1 rfl
    have e2 := g2.cell 2 rfl
    have e3 := g2.cell 3 rfl
    have e4 := g2.cell 4 rfl
    have e5 := g2.cell 5 rfl
    have e6 := g2.cell 6 rfl
    have e7 := g2.cell 7 rfl
    have e8 := g2.cell 8 rfl
    have e9 := g2.cell 9 rfl
    have e10 := g2.cell 10 rfl
    have e11 := g2.cell 11 rfl
    exact bodyPost_ret (v := .tuple #[.agg #[.slice xl ll cl, .slice xc lc cc], .agg #[.int .i64 0, .int .i64 0, .int .i64 0, .int .i64 0, .int .i64 0, .int .u64 0, .int .i64 0, .bool false, .int .u64 0, .int .u32 0, .bool false, .slice none 0 0], .int .i64 1]) (by simp [results, Try.results9, go_sem, f0, f1, e0, e1, e2, e3, e4, e5, e6, e7, e8, e9, e10, e11]) rfl ⟨rfl, g3.drew⟩
  by_cases c2 : ak < 0
  · clear hr
    go_enter Try.func9, Try.ntmps9
    go_upto_region 12 with fail
    rw [HW1.out]
    have HFN := fin14 HY2.out HY3.out (by omega) HB6.out (by omega) (by omega) (.slice xl ll cl) (.slice xc lc cc) (.int .i64 0) (.int .i64 0) (.int .i64 0) (.int .i64 0) (.int .i64 0) (.int .u64 0) (.int .i64 0) (.bool false) (.int .u64 0) (.int .u32 0) (.bool false) (.slice none 0 0)
    obtain ⟨wf, hwf⟩ : ∃ z, set14 w1 (w.heap.size + 1 + 1) (w.heap.size + 1 + 1 + 1) (.slice xl ll cl) (.slice xc lc cc) (.int .i64 0) (.int .i64 0) (.int .i64 0) (.int .i64 0) (.int .i64 0) (.int .u64 0) (.int .i64 0) (.bool false) (.int .u64 0) (.int .u32 0) (.bool false) (.slice none 0 0) = z := ⟨_, rfl⟩
    rw [hwf] at HFN
    unfold set14 at hwf
    have HWF := Lib.hid hwf
    have HFN := Lib.hid HFN
    clear hwf
    have p0 := HY0.out.cell 0 rfl
    have p1 := HY0.out.cell 1 rfl
    have s0 := HY4.out.cell 0 rfl
    have s1 := HY4.out.cell 1 rfl
    have s2 := HY4.out.cell 2 rfl
    have s3 := HY4.out.cell 3 rfl
    have s4 := HY4.out.cell 4 rfl
    have s5 := HY4.out.cell 5 rfl
    have s6 := HY4.out.cell 6 rfl
    have s7 := HY4.out.cell 7 rfl
    have s8 := HY4.out.cell 8 rfl
    have s9 := HY4.out.cell 9 rfl
    have s10 := HY4.out.cell 10 rfl
    have s11 := HY4.out.cell 11 rfl
    have q0 := HY2.out.cell 0 rfl
    have q1 := HY2.out.cell 1 rfl
    have r0 := HY3.out.cell 0 rfl
    have r1 := HY3.out.cell 1 rfl
    have r2 := HY3.out.cell 2 rfl
    have r3 := HY3.out.cell 3 rfl
    have r4 := HY3.out.cell 4 rfl
    have r5 := HY3.out.cell 5 rfl
    have r6 := HY3.out.cell 6 rfl
    have r7 := HY3.out.cell 7 rfl
    have r8 := HY3.out.cell 8 rfl
    have r9 := HY3.out.cell 9 rfl
    have r10 := HY3.out.cell 10 rfl
    have r11 := HY3.out.cell 11 rfl
    have qf := fun j => HY2.out.free j
    have rf := fun j => HY3.out.free j
    go_region
    go_wp2
    rw [HWF.out]
    obtain ⟨g1, g2, g3, g4⟩ := HFN.out
    have f0 := g1.cell 0 rfl
    have f1 := g1.cell 1 rfl
    have e0 := g2.cell 0 rfl
    have e1 := g2.cell 1 rfl
    have e2 := g2.cell 2 rfl
    have e3 := g2.cell 3 rfl
    have e4 := g2.cell 4 rfl
    have e5 := g2.cell 5 rfl
    have e6 := g2.cell 6 rfl
    have e7 := g2.cell 7 rfl
    have e8 := g2.cell 8 rfl
    have e9 := g2.cell 9 rfl
    have e10 := g2.cell 10 rfl
    have e11 := g2.cell 11 rfl
    exact bodyPost_ret (v := .tuple #[.agg #[.slice xl ll cl, .slice xc lc cc], .agg #[.int .i64 0, .int .i64 0, .int .i64 0, .int .i64 0, .int .i64 0, .int .u64 0, .int .i64 0, .bool false, .int .u64 0, .int .u32 0, .bool false, .slice none 0 0], .int .i64 1]) (by simp [results, Try.results9, go_sem, f0, f1, e0, e1, e2, e3, e4, e5, e6, e7, e8, e9, e10, e11]) rfl ⟨rfl, g3.drew⟩
  by_cases c3 : 255 < ak
  · clear hr
    go_enter Try.func9, Try.ntmps9
    go_upto_region 12 with fail
    rw [HW1.out]
    have HFN := fin14 HY2.out HY3.out (by omega) HB6.out (by omega) (by omega) (.slice xl ll cl) (.slice xc lc cc) (.int .i64 0) (.int .i64 0) (.int .i64 0) (.int .i64 0) (.int .i64 0) (.int .u64 0) (.int .i64 0) (.bool false) (.int .u64 0) (.int .u32 0) (.bool false) (.slice none 0 0)
    obtain ⟨wf, hwf⟩ : ∃ z, set14 w1 (w.heap.size + 1 + 1) (w.heap.size + 1 + 1 + 1) (.slice xl ll cl) (.slice xc lc cc) (.int .i64 0) (.int .i64 0) (.int .i64 0) (.int .i64 0) (.int .i64 0) (.int .u64 0) (.int .i64 0) (.bool false) (.int .u64 0) (.int .u32 0) (.bool false) (.slice none 0 0) = z := ⟨_, rfl⟩
    rw [hwf] at HFN
    unfold set14 at hwf
    have HWF := Lib.hid hwf
    have HFN := Lib.hid HFN
    clear hwf
    have p0 := HY0.out.cell 0 rfl
    have p1 := HY0.out.cell 1 rfl
    have s0 := HY4.out.cell 0 rfl
    have s1 := HY4.out.cell 1 rfl
    have s2 := HY4.out.cell 2 rfl
    have s3 := HY4.out.cell 3 rfl
    have s4 := HY4.out.cell 4 rfl
    have s5 := HY4.out.cell 5 rfl
    have s6 := HY4.out.cell 6 rfl
    have s7 := HY4.out.cell 7 rfl
    have s8 := HY4.out.cell 8 rfl
    have s9 := HY4.out.cell 9 rfl
    have s10 := HY4.out.cell 10 rfl
    have s11 := HY4.out.cell 11 rfl
    have q0 := HY2.out.cell 0 rfl
    have q1 := HY2.out.cell 1 rfl
    have r0 := HY3.out.cell 0 rfl
    have r1 := HY3.out.cell 1 rfl
    have r2 := HY3.out.cell 2 rfl
    have r3 := HY3.out.cell 3 rfl
    have r4 := HY3.out.cell 4 rfl
    have r5 := HY3.out.cell 5 rfl
    have r6 := HY3.out.cell 6 rfl
    have r7 := HY3.out.cell 7 rfl
    have r8 := HY3.out.cell 8 rfl
    have r9 := HY3.out.cell 9 rfl
    have r10 := HY3.out.cell 10 rfl
    have r11 := HY3.out.cell 11 rfl
    have qf := fun j => HY2.out.free j
    have rf := fun j => HY3.out.free j
    go_region
    go_wp2
    rw [HWF.out]
    obtain ⟨g1, g2, g3, g4⟩ := HFN.out
    have f0 := g1.cell 0 rfl
    have f1 := g1.cell 1 rfl
    have e0 := g2.cell 0 rfl
    have e1 := g2.cell 1 rfl
    have e2 := g2.cell 2 rfl
    have e3 := g2.cell 3 rfl
    have e4 := g2.cell 4 rfl
    have e5 := g2.cell 5 rfl
    have e6 := g2.cell 6 rfl
    have e7 := g2.cell 7 rfl
    have e8 := g2.cell 8 rfl
    have e9 := g2.cell 9 rfl
    have e10 := g2.cell 10 rfl
    have e11 := g2.cell 11 rfl
    exact bodyPost_ret (v := .tuple #[.agg #[.slice xl ll cl, .slice xc lc cc], .agg #[.int .i64 0, .int .i64 0, .int .i64 0, .int .i64 0, .int .i64 0, .int .u64 0, .int .i64 0, .bool false, .int .u64 0, .int .u32 0, .bool false, .slice none 0 0], .int .i64 1]) (by simp [results, Try.results9, go_sem, f0, f1, e0, e1, e2, e3, e4, e5, e6, e7, e8, e9, e10, e11]) rfl ⟨rfl, g3.drew⟩
  have c4 : ai = ak := by omega
  subst c4
  clear hr
  go_enter Try.func9, Try.ntmps9
  go_upto_region 12 with fail
  rw [HW1.out]
  have HFN := fin14 HY2.out HY3.out (by omega) HB6.out (by omega) (by omega) (.slice xl ll cl) (.slice xc lc cc) (.int .i64 0) (.int .i64 0) (.int .i64 0) (.int .i64 0) (.int .i64 0) (.int .u64 0) (.int .i64 0) (.bool false) (.int .u64 0) (.int .u32 0) (.bool false) (.slice none 0 0)
  obtain ⟨wf, hwf⟩ : ∃ z, set14 w1 (w.heap.size + 1 + 1) (w.heap.size + 1 + 1 + 1) (.slice xl ll cl) (.slice xc lc cc) (.int .i64 0) (.int .i64 0) (.int .i64 0) (.int .i64 0) (.int .i64 0) (.int .u64 0) (.int .i64 0) (.bool false) (.int .u64 0) (.int .u32 0) (.bool false) (.slice none 0 0) = z := ⟨_, rfl⟩
  rw [hwf] at HFN
  unfold set14 at hwf
  have HWF := Lib.hid hwf
  have HFN := Lib.hid HFN
  clear hwf
  have p0 := HY0.out.cell 0 rfl
  have p1 := HY0.out.cell 1 rfl
  have s0 := HY4.out.cell 0 rfl
  have s1 := HY4.out.cell 1 rfl
  have s2 := HY4.out.cell 2 rfl
  have s3 := HY4.out.cell 3 rfl
  have s4 := HY4.out.cell 4 rfl
  have s5 := HY4.out.cell 5 rfl
  have s6 := HY4.out.cell 6 rfl
  have s7 := HY4.out.cell 7 rfl
  have s8 := HY4.out.cell 8 rfl
  have s9 := HY4.out.cell 9 rfl
  have s10 := HY4.out.cell 10 rfl
  have s11 := HY4.out.cell 11 rfl
  have q0 := HY2.out.cell 0 rfl
  have q1 := HY2.out.cell 1 rfl
  have r0 := HY3.out.cell 0 rfl
  have r1 := HY3.out.cell 1 rfl
  have r2 := HY3.out.cell 2 rfl
  have r3 := HY3.out.cell 3 rfl
  have r4 := HY3.out.cell 4 rfl
  have r5 := HY3.out.cell 5 rfl
  have r6 := HY3.out.cell 6 rfl
  have r7 := HY3.out.cell 7 rfl
  have r8 := HY3.out.cell 8 rfl
  have r9 := HY3.out.cell 9 rfl
  have r10 := HY3.out.cell 10 rfl
  have r11 := HY3.out.cell 11 rfl
  have qf := fun j => HY2.out.free j
  have rf := fun j => HY3.out.free j
  go_region
  go_wp2
  rw [HWF.out]
  obtain ⟨g1, g2, g3, g4⟩ := HFN.out
  have f0 := g1.cell 0 rfl
  have f1 := g1.cell 1 rfl
  have e0 := g2.cell 0 rfl
  have e1 := g2.cell 1 rfl
  have e2 := g2.cell 2 rfl
  have e3 := g2.cell 3 rfl
  have e4 := g2.cell 4 rfl
  have e5 := g2.cell 5 rfl
  have e6 := g2.cell 6 rfl
  have e7 := g2.cell 7 rfl
  have e8 := g2.cell 8 rfl
  have e9 := g2.cell 9 rfl
  have e10 := g2.cell 10 rfl
  have e11 := g2.cell 11 rfl
  exact bodyPost_ret (v := .tuple #[.agg #[.slice xl ll cl, .slice xc lc cc], .agg #[.int .i64 0, .int .i64 0, .int .i64 0, .int .i64 0, .int .i64 0, .int .u64 0, .int .i64 0, .bool false, .int .u64 0, .int .u32 0, .bool false, .slice none 0 0], .int .i64 1]) (by simp [results, Try.results9, go_sem, f0, f1, e0, e1, e2, e3, e4, e5, e6, e7, e8, e9, e10, e11]) rfl ⟨rfl, g3.drew⟩

end Go.Proofs.Ytofhbnnheadmlaa
