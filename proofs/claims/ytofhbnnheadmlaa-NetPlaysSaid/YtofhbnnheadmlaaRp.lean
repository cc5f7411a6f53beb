/- The document's net (layer 15) by contracts: Do of a take that is held back. -/
import Derived.Test.YtofhbnnheadmlaaRo
set_option linter.unusedVariables false
set_option linter.unusedSimpArgs false
namespace Go.Proofs.Ytofhbnnheadmlaa
open Go.RowKit Go.Cor

set_option maxRecDepth 100000 in
set_option maxHeartbeats 4000000 in
theorem rdo_wait (xl : Option Addr) (ll cl : Nat) (xc : Option Addr) (lc cc : Nat) (ak : Int) (i : Nat) (fr tt kd vo li : Int) (id : Nat) (co : Int) (has : Bool) (key ck : Nat) (gn : Bool) (x : Option Addr) (L c : Nat) (l : List (Msg × Value)) (cs : List (Int × Int)) (mfr mtt mkd mvo mli : Int) (mid : Nat) (mco : Int) (mhas : Bool) (mkey mck : Nat) (mgn : Bool) (md : List UInt8) (xm : Option Addr) (lm cm : Nat) (w : World)
    (hl : l.length = ll) (hlb : ll ≤ 4096) (hv : IsM w (.slice xl ll cl) l) (hcl : cs.length = lc) (hclb : lc ≤ 1099511627776) (hc : IsC w (.slice xc lc cc) cs) (hm : l[i]? = some (⟨mfr, mtt, mkd, mvo, mli, mid, mco, mhas, ⟨mkey, mck, mgn, md⟩⟩, .slice xm lm cm)) (hap : apartP cs mfr mtt = true) :
    Calls Try.prog 9 #[.agg #[.slice xl ll cl, .slice xc lc cc], .agg #[.int .i64 1, .int .i64 (i : Int), .int .i64 ak, .int .i64 fr, .int .i64 tt, .int .i64 kd, .int .i64 vo, .int .i64 li, .int .u64 (id : Int), .int .i64 co, .bool has, .int .u64 (key : Int), .int .u32 (ck : Int), .bool gn, .slice x L c]] w fun e w' => e = .returned (.tuple #[.agg #[.slice xl ll cl, .slice xc lc cc], .agg #[.int .i64 0, .int .i64 0, .int .i64 0, .int .i64 0, .int .i64 0, .int .u64 0, .int .i64 0, .bool false, .int .u64 0, .int .u32 0, .bool false, .slice none 0 0], .int .i64 17]) ∧ Below w.heap.size w w' := by
  have hB0 := Below.refl w.heap.size w
  have hB1 := hB0.alloc (by simp) (.cells #[.slice xl ll cl, .slice xc lc cc] 38)
  have hB2 := hB1.alloc (by simp) (.cells #[.int .i64 1, .int .i64 (i : Int), .int .i64 ak, .int .i64 fr, .int .i64 tt, .int .i64 kd, .int .i64 vo, .int .i64 li, .int .u64 (id : Int), .int .i64 co, .bool has, .int .u64 (key : Int), .int .u32 (ck : Int), .bool gn, .slice x L c] 32)
  have hB3 := hB2.alloc (by simp; omega) (.cells #[.slice none 0 0, .slice none 0 0] 38)
  have hB4 := hB3.alloc (by simp; omega) (.cells #[.int .i64 0, .int .i64 0, .int .i64 0, .int .i64 0, .int .i64 0, .int .u64 0, .int .i64 0, .bool false, .int .u64 0, .int .u32 0, .bool false, .slice none 0 0] 30)
  have hB5 := hB4.alloc (by simp; omega) (.cells #[.int .i64 0, .int .i64 0, .int .i64 0, .int .i64 0, .int .i64 0, .int .u64 0, .int .i64 0, .bool false, .int .u64 0, .int .u32 0, .bool false, .slice none 0 0] 30)
  have hx0 := (((((Blk.new w #[.slice xl ll cl, .slice xc lc cc] 38).alloc (.cells #[.int .i64 1, .int .i64 (i : Int), .int .i64 ak, .int .i64 fr, .int .i64 tt, .int .i64 kd, .int .i64 vo, .int .i64 li, .int .u64 (id : Int), .int .i64 co, .bool has, .int .u64 (key : Int), .int .u32 (ck : Int), .bool gn, .slice x L c] 32)).alloc (.cells #[.slice none 0 0, .slice none 0 0] 38)).alloc (.cells #[.int .i64 0, .int .i64 0, .int .i64 0, .int .i64 0, .int .i64 0, .int .u64 0, .int .i64 0, .bool false, .int .u64 0, .int .u32 0, .bool false, .slice none 0 0] 30)).alloc (.cells #[.int .i64 0, .int .i64 0, .int .i64 0, .int .i64 0, .int .i64 0, .int .u64 0, .int .i64 0, .bool false, .int .u64 0, .int .u32 0, .bool false, .slice none 0 0] 30))
  have hx1 := ((((Blk.new (w.alloc (.cells #[.slice xl ll cl, .slice xc lc cc] 38)) #[.int .i64 1, .int .i64 (i : Int), .int .i64 ak, .int .i64 fr, .int .i64 tt, .int .i64 kd, .int .i64 vo, .int .i64 li, .int .u64 (id : Int), .int .i64 co, .bool has, .int .u64 (key : Int), .int .u32 (ck : Int), .bool gn, .slice x L c] 32).alloc (.cells #[.slice none 0 0, .slice none 0 0] 38)).alloc (.cells #[.int .i64 0, .int .i64 0, .int .i64 0, .int .i64 0, .int .i64 0, .int .u64 0, .int .i64 0, .bool false, .int .u64 0, .int .u32 0, .bool false, .slice none 0 0] 30)).alloc (.cells #[.int .i64 0, .int .i64 0, .int .i64 0, .int .i64 0, .int .i64 0, .int .u64 0, .int .i64 0, .bool false, .int .u64 0, .int .u32 0, .bool false, .slice none 0 0] 30))
  rw [show (w.alloc (.cells #[.slice xl ll cl, .slice xc lc cc] 38)).heap.size = w.heap.size + 1 by simp] at hx1
  have hx2 := (((Blk.new ((w.alloc (.cells #[.slice xl ll cl, .slice xc lc cc] 38)).alloc (.cells #[.int .i64 1, .int .i64 (i : Int), .int .i64 ak, .int .i64 fr, .int .i64 tt, .int .i64 kd, .int .i64 vo, .int .i64 li, .int .u64 (id : Int), .int .i64 co, .bool has, .int .u64 (key : Int), .int .u32 (ck : Int), .bool gn, .slice x L c] 32)) #[.slice none 0 0, .slice none 0 0] 38).alloc (.cells #[.int .i64 0, .int .i64 0, .int .i64 0, .int .i64 0, .int .i64 0, .int .u64 0, .int .i64 0, .bool false, .int .u64 0, .int .u32 0, .bool false, .slice none 0 0] 30)).alloc (.cells #[.int .i64 0, .int .i64 0, .int .i64 0, .int .i64 0, .int .i64 0, .int .u64 0, .int .i64 0, .bool false, .int .u64 0, .int .u32 0, .bool false, .slice none 0 0] 30))
  rw [show ((w.alloc (.cells #[.slice xl ll cl, .slice xc lc cc] 38)).alloc (.cells #[.int .i64 1, .int .i64 (i : Int), .int .i64 ak, .int .i64 fr, .int .i64 tt, .int .i64 kd, .int .i64 vo, .int .i64 li, .int .u64 (id : Int), .int .i64 co, .bool has, .int .u64 (key : Int), .int .u32 (ck : Int), .bool gn, .slice x L c] 32)).heap.size = w.heap.size + 1 + 1 by simp] at hx2
  have hx3 := ((Blk.new (((w.alloc (.cells #[.slice xl ll cl, .slice xc lc cc] 38)).alloc (.cells #[.int .i64 1, .int .i64 (i : Int), .int .i64 ak, .int .i64 fr, .int .i64 tt, .int .i64 kd, .int .i64 vo, .int .i64 li, .int .u64 (id : Int), .int .i64 co, .bool has, .int .u64 (key : Int), .int .u32 (ck : Int), .bool gn, .slice x L c] 32)).alloc (.cells #[.slice none 0 0, .slice none 0 0] 38)) #[.int .i64 0, .int .i64 0, .int .i64 0, .int .i64 0, .int .i64 0, .int .u64 0, .int .i64 0, .bool false, .int .u64 0, .int .u32 0, .bool false, .slice none 0 0] 30).alloc (.cells #[.int .i64 0, .int .i64 0, .int .i64 0, .int .i64 0, .int .i64 0, .int .u64 0, .int .i64 0, .bool false, .int .u64 0, .int .u32 0, .bool false, .slice none 0 0] 30))
  rw [show (((w.alloc (.cells #[.slice xl ll cl, .slice xc lc cc] 38)).alloc (.cells #[.int .i64 1, .int .i64 (i : Int), .int .i64 ak, .int .i64 fr, .int .i64 tt, .int .i64 kd, .int .i64 vo, .int .i64 li, .int .u64 (id : Int), .int .i64 co, .bool has, .int .u64 (key : Int), .int .u32 (ck : Int), .bool gn, .slice x L c] 32)).alloc (.cells #[.slice none 0 0, .slice none 0 0] 38)).heap.size = w.heap.size + 1 + 1 + 1 by simp] at hx3
  have hx4 := (Blk.new ((((w.alloc (.cells #[.slice xl ll cl, .slice xc lc cc] 38)).alloc (.cells #[.int .i64 1, .int .i64 (i : Int), .int .i64 ak, .int .i64 fr, .int .i64 tt, .int .i64 kd, .int .i64 vo, .int .i64 li, .int .u64 (id : Int), .int .i64 co, .bool has, .int .u64 (key : Int), .int .u32 (ck : Int), .bool gn, .slice x L c] 32)).alloc (.cells #[.slice none 0 0, .slice none 0 0] 38)).alloc (.cells #[.int .i64 0, .int .i64 0, .int .i64 0, .int .i64 0, .int .i64 0, .int .u64 0, .int .i64 0, .bool false, .int .u64 0, .int .u32 0, .bool false, .slice none 0 0] 30)) #[.int .i64 0, .int .i64 0, .int .i64 0, .int .i64 0, .int .i64 0, .int .u64 0, .int .i64 0, .bool false, .int .u64 0, .int .u32 0, .bool false, .slice none 0 0] 30)
  rw [show ((((w.alloc (.cells #[.slice xl ll cl, .slice xc lc cc] 38)).alloc (.cells #[.int .i64 1, .int .i64 (i : Int), .int .i64 ak, .int .i64 fr, .int .i64 tt, .int .i64 kd, .int .i64 vo, .int .i64 li, .int .u64 (id : Int), .int .i64 co, .bool has, .int .u64 (key : Int), .int .u32 (ck : Int), .bool gn, .slice x L c] 32)).alloc (.cells #[.slice none 0 0, .slice none 0 0] 38)).alloc (.cells #[.int .i64 0, .int .i64 0, .int .i64 0, .int .i64 0, .int .i64 0, .int .u64 0, .int .i64 0, .bool false, .int .u64 0, .int .u32 0, .bool false, .slice none 0 0] 30)).heap.size = w.heap.size + 1 + 1 + 1 + 1 by simp] at hx4
  have hil : i < ll := by rw [← hl]; exact (List.getElem?_eq_some_iff.1 hm).1
  have hX := hv.1
  rw [hl] at hX
  have hXW := hX.mono hB5 (Nat.le_refl _)
  have hCW : IsC _ _ cs := IsX.mono hc hB5 (Nat.le_refl _)
  obtain ⟨w1, hw1⟩ : ∃ z, (((((w.alloc (.cells #[.slice xl ll cl, .slice xc lc cc] 38)).alloc (.cells #[.int .i64 1, .int .i64 (i : Int), .int .i64 ak, .int .i64 fr, .int .i64 tt, .int .i64 kd, .int .i64 vo, .int .i64 li, .int .u64 (id : Int), .int .i64 co, .bool has, .int .u64 (key : Int), .int .u32 (ck : Int), .bool gn, .slice x L c] 32)).alloc (.cells #[.slice none 0 0, .slice none 0 0] 38)).alloc (.cells #[.int .i64 0, .int .i64 0, .int .i64 0, .int .i64 0, .int .i64 0, .int .u64 0, .int .i64 0, .bool false, .int .u64 0, .int .u32 0, .bool false, .slice none 0 0] 30)).alloc (.cells #[.int .i64 0, .int .i64 0, .int .i64 0, .int .i64 0, .int .i64 0, .int .u64 0, .int .i64 0, .bool false, .int .u64 0, .int .u32 0, .bool false, .slice none 0 0] 30)) = z := ⟨_, rfl⟩
  rw [hw1] at hB5 hx0 hx1 hx2 hx3 hx4 hXW hCW
  obtain ⟨b0, o0, hidx, _, hcell⟩ := indexAt_X hXW 35 30 Try.underlying35 Try.sizeMsg i hil
  have hcj : ∀ j, j < 12 → w1.cell? ⟨b0, o0 + j, none⟩ = (mcl (⟨mfr, mtt, mkd, mvo, mli, mid, mco, mhas, ⟨mkey, mck, mgn, md⟩⟩, .slice xm lm cm))[j]? := fun j hj => (hcell j hj).trans (row_get mcl_len hm j hj)
  have d0 : w1.cell? ⟨b0, o0, none⟩ = some (.int .i64 mfr) := hcj 0 (by decide)
  have d1 : w1.cell? ⟨b0, o0 + 1, none⟩ = some (.int .i64 mtt) := hcj 1 (by decide)
  have d2 : w1.cell? ⟨b0, o0 + 2, none⟩ = some (.int .i64 mkd) := hcj 2 (by decide)
  have d3 : w1.cell? ⟨b0, o0 + 3, none⟩ = some (.int .i64 mvo) := hcj 3 (by decide)
  have d4 : w1.cell? ⟨b0, o0 + 4, none⟩ = some (.int .i64 mli) := hcj 4 (by decide)
  have d5 : w1.cell? ⟨b0, o0 + 5, none⟩ = some (.int .u64 (mid : Int)) := hcj 5 (by decide)
  have d6 : w1.cell? ⟨b0, o0 + 6, none⟩ = some (.int .i64 mco) := hcj 6 (by decide)
  have d7 : w1.cell? ⟨b0, o0 + 7, none⟩ = some (.bool mhas) := hcj 7 (by decide)
  have d8 : w1.cell? ⟨b0, o0 + 8, none⟩ = some (.int .u64 (mkey : Int)) := hcj 8 (by decide)
  have d9 : w1.cell? ⟨b0, o0 + 9, none⟩ = some (.int .u32 (mck : Int)) := hcj 9 (by decide)
  have d10 : w1.cell? ⟨b0, o0 + 10, none⟩ = some (.bool mgn) := hcj 10 (by decide)
  have d11 : w1.cell? ⟨b0, o0 + 11, none⟩ = some (.slice xm lm cm) := hcj 11 (by decide)
  have hb0 : b0 < w1.heap.size := cell_lt d0
  have HW1 := Lib.hid hw1
  have HX1 := Lib.hid hx1
  have hP0 := hx0.alloc (.cells #[.int .i64 mfr, .int .i64 mtt, .int .i64 mkd, .int .i64 mvo, .int .i64 mli, .int .u64 (mid : Int), .int .i64 mco, .bool mhas, .int .u64 (mkey : Int), .int .u32 (mck : Int), .bool mgn, .slice xm lm cm] 30)
  have hP1 := hx1.alloc (.cells #[.int .i64 mfr, .int .i64 mtt, .int .i64 mkd, .int .i64 mvo, .int .i64 mli, .int .u64 (mid : Int), .int .i64 mco, .bool mhas, .int .u64 (mkey : Int), .int .u32 (mck : Int), .bool mgn, .slice xm lm cm] 30)
  have hP2 := hx2.alloc (.cells #[.int .i64 mfr, .int .i64 mtt, .int .i64 mkd, .int .i64 mvo, .int .i64 mli, .int .u64 (mid : Int), .int .i64 mco, .bool mhas, .int .u64 (mkey : Int), .int .u32 (mck : Int), .bool mgn, .slice xm lm cm] 30)
  have hP3 := hx3.alloc (.cells #[.int .i64 mfr, .int .i64 mtt, .int .i64 mkd, .int .i64 mvo, .int .i64 mli, .int .u64 (mid : Int), .int .i64 mco, .bool mhas, .int .u64 (mkey : Int), .int .u32 (mck : Int), .bool mgn, .slice xm lm cm] 30)
  have hP4 := hx4.alloc (.cells #[.int .i64 mfr, .int .i64 mtt, .int .i64 mkd, .int .i64 mvo, .int .i64 mli, .int .u64 (mid : Int), .int .i64 mco, .bool mhas, .int .u64 (mkey : Int), .int .u32 (mck : Int), .bool mgn, .slice xm lm cm] 30)
  have hP5 := Blk.new w1 #[.int .i64 mfr, .int .i64 mtt, .int .i64 mkd, .int .i64 mvo, .int .i64 mli, .int .u64 (mid : Int), .int .i64 mco, .bool mhas, .int .u64 (mkey : Int), .int .u32 (mck : Int), .bool mgn, .slice xm lm cm] 30
  have hB6 := hB5.alloc hB5.size (.cells #[.int .i64 mfr, .int .i64 mtt, .int .i64 mkd, .int .i64 mvo, .int .i64 mli, .int .u64 (mid : Int), .int .i64 mco, .bool mhas, .int .u64 (mkey : Int), .int .u32 (mck : Int), .bool mgn, .slice xm lm cm] 30)
  have hC6 : IsC _ _ cs := IsX.mono hCW (B := w1.heap.size) ((Below.refl _ w1).alloc (Nat.le_refl _) (.cells #[.int .i64 mfr, .int .i64 mtt, .int .i64 mkd, .int .i64 mvo, .int .i64 mli, .int .u64 (mid : Int), .int .i64 mco, .bool mhas, .int .u64 (mkey : Int), .int .u32 (mck : Int), .bool mgn, .slice xm lm cm] 30)) (Nat.le_refl _)
  obtain ⟨w2, hw2⟩ : ∃ z, w1.alloc (.cells #[.int .i64 mfr, .int .i64 mtt, .int .i64 mkd, .int .i64 mvo, .int .i64 mli, .int .u64 (mid : Int), .int .i64 mco, .bool mhas, .int .u64 (mkey : Int), .int .u32 (mck : Int), .bool mgn, .slice xm lm cm] 30) = z := ⟨_, rfl⟩
  obtain ⟨Y, hY⟩ : ∃ y, w1.heap.size = y := ⟨_, rfl⟩
  rw [hw2] at hP0 hP1 hP2 hP3 hP4 hP5 hB6 hC6
  rw [hY] at hP5
  have HW2 := Lib.hid hw2
  have HY := Lib.hid hY
  have HAP := Lib.hid (by
    have := rapart_any xl ll cl xc cc cs mfr mtt w2 (by rw [hcl]; exact hC6) (by omega)
    rw [hap, hcl] at this
    exact this)
  have HP0 := Lib.hid hP0
  have HP1 := Lib.hid hP1
  have HP2 := Lib.hid hP2
  have HP3 := Lib.hid hP3
  have HP4 := Lib.hid hP4
  have HP5 := Lib.hid hP5
  have HB6 := Lib.hid hB6
  have k1 : (i : Int) < (ll : Int) := by omega
  have k2 : ¬ (ll : Int) ≤ (i : Int) := by omega
  have p0 := hx0.cell 0 rfl
  have p1 := hx0.cell 1 rfl
  have a0 := hx1.cell 0 rfl
  have a1 := hx1.cell 1 rfl
  have a2 := hx1.cell 2 rfl
  have a3 := hx1.cell 3 rfl
  have a4 := hx1.cell 4 rfl
  have a5 := hx1.cell 5 rfl
  have a6 := hx1.cell 6 rfl
  have a7 := hx1.cell 7 rfl
  have a8 := hx1.cell 8 rfl
  have a9 := hx1.cell 9 rfl
  have a10 := hx1.cell 10 rfl
  have a11 := hx1.cell 11 rfl
  have a12 := hx1.cell 12 rfl
  have a13 := hx1.cell 13 rfl
  have a14 := hx1.cell 14 rfl
  clear hw1 hw2 hY hB0 hB1 hB2 hB3 hB4 hB5 hx0 hx1 hx2 hx3 hx4 hP0 hP1 hP2 hP3 hP4 hP5 hB6 hC6 hCW hXW hX hv hc hm hap hcell hcj hl hcl hlb hclb
  go_enter Try.func9, Try.ntmps9
  go_upto_region 26 with fail
  try rw [HW1.out]
  go_upto_region 27 with fail
  try rw [HW2.out]
  try rw [HY.out]
  clear d0 d1 d2 d3 d4 d5 d6 d7 d8 d9 d10 d11 hidx hb0 p0 p1 a0 a1 a2 a3 a4 a5 a6 a7 a8 a9 a10 a11 a12 a13 a14
  have p0 := HP0.out.cell 0 rfl
  have p1 := HP0.out.cell 1 rfl
  have a0 := HP1.out.cell 0 rfl
  have a1 := HP1.out.cell 1 rfl
  have a2 := HP1.out.cell 2 rfl
  have a3 := HP1.out.cell 3 rfl
  have a4 := HP1.out.cell 4 rfl
  have a5 := HP1.out.cell 5 rfl
  have a6 := HP1.out.cell 6 rfl
  have a7 := HP1.out.cell 7 rfl
  have a8 := HP1.out.cell 8 rfl
  have a9 := HP1.out.cell 9 rfl
  have a10 := HP1.out.cell 10 rfl
  have a11 := HP1.out.cell 11 rfl
  have a12 := HP1.out.cell 12 rfl
  have a13 := HP1.out.cell 13 rfl
  have a14 := HP1.out.cell 14 rfl
  have m0 := HP5.out.cell 0 rfl
  have m1 := HP5.out.cell 1 rfl
  have m2 := HP5.out.cell 2 rfl
  have m3 := HP5.out.cell 3 rfl
  have m4 := HP5.out.cell 4 rfl
  have m5 := HP5.out.cell 5 rfl
  have m6 := HP5.out.cell 6 rfl
  have m7 := HP5.out.cell 7 rfl
  have m8 := HP5.out.cell 8 rfl
  have m9 := HP5.out.cell 9 rfl
  have m10 := HP5.out.cell 10 rfl
  have m11 := HP5.out.cell 11 rfl
  go_wp2_with fail
  refine HAP.out.mono ?_
  rintro e w3 ⟨rfl, hb3⟩
  have HQ0 := Lib.hid (HP0.out.below hb3 HP0.out.lt)
  have HQ2 := Lib.hid (HP2.out.below hb3 HP2.out.lt)
  have HQ3 := Lib.hid (HP3.out.below hb3 HP3.out.lt)
  have HQ4 := Lib.hid (HP4.out.below hb3 HP4.out.lt)
  have HB7 := Lib.hid (HB6.out.trans (hb3.mono HB6.out.size))
  clear hb3 p0 p1 a0 a1 a2 a3 a4 a5 a6 a7 a8 a9 a10 a11 a12 a13 a14 m0 m1 m2 m3 m4 m5 m6 m7 m8 m9 m10 m11
  go_upto_region 30 with fail
  have HFN := fin14 HQ2.out HQ3.out (by omega) HB7.out (by omega) (by omega) (.slice xl ll cl) (.slice xc lc cc) (.int .i64 0) (.int .i64 0) (.int .i64 0) (.int .i64 0) (.int .i64 0) (.int .u64 0) (.int .i64 0) (.bool false) (.int .u64 0) (.int .u32 0) (.bool false) (.slice none 0 0)
  obtain ⟨wf, hwf⟩ : ∃ z, set14 w3 (w.heap.size + 1 + 1) (w.heap.size + 1 + 1 + 1) (.slice xl ll cl) (.slice xc lc cc) (.int .i64 0) (.int .i64 0) (.int .i64 0) (.int .i64 0) (.int .i64 0) (.int .u64 0) (.int .i64 0) (.bool false) (.int .u64 0) (.int .u32 0) (.bool false) (.slice none 0 0) = z := ⟨_, rfl⟩
  rw [hwf] at HFN
  unfold set14 at hwf
  have HWF := Lib.hid hwf
  have HFN := Lib.hid HFN
  clear hwf
  have p0 := HQ0.out.cell 0 rfl
  have p1 := HQ0.out.cell 1 rfl
  have s0 := HQ4.out.cell 0 rfl
  have s1 := HQ4.out.cell 1 rfl
  have s2 := HQ4.out.cell 2 rfl
  have s3 := HQ4.out.cell 3 rfl
  have s4 := HQ4.out.cell 4 rfl
  have s5 := HQ4.out.cell 5 rfl
  have s6 := HQ4.out.cell 6 rfl
  have s7 := HQ4.out.cell 7 rfl
  have s8 := HQ4.out.cell 8 rfl
  have s9 := HQ4.out.cell 9 rfl
  have s10 := HQ4.out.cell 10 rfl
  have s11 := HQ4.out.cell 11 rfl
  have q0 := HQ2.out.cell 0 rfl
  have q1 := HQ2.out.cell 1 rfl
  have r0 := HQ3.out.cell 0 rfl
  have r1 := HQ3.out.cell 1 rfl
  have r2 := HQ3.out.cell 2 rfl
  have r3 := HQ3.out.cell 3 rfl
  have r4 := HQ3.out.cell 4 rfl
  have r5 := HQ3.out.cell 5 rfl
  have r6 := HQ3.out.cell 6 rfl
  have r7 := HQ3.out.cell 7 rfl
  have r8 := HQ3.out.cell 8 rfl
  have r9 := HQ3.out.cell 9 rfl
  have r10 := HQ3.out.cell 10 rfl
  have r11 := HQ3.out.cell 11 rfl
  have qf := fun j => HQ2.out.free j
  have rf := fun j => HQ3.out.free j
  go_region
  go_wp2
  rw [HWF.out]
  obtain ⟨g1, g2, g3, g4⟩ := HFN.out
  have f0 := g1.cell 0 rfl
  have f1 := g1.cell 1 rfl
  have e0 := g2.cell 0 rfl
  have e1 := g2.cell 1 rfl
  have e2 := g2.cell 2 rfl
  have e3 := g2.cell 3 rfl
  have e4 := g2.cell 4 rfl
  have e5 := g2.cell 5 rfl
  have e6 := g2.cell 6 rfl
  have e7 := g2.cell 7 rfl
  have e8 := g2.cell 8 rfl
  have e9 := g2.cell 9 rfl
  have e10 := g2.cell 10 rfl
  have e11 := g2.cell 11 rfl
  exact bodyPost_ret (v := .tuple #[.agg #[.slice xl ll cl, .slice xc lc cc], .agg #[.int .i64 0, .int .i64 0, .int .i64 0, .int .i64 0, .int .i64 0, .int .u64 0, .int .i64 0, .bool false, .int .u64 0, .int .u32 0, .bool false, .slice none 0 0], .int .i64 17]) (by simp [results, Try.results9, go_sem, f0, f1, e0, e1, e2, e3, e4, e5, e6, e7, e8, e9, e10, e11]) rfl ⟨rfl, g3.drew⟩

end Go.Proofs.Ytofhbnnheadmlaa
