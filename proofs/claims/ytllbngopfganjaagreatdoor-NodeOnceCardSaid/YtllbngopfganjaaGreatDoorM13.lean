/- Zt, Zu. -/
import Derived.Test.YtllbngopfganjaaGreatDoorM12
set_option linter.unusedVariables false
set_option linter.unusedSimpArgs false

section
namespace Go.Proofs.YtllbngopfganjaaGreatDoor.Nd
open Go.RowKit Go.Cor

set_option maxRecDepth 100000 in
set_option maxHeartbeats 2000000 in
theorem tell_lay (v : Value) (fr tt vo li : Int) (id : Nat) (co : Int) (has : Bool) (key ck : Nat) (gn : Bool) (x : Option Addr) (L c : Nat) (code : Nat) (gk gc : Nat) (gg : Bool) (gx : Option Addr) (gl gp : Nat) (w : World) :
    Calls Tryz.prog 47 #[v, .agg #[.int .i64 fr, .int .i64 tt, .int .i64 2, .int .i64 vo, .int .i64 li, .int .u64 (id : Int), .int .i64 co, .bool has, .int .u64 (key : Int), .int .u32 (ck : Int), .bool gn, .slice x L c], .int .i64 (code : Int), .agg #[.int .u64 (gk : Int), .int .u32 (gc : Int), .bool gg, .slice gx gl gp]] w fun e w' => e = .returned (.tuple #[.agg #[.int .u64 0, .int .u32 0, .bool false, .slice none 0 0], .bool false]) ∧ Below w.heap.size w w' := by
  have hB1 := below_new16 w (.cells #[.int .i64 fr, .int .i64 tt, .int .i64 2, .int .i64 vo, .int .i64 li, .int .u64 (id : Int), .int .i64 co, .bool has, .int .u64 (key : Int), .int .u32 (ck : Int), .bool gn, .slice x L c] 45)
  have hB2 := hB1.alloc hB1.size (.cells #[.int .u64 (gk : Int), .int .u32 (gc : Int), .bool gg, .slice gx gl gp] 43)
  have hB3 := hB2.alloc hB2.size (.cells #[.int .u64 0, .int .u32 0, .bool false, .slice none 0 0] 43)
  have hX := ((Blk.new w #[.int .i64 fr, .int .i64 tt, .int .i64 2, .int .i64 vo, .int .i64 li, .int .u64 (id : Int), .int .i64 co, .bool has, .int .u64 (key : Int), .int .u32 (ck : Int), .bool gn, .slice x L c] 45).alloc (.cells #[.int .u64 (gk : Int), .int .u32 (gc : Int), .bool gg, .slice gx gl gp] 43)).alloc (.cells #[.int .u64 0, .int .u32 0, .bool false, .slice none 0 0] 43)
  have hG := (Blk.new (w.alloc (.cells #[.int .i64 fr, .int .i64 tt, .int .i64 2, .int .i64 vo, .int .i64 li, .int .u64 (id : Int), .int .i64 co, .bool has, .int .u64 (key : Int), .int .u32 (ck : Int), .bool gn, .slice x L c] 45)) #[.int .u64 (gk : Int), .int .u32 (gc : Int), .bool gg, .slice gx gl gp] 43).alloc (.cells #[.int .u64 0, .int .u32 0, .bool false, .slice none 0 0] 43)
  have hZ := Blk.new ((w.alloc (.cells #[.int .i64 fr, .int .i64 tt, .int .i64 2, .int .i64 vo, .int .i64 li, .int .u64 (id : Int), .int .i64 co, .bool has, .int .u64 (key : Int), .int .u32 (ck : Int), .bool gn, .slice x L c] 45)).alloc (.cells #[.int .u64 (gk : Int), .int .u32 (gc : Int), .bool gg, .slice gx gl gp] 43)) #[.int .u64 0, .int .u32 0, .bool false, .slice none 0 0] 43
  rw [show (w.alloc (.cells #[.int .i64 fr, .int .i64 tt, .int .i64 2, .int .i64 vo, .int .i64 li, .int .u64 (id : Int), .int .i64 co, .bool has, .int .u64 (key : Int), .int .u32 (ck : Int), .bool gn, .slice x L c] 45)).heap.size = w.heap.size + 1 by simp] at hG
  rw [show ((w.alloc (.cells #[.int .i64 fr, .int .i64 tt, .int .i64 2, .int .i64 vo, .int .i64 li, .int .u64 (id : Int), .int .i64 co, .bool has, .int .u64 (key : Int), .int .u32 (ck : Int), .bool gn, .slice x L c] 45)).alloc (.cells #[.int .u64 (gk : Int), .int .u32 (gc : Int), .bool gg, .slice gx gl gp] 43)).heap.size = w.heap.size + 1 + 1 by simp] at hZ
  obtain ⟨w3, hw3⟩ : ∃ q, ((w.alloc (.cells #[.int .i64 fr, .int .i64 tt, .int .i64 2, .int .i64 vo, .int .i64 li, .int .u64 (id : Int), .int .i64 co, .bool has, .int .u64 (key : Int), .int .u32 (ck : Int), .bool gn, .slice x L c] 45)).alloc (.cells #[.int .u64 (gk : Int), .int .u32 (gc : Int), .bool gg, .slice gx gl gp] 43)).alloc (.cells #[.int .u64 0, .int .u32 0, .bool false, .slice none 0 0] 43) = q := ⟨_, rfl⟩
  rw [hw3] at hB3 hX hG hZ
  have p0 := hX.cell 0 rfl
  have p1 := hX.cell 1 rfl
  have p2 := hX.cell 2 rfl
  have p3 := hX.cell 3 rfl
  have p4 := hX.cell 4 rfl
  have p5 := hX.cell 5 rfl
  have p6 := hX.cell 6 rfl
  have p7 := hX.cell 7 rfl
  have p8 := hX.cell 8 rfl
  have p9 := hX.cell 9 rfl
  have p10 := hX.cell 10 rfl
  have p11 := hX.cell 11 rfl
  have z0 := hZ.cell 0 rfl
  have z1 := hZ.cell 1 rfl
  have z2 := hZ.cell 2 rfl
  have z3 := hZ.cell 3 rfl
  have zf := fun j => hZ.free j
  have HF := Lib.hid (fin4z hZ hB3 (by omega) (.int .u64 0) (.int .u32 0) (.bool false) (.slice none 0 0))
  clear hB1 hB2 hB3 hX hG hZ
  go_enter Tryz.func47, Tryz.ntmps47
  go_upto_region 1 with fail
  try rw [hw3]
  clear hw3
  go_wp2
  obtain ⟨y0, y1, y2, y3, yb, yk⟩ := HF.out
  exact bodyPost_ret (v := .tuple #[.agg #[.int .u64 0, .int .u32 0, .bool false, .slice none 0 0], .bool false]) (by simp [results, Tryz.results47, go_sem, y0, y1, y2, y3]) rfl ⟨rfl, yb⟩
set_option maxRecDepth 100000 in
set_option maxHeartbeats 2000000 in
theorem tell_put (v : Value) (fr tt vo li : Int) (id : Nat) (co : Int) (has : Bool) (key ck : Nat) (gn : Bool) (x : Option Addr) (L c : Nat) (code : Nat) (gk gc : Nat) (gg : Bool) (gx : Option Addr) (gl gp : Nat) (w : World) (h7 : code ≠ 7) (h8 : code ≠ 8) (h9 : code ≠ 9) :
    Calls Tryz.prog 47 #[v, .agg #[.int .i64 fr, .int .i64 tt, .int .i64 1, .int .i64 vo, .int .i64 li, .int .u64 (id : Int), .int .i64 co, .bool has, .int .u64 (key : Int), .int .u32 (ck : Int), .bool gn, .slice x L c], .int .i64 (code : Int), .agg #[.int .u64 (gk : Int), .int .u32 (gc : Int), .bool gg, .slice gx gl gp]] w fun e w' => e = .returned (.tuple #[.agg #[.int .u64 0, .int .u32 0, .bool false, .slice none 0 0], .bool false]) ∧ Below w.heap.size w w' := by
  have hB1 := below_new16 w (.cells #[.int .i64 fr, .int .i64 tt, .int .i64 1, .int .i64 vo, .int .i64 li, .int .u64 (id : Int), .int .i64 co, .bool has, .int .u64 (key : Int), .int .u32 (ck : Int), .bool gn, .slice x L c] 45)
  have hB2 := hB1.alloc hB1.size (.cells #[.int .u64 (gk : Int), .int .u32 (gc : Int), .bool gg, .slice gx gl gp] 43)
  have hB3 := hB2.alloc hB2.size (.cells #[.int .u64 0, .int .u32 0, .bool false, .slice none 0 0] 43)
  have hX := ((Blk.new w #[.int .i64 fr, .int .i64 tt, .int .i64 1, .int .i64 vo, .int .i64 li, .int .u64 (id : Int), .int .i64 co, .bool has, .int .u64 (key : Int), .int .u32 (ck : Int), .bool gn, .slice x L c] 45).alloc (.cells #[.int .u64 (gk : Int), .int .u32 (gc : Int), .bool gg, .slice gx gl gp] 43)).alloc (.cells #[.int .u64 0, .int .u32 0, .bool false, .slice none 0 0] 43)
  have hG := (Blk.new (w.alloc (.cells #[.int .i64 fr, .int .i64 tt, .int .i64 1, .int .i64 vo, .int .i64 li, .int .u64 (id : Int), .int .i64 co, .bool has, .int .u64 (key : Int), .int .u32 (ck : Int), .bool gn, .slice x L c] 45)) #[.int .u64 (gk : Int), .int .u32 (gc : Int), .bool gg, .slice gx gl gp] 43).alloc (.cells #[.int .u64 0, .int .u32 0, .bool false, .slice none 0 0] 43)
  have hZ := Blk.new ((w.alloc (.cells #[.int .i64 fr, .int .i64 tt, .int .i64 1, .int .i64 vo, .int .i64 li, .int .u64 (id : Int), .int .i64 co, .bool has, .int .u64 (key : Int), .int .u32 (ck : Int), .bool gn, .slice x L c] 45)).alloc (.cells #[.int .u64 (gk : Int), .int .u32 (gc : Int), .bool gg, .slice gx gl gp] 43)) #[.int .u64 0, .int .u32 0, .bool false, .slice none 0 0] 43
  rw [show (w.alloc (.cells #[.int .i64 fr, .int .i64 tt, .int .i64 1, .int .i64 vo, .int .i64 li, .int .u64 (id : Int), .int .i64 co, .bool has, .int .u64 (key : Int), .int .u32 (ck : Int), .bool gn, .slice x L c] 45)).heap.size = w.heap.size + 1 by simp] at hG
  rw [show ((w.alloc (.cells #[.int .i64 fr, .int .i64 tt, .int .i64 1, .int .i64 vo, .int .i64 li, .int .u64 (id : Int), .int .i64 co, .bool has, .int .u64 (key : Int), .int .u32 (ck : Int), .bool gn, .slice x L c] 45)).alloc (.cells #[.int .u64 (gk : Int), .int .u32 (gc : Int), .bool gg, .slice gx gl gp] 43)).heap.size = w.heap.size + 1 + 1 by simp] at hZ
  obtain ⟨w3, hw3⟩ : ∃ q, ((w.alloc (.cells #[.int .i64 fr, .int .i64 tt, .int .i64 1, .int .i64 vo, .int .i64 li, .int .u64 (id : Int), .int .i64 co, .bool has, .int .u64 (key : Int), .int .u32 (ck : Int), .bool gn, .slice x L c] 45)).alloc (.cells #[.int .u64 (gk : Int), .int .u32 (gc : Int), .bool gg, .slice gx gl gp] 43)).alloc (.cells #[.int .u64 0, .int .u32 0, .bool false, .slice none 0 0] 43) = q := ⟨_, rfl⟩
  rw [hw3] at hB3 hX hG hZ
  have p0 := hX.cell 0 rfl
  have p1 := hX.cell 1 rfl
  have p2 := hX.cell 2 rfl
  have p3 := hX.cell 3 rfl
  have p4 := hX.cell 4 rfl
  have p5 := hX.cell 5 rfl
  have p6 := hX.cell 6 rfl
  have p7 := hX.cell 7 rfl
  have p8 := hX.cell 8 rfl
  have p9 := hX.cell 9 rfl
  have p10 := hX.cell 10 rfl
  have p11 := hX.cell 11 rfl
  have z0 := hZ.cell 0 rfl
  have z1 := hZ.cell 1 rfl
  have z2 := hZ.cell 2 rfl
  have z3 := hZ.cell 3 rfl
  have zf := fun j => hZ.free j
  have HF := Lib.hid (fin4z hZ hB3 (by omega) (.int .u64 0) (.int .u32 0) (.bool false) (.slice none 0 0))
  have e7 : ((code : Int) == 7) = false := beq_eq_false_iff_ne.2 (by omega)
  have e8 : ((code : Int) == 8) = false := beq_eq_false_iff_ne.2 (by omega)
  have e9 : ((code : Int) == 9) = false := beq_eq_false_iff_ne.2 (by omega)
  clear h7 h8 h9
  clear hB1 hB2 hB3 hX hG hZ
  go_enter Tryz.func47, Tryz.ntmps47
  go_upto_region 1 with fail
  try rw [hw3]
  clear hw3
  go_wp2
  obtain ⟨y0, y1, y2, y3, yb, yk⟩ := HF.out
  exact bodyPost_ret (v := .tuple #[.agg #[.int .u64 0, .int .u32 0, .bool false, .slice none 0 0], .bool false]) (by simp [results, Tryz.results47, go_sem, y0, y1, y2, y3]) rfl ⟨rfl, yb⟩
set_option maxRecDepth 100000 in
set_option maxHeartbeats 2000000 in
theorem tell_del (v : Value) (fr tt vo li : Int) (id : Nat) (co : Int) (has : Bool) (key ck : Nat) (gn : Bool) (x : Option Addr) (L c : Nat) (code : Nat) (gk gc : Nat) (gg : Bool) (gx : Option Addr) (gl gp : Nat) (w : World) (h7 : code ≠ 7) (h8 : code ≠ 8) (h9 : code ≠ 9) :
    Calls Tryz.prog 47 #[v, .agg #[.int .i64 fr, .int .i64 tt, .int .i64 4, .int .i64 vo, .int .i64 li, .int .u64 (id : Int), .int .i64 co, .bool has, .int .u64 (key : Int), .int .u32 (ck : Int), .bool gn, .slice x L c], .int .i64 (code : Int), .agg #[.int .u64 (gk : Int), .int .u32 (gc : Int), .bool gg, .slice gx gl gp]] w fun e w' => e = .returned (.tuple #[.agg #[.int .u64 0, .int .u32 0, .bool false, .slice none 0 0], .bool false]) ∧ Below w.heap.size w w' := by
  have hB1 := below_new16 w (.cells #[.int .i64 fr, .int .i64 tt, .int .i64 4, .int .i64 vo, .int .i64 li, .int .u64 (id : Int), .int .i64 co, .bool has, .int .u64 (key : Int), .int .u32 (ck : Int), .bool gn, .slice x L c] 45)
  have hB2 := hB1.alloc hB1.size (.cells #[.int .u64 (gk : Int), .int .u32 (gc : Int), .bool gg, .slice gx gl gp] 43)
  have hB3 := hB2.alloc hB2.size (.cells #[.int .u64 0, .int .u32 0, .bool false, .slice none 0 0] 43)
  have hX := ((Blk.new w #[.int .i64 fr, .int .i64 tt, .int .i64 4, .int .i64 vo, .int .i64 li, .int .u64 (id : Int), .int .i64 co, .bool has, .int .u64 (key : Int), .int .u32 (ck : Int), .bool gn, .slice x L c] 45).alloc (.cells #[.int .u64 (gk : Int), .int .u32 (gc : Int), .bool gg, .slice gx gl gp] 43)).alloc (.cells #[.int .u64 0, .int .u32 0, .bool false, .slice none 0 0] 43)
  have hG := (Blk.new (w.alloc (.cells #[.int .i64 fr, .int .i64 tt, .int .i64 4, .int .i64 vo, .int .i64 li, .int .u64 (id : Int), .int .i64 co, .bool has, .int .u64 (key : Int), .int .u32 (ck : Int), .bool gn, .slice x L c] 45)) #[.int .u64 (gk : Int), .int .u32 (gc : Int), .bool gg, .slice gx gl gp] 43).alloc (.cells #[.int .u64 0, .int .u32 0, .bool false, .slice none 0 0] 43)
  have hZ := Blk.new ((w.alloc (.cells #[.int .i64 fr, .int .i64 tt, .int .i64 4, .int .i64 vo, .int .i64 li, .int .u64 (id : Int), .int .i64 co, .bool has, .int .u64 (key : Int), .int .u32 (ck : Int), .bool gn, .slice x L c] 45)).alloc (.cells #[.int .u64 (gk : Int), .int .u32 (gc : Int), .bool gg, .slice gx gl gp] 43)) #[.int .u64 0, .int .u32 0, .bool false, .slice none 0 0] 43
  rw [show (w.alloc (.cells #[.int .i64 fr, .int .i64 tt, .int .i64 4, .int .i64 vo, .int .i64 li, .int .u64 (id : Int), .int .i64 co, .bool has, .int .u64 (key : Int), .int .u32 (ck : Int), .bool gn, .slice x L c] 45)).heap.size = w.heap.size + 1 by simp] at hG
  rw [show ((w.alloc (.cells #[.int .i64 fr, .int .i64 tt, .int .i64 4, .int .i64 vo, .int .i64 li, .int .u64 (id : Int), .int .i64 co, .bool has, .int .u64 (key : Int), .int .u32 (ck : Int), .bool gn, .slice x L c] 45)).alloc (.cells #[.int .u64 (gk : Int), .int .u32 (gc : Int), .bool gg, .slice gx gl gp] 43)).heap.size = w.heap.size + 1 + 1 by simp] at hZ
  obtain ⟨w3, hw3⟩ : ∃ q, ((w.alloc (.cells #[.int .i64 fr, .int .i64 tt, .int .i64 4, .int .i64 vo, .int .i64 li, .int .u64 (id : Int), .int .i64 co, .bool has, .int .u64 (key : Int), .int .u32 (ck : Int), .bool gn, .slice x L c] 45)).alloc (.cells #[.int .u64 (gk : Int), .int .u32 (gc : Int), .bool gg, .slice gx gl gp] 43)).alloc (.cells #[.int .u64 0, .int .u32 0, .bool false, .slice none 0 0] 43) = q := ⟨_, rfl⟩
  rw [hw3] at hB3 hX hG hZ
  have p0 := hX.cell 0 rfl
  have p1 := hX.cell 1 rfl
  have p2 := hX.cell 2 rfl
  have p3 := hX.cell 3 rfl
  have p4 := hX.cell 4 rfl
  have p5 := hX.cell 5 rfl
  have p6 := hX.cell 6 rfl
  have p7 := hX.cell 7 rfl
  have p8 := hX.cell 8 rfl
  have p9 := hX.cell 9 rfl
  have p10 := hX.cell 10 rfl
  have p11 := hX.cell 11 rfl
  have z0 := hZ.cell 0 rfl
  have z1 := hZ.cell 1 rfl
  have z2 := hZ.cell 2 rfl
  have z3 := hZ.cell 3 rfl
  have zf := fun j => hZ.free j
  have HF := Lib.hid (fin4z hZ hB3 (by omega) (.int .u64 0) (.int .u32 0) (.bool false) (.slice none 0 0))
  have e7 : ((code : Int) == 7) = false := beq_eq_false_iff_ne.2 (by omega)
  have e8 : ((code : Int) == 8) = false := beq_eq_false_iff_ne.2 (by omega)
  have e9 : ((code : Int) == 9) = false := beq_eq_false_iff_ne.2 (by omega)
  clear h7 h8 h9
  clear hB1 hB2 hB3 hX hG hZ
  go_enter Tryz.func47, Tryz.ntmps47
  go_upto_region 1 with fail
  try rw [hw3]
  clear hw3
  go_wp2
  obtain ⟨y0, y1, y2, y3, yb, yk⟩ := HF.out
  exact bodyPost_ret (v := .tuple #[.agg #[.int .u64 0, .int .u32 0, .bool false, .slice none 0 0], .bool false]) (by simp [results, Tryz.results47, go_sem, y0, y1, y2, y3]) rfl ⟨rfl, yb⟩
set_option maxRecDepth 100000 in
set_option maxHeartbeats 2000000 in
theorem tell_get (v : Value) (fr tt vo li : Int) (id : Nat) (co : Int) (has : Bool) (key ck : Nat) (gn : Bool) (x : Option Addr) (L c : Nat) (code : Nat) (gk gc : Nat) (gg : Bool) (gx : Option Addr) (gl gp : Nat) (w : World) (h0 : code ≠ 0) (h7 : code ≠ 7) (h8 : code ≠ 8) (h9 : code ≠ 9) :
    Calls Tryz.prog 47 #[v, .agg #[.int .i64 fr, .int .i64 tt, .int .i64 3, .int .i64 vo, .int .i64 li, .int .u64 (id : Int), .int .i64 co, .bool has, .int .u64 (key : Int), .int .u32 (ck : Int), .bool gn, .slice x L c], .int .i64 (code : Int), .agg #[.int .u64 (gk : Int), .int .u32 (gc : Int), .bool gg, .slice gx gl gp]] w fun e w' => e = .returned (.tuple #[.agg #[.int .u64 0, .int .u32 0, .bool false, .slice none 0 0], .bool false]) ∧ Below w.heap.size w w' := by
  have hB1 := below_new16 w (.cells #[.int .i64 fr, .int .i64 tt, .int .i64 3, .int .i64 vo, .int .i64 li, .int .u64 (id : Int), .int .i64 co, .bool has, .int .u64 (key : Int), .int .u32 (ck : Int), .bool gn, .slice x L c] 45)
  have hB2 := hB1.alloc hB1.size (.cells #[.int .u64 (gk : Int), .int .u32 (gc : Int), .bool gg, .slice gx gl gp] 43)
  have hB3 := hB2.alloc hB2.size (.cells #[.int .u64 0, .int .u32 0, .bool false, .slice none 0 0] 43)
  have hX := ((Blk.new w #[.int .i64 fr, .int .i64 tt, .int .i64 3, .int .i64 vo, .int .i64 li, .int .u64 (id : Int), .int .i64 co, .bool has, .int .u64 (key : Int), .int .u32 (ck : Int), .bool gn, .slice x L c] 45).alloc (.cells #[.int .u64 (gk : Int), .int .u32 (gc : Int), .bool gg, .slice gx gl gp] 43)).alloc (.cells #[.int .u64 0, .int .u32 0, .bool false, .slice none 0 0] 43)
  have hG := (Blk.new (w.alloc (.cells #[.int .i64 fr, .int .i64 tt, .int .i64 3, .int .i64 vo, .int .i64 li, .int .u64 (id : Int), .int .i64 co, .bool has, .int .u64 (key : Int), .int .u32 (ck : Int), .bool gn, .slice x L c] 45)) #[.int .u64 (gk : Int), .int .u32 (gc : Int), .bool gg, .slice gx gl gp] 43).alloc (.cells #[.int .u64 0, .int .u32 0, .bool false, .slice none 0 0] 43)
  have hZ := Blk.new ((w.alloc (.cells #[.int .i64 fr, .int .i64 tt, .int .i64 3, .int .i64 vo, .int .i64 li, .int .u64 (id : Int), .int .i64 co, .bool has, .int .u64 (key : Int), .int .u32 (ck : Int), .bool gn, .slice x L c] 45)).alloc (.cells #[.int .u64 (gk : Int), .int .u32 (gc : Int), .bool gg, .slice gx gl gp] 43)) #[.int .u64 0, .int .u32 0, .bool false, .slice none 0 0] 43
  rw [show (w.alloc (.cells #[.int .i64 fr, .int .i64 tt, .int .i64 3, .int .i64 vo, .int .i64 li, .int .u64 (id : Int), .int .i64 co, .bool has, .int .u64 (key : Int), .int .u32 (ck : Int), .bool gn, .slice x L c] 45)).heap.size = w.heap.size + 1 by simp] at hG
  rw [show ((w.alloc (.cells #[.int .i64 fr, .int .i64 tt, .int .i64 3, .int .i64 vo, .int .i64 li, .int .u64 (id : Int), .int .i64 co, .bool has, .int .u64 (key : Int), .int .u32 (ck : Int), .bool gn, .slice x L c] 45)).alloc (.cells #[.int .u64 (gk : Int), .int .u32 (gc : Int), .bool gg, .slice gx gl gp] 43)).heap.size = w.heap.size + 1 + 1 by simp] at hZ
  obtain ⟨w3, hw3⟩ : ∃ q, ((w.alloc (.cells #[.int .i64 fr, .int .i64 tt, .int .i64 3, .int .i64 vo, .int .i64 li, .int .u64 (id : Int), .int .i64 co, .bool has, .int .u64 (key : Int), .int .u32 (ck : Int), .bool gn, .slice x L c] 45)).alloc (.cells #[.int .u64 (gk : Int), .int .u32 (gc : Int), .bool gg, .slice gx gl gp] 43)).alloc (.cells #[.int .u64 0, .int .u32 0, .bool false, .slice none 0 0] 43) = q := ⟨_, rfl⟩
  rw [hw3] at hB3 hX hG hZ
  have p0 := hX.cell 0 rfl
  have p1 := hX.cell 1 rfl
  have p2 := hX.cell 2 rfl
  have p3 := hX.cell 3 rfl
  have p4 := hX.cell 4 rfl
  have p5 := hX.cell 5 rfl
  have p6 := hX.cell 6 rfl
  have p7 := hX.cell 7 rfl
  have p8 := hX.cell 8 rfl
  have p9 := hX.cell 9 rfl
  have p10 := hX.cell 10 rfl
  have p11 := hX.cell 11 rfl
  have z0 := hZ.cell 0 rfl
  have z1 := hZ.cell 1 rfl
  have z2 := hZ.cell 2 rfl
  have z3 := hZ.cell 3 rfl
  have zf := fun j => hZ.free j
  have HF := Lib.hid (fin4z hZ hB3 (by omega) (.int .u64 0) (.int .u32 0) (.bool false) (.slice none 0 0))
  have e0 : ((code : Int) == 0) = false := beq_eq_false_iff_ne.2 (by omega)
  have e7 : ((code : Int) == 7) = false := beq_eq_false_iff_ne.2 (by omega)
  have e8 : ((code : Int) == 8) = false := beq_eq_false_iff_ne.2 (by omega)
  have e9 : ((code : Int) == 9) = false := beq_eq_false_iff_ne.2 (by omega)
  clear h0 h7 h8 h9
  clear hB1 hB2 hB3 hX hG hZ
  go_enter Tryz.func47, Tryz.ntmps47
  go_upto_region 1 with fail
  try rw [hw3]
  clear hw3
  go_wp2
  obtain ⟨y0, y1, y2, y3, yb, yk⟩ := HF.out
  exact bodyPost_ret (v := .tuple #[.agg #[.int .u64 0, .int .u32 0, .bool false, .slice none 0 0], .bool false]) (by simp [results, Tryz.results47, go_sem, y0, y1, y2, y3]) rfl ⟨rfl, yb⟩
set_option maxRecDepth 100000 in
set_option maxHeartbeats 2000000 in
theorem tell_got (v : Value) (fr tt vo li : Int) (id : Nat) (co : Int) (has : Bool) (key ck : Nat) (gn : Bool) (x : Option Addr) (L c : Nat) (gk gc : Nat) (gg : Bool) (gx : Option Addr) (gl gp : Nat) (gd : List UInt8) (w : World) (hv : IsB w (.slice gx gl gp) gd) :
    Calls Tryz.prog 47 #[v, .agg #[.int .i64 fr, .int .i64 tt, .int .i64 3, .int .i64 vo, .int .i64 li, .int .u64 (id : Int), .int .i64 co, .bool has, .int .u64 (key : Int), .int .u32 (ck : Int), .bool gn, .slice x L c], .int .i64 0, .agg #[.int .u64 (gk : Int), .int .u32 (gc : Int), .bool gg, .slice gx gl gp]] w fun e w' => e = .returned (.tuple #[.agg #[.int .u64 (gk : Int), .int .u32 (gc : Int), .bool gg, .slice gx gl gp], .bool true]) ∧ IsB w' (.slice gx gl gp) gd ∧ Below w.heap.size w w' := by
  have hB1 := below_new16 w (.cells #[.int .i64 fr, .int .i64 tt, .int .i64 3, .int .i64 vo, .int .i64 li, .int .u64 (id : Int), .int .i64 co, .bool has, .int .u64 (key : Int), .int .u32 (ck : Int), .bool gn, .slice x L c] 45)
  have hB2 := hB1.alloc hB1.size (.cells #[.int .u64 (gk : Int), .int .u32 (gc : Int), .bool gg, .slice gx gl gp] 43)
  have hB3 := hB2.alloc hB2.size (.cells #[.int .u64 0, .int .u32 0, .bool false, .slice none 0 0] 43)
  have hX := ((Blk.new w #[.int .i64 fr, .int .i64 tt, .int .i64 3, .int .i64 vo, .int .i64 li, .int .u64 (id : Int), .int .i64 co, .bool has, .int .u64 (key : Int), .int .u32 (ck : Int), .bool gn, .slice x L c] 45).alloc (.cells #[.int .u64 (gk : Int), .int .u32 (gc : Int), .bool gg, .slice gx gl gp] 43)).alloc (.cells #[.int .u64 0, .int .u32 0, .bool false, .slice none 0 0] 43)
  have hG := (Blk.new (w.alloc (.cells #[.int .i64 fr, .int .i64 tt, .int .i64 3, .int .i64 vo, .int .i64 li, .int .u64 (id : Int), .int .i64 co, .bool has, .int .u64 (key : Int), .int .u32 (ck : Int), .bool gn, .slice x L c] 45)) #[.int .u64 (gk : Int), .int .u32 (gc : Int), .bool gg, .slice gx gl gp] 43).alloc (.cells #[.int .u64 0, .int .u32 0, .bool false, .slice none 0 0] 43)
  have hZ := Blk.new ((w.alloc (.cells #[.int .i64 fr, .int .i64 tt, .int .i64 3, .int .i64 vo, .int .i64 li, .int .u64 (id : Int), .int .i64 co, .bool has, .int .u64 (key : Int), .int .u32 (ck : Int), .bool gn, .slice x L c] 45)).alloc (.cells #[.int .u64 (gk : Int), .int .u32 (gc : Int), .bool gg, .slice gx gl gp] 43)) #[.int .u64 0, .int .u32 0, .bool false, .slice none 0 0] 43
  rw [show (w.alloc (.cells #[.int .i64 fr, .int .i64 tt, .int .i64 3, .int .i64 vo, .int .i64 li, .int .u64 (id : Int), .int .i64 co, .bool has, .int .u64 (key : Int), .int .u32 (ck : Int), .bool gn, .slice x L c] 45)).heap.size = w.heap.size + 1 by simp] at hG
  rw [show ((w.alloc (.cells #[.int .i64 fr, .int .i64 tt, .int .i64 3, .int .i64 vo, .int .i64 li, .int .u64 (id : Int), .int .i64 co, .bool has, .int .u64 (key : Int), .int .u32 (ck : Int), .bool gn, .slice x L c] 45)).alloc (.cells #[.int .u64 (gk : Int), .int .u32 (gc : Int), .bool gg, .slice gx gl gp] 43)).heap.size = w.heap.size + 1 + 1 by simp] at hZ
  obtain ⟨w3, hw3⟩ : ∃ q, ((w.alloc (.cells #[.int .i64 fr, .int .i64 tt, .int .i64 3, .int .i64 vo, .int .i64 li, .int .u64 (id : Int), .int .i64 co, .bool has, .int .u64 (key : Int), .int .u32 (ck : Int), .bool gn, .slice x L c] 45)).alloc (.cells #[.int .u64 (gk : Int), .int .u32 (gc : Int), .bool gg, .slice gx gl gp] 43)).alloc (.cells #[.int .u64 0, .int .u32 0, .bool false, .slice none 0 0] 43) = q := ⟨_, rfl⟩
  rw [hw3] at hB3 hX hG hZ
  have HI := Lib.hid (hv.mono hB3 (Nat.le_refl _))
  have HLB := Lib.hid (fun b (hb : liesB (.slice gx gl gp) gd b) => hv.lies_lt hb)
  have p0 := hX.cell 0 rfl
  have p1 := hX.cell 1 rfl
  have p2 := hX.cell 2 rfl
  have p3 := hX.cell 3 rfl
  have p4 := hX.cell 4 rfl
  have p5 := hX.cell 5 rfl
  have p6 := hX.cell 6 rfl
  have p7 := hX.cell 7 rfl
  have p8 := hX.cell 8 rfl
  have p9 := hX.cell 9 rfl
  have p10 := hX.cell 10 rfl
  have p11 := hX.cell 11 rfl
  have q0 := hG.cell 0 rfl
  have q1 := hG.cell 1 rfl
  have q2 := hG.cell 2 rfl
  have q3 := hG.cell 3 rfl
  have z0 := hZ.cell 0 rfl
  have z1 := hZ.cell 1 rfl
  have z2 := hZ.cell 2 rfl
  have z3 := hZ.cell 3 rfl
  have zf := fun j => hZ.free j
  have HF := Lib.hid (fin4z hZ hB3 (by omega) (.int .u64 (gk : Int)) (.int .u32 (gc : Int)) (.bool gg) (.slice gx gl gp))
  clear hB1 hB2 hB3 hX hG hZ hv
  go_enter Tryz.func47, Tryz.ntmps47
  go_upto_region 1 with fail
  try rw [hw3]
  clear hw3
  go_wp2
  obtain ⟨y0, y1, y2, y3, yb, yk⟩ := HF.out
  exact bodyPost_ret (v := .tuple #[.agg #[.int .u64 (gk : Int), .int .u32 (gc : Int), .bool gg, .slice gx gl gp], .bool true]) (by simp [results, Tryz.results47, go_sem, y0, y1, y2, y3]) rfl ⟨rfl, HI.out.kept yk (fun b hb e => by have := HLB.out b hb; omega), yb⟩
theorem stands_f (key g p k : Nat) (S : Nat → Prop) (d : Dsk) (s : Vst) (w : World) (h : Vready w g p S d k s) :
    Calls Tryz.prog 73 #[.pointer (some ⟨g, 0, none⟩), .int .u64 (key : Int)] w fun e w' => ∃ (nk nc : Nat) (ng : Bool) (nd : List UInt8) (y : Option Addr) (M cc : Nat), e = .returned (.tuple #[.agg #[.int .u64 (nk : Int), .int .u32 (nc : Int), .bool ng, .slice y M cc], .bool (standN s key).isSome]) ∧ IsB w' (.slice y M cc) nd ∧ (∀ b, liesB (.slice y M cc) nd b → w.heap.size ≤ b) ∧ Below w.heap.size w w' ∧ (⟨nk, nc, ng, nd⟩ : Ndl) = (standN s key).getD nz := by
  refine (stands_v key g p k S d s w h).mono ?_
  rintro e w' ⟨x, n, c, rfl, h1, h2, h3⟩
  obtain ⟨m, hm⟩ : ∃ m, (standN s key).getD nz = m := ⟨_, rfl⟩
  rw [hm] at h1 h2 ⊢
  obtain ⟨nk, nc, ng, nd⟩ := m
  exact ⟨nk, nc, ng, nd, x, n, c, rfl, h1, h2, h3, rfl⟩
set_option maxRecDepth 100000 in
set_option maxHeartbeats 2000000 in
theorem tell_put7 (fr tt vo li : Int) (id : Nat) (co : Int) (has : Bool) (key ck : Nat) (gn : Bool) (x : Option Addr) (L c : Nat) (gk gc : Nat) (gg : Bool) (gx : Option Addr) (gl gp : Nat) (g p k : Nat) (S : Nat → Prop) (d : Dsk) (s : Vst) (w : World) (h : Vready w g p S d k s) :
    Calls Tryz.prog 47 #[.pointer (some ⟨g, 0, none⟩), .agg #[.int .i64 fr, .int .i64 tt, .int .i64 1, .int .i64 vo, .int .i64 li, .int .u64 (id : Int), .int .i64 co, .bool has, .int .u64 (key : Int), .int .u32 (ck : Int), .bool gn, .slice x L c], .int .i64 7, .agg #[.int .u64 (gk : Int), .int .u32 (gc : Int), .bool gg, .slice gx gl gp]] w fun e w' => ∃ (nk nc : Nat) (ng : Bool) (nd : List UInt8) (y : Option Addr) (M cc : Nat), e = .returned (.tuple #[.agg #[.int .u64 (nk : Int), .int .u32 (nc : Int), .bool ng, .slice y M cc], .bool (standN s key).isSome]) ∧ IsB w' (.slice y M cc) nd ∧ (∀ b, liesB (.slice y M cc) nd b → w.heap.size ≤ b) ∧ Below w.heap.size w w' ∧ (⟨nk, nc, ng, nd⟩ : Ndl) = (standN s key).getD nz := by
  have hB1 := below_new16 w (.cells #[.int .i64 fr, .int .i64 tt, .int .i64 1, .int .i64 vo, .int .i64 li, .int .u64 (id : Int), .int .i64 co, .bool has, .int .u64 (key : Int), .int .u32 (ck : Int), .bool gn, .slice x L c] 45)
  have hB2 := hB1.alloc hB1.size (.cells #[.int .u64 (gk : Int), .int .u32 (gc : Int), .bool gg, .slice gx gl gp] 43)
  have hB3 := hB2.alloc hB2.size (.cells #[.int .u64 0, .int .u32 0, .bool false, .slice none 0 0] 43)
  have hX := ((Blk.new w #[.int .i64 fr, .int .i64 tt, .int .i64 1, .int .i64 vo, .int .i64 li, .int .u64 (id : Int), .int .i64 co, .bool has, .int .u64 (key : Int), .int .u32 (ck : Int), .bool gn, .slice x L c] 45).alloc (.cells #[.int .u64 (gk : Int), .int .u32 (gc : Int), .bool gg, .slice gx gl gp] 43)).alloc (.cells #[.int .u64 0, .int .u32 0, .bool false, .slice none 0 0] 43)
  have hG := (Blk.new (w.alloc (.cells #[.int .i64 fr, .int .i64 tt, .int .i64 1, .int .i64 vo, .int .i64 li, .int .u64 (id : Int), .int .i64 co, .bool has, .int .u64 (key : Int), .int .u32 (ck : Int), .bool gn, .slice x L c] 45)) #[.int .u64 (gk : Int), .int .u32 (gc : Int), .bool gg, .slice gx gl gp] 43).alloc (.cells #[.int .u64 0, .int .u32 0, .bool false, .slice none 0 0] 43)
  have hZ := Blk.new ((w.alloc (.cells #[.int .i64 fr, .int .i64 tt, .int .i64 1, .int .i64 vo, .int .i64 li, .int .u64 (id : Int), .int .i64 co, .bool has, .int .u64 (key : Int), .int .u32 (ck : Int), .bool gn, .slice x L c] 45)).alloc (.cells #[.int .u64 (gk : Int), .int .u32 (gc : Int), .bool gg, .slice gx gl gp] 43)) #[.int .u64 0, .int .u32 0, .bool false, .slice none 0 0] 43
  rw [show (w.alloc (.cells #[.int .i64 fr, .int .i64 tt, .int .i64 1, .int .i64 vo, .int .i64 li, .int .u64 (id : Int), .int .i64 co, .bool has, .int .u64 (key : Int), .int .u32 (ck : Int), .bool gn, .slice x L c] 45)).heap.size = w.heap.size + 1 by simp] at hG
  rw [show ((w.alloc (.cells #[.int .i64 fr, .int .i64 tt, .int .i64 1, .int .i64 vo, .int .i64 li, .int .u64 (id : Int), .int .i64 co, .bool has, .int .u64 (key : Int), .int .u32 (ck : Int), .bool gn, .slice x L c] 45)).alloc (.cells #[.int .u64 (gk : Int), .int .u32 (gc : Int), .bool gg, .slice gx gl gp] 43)).heap.size = w.heap.size + 1 + 1 by simp] at hZ
  obtain ⟨w3, hw3⟩ : ∃ q, ((w.alloc (.cells #[.int .i64 fr, .int .i64 tt, .int .i64 1, .int .i64 vo, .int .i64 li, .int .u64 (id : Int), .int .i64 co, .bool has, .int .u64 (key : Int), .int .u32 (ck : Int), .bool gn, .slice x L c] 45)).alloc (.cells #[.int .u64 (gk : Int), .int .u32 (gc : Int), .bool gg, .slice gx gl gp] 43)).alloc (.cells #[.int .u64 0, .int .u32 0, .bool false, .slice none 0 0] 43) = q := ⟨_, rfl⟩
  rw [hw3] at hB3 hX hG hZ
  have HS := Lib.hid (stands_f key g p k S d s w3 (h.below hB3))
  obtain ⟨FL, hFL⟩ : ∃ z, (standN s key).isSome = z := ⟨_, rfl⟩
  obtain ⟨RM, hRM⟩ : ∃ z, (standN s key).getD nz = z := ⟨_, rfl⟩
  simp only [hFL, hRM] at HS ⊢
  have p0 := hX.cell 0 rfl
  have p1 := hX.cell 1 rfl
  have p2 := hX.cell 2 rfl
  have p3 := hX.cell 3 rfl
  have p4 := hX.cell 4 rfl
  have p5 := hX.cell 5 rfl
  have p6 := hX.cell 6 rfl
  have p7 := hX.cell 7 rfl
  have p8 := hX.cell 8 rfl
  have p9 := hX.cell 9 rfl
  have p10 := hX.cell 10 rfl
  have p11 := hX.cell 11 rfl
  have HZ := Lib.hid hZ
  have HB := Lib.hid hB3
  have hlz := hZ.lt
  clear hB1 hB2 hB3 hX hG hZ h hFL hRM
  go_enter Tryz.func47, Tryz.ntmps47
  go_upto_region 1 with fail
  try rw [hw3]
  clear hw3
  go_wp2_with fail
  refine HS.out.mono ?_
  rintro e w4 ⟨nk, nc, ng, nd, y, M, cc, rfl, hi4, hlo, hb4, hm⟩
  have HM := Lib.hid hm
  have HI := Lib.hid hi4
  have HLO := Lib.hid hlo
  have hZ4 := HZ.out.below hb4 HZ.out.lt
  have z0 := hZ4.cell 0 rfl
  have z1 := hZ4.cell 1 rfl
  have z2 := hZ4.cell 2 rfl
  have z3 := hZ4.cell 3 rfl
  have zf := fun j => hZ4.free j
  have HF := Lib.hid (fin4z hZ4 (HB.out.trans (hb4.mono HB.out.size)) (by omega) (.int .u64 (nk : Int)) (.int .u32 (nc : Int)) (.bool ng) (.slice y M cc))
  clear hm hi4 hb4 hlo hZ4 p0 p1 p2 p3 p4 p5 p6 p7 p8 p9 p10 p11
  go_wp2
  obtain ⟨y0, y1, y2, y3, yb, yk⟩ := HF.out
  exact bodyPost_ret (v := .tuple #[.agg #[.int .u64 (nk : Int), .int .u32 (nc : Int), .bool ng, .slice y M cc], .bool FL]) (by simp [results, Tryz.results47, go_sem, y0, y1, y2, y3]) rfl ⟨nk, nc, ng, nd, y, M, cc, rfl, HI.out.kept yk (fun b hb e => by have := HLO.out b hb; omega), fun b hb => by have := HLO.out b hb; omega, yb, HM.out⟩
set_option maxRecDepth 100000 in
set_option maxHeartbeats 2000000 in
theorem tell_put8 (fr tt vo li : Int) (id : Nat) (co : Int) (has : Bool) (key ck : Nat) (gn : Bool) (x : Option Addr) (L c : Nat) (gk gc : Nat) (gg : Bool) (gx : Option Addr) (gl gp : Nat) (g p k : Nat) (S : Nat → Prop) (d : Dsk) (s : Vst) (w : World) (h : Vready w g p S d k s) :
    Calls Tryz.prog 47 #[.pointer (some ⟨g, 0, none⟩), .agg #[.int .i64 fr, .int .i64 tt, .int .i64 1, .int .i64 vo, .int .i64 li, .int .u64 (id : Int), .int .i64 co, .bool has, .int .u64 (key : Int), .int .u32 (ck : Int), .bool gn, .slice x L c], .int .i64 8, .agg #[.int .u64 (gk : Int), .int .u32 (gc : Int), .bool gg, .slice gx gl gp]] w fun e w' => ∃ (nk nc : Nat) (ng : Bool) (nd : List UInt8) (y : Option Addr) (M cc : Nat), e = .returned (.tuple #[.agg #[.int .u64 (nk : Int), .int .u32 (nc : Int), .bool ng, .slice y M cc], .bool (standN s key).isSome]) ∧ IsB w' (.slice y M cc) nd ∧ (∀ b, liesB (.slice y M cc) nd b → w.heap.size ≤ b) ∧ Below w.heap.size w w' ∧ (⟨nk, nc, ng, nd⟩ : Ndl) = (standN s key).getD nz := by
  have hB1 := below_new16 w (.cells #[.int .i64 fr, .int .i64 tt, .int .i64 1, .int .i64 vo, .int .i64 li, .int .u64 (id : Int), .int .i64 co, .bool has, .int .u64 (key : Int), .int .u32 (ck : Int), .bool gn, .slice x L c] 45)
  have hB2 := hB1.alloc hB1.size (.cells #[.int .u64 (gk : Int), .int .u32 (gc : Int), .bool gg, .slice gx gl gp] 43)
  have hB3 := hB2.alloc hB2.size (.cells #[.int .u64 0, .int .u32 0, .bool false, .slice none 0 0] 43)
  have hX := ((Blk.new w #[.int .i64 fr, .int .i64 tt, .int .i64 1, .int .i64 vo, .int .i64 li, .int .u64 (id : Int), .int .i64 co, .bool has, .int .u64 (key : Int), .int .u32 (ck : Int), .bool gn, .slice x L c] 45).alloc (.cells #[.int .u64 (gk : Int), .int .u32 (gc : Int), .bool gg, .slice gx gl gp] 43)).alloc (.cells #[.int .u64 0, .int .u32 0, .bool false, .slice none 0 0] 43)
  have hG := (Blk.new (w.alloc (.cells #[.int .i64 fr, .int .i64 tt, .int .i64 1, .int .i64 vo, .int .i64 li, .int .u64 (id : Int), .int .i64 co, .bool has, .int .u64 (key : Int), .int .u32 (ck : Int), .bool gn, .slice x L c] 45)) #[.int .u64 (gk : Int), .int .u32 (gc : Int), .bool gg, .slice gx gl gp] 43).alloc (.cells #[.int .u64 0, .int .u32 0, .bool false, .slice none 0 0] 43)
  have hZ := Blk.new ((w.alloc (.cells #[.int .i64 fr, .int .i64 tt, .int .i64 1, .int .i64 vo, .int .i64 li, .int .u64 (id : Int), .int .i64 co, .bool has, .int .u64 (key : Int), .int .u32 (ck : Int), .bool gn, .slice x L c] 45)).alloc (.cells #[.int .u64 (gk : Int), .int .u32 (gc : Int), .bool gg, .slice gx gl gp] 43)) #[.int .u64 0, .int .u32 0, .bool false, .slice none 0 0] 43
  rw [show (w.alloc (.cells #[.int .i64 fr, .int .i64 tt, .int .i64 1, .int .i64 vo, .int .i64 li, .int .u64 (id : Int), .int .i64 co, .bool has, .int .u64 (key : Int), .int .u32 (ck : Int), .bool gn, .slice x L c] 45)).heap.size = w.heap.size + 1 by simp] at hG
  rw [show ((w.alloc (.cells #[.int .i64 fr, .int .i64 tt, .int .i64 1, .int .i64 vo, .int .i64 li, .int .u64 (id : Int), .int .i64 co, .bool has, .int .u64 (key : Int), .int .u32 (ck : Int), .bool gn, .slice x L c] 45)).alloc (.cells #[.int .u64 (gk : Int), .int .u32 (gc : Int), .bool gg, .slice gx gl gp] 43)).heap.size = w.heap.size + 1 + 1 by simp] at hZ
  obtain ⟨w3, hw3⟩ : ∃ q, ((w.alloc (.cells #[.int .i64 fr, .int .i64 tt, .int .i64 1, .int .i64 vo, .int .i64 li, .int .u64 (id : Int), .int .i64 co, .bool has, .int .u64 (key : Int), .int .u32 (ck : Int), .bool gn, .slice x L c] 45)).alloc (.cells #[.int .u64 (gk : Int), .int .u32 (gc : Int), .bool gg, .slice gx gl gp] 43)).alloc (.cells #[.int .u64 0, .int .u32 0, .bool false, .slice none 0 0] 43) = q := ⟨_, rfl⟩
  rw [hw3] at hB3 hX hG hZ
  have HS := Lib.hid (stands_f key g p k S d s w3 (h.below hB3))
  obtain ⟨FL, hFL⟩ : ∃ z, (standN s key).isSome = z := ⟨_, rfl⟩
  obtain ⟨RM, hRM⟩ : ∃ z, (standN s key).getD nz = z := ⟨_, rfl⟩
  simp only [hFL, hRM] at HS ⊢
  have p0 := hX.cell 0 rfl
  have p1 := hX.cell 1 rfl
  have p2 := hX.cell 2 rfl
  have p3 := hX.cell 3 rfl
  have p4 := hX.cell 4 rfl
  have p5 := hX.cell 5 rfl
  have p6 := hX.cell 6 rfl
  have p7 := hX.cell 7 rfl
  have p8 := hX.cell 8 rfl
  have p9 := hX.cell 9 rfl
  have p10 := hX.cell 10 rfl
  have p11 := hX.cell 11 rfl
  have HZ := Lib.hid hZ
  have HB := Lib.hid hB3
  have hlz := hZ.lt
  clear hB1 hB2 hB3 hX hG hZ h hFL hRM
  go_enter Tryz.func47, Tryz.ntmps47
  go_upto_region 1 with fail
  try rw [hw3]
  clear hw3
  go_wp2_with fail
  refine HS.out.mono ?_
  rintro e w4 ⟨nk, nc, ng, nd, y, M, cc, rfl, hi4, hlo, hb4, hm⟩
  have HM := Lib.hid hm
  have HI := Lib.hid hi4
  have HLO := Lib.hid hlo
  have hZ4 := HZ.out.below hb4 HZ.out.lt
  have z0 := hZ4.cell 0 rfl
  have z1 := hZ4.cell 1 rfl
  have z2 := hZ4.cell 2 rfl
  have z3 := hZ4.cell 3 rfl
  have zf := fun j => hZ4.free j
  have HF := Lib.hid (fin4z hZ4 (HB.out.trans (hb4.mono HB.out.size)) (by omega) (.int .u64 (nk : Int)) (.int .u32 (nc : Int)) (.bool ng) (.slice y M cc))
  clear hm hi4 hb4 hlo hZ4 p0 p1 p2 p3 p4 p5 p6 p7 p8 p9 p10 p11
  go_wp2
  obtain ⟨y0, y1, y2, y3, yb, yk⟩ := HF.out
  exact bodyPost_ret (v := .tuple #[.agg #[.int .u64 (nk : Int), .int .u32 (nc : Int), .bool ng, .slice y M cc], .bool FL]) (by simp [results, Tryz.results47, go_sem, y0, y1, y2, y3]) rfl ⟨nk, nc, ng, nd, y, M, cc, rfl, HI.out.kept yk (fun b hb e => by have := HLO.out b hb; omega), fun b hb => by have := HLO.out b hb; omega, yb, HM.out⟩
set_option maxRecDepth 100000 in
set_option maxHeartbeats 2000000 in
theorem tell_put9 (fr tt vo li : Int) (id : Nat) (co : Int) (has : Bool) (key ck : Nat) (gn : Bool) (x : Option Addr) (L c : Nat) (gk gc : Nat) (gg : Bool) (gx : Option Addr) (gl gp : Nat) (g p k : Nat) (S : Nat → Prop) (d : Dsk) (s : Vst) (w : World) (h : Vready w g p S d k s) :
    Calls Tryz.prog 47 #[.pointer (some ⟨g, 0, none⟩), .agg #[.int .i64 fr, .int .i64 tt, .int .i64 1, .int .i64 vo, .int .i64 li, .int .u64 (id : Int), .int .i64 co, .bool has, .int .u64 (key : Int), .int .u32 (ck : Int), .bool gn, .slice x L c], .int .i64 9, .agg #[.int .u64 (gk : Int), .int .u32 (gc : Int), .bool gg, .slice gx gl gp]] w fun e w' => ∃ (nk nc : Nat) (ng : Bool) (nd : List UInt8) (y : Option Addr) (M cc : Nat), e = .returned (.tuple #[.agg #[.int .u64 (nk : Int), .int .u32 (nc : Int), .bool ng, .slice y M cc], .bool (standN s key).isSome]) ∧ IsB w' (.slice y M cc) nd ∧ (∀ b, liesB (.slice y M cc) nd b → w.heap.size ≤ b) ∧ Below w.heap.size w w' ∧ (⟨nk, nc, ng, nd⟩ : Ndl) = (standN s key).getD nz := by
  have hB1 := below_new16 w (.cells #[.int .i64 fr, .int .i64 tt, .int .i64 1, .int .i64 vo, .int .i64 li, .int .u64 (id : Int), .int .i64 co, .bool has, .int .u64 (key : Int), .int .u32 (ck : Int), .bool gn, .slice x L c] 45)
  have hB2 := hB1.alloc hB1.size (.cells #[.int .u64 (gk : Int), .int .u32 (gc : Int), .bool gg, .slice gx gl gp] 43)
  have hB3 := hB2.alloc hB2.size (.cells #[.int .u64 0, .int .u32 0, .bool false, .slice none 0 0] 43)
  have hX := ((Blk.new w #[.int .i64 fr, .int .i64 tt, .int .i64 1, .int .i64 vo, .int .i64 li, .int .u64 (id : Int), .int .i64 co, .bool has, .int .u64 (key : Int), .int .u32 (ck : Int), .bool gn, .slice x L c] 45).alloc (.cells #[.int .u64 (gk : Int), .int .u32 (gc : Int), .bool gg, .slice gx gl gp] 43)).alloc (.cells #[.int .u64 0, .int .u32 0, .bool false, .slice none 0 0] 43)
  have hG := (Blk.new (w.alloc (.cells #[.int .i64 fr, .int .i64 tt, .int .i64 1, .int .i64 vo, .int .i64 li, .int .u64 (id : Int), .int .i64 co, .bool has, .int .u64 (key : Int), .int .u32 (ck : Int), .bool gn, .slice x L c] 45)) #[.int .u64 (gk : Int), .int .u32 (gc : Int), .bool gg, .slice gx gl gp] 43).alloc (.cells #[.int .u64 0, .int .u32 0, .bool false, .slice none 0 0] 43)
  have hZ := Blk.new ((w.alloc (.cells #[.int .i64 fr, .int .i64 tt, .int .i64 1, .int .i64 vo, .int .i64 li, .int .u64 (id : Int), .int .i64 co, .bool has, .int .u64 (key : Int), .int .u32 (ck : Int), .bool gn, .slice x L c] 45)).alloc (.cells #[.int .u64 (gk : Int), .int .u32 (gc : Int), .bool gg, .slice gx gl gp] 43)) #[.int .u64 0, .int .u32 0, .bool false, .slice none 0 0] 43
  rw [show (w.alloc (.cells #[.int .i64 fr, .int .i64 tt, .int .i64 1, .int .i64 vo, .int .i64 li, .int .u64 (id : Int), .int .i64 co, .bool has, .int .u64 (key : Int), .int .u32 (ck : Int), .bool gn, .slice x L c] 45)).heap.size = w.heap.size + 1 by simp] at hG
  rw [show ((w.alloc (.cells #[.int .i64 fr, .int .i64 tt, .int .i64 1, .int .i64 vo, .int .i64 li, .int .u64 (id : Int), .int .i64 co, .bool has, .int .u64 (key : Int), .int .u32 (ck : Int), .bool gn, .slice x L c] 45)).alloc (.cells #[.int .u64 (gk : Int), .int .u32 (gc : Int), .bool gg, .slice gx gl gp] 43)).heap.size = w.heap.size + 1 + 1 by simp] at hZ
  obtain ⟨w3, hw3⟩ : ∃ q, ((w.alloc (.cells #[.int .i64 fr, .int .i64 tt, .int .i64 1, .int .i64 vo, .int .i64 li, .int .u64 (id : Int), .int .i64 co, .bool has, .int .u64 (key : Int), .int .u32 (ck : Int), .bool gn, .slice x L c] 45)).alloc (.cells #[.int .u64 (gk : Int), .int .u32 (gc : Int), .bool gg, .slice gx gl gp] 43)).alloc (.cells #[.int .u64 0, .int .u32 0, .bool false, .slice none 0 0] 43) = q := ⟨_, rfl⟩
  rw [hw3] at hB3 hX hG hZ
  have HS := Lib.hid (stands_f key g p k S d s w3 (h.below hB3))
  obtain ⟨FL, hFL⟩ : ∃ z, (standN s key).isSome = z := ⟨_, rfl⟩
  obtain ⟨RM, hRM⟩ : ∃ z, (standN s key).getD nz = z := ⟨_, rfl⟩
  simp only [hFL, hRM] at HS ⊢
  have p0 := hX.cell 0 rfl
  have p1 := hX.cell 1 rfl
  have p2 := hX.cell 2 rfl
  have p3 := hX.cell 3 rfl
  have p4 := hX.cell 4 rfl
  have p5 := hX.cell 5 rfl
  have p6 := hX.cell 6 rfl
  have p7 := hX.cell 7 rfl
  have p8 := hX.cell 8 rfl
  have p9 := hX.cell 9 rfl
  have p10 := hX.cell 10 rfl
  have p11 := hX.cell 11 rfl
  have HZ := Lib.hid hZ
  have HB := Lib.hid hB3
  have hlz := hZ.lt
  clear hB1 hB2 hB3 hX hG hZ h hFL hRM
  go_enter Tryz.func47, Tryz.ntmps47
  go_upto_region 1 with fail
  try rw [hw3]
  clear hw3
  go_wp2_with fail
  refine HS.out.mono ?_
  rintro e w4 ⟨nk, nc, ng, nd, y, M, cc, rfl, hi4, hlo, hb4, hm⟩
  have HM := Lib.hid hm
  have HI := Lib.hid hi4
  have HLO := Lib.hid hlo
  have hZ4 := HZ.out.below hb4 HZ.out.lt
  have z0 := hZ4.cell 0 rfl
  have z1 := hZ4.cell 1 rfl
  have z2 := hZ4.cell 2 rfl
  have z3 := hZ4.cell 3 rfl
  have zf := fun j => hZ4.free j
  have HF := Lib.hid (fin4z hZ4 (HB.out.trans (hb4.mono HB.out.size)) (by omega) (.int .u64 (nk : Int)) (.int .u32 (nc : Int)) (.bool ng) (.slice y M cc))
  clear hm hi4 hb4 hlo hZ4 p0 p1 p2 p3 p4 p5 p6 p7 p8 p9 p10 p11
  go_wp2
  obtain ⟨y0, y1, y2, y3, yb, yk⟩ := HF.out
  exact bodyPost_ret (v := .tuple #[.agg #[.int .u64 (nk : Int), .int .u32 (nc : Int), .bool ng, .slice y M cc], .bool FL]) (by simp [results, Tryz.results47, go_sem, y0, y1, y2, y3]) rfl ⟨nk, nc, ng, nd, y, M, cc, rfl, HI.out.kept yk (fun b hb e => by have := HLO.out b hb; omega), fun b hb => by have := HLO.out b hb; omega, yb, HM.out⟩
set_option maxRecDepth 100000 in
set_option maxHeartbeats 2000000 in
theorem tell_del7 (fr tt vo li : Int) (id : Nat) (co : Int) (has : Bool) (key ck : Nat) (gn : Bool) (x : Option Addr) (L c : Nat) (gk gc : Nat) (gg : Bool) (gx : Option Addr) (gl gp : Nat) (g p k : Nat) (S : Nat → Prop) (d : Dsk) (s : Vst) (w : World) (h : Vready w g p S d k s) :
    Calls Tryz.prog 47 #[.pointer (some ⟨g, 0, none⟩), .agg #[.int .i64 fr, .int .i64 tt, .int .i64 4, .int .i64 vo, .int .i64 li, .int .u64 (id : Int), .int .i64 co, .bool has, .int .u64 (key : Int), .int .u32 (ck : Int), .bool gn, .slice x L c], .int .i64 7, .agg #[.int .u64 (gk : Int), .int .u32 (gc : Int), .bool gg, .slice gx gl gp]] w fun e w' => ∃ (nk nc : Nat) (ng : Bool) (nd : List UInt8) (y : Option Addr) (M cc : Nat), e = .returned (.tuple #[.agg #[.int .u64 (nk : Int), .int .u32 (nc : Int), .bool ng, .slice y M cc], .bool (standN s key).isSome]) ∧ IsB w' (.slice y M cc) nd ∧ (∀ b, liesB (.slice y M cc) nd b → w.heap.size ≤ b) ∧ Below w.heap.size w w' ∧ (⟨nk, nc, ng, nd⟩ : Ndl) = (standN s key).getD nz := by
  have hB1 := below_new16 w (.cells #[.int .i64 fr, .int .i64 tt, .int .i64 4, .int .i64 vo, .int .i64 li, .int .u64 (id : Int), .int .i64 co, .bool has, .int .u64 (key : Int), .int .u32 (ck : Int), .bool gn, .slice x L c] 45)
  have hB2 := hB1.alloc hB1.size (.cells #[.int .u64 (gk : Int), .int .u32 (gc : Int), .bool gg, .slice gx gl gp] 43)
  have hB3 := hB2.alloc hB2.size (.cells #[.int .u64 0, .int .u32 0, .bool false, .slice none 0 0] 43)
  have hX := ((Blk.new w #[.int .i64 fr, .int .i64 tt, .int .i64 4, .int .i64 vo, .int .i64 li, .int .u64 (id : Int), .int .i64 co, .bool has, .int .u64 (key : Int), .int .u32 (ck : Int), .bool gn, .slice x L c] 45).alloc (.cells #[.int .u64 (gk : Int), .int .u32 (gc : Int), .bool gg, .slice gx gl gp] 43)).alloc (.cells #[.int .u64 0, .int .u32 0, .bool false, .slice none 0 0] 43)
  have hG := (Blk.new (w.alloc (.cells #[.int .i64 fr, .int .i64 tt, .int .i64 4, .int .i64 vo, .int .i64 li, .int .u64 (id : Int), .int .i64 co, .bool has, .int .u64 (key : Int), .int .u32 (ck : Int), .bool gn, .slice x L c] 45)) #[.int .u64 (gk : Int), .int .u32 (gc : Int), .bool gg, .slice gx gl gp] 43).alloc (.cells #[.int .u64 0, .int .u32 0, .bool false, .slice none 0 0] 43)
  have hZ := Blk.new ((w.alloc (.cells #[.int .i64 fr, .int .i64 tt, .int .i64 4, .int .i64 vo, .int .i64 li, .int .u64 (id : Int), .int .i64 co, .bool has, .int .u64 (key : Int), .int .u32 (ck : Int), .bool gn, .slice x L c] 45)).alloc (.cells #[.int .u64 (gk : Int), .int .u32 (gc : Int), .bool gg, .slice gx gl gp] 43)) #[.int .u64 0, .int .u32 0, .bool false, .slice none 0 0] 43
  rw [show (w.alloc (.cells #[.int .i64 fr, .int .i64 tt, .int .i64 4, .int .i64 vo, .int .i64 li, .int .u64 (id : Int), .int .i64 co, .bool has, .int .u64 (key : Int), .int .u32 (ck : Int), .bool gn, .slice x L c] 45)).heap.size = w.heap.size + 1 by simp] at hG
  rw [show ((w.alloc (.cells #[.int .i64 fr, .int .i64 tt, .int .i64 4, .int .i64 vo, .int .i64 li, .int .u64 (id : Int), .int .i64 co, .bool has, .int .u64 (key : Int), .int .u32 (ck : Int), .bool gn, .slice x L c] 45)).alloc (.cells #[.int .u64 (gk : Int), .int .u32 (gc : Int), .bool gg, .slice gx gl gp] 43)).heap.size = w.heap.size + 1 + 1 by simp] at hZ
  obtain ⟨w3, hw3⟩ : ∃ q, ((w.alloc (.cells #[.int .i64 fr, .int .i64 tt, .int .i64 4, .int .i64 vo, .int .i64 li, .int .u64 (id : Int), .int .i64 co, .bool has, .int .u64 (key : Int), .int .u32 (ck : Int), .bool gn, .slice x L c] 45)).alloc (.cells #[.int .u64 (gk : Int), .int .u32 (gc : Int), .bool gg, .slice gx gl gp] 43)).alloc (.cells #[.int .u64 0, .int .u32 0, .bool false, .slice none 0 0] 43) = q := ⟨_, rfl⟩
  rw [hw3] at hB3 hX hG hZ
  have HS := Lib.hid (stands_f key g p k S d s w3 (h.below hB3))
  obtain ⟨FL, hFL⟩ : ∃ z, (standN s key).isSome = z := ⟨_, rfl⟩
  obtain ⟨RM, hRM⟩ : ∃ z, (standN s key).getD nz = z := ⟨_, rfl⟩
  simp only [hFL, hRM] at HS ⊢
  have p0 := hX.cell 0 rfl
  have p1 := hX.cell 1 rfl
  have p2 := hX.cell 2 rfl
  have p3 := hX.cell 3 rfl
  have p4 := hX.cell 4 rfl
  have p5 := hX.cell 5 rfl
  have p6 := hX.cell 6 rfl
  have p7 := hX.cell 7 rfl
  have p8 := hX.cell 8 rfl
  have p9 := hX.cell 9 rfl
  have p10 := hX.cell 10 rfl
  have p11 := hX.cell 11 rfl
  have HZ := Lib.hid hZ
  have HB := Lib.hid hB3
  have hlz := hZ.lt
  clear hB1 hB2 hB3 hX hG hZ h hFL hRM
  go_enter Tryz.func47, Tryz.ntmps47
  go_upto_region 1 with fail
  try rw [hw3]
  clear hw3
  go_wp2_with fail
  refine HS.out.mono ?_
  rintro e w4 ⟨nk, nc, ng, nd, y, M, cc, rfl, hi4, hlo, hb4, hm⟩
  have HM := Lib.hid hm
  have HI := Lib.hid hi4
  have HLO := Lib.hid hlo
  have hZ4 := HZ.out.below hb4 HZ.out.lt
  have z0 := hZ4.cell 0 rfl
  have z1 := hZ4.cell 1 rfl
  have z2 := hZ4.cell 2 rfl
  have z3 := hZ4.cell 3 rfl
  have zf := fun j => hZ4.free j
  have HF := Lib.hid (fin4z hZ4 (HB.out.trans (hb4.mono HB.out.size)) (by omega) (.int .u64 (nk : Int)) (.int .u32 (nc : Int)) (.bool ng) (.slice y M cc))
  clear hm hi4 hb4 hlo hZ4 p0 p1 p2 p3 p4 p5 p6 p7 p8 p9 p10 p11
  go_wp2
  obtain ⟨y0, y1, y2, y3, yb, yk⟩ := HF.out
  exact bodyPost_ret (v := .tuple #[.agg #[.int .u64 (nk : Int), .int .u32 (nc : Int), .bool ng, .slice y M cc], .bool FL]) (by simp [results, Tryz.results47, go_sem, y0, y1, y2, y3]) rfl ⟨nk, nc, ng, nd, y, M, cc, rfl, HI.out.kept yk (fun b hb e => by have := HLO.out b hb; omega), fun b hb => by have := HLO.out b hb; omega, yb, HM.out⟩
set_option maxRecDepth 100000 in
set_option maxHeartbeats 2000000 in
theorem tell_del8 (fr tt vo li : Int) (id : Nat) (co : Int) (has : Bool) (key ck : Nat) (gn : Bool) (x : Option Addr) (L c : Nat) (gk gc : Nat) (gg : Bool) (gx : Option Addr) (gl gp : Nat) (g p k : Nat) (S : Nat → Prop) (d : Dsk) (s : Vst) (w : World) (h : Vready w g p S d k s) :
    Calls Tryz.prog 47 #[.pointer (some ⟨g, 0, none⟩), .agg #[.int .i64 fr, .int .i64 tt, .int .i64 4, .int .i64 vo, .int .i64 li, .int .u64 (id : Int), .int .i64 co, .bool has, .int .u64 (key : Int), .int .u32 (ck : Int), .bool gn, .slice x L c], .int .i64 8, .agg #[.int .u64 (gk : Int), .int .u32 (gc : Int), .bool gg, .slice gx gl gp]] w fun e w' => ∃ (nk nc : Nat) (ng : Bool) (nd : List UInt8) (y : Option Addr) (M cc : Nat), e = .returned (.tuple #[.agg #[.int .u64 (nk : Int), .int .u32 (nc : Int), .bool ng, .slice y M cc], .bool (standN s key).isSome]) ∧ IsB w' (.slice y M cc) nd ∧ (∀ b, liesB (.slice y M cc) nd b → w.heap.size ≤ b) ∧ Below w.heap.size w w' ∧ (⟨nk, nc, ng, nd⟩ : Ndl) = (standN s key).getD nz := by
  have hB1 := below_new16 w (.cells #[.int .i64 fr, .int .i64 tt, .int .i64 4, .int .i64 vo, .int .i64 li, .int .u64 (id : Int), .int .i64 co, .bool has, .int .u64 (key : Int), .int .u32 (ck : Int), .bool gn, .slice x L c] 45)
  have hB2 := hB1.alloc hB1.size (.cells #[.int .u64 (gk : Int), .int .u32 (gc : Int), .bool gg, .slice gx gl gp] 43)
  have hB3 := hB2.alloc hB2.size (.cells #[.int .u64 0, .int .u32 0, .bool false, .slice none 0 0] 43)
  have hX := ((Blk.new w #[.int .i64 fr, .int .i64 tt, .int .i64 4, .int .i64 vo, .int .i64 li, .int .u64 (id : Int), .int .i64 co, .bool has, .int .u64 (key : Int), .int .u32 (ck : Int), .bool gn, .slice x L c] 45).alloc (.cells #[.int .u64 (gk : Int), .int .u32 (gc : Int), .bool gg, .slice gx gl gp] 43)).alloc (.cells #[.int .u64 0, .int .u32 0, .bool false, .slice none 0 0] 43)
  have hG := (Blk.new (w.alloc (.cells #[.int .i64 fr, .int .i64 tt, .int .i64 4, .int .i64 vo, .int .i64 li, .int .u64 (id : Int), .int .i64 co, .bool has, .int .u64 (key : Int), .int .u32 (ck : Int), .bool gn, .slice x L c] 45)) #[.int .u64 (gk : Int), .int .u32 (gc : Int), .bool gg, .slice gx gl gp] 43).alloc (.cells #[.int .u64 0, .int .u32 0, .bool false, .slice none 0 0] 43)
  have hZ := Blk.new ((w.alloc (.cells #[.int .i64 fr, .int .i64 tt, .int .i64 4, .int .i64 vo, .int .i64 li, .int .u64 (id : Int), .int .i64 co, .bool has, .int .u64 (key : Int), .int .u32 (ck : Int), .bool gn, .slice x L c] 45)).alloc (.cells #[.int .u64 (gk : Int), .int .u32 (gc : Int), .bool gg, .slice gx gl gp] 43)) #[.int .u64 0, .int .u32 0, .bool false, .slice none 0 0] 43
  rw [show (w.alloc (.cells #[.int .i64 fr, .int .i64 tt, .int .i64 4, .int .i64 vo, .int .i64 li, .int .u64 (id : Int), .int .i64 co, .bool has, .int .u64 (key : Int), .int .u32 (ck : Int), .bool gn, .slice x L c] 45)).heap.size = w.heap.size + 1 by simp] at hG
  rw [show ((w.alloc (.cells #[.int .i64 fr, .int .i64 tt, .int .i64 4, .int .i64 vo, .int .i64 li, .int .u64 (id : Int), .int .i64 co, .bool has, .int .u64 (key : Int), .int .u32 (ck : Int), .bool gn, .slice x L c] 45)).alloc (.cells #[.int .u64 (gk : Int), .int .u32 (gc : Int), .bool gg, .slice gx gl gp] 43)).heap.size = w.heap.size + 1 + 1 by simp] at hZ
  obtain ⟨w3, hw3⟩ : ∃ q, ((w.alloc (.cells #[.int .i64 fr, .int .i64 tt, .int .i64 4, .int .i64 vo, .int .i64 li, .int .u64 (id : Int), .int .i64 co, .bool has, .int .u64 (key : Int), .int .u32 (ck : Int), .bool gn, .slice x L c] 45)).alloc (.cells #[.int .u64 (gk : Int), .int .u32 (gc : Int), .bool gg, .slice gx gl gp] 43)).alloc (.cells #[.int .u64 0, .int .u32 0, .bool false, .slice none 0 0] 43) = q := ⟨_, rfl⟩
  rw [hw3] at hB3 hX hG hZ
  have HS := Lib.hid (stands_f key g p k S d s w3 (h.below hB3))
  obtain ⟨FL, hFL⟩ : ∃ z, (standN s key).isSome = z := ⟨_, rfl⟩
  obtain ⟨RM, hRM⟩ : ∃ z, (standN s key).getD nz = z := ⟨_, rfl⟩
  simp only [hFL, hRM] at HS ⊢
  have p0 := hX.cell 0 rfl
  have p1 := hX.cell 1 rfl
  have p2 := hX.cell 2 rfl
  have p3 := hX.cell 3 rfl
  have p4 := hX.cell 4 rfl
  have p5 := hX.cell 5 rfl
  have p6 := hX.cell 6 rfl
  have p7 := hX.cell 7 rfl
  have p8 := hX.cell 8 rfl
  have p9 := hX.cell 9 rfl
  have p10 := hX.cell 10 rfl
  have p11 := hX.cell 11 rfl
  have HZ := Lib.hid hZ
  have HB := Lib.hid hB3
  have hlz := hZ.lt
  clear hB1 hB2 hB3 hX hG hZ h hFL hRM
  go_enter Tryz.func47, Tryz.ntmps47
  go_upto_region 1 with fail
  try rw [hw3]
  clear hw3
  go_wp2_with fail
  refine HS.out.mono ?_
  rintro e w4 ⟨nk, nc, ng, nd, y, M, cc, rfl, hi4, hlo, hb4, hm⟩
  have HM := Lib.hid hm
  have HI := Lib.hid hi4
  have HLO := Lib.hid hlo
  have hZ4 := HZ.out.below hb4 HZ.out.lt
  have z0 := hZ4.cell 0 rfl
  have z1 := hZ4.cell 1 rfl
  have z2 := hZ4.cell 2 rfl
  have z3 := hZ4.cell 3 rfl
  have zf := fun j => hZ4.free j
  have HF := Lib.hid (fin4z hZ4 (HB.out.trans (hb4.mono HB.out.size)) (by omega) (.int .u64 (nk : Int)) (.int .u32 (nc : Int)) (.bool ng) (.slice y M cc))
  clear hm hi4 hb4 hlo hZ4 p0 p1 p2 p3 p4 p5 p6 p7 p8 p9 p10 p11
  go_wp2
  obtain ⟨y0, y1, y2, y3, yb, yk⟩ := HF.out
  exact bodyPost_ret (v := .tuple #[.agg #[.int .u64 (nk : Int), .int .u32 (nc : Int), .bool ng, .slice y M cc], .bool FL]) (by simp [results, Tryz.results47, go_sem, y0, y1, y2, y3]) rfl ⟨nk, nc, ng, nd, y, M, cc, rfl, HI.out.kept yk (fun b hb e => by have := HLO.out b hb; omega), fun b hb => by have := HLO.out b hb; omega, yb, HM.out⟩
set_option maxRecDepth 100000 in
set_option maxHeartbeats 2000000 in
theorem tell_del9 (fr tt vo li : Int) (id : Nat) (co : Int) (has : Bool) (key ck : Nat) (gn : Bool) (x : Option Addr) (L c : Nat) (gk gc : Nat) (gg : Bool) (gx : Option Addr) (gl gp : Nat) (g p k : Nat) (S : Nat → Prop) (d : Dsk) (s : Vst) (w : World) (h : Vready w g p S d k s) :
    Calls Tryz.prog 47 #[.pointer (some ⟨g, 0, none⟩), .agg #[.int .i64 fr, .int .i64 tt, .int .i64 4, .int .i64 vo, .int .i64 li, .int .u64 (id : Int), .int .i64 co, .bool has, .int .u64 (key : Int), .int .u32 (ck : Int), .bool gn, .slice x L c], .int .i64 9, .agg #[.int .u64 (gk : Int), .int .u32 (gc : Int), .bool gg, .slice gx gl gp]] w fun e w' => ∃ (nk nc : Nat) (ng : Bool) (nd : List UInt8) (y : Option Addr) (M cc : Nat), e = .returned (.tuple #[.agg #[.int .u64 (nk : Int), .int .u32 (nc : Int), .bool ng, .slice y M cc], .bool (standN s key).isSome]) ∧ IsB w' (.slice y M cc) nd ∧ (∀ b, liesB (.slice y M cc) nd b → w.heap.size ≤ b) ∧ Below w.heap.size w w' ∧ (⟨nk, nc, ng, nd⟩ : Ndl) = (standN s key).getD nz := by
  have hB1 := below_new16 w (.cells #[.int .i64 fr, .int .i64 tt, .int .i64 4, .int .i64 vo, .int .i64 li, .int .u64 (id : Int), .int .i64 co, .bool has, .int .u64 (key : Int), .int .u32 (ck : Int), .bool gn, .slice x L c] 45)
  have hB2 := hB1.alloc hB1.size (.cells #[.int .u64 (gk : Int), .int .u32 (gc : Int), .bool gg, .slice gx gl gp] 43)
  have hB3 := hB2.alloc hB2.size (.cells #[.int .u64 0, .int .u32 0, .bool false, .slice none 0 0] 43)
  have hX := ((Blk.new w #[.int .i64 fr, .int .i64 tt, .int .i64 4, .int .i64 vo, .int .i64 li, .int .u64 (id : Int), .int .i64 co, .bool has, .int .u64 (key : Int), .int .u32 (ck : Int), .bool gn, .slice x L c] 45).alloc (.cells #[.int .u64 (gk : Int), .int .u32 (gc : Int), .bool gg, .slice gx gl gp] 43)).alloc (.cells #[.int .u64 0, .int .u32 0, .bool false, .slice none 0 0] 43)
  have hG := (Blk.new (w.alloc (.cells #[.int .i64 fr, .int .i64 tt, .int .i64 4, .int .i64 vo, .int .i64 li, .int .u64 (id : Int), .int .i64 co, .bool has, .int .u64 (key : Int), .int .u32 (ck : Int), .bool gn, .slice x L c] 45)) #[.int .u64 (gk : Int), .int .u32 (gc : Int), .bool gg, .slice gx gl gp] 43).alloc (.cells #[.int .u64 0, .int .u32 0, .bool false, .slice none 0 0] 43)
  have hZ := Blk.new ((w.alloc (.cells #[.int .i64 fr, .int .i64 tt, .int .i64 4, .int .i64 vo, .int .i64 li, .int .u64 (id : Int), .int .i64 co, .bool has, .int .u64 (key : Int), .int .u32 (ck : Int), .bool gn, .slice x L c] 45)).alloc (.cells #[.int .u64 (gk : Int), .int .u32 (gc : Int), .bool gg, .slice gx gl gp] 43)) #[.int .u64 0, .int .u32 0, .bool false, .slice none 0 0] 43
  rw [show (w.alloc (.cells #[.int .i64 fr, .int .i64 tt, .int .i64 4, .int .i64 vo, .int .i64 li, .int .u64 (id : Int), .int .i64 co, .bool has, .int .u64 (key : Int), .int .u32 (ck : Int), .bool gn, .slice x L c] 45)).heap.size = w.heap.size + 1 by simp] at hG
  rw [show ((w.alloc (.cells #[.int .i64 fr, .int .i64 tt, .int .i64 4, .int .i64 vo, .int .i64 li, .int .u64 (id : Int), .int .i64 co, .bool has, .int .u64 (key : Int), .int .u32 (ck : Int), .bool gn, .slice x L c] 45)).alloc (.cells #[.int .u64 (gk : Int), .int .u32 (gc : Int), .bool gg, .slice gx gl gp] 43)).heap.size = w.heap.size + 1 + 1 by simp] at hZ
  obtain ⟨w3, hw3⟩ : ∃ q, ((w.alloc (.cells #[.int .i64 fr, .int .i64 tt, .int .i64 4, .int .i64 vo, .int .i64 li, .int .u64 (id : Int), .int .i64 co, .bool has, .int .u64 (key : Int), .int .u32 (ck : Int), .bool gn, .slice x L c] 45)).alloc (.cells #[.int .u64 (gk : Int), .int .u32 (gc : Int), .bool gg, .slice gx gl gp] 43)).alloc (.cells #[.int .u64 0, .int .u32 0, .bool false, .slice none 0 0] 43) = q := ⟨_, rfl⟩
  rw [hw3] at hB3 hX hG hZ
  have HS := Lib.hid (stands_f key g p k S d s w3 (h.below hB3))
  obtain ⟨FL, hFL⟩ : ∃ z, (standN s key).isSome = z := ⟨_, rfl⟩
  obtain ⟨RM, hRM⟩ : ∃ z, (standN s key).getD nz = z := ⟨_, rfl⟩
  simp only [hFL, hRM] at HS ⊢
  have p0 := hX.cell 0 rfl
  have p1 := hX.cell 1 rfl
  have p2 := hX.cell 2 rfl
  have p3 := hX.cell 3 rfl
  have p4 := hX.cell 4 rfl
  have p5 := hX.cell 5 rfl
  have p6 := hX.cell 6 rfl
  have p7 := hX.cell 7 rfl
  have p8 := hX.cell 8 rfl
  have p9 := hX.cell 9 rfl
  have p10 := hX.cell 10 rfl
  have p11 := hX.cell 11 rfl
  have HZ := Lib.hid hZ
  have HB := Lib.hid hB3
  have hlz := hZ.lt
  clear hB1 hB2 hB3 hX hG hZ h hFL hRM
  go_enter Tryz.func47, Tryz.ntmps47
  go_upto_region 1 with fail
  try rw [hw3]
  clear hw3
  go_wp2_with fail
  refine HS.out.mono ?_
  rintro e w4 ⟨nk, nc, ng, nd, y, M, cc, rfl, hi4, hlo, hb4, hm⟩
  have HM := Lib.hid hm
  have HI := Lib.hid hi4
  have HLO := Lib.hid hlo
  have hZ4 := HZ.out.below hb4 HZ.out.lt
  have z0 := hZ4.cell 0 rfl
  have z1 := hZ4.cell 1 rfl
  have z2 := hZ4.cell 2 rfl
  have z3 := hZ4.cell 3 rfl
  have zf := fun j => hZ4.free j
  have HF := Lib.hid (fin4z hZ4 (HB.out.trans (hb4.mono HB.out.size)) (by omega) (.int .u64 (nk : Int)) (.int .u32 (nc : Int)) (.bool ng) (.slice y M cc))
  clear hm hi4 hb4 hlo hZ4 p0 p1 p2 p3 p4 p5 p6 p7 p8 p9 p10 p11
  go_wp2
  obtain ⟨y0, y1, y2, y3, yb, yk⟩ := HF.out
  exact bodyPost_ret (v := .tuple #[.agg #[.int .u64 (nk : Int), .int .u32 (nc : Int), .bool ng, .slice y M cc], .bool FL]) (by simp [results, Tryz.results47, go_sem, y0, y1, y2, y3]) rfl ⟨nk, nc, ng, nd, y, M, cc, rfl, HI.out.kept yk (fun b hb e => by have := HLO.out b hb; omega), fun b hb => by have := HLO.out b hb; omega, yb, HM.out⟩
set_option maxRecDepth 100000 in
set_option maxHeartbeats 2000000 in
theorem tell_get7 (fr tt vo li : Int) (id : Nat) (co : Int) (has : Bool) (key ck : Nat) (gn : Bool) (x : Option Addr) (L c : Nat) (gk gc : Nat) (gg : Bool) (gx : Option Addr) (gl gp : Nat) (g p k : Nat) (S : Nat → Prop) (d : Dsk) (s : Vst) (w : World) (h : Vready w g p S d k s) :
    Calls Tryz.prog 47 #[.pointer (some ⟨g, 0, none⟩), .agg #[.int .i64 fr, .int .i64 tt, .int .i64 3, .int .i64 vo, .int .i64 li, .int .u64 (id : Int), .int .i64 co, .bool has, .int .u64 (key : Int), .int .u32 (ck : Int), .bool gn, .slice x L c], .int .i64 7, .agg #[.int .u64 (gk : Int), .int .u32 (gc : Int), .bool gg, .slice gx gl gp]] w fun e w' => ∃ (nk nc : Nat) (ng : Bool) (nd : List UInt8) (y : Option Addr) (M cc : Nat), e = .returned (.tuple #[.agg #[.int .u64 (nk : Int), .int .u32 (nc : Int), .bool ng, .slice y M cc], .bool (standN s key).isSome]) ∧ IsB w' (.slice y M cc) nd ∧ (∀ b, liesB (.slice y M cc) nd b → w.heap.size ≤ b) ∧ Below w.heap.size w w' ∧ (⟨nk, nc, ng, nd⟩ : Ndl) = (standN s key).getD nz := by
  have hB1 := below_new16 w (.cells #[.int .i64 fr, .int .i64 tt, .int .i64 3, .int .i64 vo, .int .i64 li, .int .u64 (id : Int), .int .i64 co, .bool has, .int .u64 (key : Int), .int .u32 (ck : Int), .bool gn, .slice x L c] 45)
  have hB2 := hB1.alloc hB1.size (.cells #[.int .u64 (gk : Int), .int .u32 (gc : Int), .bool gg, .slice gx gl gp] 43)
  have hB3 := hB2.alloc hB2.size (.cells #[.int .u64 0, .int .u32 0, .bool false, .slice none 0 0] 43)
  have hX := ((Blk.new w #[.int .i64 fr, .int .i64 tt, .int .i64 3, .int .i64 vo, .int .i64 li, .int .u64 (id : Int), .int .i64 co, .bool has, .int .u64 (key : Int), .int .u32 (ck : Int), .bool gn, .slice x L c] 45).alloc (.cells #[.int .u64 (gk : Int), .int .u32 (gc : Int), .bool gg, .slice gx gl gp] 43)).alloc (.cells #[.int .u64 0, .int .u32 0, .bool false, .slice none 0 0] 43)
  have hG := (Blk.new (w.alloc (.cells #[.int .i64 fr, .int .i64 tt, .int .i64 3, .int .i64 vo, .int .i64 li, .int .u64 (id : Int), .int .i64 co, .bool has, .int .u64 (key : Int), .int .u32 (ck : Int), .bool gn, .slice x L c] 45)) #[.int .u64 (gk : Int), .int .u32 (gc : Int), .bool gg, .slice gx gl gp] 43).alloc (.cells #[.int .u64 0, .int .u32 0, .bool false, .slice none 0 0] 43)
  have hZ := Blk.new ((w.alloc (.cells #[.int .i64 fr, .int .i64 tt, .int .i64 3, .int .i64 vo, .int .i64 li, .int .u64 (id : Int), .int .i64 co, .bool has, .int .u64 (key : Int), .int .u32 (ck : Int), .bool gn, .slice x L c] 45)).alloc (.cells #[.int .u64 (gk : Int), .int .u32 (gc : Int), .bool gg, .slice gx gl gp] 43)) #[.int .u64 0, .int .u32 0, .bool false, .slice none 0 0] 43
  rw [show (w.alloc (.cells #[.int .i64 fr, .int .i64 tt, .int .i64 3, .int .i64 vo, .int .i64 li, .int .u64 (id : Int), .int .i64 co, .bool has, .int .u64 (key : Int), .int .u32 (ck : Int), .bool gn, .slice x L c] 45)).heap.size = w.heap.size + 1 by simp] at hG
  rw [show ((w.alloc (.cells #[.int .i64 fr, .int .i64 tt, .int .i64 3, .int .i64 vo, .int .i64 li, .int .u64 (id : Int), .int .i64 co, .bool has, .int .u64 (key : Int), .int .u32 (ck : Int), .bool gn, .slice x L c] 45)).alloc (.cells #[.int .u64 (gk : Int), .int .u32 (gc : Int), .bool gg, .slice gx gl gp] 43)).heap.size = w.heap.size + 1 + 1 by simp] at hZ
  obtain ⟨w3, hw3⟩ : ∃ q, ((w.alloc (.cells #[.int .i64 fr, .int .i64 tt, .int .i64 3, .int .i64 vo, .int .i64 li, .int .u64 (id : Int), .int .i64 co, .bool has, .int .u64 (key : Int), .int .u32 (ck : Int), .bool gn, .slice x L c] 45)).alloc (.cells #[.int .u64 (gk : Int), .int .u32 (gc : Int), .bool gg, .slice gx gl gp] 43)).alloc (.cells #[.int .u64 0, .int .u32 0, .bool false, .slice none 0 0] 43) = q := ⟨_, rfl⟩
  rw [hw3] at hB3 hX hG hZ
  have HS := Lib.hid (stands_f key g p k S d s w3 (h.below hB3))
  obtain ⟨FL, hFL⟩ : ∃ z, (standN s key).isSome = z := ⟨_, rfl⟩
  obtain ⟨RM, hRM⟩ : ∃ z, (standN s key).getD nz = z := ⟨_, rfl⟩
  simp only [hFL, hRM] at HS ⊢
  have p0 := hX.cell 0 rfl
  have p1 := hX.cell 1 rfl
  have p2 := hX.cell 2 rfl
  have p3 := hX.cell 3 rfl
  have p4 := hX.cell 4 rfl
  have p5 := hX.cell 5 rfl
  have p6 := hX.cell 6 rfl
  have p7 := hX.cell 7 rfl
  have p8 := hX.cell 8 rfl
  have p9 := hX.cell 9 rfl
  have p10 := hX.cell 10 rfl
  have p11 := hX.cell 11 rfl
  have HZ := Lib.hid hZ
  have HB := Lib.hid hB3
  have hlz := hZ.lt
  clear hB1 hB2 hB3 hX hG hZ h hFL hRM
  go_enter Tryz.func47, Tryz.ntmps47
  go_upto_region 1 with fail
  try rw [hw3]
  clear hw3
  go_wp2_with fail
  refine HS.out.mono ?_
  rintro e w4 ⟨nk, nc, ng, nd, y, M, cc, rfl, hi4, hlo, hb4, hm⟩
  have HM := Lib.hid hm
  have HI := Lib.hid hi4
  have HLO := Lib.hid hlo
  have hZ4 := HZ.out.below hb4 HZ.out.lt
  have z0 := hZ4.cell 0 rfl
  have z1 := hZ4.cell 1 rfl
  have z2 := hZ4.cell 2 rfl
  have z3 := hZ4.cell 3 rfl
  have zf := fun j => hZ4.free j
  have HF := Lib.hid (fin4z hZ4 (HB.out.trans (hb4.mono HB.out.size)) (by omega) (.int .u64 (nk : Int)) (.int .u32 (nc : Int)) (.bool ng) (.slice y M cc))
  clear hm hi4 hb4 hlo hZ4 p0 p1 p2 p3 p4 p5 p6 p7 p8 p9 p10 p11
  go_wp2
  obtain ⟨y0, y1, y2, y3, yb, yk⟩ := HF.out
  exact bodyPost_ret (v := .tuple #[.agg #[.int .u64 (nk : Int), .int .u32 (nc : Int), .bool ng, .slice y M cc], .bool FL]) (by simp [results, Tryz.results47, go_sem, y0, y1, y2, y3]) rfl ⟨nk, nc, ng, nd, y, M, cc, rfl, HI.out.kept yk (fun b hb e => by have := HLO.out b hb; omega), fun b hb => by have := HLO.out b hb; omega, yb, HM.out⟩
set_option maxRecDepth 100000 in
set_option maxHeartbeats 2000000 in
theorem tell_get8 (fr tt vo li : Int) (id : Nat) (co : Int) (has : Bool) (key ck : Nat) (gn : Bool) (x : Option Addr) (L c : Nat) (gk gc : Nat) (gg : Bool) (gx : Option Addr) (gl gp : Nat) (g p k : Nat) (S : Nat → Prop) (d : Dsk) (s : Vst) (w : World) (h : Vready w g p S d k s) :
    Calls Tryz.prog 47 #[.pointer (some ⟨g, 0, none⟩), .agg #[.int .i64 fr, .int .i64 tt, .int .i64 3, .int .i64 vo, .int .i64 li, .int .u64 (id : Int), .int .i64 co, .bool has, .int .u64 (key : Int), .int .u32 (ck : Int), .bool gn, .slice x L c], .int .i64 8, .agg #[.int .u64 (gk : Int), .int .u32 (gc : Int), .bool gg, .slice gx gl gp]] w fun e w' => ∃ (nk nc : Nat) (ng : Bool) (nd : List UInt8) (y : Option Addr) (M cc : Nat), e = .returned (.tuple #[.agg #[.int .u64 (nk : Int), .int .u32 (nc : Int), .bool ng, .slice y M cc], .bool (standN s key).isSome]) ∧ IsB w' (.slice y M cc) nd ∧ (∀ b, liesB (.slice y M cc) nd b → w.heap.size ≤ b) ∧ Below w.heap.size w w' ∧ (⟨nk, nc, ng, nd⟩ : Ndl) = (standN s key).getD nz := by
  have hB1 := below_new16 w (.cells #[.int .i64 fr, .int .i64 tt, .int .i64 3, .int .i64 vo, .int .i64 li, .int .u64 (id : Int), .int .i64 co, .bool has, .int .u64 (key : Int), .int .u32 (ck : Int), .bool gn, .slice x L c] 45)
  have hB2 := hB1.alloc hB1.size (.cells #[.int .u64 (gk : Int), .int .u32 (gc : Int), .bool gg, .slice gx gl gp] 43)
  have hB3 := hB2.alloc hB2.size (.cells #[.int .u64 0, .int .u32 0, .bool false, .slice none 0 0] 43)
  have hX := ((Blk.new w #[.int .i64 fr, .int .i64 tt, .int .i64 3, .int .i64 vo, .int .i64 li, .int .u64 (id : Int), .int .i64 co, .bool has, .int .u64 (key : Int), .int .u32 (ck : Int), .bool gn, .slice x L c] 45).alloc (.cells #[.int .u64 (gk : Int), .int .u32 (gc : Int), .bool gg, .slice gx gl gp] 43)).alloc (.cells #[.int .u64 0, .int .u32 0, .bool false, .slice none 0 0] 43)
  have hG := (Blk.new (w.alloc (.cells #[.int .i64 fr, .int .i64 tt, .int .i64 3, .int .i64 vo, .int .i64 li, .int .u64 (id : Int), .int .i64 co, .bool has, .int .u64 (key : Int), .int .u32 (ck : Int), .bool gn, .slice x L c] 45)) #[.int .u64 (gk : Int), .int .u32 (gc : Int), .bool gg, .slice gx gl gp] 43).alloc (.cells #[.int .u64 0, .int .u32 0, .bool false, .slice none 0 0] 43)
  have hZ := Blk.new ((w.alloc (.cells #[.int .i64 fr, .int .i64 tt, .int .i64 3, .int .i64 vo, .int .i64 li, .int .u64 (id : Int), .int .i64 co, .bool has, .int .u64 (key : Int), .int .u32 (ck : Int), .bool gn, .slice x L c] 45)).alloc (.cells #[.int .u64 (gk : Int), .int .u32 (gc : Int), .bool gg, .slice gx gl gp] 43)) #[.int .u64 0, .int .u32 0, .bool false, .slice none 0 0] 43
  rw [show (w.alloc (.cells #[.int .i64 fr, .int .i64 tt, .int .i64 3, .int .i64 vo, .int .i64 li, .int .u64 (id : Int), .int .i64 co, .bool has, .int .u64 (key : Int), .int .u32 (ck : Int), .bool gn, .slice x L c] 45)).heap.size = w.heap.size + 1 by simp] at hG
  rw [show ((w.alloc (.cells #[.int .i64 fr, .int .i64 tt, .int .i64 3, .int .i64 vo, .int .i64 li, .int .u64 (id : Int), .int .i64 co, .bool has, .int .u64 (key : Int), .int .u32 (ck : Int), .bool gn, .slice x L c] 45)).alloc (.cells #[.int .u64 (gk : Int), .int .u32 (gc : Int), .bool gg, .slice gx gl gp] 43)).heap.size = w.heap.size + 1 + 1 by simp] at hZ
  obtain ⟨w3, hw3⟩ : ∃ q, ((w.alloc (.cells #[.int .i64 fr, .int .i64 tt, .int .i64 3, .int .i64 vo, .int .i64 li, .int .u64 (id : Int), .int .i64 co, .bool has, .int .u64 (key : Int), .int .u32 (ck : Int), .bool gn, .slice x L c] 45)).alloc (.cells #[.int .u64 (gk : Int), .int .u32 (gc : Int), .bool gg, .slice gx gl gp] 43)).alloc (.cells #[.int .u64 0, .int .u32 0, .bool false, .slice none 0 0] 43) = q := ⟨_, rfl⟩
  rw [hw3] at hB3 hX hG hZ
  have HS := Lib.hid (stands_f key g p k S d s w3 (h.below hB3))
  obtain ⟨FL, hFL⟩ : ∃ z, (standN s key).isSome = z := ⟨_, rfl⟩
  obtain ⟨RM, hRM⟩ : ∃ z, (standN s key).getD nz = z := ⟨_, rfl⟩
  simp only [hFL, hRM] at HS ⊢
  have p0 := hX.cell 0 rfl
  have p1 := hX.cell 1 rfl
  have p2 := hX.cell 2 rfl
  have p3 := hX.cell 3 rfl
  have p4 := hX.cell 4 rfl
  have p5 := hX.cell 5 rfl
  have p6 := hX.cell 6 rfl
  have p7 := hX.cell 7 rfl
  have p8 := hX.cell 8 rfl
  have p9 := hX.cell 9 rfl
  have p10 := hX.cell 10 rfl
  have p11 := hX.cell 11 rfl
  have HZ := Lib.hid hZ
  have HB := Lib.hid hB3
  have hlz := hZ.lt
  clear hB1 hB2 hB3 hX hG hZ h hFL hRM
  go_enter Tryz.func47, Tryz.ntmps47
  go_upto_region 1 with fail
  try rw [hw3]
  clear hw3
  go_wp2_with fail
  refine HS.out.mono ?_
  rintro e w4 ⟨nk, nc, ng, nd, y, M, cc, rfl, hi4, hlo, hb4, hm⟩
  have HM := Lib.hid hm
  have HI := Lib.hid hi4
  have HLO := Lib.hid hlo
  have hZ4 := HZ.out.below hb4 HZ.out.lt
  have z0 := hZ4.cell 0 rfl
  have z1 := hZ4.cell 1 rfl
  have z2 := hZ4.cell 2 rfl
  have z3 := hZ4.cell 3 rfl
  have zf := fun j => hZ4.free j
  have HF := Lib.hid (fin4z hZ4 (HB.out.trans (hb4.mono HB.out.size)) (by omega) (.int .u64 (nk : Int)) (.int .u32 (nc : Int)) (.bool ng) (.slice y M cc))
  clear hm hi4 hb4 hlo hZ4 p0 p1 p2 p3 p4 p5 p6 p7 p8 p9 p10 p11
  go_wp2
  obtain ⟨y0, y1, y2, y3, yb, yk⟩ := HF.out
  exact bodyPost_ret (v := .tuple #[.agg #[.int .u64 (nk : Int), .int .u32 (nc : Int), .bool ng, .slice y M cc], .bool FL]) (by simp [results, Tryz.results47, go_sem, y0, y1, y2, y3]) rfl ⟨nk, nc, ng, nd, y, M, cc, rfl, HI.out.kept yk (fun b hb e => by have := HLO.out b hb; omega), fun b hb => by have := HLO.out b hb; omega, yb, HM.out⟩
set_option maxRecDepth 100000 in
set_option maxHeartbeats 2000000 in
theorem tell_get9 (fr tt vo li : Int) (id : Nat) (co : Int) (has : Bool) (key ck : Nat) (gn : Bool) (x : Option Addr) (L c : Nat) (gk gc : Nat) (gg : Bool) (gx : Option Addr) (gl gp : Nat) (g p k : Nat) (S : Nat → Prop) (d : Dsk) (s : Vst) (w : World) (h : Vready w g p S d k s) :
    Calls Tryz.prog 47 #[.pointer (some ⟨g, 0, none⟩), .agg #[.int .i64 fr, .int .i64 tt, .int .i64 3, .int .i64 vo, .int .i64 li, .int .u64 (id : Int), .int .i64 co, .bool has, .int .u64 (key : Int), .int .u32 (ck : Int), .bool gn, .slice x L c], .int .i64 9, .agg #[.int .u64 (gk : Int), .int .u32 (gc : Int), .bool gg, .slice gx gl gp]] w fun e w' => ∃ (nk nc : Nat) (ng : Bool) (nd : List UInt8) (y : Option Addr) (M cc : Nat), e = .returned (.tuple #[.agg #[.int .u64 (nk : Int), .int .u32 (nc : Int), .bool ng, .slice y M cc], .bool (standN s key).isSome]) ∧ IsB w' (.slice y M cc) nd ∧ (∀ b, liesB (.slice y M cc) nd b → w.heap.size ≤ b) ∧ Below w.heap.size w w' ∧ (⟨nk, nc, ng, nd⟩ : Ndl) = (standN s key).getD nz := by
  have hB1 := below_new16 w (.cells #[.int .i64 fr, .int .i64 tt, .int .i64 3, .int .i64 vo, .int .i64 li, .int .u64 (id : Int), .int .i64 co, .bool has, .int .u64 (key : Int), .int .u32 (ck : Int), .bool gn, .slice x L c] 45)
  have hB2 := hB1.alloc hB1.size (.cells #[.int .u64 (gk : Int), .int .u32 (gc : Int), .bool gg, .slice gx gl gp] 43)
  have hB3 := hB2.alloc hB2.size (.cells #[.int .u64 0, .int .u32 0, .bool false, .slice none 0 0] 43)
  have hX := ((Blk.new w #[.int .i64 fr, .int .i64 tt, .int .i64 3, .int .i64 vo, .int .i64 li, .int .u64 (id : Int), .int .i64 co, .bool has, .int .u64 (key : Int), .int .u32 (ck : Int), .bool gn, .slice x L c] 45).alloc (.cells #[.int .u64 (gk : Int), .int .u32 (gc : Int), .bool gg, .slice gx gl gp] 43)).alloc (.cells #[.int .u64 0, .int .u32 0, .bool false, .slice none 0 0] 43)
  have hG := (Blk.new (w.alloc (.cells #[.int .i64 fr, .int .i64 tt, .int .i64 3, .int .i64 vo, .int .i64 li, .int .u64 (id : Int), .int .i64 co, .bool has, .int .u64 (key : Int), .int .u32 (ck : Int), .bool gn, .slice x L c] 45)) #[.int .u64 (gk : Int), .int .u32 (gc : Int), .bool gg, .slice gx gl gp] 43).alloc (.cells #[.int .u64 0, .int .u32 0, .bool false, .slice none 0 0] 43)
  have hZ := Blk.new ((w.alloc (.cells #[.int .i64 fr, .int .i64 tt, .int .i64 3, .int .i64 vo, .int .i64 li, .int .u64 (id : Int), .int .i64 co, .bool has, .int .u64 (key : Int), .int .u32 (ck : Int), .bool gn, .slice x L c] 45)).alloc (.cells #[.int .u64 (gk : Int), .int .u32 (gc : Int), .bool gg, .slice gx gl gp] 43)) #[.int .u64 0, .int .u32 0, .bool false, .slice none 0 0] 43
  rw [show (w.alloc (.cells #[.int .i64 fr, .int .i64 tt, .int .i64 3, .int .i64 vo, .int .i64 li, .int .u64 (id : Int), .int .i64 co, .bool has, .int .u64 (key : Int), .int .u32 (ck : Int), .bool gn, .slice x L c] 45)).heap.size = w.heap.size + 1 by simp] at hG
  rw [show ((w.alloc (.cells #[.int .i64 fr, .int .i64 tt, .int .i64 3, .int .i64 vo, .int .i64 li, .int .u64 (id : Int), .int .i64 co, .bool has, .int .u64 (key : Int), .int .u32 (ck : Int), .bool gn, .slice x L c] 45)).alloc (.cells #[.int .u64 (gk : Int), .int .u32 (gc : Int), .bool gg, .slice gx gl gp] 43)).heap.size = w.heap.size + 1 + 1 by simp] at hZ
  obtain ⟨w3, hw3⟩ : ∃ q, ((w.alloc (.cells #[.int .i64 fr, .int .i64 tt, .int .i64 3, .int .i64 vo, .int .i64 li, .int .u64 (id : Int), .int .i64 co, .bool has, .int .u64 (key : Int), .int .u32 (ck : Int), .bool gn, .slice x L c] 45)).alloc (.cells #[.int .u64 (gk : Int), .int .u32 (gc : Int), .bool gg, .slice gx gl gp] 43)).alloc (.cells #[.int .u64 0, .int .u32 0, .bool false, .slice none 0 0] 43) = q := ⟨_, rfl⟩
  rw [hw3] at hB3 hX hG hZ
  have HS := Lib.hid (stands_f key g p k S d s w3 (h.below hB3))
  obtain ⟨FL, hFL⟩ : ∃ z, (standN s key).isSome = z := ⟨_, rfl⟩
  obtain ⟨RM, hRM⟩ : ∃ z, (standN s key).getD nz = z := ⟨_, rfl⟩
  simp only [hFL, hRM] at HS ⊢
  have p0 := hX.cell 0 rfl
  have p1 := hX.cell 1 rfl
  have p2 := hX.cell 2 rfl
  have p3 := hX.cell 3 rfl
  have p4 := hX.cell 4 rfl
  have p5 := hX.cell 5 rfl
  have p6 := hX.cell 6 rfl
  have p7 := hX.cell 7 rfl
  have p8 := hX.cell 8 rfl
  have p9 := hX.cell 9 rfl
  have p10 := hX.cell 10 rfl
  have p11 := hX.cell 11 rfl
  have HZ := Lib.hid hZ
  have HB := Lib.hid hB3
  have hlz := hZ.lt
  clear hB1 hB2 hB3 hX hG hZ h hFL hRM
  go_enter Tryz.func47, Tryz.ntmps47
  go_upto_region 1 with fail
  try rw [hw3]
  clear hw3
  go_wp2_with fail
  refine HS.out.mono ?_
  rintro e w4 ⟨nk, nc, ng, nd, y, M, cc, rfl, hi4, hlo, hb4, hm⟩
  have HM := Lib.hid hm
  have HI := Lib.hid hi4
  have HLO := Lib.hid hlo
  have hZ4 := HZ.out.below hb4 HZ.out.lt
  have z0 := hZ4.cell 0 rfl
  have z1 := hZ4.cell 1 rfl
  have z2 := hZ4.cell 2 rfl
  have z3 := hZ4.cell 3 rfl
  have zf := fun j => hZ4.free j
  have HF := Lib.hid (fin4z hZ4 (HB.out.trans (hb4.mono HB.out.size)) (by omega) (.int .u64 (nk : Int)) (.int .u32 (nc : Int)) (.bool ng) (.slice y M cc))
  clear hm hi4 hb4 hlo hZ4 p0 p1 p2 p3 p4 p5 p6 p7 p8 p9 p10 p11
  go_wp2
  obtain ⟨y0, y1, y2, y3, yb, yk⟩ := HF.out
  exact bodyPost_ret (v := .tuple #[.agg #[.int .u64 (nk : Int), .int .u32 (nc : Int), .bool ng, .slice y M cc], .bool FL]) (by simp [results, Tryz.results47, go_sem, y0, y1, y2, y3]) rfl ⟨nk, nc, ng, nd, y, M, cc, rfl, HI.out.kept yk (fun b hb e => by have := HLO.out b hb; omega), fun b hb => by have := HLO.out b hb; omega, yb, HM.out⟩

end Go.Proofs.YtllbngopfganjaaGreatDoor.Nd
end

section
namespace Go.Proofs.YtllbngopfganjaaGreatDoor.Nd
open Go.RowKit Go.Cor

/-- What a kind of request does to a volume; its code. -/
def doV (s : Vst) (kd : Int) (n : Ndl) : Vst × Nat := if kd = 1 then s.put n else if kd = 2 then s.lay n else if kd = 3 then (s, s.look n.key n.cookie) else s.del n.key n.cookie
/-- The needle that goes with a code. -/
def tellO (kd : Int) (code : Nat) (s : Vst) (key : Nat) (got : Ndl) : Option Ndl := if kd = 2 then none else if kd = 3 ∧ code = 0 then some got else tellN s key code
theorem doN_eq (s : Vst) (m : Msg) (h1 : m.has = true) (h2 : m.vo = 1) (got : Ndl) (hg : m.kd = 3 → s.look m.n.key m.n.cookie = 0 → newest s.ns m.n.key = some got) :
    doN s m = ((doV s m.kd m.n).1, (doV s m.kd m.n).2, tellO m.kd (doV s m.kd m.n).2 (doV s m.kd m.n).1 m.n.key got) := by
  unfold doN doV tellO
  rw [if_neg (by rw [h1]; decide), if_neg (fun h => h h2)]
  by_cases e1 : m.kd = 1
  · rw [if_pos e1, if_pos e1, if_neg (by omega), if_neg (by omega)]
  · rw [if_neg e1, if_neg e1]
    by_cases e2 : m.kd = 2
    · rw [if_pos e2, if_pos e2, if_pos e2]
    · rw [if_neg e2, if_neg e2, if_neg e2]
      by_cases e3 : m.kd = 3
      · rw [if_pos e3, if_pos e3]
        by_cases e0 : s.look m.n.key m.n.cookie = 0
        · rw [if_pos e0, if_pos ⟨e3, e0⟩, e0, hg e3 e0]
        · rw [if_neg e0, if_neg (fun h => e0 h.2)]
      · rw [if_neg e3, if_neg e3, if_neg (fun h => e3 h.1)]
theorem do_z (fr tt kd vo li : Int) (id : Nat) (co : Int) (has : Bool) (key ck : Nat) (gn : Bool) (x : Option Addr) (L c : Nat) (md : List UInt8) (g p k : Nat) (S : Nat → Prop) (d : Dsk) (s : Vst) (w : World) (hk : kd = 1 ∨ kd = 2 ∨ kd = 3 ∨ kd = 4) (h : Vready w g p S d k s) (hv : IsB w (.slice x L c) md) (hvS : ∀ b, liesB (.slice x L c) md b → ¬ S b) (hf : Ndl.fits ⟨key, ck, gn, md⟩) (hr : Room' s d ⟨key, ck, gn, md⟩) (hr2 : Room' s d (grave key ck)) :
    Calls Tryz.prog 45 #[.pointer (some ⟨g, 0, none⟩), .agg #[.int .i64 fr, .int .i64 tt, .int .i64 kd, .int .i64 vo, .int .i64 li, .int .u64 (id : Int), .int .i64 co, .bool has, .int .u64 (key : Int), .int .u32 (ck : Int), .bool gn, .slice x L c]] w fun e w' => ∃ (gk gc : Nat) (gg : Bool) (gd : List UInt8) (gx : Option Addr) (gl gp : Nat), e = .returned (.tuple #[.agg #[.int .u64 (gk : Int), .int .u32 (gc : Int), .bool gg, .slice gx gl gp], cerr (doV s kd ⟨key, ck, gn, md⟩).2]) ∧ IsB w' (.slice gx gl gp) gd ∧ VolT w w' g p S d s (k + 4) (doV s kd ⟨key, ck, gn, md⟩).1 ∧ (kd = 3 → s.look key ck = 0 → newest s.ns key = some ⟨gk, gc, gg, gd⟩) := by
  rcases hk with rfl | rfl | rfl | rfl
  · refine (do_put fr tt vo li id co has key ck gn md x L c g p k S d s w h hv hvS hf hr).mono ?_
    rintro e w' ⟨rfl, h2⟩
    exact ⟨0, 0, false, [], none, 0, 0, rfl, IsB.nil _, h2, fun e => absurd e (by decide)⟩
  · refine (do_lay fr tt vo li id co has key ck gn md x L c g p k S d s w h hv hvS hf hr).mono ?_
    rintro e w' ⟨rfl, h2⟩
    exact ⟨0, 0, false, [], none, 0, 0, rfl, IsB.nil _, h2, fun e => absurd e (by decide)⟩
  · refine (do_get fr tt vo li id co has key ck gn md x L c g p k S d s w h).mono ?_
    rintro e w' ⟨m, y, cc, rfl, h2, h3, h4⟩
    obtain ⟨gk, gc, gg, gd⟩ := m
    refine ⟨gk, gc, gg, gd, y, gd.length, cc, rfl, h2, h.same h3 (k + 4) (by omega) (by omega), fun _ h0 => ?_⟩
    rw [if_pos h0] at h4
    obtain ⟨n, _, _, h5, _⟩ := look_some h0
    rw [h5] at h4 ⊢
    rw [h4]
    rfl
  · refine (do_del fr tt vo li id co has key ck gn md x L c g p k S d s w h hv hvS hf hr2).mono ?_
    rintro e w' ⟨rfl, h2⟩
    exact ⟨0, 0, false, [], none, 0, 0, rfl, IsB.nil _, h2, fun e => absurd e (by decide)⟩
theorem tell_z (fr tt kd vo li : Int) (id : Nat) (co : Int) (has : Bool) (key ck : Nat) (gn : Bool) (x : Option Addr) (L c : Nat) (code : Nat) (gk gc : Nat) (gg : Bool) (gx : Option Addr) (gl gp : Nat) (gd : List UInt8) (g p k : Nat) (S : Nat → Prop) (d : Dsk) (s : Vst) (w : World) (hk : kd = 1 ∨ kd = 2 ∨ kd = 3 ∨ kd = 4) (h : Vready w g p S d k s) (hv : IsB w (.slice gx gl gp) gd) :
    Calls Tryz.prog 47 #[.pointer (some ⟨g, 0, none⟩), .agg #[.int .i64 fr, .int .i64 tt, .int .i64 kd, .int .i64 vo, .int .i64 li, .int .u64 (id : Int), .int .i64 co, .bool has, .int .u64 (key : Int), .int .u32 (ck : Int), .bool gn, .slice x L c], .int .i64 (code : Int), .agg #[.int .u64 (gk : Int), .int .u32 (gc : Int), .bool gg, .slice gx gl gp]] w fun e w' => ∃ (nk nc : Nat) (ng : Bool) (nd : List UInt8) (y : Option Addr) (M cc : Nat), e = .returned (.tuple #[.agg #[.int .u64 (nk : Int), .int .u32 (nc : Int), .bool ng, .slice y M cc], .bool (tellO kd code s key ⟨gk, gc, gg, gd⟩).isSome]) ∧ IsB w' (.slice y M cc) nd ∧ Below w.heap.size w w' ∧ (⟨nk, nc, ng, nd⟩ : Ndl) = (tellO kd code s key ⟨gk, gc, gg, gd⟩).getD nz := by
  have hno : ∀ (e : Ending) w', tellO kd code s key ⟨gk, gc, gg, gd⟩ = none → (e = .returned (.tuple #[.agg #[.int .u64 0, .int .u32 0, .bool false, .slice none 0 0], .bool false]) ∧ Below w.heap.size w w') → ∃ (nk nc : Nat) (ng : Bool) (nd : List UInt8) (y : Option Addr) (M cc : Nat), e = .returned (.tuple #[.agg #[.int .u64 (nk : Int), .int .u32 (nc : Int), .bool ng, .slice y M cc], .bool (tellO kd code s key ⟨gk, gc, gg, gd⟩).isSome]) ∧ IsB w' (.slice y M cc) nd ∧ Below w.heap.size w w' ∧ (⟨nk, nc, ng, nd⟩ : Ndl) = (tellO kd code s key ⟨gk, gc, gg, gd⟩).getD nz := fun e w' h1 ⟨h2, h3⟩ => by
    rw [h1]
    exact ⟨0, 0, false, [], none, 0, 0, h2, IsB.nil _, h3, rfl⟩
  have hst : ∀ (e : Ending) w', tellO kd code s key ⟨gk, gc, gg, gd⟩ = standN s key → (∃ (nk nc : Nat) (ng : Bool) (nd : List UInt8) (y : Option Addr) (M cc : Nat), e = .returned (.tuple #[.agg #[.int .u64 (nk : Int), .int .u32 (nc : Int), .bool ng, .slice y M cc], .bool (standN s key).isSome]) ∧ IsB w' (.slice y M cc) nd ∧ (∀ b, liesB (.slice y M cc) nd b → w.heap.size ≤ b) ∧ Below w.heap.size w w' ∧ (⟨nk, nc, ng, nd⟩ : Ndl) = (standN s key).getD nz) → ∃ (nk nc : Nat) (ng : Bool) (nd : List UInt8) (y : Option Addr) (M cc : Nat), e = .returned (.tuple #[.agg #[.int .u64 (nk : Int), .int .u32 (nc : Int), .bool ng, .slice y M cc], .bool (tellO kd code s key ⟨gk, gc, gg, gd⟩).isSome]) ∧ IsB w' (.slice y M cc) nd ∧ Below w.heap.size w w' ∧ (⟨nk, nc, ng, nd⟩ : Ndl) = (tellO kd code s key ⟨gk, gc, gg, gd⟩).getD nz := fun e w' h1 ⟨nk, nc, ng, nd, y, M, cc, h2, h3, h4, h5, h6⟩ => by
    rw [h1]
    exact ⟨nk, nc, ng, nd, y, M, cc, h2, h3, h5, h6⟩
  have hyes : code = 7 ∨ code = 8 ∨ code = 9 → kd ≠ 2 → tellO kd code s key ⟨gk, gc, gg, gd⟩ = standN s key := fun h1 h2 => by
    unfold tellO tellN
    rw [if_neg h2, if_neg (by omega), if_pos h1]
  have hnot : code ≠ 7 → code ≠ 8 → code ≠ 9 → ¬ (kd = 3 ∧ code = 0) → tellO kd code s key ⟨gk, gc, gg, gd⟩ = none := fun h1 h2 h3 h4 => by
    unfold tellO tellN
    by_cases k2 : kd = 2
    · rw [if_pos k2]
    · rw [if_neg k2, if_neg h4, if_neg (by omega)]
  by_cases c789 : code = 7 ∨ code = 8 ∨ code = 9
  · rcases hk with rfl | rfl | rfl | rfl
    · have hy := hyes c789 (by decide)
      rcases c789 with rfl | rfl | rfl
      · exact (tell_put7 fr tt vo li id co has key ck gn x L c gk gc gg gx gl gp g p k S d s w h).mono fun e w' => hst e w' hy
      · exact (tell_put8 fr tt vo li id co has key ck gn x L c gk gc gg gx gl gp g p k S d s w h).mono fun e w' => hst e w' hy
      · exact (tell_put9 fr tt vo li id co has key ck gn x L c gk gc gg gx gl gp g p k S d s w h).mono fun e w' => hst e w' hy
    · exact (tell_lay _ fr tt vo li id co has key ck gn x L c code gk gc gg gx gl gp w).mono fun e w' => hno e w' (by unfold tellO; rw [if_pos rfl])
    · have hy := hyes c789 (by decide)
      rcases c789 with rfl | rfl | rfl
      · exact (tell_get7 fr tt vo li id co has key ck gn x L c gk gc gg gx gl gp g p k S d s w h).mono fun e w' => hst e w' hy
      · exact (tell_get8 fr tt vo li id co has key ck gn x L c gk gc gg gx gl gp g p k S d s w h).mono fun e w' => hst e w' hy
      · exact (tell_get9 fr tt vo li id co has key ck gn x L c gk gc gg gx gl gp g p k S d s w h).mono fun e w' => hst e w' hy
    · have hy := hyes c789 (by decide)
      rcases c789 with rfl | rfl | rfl
      · exact (tell_del7 fr tt vo li id co has key ck gn x L c gk gc gg gx gl gp g p k S d s w h).mono fun e w' => hst e w' hy
      · exact (tell_del8 fr tt vo li id co has key ck gn x L c gk gc gg gx gl gp g p k S d s w h).mono fun e w' => hst e w' hy
      · exact (tell_del9 fr tt vo li id co has key ck gn x L c gk gc gg gx gl gp g p k S d s w h).mono fun e w' => hst e w' hy
  · have h7 : code ≠ 7 := by omega
    have h8 : code ≠ 8 := by omega
    have h9 : code ≠ 9 := by omega
    rcases hk with rfl | rfl | rfl | rfl
    · exact (tell_put _ fr tt vo li id co has key ck gn x L c code gk gc gg gx gl gp w h7 h8 h9).mono fun e w' => hno e w' (hnot h7 h8 h9 (by omega))
    · exact (tell_lay _ fr tt vo li id co has key ck gn x L c code gk gc gg gx gl gp w).mono fun e w' => hno e w' (by unfold tellO; rw [if_pos rfl])
    · by_cases h0 : code = 0
      · subst h0
        refine (tell_got _ fr tt vo li id co has key ck gn x L c gk gc gg gx gl gp gd w hv).mono ?_
        rintro e w' ⟨rfl, h2, h3⟩
        have : tellO 3 0 s key ⟨gk, gc, gg, gd⟩ = some ⟨gk, gc, gg, gd⟩ := rfl
        rw [this]
        exact ⟨gk, gc, gg, gd, gx, gl, gp, rfl, h2, h3, rfl⟩
      · exact (tell_get _ fr tt vo li id co has key ck gn x L c code gk gc gg gx gl gp w h0 h7 h8 h9).mono fun e w' => hno e w' (hnot h7 h8 h9 (fun h => h0 h.2))
    · exact (tell_del _ fr tt vo li id co has key ck gn x L c code gk gc gg gx gl gp w h7 h8 h9).mono fun e w' => hno e w' (hnot h7 h8 h9 (by omega))

end Go.Proofs.YtllbngopfganjaaGreatDoor.Nd
end
