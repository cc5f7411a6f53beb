/- Zw, Zh. -/
import Derived.Test.YtllbngopfganjaaGreatDoorM13
import Derived.Test.YtllbngopfganjaaGreatDoorM3
import Derived.Test.YtllbngopfganjaaGreatDoorM4
import Derived.Deep.CutRange
import Derived.Deep.RegionHeld3
set_option linter.unusedVariables false
set_option linter.unusedSimpArgs false

section
namespace Go.Proofs.YtllbngopfganjaaGreatDoor.Nd
open Go.RowKit Go.Cor

theorem fin12z {w : World} {B : Nat} {a0 a1 a2 a3 a4 a5 a6 a7 a8 a9 a10 a11 : Value} {T : TypeId} (h : Blk w B #[a0, a1, a2, a3, a4, a5, a6, a7, a8, a9, a10, a11] T) (u0 u1 u2 u3 u4 u5 u6 u7 u8 u9 u10 u11 : Value) :
    ((((((((((((w.setCell ⟨B, 0, none⟩ u0).setCell ⟨B, 1, none⟩ u1).setCell ⟨B, 2, none⟩ u2).setCell ⟨B, 3, none⟩ u3).setCell ⟨B, 4, none⟩ u4).setCell ⟨B, 5, none⟩ u5).setCell ⟨B, 6, none⟩ u6).setCell ⟨B, 7, none⟩ u7).setCell ⟨B, 8, none⟩ u8).setCell ⟨B, 9, none⟩ u9).setCell ⟨B, 10, none⟩ u10).setCell ⟨B, 11, none⟩ u11).cell? ⟨B, 0, none⟩ = some u0 ∧ ((((((((((((w.setCell ⟨B, 0, none⟩ u0).setCell ⟨B, 1, none⟩ u1).setCell ⟨B, 2, none⟩ u2).setCell ⟨B, 3, none⟩ u3).setCell ⟨B, 4, none⟩ u4).setCell ⟨B, 5, none⟩ u5).setCell ⟨B, 6, none⟩ u6).setCell ⟨B, 7, none⟩ u7).setCell ⟨B, 8, none⟩ u8).setCell ⟨B, 9, none⟩ u9).setCell ⟨B, 10, none⟩ u10).setCell ⟨B, 11, none⟩ u11).cell? ⟨B, 1, none⟩ = some u1 ∧ ((((((((((((w.setCell ⟨B, 0, none⟩ u0).setCell ⟨B, 1, none⟩ u1).setCell ⟨B, 2, none⟩ u2).setCell ⟨B, 3, none⟩ u3).setCell ⟨B, 4, none⟩ u4).setCell ⟨B, 5, none⟩ u5).setCell ⟨B, 6, none⟩ u6).setCell ⟨B, 7, none⟩ u7).setCell ⟨B, 8, none⟩ u8).setCell ⟨B, 9, none⟩ u9).setCell ⟨B, 10, none⟩ u10).setCell ⟨B, 11, none⟩ u11).cell? ⟨B, 2, none⟩ = some u2 ∧ ((((((((((((w.setCell ⟨B, 0, none⟩ u0).setCell ⟨B, 1, none⟩ u1).setCell ⟨B, 2, none⟩ u2).setCell ⟨B, 3, none⟩ u3).setCell ⟨B, 4, none⟩ u4).setCell ⟨B, 5, none⟩ u5).setCell ⟨B, 6, none⟩ u6).setCell ⟨B, 7, none⟩ u7).setCell ⟨B, 8, none⟩ u8).setCell ⟨B, 9, none⟩ u9).setCell ⟨B, 10, none⟩ u10).setCell ⟨B, 11, none⟩ u11).cell? ⟨B, 3, none⟩ = some u3 ∧ ((((((((((((w.setCell ⟨B, 0, none⟩ u0).setCell ⟨B, 1, none⟩ u1).setCell ⟨B, 2, none⟩ u2).setCell ⟨B, 3, none⟩ u3).setCell ⟨B, 4, none⟩ u4).setCell ⟨B, 5, none⟩ u5).setCell ⟨B, 6, none⟩ u6).setCell ⟨B, 7, none⟩ u7).setCell ⟨B, 8, none⟩ u8).setCell ⟨B, 9, none⟩ u9).setCell ⟨B, 10, none⟩ u10).setCell ⟨B, 11, none⟩ u11).cell? ⟨B, 4, none⟩ = some u4 ∧ ((((((((((((w.setCell ⟨B, 0, none⟩ u0).setCell ⟨B, 1, none⟩ u1).setCell ⟨B, 2, none⟩ u2).setCell ⟨B, 3, none⟩ u3).setCell ⟨B, 4, none⟩ u4).setCell ⟨B, 5, none⟩ u5).setCell ⟨B, 6, none⟩ u6).setCell ⟨B, 7, none⟩ u7).setCell ⟨B, 8, none⟩ u8).setCell ⟨B, 9, none⟩ u9).setCell ⟨B, 10, none⟩ u10).setCell ⟨B, 11, none⟩ u11).cell? ⟨B, 5, none⟩ = some u5 ∧ ((((((((((((w.setCell ⟨B, 0, none⟩ u0).setCell ⟨B, 1, none⟩ u1).setCell ⟨B, 2, none⟩ u2).setCell ⟨B, 3, none⟩ u3).setCell ⟨B, 4, none⟩ u4).setCell ⟨B, 5, none⟩ u5).setCell ⟨B, 6, none⟩ u6).setCell ⟨B, 7, none⟩ u7).setCell ⟨B, 8, none⟩ u8).setCell ⟨B, 9, none⟩ u9).setCell ⟨B, 10, none⟩ u10).setCell ⟨B, 11, none⟩ u11).cell? ⟨B, 6, none⟩ = some u6 ∧ ((((((((((((w.setCell ⟨B, 0, none⟩ u0).setCell ⟨B, 1, none⟩ u1).setCell ⟨B, 2, none⟩ u2).setCell ⟨B, 3, none⟩ u3).setCell ⟨B, 4, none⟩ u4).setCell ⟨B, 5, none⟩ u5).setCell ⟨B, 6, none⟩ u6).setCell ⟨B, 7, none⟩ u7).setCell ⟨B, 8, none⟩ u8).setCell ⟨B, 9, none⟩ u9).setCell ⟨B, 10, none⟩ u10).setCell ⟨B, 11, none⟩ u11).cell? ⟨B, 7, none⟩ = some u7 ∧ ((((((((((((w.setCell ⟨B, 0, none⟩ u0).setCell ⟨B, 1, none⟩ u1).setCell ⟨B, 2, none⟩ u2).setCell ⟨B, 3, none⟩ u3).setCell ⟨B, 4, none⟩ u4).setCell ⟨B, 5, none⟩ u5).setCell ⟨B, 6, none⟩ u6).setCell ⟨B, 7, none⟩ u7).setCell ⟨B, 8, none⟩ u8).setCell ⟨B, 9, none⟩ u9).setCell ⟨B, 10, none⟩ u10).setCell ⟨B, 11, none⟩ u11).cell? ⟨B, 8, none⟩ = some u8 ∧ ((((((((((((w.setCell ⟨B, 0, none⟩ u0).setCell ⟨B, 1, none⟩ u1).setCell ⟨B, 2, none⟩ u2).setCell ⟨B, 3, none⟩ u3).setCell ⟨B, 4, none⟩ u4).setCell ⟨B, 5, none⟩ u5).setCell ⟨B, 6, none⟩ u6).setCell ⟨B, 7, none⟩ u7).setCell ⟨B, 8, none⟩ u8).setCell ⟨B, 9, none⟩ u9).setCell ⟨B, 10, none⟩ u10).setCell ⟨B, 11, none⟩ u11).cell? ⟨B, 9, none⟩ = some u9 ∧ ((((((((((((w.setCell ⟨B, 0, none⟩ u0).setCell ⟨B, 1, none⟩ u1).setCell ⟨B, 2, none⟩ u2).setCell ⟨B, 3, none⟩ u3).setCell ⟨B, 4, none⟩ u4).setCell ⟨B, 5, none⟩ u5).setCell ⟨B, 6, none⟩ u6).setCell ⟨B, 7, none⟩ u7).setCell ⟨B, 8, none⟩ u8).setCell ⟨B, 9, none⟩ u9).setCell ⟨B, 10, none⟩ u10).setCell ⟨B, 11, none⟩ u11).cell? ⟨B, 10, none⟩ = some u10 ∧ ((((((((((((w.setCell ⟨B, 0, none⟩ u0).setCell ⟨B, 1, none⟩ u1).setCell ⟨B, 2, none⟩ u2).setCell ⟨B, 3, none⟩ u3).setCell ⟨B, 4, none⟩ u4).setCell ⟨B, 5, none⟩ u5).setCell ⟨B, 6, none⟩ u6).setCell ⟨B, 7, none⟩ u7).setCell ⟨B, 8, none⟩ u8).setCell ⟨B, 9, none⟩ u9).setCell ⟨B, 10, none⟩ u10).setCell ⟨B, 11, none⟩ u11).cell? ⟨B, 11, none⟩ = some u11 ∧ Kept (fun j => j = B) w ((((((((((((w.setCell ⟨B, 0, none⟩ u0).setCell ⟨B, 1, none⟩ u1).setCell ⟨B, 2, none⟩ u2).setCell ⟨B, 3, none⟩ u3).setCell ⟨B, 4, none⟩ u4).setCell ⟨B, 5, none⟩ u5).setCell ⟨B, 6, none⟩ u6).setCell ⟨B, 7, none⟩ u7).setCell ⟨B, 8, none⟩ u8).setCell ⟨B, 9, none⟩ u9).setCell ⟨B, 10, none⟩ u10).setCell ⟨B, 11, none⟩ u11) := by
  have h1 := ((((((h.set 0 u0).set 1 u1).set 2 u2).set 3 u3).set 4 u4).set 5 u5)
  simp at h1
  have h2 := ((((((h1.set 6 u6).set 7 u7).set 8 u8).set 9 u9).set 10 u10).set 11 u11)
  simp at h2
  exact ⟨h2.cell 0 rfl, h2.cell 1 rfl, h2.cell 2 rfl, h2.cell 3 rfl, h2.cell 4 rfl, h2.cell 5 rfl, h2.cell 6 rfl, h2.cell 7 rfl, h2.cell 8 rfl, h2.cell 9 rfl, h2.cell 10 rfl, h2.cell 11 rfl, ((((((((((((Kept.refl (fun j => j = B) w).setCell (p := ⟨B, 0, none⟩) (.inl rfl) u0).setCell (p := ⟨B, 1, none⟩) (.inl rfl) u1).setCell (p := ⟨B, 2, none⟩) (.inl rfl) u2).setCell (p := ⟨B, 3, none⟩) (.inl rfl) u3).setCell (p := ⟨B, 4, none⟩) (.inl rfl) u4).setCell (p := ⟨B, 5, none⟩) (.inl rfl) u5).setCell (p := ⟨B, 6, none⟩) (.inl rfl) u6).setCell (p := ⟨B, 7, none⟩) (.inl rfl) u7).setCell (p := ⟨B, 8, none⟩) (.inl rfl) u8).setCell (p := ⟨B, 9, none⟩) (.inl rfl) u9).setCell (p := ⟨B, 10, none⟩) (.inl rfl) u10).setCell (p := ⟨B, 11, none⟩) (.inl rfl) u11⟩
theorem Below.trans_keptZ {a w w' : World} {X : Nat} (h : Below a.heap.size a w) (hk : Kept (fun j => j = X) w w') (hX : a.heap.size ≤ X) : Below a.heap.size a w' :=
  hk.below_trans h h.size (fun k hk e => by omega)
/-- What answering leaves: the volume's part anew, and where the answer's bytes lie. -/
structure AnsT (w w' : World) (B g b q : Nat) (So Sv St : Nat → Prop) (vg p tg : Nat) (most : Int) (wv : Value) (n' : NodeP) (r : Nat) (sl : Value) (data : List UInt8) : Prop where
  out : ∃ Sv' d' k', ZAt w' B g b q So Sv' St vg p tg d' k' most wv n' r ∧ Kept Sv w w' ∧ (∀ j, Sv' j → Sv j ∨ w.heap.size ≤ j) ∧ ∀ j, liesB sl data j → w.heap.size ≤ j ∧ ¬ Sv' j
theorem AnsT.same {B g b q vg p tg k : Nat} {So Sv St : Nat → Prop} {d : Dsk} {most : Int} {wv : Value} {n : NodeP} {r : Nat} {w w' : World} {sl : Value} {data : List UInt8} (h : ZAt w B g b q So Sv St vg p tg d k most wv n (r + 1)) (hb : Below w.heap.size w w') (hl : ∀ j, liesB sl data j → w.heap.size ≤ j ∧ ¬ Sv j) : AnsT w w' B g b q So Sv St vg p tg most wv { n with v := n.v } r sl data :=
  ⟨Sv, d, k, (h.below hb).less (Nat.le_succ r), Kept.of_below hb (Nat.le_refl _), fun j hj => .inl hj, hl⟩
set_option maxRecDepth 100000 in
set_option maxHeartbeats 2000000 in
theorem answer_no (fr tt kd vo li : Int) (id : Nat) (co : Int) (key ck : Nat) (gn : Bool) (x : Option Addr) (L c : Nat) (md : List UInt8) {B g b q vg p tg k : Nat} {So Sv St : Nat → Prop} {d : Dsk} {most : Int} {wv : Value} {n : NodeP} {r : Nat} (w : World) (h : ZAt w B g b q So Sv St vg p tg d k most wv n (r + 1)) :
    Calls Tryz.prog 25 #[.pointer (some ⟨g, 0, none⟩), .agg #[.int .i64 fr, .int .i64 tt, .int .i64 kd, .int .i64 vo, .int .i64 li, .int .u64 (id : Int), .int .i64 co, .bool false, .int .u64 (key : Int), .int .u32 (ck : Int), .bool gn, .slice x L c]] w fun e w' => ∃ ax an ac, e = .returned (mval (newM n ⟨fr, tt, kd, vo, li, id, co, false, ⟨key, ck, gn, md⟩⟩) (.slice ax an ac)) ∧ IsB w' (.slice ax an ac) (newM n ⟨fr, tt, kd, vo, li, id, co, false, ⟨key, ck, gn, md⟩⟩).n.data ∧ AnsT w w' B g b q So Sv St vg p tg most wv { n with v := (doN n.v ⟨fr, tt, kd, vo, li, id, co, false, ⟨key, ck, gn, md⟩⟩).1 } r (.slice ax an ac) (newM n ⟨fr, tt, kd, vo, li, id, co, false, ⟨key, ck, gn, md⟩⟩).n.data := by
  have hdn : doN n.v ⟨fr, tt, kd, vo, li, id, co, false, ⟨key, ck, gn, md⟩⟩ = (n.v, 1, none) := by
    unfold doN
    rw [if_pos rfl]
  have hnm : newM n ⟨fr, tt, kd, vo, li, id, co, false, ⟨key, ck, gn, md⟩⟩ = ⟨tt, fr, 5, vo, li, id, 1, false, nz⟩ := by
    unfold newM
    rw [hdn]
    rfl
  rw [hnm, hdn]
  have HH := Lib.hid h
  have hB1 := below_new16 w (.cells #[.int .i64 fr, .int .i64 tt, .int .i64 kd, .int .i64 vo, .int .i64 li, .int .u64 (id : Int), .int .i64 co, .bool false, .int .u64 (key : Int), .int .u32 (ck : Int), .bool gn, .slice x L c] 45)
  have hB2 := hB1.alloc hB1.size (.cells #[.int .i64 0, .int .i64 0, .int .i64 0, .int .i64 0, .int .i64 0, .int .u64 0, .int .i64 0, .bool false, .int .u64 0, .int .u32 0, .bool false, .slice none 0 0] 45)
  have hX2 := (Blk.new w #[.int .i64 fr, .int .i64 tt, .int .i64 kd, .int .i64 vo, .int .i64 li, .int .u64 (id : Int), .int .i64 co, .bool false, .int .u64 (key : Int), .int .u32 (ck : Int), .bool gn, .slice x L c] 45).alloc (.cells #[.int .i64 0, .int .i64 0, .int .i64 0, .int .i64 0, .int .i64 0, .int .u64 0, .int .i64 0, .bool false, .int .u64 0, .int .u32 0, .bool false, .slice none 0 0] 45)
  have hZ2 := Blk.new (w.alloc (.cells #[.int .i64 fr, .int .i64 tt, .int .i64 kd, .int .i64 vo, .int .i64 li, .int .u64 (id : Int), .int .i64 co, .bool false, .int .u64 (key : Int), .int .u32 (ck : Int), .bool gn, .slice x L c] 45)) #[.int .i64 0, .int .i64 0, .int .i64 0, .int .i64 0, .int .i64 0, .int .u64 0, .int .i64 0, .bool false, .int .u64 0, .int .u32 0, .bool false, .slice none 0 0] 45
  rw [show (w.alloc (.cells #[.int .i64 fr, .int .i64 tt, .int .i64 kd, .int .i64 vo, .int .i64 li, .int .u64 (id : Int), .int .i64 co, .bool false, .int .u64 (key : Int), .int .u32 (ck : Int), .bool gn, .slice x L c] 45)).heap.size = w.heap.size + 1 by simp] at hZ2
  obtain ⟨w2, hw2⟩ : ∃ z, (w.alloc (.cells #[.int .i64 fr, .int .i64 tt, .int .i64 kd, .int .i64 vo, .int .i64 li, .int .u64 (id : Int), .int .i64 co, .bool false, .int .u64 (key : Int), .int .u32 (ck : Int), .bool gn, .slice x L c] 45)).alloc (.cells #[.int .i64 0, .int .i64 0, .int .i64 0, .int .i64 0, .int .i64 0, .int .u64 0, .int .i64 0, .bool false, .int .u64 0, .int .u32 0, .bool false, .slice none 0 0] 45) = z := ⟨_, rfl⟩
  rw [hw2] at hB2 hX2 hZ2
  have hs2 : w2.heap.size = w.heap.size + 1 + 1 := by rw [← hw2]; simp
  have HRF := Lib.hid (show Calls Tryz.prog 22 #[.agg #[.int .i64 fr, .int .i64 tt, .int .i64 kd, .int .i64 vo, .int .i64 li, .int .u64 (id : Int), .int .i64 co, .bool false, .int .u64 (key : Int), .int .u32 (ck : Int), .bool gn, .slice x L c], .int .i64 1] w2 fun e w' => ∃ z y, e = .returned (.agg #[.int .i64 tt, .int .i64 fr, .int .i64 5, .int .i64 vo, .int .i64 li, .int .u64 (id : Int), .int .i64 1, .bool false, .int .u64 0, .int .u32 0, .bool false, .slice z 0 y]) ∧ IsB w' (.slice z 0 y) [] ∧ Below w2.heap.size w2 w' from refusal_f fr tt kd vo li id co false key ck gn x L c 1 w2)
  have p0 := hX2.cell 0 rfl
  have p1 := hX2.cell 1 rfl
  have p2 := hX2.cell 2 rfl
  have p3 := hX2.cell 3 rfl
  have p4 := hX2.cell 4 rfl
  have p5 := hX2.cell 5 rfl
  have p6 := hX2.cell 6 rfl
  have p7 := hX2.cell 7 rfl
  have p8 := hX2.cell 8 rfl
  have p9 := hX2.cell 9 rfl
  have p10 := hX2.cell 10 rfl
  have p11 := hX2.cell 11 rfl
  have HZ2 := Lib.hid hZ2
  have HB2 := Lib.hid hB2
  have hlw : w.heap.size + 1 < w2.heap.size := by omega
  clear h hdn hnm hB1 hB2 hX2 hZ2 hs2 
  go_enter Tryz.func25, Tryz.ntmps25
  go_upto_region 1 with fail
  try rw [hw2]
  clear hw2
  go_wp2_with fail
  refine HRF.out.mono ?_
  rintro e w3 ⟨z, y, rfl, hi3, hb3⟩
  have hZ3 := HZ2.out.below hb3 HZ2.out.lt
  have hB3 := HB2.out.trans (hb3.mono HB2.out.size)
  have HF := Lib.hid (fin12z hZ3 (.int .i64 tt) (.int .i64 fr) (.int .i64 5) (.int .i64 vo) (.int .i64 li) (.int .u64 (id : Int)) (.int .i64 1) (.bool false) (.int .u64 0) (.int .u32 0) (.bool false) (.slice z 0 y))
  have HI := Lib.hid hi3
  have HB3 := Lib.hid hB3
  have z0 := hZ3.cell 0 rfl
  have z1 := hZ3.cell 1 rfl
  have z2 := hZ3.cell 2 rfl
  have z3 := hZ3.cell 3 rfl
  have z4 := hZ3.cell 4 rfl
  have z5 := hZ3.cell 5 rfl
  have z6 := hZ3.cell 6 rfl
  have z7 := hZ3.cell 7 rfl
  have z8 := hZ3.cell 8 rfl
  have z9 := hZ3.cell 9 rfl
  have z10 := hZ3.cell 10 rfl
  have z11 := hZ3.cell 11 rfl
  have zf := fun j => hZ3.free j
  clear hi3 hb3 hB3 hZ3 p0 p1 p2 p3 p4 p5 p6 p7 p8 p9 p10 p11
  go_wp2
  obtain ⟨j0, j1, j2, j3, j4, j5, j6, j7, j8, j9, j10, j11, jk⟩ := HF.out
  refine bodyPost_ret (v := .agg #[.int .i64 tt, .int .i64 fr, .int .i64 5, .int .i64 vo, .int .i64 li, .int .u64 (id : Int), .int .i64 1, .bool false, .int .u64 0, .int .u32 0, .bool false, .slice z 0 y]) (by simp [results, Tryz.results25, go_sem, j0, j1, j2, j3, j4, j5, j6, j7, j8, j9, j10, j11]) rfl ⟨z, 0, y, rfl, HI.out.kept jk (fun b hb e => absurd rfl hb.1), ?_⟩
  have hB4 := Below.trans_keptZ HB3.out jk (Nat.le_succ _)
  exact AnsT.same HH.out hB4 (fun j hj => absurd rfl hj.1)
set_option maxRecDepth 100000 in
set_option maxHeartbeats 2000000 in
theorem answer_none (fr tt kd vo li : Int) (id : Nat) (co : Int) (key ck : Nat) (gn : Bool) (x : Option Addr) (L c : Nat) (md : List UInt8) {B g b q vg p tg k : Nat} {So Sv St : Nat → Prop} {d : Dsk} {most : Int} {wv : Value} {n : NodeP} {r : Nat} (w : World) (h : ZAt w B g b q So Sv St vg p tg d k most wv n (r + 1)) (hv1 : vo ≠ 1) (hwf : wfI vo) :
    Calls Tryz.prog 25 #[.pointer (some ⟨g, 0, none⟩), .agg #[.int .i64 fr, .int .i64 tt, .int .i64 kd, .int .i64 vo, .int .i64 li, .int .u64 (id : Int), .int .i64 co, .bool true, .int .u64 (key : Int), .int .u32 (ck : Int), .bool gn, .slice x L c]] w fun e w' => ∃ ax an ac, e = .returned (mval (newM n ⟨fr, tt, kd, vo, li, id, co, true, ⟨key, ck, gn, md⟩⟩) (.slice ax an ac)) ∧ IsB w' (.slice ax an ac) (newM n ⟨fr, tt, kd, vo, li, id, co, true, ⟨key, ck, gn, md⟩⟩).n.data ∧ AnsT w w' B g b q So Sv St vg p tg most wv { n with v := (doN n.v ⟨fr, tt, kd, vo, li, id, co, true, ⟨key, ck, gn, md⟩⟩).1 } r (.slice ax an ac) (newM n ⟨fr, tt, kd, vo, li, id, co, true, ⟨key, ck, gn, md⟩⟩).n.data := by
  have hdn : doN n.v ⟨fr, tt, kd, vo, li, id, co, true, ⟨key, ck, gn, md⟩⟩ = (n.v, 6, none) := by
    unfold doN
    rw [if_neg (show ¬ true = false by decide), if_pos hv1]
  have hnm : newM n ⟨fr, tt, kd, vo, li, id, co, true, ⟨key, ck, gn, md⟩⟩ = ⟨tt, fr, 5, vo, li, id, 6, false, nz⟩ := by
    unfold newM
    rw [hdn]
    rfl
  rw [hnm, hdn]
  have HH := Lib.hid h
  have hB1 := below_new16 w (.cells #[.int .i64 fr, .int .i64 tt, .int .i64 kd, .int .i64 vo, .int .i64 li, .int .u64 (id : Int), .int .i64 co, .bool true, .int .u64 (key : Int), .int .u32 (ck : Int), .bool gn, .slice x L c] 45)
  have hB2 := hB1.alloc hB1.size (.cells #[.int .i64 0, .int .i64 0, .int .i64 0, .int .i64 0, .int .i64 0, .int .u64 0, .int .i64 0, .bool false, .int .u64 0, .int .u32 0, .bool false, .slice none 0 0] 45)
  have hX2 := (Blk.new w #[.int .i64 fr, .int .i64 tt, .int .i64 kd, .int .i64 vo, .int .i64 li, .int .u64 (id : Int), .int .i64 co, .bool true, .int .u64 (key : Int), .int .u32 (ck : Int), .bool gn, .slice x L c] 45).alloc (.cells #[.int .i64 0, .int .i64 0, .int .i64 0, .int .i64 0, .int .i64 0, .int .u64 0, .int .i64 0, .bool false, .int .u64 0, .int .u32 0, .bool false, .slice none 0 0] 45)
  have hZ2 := Blk.new (w.alloc (.cells #[.int .i64 fr, .int .i64 tt, .int .i64 kd, .int .i64 vo, .int .i64 li, .int .u64 (id : Int), .int .i64 co, .bool true, .int .u64 (key : Int), .int .u32 (ck : Int), .bool gn, .slice x L c] 45)) #[.int .i64 0, .int .i64 0, .int .i64 0, .int .i64 0, .int .i64 0, .int .u64 0, .int .i64 0, .bool false, .int .u64 0, .int .u32 0, .bool false, .slice none 0 0] 45
  rw [show (w.alloc (.cells #[.int .i64 fr, .int .i64 tt, .int .i64 kd, .int .i64 vo, .int .i64 li, .int .u64 (id : Int), .int .i64 co, .bool true, .int .u64 (key : Int), .int .u32 (ck : Int), .bool gn, .slice x L c] 45)).heap.size = w.heap.size + 1 by simp] at hZ2
  obtain ⟨w2, hw2⟩ : ∃ z, (w.alloc (.cells #[.int .i64 fr, .int .i64 tt, .int .i64 kd, .int .i64 vo, .int .i64 li, .int .u64 (id : Int), .int .i64 co, .bool true, .int .u64 (key : Int), .int .u32 (ck : Int), .bool gn, .slice x L c] 45)).alloc (.cells #[.int .i64 0, .int .i64 0, .int .i64 0, .int .i64 0, .int .i64 0, .int .u64 0, .int .i64 0, .bool false, .int .u64 0, .int .u32 0, .bool false, .slice none 0 0] 45) = z := ⟨_, rfl⟩
  rw [hw2] at hB2 hX2 hZ2
  have hs2 : w2.heap.size = w.heap.size + 1 + 1 := by rw [← hw2]; simp
  have HRF := Lib.hid (show Calls Tryz.prog 22 #[.agg #[.int .i64 fr, .int .i64 tt, .int .i64 kd, .int .i64 vo, .int .i64 li, .int .u64 (id : Int), .int .i64 co, .bool true, .int .u64 (key : Int), .int .u32 (ck : Int), .bool gn, .slice x L c], .int .i64 6] w2 fun e w' => ∃ z y, e = .returned (.agg #[.int .i64 tt, .int .i64 fr, .int .i64 5, .int .i64 vo, .int .i64 li, .int .u64 (id : Int), .int .i64 6, .bool false, .int .u64 0, .int .u32 0, .bool false, .slice z 0 y]) ∧ IsB w' (.slice z 0 y) [] ∧ Below w2.heap.size w2 w' from refusal_f fr tt kd vo li id co true key ck gn x L c 6 w2)
  have HV := Lib.hid (vol_no (h.below hB2).blk (h.below hB2).map hwf hv1)
  have p0 := hX2.cell 0 rfl
  have p1 := hX2.cell 1 rfl
  have p2 := hX2.cell 2 rfl
  have p3 := hX2.cell 3 rfl
  have p4 := hX2.cell 4 rfl
  have p5 := hX2.cell 5 rfl
  have p6 := hX2.cell 6 rfl
  have p7 := hX2.cell 7 rfl
  have p8 := hX2.cell 8 rfl
  have p9 := hX2.cell 9 rfl
  have p10 := hX2.cell 10 rfl
  have p11 := hX2.cell 11 rfl
  have HZ2 := Lib.hid hZ2
  have HB2 := Lib.hid hB2
  have hlw : w.heap.size + 1 < w2.heap.size := by omega
  clear h hdn hnm hB1 hB2 hX2 hZ2 hs2 hwf hv1
  go_enter Tryz.func25, Tryz.ntmps25
  go_upto_region 1 with fail
  try rw [hw2]
  clear hw2
  go_wp2_with fail
  refine HV.out.mono ?_
  rintro e wx ⟨rfl, rfl⟩
  go_wp2_with fail
  refine HRF.out.mono ?_
  rintro e w3 ⟨z, y, rfl, hi3, hb3⟩
  have hZ3 := HZ2.out.below hb3 HZ2.out.lt
  have hB3 := HB2.out.trans (hb3.mono HB2.out.size)
  have HF := Lib.hid (fin12z hZ3 (.int .i64 tt) (.int .i64 fr) (.int .i64 5) (.int .i64 vo) (.int .i64 li) (.int .u64 (id : Int)) (.int .i64 6) (.bool false) (.int .u64 0) (.int .u32 0) (.bool false) (.slice z 0 y))
  have HI := Lib.hid hi3
  have HB3 := Lib.hid hB3
  have z0 := hZ3.cell 0 rfl
  have z1 := hZ3.cell 1 rfl
  have z2 := hZ3.cell 2 rfl
  have z3 := hZ3.cell 3 rfl
  have z4 := hZ3.cell 4 rfl
  have z5 := hZ3.cell 5 rfl
  have z6 := hZ3.cell 6 rfl
  have z7 := hZ3.cell 7 rfl
  have z8 := hZ3.cell 8 rfl
  have z9 := hZ3.cell 9 rfl
  have z10 := hZ3.cell 10 rfl
  have z11 := hZ3.cell 11 rfl
  have zf := fun j => hZ3.free j
  clear hi3 hb3 hB3 hZ3 p0 p1 p2 p3 p4 p5 p6 p7 p8 p9 p10 p11
  go_wp2
  obtain ⟨j0, j1, j2, j3, j4, j5, j6, j7, j8, j9, j10, j11, jk⟩ := HF.out
  refine bodyPost_ret (v := .agg #[.int .i64 tt, .int .i64 fr, .int .i64 5, .int .i64 vo, .int .i64 li, .int .u64 (id : Int), .int .i64 6, .bool false, .int .u64 0, .int .u32 0, .bool false, .slice z 0 y]) (by simp [results, Tryz.results25, go_sem, j0, j1, j2, j3, j4, j5, j6, j7, j8, j9, j10, j11]) rfl ⟨z, 0, y, rfl, HI.out.kept jk (fun b hb e => absurd rfl hb.1), ?_⟩
  have hB4 := Below.trans_keptZ HB3.out jk (Nat.le_succ _)
  exact AnsT.same HH.out hB4 (fun j hj => absurd rfl hj.1)
theorem grew_do {s : Vst} (kd : Int) {n : Ndl} (h : n.data.length ≤ 300) : Grew s (doV s kd n).1 := by
  unfold doV
  split
  · exact Grew.put s (nlen_le h)
  · split
    · exact Grew.lay s (nlen_le h)
    · split
      · exact Grew.refl s
      · exact Grew.del s _ _
theorem tellO_ok {s : Vst} (hs : ∀ n ∈ s.ns, n.fits ∧ ncheck n = 0) {kd : Int} {code key : Nat} {got : Ndl} (hkey : key < 18446744073709551616) (hg : kd = 3 → code = 0 → got.fits ∧ ncheck got = 0) : ∀ t, tellO kd code s key got = some t → t.fits ∧ ncheck t = 0 := by
  intro t ht
  unfold tellO tellN at ht
  split at ht
  · cases ht
  · split at ht
    · rename_i h1
      cases ht
      exact hg h1.1 h1.2
    · split at ht
      · unfold standN at ht
        split at ht
        · cases ht
        · rename_i o ho
          have h1 := hs o (newest_mem ho).1
          split at ht
          · cases ht
            exact ⟨⟨hkey, h1.1.2⟩, rfl⟩
          · cases ht
            exact h1
      · cases ht
theorem getD_len {o : Option Ndl} (h : ∀ t, o = some t → t.fits ∧ ncheck t = 0) : (o.getD nz).data.length ≤ 4096 := by
  cases o with
  | none => exact Nat.zero_le _
  | some t => exact (ncheck_ok (h t rfl).2).1
set_option maxRecDepth 100000 in
set_option maxHeartbeats 4000000 in
theorem answer_do (fr tt kd li : Int) (id : Nat) (co : Int) (key ck : Nat) (gn : Bool) (x : Option Addr) (L c : Nat) (md : List UInt8) {B g b q vg p tg k : Nat} {So Sv St : Nat → Prop} {d : Dsk} {most : Int} {wv : Value} {n : NodeP} {r : Nat} (w : World) (h : ZAt w B g b q So Sv St vg p tg d k most wv n (r + 1)) (hkd : kd = 1 ∨ kd = 2 ∨ kd = 3 ∨ kd = 4) (hv : IsB w (.slice x L c) md) (hvS : ∀ b, liesB (.slice x L c) md b → ¬ Sv b) (hf : Ndl.fits ⟨key, ck, gn, md⟩) (h3 : md.length ≤ 300) (hg : laidE w) (hB0 : 0 < B) :
    Calls Tryz.prog 25 #[.pointer (some ⟨g, 0, none⟩), .agg #[.int .i64 fr, .int .i64 tt, .int .i64 kd, .int .i64 1, .int .i64 li, .int .u64 (id : Int), .int .i64 co, .bool true, .int .u64 (key : Int), .int .u32 (ck : Int), .bool gn, .slice x L c]] w fun e w' => ∃ ax an ac, e = .returned (mval (newM n ⟨fr, tt, kd, 1, li, id, co, true, ⟨key, ck, gn, md⟩⟩) (.slice ax an ac)) ∧ IsB w' (.slice ax an ac) (newM n ⟨fr, tt, kd, 1, li, id, co, true, ⟨key, ck, gn, md⟩⟩).n.data ∧ AnsT w w' B g b q So Sv St vg p tg most wv { n with v := (doN n.v ⟨fr, tt, kd, 1, li, id, co, true, ⟨key, ck, gn, md⟩⟩).1 } r (.slice ax an ac) (newM n ⟨fr, tt, kd, 1, li, id, co, true, ⟨key, ck, gn, md⟩⟩).n.data := by
  have hr : Room' n.v d ⟨key, ck, gn, md⟩ := ⟨by have := h.pt.few; omega, fun _ => by have := h.pt.sz; have := nlen_le (n := ⟨key, ck, gn, md⟩) h3; omega⟩
  have hr2 : Room' n.v d (grave key ck) := ⟨by have := h.pt.few; omega, fun _ => by have := h.pt.sz; have := nlen_le (n := grave key ck) (by show 0 ≤ 300; omega); omega⟩
  have hgr : Grew n.v (doV n.v kd ⟨key, ck, gn, md⟩).1 := grew_do kd h3
  have hgt : ∀ got, (kd = 3 → n.v.look key ck = 0 → newest n.v.ns key = some got) → doN n.v ⟨fr, tt, kd, 1, li, id, co, true, ⟨key, ck, gn, md⟩⟩ = ((doV n.v kd ⟨key, ck, gn, md⟩).1, (doV n.v kd ⟨key, ck, gn, md⟩).2, tellO kd (doV n.v kd ⟨key, ck, gn, md⟩).2 (doV n.v kd ⟨key, ck, gn, md⟩).1 key got) := fun got hgo => doN_eq n.v ⟨fr, tt, kd, 1, li, id, co, true, ⟨key, ck, gn, md⟩⟩ rfl rfl got hgo
  have hk3 : kd = 3 → (doV n.v kd ⟨key, ck, gn, md⟩).2 = n.v.look key ck := fun e => by subst e; rfl
  have hall := h.pt.vr.ok.all
  have hg0 : ¬ Sv 0 := fun e => by have := h.pt.lo 0 e; omega
  have hold : ∀ j, So j ∨ Sv j ∨ St j → j < w.heap.size := fun j hj => (h.pt.at hj).2
  have HALL := Lib.hid hall
  have HG0 := Lib.hid hg0
  have HOLD := Lib.hid hold
  have hB1 := below_new16 w (.cells #[.int .i64 fr, .int .i64 tt, .int .i64 kd, .int .i64 1, .int .i64 li, .int .u64 (id : Int), .int .i64 co, .bool true, .int .u64 (key : Int), .int .u32 (ck : Int), .bool gn, .slice x L c] 45)
  have hB2 := hB1.alloc hB1.size (.cells #[.int .i64 0, .int .i64 0, .int .i64 0, .int .i64 0, .int .i64 0, .int .u64 0, .int .i64 0, .bool false, .int .u64 0, .int .u32 0, .bool false, .slice none 0 0] 45)
  have hX2 := (Blk.new w #[.int .i64 fr, .int .i64 tt, .int .i64 kd, .int .i64 1, .int .i64 li, .int .u64 (id : Int), .int .i64 co, .bool true, .int .u64 (key : Int), .int .u32 (ck : Int), .bool gn, .slice x L c] 45).alloc (.cells #[.int .i64 0, .int .i64 0, .int .i64 0, .int .i64 0, .int .i64 0, .int .u64 0, .int .i64 0, .bool false, .int .u64 0, .int .u32 0, .bool false, .slice none 0 0] 45)
  have hZ2 := Blk.new (w.alloc (.cells #[.int .i64 fr, .int .i64 tt, .int .i64 kd, .int .i64 1, .int .i64 li, .int .u64 (id : Int), .int .i64 co, .bool true, .int .u64 (key : Int), .int .u32 (ck : Int), .bool gn, .slice x L c] 45)) #[.int .i64 0, .int .i64 0, .int .i64 0, .int .i64 0, .int .i64 0, .int .u64 0, .int .i64 0, .bool false, .int .u64 0, .int .u32 0, .bool false, .slice none 0 0] 45
  rw [show (w.alloc (.cells #[.int .i64 fr, .int .i64 tt, .int .i64 kd, .int .i64 1, .int .i64 li, .int .u64 (id : Int), .int .i64 co, .bool true, .int .u64 (key : Int), .int .u32 (ck : Int), .bool gn, .slice x L c] 45)).heap.size = w.heap.size + 1 by simp] at hZ2
  obtain ⟨w2, hw2⟩ : ∃ z, (w.alloc (.cells #[.int .i64 fr, .int .i64 tt, .int .i64 kd, .int .i64 1, .int .i64 li, .int .u64 (id : Int), .int .i64 co, .bool true, .int .u64 (key : Int), .int .u32 (ck : Int), .bool gn, .slice x L c] 45)).alloc (.cells #[.int .i64 0, .int .i64 0, .int .i64 0, .int .i64 0, .int .i64 0, .int .u64 0, .int .i64 0, .bool false, .int .u64 0, .int .u32 0, .bool false, .slice none 0 0] 45) = z := ⟨_, rfl⟩
  rw [hw2] at hB2 hX2 hZ2
  have hs2 : w2.heap.size = w.heap.size + 1 + 1 := by rw [← hw2]; simp
  have h2 := h.below hB2
  have hg2 : laidE w2 := cell_on17a hB2 hg
  have HDO := Lib.hid (do_z fr tt kd 1 li id co true key ck gn x L c md vg p k Sv d n.v w2 hkd h2.pt.vr (hv.mono hB2 (Nat.le_refl _)) hvS hf hr hr2)
  obtain ⟨K, hK⟩ : ∃ z, (doV n.v kd ⟨key, ck, gn, md⟩).2 = z := ⟨_, rfl⟩
  obtain ⟨V, hV⟩ : ∃ z, (doV n.v kd ⟨key, ck, gn, md⟩).1 = z := ⟨_, rfl⟩
  rw [hK] at hk3
  rw [hV] at hgr
  rw [hK, hV] at hgt HDO
  have HVY := Lib.hid (vol_yes h2.blk h2.map h2.hel)
  have HKD := Lib.hid hkd
  have H2 := Lib.hid h2
  have HG2 := Lib.hid hg2
  have HGR := Lib.hid hgr
  have HGT := Lib.hid hgt
  have HK3 := Lib.hid hk3
  have HFT := Lib.hid hf
  have HX2 := Lib.hid hX2
  have HZ2 := Lib.hid hZ2
  have HB2 := Lib.hid hB2
  have hlw : w.heap.size + 1 < w2.heap.size := by omega
  have p0 := hX2.cell 0 rfl
  have p1 := hX2.cell 1 rfl
  have p2 := hX2.cell 2 rfl
  have p3 := hX2.cell 3 rfl
  have p4 := hX2.cell 4 rfl
  have p5 := hX2.cell 5 rfl
  have p6 := hX2.cell 6 rfl
  have p7 := hX2.cell 7 rfl
  have p8 := hX2.cell 8 rfl
  have p9 := hX2.cell 9 rfl
  have p10 := hX2.cell 10 rfl
  have p11 := hX2.cell 11 rfl
  clear h hkd hv hvS hf h3 hg hB0 hr hr2 hgr hgt hk3 hall hg0 hold hB1 hB2 hX2 hZ2 hs2 h2 hg2 hK hV
  go_enter Tryz.func25, Tryz.ntmps25
  go_upto_region 1 with fail
  try rw [hw2]
  clear hw2
  go_wp2_with fail
  refine HVY.out.mono ?_
  rintro e wx ⟨rfl, rfl⟩
  go_wp2_with fail
  refine HDO.out.mono ?_
  rintro e w3 ⟨gk, gc, gg, gd, gx, gl, gp, rfl, hi3, hvt, hgot⟩
  obtain ⟨Sv', d', hz3, hk3, hs3⟩ := H2.out.vol hvt HGR.out (by omega)
  have hnS : ∀ j, w.heap.size ≤ j → ¬ Sv j := fun j hj e => by have := HOLD.out j (.inr (.inl e)); omega
  have hX3 := HX2.out.kept hk3 (hnS _ (Nat.le_refl _))
  have hZ3 := HZ2.out.kept hk3 (hnS _ (Nat.le_succ _))
  have hg3 : laidE w3 := hk3.cell HG2.out HG0.out
  have hb34 := below_new16 w3 (.cells #[.int .u64 (gk : Int), .int .u32 (gc : Int), .bool gg, .slice gx gl gp] 43)
  have hX4 := hX3.alloc (.cells #[.int .u64 (gk : Int), .int .u32 (gc : Int), .bool gg, .slice gx gl gp] 43)
  have hZ4 := hZ3.alloc (.cells #[.int .u64 (gk : Int), .int .u32 (gc : Int), .bool gg, .slice gx gl gp] 43)
  have hG4 := Blk.new w3 #[.int .u64 (gk : Int), .int .u32 (gc : Int), .bool gg, .slice gx gl gp] 43
  have hz4 := hz3.below hb34
  have hi4 := hi3.mono hb34 (Nat.le_refl _)
  have hg4 : laidE (w3.alloc (.cells #[.int .u64 (gk : Int), .int .u32 (gc : Int), .bool gg, .slice gx gl gp] 43)) := cell_on17a hb34 hg3
  obtain ⟨w4, hw4⟩ : ∃ z, w3.alloc (.cells #[.int .u64 (gk : Int), .int .u32 (gc : Int), .bool gg, .slice gx gl gp] 43) = z := ⟨_, rfl⟩
  rw [hw4] at hb34 hX4 hZ4 hG4 hz4 hi4 hg4
  have HCO := Lib.hid (codeOf_any K w4 hg4)
  have HGOT := Lib.hid hgot
  have HK23 := Lib.hid hk3
  have HS3 := Lib.hid hs3
  have HSV3 := Lib.hid hz3.pt.vr.vl.lt
  have HB34 := Lib.hid hb34
  have HX4 := Lib.hid hX4
  have HZ4 := Lib.hid hZ4
  have HG4 := Lib.hid hG4
  have HZZ4 := Lib.hid hz4
  have HI4 := Lib.hid hi4
  have hl23 : w2.heap.size ≤ w3.heap.size := hk3.size
  clear hgot hi3 hvt hz3 hk3 hs3 hnS hX3 hZ3 hg3 hb34 hX4 hZ4 hG4 hz4 hi4 hg4 p0 p1 p2 p3 p4 p5 p6 p7 p8 p9 p10 p11
  go_upto_region 7 with fail
  try rw [hw4]
  clear hw4
  go_wp2_with fail
  refine HCO.out.mono ?_
  rintro e w5 ⟨rfl, hb5⟩
  have hX5 := HX4.out.below hb5 HX4.out.lt
  have hG5 := HG4.out.below hb5 HG4.out.lt
  have hz5 := HZZ4.out.below hb5
  have HTE := Lib.hid (tell_z fr tt kd 1 li id co true key ck gn x L c K gk gc gg gx gl gp gd vg p (k + 4) Sv' d' V w5 HKD.out hz5.pt.vr (HI4.out.mono hb5 (Nat.le_refl _)))
  have htok := tellO_ok (s := V) hz5.pt.vr.ok.all (kd := kd) (code := K) (got := ⟨gk, gc, gg, gd⟩) HFT.out.1 (fun e1 e2 => HALL.out _ (newest_mem (HGOT.out e1 (by rw [← HK3.out e1]; exact e2))).1)
  have hdn := HGT.out ⟨gk, gc, gg, gd⟩ HGOT.out
  obtain ⟨OO, hOO⟩ : ∃ z, tellO kd K V key ⟨gk, gc, gg, gd⟩ = z := ⟨_, rfl⟩
  rw [hOO] at HTE htok hdn
  have hlen := getD_len htok
  obtain ⟨FL, hFL⟩ : ∃ z, OO.isSome = z := ⟨_, rfl⟩
  obtain ⟨RM, hRM⟩ : ∃ z, OO.getD nz = z := ⟨_, rfl⟩
  rw [hRM] at hlen
  simp only [hFL, hRM] at HTE
  have hnm : newM n ⟨fr, tt, kd, 1, li, id, co, true, ⟨key, ck, gn, md⟩⟩ = ⟨tt, fr, 5, 1, li, id, K, FL, RM⟩ := by
    unfold newM
    rw [hdn]
    show replyM _ _ K OO = _
    unfold replyM
    rw [hFL, hRM]
  have hdn1 : (doN n.v ⟨fr, tt, kd, 1, li, id, co, true, ⟨key, ck, gn, md⟩⟩).1 = V := by rw [hdn]
  have HNM := Lib.hid hnm
  have HDN := Lib.hid hdn1
  have HLEN := Lib.hid hlen
  have HX5 := Lib.hid hX5
  have HZ5 := Lib.hid (HZ4.out.below hb5 HZ4.out.lt)
  have HZZ5 := Lib.hid hz5
  have HB35 := Lib.hid (HB34.out.trans (hb5.mono HB34.out.size))
  have p0 := hX5.cell 0 rfl
  have p1 := hX5.cell 1 rfl
  have p2 := hX5.cell 2 rfl
  have p3 := hX5.cell 3 rfl
  have p4 := hX5.cell 4 rfl
  have p5 := hX5.cell 5 rfl
  have p6 := hX5.cell 6 rfl
  have p7 := hX5.cell 7 rfl
  have p8 := hX5.cell 8 rfl
  have p9 := hX5.cell 9 rfl
  have p10 := hX5.cell 10 rfl
  have p11 := hX5.cell 11 rfl
  have q0 := hG5.cell 0 rfl
  have q1 := hG5.cell 1 rfl
  have q2 := hG5.cell 2 rfl
  have q3 := hG5.cell 3 rfl
  clear hb5 hX5 hG5 hz5 htok hdn hOO hlen hFL hRM hnm hdn1
  go_wp2_with fail
  refine HTE.out.mono ?_
  rintro e w6 ⟨nk, nc, ng, nd, y, M, cc, rfl, hi6, hb6, hm6⟩
  have hb67 := below_new16 w6 (.cells #[.int .u64 (nk : Int), .int .u32 (nc : Int), .bool ng, .slice y M cc] 43)
  have hX7 := (HX5.out.below hb6 HX5.out.lt).alloc (.cells #[.int .u64 (nk : Int), .int .u32 (nc : Int), .bool ng, .slice y M cc] 43)
  have hZ7 := (HZ5.out.below hb6 HZ5.out.lt).alloc (.cells #[.int .u64 (nk : Int), .int .u32 (nc : Int), .bool ng, .slice y M cc] 43)
  have hO7 := Blk.new w6 #[.int .u64 (nk : Int), .int .u32 (nc : Int), .bool ng, .slice y M cc] 43
  have hz7 := (HZZ5.out.below hb6).below hb67
  have hi7 := hi6.mono hb67 (Nat.le_refl _)
  have hb37 := (HB35.out.trans (hb6.mono HB35.out.size)).trans (hb67.mono (Nat.le_trans HB35.out.size hb6.size))
  obtain ⟨w7, hw7⟩ : ∃ z, w6.alloc (.cells #[.int .u64 (nk : Int), .int .u32 (nc : Int), .bool ng, .slice y M cc] 43) = z := ⟨_, rfl⟩
  rw [hw7] at hX7 hZ7 hO7 hz7 hi7 hb37
  have hn : nd = RM.data := by rw [← hm6]
  have HRE := Lib.hid (show Calls Tryz.prog 43 #[.agg #[.int .i64 fr, .int .i64 tt, .int .i64 kd, .int .i64 1, .int .i64 li, .int .u64 (id : Int), .int .i64 co, .bool true, .int .u64 (key : Int), .int .u32 (ck : Int), .bool gn, .slice x L c], .int .i64 (K : Int), .bool FL, .agg #[.int .u64 (nk : Int), .int .u32 (nc : Int), .bool ng, .slice y M cc]] w7 fun e w' => ∃ z y2, e = .returned (.agg #[.int .i64 tt, .int .i64 fr, .int .i64 5, .int .i64 1, .int .i64 li, .int .u64 (id : Int), .int .i64 (K : Int), .bool FL, .int .u64 (nk : Int), .int .u32 (nc : Int), .bool ng, .slice z M y2]) ∧ IsB w' (.slice z M y2) nd ∧ (∀ b, liesB (.slice z M y2) nd b → w7.heap.size ≤ b) ∧ Below w7.heap.size w7 w' from
    wreply_f ⟨fr, tt, kd, 1, li, id, co, true, ⟨key, ck, gn, []⟩⟩ x L c K FL ⟨nk, nc, ng, nd⟩ y M cc w7 hi7 (by show nd.length ≤ _; rw [hn]; have := HLEN.out; omega))
  have HM6 := Lib.hid hm6
  have HZ7 := Lib.hid hZ7
  have HZZ7 := Lib.hid hz7
  have HB37 := Lib.hid hb37
  clear p0 p1 p2 p3 p4 p5 p6 p7 p8 p9 p10 p11 q0 q1 q2 q3
  have p0 := hX7.cell 0 rfl
  have p1 := hX7.cell 1 rfl
  have p2 := hX7.cell 2 rfl
  have p3 := hX7.cell 3 rfl
  have p4 := hX7.cell 4 rfl
  have p5 := hX7.cell 5 rfl
  have p6 := hX7.cell 6 rfl
  have p7 := hX7.cell 7 rfl
  have p8 := hX7.cell 8 rfl
  have p9 := hX7.cell 9 rfl
  have p10 := hX7.cell 10 rfl
  have p11 := hX7.cell 11 rfl
  have q0 := hO7.cell 0 rfl
  have q1 := hO7.cell 1 rfl
  have q2 := hO7.cell 2 rfl
  have q3 := hO7.cell 3 rfl
  clear hi6 hb6 hm6 hb67 hX7 hZ7 hO7 hz7 hi7 hb37 hn
  go_upto_region 9 with fail
  try rw [hw7]
  clear hw7
  go_wp2_with fail
  refine HRE.out.mono ?_
  rintro e w8 ⟨z, y2, rfl, hi8, hlo8, hb8⟩
  have hZ8 := HZ7.out.below hb8 HZ7.out.lt
  have HF := Lib.hid (fin12z hZ8 (.int .i64 tt) (.int .i64 fr) (.int .i64 5) (.int .i64 1) (.int .i64 li) (.int .u64 (id : Int)) (.int .i64 (K : Int)) (.bool FL) (.int .u64 (nk : Int)) (.int .u32 (nc : Int)) (.bool ng) (.slice z M y2))
  have HI8 := Lib.hid hi8
  have HLO8 := Lib.hid hlo8
  have HZZ8 := Lib.hid (HZZ7.out.below hb8)
  have HB38 := Lib.hid (HB37.out.trans (hb8.mono HB37.out.size))
  have z0 := hZ8.cell 0 rfl
  have z1 := hZ8.cell 1 rfl
  have z2 := hZ8.cell 2 rfl
  have z3 := hZ8.cell 3 rfl
  have z4 := hZ8.cell 4 rfl
  have z5 := hZ8.cell 5 rfl
  have z6 := hZ8.cell 6 rfl
  have z7 := hZ8.cell 7 rfl
  have z8 := hZ8.cell 8 rfl
  have z9 := hZ8.cell 9 rfl
  have z10 := hZ8.cell 10 rfl
  have z11 := hZ8.cell 11 rfl
  have zf := fun j => hZ8.free j
  clear hi8 hlo8 hb8 hZ8 p0 p1 p2 p3 p4 p5 p6 p7 p8 p9 p10 p11 q0 q1 q2 q3
  go_wp2
  obtain ⟨j0, j1, j2, j3, j4, j5, j6, j7, j8, j9, j10, j11, jk⟩ := HF.out
  refine bodyPost_ret (v := .agg #[.int .i64 tt, .int .i64 fr, .int .i64 5, .int .i64 1, .int .i64 li, .int .u64 (id : Int), .int .i64 (K : Int), .bool FL, .int .u64 (nk : Int), .int .u32 (nc : Int), .bool ng, .slice z M y2]) (by simp [results, Tryz.results25, go_sem, j0, j1, j2, j3, j4, j5, j6, j7, j8, j9, j10, j11]) rfl ⟨z, M, y2, by rw [HNM.out, ← HM6.out], by rw [HNM.out, ← HM6.out]; exact HI8.out.kept jk (fun b hb e => by have h5 := HLO8.out b hb; have h6 := HB37.out.size; omega), ?_⟩
  have hne : ∀ j, So j ∨ Sv' j ∨ St j → ¬ j = w.heap.size + 1 := fun j hj e => by
    rcases hj with hj | hj | hj
    · have := HOLD.out j (.inl hj); omega
    · rcases HS3.out j hj with h5 | h5
      · have := HOLD.out j (.inr (.inl h5)); omega
      · omega
    · have := HOLD.out j (.inr (.inr hj)); omega
  have hsv : ∀ j, Sv' j → j < w3.heap.size := HSV3.out
  rw [HDN.out, HNM.out, ← HM6.out]
  exact ⟨Sv', d', k + 4, HZZ8.out.kept jk hne, (((Kept.of_below (S := Sv) HB2.out (Nat.le_refl _)).trans HK23.out (fun j hj _ => hj)).trans (Kept.of_below (S := fun _ => False) HB38.out (Nat.le_refl _)) (fun j hj _ => hj.elim)).trans jk (fun j e hj => by subst e; omega), fun j hj => (HS3.out j hj).imp (fun e => e) (fun e => by omega), fun j hj => ⟨by have h5 := HLO8.out j hj; have h6 := HB37.out.size; omega, fun e => by have h5 := HLO8.out j hj; have h6 := HB37.out.size; have h7 := hsv j e; omega⟩⟩

end Go.Proofs.YtllbngopfganjaaGreatDoor.Nd
end

section
namespace Go.Proofs.YtllbngopfganjaaGreatDoor.Nd
open Go.RowKit Go.Cor

set_option maxRecDepth 100000 in
set_option maxHeartbeats 4000000 in
theorem handle_ans (fr tt kd vo li : Int) (id : Nat) (co : Int) (has : Bool) (key ck : Nat) (gn : Bool) (x : Option Addr) (L c : Nat) (md : List UInt8) {B g b q vg p tg k : Nat} {So Sv St : Nat → Prop} {d : Dsk} {most : Int} {wv : Value} {n : NodeP} {r : Nat} (w : World) (h : ZAt w B g b q So Sv St vg p tg d k most wv n (r + 1)) (hv : IsB w (.slice x L c) md) (h5 : kd = 5) :
    Calls Tryz.prog 9 #[.pointer (some ⟨g, 0, none⟩), .agg #[.int .i64 fr, .int .i64 tt, .int .i64 kd, .int .i64 vo, .int .i64 li, .int .u64 (id : Int), .int .i64 co, .bool has, .int .u64 (key : Int), .int .u32 (ck : Int), .bool gn, .slice x L c]] w fun e w' => e = .returned (.tuple #[.agg #[.int .i64 0, .int .i64 0, .int .i64 0, .int .i64 0, .int .i64 0, .int .u64 0, .int .i64 0, .bool false, .int .u64 0, .int .u32 0, .bool false, .slice none 0 0], err 1]) ∧ Below w.heap.size w w' := by
  have e5 : (kd == 5) = true := beq_iff_eq.2 h5
  clear h5
  have hB1 := below_new16 w (.cells #[.int .i64 fr, .int .i64 tt, .int .i64 kd, .int .i64 vo, .int .i64 li, .int .u64 (id : Int), .int .i64 co, .bool has, .int .u64 (key : Int), .int .u32 (ck : Int), .bool gn, .slice x L c] 45)
  have hB2 := hB1.alloc hB1.size (.cells #[.int .i64 0, .int .i64 0, .int .i64 0, .int .i64 0, .int .i64 0, .int .u64 0, .int .i64 0, .bool false, .int .u64 0, .int .u32 0, .bool false, .slice none 0 0] 45)
  have hX2 := (Blk.new w #[.int .i64 fr, .int .i64 tt, .int .i64 kd, .int .i64 vo, .int .i64 li, .int .u64 (id : Int), .int .i64 co, .bool has, .int .u64 (key : Int), .int .u32 (ck : Int), .bool gn, .slice x L c] 45).alloc (.cells #[.int .i64 0, .int .i64 0, .int .i64 0, .int .i64 0, .int .i64 0, .int .u64 0, .int .i64 0, .bool false, .int .u64 0, .int .u32 0, .bool false, .slice none 0 0] 45)
  have hZ2 := Blk.new (w.alloc (.cells #[.int .i64 fr, .int .i64 tt, .int .i64 kd, .int .i64 vo, .int .i64 li, .int .u64 (id : Int), .int .i64 co, .bool has, .int .u64 (key : Int), .int .u32 (ck : Int), .bool gn, .slice x L c] 45)) #[.int .i64 0, .int .i64 0, .int .i64 0, .int .i64 0, .int .i64 0, .int .u64 0, .int .i64 0, .bool false, .int .u64 0, .int .u32 0, .bool false, .slice none 0 0] 45
  rw [show (w.alloc (.cells #[.int .i64 fr, .int .i64 tt, .int .i64 kd, .int .i64 vo, .int .i64 li, .int .u64 (id : Int), .int .i64 co, .bool has, .int .u64 (key : Int), .int .u32 (ck : Int), .bool gn, .slice x L c] 45)).heap.size = w.heap.size + 1 by simp] at hZ2
  obtain ⟨w2, hw2⟩ : ∃ z, (w.alloc (.cells #[.int .i64 fr, .int .i64 tt, .int .i64 kd, .int .i64 vo, .int .i64 li, .int .u64 (id : Int), .int .i64 co, .bool has, .int .u64 (key : Int), .int .u32 (ck : Int), .bool gn, .slice x L c] 45)).alloc (.cells #[.int .i64 0, .int .i64 0, .int .i64 0, .int .i64 0, .int .i64 0, .int .u64 0, .int .i64 0, .bool false, .int .u64 0, .int .u32 0, .bool false, .slice none 0 0] 45) = z := ⟨_, rfl⟩
  rw [hw2] at hB2 hX2 hZ2
  have hs2 : w2.heap.size = w.heap.size + 1 + 1 := by rw [← hw2]; simp
  obtain ⟨PLC, hPLC⟩ : ∃ z, n.place = z := ⟨_, rfl⟩
  obtain ⟨NLF, hNLF⟩ : ∃ z, n.life = z := ⟨_, rfl⟩
  have h2 := h.below hB2
  have HCM := Lib.hid (fun (wx : World) (hb : Below w2.heap.size w2 wx) => show wx.cell? ⟨w.heap.size, 0, none⟩ = some (.int .i64 fr) ∧ wx.cell? ⟨w.heap.size, 1, none⟩ = some (.int .i64 tt) ∧ wx.cell? ⟨w.heap.size, 2, none⟩ = some (.int .i64 kd) ∧ wx.cell? ⟨w.heap.size, 3, none⟩ = some (.int .i64 vo) ∧ wx.cell? ⟨w.heap.size, 4, none⟩ = some (.int .i64 li) ∧ wx.cell? ⟨w.heap.size, 5, none⟩ = some (.int .u64 (id : Int)) ∧ wx.cell? ⟨w.heap.size, 6, none⟩ = some (.int .i64 co) ∧ wx.cell? ⟨w.heap.size, 7, none⟩ = some (.bool has) ∧ wx.cell? ⟨w.heap.size, 8, none⟩ = some (.int .u64 (key : Int)) ∧ wx.cell? ⟨w.heap.size, 9, none⟩ = some (.int .u32 (ck : Int)) ∧ wx.cell? ⟨w.heap.size, 10, none⟩ = some (.bool gn) ∧ wx.cell? ⟨w.heap.size, 11, none⟩ = some (.slice x L c) from
    have h := hX2.below hb hX2.lt
    ⟨h.cell 0 rfl, h.cell 1 rfl, h.cell 2 rfl, h.cell 3 rfl, h.cell 4 rfl, h.cell 5 rfl, h.cell 6 rfl, h.cell 7 rfl, h.cell 8 rfl, h.cell 9 rfl, h.cell 10 rfl, h.cell 11 rfl⟩)
  have HCN := Lib.hid (fun (wx : World) (hb : Below w2.heap.size w2 wx) => show wx.cell? ⟨g, 0, none⟩ = some (.int .i64 PLC) ∧ wx.cell? ⟨g, 1, none⟩ = some (.pointer (some ⟨p, 0, none⟩)) ∧ wx.cell? ⟨g, 2, none⟩ = some (.int .i64 NLF) ∧ wx.cell? ⟨g, 3, none⟩ = some (.bool true) ∧ wx.cell? ⟨g, 4, none⟩ = some (.map (some b)) ∧ wx.cell? ⟨g, 5, none⟩ = some (.pointer (some ⟨tg, 0, none⟩)) from by
    have h := (h2.below hb).blk
    rw [hPLC, hNLF] at h
    exact ⟨h.cell 0 rfl, h.cell 1 rfl, h.cell 2 rfl, h.cell 3 rfl, h.cell 4 rfl, h.cell 5 rfl⟩)
  have HSV := Lib.hid (serves_at h2.blk (UpD.vl h2.pt.vr.vl h2.pt.vr.lies))
  have HCK := Lib.hid (fun (wx : World) (hb : Below w2.heap.size w2 wx) => wcheck_any ⟨fr, tt, kd, vo, li, id, co, has, ⟨key, ck, gn, md⟩⟩ (.slice x L c) wx ((hv.mono hB2 (Nat.le_refl _)).mono hb (Nat.le_refl _)))
  have H2 := Lib.hid h2
  have HZ2 := Lib.hid hZ2
  have HB2 := Lib.hid hB2
  have HHV := Lib.hid hv
  have hlw : w.heap.size + 1 < w2.heap.size := by omega
  clear hPLC hNLF
  clear h hv hB1 hB2 hX2 hZ2 hs2 h2
  go_enter Tryz.func9, Tryz.ntmps9
  go_upto_region 1 with fail
  try rw [hw2]
  clear hw2
  go_wp2_with fail
  refine HSV.out.mono ?_
  rintro e wx ⟨rfl, rfl⟩
  go_upto_region 4 with fail
  have HU4 := Lib.hid (show Below w2.heap.size w2 w2.drew from (Below.refl _ _).drew)
  refine wp_region_held_drew (S := (fun wx => Below w2.heap.size w2 wx)) (by kernel_rfl) (HU4.out) (fun hHeld => ?_)
  obtain ⟨q4, hq4⟩ : ∃ q, w2.drew = q := ⟨_, rfl⟩
  rw [hq4] at HU4 hHeld
  rw [hq4]
  clear hq4
  refine wpAnyH_take (i := 0) (v := ?_) rfl (by kernel_rfl) (by kernel_rfl) (by kernel_rfl) (fun _ _ _ h => h) (Or.inl ⟨by rfl, ?_⟩) hHeld ?_
  rotate_left 1
  · intro w hSw
    (try dsimp only at hSw)
    go_simp
    all_goals (with_reducible rfl)
  try simp only [Act.put, List.getElem_toArray, List.getElem_cons_zero, List.getElem_cons_succ, List.setIfInBounds_toArray, List.set_cons_zero, List.set_cons_succ]
  refine wpAnyH_take (i := 1) (v := ?_) rfl (by kernel_rfl) (by kernel_rfl) (by kernel_rfl) (fun _ _ _ h => h) (Or.inl ⟨by rfl, ?_⟩) hHeld ?_
  rotate_left 1
  · intro w hSw
    obtain ⟨p0, p1, p2, p3, p4, p5, p6, p7, p8, p9, p10, p11⟩ := HCM.out w hSw
    go_simp
    all_goals (with_reducible rfl)
  try simp only [Act.put, List.getElem_toArray, List.getElem_cons_zero, List.getElem_cons_succ, List.setIfInBounds_toArray, List.set_cons_zero, List.set_cons_succ]
  refine wpAnyH_take (i := 2) (v := ?_) rfl (by kernel_rfl) (by kernel_rfl) (by kernel_rfl) (fun _ _ _ h => h) (Or.inl ⟨by rfl, ?_⟩) hHeld ?_
  rotate_left 1
  · intro w hSw
    (try dsimp only at hSw)
    go_simp
    all_goals (with_reducible rfl)
  try simp only [Act.put, List.getElem_toArray, List.getElem_cons_zero, List.getElem_cons_succ, List.setIfInBounds_toArray, List.set_cons_zero, List.set_cons_succ]
  refine wpAnyH_take (i := 3) (v := ?_) rfl (by kernel_rfl) (by kernel_rfl) (by kernel_rfl) (fun _ _ _ h => h) (Or.inl ⟨by rfl, ?_⟩) hHeld ?_
  rotate_left 1
  · intro w hSw
    (try dsimp only at hSw)
    go_simp
    all_goals (with_reducible rfl)
  try simp only [Act.put, List.getElem_toArray, List.getElem_cons_zero, List.getElem_cons_succ, List.setIfInBounds_toArray, List.set_cons_zero, List.set_cons_succ]
  refine wpAnyH_take (i := 4) (v := undef) rfl (by kernel_rfl) (by kernel_rfl) (by kernel_rfl) (fun _ _ _ h => h) (Or.inr ⟨by rfl, rfl⟩) hHeld ?_
  try simp only [Act.put, List.getElem_toArray, List.getElem_cons_zero, List.getElem_cons_succ, List.setIfInBounds_toArray, List.set_cons_zero, List.set_cons_succ]
  refine wpAnyH_take (i := 5) (v := undef) rfl (by kernel_rfl) (by kernel_rfl) (by kernel_rfl) (fun _ _ _ h => h) (Or.inr ⟨by rfl, rfl⟩) hHeld ?_
  try simp only [Act.put, List.getElem_toArray, List.getElem_cons_zero, List.getElem_cons_succ, List.setIfInBounds_toArray, List.set_cons_zero, List.set_cons_succ]
  refine wpAnyH_take (i := 6) (v := undef) rfl (by kernel_rfl) (by kernel_rfl) (by kernel_rfl) (fun _ _ _ h => h) (Or.inr ⟨by rfl, rfl⟩) hHeld ?_
  try simp only [Act.put, List.getElem_toArray, List.getElem_cons_zero, List.getElem_cons_succ, List.setIfInBounds_toArray, List.set_cons_zero, List.set_cons_succ]
  refine wpAnyH_take (i := 7) (v := ?_) rfl (by kernel_rfl) (by kernel_rfl) (by kernel_rfl) (fun _ _ _ h => h) (Or.inl ⟨by rfl, ?_⟩) hHeld ?_
  rotate_left 1
  · intro w hSw
    (try dsimp only at hSw)
    go_simp
    all_goals (with_reducible rfl)
  try simp only [Act.put, List.getElem_toArray, List.getElem_cons_zero, List.getElem_cons_succ, List.setIfInBounds_toArray, List.set_cons_zero, List.set_cons_succ]
  refine wpAnyH_take (i := 8) (v := ?_) rfl (by kernel_rfl) (by kernel_rfl) (by kernel_rfl) (fun _ _ _ h => h) (Or.inl ⟨by rfl, ?_⟩) hHeld ?_
  rotate_left 1
  · intro w hSw
    (try dsimp only at hSw)
    go_simp
    all_goals (with_reducible rfl)
  try simp only [Act.put, List.getElem_toArray, List.getElem_cons_zero, List.getElem_cons_succ, List.setIfInBounds_toArray, List.set_cons_zero, List.set_cons_succ]
  refine wpAnyH_take (i := 9) (v := undef) rfl (by kernel_rfl) (by kernel_rfl) (by kernel_rfl) (fun _ _ _ h => h) (Or.inr ⟨by rfl, rfl⟩) hHeld ?_
  try simp only [Act.put, List.getElem_toArray, List.getElem_cons_zero, List.getElem_cons_succ, List.setIfInBounds_toArray, List.set_cons_zero, List.set_cons_succ]
  refine wpAnyH_take (i := 10) (v := undef) rfl (by kernel_rfl) (by kernel_rfl) (by kernel_rfl) (fun _ _ _ h => h) (Or.inr ⟨by rfl, rfl⟩) hHeld ?_
  try simp only [Act.put, List.getElem_toArray, List.getElem_cons_zero, List.getElem_cons_succ, List.setIfInBounds_toArray, List.set_cons_zero, List.set_cons_succ]
  refine wpAnyH_take (i := 11) (v := undef) rfl (by kernel_rfl) (by kernel_rfl) (by kernel_rfl) (fun _ _ _ h => h) (Or.inr ⟨by rfl, rfl⟩) hHeld ?_
  try simp only [Act.put, List.getElem_toArray, List.getElem_cons_zero, List.getElem_cons_succ, List.setIfInBounds_toArray, List.set_cons_zero, List.set_cons_succ]
  refine wpAnyH_take (i := 12) (v := undef) rfl (by kernel_rfl) (by kernel_rfl) (by kernel_rfl) (fun _ _ _ h => h) (Or.inr ⟨by rfl, rfl⟩) hHeld ?_
  try simp only [Act.put, List.getElem_toArray, List.getElem_cons_zero, List.getElem_cons_succ, List.setIfInBounds_toArray, List.set_cons_zero, List.set_cons_succ]
  refine wpAnyH_take (i := 13) (v := undef) rfl (by kernel_rfl) (by kernel_rfl) (by kernel_rfl) (fun _ _ _ h => h) (Or.inr ⟨by rfl, rfl⟩) hHeld ?_
  try simp only [Act.put, List.getElem_toArray, List.getElem_cons_zero, List.getElem_cons_succ, List.setIfInBounds_toArray, List.set_cons_zero, List.set_cons_succ]
  refine wpAnyH_take (i := 14) (v := undef) rfl (by kernel_rfl) (by kernel_rfl) (by kernel_rfl) (fun _ _ _ h => h) (Or.inr ⟨by rfl, rfl⟩) hHeld ?_
  try simp only [Act.put, List.getElem_toArray, List.getElem_cons_zero, List.getElem_cons_succ, List.setIfInBounds_toArray, List.set_cons_zero, List.set_cons_succ]
  refine wpAnyH_take (i := 15) (v := undef) rfl (by kernel_rfl) (by kernel_rfl) (by kernel_rfl) (fun _ _ _ h => h) (Or.inr ⟨by rfl, rfl⟩) hHeld ?_
  try simp only [Act.put, List.getElem_toArray, List.getElem_cons_zero, List.getElem_cons_succ, List.setIfInBounds_toArray, List.set_cons_zero, List.set_cons_succ]
  refine wpAnyH_take (i := 16) (v := ?_) rfl (by kernel_rfl) (by kernel_rfl) (by kernel_rfl) (fun _ _ _ h => h) (Or.inl ⟨by rfl, ?_⟩) hHeld ?_
  rotate_left 1
  · intro w hSw
    (try dsimp only at hSw)
    go_simp
    all_goals (with_reducible rfl)
  try simp only [Act.put, List.getElem_toArray, List.getElem_cons_zero, List.getElem_cons_succ, List.setIfInBounds_toArray, List.set_cons_zero, List.set_cons_succ]
  refine wpAnyH_done (by kernel_rfl) ?_ _
  have hZu := HZ2.out.below HU4.out HZ2.out.lt
  have HF := Lib.hid (fin12z hZu (.int .i64 0) (.int .i64 0) (.int .i64 0) (.int .i64 0) (.int .i64 0) (.int .u64 0) (.int .i64 0) (.bool false) (.int .u64 0) (.int .u32 0) (.bool false) (.slice none 0 0))
  have HBu := Lib.hid (HB2.out.trans (HU4.out.mono HB2.out.size))
  have z0 := hZu.cell 0 rfl
  have z1 := hZu.cell 1 rfl
  have z2 := hZu.cell 2 rfl
  have z3 := hZu.cell 3 rfl
  have z4 := hZu.cell 4 rfl
  have z5 := hZu.cell 5 rfl
  have z6 := hZu.cell 6 rfl
  have z7 := hZu.cell 7 rfl
  have z8 := hZu.cell 8 rfl
  have z9 := hZu.cell 9 rfl
  have z10 := hZu.cell 10 rfl
  have z11 := hZu.cell 11 rfl
  have zf := fun j => hZu.free j
  clear hZu
  go_wp2
  obtain ⟨j0, j1, j2, j3, j4, j5, j6, j7, j8, j9, j10, j11, jk⟩ := HF.out
  exact bodyPost_ret (v := .tuple #[.agg #[.int .i64 0, .int .i64 0, .int .i64 0, .int .i64 0, .int .i64 0, .int .u64 0, .int .i64 0, .bool false, .int .u64 0, .int .u32 0, .bool false, .slice none 0 0], err 1]) (by simp [results, Tryz.results9, go_sem, j0, j1, j2, j3, j4, j5, j6, j7, j8, j9, j10, j11]) rfl ⟨rfl, Below.trans_keptZ HBu.out jk (Nat.le_succ _)⟩
set_option maxRecDepth 100000 in
set_option maxHeartbeats 4000000 in
theorem handle_chk (fr tt kd vo li : Int) (id : Nat) (co : Int) (has : Bool) (key ck : Nat) (gn : Bool) (x : Option Addr) (L c : Nat) (md : List UInt8) {B g b q vg p tg k : Nat} {So Sv St : Nat → Prop} {d : Dsk} {most : Int} {wv : Value} {n : NodeP} {r : Nat} (w : World) (h : ZAt w B g b q So Sv St vg p tg d k most wv n (r + 1)) (hv : IsB w (.slice x L c) md) (h5 : kd ≠ 5) (KQ : Nat) (hq : mcheck ⟨fr, tt, kd, vo, li, id, co, has, ⟨key, ck, gn, md⟩⟩ = KQ) (h0 : KQ ≠ 0) :
    Calls Tryz.prog 9 #[.pointer (some ⟨g, 0, none⟩), .agg #[.int .i64 fr, .int .i64 tt, .int .i64 kd, .int .i64 vo, .int .i64 li, .int .u64 (id : Int), .int .i64 co, .bool has, .int .u64 (key : Int), .int .u32 (ck : Int), .bool gn, .slice x L c]] w fun e w' => e = .returned (.tuple #[.agg #[.int .i64 0, .int .i64 0, .int .i64 0, .int .i64 0, .int .i64 0, .int .u64 0, .int .i64 0, .bool false, .int .u64 0, .int .u32 0, .bool false, .slice none 0 0], err 1]) ∧ Below w.heap.size w w' := by
  have e5 : (kd == 5) = false := beq_eq_false_iff_ne.2 h5
  clear h5
  have hB1 := below_new16 w (.cells #[.int .i64 fr, .int .i64 tt, .int .i64 kd, .int .i64 vo, .int .i64 li, .int .u64 (id : Int), .int .i64 co, .bool has, .int .u64 (key : Int), .int .u32 (ck : Int), .bool gn, .slice x L c] 45)
  have hB2 := hB1.alloc hB1.size (.cells #[.int .i64 0, .int .i64 0, .int .i64 0, .int .i64 0, .int .i64 0, .int .u64 0, .int .i64 0, .bool false, .int .u64 0, .int .u32 0, .bool false, .slice none 0 0] 45)
  have hX2 := (Blk.new w #[.int .i64 fr, .int .i64 tt, .int .i64 kd, .int .i64 vo, .int .i64 li, .int .u64 (id : Int), .int .i64 co, .bool has, .int .u64 (key : Int), .int .u32 (ck : Int), .bool gn, .slice x L c] 45).alloc (.cells #[.int .i64 0, .int .i64 0, .int .i64 0, .int .i64 0, .int .i64 0, .int .u64 0, .int .i64 0, .bool false, .int .u64 0, .int .u32 0, .bool false, .slice none 0 0] 45)
  have hZ2 := Blk.new (w.alloc (.cells #[.int .i64 fr, .int .i64 tt, .int .i64 kd, .int .i64 vo, .int .i64 li, .int .u64 (id : Int), .int .i64 co, .bool has, .int .u64 (key : Int), .int .u32 (ck : Int), .bool gn, .slice x L c] 45)) #[.int .i64 0, .int .i64 0, .int .i64 0, .int .i64 0, .int .i64 0, .int .u64 0, .int .i64 0, .bool false, .int .u64 0, .int .u32 0, .bool false, .slice none 0 0] 45
  rw [show (w.alloc (.cells #[.int .i64 fr, .int .i64 tt, .int .i64 kd, .int .i64 vo, .int .i64 li, .int .u64 (id : Int), .int .i64 co, .bool has, .int .u64 (key : Int), .int .u32 (ck : Int), .bool gn, .slice x L c] 45)).heap.size = w.heap.size + 1 by simp] at hZ2
  obtain ⟨w2, hw2⟩ : ∃ z, (w.alloc (.cells #[.int .i64 fr, .int .i64 tt, .int .i64 kd, .int .i64 vo, .int .i64 li, .int .u64 (id : Int), .int .i64 co, .bool has, .int .u64 (key : Int), .int .u32 (ck : Int), .bool gn, .slice x L c] 45)).alloc (.cells #[.int .i64 0, .int .i64 0, .int .i64 0, .int .i64 0, .int .i64 0, .int .u64 0, .int .i64 0, .bool false, .int .u64 0, .int .u32 0, .bool false, .slice none 0 0] 45) = z := ⟨_, rfl⟩
  rw [hw2] at hB2 hX2 hZ2
  have hs2 : w2.heap.size = w.heap.size + 1 + 1 := by rw [← hw2]; simp
  obtain ⟨PLC, hPLC⟩ : ∃ z, n.place = z := ⟨_, rfl⟩
  obtain ⟨NLF, hNLF⟩ : ∃ z, n.life = z := ⟨_, rfl⟩
  have h2 := h.below hB2
  have HCM := Lib.hid (fun (wx : World) (hb : Below w2.heap.size w2 wx) => show wx.cell? ⟨w.heap.size, 0, none⟩ = some (.int .i64 fr) ∧ wx.cell? ⟨w.heap.size, 1, none⟩ = some (.int .i64 tt) ∧ wx.cell? ⟨w.heap.size, 2, none⟩ = some (.int .i64 kd) ∧ wx.cell? ⟨w.heap.size, 3, none⟩ = some (.int .i64 vo) ∧ wx.cell? ⟨w.heap.size, 4, none⟩ = some (.int .i64 li) ∧ wx.cell? ⟨w.heap.size, 5, none⟩ = some (.int .u64 (id : Int)) ∧ wx.cell? ⟨w.heap.size, 6, none⟩ = some (.int .i64 co) ∧ wx.cell? ⟨w.heap.size, 7, none⟩ = some (.bool has) ∧ wx.cell? ⟨w.heap.size, 8, none⟩ = some (.int .u64 (key : Int)) ∧ wx.cell? ⟨w.heap.size, 9, none⟩ = some (.int .u32 (ck : Int)) ∧ wx.cell? ⟨w.heap.size, 10, none⟩ = some (.bool gn) ∧ wx.cell? ⟨w.heap.size, 11, none⟩ = some (.slice x L c) from
    have h := hX2.below hb hX2.lt
    ⟨h.cell 0 rfl, h.cell 1 rfl, h.cell 2 rfl, h.cell 3 rfl, h.cell 4 rfl, h.cell 5 rfl, h.cell 6 rfl, h.cell 7 rfl, h.cell 8 rfl, h.cell 9 rfl, h.cell 10 rfl, h.cell 11 rfl⟩)
  have HCN := Lib.hid (fun (wx : World) (hb : Below w2.heap.size w2 wx) => show wx.cell? ⟨g, 0, none⟩ = some (.int .i64 PLC) ∧ wx.cell? ⟨g, 1, none⟩ = some (.pointer (some ⟨p, 0, none⟩)) ∧ wx.cell? ⟨g, 2, none⟩ = some (.int .i64 NLF) ∧ wx.cell? ⟨g, 3, none⟩ = some (.bool true) ∧ wx.cell? ⟨g, 4, none⟩ = some (.map (some b)) ∧ wx.cell? ⟨g, 5, none⟩ = some (.pointer (some ⟨tg, 0, none⟩)) from by
    have h := (h2.below hb).blk
    rw [hPLC, hNLF] at h
    exact ⟨h.cell 0 rfl, h.cell 1 rfl, h.cell 2 rfl, h.cell 3 rfl, h.cell 4 rfl, h.cell 5 rfl⟩)
  have HSV := Lib.hid (serves_at h2.blk (UpD.vl h2.pt.vr.vl h2.pt.vr.lies))
  have HCK := Lib.hid (fun (wx : World) (hb : Below w2.heap.size w2 wx) => wcheck_any ⟨fr, tt, kd, vo, li, id, co, has, ⟨key, ck, gn, md⟩⟩ (.slice x L c) wx ((hv.mono hB2 (Nat.le_refl _)).mono hb (Nat.le_refl _)))
  have H2 := Lib.hid h2
  have HZ2 := Lib.hid hZ2
  have HB2 := Lib.hid hB2
  have HHV := Lib.hid hv
  have hlw : w.heap.size + 1 < w2.heap.size := by omega
  simp only [hq, cerr_pos h0] at HCK
  clear hq h0
  clear hPLC hNLF
  clear h hv hB1 hB2 hX2 hZ2 hs2 h2
  go_enter Tryz.func9, Tryz.ntmps9
  go_upto_region 1 with fail
  try rw [hw2]
  clear hw2
  go_wp2_with fail
  refine HSV.out.mono ?_
  rintro e wx ⟨rfl, rfl⟩
  go_upto_region 4 with fail
  have HU4 := Lib.hid (show Below w2.heap.size w2 w2.drew from (Below.refl _ _).drew)
  refine wp_region_held_drew (S := (fun wx => Below w2.heap.size w2 wx)) (by kernel_rfl) (HU4.out) (fun hHeld => ?_)
  obtain ⟨q4, hq4⟩ : ∃ q, w2.drew = q := ⟨_, rfl⟩
  rw [hq4] at HU4 hHeld
  rw [hq4]
  clear hq4
  refine wpAnyH_take (i := 0) (v := ?_) rfl (by kernel_rfl) (by kernel_rfl) (by kernel_rfl) (fun _ _ _ h => h) (Or.inl ⟨by rfl, ?_⟩) hHeld ?_
  rotate_left 1
  · intro w hSw
    (try dsimp only at hSw)
    go_simp
    all_goals (with_reducible rfl)
  try simp only [Act.put, List.getElem_toArray, List.getElem_cons_zero, List.getElem_cons_succ, List.setIfInBounds_toArray, List.set_cons_zero, List.set_cons_succ]
  refine wpAnyH_take (i := 1) (v := ?_) rfl (by kernel_rfl) (by kernel_rfl) (by kernel_rfl) (fun _ _ _ h => h) (Or.inl ⟨by rfl, ?_⟩) hHeld ?_
  rotate_left 1
  · intro w hSw
    obtain ⟨p0, p1, p2, p3, p4, p5, p6, p7, p8, p9, p10, p11⟩ := HCM.out w hSw
    go_simp
    all_goals (with_reducible rfl)
  try simp only [Act.put, List.getElem_toArray, List.getElem_cons_zero, List.getElem_cons_succ, List.setIfInBounds_toArray, List.set_cons_zero, List.set_cons_succ]
  refine wpAnyH_take (i := 2) (v := ?_) rfl (by kernel_rfl) (by kernel_rfl) (by kernel_rfl) (fun _ _ _ h => h) (Or.inl ⟨by rfl, ?_⟩) hHeld ?_
  rotate_left 1
  · intro w hSw
    (try dsimp only at hSw)
    go_simp
    all_goals (with_reducible rfl)
  try simp only [Act.put, List.getElem_toArray, List.getElem_cons_zero, List.getElem_cons_succ, List.setIfInBounds_toArray, List.set_cons_zero, List.set_cons_succ]
  refine wpAnyH_take (i := 3) (v := ?_) rfl (by kernel_rfl) (by kernel_rfl) (by kernel_rfl) (fun _ _ _ h => h) (Or.inl ⟨by rfl, ?_⟩) hHeld ?_
  rotate_left 1
  · intro w hSw
    (try dsimp only at hSw)
    go_simp
    all_goals (with_reducible rfl)
  try simp only [Act.put, List.getElem_toArray, List.getElem_cons_zero, List.getElem_cons_succ, List.setIfInBounds_toArray, List.set_cons_zero, List.set_cons_succ]
  refine wpAnyH_take (i := 4) (v := ?_) rfl (by kernel_rfl) (by kernel_rfl) (by kernel_rfl) (fun _ _ _ h => h) (Or.inl ⟨by rfl, ?_⟩) hHeld ?_
  rotate_left 1
  · intro w hSw
    obtain ⟨p0, p1, p2, p3, p4, p5, p6, p7, p8, p9, p10, p11⟩ := HCM.out w hSw
    go_simp
    all_goals (with_reducible rfl)
  try simp only [Act.put, List.getElem_toArray, List.getElem_cons_zero, List.getElem_cons_succ, List.setIfInBounds_toArray, List.set_cons_zero, List.set_cons_succ]
  refine wpAnyH_ready (rs := [5]) (by kernel_rfl) (by simp) ?_
  refine AllReadyH.cons rfl (fun K hK => ?_) AllReadyH.nil
  go_simp
  refine (HCK.out _ HU4.out).mono ?_
  rintro e u4 ⟨rfl, hbx⟩
  have HUu4 := Lib.hid (HU4.out.trans (hbx.mono HU4.out.size))
  clear hbx
  refine hK.out _ _ (HUu4.out) (fun hHeld => ?_)
  clear hK K
  try simp only [Act.put, List.getElem_toArray, List.getElem_cons_zero, List.getElem_cons_succ, List.setIfInBounds_toArray, List.set_cons_zero, List.set_cons_succ]
  refine wpAnyH_take (i := 6) (v := ?_) rfl (by kernel_rfl) (by kernel_rfl) (by kernel_rfl) (fun _ _ _ h => h) (Or.inl ⟨by rfl, ?_⟩) hHeld ?_
  rotate_left 1
  · intro w hSw
    (try dsimp only at hSw)
    go_simp
    all_goals (with_reducible rfl)
  try simp only [Act.put, List.getElem_toArray, List.getElem_cons_zero, List.getElem_cons_succ, List.setIfInBounds_toArray, List.set_cons_zero, List.set_cons_succ]
  refine wpAnyH_take (i := 7) (v := ?_) rfl (by kernel_rfl) (by kernel_rfl) (by kernel_rfl) (fun _ _ _ h => h) (Or.inl ⟨by rfl, ?_⟩) hHeld ?_
  rotate_left 1
  · intro w hSw
    (try dsimp only at hSw)
    go_simp
    all_goals (with_reducible rfl)
  try simp only [Act.put, List.getElem_toArray, List.getElem_cons_zero, List.getElem_cons_succ, List.setIfInBounds_toArray, List.set_cons_zero, List.set_cons_succ]
  refine wpAnyH_take (i := 8) (v := ?_) rfl (by kernel_rfl) (by kernel_rfl) (by kernel_rfl) (fun _ _ _ h => h) (Or.inl ⟨by rfl, ?_⟩) hHeld ?_
  rotate_left 1
  · intro w hSw
    (try dsimp only at hSw)
    go_simp
    all_goals (with_reducible rfl)
  try simp only [Act.put, List.getElem_toArray, List.getElem_cons_zero, List.getElem_cons_succ, List.setIfInBounds_toArray, List.set_cons_zero, List.set_cons_succ]
  refine wpAnyH_take (i := 9) (v := undef) rfl (by kernel_rfl) (by kernel_rfl) (by kernel_rfl) (fun _ _ _ h => h) (Or.inr ⟨by rfl, rfl⟩) hHeld ?_
  try simp only [Act.put, List.getElem_toArray, List.getElem_cons_zero, List.getElem_cons_succ, List.setIfInBounds_toArray, List.set_cons_zero, List.set_cons_succ]
  refine wpAnyH_take (i := 10) (v := undef) rfl (by kernel_rfl) (by kernel_rfl) (by kernel_rfl) (fun _ _ _ h => h) (Or.inr ⟨by rfl, rfl⟩) hHeld ?_
  try simp only [Act.put, List.getElem_toArray, List.getElem_cons_zero, List.getElem_cons_succ, List.setIfInBounds_toArray, List.set_cons_zero, List.set_cons_succ]
  refine wpAnyH_take (i := 11) (v := undef) rfl (by kernel_rfl) (by kernel_rfl) (by kernel_rfl) (fun _ _ _ h => h) (Or.inr ⟨by rfl, rfl⟩) hHeld ?_
  try simp only [Act.put, List.getElem_toArray, List.getElem_cons_zero, List.getElem_cons_succ, List.setIfInBounds_toArray, List.set_cons_zero, List.set_cons_succ]
  refine wpAnyH_take (i := 12) (v := undef) rfl (by kernel_rfl) (by kernel_rfl) (by kernel_rfl) (fun _ _ _ h => h) (Or.inr ⟨by rfl, rfl⟩) hHeld ?_
  try simp only [Act.put, List.getElem_toArray, List.getElem_cons_zero, List.getElem_cons_succ, List.setIfInBounds_toArray, List.set_cons_zero, List.set_cons_succ]
  refine wpAnyH_take (i := 13) (v := undef) rfl (by kernel_rfl) (by kernel_rfl) (by kernel_rfl) (fun _ _ _ h => h) (Or.inr ⟨by rfl, rfl⟩) hHeld ?_
  try simp only [Act.put, List.getElem_toArray, List.getElem_cons_zero, List.getElem_cons_succ, List.setIfInBounds_toArray, List.set_cons_zero, List.set_cons_succ]
  refine wpAnyH_take (i := 14) (v := undef) rfl (by kernel_rfl) (by kernel_rfl) (by kernel_rfl) (fun _ _ _ h => h) (Or.inr ⟨by rfl, rfl⟩) hHeld ?_
  try simp only [Act.put, List.getElem_toArray, List.getElem_cons_zero, List.getElem_cons_succ, List.setIfInBounds_toArray, List.set_cons_zero, List.set_cons_succ]
  refine wpAnyH_take (i := 15) (v := undef) rfl (by kernel_rfl) (by kernel_rfl) (by kernel_rfl) (fun _ _ _ h => h) (Or.inr ⟨by rfl, rfl⟩) hHeld ?_
  try simp only [Act.put, List.getElem_toArray, List.getElem_cons_zero, List.getElem_cons_succ, List.setIfInBounds_toArray, List.set_cons_zero, List.set_cons_succ]
  refine wpAnyH_take (i := 16) (v := ?_) rfl (by kernel_rfl) (by kernel_rfl) (by kernel_rfl) (fun _ _ _ h => h) (Or.inl ⟨by rfl, ?_⟩) hHeld ?_
  rotate_left 1
  · intro w hSw
    (try dsimp only at hSw)
    go_simp
    all_goals (with_reducible rfl)
  try simp only [Act.put, List.getElem_toArray, List.getElem_cons_zero, List.getElem_cons_succ, List.setIfInBounds_toArray, List.set_cons_zero, List.set_cons_succ]
  refine wpAnyH_done (by kernel_rfl) ?_ _
  have hZu := HZ2.out.below HUu4.out HZ2.out.lt
  have HF := Lib.hid (fin12z hZu (.int .i64 0) (.int .i64 0) (.int .i64 0) (.int .i64 0) (.int .i64 0) (.int .u64 0) (.int .i64 0) (.bool false) (.int .u64 0) (.int .u32 0) (.bool false) (.slice none 0 0))
  have HBu := Lib.hid (HB2.out.trans (HUu4.out.mono HB2.out.size))
  have z0 := hZu.cell 0 rfl
  have z1 := hZu.cell 1 rfl
  have z2 := hZu.cell 2 rfl
  have z3 := hZu.cell 3 rfl
  have z4 := hZu.cell 4 rfl
  have z5 := hZu.cell 5 rfl
  have z6 := hZu.cell 6 rfl
  have z7 := hZu.cell 7 rfl
  have z8 := hZu.cell 8 rfl
  have z9 := hZu.cell 9 rfl
  have z10 := hZu.cell 10 rfl
  have z11 := hZu.cell 11 rfl
  have zf := fun j => hZu.free j
  clear hZu
  go_wp2
  obtain ⟨j0, j1, j2, j3, j4, j5, j6, j7, j8, j9, j10, j11, jk⟩ := HF.out
  exact bodyPost_ret (v := .tuple #[.agg #[.int .i64 0, .int .i64 0, .int .i64 0, .int .i64 0, .int .i64 0, .int .u64 0, .int .i64 0, .bool false, .int .u64 0, .int .u32 0, .bool false, .slice none 0 0], err 1]) (by simp [results, Tryz.results9, go_sem, j0, j1, j2, j3, j4, j5, j6, j7, j8, j9, j10, j11]) rfl ⟨rfl, Below.trans_keptZ HBu.out jk (Nat.le_succ _)⟩
set_option maxRecDepth 100000 in
set_option maxHeartbeats 4000000 in
theorem handle_place (fr tt kd vo li : Int) (id : Nat) (co : Int) (has : Bool) (key ck : Nat) (gn : Bool) (x : Option Addr) (L c : Nat) (md : List UInt8) {B g b q vg p tg k : Nat} {So Sv St : Nat → Prop} {d : Dsk} {most : Int} {wv : Value} {n : NodeP} {r : Nat} (w : World) (h : ZAt w B g b q So Sv St vg p tg d k most wv n (r + 1)) (hv : IsB w (.slice x L c) md) (h5 : kd ≠ 5) (hq : mcheck ⟨fr, tt, kd, vo, li, id, co, has, ⟨key, ck, gn, md⟩⟩ = 0) (hp : tt ≠ n.place) :
    Calls Tryz.prog 9 #[.pointer (some ⟨g, 0, none⟩), .agg #[.int .i64 fr, .int .i64 tt, .int .i64 kd, .int .i64 vo, .int .i64 li, .int .u64 (id : Int), .int .i64 co, .bool has, .int .u64 (key : Int), .int .u32 (ck : Int), .bool gn, .slice x L c]] w fun e w' => e = .returned (.tuple #[.agg #[.int .i64 0, .int .i64 0, .int .i64 0, .int .i64 0, .int .i64 0, .int .u64 0, .int .i64 0, .bool false, .int .u64 0, .int .u32 0, .bool false, .slice none 0 0], err 1]) ∧ Below w.heap.size w w' := by
  have e5 : (kd == 5) = false := beq_eq_false_iff_ne.2 h5
  clear h5
  have hB1 := below_new16 w (.cells #[.int .i64 fr, .int .i64 tt, .int .i64 kd, .int .i64 vo, .int .i64 li, .int .u64 (id : Int), .int .i64 co, .bool has, .int .u64 (key : Int), .int .u32 (ck : Int), .bool gn, .slice x L c] 45)
  have hB2 := hB1.alloc hB1.size (.cells #[.int .i64 0, .int .i64 0, .int .i64 0, .int .i64 0, .int .i64 0, .int .u64 0, .int .i64 0, .bool false, .int .u64 0, .int .u32 0, .bool false, .slice none 0 0] 45)
  have hX2 := (Blk.new w #[.int .i64 fr, .int .i64 tt, .int .i64 kd, .int .i64 vo, .int .i64 li, .int .u64 (id : Int), .int .i64 co, .bool has, .int .u64 (key : Int), .int .u32 (ck : Int), .bool gn, .slice x L c] 45).alloc (.cells #[.int .i64 0, .int .i64 0, .int .i64 0, .int .i64 0, .int .i64 0, .int .u64 0, .int .i64 0, .bool false, .int .u64 0, .int .u32 0, .bool false, .slice none 0 0] 45)
  have hZ2 := Blk.new (w.alloc (.cells #[.int .i64 fr, .int .i64 tt, .int .i64 kd, .int .i64 vo, .int .i64 li, .int .u64 (id : Int), .int .i64 co, .bool has, .int .u64 (key : Int), .int .u32 (ck : Int), .bool gn, .slice x L c] 45)) #[.int .i64 0, .int .i64 0, .int .i64 0, .int .i64 0, .int .i64 0, .int .u64 0, .int .i64 0, .bool false, .int .u64 0, .int .u32 0, .bool false, .slice none 0 0] 45
  rw [show (w.alloc (.cells #[.int .i64 fr, .int .i64 tt, .int .i64 kd, .int .i64 vo, .int .i64 li, .int .u64 (id : Int), .int .i64 co, .bool has, .int .u64 (key : Int), .int .u32 (ck : Int), .bool gn, .slice x L c] 45)).heap.size = w.heap.size + 1 by simp] at hZ2
  obtain ⟨w2, hw2⟩ : ∃ z, (w.alloc (.cells #[.int .i64 fr, .int .i64 tt, .int .i64 kd, .int .i64 vo, .int .i64 li, .int .u64 (id : Int), .int .i64 co, .bool has, .int .u64 (key : Int), .int .u32 (ck : Int), .bool gn, .slice x L c] 45)).alloc (.cells #[.int .i64 0, .int .i64 0, .int .i64 0, .int .i64 0, .int .i64 0, .int .u64 0, .int .i64 0, .bool false, .int .u64 0, .int .u32 0, .bool false, .slice none 0 0] 45) = z := ⟨_, rfl⟩
  rw [hw2] at hB2 hX2 hZ2
  have hs2 : w2.heap.size = w.heap.size + 1 + 1 := by rw [← hw2]; simp
  obtain ⟨PLC, hPLC⟩ : ∃ z, n.place = z := ⟨_, rfl⟩
  obtain ⟨NLF, hNLF⟩ : ∃ z, n.life = z := ⟨_, rfl⟩
  have h2 := h.below hB2
  have HCM := Lib.hid (fun (wx : World) (hb : Below w2.heap.size w2 wx) => show wx.cell? ⟨w.heap.size, 0, none⟩ = some (.int .i64 fr) ∧ wx.cell? ⟨w.heap.size, 1, none⟩ = some (.int .i64 tt) ∧ wx.cell? ⟨w.heap.size, 2, none⟩ = some (.int .i64 kd) ∧ wx.cell? ⟨w.heap.size, 3, none⟩ = some (.int .i64 vo) ∧ wx.cell? ⟨w.heap.size, 4, none⟩ = some (.int .i64 li) ∧ wx.cell? ⟨w.heap.size, 5, none⟩ = some (.int .u64 (id : Int)) ∧ wx.cell? ⟨w.heap.size, 6, none⟩ = some (.int .i64 co) ∧ wx.cell? ⟨w.heap.size, 7, none⟩ = some (.bool has) ∧ wx.cell? ⟨w.heap.size, 8, none⟩ = some (.int .u64 (key : Int)) ∧ wx.cell? ⟨w.heap.size, 9, none⟩ = some (.int .u32 (ck : Int)) ∧ wx.cell? ⟨w.heap.size, 10, none⟩ = some (.bool gn) ∧ wx.cell? ⟨w.heap.size, 11, none⟩ = some (.slice x L c) from
    have h := hX2.below hb hX2.lt
    ⟨h.cell 0 rfl, h.cell 1 rfl, h.cell 2 rfl, h.cell 3 rfl, h.cell 4 rfl, h.cell 5 rfl, h.cell 6 rfl, h.cell 7 rfl, h.cell 8 rfl, h.cell 9 rfl, h.cell 10 rfl, h.cell 11 rfl⟩)
  have HCN := Lib.hid (fun (wx : World) (hb : Below w2.heap.size w2 wx) => show wx.cell? ⟨g, 0, none⟩ = some (.int .i64 PLC) ∧ wx.cell? ⟨g, 1, none⟩ = some (.pointer (some ⟨p, 0, none⟩)) ∧ wx.cell? ⟨g, 2, none⟩ = some (.int .i64 NLF) ∧ wx.cell? ⟨g, 3, none⟩ = some (.bool true) ∧ wx.cell? ⟨g, 4, none⟩ = some (.map (some b)) ∧ wx.cell? ⟨g, 5, none⟩ = some (.pointer (some ⟨tg, 0, none⟩)) from by
    have h := (h2.below hb).blk
    rw [hPLC, hNLF] at h
    exact ⟨h.cell 0 rfl, h.cell 1 rfl, h.cell 2 rfl, h.cell 3 rfl, h.cell 4 rfl, h.cell 5 rfl⟩)
  have HSV := Lib.hid (serves_at h2.blk (UpD.vl h2.pt.vr.vl h2.pt.vr.lies))
  have HCK := Lib.hid (fun (wx : World) (hb : Below w2.heap.size w2 wx) => wcheck_any ⟨fr, tt, kd, vo, li, id, co, has, ⟨key, ck, gn, md⟩⟩ (.slice x L c) wx ((hv.mono hB2 (Nat.le_refl _)).mono hb (Nat.le_refl _)))
  have H2 := Lib.hid h2
  have HZ2 := Lib.hid hZ2
  have HB2 := Lib.hid hB2
  have HHV := Lib.hid hv
  have hlw : w.heap.size + 1 < w2.heap.size := by omega
  simp only [hq, cerr_0] at HCK
  clear hq
  have eP : (tt != PLC) = true := bne_iff_ne.2 (by rw [← hPLC]; exact hp)
  clear hp
  clear hPLC hNLF
  clear h hv hB1 hB2 hX2 hZ2 hs2 h2
  go_enter Tryz.func9, Tryz.ntmps9
  go_upto_region 1 with fail
  try rw [hw2]
  clear hw2
  go_wp2_with fail
  refine HSV.out.mono ?_
  rintro e wx ⟨rfl, rfl⟩
  go_upto_region 4 with fail
  have HU4 := Lib.hid (show Below w2.heap.size w2 w2.drew from (Below.refl _ _).drew)
  refine wp_region_held_drew (S := (fun wx => Below w2.heap.size w2 wx)) (by kernel_rfl) (HU4.out) (fun hHeld => ?_)
  obtain ⟨q4, hq4⟩ : ∃ q, w2.drew = q := ⟨_, rfl⟩
  rw [hq4] at HU4 hHeld
  rw [hq4]
  clear hq4
  refine wpAnyH_take (i := 0) (v := ?_) rfl (by kernel_rfl) (by kernel_rfl) (by kernel_rfl) (fun _ _ _ h => h) (Or.inl ⟨by rfl, ?_⟩) hHeld ?_
  rotate_left 1
  · intro w hSw
    (try dsimp only at hSw)
    go_simp
    all_goals (with_reducible rfl)
  try simp only [Act.put, List.getElem_toArray, List.getElem_cons_zero, List.getElem_cons_succ, List.setIfInBounds_toArray, List.set_cons_zero, List.set_cons_succ]
  refine wpAnyH_take (i := 1) (v := ?_) rfl (by kernel_rfl) (by kernel_rfl) (by kernel_rfl) (fun _ _ _ h => h) (Or.inl ⟨by rfl, ?_⟩) hHeld ?_
  rotate_left 1
  · intro w hSw
    obtain ⟨p0, p1, p2, p3, p4, p5, p6, p7, p8, p9, p10, p11⟩ := HCM.out w hSw
    go_simp
    all_goals (with_reducible rfl)
  try simp only [Act.put, List.getElem_toArray, List.getElem_cons_zero, List.getElem_cons_succ, List.setIfInBounds_toArray, List.set_cons_zero, List.set_cons_succ]
  refine wpAnyH_take (i := 2) (v := ?_) rfl (by kernel_rfl) (by kernel_rfl) (by kernel_rfl) (fun _ _ _ h => h) (Or.inl ⟨by rfl, ?_⟩) hHeld ?_
  rotate_left 1
  · intro w hSw
    (try dsimp only at hSw)
    go_simp
    all_goals (with_reducible rfl)
  try simp only [Act.put, List.getElem_toArray, List.getElem_cons_zero, List.getElem_cons_succ, List.setIfInBounds_toArray, List.set_cons_zero, List.set_cons_succ]
  refine wpAnyH_take (i := 3) (v := ?_) rfl (by kernel_rfl) (by kernel_rfl) (by kernel_rfl) (fun _ _ _ h => h) (Or.inl ⟨by rfl, ?_⟩) hHeld ?_
  rotate_left 1
  · intro w hSw
    (try dsimp only at hSw)
    go_simp
    all_goals (with_reducible rfl)
  try simp only [Act.put, List.getElem_toArray, List.getElem_cons_zero, List.getElem_cons_succ, List.setIfInBounds_toArray, List.set_cons_zero, List.set_cons_succ]
  refine wpAnyH_take (i := 4) (v := ?_) rfl (by kernel_rfl) (by kernel_rfl) (by kernel_rfl) (fun _ _ _ h => h) (Or.inl ⟨by rfl, ?_⟩) hHeld ?_
  rotate_left 1
  · intro w hSw
    obtain ⟨p0, p1, p2, p3, p4, p5, p6, p7, p8, p9, p10, p11⟩ := HCM.out w hSw
    go_simp
    all_goals (with_reducible rfl)
  try simp only [Act.put, List.getElem_toArray, List.getElem_cons_zero, List.getElem_cons_succ, List.setIfInBounds_toArray, List.set_cons_zero, List.set_cons_succ]
  refine wpAnyH_ready (rs := [5]) (by kernel_rfl) (by simp) ?_
  refine AllReadyH.cons rfl (fun K hK => ?_) AllReadyH.nil
  go_simp
  refine (HCK.out _ HU4.out).mono ?_
  rintro e u4 ⟨rfl, hbx⟩
  have HUu4 := Lib.hid (HU4.out.trans (hbx.mono HU4.out.size))
  clear hbx
  refine hK.out _ _ (HUu4.out) (fun hHeld => ?_)
  clear hK K
  try simp only [Act.put, List.getElem_toArray, List.getElem_cons_zero, List.getElem_cons_succ, List.setIfInBounds_toArray, List.set_cons_zero, List.set_cons_succ]
  refine wpAnyH_take (i := 6) (v := ?_) rfl (by kernel_rfl) (by kernel_rfl) (by kernel_rfl) (fun _ _ _ h => h) (Or.inl ⟨by rfl, ?_⟩) hHeld ?_
  rotate_left 1
  · intro w hSw
    (try dsimp only at hSw)
    go_simp
    all_goals (with_reducible rfl)
  try simp only [Act.put, List.getElem_toArray, List.getElem_cons_zero, List.getElem_cons_succ, List.setIfInBounds_toArray, List.set_cons_zero, List.set_cons_succ]
  refine wpAnyH_take (i := 7) (v := ?_) rfl (by kernel_rfl) (by kernel_rfl) (by kernel_rfl) (fun _ _ _ h => h) (Or.inl ⟨by rfl, ?_⟩) hHeld ?_
  rotate_left 1
  · intro w hSw
    (try dsimp only at hSw)
    go_simp
    all_goals (with_reducible rfl)
  try simp only [Act.put, List.getElem_toArray, List.getElem_cons_zero, List.getElem_cons_succ, List.setIfInBounds_toArray, List.set_cons_zero, List.set_cons_succ]
  refine wpAnyH_take (i := 8) (v := ?_) rfl (by kernel_rfl) (by kernel_rfl) (by kernel_rfl) (fun _ _ _ h => h) (Or.inl ⟨by rfl, ?_⟩) hHeld ?_
  rotate_left 1
  · intro w hSw
    (try dsimp only at hSw)
    go_simp
    all_goals (with_reducible rfl)
  try simp only [Act.put, List.getElem_toArray, List.getElem_cons_zero, List.getElem_cons_succ, List.setIfInBounds_toArray, List.set_cons_zero, List.set_cons_succ]
  refine wpAnyH_take (i := 9) (v := ?_) rfl (by kernel_rfl) (by kernel_rfl) (by kernel_rfl) (fun _ _ _ h => h) (Or.inl ⟨by rfl, ?_⟩) hHeld ?_
  rotate_left 1
  · intro w hSw
    (try dsimp only at hSw)
    go_simp
    all_goals (with_reducible rfl)
  try simp only [Act.put, List.getElem_toArray, List.getElem_cons_zero, List.getElem_cons_succ, List.setIfInBounds_toArray, List.set_cons_zero, List.set_cons_succ]
  refine wpAnyH_take (i := 10) (v := ?_) rfl (by kernel_rfl) (by kernel_rfl) (by kernel_rfl) (fun _ _ _ h => h) (Or.inl ⟨by rfl, ?_⟩) hHeld ?_
  rotate_left 1
  · intro w hSw
    obtain ⟨p0, p1, p2, p3, p4, p5, p6, p7, p8, p9, p10, p11⟩ := HCM.out w hSw
    go_simp
    all_goals (with_reducible rfl)
  try simp only [Act.put, List.getElem_toArray, List.getElem_cons_zero, List.getElem_cons_succ, List.setIfInBounds_toArray, List.set_cons_zero, List.set_cons_succ]
  refine wpAnyH_take (i := 11) (v := ?_) rfl (by kernel_rfl) (by kernel_rfl) (by kernel_rfl) (fun _ _ _ h => h) (Or.inl ⟨by rfl, ?_⟩) hHeld ?_
  rotate_left 1
  · intro w hSw
    (try dsimp only at hSw)
    go_simp
    all_goals (with_reducible rfl)
  try simp only [Act.put, List.getElem_toArray, List.getElem_cons_zero, List.getElem_cons_succ, List.setIfInBounds_toArray, List.set_cons_zero, List.set_cons_succ]
  refine wpAnyH_take (i := 12) (v := ?_) rfl (by kernel_rfl) (by kernel_rfl) (by kernel_rfl) (fun _ _ _ h => h) (Or.inl ⟨by rfl, ?_⟩) hHeld ?_
  rotate_left 1
  · intro w hSw
    (try dsimp only at hSw)
    go_simp
    all_goals (with_reducible rfl)
  try simp only [Act.put, List.getElem_toArray, List.getElem_cons_zero, List.getElem_cons_succ, List.setIfInBounds_toArray, List.set_cons_zero, List.set_cons_succ]
  refine wpAnyH_take (i := 13) (v := ?_) rfl (by kernel_rfl) (by kernel_rfl) (by kernel_rfl) (fun _ _ _ h => h) (Or.inl ⟨by rfl, ?_⟩) hHeld ?_
  rotate_left 1
  · intro w hSw
    (try dsimp only at hSw)
    go_simp
    all_goals (with_reducible rfl)
  try simp only [Act.put, List.getElem_toArray, List.getElem_cons_zero, List.getElem_cons_succ, List.setIfInBounds_toArray, List.set_cons_zero, List.set_cons_succ]
  refine wpAnyH_take (i := 14) (v := ?_) rfl (by kernel_rfl) (by kernel_rfl) (by kernel_rfl) (fun _ _ _ h => h) (Or.inl ⟨by rfl, ?_⟩) hHeld ?_
  rotate_left 1
  · intro w hSw
    obtain ⟨q0, q1, q2, q3, q4, q5⟩ := HCN.out w hSw
    go_simp
    all_goals (with_reducible rfl)
  try simp only [Act.put, List.getElem_toArray, List.getElem_cons_zero, List.getElem_cons_succ, List.setIfInBounds_toArray, List.set_cons_zero, List.set_cons_succ]
  refine wpAnyH_take (i := 15) (v := ?_) rfl (by kernel_rfl) (by kernel_rfl) (by kernel_rfl) (fun _ _ _ h => h) (Or.inl ⟨by rfl, ?_⟩) hHeld ?_
  rotate_left 1
  · intro w hSw
    (try dsimp only at hSw)
    go_simp
    all_goals (with_reducible rfl)
  try simp only [Act.put, List.getElem_toArray, List.getElem_cons_zero, List.getElem_cons_succ, List.setIfInBounds_toArray, List.set_cons_zero, List.set_cons_succ]
  refine wpAnyH_take (i := 16) (v := ?_) rfl (by kernel_rfl) (by kernel_rfl) (by kernel_rfl) (fun _ _ _ h => h) (Or.inl ⟨by rfl, ?_⟩) hHeld ?_
  rotate_left 1
  · intro w hSw
    (try dsimp only at hSw)
    go_simp
    all_goals (with_reducible rfl)
  try simp only [Act.put, List.getElem_toArray, List.getElem_cons_zero, List.getElem_cons_succ, List.setIfInBounds_toArray, List.set_cons_zero, List.set_cons_succ]
  refine wpAnyH_done (by kernel_rfl) ?_ _
  have hZu := HZ2.out.below HUu4.out HZ2.out.lt
  have HF := Lib.hid (fin12z hZu (.int .i64 0) (.int .i64 0) (.int .i64 0) (.int .i64 0) (.int .i64 0) (.int .u64 0) (.int .i64 0) (.bool false) (.int .u64 0) (.int .u32 0) (.bool false) (.slice none 0 0))
  have HBu := Lib.hid (HB2.out.trans (HUu4.out.mono HB2.out.size))
  have z0 := hZu.cell 0 rfl
  have z1 := hZu.cell 1 rfl
  have z2 := hZu.cell 2 rfl
  have z3 := hZu.cell 3 rfl
  have z4 := hZu.cell 4 rfl
  have z5 := hZu.cell 5 rfl
  have z6 := hZu.cell 6 rfl
  have z7 := hZu.cell 7 rfl
  have z8 := hZu.cell 8 rfl
  have z9 := hZu.cell 9 rfl
  have z10 := hZu.cell 10 rfl
  have z11 := hZu.cell 11 rfl
  have zf := fun j => hZu.free j
  clear hZu
  go_wp2
  obtain ⟨j0, j1, j2, j3, j4, j5, j6, j7, j8, j9, j10, j11, jk⟩ := HF.out
  exact bodyPost_ret (v := .tuple #[.agg #[.int .i64 0, .int .i64 0, .int .i64 0, .int .i64 0, .int .i64 0, .int .u64 0, .int .i64 0, .bool false, .int .u64 0, .int .u32 0, .bool false, .slice none 0 0], err 1]) (by simp [results, Tryz.results9, go_sem, j0, j1, j2, j3, j4, j5, j6, j7, j8, j9, j10, j11]) rfl ⟨rfl, Below.trans_keptZ HBu.out jk (Nat.le_succ _)⟩

end Go.Proofs.YtllbngopfganjaaGreatDoor.Nd
end
