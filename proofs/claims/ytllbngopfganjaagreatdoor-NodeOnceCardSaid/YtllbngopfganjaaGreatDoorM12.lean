/- Zd. -/
import Derived.Test.YtllbngopfganjaaGreatDoorM11
import Derived.Test.YtllbngopfganjaaGreatDoorM9
import Derived.Test.YtllbngopfganjaaGreatDoorM10
set_option linter.unusedVariables false
set_option linter.unusedSimpArgs false

section
namespace Go.Proofs.YtllbngopfganjaaGreatDoor.Nd
open Go.RowKit Go.Cor

theorem VolT_otherZ {w w0 w2 w3 : World} {g p k' B : Nat} {S : Nat → Prop} {d : Dsk} {s s' : Vst} (h : VolT w0 w2 g p S d s k' s') (hb : Below w.heap.size w w0) (hB : w.heap.size ≤ B) (hB2 : B < w0.heap.size) (hS : ∀ b, S b → b < w.heap.size) (hk : Kept (fun j => j = B) w2 w3) : VolT w w3 g p S d s k' s' := by
  obtain ⟨d', ⟨S', h1, h2, h3⟩, h4⟩ := h
  refine ⟨d', ⟨S', h1.kept hk (fun b hb2 e => ?_), ?_, fun b hb2 => ?_⟩, h4⟩
  · subst e
    rcases h3 b hb2 with h | h
    · have := hS b h; omega
    · omega
  · exact ((Kept.of_below (S := S) hb (Nat.le_refl _)).trans h2 (fun j hj _ => hj)).trans hk (fun j e hj => by subst e; omega)
  · rcases h3 b hb2 with h | h
    · exact .inl h
    · exact .inr (Nat.le_trans hb.size h)
theorem cerr_eqZ (k : Nat) : Go.Proofs.YtllbngopfganjaaGreatDoor.cerr k = cerr k := rfl
theorem fin4kz {w : World} {B : Nat} {a0 a1 a2 a3 : Value} {T : TypeId} (h : Blk w B #[a0, a1, a2, a3] T) (u0 u1 u2 u3 : Value) :
    ((((w.setCell ⟨B, 0, none⟩ u0).setCell ⟨B, 1, none⟩ u1).setCell ⟨B, 2, none⟩ u2).setCell ⟨B, 3, none⟩ u3).cell? ⟨B, 0, none⟩ = some u0 ∧ ((((w.setCell ⟨B, 0, none⟩ u0).setCell ⟨B, 1, none⟩ u1).setCell ⟨B, 2, none⟩ u2).setCell ⟨B, 3, none⟩ u3).cell? ⟨B, 1, none⟩ = some u1 ∧ ((((w.setCell ⟨B, 0, none⟩ u0).setCell ⟨B, 1, none⟩ u1).setCell ⟨B, 2, none⟩ u2).setCell ⟨B, 3, none⟩ u3).cell? ⟨B, 2, none⟩ = some u2 ∧ ((((w.setCell ⟨B, 0, none⟩ u0).setCell ⟨B, 1, none⟩ u1).setCell ⟨B, 2, none⟩ u2).setCell ⟨B, 3, none⟩ u3).cell? ⟨B, 3, none⟩ = some u3 ∧ Kept (fun j => j = B) w ((((w.setCell ⟨B, 0, none⟩ u0).setCell ⟨B, 1, none⟩ u1).setCell ⟨B, 2, none⟩ u2).setCell ⟨B, 3, none⟩ u3) := by
  have hz := (((h.set 0 u0).set 1 u1).set 2 u2).set 3 u3
  simp at hz
  exact ⟨hz.cell 0 rfl, hz.cell 1 rfl, hz.cell 2 rfl, hz.cell 3 rfl, ((((Kept.refl (fun j => j = B) w).setCell (p := ⟨B, 0, none⟩) (.inl rfl) u0).setCell (p := ⟨B, 1, none⟩) (.inl rfl) u1).setCell (p := ⟨B, 2, none⟩) (.inl rfl) u2).setCell (p := ⟨B, 3, none⟩) (.inl rfl) u3⟩
set_option maxRecDepth 100000 in
set_option maxHeartbeats 2000000 in
theorem do_put (fr tt vo li : Int) (id : Nat) (co : Int) (has : Bool) (key ck : Nat) (gn : Bool) (md : List UInt8) (x : Option Addr) (L c : Nat) (g p k : Nat) (S : Nat → Prop) (d : Dsk) (s : Vst) (w : World) (h : Vready w g p S d k s) (hv : IsB w (.slice x L c) md) (hvS : ∀ b, liesB (.slice x L c) md b → ¬ S b) (hf : Ndl.fits ⟨key, ck, gn, md⟩) (hr : Room' s d ⟨key, ck, gn, md⟩) :
    Calls Tryz.prog 45 #[.pointer (some ⟨g, 0, none⟩), .agg #[.int .i64 fr, .int .i64 tt, .int .i64 1, .int .i64 vo, .int .i64 li, .int .u64 (id : Int), .int .i64 co, .bool has, .int .u64 (key : Int), .int .u32 (ck : Int), .bool gn, .slice x L c]] w fun e w' => e = .returned (.tuple #[.agg #[.int .u64 0, .int .u32 0, .bool false, .slice none 0 0], cerr (s.put ⟨key, ck, gn, md⟩).2]) ∧ VolT w w' g p S d s (k + 4) (s.put ⟨key, ck, gn, md⟩).1 := by
  have hBm := below_new16 w (.cells #[.int .i64 fr, .int .i64 tt, .int .i64 1, .int .i64 vo, .int .i64 li, .int .u64 (id : Int), .int .i64 co, .bool has, .int .u64 (key : Int), .int .u32 (ck : Int), .bool gn, .slice x L c] 45)
  have hXm := (Blk.new w #[.int .i64 fr, .int .i64 tt, .int .i64 1, .int .i64 vo, .int .i64 li, .int .u64 (id : Int), .int .i64 co, .bool has, .int .u64 (key : Int), .int .u32 (ck : Int), .bool gn, .slice x L c] 45).alloc (.cells #[.int .u64 0, .int .u32 0, .bool false, .slice none 0 0] 43)
  have hZn := Blk.new (w.alloc (.cells #[.int .i64 fr, .int .i64 tt, .int .i64 1, .int .i64 vo, .int .i64 li, .int .u64 (id : Int), .int .i64 co, .bool has, .int .u64 (key : Int), .int .u32 (ck : Int), .bool gn, .slice x L c] 45)) #[.int .u64 0, .int .u32 0, .bool false, .slice none 0 0] 43
  rw [show (w.alloc (.cells #[.int .i64 fr, .int .i64 tt, .int .i64 1, .int .i64 vo, .int .i64 li, .int .u64 (id : Int), .int .i64 co, .bool has, .int .u64 (key : Int), .int .u32 (ck : Int), .bool gn, .slice x L c] 45)).heap.size = w.heap.size + 1 by simp] at hZn
  have hB2 := hBm.alloc hBm.size (.cells #[.int .u64 0, .int .u32 0, .bool false, .slice none 0 0] 43)
  obtain ⟨w2, hw2⟩ : ∃ z, (w.alloc (.cells #[.int .i64 fr, .int .i64 tt, .int .i64 1, .int .i64 vo, .int .i64 li, .int .u64 (id : Int), .int .i64 co, .bool has, .int .u64 (key : Int), .int .u32 (ck : Int), .bool gn, .slice x L c] 45)).alloc (.cells #[.int .u64 0, .int .u32 0, .bool false, .slice none 0 0] 43) = z := ⟨_, rfl⟩
  rw [hw2] at hXm hZn hB2
  have hs2 : w2.heap.size = w.heap.size + 1 + 1 := by rw [← hw2]; simp
  have HC := Lib.hid (put_w ⟨key, ck, gn, md⟩ (.slice x L c) g p k S d s w2 (h.below hB2) (hv.mono hB2 (Nat.le_refl _)) hvS hf hr)
  obtain ⟨KE, hKE⟩ : ∃ z, cerr (s.put ⟨key, ck, gn, md⟩).2 = z := ⟨_, rfl⟩
  obtain ⟨VV, hVV⟩ : ∃ z, (s.put ⟨key, ck, gn, md⟩).1 = z := ⟨_, rfl⟩
  rw [cerr_eqZ, hKE, hVV] at HC
  rw [hKE, hVV]
  have hSl : ∀ b, S b → b < w.heap.size := h.vl.lt
  have HB2 := Lib.hid hB2
  have HSL := Lib.hid hSl
  have HZN := Lib.hid hZn
  have p0 := hXm.cell 0 rfl
  have p1 := hXm.cell 1 rfl
  have p2 := hXm.cell 2 rfl
  have p3 := hXm.cell 3 rfl
  have p4 := hXm.cell 4 rfl
  have p5 := hXm.cell 5 rfl
  have p6 := hXm.cell 6 rfl
  have p7 := hXm.cell 7 rfl
  have p8 := hXm.cell 8 rfl
  have p9 := hXm.cell 9 rfl
  have p10 := hXm.cell 10 rfl
  have p11 := hXm.cell 11 rfl
  have hlw : w.heap.size + 1 < w2.heap.size := by omega
  clear h hv hvS hf hr hBm hXm hZn hB2 hs2 hSl hKE hVV
  go_enter Tryz.func45, Tryz.ntmps45
  go_upto_region 1 with fail
  try rw [hw2]
  clear hw2
  go_wp2_with fail
  refine HC.out.mono ?_
  rintro e w3 ⟨rfl, hvt⟩
  have hvt2 := hvt
  obtain ⟨d', ⟨S', k1, k2, k3⟩, k4⟩ := hvt2
  have hZ3 := HZN.out.kept k2 (fun e => by have := HSL.out _ e; omega)
  have z0 := hZ3.cell 0 rfl
  have z1 := hZ3.cell 1 rfl
  have z2 := hZ3.cell 2 rfl
  have z3 := hZ3.cell 3 rfl
  have zf := fun j => hZ3.free j
  have HF := Lib.hid (fin4kz hZ3 (.int .u64 0) (.int .u32 0) (.bool false) (.slice none 0 0))
  have HV := Lib.hid hvt
  clear k1 k2 k3 k4 hZ3 hvt p0 p1 p2 p3 p4 p5 p6 p7 p8 p9 p10 p11
  go_wp2
  obtain ⟨y0, y1, y2, y3, yk⟩ := HF.out
  exact bodyPost_ret (v := .tuple #[.agg #[.int .u64 0, .int .u32 0, .bool false, .slice none 0 0], KE]) (by simp [results, Tryz.results45, go_sem, y0, y1, y2, y3]) rfl ⟨rfl, VolT_otherZ HV.out HB2.out (by omega) (by omega) HSL.out yk⟩
set_option maxRecDepth 100000 in
set_option maxHeartbeats 2000000 in
theorem do_lay (fr tt vo li : Int) (id : Nat) (co : Int) (has : Bool) (key ck : Nat) (gn : Bool) (md : List UInt8) (x : Option Addr) (L c : Nat) (g p k : Nat) (S : Nat → Prop) (d : Dsk) (s : Vst) (w : World) (h : Vready w g p S d k s) (hv : IsB w (.slice x L c) md) (hvS : ∀ b, liesB (.slice x L c) md b → ¬ S b) (hf : Ndl.fits ⟨key, ck, gn, md⟩) (hr : Room' s d ⟨key, ck, gn, md⟩) :
    Calls Tryz.prog 45 #[.pointer (some ⟨g, 0, none⟩), .agg #[.int .i64 fr, .int .i64 tt, .int .i64 2, .int .i64 vo, .int .i64 li, .int .u64 (id : Int), .int .i64 co, .bool has, .int .u64 (key : Int), .int .u32 (ck : Int), .bool gn, .slice x L c]] w fun e w' => e = .returned (.tuple #[.agg #[.int .u64 0, .int .u32 0, .bool false, .slice none 0 0], cerr (s.lay ⟨key, ck, gn, md⟩).2]) ∧ VolT w w' g p S d s (k + 4) (s.lay ⟨key, ck, gn, md⟩).1 := by
  have hBm := below_new16 w (.cells #[.int .i64 fr, .int .i64 tt, .int .i64 2, .int .i64 vo, .int .i64 li, .int .u64 (id : Int), .int .i64 co, .bool has, .int .u64 (key : Int), .int .u32 (ck : Int), .bool gn, .slice x L c] 45)
  have hXm := (Blk.new w #[.int .i64 fr, .int .i64 tt, .int .i64 2, .int .i64 vo, .int .i64 li, .int .u64 (id : Int), .int .i64 co, .bool has, .int .u64 (key : Int), .int .u32 (ck : Int), .bool gn, .slice x L c] 45).alloc (.cells #[.int .u64 0, .int .u32 0, .bool false, .slice none 0 0] 43)
  have hZn := Blk.new (w.alloc (.cells #[.int .i64 fr, .int .i64 tt, .int .i64 2, .int .i64 vo, .int .i64 li, .int .u64 (id : Int), .int .i64 co, .bool has, .int .u64 (key : Int), .int .u32 (ck : Int), .bool gn, .slice x L c] 45)) #[.int .u64 0, .int .u32 0, .bool false, .slice none 0 0] 43
  rw [show (w.alloc (.cells #[.int .i64 fr, .int .i64 tt, .int .i64 2, .int .i64 vo, .int .i64 li, .int .u64 (id : Int), .int .i64 co, .bool has, .int .u64 (key : Int), .int .u32 (ck : Int), .bool gn, .slice x L c] 45)).heap.size = w.heap.size + 1 by simp] at hZn
  have hB2 := hBm.alloc hBm.size (.cells #[.int .u64 0, .int .u32 0, .bool false, .slice none 0 0] 43)
  obtain ⟨w2, hw2⟩ : ∃ z, (w.alloc (.cells #[.int .i64 fr, .int .i64 tt, .int .i64 2, .int .i64 vo, .int .i64 li, .int .u64 (id : Int), .int .i64 co, .bool has, .int .u64 (key : Int), .int .u32 (ck : Int), .bool gn, .slice x L c] 45)).alloc (.cells #[.int .u64 0, .int .u32 0, .bool false, .slice none 0 0] 43) = z := ⟨_, rfl⟩
  rw [hw2] at hXm hZn hB2
  have hs2 : w2.heap.size = w.heap.size + 1 + 1 := by rw [← hw2]; simp
  have HC := Lib.hid (lay_v ⟨key, ck, gn, md⟩ (.slice x L c) g p k S d s w2 (h.below hB2) (hv.mono hB2 (Nat.le_refl _)) hvS hf hr)
  obtain ⟨KE, hKE⟩ : ∃ z, cerr (s.lay ⟨key, ck, gn, md⟩).2 = z := ⟨_, rfl⟩
  obtain ⟨VV, hVV⟩ : ∃ z, (s.lay ⟨key, ck, gn, md⟩).1 = z := ⟨_, rfl⟩
  rw [cerr_eqZ, hKE, hVV] at HC
  rw [hKE, hVV]
  have hSl : ∀ b, S b → b < w.heap.size := h.vl.lt
  have HB2 := Lib.hid hB2
  have HSL := Lib.hid hSl
  have HZN := Lib.hid hZn
  have p0 := hXm.cell 0 rfl
  have p1 := hXm.cell 1 rfl
  have p2 := hXm.cell 2 rfl
  have p3 := hXm.cell 3 rfl
  have p4 := hXm.cell 4 rfl
  have p5 := hXm.cell 5 rfl
  have p6 := hXm.cell 6 rfl
  have p7 := hXm.cell 7 rfl
  have p8 := hXm.cell 8 rfl
  have p9 := hXm.cell 9 rfl
  have p10 := hXm.cell 10 rfl
  have p11 := hXm.cell 11 rfl
  have hlw : w.heap.size + 1 < w2.heap.size := by omega
  clear h hv hvS hf hr hBm hXm hZn hB2 hs2 hSl hKE hVV
  go_enter Tryz.func45, Tryz.ntmps45
  go_upto_region 1 with fail
  try rw [hw2]
  clear hw2
  go_wp2_with fail
  refine HC.out.mono ?_
  rintro e w3 ⟨rfl, hvt⟩
  have hvt2 := hvt
  obtain ⟨d', ⟨S', k1, k2, k3⟩, k4⟩ := hvt2
  have hZ3 := HZN.out.kept k2 (fun e => by have := HSL.out _ e; omega)
  have z0 := hZ3.cell 0 rfl
  have z1 := hZ3.cell 1 rfl
  have z2 := hZ3.cell 2 rfl
  have z3 := hZ3.cell 3 rfl
  have zf := fun j => hZ3.free j
  have HF := Lib.hid (fin4kz hZ3 (.int .u64 0) (.int .u32 0) (.bool false) (.slice none 0 0))
  have HV := Lib.hid hvt
  clear k1 k2 k3 k4 hZ3 hvt p0 p1 p2 p3 p4 p5 p6 p7 p8 p9 p10 p11
  go_wp2
  obtain ⟨y0, y1, y2, y3, yk⟩ := HF.out
  exact bodyPost_ret (v := .tuple #[.agg #[.int .u64 0, .int .u32 0, .bool false, .slice none 0 0], KE]) (by simp [results, Tryz.results45, go_sem, y0, y1, y2, y3]) rfl ⟨rfl, VolT_otherZ HV.out HB2.out (by omega) (by omega) HSL.out yk⟩
set_option maxRecDepth 100000 in
set_option maxHeartbeats 2000000 in
theorem do_del (fr tt vo li : Int) (id : Nat) (co : Int) (has : Bool) (key ck : Nat) (gn : Bool) (md : List UInt8) (x : Option Addr) (L c : Nat) (g p k : Nat) (S : Nat → Prop) (d : Dsk) (s : Vst) (w : World) (h : Vready w g p S d k s) (hv : IsB w (.slice x L c) md) (hvS : ∀ b, liesB (.slice x L c) md b → ¬ S b) (hf : Ndl.fits ⟨key, ck, gn, md⟩) (hr : Room' s d (grave key ck)) :
    Calls Tryz.prog 45 #[.pointer (some ⟨g, 0, none⟩), .agg #[.int .i64 fr, .int .i64 tt, .int .i64 4, .int .i64 vo, .int .i64 li, .int .u64 (id : Int), .int .i64 co, .bool has, .int .u64 (key : Int), .int .u32 (ck : Int), .bool gn, .slice x L c]] w fun e w' => e = .returned (.tuple #[.agg #[.int .u64 0, .int .u32 0, .bool false, .slice none 0 0], cerr (s.del key ck).2]) ∧ VolT w w' g p S d s (k + 4) (s.del key ck).1 := by
  have hBm := below_new16 w (.cells #[.int .i64 fr, .int .i64 tt, .int .i64 4, .int .i64 vo, .int .i64 li, .int .u64 (id : Int), .int .i64 co, .bool has, .int .u64 (key : Int), .int .u32 (ck : Int), .bool gn, .slice x L c] 45)
  have hXm := (Blk.new w #[.int .i64 fr, .int .i64 tt, .int .i64 4, .int .i64 vo, .int .i64 li, .int .u64 (id : Int), .int .i64 co, .bool has, .int .u64 (key : Int), .int .u32 (ck : Int), .bool gn, .slice x L c] 45).alloc (.cells #[.int .u64 0, .int .u32 0, .bool false, .slice none 0 0] 43)
  have hZn := Blk.new (w.alloc (.cells #[.int .i64 fr, .int .i64 tt, .int .i64 4, .int .i64 vo, .int .i64 li, .int .u64 (id : Int), .int .i64 co, .bool has, .int .u64 (key : Int), .int .u32 (ck : Int), .bool gn, .slice x L c] 45)) #[.int .u64 0, .int .u32 0, .bool false, .slice none 0 0] 43
  rw [show (w.alloc (.cells #[.int .i64 fr, .int .i64 tt, .int .i64 4, .int .i64 vo, .int .i64 li, .int .u64 (id : Int), .int .i64 co, .bool has, .int .u64 (key : Int), .int .u32 (ck : Int), .bool gn, .slice x L c] 45)).heap.size = w.heap.size + 1 by simp] at hZn
  have hB2 := hBm.alloc hBm.size (.cells #[.int .u64 0, .int .u32 0, .bool false, .slice none 0 0] 43)
  obtain ⟨w2, hw2⟩ : ∃ z, (w.alloc (.cells #[.int .i64 fr, .int .i64 tt, .int .i64 4, .int .i64 vo, .int .i64 li, .int .u64 (id : Int), .int .i64 co, .bool has, .int .u64 (key : Int), .int .u32 (ck : Int), .bool gn, .slice x L c] 45)).alloc (.cells #[.int .u64 0, .int .u32 0, .bool false, .slice none 0 0] 43) = z := ⟨_, rfl⟩
  rw [hw2] at hXm hZn hB2
  have hs2 : w2.heap.size = w.heap.size + 1 + 1 := by rw [← hw2]; simp
  have HC := Lib.hid (del_w key ck g p k S d s w2 (h.below hB2) hf.1 hf.2 hr)
  obtain ⟨KE, hKE⟩ : ∃ z, cerr (s.del key ck).2 = z := ⟨_, rfl⟩
  obtain ⟨VV, hVV⟩ : ∃ z, (s.del key ck).1 = z := ⟨_, rfl⟩
  rw [cerr_eqZ, hKE, hVV] at HC
  rw [hKE, hVV]
  have hSl : ∀ b, S b → b < w.heap.size := h.vl.lt
  have HB2 := Lib.hid hB2
  have HSL := Lib.hid hSl
  have HZN := Lib.hid hZn
  have p0 := hXm.cell 0 rfl
  have p1 := hXm.cell 1 rfl
  have p2 := hXm.cell 2 rfl
  have p3 := hXm.cell 3 rfl
  have p4 := hXm.cell 4 rfl
  have p5 := hXm.cell 5 rfl
  have p6 := hXm.cell 6 rfl
  have p7 := hXm.cell 7 rfl
  have p8 := hXm.cell 8 rfl
  have p9 := hXm.cell 9 rfl
  have p10 := hXm.cell 10 rfl
  have p11 := hXm.cell 11 rfl
  have hlw : w.heap.size + 1 < w2.heap.size := by omega
  clear h hv hvS hf hr hBm hXm hZn hB2 hs2 hSl hKE hVV
  go_enter Tryz.func45, Tryz.ntmps45
  go_upto_region 1 with fail
  try rw [hw2]
  clear hw2
  go_wp2_with fail
  refine HC.out.mono ?_
  rintro e w3 ⟨rfl, hvt⟩
  have hvt2 := hvt
  obtain ⟨d', ⟨S', k1, k2, k3⟩, k4⟩ := hvt2
  have hZ3 := HZN.out.kept k2 (fun e => by have := HSL.out _ e; omega)
  have z0 := hZ3.cell 0 rfl
  have z1 := hZ3.cell 1 rfl
  have z2 := hZ3.cell 2 rfl
  have z3 := hZ3.cell 3 rfl
  have zf := fun j => hZ3.free j
  have HF := Lib.hid (fin4kz hZ3 (.int .u64 0) (.int .u32 0) (.bool false) (.slice none 0 0))
  have HV := Lib.hid hvt
  clear k1 k2 k3 k4 hZ3 hvt p0 p1 p2 p3 p4 p5 p6 p7 p8 p9 p10 p11
  go_wp2
  obtain ⟨y0, y1, y2, y3, yk⟩ := HF.out
  exact bodyPost_ret (v := .tuple #[.agg #[.int .u64 0, .int .u32 0, .bool false, .slice none 0 0], KE]) (by simp [results, Tryz.results45, go_sem, y0, y1, y2, y3]) rfl ⟨rfl, VolT_otherZ HV.out HB2.out (by omega) (by omega) HSL.out yk⟩
set_option maxRecDepth 100000 in
set_option maxHeartbeats 2000000 in
theorem do_get (fr tt vo li : Int) (id : Nat) (co : Int) (has : Bool) (key ck : Nat) (gn : Bool) (md : List UInt8) (x : Option Addr) (L c : Nat) (g p k : Nat) (S : Nat → Prop) (d : Dsk) (s : Vst) (w : World) (h : Vready w g p S d k s) :
    Calls Tryz.prog 45 #[.pointer (some ⟨g, 0, none⟩), .agg #[.int .i64 fr, .int .i64 tt, .int .i64 3, .int .i64 vo, .int .i64 li, .int .u64 (id : Int), .int .i64 co, .bool has, .int .u64 (key : Int), .int .u32 (ck : Int), .bool gn, .slice x L c]] w fun e w' => ∃ m y cc, e = .returned (.tuple #[nval m (.slice y m.data.length cc), cerr (s.look key ck)]) ∧ IsB w' (.slice y m.data.length cc) m.data ∧ Below w.heap.size w w' ∧ m = (if s.look key ck = 0 then (newest s.ns key).getD nz else nz) := by
  have hBm := below_new16 w (.cells #[.int .i64 fr, .int .i64 tt, .int .i64 3, .int .i64 vo, .int .i64 li, .int .u64 (id : Int), .int .i64 co, .bool has, .int .u64 (key : Int), .int .u32 (ck : Int), .bool gn, .slice x L c] 45)
  have hXm := (Blk.new w #[.int .i64 fr, .int .i64 tt, .int .i64 3, .int .i64 vo, .int .i64 li, .int .u64 (id : Int), .int .i64 co, .bool has, .int .u64 (key : Int), .int .u32 (ck : Int), .bool gn, .slice x L c] 45).alloc (.cells #[.int .u64 0, .int .u32 0, .bool false, .slice none 0 0] 43)
  have hZn := Blk.new (w.alloc (.cells #[.int .i64 fr, .int .i64 tt, .int .i64 3, .int .i64 vo, .int .i64 li, .int .u64 (id : Int), .int .i64 co, .bool has, .int .u64 (key : Int), .int .u32 (ck : Int), .bool gn, .slice x L c] 45)) #[.int .u64 0, .int .u32 0, .bool false, .slice none 0 0] 43
  rw [show (w.alloc (.cells #[.int .i64 fr, .int .i64 tt, .int .i64 3, .int .i64 vo, .int .i64 li, .int .u64 (id : Int), .int .i64 co, .bool has, .int .u64 (key : Int), .int .u32 (ck : Int), .bool gn, .slice x L c] 45)).heap.size = w.heap.size + 1 by simp] at hZn
  have hB2 := hBm.alloc hBm.size (.cells #[.int .u64 0, .int .u32 0, .bool false, .slice none 0 0] 43)
  obtain ⟨w2, hw2⟩ : ∃ z, (w.alloc (.cells #[.int .i64 fr, .int .i64 tt, .int .i64 3, .int .i64 vo, .int .i64 li, .int .u64 (id : Int), .int .i64 co, .bool has, .int .u64 (key : Int), .int .u32 (ck : Int), .bool gn, .slice x L c] 45)).alloc (.cells #[.int .u64 0, .int .u32 0, .bool false, .slice none 0 0] 43) = z := ⟨_, rfl⟩
  rw [hw2] at hXm hZn hB2
  have hs2 : w2.heap.size = w.heap.size + 1 + 1 := by rw [← hw2]; simp
  obtain ⟨KE, hKE⟩ : ∃ z, cerr (s.look key ck) = z := ⟨_, rfl⟩
  have HC := Lib.hid (show Calls Tryz.prog 71 #[.pointer (some ⟨g, 0, none⟩), .int .u64 (key : Int), .int .u32 (ck : Int)] w2 fun e w' => ∃ (nk nc : Nat) (ng : Bool) (nd : List UInt8) (y : Option Addr) (M cc : Nat), e = .returned (.tuple #[.agg #[.int .u64 (nk : Int), .int .u32 (nc : Int), .bool ng, .slice y M cc], KE]) ∧ nd.length = M ∧ IsB w' (.slice y M cc) nd ∧ (∀ b, liesB (.slice y M cc) nd b → w2.heap.size ≤ b) ∧ Below w2.heap.size w2 w' ∧ (⟨nk, nc, ng, nd⟩ : Ndl) = (if s.look key ck = 0 then (newest s.ns key).getD nz else nz) from by
    refine (get_v key ck g p k S d s w2 (h.below hB2)).mono ?_
    rintro e w' ⟨m, y, cc, rfl, hown, hb, hm⟩
    obtain ⟨nk, nc, ng, nd⟩ := m
    exact ⟨nk, nc, ng, nd, y, nd.length, cc, by rw [cerr_eqZ, hKE], rfl, IsB.own hown rfl, fun b hb => (hown.lt b hb.2).1, hb, hm⟩)
  rw [hKE]
  obtain ⟨RM, hRM⟩ : ∃ z, (if s.look key ck = 0 then (newest s.ns key).getD nz else nz) = z := ⟨_, rfl⟩
  simp only [hRM] at HC ⊢
  clear hRM
  have HB2 := Lib.hid hB2
  have HZN := Lib.hid hZn
  have p0 := hXm.cell 0 rfl
  have p1 := hXm.cell 1 rfl
  have p2 := hXm.cell 2 rfl
  have p3 := hXm.cell 3 rfl
  have p4 := hXm.cell 4 rfl
  have p5 := hXm.cell 5 rfl
  have p6 := hXm.cell 6 rfl
  have p7 := hXm.cell 7 rfl
  have p8 := hXm.cell 8 rfl
  have p9 := hXm.cell 9 rfl
  have p10 := hXm.cell 10 rfl
  have p11 := hXm.cell 11 rfl
  have hlw : w.heap.size + 1 < w2.heap.size := by omega
  clear h hBm hXm hZn hB2 hs2 hKE
  go_enter Tryz.func45, Tryz.ntmps45
  go_upto_region 1 with fail
  try rw [hw2]
  clear hw2
  go_wp2_with fail
  refine HC.out.mono ?_
  rintro e w3 ⟨nk, nc, ng, nd, y, M, cc, rfl, hM, hi3, hfr, hb3, hm⟩
  have HM := Lib.hid hm
  have hlow : ∀ b, liesB (.slice y M cc) nd b → w.heap.size + 1 < b := fun b hb => by have := hfr b hb; omega
  have hZ3 := HZN.out.below hb3 hlw
  have hb23 := HB2.out.trans (hb3.mono HB2.out.size)
  have z0 := hZ3.cell 0 rfl
  have z1 := hZ3.cell 1 rfl
  have z2 := hZ3.cell 2 rfl
  have z3 := hZ3.cell 3 rfl
  have zf := fun j => hZ3.free j
  have HF := Lib.hid (fin4z hZ3 hb23 (Nat.le_succ _) (.int .u64 (nk : Int)) (.int .u32 (nc : Int)) (.bool ng) (.slice y M cc))
  have HI := Lib.hid hi3
  have HL := Lib.hid hlow
  have HMM := Lib.hid hM
  clear hM hfr hZ3 hi3 hb3 hb23 hlow hm p0 p1 p2 p3 p4 p5 p6 p7 p8 p9 p10 p11
  go_wp2
  obtain ⟨y0, y1, y2, y3, yb, yk⟩ := HF.out
  exact bodyPost_ret (v := .tuple #[.agg #[.int .u64 (nk : Int), .int .u32 (nc : Int), .bool ng, .slice y M cc], KE]) (by simp [results, Tryz.results45, go_sem, y0, y1, y2, y3]) rfl ⟨⟨nk, nc, ng, nd⟩, y, cc, by rw [← HMM.out], by rw [HMM.out]; exact HI.out.kept yk (fun b hb e => by have := HL.out b hb; omega), yb, HM.out⟩

end Go.Proofs.YtllbngopfganjaaGreatDoor.Nd
end
