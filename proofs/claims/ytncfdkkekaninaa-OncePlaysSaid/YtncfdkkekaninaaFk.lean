/- The document's table (layer 16) by contracts: Keep. -/
import Derived.Test.YtncfdkkekaninaaFf
import Derived.Test.YtncfdkkekaninaaRef14c
import Derived.Test.YtncfdkkekaninaaOrdE
import Derived.Test.YtncfdkkekaninaaOt
set_option linter.unusedVariables false
set_option linter.unusedSimpArgs false
namespace Go.Proofs.Ytncfdkkekaninaa
open Go.RowKit Go.Cor

theorem IsX.litAt14 (w : World) (cs : Array Value) (T : TypeId) (size n b : Nat) (hb : w.heap.size = b) (hs : cs.size = n * size) (hm : n ≤ maxLen) : IsX (w.alloc (.cells cs T)) size (.slice (some ⟨b, 0, none⟩) n n) n cs.toList := by
  subst hb
  exact IsX.lit w cs T size n hs hm
theorem own_litAt14 (w : World) (B : Nat) (T : TypeId) (size b : Nat) (hb : w.heap.size = b) (hB : B ≤ b) : (w.alloc (.cells #[] T)).ownsRow B T size (.slice (some ⟨b, 0, none⟩) 0 0) 0 [] := by
  subst hb
  exact World.ownsRow_lit (base := B) (e := T) (size := size) w #[] 0 hB (Nat.zero_le _) (by simp)
theorem bel_alloc15 (w : World) (o : Obj) : Below w.heap.size w (w.alloc o) := (Below.refl _ w).alloc (Nat.le_refl _) o
set_option maxRecDepth 100000 in
set_option maxHeartbeats 8000000 in
theorem rkeep16_kind (xl : Option Addr) (ll cl : Nat) (most : Int) (fr tt kd vo li : Int) (id : Nat) (co : Int) (has : Bool) (key ck : Nat) (gn : Bool) (md : List UInt8) (x : Option Addr) (L c : Nat) (l : List (Msg × Value)) (w : World) (hll : l.length = ll) (hl : ll ≤ 4096) (hv : IsM w (.slice xl ll cl) l) (hvm : IsB w (.slice x L c) md) (hk : kd ≠ 5) :
    Calls Try.prog 11 #[.slice xl ll cl, .int .i64 most, .agg #[.int .i64 fr, .int .i64 tt, .int .i64 kd, .int .i64 vo, .int .i64 li, .int .u64 (id : Int), .int .i64 co, .bool has, .int .u64 (key : Int), .int .u32 (ck : Int), .bool gn, .slice x L c]] w fun e w' => e = .returned (.tuple #[.slice xl ll cl, .int .i64 (1)]) ∧ Below w.heap.size w w' := by
  obtain ⟨i0, hi0, hz0, hz1, hz2⟩ := info_parts Try.infoMsg14
  obtain ⟨N1, hN1⟩ : ∃ q, ll + 1 = q := ⟨_, rfl⟩
  have hone := hv.one
  have hX := hv.1
  rw [hll] at hX
  have hbx := Blk.new w #[.int .i64 fr, .int .i64 tt, .int .i64 kd, .int .i64 vo, .int .i64 li, .int .u64 (id : Int), .int .i64 co, .bool has, .int .u64 (key : Int), .int .u32 (ck : Int), .bool gn, .slice x L c] 36
  have hB := bel_alloc15 w (.cells #[.int .i64 fr, .int .i64 tt, .int .i64 kd, .int .i64 vo, .int .i64 li, .int .u64 (id : Int), .int .i64 co, .bool has, .int .u64 (key : Int), .int .u32 (ck : Int), .bool gn, .slice x L c] 36)
  have HXW := Lib.hid (fun (wx : World) (hb : Below w.heap.size w wx) => hX.mono hb (Nat.le_refl _))
  have HONE := Lib.hid hone
  have HONE1 := Lib.hid (show ∀ u ∈ mcl (⟨fr, tt, kd, vo, li, id, co, has, ⟨key, ck, gn, md⟩⟩, .slice x L c), u.oneCell' = true from fun u hu => by
    simp only [mcl, List.mem_cons, List.not_mem_nil, or_false] at hu
    rcases hu with rfl | rfl | rfl | rfl | rfl | rfl | rfl | rfl | rfl | rfl | rfl | rfl <;> rfl)
  have HV := Lib.hid hv.2
  have HVM := Lib.hid hvm
  have HL := Lib.hid hll
  have HN1 := Lib.hid hN1
  obtain ⟨W1, hW1⟩ : ∃ z, w.alloc (.cells #[.int .i64 fr, .int .i64 tt, .int .i64 kd, .int .i64 vo, .int .i64 li, .int .u64 (id : Int), .int .i64 co, .bool has, .int .u64 (key : Int), .int .u32 (ck : Int), .bool gn, .slice x L c] 36) = z := ⟨_, rfl⟩
  rw [hW1] at hbx hB
  have HC := Lib.hid (fun (wx : World) (hb : Below W1.heap.size W1 wx) => show wx.cell? ⟨w.heap.size, 0, none⟩ = some (.int .i64 fr) ∧ wx.cell? ⟨w.heap.size, 1, none⟩ = some (.int .i64 tt) ∧ wx.cell? ⟨w.heap.size, 2, none⟩ = some (.int .i64 kd) ∧ wx.cell? ⟨w.heap.size, 3, none⟩ = some (.int .i64 vo) ∧ wx.cell? ⟨w.heap.size, 4, none⟩ = some (.int .i64 li) ∧ wx.cell? ⟨w.heap.size, 5, none⟩ = some (.int .u64 (id : Int)) ∧ wx.cell? ⟨w.heap.size, 6, none⟩ = some (.int .i64 co) ∧ wx.cell? ⟨w.heap.size, 7, none⟩ = some (.bool has) ∧ wx.cell? ⟨w.heap.size, 8, none⟩ = some (.int .u64 (key : Int)) ∧ wx.cell? ⟨w.heap.size, 9, none⟩ = some (.int .u32 (ck : Int)) ∧ wx.cell? ⟨w.heap.size, 10, none⟩ = some (.bool gn) ∧ wx.cell? ⟨w.heap.size, 11, none⟩ = some (.slice x L c) from
    have h := hbx.below hb hbx.lt
    ⟨h.cell 0 rfl, h.cell 1 rfl, h.cell 2 rfl, h.cell 3 rfl, h.cell 4 rfl, h.cell 5 rfl, h.cell 6 rfl, h.cell 7 rfl, h.cell 8 rfl, h.cell 9 rfl, h.cell 10 rfl, h.cell 11 rfl⟩)
  have HBA := Lib.hid hB
  have HW1 := Lib.hid hW1
  have kk : (kd != 5) = true := bne_iff_ne.2 hk
  clear hk hone hX hv hvm hll hN1 hbx hB hW1
  have r0 := HC.out W1 (Below.refl _ _)
  obtain ⟨p0, p1, p2, p3, p4, p5, p6, p7, p8, p9, p10, p11⟩ := r0
  go_enter Try.func11, Try.ntmps11
  go_upto_region 1 with fail
  try rw [HW1.out]
  go_wp2
  go_ret2
  exact ⟨rfl, HBA.out⟩
set_option maxRecDepth 100000 in
set_option maxHeartbeats 8000000 in
theorem rkeep16_check (xl : Option Addr) (ll cl : Nat) (most : Int) (fr tt kd vo li : Int) (id : Nat) (co : Int) (has : Bool) (key ck : Nat) (gn : Bool) (md : List UInt8) (x : Option Addr) (L c : Nat) (l : List (Msg × Value)) (w : World) (hll : l.length = ll) (hl : ll ≤ 4096) (hv : IsM w (.slice xl ll cl) l) (hvm : IsB w (.slice x L c) md) (hk : kd = 5) (q : Nat) (hq : q ≠ 0) (hck : ∀ wx, Below w.heap.size w wx → Calls Try.prog 21 #[.agg #[.int .i64 fr, .int .i64 tt, .int .i64 kd, .int .i64 vo, .int .i64 li, .int .u64 (id : Int), .int .i64 co, .bool has, .int .u64 (key : Int), .int .u32 (ck : Int), .bool gn, .slice x L c]] wx fun e w' => e = .returned (.int .i64 (q : Nat)) ∧ Below wx.heap.size wx w') :
    Calls Try.prog 11 #[.slice xl ll cl, .int .i64 most, .agg #[.int .i64 fr, .int .i64 tt, .int .i64 kd, .int .i64 vo, .int .i64 li, .int .u64 (id : Int), .int .i64 co, .bool has, .int .u64 (key : Int), .int .u32 (ck : Int), .bool gn, .slice x L c]] w fun e w' => e = .returned (.tuple #[.slice xl ll cl, .int .i64 (q : Nat)]) ∧ Below w.heap.size w w' := by
  obtain ⟨i0, hi0, hz0, hz1, hz2⟩ := info_parts Try.infoMsg14
  obtain ⟨N1, hN1⟩ : ∃ q, ll + 1 = q := ⟨_, rfl⟩
  have hone := hv.one
  have hX := hv.1
  rw [hll] at hX
  have hbx := Blk.new w #[.int .i64 fr, .int .i64 tt, .int .i64 kd, .int .i64 vo, .int .i64 li, .int .u64 (id : Int), .int .i64 co, .bool has, .int .u64 (key : Int), .int .u32 (ck : Int), .bool gn, .slice x L c] 36
  have hB := bel_alloc15 w (.cells #[.int .i64 fr, .int .i64 tt, .int .i64 kd, .int .i64 vo, .int .i64 li, .int .u64 (id : Int), .int .i64 co, .bool has, .int .u64 (key : Int), .int .u32 (ck : Int), .bool gn, .slice x L c] 36)
  have HXW := Lib.hid (fun (wx : World) (hb : Below w.heap.size w wx) => hX.mono hb (Nat.le_refl _))
  have HONE := Lib.hid hone
  have HONE1 := Lib.hid (show ∀ u ∈ mcl (⟨fr, tt, kd, vo, li, id, co, has, ⟨key, ck, gn, md⟩⟩, .slice x L c), u.oneCell' = true from fun u hu => by
    simp only [mcl, List.mem_cons, List.not_mem_nil, or_false] at hu
    rcases hu with rfl | rfl | rfl | rfl | rfl | rfl | rfl | rfl | rfl | rfl | rfl | rfl <;> rfl)
  have HV := Lib.hid hv.2
  have HVM := Lib.hid hvm
  have HL := Lib.hid hll
  have HN1 := Lib.hid hN1
  obtain ⟨W1, hW1⟩ : ∃ z, w.alloc (.cells #[.int .i64 fr, .int .i64 tt, .int .i64 kd, .int .i64 vo, .int .i64 li, .int .u64 (id : Int), .int .i64 co, .bool has, .int .u64 (key : Int), .int .u32 (ck : Int), .bool gn, .slice x L c] 36) = z := ⟨_, rfl⟩
  rw [hW1] at hbx hB
  have HC := Lib.hid (fun (wx : World) (hb : Below W1.heap.size W1 wx) => show wx.cell? ⟨w.heap.size, 0, none⟩ = some (.int .i64 fr) ∧ wx.cell? ⟨w.heap.size, 1, none⟩ = some (.int .i64 tt) ∧ wx.cell? ⟨w.heap.size, 2, none⟩ = some (.int .i64 kd) ∧ wx.cell? ⟨w.heap.size, 3, none⟩ = some (.int .i64 vo) ∧ wx.cell? ⟨w.heap.size, 4, none⟩ = some (.int .i64 li) ∧ wx.cell? ⟨w.heap.size, 5, none⟩ = some (.int .u64 (id : Int)) ∧ wx.cell? ⟨w.heap.size, 6, none⟩ = some (.int .i64 co) ∧ wx.cell? ⟨w.heap.size, 7, none⟩ = some (.bool has) ∧ wx.cell? ⟨w.heap.size, 8, none⟩ = some (.int .u64 (key : Int)) ∧ wx.cell? ⟨w.heap.size, 9, none⟩ = some (.int .u32 (ck : Int)) ∧ wx.cell? ⟨w.heap.size, 10, none⟩ = some (.bool gn) ∧ wx.cell? ⟨w.heap.size, 11, none⟩ = some (.slice x L c) from
    have h := hbx.below hb hbx.lt
    ⟨h.cell 0 rfl, h.cell 1 rfl, h.cell 2 rfl, h.cell 3 rfl, h.cell 4 rfl, h.cell 5 rfl, h.cell 6 rfl, h.cell 7 rfl, h.cell 8 rfl, h.cell 9 rfl, h.cell 10 rfl, h.cell 11 rfl⟩)
  have HBA := Lib.hid hB
  have HW1 := Lib.hid hW1
  have HCK := Lib.hid hck
  have kq : ((q : Int) != 0) = true := bne_iff_ne.2 (by omega)
  have kk : (kd != 5) = false := by rw [hk]; rfl
  clear hk hck hq hone hX hv hvm hll hN1 hbx hB hW1
  have r0 := HC.out W1 (Below.refl _ _)
  obtain ⟨p0, p1, p2, p3, p4, p5, p6, p7, p8, p9, p10, p11⟩ := r0
  go_enter Try.func11, Try.ntmps11
  go_upto_region 1 with fail
  try rw [HW1.out]
  go_wp2_with fail
  refine (HCK.out _ HBA.out).mono ?_
  rintro e wa ⟨rfl, hb⟩
  have hba := HBA.out.trans (hb.mono HBA.out.size)
  have HCa := Lib.hid (fun (wx : World) (hc : Below wa.heap.size wa wx) => HC.out wx (hb.trans (hc.mono hb.size)))
  have HBA := Lib.hid hba
  clear p0 p1 p2 p3 p4 p5 p6 p7 p8 p9 p10 p11 hb hba HCK HC
  go_wp2
  go_ret2
  exact ⟨rfl, HBA.out⟩
set_option maxRecDepth 100000 in
set_option maxHeartbeats 8000000 in
theorem rkeep16_there (xl : Option Addr) (ll cl : Nat) (most : Int) (fr tt kd vo li : Int) (id : Nat) (co : Int) (has : Bool) (key ck : Nat) (gn : Bool) (md : List UInt8) (x : Option Addr) (L c : Nat) (l : List (Msg × Value)) (w : World) (hll : l.length = ll) (hl : ll ≤ 4096) (hv : IsM w (.slice xl ll cl) l) (hvm : IsB w (.slice x L c) md) (hk : kd = 5) (R : Int) (hck : ∀ wx, Below w.heap.size w wx → Calls Try.prog 21 #[.agg #[.int .i64 fr, .int .i64 tt, .int .i64 kd, .int .i64 vo, .int .i64 li, .int .u64 (id : Int), .int .i64 co, .bool has, .int .u64 (key : Int), .int .u32 (ck : Int), .bool gn, .slice x L c]] wx fun e w' => e = .returned (.int .i64 (0)) ∧ Below wx.heap.size wx w') (hff : ∀ wx, Below w.heap.size w wx → Calls Try.prog 16 #[.slice xl ll cl, .int .i64 tt, .int .u64 (id : Int)] wx fun e w' => e = .returned (.int .i64 R) ∧ Below wx.heap.size wx w') (hr : 0 ≤ R) :
    Calls Try.prog 11 #[.slice xl ll cl, .int .i64 most, .agg #[.int .i64 fr, .int .i64 tt, .int .i64 kd, .int .i64 vo, .int .i64 li, .int .u64 (id : Int), .int .i64 co, .bool has, .int .u64 (key : Int), .int .u32 (ck : Int), .bool gn, .slice x L c]] w fun e w' => e = .returned (.tuple #[.slice xl ll cl, .int .i64 (8)]) ∧ Below w.heap.size w w' := by
  obtain ⟨i0, hi0, hz0, hz1, hz2⟩ := info_parts Try.infoMsg14
  obtain ⟨N1, hN1⟩ : ∃ q, ll + 1 = q := ⟨_, rfl⟩
  have hone := hv.one
  have hX := hv.1
  rw [hll] at hX
  have hbx := Blk.new w #[.int .i64 fr, .int .i64 tt, .int .i64 kd, .int .i64 vo, .int .i64 li, .int .u64 (id : Int), .int .i64 co, .bool has, .int .u64 (key : Int), .int .u32 (ck : Int), .bool gn, .slice x L c] 36
  have hB := bel_alloc15 w (.cells #[.int .i64 fr, .int .i64 tt, .int .i64 kd, .int .i64 vo, .int .i64 li, .int .u64 (id : Int), .int .i64 co, .bool has, .int .u64 (key : Int), .int .u32 (ck : Int), .bool gn, .slice x L c] 36)
  have HXW := Lib.hid (fun (wx : World) (hb : Below w.heap.size w wx) => hX.mono hb (Nat.le_refl _))
  have HONE := Lib.hid hone
  have HONE1 := Lib.hid (show ∀ u ∈ mcl (⟨fr, tt, kd, vo, li, id, co, has, ⟨key, ck, gn, md⟩⟩, .slice x L c), u.oneCell' = true from fun u hu => by
    simp only [mcl, List.mem_cons, List.not_mem_nil, or_false] at hu
    rcases hu with rfl | rfl | rfl | rfl | rfl | rfl | rfl | rfl | rfl | rfl | rfl | rfl <;> rfl)
  have HV := Lib.hid hv.2
  have HVM := Lib.hid hvm
  have HL := Lib.hid hll
  have HN1 := Lib.hid hN1
  obtain ⟨W1, hW1⟩ : ∃ z, w.alloc (.cells #[.int .i64 fr, .int .i64 tt, .int .i64 kd, .int .i64 vo, .int .i64 li, .int .u64 (id : Int), .int .i64 co, .bool has, .int .u64 (key : Int), .int .u32 (ck : Int), .bool gn, .slice x L c] 36) = z := ⟨_, rfl⟩
  rw [hW1] at hbx hB
  have HC := Lib.hid (fun (wx : World) (hb : Below W1.heap.size W1 wx) => show wx.cell? ⟨w.heap.size, 0, none⟩ = some (.int .i64 fr) ∧ wx.cell? ⟨w.heap.size, 1, none⟩ = some (.int .i64 tt) ∧ wx.cell? ⟨w.heap.size, 2, none⟩ = some (.int .i64 kd) ∧ wx.cell? ⟨w.heap.size, 3, none⟩ = some (.int .i64 vo) ∧ wx.cell? ⟨w.heap.size, 4, none⟩ = some (.int .i64 li) ∧ wx.cell? ⟨w.heap.size, 5, none⟩ = some (.int .u64 (id : Int)) ∧ wx.cell? ⟨w.heap.size, 6, none⟩ = some (.int .i64 co) ∧ wx.cell? ⟨w.heap.size, 7, none⟩ = some (.bool has) ∧ wx.cell? ⟨w.heap.size, 8, none⟩ = some (.int .u64 (key : Int)) ∧ wx.cell? ⟨w.heap.size, 9, none⟩ = some (.int .u32 (ck : Int)) ∧ wx.cell? ⟨w.heap.size, 10, none⟩ = some (.bool gn) ∧ wx.cell? ⟨w.heap.size, 11, none⟩ = some (.slice x L c) from
    have h := hbx.below hb hbx.lt
    ⟨h.cell 0 rfl, h.cell 1 rfl, h.cell 2 rfl, h.cell 3 rfl, h.cell 4 rfl, h.cell 5 rfl, h.cell 6 rfl, h.cell 7 rfl, h.cell 8 rfl, h.cell 9 rfl, h.cell 10 rfl, h.cell 11 rfl⟩)
  have HBA := Lib.hid hB
  have HW1 := Lib.hid hW1
  have HCK := Lib.hid hck
  have HFF := Lib.hid hff
  have kk : (kd != 5) = false := by rw [hk]; rfl
  clear hk hck hff hone hX hv hvm hll hN1 hbx hB hW1
  have r0 := HC.out W1 (Below.refl _ _)
  obtain ⟨p0, p1, p2, p3, p4, p5, p6, p7, p8, p9, p10, p11⟩ := r0
  go_enter Try.func11, Try.ntmps11
  go_upto_region 1 with fail
  try rw [HW1.out]
  go_wp2_with fail
  refine (HCK.out _ HBA.out).mono ?_
  rintro e wa ⟨rfl, hb⟩
  have hba := HBA.out.trans (hb.mono HBA.out.size)
  have HCa := Lib.hid (fun (wx : World) (hc : Below wa.heap.size wa wx) => HC.out wx (hb.trans (hc.mono hb.size)))
  have HBA := Lib.hid hba
  clear p0 p1 p2 p3 p4 p5 p6 p7 p8 p9 p10 p11 hb hba HCK HC
  obtain ⟨p0, p1, p2, p3, p4, p5, p6, p7, p8, p9, p10, p11⟩ := HCa.out wa (Below.refl _ _)
  go_upto_region 6 with fail
  go_wp2_with fail
  refine (HFF.out _ HBA.out).mono ?_
  rintro e w1 ⟨rfl, hb⟩
  have hba := HBA.out.trans (hb.mono HBA.out.size)
  have HC1 := Lib.hid (fun (wx : World) (hc : Below w1.heap.size w1 wx) => HCa.out wx (hb.trans (hc.mono hb.size)))
  have HBA := Lib.hid hba
  clear p0 p1 p2 p3 p4 p5 p6 p7 p8 p9 p10 p11 hb hba HFF HCa
  go_wp2
  go_ret2
  exact ⟨rfl, HBA.out⟩
set_option maxRecDepth 100000 in
set_option maxHeartbeats 8000000 in
theorem rkeep16_full (xl : Option Addr) (ll cl : Nat) (most : Int) (fr tt kd vo li : Int) (id : Nat) (co : Int) (has : Bool) (key ck : Nat) (gn : Bool) (md : List UInt8) (x : Option Addr) (L c : Nat) (l : List (Msg × Value)) (w : World) (hll : l.length = ll) (hl : ll ≤ 4096) (hv : IsM w (.slice xl ll cl) l) (hvm : IsB w (.slice x L c) md) (hk : kd = 5) (R : Int) (hck : ∀ wx, Below w.heap.size w wx → Calls Try.prog 21 #[.agg #[.int .i64 fr, .int .i64 tt, .int .i64 kd, .int .i64 vo, .int .i64 li, .int .u64 (id : Int), .int .i64 co, .bool has, .int .u64 (key : Int), .int .u32 (ck : Int), .bool gn, .slice x L c]] wx fun e w' => e = .returned (.int .i64 (0)) ∧ Below wx.heap.size wx w') (hff : ∀ wx, Below w.heap.size w wx → Calls Try.prog 16 #[.slice xl ll cl, .int .i64 tt, .int .u64 (id : Int)] wx fun e w' => e = .returned (.int .i64 R) ∧ Below wx.heap.size wx w') (hr : ¬ 0 ≤ R) (hm : most ≤ (ll : Int)) :
    Calls Try.prog 11 #[.slice xl ll cl, .int .i64 most, .agg #[.int .i64 fr, .int .i64 tt, .int .i64 kd, .int .i64 vo, .int .i64 li, .int .u64 (id : Int), .int .i64 co, .bool has, .int .u64 (key : Int), .int .u32 (ck : Int), .bool gn, .slice x L c]] w fun e w' => e = .returned (.tuple #[.slice xl ll cl, .int .i64 (11)]) ∧ Below w.heap.size w w' := by
  obtain ⟨i0, hi0, hz0, hz1, hz2⟩ := info_parts Try.infoMsg14
  obtain ⟨N1, hN1⟩ : ∃ q, ll + 1 = q := ⟨_, rfl⟩
  have hone := hv.one
  have hX := hv.1
  rw [hll] at hX
  have hbx := Blk.new w #[.int .i64 fr, .int .i64 tt, .int .i64 kd, .int .i64 vo, .int .i64 li, .int .u64 (id : Int), .int .i64 co, .bool has, .int .u64 (key : Int), .int .u32 (ck : Int), .bool gn, .slice x L c] 36
  have hB := bel_alloc15 w (.cells #[.int .i64 fr, .int .i64 tt, .int .i64 kd, .int .i64 vo, .int .i64 li, .int .u64 (id : Int), .int .i64 co, .bool has, .int .u64 (key : Int), .int .u32 (ck : Int), .bool gn, .slice x L c] 36)
  have HXW := Lib.hid (fun (wx : World) (hb : Below w.heap.size w wx) => hX.mono hb (Nat.le_refl _))
  have HONE := Lib.hid hone
  have HONE1 := Lib.hid (show ∀ u ∈ mcl (⟨fr, tt, kd, vo, li, id, co, has, ⟨key, ck, gn, md⟩⟩, .slice x L c), u.oneCell' = true from fun u hu => by
    simp only [mcl, List.mem_cons, List.not_mem_nil, or_false] at hu
    rcases hu with rfl | rfl | rfl | rfl | rfl | rfl | rfl | rfl | rfl | rfl | rfl | rfl <;> rfl)
  have HV := Lib.hid hv.2
  have HVM := Lib.hid hvm
  have HL := Lib.hid hll
  have HN1 := Lib.hid hN1
  obtain ⟨W1, hW1⟩ : ∃ z, w.alloc (.cells #[.int .i64 fr, .int .i64 tt, .int .i64 kd, .int .i64 vo, .int .i64 li, .int .u64 (id : Int), .int .i64 co, .bool has, .int .u64 (key : Int), .int .u32 (ck : Int), .bool gn, .slice x L c] 36) = z := ⟨_, rfl⟩
  rw [hW1] at hbx hB
  have HC := Lib.hid (fun (wx : World) (hb : Below W1.heap.size W1 wx) => show wx.cell? ⟨w.heap.size, 0, none⟩ = some (.int .i64 fr) ∧ wx.cell? ⟨w.heap.size, 1, none⟩ = some (.int .i64 tt) ∧ wx.cell? ⟨w.heap.size, 2, none⟩ = some (.int .i64 kd) ∧ wx.cell? ⟨w.heap.size, 3, none⟩ = some (.int .i64 vo) ∧ wx.cell? ⟨w.heap.size, 4, none⟩ = some (.int .i64 li) ∧ wx.cell? ⟨w.heap.size, 5, none⟩ = some (.int .u64 (id : Int)) ∧ wx.cell? ⟨w.heap.size, 6, none⟩ = some (.int .i64 co) ∧ wx.cell? ⟨w.heap.size, 7, none⟩ = some (.bool has) ∧ wx.cell? ⟨w.heap.size, 8, none⟩ = some (.int .u64 (key : Int)) ∧ wx.cell? ⟨w.heap.size, 9, none⟩ = some (.int .u32 (ck : Int)) ∧ wx.cell? ⟨w.heap.size, 10, none⟩ = some (.bool gn) ∧ wx.cell? ⟨w.heap.size, 11, none⟩ = some (.slice x L c) from
    have h := hbx.below hb hbx.lt
    ⟨h.cell 0 rfl, h.cell 1 rfl, h.cell 2 rfl, h.cell 3 rfl, h.cell 4 rfl, h.cell 5 rfl, h.cell 6 rfl, h.cell 7 rfl, h.cell 8 rfl, h.cell 9 rfl, h.cell 10 rfl, h.cell 11 rfl⟩)
  have HBA := Lib.hid hB
  have HW1 := Lib.hid hW1
  have HCK := Lib.hid hck
  have HFF := Lib.hid hff
  have kk : (kd != 5) = false := by rw [hk]; rfl
  clear hk hck hff hone hX hv hvm hll hN1 hbx hB hW1
  have r0 := HC.out W1 (Below.refl _ _)
  obtain ⟨p0, p1, p2, p3, p4, p5, p6, p7, p8, p9, p10, p11⟩ := r0
  go_enter Try.func11, Try.ntmps11
  go_upto_region 1 with fail
  try rw [HW1.out]
  go_wp2_with fail
  refine (HCK.out _ HBA.out).mono ?_
  rintro e wa ⟨rfl, hb⟩
  have hba := HBA.out.trans (hb.mono HBA.out.size)
  have HCa := Lib.hid (fun (wx : World) (hc : Below wa.heap.size wa wx) => HC.out wx (hb.trans (hc.mono hb.size)))
  have HBA := Lib.hid hba
  clear p0 p1 p2 p3 p4 p5 p6 p7 p8 p9 p10 p11 hb hba HCK HC
  obtain ⟨p0, p1, p2, p3, p4, p5, p6, p7, p8, p9, p10, p11⟩ := HCa.out wa (Below.refl _ _)
  go_upto_region 6 with fail
  go_wp2_with fail
  refine (HFF.out _ HBA.out).mono ?_
  rintro e w1 ⟨rfl, hb⟩
  have hba := HBA.out.trans (hb.mono HBA.out.size)
  have HC1 := Lib.hid (fun (wx : World) (hc : Below w1.heap.size w1 wx) => HCa.out wx (hb.trans (hc.mono hb.size)))
  have HBA := Lib.hid hba
  clear p0 p1 p2 p3 p4 p5 p6 p7 p8 p9 p10 p11 hb hba HFF HCa
  go_wp2
  go_ret2
  exact ⟨rfl, HBA.out⟩
set_option maxRecDepth 100000 in
set_option maxHeartbeats 8000000 in
theorem rkeep16_ok (xl : Option Addr) (ll cl : Nat) (most : Int) (fr tt kd vo li : Int) (id : Nat) (co : Int) (has : Bool) (key ck : Nat) (gn : Bool) (md : List UInt8) (x : Option Addr) (L c : Nat) (l : List (Msg × Value)) (w : World) (hll : l.length = ll) (hl : ll ≤ 4096) (hv : IsM w (.slice xl ll cl) l) (hvm : IsB w (.slice x L c) md) (hk : kd = 5) (R : Int) (hck : ∀ wx, Below w.heap.size w wx → Calls Try.prog 21 #[.agg #[.int .i64 fr, .int .i64 tt, .int .i64 kd, .int .i64 vo, .int .i64 li, .int .u64 (id : Int), .int .i64 co, .bool has, .int .u64 (key : Int), .int .u32 (ck : Int), .bool gn, .slice x L c]] wx fun e w' => e = .returned (.int .i64 (0)) ∧ Below wx.heap.size wx w') (hff : ∀ wx, Below w.heap.size w wx → Calls Try.prog 16 #[.slice xl ll cl, .int .i64 tt, .int .u64 (id : Int)] wx fun e w' => e = .returned (.int .i64 R) ∧ Below wx.heap.size wx w') (hr : ¬ 0 ≤ R) (hm : ¬ most ≤ (ll : Int)) :
    Calls Try.prog 11 #[.slice xl ll cl, .int .i64 most, .agg #[.int .i64 fr, .int .i64 tt, .int .i64 kd, .int .i64 vo, .int .i64 li, .int .u64 (id : Int), .int .i64 co, .bool has, .int .u64 (key : Int), .int .u32 (ck : Int), .bool gn, .slice x L c]] w fun e w' => ∃ y k, e = .returned (.tuple #[.slice y (ll + 1) k, .int .i64 0]) ∧ IsM w' (.slice y (ll + 1) k) (l ++ [(⟨fr, tt, kd, vo, li, id, co, has, ⟨key, ck, gn, md⟩⟩, .slice x L c)]) ∧ (∀ b, liesX (.slice y (ll + 1) k) (ll + 1) b → w.heap.size ≤ b) ∧ Below w.heap.size w w' := by
  obtain ⟨i0, hi0, hz0, hz1, hz2⟩ := info_parts Try.infoMsg14
  obtain ⟨N1, hN1⟩ : ∃ q, ll + 1 = q := ⟨_, rfl⟩
  rw [hN1]
  have hone := hv.one
  have hX := hv.1
  rw [hll] at hX
  have hbx := Blk.new w #[.int .i64 fr, .int .i64 tt, .int .i64 kd, .int .i64 vo, .int .i64 li, .int .u64 (id : Int), .int .i64 co, .bool has, .int .u64 (key : Int), .int .u32 (ck : Int), .bool gn, .slice x L c] 36
  have hB := bel_alloc15 w (.cells #[.int .i64 fr, .int .i64 tt, .int .i64 kd, .int .i64 vo, .int .i64 li, .int .u64 (id : Int), .int .i64 co, .bool has, .int .u64 (key : Int), .int .u32 (ck : Int), .bool gn, .slice x L c] 36)
  have HXW := Lib.hid (fun (wx : World) (hb : Below w.heap.size w wx) => hX.mono hb (Nat.le_refl _))
  have HONE := Lib.hid hone
  have HONE1 := Lib.hid (show ∀ u ∈ mcl (⟨fr, tt, kd, vo, li, id, co, has, ⟨key, ck, gn, md⟩⟩, .slice x L c), u.oneCell' = true from fun u hu => by
    simp only [mcl, List.mem_cons, List.not_mem_nil, or_false] at hu
    rcases hu with rfl | rfl | rfl | rfl | rfl | rfl | rfl | rfl | rfl | rfl | rfl | rfl <;> rfl)
  have HV := Lib.hid hv.2
  have HVM := Lib.hid hvm
  have HL := Lib.hid hll
  have HN1 := Lib.hid hN1
  obtain ⟨W1, hW1⟩ : ∃ z, w.alloc (.cells #[.int .i64 fr, .int .i64 tt, .int .i64 kd, .int .i64 vo, .int .i64 li, .int .u64 (id : Int), .int .i64 co, .bool has, .int .u64 (key : Int), .int .u32 (ck : Int), .bool gn, .slice x L c] 36) = z := ⟨_, rfl⟩
  rw [hW1] at hbx hB
  have HC := Lib.hid (fun (wx : World) (hb : Below W1.heap.size W1 wx) => show wx.cell? ⟨w.heap.size, 0, none⟩ = some (.int .i64 fr) ∧ wx.cell? ⟨w.heap.size, 1, none⟩ = some (.int .i64 tt) ∧ wx.cell? ⟨w.heap.size, 2, none⟩ = some (.int .i64 kd) ∧ wx.cell? ⟨w.heap.size, 3, none⟩ = some (.int .i64 vo) ∧ wx.cell? ⟨w.heap.size, 4, none⟩ = some (.int .i64 li) ∧ wx.cell? ⟨w.heap.size, 5, none⟩ = some (.int .u64 (id : Int)) ∧ wx.cell? ⟨w.heap.size, 6, none⟩ = some (.int .i64 co) ∧ wx.cell? ⟨w.heap.size, 7, none⟩ = some (.bool has) ∧ wx.cell? ⟨w.heap.size, 8, none⟩ = some (.int .u64 (key : Int)) ∧ wx.cell? ⟨w.heap.size, 9, none⟩ = some (.int .u32 (ck : Int)) ∧ wx.cell? ⟨w.heap.size, 10, none⟩ = some (.bool gn) ∧ wx.cell? ⟨w.heap.size, 11, none⟩ = some (.slice x L c) from
    have h := hbx.below hb hbx.lt
    ⟨h.cell 0 rfl, h.cell 1 rfl, h.cell 2 rfl, h.cell 3 rfl, h.cell 4 rfl, h.cell 5 rfl, h.cell 6 rfl, h.cell 7 rfl, h.cell 8 rfl, h.cell 9 rfl, h.cell 10 rfl, h.cell 11 rfl⟩)
  have HBA := Lib.hid hB
  have HW1 := Lib.hid hW1
  have HCK := Lib.hid hck
  have HFF := Lib.hid hff
  have kk : (kd != 5) = false := by rw [hk]; rfl
  clear hk hck hff hone hX hv hvm hll hN1 hbx hB hW1
  have r0 := HC.out W1 (Below.refl _ _)
  obtain ⟨p0, p1, p2, p3, p4, p5, p6, p7, p8, p9, p10, p11⟩ := r0
  go_enter Try.func11, Try.ntmps11
  go_upto_region 1 with fail
  try rw [HW1.out]
  go_wp2_with fail
  refine (HCK.out _ HBA.out).mono ?_
  rintro e wa ⟨rfl, hb⟩
  have hba := HBA.out.trans (hb.mono HBA.out.size)
  have HCa := Lib.hid (fun (wx : World) (hc : Below wa.heap.size wa wx) => HC.out wx (hb.trans (hc.mono hb.size)))
  have HBA := Lib.hid hba
  clear p0 p1 p2 p3 p4 p5 p6 p7 p8 p9 p10 p11 hb hba HCK HC
  obtain ⟨p0, p1, p2, p3, p4, p5, p6, p7, p8, p9, p10, p11⟩ := HCa.out wa (Below.refl _ _)
  go_upto_region 6 with fail
  go_wp2_with fail
  refine (HFF.out _ HBA.out).mono ?_
  rintro e w1 ⟨rfl, hb⟩
  have hba := HBA.out.trans (hb.mono HBA.out.size)
  have HC1 := Lib.hid (fun (wx : World) (hc : Below w1.heap.size w1 wx) => HCa.out wx (hb.trans (hc.mono hb.size)))
  have HBA := Lib.hid hba
  clear p0 p1 p2 p3 p4 p5 p6 p7 p8 p9 p10 p11 hb hba HFF HCa
  have HS := Lib.hid (fun (wx : World) (hb : Below w1.heap.size w1.drew wx) => show wx.cell? ⟨w.heap.size, 0, none⟩ = some (.int .i64 fr) ∧ wx.cell? ⟨w.heap.size, 1, none⟩ = some (.int .i64 tt) ∧ wx.cell? ⟨w.heap.size, 2, none⟩ = some (.int .i64 kd) ∧ wx.cell? ⟨w.heap.size, 3, none⟩ = some (.int .i64 vo) ∧ wx.cell? ⟨w.heap.size, 4, none⟩ = some (.int .i64 li) ∧ wx.cell? ⟨w.heap.size, 5, none⟩ = some (.int .u64 (id : Int)) ∧ wx.cell? ⟨w.heap.size, 6, none⟩ = some (.int .i64 co) ∧ wx.cell? ⟨w.heap.size, 7, none⟩ = some (.bool has) ∧ wx.cell? ⟨w.heap.size, 8, none⟩ = some (.int .u64 (key : Int)) ∧ wx.cell? ⟨w.heap.size, 9, none⟩ = some (.int .u32 (ck : Int)) ∧ wx.cell? ⟨w.heap.size, 10, none⟩ = some (.bool gn) ∧ wx.cell? ⟨w.heap.size, 11, none⟩ = some (.slice x L c) from HC1.out wx ((Below.refl w1.heap.size w1).drew.trans hb))
  have S0 := HS.out w1.drew (Below.refl _ _)
  have HD2 := Lib.hid (show IsX w1.drew 12 (.slice xl ll cl) ll (row mcl l) from HXW.out _ HBA.out.drew)
  go_upto_region 10 with fail
  refine AnyE.start (S := (fun wx => wx.cell? ⟨w.heap.size, 0, none⟩ = some (.int .i64 fr) ∧ wx.cell? ⟨w.heap.size, 1, none⟩ = some (.int .i64 tt) ∧ wx.cell? ⟨w.heap.size, 2, none⟩ = some (.int .i64 kd) ∧ wx.cell? ⟨w.heap.size, 3, none⟩ = some (.int .i64 vo) ∧ wx.cell? ⟨w.heap.size, 4, none⟩ = some (.int .i64 li) ∧ wx.cell? ⟨w.heap.size, 5, none⟩ = some (.int .u64 (id : Int)) ∧ wx.cell? ⟨w.heap.size, 6, none⟩ = some (.int .i64 co) ∧ wx.cell? ⟨w.heap.size, 7, none⟩ = some (.bool has) ∧ wx.cell? ⟨w.heap.size, 8, none⟩ = some (.int .u64 (key : Int)) ∧ wx.cell? ⟨w.heap.size, 9, none⟩ = some (.int .u32 (ck : Int)) ∧ wx.cell? ⟨w.heap.size, 10, none⟩ = some (.bool gn) ∧ wx.cell? ⟨w.heap.size, 11, none⟩ = some (.slice x L c))) 7 (by kernel_rfl) (S0) (fun hHeld => ?_)
  refine AnyE.take (i := 1) (v := ?_) rfl (by kernel_rfl) (by kernel_rfl) (by kernel_rfl) (by kernel_rfl) (fun _ _ _ h => h) (Or.inl ⟨by rfl, ?_⟩) (by assumption) ?_
  rotate_left 1
  · intro w hSw
    (try dsimp only at hSw)
    go_simp
    all_goals (with_reducible rfl)
  try simp only [Act.put, List.getElem_toArray, List.getElem_cons_zero, List.getElem_cons_succ, List.setIfInBounds_toArray, List.set_cons_zero, List.set_cons_succ]
  refine AnyE.take (i := 3) (v := ?_) rfl (by kernel_rfl) (by kernel_rfl) (by kernel_rfl) (by kernel_rfl) (fun _ _ _ h => h) (Or.inl ⟨by rfl, ?_⟩) (by assumption) ?_
  rotate_left 1
  · intro w hSw
    (try dsimp only at hSw)
    go_simp
    all_goals (with_reducible rfl)
  try simp only [Act.put, List.getElem_toArray, List.getElem_cons_zero, List.getElem_cons_succ, List.setIfInBounds_toArray, List.set_cons_zero, List.set_cons_succ]
  refine AnyE.next (rs := [0, 4]) (by kernel_rfl) (by simp) ?_
  refine AllE.cons rfl (fun K hK => ?_) ?_
  · go_simp
    refine hK.out _ _ (HS.out _ ((Below.refl w1.heap.size w1.drew).alloc (by have h := (Below.refl w1.heap.size w1.drew).size; exact h) (.cells #[] 36))) (fun hHeld => ?_)
    clear hK K
    try simp only [Act.put, List.getElem_toArray, List.getElem_cons_zero, List.getElem_cons_succ, List.setIfInBounds_toArray, List.set_cons_zero, List.set_cons_succ]
    refine AnyE.next (rs := [2, 4]) (by kernel_rfl) (by simp) ?_
    refine AllE.cons rfl (fun K hK => ?_) ?_
    · refine step_append_X (by rfl) _ _ 22 rfl w1.heap.size 36 i0 _ 12 104 Try.underlying22 hi0 hz0 hz1 hz2 rfl (by decide) _ [] 0 rfl (own_litAt14 w1.drew w1.heap.size 36 12 w1.heap.size rfl (Nat.le_refl _)) _ ll _ rfl (HD2.out.mono ((Below.refl w1.heap.size w1.drew).alloc (by have h := (Below.refl w1.heap.size w1.drew).size; exact h) (.cells #[] 36)) (Nat.le_refl _)) HONE.out (by unfold maxLen; omega) (by omega) (by have h := ((Below.refl w1.heap.size w1.drew).alloc (by have h := (Below.refl w1.heap.size w1.drew).size; exact h) (.cells #[] 36)).size; exact h) ?_
      intro v6 w6 hown6 hgr6 hat6
      have HO6 := Lib.hid (show w6.ownsRow w1.heap.size 36 12 v6 ll (row mcl l) from by have h := hown6; rw [Nat.zero_add] at h; simpa using h)
      have HB6 := Lib.hid (((Below.refl w1.heap.size w1.drew).alloc (by have h := (Below.refl w1.heap.size w1.drew).size; exact h) (.cells #[] 36)).grown hgr6 (by have h := ((Below.refl w1.heap.size w1.drew).alloc (by have h := (Below.refl w1.heap.size w1.drew).size; exact h) (.cells #[] 36)).size; exact h) (fun j hj => by have h := ((own_litAt14 w1.drew w1.heap.size 36 12 w1.heap.size rfl (Nat.le_refl _))).lt j hj; exact h.1))
      have S6 := HS.out _ HB6.out
      refine hK.out _ _ (S6) (fun hHeld => ?_)
      clear hK K
      try simp only [Act.put, List.getElem_toArray, List.getElem_cons_zero, List.getElem_cons_succ, List.setIfInBounds_toArray, List.set_cons_zero, List.set_cons_succ]
      refine AnyE.next (rs := [4]) (by kernel_rfl) (by simp) ?_
      refine AllE.cons rfl (fun K hK => ?_) AllE.nil
      go_simp
      refine hK.out _ _ (HS.out _ (HB6.out.alloc HB6.out.size (.cells #[.int .i64 fr, .int .i64 tt, .int .i64 kd, .int .i64 vo, .int .i64 li, .int .u64 (id : Int), .int .i64 co, .bool has, .int .u64 (key : Int), .int .u32 (ck : Int), .bool gn, .slice x L c] 36))) (fun hHeld => ?_)
      clear hK K
      try simp only [Act.put, List.getElem_toArray, List.getElem_cons_zero, List.getElem_cons_succ, List.setIfInBounds_toArray, List.set_cons_zero, List.set_cons_succ]
      refine AnyE.next (rs := [5]) (by kernel_rfl) (by simp) ?_
      refine AllE.cons rfl (fun K hK => ?_) AllE.nil
      refine step_append_X (by rfl) _ _ 22 rfl w1.heap.size 36 i0 _ 12 104 Try.underlying22 hi0 hz0 hz1 hz2 rfl (by decide) _ (row mcl l) ll rfl (HO6.out.alloc (.cells #[.int .i64 fr, .int .i64 tt, .int .i64 kd, .int .i64 vo, .int .i64 li, .int .u64 (id : Int), .int .i64 co, .bool has, .int .u64 (key : Int), .int .u32 (ck : Int), .bool gn, .slice x L c] 36)) _ 1 _ rfl (IsX.litAt14 w6 #[.int .i64 fr, .int .i64 tt, .int .i64 kd, .int .i64 vo, .int .i64 li, .int .u64 (id : Int), .int .i64 co, .bool has, .int .u64 (key : Int), .int .u32 (ck : Int), .bool gn, .slice x L c] 36 12 1 w6.heap.size rfl rfl (by decide)) HONE1.out (by unfold maxLen; omega) (by omega) (by have h := (HB6.out.alloc HB6.out.size (.cells #[.int .i64 fr, .int .i64 tt, .int .i64 kd, .int .i64 vo, .int .i64 li, .int .u64 (id : Int), .int .i64 co, .bool has, .int .u64 (key : Int), .int .u32 (ck : Int), .bool gn, .slice x L c] 36)).size; exact h) ?_
      intro v9 w9 hown9 hgr9 hat9
      rw [HN1.out] at hown9
      obtain ⟨x9, z9, rfl, _, _⟩ := Go.Cor.ownsRow_slice hown9
      have HB9 := Lib.hid ((HB6.out.alloc HB6.out.size (.cells #[.int .i64 fr, .int .i64 tt, .int .i64 kd, .int .i64 vo, .int .i64 li, .int .u64 (id : Int), .int .i64 co, .bool has, .int .u64 (key : Int), .int .u32 (ck : Int), .bool gn, .slice x L c] 36)).grown hgr9 (by have h := (HB6.out.alloc HB6.out.size (.cells #[.int .i64 fr, .int .i64 tt, .int .i64 kd, .int .i64 vo, .int .i64 li, .int .u64 (id : Int), .int .i64 co, .bool has, .int .u64 (key : Int), .int .u32 (ck : Int), .bool gn, .slice x L c] 36)).size; exact h) (fun j hj => by have h := ((HO6.out.alloc (.cells #[.int .i64 fr, .int .i64 tt, .int .i64 kd, .int .i64 vo, .int .i64 li, .int .u64 (id : Int), .int .i64 co, .bool has, .int .u64 (key : Int), .int .u32 (ck : Int), .bool gn, .slice x L c] 36))).lt j hj; exact h.1))
      have HO9 := Lib.hid (show w9.ownsRow w1.heap.size 36 12 (.slice x9 N1 z9) N1 (row mcl (l ++ [(⟨fr, tt, kd, vo, li, id, co, has, ⟨key, ck, gn, md⟩⟩, .slice x L c)])) from by rw [row_append, row_one]; exact hown9)
      have S9 := HS.out _ HB9.out
      clear hown9 hgr9 hat9
      refine hK.out _ _ (S9) (fun hHeld => ?_)
      clear hK K
      try simp only [Act.put, List.getElem_toArray, List.getElem_cons_zero, List.getElem_cons_succ, List.setIfInBounds_toArray, List.set_cons_zero, List.set_cons_succ]
      refine AnyE.next (rs := [6]) (by kernel_rfl) (by simp) ?_
      refine AllE.cons rfl (fun K hK => ?_) AllE.nil
      go_simp
      refine hK.out _ _ (S9) (fun hHeld => ?_)
      clear hK K
      try simp only [Act.put, List.getElem_toArray, List.getElem_cons_zero, List.getElem_cons_succ, List.setIfInBounds_toArray, List.set_cons_zero, List.set_cons_succ]
      refine AnyE.next (rs := [7]) (by kernel_rfl) (by simp) ?_
      refine AllE.last rfl (fun K hK => ?_)
      go_simp
      refine hK.out _ _ ?_
      clear hK K
      try simp only [Act.put, List.getElem_toArray, List.getElem_cons_zero, List.getElem_cons_succ, List.setIfInBounds_toArray, List.set_cons_zero, List.set_cons_succ]
      refine AnyE.done (by kernel_rfl) ?_ _
      have hlo : ∀ b, liesX (.slice x9 N1 z9) N1 b → w1.heap.size ≤ b := fun b hb => (HO9.out.lt b hb.2).1
      have HBQ := Lib.hid ((Below.refl w1.heap.size w1).drew.trans HB9.out)
      have HLO := Lib.hid hlo
      have HSZ := Lib.hid HBA.out.size
      clear hlo S9
      go_wp2
      go_ret2
      refine ⟨x9, z9, rfl, ⟨by rw [show ((l ++ [(⟨fr, tt, kd, vo, li, id, co, has, ⟨key, ck, gn, md⟩⟩, .slice x L c)] : List (Msg × Value))).length = N1 by rw [List.length_append, HL.out]; exact HN1.out]; exact IsX.own HO9.out, fun z hz => ?_⟩, fun b hb => Nat.le_trans HSZ.out (HLO.out b hb), HBA.out.trans (HBQ.out.mono HBA.out.size)⟩
      rcases List.mem_append.1 hz with hz | hz
      · exact ⟨(HV.out z hz).1.mono (HBA.out.trans (HBQ.out.mono HBA.out.size)) (Nat.le_refl _), (HV.out z hz).2⟩
      · rw [List.mem_singleton.1 hz]
        exact ⟨HVM.out.mono (HBA.out.trans (HBQ.out.mono HBA.out.size)) (Nat.le_refl _), rfl⟩
    refine AllE.cons rfl (fun K hK => ?_) AllE.nil
    go_simp
    refine hK.out _ _ (HS.out _ (((Below.refl w1.heap.size w1.drew).alloc (by have h := (Below.refl w1.heap.size w1.drew).size; exact h) (.cells #[] 36)).alloc (by have h := ((Below.refl w1.heap.size w1.drew).alloc (by have h := (Below.refl w1.heap.size w1.drew).size; exact h) (.cells #[] 36)).size; exact h) (.cells #[.int .i64 fr, .int .i64 tt, .int .i64 kd, .int .i64 vo, .int .i64 li, .int .u64 (id : Int), .int .i64 co, .bool has, .int .u64 (key : Int), .int .u32 (ck : Int), .bool gn, .slice x L c] 36))) (fun hHeld => ?_)
    clear hK K
    try simp only [Act.put, List.getElem_toArray, List.getElem_cons_zero, List.getElem_cons_succ, List.setIfInBounds_toArray, List.set_cons_zero, List.set_cons_succ]
    refine AnyE.next (rs := [2]) (by kernel_rfl) (by simp) ?_
    refine AllE.cons rfl (fun K hK => ?_) AllE.nil
    refine step_append_X (by rfl) _ _ 22 rfl w1.heap.size 36 i0 _ 12 104 Try.underlying22 hi0 hz0 hz1 hz2 rfl (by decide) _ [] 0 rfl ((own_litAt14 w1.drew w1.heap.size 36 12 w1.heap.size rfl (Nat.le_refl _)).alloc (.cells #[.int .i64 fr, .int .i64 tt, .int .i64 kd, .int .i64 vo, .int .i64 li, .int .u64 (id : Int), .int .i64 co, .bool has, .int .u64 (key : Int), .int .u32 (ck : Int), .bool gn, .slice x L c] 36)) _ ll _ rfl (HD2.out.mono (((Below.refl w1.heap.size w1.drew).alloc (by have h := (Below.refl w1.heap.size w1.drew).size; exact h) (.cells #[] 36)).alloc (by have h := ((Below.refl w1.heap.size w1.drew).alloc (by have h := (Below.refl w1.heap.size w1.drew).size; exact h) (.cells #[] 36)).size; exact h) (.cells #[.int .i64 fr, .int .i64 tt, .int .i64 kd, .int .i64 vo, .int .i64 li, .int .u64 (id : Int), .int .i64 co, .bool has, .int .u64 (key : Int), .int .u32 (ck : Int), .bool gn, .slice x L c] 36)) (Nat.le_refl _)) HONE.out (by unfold maxLen; omega) (by omega) (by have h := (((Below.refl w1.heap.size w1.drew).alloc (by have h := (Below.refl w1.heap.size w1.drew).size; exact h) (.cells #[] 36)).alloc (by have h := ((Below.refl w1.heap.size w1.drew).alloc (by have h := (Below.refl w1.heap.size w1.drew).size; exact h) (.cells #[] 36)).size; exact h) (.cells #[.int .i64 fr, .int .i64 tt, .int .i64 kd, .int .i64 vo, .int .i64 li, .int .u64 (id : Int), .int .i64 co, .bool has, .int .u64 (key : Int), .int .u32 (ck : Int), .bool gn, .slice x L c] 36)).size; exact h) ?_
    intro v6 w6 hown6 hgr6 hat6
    have HO6 := Lib.hid (show w6.ownsRow w1.heap.size 36 12 v6 ll (row mcl l) from by have h := hown6; rw [Nat.zero_add] at h; simpa using h)
    have HB6 := Lib.hid ((((Below.refl w1.heap.size w1.drew).alloc (by have h := (Below.refl w1.heap.size w1.drew).size; exact h) (.cells #[] 36)).alloc (by have h := ((Below.refl w1.heap.size w1.drew).alloc (by have h := (Below.refl w1.heap.size w1.drew).size; exact h) (.cells #[] 36)).size; exact h) (.cells #[.int .i64 fr, .int .i64 tt, .int .i64 kd, .int .i64 vo, .int .i64 li, .int .u64 (id : Int), .int .i64 co, .bool has, .int .u64 (key : Int), .int .u32 (ck : Int), .bool gn, .slice x L c] 36)).grown hgr6 (by have h := (((Below.refl w1.heap.size w1.drew).alloc (by have h := (Below.refl w1.heap.size w1.drew).size; exact h) (.cells #[] 36)).alloc (by have h := ((Below.refl w1.heap.size w1.drew).alloc (by have h := (Below.refl w1.heap.size w1.drew).size; exact h) (.cells #[] 36)).size; exact h) (.cells #[.int .i64 fr, .int .i64 tt, .int .i64 kd, .int .i64 vo, .int .i64 li, .int .u64 (id : Int), .int .i64 co, .bool has, .int .u64 (key : Int), .int .u32 (ck : Int), .bool gn, .slice x L c] 36)).size; exact h) (fun j hj => by have h := (((own_litAt14 w1.drew w1.heap.size 36 12 w1.heap.size rfl (Nat.le_refl _)).alloc (.cells #[.int .i64 fr, .int .i64 tt, .int .i64 kd, .int .i64 vo, .int .i64 li, .int .u64 (id : Int), .int .i64 co, .bool has, .int .u64 (key : Int), .int .u32 (ck : Int), .bool gn, .slice x L c] 36))).lt j hj; exact h.1))
    have S6 := HS.out _ HB6.out
    refine hK.out _ _ (S6) (fun hHeld => ?_)
    clear hK K
    try simp only [Act.put, List.getElem_toArray, List.getElem_cons_zero, List.getElem_cons_succ, List.setIfInBounds_toArray, List.set_cons_zero, List.set_cons_succ]
    refine AnyE.next (rs := [5]) (by kernel_rfl) (by simp) ?_
    refine AllE.cons rfl (fun K hK => ?_) AllE.nil
    refine step_append_X (by rfl) _ _ 22 rfl w1.heap.size 36 i0 _ 12 104 Try.underlying22 hi0 hz0 hz1 hz2 rfl (by decide) _ (row mcl l) ll rfl HO6.out _ 1 _ rfl (((IsX.litAt14 (w1.drew.alloc (.cells #[] 36)) #[.int .i64 fr, .int .i64 tt, .int .i64 kd, .int .i64 vo, .int .i64 li, .int .u64 (id : Int), .int .i64 co, .bool has, .int .u64 (key : Int), .int .u32 (ck : Int), .bool gn, .slice x L c] 36 12 1 (w1.heap.size + 1) (by simp) rfl (by decide))).kept ((Kept.refl (fun j => some w1.heap.size = some j) _).grown hgr6 (fun k hk => .inl hk)) (fun k hk hs => by have h1 : some (w1.heap.size + 1) = some k := hk.2; have h2 := Option.some.inj h1; have h3 := Option.some.inj hs; omega)) HONE1.out (by unfold maxLen; omega) (by omega) (by have h := HB6.out.size; exact h) ?_
    intro v9 w9 hown9 hgr9 hat9
    rw [HN1.out] at hown9
    obtain ⟨x9, z9, rfl, _, _⟩ := Go.Cor.ownsRow_slice hown9
    have HB9 := Lib.hid (HB6.out.grown hgr9 (by have h := HB6.out.size; exact h) (fun j hj => by have h := (HO6.out).lt j hj; exact h.1))
    have HO9 := Lib.hid (show w9.ownsRow w1.heap.size 36 12 (.slice x9 N1 z9) N1 (row mcl (l ++ [(⟨fr, tt, kd, vo, li, id, co, has, ⟨key, ck, gn, md⟩⟩, .slice x L c)])) from by rw [row_append, row_one]; exact hown9)
    have S9 := HS.out _ HB9.out
    clear hown9 hgr9 hat9
    refine hK.out _ _ (S9) (fun hHeld => ?_)
    clear hK K
    try simp only [Act.put, List.getElem_toArray, List.getElem_cons_zero, List.getElem_cons_succ, List.setIfInBounds_toArray, List.set_cons_zero, List.set_cons_succ]
    refine AnyE.next (rs := [6]) (by kernel_rfl) (by simp) ?_
    refine AllE.cons rfl (fun K hK => ?_) AllE.nil
    go_simp
    refine hK.out _ _ (S9) (fun hHeld => ?_)
    clear hK K
    try simp only [Act.put, List.getElem_toArray, List.getElem_cons_zero, List.getElem_cons_succ, List.setIfInBounds_toArray, List.set_cons_zero, List.set_cons_succ]
    refine AnyE.next (rs := [7]) (by kernel_rfl) (by simp) ?_
    refine AllE.last rfl (fun K hK => ?_)
    go_simp
    refine hK.out _ _ ?_
    clear hK K
    try simp only [Act.put, List.getElem_toArray, List.getElem_cons_zero, List.getElem_cons_succ, List.setIfInBounds_toArray, List.set_cons_zero, List.set_cons_succ]
    refine AnyE.done (by kernel_rfl) ?_ _
    have hlo : ∀ b, liesX (.slice x9 N1 z9) N1 b → w1.heap.size ≤ b := fun b hb => (HO9.out.lt b hb.2).1
    have HBQ := Lib.hid ((Below.refl w1.heap.size w1).drew.trans HB9.out)
    have HLO := Lib.hid hlo
    have HSZ := Lib.hid HBA.out.size
    clear hlo S9
    go_wp2
    go_ret2
    refine ⟨x9, z9, rfl, ⟨by rw [show ((l ++ [(⟨fr, tt, kd, vo, li, id, co, has, ⟨key, ck, gn, md⟩⟩, .slice x L c)] : List (Msg × Value))).length = N1 by rw [List.length_append, HL.out]; exact HN1.out]; exact IsX.own HO9.out, fun z hz => ?_⟩, fun b hb => Nat.le_trans HSZ.out (HLO.out b hb), HBA.out.trans (HBQ.out.mono HBA.out.size)⟩
    rcases List.mem_append.1 hz with hz | hz
    · exact ⟨(HV.out z hz).1.mono (HBA.out.trans (HBQ.out.mono HBA.out.size)) (Nat.le_refl _), (HV.out z hz).2⟩
    · rw [List.mem_singleton.1 hz]
      exact ⟨HVM.out.mono (HBA.out.trans (HBQ.out.mono HBA.out.size)) (Nat.le_refl _), rfl⟩
  refine AllE.cons rfl (fun K hK => ?_) AllE.nil
  go_simp
  refine hK.out _ _ (HS.out _ ((Below.refl w1.heap.size w1.drew).alloc (by have h := (Below.refl w1.heap.size w1.drew).size; exact h) (.cells #[.int .i64 fr, .int .i64 tt, .int .i64 kd, .int .i64 vo, .int .i64 li, .int .u64 (id : Int), .int .i64 co, .bool has, .int .u64 (key : Int), .int .u32 (ck : Int), .bool gn, .slice x L c] 36))) (fun hHeld => ?_)
  clear hK K
  try simp only [Act.put, List.getElem_toArray, List.getElem_cons_zero, List.getElem_cons_succ, List.setIfInBounds_toArray, List.set_cons_zero, List.set_cons_succ]
  refine AnyE.next (rs := [0]) (by kernel_rfl) (by simp) ?_
  refine AllE.cons rfl (fun K hK => ?_) AllE.nil
  go_simp
  refine hK.out _ _ (HS.out _ (((Below.refl w1.heap.size w1.drew).alloc (by have h := (Below.refl w1.heap.size w1.drew).size; exact h) (.cells #[.int .i64 fr, .int .i64 tt, .int .i64 kd, .int .i64 vo, .int .i64 li, .int .u64 (id : Int), .int .i64 co, .bool has, .int .u64 (key : Int), .int .u32 (ck : Int), .bool gn, .slice x L c] 36)).alloc (by have h := ((Below.refl w1.heap.size w1.drew).alloc (by have h := (Below.refl w1.heap.size w1.drew).size; exact h) (.cells #[.int .i64 fr, .int .i64 tt, .int .i64 kd, .int .i64 vo, .int .i64 li, .int .u64 (id : Int), .int .i64 co, .bool has, .int .u64 (key : Int), .int .u32 (ck : Int), .bool gn, .slice x L c] 36)).size; exact h) (.cells #[] 36))) (fun hHeld => ?_)
  clear hK K
  try simp only [Act.put, List.getElem_toArray, List.getElem_cons_zero, List.getElem_cons_succ, List.setIfInBounds_toArray, List.set_cons_zero, List.set_cons_succ]
  refine AnyE.next (rs := [2]) (by kernel_rfl) (by simp) ?_
  refine AllE.cons rfl (fun K hK => ?_) AllE.nil
  refine step_append_X (by rfl) _ _ 22 rfl w1.heap.size 36 i0 _ 12 104 Try.underlying22 hi0 hz0 hz1 hz2 rfl (by decide) _ [] 0 rfl (own_litAt14 (w1.drew.alloc (.cells #[.int .i64 fr, .int .i64 tt, .int .i64 kd, .int .i64 vo, .int .i64 li, .int .u64 (id : Int), .int .i64 co, .bool has, .int .u64 (key : Int), .int .u32 (ck : Int), .bool gn, .slice x L c] 36)) w1.heap.size 36 12 (w1.heap.size + 1) (by simp) (by omega)) _ ll _ rfl (HD2.out.mono (((Below.refl w1.heap.size w1.drew).alloc (by have h := (Below.refl w1.heap.size w1.drew).size; exact h) (.cells #[.int .i64 fr, .int .i64 tt, .int .i64 kd, .int .i64 vo, .int .i64 li, .int .u64 (id : Int), .int .i64 co, .bool has, .int .u64 (key : Int), .int .u32 (ck : Int), .bool gn, .slice x L c] 36)).alloc (by have h := ((Below.refl w1.heap.size w1.drew).alloc (by have h := (Below.refl w1.heap.size w1.drew).size; exact h) (.cells #[.int .i64 fr, .int .i64 tt, .int .i64 kd, .int .i64 vo, .int .i64 li, .int .u64 (id : Int), .int .i64 co, .bool has, .int .u64 (key : Int), .int .u32 (ck : Int), .bool gn, .slice x L c] 36)).size; exact h) (.cells #[] 36)) (Nat.le_refl _)) HONE.out (by unfold maxLen; omega) (by omega) (by have h := (((Below.refl w1.heap.size w1.drew).alloc (by have h := (Below.refl w1.heap.size w1.drew).size; exact h) (.cells #[.int .i64 fr, .int .i64 tt, .int .i64 kd, .int .i64 vo, .int .i64 li, .int .u64 (id : Int), .int .i64 co, .bool has, .int .u64 (key : Int), .int .u32 (ck : Int), .bool gn, .slice x L c] 36)).alloc (by have h := ((Below.refl w1.heap.size w1.drew).alloc (by have h := (Below.refl w1.heap.size w1.drew).size; exact h) (.cells #[.int .i64 fr, .int .i64 tt, .int .i64 kd, .int .i64 vo, .int .i64 li, .int .u64 (id : Int), .int .i64 co, .bool has, .int .u64 (key : Int), .int .u32 (ck : Int), .bool gn, .slice x L c] 36)).size; exact h) (.cells #[] 36)).size; exact h) ?_
  intro v6 w6 hown6 hgr6 hat6
  have HO6 := Lib.hid (show w6.ownsRow w1.heap.size 36 12 v6 ll (row mcl l) from by have h := hown6; rw [Nat.zero_add] at h; simpa using h)
  have HB6 := Lib.hid ((((Below.refl w1.heap.size w1.drew).alloc (by have h := (Below.refl w1.heap.size w1.drew).size; exact h) (.cells #[.int .i64 fr, .int .i64 tt, .int .i64 kd, .int .i64 vo, .int .i64 li, .int .u64 (id : Int), .int .i64 co, .bool has, .int .u64 (key : Int), .int .u32 (ck : Int), .bool gn, .slice x L c] 36)).alloc (by have h := ((Below.refl w1.heap.size w1.drew).alloc (by have h := (Below.refl w1.heap.size w1.drew).size; exact h) (.cells #[.int .i64 fr, .int .i64 tt, .int .i64 kd, .int .i64 vo, .int .i64 li, .int .u64 (id : Int), .int .i64 co, .bool has, .int .u64 (key : Int), .int .u32 (ck : Int), .bool gn, .slice x L c] 36)).size; exact h) (.cells #[] 36)).grown hgr6 (by have h := (((Below.refl w1.heap.size w1.drew).alloc (by have h := (Below.refl w1.heap.size w1.drew).size; exact h) (.cells #[.int .i64 fr, .int .i64 tt, .int .i64 kd, .int .i64 vo, .int .i64 li, .int .u64 (id : Int), .int .i64 co, .bool has, .int .u64 (key : Int), .int .u32 (ck : Int), .bool gn, .slice x L c] 36)).alloc (by have h := ((Below.refl w1.heap.size w1.drew).alloc (by have h := (Below.refl w1.heap.size w1.drew).size; exact h) (.cells #[.int .i64 fr, .int .i64 tt, .int .i64 kd, .int .i64 vo, .int .i64 li, .int .u64 (id : Int), .int .i64 co, .bool has, .int .u64 (key : Int), .int .u32 (ck : Int), .bool gn, .slice x L c] 36)).size; exact h) (.cells #[] 36)).size; exact h) (fun j hj => by have h := ((own_litAt14 (w1.drew.alloc (.cells #[.int .i64 fr, .int .i64 tt, .int .i64 kd, .int .i64 vo, .int .i64 li, .int .u64 (id : Int), .int .i64 co, .bool has, .int .u64 (key : Int), .int .u32 (ck : Int), .bool gn, .slice x L c] 36)) w1.heap.size 36 12 (w1.heap.size + 1) (by simp) (by omega))).lt j hj; exact h.1))
  have S6 := HS.out _ HB6.out
  refine hK.out _ _ (S6) (fun hHeld => ?_)
  clear hK K
  try simp only [Act.put, List.getElem_toArray, List.getElem_cons_zero, List.getElem_cons_succ, List.setIfInBounds_toArray, List.set_cons_zero, List.set_cons_succ]
  refine AnyE.next (rs := [5]) (by kernel_rfl) (by simp) ?_
  refine AllE.cons rfl (fun K hK => ?_) AllE.nil
  refine step_append_X (by rfl) _ _ 22 rfl w1.heap.size 36 i0 _ 12 104 Try.underlying22 hi0 hz0 hz1 hz2 rfl (by decide) _ (row mcl l) ll rfl HO6.out _ 1 _ rfl ((((IsX.litAt14 w1.drew #[.int .i64 fr, .int .i64 tt, .int .i64 kd, .int .i64 vo, .int .i64 li, .int .u64 (id : Int), .int .i64 co, .bool has, .int .u64 (key : Int), .int .u32 (ck : Int), .bool gn, .slice x L c] 36 12 1 w1.heap.size rfl rfl (by decide))).mono (bel_alloc15 _ (.cells #[] 36)) (Nat.le_refl _)).kept ((Kept.refl (fun j => some (w1.heap.size + 1) = some j) _).grown hgr6 (fun k hk => .inl hk)) (fun k hk hs => by have h1 : some w1.heap.size = some k := hk.2; have h2 := Option.some.inj h1; have h3 := Option.some.inj hs; omega)) HONE1.out (by unfold maxLen; omega) (by omega) (by have h := HB6.out.size; exact h) ?_
  intro v9 w9 hown9 hgr9 hat9
  rw [HN1.out] at hown9
  obtain ⟨x9, z9, rfl, _, _⟩ := Go.Cor.ownsRow_slice hown9
  have HB9 := Lib.hid (HB6.out.grown hgr9 (by have h := HB6.out.size; exact h) (fun j hj => by have h := (HO6.out).lt j hj; exact h.1))
  have HO9 := Lib.hid (show w9.ownsRow w1.heap.size 36 12 (.slice x9 N1 z9) N1 (row mcl (l ++ [(⟨fr, tt, kd, vo, li, id, co, has, ⟨key, ck, gn, md⟩⟩, .slice x L c)])) from by rw [row_append, row_one]; exact hown9)
  have S9 := HS.out _ HB9.out
  clear hown9 hgr9 hat9
  refine hK.out _ _ (S9) (fun hHeld => ?_)
  clear hK K
  try simp only [Act.put, List.getElem_toArray, List.getElem_cons_zero, List.getElem_cons_succ, List.setIfInBounds_toArray, List.set_cons_zero, List.set_cons_succ]
  refine AnyE.next (rs := [6]) (by kernel_rfl) (by simp) ?_
  refine AllE.cons rfl (fun K hK => ?_) AllE.nil
  go_simp
  refine hK.out _ _ (S9) (fun hHeld => ?_)
  clear hK K
  try simp only [Act.put, List.getElem_toArray, List.getElem_cons_zero, List.getElem_cons_succ, List.setIfInBounds_toArray, List.set_cons_zero, List.set_cons_succ]
  refine AnyE.next (rs := [7]) (by kernel_rfl) (by simp) ?_
  refine AllE.last rfl (fun K hK => ?_)
  go_simp
  refine hK.out _ _ ?_
  clear hK K
  try simp only [Act.put, List.getElem_toArray, List.getElem_cons_zero, List.getElem_cons_succ, List.setIfInBounds_toArray, List.set_cons_zero, List.set_cons_succ]
  refine AnyE.done (by kernel_rfl) ?_ _
  have hlo : ∀ b, liesX (.slice x9 N1 z9) N1 b → w1.heap.size ≤ b := fun b hb => (HO9.out.lt b hb.2).1
  have HBQ := Lib.hid ((Below.refl w1.heap.size w1).drew.trans HB9.out)
  have HLO := Lib.hid hlo
  have HSZ := Lib.hid HBA.out.size
  clear hlo S9
  go_wp2
  go_ret2
  refine ⟨x9, z9, rfl, ⟨by rw [show ((l ++ [(⟨fr, tt, kd, vo, li, id, co, has, ⟨key, ck, gn, md⟩⟩, .slice x L c)] : List (Msg × Value))).length = N1 by rw [List.length_append, HL.out]; exact HN1.out]; exact IsX.own HO9.out, fun z hz => ?_⟩, fun b hb => Nat.le_trans HSZ.out (HLO.out b hb), HBA.out.trans (HBQ.out.mono HBA.out.size)⟩
  rcases List.mem_append.1 hz with hz | hz
  · exact ⟨(HV.out z hz).1.mono (HBA.out.trans (HBQ.out.mono HBA.out.size)) (Nat.le_refl _), (HV.out z hz).2⟩
  · rw [List.mem_singleton.1 hz]
    exact ⟨HVM.out.mono (HBA.out.trans (HBQ.out.mono HBA.out.size)) (Nat.le_refl _), rfl⟩
set_option maxRecDepth 100000 in
set_option maxHeartbeats 1000000 in
theorem rkeep16_any (xl : Option Addr) (ll cl : Nat) (l : List (Msg × Value)) (most : Int) (m : Msg) (x : Option Addr) (L c : Nat) (w : World) (hll : l.length = ll) (hl : ll ≤ 4096) (hv : IsM w (.slice xl ll cl) l) (hvm : IsB w (.slice x L c) m.n.data) (hml : m.n.data.length ≤ 1099511627776) :
    Calls Try.prog 11 #[.slice xl ll cl, .int .i64 most, mval m (.slice x L c)] w fun e w' => ∃ y n k l', e = .returned (.tuple #[.slice y n k, .int .i64 (keepK most (l.map (·.1)) m : Nat)]) ∧ l'.map (·.1) = keepL most (l.map (·.1)) m ∧ l'.length = n ∧ IsM w' (.slice y n k) l' ∧ (∀ b, liesX (.slice y n k) n b → liesX (.slice xl ll cl) ll b ∨ w.heap.size ≤ b) ∧ (∀ z ∈ l', z ∈ l ∨ z = (m, .slice x L c)) ∧ Below w.heap.size w w' := by
  have hmono : ∀ wx, Below w.heap.size w wx → IsM wx (.slice xl ll cl) l := fun wx hb => ⟨hv.1.mono hb (Nat.le_refl _), fun z hz => ⟨(hv.2 z hz).1.mono hb (Nat.le_refl _), (hv.2 z hz).2⟩⟩
  have hck := fun wx (hb : Below w.heap.size w wx) => rcheck_any m (.slice x L c) wx (hvm.mono hb (Nat.le_refl _)) hml
  have hff := fun wx (hb : Below w.heap.size w wx) => rfind16_any xl ll cl l m.to m.id wx hll (hmono wx hb) (by omega)
  have hsame : ∀ k : Nat, k ≠ 0 → keepK most (l.map (·.1)) m = k → ∀ (e : Ending) (w' : World), e = .returned (.tuple #[.slice xl ll cl, .int .i64 (k : Int)]) ∧ Below w.heap.size w w' → ∃ y n k l', e = .returned (.tuple #[.slice y n k, .int .i64 (keepK most (l.map (·.1)) m : Nat)]) ∧ l'.map (·.1) = keepL most (l.map (·.1)) m ∧ l'.length = n ∧ IsM w' (.slice y n k) l' ∧ (∀ b, liesX (.slice y n k) n b → liesX (.slice xl ll cl) ll b ∨ w.heap.size ≤ b) ∧ (∀ z ∈ l', z ∈ l ∨ z = (m, .slice x L c)) ∧ Below w.heap.size w w' := fun k hk0 hk e w' ⟨h1, h2⟩ =>
    ⟨xl, ll, cl, l, by rw [hk]; exact h1, by unfold keepL; rw [if_neg (by omega)], hll, hmono _ h2, fun b hb => .inl hb, fun z hz => .inl hz, h2⟩
  obtain ⟨fr, tt, kd, vo, li, id, co, has, key, ck, gn, md⟩ := m
  by_cases hk : kd = 5
  · by_cases hq : mcheck ⟨fr, tt, kd, vo, li, id, co, has, ⟨key, ck, gn, md⟩⟩ = 0
    · rw [hq] at hck
      by_cases hr : 0 ≤ findP tt id (l.map (·.1))
      · exact (rkeep16_there xl ll cl most fr tt kd vo li id co has key ck gn md x L c l w hll hl hv hvm hk _ hck hff hr).mono (hsame 8 (by decide) (by unfold keepK; rw [if_pos hk, if_pos hq, if_pos hr]))
      · by_cases hm : most ≤ (ll : Int)
        · exact (rkeep16_full xl ll cl most fr tt kd vo li id co has key ck gn md x L c l w hll hl hv hvm hk _ hck hff hr hm).mono (hsame 11 (by decide) (by unfold keepK; rw [if_pos hk, if_pos hq, if_neg hr, List.length_map, hll, if_pos hm]))
        · have hkk : keepK most (l.map (·.1)) ⟨fr, tt, kd, vo, li, id, co, has, ⟨key, ck, gn, md⟩⟩ = 0 := by unfold keepK; rw [if_pos hk, if_pos hq, if_neg hr, List.length_map, hll, if_neg hm]
          refine (rkeep16_ok xl ll cl most fr tt kd vo li id co has key ck gn md x L c l w hll hl hv hvm hk _ hck hff hr hm).mono ?_
          rintro e w' ⟨y, k, h1, h2, h3, h4⟩
          refine ⟨y, ll + 1, k, l ++ [(⟨fr, tt, kd, vo, li, id, co, has, ⟨key, ck, gn, md⟩⟩, .slice x L c)], by rw [hkk]; exact h1, by unfold keepL; rw [if_pos hkk, List.map_append]; rfl, by rw [List.length_append, hll]; rfl, h2, fun b hb => .inr (h3 b hb), fun z hz => ?_, h4⟩
          rcases List.mem_append.1 hz with hz | hz
          · exact .inl hz
          · exact .inr (List.mem_singleton.1 hz)
    · exact (rkeep16_check xl ll cl most fr tt kd vo li id co has key ck gn md x L c l w hll hl hv hvm hk _ hq hck).mono (hsame _ hq (by unfold keepK; rw [if_pos hk, if_neg hq]))
  · exact (rkeep16_kind xl ll cl most fr tt kd vo li id co has key ck gn md x L c l w hll hl hv hvm hk).mono (hsame 1 (by decide) (by unfold keepK; rw [if_neg hk]))

end Go.Proofs.Ytncfdkkekaninaa
