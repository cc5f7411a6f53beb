/- Op, Dsk, Strs, Names, Tab, Tabd, Tabw. -/
import Derived.Test.YtllbngopfganjaaGreatDoorM3
import Derived.Lib.Bytealg
import Derived.Test.YtllbngopfganjaaGreatDoorChecked
import Derived.Test.YtllbngopfganjaaGreatDoorM1
import Derived.Lib.Strings
import Derived.Lib.BufferWrite
import Derived.Lib.UnsafeStr
import Derived.WalkLawsBesides
import Derived.WalkSpells
import Derived.Lib.Hide
import Derived.IntWalk
import Derived.Outline
import Derived.Lib.SliceRun
import Derived.Lib.Overlaps
import Derived.Deep.RegionLaw
import Derived.Deep.RegionHeld3
set_option linter.unusedVariables false
set_option linter.unusedSimpArgs false

section
namespace Go.Proofs.YtllbngopfganjaaGreatDoor.Nd
open Go.RowKit Go.Cor

set_option maxRecDepth 100000 in
set_option maxHeartbeats 4000000 in
theorem okeep_kind (fr tt kd vo li : Int) (id : Nat) (co : Int) (has : Bool) (key ck : Nat) (gn : Bool) (md : List UInt8) (x : Option Addr) (L c : Nat) {g : Nat} (w : World) (hk : kd ≠ 5) :
    Calls Tryz.prog 27 #[.pointer (some ⟨g, 0, none⟩), .agg #[.int .i64 fr, .int .i64 tt, .int .i64 kd, .int .i64 vo, .int .i64 li, .int .u64 (id : Int), .int .i64 co, .bool has, .int .u64 (key : Int), .int .u32 (ck : Int), .bool gn, .slice x L c]] w fun e w' => e = .returned (err 1) ∧ Below w.heap.size w w' := by
  have kk : (kd != 5) = true := bne_iff_ne.2 hk
  clear hk
  have hb0 := below_new16 w (.cells #[.int .i64 fr, .int .i64 tt, .int .i64 kd, .int .i64 vo, .int .i64 li, .int .u64 (id : Int), .int .i64 co, .bool has, .int .u64 (key : Int), .int .u32 (ck : Int), .bool gn, .slice x L c] 45)
  have hx := Blk.new w #[.int .i64 fr, .int .i64 tt, .int .i64 kd, .int .i64 vo, .int .i64 li, .int .u64 (id : Int), .int .i64 co, .bool has, .int .u64 (key : Int), .int .u32 (ck : Int), .bool gn, .slice x L c] 45
  obtain ⟨W1, hW1⟩ : ∃ z, w.alloc (.cells #[.int .i64 fr, .int .i64 tt, .int .i64 kd, .int .i64 vo, .int .i64 li, .int .u64 (id : Int), .int .i64 co, .bool has, .int .u64 (key : Int), .int .u32 (ck : Int), .bool gn, .slice x L c] 45) = z := ⟨_, rfl⟩
  have hs1 : W1.heap.size = w.heap.size + 1 := by rw [← hW1]; simp
  rw [hW1] at hb0 hx
  have HW1 := Lib.hid hW1
  have HX := Lib.hid hx
  have HB := Lib.hid hb0
  have HS1 := Lib.hid hs1
  clear hb0 hx hW1 hs1
  go_enter Tryz.func27, Tryz.ntmps27
  go_upto_region 1 with fail
  rw [HW1.out]
  have r := HX.out
  have p0 := r.cell 0 rfl
  have p1 := r.cell 1 rfl
  have p2 := r.cell 2 rfl
  have p3 := r.cell 3 rfl
  have p4 := r.cell 4 rfl
  have p5 := r.cell 5 rfl
  have p6 := r.cell 6 rfl
  have p7 := r.cell 7 rfl
  have p8 := r.cell 8 rfl
  have p9 := r.cell 9 rfl
  have p10 := r.cell 10 rfl
  have p11 := r.cell 11 rfl
  clear r
  go_wp2
  go_ret
  exact ⟨rfl, HB.out⟩
set_option maxRecDepth 100000 in
set_option maxHeartbeats 4000000 in
theorem okeep_check (fr tt kd vo li : Int) (id : Nat) (co : Int) (has : Bool) (key ck : Nat) (gn : Bool) (md : List UInt8) (x : Option Addr) (L c : Nat) {g : Nat} (w : World) (hk : kd = 5) (k : Nat) (hq : mcheck ⟨fr, tt, kd, vo, li, id, co, has, ⟨key, ck, gn, md⟩⟩ = k) (h0 : k ≠ 0) (hv : IsB w (.slice x L c) md) :
    Calls Tryz.prog 27 #[.pointer (some ⟨g, 0, none⟩), .agg #[.int .i64 fr, .int .i64 tt, .int .i64 kd, .int .i64 vo, .int .i64 li, .int .u64 (id : Int), .int .i64 co, .bool has, .int .u64 (key : Int), .int .u32 (ck : Int), .bool gn, .slice x L c]] w fun e w' => e = .returned (err (k : Int)) ∧ Below w.heap.size w w' := by
  have kk : (kd != 5) = false := by rw [hk]; rfl
  have hb0 := below_new16 w (.cells #[.int .i64 fr, .int .i64 tt, .int .i64 kd, .int .i64 vo, .int .i64 li, .int .u64 (id : Int), .int .i64 co, .bool has, .int .u64 (key : Int), .int .u32 (ck : Int), .bool gn, .slice x L c] 45)
  have hx := Blk.new w #[.int .i64 fr, .int .i64 tt, .int .i64 kd, .int .i64 vo, .int .i64 li, .int .u64 (id : Int), .int .i64 co, .bool has, .int .u64 (key : Int), .int .u32 (ck : Int), .bool gn, .slice x L c] 45
  obtain ⟨W1, hW1⟩ : ∃ z, w.alloc (.cells #[.int .i64 fr, .int .i64 tt, .int .i64 kd, .int .i64 vo, .int .i64 li, .int .u64 (id : Int), .int .i64 co, .bool has, .int .u64 (key : Int), .int .u32 (ck : Int), .bool gn, .slice x L c] 45) = z := ⟨_, rfl⟩
  have hs1 : W1.heap.size = w.heap.size + 1 := by rw [← hW1]; simp
  rw [hW1] at hb0 hx
  have HCK := Lib.hid (wcheck_any ⟨fr, tt, kd, vo, li, id, co, has, ⟨key, ck, gn, md⟩⟩ (.slice x L c) W1 (hv.mono hb0 (Nat.le_refl _)))
  rw [hq, cerr_pos (by omega)] at HCK
  have HW1 := Lib.hid hW1
  clear hk hq hv h0
  have HX := Lib.hid hx
  have HB := Lib.hid hb0
  have HS1 := Lib.hid hs1
  clear hb0 hx hW1 hs1
  go_enter Tryz.func27, Tryz.ntmps27
  go_upto_region 1 with fail
  rw [HW1.out]
  have r := HX.out
  have p0 := r.cell 0 rfl
  have p1 := r.cell 1 rfl
  have p2 := r.cell 2 rfl
  have p3 := r.cell 3 rfl
  have p4 := r.cell 4 rfl
  have p5 := r.cell 5 rfl
  have p6 := r.cell 6 rfl
  have p7 := r.cell 7 rfl
  have p8 := r.cell 8 rfl
  have p9 := r.cell 9 rfl
  have p10 := r.cell 10 rfl
  have p11 := r.cell 11 rfl
  clear r
  go_wp2_with fail
  refine HCK.out.mono ?_
  rintro e wa ⟨rfl, hb⟩
  have hba := HB.out.trans (hb.mono HB.out.size)
  have hxa := HX.out.below hb HX.out.lt
  clear p0 p1 p2 p3 p4 p5 p6 p7 p8 p9 p10 p11
  have HBA := Lib.hid hba
  clear hba hxa hb
  go_wp2
  go_ret
  exact ⟨rfl, HBA.out⟩
set_option maxRecDepth 100000 in
set_option maxHeartbeats 4000000 in
theorem okeep_there (fr tt kd vo li : Int) (id : Nat) (co : Int) (has : Bool) (key ck : Nat) (gn : Bool) (md : List UInt8) (x : Option Addr) (L c : Nat) {g b : Nat} {most : Int} {l : List (Msg × Value)} (w : World) (hk : kd = 5) (hq : mcheck ⟨fr, tt, kd, vo, li, id, co, has, ⟨key, ck, gn, md⟩⟩ = 0) (hid : wfU id) (hv : IsB w (.slice x L c) md) (h : TbAt w g b most l) (nfr ntt nkd nvo nli : Int) (nid : Nat) (nco : Int) (nhas : Bool) (nkey nck : Nat) (ngn : Bool) (nmd : List UInt8) (y : Option Addr) (M k : Nat) (hn : lookT tt id l = some (⟨nfr, ntt, nkd, nvo, nli, nid, nco, nhas, ⟨nkey, nck, ngn, nmd⟩⟩, .slice y M k)) :
    Calls Tryz.prog 27 #[.pointer (some ⟨g, 0, none⟩), .agg #[.int .i64 fr, .int .i64 tt, .int .i64 kd, .int .i64 vo, .int .i64 li, .int .u64 (id : Int), .int .i64 co, .bool has, .int .u64 (key : Int), .int .u32 (ck : Int), .bool gn, .slice x L c]] w fun e w' => e = .returned (err 8) ∧ Below w.heap.size w w' := by
  have kk : (kd != 5) = false := by rw [hk]; rfl
  have HQ := Lib.hid hq
  have hb0 := below_new16 w (.cells #[.int .i64 fr, .int .i64 tt, .int .i64 kd, .int .i64 vo, .int .i64 li, .int .u64 (id : Int), .int .i64 co, .bool has, .int .u64 (key : Int), .int .u32 (ck : Int), .bool gn, .slice x L c] 45)
  have hx := Blk.new w #[.int .i64 fr, .int .i64 tt, .int .i64 kd, .int .i64 vo, .int .i64 li, .int .u64 (id : Int), .int .i64 co, .bool has, .int .u64 (key : Int), .int .u32 (ck : Int), .bool gn, .slice x L c] 45
  obtain ⟨W1, hW1⟩ : ∃ z, w.alloc (.cells #[.int .i64 fr, .int .i64 tt, .int .i64 kd, .int .i64 vo, .int .i64 li, .int .u64 (id : Int), .int .i64 co, .bool has, .int .u64 (key : Int), .int .u32 (ck : Int), .bool gn, .slice x L c] 45) = z := ⟨_, rfl⟩
  have hs1 : W1.heap.size = w.heap.size + 1 := by rw [← hW1]; simp
  rw [hW1] at hb0 hx
  have HCK := Lib.hid (wcheck_any ⟨fr, tt, kd, vo, li, id, co, has, ⟨key, ck, gn, md⟩⟩ (.slice x L c) W1 (hv.mono hb0 (Nat.le_refl _)))
  rw [hq, cerr_0] at HCK
  have HW1 := Lib.hid hW1
  clear hk hq
  have HX := Lib.hid hx
  have HB := Lib.hid hb0
  have HS1 := Lib.hid hs1
  clear hb0 hx hW1 hs1
  go_enter Tryz.func27, Tryz.ntmps27
  go_upto_region 1 with fail
  rw [HW1.out]
  have r := HX.out
  have p0 := r.cell 0 rfl
  have p1 := r.cell 1 rfl
  have p2 := r.cell 2 rfl
  have p3 := r.cell 3 rfl
  have p4 := r.cell 4 rfl
  have p5 := r.cell 5 rfl
  have p6 := r.cell 6 rfl
  have p7 := r.cell 7 rfl
  have p8 := r.cell 8 rfl
  have p9 := r.cell 9 rfl
  have p10 := r.cell 10 rfl
  have p11 := r.cell 11 rfl
  clear r
  go_wp2_with fail
  refine HCK.out.mono ?_
  rintro e wa ⟨rfl, hb⟩
  have hba := HB.out.trans (hb.mono HB.out.size)
  have hxa := HX.out.below hb HX.out.lt
  clear p0 p1 p2 p3 p4 p5 p6 p7 p8 p9 p10 p11
  have ht := h.below hba (Nat.le_refl _)
  have hwf : wfI tt := mcheck_wf HQ.out
  have hk9 := Blk.new wa #[.int .i64 tt, .int .u64 (id : Int)] 115
  have hxk := hxa.alloc (.cells #[.int .i64 tt, .int .u64 (id : Int)] 115)
  have hbk := hba.alloc hba.size (.cells #[.int .i64 tt, .int .u64 (id : Int)] 115)
  have hsk : wa.heap.size < (wa.alloc (.cells #[.int .i64 tt, .int .u64 (id : Int)] 115)).heap.size := by simp
  have hak := hxa.lt
  have hp1 := hxa.cell 1 rfl
  have hp5 := hxa.cell 5 rfl
  obtain ⟨A, hA⟩ : ∃ z, wa.heap.size = z := ⟨_, rfl⟩
  obtain ⟨W2, hW2⟩ : ∃ z, wa.alloc (.cells #[.int .i64 tt, .int .u64 (id : Int)] 115) = z := ⟨_, rfl⟩
  have hs2 : W2.heap.size = A + 1 := by rw [← hW2, ← hA]; simp
  rw [hW2] at hk9 hxk hbk hsk
  rw [hA] at hk9 hsk hak
  have ht2 := h.below hbk (Nat.le_refl _)
  have HW2 := Lib.hid hW2
  have HA := Lib.hid hA
  have HXK := Lib.hid hxk
  have HK9 := Lib.hid hk9
  have HBK := Lib.hid hbk
  have HT2 := Lib.hid ht2
  have HS2 := Lib.hid hs2
  have HAK := Lib.hid hak
  have hg0 := h.tblk.lt
  have hlook := (ht2.below (Below.refl _ _).drew (Nat.le_refl _)).tmap.look hwf hid
  have hlook2 := (ht2.below ((Below.refl _ _).alloc (Nat.le_refl _) (.cells #[.int .i64 0, .int .i64 0, .int .i64 0, .int .i64 0, .int .i64 0, .int .u64 0, .int .i64 0, .bool false, .int .u64 0, .int .u32 0, .bool false, .slice none 0 0] 45)).drew (Nat.le_refl _)).tmap.look hwf hid
  rw [hn] at hlook hlook2
  have hl1 : (Instr.lookup 95 (.map (some b)) (.agg #[.int .i64 tt, .int .u64 (id : Int)]) true).run Tryz.prog W2.drew = .ok (.tuple #[.agg #[.int .i64 nfr, .int .i64 ntt, .int .i64 nkd, .int .i64 nvo, .int .i64 nli, .int .u64 (nid : Int), .int .i64 nco, .bool nhas, .int .u64 (nkey : Int), .int .u32 (nck : Int), .bool ngn, .slice y M k], .bool true]) W2.drew := hlook
  have hl2 : (Instr.lookup 95 (.map (some b)) (.agg #[.int .i64 tt, .int .u64 (id : Int)]) true).run Tryz.prog (W2.alloc (.cells #[.int .i64 0, .int .i64 0, .int .i64 0, .int .i64 0, .int .i64 0, .int .u64 0, .int .i64 0, .bool false, .int .u64 0, .int .u32 0, .bool false, .slice none 0 0] 45)).drew = .ok (.tuple #[.agg #[.int .i64 nfr, .int .i64 ntt, .int .i64 nkd, .int .i64 nvo, .int .i64 nli, .int .u64 (nid : Int), .int .i64 nco, .bool nhas, .int .u64 (nkey : Int), .int .u32 (nck : Int), .bool ngn, .slice y M k], .bool true]) (W2.alloc (.cells #[.int .i64 0, .int .i64 0, .int .i64 0, .int .i64 0, .int .i64 0, .int .u64 0, .int .i64 0, .bool false, .int .u64 0, .int .u32 0, .bool false, .slice none 0 0] 45)).drew := hlook2
  have HL1 := Lib.hid hl1
  have HL2 := Lib.hid hl2
  have HG0 := Lib.hid (show g < w.heap.size from hg0)
  clear hlook hlook2 hl1 hl2 ht hk9 hxk hbk hsk hA hW2 hs2 ht2 hba hxa hb hg0 hwf hn h hid hv hak
  go_upto_region 9 with fail
  rw [HW2.out, HA.out]
  clear hp1 hp5
  have hl1 := HL1.out
  have hl2 := HL2.out
  have c1 : W2.cell? ⟨g, 1, none⟩ = some (.map (some b)) := HT2.out.tblk.cell 1 rfl
  have c2 : W2.cell? ⟨A, 0, none⟩ = some (.int .i64 tt) := HK9.out.cell 0 rfl
  have c3 : W2.cell? ⟨A, 1, none⟩ = some (.int .u64 (id : Int)) := HK9.out.cell 1 rfl
  have d1 : (W2.alloc (.cells #[.int .i64 0, .int .i64 0, .int .i64 0, .int .i64 0, .int .i64 0, .int .u64 0, .int .i64 0, .bool false, .int .u64 0, .int .u32 0, .bool false, .slice none 0 0] 45)).cell? ⟨g, 1, none⟩ = some (.map (some b)) := (HT2.out.tblk.alloc (.cells #[.int .i64 0, .int .i64 0, .int .i64 0, .int .i64 0, .int .i64 0, .int .u64 0, .int .i64 0, .bool false, .int .u64 0, .int .u32 0, .bool false, .slice none 0 0] 45)).cell 1 rfl
  have d2 : (W2.alloc (.cells #[.int .i64 0, .int .i64 0, .int .i64 0, .int .i64 0, .int .i64 0, .int .u64 0, .int .i64 0, .bool false, .int .u64 0, .int .u32 0, .bool false, .slice none 0 0] 45)).cell? ⟨A, 0, none⟩ = some (.int .i64 tt) := (HK9.out.alloc (.cells #[.int .i64 0, .int .i64 0, .int .i64 0, .int .i64 0, .int .i64 0, .int .u64 0, .int .i64 0, .bool false, .int .u64 0, .int .u32 0, .bool false, .slice none 0 0] 45)).cell 0 rfl
  have d3 : (W2.alloc (.cells #[.int .i64 0, .int .i64 0, .int .i64 0, .int .i64 0, .int .i64 0, .int .u64 0, .int .i64 0, .bool false, .int .u64 0, .int .u32 0, .bool false, .slice none 0 0] 45)).cell? ⟨A, 1, none⟩ = some (.int .u64 (id : Int)) := (HK9.out.alloc (.cells #[.int .i64 0, .int .i64 0, .int .i64 0, .int .i64 0, .int .i64 0, .int .u64 0, .int .i64 0, .bool false, .int .u64 0, .int .u32 0, .bool false, .slice none 0 0] 45)).cell 1 rfl
  go_region
  all_goals
    go_wp2
    go_ret
    exact ⟨rfl, (HBK.out.alloc HBK.out.size _).drew⟩
set_option maxRecDepth 100000 in
set_option maxHeartbeats 4000000 in
theorem okeep_full (fr tt kd vo li : Int) (id : Nat) (co : Int) (has : Bool) (key ck : Nat) (gn : Bool) (md : List UInt8) (x : Option Addr) (L c : Nat) {g b : Nat} {most : Int} {l : List (Msg × Value)} (w : World) (hk : kd = 5) (hq : mcheck ⟨fr, tt, kd, vo, li, id, co, has, ⟨key, ck, gn, md⟩⟩ = 0) (hid : wfU id) (hv : IsB w (.slice x L c) md) (h : TbAt w g b most l) (hn : lookT tt id l = none) (hd : decide ((l.length : Int) < most) = false) :
    Calls Tryz.prog 27 #[.pointer (some ⟨g, 0, none⟩), .agg #[.int .i64 fr, .int .i64 tt, .int .i64 kd, .int .i64 vo, .int .i64 li, .int .u64 (id : Int), .int .i64 co, .bool has, .int .u64 (key : Int), .int .u32 (ck : Int), .bool gn, .slice x L c]] w fun e w' => e = .returned (err 11) ∧ Below w.heap.size w w' := by
  have kk : (kd != 5) = false := by rw [hk]; rfl
  have HQ := Lib.hid hq
  have hb0 := below_new16 w (.cells #[.int .i64 fr, .int .i64 tt, .int .i64 kd, .int .i64 vo, .int .i64 li, .int .u64 (id : Int), .int .i64 co, .bool has, .int .u64 (key : Int), .int .u32 (ck : Int), .bool gn, .slice x L c] 45)
  have hx := Blk.new w #[.int .i64 fr, .int .i64 tt, .int .i64 kd, .int .i64 vo, .int .i64 li, .int .u64 (id : Int), .int .i64 co, .bool has, .int .u64 (key : Int), .int .u32 (ck : Int), .bool gn, .slice x L c] 45
  obtain ⟨W1, hW1⟩ : ∃ z, w.alloc (.cells #[.int .i64 fr, .int .i64 tt, .int .i64 kd, .int .i64 vo, .int .i64 li, .int .u64 (id : Int), .int .i64 co, .bool has, .int .u64 (key : Int), .int .u32 (ck : Int), .bool gn, .slice x L c] 45) = z := ⟨_, rfl⟩
  have hs1 : W1.heap.size = w.heap.size + 1 := by rw [← hW1]; simp
  rw [hW1] at hb0 hx
  have HCK := Lib.hid (wcheck_any ⟨fr, tt, kd, vo, li, id, co, has, ⟨key, ck, gn, md⟩⟩ (.slice x L c) W1 (hv.mono hb0 (Nat.le_refl _)))
  rw [hq, cerr_0] at HCK
  have HW1 := Lib.hid hW1
  clear hk hq
  have HX := Lib.hid hx
  have HB := Lib.hid hb0
  have HS1 := Lib.hid hs1
  clear hb0 hx hW1 hs1
  go_enter Tryz.func27, Tryz.ntmps27
  go_upto_region 1 with fail
  rw [HW1.out]
  have r := HX.out
  have p0 := r.cell 0 rfl
  have p1 := r.cell 1 rfl
  have p2 := r.cell 2 rfl
  have p3 := r.cell 3 rfl
  have p4 := r.cell 4 rfl
  have p5 := r.cell 5 rfl
  have p6 := r.cell 6 rfl
  have p7 := r.cell 7 rfl
  have p8 := r.cell 8 rfl
  have p9 := r.cell 9 rfl
  have p10 := r.cell 10 rfl
  have p11 := r.cell 11 rfl
  clear r
  go_wp2_with fail
  refine HCK.out.mono ?_
  rintro e wa ⟨rfl, hb⟩
  have hba := HB.out.trans (hb.mono HB.out.size)
  have hxa := HX.out.below hb HX.out.lt
  clear p0 p1 p2 p3 p4 p5 p6 p7 p8 p9 p10 p11
  have ht := h.below hba (Nat.le_refl _)
  have hwf : wfI tt := mcheck_wf HQ.out
  have hk9 := Blk.new wa #[.int .i64 tt, .int .u64 (id : Int)] 115
  have hxk := hxa.alloc (.cells #[.int .i64 tt, .int .u64 (id : Int)] 115)
  have hbk := hba.alloc hba.size (.cells #[.int .i64 tt, .int .u64 (id : Int)] 115)
  have hsk : wa.heap.size < (wa.alloc (.cells #[.int .i64 tt, .int .u64 (id : Int)] 115)).heap.size := by simp
  have hak := hxa.lt
  have hp1 := hxa.cell 1 rfl
  have hp5 := hxa.cell 5 rfl
  obtain ⟨A, hA⟩ : ∃ z, wa.heap.size = z := ⟨_, rfl⟩
  obtain ⟨W2, hW2⟩ : ∃ z, wa.alloc (.cells #[.int .i64 tt, .int .u64 (id : Int)] 115) = z := ⟨_, rfl⟩
  have hs2 : W2.heap.size = A + 1 := by rw [← hW2, ← hA]; simp
  rw [hW2] at hk9 hxk hbk hsk
  rw [hA] at hk9 hsk hak
  have ht2 := h.below hbk (Nat.le_refl _)
  have HW2 := Lib.hid hW2
  have HA := Lib.hid hA
  have HXK := Lib.hid hxk
  have HK9 := Lib.hid hk9
  have HBK := Lib.hid hbk
  have HT2 := Lib.hid ht2
  have HS2 := Lib.hid hs2
  have HAK := Lib.hid hak
  have hg0 := h.tblk.lt
  have hlook := (ht2.below (Below.refl _ _).drew (Nat.le_refl _)).tmap.look hwf hid
  have hlook2 := (ht2.below ((Below.refl _ _).alloc (Nat.le_refl _) (.cells #[.int .i64 0, .int .i64 0, .int .i64 0, .int .i64 0, .int .i64 0, .int .u64 0, .int .i64 0, .bool false, .int .u64 0, .int .u32 0, .bool false, .slice none 0 0] 45)).drew (Nat.le_refl _)).tmap.look hwf hid
  rw [hn] at hlook hlook2
  have hl1 : (Instr.lookup 95 (.map (some b)) (.agg #[.int .i64 tt, .int .u64 (id : Int)]) true).run Tryz.prog W2.drew = .ok (.tuple #[.agg #[.int .i64 0, .int .i64 0, .int .i64 0, .int .i64 0, .int .i64 0, .int .u64 0, .int .i64 0, .bool false, .int .u64 0, .int .u32 0, .bool false, .slice none 0 0], .bool false]) W2.drew := hlook
  have hl2 : (Instr.lookup 95 (.map (some b)) (.agg #[.int .i64 tt, .int .u64 (id : Int)]) true).run Tryz.prog (W2.alloc (.cells #[.int .i64 0, .int .i64 0, .int .i64 0, .int .i64 0, .int .i64 0, .int .u64 0, .int .i64 0, .bool false, .int .u64 0, .int .u32 0, .bool false, .slice none 0 0] 45)).drew = .ok (.tuple #[.agg #[.int .i64 0, .int .i64 0, .int .i64 0, .int .i64 0, .int .i64 0, .int .u64 0, .int .i64 0, .bool false, .int .u64 0, .int .u32 0, .bool false, .slice none 0 0], .bool false]) (W2.alloc (.cells #[.int .i64 0, .int .i64 0, .int .i64 0, .int .i64 0, .int .i64 0, .int .u64 0, .int .i64 0, .bool false, .int .u64 0, .int .u32 0, .bool false, .slice none 0 0] 45)).drew := hlook2
  have HL1 := Lib.hid hl1
  have HL2 := Lib.hid hl2
  have HG0 := Lib.hid (show g < w.heap.size from hg0)
  clear hlook hlook2 hl1 hl2 ht hk9 hxk hbk hsk hA hW2 hs2 ht2 hba hxa hb hg0 hwf hn h hid hv hak
  go_upto_region 9 with fail
  rw [HW2.out, HA.out]
  clear hp1 hp5
  have hl1 := HL1.out
  have hl2 := HL2.out
  have c1 : W2.cell? ⟨g, 1, none⟩ = some (.map (some b)) := HT2.out.tblk.cell 1 rfl
  have c2 : W2.cell? ⟨A, 0, none⟩ = some (.int .i64 tt) := HK9.out.cell 0 rfl
  have c3 : W2.cell? ⟨A, 1, none⟩ = some (.int .u64 (id : Int)) := HK9.out.cell 1 rfl
  have d1 : (W2.alloc (.cells #[.int .i64 0, .int .i64 0, .int .i64 0, .int .i64 0, .int .i64 0, .int .u64 0, .int .i64 0, .bool false, .int .u64 0, .int .u32 0, .bool false, .slice none 0 0] 45)).cell? ⟨g, 1, none⟩ = some (.map (some b)) := (HT2.out.tblk.alloc (.cells #[.int .i64 0, .int .i64 0, .int .i64 0, .int .i64 0, .int .i64 0, .int .u64 0, .int .i64 0, .bool false, .int .u64 0, .int .u32 0, .bool false, .slice none 0 0] 45)).cell 1 rfl
  have d2 : (W2.alloc (.cells #[.int .i64 0, .int .i64 0, .int .i64 0, .int .i64 0, .int .i64 0, .int .u64 0, .int .i64 0, .bool false, .int .u64 0, .int .u32 0, .bool false, .slice none 0 0] 45)).cell? ⟨A, 0, none⟩ = some (.int .i64 tt) := (HK9.out.alloc (.cells #[.int .i64 0, .int .i64 0, .int .i64 0, .int .i64 0, .int .i64 0, .int .u64 0, .int .i64 0, .bool false, .int .u64 0, .int .u32 0, .bool false, .slice none 0 0] 45)).cell 0 rfl
  have d3 : (W2.alloc (.cells #[.int .i64 0, .int .i64 0, .int .i64 0, .int .i64 0, .int .i64 0, .int .u64 0, .int .i64 0, .bool false, .int .u64 0, .int .u32 0, .bool false, .slice none 0 0] 45)).cell? ⟨A, 1, none⟩ = some (.int .u64 (id : Int)) := (HK9.out.alloc (.cells #[.int .i64 0, .int .i64 0, .int .i64 0, .int .i64 0, .int .i64 0, .int .u64 0, .int .i64 0, .bool false, .int .u64 0, .int .u32 0, .bool false, .slice none 0 0] 45)).cell 1 rfl
  have HBA := Lib.hid ((HBK.out.alloc HBK.out.size (.cells #[.int .i64 0, .int .i64 0, .int .i64 0, .int .i64 0, .int .i64 0, .int .u64 0, .int .i64 0, .bool false, .int .u64 0, .int .u32 0, .bool false, .slice none 0 0] 45)).drew)
  have hw3 : Below W2.heap.size W2 (W2.alloc (.cells #[.int .i64 0, .int .i64 0, .int .i64 0, .int .i64 0, .int .i64 0, .int .u64 0, .int .i64 0, .bool false, .int .u64 0, .int .u32 0, .bool false, .slice none 0 0] 45)).drew := (below_new16 W2 (.cells #[.int .i64 0, .int .i64 0, .int .i64 0, .int .i64 0, .int .i64 0, .int .u64 0, .int .i64 0, .bool false, .int .u64 0, .int .u32 0, .bool false, .slice none 0 0] 45)).drew
  go_cut [8] from 7 to 34 (fun cc wx => cc = .bool false ∧ wx = (W2.alloc (.cells #[.int .i64 0, .int .i64 0, .int .i64 0, .int .i64 0, .int .i64 0, .int .u64 0, .int .i64 0, .bool false, .int .u64 0, .int .u32 0, .bool false, .slice none 0 0] 45)).drew)
  case first =>
    go_region
    all_goals
      go_wp2_with fail
      go_meet
      exact ⟨rfl, rfl⟩
  case rest =>
  obtain ⟨rfl, h9⟩ := hcut
  obtain ⟨W3, hW3⟩ : ∃ z, wc = z := ⟨_, rfl⟩
  subst hW3
  obtain ⟨W3, hW3⟩ : ∃ z, z = wc := ⟨_, rfl⟩
  subst hW3
  rw [← h9] at HBA hw3
  clear h9
  have HT3 := Lib.hid (HT2.out.below hw3 (Nat.le_refl _))
  have HW3 := Lib.hid hw3
  have HRM := Lib.hid (oroom_at HT3.out)
  rw [hd] at HRM
  clear hl1 hl2 c1 c2 c3 d1 d2 d3 hw3 hd
  go_wp2_with fail
  refine HRM.out.mono ?_
  rintro e w4 ⟨rfl, hb4⟩
  have HB4 := Lib.hid (HBA.out.trans (hb4.mono HBA.out.size))
  go_wp2
  go_ret
  exact ⟨rfl, HB4.out⟩
set_option maxRecDepth 100000 in
set_option maxHeartbeats 4000000 in
theorem okeep_ok (fr tt kd vo li : Int) (id : Nat) (co : Int) (has : Bool) (key ck : Nat) (gn : Bool) (md : List UInt8) (x : Option Addr) (L c : Nat) {g b : Nat} {most : Int} {l : List (Msg × Value)} (w : World) (hk : kd = 5) (hq : mcheck ⟨fr, tt, kd, vo, li, id, co, has, ⟨key, ck, gn, md⟩⟩ = 0) (hid : wfU id) (hv : IsB w (.slice x L c) md) (h : TbAt w g b most l) (hm : most ≤ 4096) (hn : lookT tt id l = none) (hd : decide ((l.length : Int) < most) = true) :
    Calls Tryz.prog 27 #[.pointer (some ⟨g, 0, none⟩), .agg #[.int .i64 fr, .int .i64 tt, .int .i64 kd, .int .i64 vo, .int .i64 li, .int .u64 (id : Int), .int .i64 co, .bool has, .int .u64 (key : Int), .int .u32 (ck : Int), .bool gn, .slice x L c]] w fun e w' => e = .returned .nilIface ∧ ∃ v, TbAt w' g b most (l ++ [(⟨fr, tt, kd, vo, li, id, co, has, ⟨key, ck, gn, md⟩⟩, v)]) ∧ (∀ k, liesB v md k → w.heap.size ≤ k) ∧ Kept (fun k => k = b) w w' := by
  have HOWN := Lib.hid (fun (wx : World) (hb : Below w.heap.size w wx) => own_f fr tt kd vo li id co has key ck gn md x L c wx (hv.mono hb (Nat.le_refl _)) (by have : md.length ≤ 4096 := mcheck_len hq; omega))
  have HLT := Lib.hid (show l.length < maxLen from by have := of_decide_eq_true hd; unfold maxLen; omega)
  have HNN := Lib.hid hn
  have HID := Lib.hid hid
  have HNB := Lib.hid (show (∀ A : Nat, w.heap.size < A → A ≠ b) ∧ w.heap.size ≠ b from ⟨fun A h1 => by have := h.tmap.lt; omega, by have := h.tmap.lt; omega⟩)
  have kk : (kd != 5) = false := by rw [hk]; rfl
  have HQ := Lib.hid hq
  have hb0 := below_new16 w (.cells #[.int .i64 fr, .int .i64 tt, .int .i64 kd, .int .i64 vo, .int .i64 li, .int .u64 (id : Int), .int .i64 co, .bool has, .int .u64 (key : Int), .int .u32 (ck : Int), .bool gn, .slice x L c] 45)
  have hx := Blk.new w #[.int .i64 fr, .int .i64 tt, .int .i64 kd, .int .i64 vo, .int .i64 li, .int .u64 (id : Int), .int .i64 co, .bool has, .int .u64 (key : Int), .int .u32 (ck : Int), .bool gn, .slice x L c] 45
  obtain ⟨W1, hW1⟩ : ∃ z, w.alloc (.cells #[.int .i64 fr, .int .i64 tt, .int .i64 kd, .int .i64 vo, .int .i64 li, .int .u64 (id : Int), .int .i64 co, .bool has, .int .u64 (key : Int), .int .u32 (ck : Int), .bool gn, .slice x L c] 45) = z := ⟨_, rfl⟩
  have hs1 : W1.heap.size = w.heap.size + 1 := by rw [← hW1]; simp
  rw [hW1] at hb0 hx
  have HCK := Lib.hid (wcheck_any ⟨fr, tt, kd, vo, li, id, co, has, ⟨key, ck, gn, md⟩⟩ (.slice x L c) W1 (hv.mono hb0 (Nat.le_refl _)))
  rw [hq, cerr_0] at HCK
  have HW1 := Lib.hid hW1
  clear hk hq
  have HX := Lib.hid hx
  have HB := Lib.hid hb0
  have HS1 := Lib.hid hs1
  clear hb0 hx hW1 hs1
  go_enter Tryz.func27, Tryz.ntmps27
  go_upto_region 1 with fail
  rw [HW1.out]
  have r := HX.out
  have p0 := r.cell 0 rfl
  have p1 := r.cell 1 rfl
  have p2 := r.cell 2 rfl
  have p3 := r.cell 3 rfl
  have p4 := r.cell 4 rfl
  have p5 := r.cell 5 rfl
  have p6 := r.cell 6 rfl
  have p7 := r.cell 7 rfl
  have p8 := r.cell 8 rfl
  have p9 := r.cell 9 rfl
  have p10 := r.cell 10 rfl
  have p11 := r.cell 11 rfl
  clear r
  go_wp2_with fail
  refine HCK.out.mono ?_
  rintro e wa ⟨rfl, hb⟩
  have hba := HB.out.trans (hb.mono HB.out.size)
  have hxa := HX.out.below hb HX.out.lt
  clear p0 p1 p2 p3 p4 p5 p6 p7 p8 p9 p10 p11
  have ht := h.below hba (Nat.le_refl _)
  have hwf : wfI tt := mcheck_wf HQ.out
  have hk9 := Blk.new wa #[.int .i64 tt, .int .u64 (id : Int)] 115
  have hxk := hxa.alloc (.cells #[.int .i64 tt, .int .u64 (id : Int)] 115)
  have hbk := hba.alloc hba.size (.cells #[.int .i64 tt, .int .u64 (id : Int)] 115)
  have hsk : wa.heap.size < (wa.alloc (.cells #[.int .i64 tt, .int .u64 (id : Int)] 115)).heap.size := by simp
  have hak := hxa.lt
  have hp1 := hxa.cell 1 rfl
  have hp5 := hxa.cell 5 rfl
  obtain ⟨A, hA⟩ : ∃ z, wa.heap.size = z := ⟨_, rfl⟩
  obtain ⟨W2, hW2⟩ : ∃ z, wa.alloc (.cells #[.int .i64 tt, .int .u64 (id : Int)] 115) = z := ⟨_, rfl⟩
  have hs2 : W2.heap.size = A + 1 := by rw [← hW2, ← hA]; simp
  rw [hW2] at hk9 hxk hbk hsk
  rw [hA] at hk9 hsk hak
  have ht2 := h.below hbk (Nat.le_refl _)
  have HW2 := Lib.hid hW2
  have HA := Lib.hid hA
  have HXK := Lib.hid hxk
  have HK9 := Lib.hid hk9
  have HBK := Lib.hid hbk
  have HT2 := Lib.hid ht2
  have HS2 := Lib.hid hs2
  have HAK := Lib.hid hak
  have hg0 := h.tblk.lt
  have hlook := (ht2.below (Below.refl _ _).drew (Nat.le_refl _)).tmap.look hwf hid
  have hlook2 := (ht2.below ((Below.refl _ _).alloc (Nat.le_refl _) (.cells #[.int .i64 0, .int .i64 0, .int .i64 0, .int .i64 0, .int .i64 0, .int .u64 0, .int .i64 0, .bool false, .int .u64 0, .int .u32 0, .bool false, .slice none 0 0] 45)).drew (Nat.le_refl _)).tmap.look hwf hid
  rw [hn] at hlook hlook2
  have hl1 : (Instr.lookup 95 (.map (some b)) (.agg #[.int .i64 tt, .int .u64 (id : Int)]) true).run Tryz.prog W2.drew = .ok (.tuple #[.agg #[.int .i64 0, .int .i64 0, .int .i64 0, .int .i64 0, .int .i64 0, .int .u64 0, .int .i64 0, .bool false, .int .u64 0, .int .u32 0, .bool false, .slice none 0 0], .bool false]) W2.drew := hlook
  have hl2 : (Instr.lookup 95 (.map (some b)) (.agg #[.int .i64 tt, .int .u64 (id : Int)]) true).run Tryz.prog (W2.alloc (.cells #[.int .i64 0, .int .i64 0, .int .i64 0, .int .i64 0, .int .i64 0, .int .u64 0, .int .i64 0, .bool false, .int .u64 0, .int .u32 0, .bool false, .slice none 0 0] 45)).drew = .ok (.tuple #[.agg #[.int .i64 0, .int .i64 0, .int .i64 0, .int .i64 0, .int .i64 0, .int .u64 0, .int .i64 0, .bool false, .int .u64 0, .int .u32 0, .bool false, .slice none 0 0], .bool false]) (W2.alloc (.cells #[.int .i64 0, .int .i64 0, .int .i64 0, .int .i64 0, .int .i64 0, .int .u64 0, .int .i64 0, .bool false, .int .u64 0, .int .u32 0, .bool false, .slice none 0 0] 45)).drew := hlook2
  have HL1 := Lib.hid hl1
  have HL2 := Lib.hid hl2
  have HG0 := Lib.hid (show g < w.heap.size from hg0)
  clear hlook hlook2 hl1 hl2 ht hk9 hxk hbk hsk hA hW2 hs2 ht2 hba hxa hb hg0 hwf hn h hid hv hak
  go_upto_region 9 with fail
  rw [HW2.out, HA.out]
  clear hp1 hp5
  have hl1 := HL1.out
  have hl2 := HL2.out
  have c1 : W2.cell? ⟨g, 1, none⟩ = some (.map (some b)) := HT2.out.tblk.cell 1 rfl
  have c2 : W2.cell? ⟨A, 0, none⟩ = some (.int .i64 tt) := HK9.out.cell 0 rfl
  have c3 : W2.cell? ⟨A, 1, none⟩ = some (.int .u64 (id : Int)) := HK9.out.cell 1 rfl
  have d1 : (W2.alloc (.cells #[.int .i64 0, .int .i64 0, .int .i64 0, .int .i64 0, .int .i64 0, .int .u64 0, .int .i64 0, .bool false, .int .u64 0, .int .u32 0, .bool false, .slice none 0 0] 45)).cell? ⟨g, 1, none⟩ = some (.map (some b)) := (HT2.out.tblk.alloc (.cells #[.int .i64 0, .int .i64 0, .int .i64 0, .int .i64 0, .int .i64 0, .int .u64 0, .int .i64 0, .bool false, .int .u64 0, .int .u32 0, .bool false, .slice none 0 0] 45)).cell 1 rfl
  have d2 : (W2.alloc (.cells #[.int .i64 0, .int .i64 0, .int .i64 0, .int .i64 0, .int .i64 0, .int .u64 0, .int .i64 0, .bool false, .int .u64 0, .int .u32 0, .bool false, .slice none 0 0] 45)).cell? ⟨A, 0, none⟩ = some (.int .i64 tt) := (HK9.out.alloc (.cells #[.int .i64 0, .int .i64 0, .int .i64 0, .int .i64 0, .int .i64 0, .int .u64 0, .int .i64 0, .bool false, .int .u64 0, .int .u32 0, .bool false, .slice none 0 0] 45)).cell 0 rfl
  have d3 : (W2.alloc (.cells #[.int .i64 0, .int .i64 0, .int .i64 0, .int .i64 0, .int .i64 0, .int .u64 0, .int .i64 0, .bool false, .int .u64 0, .int .u32 0, .bool false, .slice none 0 0] 45)).cell? ⟨A, 1, none⟩ = some (.int .u64 (id : Int)) := (HK9.out.alloc (.cells #[.int .i64 0, .int .i64 0, .int .i64 0, .int .i64 0, .int .i64 0, .int .u64 0, .int .i64 0, .bool false, .int .u64 0, .int .u32 0, .bool false, .slice none 0 0] 45)).cell 1 rfl
  have HBA := Lib.hid ((HBK.out.alloc HBK.out.size (.cells #[.int .i64 0, .int .i64 0, .int .i64 0, .int .i64 0, .int .i64 0, .int .u64 0, .int .i64 0, .bool false, .int .u64 0, .int .u32 0, .bool false, .slice none 0 0] 45)).drew)
  have hw3 : Below W2.heap.size W2 (W2.alloc (.cells #[.int .i64 0, .int .i64 0, .int .i64 0, .int .i64 0, .int .i64 0, .int .u64 0, .int .i64 0, .bool false, .int .u64 0, .int .u32 0, .bool false, .slice none 0 0] 45)).drew := (below_new16 W2 (.cells #[.int .i64 0, .int .i64 0, .int .i64 0, .int .i64 0, .int .i64 0, .int .u64 0, .int .i64 0, .bool false, .int .u64 0, .int .u32 0, .bool false, .slice none 0 0] 45)).drew
  go_cut [8] from 7 to 34 (fun cc wx => cc = .bool false ∧ wx = (W2.alloc (.cells #[.int .i64 0, .int .i64 0, .int .i64 0, .int .i64 0, .int .i64 0, .int .u64 0, .int .i64 0, .bool false, .int .u64 0, .int .u32 0, .bool false, .slice none 0 0] 45)).drew)
  case first =>
    go_region
    all_goals
      go_wp2_with fail
      go_meet
      exact ⟨rfl, rfl⟩
  case rest =>
  obtain ⟨rfl, h9⟩ := hcut
  obtain ⟨W3, hW3⟩ : ∃ z, wc = z := ⟨_, rfl⟩
  subst hW3
  obtain ⟨W3, hW3⟩ : ∃ z, z = wc := ⟨_, rfl⟩
  subst hW3
  rw [← h9] at HBA hw3
  clear h9
  have HT3 := Lib.hid (HT2.out.below hw3 (Nat.le_refl _))
  have HW3 := Lib.hid hw3
  have HRM := Lib.hid (oroom_at HT3.out)
  rw [hd] at HRM
  clear hl1 hl2 c1 c2 c3 d1 d2 d3 hw3 hd
  go_wp2_with fail
  refine HRM.out.mono ?_
  rintro e w4 ⟨rfl, hb4⟩
  have hba4 := HBA.out.trans (hb4.mono HBA.out.size)
  have h34 := HW3.out.trans (hb4.mono HW3.out.size)
  have HT4 := Lib.hid (HT3.out.below hb4 (Nat.le_refl _))
  have HXW := Lib.hid (HXK.out.below h34 HXK.out.lt)
  have HKW := Lib.hid (HK9.out.below h34 HK9.out.lt)
  have HB4 := Lib.hid hba4
  have HSX := Lib.hid (fun (wx : World) (hk : Kept (fun k => k = b) w4 wx) => show wx.cell? ⟨g, 1, none⟩ = some (.map (some b)) ∧ wx.cell? ⟨A, 0, none⟩ = some (.int .i64 tt) ∧ wx.cell? ⟨A, 1, none⟩ = some (.int .u64 (id : Int)) ∧ wx.cell? ⟨w.heap.size, 0, none⟩ = some (.int .i64 fr) ∧ wx.cell? ⟨w.heap.size, 1, none⟩ = some (.int .i64 tt) ∧ wx.cell? ⟨w.heap.size, 2, none⟩ = some (.int .i64 kd) ∧ wx.cell? ⟨w.heap.size, 3, none⟩ = some (.int .i64 vo) ∧ wx.cell? ⟨w.heap.size, 4, none⟩ = some (.int .i64 li) ∧ wx.cell? ⟨w.heap.size, 5, none⟩ = some (.int .u64 (id : Int)) ∧ wx.cell? ⟨w.heap.size, 6, none⟩ = some (.int .i64 co) ∧ wx.cell? ⟨w.heap.size, 7, none⟩ = some (.bool has) ∧ wx.cell? ⟨w.heap.size, 8, none⟩ = some (.int .u64 (key : Int)) ∧ wx.cell? ⟨w.heap.size, 9, none⟩ = some (.int .u32 (ck : Int)) ∧ wx.cell? ⟨w.heap.size, 10, none⟩ = some (.bool gn) ∧ wx.cell? ⟨w.heap.size, 11, none⟩ = some (.slice x L c) from
    have h1 := (HT4.out.tblk.kept hk (fun e => HT4.out.tgb e.symm)).cell 1 rfl
    have h2 := HKW.out.kept hk (fun e => HNB.out.1 _ (HAK.out) e)
    have h3 := HXW.out.kept hk (fun e => HNB.out.2 e)
    ⟨h1, h2.cell 0 rfl, h2.cell 1 rfl, h3.cell 0 rfl, h3.cell 1 rfl, h3.cell 2 rfl, h3.cell 3 rfl, h3.cell 4 rfl, h3.cell 5 rfl, h3.cell 6 rfl, h3.cell 7 rfl, h3.cell 8 rfl, h3.cell 9 rfl, h3.cell 10 rfl, h3.cell 11 rfl⟩)
  have S0 := HSX.out w4.drew (Kept.refl _ _).drew
  clear h34 hb4 hba4
  go_upto_region 14 with fail
  go_region_held3 (fun wx => wx.cell? ⟨g, 1, none⟩ = some (.map (some b)) ∧ wx.cell? ⟨A, 0, none⟩ = some (.int .i64 tt) ∧ wx.cell? ⟨A, 1, none⟩ = some (.int .u64 (id : Int)) ∧ wx.cell? ⟨w.heap.size, 0, none⟩ = some (.int .i64 fr) ∧ wx.cell? ⟨w.heap.size, 1, none⟩ = some (.int .i64 tt) ∧ wx.cell? ⟨w.heap.size, 2, none⟩ = some (.int .i64 kd) ∧ wx.cell? ⟨w.heap.size, 3, none⟩ = some (.int .i64 vo) ∧ wx.cell? ⟨w.heap.size, 4, none⟩ = some (.int .i64 li) ∧ wx.cell? ⟨w.heap.size, 5, none⟩ = some (.int .u64 (id : Int)) ∧ wx.cell? ⟨w.heap.size, 6, none⟩ = some (.int .i64 co) ∧ wx.cell? ⟨w.heap.size, 7, none⟩ = some (.bool has) ∧ wx.cell? ⟨w.heap.size, 8, none⟩ = some (.int .u64 (key : Int)) ∧ wx.cell? ⟨w.heap.size, 9, none⟩ = some (.int .u32 (ck : Int)) ∧ wx.cell? ⟨w.heap.size, 10, none⟩ = some (.bool gn) ∧ wx.cell? ⟨w.heap.size, 11, none⟩ = some (.slice x L c)) (first | exact S0 | exact S1 | exact S2) (first | (go_at_call 44; refine (HOWN.out _ (HB4.out.drew)).mono ?_; rintro e wo ⟨z, qq, rfl, hI, hlo, hbo⟩; have HBO := Lib.hid ((Below.refl w4.heap.size w4).drew.trans hbo); have HTO := Lib.hid (HT4.out.below HBO.out (Nat.le_refl _)); have hst := HTO.out.tmap.store HLT.out (m := ⟨fr, tt, kd, vo, li, id, co, has, ⟨key, ck, gn, md⟩⟩) (mcheck_wf HQ.out) HID.out HNN.out (.slice z L qq); obtain ⟨wd, hupd0, htd, hkd⟩ := hst; have hupd : (Instr.mapUpdate 95 (.map (some b)) (.agg #[.int .i64 tt, .int .u64 (id : Int)]) (.agg #[.int .i64 fr, .int .i64 tt, .int .i64 kd, .int .i64 vo, .int .i64 li, .int .u64 (id : Int), .int .i64 co, .bool has, .int .u64 (key : Int), .int .u32 (ck : Int), .bool gn, .slice z L qq])).run Tryz.prog wo = .ok () wd := hupd0; have HTD := Lib.hid (And.intro htd hkd); have HII := Lib.hid (And.intro hI (show ∀ k, liesB (.slice z L qq) md k → w4.heap.size ≤ k from hlo)); have S1 := HSX.out wo (Kept.of_below HBO.out (Nat.le_refl _)); have S2 := HSX.out wd ((Kept.of_below HBO.out (Nat.le_refl _)).trans hkd (fun j e _ => e)); clear hupd0 htd hkd hI hlo hbo))
  clear S1 S2 S0
  go_wp2_with fail
  go_ret
  exact ⟨rfl, .slice z L qq, HTO.out.turned HTD.out.2 HTD.out.1 (fun x hx => by
    rcases List.mem_append.1 hx with hx | hx
    · exact HTO.out.tl x hx
    · rw [List.mem_singleton.1 hx]
      exact ⟨HII.out.1.1, ⟨_, _, _, rfl⟩, fun k hk => by
        have h1 := HII.out.2 k hk
        have h2 := HT4.out.tblk.lt
        have h3 := HT4.out.tmap.lt
        exact ⟨fun e => by omega, fun e => by omega⟩⟩), (fun k hk => by have h1 := HII.out.2 k hk; have h2 := HB4.out.size; omega), (Kept.of_below (HB4.out.trans (HBO.out.mono HB4.out.size)) (Nat.le_refl _)).trans HTD.out.2 (fun j e _ => e)⟩
theorem okeep_any {B g : Nat} {S : Nat → Prop} {most : Int} {L : List Msg} (w : World) (h : Tb w B g S most L) (m : Msg) (x : Option Addr) (xl c : Nat) (hv : IsB w (.slice x xl c) m.n.data) (hf : m.n.fits) (hid : m.id < 18446744073709551616) :
    Calls Tryz.prog 27 #[.pointer (some ⟨g, 0, none⟩), mval m (.slice x xl c)] w fun e w' => e = .returned (cerr (keepK most L m)) ∧ TbT w B g S most (keepL most L m) w' := by
  have hbd := h.bound
  have hsame : ∀ k : Nat, k ≠ 0 → keepK most L m = k → ∀ (e : Ending) (w' : World), e = .returned (err (k : Int)) ∧ Below w.heap.size w w' → e = .returned (cerr (keepK most L m)) ∧ TbT w B g S most (keepL most L m) w' := fun k h0 hk e w' ⟨h1, h2⟩ =>
    ⟨by rw [hk, cerr_pos (by omega)]; exact h1, by unfold keepL; rw [if_neg (by omega)]; exact ⟨S, h.below h2, fun k hk => .inl hk, Kept.of_below h2 (Nat.le_refl _)⟩⟩
  obtain ⟨b, l, h1, hL, h3, h4, h5, h6⟩ := h
  obtain ⟨fr, tt, kd, vo, li, id, co, has, key, ck, gn, md⟩ := m
  by_cases hk : kd = 5
  · by_cases hq : mcheck ⟨fr, tt, kd, vo, li, id, co, has, ⟨key, ck, gn, md⟩⟩ = 0
    · cases hn : lookT tt id l with
      | some y =>
        obtain ⟨hm, _⟩ := lookT_some hn
        obtain ⟨_, ⟨y0, yn, yc, hy⟩, _⟩ := h1.tl y hm
        obtain ⟨⟨nfr, ntt, nkd, nvo, nli, nid, nco, nhas, nkey, nck, ngn, nmd⟩, yv⟩ := y
        cases hy
        refine (okeep_there fr tt kd vo li id co has key ck gn md x xl c w hk hq (wfU_of hid) hv h1 nfr ntt nkd nvo nli nid nco nhas nkey nck ngn nmd y0 yn yc hn).mono (hsame 8 (by decide) ?_)
        have hf8 : ¬ findP tt id L < 0 := fun h => by rw [hL] at h; rw [lookT_none.2 h] at hn; cases hn
        unfold keepK
        rw [if_pos hk, if_pos hq, if_pos (by show 0 ≤ findP tt id L; omega)]
      | none =>
        have hf8 : findP tt id L < 0 := by rw [hL]; exact lookT_none.1 hn
        have hlen : L.length = l.length := by rw [hL, List.length_map]
        by_cases hd : (l.length : Int) < most
        · have hkk : keepK most L ⟨fr, tt, kd, vo, li, id, co, has, ⟨key, ck, gn, md⟩⟩ = 0 := by
            unfold keepK
            rw [if_pos hk, if_pos hq, if_neg (by show ¬ 0 ≤ findP tt id L; omega), if_neg (by rw [hlen]; omega)]
          refine (okeep_ok fr tt kd vo li id co has key ck gn md x xl c w hk hq (wfU_of hid) hv h1 h3.2.1 hn (decide_eq_true hd)).mono ?_
          rintro e w' ⟨rfl, v, k1, k2, k3⟩
          refine ⟨by rw [hkk, cerr_0], ⟨fun k => S k ∨ liesB v md k, ⟨b, l ++ [(⟨fr, tt, kd, vo, li, id, co, has, ⟨key, ck, gn, md⟩⟩, v)], k1, by unfold keepL; rw [if_pos hkk, hL, List.map_append]; rfl, ⟨h3.1, h3.2.1, by unfold keepL; rw [if_pos hkk, List.length_append, hlen]; simp; omega⟩, fun m hm => ?_, fun k hk => ?_, fun k hk => ?_⟩, fun k hk => hk.imp (fun h => h) (k2 k), k3.mono fun k _ e => h5 k (.inr (.inl e))⟩⟩
          · unfold keepL at hm
            rw [if_pos hkk] at hm
            rcases List.mem_append.1 hm with hm | hm
            · exact h4 m hm
            · rw [List.mem_singleton.1 hm]; exact ⟨hq, hf, hid⟩
          · rcases hk with rfl | rfl | ⟨z, hz, hk⟩
            · exact .inl (h5 _ (.inl rfl))
            · exact .inl (h5 _ (.inr (.inl rfl)))
            · rcases List.mem_append.1 hz with hz | hz
              · exact .inl (h5 _ (.inr (.inr ⟨z, hz, hk⟩)))
              · rw [List.mem_singleton.1 hz] at hk; exact .inr hk
          · rcases hk with hk | hk
            · exact ⟨(h6 k hk).1, Nat.lt_of_lt_of_le (h6 k hk).2 k3.size⟩
            · have h7 := k2 k hk
              have h8 := h6 g (h5 _ (.inl rfl))
              exact ⟨by omega, (k1.tl _ (List.mem_append_right _ (List.mem_singleton.2 rfl))).1.lies_lt hk⟩
        · refine (okeep_full fr tt kd vo li id co has key ck gn md x xl c w hk hq (wfU_of hid) hv h1 hn (decide_eq_false hd)).mono (hsame 11 (by decide) ?_)
          unfold keepK
          rw [if_pos hk, if_pos hq, if_neg (by show ¬ 0 ≤ findP tt id L; omega), if_pos (by rw [hlen]; omega)]
    · refine (okeep_check fr tt kd vo li id co has key ck gn md x xl c w hk _ rfl hq hv).mono (hsame _ hq ?_)
      unfold keepK
      rw [if_pos hk, if_neg hq]
  · refine (okeep_kind fr tt kd vo li id co has key ck gn md x xl c w hk).mono (hsame 1 (by decide) ?_)
    unfold keepK
    rw [if_neg hk]
end Go.Proofs.YtllbngopfganjaaGreatDoor.Nd
end

section
namespace Go.Cor

/-- Two texts by their bytes: below 0, 0, above 0. -/
def ncmp (a b : ByteArray) : Int := Lib.compareBytes a.data.toList b.data.toList
def nlt (a b : ByteArray) : Bool := decide (ncmp a b < 0)

theorem cb_swap : ∀ (a b : List UInt8), Lib.compareBytes b a = - Lib.compareBytes a b
  | [], [] => rfl
  | [], _ :: _ => rfl
  | _ :: _, [] => rfl
  | x :: a, y :: b => by
    unfold Lib.compareBytes
    by_cases h1 : x < y
    · have h2 : ¬ y < x := by simp only [UInt8.lt_iff_toNat_lt] at h1 ⊢; omega
      simp [h1, h2]
    · by_cases h2 : y < x
      · simp [h1, h2]
      · simp only [h1, h2, if_false]
        exact cb_swap a b
theorem cb_eq : ∀ (a b : List UInt8), Lib.compareBytes a b = 0 ↔ a = b
  | [], [] => by simp [Lib.compareBytes]
  | [], _ :: _ => by simp [Lib.compareBytes]
  | _ :: _, [] => by simp [Lib.compareBytes]
  | x :: a, y :: b => by
    unfold Lib.compareBytes
    by_cases h1 : x < y
    · have h3 : x ≠ y := by rintro rfl; exact absurd h1 (by simp only [UInt8.lt_iff_toNat_lt]; omega)
      simp [h1, h3]
    · by_cases h2 : y < x
      · have h3 : x ≠ y := by rintro rfl; exact absurd h2 (by simp only [UInt8.lt_iff_toNat_lt]; omega)
        simp [h1, h2, h3]
      · have h3 : x = y := by
          simp only [UInt8.lt_iff_toNat_lt] at h1 h2
          exact UInt8.toNat_inj.1 (by omega)
        subst h3
        simp only [h1, if_false, List.cons.injEq, true_and]
        exact cb_eq a b
theorem cb_trans : ∀ (a b c : List UInt8), Lib.compareBytes a b < 0 → Lib.compareBytes b c < 0 → Lib.compareBytes a c < 0
  | [], [], _ => by simp [Lib.compareBytes]
  | [], _ :: _, [] => by simp [Lib.compareBytes]
  | [], _ :: _, _ :: _ => by simp [Lib.compareBytes]
  | _ :: _, [], _ => by simp [Lib.compareBytes]
  | _ :: _, _ :: _, [] => by simp [Lib.compareBytes]
  | x :: a, y :: b, z :: c => by
    unfold Lib.compareBytes
    intro h1 h2
    have ih := cb_trans a b c
    simp only [UInt8.lt_iff_toNat_lt] at h1 h2 ⊢
    split at h1
    · split at h2
      · rw [if_pos (by omega)]; decide
      · split at h2
        · omega
        · rw [if_pos (by omega)]; decide
    · split at h1
      · omega
      · split at h2
        · rw [if_pos (by omega)]; decide
        · split at h2
          · omega
          · rw [if_neg (by omega), if_neg (by omega)]
            exact ih h1 h2

theorem ncmp_swap (a b : ByteArray) : ncmp b a = - ncmp a b := cb_swap _ _
theorem ncmp_eq {a b : ByteArray} : ncmp a b = 0 ↔ a = b := by
  unfold ncmp
  rw [cb_eq]
  constructor
  · intro h
    apply ByteArray.ext
    exact Array.toList_inj.1 h
  · rintro rfl; rfl
theorem ncmp_self (a : ByteArray) : ncmp a a = 0 := ncmp_eq.2 rfl
theorem nlt_iff {a b : ByteArray} : nlt a b = true ↔ ncmp a b < 0 := by simp [nlt]
theorem nlt_false {a b : ByteArray} : nlt a b = false ↔ 0 ≤ ncmp a b := by simp [nlt]
theorem nlt_irrefl (a : ByteArray) : nlt a a = false := by rw [nlt_false, ncmp_self]; omega
theorem nlt_trans {a b c : ByteArray} (h : nlt a b = true) (k : nlt b c = true) : nlt a c = true := nlt_iff.2 (cb_trans _ _ _ (nlt_iff.1 h) (nlt_iff.1 k))
theorem nlt_ne {a b : ByteArray} (h : nlt a b = true) : a ≠ b := by rintro rfl; rw [nlt_irrefl] at h; cases h
theorem nlt_total {a b : ByteArray} (h : nlt a b = false) (hne : a ≠ b) : nlt b a = true := by
  rw [nlt_iff, ncmp_swap]
  have h1 := nlt_false.1 h
  have h2 : ncmp a b ≠ 0 := fun e => hne (ncmp_eq.1 e)
  omega

/-- Names and what has them. -/
abbrev Tbl := List (ByteArray × Nat)
def wout (l : Tbl) (n : ByteArray) : Tbl := l.filter fun e => !decide (e.1 = n)
/-- Where a name stands, or would stand. -/
def pos (l : Tbl) (n : ByteArray) : Nat := (l.takeWhile fun e => nlt e.1 n).length
def wth (l : Tbl) (n : ByteArray) (f : Nat) : Tbl := (wout l n).take (pos (wout l n) n) ++ (n, f) :: (wout l n).drop (pos (wout l n) n)
def tfind : Tbl → ByteArray → Option Nat
  | [], _ => none
  | e :: r, n => if e.1 = n then some e.2 else tfind r n
def Sorted (l : Tbl) : Prop := l.Pairwise fun a b => nlt a.1 b.1 = true

theorem pos_le (l : Tbl) (n : ByteArray) : pos l n ≤ l.length := by
  unfold pos
  exact (List.takeWhile_sublist _).length_le
theorem pos_cons (e : ByteArray × Nat) (r : Tbl) (n : ByteArray) : pos (e :: r) n = if nlt e.1 n = true then pos r n + 1 else 0 := by
  unfold pos
  rw [List.takeWhile_cons]
  split <;> simp
theorem pos_below {l : Tbl} {n : ByteArray} {i : Nat} {e : ByteArray × Nat} (h : l[i]? = some e) (hi : i < pos l n) : nlt e.1 n = true := by
  induction l generalizing i with
  | nil => simp at h
  | cons x r ih =>
    rw [pos_cons] at hi
    split at hi
    · cases i with
      | zero => simp only [List.getElem?_cons_zero, Option.some.injEq] at h; subst h; assumption
      | succ i => exact ih (by simpa using h) (by omega)
    · omega
theorem pos_above {l : Tbl} (hs : Sorted l) {n : ByteArray} {i : Nat} {e : ByteArray × Nat} (h : l[i]? = some e) (hi : pos l n ≤ i) : nlt e.1 n = false := by
  induction l generalizing i with
  | nil => simp at h
  | cons x r ih =>
    have hs' := List.pairwise_cons.1 hs
    rw [pos_cons] at hi
    split at hi
    · cases i with
      | zero => omega
      | succ i => exact ih hs'.2 (by simpa using h) (by omega)
    · rename_i hx
      have hx' : nlt x.1 n = false := by simpa using hx
      cases i with
      | zero => simp only [List.getElem?_cons_zero, Option.some.injEq] at h; subst h; exact hx'
      | succ i =>
        have hm : e ∈ r := List.mem_of_getElem? (by simpa using h)
        have h1 := hs'.1 e hm
        cases h2 : nlt e.1 n with
        | false => rfl
        | true => rw [nlt_trans h1 h2] at hx'; cases hx'
theorem wout_none {l : Tbl} {n : ByteArray} (h : tfind l n = none) : wout l n = l := by
  unfold wout
  rw [List.filter_eq_self]
  induction l with
  | nil => intro a ha; cases ha
  | cons e r ih =>
    unfold tfind at h
    split at h
    · cases h
    · rename_i hne
      intro a ha
      rcases List.mem_cons.1 ha with rfl | ha
      · simpa using hne
      · exact ih h a ha
theorem tfind_mem {l : Tbl} {n : ByteArray} {f : Nat} (h : tfind l n = some f) : (n, f) ∈ l := by
  induction l with
  | nil => cases h
  | cons e r ih =>
    unfold tfind at h
    split at h
    · rename_i hn
      cases h
      subst hn
      exact List.mem_cons_self ..
    · exact List.mem_cons_of_mem _ (ih h)
theorem tfind_none {l : Tbl} {n : ByteArray} : tfind l n = none ↔ ∀ e ∈ l, e.1 ≠ n := by
  induction l with
  | nil => simp [tfind]
  | cons e r ih =>
    unfold tfind
    by_cases h : e.1 = n
    · simp [h]
    · simp [h, ih]
/-- What stands at a name's place. -/
theorem tfind_pos {l : Tbl} (hs : Sorted l) (n : ByteArray) : tfind l n = match l[pos l n]? with | some e => if e.1 = n then some e.2 else none | none => none := by
  induction l with
  | nil => rfl
  | cons e r ih =>
    have hs' := List.pairwise_cons.1 hs
    rw [pos_cons]
    unfold tfind
    by_cases hn : e.1 = n
    · simp [hn, nlt_irrefl]
    · by_cases hl : nlt e.1 n = true
      · rw [if_neg hn, if_pos hl, ih hs'.2]
        simp
      · rw [if_neg hn, if_neg hl]
        simp only [List.getElem?_cons_zero, if_neg hn]
        rw [tfind_none]
        intro x hx hxn
        have h1 := hs'.1 x hx
        rw [hxn] at h1
        exact hl h1
theorem tfind_at {l : Tbl} (hs : Sorted l) {n : ByteArray} {f : Nat} (h : tfind l n = some f) : l[pos l n]? = some (n, f) := by
  rw [tfind_pos hs] at h
  split at h
  · rename_i e he
    split at h
    · rename_i hn
      cases h
      rw [he, ← hn]
    · cases h
  · cases h
theorem wout_sublist (l : Tbl) (n : ByteArray) : (wout l n).Sublist l := List.filter_sublist
theorem wout_sorted {l : Tbl} (hs : Sorted l) (n : ByteArray) : Sorted (wout l n) := hs.sublist (wout_sublist l n)
theorem wout_length (l : Tbl) (n : ByteArray) : (wout l n).length ≤ l.length := (wout_sublist l n).length_le
theorem wout_find (l : Tbl) (n : ByteArray) : tfind (wout l n) n = none := by
  rw [tfind_none]
  intro e he
  have := (List.mem_filter.1 he).2
  simpa using this
theorem eraseIdx_eq (l : Tbl) (i : Nat) (n : ByteArray) (h : ∀ j e, l[j]? = some e → (e.1 = n ↔ j = i)) : l.eraseIdx i = wout l n := by
  induction l generalizing i with
  | nil => rfl
  | cons x r ih =>
    cases i with
    | zero =>
      have hx := (h 0 x rfl).2 rfl
      have hr : wout r n = r := by
        unfold wout
        rw [List.filter_eq_self]
        intro a ha
        obtain ⟨j, hj⟩ := List.getElem?_of_mem ha
        have := h (j + 1) a (by simpa using hj)
        simp only [Nat.add_eq_zero_iff, Nat.succ_ne_self, and_false, iff_false] at this
        simpa using this
      simp [wout, hx]
      exact hr.symm
    | succ i =>
      have hx : ¬ x.1 = n := fun e => by have := (h 0 x rfl).1 e; omega
      rw [List.eraseIdx_cons_succ, ih i (fun j e he => by
        have := h (j + 1) e (by simpa using he)
        rw [this]
        omega)]
      simp [wout, hx]
theorem erase_pos {l : Tbl} (hs : Sorted l) {n : ByteArray} {f : Nat} (h : tfind l n = some f) : l.eraseIdx (pos l n) = wout l n := by
  refine eraseIdx_eq l _ n fun j e he => ⟨fun hn => ?_, fun hj => ?_⟩
  · have h1 := tfind_at hs h
    have h2 : ¬ j < pos l n := fun hlt => nlt_ne (pos_below he hlt) hn
    by_cases h3 : j = pos l n
    · exact h3
    · have hp : pos l n < j := by omega
      have hjl : j < l.length := (List.getElem?_eq_some_iff.1 he).1
      have hpl : pos l n < l.length := by omega
      have := List.pairwise_iff_getElem.1 hs (pos l n) j hpl hjl hp
      rw [(List.getElem?_eq_some_iff.1 he).2, (List.getElem?_eq_some_iff.1 h1).2, hn] at this
      rw [nlt_irrefl] at this
      cases this
  · subst hj
    rw [tfind_at hs h] at he
    cases he
    rfl
theorem erase_take_drop (l : Tbl) (i : Nat) : l.eraseIdx i = l.take i ++ l.drop (i + 1) := List.eraseIdx_eq_take_drop_succ ..

theorem pos_append {a b : Tbl} {n : ByteArray} (h : ∀ e ∈ a, nlt e.1 n = true) (hb : ∀ e, b.head? = some e → nlt e.1 n = false) : pos (a ++ b) n = a.length := by
  induction a with
  | nil =>
    cases b with
    | nil => rfl
    | cons e r => rw [List.nil_append, pos_cons, hb e rfl]; rfl
  | cons x a ih =>
    rw [List.cons_append, pos_cons, h x (List.mem_cons_self ..), if_pos rfl, ih (fun e he => h e (List.mem_cons_of_mem _ he)), List.length_cons]
/-- A name that is there gets another file. -/
theorem set_pos {l : Tbl} (hs : Sorted l) {n : ByteArray} {f g : Nat} (h : tfind l n = some f) : l.set (pos l n) (n, g) = wth l n g := by
  have hat := tfind_at hs h
  obtain ⟨hlt, hge⟩ := List.getElem?_eq_some_iff.1 hat
  have hw : wout l n = l.take (pos l n) ++ l.drop (pos l n + 1) := by rw [← erase_pos hs h, erase_take_drop]
  have hp : pos (wout l n) n = pos l n := by
    rw [hw, pos_append (a := l.take (pos l n))]
    · rw [List.length_take]
      omega
    · intro e he
      obtain ⟨j, hj⟩ := List.getElem?_of_mem he
      rw [List.getElem?_take] at hj
      split at hj
      · exact pos_below hj (by assumption)
      · cases hj
    · intro e he
      rw [List.head?_drop] at he
      exact pos_above hs he (by omega)
  unfold wth
  rw [hp, hw]
  have hlen : (l.take (pos l n)).length = pos l n := by rw [List.length_take]; omega
  rw [List.take_append_of_le_length (by omega), List.take_of_length_le (by omega), List.drop_append_of_le_length (by omega), List.drop_of_length_le (by omega), List.nil_append]
  rw [List.set_eq_take_append_cons_drop, if_pos hlt]
/-- A name that isn't there is laid in. -/
theorem ins_pos {l : Tbl} {n : ByteArray} (h : tfind l n = none) (f : Nat) : l.take (pos l n) ++ (n, f) :: l.drop (pos l n) = wth l n f := by
  unfold wth
  rw [wout_none h]
theorem wth_length (l : Tbl) (n : ByteArray) (f : Nat) : (wth l n f).length = (wout l n).length + 1 := by
  unfold wth
  have := pos_le (wout l n) n
  simp
  omega
theorem wth_mem {l : Tbl} {n : ByteArray} {f : Nat} {e : ByteArray × Nat} (h : e ∈ wth l n f) : e = (n, f) ∨ e ∈ l := by
  unfold wth at h
  rcases List.mem_append.1 h with h | h
  · exact .inr ((wout_sublist l n).mem (List.mem_of_mem_take h))
  · rcases List.mem_cons.1 h with h | h
    · exact .inl h
    · exact .inr ((wout_sublist l n).mem (List.mem_of_mem_drop h))
theorem wth_sorted {l : Tbl} (hs : Sorted l) (n : ByteArray) (f : Nat) : Sorted (wth l n f) := by
  have hw := wout_sorted hs n
  have hnone := wout_find l n
  unfold wth
  generalize wout l n = k at hw hnone
  unfold Sorted
  rw [List.pairwise_append]
  refine ⟨hw.sublist (List.take_sublist _ _), ?_, ?_⟩
  · rw [List.pairwise_cons]
    refine ⟨fun e he => ?_, hw.sublist (List.drop_sublist _ _)⟩
    obtain ⟨j, hj⟩ := List.getElem?_of_mem he
    rw [List.getElem?_drop] at hj
    exact nlt_total (pos_above hw hj (by show pos k n ≤ _; omega)) (tfind_none.1 hnone e (List.mem_of_getElem? hj))
  · intro a ha b hb
    obtain ⟨i, hi⟩ := List.getElem?_of_mem ha
    rw [List.getElem?_take] at hi
    split at hi
    · rename_i hip
      rcases List.mem_cons.1 hb with rfl | hb
      · exact pos_below hi hip
      · obtain ⟨j, hj⟩ := List.getElem?_of_mem hb
        rw [List.getElem?_drop] at hj
        have hil := (List.getElem?_eq_some_iff.1 hi)
        have hjl := (List.getElem?_eq_some_iff.1 hj)
        have := List.pairwise_iff_getElem.1 hw i (pos k n + j) hil.1 hjl.1 (by omega)
        rw [hil.2, hjl.2] at this
        exact this
    · cases hi

/-- A file: its bytes, and how many of the first ones last. -/
structure Fil where
  b : List UInt8
  lasts : Nat
/-- A deed of names: from one to another ('' is none). -/
structure Dd where
  src : ByteArray
  dst : ByteArray
  file : Nat
structure Dsk where
  cap : Nat
  files : List Fil
  now : Tbl
  las : Tbl
  deeds : List Dd
  armed : Option Nat

def noName : ByteArray := ⟨#[]⟩
def turnT (l : Tbl) (x : Dd) : Tbl := if x.dst = noName then wout l x.src else wth (wout l x.src) x.dst x.file
def fat (fs : List Fil) (k : Nat) : Fil := fs.getD k ⟨[], 0⟩
def usedT (fs : List Fil) : Tbl → Nat
  | [] => 0
  | e :: r => (fat fs e.2).b.length + usedT fs r
def Dsk.used (d : Dsk) : Nat := usedT d.files d.now

/-- Is it a byte of a name? -/
def okB (c : UInt8) : Bool := decide (97 ≤ c ∧ c ≤ 122 ∨ 48 ≤ c ∧ c ≤ 57 ∨ c = 46)
def isNm (s : ByteArray) : Bool := decide (1 ≤ s.size ∧ s.size ≤ 32) && s.data.toList.all okB

def Dsk.done (d : Dsk) : Dsk := { d with armed := d.armed.map (· - 1) }
def Dsk.nameD (d : Dsk) (x : Dd) : Dsk := { d with now := turnT d.now x, deeds := d.deeds ++ [x] }.done
def Dsk.setF (d : Dsk) (k : Nat) (f : Fil) : Dsk := { d with files := d.files.set k f }
def Dsk.syncN (d : Dsk) : Dsk := { d with las := d.now, deeds := [] }

def Dsk.create (d : Dsk) (n : ByteArray) : Dsk × Nat :=
  if d.armed = some 0 then (d, 12) else if isNm n = false then (d, 1) else if (tfind d.now n).isSome = true then (d, 8) else if 64 ≤ d.now.length then (d, 11)
  else (({ d with files := d.files ++ [⟨[], 0⟩] } : Dsk).nameD ⟨noName, n, d.files.length⟩, 0)
/-- What a call does with the file that has a name. -/
def Dsk.on {α : Type} (d : Dsk) (n : ByteArray) (no : Nat → α) (f : Nat → α) : α :=
  if d.armed = some 0 then no 12 else match tfind d.now n with | none => no 6 | some k => f k
def Dsk.append (d : Dsk) (n : ByteArray) (b : List UInt8) : Dsk × Nat :=
  d.on n (fun c => (d, c)) fun k =>
    if 16777216 < (fat d.files k).b.length + b.length then (d, 2) else if d.cap < d.used + b.length then (d, 11)
    else ((d.setF k ⟨(fat d.files k).b ++ b, (fat d.files k).lasts⟩).done, 0)
def Dsk.read (d : Dsk) (n : ByteArray) (off m : Int) : List UInt8 × Nat :=
  d.on n (fun c => ([], c)) fun k =>
    if off < 0 ∨ m < 0 then ([], 1) else if (fat d.files k).b.length < off + m then ([], 3) else (((fat d.files k).b.drop off.toNat).take m.toNat, 0)
def Dsk.size (d : Dsk) (n : ByteArray) : Nat × Nat := d.on n (fun c => (0, c)) fun k => ((fat d.files k).b.length, 0)
def Dsk.sync (d : Dsk) (n : ByteArray) : Dsk × Nat :=
  d.on n (fun c => (d, c)) fun k => ((d.setF k ⟨(fat d.files k).b, (fat d.files k).b.length⟩).done, 0)
def Dsk.syncNames (d : Dsk) : Dsk × Nat := if d.armed = some 0 then (d, 12) else (d.syncN.done, 0)
def Dsk.rename (d : Dsk) (n t : ByteArray) : Dsk × Nat :=
  d.on n (fun c => (d, c)) fun k => if isNm t = false then (d, 1) else (d.nameD ⟨n, t, k⟩, 0)
def Dsk.cut (d : Dsk) (n : ByteArray) (m : Int) : Dsk × Nat :=
  d.on n (fun c => (d, c)) fun k => if m < 0 ∨ (fat d.files k).b.length < m then (d, 1) else ((d.setF k ⟨(fat d.files k).b.take m.toNat, m.toNat⟩).done, 0)
def Dsk.arm (d : Dsk) (m : Int) : Dsk × Nat := if d.armed = some 0 then (d, 12) else if m < 0 then (d, 1) else ({ d with armed := some m.toNat }, 0)
/-- What holds of every disk. k: how many calls there were. -/
structure Dsk.Ok (d : Dsk) (k : Nat) : Prop where
  cap : d.cap ≤ 1073741824
  nowS : Sorted d.now
  lasS : Sorted d.las
  nowF : ∀ e ∈ d.now, e.2 < d.files.length ∧ isNm e.1 = true
  lasF : ∀ e ∈ d.las, e.2 < d.files.length ∧ isNm e.1 = true
  deeF : ∀ x ∈ d.deeds, (x.dst = noName ∨ isNm x.dst = true ∧ x.file < d.files.length) ∧ (x.src = noName ∨ isNm x.src = true) ∧ (x.src = noName → x.dst ≠ noName)
  fil : ∀ f ∈ d.files, f.lasts ≤ f.b.length ∧ f.b.length ≤ 16777216
  filN : d.files.length ≤ k
  nowN : d.now.length ≤ d.las.length + d.deeds.length
  lenN : d.las.length + d.deeds.length ≤ k
  arm : ∀ n, d.armed = some n → n < 9223372036854775808

end Go.Cor
end

section
namespace Go.Proofs.YtllbngopfganjaaGreatDoor
open Go.RowKit Go.Cor

theorem compare_in (a b : ByteArray) (w : World) :
    Calls Tryz.prog 133 #[.string a, .string b] w fun e w' => e = .returned (.int .i64 (ncmp a b)) ∧ w = w' := by
  have hx := @run_callFunc_extern Tryz.prog 150 _ Extern.BytealgCompare.compare Tryz.func150 (by kernel_rfl) (by kernel_rfl) (by kernel_rfl) (by kernel_rfl)
  have hc := fun w => Lib.run_compareString (P := Tryz.prog) a b w
  rw [show Lib.compareBytes a.data.toList b.data.toList = ncmp a b from rfl] at hc
  go_enter Tryz.func133, Tryz.ntmps133
  go_wp2
  go_ret
  exact ⟨rfl, rfl⟩
theorem compare_any (a b : ByteArray) (w : World) :
    Calls Tryz.prog 108 #[.string a, .string b] w fun e w' => e = .returned (.int .i64 (ncmp a b)) ∧ w = w' := by
  go_enter Tryz.func108, Tryz.ntmps108
  go_wp2_with (go_at_call 133; refine (compare_in _ _ _).mono ?_; rintro e w' ⟨rfl, rfl⟩)
  go_ret
  exact ⟨rfl, rfl⟩
theorem closure_any (a b : ByteArray) (f : Value) (w : World) (hf : f.oneCell' = true) :
    Calls Tryz.prog 107 #[.agg #[.string a, f], .string b] w fun e w' => e = .returned (.int .i64 (ncmp a b)) ∧ Below w.heap.size w w' := by
  go_enter Tryz.func107, Tryz.ntmps107
  go_wp2_with (go_at_call 108; refine (compare_any _ _ _).mono ?_; rintro e w' ⟨rfl, rfl⟩)
  go_ret
  exact ⟨rfl, (Below.refl _ _).alloc (Nat.le_refl _) _⟩

theorem Tryz.infoU8s : (Tryz.prog.info? 5).map (fun i => (i.zero, i.size, i.bytes)) = some (some (.int .u8 0), 1, 1) := by kernel_rfl

set_option maxHeartbeats 4000000 in
set_option maxRecDepth 100000 in
theorem clone_in (s : ByteArray) (w : World) (hlim : s.size ≤ 281474976710656) :
    Calls Tryz.prog 134 #[.string s] w fun e w' => e = .returned (.string s) ∧ Below w.heap.size w w' := by
  by_cases h0 : s.size = 0
  · have hs : s = ⟨#[]⟩ := by
      apply ByteArray.ext
      exact Array.eq_empty_of_size_eq_zero h0
    subst hs
    go_enter Tryz.func134, Tryz.ntmps134
    go_wp2
    go_ret
    exact ⟨rfl, Below.refl _ _⟩
  · obtain ⟨i0, hi, hz0, hz1, hz2⟩ := info_parts Tryz.infoU8s
    have hinfo : (Tryz.prog.info? 5).map (·.size) = some 1 := by rw [hi]; simp [hz1]
    have hco : Tryz.prog.cellsOf 5 = 1 := by simp [Program.cellsOf, hi, hz1]
    obtain ⟨M, hM⟩ : ∃ M, M = madeCells (Value.int .u8 0).cells (((s.size : Nat) : Int).toNat * i0.size) := ⟨_, rfl⟩
    have hMs : M.size = s.size := by rw [hM, size_madeCells, hz1]; simp
    have hmk : ∀ W : World, (Instr.makeSlice 33 (.int .i64 (s.size : Int)) (.int .i64 (s.size : Int))).run Tryz.prog W = .ok (.slice (some ⟨W.heap.size, 0, none⟩) s.size s.size) (W.alloc (.cells M 5)) := fun W => by
      have h := run_make (P := Tryz.prog) W 33 5 i0 (.int .u8 0) Tryz.underlying33 hi hz0 .i64 .i64 (s.size : Int) (s.size : Int) (by omega) (by omega) (by rw [hz2]; omega) (by omega)
      rw [← hM] at h
      simpa using h
    clear hM
    have hcp := Lib.run_copy_row_string (P := Tryz.prog) (w.alloc (.cells M 5)) 33 9 3 5 w.heap.size 0 s.size s.size s M 5 Tryz.underlying33 hinfo (heap_alloc_new w _) (Nat.le_refl _) (by omega)
    obtain ⟨Y, hY⟩ : ∃ Y, Y = (M.toList.take 0 ++ Lib.byteCells s.data.toList ++ M.toList.drop (0 + s.size)).toArray := ⟨_, rfl⟩
    rw [← hY] at hcp
    have hYl : Y.toList = Lib.byteCells s.data.toList := by
      rw [hY, List.toList_toArray, List.take_zero, List.nil_append, List.drop_of_length_le (by rw [Array.length_toList]; omega), List.append_nil]
    have hYs : Y.size = s.size := by rw [← Array.length_toList, hYl, Lib.byteCells_length, ← Lib.size_eq]
    have hgY : ((w.alloc (.cells M 5)).setRow w.heap.size Y).heap[w.heap.size]? = some (.cells Y 5 (0, 0)) := setRow_heap _ _ M _ 5 (0, 0) (heap_alloc_new w _)
    have hne : s.data.toList ≠ [] := fun e => h0 (by rw [Lib.size_eq, e]; rfl)
    have hUS := Lib.run_unsafeString_row (P := Tryz.prog) ((w.alloc (.cells M 5)).setRow w.heap.size Y) 249 3 9 5 Tryz.underlying249 hco w.heap.size Y.size (by unfold World.shape?; rw [hgY]) s.data.toList hne (by rw [← Lib.size_eq]; omega) (by rw [← Lib.size_eq]; omega)
      (fun j x hx => Lib.cells_of_row hgY Y.size j _ (by rw [List.take_of_length_le (by rw [Array.length_toList]; exact Nat.le_refl _), hYl]; simp [Lib.byteCells, hx]))
    rw [← Lib.size_eq] at hUS
    clear hY
    go_enter Tryz.func134, Tryz.ntmps134
    go_wp2
    go_ret
    have hb1 : Below w.heap.size w (w.alloc (.cells M 5)) := (Below.refl _ w).alloc (Nat.le_refl _) _
    have hb2 : Below w.heap.size (w.alloc (.cells M 5)) ((w.alloc (.cells M 5)).setRow w.heap.size Y) := ⟨rfl, rfl, rfl, by simp, fun k hk => setRow_other _ _ _ _ (by omega)⟩
    exact ⟨rfl, Lib.below_freeze (hb1.trans hb2) (p := ⟨w.heap.size, 0, none⟩) (Nat.le_refl _) _⟩
theorem sclone_any (s : ByteArray) (w : World) (hlim : s.size ≤ 281474976710656) :
    Calls Tryz.prog 109 #[.string s] w fun e w' => e = .returned (.string s) ∧ Below w.heap.size w w' := by
  go_enter Tryz.func109, Tryz.ntmps109
  go_wp2_with fail
  refine (clone_in s _ hlim).mono ?_
  rintro e w' ⟨rfl, hb⟩
  go_wp2
  go_ret
  exact ⟨rfl, hb⟩

end Go.Proofs.YtllbngopfganjaaGreatDoor
end

section
namespace Go.Proofs.YtllbngopfganjaaGreatDoor
open Go.RowKit Go.Cor

theorem okB_iff (c : UInt8) : okB c = true ↔ (97 ≤ c.toNat ∧ c.toNat ≤ 122 ∨ 48 ≤ c.toNat ∧ c.toNat ≤ 57 ∨ c.toNat = 46) := by
  unfold okB
  rw [decide_eq_true_iff]
  simp only [UInt8.le_iff_toNat_le, ← UInt8.toNat_inj]
  exact Iff.rfl
theorem take_all (s : ByteArray) (k : Nat) (h : k < s.size) : (s.data.toList.take (k + 1)).all okB = ((s.data.toList.take k).all okB && okB s[k]) := by
  rw [List.take_succ_eq_append_getElem (by simpa using h), List.all_append]
  simp
  rfl
theorem all_false {s : ByteArray} {k : Nat} (h : k < s.size) (hc : okB s[k] = false) : s.data.toList.all okB = false := by
  rw [List.all_eq_false]
  refine ⟨s[k], ?_, by simp [hc]⟩
  exact List.getElem_mem (l := s.data.toList) (n := k) (by simpa using h)
theorem byte_cases (x : Nat) (P : Prop) (h : ¬ (97 ≤ x ∧ x ≤ 122 ∨ 48 ≤ x ∧ x ≤ 57 ∨ x = 46)) (h1 : x < 46 → P) (h2 : x = 47 → P) (h3 : 57 < x → x < 97 → P) (h4 : 122 < x → P) : P := by
  by_cases a : x < 46
  · exact h1 a
  by_cases b : x = 47
  · exact h2 b
  by_cases c : x < 97
  · exact h3 (by omega) c
  · exact h4 (by omega)

set_option maxHeartbeats 1000000 in
theorem isName_any (s : ByteArray) (w : World) (hs : s.size ≤ 9223372036854775807) :
    Calls Tryz.prog 79 #[.string s] w fun e w' => e = .returned (.bool (isNm s)) ∧ w = w' := by
  obtain ⟨r, hr⟩ : ∃ r, isNm s = r := ⟨_, rfl⟩
  rw [hr]
  have HR := Lib.hid hr
  clear hr
  by_cases h1 : s.size < 1
  · obtain rfl : r = false := by rw [← HR.out]; unfold isNm; rw [decide_eq_false (by omega)]; rfl
    have h1' : (s.size : Int) < 1 := by omega
    go_enter Tryz.func79, Tryz.ntmps79
    go_wp2
    go_ret
    exact ⟨rfl, rfl⟩
  · by_cases h2 : 32 < s.size
    · obtain rfl : r = false := by rw [← HR.out]; unfold isNm; rw [decide_eq_false (by omega)]; rfl
      have h1' : ¬ (s.size : Int) < 1 := by omega
      have h2' : (32 : Int) < (s.size : Int) := by omega
      go_enter Tryz.func79, Tryz.ntmps79
      go_wp2
      go_ret
      exact ⟨rfl, rfl⟩
    · have h1' : ¬ (s.size : Int) < 1 := by omega
      have h2' : ¬ (32 : Int) < (s.size : Int) := by omega
      have HA := Lib.hid (show isNm s = s.data.toList.all okB from by unfold isNm; rw [decide_eq_true (by omega)]; rfl)
      go_enter Tryz.func79, Tryz.ntmps79
      go_wp2
      go_loop [15] (fun c => ∃ k : Nat, k ≤ s.size ∧ c = .int .i64 k ∧ Hid ((s.data.toList.take k).all okB = true)) (fun c => s.size - (intOf c).toNat)
      case atStart => exact ⟨0, Nat.zero_le _, rfl, Lib.hid rfl⟩
      case round =>
        obtain ⟨k, hk, rfl, hK⟩ := hrel
        by_cases hlt : k < s.size
        · by_cases hok : 97 ≤ s[k].toNat ∧ s[k].toNat ≤ 122 ∨ 48 ≤ s[k].toNat ∧ s[k].toNat ≤ 57 ∨ s[k].toNat = 46
          · have HN := Lib.hid (show (s.data.toList.take (k + 1)).all okB = true from by rw [take_all s k hlt, hK.out, (okB_iff _).2 hok]; rfl)
            rcases hok with hok | hok | hok
            all_goals
              go_wp2
              go_round
              case rel => exact ⟨k + 1, by omega, by go_num, HN⟩
              case measure => simp [intOf]; omega
          · obtain rfl : r = false := by
              rw [← HR.out, HA.out]
              refine all_false hlt ?_
              cases hq : okB s[k] with
              | false => rfl
              | true => exact absurd ((okB_iff _).1 hq) hok
            have hne1 : ((s[k].toNat : Int) != 46) = true := by
              have : s[k].toNat ≠ 46 := fun e => hok (.inr (.inr e))
              simp
              omega
            refine byte_cases s[k].toNat _ hok (fun a => ?_) (fun a => ?_) (fun a b => ?_) (fun a => ?_)
            all_goals
              clear hok
              go_wp2
              go_ret
              exact ⟨rfl, rfl⟩
        · obtain rfl : k = s.size := by omega
          obtain rfl : r = true := by
            rw [← HR.out, HA.out]
            have := hK.out
            rw [List.take_of_length_le (by simp)] at this
            exact this
          go_wp2
          go_ret
          exact ⟨rfl, rfl⟩

end Go.Proofs.YtllbngopfganjaaGreatDoor
end

section
namespace Go.Proofs.YtllbngopfganjaaGreatDoor
open Go.RowKit Go.Cor

theorem Tryz.infoEnt : (Tryz.prog.info? 164).map (fun i => (i.zero, i.size, i.bytes)) = some (some (.agg #[.string ⟨#[]⟩, .pointer none]), 2, 24) := by kernel_rfl
theorem Tryz.sizeEnt : (Tryz.prog.info? 164).map (·.size) = some 2 := by kernel_rfl

/-- An entry as cells; fb: where a file's box lies. -/
def ent (fb : Nat → Nat) (e : ByteArray × Nat) : List Value := [.string e.1, .pointer (some ⟨fb e.2, 0, none⟩)]
theorem ent_len (fb : Nat → Nat) (e : ByteArray × Nat) : (ent fb e).length = 2 := rfl
theorem ent_one (fb : Nat → Nat) (l : Tbl) : ∀ v ∈ row (ent fb) l, v.oneCell' = true := by
  refine row_mem fun x _ v hv => ?_
  simp only [ent, List.mem_cons, List.not_mem_nil, or_false] at hv
  rcases hv with rfl | rfl <;> rfl
/-- v is a table that reads as l. -/
def IsT (w : World) (fb : Nat → Nat) (v : Value) (l : Tbl) : Prop := IsX w 2 v l.length (row (ent fb) l)
theorem indexAt_T {w : World} {fb : Nat → Nat} {v : Value} {l : Tbl} (hv : IsT w fb v l) (T : TypeId) (ht : Tryz.prog.underlying T = some (.slice 164)) {i : Nat} {e : ByteArray × Nat} (he : l[i]? = some e) :
    ∃ b o, (∀ W, (Instr.indexAt T v (.int .i64 (i : Int))).run Tryz.prog W = .ok (.pointer (some ⟨b, o, none⟩)) W) ∧ v.ownBlock = some b ∧ w.cell? ⟨b, o, none⟩ = some (.string e.1) ∧ w.cell? ⟨b, o + 1, none⟩ = some (.pointer (some ⟨fb e.2, 0, none⟩)) := by
  have hi : i < l.length := (List.getElem?_eq_some_iff.1 he).1
  obtain ⟨b, o, h1, h2, h3⟩ := indexAt_X hv T _ ht Tryz.sizeEnt i hi
  refine ⟨b, o, h1, h2, ?_, ?_⟩
  · have := h3 0 (by decide)
    rw [row_get (ent_len fb) he 0 (by decide)] at this
    exact this
  · have := h3 1 (by decide)
    rw [row_get (ent_len fb) he 1 (by decide)] at this
    exact this

set_option maxRecDepth 100000 in
set_option maxHeartbeats 1000000 in
theorem search_any (fb : Nat → Nat) (v : Value) (l : Tbl) (n : ByteArray) (w : World) (hv : IsT w fb v l) (hs : Sorted l) (hl : l.length ≤ 1048576) :
    Calls Tryz.prog 106 #[v, .string n, .func (.func 107) #[] #[]] w fun e w' => e = .returned (.tuple #[.int .i64 (pos l n), .bool (tfind l n).isSome]) ∧ Below w.heap.size w w' := by
  obtain ⟨N, hN⟩ : ∃ N, l.length = N := ⟨_, rfl⟩
  obtain ⟨q, hq⟩ : ∃ q, pos l n = q := ⟨_, rfl⟩
  obtain ⟨r, hr⟩ : ∃ r, (tfind l n).isSome = r := ⟨_, rfl⟩
  have hqN := pos_le l n
  have hlen := fun W => len_X (P := Tryz.prog) hv 91 3 164 Tryz.underlying91 W
  rw [hN] at hlen hqN hl
  rw [hq] at hqN
  rw [hq, hr]
  have HV := Lib.hid hv
  have HN := Lib.hid hN
  have HQ := Lib.hid hq
  have HR := Lib.hid hr
  clear hv hN hq hr
  go_enter Tryz.func106, Tryz.ntmps106
  go_wp2
  go_loopw [9, 10] (fun a b wr => ∃ i j : Nat, i ≤ q ∧ q ≤ j ∧ j ≤ N ∧ a = .int .i64 i ∧ b = .int .i64 j ∧ Hid (Below w.heap.size w wr)) (fun a b _ => (intOf b).toNat - (intOf a).toNat)
  case atStart => exact ⟨0, N, Nat.zero_le _, hqN, Nat.le_refl _, rfl, rfl, Lib.hid (Below.refl _ _)⟩
  case round =>
    obtain ⟨i, j, hiq, hqj, hjN, rfl, rfl, hB⟩ := hrel
    by_cases hlt : i < j
    · obtain ⟨e, he⟩ : ∃ e, l[(i + j) / 2]? = some e := ⟨_, List.getElem?_eq_getElem (by rw [HN.out]; omega)⟩
      obtain ⟨b, o, hidx, hob, c0, c1⟩ := indexAt_T (HV.out.mono hB.out (Nat.le_refl _)) 91 Tryz.underlying91 he
      rw [show ((((i + j) / 2 : Nat)) : Int) = ((i : Int) + (j : Int)) / 2 from by omega] at hidx
      have HC := Lib.hid hB
      obtain ⟨c, hc⟩ : ∃ c, ncmp e.1 n = c := ⟨_, rfl⟩
      have HE := Lib.hid he
      have HCM := Lib.hid hc
      clear he hc
      go_wp2_with fail
      refine (closure_any _ _ _ _ rfl).mono ?_
      rintro e2 w2 ⟨rfl, hb2⟩
      rw [HCM.out]
      have HB2 := Lib.hid (hB.out.trans (hb2.mono hB.out.size))
      clear hb2 c0 c1 hidx
      by_cases hneg : c < 0
      · have hiq2 : (i + j) / 2 + 1 ≤ q := by
          by_cases h : (i + j) / 2 < q
          · exact h
          · have h2 := pos_above hs HE.out (by rw [HQ.out]; omega)
            rw [nlt_false, HCM.out] at h2
            omega
        go_wp2
        go_roundw
        case rel => exact ⟨(i + j) / 2 + 1, j, hiq2, hqj, hjN, by congr 1, rfl, HB2⟩
        case measure => simp [intOf]; omega
      · have hqj2 : q ≤ (i + j) / 2 := by
          by_cases h : (i + j) / 2 < q
          · have h2 := pos_below HE.out (by rw [HQ.out]; omega)
            rw [nlt_iff, HCM.out] at h2
            omega
          · omega
        go_wp2
        go_roundw
        case rel => exact ⟨i, (i + j) / 2, hiq, hqj2, by omega, rfl, by congr 1, HB2⟩
        case measure => simp [intOf]; omega
    · obtain rfl : i = q := by omega
      have hfp := tfind_pos hs n
      rw [HQ.out] at hfp
      by_cases hiN : i < N
      · obtain ⟨e, he⟩ : ∃ e, l[i]? = some e := ⟨_, List.getElem?_eq_getElem (by rw [HN.out]; omega)⟩
        obtain ⟨b, o, hidx, hob, c0, c1⟩ := indexAt_T (HV.out.mono hB.out (Nat.le_refl _)) 91 Tryz.underlying91 he
        rw [he] at hfp
        obtain ⟨c, hc⟩ : ∃ c, ncmp e.1 n = c := ⟨_, rfl⟩
        have HE := Lib.hid he
        have HCM := Lib.hid hc
        have hrc : r = (c == 0) := by
          rw [← HR.out, hfp, ← hc]
          by_cases hen : e.1 = n
          · simp [hen, ncmp_self]
          · have : ncmp e.1 n ≠ 0 := fun h => hen (ncmp_eq.1 h)
            simp [hen, this]
        have HRC := Lib.hid hrc
        clear he hc hfp hrc
        go_wp2_with fail
        refine (closure_any _ _ _ _ rfl).mono ?_
        rintro e2 w2 ⟨rfl, hb2⟩
        rw [HCM.out]
        have HB2 := Lib.hid (hB.out.trans (hb2.mono hB.out.size))
        clear hb2 c0 c1 hidx
        go_wp2
        go_ret2
        exact ⟨by rw [HRC.out]; rfl, HB2.out⟩
      · have hrf : r = false := by
          rw [← HR.out, hfp, List.getElem?_eq_none (by rw [HN.out]; omega)]
          rfl
        subst hrf
        clear hfp
        go_wp2
        go_ret2
        exact ⟨rfl, hB.out⟩

theorem place_any (fb : Nat → Nat) (v : Value) (l : Tbl) (n : ByteArray) (w : World) (hv : IsT w fb v l) (hs : Sorted l) (hl : l.length ≤ 1048576) :
    Calls Tryz.prog 80 #[v, .string n] w fun e w' => e = .returned (.tuple #[.int .i64 (pos l n), .bool (tfind l n).isSome]) ∧ Below w.heap.size w w' := by
  go_enter Tryz.func80, Tryz.ntmps80
  go_wp2_with fail
  refine (search_any fb v l n _ hv hs hl).mono ?_
  rintro e w' ⟨rfl, hb⟩
  go_wp2
  go_ret2
  exact ⟨rfl, hb⟩

end Go.Proofs.YtllbngopfganjaaGreatDoor
end

section
namespace Go.Proofs.YtllbngopfganjaaGreatDoor
open Go.RowKit Go.Cor

set_option maxHeartbeats 400000 in
theorem tclone_any (fb : Nat → Nat) (v : Value) (l : Tbl) (w : World) (hv : IsT w fb v l) (hl : l.length ≤ 1048576) :
    Calls Tryz.prog 111 #[v] w fun e w' =>
      ∃ v', e = .returned v' ∧ w'.ownsRow w.heap.size 164 2 v' l.length (row (ent fb) l) ∧ Below w.heap.size w w' := by
  obtain ⟨i0, hi, hz0, hz1, hz2⟩ := info_parts Tryz.infoEnt
  have q22 : ∀ (w : World) (a : Option Addr) (n c n' c' : Nat), (binOp .eql 91 (.slice a n c) (.slice none n' c')).run Tryz.prog w = .ok (.bool a.isNone) w := fun w a n c n' c' => Lib.run_eql_slice_nil w _ _ a n c n' c' Tryz.underlying91
  have HV := Lib.hid hv
  obtain ⟨x, cap, rfl, hlc, hcm, hll, hnc, hcell⟩ := hv
  clear hcell hll
  cases x with
  | none =>
    obtain rfl := hnc rfl
    obtain rfl : l = [] := List.eq_nil_of_length_eq_zero (by omega)
    go_enter Tryz.func111, Tryz.ntmps111
    go_wp2
    go_ret
    exact ⟨_, rfl, World.ownsRow_nil _ _ _ _, Below.refl _ _⟩
  | some a =>
    clear hnc
    go_enter Tryz.func111, Tryz.ntmps111
    go_wp2_with (at_builtin; refine wpList_append_X (by rfl) _ _ 91 91 rfl (fun _ _ _ => rfl) w.heap.size 164 i0 _ 2 24 Tryz.underlying91 hi hz0 hz1 hz2 rfl (by decide) _ [] 0 rfl (World.ownsRow_lit _ #[] 0 (Nat.le_refl _) (Nat.zero_le _) rfl) _ l.length _ rfl (HV.out.mono ((Below.refl _ _).alloc (Nat.le_refl _) _) (Nat.le_refl _)) (ent_one fb l) (by unfold maxLen; omega) (by omega) (by simp) ?_; intro v4 w4 hown4 hb4 hl4)
    go_ret
    refine ⟨_, rfl, by simpa using hown4, ((Below.refl _ _).alloc (Nat.le_refl _) _).grown hb4 (by simp) (fun k hk => ?_)⟩
    have : some w.heap.size = some k := hk
    cases this
    exact Nat.le_refl _

theorem zero_ent : ∀ w, (zeroValue 164).run Tryz.prog w = .ok (.agg #[.string ⟨#[]⟩, .pointer none]) w := fun w => by
  obtain ⟨i0, hi, hz0, hz1, hz2⟩ := info_parts Tryz.infoEnt
  simp [zeroValue, typeInfo, hi, hz0]

set_option maxRecDepth 100000 in
set_option maxHeartbeats 1000000 in
theorem tdel_any (fb : Nat → Nat) (v : Value) (l : Tbl) (i : Nat) (w : World) (hv : w.ownsRow 0 164 2 v l.length (row (ent fb) l)) (hi : i < l.length) (hl : l.length ≤ 1048576) :
    Calls Tryz.prog 135 #[v, .int .i64 (i : Int), .int .i64 ((i : Int) + 1)] w fun e w' =>
      ∃ v', e = .returned v' ∧ w'.ownsRow 0 164 2 v' (l.eraseIdx i).length (row (ent fb) (l.eraseIdx i)) ∧ Kept (fun k => v.ownBlock = some k) w w' ∧ v'.ownBlock = v.ownBlock := by
  obtain ⟨i0, hinf, hz0, hz1, hz2⟩ := info_parts Tryz.infoEnt
  have hT := Tryz.underlying91
  have hX := IsX.own hv
  rcases hv.2 with ⟨rfl, h0⟩ | ⟨g, cap, cur, rfl, hb0, hg, hlc, hcm, hcs, htake⟩
  · omega
  have hlr := length_row (ent_len fb) l
  obtain ⟨N, hN⟩ : ∃ N, l.length = N := ⟨_, rfl⟩
  rw [hN] at hX hi hl hlc hv hlr
  have hs0 := slice_h_X (P := Tryz.prog) 2 (some ⟨g, 0, none⟩) N cap 91 _ hT Tryz.sizeEnt i (by omega)
  have hs1 := slice_l_X (P := Tryz.prog) hX 91 _ hT Tryz.sizeEnt (i + 1) (by omega)
  obtain ⟨u3, hs3⟩ := slice_lhm_C (P := Tryz.prog) 2 (some ⟨g, 0, none⟩) N cap 91 _ hT Tryz.sizeEnt i (i + 1) N (by omega) (by omega) hlc
  have hlen := fun W => len_X (P := Tryz.prog) hX 91 3 _ hT W
  have hown0 := ownsRow_take hv (Nat.le_of_lt hi)
  have hX1 := hX.piece (lo := i + 1) (hi := N) (by omega) (Nat.le_refl _)
  obtain ⟨ad, had⟩ := sliced_some ⟨g, 0, none⟩ (i + 1) N cap 2
  rw [had] at hs1 hX1
  have hB : ((row (ent fb) l).drop ((i + 1) * 2)).take ((N - (i + 1)) * 2) = (row (ent fb) l).drop ((i + 1) * 2) := List.take_of_length_le (by rw [List.length_drop, hlr]; omega)
  rw [hB] at hX1
  obtain ⟨w1, hap, hown1, hgr1⟩ := run_append_fits (P := Tryz.prog) w.drew 0 91 91 _ i0 2 hT hinf hz1 g i cap _ hown0 ad (N - (i + 1)) (cap - (i + 1)) ((row (ent fb) l).drop ((i + 1) * 2)) (by rw [List.length_drop, hlr]; omega)
    (fun j u hj => by
      obtain ⟨a', c', e', k1, k2, k3, k4, k5⟩ := hX1
      cases e'
      have hjl := (List.getElem?_eq_some_iff.1 hj).1
      rcases k5 with k5 | ⟨b, off, e1, hc⟩
      · omega
      · cases e1
        rw [add_lit]
        exact (hc j (by rw [← k3]; exact hjl)).trans hj) (fun u hu => ent_one fb l u (List.mem_of_mem_drop hu)) (by omega)
  have hN1 : i + (N - (i + 1)) = N - 1 := by omega
  rw [hN1] at hap hown1
  have hX2 := IsX.own hown1
  have hlen2 := fun W => len_X (P := Tryz.prog) hX2 91 3 _ hT W
  have hs4 := slice_lh_C (P := Tryz.prog) 2 (some ⟨g, 0, none⟩) (N - 1) cap 91 _ hT Tryz.sizeEnt (N - 1) N (by omega) hlc
  rw [sliced_at _ _ _ _ _ _ (by omega), Nat.zero_add, show N - (N - 1) = 1 from by omega] at hs4
  have hcur := hown1.2
  rcases hcur with ⟨hbad, _⟩ | ⟨g', cap', cur1, he1, _, hg1, hlc1, hcm1, hcs1, htake1⟩
  · cases hbad
  cases he1
  have hzl : (Builtin.zeroCells (Value.agg #[.string ⟨#[]⟩, .pointer none]).cells 1).toList = [.string ⟨#[]⟩, .pointer none] := by kernel_rfl
  have hcl := fun ty => run_clear_X (P := Tryz.prog) w1 91 _ ty _ hT zero_ent g ((N - 1) * 2) 1 (cap - (N - 1)) (by decide) cur1 _ hg1 (by rw [hzl, hcs1]; show (N - 1) * 2 + 2 ≤ _; omega) (by rw [hzl]; intro u hu; simp only [List.mem_cons, List.not_mem_nil, or_false] at hu; rcases hu with rfl | rfl <;> rfl)
  rw [hzl] at hcl
  have hrow2 := setRow_heap w1 g cur1 (cur1.toList.take ((N - 1) * 2) ++ [Value.string ⟨#[]⟩, .pointer none] ++ cur1.toList.drop ((N - 1) * 2 + [Value.string ⟨#[]⟩, .pointer none].length)).toArray 164 _ hg1
  have hK2 : Kept (fun k => some g = some k) w (w1.setRow g (cur1.toList.take ((N - 1) * 2) ++ [Value.string ⟨#[]⟩, .pointer none] ++ cur1.toList.drop ((N - 1) * 2 + [Value.string ⟨#[]⟩, .pointer none].length)).toArray) :=
    (((Kept.refl _ w).drew).grown hgr1 (fun k hk => .inl hk)).setRow (.inl rfl) _
  generalize w1.setRow g (cur1.toList.take ((N - 1) * 2) ++ [Value.string ⟨#[]⟩, .pointer none] ++ cur1.toList.drop ((N - 1) * 2 + [Value.string ⟨#[]⟩, .pointer none].length)).toArray = w2 at hcl hrow2 hK2
  have hown2 : w2.ownsRow 0 164 2 (.slice (some ⟨g, 0, none⟩) (N - 1) cap) (N - 1) (row (ent fb) (l.eraseIdx i)) := by
    have hxs : (row (ent fb) l).take (i * 2) ++ (row (ent fb) l).drop ((i + 1) * 2) = row (ent fb) (l.eraseIdx i) := by rw [erase_take_drop, row_append, row_take (ent_len fb), row_drop (ent_len fb)]
    rw [hxs] at hown1 htake1
    have hlt : (cur1.toList.take ((N - 1) * 2)).length = (N - 1) * 2 := by rw [List.length_take, Array.length_toList, hcs1]; omega
    refine ⟨hown1.1, .inr ⟨g, cap, _, rfl, Nat.zero_le _, hrow2, hlc1, hcm1, ?_, ?_⟩⟩
    · simp only [List.size_toArray, List.length_append, List.length_drop, hlt, Array.length_toList, hcs1, List.length_cons, List.length_nil]
      omega
    · show List.take _ (_ ++ _ ++ _) = _
      rw [List.append_assoc, List.take_left' hlt]
      exact htake1
  have hel : (l.eraseIdx i).length = N - 1 := by rw [List.length_eraseIdx, hN, if_pos hi]
  rw [hel, hN]
  have HO := Lib.hid hown2
  have HK := Lib.hid hK2
  have hne : ((i : Int) == (i : Int) + 1) = false := by simp; omega
  have hs1' := hs1
  rw [show ((i + 1 : Nat) : Int) = (i : Int) + 1 from rfl] at hs1' hs3
  have hap' : (Builtin.append_ #[91, 91] 91 #[.slice (some ⟨g, 0, none⟩) i cap, .slice (some ad) (N - (i + 1)) (cap - (i + 1))]).run Tryz.prog w.drew = .ok (.slice (some ⟨g, 0, none⟩) (N - 1) cap) w1 := hap
  have hb : Value.ownBlock (.slice (some ⟨g, 0, none⟩) N cap) = some g := rfl
  have hb2 : Value.ownBlock (.slice (some ⟨g, 0, none⟩) (N - 1) cap) = some g := rfl
  rw [hb]
  clear hown1 hown2 hK2 hrow2 hg1 hcs1 htake1 hlc1 hcm1 hX2 hX1 hX hv hgr1 hown0 hs1 hap hg hcs htake hN hel hlr hB hzl hb
  generalize hV : Value.slice (some ⟨g, 0, none⟩) N cap = V at *
  generalize hV0 : Value.slice (some ⟨g, 0, none⟩) i cap = V0 at *
  generalize hV1 : Value.slice (some ad) (N - (i + 1)) (cap - (i + 1)) = V1 at *
  generalize hV2 : Value.slice (some ⟨g, 0, none⟩) (N - 1) cap = V2 at *
  generalize hV3 : Value.slice (some ⟨g, (N - 1) * 2, none⟩) 1 (cap - (N - 1)) = V3 at *
  clear hV hV0 hV1 hV2 hV3
  have HB2 := Lib.hid hb2
  have HAP := Lib.hid hap'
  clear hb2 hap' hN1
  go_enter Tryz.func135, Tryz.ntmps135
  go_wp2
  go_region_law (refine step_append_run rfl _ _ 91 91 rfl _ _ rfl rfl HAP.out ?_)
  go_wp2
  go_ret
  exact ⟨_, rfl, HO.out, HK.out, HB2.out⟩

end Go.Proofs.YtllbngopfganjaaGreatDoor
end

section
namespace Go.Proofs.YtllbngopfganjaaGreatDoor
open Go.RowKit Go.Cor

set_option maxRecDepth 100000 in
set_option maxHeartbeats 2000000 in
theorem walk_grow (V V0 VI SV V2 VD1 VD2 : Value) (i N k : Nat) (w w1 w2 w3 : World) (hi : i < N) (hl : N ≤ 1048576) (hkk : (N : Int) + 1 - (i : Int) = (k : Int)) (hne : ((i : Int) == (N : Int)) = false) (hgt : ¬ ((N : Int) + 1 ≤ (N : Int)))
    (hlen : ∀ W, (Builtin.len_ #[91] 3 #[V]).run Tryz.prog W = .ok (.int .i64 (N : Int)) W) (hcap : ∀ (W : World) (ty : TypeId), (Builtin.cap_ #[91] ty #[V]).run Tryz.prog W = .ok (goInt N) W)
    (hS1 : ∀ W, (Builtin.len_ #[90] 3 #[SV]).run Tryz.prog W = .ok (.int .i64 1) W)
    (hsI : ∀ W, (Instr.slice 91 V (some (.int .i64 (i : Int))) none none).run Tryz.prog W = .ok VI W)
    (hs0 : ∀ W, (Instr.slice 91 V none (some (.int .i64 (i : Int))) none).run Tryz.prog W = .ok V0 W)
    (hsD1 : ∀ W, (Instr.slice 91 V2 (some (.int .i64 (i : Int))) none none).run Tryz.prog W = .ok VD1 W)
    (hsD2 : ∀ W, (Instr.slice 91 V2 (some (.int .i64 ((i : Int) + 1))) none none).run Tryz.prog W = .ok VD2 W)
    (HAP : Hid ((Builtin.append_ #[91, 3] 91 #[V0, .int .i64 (k : Int)]).run Tryz.prog w = .ok V2 w1)) (x1 x2 : Value)
    (HC1 : Hid (∀ ty, (Builtin.copy_ #[91, 90] ty #[VD1, SV]).run Tryz.prog w1 = .ok x1 w2))
    (HC2 : Hid (∀ ty, (Builtin.copy_ #[91, 91] ty #[VD2, VI]).run Tryz.prog w2.drew = .ok x2 w3)) (hwr : IntKind.i64.wrap ((i : Int) + 1) = (i : Int) + 1) :
    Calls Tryz.prog 136 #[V, .int .i64 (i : Int), SV] w fun e w' => e = .returned V2 ∧ w' = w3 := by
  go_enter Tryz.func136, Tryz.ntmps136
  go_wp2_with (first | (at_builtin; refine Lib.wpList_append_run _ rfl _ _ 91 3 rfl _ _ rfl rfl _ _ HAP.out ?_) | (refine wpList_copy_run (o := ⟨some 45, _, _, _, _, _⟩) rfl _ _ 91 90 rfl _ _ rfl rfl (HC1.out _) ?_))
  go_region_held3 (fun _ => True) (trivial) (first | (refine step_copy_run rfl _ _ 91 91 rfl _ _ rfl rfl (HC2.out _) ?_))
  go_wp2
  go_ret
  exact ⟨rfl, rfl⟩

set_option maxRecDepth 100000 in
set_option maxHeartbeats 2000000 in
theorem walk_room (V V3 VI VS VD SV : Value) (i N cap : Nat) (w w2 w3 : World) (hi : i < N) (hl : N ≤ 1048576) (hne : ((i : Int) == (N : Int)) = false) (hgt : (N : Int) + 1 ≤ (cap : Int))
    (hlen : ∀ W, (Builtin.len_ #[91] 3 #[V]).run Tryz.prog W = .ok (.int .i64 (N : Int)) W) (hcap : ∀ (W : World) (ty : TypeId), (Builtin.cap_ #[91] ty #[V]).run Tryz.prog W = .ok (goInt cap) W)
    (hS1 : ∀ W, (Builtin.len_ #[90] 3 #[SV]).run Tryz.prog W = .ok (.int .i64 1) W)
    (hsI : ∀ W, (Instr.slice 91 V (some (.int .i64 (i : Int))) none none).run Tryz.prog W = .ok VI W)
    (hs3 : ∀ W, (Instr.slice 91 V none (some (.int .i64 ((N : Int) + 1))) none).run Tryz.prog W = .ok V3 W)
    (hsS : ∀ W, (Instr.slice 91 V3 (some (.int .i64 (i : Int))) none none).run Tryz.prog W = .ok VS W)
    (hsD : ∀ W, (Instr.slice 91 V3 (some (.int .i64 ((i : Int) + 1))) none none).run Tryz.prog W = .ok VD W)
    (hov : (callFunc 151 #[SV, VD]).run Tryz.prog w = .ok (.value (.bool false)) w) (x1 x2 : Value)
    (HC1 : Hid (∀ ty, (Builtin.copy_ #[91, 91] ty #[VD, VS]).run Tryz.prog w.drew = .ok x1 w2))
    (HC2 : Hid (∀ ty, (Builtin.copy_ #[91, 90] ty #[VS, SV]).run Tryz.prog w2 = .ok x2 w3)) (hwr : IntKind.i64.wrap ((i : Int) + 1) = (i : Int) + 1) :
    Calls Tryz.prog 136 #[V, .int .i64 (i : Int), SV] w fun e w' => e = .returned V3 ∧ w' = w3 := by
  go_enter Tryz.func136, Tryz.ntmps136
  go_wp2_with (simp only [hov])
  go_region_held3 (fun _ => True) (trivial) (first | (refine step_copy_run rfl _ _ 91 91 rfl _ _ rfl rfl (HC1.out _) ?_))
  go_wp2_with (refine wpList_copy_run (o := ⟨some 82, _, _, _, _, _⟩) rfl _ _ 91 90 rfl _ _ rfl rfl (HC2.out _) ?_)
  go_ret
  exact ⟨rfl, rfl⟩

end Go.Proofs.YtllbngopfganjaaGreatDoor
end
