/- Package once by contracts: Keep. -/
import Derived.Test.YtncfdkkekaninaaOf
import Derived.Test.YtncfdkkekaninaaWn
import Derived.Test.YtncfdkkekaninaaOrdE
set_option linter.unusedVariables false
set_option linter.unusedSimpArgs false
namespace Go.Proofs.Ytncfdkkekaninaa
open Go.RowKit Go.Cor

set_option maxRecDepth 100000 in
set_option maxHeartbeats 4000000 in
theorem okeep_nil (fr tt kd vo li : Int) (id : Nat) (co : Int) (has : Bool) (key ck : Nat) (gn : Bool) (md : List UInt8) (x : Option Addr) (L c : Nat) (w : World) :
    Calls Try.prog 12 #[.pointer none, .agg #[.int .i64 fr, .int .i64 tt, .int .i64 kd, .int .i64 vo, .int .i64 li, .int .u64 (id : Int), .int .i64 co, .bool has, .int .u64 (key : Int), .int .u32 (ck : Int), .bool gn, .slice x L c]] w fun e w' => e = .returned (err 15) ∧ Below w.heap.size w w' := by
  have hb0 := below_new16 w (.cells #[.int .i64 fr, .int .i64 tt, .int .i64 kd, .int .i64 vo, .int .i64 li, .int .u64 (id : Int), .int .i64 co, .bool has, .int .u64 (key : Int), .int .u32 (ck : Int), .bool gn, .slice x L c] 42)
  have hx := Blk.new w #[.int .i64 fr, .int .i64 tt, .int .i64 kd, .int .i64 vo, .int .i64 li, .int .u64 (id : Int), .int .i64 co, .bool has, .int .u64 (key : Int), .int .u32 (ck : Int), .bool gn, .slice x L c] 42
  obtain ⟨W1, hW1⟩ : ∃ z, w.alloc (.cells #[.int .i64 fr, .int .i64 tt, .int .i64 kd, .int .i64 vo, .int .i64 li, .int .u64 (id : Int), .int .i64 co, .bool has, .int .u64 (key : Int), .int .u32 (ck : Int), .bool gn, .slice x L c] 42) = z := ⟨_, rfl⟩
  have hs1 : W1.heap.size = w.heap.size + 1 := by rw [← hW1]; simp
  rw [hW1] at hb0 hx
  have HW1 := Lib.hid hW1
  have HX := Lib.hid hx
  have HB := Lib.hid hb0
  have HS1 := Lib.hid hs1
  clear hb0 hx hW1 hs1
  go_enter Try.func12, Try.ntmps12
  go_upto_region 1 with fail
  rw [HW1.out]
  have r := HX.out
  have p0 := r.cell 0 rfl
  have p1 := r.cell 1 rfl
  have p2 := r.cell 2 rfl
  have p3 := r.cell 3 rfl
  have p4 := r.cell 4 rfl
  have p5 := r.cell 5 rfl
  have p6 := r.cell 6 rfl
  have p7 := r.cell 7 rfl
  have p8 := r.cell 8 rfl
  have p9 := r.cell 9 rfl
  have p10 := r.cell 10 rfl
  have p11 := r.cell 11 rfl
  clear r
  go_wp2
  go_ret
  exact ⟨rfl, HB.out⟩
set_option maxRecDepth 100000 in
set_option maxHeartbeats 4000000 in
theorem okeep_kind (fr tt kd vo li : Int) (id : Nat) (co : Int) (has : Bool) (key ck : Nat) (gn : Bool) (md : List UInt8) (x : Option Addr) (L c : Nat) {g : Nat} (w : World) (hk : kd ≠ 5) :
    Calls Try.prog 12 #[.pointer (some ⟨g, 0, none⟩), .agg #[.int .i64 fr, .int .i64 tt, .int .i64 kd, .int .i64 vo, .int .i64 li, .int .u64 (id : Int), .int .i64 co, .bool has, .int .u64 (key : Int), .int .u32 (ck : Int), .bool gn, .slice x L c]] w fun e w' => e = .returned (err 1) ∧ Below w.heap.size w w' := by
  have kk : (kd != 5) = true := bne_iff_ne.2 hk
  clear hk
  have hb0 := below_new16 w (.cells #[.int .i64 fr, .int .i64 tt, .int .i64 kd, .int .i64 vo, .int .i64 li, .int .u64 (id : Int), .int .i64 co, .bool has, .int .u64 (key : Int), .int .u32 (ck : Int), .bool gn, .slice x L c] 42)
  have hx := Blk.new w #[.int .i64 fr, .int .i64 tt, .int .i64 kd, .int .i64 vo, .int .i64 li, .int .u64 (id : Int), .int .i64 co, .bool has, .int .u64 (key : Int), .int .u32 (ck : Int), .bool gn, .slice x L c] 42
  obtain ⟨W1, hW1⟩ : ∃ z, w.alloc (.cells #[.int .i64 fr, .int .i64 tt, .int .i64 kd, .int .i64 vo, .int .i64 li, .int .u64 (id : Int), .int .i64 co, .bool has, .int .u64 (key : Int), .int .u32 (ck : Int), .bool gn, .slice x L c] 42) = z := ⟨_, rfl⟩
  have hs1 : W1.heap.size = w.heap.size + 1 := by rw [← hW1]; simp
  rw [hW1] at hb0 hx
  have HW1 := Lib.hid hW1
  have HX := Lib.hid hx
  have HB := Lib.hid hb0
  have HS1 := Lib.hid hs1
  clear hb0 hx hW1 hs1
  go_enter Try.func12, Try.ntmps12
  go_upto_region 1 with fail
  rw [HW1.out]
  have r := HX.out
  have p0 := r.cell 0 rfl
  have p1 := r.cell 1 rfl
  have p2 := r.cell 2 rfl
  have p3 := r.cell 3 rfl
  have p4 := r.cell 4 rfl
  have p5 := r.cell 5 rfl
  have p6 := r.cell 6 rfl
  have p7 := r.cell 7 rfl
  have p8 := r.cell 8 rfl
  have p9 := r.cell 9 rfl
  have p10 := r.cell 10 rfl
  have p11 := r.cell 11 rfl
  clear r
  go_wp2
  go_ret
  exact ⟨rfl, HB.out⟩
set_option maxRecDepth 100000 in
set_option maxHeartbeats 4000000 in
theorem okeep_check (fr tt kd vo li : Int) (id : Nat) (co : Int) (has : Bool) (key ck : Nat) (gn : Bool) (md : List UInt8) (x : Option Addr) (L c : Nat) {g : Nat} (w : World) (hk : kd = 5) (k : Nat) (hq : mcheck ⟨fr, tt, kd, vo, li, id, co, has, ⟨key, ck, gn, md⟩⟩ = k) (h0 : k ≠ 0) (hv : IsB w (.slice x L c) md) :
    Calls Try.prog 12 #[.pointer (some ⟨g, 0, none⟩), .agg #[.int .i64 fr, .int .i64 tt, .int .i64 kd, .int .i64 vo, .int .i64 li, .int .u64 (id : Int), .int .i64 co, .bool has, .int .u64 (key : Int), .int .u32 (ck : Int), .bool gn, .slice x L c]] w fun e w' => e = .returned (err (k : Int)) ∧ Below w.heap.size w w' := by
  have kk : (kd != 5) = false := by rw [hk]; rfl
  have hb0 := below_new16 w (.cells #[.int .i64 fr, .int .i64 tt, .int .i64 kd, .int .i64 vo, .int .i64 li, .int .u64 (id : Int), .int .i64 co, .bool has, .int .u64 (key : Int), .int .u32 (ck : Int), .bool gn, .slice x L c] 42)
  have hx := Blk.new w #[.int .i64 fr, .int .i64 tt, .int .i64 kd, .int .i64 vo, .int .i64 li, .int .u64 (id : Int), .int .i64 co, .bool has, .int .u64 (key : Int), .int .u32 (ck : Int), .bool gn, .slice x L c] 42
  obtain ⟨W1, hW1⟩ : ∃ z, w.alloc (.cells #[.int .i64 fr, .int .i64 tt, .int .i64 kd, .int .i64 vo, .int .i64 li, .int .u64 (id : Int), .int .i64 co, .bool has, .int .u64 (key : Int), .int .u32 (ck : Int), .bool gn, .slice x L c] 42) = z := ⟨_, rfl⟩
  have hs1 : W1.heap.size = w.heap.size + 1 := by rw [← hW1]; simp
  rw [hW1] at hb0 hx
  have HCK := Lib.hid (wcheck_any ⟨fr, tt, kd, vo, li, id, co, has, ⟨key, ck, gn, md⟩⟩ (.slice x L c) W1 (hv.mono hb0 (Nat.le_refl _)))
  rw [hq, cerr_pos (by omega)] at HCK
  have HW1 := Lib.hid hW1
  clear hk hq hv h0
  have HX := Lib.hid hx
  have HB := Lib.hid hb0
  have HS1 := Lib.hid hs1
  clear hb0 hx hW1 hs1
  go_enter Try.func12, Try.ntmps12
  go_upto_region 1 with fail
  rw [HW1.out]
  have r := HX.out
  have p0 := r.cell 0 rfl
  have p1 := r.cell 1 rfl
  have p2 := r.cell 2 rfl
  have p3 := r.cell 3 rfl
  have p4 := r.cell 4 rfl
  have p5 := r.cell 5 rfl
  have p6 := r.cell 6 rfl
  have p7 := r.cell 7 rfl
  have p8 := r.cell 8 rfl
  have p9 := r.cell 9 rfl
  have p10 := r.cell 10 rfl
  have p11 := r.cell 11 rfl
  clear r
  go_wp2_with fail
  refine HCK.out.mono ?_
  rintro e wa ⟨rfl, hb⟩
  have hba := HB.out.trans (hb.mono HB.out.size)
  have hxa := HX.out.below hb HX.out.lt
  clear p0 p1 p2 p3 p4 p5 p6 p7 p8 p9 p10 p11
  have HBA := Lib.hid hba
  clear hba hxa hb
  go_wp2
  go_ret
  exact ⟨rfl, HBA.out⟩
set_option maxRecDepth 100000 in
set_option maxHeartbeats 4000000 in
theorem okeep_there (fr tt kd vo li : Int) (id : Nat) (co : Int) (has : Bool) (key ck : Nat) (gn : Bool) (md : List UInt8) (x : Option Addr) (L c : Nat) {g b : Nat} {most : Int} {l : List (Msg × Value)} (w : World) (hk : kd = 5) (hq : mcheck ⟨fr, tt, kd, vo, li, id, co, has, ⟨key, ck, gn, md⟩⟩ = 0) (hid : wfU id) (hv : IsB w (.slice x L c) md) (h : TbAt w g b most l) (nfr ntt nkd nvo nli : Int) (nid : Nat) (nco : Int) (nhas : Bool) (nkey nck : Nat) (ngn : Bool) (nmd : List UInt8) (y : Option Addr) (M k : Nat) (hn : lookT tt id l = some (⟨nfr, ntt, nkd, nvo, nli, nid, nco, nhas, ⟨nkey, nck, ngn, nmd⟩⟩, .slice y M k)) :
    Calls Try.prog 12 #[.pointer (some ⟨g, 0, none⟩), .agg #[.int .i64 fr, .int .i64 tt, .int .i64 kd, .int .i64 vo, .int .i64 li, .int .u64 (id : Int), .int .i64 co, .bool has, .int .u64 (key : Int), .int .u32 (ck : Int), .bool gn, .slice x L c]] w fun e w' => e = .returned (err 8) ∧ Below w.heap.size w w' := by
  have kk : (kd != 5) = false := by rw [hk]; rfl
  have HQ := Lib.hid hq
  have hb0 := below_new16 w (.cells #[.int .i64 fr, .int .i64 tt, .int .i64 kd, .int .i64 vo, .int .i64 li, .int .u64 (id : Int), .int .i64 co, .bool has, .int .u64 (key : Int), .int .u32 (ck : Int), .bool gn, .slice x L c] 42)
  have hx := Blk.new w #[.int .i64 fr, .int .i64 tt, .int .i64 kd, .int .i64 vo, .int .i64 li, .int .u64 (id : Int), .int .i64 co, .bool has, .int .u64 (key : Int), .int .u32 (ck : Int), .bool gn, .slice x L c] 42
  obtain ⟨W1, hW1⟩ : ∃ z, w.alloc (.cells #[.int .i64 fr, .int .i64 tt, .int .i64 kd, .int .i64 vo, .int .i64 li, .int .u64 (id : Int), .int .i64 co, .bool has, .int .u64 (key : Int), .int .u32 (ck : Int), .bool gn, .slice x L c] 42) = z := ⟨_, rfl⟩
  have hs1 : W1.heap.size = w.heap.size + 1 := by rw [← hW1]; simp
  rw [hW1] at hb0 hx
  have HCK := Lib.hid (wcheck_any ⟨fr, tt, kd, vo, li, id, co, has, ⟨key, ck, gn, md⟩⟩ (.slice x L c) W1 (hv.mono hb0 (Nat.le_refl _)))
  rw [hq, cerr_0] at HCK
  have HW1 := Lib.hid hW1
  clear hk hq
  have HX := Lib.hid hx
  have HB := Lib.hid hb0
  have HS1 := Lib.hid hs1
  clear hb0 hx hW1 hs1
  go_enter Try.func12, Try.ntmps12
  go_upto_region 1 with fail
  rw [HW1.out]
  have r := HX.out
  have p0 := r.cell 0 rfl
  have p1 := r.cell 1 rfl
  have p2 := r.cell 2 rfl
  have p3 := r.cell 3 rfl
  have p4 := r.cell 4 rfl
  have p5 := r.cell 5 rfl
  have p6 := r.cell 6 rfl
  have p7 := r.cell 7 rfl
  have p8 := r.cell 8 rfl
  have p9 := r.cell 9 rfl
  have p10 := r.cell 10 rfl
  have p11 := r.cell 11 rfl
  clear r
  go_wp2_with fail
  refine HCK.out.mono ?_
  rintro e wa ⟨rfl, hb⟩
  have hba := HB.out.trans (hb.mono HB.out.size)
  have hxa := HX.out.below hb HX.out.lt
  clear p0 p1 p2 p3 p4 p5 p6 p7 p8 p9 p10 p11
  have ht := h.below hba (Nat.le_refl _)
  have hwf : wfI tt := mcheck_wf HQ.out
  have hk9 := Blk.new wa #[.int .i64 tt, .int .u64 (id : Int)] 62
  have hxk := hxa.alloc (.cells #[.int .i64 tt, .int .u64 (id : Int)] 62)
  have hbk := hba.alloc hba.size (.cells #[.int .i64 tt, .int .u64 (id : Int)] 62)
  have hsk : wa.heap.size < (wa.alloc (.cells #[.int .i64 tt, .int .u64 (id : Int)] 62)).heap.size := by simp
  have hak := hxa.lt
  have hp1 := hxa.cell 1 rfl
  have hp5 := hxa.cell 5 rfl
  obtain ⟨A, hA⟩ : ∃ z, wa.heap.size = z := ⟨_, rfl⟩
  obtain ⟨W2, hW2⟩ : ∃ z, wa.alloc (.cells #[.int .i64 tt, .int .u64 (id : Int)] 62) = z := ⟨_, rfl⟩
  have hs2 : W2.heap.size = A + 1 := by rw [← hW2, ← hA]; simp
  rw [hW2] at hk9 hxk hbk hsk
  rw [hA] at hk9 hsk hak
  have ht2 := h.below hbk (Nat.le_refl _)
  have HW2 := Lib.hid hW2
  have HA := Lib.hid hA
  have HXK := Lib.hid hxk
  have HK9 := Lib.hid hk9
  have HBK := Lib.hid hbk
  have HT2 := Lib.hid ht2
  have HS2 := Lib.hid hs2
  have HAK := Lib.hid hak
  have hg0 := h.tblk.lt
  have hlook := (ht2.below (Below.refl _ _).drew (Nat.le_refl _)).tmap.look hwf hid
  have hlook2 := (ht2.below ((Below.refl _ _).alloc (Nat.le_refl _) (.cells #[.int .i64 0, .int .i64 0, .int .i64 0, .int .i64 0, .int .i64 0, .int .u64 0, .int .i64 0, .bool false, .int .u64 0, .int .u32 0, .bool false, .slice none 0 0] 42)).drew (Nat.le_refl _)).tmap.look hwf hid
  rw [hn] at hlook hlook2
  have hl1 : (Instr.lookup 57 (.map (some b)) (.agg #[.int .i64 tt, .int .u64 (id : Int)]) true).run Try.prog W2.drew = .ok (.tuple #[.agg #[.int .i64 nfr, .int .i64 ntt, .int .i64 nkd, .int .i64 nvo, .int .i64 nli, .int .u64 (nid : Int), .int .i64 nco, .bool nhas, .int .u64 (nkey : Int), .int .u32 (nck : Int), .bool ngn, .slice y M k], .bool true]) W2.drew := hlook
  have hl2 : (Instr.lookup 57 (.map (some b)) (.agg #[.int .i64 tt, .int .u64 (id : Int)]) true).run Try.prog (W2.alloc (.cells #[.int .i64 0, .int .i64 0, .int .i64 0, .int .i64 0, .int .i64 0, .int .u64 0, .int .i64 0, .bool false, .int .u64 0, .int .u32 0, .bool false, .slice none 0 0] 42)).drew = .ok (.tuple #[.agg #[.int .i64 nfr, .int .i64 ntt, .int .i64 nkd, .int .i64 nvo, .int .i64 nli, .int .u64 (nid : Int), .int .i64 nco, .bool nhas, .int .u64 (nkey : Int), .int .u32 (nck : Int), .bool ngn, .slice y M k], .bool true]) (W2.alloc (.cells #[.int .i64 0, .int .i64 0, .int .i64 0, .int .i64 0, .int .i64 0, .int .u64 0, .int .i64 0, .bool false, .int .u64 0, .int .u32 0, .bool false, .slice none 0 0] 42)).drew := hlook2
  have HL1 := Lib.hid hl1
  have HL2 := Lib.hid hl2
  have HG0 := Lib.hid (show g < w.heap.size from hg0)
  clear hlook hlook2 hl1 hl2 ht hk9 hxk hbk hsk hA hW2 hs2 ht2 hba hxa hb hg0 hwf hn h hid hv hak
  go_upto_region 9 with fail
  rw [HW2.out, HA.out]
  clear hp1 hp5
  have hl1 := HL1.out
  have hl2 := HL2.out
  have c1 : W2.cell? ⟨g, 1, none⟩ = some (.map (some b)) := HT2.out.tblk.cell 1 rfl
  have c2 : W2.cell? ⟨A, 0, none⟩ = some (.int .i64 tt) := HK9.out.cell 0 rfl
  have c3 : W2.cell? ⟨A, 1, none⟩ = some (.int .u64 (id : Int)) := HK9.out.cell 1 rfl
  have d1 : (W2.alloc (.cells #[.int .i64 0, .int .i64 0, .int .i64 0, .int .i64 0, .int .i64 0, .int .u64 0, .int .i64 0, .bool false, .int .u64 0, .int .u32 0, .bool false, .slice none 0 0] 42)).cell? ⟨g, 1, none⟩ = some (.map (some b)) := (HT2.out.tblk.alloc (.cells #[.int .i64 0, .int .i64 0, .int .i64 0, .int .i64 0, .int .i64 0, .int .u64 0, .int .i64 0, .bool false, .int .u64 0, .int .u32 0, .bool false, .slice none 0 0] 42)).cell 1 rfl
  have d2 : (W2.alloc (.cells #[.int .i64 0, .int .i64 0, .int .i64 0, .int .i64 0, .int .i64 0, .int .u64 0, .int .i64 0, .bool false, .int .u64 0, .int .u32 0, .bool false, .slice none 0 0] 42)).cell? ⟨A, 0, none⟩ = some (.int .i64 tt) := (HK9.out.alloc (.cells #[.int .i64 0, .int .i64 0, .int .i64 0, .int .i64 0, .int .i64 0, .int .u64 0, .int .i64 0, .bool false, .int .u64 0, .int .u32 0, .bool false, .slice none 0 0] 42)).cell 0 rfl
  have d3 : (W2.alloc (.cells #[.int .i64 0, .int .i64 0, .int .i64 0, .int .i64 0, .int .i64 0, .int .u64 0, .int .i64 0, .bool false, .int .u64 0, .int .u32 0, .bool false, .slice none 0 0] 42)).cell? ⟨A, 1, none⟩ = some (.int .u64 (id : Int)) := (HK9.out.alloc (.cells #[.int .i64 0, .int .i64 0, .int .i64 0, .int .i64 0, .int .i64 0, .int .u64 0, .int .i64 0, .bool false, .int .u64 0, .int .u32 0, .bool false, .slice none 0 0] 42)).cell 1 rfl
  go_region
  all_goals
    go_wp2
    go_ret
    exact ⟨rfl, (HBK.out.alloc HBK.out.size _).drew⟩
set_option maxRecDepth 100000 in
set_option maxHeartbeats 4000000 in
theorem okeep_full (fr tt kd vo li : Int) (id : Nat) (co : Int) (has : Bool) (key ck : Nat) (gn : Bool) (md : List UInt8) (x : Option Addr) (L c : Nat) {g b : Nat} {most : Int} {l : List (Msg × Value)} (w : World) (hk : kd = 5) (hq : mcheck ⟨fr, tt, kd, vo, li, id, co, has, ⟨key, ck, gn, md⟩⟩ = 0) (hid : wfU id) (hv : IsB w (.slice x L c) md) (h : TbAt w g b most l) (hn : lookT tt id l = none) (hd : decide ((l.length : Int) < most) = false) :
    Calls Try.prog 12 #[.pointer (some ⟨g, 0, none⟩), .agg #[.int .i64 fr, .int .i64 tt, .int .i64 kd, .int .i64 vo, .int .i64 li, .int .u64 (id : Int), .int .i64 co, .bool has, .int .u64 (key : Int), .int .u32 (ck : Int), .bool gn, .slice x L c]] w fun e w' => e = .returned (err 11) ∧ Below w.heap.size w w' := by
  have kk : (kd != 5) = false := by rw [hk]; rfl
  have HQ := Lib.hid hq
  have hb0 := below_new16 w (.cells #[.int .i64 fr, .int .i64 tt, .int .i64 kd, .int .i64 vo, .int .i64 li, .int .u64 (id : Int), .int .i64 co, .bool has, .int .u64 (key : Int), .int .u32 (ck : Int), .bool gn, .slice x L c] 42)
  have hx := Blk.new w #[.int .i64 fr, .int .i64 tt, .int .i64 kd, .int .i64 vo, .int .i64 li, .int .u64 (id : Int), .int .i64 co, .bool has, .int .u64 (key : Int), .int .u32 (ck : Int), .bool gn, .slice x L c] 42
  obtain ⟨W1, hW1⟩ : ∃ z, w.alloc (.cells #[.int .i64 fr, .int .i64 tt, .int .i64 kd, .int .i64 vo, .int .i64 li, .int .u64 (id : Int), .int .i64 co, .bool has, .int .u64 (key : Int), .int .u32 (ck : Int), .bool gn, .slice x L c] 42) = z := ⟨_, rfl⟩
  have hs1 : W1.heap.size = w.heap.size + 1 := by rw [← hW1]; simp
  rw [hW1] at hb0 hx
  have HCK := Lib.hid (wcheck_any ⟨fr, tt, kd, vo, li, id, co, has, ⟨key, ck, gn, md⟩⟩ (.slice x L c) W1 (hv.mono hb0 (Nat.le_refl _)))
  rw [hq, cerr_0] at HCK
  have HW1 := Lib.hid hW1
  clear hk hq
  have HX := Lib.hid hx
  have HB := Lib.hid hb0
  have HS1 := Lib.hid hs1
  clear hb0 hx hW1 hs1
  go_enter Try.func12, Try.ntmps12
  go_upto_region 1 with fail
  rw [HW1.out]
  have r := HX.out
  have p0 := r.cell 0 rfl
  have p1 := r.cell 1 rfl
  have p2 := r.cell 2 rfl
  have p3 := r.cell 3 rfl
  have p4 := r.cell 4 rfl
  have p5 := r.cell 5 rfl
  have p6 := r.cell 6 rfl
  have p7 := r.cell 7 rfl
  have p8 := r.cell 8 rfl
  have p9 := r.cell 9 rfl
  have p10 := r.cell 10 rfl
  have p11 := r.cell 11 rfl
  clear r
  go_wp2_with fail
  refine HCK.out.mono ?_
  rintro e wa ⟨rfl, hb⟩
  have hba := HB.out.trans (hb.mono HB.out.size)
  have hxa := HX.out.below hb HX.out.lt
  clear p0 p1 p2 p3 p4 p5 p6 p7 p8 p9 p10 p11
  have ht := h.below hba (Nat.le_refl _)
  have hwf : wfI tt := mcheck_wf HQ.out
  have hk9 := Blk.new wa #[.int .i64 tt, .int .u64 (id : Int)] 62
  have hxk := hxa.alloc (.cells #[.int .i64 tt, .int .u64 (id : Int)] 62)
  have hbk := hba.alloc hba.size (.cells #[.int .i64 tt, .int .u64 (id : Int)] 62)
  have hsk : wa.heap.size < (wa.alloc (.cells #[.int .i64 tt, .int .u64 (id : Int)] 62)).heap.size := by simp
  have hak := hxa.lt
  have hp1 := hxa.cell 1 rfl
  have hp5 := hxa.cell 5 rfl
  obtain ⟨A, hA⟩ : ∃ z, wa.heap.size = z := ⟨_, rfl⟩
  obtain ⟨W2, hW2⟩ : ∃ z, wa.alloc (.cells #[.int .i64 tt, .int .u64 (id : Int)] 62) = z := ⟨_, rfl⟩
  have hs2 : W2.heap.size = A + 1 := by rw [← hW2, ← hA]; simp
  rw [hW2] at hk9 hxk hbk hsk
  rw [hA] at hk9 hsk hak
  have ht2 := h.below hbk (Nat.le_refl _)
  have HW2 := Lib.hid hW2
  have HA := Lib.hid hA
  have HXK := Lib.hid hxk
  have HK9 := Lib.hid hk9
  have HBK := Lib.hid hbk
  have HT2 := Lib.hid ht2
  have HS2 := Lib.hid hs2
  have HAK := Lib.hid hak
  have hg0 := h.tblk.lt
  have hlook := (ht2.below (Below.refl _ _).drew (Nat.le_refl _)).tmap.look hwf hid
  have hlook2 := (ht2.below ((Below.refl _ _).alloc (Nat.le_refl _) (.cells #[.int .i64 0, .int .i64 0, .int .i64 0, .int .i64 0, .int .i64 0, .int .u64 0, .int .i64 0, .bool false, .int .u64 0, .int .u32 0, .bool false, .slice none 0 0] 42)).drew (Nat.le_refl _)).tmap.look hwf hid
  rw [hn] at hlook hlook2
  have hl1 : (Instr.lookup 57 (.map (some b)) (.agg #[.int .i64 tt, .int .u64 (id : Int)]) true).run Try.prog W2.drew = .ok (.tuple #[.agg #[.int .i64 0, .int .i64 0, .int .i64 0, .int .i64 0, .int .i64 0, .int .u64 0, .int .i64 0, .bool false, .int .u64 0, .int .u32 0, .bool false, .slice none 0 0], .bool false]) W2.drew := hlook
  have hl2 : (Instr.lookup 57 (.map (some b)) (.agg #[.int .i64 tt, .int .u64 (id : Int)]) true).run Try.prog (W2.alloc (.cells #[.int .i64 0, .int .i64 0, .int .i64 0, .int .i64 0, .int .i64 0, .int .u64 0, .int .i64 0, .bool false, .int .u64 0, .int .u32 0, .bool false, .slice none 0 0] 42)).drew = .ok (.tuple #[.agg #[.int .i64 0, .int .i64 0, .int .i64 0, .int .i64 0, .int .i64 0, .int .u64 0, .int .i64 0, .bool false, .int .u64 0, .int .u32 0, .bool false, .slice none 0 0], .bool false]) (W2.alloc (.cells #[.int .i64 0, .int .i64 0, .int .i64 0, .int .i64 0, .int .i64 0, .int .u64 0, .int .i64 0, .bool false, .int .u64 0, .int .u32 0, .bool false, .slice none 0 0] 42)).drew := hlook2
  have HL1 := Lib.hid hl1
  have HL2 := Lib.hid hl2
  have HG0 := Lib.hid (show g < w.heap.size from hg0)
  clear hlook hlook2 hl1 hl2 ht hk9 hxk hbk hsk hA hW2 hs2 ht2 hba hxa hb hg0 hwf hn h hid hv hak
  go_upto_region 9 with fail
  rw [HW2.out, HA.out]
  clear hp1 hp5
  have hl1 := HL1.out
  have hl2 := HL2.out
  have c1 : W2.cell? ⟨g, 1, none⟩ = some (.map (some b)) := HT2.out.tblk.cell 1 rfl
  have c2 : W2.cell? ⟨A, 0, none⟩ = some (.int .i64 tt) := HK9.out.cell 0 rfl
  have c3 : W2.cell? ⟨A, 1, none⟩ = some (.int .u64 (id : Int)) := HK9.out.cell 1 rfl
  have d1 : (W2.alloc (.cells #[.int .i64 0, .int .i64 0, .int .i64 0, .int .i64 0, .int .i64 0, .int .u64 0, .int .i64 0, .bool false, .int .u64 0, .int .u32 0, .bool false, .slice none 0 0] 42)).cell? ⟨g, 1, none⟩ = some (.map (some b)) := (HT2.out.tblk.alloc (.cells #[.int .i64 0, .int .i64 0, .int .i64 0, .int .i64 0, .int .i64 0, .int .u64 0, .int .i64 0, .bool false, .int .u64 0, .int .u32 0, .bool false, .slice none 0 0] 42)).cell 1 rfl
  have d2 : (W2.alloc (.cells #[.int .i64 0, .int .i64 0, .int .i64 0, .int .i64 0, .int .i64 0, .int .u64 0, .int .i64 0, .bool false, .int .u64 0, .int .u32 0, .bool false, .slice none 0 0] 42)).cell? ⟨A, 0, none⟩ = some (.int .i64 tt) := (HK9.out.alloc (.cells #[.int .i64 0, .int .i64 0, .int .i64 0, .int .i64 0, .int .i64 0, .int .u64 0, .int .i64 0, .bool false, .int .u64 0, .int .u32 0, .bool false, .slice none 0 0] 42)).cell 0 rfl
  have d3 : (W2.alloc (.cells #[.int .i64 0, .int .i64 0, .int .i64 0, .int .i64 0, .int .i64 0, .int .u64 0, .int .i64 0, .bool false, .int .u64 0, .int .u32 0, .bool false, .slice none 0 0] 42)).cell? ⟨A, 1, none⟩ = some (.int .u64 (id : Int)) := (HK9.out.alloc (.cells #[.int .i64 0, .int .i64 0, .int .i64 0, .int .i64 0, .int .i64 0, .int .u64 0, .int .i64 0, .bool false, .int .u64 0, .int .u32 0, .bool false, .slice none 0 0] 42)).cell 1 rfl
  have HBA := Lib.hid ((HBK.out.alloc HBK.out.size (.cells #[.int .i64 0, .int .i64 0, .int .i64 0, .int .i64 0, .int .i64 0, .int .u64 0, .int .i64 0, .bool false, .int .u64 0, .int .u32 0, .bool false, .slice none 0 0] 42)).drew)
  have hw3 : Below W2.heap.size W2 (W2.alloc (.cells #[.int .i64 0, .int .i64 0, .int .i64 0, .int .i64 0, .int .i64 0, .int .u64 0, .int .i64 0, .bool false, .int .u64 0, .int .u32 0, .bool false, .slice none 0 0] 42)).drew := (below_new16 W2 (.cells #[.int .i64 0, .int .i64 0, .int .i64 0, .int .i64 0, .int .i64 0, .int .u64 0, .int .i64 0, .bool false, .int .u64 0, .int .u32 0, .bool false, .slice none 0 0] 42)).drew
  go_cut [8] from 7 to 34 (fun cc wx => cc = .bool false ∧ wx = (W2.alloc (.cells #[.int .i64 0, .int .i64 0, .int .i64 0, .int .i64 0, .int .i64 0, .int .u64 0, .int .i64 0, .bool false, .int .u64 0, .int .u32 0, .bool false, .slice none 0 0] 42)).drew)
  case first =>
    go_region
    all_goals
      go_wp2_with fail
      go_meet
      exact ⟨rfl, rfl⟩
  case rest =>
  obtain ⟨rfl, h9⟩ := hcut
  obtain ⟨W3, hW3⟩ : ∃ z, wc = z := ⟨_, rfl⟩
  subst hW3
  obtain ⟨W3, hW3⟩ : ∃ z, z = wc := ⟨_, rfl⟩
  subst hW3
  rw [← h9] at HBA hw3
  clear h9
  have HT3 := Lib.hid (HT2.out.below hw3 (Nat.le_refl _))
  have HW3 := Lib.hid hw3
  have HRM := Lib.hid (oroom_at HT3.out)
  rw [hd] at HRM
  clear hl1 hl2 c1 c2 c3 d1 d2 d3 hw3 hd
  go_wp2_with fail
  refine HRM.out.mono ?_
  rintro e w4 ⟨rfl, hb4⟩
  have HB4 := Lib.hid (HBA.out.trans (hb4.mono HBA.out.size))
  go_wp2
  go_ret
  exact ⟨rfl, HB4.out⟩
set_option maxRecDepth 100000 in
set_option maxHeartbeats 4000000 in
theorem okeep_ok (fr tt kd vo li : Int) (id : Nat) (co : Int) (has : Bool) (key ck : Nat) (gn : Bool) (md : List UInt8) (x : Option Addr) (L c : Nat) {g b : Nat} {most : Int} {l : List (Msg × Value)} (w : World) (hk : kd = 5) (hq : mcheck ⟨fr, tt, kd, vo, li, id, co, has, ⟨key, ck, gn, md⟩⟩ = 0) (hid : wfU id) (hv : IsB w (.slice x L c) md) (h : TbAt w g b most l) (hm : most ≤ 4096) (hn : lookT tt id l = none) (hd : decide ((l.length : Int) < most) = true) :
    Calls Try.prog 12 #[.pointer (some ⟨g, 0, none⟩), .agg #[.int .i64 fr, .int .i64 tt, .int .i64 kd, .int .i64 vo, .int .i64 li, .int .u64 (id : Int), .int .i64 co, .bool has, .int .u64 (key : Int), .int .u32 (ck : Int), .bool gn, .slice x L c]] w fun e w' => e = .returned .nilIface ∧ ∃ v, TbAt w' g b most (l ++ [(⟨fr, tt, kd, vo, li, id, co, has, ⟨key, ck, gn, md⟩⟩, v)]) ∧ (∀ k, liesB v md k → w.heap.size ≤ k) ∧ Kept (fun k => k = b) w w' := by
  have HOWN := Lib.hid (fun (wx : World) (hb : Below w.heap.size w wx) => own_f fr tt kd vo li id co has key ck gn md x L c wx (hv.mono hb (Nat.le_refl _)) (by have : md.length ≤ 4096 := mcheck_len hq; omega))
  have HLT := Lib.hid (show l.length < maxLen from by have := of_decide_eq_true hd; unfold maxLen; omega)
  have HNN := Lib.hid hn
  have HID := Lib.hid hid
  have HNB := Lib.hid (show (∀ A : Nat, w.heap.size < A → A ≠ b) ∧ w.heap.size ≠ b from ⟨fun A h1 => by have := h.tmap.lt; omega, by have := h.tmap.lt; omega⟩)
  have kk : (kd != 5) = false := by rw [hk]; rfl
  have HQ := Lib.hid hq
  have hb0 := below_new16 w (.cells #[.int .i64 fr, .int .i64 tt, .int .i64 kd, .int .i64 vo, .int .i64 li, .int .u64 (id : Int), .int .i64 co, .bool has, .int .u64 (key : Int), .int .u32 (ck : Int), .bool gn, .slice x L c] 42)
  have hx := Blk.new w #[.int .i64 fr, .int .i64 tt, .int .i64 kd, .int .i64 vo, .int .i64 li, .int .u64 (id : Int), .int .i64 co, .bool has, .int .u64 (key : Int), .int .u32 (ck : Int), .bool gn, .slice x L c] 42
  obtain ⟨W1, hW1⟩ : ∃ z, w.alloc (.cells #[.int .i64 fr, .int .i64 tt, .int .i64 kd, .int .i64 vo, .int .i64 li, .int .u64 (id : Int), .int .i64 co, .bool has, .int .u64 (key : Int), .int .u32 (ck : Int), .bool gn, .slice x L c] 42) = z := ⟨_, rfl⟩
  have hs1 : W1.heap.size = w.heap.size + 1 := by rw [← hW1]; simp
  rw [hW1] at hb0 hx
  have HCK := Lib.hid (wcheck_any ⟨fr, tt, kd, vo, li, id, co, has, ⟨key, ck, gn, md⟩⟩ (.slice x L c) W1 (hv.mono hb0 (Nat.le_refl _)))
  rw [hq, cerr_0] at HCK
  have HW1 := Lib.hid hW1
  clear hk hq
  have HX := Lib.hid hx
  have HB := Lib.hid hb0
  have HS1 := Lib.hid hs1
  clear hb0 hx hW1 hs1
  go_enter Try.func12, Try.ntmps12
  go_upto_region 1 with fail
  rw [HW1.out]
  have r := HX.out
  have p0 := r.cell 0 rfl
  have p1 := r.cell 1 rfl
  have p2 := r.cell 2 rfl
  have p3 := r.cell 3 rfl
  have p4 := r.cell 4 rfl
  have p5 := r.cell 5 rfl
  have p6 := r.cell 6 rfl
  have p7 := r.cell 7 rfl
  have p8 := r.cell 8 rfl
  have p9 := r.cell 9 rfl
  have p10 := r.cell 10 rfl
  have p11 := r.cell 11 rfl
  clear r
  go_wp2_with fail
  refine HCK.out.mono ?_
  rintro e wa ⟨rfl, hb⟩
  have hba := HB.out.trans (hb.mono HB.out.size)
  have hxa := HX.out.below hb HX.out.lt
  clear p0 p1 p2 p3 p4 p5 p6 p7 p8 p9 p10 p11
  have ht := h.below hba (Nat.le_refl _)
  have hwf : wfI tt := mcheck_wf HQ.out
  have hk9 := Blk.new wa #[.int .i64 tt, .int .u64 (id : Int)] 62
  have hxk := hxa.alloc (.cells #[.int .i64 tt, .int .u64 (id : Int)] 62)
  have hbk := hba.alloc hba.size (.cells #[.int .i64 tt, .int .u64 (id : Int)] 62)
  have hsk : wa.heap.size < (wa.alloc (.cells #[.int .i64 tt, .int .u64 (id : Int)] 62)).heap.size := by simp
  have hak := hxa.lt
  have hp1 := hxa.cell 1 rfl
  have hp5 := hxa.cell 5 rfl
  obtain ⟨A, hA⟩ : ∃ z, wa.heap.size = z := ⟨_, rfl⟩
  obtain ⟨W2, hW2⟩ : ∃ z, wa.alloc (.cells #[.int .i64 tt, .int .u64 (id : Int)] 62) = z := ⟨_, rfl⟩
  have hs2 : W2.heap.size = A + 1 := by rw [← hW2, ← hA]; simp
  rw [hW2] at hk9 hxk hbk hsk
  rw [hA] at hk9 hsk hak
  have ht2 := h.below hbk (Nat.le_refl _)
  have HW2 := Lib.hid hW2
  have HA := Lib.hid hA
  have HXK := Lib.hid hxk
  have HK9 := Lib.hid hk9
  have HBK := Lib.hid hbk
  have HT2 := Lib.hid ht2
  have HS2 := Lib.hid hs2
  have HAK := Lib.hid hak
  have hg0 := h.tblk.lt
  have hlook := (ht2.below (Below.refl _ _).drew (Nat.le_refl _)).tmap.look hwf hid
  have hlook2 := (ht2.below ((Below.refl _ _).alloc (Nat.le_refl _) (.cells #[.int .i64 0, .int .i64 0, .int .i64 0, .int .i64 0, .int .i64 0, .int .u64 0, .int .i64 0, .bool false, .int .u64 0, .int .u32 0, .bool false, .slice none 0 0] 42)).drew (Nat.le_refl _)).tmap.look hwf hid
  rw [hn] at hlook hlook2
  have hl1 : (Instr.lookup 57 (.map (some b)) (.agg #[.int .i64 tt, .int .u64 (id : Int)]) true).run Try.prog W2.drew = .ok (.tuple #[.agg #[.int .i64 0, .int .i64 0, .int .i64 0, .int .i64 0, .int .i64 0, .int .u64 0, .int .i64 0, .bool false, .int .u64 0, .int .u32 0, .bool false, .slice none 0 0], .bool false]) W2.drew := hlook
  have hl2 : (Instr.lookup 57 (.map (some b)) (.agg #[.int .i64 tt, .int .u64 (id : Int)]) true).run Try.prog (W2.alloc (.cells #[.int .i64 0, .int .i64 0, .int .i64 0, .int .i64 0, .int .i64 0, .int .u64 0, .int .i64 0, .bool false, .int .u64 0, .int .u32 0, .bool false, .slice none 0 0] 42)).drew = .ok (.tuple #[.agg #[.int .i64 0, .int .i64 0, .int .i64 0, .int .i64 0, .int .i64 0, .int .u64 0, .int .i64 0, .bool false, .int .u64 0, .int .u32 0, .bool false, .slice none 0 0], .bool false]) (W2.alloc (.cells #[.int .i64 0, .int .i64 0, .int .i64 0, .int .i64 0, .int .i64 0, .int .u64 0, .int .i64 0, .bool false, .int .u64 0, .int .u32 0, .bool false, .slice none 0 0] 42)).drew := hlook2
  have HL1 := Lib.hid hl1
  have HL2 := Lib.hid hl2
  have HG0 := Lib.hid (show g < w.heap.size from hg0)
  clear hlook hlook2 hl1 hl2 ht hk9 hxk hbk hsk hA hW2 hs2 ht2 hba hxa hb hg0 hwf hn h hid hv hak
  go_upto_region 9 with fail
  rw [HW2.out, HA.out]
  clear hp1 hp5
  have hl1 := HL1.out
  have hl2 := HL2.out
  have c1 : W2.cell? ⟨g, 1, none⟩ = some (.map (some b)) := HT2.out.tblk.cell 1 rfl
  have c2 : W2.cell? ⟨A, 0, none⟩ = some (.int .i64 tt) := HK9.out.cell 0 rfl
  have c3 : W2.cell? ⟨A, 1, none⟩ = some (.int .u64 (id : Int)) := HK9.out.cell 1 rfl
  have d1 : (W2.alloc (.cells #[.int .i64 0, .int .i64 0, .int .i64 0, .int .i64 0, .int .i64 0, .int .u64 0, .int .i64 0, .bool false, .int .u64 0, .int .u32 0, .bool false, .slice none 0 0] 42)).cell? ⟨g, 1, none⟩ = some (.map (some b)) := (HT2.out.tblk.alloc (.cells #[.int .i64 0, .int .i64 0, .int .i64 0, .int .i64 0, .int .i64 0, .int .u64 0, .int .i64 0, .bool false, .int .u64 0, .int .u32 0, .bool false, .slice none 0 0] 42)).cell 1 rfl
  have d2 : (W2.alloc (.cells #[.int .i64 0, .int .i64 0, .int .i64 0, .int .i64 0, .int .i64 0, .int .u64 0, .int .i64 0, .bool false, .int .u64 0, .int .u32 0, .bool false, .slice none 0 0] 42)).cell? ⟨A, 0, none⟩ = some (.int .i64 tt) := (HK9.out.alloc (.cells #[.int .i64 0, .int .i64 0, .int .i64 0, .int .i64 0, .int .i64 0, .int .u64 0, .int .i64 0, .bool false, .int .u64 0, .int .u32 0, .bool false, .slice none 0 0] 42)).cell 0 rfl
  have d3 : (W2.alloc (.cells #[.int .i64 0, .int .i64 0, .int .i64 0, .int .i64 0, .int .i64 0, .int .u64 0, .int .i64 0, .bool false, .int .u64 0, .int .u32 0, .bool false, .slice none 0 0] 42)).cell? ⟨A, 1, none⟩ = some (.int .u64 (id : Int)) := (HK9.out.alloc (.cells #[.int .i64 0, .int .i64 0, .int .i64 0, .int .i64 0, .int .i64 0, .int .u64 0, .int .i64 0, .bool false, .int .u64 0, .int .u32 0, .bool false, .slice none 0 0] 42)).cell 1 rfl
  have HBA := Lib.hid ((HBK.out.alloc HBK.out.size (.cells #[.int .i64 0, .int .i64 0, .int .i64 0, .int .i64 0, .int .i64 0, .int .u64 0, .int .i64 0, .bool false, .int .u64 0, .int .u32 0, .bool false, .slice none 0 0] 42)).drew)
  have hw3 : Below W2.heap.size W2 (W2.alloc (.cells #[.int .i64 0, .int .i64 0, .int .i64 0, .int .i64 0, .int .i64 0, .int .u64 0, .int .i64 0, .bool false, .int .u64 0, .int .u32 0, .bool false, .slice none 0 0] 42)).drew := (below_new16 W2 (.cells #[.int .i64 0, .int .i64 0, .int .i64 0, .int .i64 0, .int .i64 0, .int .u64 0, .int .i64 0, .bool false, .int .u64 0, .int .u32 0, .bool false, .slice none 0 0] 42)).drew
  go_cut [8] from 7 to 34 (fun cc wx => cc = .bool false ∧ wx = (W2.alloc (.cells #[.int .i64 0, .int .i64 0, .int .i64 0, .int .i64 0, .int .i64 0, .int .u64 0, .int .i64 0, .bool false, .int .u64 0, .int .u32 0, .bool false, .slice none 0 0] 42)).drew)
  case first =>
    go_region
    all_goals
      go_wp2_with fail
      go_meet
      exact ⟨rfl, rfl⟩
  case rest =>
  obtain ⟨rfl, h9⟩ := hcut
  obtain ⟨W3, hW3⟩ : ∃ z, wc = z := ⟨_, rfl⟩
  subst hW3
  obtain ⟨W3, hW3⟩ : ∃ z, z = wc := ⟨_, rfl⟩
  subst hW3
  rw [← h9] at HBA hw3
  clear h9
  have HT3 := Lib.hid (HT2.out.below hw3 (Nat.le_refl _))
  have HW3 := Lib.hid hw3
  have HRM := Lib.hid (oroom_at HT3.out)
  rw [hd] at HRM
  clear hl1 hl2 c1 c2 c3 d1 d2 d3 hw3 hd
  go_wp2_with fail
  refine HRM.out.mono ?_
  rintro e w4 ⟨rfl, hb4⟩
  have hba4 := HBA.out.trans (hb4.mono HBA.out.size)
  have h34 := HW3.out.trans (hb4.mono HW3.out.size)
  have HT4 := Lib.hid (HT3.out.below hb4 (Nat.le_refl _))
  have HXW := Lib.hid (HXK.out.below h34 HXK.out.lt)
  have HKW := Lib.hid (HK9.out.below h34 HK9.out.lt)
  have HB4 := Lib.hid hba4
  have HSX := Lib.hid (fun (wx : World) (hk : Kept (fun k => k = b) w4 wx) => show wx.cell? ⟨g, 1, none⟩ = some (.map (some b)) ∧ wx.cell? ⟨A, 0, none⟩ = some (.int .i64 tt) ∧ wx.cell? ⟨A, 1, none⟩ = some (.int .u64 (id : Int)) ∧ wx.cell? ⟨w.heap.size, 0, none⟩ = some (.int .i64 fr) ∧ wx.cell? ⟨w.heap.size, 1, none⟩ = some (.int .i64 tt) ∧ wx.cell? ⟨w.heap.size, 2, none⟩ = some (.int .i64 kd) ∧ wx.cell? ⟨w.heap.size, 3, none⟩ = some (.int .i64 vo) ∧ wx.cell? ⟨w.heap.size, 4, none⟩ = some (.int .i64 li) ∧ wx.cell? ⟨w.heap.size, 5, none⟩ = some (.int .u64 (id : Int)) ∧ wx.cell? ⟨w.heap.size, 6, none⟩ = some (.int .i64 co) ∧ wx.cell? ⟨w.heap.size, 7, none⟩ = some (.bool has) ∧ wx.cell? ⟨w.heap.size, 8, none⟩ = some (.int .u64 (key : Int)) ∧ wx.cell? ⟨w.heap.size, 9, none⟩ = some (.int .u32 (ck : Int)) ∧ wx.cell? ⟨w.heap.size, 10, none⟩ = some (.bool gn) ∧ wx.cell? ⟨w.heap.size, 11, none⟩ = some (.slice x L c) from
    have h1 := (HT4.out.tblk.kept hk (fun e => HT4.out.tgb e.symm)).cell 1 rfl
    have h2 := HKW.out.kept hk (fun e => HNB.out.1 _ (HAK.out) e)
    have h3 := HXW.out.kept hk (fun e => HNB.out.2 e)
    ⟨h1, h2.cell 0 rfl, h2.cell 1 rfl, h3.cell 0 rfl, h3.cell 1 rfl, h3.cell 2 rfl, h3.cell 3 rfl, h3.cell 4 rfl, h3.cell 5 rfl, h3.cell 6 rfl, h3.cell 7 rfl, h3.cell 8 rfl, h3.cell 9 rfl, h3.cell 10 rfl, h3.cell 11 rfl⟩)
  have S0 := HSX.out w4.drew (Kept.refl _ _).drew
  clear h34 hb4 hba4
  go_upto_region 14 with fail
  go_region_held3 (fun wx => wx.cell? ⟨g, 1, none⟩ = some (.map (some b)) ∧ wx.cell? ⟨A, 0, none⟩ = some (.int .i64 tt) ∧ wx.cell? ⟨A, 1, none⟩ = some (.int .u64 (id : Int)) ∧ wx.cell? ⟨w.heap.size, 0, none⟩ = some (.int .i64 fr) ∧ wx.cell? ⟨w.heap.size, 1, none⟩ = some (.int .i64 tt) ∧ wx.cell? ⟨w.heap.size, 2, none⟩ = some (.int .i64 kd) ∧ wx.cell? ⟨w.heap.size, 3, none⟩ = some (.int .i64 vo) ∧ wx.cell? ⟨w.heap.size, 4, none⟩ = some (.int .i64 li) ∧ wx.cell? ⟨w.heap.size, 5, none⟩ = some (.int .u64 (id : Int)) ∧ wx.cell? ⟨w.heap.size, 6, none⟩ = some (.int .i64 co) ∧ wx.cell? ⟨w.heap.size, 7, none⟩ = some (.bool has) ∧ wx.cell? ⟨w.heap.size, 8, none⟩ = some (.int .u64 (key : Int)) ∧ wx.cell? ⟨w.heap.size, 9, none⟩ = some (.int .u32 (ck : Int)) ∧ wx.cell? ⟨w.heap.size, 10, none⟩ = some (.bool gn) ∧ wx.cell? ⟨w.heap.size, 11, none⟩ = some (.slice x L c)) (first | exact S0 | exact S1 | exact S2) (first | (go_at_call 24; refine (HOWN.out _ (HB4.out.drew)).mono ?_; rintro e wo ⟨z, qq, rfl, hI, hlo, hbo⟩; have HBO := Lib.hid ((Below.refl w4.heap.size w4).drew.trans hbo); have HTO := Lib.hid (HT4.out.below HBO.out (Nat.le_refl _)); have hst := HTO.out.tmap.store HLT.out (m := ⟨fr, tt, kd, vo, li, id, co, has, ⟨key, ck, gn, md⟩⟩) (mcheck_wf HQ.out) HID.out HNN.out (.slice z L qq); obtain ⟨wd, hupd0, htd, hkd⟩ := hst; have hupd : (Instr.mapUpdate 57 (.map (some b)) (.agg #[.int .i64 tt, .int .u64 (id : Int)]) (.agg #[.int .i64 fr, .int .i64 tt, .int .i64 kd, .int .i64 vo, .int .i64 li, .int .u64 (id : Int), .int .i64 co, .bool has, .int .u64 (key : Int), .int .u32 (ck : Int), .bool gn, .slice z L qq])).run Try.prog wo = .ok () wd := hupd0; have HTD := Lib.hid (And.intro htd hkd); have HII := Lib.hid (And.intro hI (show ∀ k, liesB (.slice z L qq) md k → w4.heap.size ≤ k from hlo)); have S1 := HSX.out wo (Kept.of_below HBO.out (Nat.le_refl _)); have S2 := HSX.out wd ((Kept.of_below HBO.out (Nat.le_refl _)).trans hkd (fun j e _ => e)); clear hupd0 htd hkd hI hlo hbo))
  clear S1 S2 S0
  go_wp2_with fail
  go_ret
  exact ⟨rfl, .slice z L qq, HTO.out.turned HTD.out.2 HTD.out.1 (fun x hx => by
    rcases List.mem_append.1 hx with hx | hx
    · exact HTO.out.tl x hx
    · rw [List.mem_singleton.1 hx]
      exact ⟨HII.out.1.1, ⟨_, _, _, rfl⟩, fun k hk => by
        have h1 := HII.out.2 k hk
        have h2 := HT4.out.tblk.lt
        have h3 := HT4.out.tmap.lt
        exact ⟨fun e => by omega, fun e => by omega⟩⟩), (fun k hk => by have h1 := HII.out.2 k hk; have h2 := HB4.out.size; omega), (Kept.of_below (HB4.out.trans (HBO.out.mono HB4.out.size)) (Nat.le_refl _)).trans HTD.out.2 (fun j e _ => e)⟩
theorem okeep_any {B g : Nat} {S : Nat → Prop} {most : Int} {L : List Msg} (w : World) (h : Tb w B g S most L) (m : Msg) (x : Option Addr) (xl c : Nat) (hv : IsB w (.slice x xl c) m.n.data) (hf : m.n.fits) (hid : m.id < 18446744073709551616) :
    Calls Try.prog 12 #[.pointer (some ⟨g, 0, none⟩), mval m (.slice x xl c)] w fun e w' => e = .returned (cerr (keepK most L m)) ∧ TbT w B g S most (keepL most L m) w' := by
  have hbd := h.bound
  have hsame : ∀ k : Nat, k ≠ 0 → keepK most L m = k → ∀ (e : Ending) (w' : World), e = .returned (err (k : Int)) ∧ Below w.heap.size w w' → e = .returned (cerr (keepK most L m)) ∧ TbT w B g S most (keepL most L m) w' := fun k h0 hk e w' ⟨h1, h2⟩ =>
    ⟨by rw [hk, cerr_pos (by omega)]; exact h1, by unfold keepL; rw [if_neg (by omega)]; exact ⟨S, h.below h2, fun k hk => .inl hk, Kept.of_below h2 (Nat.le_refl _)⟩⟩
  obtain ⟨b, l, h1, hL, h3, h4, h5, h6⟩ := h
  obtain ⟨fr, tt, kd, vo, li, id, co, has, key, ck, gn, md⟩ := m
  by_cases hk : kd = 5
  · by_cases hq : mcheck ⟨fr, tt, kd, vo, li, id, co, has, ⟨key, ck, gn, md⟩⟩ = 0
    · cases hn : lookT tt id l with
      | some y =>
        obtain ⟨hm, _⟩ := lookT_some hn
        obtain ⟨_, ⟨y0, yn, yc, hy⟩, _⟩ := h1.tl y hm
        obtain ⟨⟨nfr, ntt, nkd, nvo, nli, nid, nco, nhas, nkey, nck, ngn, nmd⟩, yv⟩ := y
        cases hy
        refine (okeep_there fr tt kd vo li id co has key ck gn md x xl c w hk hq (wfU_of hid) hv h1 nfr ntt nkd nvo nli nid nco nhas nkey nck ngn nmd y0 yn yc hn).mono (hsame 8 (by decide) ?_)
        have hf8 : ¬ findP tt id L < 0 := fun h => by rw [hL] at h; rw [lookT_none.2 h] at hn; cases hn
        unfold keepK
        rw [if_pos hk, if_pos hq, if_pos (by show 0 ≤ findP tt id L; omega)]
      | none =>
        have hf8 : findP tt id L < 0 := by rw [hL]; exact lookT_none.1 hn
        have hlen : L.length = l.length := by rw [hL, List.length_map]
        by_cases hd : (l.length : Int) < most
        · have hkk : keepK most L ⟨fr, tt, kd, vo, li, id, co, has, ⟨key, ck, gn, md⟩⟩ = 0 := by
            unfold keepK
            rw [if_pos hk, if_pos hq, if_neg (by show ¬ 0 ≤ findP tt id L; omega), if_neg (by rw [hlen]; omega)]
          refine (okeep_ok fr tt kd vo li id co has key ck gn md x xl c w hk hq (wfU_of hid) hv h1 h3.2.1 hn (decide_eq_true hd)).mono ?_
          rintro e w' ⟨rfl, v, k1, k2, k3⟩
          refine ⟨by rw [hkk, cerr_0], ⟨fun k => S k ∨ liesB v md k, ⟨b, l ++ [(⟨fr, tt, kd, vo, li, id, co, has, ⟨key, ck, gn, md⟩⟩, v)], k1, by unfold keepL; rw [if_pos hkk, hL, List.map_append]; rfl, ⟨h3.1, h3.2.1, by unfold keepL; rw [if_pos hkk, List.length_append, hlen]; simp; omega⟩, fun m hm => ?_, fun k hk => ?_, fun k hk => ?_⟩, fun k hk => hk.imp (fun h => h) (k2 k), k3.mono fun k _ e => h5 k (.inr (.inl e))⟩⟩
          · unfold keepL at hm
            rw [if_pos hkk] at hm
            rcases List.mem_append.1 hm with hm | hm
            · exact h4 m hm
            · rw [List.mem_singleton.1 hm]; exact ⟨hq, hf, hid⟩
          · rcases hk with rfl | rfl | ⟨z, hz, hk⟩
            · exact .inl (h5 _ (.inl rfl))
            · exact .inl (h5 _ (.inr (.inl rfl)))
            · rcases List.mem_append.1 hz with hz | hz
              · exact .inl (h5 _ (.inr (.inr ⟨z, hz, hk⟩)))
              · rw [List.mem_singleton.1 hz] at hk; exact .inr hk
          · rcases hk with hk | hk
            · exact ⟨(h6 k hk).1, Nat.lt_of_lt_of_le (h6 k hk).2 k3.size⟩
            · have h7 := k2 k hk
              have h8 := h6 g (h5 _ (.inl rfl))
              exact ⟨by omega, (k1.tl _ (List.mem_append_right _ (List.mem_singleton.2 rfl))).1.lies_lt hk⟩
        · refine (okeep_full fr tt kd vo li id co has key ck gn md x xl c w hk hq (wfU_of hid) hv h1 hn (decide_eq_false hd)).mono (hsame 11 (by decide) ?_)
          unfold keepK
          rw [if_pos hk, if_pos hq, if_neg (by show ¬ 0 ≤ findP tt id L; omega), if_pos (by rw [hlen]; omega)]
    · refine (okeep_check fr tt kd vo li id co has key ck gn md x xl c w hk _ rfl hq hv).mono (hsame _ hq ?_)
      unfold keepK
      rw [if_pos hk, if_neg hq]
  · refine (okeep_kind fr tt kd vo li id co has key ck gn md x xl c w hk).mono (hsame 1 (by decide) ?_)
    unfold keepK
    rw [if_neg hk]
theorem okeep_none (m : Msg) (x : Option Addr) (xl c : Nat) (w : World) :
    Calls Try.prog 12 #[.pointer none, mval m (.slice x xl c)] w fun e w' => e = .returned (err 15) ∧ Below w.heap.size w w' := by
  obtain ⟨fr, tt, kd, vo, li, id, co, has, key, ck, gn, md⟩ := m
  exact okeep_nil fr tt kd vo li id co has key ck gn md x xl c w

end Go.Proofs.Ytncfdkkekaninaa
