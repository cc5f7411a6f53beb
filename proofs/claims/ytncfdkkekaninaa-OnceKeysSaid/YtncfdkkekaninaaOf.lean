/- Package once by contracts: Find. -/
import Derived.Test.YtncfdkkekaninaaOw
set_option linter.unusedVariables false
set_option linter.unusedSimpArgs false
namespace Go.Proofs.Ytncfdkkekaninaa
open Go.RowKit Go.Cor

set_option maxRecDepth 100000 in
set_option maxHeartbeats 1000000 in
theorem ofind_nil (a : Int) (q : Nat) (w : World) :
    Calls Try.prog 17 #[.pointer none, .int .i64 a, .int .u64 (q : Int)] w fun e w' => e = .returned (.tuple #[mval mz (.slice none 0 0), err 15]) ∧ Below w.heap.size w w' := by
  have hb0 := below_new16 w (.cells #[.int .i64 0, .int .i64 0, .int .i64 0, .int .i64 0, .int .i64 0, .int .u64 0, .int .i64 0, .bool false, .int .u64 0, .int .u32 0, .bool false, .slice none 0 0] 42)
  have hx := Blk.new w #[.int .i64 0, .int .i64 0, .int .i64 0, .int .i64 0, .int .i64 0, .int .u64 0, .int .i64 0, .bool false, .int .u64 0, .int .u32 0, .bool false, .slice none 0 0] 42
  obtain ⟨W1, hW1⟩ : ∃ z, w.alloc (.cells #[.int .i64 0, .int .i64 0, .int .i64 0, .int .i64 0, .int .i64 0, .int .u64 0, .int .i64 0, .bool false, .int .u64 0, .int .u32 0, .bool false, .slice none 0 0] 42) = z := ⟨_, rfl⟩
  rw [hW1] at hb0 hx
  have HW1 := Lib.hid hW1
  have HF := fin12 hx hb0 (Nat.le_refl _) (.int .i64 0) (.int .i64 0) (.int .i64 0) (.int .i64 0) (.int .i64 0) (.int .u64 0) (.int .i64 0) (.bool false) (.int .u64 0) (.int .u32 0) (.bool false) (.slice none 0 0)
  unfold set12 at HF
  have HF := Lib.hid HF
  have HX := Lib.hid hx
  clear hb0 hx hW1
  go_enter Try.func17, Try.ntmps17
  go_upto_region 1 with fail
  rw [HW1.out]
  have z0 := HX.out.cell 0 rfl
  have z1 := HX.out.cell 1 rfl
  have z2 := HX.out.cell 2 rfl
  have z3 := HX.out.cell 3 rfl
  have z4 := HX.out.cell 4 rfl
  have z5 := HX.out.cell 5 rfl
  have z6 := HX.out.cell 6 rfl
  have z7 := HX.out.cell 7 rfl
  have z8 := HX.out.cell 8 rfl
  have z9 := HX.out.cell 9 rfl
  have z10 := HX.out.cell 10 rfl
  have z11 := HX.out.cell 11 rfl
  have zf := fun j => HX.out.free j
  go_wp2
  obtain ⟨j0, j1, j2, j3, j4, j5, j6, j7, j8, j9, j10, j11, jb, jk⟩ := HF.out
  refine bodyPost_ret (v := .tuple #[.agg #[.int .i64 0, .int .i64 0, .int .i64 0, .int .i64 0, .int .i64 0, .int .u64 0, .int .i64 0, .bool false, .int .u64 0, .int .u32 0, .bool false, .slice none 0 0], err 15]) (by simp [results, Try.results17, go_sem, j0, j1, j2, j3, j4, j5, j6, j7, j8, j9, j10, j11]) rfl ⟨rfl, jb⟩
set_option maxRecDepth 100000 in
set_option maxHeartbeats 2000000 in
theorem ofind_none {w : World} {g b : Nat} {most : Int} {l : List (Msg × Value)} (h : TbAt w g b most l) (a : Int) (q : Nat) (ha : wfI a) (hq : wfU q) (hn : lookT a q l = none) :
    Calls Try.prog 17 #[.pointer (some ⟨g, 0, none⟩), .int .i64 a, .int .u64 (q : Int)] w fun e w' => e = .returned (.tuple #[mval mz (.slice none 0 0), err 6]) ∧ Below w.heap.size w w' := by
  have hb0 := below_new16 w (.cells #[.int .i64 0, .int .i64 0, .int .i64 0, .int .i64 0, .int .i64 0, .int .u64 0, .int .i64 0, .bool false, .int .u64 0, .int .u32 0, .bool false, .slice none 0 0] 42)
  have hx := Blk.new w #[.int .i64 0, .int .i64 0, .int .i64 0, .int .i64 0, .int .i64 0, .int .u64 0, .int .i64 0, .bool false, .int .u64 0, .int .u32 0, .bool false, .slice none 0 0] 42
  have ht1 := h.below hb0 (Nat.le_refl _)
  obtain ⟨W1, hW1⟩ : ∃ z, (w.alloc (.cells #[.int .i64 0, .int .i64 0, .int .i64 0, .int .i64 0, .int .i64 0, .int .u64 0, .int .i64 0, .bool false, .int .u64 0, .int .u32 0, .bool false, .slice none 0 0] 42)) = z := ⟨_, rfl⟩
  have hs1 : W1.heap.size = w.heap.size + 1 := by rw [← hW1]; simp
  rw [hW1] at hb0 hx ht1
  have k1 : W1.cell? ⟨g, 1, none⟩ = some (.map (some b)) := ht1.tblk.cell 1 rfl
  have hlook := ht1.tmap.look ha hq
  rw [hn] at hlook
  have hx2 := hx.alloc (.cells #[.int .i64 0, .int .i64 0, .int .i64 0, .int .i64 0, .int .i64 0, .int .u64 0, .int .i64 0, .bool false, .int .u64 0, .int .u32 0, .bool false, .slice none 0 0] 42)
  have hb2 := hb0.alloc hb0.size (.cells #[.int .i64 0, .int .i64 0, .int .i64 0, .int .i64 0, .int .i64 0, .int .u64 0, .int .i64 0, .bool false, .int .u64 0, .int .u32 0, .bool false, .slice none 0 0] 42)
  obtain ⟨W2, hW2⟩ : ∃ z, W1.alloc (.cells #[.int .i64 0, .int .i64 0, .int .i64 0, .int .i64 0, .int .i64 0, .int .u64 0, .int .i64 0, .bool false, .int .u64 0, .int .u32 0, .bool false, .slice none 0 0] 42) = z := ⟨_, rfl⟩
  rw [hW2] at hx2 hb2
  have HF := fin12 hx2 hb2 (Nat.le_refl _) (.int .i64 0) (.int .i64 0) (.int .i64 0) (.int .i64 0) (.int .i64 0) (.int .u64 0) (.int .i64 0) (.bool false) (.int .u64 0) (.int .u32 0) (.bool false) (.slice none 0 0)
  unfold set12 at HF
  have HF := Lib.hid HF
  have HX := Lib.hid hx2
  have HW1 := Lib.hid hW1
  have HW2 := Lib.hid hW2
  have hl2 : (Instr.lookup 57 (.map (some b)) (.agg #[.int .i64 a, .int .u64 (q : Int)]) true).run Try.prog W1 = .ok (.tuple #[.agg #[.int .i64 0, .int .i64 0, .int .i64 0, .int .i64 0, .int .i64 0, .int .u64 0, .int .i64 0, .bool false, .int .u64 0, .int .u32 0, .bool false, .slice none 0 0], .bool false]) W1 := hlook
  clear hb0 hx ht1 hx2 hb2 hW1 hW2 hlook h ha hq hn hs1
  go_enter Try.func17, Try.ntmps17
  go_upto_region 3 with fail
  rw [HW1.out]
  go_upto_region 4 with fail
  rw [HW2.out]
  have z0 := HX.out.cell 0 rfl
  have z1 := HX.out.cell 1 rfl
  have z2 := HX.out.cell 2 rfl
  have z3 := HX.out.cell 3 rfl
  have z4 := HX.out.cell 4 rfl
  have z5 := HX.out.cell 5 rfl
  have z6 := HX.out.cell 6 rfl
  have z7 := HX.out.cell 7 rfl
  have z8 := HX.out.cell 8 rfl
  have z9 := HX.out.cell 9 rfl
  have z10 := HX.out.cell 10 rfl
  have z11 := HX.out.cell 11 rfl
  have zf := fun j => HX.out.free j
  go_wp2
  obtain ⟨j0, j1, j2, j3, j4, j5, j6, j7, j8, j9, j10, j11, jb, jk⟩ := HF.out
  refine bodyPost_ret (v := .tuple #[.agg #[.int .i64 0, .int .i64 0, .int .i64 0, .int .i64 0, .int .i64 0, .int .u64 0, .int .i64 0, .bool false, .int .u64 0, .int .u32 0, .bool false, .slice none 0 0], err 6]) (by simp [results, Try.results17, go_sem, j0, j1, j2, j3, j4, j5, j6, j7, j8, j9, j10, j11]) rfl ⟨rfl, jb⟩
set_option maxRecDepth 100000 in
set_option maxHeartbeats 2000000 in
theorem ofind_f (fr tt kd vo li : Int) (id : Nat) (co : Int) (has : Bool) (key ck : Nat) (gn : Bool) (md : List UInt8) (x : Option Addr) (L c : Nat) {w : World} {g b : Nat} {most : Int} {l : List (Msg × Value)} (h : TbAt w g b most l) (a : Int) (q : Nat) (ha : wfI a) (hq : wfU q) (hn : lookT a q l = some (⟨fr, tt, kd, vo, li, id, co, has, ⟨key, ck, gn, md⟩⟩, .slice x L c)) (hl : md.length ≤ 1099511627776) :
    Calls Try.prog 17 #[.pointer (some ⟨g, 0, none⟩), .int .i64 a, .int .u64 (q : Int)] w fun e w' => ∃ z qq, e = .returned (.tuple #[.agg #[.int .i64 fr, .int .i64 tt, .int .i64 kd, .int .i64 vo, .int .i64 li, .int .u64 (id : Int), .int .i64 co, .bool has, .int .u64 (key : Int), .int .u32 (ck : Int), .bool gn, .slice z L qq], .nilIface]) ∧ IsF w' (.slice z L qq) md ∧ (∀ b, liesB (.slice z L qq) md b → w.heap.size ≤ b) ∧ Below w.heap.size w w' := by
  have hv := (h.tl _ (lookT_some hn).1).1
  have hb0 := below_new16 w (.cells #[.int .i64 0, .int .i64 0, .int .i64 0, .int .i64 0, .int .i64 0, .int .u64 0, .int .i64 0, .bool false, .int .u64 0, .int .u32 0, .bool false, .slice none 0 0] 42)
  have hx := Blk.new w #[.int .i64 0, .int .i64 0, .int .i64 0, .int .i64 0, .int .i64 0, .int .u64 0, .int .i64 0, .bool false, .int .u64 0, .int .u32 0, .bool false, .slice none 0 0] 42
  have ht1 := h.below hb0 (Nat.le_refl _)
  obtain ⟨W1, hW1⟩ : ∃ z, (w.alloc (.cells #[.int .i64 0, .int .i64 0, .int .i64 0, .int .i64 0, .int .i64 0, .int .u64 0, .int .i64 0, .bool false, .int .u64 0, .int .u32 0, .bool false, .slice none 0 0] 42)) = z := ⟨_, rfl⟩
  have hs1 : W1.heap.size = w.heap.size + 1 := by rw [← hW1]; simp
  rw [hW1] at hb0 hx ht1
  have k1 : W1.cell? ⟨g, 1, none⟩ = some (.map (some b)) := ht1.tblk.cell 1 rfl
  have hlook := ht1.tmap.look ha hq
  rw [hn] at hlook
  have hx2 := hx.alloc (.cells #[.int .i64 fr, .int .i64 tt, .int .i64 kd, .int .i64 vo, .int .i64 li, .int .u64 (id : Int), .int .i64 co, .bool has, .int .u64 (key : Int), .int .u32 (ck : Int), .bool gn, .slice x L c] 42)
  have hb2 := hb0.alloc hb0.size (.cells #[.int .i64 fr, .int .i64 tt, .int .i64 kd, .int .i64 vo, .int .i64 li, .int .u64 (id : Int), .int .i64 co, .bool has, .int .u64 (key : Int), .int .u32 (ck : Int), .bool gn, .slice x L c] 42)
  have hy2 := Blk.new W1 #[.int .i64 fr, .int .i64 tt, .int .i64 kd, .int .i64 vo, .int .i64 li, .int .u64 (id : Int), .int .i64 co, .bool has, .int .u64 (key : Int), .int .u32 (ck : Int), .bool gn, .slice x L c] 42
  rw [hs1] at hy2
  obtain ⟨W2, hW2⟩ : ∃ z, W1.alloc (.cells #[.int .i64 fr, .int .i64 tt, .int .i64 kd, .int .i64 vo, .int .i64 li, .int .u64 (id : Int), .int .i64 co, .bool has, .int .u64 (key : Int), .int .u32 (ck : Int), .bool gn, .slice x L c] 42) = z := ⟨_, rfl⟩
  rw [hW2] at hx2 hb2 hy2
  have HO := Lib.hid (own_f fr tt kd vo li id co has key ck gn md x L c W2 (hv.mono hb2 (Nat.le_refl _)) hl)
  have HX := Lib.hid hx2
  have HY := Lib.hid hy2
  have HB := Lib.hid hb2
  have HW1 := Lib.hid hW1
  have HW2 := Lib.hid hW2
  have HS1 := Lib.hid hs1
  have hl2 : (Instr.lookup 57 (.map (some b)) (.agg #[.int .i64 a, .int .u64 (q : Int)]) true).run Try.prog W1 = .ok (.tuple #[.agg #[.int .i64 fr, .int .i64 tt, .int .i64 kd, .int .i64 vo, .int .i64 li, .int .u64 (id : Int), .int .i64 co, .bool has, .int .u64 (key : Int), .int .u32 (ck : Int), .bool gn, .slice x L c], .bool true]) W1 := hlook
  clear hb0 hx ht1 hx2 hb2 hy2 hW1 hW2 hlook h ha hq hn hv hl hs1
  go_enter Try.func17, Try.ntmps17
  go_upto_region 3 with fail
  rw [HW1.out]
  go_upto_region 4 with fail
  rw [HW2.out, HS1.out]
  have r := HY.out
  have p0 := r.cell 0 rfl
  have p1 := r.cell 1 rfl
  have p2 := r.cell 2 rfl
  have p3 := r.cell 3 rfl
  have p4 := r.cell 4 rfl
  have p5 := r.cell 5 rfl
  have p6 := r.cell 6 rfl
  have p7 := r.cell 7 rfl
  have p8 := r.cell 8 rfl
  have p9 := r.cell 9 rfl
  have p10 := r.cell 10 rfl
  have p11 := r.cell 11 rfl
  clear r
  go_wp2_with fail
  refine HO.out.mono ?_
  rintro e w3 ⟨z, qq, rfl, hI3, hlo3, hb3⟩
  have hx3 := HX.out.below hb3 HX.out.lt
  have hbb := HB.out.trans (hb3.mono HB.out.size)
  have HF := fin12 hx3 hbb (Nat.le_refl _) (.int .i64 fr) (.int .i64 tt) (.int .i64 kd) (.int .i64 vo) (.int .i64 li) (.int .u64 (id : Int)) (.int .i64 co) (.bool has) (.int .u64 (key : Int)) (.int .u32 (ck : Int)) (.bool gn) (.slice z L qq)
  unfold set12 at HF
  have HF := Lib.hid HF
  have HI := Lib.hid hI3
  have HSZ := Lib.hid HX.out.lt
  have HLO := Lib.hid hlo3
  have HX3 := Lib.hid hx3
  clear p0 p1 p2 p3 p4 p5 p6 p7 p8 p9 p10 p11 hx3 hbb hI3 hlo3 hb3
  have z0 := HX3.out.cell 0 rfl
  have z1 := HX3.out.cell 1 rfl
  have z2 := HX3.out.cell 2 rfl
  have z3 := HX3.out.cell 3 rfl
  have z4 := HX3.out.cell 4 rfl
  have z5 := HX3.out.cell 5 rfl
  have z6 := HX3.out.cell 6 rfl
  have z7 := HX3.out.cell 7 rfl
  have z8 := HX3.out.cell 8 rfl
  have z9 := HX3.out.cell 9 rfl
  have z10 := HX3.out.cell 10 rfl
  have z11 := HX3.out.cell 11 rfl
  have zf := fun j => HX3.out.free j
  go_wp2
  obtain ⟨j0, j1, j2, j3, j4, j5, j6, j7, j8, j9, j10, j11, jb, jk⟩ := HF.out
  refine bodyPost_ret (v := .tuple #[.agg #[.int .i64 fr, .int .i64 tt, .int .i64 kd, .int .i64 vo, .int .i64 li, .int .u64 (id : Int), .int .i64 co, .bool has, .int .u64 (key : Int), .int .u32 (ck : Int), .bool gn, .slice z L qq], .nilIface]) (by simp [results, Try.results17, go_sem, j0, j1, j2, j3, j4, j5, j6, j7, j8, j9, j10, j11]) rfl ⟨z, qq, rfl, HI.out.kept jk (fun b hb e => by have := HLO.out b hb; have := HSZ.out; omega), fun b hb => by have := HLO.out b hb; have := HSZ.out; omega, jb⟩
/-- What Find tells: the error's number, the message. -/
def findK (a : Int) (q : Nat) (l : List Msg) : Nat := if findP a q l < 0 then 6 else 0
def findM (a : Int) (q : Nat) (l : List Msg) : Msg := if findP a q l < 0 then mz else l.getD (findP a q l).toNat mz
theorem ofind_any {B g : Nat} {S : Nat → Prop} {most : Int} {L : List Msg} (w : World) (h : Tb w B g S most L) (a : Int) (q : Nat) (ha : wfI a) (hq : wfU q) :
    Calls Try.prog 17 #[.pointer (some ⟨g, 0, none⟩), .int .i64 a, .int .u64 (q : Int)] w fun e w' => ∃ z n c, e = .returned (.tuple #[mval (findM a q L) (.slice z n c), cerr (findK a q L)]) ∧ IsF w' (.slice z n c) (findM a q L).n.data ∧ (∀ b, liesB (.slice z n c) (findM a q L).n.data b → w.heap.size ≤ b) ∧ Below w.heap.size w w' := by
  obtain ⟨b, l, h1, rfl, h3, h4, h5, h6⟩ := h
  cases hn : lookT a q l with
  | none =>
    have hf := lookT_none.1 hn
    rw [show findM a q (l.map (·.1)) = mz by unfold findM; rw [if_pos hf], show findK a q (l.map (·.1)) = 6 by unfold findK; rw [if_pos hf], cerr_pos (by decide)]
    refine (ofind_none h1 a q ha hq hn).mono ?_
    rintro e w' ⟨rfl, hb⟩
    exact ⟨none, 0, 0, rfl, IsF.nil _, fun b hb => absurd rfl hb.1, hb⟩
  | some x =>
    obtain ⟨i, hi, hx⟩ := lookT_at hn
    obtain ⟨hm, _⟩ := lookT_some hn
    obtain ⟨_, ⟨y, n, c, hy⟩, _⟩ := h1.tl x hm
    have hok := h4 x.1 (List.mem_map.2 ⟨x, hm, rfl⟩)
    have hlen := mcheck_len hok.1
    rw [show findM a q (l.map (·.1)) = x.1 by
        unfold findM
        rw [hi, if_neg (by omega)]
        simp [List.getD, hx], show findK a q (l.map (·.1)) = 0 by unfold findK; rw [hi, if_neg (by omega)], cerr_0]
    obtain ⟨⟨fr, tt, kd, vo, li, id, co, has, key, ck, gn, md⟩, xv⟩ := x
    cases hy
    refine (ofind_f fr tt kd vo li id co has key ck gn md y n c h1 a q ha hq hn (by have : md.length ≤ 4096 := hlen; omega)).mono ?_
    rintro e w' ⟨z, qq, rfl, k1, k2, k3⟩
    exact ⟨z, n, qq, rfl, k1, k2, k3⟩

end Go.Proofs.Ytncfdkkekaninaa
