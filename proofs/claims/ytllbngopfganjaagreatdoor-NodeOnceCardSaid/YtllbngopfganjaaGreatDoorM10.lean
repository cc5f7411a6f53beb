/- Volg, Ship, Vlay, Voll, Vols, Volm, Zp, Zn. -/
import Derived.Test.YtllbngopfganjaaGreatDoorM9
import Derived.Test.YtllbngopfganjaaGreatDoorM7
import Derived.StillTailTactics
import Derived.Test.YtllbngopfganjaaGreatDoorM4
set_option linter.unusedVariables false
set_option linter.unusedSimpArgs false

section
namespace Go.Proofs.YtllbngopfganjaaGreatDoor
open Go.RowKit Go.Cor

def set4 (w : World) (g : Nat) (u0 u1 u2 u3 : Value) : World := (((w.setCell ⟨g, 0, none⟩ u0).setCell ⟨g, 1, none⟩ u1).setCell ⟨g, 2, none⟩ u2).setCell ⟨g, 3, none⟩ u3
theorem blk_set4 {w : World} {g : Nat} {a0 a1 a2 a3 : Value} {T : TypeId} (h : Blk w g #[a0, a1, a2, a3] T) (u0 u1 u2 u3 : Value) : Blk (set4 w g u0 u1 u2 u3) g #[u0, u1, u2, u3] T := by
  have h1 := (((h.set 0 u0).set 1 u1).set 2 u2).set 3 u3
  exact h1
theorem below_set4 {w0 w : World} {B g : Nat} {u0 u1 u2 u3 : Value} (hb : Below B w0 w) (hB : B ≤ g) : Below B w0 (set4 w g u0 u1 u2 u3) :=
  (((hb.setCell hB _).setCell hB _).setCell hB _).setCell hB _
theorem set4_facts {w w1 : World} {B : Nat} {a0 a1 a2 a3 : Value} {T : TypeId} (h : Blk w1 B #[a0, a1, a2, a3] T) (hb : Below B w w1) (u0 u1 u2 u3 : Value) (o : Obj) :
    ((set4 w1 B u0 u1 u2 u3).alloc o).cell? ⟨B, 0, none⟩ = some u0 ∧ ((set4 w1 B u0 u1 u2 u3).alloc o).cell? ⟨B, 1, none⟩ = some u1 ∧ ((set4 w1 B u0 u1 u2 u3).alloc o).cell? ⟨B, 2, none⟩ = some u2 ∧
    ((set4 w1 B u0 u1 u2 u3).alloc o).cell? ⟨B, 3, none⟩ = some u3 ∧ Below B w ((set4 w1 B u0 u1 u2 u3).alloc o) := by
  have hz := (blk_set4 h u0 u1 u2 u3).alloc o
  exact ⟨hz.cell 0 rfl, hz.cell 1 rfl, hz.cell 2 rfl, hz.cell 3 rfl, (below_set4 hb (Nat.le_refl B)).alloc (Nat.le_of_lt (blk_set4 h u0 u1 u2 u3).lt) o⟩
theorem set4_done {w w1 : World} {B : Nat} {a0 a1 a2 a3 : Value} {T : TypeId} (h : Blk w1 B #[a0, a1, a2, a3] T) (hb : Below B w w1) (u0 u1 u2 u3 : Value) :
    (set4 w1 B u0 u1 u2 u3).cell? ⟨B, 0, none⟩ = some u0 ∧ (set4 w1 B u0 u1 u2 u3).cell? ⟨B, 1, none⟩ = some u1 ∧ (set4 w1 B u0 u1 u2 u3).cell? ⟨B, 2, none⟩ = some u2 ∧
    (set4 w1 B u0 u1 u2 u3).cell? ⟨B, 3, none⟩ = some u3 ∧ Below B w (set4 w1 B u0 u1 u2 u3) := by
  have hz := blk_set4 h u0 u1 u2 u3
  exact ⟨hz.cell 0 rfl, hz.cell 1 rfl, hz.cell 2 rfl, hz.cell 3 rfl, below_set4 hb (Nat.le_refl B)⟩

set_option maxRecDepth 100000 in
set_option maxHeartbeats 1000000 in
theorem get_b (key c g p k : Nat) (S : Nat → Prop) (d : Dsk) (s : Vst) (w : World) (h : Vready w g p S d k s) (hn : s.look key c ≠ 0) :
    Calls Tryz.prog 71 #[.pointer (some ⟨g, 0, none⟩), .int .u64 (key : Int), .int .u32 (c : Int)] w fun e w' =>
      e = .returned (.tuple #[Nd.nzero, ercode (s.look key c)]) ∧ Below w.heap.size w w' := by
  have hal := below_alloc w (.cells #[.int .u64 0, .int .u32 0, .bool false, .slice none 0 0] 43)
  have HAL := Lib.hid hal
  have h0 := h.below hal
  obtain ⟨x, xv, hbox, hix⟩ := h0.box
  have HB := Lib.hid (blob_bad g p x xv s key c _ h.ok hbox hix (by rw [blobN_look]; exact hn))
  rw [blobN_look] at HB
  obtain ⟨q, hq⟩ : ∃ q, s.look key c = q := ⟨_, rfl⟩
  rw [hq] at HB ⊢
  clear h h0 hbox hix hn hq hal
  go_enter Tryz.func71, Tryz.ntmps71
  go_wp2_with fail
  refine HB.out.mono ?_
  rintro e w1 ⟨rfl, hb1⟩
  have HX := Lib.hid ((Blk.new w #[.int .u64 0, .int .u32 0, .bool false, .slice none 0 0] 43).below hb1 (by simp))
  have HB1 := Lib.hid (HAL.out.trans (hb1.mono HAL.out.size))
  have hlt : w.heap.size < w1.heap.size := by have := hb1.size; simp at this; omega
  clear hb1
  have z0 := HX.out.cell 0 rfl
  have z1 := HX.out.cell 1 rfl
  have z2 := HX.out.cell 2 rfl
  have z3 := HX.out.cell 3 rfl
  have zf := fun j => HX.out.free j
  go_wp2
  have hF := set4_facts HX.out HB1.out (.int .u64 0) (.int .u32 0) (.bool false) (.slice none 0 0) (.cells #[.int .u64 (pzero.key : Int), .int .i64 pzero.off, .int .i64 pzero.len, .int .u32 (pzero.cookie : Int), .bool pzero.gone] 124)
  unfold set4 at hF
  obtain ⟨y0, y1, y2, y3, yb⟩ := hF
  exact bodyPost_ret (v := .tuple #[Nd.nzero, ercode q]) (by simp [results, Tryz.results71, go_sem, y0, y1, y2, y3]) rfl ⟨rfl, yb⟩

set_option maxRecDepth 100000 in
set_option maxHeartbeats 1000000 in
theorem get_o (n : Ndl) (off : Nat) (b : List UInt8) (key c g p k : Nat) (S : Nat → Prop) (d : Dsk) (s : Vst) (w : World) (h : Vready w g p S d k s) (hn : s.look key c = 0) (hf : fnd s.idx key = some (posN n off)) (hv : view d (nmD s.num s.gen) = some b) (hb : off + nlen n ≤ b.length) (hl : b.length ≤ 16777216) (hd : (b.drop off).take (nlen n) = nbytes n) (hnf : n.fits) (hnc : ncheck n = 0) :
    Calls Tryz.prog 71 #[.pointer (some ⟨g, 0, none⟩), .int .u64 (key : Int), .int .u32 (c : Int)] w fun e w' =>
      ∃ x cc, e = .returned (.tuple #[Nd.nval n (.slice x n.data.length cc), .nilIface]) ∧ w'.ownsRow w.heap.size 5 1 (.slice x n.data.length cc) n.data.length (bvs n.data) ∧ Below w.heap.size w w' := by
  have hal := below_alloc w (.cells #[.int .u64 0, .int .u32 0, .bool false, .slice none 0 0] 43)
  have HAL := Lib.hid hal
  have h0 := h.below hal
  have HH := Lib.hid h
  obtain ⟨x, xv, hbox, hix⟩ := h0.box
  have HB := Lib.hid (blob_ok g p x xv s key c _ _ h.ok hbox hix hf (by rw [← hf, blobN_look]; exact hn))
  have HRW := Lib.hid (fun w1 (hb1 : Below w.heap.size w w1) => raw_v n off b g p k S d s w1 (h.below hb1) hv hb hl (ncheck_ok hnc).1)
  rw [hd] at HRW
  have HGN := Lib.hid (fun v w1 hv => got_n n v w1 hv hnf hnc)
  have HNE := Lib.hid (nlen_eq n)
  obtain ⟨P, hP⟩ : ∃ P, posN n off = P := ⟨_, rfl⟩
  have HPO := Lib.hid hP
  have he := fun W => Tryz.eqlPosV P P W
  simp only [ne_eq, not_true_eq_false, decide_false] at he
  have hgd := Tryz.guardPosV
  rw [hP] at HB HRW
  have hpo : P.off = (off : Int) := by rw [← hP]; rfl
  have HPV := Lib.hid (fun v w1 hv => position_v n v off w1 hv)
  rw [hP] at HPV
  obtain ⟨pk, po, pl, pc, pg⟩ := P
  simp only at hpo
  subst hpo
  obtain ⟨L, hL⟩ : ∃ L, n.data.length = L := ⟨_, rfl⟩
  have HL := Lib.hid hL
  rw [hL] at HGN ⊢
  clear h h0 hbox hix hn hf hv hb hl hd hnf hnc hal hP hL
  go_enter Tryz.func71, Tryz.ntmps71
  go_wp2_with fail
  refine HB.out.mono ?_
  rintro e w1 ⟨rfl, hb1⟩
  have HX1 := Lib.hid ((Blk.new w #[.int .u64 0, .int .u32 0, .bool false, .slice none 0 0] 43).below hb1 (by simp))
  have HB1 := Lib.hid (HAL.out.trans (hb1.mono HAL.out.size))
  have hlt1 : w.heap.size < w1.heap.size := by have := hb1.size; simp at this; omega
  clear hb1
  have HB2 := Lib.hid (HB1.out.alloc HB1.out.size (.cells #[.int .u64 (pk : Int), .int .i64 (off : Int), .int .i64 pl, .int .u32 (pc : Int), .bool pg] 124))
  have HX2 := Lib.hid (HX1.out.alloc (.cells #[.int .u64 (pk : Int), .int .i64 (off : Int), .int .i64 pl, .int .u32 (pc : Int), .bool pg] 124))
  have HY2 := Lib.hid (Blk.new w1 #[.int .u64 (pk : Int), .int .i64 (off : Int), .int .i64 pl, .int .u32 (pc : Int), .bool pg] 124)
  go_wp2_with fail
  refine (HRW.out _ HB2.out).mono ?_
  rintro e w3 ⟨vb, rfl, hown3, hb3⟩
  have HX3 := Lib.hid (HX2.out.below hb3 (by simp; omega))
  have HY3 := Lib.hid (HY2.out.below hb3 (by simp))
  have HB3 := Lib.hid (HB2.out.trans (hb3.mono HB2.out.size))
  have hlt3 : w1.heap.size < w3.heap.size := by have := hb3.size; simp at this; omega
  have HO3 := Lib.hid (IsB.own hown3 HNE.out.symm)
  clear hown3 hb3 HX2 HY2 HX1
  go_wp2_with fail
  refine (HGN.out vb _ HO3.out).mono ?_
  rintro e w4 ⟨xx, cc, rfl, hown4, hb4⟩
  have HX4 := Lib.hid (HX3.out.below hb4 (by omega))
  have HY4 := Lib.hid (HY3.out.below hb4 (by omega))
  have HB4 := Lib.hid (HB3.out.trans (hb4.mono (by omega)))
  have hlt4 : w3.heap.size ≤ w4.heap.size := hb4.size
  have HO4 := Lib.hid hown4
  clear hown4 hb4 HX3 HY3
  obtain ⟨w5, hw5⟩ : ∃ w5, w4.alloc (.cells #[.int .u64 (n.key : Int), .int .u32 (n.cookie : Int), .bool n.gone, .slice xx L cc] 43) = w5 := ⟨_, rfl⟩
  have hN5 := Blk.new w4 #[.int .u64 (n.key : Int), .int .u32 (n.cookie : Int), .bool n.gone, .slice xx L cc] 43
  have hX5 := HX4.out.alloc (.cells #[.int .u64 (n.key : Int), .int .u32 (n.cookie : Int), .bool n.gone, .slice xx L cc] 43)
  have hY5 := HY4.out.alloc (.cells #[.int .u64 (n.key : Int), .int .u32 (n.cookie : Int), .bool n.gone, .slice xx L cc] 43)
  have hB5 := HB4.out.alloc HB4.out.size (.cells #[.int .u64 (n.key : Int), .int .u32 (n.cookie : Int), .bool n.gone, .slice xx L cc] 43)
  have hO5 := ownsRow_below HO4.out (below_alloc w4 (.cells #[.int .u64 (n.key : Int), .int .u32 (n.cookie : Int), .bool n.gone, .slice xx L cc] 43)) (Nat.le_refl _)
  rw [hw5] at hN5 hX5 hY5 hB5 hO5
  have HN5 := Lib.hid hN5
  have HX5 := Lib.hid hX5
  have HB5 := Lib.hid hB5
  have HO5 := Lib.hid hO5
  have HI5 := Lib.hid (show IsB w5.drew (.slice xx L cc) n.data from IsB.own (ownsRow_below hO5 ((Below.refl _ w5).drew) (Nat.le_refl _)) HL.out.symm)
  have hl5 : w4.heap.size < w5.heap.size := hN5.lt
  have hlA : w1.heap.size < w5.heap.size := hY5.lt
  have hlB : w.heap.size < w5.heap.size := hX5.lt
  have K0 : w5.drew.cell? ⟨w4.heap.size, 0, none⟩ = some (.int .u64 (n.key : Int)) ∧ w5.drew.cell? ⟨w4.heap.size, 1, none⟩ = some (.int .u32 (n.cookie : Int)) ∧ w5.drew.cell? ⟨w4.heap.size, 2, none⟩ = some (.bool n.gone) ∧ w5.drew.cell? ⟨w4.heap.size, 3, none⟩ = some (.slice xx L cc) ∧ w5.drew.cell? ⟨w1.heap.size, 0, none⟩ = some (.int .u64 (pk : Int)) ∧ w5.drew.cell? ⟨w1.heap.size, 1, none⟩ = some (.int .i64 (off : Int)) ∧ w5.drew.cell? ⟨w1.heap.size, 2, none⟩ = some (.int .i64 pl) ∧ w5.drew.cell? ⟨w1.heap.size, 3, none⟩ = some (.int .u32 (pc : Int)) ∧ w5.drew.cell? ⟨w1.heap.size, 4, none⟩ = some (.bool pg) :=
    ⟨hN5.cell 0 rfl, hN5.cell 1 rfl, hN5.cell 2 rfl, hN5.cell 3 rfl, hY5.cell 0 rfl, hY5.cell 1 rfl, hY5.cell 2 rfl, hY5.cell 3 rfl, hY5.cell 4 rfl⟩
  go_upto_region 8 with fail
  clear hN5 hX5 hY5 hB5 hO5 hw5
  go_region_held3 (fun wx => wx.cell? ⟨w4.heap.size, 0, none⟩ = some (.int .u64 (n.key : Int)) ∧ wx.cell? ⟨w4.heap.size, 1, none⟩ = some (.int .u32 (n.cookie : Int)) ∧ wx.cell? ⟨w4.heap.size, 2, none⟩ = some (.bool n.gone) ∧ wx.cell? ⟨w4.heap.size, 3, none⟩ = some (.slice xx L cc) ∧ wx.cell? ⟨w1.heap.size, 0, none⟩ = some (.int .u64 (pk : Int)) ∧ wx.cell? ⟨w1.heap.size, 1, none⟩ = some (.int .i64 (off : Int)) ∧ wx.cell? ⟨w1.heap.size, 2, none⟩ = some (.int .i64 pl) ∧ wx.cell? ⟨w1.heap.size, 3, none⟩ = some (.int .u32 (pc : Int)) ∧ wx.cell? ⟨w1.heap.size, 4, none⟩ = some (.bool pg)) (first | exact K0 | exact Ka) (first | (go_at_call 96; refine (HPV.out (.slice xx L cc) w5.drew HI5.out).mono ?_; rintro e w6 ⟨rfl, hb6⟩; have Ka := gk_below hb6 hl5 hlA K0))
  have HX6 := Lib.hid ((HX5.out.below ((Below.refl _ w5).drew) hlB).below hb6 hlB)
  have HB6 := Lib.hid ((HB5.out.trans ((Below.refl _ w5).drew.mono (Nat.le_of_lt hlB))).trans (hb6.mono (Nat.le_of_lt hlB)))
  have HO6 := Lib.hid (ownsRow_below (ownsRow_below HO5.out ((Below.refl _ w5).drew) (Nat.le_refl _)) hb6 (Nat.le_refl _))
  obtain ⟨b0, b1, b2, b3, _⟩ := Ka
  have z0 := HX6.out.cell 0 rfl
  have z1 := HX6.out.cell 1 rfl
  have z2 := HX6.out.cell 2 rfl
  have z3 := HX6.out.cell 3 rfl
  have zf := fun j => HX6.out.free j
  have hF := set4_done HX6.out HB6.out (.int .u64 (n.key : Int)) (.int .u32 (n.cookie : Int)) (.bool n.gone) (.slice xx L cc)
  unfold set4 at hF
  have HF := Lib.hid hF
  have HO7 := Lib.hid (Nd.got_fin (w := w) (u0 := .int .u64 (n.key : Int)) (u1 := .int .u32 (n.cookie : Int)) (u2 := .bool n.gone) (u3 := .slice xx L cc) (ownsRow_base HO6.out (base' := w.heap.size + 1) (by omega)))
  clear hF hb6 K0
  go_wp2
  obtain ⟨y0, y1, y2, y3, yb⟩ := HF.out
  exact bodyPost_ret (v := .tuple #[.agg #[.int .u64 (n.key : Int), .int .u32 (n.cookie : Int), .bool n.gone, .slice xx L cc], .nilIface]) (by simp [results, Tryz.results71, go_sem, y0, y1, y2, y3]) rfl ⟨xx, cc, rfl, HO7.out, yb⟩
theorem get_v (key c g p k : Nat) (S : Nat → Prop) (d : Dsk) (s : Vst) (w : World) (h : Vready w g p S d k s) :
    Calls Tryz.prog 71 #[.pointer (some ⟨g, 0, none⟩), .int .u64 (key : Int), .int .u32 (c : Int)] w fun e w' =>
      ∃ m x cc, e = .returned (.tuple #[Nd.nval m (.slice x m.data.length cc), cerr (s.look key c)]) ∧ w'.ownsRow w.heap.size 5 1 (.slice x m.data.length cc) m.data.length (bvs m.data) ∧ Below w.heap.size w w' ∧ m = (if s.look key c = 0 then (newest s.ns key).getD ⟨0, 0, false, []⟩ else ⟨0, 0, false, []⟩) := by
  by_cases hn : s.look key c = 0
  · obtain ⟨n, a, b, h1, h2, h3, h4, h5, h6⟩ := look_some hn
    obtain ⟨X, hX, hv⟩ := h.lies.data
    have hbl : (X ++ nsB s.ns).length = s.size := by rw [List.length_append, hX, length_nsB]; rfl
    have hsz : 16 + tot a + nlen n ≤ s.size := by
      unfold Vst.size
      rw [h5, tot_append]
      simp only [tot]
      omega
    have hal := h.ok.all n (by rw [h5]; simp)
    refine (get_o n (16 + tot a) (X ++ nsB s.ns) key c g p k S d s w h hn h6 hv (by rw [hbl]; exact hsz) (by rw [hbl]; exact Nat.le_trans h.ok.size h.ok.most) (by rw [h5]; exact bytes_at hX) hal.1 hal.2).mono ?_
    rintro e w' ⟨x, cc, rfl, ho, hb⟩
    exact ⟨n, x, cc, by rw [hn, cerr_0], ho, hb, by rw [if_pos hn, h1]; rfl⟩
  · refine (get_b key c g p k S d s w h hn).mono ?_
    rintro e w' ⟨rfl, hb⟩
    exact ⟨⟨0, 0, false, []⟩, none, 0, by rw [cerr_pos hn]; rfl, World.ownsRow_nil _ _ _ _, hb, by rw [if_neg hn]⟩

end Go.Proofs.YtllbngopfganjaaGreatDoor
end

section
namespace Go.Cor

/-- A needle as it is elsewhere, laid: what becomes of the volume, and the code. -/
def Vst.lay (s : Vst) (n : Ndl) : Vst × Nat :=
  if ncheck n ≠ 0 then (s, ncheck n) else match newest s.ns n.key with
    | none => s.write n
    | some o => if o.cookie ≠ n.cookie then (s, 9) else if o.gone = true then (s, 0) else if n.gone = true then s.write n else if sameN o n = true then (s, 0) else (s, 8)
/-- One behind the other, till the first error: how many were laid, and the error. -/
def Vst.lays (s : Vst) : List Ndl → Vst × Nat × Nat
  | [] => (s, 0, 0)
  | n :: r => if (s.lay n).2 ≠ 0 then ((s.lay n).1, 0, (s.lay n).2) else (((s.lay n).1.lays r).1, ((s.lay n).1.lays r).2.1 + 1, ((s.lay n).1.lays r).2.2)
theorem write_le (s : Vst) (n : Ndl) : (s.write n).2 ≤ 17 := by unfold Vst.write; split <;> simp
theorem lay_le (s : Vst) (n : Ndl) : (s.lay n).2 ≤ 17 := by
  have h := ncheck_le n
  unfold Vst.lay
  split
  · simp only; omega
  · split
    · exact write_le s n
    · split
      · simp
      · split
        · simp
        · split
          · exact write_le s n
          · split <;> simp
/-- What stays as it was. -/
structure Stays (s s' : Vst) : Prop where
  num : s'.num = s.num
  gen : s'.gen = s.gen
  most : s'.most = s.most
  epoch : s'.epoch = s.epoch
  shut : s'.shut = s.shut
theorem Stays.refl (s : Vst) : Stays s s := ⟨rfl, rfl, rfl, rfl, rfl⟩
theorem Stays.trans {a b c : Vst} (h : Stays a b) (k : Stays b c) : Stays a c := ⟨k.num.trans h.num, k.gen.trans h.gen, k.most.trans h.most, k.epoch.trans h.epoch, k.shut.trans h.shut⟩
theorem Stays.wrote (s : Vst) (n : Ndl) : Stays s (s.wrote n) := ⟨rfl, rfl, rfl, rfl, rfl⟩

/-- Nothing stands against a needle's being laid. -/
def Fits (s : Vst) (n : Ndl) : Prop := ncheck n = 0 ∧ ∀ o, newest s.ns n.key = some o → o.cookie = n.cookie ∧ (o.gone = false → n.gone = false → o = n)
theorem find_none {L : List Ndl} {k : Nat} : L.find? (fun n => n.key == k) = none ↔ ∀ n ∈ L, n.key ≠ k := by
  rw [List.find?_eq_none]
  simp
/-- The newest needle of each key, by the keys. -/
def Vst.tops (s : Vst) : List Ndl := s.idx.map fun p => (newest s.ns p.key).getD ⟨0, 0, false, []⟩
theorem Vst.top (s : Vst) {p : Pos} (hp : p ∈ s.idx) : ∃ n, newest s.ns p.key = some n ∧ n.key = p.key ∧ p.gone = n.gone ∧ p.cookie = n.cookie ∧ p.len = (n.data.length : Int) ∧ n ∈ s.ns := by
  have h := (mem_fnd s.idx_asc).1 hp
  cases ho : newest s.ns p.key with
  | none => rw [Vst.fnd_none ho] at h; cases h
  | some n =>
    obtain ⟨a, b, _, hf⟩ := Vst.fnd_some ho
    rw [hf] at h
    cases h
    exact ⟨n, rfl, (newest_mem ho).2, rfl, rfl, rfl, (newest_mem ho).1⟩
theorem Vst.tops_mem {s : Vst} {n : Ndl} (h : n ∈ s.tops) : newest s.ns n.key = some n := by
  obtain ⟨p, hp, rfl⟩ := List.mem_map.1 h
  obtain ⟨n, hn, hk, _⟩ := s.top hp
  rw [hn, Option.getD_some, hk, hn]
/-- All of one volume may be laid on another. -/
def Agree (a b : Vst) : Prop := ∀ k n o, newest a.ns k = some n → newest b.ns k = some o → o.cookie = n.cookie ∧ (o.gone = false → n.gone = false → o = n)
theorem Agree.fits {a b : Vst} (h : Agree a b) (hc : ∀ n ∈ a.ns, ncheck n = 0) {n : Ndl} (hn : n ∈ a.tops) : Fits b n := by
  have h1 := Vst.tops_mem hn
  exact ⟨hc n (newest_mem h1).1, fun o ho => h n.key n o h1 ho⟩
end Go.Cor
end

section
namespace Go.Proofs.YtllbngopfganjaaGreatDoor
open Go.RowKit Go.Cor

set_option maxRecDepth 100000 in
set_option maxHeartbeats 1000000 in
theorem holds_v (key cookie : Nat) (data : List UInt8) (v : Value) (g p k : Nat) (S : Nat → Prop) (d : Dsk) (s : Vst) (w : World) (h : Vready w g p S d k s) (hv : IsB w v data) (o : Ndl) (ho : newest s.ns key = some o) (hl : s.look key cookie = 0) :
    Calls Tryz.prog 92 #[.pointer (some ⟨g, 0, none⟩), Nd.nval ⟨key, cookie, false, data⟩ v] w fun e w' =>
      e = .returned (cerr (if sameN o ⟨key, cookie, false, data⟩ = true then 0 else 8)) ∧ Below w.heap.size w w' := by
  have hal := below_alloc w (Nd.ncells ⟨key, cookie, false, data⟩ v 43)
  have HVV := Lib.hid (fun wx (hb : Below w.heap.size w wx) => hv.mono hb (Nat.le_refl _))
  have HG := Lib.hid (show Calls Tryz.prog 71 #[.pointer (some ⟨g, 0, none⟩), .int .u64 (key : Int), .int .u32 (cookie : Int)] (w.alloc (Nd.ncells ⟨key, cookie, false, data⟩ v 43)) (fun e w' => ∃ (x : Option Addr) (L cc : Nat), e = .returned (.tuple #[Nd.nval o (.slice x L cc), .nilIface]) ∧ IsB w' (.slice x L cc) o.data ∧ Below (w.alloc (Nd.ncells ⟨key, cookie, false, data⟩ v 43)).heap.size (w.alloc (Nd.ncells ⟨key, cookie, false, data⟩ v 43)) w') by
    refine (get_v key cookie g p k S d s _ (h.below hal)).mono ?_
    rintro e w' ⟨m, x, cc, rfl, ho2, hb, hm⟩
    rw [if_pos hl, ho] at hm
    simp only [Option.getD_some] at hm
    subst hm
    rw [hl, cerr_0]
    exact ⟨x, _, cc, rfl, IsB.own ho2 rfl, hb⟩)
  have HSM := Lib.hid (fun va vb wx (ha : IsB wx va o.data) (hb : IsB wx vb data) => Nd.nsame_any o ⟨key, cookie, false, data⟩ va vb wx ha hb)
  obtain ⟨B, hB⟩ : ∃ B, sameN o ⟨key, cookie, false, data⟩ = B := ⟨_, rfl⟩
  rw [hB] at HSM ⊢
  obtain ⟨ok, oc, og, od⟩ := o
  have HAL := Lib.hid hal
  clear h hv ho hl hal hB
  go_enter Tryz.func92, Tryz.ntmps92
  go_wp2_with fail
  refine HG.out.mono ?_
  rintro e w1 ⟨x, L, cc, rfl, hx, hb1⟩
  have HX1 := Lib.hid (fb_put (n := ⟨key, cookie, false, data⟩) hb1)
  have HI := Lib.hid hx
  obtain ⟨⟨b0, b1, b2, b3⟩, hB1, hlt1⟩ := HX1.out
  have HB1 := Lib.hid hB1
  clear hb1 hx hB1 HG
  simp only at b0 b1 b2 b3
  go_wp2_with fail
  have HB2 := Lib.hid (HB1.out.alloc HB1.out.size (.cells #[.int .u64 (ok : Int), .int .u32 (oc : Int), .bool og, .slice x L cc] 43))
  refine (HSM.out _ _ _ (HI.out.mono (below_alloc w1 _) (Nat.le_refl _)) (HVV.out _ HB2.out)).mono ?_
  rintro e w2 ⟨rfl, hb2⟩
  have HB3 := Lib.hid (HB2.out.trans (hb2.mono HB2.out.size))
  clear hb2 HSM
  cases B with
  | true =>
    go_wp2
    go_ret
    exact ⟨rfl, HB3.out⟩
  | false =>
    go_wp2
    go_ret
    exact ⟨rfl, HB3.out⟩
set_option maxRecDepth 100000 in
set_option maxHeartbeats 1000000 in
theorem lay_b (key cookie : Nat) (gone : Bool) (data : List UInt8) (v : Value) (g p k : Nat) (S : Nat → Prop) (d : Dsk) (s : Vst) (w : World) (h : Vready w g p S d k s) (hv : IsB w v data) (hc : ncheck ⟨key, cookie, gone, data⟩ ≠ 0) :
    Calls Tryz.prog 69 #[.pointer (some ⟨g, 0, none⟩), Nd.nval ⟨key, cookie, gone, data⟩ v] w fun e w' =>
      e = .returned (cerr (ncheck ⟨key, cookie, gone, data⟩)) ∧ VolT w w' g p S d s (k + 4) s := by
  have HVV := Lib.hid (show IsB (w.alloc (Nd.ncells ⟨key, cookie, gone, data⟩ v 43)) v data from hv.mono (below_alloc w _) (Nat.le_refl _))
  have HH := Lib.hid h
  have HC := Lib.hid hc
  obtain ⟨q, hq⟩ : ∃ q, ncheck ⟨key, cookie, gone, data⟩ = q := ⟨_, rfl⟩
  have HQ := Lib.hid hq
  rw [hq] at HC ⊢
  rw [cerr_pos HC.out]
  clear h hv hc hq
  go_enter Tryz.func69, Tryz.ntmps69
  go_wp2_with fail
  refine (Nd.check_any ⟨key, cookie, gone, data⟩ v _ HVV.out).mono ?_
  rintro e w1 ⟨rfl, hb1⟩
  rw [HQ.out, Nd.cerr_pos HC.out]
  have HB1 := Lib.hid (fb_put (n := ⟨key, cookie, gone, data⟩) hb1).2.1
  clear hb1
  go_wp2
  go_ret
  exact ⟨rfl, HH.out.same HB1.out _ (by omega) (by omega)⟩
set_option maxRecDepth 100000 in
set_option maxHeartbeats 1000000 in
theorem lay_c (key cookie : Nat) (gone : Bool) (data : List UInt8) (v : Value) (g p k : Nat) (S : Nat → Prop) (d : Dsk) (s : Vst) (w : World) (h : Vready w g p S d k s) (hv : IsB w v data) (hc : ncheck ⟨key, cookie, gone, data⟩ = 0) (qk : Nat) (qo ql : Int) (qc : Nat) (qg : Bool) (hf : fnd s.idx key = some ⟨qk, qo, ql, qc, qg⟩) (hne : qc ≠ cookie) :
    Calls Tryz.prog 69 #[.pointer (some ⟨g, 0, none⟩), Nd.nval ⟨key, cookie, gone, data⟩ v] w fun e w' =>
      e = .returned (ercode 9) ∧ VolT w w' g p S d s (k + 4) s := by
  have HVV := Lib.hid (show IsB (w.alloc (Nd.ncells ⟨key, cookie, gone, data⟩ v 43)) v data from hv.mono (below_alloc w _) (Nat.le_refl _))
  have HV := Lib.hid hv
  have HH := Lib.hid h
  have HC := Lib.hid hc
  have HF := Lib.hid hf
  have hne' : ¬ (qc : Int) = (cookie : Int) := by omega
  clear h hv hc hf
  go_enter Tryz.func69, Tryz.ntmps69
  go_wp2_with fail
  refine (Nd.check_any ⟨key, cookie, gone, data⟩ v _ HVV.out).mono ?_
  rintro e w1 ⟨rfl, hb1⟩
  rw [HC.out, Nd.cerr_0]
  have HX1 := Lib.hid (fb_put (n := ⟨key, cookie, gone, data⟩) hb1)
  obtain ⟨⟨b0, b1, b2, b3⟩, hB1, hlt1⟩ := HX1.out
  have HB1 := Lib.hid hB1
  obtain ⟨x, xv, hbox, hix⟩ := (HH.out.below HB1.out).box
  have HFV := Lib.hid (find_v g p x xv s key _ HH.out.ok hbox hix)
  rw [HF.out] at HFV
  clear hb1 hB1 hbox hix
  simp only at b0 b1 b2 b3
  go_wp2_with fail
  refine HFV.out.mono ?_
  rintro e w2 ⟨rfl, hb2⟩
  rw [Option.getD_some]
  have HB2 := Lib.hid (HB1.out.trans (hb2.mono HB1.out.size))
  have HX2 := Lib.hid (HX1.out.1.mono hb2 hlt1)
  have hlt2 : w.heap.size < w2.heap.size := Nat.lt_of_lt_of_le hlt1 hb2.size
  clear hb2 b0 b1 b2 b3 HFV HX1
  obtain ⟨b0, b1, b2, b3⟩ := HX2.out
  simp only at b0 b1 b2 b3
  have HT := Lib.hid (fun o2 => HH.out.same (HB2.out.alloc HB2.out.size o2) (k + 4) (by omega) (by omega))
  cases qg with
  | true =>
    rw [show ((hasN (some (⟨qk, qo, ql, qc, true⟩ : Pos)) : Nat) : Int) = 1 from rfl]
    go_wp2
    go_ret
    exact ⟨rfl, HT.out _⟩
  | false =>
    rw [show ((hasN (some (⟨qk, qo, ql, qc, false⟩ : Pos)) : Nat) : Int) = 2 from rfl]
    go_wp2
    go_ret
    exact ⟨rfl, HT.out _⟩
set_option maxRecDepth 100000 in
set_option maxHeartbeats 1000000 in
theorem lay_g (key cookie : Nat) (gone : Bool) (data : List UInt8) (v : Value) (g p k : Nat) (S : Nat → Prop) (d : Dsk) (s : Vst) (w : World) (h : Vready w g p S d k s) (hv : IsB w v data) (hc : ncheck ⟨key, cookie, gone, data⟩ = 0) (qk : Nat) (qo ql : Int) (hf : fnd s.idx key = some ⟨qk, qo, ql, cookie, true⟩) :
    Calls Tryz.prog 69 #[.pointer (some ⟨g, 0, none⟩), Nd.nval ⟨key, cookie, gone, data⟩ v] w fun e w' =>
      e = .returned .nilIface ∧ VolT w w' g p S d s (k + 4) s := by
  have HVV := Lib.hid (show IsB (w.alloc (Nd.ncells ⟨key, cookie, gone, data⟩ v 43)) v data from hv.mono (below_alloc w _) (Nat.le_refl _))
  have HV := Lib.hid hv
  have HH := Lib.hid h
  have HC := Lib.hid hc
  have HF := Lib.hid hf
  clear h hv hc hf
  go_enter Tryz.func69, Tryz.ntmps69
  go_wp2_with fail
  refine (Nd.check_any ⟨key, cookie, gone, data⟩ v _ HVV.out).mono ?_
  rintro e w1 ⟨rfl, hb1⟩
  rw [HC.out, Nd.cerr_0]
  have HX1 := Lib.hid (fb_put (n := ⟨key, cookie, gone, data⟩) hb1)
  obtain ⟨⟨b0, b1, b2, b3⟩, hB1, hlt1⟩ := HX1.out
  have HB1 := Lib.hid hB1
  obtain ⟨x, xv, hbox, hix⟩ := (HH.out.below HB1.out).box
  have HFV := Lib.hid (find_v g p x xv s key _ HH.out.ok hbox hix)
  rw [HF.out] at HFV
  clear hb1 hB1 hbox hix
  simp only at b0 b1 b2 b3
  go_wp2_with fail
  refine HFV.out.mono ?_
  rintro e w2 ⟨rfl, hb2⟩
  rw [Option.getD_some]
  have HB2 := Lib.hid (HB1.out.trans (hb2.mono HB1.out.size))
  have HX2 := Lib.hid (HX1.out.1.mono hb2 hlt1)
  have hlt2 : w.heap.size < w2.heap.size := Nat.lt_of_lt_of_le hlt1 hb2.size
  clear hb2 b0 b1 b2 b3 HFV HX1
  obtain ⟨b0, b1, b2, b3⟩ := HX2.out
  simp only at b0 b1 b2 b3
  have HT := Lib.hid (fun o2 => HH.out.same (HB2.out.alloc HB2.out.size o2) (k + 4) (by omega) (by omega))
  rw [show ((hasN (some (⟨qk, qo, ql, cookie, true⟩ : Pos)) : Nat) : Int) = 1 from rfl]
  go_wp2
  go_ret
  exact ⟨rfl, HT.out _⟩
set_option maxRecDepth 100000 in
set_option maxHeartbeats 1000000 in
theorem lay_n (key cookie : Nat) (gone : Bool) (data : List UInt8) (v : Value) (g p k : Nat) (S : Nat → Prop) (d : Dsk) (s : Vst) (w : World) (h : Vready w g p S d k s) (hv : IsB w v data) (hvS : ∀ b, liesB v data b → ¬ S b) (hn : Ndl.fits ⟨key, cookie, gone, data⟩) (hr : Room' s d ⟨key, cookie, gone, data⟩) (hc : ncheck ⟨key, cookie, gone, data⟩ = 0) (hf : fnd s.idx key = none) :
    Calls Tryz.prog 69 #[.pointer (some ⟨g, 0, none⟩), Nd.nval ⟨key, cookie, gone, data⟩ v] w fun e w' =>
      e = .returned (cerr (s.write ⟨key, cookie, gone, data⟩).2) ∧ VolT w w' g p S d s (k + 4) (s.write ⟨key, cookie, gone, data⟩).1 := by
  have HVV := Lib.hid (show IsB (w.alloc (Nd.ncells ⟨key, cookie, gone, data⟩ v 43)) v data from hv.mono (below_alloc w _) (Nat.le_refl _))
  have HV := Lib.hid hv
  have HH := Lib.hid h
  have HC := Lib.hid hc
  have HVS := Lib.hid hvS
  have HNF := Lib.hid hn
  have HR := Lib.hid hr
  have HF := Lib.hid hf
  clear h hv hc hf hvS hn hr
  go_enter Tryz.func69, Tryz.ntmps69
  go_wp2_with fail
  refine (Nd.check_any ⟨key, cookie, gone, data⟩ v _ HVV.out).mono ?_
  rintro e w1 ⟨rfl, hb1⟩
  rw [HC.out, Nd.cerr_0]
  have HX1 := Lib.hid (fb_put (n := ⟨key, cookie, gone, data⟩) hb1)
  obtain ⟨⟨b0, b1, b2, b3⟩, hB1, hlt1⟩ := HX1.out
  have HB1 := Lib.hid hB1
  obtain ⟨x, xv, hbox, hix⟩ := (HH.out.below HB1.out).box
  have HFV := Lib.hid (find_v g p x xv s key _ HH.out.ok hbox hix)
  rw [HF.out] at HFV
  clear hb1 hB1 hbox hix
  simp only at b0 b1 b2 b3
  go_wp2_with fail
  refine HFV.out.mono ?_
  rintro e w2 ⟨rfl, hb2⟩
  rw [Option.getD_none, show ((hasN none : Nat) : Int) = 0 from rfl, show Q.pval pzero = .agg #[.int .u64 0, .int .i64 0, .int .i64 0, .int .u32 0, .bool false] from rfl]
  have HB2 := Lib.hid (HB1.out.trans (hb2.mono HB1.out.size))
  have HX2 := Lib.hid (HX1.out.1.mono hb2 hlt1)
  have hlt2 : w.heap.size < w2.heap.size := Nat.lt_of_lt_of_le hlt1 hb2.size
  clear hb2 b0 b1 b2 b3 HFV HX1
  obtain ⟨b0, b1, b2, b3⟩ := HX2.out
  simp only at b0 b1 b2 b3
  go_wp2_with fail
  refine (write_w ⟨key, cookie, gone, data⟩ v g p k S d s _ (HH.out.below (HB2.out.alloc HB2.out.size _)) (HV.out.mono (HB2.out.alloc HB2.out.size _) (Nat.le_refl _)) HVS.out ⟨HNF.out, HC.out⟩ HR.out).mono ?_
  rintro e w3 ⟨rfl, ht⟩
  have HT := Lib.hid (VolT.pre (HB2.out.alloc HB2.out.size _) ht)
  obtain ⟨E, hE⟩ : ∃ E, cerr (s.write ⟨key, cookie, gone, data⟩).2 = E := ⟨_, rfl⟩
  have HE := Lib.hid hE
  rw [hE]
  clear ht b0 b1 b2 b3 hE
  go_wp2
  go_ret
  exact ⟨by rw [HE.out]; rfl, HT.out⟩
set_option maxRecDepth 100000 in
set_option maxHeartbeats 1000000 in
theorem lay_w (key cookie : Nat) (data : List UInt8) (v : Value) (g p k : Nat) (S : Nat → Prop) (d : Dsk) (s : Vst) (w : World) (h : Vready w g p S d k s) (hv : IsB w v data) (hvS : ∀ b, liesB v data b → ¬ S b) (hn : Ndl.fits ⟨key, cookie, true, data⟩) (hr : Room' s d ⟨key, cookie, true, data⟩) (hc : ncheck ⟨key, cookie, true, data⟩ = 0) (qk : Nat) (qo ql : Int) (hf : fnd s.idx key = some ⟨qk, qo, ql, cookie, false⟩) :
    Calls Tryz.prog 69 #[.pointer (some ⟨g, 0, none⟩), Nd.nval ⟨key, cookie, true, data⟩ v] w fun e w' =>
      e = .returned (cerr (s.write ⟨key, cookie, true, data⟩).2) ∧ VolT w w' g p S d s (k + 4) (s.write ⟨key, cookie, true, data⟩).1 := by
  have HVV := Lib.hid (show IsB (w.alloc (Nd.ncells ⟨key, cookie, true, data⟩ v 43)) v data from hv.mono (below_alloc w _) (Nat.le_refl _))
  have HV := Lib.hid hv
  have HH := Lib.hid h
  have HC := Lib.hid hc
  have HVS := Lib.hid hvS
  have HNF := Lib.hid hn
  have HR := Lib.hid hr
  have HF := Lib.hid hf
  clear h hv hc hf hvS hn hr
  go_enter Tryz.func69, Tryz.ntmps69
  go_wp2_with fail
  refine (Nd.check_any ⟨key, cookie, true, data⟩ v _ HVV.out).mono ?_
  rintro e w1 ⟨rfl, hb1⟩
  rw [HC.out, Nd.cerr_0]
  have HX1 := Lib.hid (fb_put (n := ⟨key, cookie, true, data⟩) hb1)
  obtain ⟨⟨b0, b1, b2, b3⟩, hB1, hlt1⟩ := HX1.out
  have HB1 := Lib.hid hB1
  obtain ⟨x, xv, hbox, hix⟩ := (HH.out.below HB1.out).box
  have HFV := Lib.hid (find_v g p x xv s key _ HH.out.ok hbox hix)
  rw [HF.out] at HFV
  clear hb1 hB1 hbox hix
  simp only at b0 b1 b2 b3
  go_wp2_with fail
  refine HFV.out.mono ?_
  rintro e w2 ⟨rfl, hb2⟩
  rw [Option.getD_some, show ((hasN (some (⟨qk, qo, ql, cookie, false⟩ : Pos)) : Nat) : Int) = 2 from rfl]
  have HB2 := Lib.hid (HB1.out.trans (hb2.mono HB1.out.size))
  have HX2 := Lib.hid (HX1.out.1.mono hb2 hlt1)
  have hlt2 : w.heap.size < w2.heap.size := Nat.lt_of_lt_of_le hlt1 hb2.size
  clear hb2 b0 b1 b2 b3 HFV HX1
  obtain ⟨b0, b1, b2, b3⟩ := HX2.out
  simp only at b0 b1 b2 b3
  go_wp2_with fail
  refine (write_w ⟨key, cookie, true, data⟩ v g p k S d s _ (HH.out.below (HB2.out.alloc HB2.out.size _)) (HV.out.mono (HB2.out.alloc HB2.out.size _) (Nat.le_refl _)) HVS.out ⟨HNF.out, HC.out⟩ HR.out).mono ?_
  rintro e w3 ⟨rfl, ht⟩
  have HT := Lib.hid (VolT.pre (HB2.out.alloc HB2.out.size _) ht)
  obtain ⟨E, hE⟩ : ∃ E, cerr (s.write ⟨key, cookie, true, data⟩).2 = E := ⟨_, rfl⟩
  have HE := Lib.hid hE
  rw [hE]
  clear ht b0 b1 b2 b3 hE
  go_wp2
  go_ret
  exact ⟨by rw [HE.out]; rfl, HT.out⟩
set_option maxRecDepth 100000 in
set_option maxHeartbeats 1000000 in
theorem lay_h (key cookie : Nat) (data : List UInt8) (v : Value) (g p k : Nat) (S : Nat → Prop) (d : Dsk) (s : Vst) (w : World) (h : Vready w g p S d k s) (hv : IsB w v data) (hc : ncheck ⟨key, cookie, false, data⟩ = 0) (qk : Nat) (qo ql : Int) (hf : fnd s.idx key = some ⟨qk, qo, ql, cookie, false⟩) (o : Ndl) (ho : newest s.ns key = some o) (hlk : s.look key cookie = 0) :
    Calls Tryz.prog 69 #[.pointer (some ⟨g, 0, none⟩), Nd.nval ⟨key, cookie, false, data⟩ v] w fun e w' =>
      e = .returned (cerr (if sameN o ⟨key, cookie, false, data⟩ = true then 0 else 8)) ∧ VolT w w' g p S d s (k + 4) s := by
  have HVV := Lib.hid (show IsB (w.alloc (Nd.ncells ⟨key, cookie, false, data⟩ v 43)) v data from hv.mono (below_alloc w _) (Nat.le_refl _))
  have HV := Lib.hid hv
  have HH := Lib.hid h
  have HC := Lib.hid hc
  have HF := Lib.hid hf
  have HHO := Lib.hid (fun wx (hb : Below w.heap.size w wx) => holds_v key cookie data v g p k S d s wx (h.below hb) (hv.mono hb (Nat.le_refl _)) o ho hlk)
  obtain ⟨E, hE⟩ : ∃ E, cerr (if sameN o ⟨key, cookie, false, data⟩ = true then 0 else 8) = E := ⟨_, rfl⟩
  rw [hE] at HHO ⊢
  clear h hv hc hf ho hlk hE
  go_enter Tryz.func69, Tryz.ntmps69
  go_wp2_with fail
  refine (Nd.check_any ⟨key, cookie, false, data⟩ v _ HVV.out).mono ?_
  rintro e w1 ⟨rfl, hb1⟩
  rw [HC.out, Nd.cerr_0]
  have HX1 := Lib.hid (fb_put (n := ⟨key, cookie, false, data⟩) hb1)
  obtain ⟨⟨b0, b1, b2, b3⟩, hB1, hlt1⟩ := HX1.out
  have HB1 := Lib.hid hB1
  obtain ⟨x, xv, hbox, hix⟩ := (HH.out.below HB1.out).box
  have HFV := Lib.hid (find_v g p x xv s key _ HH.out.ok hbox hix)
  rw [HF.out] at HFV
  clear hb1 hB1 hbox hix
  simp only at b0 b1 b2 b3
  go_wp2_with fail
  refine HFV.out.mono ?_
  rintro e w2 ⟨rfl, hb2⟩
  rw [Option.getD_some, show ((hasN (some (⟨qk, qo, ql, cookie, false⟩ : Pos)) : Nat) : Int) = 2 from rfl]
  have HB2 := Lib.hid (HB1.out.trans (hb2.mono HB1.out.size))
  have HX2 := Lib.hid (HX1.out.1.mono hb2 hlt1)
  have hlt2 : w.heap.size < w2.heap.size := Nat.lt_of_lt_of_le hlt1 hb2.size
  clear hb2 b0 b1 b2 b3 HFV HX1
  obtain ⟨b0, b1, b2, b3⟩ := HX2.out
  simp only at b0 b1 b2 b3
  have HB3 := Lib.hid (HB2.out.alloc HB2.out.size (.cells #[.int .u64 (qk : Int), .int .i64 qo, .int .i64 ql, .int .u32 (cookie : Int), .bool false] 124))
  go_wp2_with fail
  refine (HHO.out _ HB3.out).mono ?_
  rintro e w3 ⟨rfl, hb3⟩
  have HT := Lib.hid (HH.out.same (HB3.out.trans (hb3.mono HB3.out.size)) (k + 4) (by omega) (by omega))
  clear hb3 HHO b0 b1 b2 b3
  go_wp2
  go_ret
  exact ⟨rfl, HT.out⟩
theorem lay_v (n : Ndl) (v : Value) (g p k : Nat) (S : Nat → Prop) (d : Dsk) (s : Vst) (w : World) (h : Vready w g p S d k s) (hv : IsB w v n.data) (hvS : ∀ b, liesB v n.data b → ¬ S b) (hn : n.fits) (hr : Room' s d n) :
    Calls Tryz.prog 69 #[.pointer (some ⟨g, 0, none⟩), Nd.nval n v] w fun e w' =>
      e = .returned (cerr (s.lay n).2) ∧ VolT w w' g p S d s (k + 4) (s.lay n).1 := by
  obtain ⟨key, cookie, gone, data⟩ := n
  by_cases hc : ncheck ⟨key, cookie, gone, data⟩ = 0
  · cases ho : newest s.ns key with
    | none =>
      rw [show s.lay ⟨key, cookie, gone, data⟩ = s.write ⟨key, cookie, gone, data⟩ by unfold Vst.lay; rw [if_neg (by simp [hc])]; simp only [ho]]
      exact lay_n key cookie gone data v g p k S d s w h hv hvS hn hr hc (Vst.fnd_none ho)
    | some o =>
      obtain ⟨a, b, h1, hf⟩ := Vst.fnd_some ho
      have hl : ∀ r, (if o.cookie ≠ cookie then (s, 9) else if o.gone = true then (s, 0) else if gone = true then s.write ⟨key, cookie, gone, data⟩ else if sameN o ⟨key, cookie, gone, data⟩ = true then (s, 0) else (s, 8)) = r → s.lay ⟨key, cookie, gone, data⟩ = r := fun r e => by
        rw [← e]; unfold Vst.lay; rw [if_neg (by simp [hc])]; simp only [ho]
      by_cases hk : o.cookie = cookie
      · cases hg : o.gone with
        | true =>
          rw [hl (s, 0) (by rw [if_neg (by simp [hk]), if_pos hg])]
          exact lay_g key cookie gone data v g p k S d s w h hv hc _ _ _ (by rw [hf]; unfold posN; rw [hk, hg])
        | false =>
          have hf' : fnd s.idx key = some ⟨o.key, ((16 + tot a : Nat) : Int), (o.data.length : Int), cookie, false⟩ := by rw [hf]; unfold posN; rw [hk, hg]
          cases gone with
          | true =>
            rw [hl (s.write ⟨key, cookie, true, data⟩) (by rw [if_neg (by simp [hk]), if_neg (by simp [hg]), if_pos rfl])]
            exact lay_w key cookie data v g p k S d s w h hv hvS hn hr hc _ _ _ hf'
          | false =>
            have hlk : s.look key cookie = 0 := by unfold Vst.look; rw [ho]; simp only; rw [if_neg (by simp [hg]), if_neg (by simp [hk])]
            have := lay_h key cookie data v g p k S d s w h hv hc _ _ _ hf' o ho hlk
            by_cases hs : sameN o ⟨key, cookie, false, data⟩ = true
            · rw [hl (s, 0) (by rw [if_neg (by simp [hk]), if_neg (by simp [hg]), if_neg (by simp), if_pos hs])]
              rw [if_pos hs] at this
              exact this
            · rw [hl (s, 8) (by rw [if_neg (by simp [hk]), if_neg (by simp [hg]), if_neg (by simp), if_neg hs])]
              rw [if_neg hs] at this
              exact this
      · rw [hl (s, 9) (by rw [if_pos hk])]
        exact lay_c key cookie gone data v g p k S d s w h hv hc _ _ _ _ _ hf hk
  · rw [show s.lay ⟨key, cookie, gone, data⟩ = (s, ncheck ⟨key, cookie, gone, data⟩) by unfold Vst.lay; rw [if_pos hc]]
    exact lay_b key cookie gone data v g p k S d s w h hv hc

end Go.Proofs.YtllbngopfganjaaGreatDoor
end

section
namespace Go.Proofs.YtllbngopfganjaaGreatDoor
open Go.RowKit Go.Cor

theorem Dt.pre {w wa w' : World} {p k' : Nat} {S : Nat → Prop} {d' : Dsk} (hb : Below w.heap.size w wa) (h : Dt wa w' p S d' k') : Dt w w' p S d' k' := by
  obtain ⟨S', h1, h2, h3⟩ := h
  exact ⟨S', h1, (Kept.of_below (S := fun _ => False) hb (Nat.le_refl _)).mono (fun _ _ h => h.elim) |>.trans h2 (fun j hj _ => hj), fun b hb2 => (h3 b hb2).imp id (fun h => Nat.le_trans hb.size h)⟩
theorem Dt.post {w w1 w' : World} {p k' : Nat} {S : Nat → Prop} {d' : Dsk} (h : Dt w w1 p S d' k') (hb : Below w1.heap.size w1 w') : Dt w w' p S d' k' := by
  obtain ⟨S', h1, h2, h3⟩ := h
  exact ⟨S', h1.below hb (Nat.le_refl _), h2.trans (Kept.of_below (S := fun _ => False) hb (Nat.le_refl _)) (fun _ h => h.elim), h3⟩
theorem Dt.self {w w' : World} {p k k' : Nat} {S : Nat → Prop} {d : Dsk} (h : Dk w p S d k) (hb : Below w.heap.size w w') (hk : k ≤ k') (hs : k' ≤ 90000) : Dt w w' p S d k' :=
  ⟨S, ⟨(h.below hb (Nat.le_refl _)).is, Ok.more h.ok hk, hs, (h.below hb (Nat.le_refl _)).lt⟩, Kept.of_below hb (Nat.le_refl _), fun _ h => .inl h⟩
theorem Dt.join {S S1 : Nat → Prop} {wa wb w' : World} {p k' : Nat} {d' : Dsk} (hK : Kept S wa wb) (hS : ∀ b, S1 b → S b ∨ wa.heap.size ≤ b) (h : Dt wb w' p S1 d' k') : Dt wa w' p S d' k' := by
  obtain ⟨S2, b1, b2, b3⟩ := h
  refine ⟨S2, b1, hK.trans b2 (fun j hj hlt => ?_), fun b hb => ?_⟩
  · rcases hS j hj with h | h
    · exact h
    · omega
  · rcases b3 b hb with h | h
    · exact hS b h
    · exact .inr (Nat.le_trans hK.size h)
theorem Dt.isB {S : Nat → Prop} {w w' : World} {p k' : Nat} {d' : Dsk} (h : Dt w w' p S d' k') {v : Value} {l : List UInt8} (hv : IsB w v l) (hS : ∀ b, liesB v l b → ¬ S b) : IsB w' v l := by
  obtain ⟨S', _, h2, _⟩ := h
  exact hv.kept h2 hS

set_option maxRecDepth 100000 in
set_option maxHeartbeats 1000000 in
theorem create_d (w : World) (p k : Nat) (S : Nat → Prop) (d : Dsk) (n : ByteArray) (v : Value) (l : List UInt8) (h : Dk w p S d k) (hk : k + 6 ≤ 90000) (hf : Fs d k) (hn : isNm n = true) (hv : view d n = none) (hc : d.now.length < 64)
    (hb : IsB w v l) (hbS : ∀ b, liesB v l b → ¬ S b) (hl : l.length ≤ 16777216) (hu : d.used + l.length ≤ d.cap) :
    Calls Tryz.prog 38 #[.pointer (some ⟨p, 0, none⟩), .string n, v] w fun e w' =>
      e = .returned .nilIface ∧ ∃ d', Dt w w' p S d' (k + 6) ∧ Went d d' (k + 6) (d.used + l.length) (d.now.length + 1) (fun m => if m = n then some l else view d m) := by
  have h1 := hf.create hn hv hc
  have h2 := h1.2.fs.append (n := n) (b := []) (l := l) (by rw [h1.2.view, if_pos rfl]) (by simpa using hl) (by rw [h1.2.used, h1.2.cap]; exact hu)
  have h3 := h2.2.fs.sync (n := n) (b := [] ++ l) (by rw [h2.2.view, if_pos rfl])
  have hns : n.size ≤ 32 := by
    unfold isNm at hn
    simp only [Bool.and_eq_true, decide_eq_true_eq] at hn
    exact hn.1.2
  have HW := Lib.hid (((h1.2.trans h2.2).trans h3.2).of (v' := fun m => if m = n then some l else view d m) (show _ = d.used + l.length by rw [h2.2.used, h1.2.used]) (show _ = d.now.length + 1 by rw [h2.2.len, h1.2.len]) (fun m => by
    rw [h2.2.view]
    by_cases e : m = n
    · rw [if_pos e, if_pos e]; rfl
    · rw [if_neg e, if_neg e, h1.2.view, if_neg e]))
  have H1 := Lib.hid h1.1
  have H2 := Lib.hid h2.1
  have H3 := Lib.hid h3.1
  have HH := Lib.hid h
  have HB := Lib.hid hb
  have HBS := Lib.hid hbS
  have HSL := Lib.hid h.lt
  clear h hf hn hv hc hb hbS hu h1 h2 h3
  go_enter Tryz.func38, Tryz.ntmps38
  go_wp2_with fail
  refine (create_u w p S d k n HH.out (by omega) (by omega)).mono ?_
  rintro e w1 ⟨rfl, ht1⟩
  rw [H1.out, cerr_0]
  have HI1 := Lib.hid (ht1.isB HB.out HBS.out)
  obtain ⟨S1, hd1, hk1, hs1⟩ := ht1
  have HD1 := Lib.hid hd1
  have HK1 := Lib.hid hk1
  have HS1 := Lib.hid hs1
  clear hd1 hk1 hs1
  go_wp2_with fail
  refine (append_u w1 p S1 _ (k + 2) n v l HD1.out (by omega) HI1.out hl).mono ?_
  rintro e w2 ⟨rfl, ht2⟩
  rw [H2.out, cerr_0]
  obtain ⟨S2, hd2, hk2, hs2⟩ := Dt.join HK1.out HS1.out ht2
  have HD2 := Lib.hid hd2
  have HK2 := Lib.hid hk2
  have HS2 := Lib.hid hs2
  clear hd2 hk2 hs2 ht2
  go_wp2_with fail
  refine (sync_u w2 p S2 _ (k + 2 + 2) n HD2.out (by omega)).mono ?_
  rintro e w3 ⟨rfl, ht3⟩
  rw [H3.out, cerr_0]
  have HT := Lib.hid (Dt.join HK2.out HS2.out ht3)
  clear ht3
  go_wp2
  go_ret
  exact ⟨rfl, _, HT.out, HW.out⟩

theorem toList_eq (a b : ByteArray) : (a.toList == b.toList) = decide (a = b) := by
  rw [Bool.eq_iff_iff, beq_iff_eq, decide_eq_true_eq]
  constructor
  · intro h
    rw [ByteArray.toList_eq, ByteArray.toList_eq] at h
    exact ByteArray.ext (Array.toList_inj.1 h)
  · rintro rfl; rfl
def strs (l : List ByteArray) : List Value := l.map Value.string
theorem strs_get {l : List ByteArray} {i : Nat} (h : i < l.length) : (strs l)[i]? = some (.string (l.getD i ⟨#[]⟩)) := by
  simp [strs, List.getElem?_eq_getElem h, List.getD_eq_getElem?_getD]

def hasB (l : List ByteArray) (x : ByteArray) : Bool := l.any fun y => decide (y = x)
theorem hasB_iff {l : List ByteArray} {x : ByteArray} : hasB l x = true ↔ x ∈ l := by
  unfold hasB
  rw [List.any_eq_true]
  constructor
  · rintro ⟨y, h1, h2⟩
    rw [← of_decide_eq_true h2]; exact h1
  · exact fun h => ⟨x, h, decide_eq_true rfl⟩
theorem hasB_no {l : List ByteArray} {x : ByteArray} (h : ¬ x ∈ l) : hasB l x = false := by
  cases e : hasB l x with
  | true => exact absurd (hasB_iff.1 e) h
  | false => rfl
set_option maxHeartbeats 1000000 in
theorem index_s (v : Value) (l : List ByteArray) (x : ByteArray) (w : World) (hv : IsX w 1 v l.length (strs l)) (hl : l.length ≤ 1048576) :
    Calls Tryz.prog 75 #[v, .string x] w fun e w' => (∃ r : Int, e = .returned (.int .i64 r) ∧ decide (0 ≤ r) = hasB l x) ∧ w' = w := by
  have HV := Lib.hid hv
  obtain ⟨N, hN⟩ : ∃ N, l.length = N := ⟨_, rfl⟩
  have hlen := fun W => len_X (P := Tryz.prog) hv 132 3 _ Tryz.underlying132 W
  rw [hN] at hlen hl
  have HN := Lib.hid hN
  clear hv hN
  go_enter Tryz.func75, Tryz.ntmps75
  go_wp2_with fail
  go_loopw [8] (fun c wr => ∃ i : Nat, i ≤ N ∧ c = .int .i64 i ∧ wr = w ∧ Hid (∀ j, j < i → l.getD j ⟨#[]⟩ ≠ x)) (fun c _ => N - (intOf c).toNat)
  case atStart => exact ⟨0, Nat.zero_le _, rfl, rfl, Lib.hid (fun j hj => absurd hj (Nat.not_lt_zero j))⟩
  case round =>
    obtain ⟨i, hiN, rfl, rfl, HJ⟩ := hrel
    by_cases hlt : i < N
    · obtain ⟨b, o, hidx, _, hcell⟩ := indexAt_X HV.out 132 9 Tryz.underlying132 Tryz.sizeStr i (by rw [HN.out]; exact hlt)
      have hc : wr.cell? ⟨b, o, none⟩ = some (.string (l.getD i ⟨#[]⟩)) := by
        have h0 := hcell 0 (by omega)
        rw [Nat.mul_one, Nat.add_zero, Nat.add_zero, strs_get (by rw [HN.out]; exact hlt)] at h0
        exact h0
      obtain ⟨y, hy⟩ : ∃ y, l.getD i ⟨#[]⟩ = y := ⟨_, rfl⟩
      have HY := Lib.hid hy
      rw [hy] at hc
      clear hcell hy
      by_cases hxy : x = y
      · have he : (x.toList == y.toList) = true := by rw [toList_eq]; exact decide_eq_true hxy
        have hm : x ∈ l := by
          rw [hxy, ← HY.out]
          have h1 : i < l.length := by rw [HN.out]; exact hlt
          rw [List.getD_eq_getElem?_getD, List.getElem?_eq_getElem h1]
          exact List.getElem_mem h1
        go_wp2
        go_ret
        exact ⟨⟨_, rfl, by rw [hasB_iff.2 hm]; exact decide_eq_true (by omega)⟩, rfl⟩
      · have he : (x.toList == y.toList) = false := by rw [toList_eq]; exact decide_eq_false hxy
        go_wp2
        go_roundw
        case rel => exact ⟨i + 1, by omega, by go_num, by trivial, Lib.hid (fun j hj => by
          by_cases e : j = i
          · rw [e, HY.out]; exact fun h => hxy h.symm
          · exact HJ.out j (by omega))⟩
        case measure => simp [intOf]; omega
    · obtain rfl : i = N := by omega
      have hm : ¬ x ∈ l := fun h => by
        obtain ⟨j, hj⟩ := List.getElem?_of_mem h
        have h1 := (List.getElem?_eq_some_iff.1 hj).1
        exact HJ.out j (by rw [← HN.out]; exact h1) (by rw [List.getD_eq_getElem?_getD, hj]; rfl)
      go_wp2
      go_ret
      exact ⟨⟨-1, rfl, by rw [hasB_no hm]; rfl⟩, rfl⟩
theorem contains_s (v : Value) (l : List ByteArray) (x : ByteArray) (w : World) (hv : IsX w 1 v l.length (strs l)) (hl : l.length ≤ 1048576) :
    Calls Tryz.prog 54 #[v, .string x] w fun e w' => e = .returned (.bool (hasB l x)) ∧ w' = w := by
  have HI := Lib.hid (index_s v l x w hv hl)
  clear hv hl
  go_enter Tryz.func54, Tryz.ntmps54
  go_wp2_with fail
  refine HI.out.mono ?_
  rintro e w1 ⟨⟨r, rfl, hr⟩, rfl⟩
  go_wp2
  go_ret
  exact ⟨rfl, rfl⟩
theorem nms_strs (t : Tbl) : nms t = strs (t.map (·.1)) := by simp [nms, strs]
theorem mem_names {d : Dsk} {n : ByteArray} : hasB (d.now.map (·.1)) n = (view d n).isSome := by
  unfold view
  rw [Option.isSome_map]
  cases hf : tfind d.now n with
  | none =>
    rw [Option.isSome_none]
    refine hasB_no fun h => ?_
    obtain ⟨e, he, hen⟩ := List.mem_map.1 h
    exact tfind_none.1 hf e he hen
  | some j => exact hasB_iff.2 (List.mem_map.2 ⟨_, tfind_mem hf, rfl⟩)
theorem named_d (w : World) (p k : Nat) (S : Nat → Prop) (d : Dsk) (n : ByteArray) (h : Dk w p S d k) :
    Calls Tryz.prog 36 #[.pointer (some ⟨p, 0, none⟩), .string n] w fun e w' => e = .returned (.bool (view d n).isSome) ∧ Below w.heap.size w w' := by
  have hl : d.now.length ≤ 1048576 := by have := h.ok.nowN; have := h.ok.lenN; have := h.small; omega
  have HH := Lib.hid h
  clear h
  go_enter Tryz.func36, Tryz.ntmps36
  go_wp2_with fail
  refine (names_u w p S d k HH.out).mono ?_
  rintro e w1 ⟨v', rfl, hown, hb⟩
  have HX := Lib.hid (show IsX w1 1 v' (d.now.map (·.1)).length (strs (d.now.map (·.1))) by rw [← nms_strs, List.length_map]; exact IsX.own hown)
  have HB := Lib.hid hb
  clear hown hb
  go_wp2_with fail
  refine (contains_s v' (d.now.map (·.1)) n w1 HX.out (by rw [List.length_map]; exact hl)).mono ?_
  rintro e w2 ⟨rfl, rfl⟩
  rw [mem_names]
  go_wp2
  go_ret
  exact ⟨rfl, HB.out⟩
theorem unname_d (w : World) (p k : Nat) (S : Nat → Prop) (d : Dsk) (n : ByteArray) (h : Dk w p S d k) (hv : view d n = none) :
    Calls Tryz.prog 62 #[.pointer (some ⟨p, 0, none⟩), .string n] w fun e w' => e = .returned .nilIface ∧ Below w.heap.size w w' := by
  have HN := Lib.hid (named_d w p k S d n h)
  rw [hv, Option.isSome_none] at HN
  clear h hv
  go_enter Tryz.func62, Tryz.ntmps62
  go_wp2_with fail
  refine HN.out.mono ?_
  rintro e w1 ⟨rfl, hb⟩
  have HB := Lib.hid hb
  clear hb
  go_wp2
  go_ret
  exact ⟨rfl, HB.out⟩

/-- A manifest laid. -/
theorem lay_went {d : Dsk} {k : Nat} {nM nS : ByteArray} {X : List UInt8} (hf : Fs d k) (hS : isNm nS = true) (hM : isNm nM = true) (hne : nS ≠ nM) (hv : view d nS = none) (hc : d.now.length < 64) (hX : X.length = 24) (hu : d.used + 24 ≤ d.cap) (d1 : Dsk) (h1 : Went d d1 (k + 6) (d.used + X.length) (d.now.length + 1) (fun m => if m = nS then some X else view d m)) :
    (d1.rename nS nM).2 = 0 ∧ (d1.rename nS nM).1.syncNames.2 = 0 ∧ Went d (d1.rename nS nM).1.syncNames.1 (k + 10) (d.used + 24 - olen (view d nM)) (d.now.length + 1 - if (view d nM).isSome then 1 else 0) (fun m => if m = nM then some X else view d m) := by
  have hr := h1.fs.rename (n := nS) (t := nM) (b := X) (by rw [h1.view, if_pos rfl]) hM hne
  have hs := hr.2.fs.syncNames
  have hvM : view d1 nM = view d nM := by rw [h1.view, if_neg (fun e => hne e.symm)]
  refine ⟨hr.1, hs.1, ((h1.trans hr.2).trans hs.2).of ?_ ?_ (fun m => ?_)⟩
  · rw [hr.2.used, h1.used, hX, hvM]
  · rw [hr.2.len, h1.len, hvM]
  · rw [hr.2.view]
    by_cases e : m = nM
    · rw [if_pos e, if_pos e]
    · rw [if_neg e, if_neg e]
      by_cases e2 : m = nS
      · rw [if_pos e2, e2, hv]
      · rw [if_neg e2, h1.view, if_neg e2]

set_option maxRecDepth 100000 in
set_option maxHeartbeats 1000000 in
theorem lay_d (w : World) (p k : Nat) (S : Nat → Prop) (d : Dsk) (num gen ep : Nat) (sh : Bool) (h : Dk w p S d k) (hk : k + 10 ≤ 90000) (hf : Fs d k) (n1 : 1 ≤ num) (n9 : num < 10) (g1 : 1 ≤ gen) (g9 : gen < 10) (he : ep ≤ 2147483647) (hv : view d (nmS num) = none) (hc : d.now.length < 64) (hu : d.used + 24 ≤ d.cap) :
    Calls Tryz.prog 39 #[.pointer (some ⟨p, 0, none⟩), .agg #[.int .i64 (num : Int), .int .i64 (gen : Int), .int .i64 (ep : Int), .bool sh]] w fun e w' =>
      e = .returned .nilIface ∧ ∃ d' X, X.length = 24 ∧ Dt w w' p S d' (k + 10) ∧ Went d d' (k + 10) (d.used + 24 - olen (view d (nmM num))) (d.now.length + 1 - if (view d (nmM num)).isSome then 1 else 0) (fun m => if m = nmM num then some X else view d m) := by
  have HH := Lib.hid h
  have HF := Lib.hid hf
  have HV := Lib.hid hv
  have HC := Lib.hid hc
  have HU := Lib.hid hu
  obtain ⟨LN, hLN⟩ : ∃ z, (d.now.length + 1 - if (view d (nmM num)).isSome then 1 else 0) = z := ⟨_, rfl⟩
  rw [hLN]
  have HLN := Lib.hid hLN
  clear h hf hv hc hu hLN
  go_enter Tryz.func39, Tryz.ntmps39
  go_wp2_with fail
  refine (putManifest_ok num gen ep sh _ n1 n9 g1 g9 he).mono ?_
  rintro e w1 ⟨q, cap, rfl, ⟨X, hX, hown⟩, hb1⟩
  have HZ := Lib.hid ((Blk.new w #[.int .i64 (num : Int), .int .i64 (gen : Int), .int .i64 (ep : Int), .bool sh] 83).below hb1 (by simp))
  have HB1 := Lib.hid ((below_alloc w (.cells #[.int .i64 (num : Int), .int .i64 (gen : Int), .int .i64 (ep : Int), .bool sh] 83)).trans (hb1.mono (by simp)))
  have HI1 := Lib.hid (IsB.own hown hX.symm)
  have hfresh : ∀ b, liesB (.slice (some ⟨q, 0, none⟩) 24 cap) X b → w.heap.size ≤ b := fun b hb => by
    have h1 := (hown.lt b hb.2).1
    simp at h1
    omega
  have HFR := Lib.hid hfresh
  have HD1 := Lib.hid (HH.out.below HB1.out (Nat.le_refl _))
  have c0 := HZ.out.cell 0 rfl
  have c1 := HZ.out.cell 1 rfl
  clear hb1 hown hfresh
  go_wp2_with fail
  refine (names_h num gen _ n9 g9).mono ?_
  rintro e w2 ⟨rfl, rfl⟩
  go_wp2_with fail
  refine (unname_d w1 p k S d (nmS num) HD1.out HV.out).mono ?_
  rintro e w3 ⟨rfl, hb3⟩
  have HB3 := Lib.hid (HB1.out.trans (hb3.mono HB1.out.size))
  have HD3 := Lib.hid (HH.out.below HB3.out (Nat.le_refl _))
  have HI3 := Lib.hid (HI1.out.mono hb3 (Nat.le_refl _))
  clear hb3 c0 c1
  go_wp2_with fail
  refine (create_d w3 p k S d (nmS num) _ X HD3.out (by omega) HF.out (isNm_S n9) HV.out HC.out HI3.out (fun b hb hs => by have h1 := HFR.out b hb; have h2 := HH.out.lt b hs; omega) (by omega) (by rw [hX]; exact HU.out)).mono ?_
  rintro e w4 ⟨rfl, d1, ht4, hw4⟩
  have HL := Lib.hid (lay_went HF.out (isNm_S n9) (isNm_M n9) (nmM_nmS _ _) HV.out HC.out hX HU.out d1 hw4)
  obtain ⟨S4, hd4, hk4, hs4⟩ := ht4
  have HD4 := Lib.hid hd4
  have HK4 := Lib.hid hk4
  have HS4 := Lib.hid hs4
  clear hd4 hk4 hs4 hw4
  go_wp2_with fail
  refine (rename_u w4 p S4 d1 (k + 6) (nmS num) (nmM num) HD4.out (by omega) (by simp [nmS, ByteArray.size]) (by simp [nmM, ByteArray.size])).mono ?_
  rintro e w5 ⟨rfl, ht5⟩
  rw [HL.out.1, cerr_0]
  obtain ⟨S5, hd5, hk5, hs5⟩ := Dt.join HK4.out HS4.out ht5
  have HD5 := Lib.hid hd5
  have HK5 := Lib.hid hk5
  have HS5 := Lib.hid hs5
  clear hd5 hk5 hs5 ht5
  go_wp2_with fail
  refine (syncNames_u w5 p S5 _ (k + 6 + 2) HD5.out (by omega)).mono ?_
  rintro e w6 ⟨rfl, ht6⟩
  rw [HL.out.2.1, cerr_0]
  have HT := Lib.hid (Dt.pre HB3.out (Dt.join HK5.out HS5.out ht6))
  clear ht6
  go_wp2
  go_ret
  exact ⟨rfl, _, X, hX, HT.out, by rw [← HLN.out]; exact HL.out.2.2⟩

end Go.Proofs.YtllbngopfganjaaGreatDoor
end

section
namespace Go.Proofs.YtllbngopfganjaaGreatDoor
open Go.RowKit Go.Cor

def Vst.with (s : Vst) (e : Nat) (b : Bool) : Vst := { s with epoch := e, shut := b }
theorem VolT.more {w w' : World} {g p k k' : Nat} {S : Nat → Prop} {d : Dsk} {s s' : Vst} (h : VolT w w' g p S d s k s') (hk : k ≤ k') (hs : k' ≤ 90000) : VolT w w' g p S d s k' s' := by
  obtain ⟨d', ⟨S', h1, h2, h3⟩, h4, h5⟩ := h
  exact ⟨d', ⟨S', h1.more hk hs, h2, h3⟩, h4.more hk, h5⟩
set_option maxRecDepth 100000 in
set_option maxHeartbeats 1000000 in
theorem keys_v (key : Nat) (most : Int) (g p k : Nat) (S : Nat → Prop) (d : Dsk) (s : Vst) (w : World) (h : Vready w g p S d k s) :
    Calls Tryz.prog 102 #[.pointer (some ⟨g, 0, none⟩), .int .u64 (key : Int), .int .i64 most] w fun r w' => ∃ v', r = .returned v' ∧ w'.ownsRow w.heap.size 124 5 v' (Q.fromL s.idx key most).length (row Q.pcells (Q.fromL s.idx key most)) ∧ Below w.heap.size w w' := by
  obtain ⟨x, xv, hbox, hix⟩ := h.box
  have hl : s.idx.length ≤ 1048576 := by have := s.idx_len; have := h.ok.few; omega
  obtain ⟨_, _, _, _, _, _, _, c7, _⟩ := vbox_facts hbox
  have HX := Lib.hid hix
  clear h hbox hix
  go_enter Tryz.func102, Tryz.ntmps102
  go_wp2_with fail
  refine (Q.from_any _ xv s.idx key most w (.at x xv s.idx HX.out) hl).mono ?_
  rintro r w1 ⟨v', rfl, hown, hb⟩
  have HO := Lib.hid hown
  have HB := Lib.hid hb
  clear hown hb
  go_wp2
  go_ret
  exact ⟨v', rfl, HO.out, HB.out⟩

def set7 (w : World) (g : Nat) (u0 u1 u2 u3 u4 u5 u6 : Value) : World := ((((((w.setCell ⟨g, 0, none⟩ u0).setCell ⟨g, 1, none⟩ u1).setCell ⟨g, 2, none⟩ u2).setCell ⟨g, 3, none⟩ u3).setCell ⟨g, 4, none⟩ u4).setCell ⟨g, 5, none⟩ u5).setCell ⟨g, 6, none⟩ u6
theorem set7_done {w w1 : World} {B : Nat} {a0 a1 a2 a3 a4 a5 a6 : Value} {T : TypeId} (h : Blk w1 B #[a0, a1, a2, a3, a4, a5, a6] T) (hb : Below B w w1) (u0 u1 u2 u3 u4 u5 u6 : Value) :
    (set7 w1 B u0 u1 u2 u3 u4 u5 u6).cell? ⟨B, 0, none⟩ = some u0 ∧ (set7 w1 B u0 u1 u2 u3 u4 u5 u6).cell? ⟨B, 1, none⟩ = some u1 ∧ (set7 w1 B u0 u1 u2 u3 u4 u5 u6).cell? ⟨B, 2, none⟩ = some u2 ∧ (set7 w1 B u0 u1 u2 u3 u4 u5 u6).cell? ⟨B, 3, none⟩ = some u3 ∧
    (set7 w1 B u0 u1 u2 u3 u4 u5 u6).cell? ⟨B, 4, none⟩ = some u4 ∧ (set7 w1 B u0 u1 u2 u3 u4 u5 u6).cell? ⟨B, 5, none⟩ = some u5 ∧ (set7 w1 B u0 u1 u2 u3 u4 u5 u6).cell? ⟨B, 6, none⟩ = some u6 ∧ Below B w (set7 w1 B u0 u1 u2 u3 u4 u5 u6) := by
  have hz : Blk (set7 w1 B u0 u1 u2 u3 u4 u5 u6) B #[u0, u1, u2, u3, u4, u5, u6] T := by
    have h1 := ((((((h.set 0 u0).set 1 u1).set 2 u2).set 3 u3).set 4 u4).set 5 u5).set 6 u6
    simp at h1
    exact h1
  have hB := Nat.le_refl B
  exact ⟨hz.cell 0 rfl, hz.cell 1 rfl, hz.cell 2 rfl, hz.cell 3 rfl, hz.cell 4 rfl, hz.cell 5 rfl, hz.cell 6 rfl, ((((((hb.setCell hB _).setCell hB _).setCell hB _).setCell hB _).setCell hB _).setCell hB _).setCell hB _⟩
/-- What is told of a volume. -/
def infoV (s : Vst) : Value := .agg #[.int .i64 (s.num : Int), .int .i64 (s.gen : Int), .int .i64 (s.epoch : Int), .int .i64 (s.size : Int), .int .i64 ((s.idx.length : Int) - (Q.goneN s.idx : Int)), .int .i64 (Q.goneN s.idx : Int), .bool s.shut]
set_option maxRecDepth 100000 in
set_option maxHeartbeats 1000000 in
theorem info_v (g p k : Nat) (S : Nat → Prop) (d : Dsk) (s : Vst) (w : World) (h : Vready w g p S d k s) :
    Calls Tryz.prog 11 #[.pointer (some ⟨g, 0, none⟩)] w fun r w' => r = .returned (infoV s) ∧ Below w.heap.size w w' := by
  have hal := below_alloc w (.cells #[.int .i64 0, .int .i64 0, .int .i64 0, .int .i64 0, .int .i64 0, .int .i64 0, .bool false] 50)
  have HAL := Lib.hid hal
  obtain ⟨x, xv, hbox, hix⟩ := (h.below hal).box
  have hl : s.idx.length ≤ 1048576 := by have := s.idx_len; have := h.ok.few; omega
  obtain ⟨_, _, _, _, _, _, _, c7, _⟩ := vbox_facts hbox
  have HX := Lib.hid hix
  have HH := Lib.hid h
  unfold infoV
  obtain ⟨G, hG⟩ : ∃ G, Q.goneN s.idx = G := ⟨_, rfl⟩
  obtain ⟨A, hA⟩ : ∃ A : Int, (s.idx.length : Int) - (G : Int) = A := ⟨_, rfl⟩
  rw [hG, hA]
  have HG := Lib.hid hG
  have HA := Lib.hid hA
  clear h hbox hix hal hG hA
  go_enter Tryz.func11, Tryz.ntmps11
  go_wp2_with fail
  refine (Q.len_any _ xv s.idx _ (.at x xv s.idx HX.out) hl).mono ?_
  rintro e w1 ⟨rfl, hb1⟩
  rw [HG.out, HA.out]
  have HB1 := Lib.hid (HAL.out.trans (hb1.mono (by simp)))
  have HZ := Lib.hid ((Blk.new w #[.int .i64 0, .int .i64 0, .int .i64 0, .int .i64 0, .int .i64 0, .int .i64 0, .bool false] 50).below hb1 (by simp))
  obtain ⟨x2, xv2, hbox2, _⟩ := (HH.out.below HB1.out).box
  obtain ⟨_, c1, c2, c3, c4, _, c6, _, fz⟩ := vbox_facts hbox2
  clear hb1 hbox2 c7
  go_wp2_with fail
  have z0 := HZ.out.cell 0 rfl
  have z1 := HZ.out.cell 1 rfl
  have z2 := HZ.out.cell 2 rfl
  have z3 := HZ.out.cell 3 rfl
  have z4 := HZ.out.cell 4 rfl
  have z5 := HZ.out.cell 5 rfl
  have z6 := HZ.out.cell 6 rfl
  have zf := fun j => HZ.out.free j
  have hF := set7_done HZ.out HB1.out (.int .i64 (s.num : Int)) (.int .i64 (s.gen : Int)) (.int .i64 (s.epoch : Int)) (.int .i64 (s.size : Int)) (.int .i64 A) (.int .i64 (G : Int)) (.bool s.shut)
  unfold set7 at hF
  have HF := Lib.hid hF
  clear hF
  go_still_tail 27, (by kernel_rfl)
  change wpList _ _ _ _ _ w1.drew
  go_wp2
  obtain ⟨y0, y1, y2, y3, y4, y5, y6, yb⟩ := HF.out
  exact bodyPost_ret (v := .agg #[.int .i64 (s.num : Int), .int .i64 (s.gen : Int), .int .i64 (s.epoch : Int), .int .i64 (s.size : Int), .int .i64 A, .int .i64 (G : Int), .bool s.shut]) (by simp [results, Tryz.results11, go_sem, y0, y1, y2, y3, y4, y5, y6]) rfl ⟨rfl, yb.drew⟩

end Go.Proofs.YtllbngopfganjaaGreatDoor
end

section
namespace Go.Proofs.YtllbngopfganjaaGreatDoor
open Go.RowKit Go.Cor

theorem mk_keep {wx wy : World} {B : Nat} {c0 c1 c2 c3 : Value} (hb : Below wx.heap.size wx wy) (hB : B < wx.heap.size)
    (K : wx.cell? ⟨B, 0, none⟩ = some c0 ∧ wx.cell? ⟨B, 1, none⟩ = some c1 ∧ wx.cell? ⟨B, 2, none⟩ = some c2 ∧ wx.cell? ⟨B, 3, none⟩ = some c3) : wy.cell? ⟨B, 0, none⟩ = some c0 ∧ wy.cell? ⟨B, 1, none⟩ = some c1 ∧ wy.cell? ⟨B, 2, none⟩ = some c2 ∧ wy.cell? ⟨B, 3, none⟩ = some c3 := four_below hb hB K
/-- A volume as it is made. -/
def vst0 (num most ep : Nat) : Vst := ⟨num, 1, most, ep, false, []⟩
/-- What Make leaves. -/
def Made (w w' : World) (g p : Nat) (Sd : Nat → Prop) (d : Dsk) (k' : Nat) (s : Vst) : Prop :=
  ∃ S' d', Vl w' g p S' d' k' s ∧ Kept Sd w w' ∧ (∀ b, S' b → Sd b ∨ w.heap.size ≤ b) ∧ w.heap.size ≤ g ∧ Lies d' k' s ∧ s.Ok ∧ d'.cap = d.cap ∧ d'.now.length = d.now.length + 2 ∧ d'.used = d.used + 40 ∧ ∀ m, m ≠ nmD s.num s.gen → m ≠ nmM s.num → m ≠ nmS s.num → view d' m = view d m

theorem make_plain {d d1 d2 : Dsk} {k num most ep : Nat} {X Y : List UInt8} (hX : X.length = 16) (hY : Y.length = 24) (hM : view d (nmM num) = none) (hS : view d (nmS num) = none)
    (h1 : Went d d1 (k + 6) (d.used + X.length) (d.now.length + 1) (fun m => if m = nmD num 1 then some X else view d m))
    (h2 : Went d1 d2 (k + 16) (d1.used + 24 - olen (view d1 (nmM num))) (d1.now.length + 1 - if (view d1 (nmM num)).isSome then 1 else 0) (fun m => if m = nmM num then some Y else view d1 m)) :
    Lies d2 (k + 16) (vst0 num most ep) ∧ d2.cap = d.cap ∧ d2.now.length = d.now.length + 2 ∧ d2.used = d.used + 40 ∧ ∀ m, m ≠ nmD num 1 → m ≠ nmM num → m ≠ nmS num → view d2 m = view d m := by
  have hv1 : view d1 (nmM num) = none := by rw [h1.view, if_neg (nmD_nmM _ _ _), hM]
  refine ⟨⟨h2.fs, ⟨X, hX, ?_⟩, ⟨Y, ?_, hY⟩, ?_⟩, h2.cap.trans h1.cap, ?_, ?_, fun m a b _ => by rw [h2.view, if_neg b, h1.view, if_neg a]⟩
  · show view d2 (nmD num 1) = some (X ++ [])
    rw [h2.view, if_neg (fun e => nmD_nmM _ _ _ e.symm), h1.view, if_pos rfl, List.append_nil]
  · show view d2 (nmM num) = some Y
    rw [h2.view, if_pos rfl]
  · show view d2 (nmS num) = none
    rw [h2.view, if_neg (nmM_nmS _ _), h1.view, if_neg (nmD_nmS _ _ _), hS]
  · rw [h2.len, h1.len, hv1]
    simp
  · rw [h2.used, h1.used, hv1, hX]
    simp only [olen]
    omega

set_option maxRecDepth 100000 in
set_option maxHeartbeats 1000000 in
theorem make_v (num most ep p k : Nat) (Sd : Nat → Prop) (d : Dsk) (w : World) (h : Dk w p Sd d k) (hk : k + 16 ≤ 90000) (hf : Fs d k) (n1 : 1 ≤ num) (n9 : num < 10) (hm : 16 ≤ most) (hm2 : most ≤ 16777216) (he : ep ≤ 2147483647)
    (hD : view d (nmD num 1) = none) (hM : view d (nmM num) = none) (hS : view d (nmS num) = none) (hc : d.now.length < 60) (hu : d.used + 40 ≤ d.cap) :
    Calls Tryz.prog 20 #[.pointer (some ⟨p, 0, none⟩), .int .i64 (num : Int), .int .i64 (most : Int), .int .i64 (ep : Int)] w fun e w' =>
      ∃ g, e = .returned (.tuple #[.pointer (some ⟨g, 0, none⟩), .nilIface]) ∧ Made w w' g p Sd d (k + 16) (vst0 num most ep) := by
  have HH := Lib.hid h
  have HF := Lib.hid hf
  have HDD := Lib.hid hD
  have HM := Lib.hid hM
  have HS := Lib.hid hS
  have HC := Lib.hid hc
  have HU := Lib.hid hu
  have hde : decide (0 ≤ (ep : Int) ∧ (ep : Int) ≤ 2147483647) = true := decide_eq_true (by omega)
  clear h hf hD hM hS hc hu
  go_enter Tryz.func20, Tryz.ntmps20
  go_wp2_with fail
  refine (can_yes num most _ n1 n9 hm hm2).mono ?_
  rintro e w1 ⟨rfl, rfl⟩
  go_wp2_with fail
  refine (epochCan_any (ep : Int) _).mono ?_
  rintro e w1 ⟨rfl, rfl⟩
  rw [hde]
  go_wp2_with fail
  refine (names_h num 1 _ n9 (by omega)).mono ?_
  rintro e w2 ⟨rfl, rfl⟩
  go_wp2_with fail
  refine (named_d w p k Sd d (nmM num) HH.out).mono ?_
  rintro e w3 ⟨rfl, hb3⟩
  rw [HM.out, Option.isSome_none]
  have HB3 := Lib.hid hb3
  clear hb3
  go_wp2_with fail
  refine (putSuper_ok num 1 _ n1 n9 (by omega) (by omega)).mono ?_
  rintro e w4 ⟨q, cap, rfl, ⟨X, hX, hown⟩, hb4⟩
  have HB4 := Lib.hid (HB3.out.trans (hb4.mono HB3.out.size))
  have HI4 := Lib.hid (IsB.own hown hX.symm)
  have hfresh : ∀ b, liesB (.slice (some ⟨q, 0, none⟩) 16 cap) X b → ¬ Sd b := fun b hb hs => by
    have h1 := (hown.lt b hb.2).1
    have h2 := HH.out.lt b hs
    have h3 := HB3.out.size
    omega
  have HFR := Lib.hid hfresh
  have HD4 := Lib.hid (HH.out.below HB4.out (Nat.le_refl _))
  clear hown hb4 hfresh
  go_wp2_with fail
  refine (create_d w4 p k Sd d (nmD num 1) _ X HD4.out (by omega) HF.out (isNm_D n9 (by omega)) HDD.out (by have := HC.out; omega) HI4.out HFR.out (by omega) (by have := HU.out; omega)).mono ?_
  rintro e w5 ⟨rfl, d1, ht5, hw5⟩
  obtain ⟨S5, hd5, hk5, hs5⟩ := Dt.pre HB4.out ht5
  have HD5 := Lib.hid hd5
  have HK5 := Lib.hid hk5
  have HS5 := Lib.hid hs5
  have HW5 := Lib.hid hw5
  clear ht5 hd5 hk5 hs5 hw5
  go_wp2_with fail
  have hal5 := below_alloc w5 (.cells #[.int .i64 (num : Int), .int .i64 1, .int .i64 (ep : Int), .bool false] 83)
  have HZ5 := Lib.hid (Blk.new w5 #[.int .i64 (num : Int), .int .i64 1, .int .i64 (ep : Int), .bool false] 83)
  have hv1S : view d1 (nmS num) = none := by rw [HW5.out.view, if_neg (nmD_nmS _ _ _), HS.out]
  refine (lay_d _ p (k + 6) S5 d1 num 1 ep false (HD5.out.below hal5 (Nat.le_refl _)) (by omega) HW5.out.fs n1 n9 (by omega) (by omega) he hv1S (by rw [HW5.out.len]; have := HC.out; omega) (by rw [HW5.out.used, HW5.out.cap, hX]; have := HU.out; omega)).mono ?_
  rintro e w6 ⟨rfl, d2, Y, hY, ht6, hw6⟩
  have HP := Lib.hid (make_plain (most := most) (ep := ep) hX hY HM.out HS.out HW5.out hw6)
  have hb5 : Kept Sd w (w5.alloc (.cells #[.int .i64 (num : Int), .int .i64 1, .int .i64 (ep : Int), .bool false] 83)) := HK5.out.alloc _
  obtain ⟨S6, hd6, hk6, hs6⟩ := ht6
  have h5w : w.heap.size ≤ w5.heap.size := HK5.out.size
  have hz6 := HZ5.out.kept hk6 (fun hs => by have := HD5.out.lt _ hs; omega)
  have HK6 := Lib.hid (hb5.trans hk6 (fun j hj hlt => by
    rcases HS5.out j hj with h | h
    · exact h
    · omega))
  have HS6 := Lib.hid (show ∀ b, S6 b → Sd b ∨ w.heap.size ≤ b from fun b hb => by
    rcases hs6 b hb with h | h
    · exact HS5.out b h
    · exact .inr (Nat.le_trans (Nat.le_trans h5w hal5.size) h))
  have HD6 := Lib.hid hd6
  have K0 : w6.drew.cell? ⟨w5.heap.size, 0, none⟩ = some (.int .i64 (num : Int)) ∧ w6.drew.cell? ⟨w5.heap.size, 1, none⟩ = some (.int .i64 1) ∧ w6.drew.cell? ⟨w5.heap.size, 2, none⟩ = some (.int .i64 (ep : Int)) ∧ w6.drew.cell? ⟨w5.heap.size, 3, none⟩ = some (.bool false) := ⟨hz6.cell 0 rfl, hz6.cell 1 rfl, hz6.cell 2 rfl, hz6.cell 3 rfl⟩
  have hl56 : w5.heap.size < w6.heap.size := hz6.lt
  have hl6 : w.heap.size ≤ w6.heap.size := HK6.out.size
  clear hw6 hk6 hs6 hd6 hz6 hb5 HZ5 hv1S hal5
  go_upto_region 18 with fail
  go_region_held3 (fun wx => wx.cell? ⟨w5.heap.size, 0, none⟩ = some (.int .i64 (num : Int)) ∧ wx.cell? ⟨w5.heap.size, 1, none⟩ = some (.int .i64 1) ∧ wx.cell? ⟨w5.heap.size, 2, none⟩ = some (.int .i64 (ep : Int)) ∧ wx.cell? ⟨w5.heap.size, 3, none⟩ = some (.bool false)) (first | exact K0 | exact Ka | exact mk_keep (below_alloc _ _) (Nat.lt_of_lt_of_le hl56 hb7.size) Ka) (first | (go_at_call 40; refine (Q.new_any (.slice none 0 0) [] w6.drew (Q.IsP.nil _) (by decide)).mono ?_; rintro e w7 ⟨x, rfl, hown7, hb7⟩; have Ka := mk_keep hb7 hl56 K0))
  clear K0 Ka
  have h67 : w6.heap.size ≤ w7.heap.size := hb7.size
  obtain ⟨xv, hix, hge⟩ := hown7
  have hdk := (HD6.out.below (((Below.refl _ w6).drew).trans hb7) (Nat.le_refl _)).below (below_alloc w7 (.cells #[.pointer (some ⟨p, 0, none⟩), .int .i64 (num : Int), .int .i64 1, .int .i64 (ep : Int), .bool false, .int .i64 (most : Int), .int .i64 16, .pointer (some ⟨x, 0, none⟩)] 86)) (Nat.le_refl _)
  have hbx := Blk.new w7 (vcells p x (vst0 num most ep)) 86
  have hixa : Q.At (w7.alloc (.cells #[.pointer (some ⟨p, 0, none⟩), .int .i64 (num : Int), .int .i64 1, .int .i64 (ep : Int), .bool false, .int .i64 (most : Int), .int .i64 16, .pointer (some ⟨x, 0, none⟩)] 86)) x xv (vst0 num most ep).idx := hix.below (below_alloc w7 _) (Nat.le_refl _)
  have hgx : ¬ Q.own x xv w7.heap.size := fun h => by have := hix.lt _ h; omega
  have hgd : ¬ S6 w7.heap.size := fun h => by have := HD6.out.lt _ h; omega
  have hxd : ∀ b, Q.own x xv b → ¬ S6 b := fun b h1 h2 => by
    have := hge b h1
    have h3 := HD6.out.lt _ h2
    have h4 : w6.drew.heap.size = w6.heap.size := rfl
    omega
  have hok : (vst0 num most ep).Ok := ⟨n1, n9, Nat.le_refl 1, Nat.lt_of_sub_pos (Nat.succ_pos 8), he, hm2, hm, Nat.succ_pos 4095, fun n hn => by cases hn⟩
  have hM : Made w (w7.alloc (.cells #[.pointer (some ⟨p, 0, none⟩), .int .i64 (num : Int), .int .i64 1, .int .i64 (ep : Int), .bool false, .int .i64 (most : Int), .int .i64 16, .pointer (some ⟨x, 0, none⟩)] 86)) w7.heap.size p Sd d (k + 16) (vst0 num most ep) := by
    refine ⟨fun b => b = w7.heap.size ∨ Q.own x xv b ∨ S6 b, d2, ⟨x, xv, S6, ⟨hbx, hixa, hdk, hgx, hgd, hxd⟩, fun b => Iff.rfl⟩, ?_, fun b hb => ?_, ?_, HP.out.1, hok, HP.out.2.1, HP.out.2.2.1, HP.out.2.2.2.1, HP.out.2.2.2.2⟩
    · exact (HK6.out.trans (Kept.of_below (S := fun _ => False) (((Below.refl _ w6).drew).trans hb7) (Nat.le_refl _)) (fun _ h => h.elim)).alloc _
    · rcases hb with rfl | h | h
      · exact .inr (by omega)
      · have := hge b h
        have h4 : w6.drew.heap.size = w6.heap.size := rfl
        exact .inr (by omega)
      · exact HS6.out b h
    · omega
  have HMM := Lib.hid hM
  clear hM hok hxd hgd hgx hixa hbx hdk hix hge hb7
  go_wp2
  go_ret2
  exact ⟨_, rfl, HMM.out⟩

end Go.Proofs.YtllbngopfganjaaGreatDoor
end

section
namespace Go.Proofs.YtllbngopfganjaaGreatDoor.Nd
open Go.RowKit Go.Cor

/-- A node: its place, its life, its volume of number 1, the answers of this life. -/
structure NodeP where
  place : Int
  life : Int
  v : Vst
  l : List Msg
/-- What stands at a key's position. -/
def standN (v : Vst) (key : Nat) : Option Ndl := match newest v.ns key with
  | none => none
  | some o => if o.gone = true then some ⟨key, o.cookie, true, []⟩ else some o
def tellN (v : Vst) (key c : Nat) : Option Ndl := if c = 7 ∨ c = 8 ∨ c = 9 then standN v key else none
/-- A request done on the volume: the volume, the code, the needle that is told. -/
def doN (v : Vst) (m : Msg) : Vst × Nat × Option Ndl :=
  if m.has = false then (v, 1, none) else if m.vo ≠ 1 then (v, 6, none) else
  if m.kd = 1 then ((v.put m.n).1, (v.put m.n).2, tellN (v.put m.n).1 m.n.key (v.put m.n).2) else
  if m.kd = 2 then ((v.lay m.n).1, (v.lay m.n).2, none) else
  if m.kd = 3 then (if v.look m.n.key m.n.cookie = 0 then (v, 0, newest v.ns m.n.key) else (v, v.look m.n.key m.n.cookie, tellN v m.n.key (v.look m.n.key m.n.cookie))) else
  ((v.del m.n.key m.n.cookie).1, (v.del m.n.key m.n.cookie).2, tellN (v.del m.n.key m.n.cookie).1 m.n.key (v.del m.n.key m.n.cookie).2)
def replyM (m : Msg) (li : Int) (code : Nat) (o : Option Ndl) : Msg := ⟨m.to, m.fr, 5, m.vo, li, m.id, (code : Int), o.isSome, o.getD nz⟩
def handK (n : NodeP) (m : Msg) : Nat := if m.kd = 5 ∨ mcheck m ≠ 0 ∨ m.to ≠ n.place then 1 else 0
/-- Is the request a new one of this life? -/
def newB (n : NodeP) (m : Msg) : Bool := decide (handK n m = 0 ∧ m.li = n.life ∧ findP m.fr m.id n.l < 0 ∧ n.l.length < 4096)
def newM (n : NodeP) (m : Msg) : Msg := replyM m m.li (doN n.v m).2.1 (doN n.v m).2.2
def handM (n : NodeP) (m : Msg) : Msg :=
  if handK n m ≠ 0 then mz else if m.li ≠ n.life then replyM m n.life 13 none else
  if 0 ≤ findP m.fr m.id n.l then findM m.fr m.id n.l else if 4096 ≤ n.l.length then replyM m m.li 14 none else newM n m
def handN (n : NodeP) (m : Msg) : NodeP := if newB n m = true then { n with v := (doN n.v m).1, l := n.l ++ [newM n m] } else n
theorem handN_old {n : NodeP} {m : Msg} (h : newB n m = false) : handN n m = n := by unfold handN; rw [h]; rfl
theorem handN_new {n : NodeP} {m : Msg} (h : newB n m = true) : handN n m = { n with v := (doN n.v m).1, l := n.l ++ [newM n m] } := by unfold handN; rw [if_pos h]
theorem handK_le (n : NodeP) (m : Msg) : handK n m = 0 ∨ handK n m = 1 := by unfold handK; split <;> simp
theorem handN_life (n : NodeP) (m : Msg) : (handN n m).life = n.life ∧ (handN n m).place = n.place := by unfold handN; split <;> exact ⟨rfl, rfl⟩
theorem findP_snoc {a : Int} {q : Nat} {l : List Msg} {m : Msg} (h : findP a q l < 0) (hm : hasP a q m = true) : findP a q (l ++ [m]) = (l.length : Int) :=
  findP_at (i := l.length) (m := m) (by simp) (fun x hx => by
    rw [List.take_left' rfl] at hx
    exact (findP_map_neg a q l).1 h x hx) hm
theorem handK_again (n : NodeP) (m : Msg) : handK (handN n m) m = handK n m := by
  unfold handK
  rw [(handN_life n m).2]
theorem newB_again (n : NodeP) (m : Msg) : newB (handN n m) m = false := by
  cases h : newB n m with
  | false => rw [handN_old h, h]
  | true =>
    have h1 := of_decide_eq_true h
    refine decide_eq_false fun h2 => ?_
    have h3 : (handN n m).l = n.l ++ [newM n m] := by rw [handN_new h]
    rw [h3, findP_snoc (m := newM n m) h1.2.2.1 (hasP_iff.2 ⟨rfl, rfl⟩)] at h2
    omega
/-- The second time nothing is done. -/
theorem handN_again (n : NodeP) (m : Msg) : handN (handN n m) m = handN n m := handN_old (newB_again n m)
/-- .. and the answer is the same. -/
theorem handM_again (n : NodeP) (m : Msg) : handM (handN n m) m = handM n m := by
  cases h : newB n m with
  | false => rw [handN_old h]
  | true =>
    have h1 := of_decide_eq_true h
    have h3 : (handN n m).l = n.l ++ [newM n m] := by rw [handN_new h]
    have hfs := findP_snoc (m := newM n m) h1.2.2.1 (hasP_iff.2 ⟨rfl, rfl⟩)
    have e2 : handM n m = newM n m := by
      unfold handM
      rw [if_neg (by omega), if_neg (fun h => h h1.2.1), if_neg (by omega), if_neg (by omega)]
    have e1 : handM (handN n m) m = newM n m := by
      unfold handM
      rw [handK_again, (handN_life n m).1, if_neg (by omega), if_neg (fun h => h h1.2.1), h3, hfs, if_pos (by omega)]
      unfold findM
      rw [hfs, if_neg (by omega)]
      simp [List.getD]
    rw [e1, e2]
/-- The same request, of another life. -/
def ofLife (m : Msg) (q : Int) : Msg := ⟨m.fr, m.to, m.kd, m.vo, q, m.id, m.co, m.has, m.n⟩
theorem stale_N {n : NodeP} {m : Msg} {q : Int} (h : q ≠ n.life) : handN n (ofLife m q) = n := handN_old (decide_eq_false fun h2 => h h2.2.1)
theorem stale_K {n : NodeP} {m : Msg} {q : Int} (h0 : 0 ≤ q) (h1 : q ≤ 2147483647) (h : handK n m = 0) : handK n (ofLife m q) = 0 := by
  have h2 : ¬ (m.kd = 5 ∨ mcheck m ≠ 0 ∨ m.to ≠ n.place) := fun h3 => by unfold handK at h; rw [if_pos h3] at h; cases h
  have hc : mcheck m = 0 := Decidable.not_not.1 fun h3 => h2 (.inr (.inl h3))
  obtain ⟨g, g2, g3⟩ := mcheck_ok hc
  have hg : (ofLife m q).good := by
    obtain ⟨a1, a2, a3, a4, a5, a6, a7, a8, a9, a10, a11, a12, a13⟩ := g
    exact ⟨a1, a2, a3, a4, a5, a6, a7, a8, a9, a10, a11, h0, h1⟩
  have hc2 : mcheck (ofLife m q) = 0 := by
    unfold mcheck
    rw [if_neg (fun h => h hg)]
    cases hh : m.has with
    | true => rw [if_pos (show (ofLife m q).has = true from hh)]; exact g2 hh
    | false => rw [if_neg (show ¬ (ofLife m q).has = true by rw [show (ofLife m q).has = m.has from rfl, hh]; decide), if_pos (by rw [show (ofLife m q).n = m.n from rfl, g3 hh]; exact (sameN_eq _ _).2 rfl)]
  unfold handK
  rw [if_neg (fun h3 => by
    rcases h3 with h3 | h3 | h3
    · exact h2 (.inl h3)
    · exact h3 hc2
    · exact h2 (.inr (.inr h3)))]
theorem stale_M {n : NodeP} {m : Msg} {q : Int} (h : q ≠ n.life) (hk : handK n (ofLife m q) = 0) : (handM n (ofLife m q)).co = 13 ∧ (handM n (ofLife m q)).li = n.life := by
  unfold handM
  rw [if_neg (by omega), if_pos (show (ofLife m q).li ≠ n.life from h)]
  exact ⟨rfl, rfl⟩

end Go.Proofs.YtllbngopfganjaaGreatDoor.Nd
end

section
namespace Go.Proofs.YtllbngopfganjaaGreatDoor.Nd
open Go.RowKit Go.Cor

theorem nlen_le {n : Ndl} (h : n.data.length ≤ 300) : nlen n ≤ 400 := by
  unfold nlen padn
  omega
/-- What a request may do to a volume. -/
structure Grew (s s' : Vst) : Prop where
  num : s'.num = s.num
  gen : s'.gen = s.gen
  most : s'.most = s.most
  few : s'.ns.length ≤ s.ns.length + 1
  size : s'.size ≤ s.size + 400
theorem Grew.refl (s : Vst) : Grew s s := ⟨rfl, rfl, rfl, Nat.le_succ _, Nat.le_add_right _ _⟩
theorem Grew.wrote (s : Vst) {n : Ndl} (h : nlen n ≤ 400) : Grew s (s.wrote n) := ⟨rfl, rfl, rfl, by unfold Vst.wrote; simp, by rw [s.size_wrote]; omega⟩
theorem Grew.write (s : Vst) {n : Ndl} (h : nlen n ≤ 400) : Grew s (s.write n).1 := by
  unfold Vst.write
  split
  · exact Grew.refl s
  · exact Grew.wrote s h
theorem Grew.put (s : Vst) {n : Ndl} (h : nlen n ≤ 400) : Grew s (s.put n).1 := by
  unfold Vst.put
  repeat' split
  all_goals first | exact Grew.refl s | exact Grew.write s h
theorem Grew.lay (s : Vst) {n : Ndl} (h : nlen n ≤ 400) : Grew s (s.lay n).1 := by
  unfold Vst.lay
  repeat' split
  all_goals first | exact Grew.refl s | exact Grew.write s h
theorem Grew.del (s : Vst) (k c : Nat) : Grew s (s.del k c).1 := by
  unfold Vst.del
  repeat' split
  all_goals first | exact Grew.refl s | exact Grew.write s (nlen_le (by show (0 : Nat) ≤ 300; omega))
theorem Grew.doN (s : Vst) {m : Msg} (h : m.n.data.length ≤ 300) : Grew s (doN s m).1 := by
  unfold Nd.doN
  repeat' split
  all_goals first | exact Grew.refl s | exact Grew.put s (nlen_le h) | exact Grew.lay s (nlen_le h) | exact Grew.del s _ _
theorem vready_kept {T : Nat → Prop} {w w' : World} {g p k : Nat} {S : Nat → Prop} {d : Dsk} {s : Vst} (h : Vready w g p S d k s) (hk : Kept T w w') (hT : ∀ b, S b → ¬ T b) : Vready w' g p S d k s := ⟨h.vl.kept hk hT, h.lies, h.ok, h.few, h.names⟩
/-- A node's parts: So: its own blocks, Sv: its volume's and its disk's, St: its table's; r: how many requests there is room for. -/
structure ZPt (w : World) (B : Nat) (So Sv St : Nat → Prop) (vg p tg : Nat) (d : Dsk) (k : Nat) (n : NodeP) (r : Nat) : Prop where
  vr : Vready w vg p Sv d k n.v
  tb : Tb w B tg St 4096 n.l
  ov : ∀ b, So b → ¬ Sv b
  ot : ∀ b, So b → ¬ St b
  vt : ∀ b, Sv b → ¬ St b
  lo : ∀ b, Sv b → B ≤ b
  ow : ∀ b, So b → B ≤ b ∧ b < w.heap.size
  sz : d.used + 400 * r ≤ d.cap
  few : n.v.ns.length + r < 4096
  steps : k + 20 * r ≤ 89000
  tl : n.l.length + r ≤ 4096
section
variable {w w' : World} {B vg p tg k : Nat} {So Sv St : Nat → Prop} {d : Dsk} {n : NodeP} {r : Nat}
theorem ZPt.at (h : ZPt w B So Sv St vg p tg d k n r) {b : Nat} (hb : So b ∨ Sv b ∨ St b) : B ≤ b ∧ b < w.heap.size := by
  rcases hb with hb | hb | hb
  · exact h.ow b hb
  · exact ⟨h.lo b hb, h.vr.vl.lt b hb⟩
  · obtain ⟨b0, l0, h1, h2, h3, h4, h5, h6⟩ := h.tb
    exact h6 b hb
theorem ZPt.less {r' : Nat} (h : ZPt w B So Sv St vg p tg d k n r) (hr : r' ≤ r) : ZPt w B So Sv St vg p tg d k n r' :=
  ⟨h.vr, h.tb, h.ov, h.ot, h.vt, h.lo, h.ow, by have := h.sz; omega, by have := h.few; omega, by have := h.steps; omega, by have := h.tl; omega⟩
theorem ZPt.below (h : ZPt w B So Sv St vg p tg d k n r) (hb : Below w.heap.size w w') : ZPt w' B So Sv St vg p tg d k n r :=
  ⟨h.vr.below hb, h.tb.below hb, h.ov, h.ot, h.vt, h.lo, fun b hb' => ⟨(h.ow b hb').1, Nat.lt_of_lt_of_le (h.ow b hb').2 hb.size⟩, h.sz, h.few, h.steps, h.tl⟩
/-- Something else has turned. -/
theorem ZPt.kept {T : Nat → Prop} (h : ZPt w B So Sv St vg p tg d k n r) (hk : Kept T w w') (hT : ∀ b, So b ∨ Sv b ∨ St b → ¬ T b) : ZPt w' B So Sv St vg p tg d k n r :=
  ⟨vready_kept h.vr hk fun b hb => hT b (.inr (.inl hb)), h.tb.kept hk fun b hb => hT b (.inr (.inr hb)), h.ov, h.ot, h.vt, h.lo, fun b hb => ⟨(h.ow b hb).1, Nat.lt_of_lt_of_le (h.ow b hb).2 hk.size⟩, h.sz, h.few, h.steps, h.tl⟩
/-- The volume's call. -/
theorem ZPt.vol {v' : Vst} {k' : Nat} (h : ZPt w B So Sv St vg p tg d k n (r + 1)) (hV : VolT w w' vg p Sv d n.v k' v') (hg : Grew n.v v') (hk' : k' ≤ k + 12) :
    ∃ Sv' d', ZPt w' B So Sv' St vg p tg d' k' { n with v := v' } r ∧ Kept Sv w w' ∧ ∀ b, Sv' b → Sv b ∨ w.heap.size ≤ b := by
  obtain ⟨d', ⟨Sv', hvl, hk, hs⟩, hl, hok, hc, hnw, hu, _⟩ := hV
  have h1 := h.sz
  have h2 := h.few
  have h3 := h.steps
  have h4 := h.tl
  have hB : B ≤ w.heap.size := by
    obtain ⟨x, xv, hbx, _⟩ := h.vr.box
    obtain ⟨b0, l0, k1, k2, k3, k4, k5, k6⟩ := h.tb
    have := k6 tg (k5 _ (.inl rfl))
    omega
  refine ⟨Sv', d', ⟨⟨hvl, hl, hok, by omega, by rw [hnw]; exact h.vr.names⟩, h.tb.kept hk (fun b hb e => h.vt b e hb), fun b hb e => ?_, h.ot, fun b hb e => ?_, fun b hb => ?_, fun b hb => ⟨(h.ow b hb).1, Nat.lt_of_lt_of_le (h.ow b hb).2 hk.size⟩, ?_, ?_, by omega, by show n.l.length + r ≤ 4096; omega⟩, hk, hs⟩
  · rcases hs b e with h5 | h5
    · exact h.ov b hb h5
    · have := (h.ow b hb).2; omega
  · rcases hs b hb with h5 | h5
    · exact h.vt b h5 e
    · have := (h.at (.inr (.inr e))).2; omega
  · rcases hs b hb with h5 | h5
    · exact h.lo b h5
    · omega
  · have := hg.size
    rw [hc]
    show d'.used + 400 * r ≤ d.cap
    omega
  · have := hg.few
    show v'.ns.length + r < 4096
    omega
end

end Go.Proofs.YtllbngopfganjaaGreatDoor.Nd
end
