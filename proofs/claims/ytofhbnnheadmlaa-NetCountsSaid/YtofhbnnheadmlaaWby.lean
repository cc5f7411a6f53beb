/- Package wire by contracts: Bytes of a message that may be. -/
import Derived.Test.YtofhbnnheadmlaaWs
set_option linter.unusedVariables false
set_option linter.unusedSimpArgs false
namespace Go.Proofs.Ytofhbnnheadmlaa
open Go.RowKit Go.Cor

/-- The first four bytes, and how far they are laid. -/
def wnum (a b d e : Nat) : Nat → Nat
  | 0 => a
  | 1 => b
  | 2 => d
  | _ => e
def wpre (a b d e : Nat) : Nat → List UInt8
  | 0 => []
  | k + 1 => wpre a b d e k ++ le (wnum a b d e k) 1
theorem length_wpre (a b d e k : Nat) : (wpre a b d e k).length = k := by
  induction k with
  | zero => rfl
  | succ k ih => simp only [wpre, List.length_append, ih, length_le]
theorem wpre_4 (a b d e : Nat) : wpre a b d e 4 = [UInt8.ofNat a, UInt8.ofNat b, UInt8.ofNat d, UInt8.ofNat e] := rfl
theorem Try.index4 (x0 x1 x2 x3 : Int) :
    (∀ W, (Instr.index 86 (.agg #[.int .i64 x0, .int .i64 x1, .int .i64 x2, .int .i64 x3]) (.int .i64 0)).run Try.prog W = .ok (.int .i64 x0) W) ∧
    (∀ W, (Instr.index 86 (.agg #[.int .i64 x0, .int .i64 x1, .int .i64 x2, .int .i64 x3]) (.int .i64 1)).run Try.prog W = .ok (.int .i64 x1) W) ∧
    (∀ W, (Instr.index 86 (.agg #[.int .i64 x0, .int .i64 x1, .int .i64 x2, .int .i64 x3]) (.int .i64 2)).run Try.prog W = .ok (.int .i64 x2) W) ∧
    (∀ W, (Instr.index 86 (.agg #[.int .i64 x0, .int .i64 x1, .int .i64 x2, .int .i64 x3]) (.int .i64 3)).run Try.prog W = .ok (.int .i64 x3) W) := by
  refine ⟨fun W => ?_, fun W => ?_, fun W => ?_, fun W => ?_⟩ <;> kernel_rfl

set_option maxRecDepth 100000 in
set_option maxHeartbeats 4000000 in
theorem wbytes_ok (m : Msg) (x : Option Addr) (L c : Nat) (w : World) (hv : IsB w (.slice x L c) m.n.data) (hc : mcheck m = 0) (hf : m.n.fits) (hid : m.id < 18446744073709551616) :
    Calls Try.prog 25 #[mval m (.slice x L c)] w fun e w' => ∃ y k, e = .returned (.tuple #[.slice y (mbytes m).length k, .nilIface]) ∧ w'.ownsRow w.heap.size 5 1 (.slice y (mbytes m).length k) (mbytes m).length (bvs (mbytes m)) ∧ Below w.heap.size w w' := by
  obtain ⟨i0, hi, hz0, hz1, hz2⟩ := info_parts Try.infoU8
  obtain ⟨hg, hn1, hn2⟩ := mcheck_ok hc
  obtain ⟨fr, tt, kd, vo, li, id, co, has, ⟨key, ck, gn, data⟩⟩ := m
  obtain ⟨g1, g2, g3, g4, g5, g6, g7, g8, g9, g10, g11, g12, g13⟩ := hg
  dsimp only at g1 g2 g3 g4 g5 g6 g7 g8 g10 g11 g12 g13 hid hv hf hn1 hn2
  clear g9
  obtain ⟨fr, rfl⟩ := Int.eq_ofNat_of_zero_le g1
  obtain ⟨tt, rfl⟩ := Int.eq_ofNat_of_zero_le g3
  obtain ⟨co, rfl⟩ := Int.eq_ofNat_of_zero_le g5
  obtain ⟨kd, rfl⟩ := Int.eq_ofNat_of_zero_le (show 0 ≤ kd by omega)
  obtain ⟨vo, rfl⟩ := Int.eq_ofNat_of_zero_le (show 0 ≤ vo by omega)
  obtain ⟨li, rfl⟩ := Int.eq_ofNat_of_zero_le g12
  have b0 : fr ≤ 255 := by omega
  have b1 : tt ≤ 255 := by omega
  have b2 : kd ≤ 255 := by omega
  have b3 : co ≤ 255 := by omega
  have b4 : vo ≤ 65535 := by omega
  have b5 : li ≤ 2147483647 := by omega
  have e0 : IntKind.u64.wrap (fr : Int) = (fr : Int) := IntWalk.u64_in _ (by omega)
  have e1 : IntKind.u64.wrap (tt : Int) = (tt : Int) := IntWalk.u64_in _ (by omega)
  have e2 : IntKind.u64.wrap (kd : Int) = (kd : Int) := IntWalk.u64_in _ (by omega)
  have e3 : IntKind.u64.wrap (co : Int) = (co : Int) := IntWalk.u64_in _ (by omega)
  have e4 : IntKind.u64.wrap (vo : Int) = (vo : Int) := IntWalk.u64_in _ (by omega)
  have e5 : IntKind.u64.wrap (li : Int) = (li : Int) := IntWalk.u64_in _ (by omega)
  have HCK := Lib.hid hc
  have HV := Lib.hid hv
  have HF := Lib.hid hf
  clear g1 g2 g3 g4 g5 g6 g7 g8 g10 g11 g12 g13 hc hv hf hn2
  cases has with
  | true =>
    have HN1 := Lib.hid (hn1 rfl)
    clear hn1
    have HMB := Lib.hid (show mbody ⟨(fr : Int), (tt : Int), (kd : Int), (vo : Int), (li : Int), id, (co : Int), true, ⟨key, ck, gn, data⟩⟩ = wpre fr tt kd co 4 ++ le vo 4 ++ le li 4 ++ le id 8 ++ le 1 4 ++ (nbytes ⟨key, ck, gn, data⟩) by
      unfold mbody mhead
      rw [wpre_4]
      simp [flagN])
    have HBX := Lib.hid ((Below.refl w.heap.size w).alloc (Nat.le_refl _) (.cells #[.int .i64 (fr : Int), .int .i64 (tt : Int), .int .i64 (kd : Int), .int .i64 (vo : Int), .int .i64 (li : Int), .int .u64 (id : Int), .int .i64 (co : Int), .bool true, .int .u64 (key : Int), .int .u32 (ck : Int), .bool gn, .slice x L c] 43))
    have HX := Lib.hid (Blk.new w #[.int .i64 (fr : Int), .int .i64 (tt : Int), .int .i64 (kd : Int), .int .i64 (vo : Int), .int .i64 (li : Int), .int .u64 (id : Int), .int .i64 (co : Int), .bool true, .int .u64 (key : Int), .int .u32 (ck : Int), .bool gn, .slice x L c] 43)
    have HC := Lib.hid (wcheck_any ⟨(fr : Int), (tt : Int), (kd : Int), (vo : Int), (li : Int), id, (co : Int), true, ⟨key, ck, gn, data⟩⟩ (.slice x L c) (w.alloc (.cells #[.int .i64 (fr : Int), .int .i64 (tt : Int), .int .i64 (kd : Int), .int .i64 (vo : Int), .int .i64 (li : Int), .int .u64 (id : Int), .int .i64 (co : Int), .bool true, .int .u64 (key : Int), .int .u32 (ck : Int), .bool gn, .slice x L c] 43)) (HV.out.mono HBX.out (Nat.le_refl _)))
    rw [HCK.out] at HC
    have HPN := Lib.hid (fun W (hI : IsB W (.slice x L c) data) => put_okN ⟨key, ck, gn, data⟩ (.slice x L c) W hI HF.out HN1.out)
    have HNL := Lib.hid (show (nbytes ⟨key, ck, gn, data⟩).length ≤ 5000 by
      rw [length_nbytes]
      have := (ncheck_ok HN1.out).1
      unfold padn
      dsimp only at this ⊢
      omega)
    obtain ⟨BL, hBL⟩ : ∃ B, (nbytes ⟨key, ck, gn, data⟩).length = B := ⟨_, rfl⟩
    rw [hBL] at HPN HNL
    have hb5 := HNL.out
    obtain ⟨S, hS⟩ : ∃ S, 24 + BL = S := ⟨_, rfl⟩
    have hS5 : S ≤ 5024 := by omega
    have eS : IntKind.i64.wrap (24 + (BL : Int)) = (S : Int) := by rw [IntWalk.i64_in _ (by omega)]; omega
    obtain ⟨NB, hNB⟩ : ∃ N, nbytes ⟨key, ck, gn, data⟩ = N := ⟨_, rfl⟩
    rw [hNB] at HPN HMB hBL
    have HBL := Lib.hid hBL
    clear hBL hS hNB
    have hmk : ∀ wx : World, (Instr.makeSlice 26 (.int .i64 0) (.int .i64 (S : Int))).run Try.prog wx = .ok (.slice (some ⟨wx.heap.size, 0, none⟩) 0 S) (wx.alloc (.cells (madeCells #[.int .u8 0] S) 5)) := fun wx => by
      have := run_make (P := Try.prog) wx 26 5 i0 (.int .u8 0) Try.underlying26 hi hz0 .i64 .i64 0 (S : Int) (by omega) (by omega) (by rw [hz2]; omega) (by omega)
      rw [this, hz1]
      simp [Value.cells]
    obtain ⟨x0, x1, x2, x3⟩ := Try.index4 (fr : Int) (tt : Int) (kd : Int) (co : Int)
    go_enter Try.func25, Try.ntmps25
    go_wp2_with fail
    refine HC.out.mono ?_
    rintro e w1 ⟨rfl, hb1⟩
    rw [cerr_0]
    have hX1 := HX.out.below hb1 HX.out.lt
    have HX1 := Lib.hid hX1
    have HB1 := Lib.hid (HBX.out.trans (hb1.mono HBX.out.size))
    have hs1 : w.heap.size + 1 ≤ w1.heap.size := hX1.lt
    have p0 := hX1.cell 0 rfl
    have p1 := hX1.cell 1 rfl
    have p2 := hX1.cell 2 rfl
    have p3 := hX1.cell 3 rfl
    have p4 := hX1.cell 4 rfl
    have p5 := hX1.cell 5 rfl
    have p6 := hX1.cell 6 rfl
    have p7 := hX1.cell 7 rfl
    have p8 := hX1.cell 8 rfl
    have p9 := hX1.cell 9 rfl
    have p10 := hX1.cell 10 rfl
    have p11 := hX1.cell 11 rfl
    clear hb1 hX1
    go_wp2_with fail
    refine (HPN.out _ (HV.out.mono HB1.out (Nat.le_refl _))).mono ?_
    rintro e w2 ⟨v2, rfl, hown2, hb2⟩
    have hI2 := IsB.own hown2 HBL.out.symm
    obtain ⟨xb, cb, rfl, _, _⟩ := hI2.at_len HBL.out
    have HI2 := Lib.hid hI2
    have hX2 := HX1.out.below hb2 HX1.out.lt
    have HX2 := Lib.hid hX2
    have HB2 := Lib.hid (HB1.out.trans (hb2.mono HB1.out.size))
    have hs2 : w.heap.size + 1 ≤ w2.heap.size := hX2.lt
    clear p0 p1 p2 p3 p4 p5 p6 p7 p8 p9 p10 p11 hown2 hb2 hI2
    have p0 := hX2.cell 0 rfl
    have p1 := hX2.cell 1 rfl
    have p2 := hX2.cell 2 rfl
    have p3 := hX2.cell 3 rfl
    have p4 := hX2.cell 4 rfl
    have p5 := hX2.cell 5 rfl
    have p6 := hX2.cell 6 rfl
    have p7 := hX2.cell 7 rfl
    have p8 := hX2.cell 8 rfl
    have p9 := hX2.cell 9 rfl
    have p10 := hX2.cell 10 rfl
    have p11 := hX2.cell 11 rfl
    clear hX2
    go_upto_region 10 with fail
    have hbk : Below w2.heap.size w2 (w2.alloc (.cells (madeCells #[.int .u8 0] S) 5)) := (Below.refl _ _).alloc (Nat.le_refl _) _
    have HO3 := Lib.hid (World.ownsRow_made (base := w2.heap.size) (e := 5) (size := 1) w2 (madeCells #[.int .u8 0] S) S (Nat.le_refl _) (by unfold maxLen; omega) (by simp [size_madeCells]))
    have HB3 := Lib.hid hbk
    clear p0 p1 p2 p3 p4 p5 p6 p7 p8 p9 p10 p11 hbk hmk
    obtain ⟨w3, hw3⟩ : ∃ w3, w2.alloc (.cells (madeCells #[.int .u8 0] S) 5) = w3 := ⟨_, rfl⟩
    rw [hw3] at HO3 HB3
    try rw [hw3]
    clear hw3
    have hX3 := HX2.out.below HB3.out HX2.out.lt
    have p0 := hX3.cell 0 rfl
    have p1 := hX3.cell 1 rfl
    have p2 := hX3.cell 2 rfl
    have p3 := hX3.cell 3 rfl
    have p4 := hX3.cell 4 rfl
    have p5 := hX3.cell 5 rfl
    have p6 := hX3.cell 6 rfl
    have p7 := hX3.cell 7 rfl
    have p8 := hX3.cell 8 rfl
    have p9 := hX3.cell 9 rfl
    have p10 := hX3.cell 10 rfl
    have p11 := hX3.cell 11 rfl
    go_wp2_with fail
    clear p0 p1 p2 p3 p4 p5 p6 p7 p8 p9 p10 p11 hX3
    go_loopw [7, 36] (fun o k wr => ∃ i : Nat, i ≤ 4 ∧ k = .int .i64 i ∧ Hid (wr.ownsRow w2.heap.size 5 1 o i (bvs (wpre fr tt kd co i))) ∧ Hid (Below w2.heap.size w2 wr)) (fun _ k _ => 4 - (intOf k).toNat)
    case atStart => exact ⟨0, by omega, rfl, HO3, HB3⟩
    case round =>
      clear HO3 HB3
      obtain ⟨i, hi5, rfl, HO3, HB3⟩ := hrel
      by_cases hlt : i < 4
      · rcases (show i = 0 ∨ i = 1 ∨ i = 2 ∨ i = 3 from by omega) with rfl | rfl | rfl | rfl
        · go_wp2_with fail
          refine (wnum_any fr 1 _ (.inl rfl) (Nat.le_trans (show fr ≤ 255 from by omega) (by decide))).mono ?_
          rintro e w4 ⟨v4, rfl, hown4, hb4⟩
          have HB4 := Lib.hid (HB3.out.trans (hb4.mono HB3.out.size))
          have hs4 : w2.heap.size ≤ w4.heap.size := HB4.out.size
          have HO4 := Lib.hid (ownsRow_below HO3.out hb4 (Nat.le_refl _))
          have HN4 := Lib.hid (IsB.own hown4 (length_le _ _).symm)
          clear hown4 hb4 HO3 HB3
          go_wp2_with (at_builtin; refine wpList_append_B (by rfl) _ _ 26 rfl w2.heap.size 5 i0 Try.underlying26 hi hz0 hz1 hz2 _ (wpre fr tt kd co 0) _ rfl HO4.out (length_wpre _ _ _ _ _).symm _ (le fr 1) rfl HN4.out (by rw [length_wpre, length_le]; omega) hs4 ?_)
          intro v5 w5 hown5 hb5
          have HB5 := Lib.hid (HB4.out.trans hb5)
          have HO5 := Lib.hid (show w5.ownsRow w2.heap.size 5 1 v5 (0 + 1) (bvs (wpre fr tt kd co (0 + 1))) from by
            have e : (wpre fr tt kd co 0).length + (le fr 1).length = 0 + 1 := by rw [length_wpre, length_le]
            rw [e] at hown5
            exact hown5)
          clear hown5 hb5 HO4 HB4 hs4
          go_wp2
          go_roundw
          case rel => exact ⟨0 + 1, by omega, by go_num, HO5, HB5⟩
          case measure => simp [intOf]
        · go_wp2_with fail
          refine (wnum_any tt 1 _ (.inl rfl) (Nat.le_trans (show tt ≤ 255 from by omega) (by decide))).mono ?_
          rintro e w4 ⟨v4, rfl, hown4, hb4⟩
          have HB4 := Lib.hid (HB3.out.trans (hb4.mono HB3.out.size))
          have hs4 : w2.heap.size ≤ w4.heap.size := HB4.out.size
          have HO4 := Lib.hid (ownsRow_below HO3.out hb4 (Nat.le_refl _))
          have HN4 := Lib.hid (IsB.own hown4 (length_le _ _).symm)
          clear hown4 hb4 HO3 HB3
          go_wp2_with (at_builtin; refine wpList_append_B (by rfl) _ _ 26 rfl w2.heap.size 5 i0 Try.underlying26 hi hz0 hz1 hz2 _ (wpre fr tt kd co 1) _ rfl HO4.out (length_wpre _ _ _ _ _).symm _ (le tt 1) rfl HN4.out (by rw [length_wpre, length_le]; omega) hs4 ?_)
          intro v5 w5 hown5 hb5
          have HB5 := Lib.hid (HB4.out.trans hb5)
          have HO5 := Lib.hid (show w5.ownsRow w2.heap.size 5 1 v5 (1 + 1) (bvs (wpre fr tt kd co (1 + 1))) from by
            have e : (wpre fr tt kd co 1).length + (le tt 1).length = 1 + 1 := by rw [length_wpre, length_le]
            rw [e] at hown5
            exact hown5)
          clear hown5 hb5 HO4 HB4 hs4
          go_wp2
          go_roundw
          case rel => exact ⟨1 + 1, by omega, by go_num, HO5, HB5⟩
          case measure => simp [intOf]
        · go_wp2_with fail
          refine (wnum_any kd 1 _ (.inl rfl) (Nat.le_trans (show kd ≤ 255 from by omega) (by decide))).mono ?_
          rintro e w4 ⟨v4, rfl, hown4, hb4⟩
          have HB4 := Lib.hid (HB3.out.trans (hb4.mono HB3.out.size))
          have hs4 : w2.heap.size ≤ w4.heap.size := HB4.out.size
          have HO4 := Lib.hid (ownsRow_below HO3.out hb4 (Nat.le_refl _))
          have HN4 := Lib.hid (IsB.own hown4 (length_le _ _).symm)
          clear hown4 hb4 HO3 HB3
          go_wp2_with (at_builtin; refine wpList_append_B (by rfl) _ _ 26 rfl w2.heap.size 5 i0 Try.underlying26 hi hz0 hz1 hz2 _ (wpre fr tt kd co 2) _ rfl HO4.out (length_wpre _ _ _ _ _).symm _ (le kd 1) rfl HN4.out (by rw [length_wpre, length_le]; omega) hs4 ?_)
          intro v5 w5 hown5 hb5
          have HB5 := Lib.hid (HB4.out.trans hb5)
          have HO5 := Lib.hid (show w5.ownsRow w2.heap.size 5 1 v5 (2 + 1) (bvs (wpre fr tt kd co (2 + 1))) from by
            have e : (wpre fr tt kd co 2).length + (le kd 1).length = 2 + 1 := by rw [length_wpre, length_le]
            rw [e] at hown5
            exact hown5)
          clear hown5 hb5 HO4 HB4 hs4
          go_wp2
          go_roundw
          case rel => exact ⟨2 + 1, by omega, by go_num, HO5, HB5⟩
          case measure => simp [intOf]
        · go_wp2_with fail
          refine (wnum_any co 1 _ (.inl rfl) (Nat.le_trans (show co ≤ 255 from by omega) (by decide))).mono ?_
          rintro e w4 ⟨v4, rfl, hown4, hb4⟩
          have HB4 := Lib.hid (HB3.out.trans (hb4.mono HB3.out.size))
          have hs4 : w2.heap.size ≤ w4.heap.size := HB4.out.size
          have HO4 := Lib.hid (ownsRow_below HO3.out hb4 (Nat.le_refl _))
          have HN4 := Lib.hid (IsB.own hown4 (length_le _ _).symm)
          clear hown4 hb4 HO3 HB3
          go_wp2_with (at_builtin; refine wpList_append_B (by rfl) _ _ 26 rfl w2.heap.size 5 i0 Try.underlying26 hi hz0 hz1 hz2 _ (wpre fr tt kd co 3) _ rfl HO4.out (length_wpre _ _ _ _ _).symm _ (le co 1) rfl HN4.out (by rw [length_wpre, length_le]; omega) hs4 ?_)
          intro v5 w5 hown5 hb5
          have HB5 := Lib.hid (HB4.out.trans hb5)
          have HO5 := Lib.hid (show w5.ownsRow w2.heap.size 5 1 v5 (3 + 1) (bvs (wpre fr tt kd co (3 + 1))) from by
            have e : (wpre fr tt kd co 3).length + (le co 1).length = 3 + 1 := by rw [length_wpre, length_le]
            rw [e] at hown5
            exact hown5)
          clear hown5 hb5 HO4 HB4 hs4
          go_wp2
          go_roundw
          case rel => exact ⟨3 + 1, by omega, by go_num, HO5, HB5⟩
          case measure => simp [intOf]
      · obtain rfl : i = 4 := by omega
        obtain ⟨wz, rfl⟩ : ∃ wz, wz = wr := ⟨_, rfl⟩
        obtain ⟨X0, hX0⟩ : ∃ X, wpre fr tt kd co 4 = X := ⟨_, rfl⟩
        have hL0 : X0.length = 4 := by rw [← hX0, length_wpre]
        rw [hX0] at HO3 HMB
        have HO0 := HO3
        have HL0 := Lib.hid hL0
        have HB0 := HB3
        clear hX0 hL0 HO3 HB3
        have hX1 := HX2.out.below HB0.out HX2.out.lt
        have p0 := hX1.cell 0 rfl
        have p1 := hX1.cell 1 rfl
        have p2 := hX1.cell 2 rfl
        have p3 := hX1.cell 3 rfl
        have p4 := hX1.cell 4 rfl
        have p5 := hX1.cell 5 rfl
        have p6 := hX1.cell 6 rfl
        have p7 := hX1.cell 7 rfl
        have p8 := hX1.cell 8 rfl
        have p9 := hX1.cell 9 rfl
        have p10 := hX1.cell 10 rfl
        have p11 := hX1.cell 11 rfl
        go_wp2_with fail
        refine (wnum_any vo 4 _ (.inr (.inr (.inl rfl))) (Nat.le_trans (show vo ≤ 65535 from by omega) (by decide))).mono ?_
        rintro e wa1 ⟨va1, rfl, hown4, hb4⟩
        have HBa1 := Lib.hid (HB0.out.trans (hb4.mono HB0.out.size))
        have hsa1 : w2.heap.size ≤ wa1.heap.size := HBa1.out.size
        have HOa1 := Lib.hid (ownsRow_below HO0.out hb4 (Nat.le_refl _))
        have HNa1 := Lib.hid (IsB.own hown4 (length_le _ _).symm)
        clear hown4 hb4 HO0 HB0 p0 p1 p2 p3 p4 p5 p6 p7 p8 p9 p10 p11 hX1
        go_wp2_with (at_builtin; refine wpList_append_B (by rfl) _ _ 26 rfl w2.heap.size 5 i0 Try.underlying26 hi hz0 hz1 hz2 _ X0 _ rfl HOa1.out HL0.out.symm _ (le vo 4) rfl HNa1.out (by rw [HL0.out, length_le]; decide) hsa1 ?_)
        intro v1 wb1 hown5 hb5
        have HB1 := Lib.hid (HBa1.out.trans hb5)
        obtain ⟨X1, hXX⟩ : ∃ X, X0 ++ le vo 4 = X := ⟨_, rfl⟩
        have hLk : X1.length = 8 := by rw [← hXX, List.length_append, HL0.out, length_le]
        have HO1 := Lib.hid (show wb1.ownsRow w2.heap.size 5 1 v1 8 (bvs X1) from by
          rw [← hLk, ← hXX, List.length_append]
          first | exact hown5 | simpa using hown5)
        rw [hXX] at HMB
        have HL1 := Lib.hid hLk
        clear hown5 hb5 hXX hLk HOa1 HBa1 hsa1 HNa1 HL0
        have hX2 := HX2.out.below HB1.out HX2.out.lt
        have p0 := hX2.cell 0 rfl
        have p1 := hX2.cell 1 rfl
        have p2 := hX2.cell 2 rfl
        have p3 := hX2.cell 3 rfl
        have p4 := hX2.cell 4 rfl
        have p5 := hX2.cell 5 rfl
        have p6 := hX2.cell 6 rfl
        have p7 := hX2.cell 7 rfl
        have p8 := hX2.cell 8 rfl
        have p9 := hX2.cell 9 rfl
        have p10 := hX2.cell 10 rfl
        have p11 := hX2.cell 11 rfl
        go_wp2_with fail
        refine (wnum_any li 4 _ (.inr (.inr (.inl rfl))) (Nat.le_trans (show li ≤ 2147483647 from by omega) (by decide))).mono ?_
        rintro e wa2 ⟨va2, rfl, hown4, hb4⟩
        have HBa2 := Lib.hid (HB1.out.trans (hb4.mono HB1.out.size))
        have hsa2 : w2.heap.size ≤ wa2.heap.size := HBa2.out.size
        have HOa2 := Lib.hid (ownsRow_below HO1.out hb4 (Nat.le_refl _))
        have HNa2 := Lib.hid (IsB.own hown4 (length_le _ _).symm)
        clear hown4 hb4 HO1 HB1 p0 p1 p2 p3 p4 p5 p6 p7 p8 p9 p10 p11 hX2
        go_wp2_with (at_builtin; refine wpList_append_B (by rfl) _ _ 26 rfl w2.heap.size 5 i0 Try.underlying26 hi hz0 hz1 hz2 _ X1 _ rfl HOa2.out HL1.out.symm _ (le li 4) rfl HNa2.out (by rw [HL1.out, length_le]; decide) hsa2 ?_)
        intro v2 wb2 hown5 hb5
        have HB2 := Lib.hid (HBa2.out.trans hb5)
        obtain ⟨X2, hXX⟩ : ∃ X, X1 ++ le li 4 = X := ⟨_, rfl⟩
        have hLk : X2.length = 12 := by rw [← hXX, List.length_append, HL1.out, length_le]
        have HO2 := Lib.hid (show wb2.ownsRow w2.heap.size 5 1 v2 12 (bvs X2) from by
          rw [← hLk, ← hXX, List.length_append]
          first | exact hown5 | simpa using hown5)
        rw [hXX] at HMB
        have HL2 := Lib.hid hLk
        clear hown5 hb5 hXX hLk HOa2 HBa2 hsa2 HNa2 HL1
        have hX3 := HX2.out.below HB2.out HX2.out.lt
        have p0 := hX3.cell 0 rfl
        have p1 := hX3.cell 1 rfl
        have p2 := hX3.cell 2 rfl
        have p3 := hX3.cell 3 rfl
        have p4 := hX3.cell 4 rfl
        have p5 := hX3.cell 5 rfl
        have p6 := hX3.cell 6 rfl
        have p7 := hX3.cell 7 rfl
        have p8 := hX3.cell 8 rfl
        have p9 := hX3.cell 9 rfl
        have p10 := hX3.cell 10 rfl
        have p11 := hX3.cell 11 rfl
        go_wp2_with fail
        refine (wnum_any id 8 _ (.inr (.inr (.inr rfl))) (show id ≤ 18446744073709551615 from by omega)).mono ?_
        rintro e wa3 ⟨va3, rfl, hown4, hb4⟩
        have HBa3 := Lib.hid (HB2.out.trans (hb4.mono HB2.out.size))
        have hsa3 : w2.heap.size ≤ wa3.heap.size := HBa3.out.size
        have HOa3 := Lib.hid (ownsRow_below HO2.out hb4 (Nat.le_refl _))
        have HNa3 := Lib.hid (IsB.own hown4 (length_le _ _).symm)
        clear hown4 hb4 HO2 HB2 p0 p1 p2 p3 p4 p5 p6 p7 p8 p9 p10 p11 hX3
        go_wp2_with (at_builtin; refine wpList_append_B (by rfl) _ _ 26 rfl w2.heap.size 5 i0 Try.underlying26 hi hz0 hz1 hz2 _ X2 _ rfl HOa3.out HL2.out.symm _ (le id 8) rfl HNa3.out (by rw [HL2.out, length_le]; decide) hsa3 ?_)
        intro v3 wb3 hown5 hb5
        have HB3 := Lib.hid (HBa3.out.trans hb5)
        obtain ⟨X3, hXX⟩ : ∃ X, X2 ++ le id 8 = X := ⟨_, rfl⟩
        have hLk : X3.length = 20 := by rw [← hXX, List.length_append, HL2.out, length_le]
        have HO3 := Lib.hid (show wb3.ownsRow w2.heap.size 5 1 v3 20 (bvs X3) from by
          rw [← hLk, ← hXX, List.length_append]
          first | exact hown5 | simpa using hown5)
        rw [hXX] at HMB
        have HL3 := Lib.hid hLk
        clear hown5 hb5 hXX hLk HOa3 HBa3 hsa3 HNa3 HL2
        have hX4 := HX2.out.below HB3.out HX2.out.lt
        have p0 := hX4.cell 0 rfl
        have p1 := hX4.cell 1 rfl
        have p2 := hX4.cell 2 rfl
        have p3 := hX4.cell 3 rfl
        have p4 := hX4.cell 4 rfl
        have p5 := hX4.cell 5 rfl
        have p6 := hX4.cell 6 rfl
        have p7 := hX4.cell 7 rfl
        have p8 := hX4.cell 8 rfl
        have p9 := hX4.cell 9 rfl
        have p10 := hX4.cell 10 rfl
        have p11 := hX4.cell 11 rfl
        go_wp2_with fail
        refine (wnum_any 1 4 _ (.inr (.inr (.inl rfl))) (by decide)).mono ?_
        rintro e wa4 ⟨va4, rfl, hown4, hb4⟩
        have HBa4 := Lib.hid (HB3.out.trans (hb4.mono HB3.out.size))
        have hsa4 : w2.heap.size ≤ wa4.heap.size := HBa4.out.size
        have HOa4 := Lib.hid (ownsRow_below HO3.out hb4 (Nat.le_refl _))
        have HNa4 := Lib.hid (IsB.own hown4 (length_le _ _).symm)
        clear hown4 hb4 HO3 HB3 p0 p1 p2 p3 p4 p5 p6 p7 p8 p9 p10 p11 hX4
        go_wp2_with (at_builtin; refine wpList_append_B (by rfl) _ _ 26 rfl w2.heap.size 5 i0 Try.underlying26 hi hz0 hz1 hz2 _ X3 _ rfl HOa4.out HL3.out.symm _ (le 1 4) rfl HNa4.out (by rw [HL3.out, length_le]; decide) hsa4 ?_)
        intro v4 wb4 hown5 hb5
        have HB4 := Lib.hid (HBa4.out.trans hb5)
        obtain ⟨X4, hXX⟩ : ∃ X, X3 ++ le 1 4 = X := ⟨_, rfl⟩
        have hLk : X4.length = 24 := by rw [← hXX, List.length_append, HL3.out, length_le]
        have HO4 := Lib.hid (show wb4.ownsRow w2.heap.size 5 1 v4 24 (bvs X4) from by
          rw [← hLk, ← hXX, List.length_append]
          first | exact hown5 | simpa using hown5)
        rw [hXX] at HMB
        have HL4 := Lib.hid hLk
        clear hown5 hb5 hXX hLk HOa4 HBa4 hsa4 HNa4 HL3
        have HI4 := Lib.hid (HI2.out.mono HB4.out (Nat.le_refl _))
        have hs4 : w2.heap.size ≤ wb4.heap.size := HB4.out.size
        go_wp2_with (at_builtin; refine wpList_append_B (by rfl) _ _ 26 rfl w2.heap.size 5 i0 Try.underlying26 hi hz0 hz1 hz2 _ X4 _ rfl HO4.out HL4.out.symm _ NB rfl HI4.out (by rw [HL4.out, HBL.out]; omega) hs4 ?_)
        intro v5 w5 hown5 hb5
        have HB5 := Lib.hid (HB4.out.trans hb5)
        obtain ⟨X5, hX5⟩ : ∃ X, X4 ++ NB = X := ⟨_, rfl⟩
        rw [hX5] at HMB
        have HI5 := Lib.hid (show IsB w5 v5 X5 from IsB.own (show w5.ownsRow w2.heap.size 5 1 v5 X5.length (bvs X5) from by
          rw [← hX5, List.length_append]
          first | exact hown5 | simpa using hown5) rfl)
        have HL5 := Lib.hid (show X5.length ≤ 1099511627776 from by rw [← hX5, List.length_append]; rw [HL4.out, HBL.out]; omega)
        clear hown5 hb5 hX5 HO4 HB4 hs4 HI4 HL4
        go_wp2_with fail
        refine (seal_any _ X5 _ HI5.out HL5.out).mono ?_
        rintro e w6 ⟨g, cp, rfl, hown6, _, _, hb6⟩
        have HB6 := Lib.hid (HB2.out.trans ((HB5.out.trans (hb6.mono HB5.out.size)).mono HB2.out.size))
        have hbs : mbytes ⟨(fr : Int), (tt : Int), (kd : Int), (vo : Int), (li : Int), id, (co : Int), true, ⟨key, ck, gn, data⟩⟩ = sealed X5 := by
          unfold mbytes sealed
          rw [HMB.out]
        have HF := Lib.hid (show w6.ownsRow w.heap.size 5 1 (.slice (some ⟨g, 0, none⟩) (mbytes ⟨(fr : Int), (tt : Int), (kd : Int), (vo : Int), (li : Int), id, (co : Int), true, ⟨key, ck, gn, data⟩⟩).length cp) (mbytes ⟨(fr : Int), (tt : Int), (kd : Int), (vo : Int), (li : Int), id, (co : Int), true, ⟨key, ck, gn, data⟩⟩).length (bvs (mbytes ⟨(fr : Int), (tt : Int), (kd : Int), (vo : Int), (li : Int), id, (co : Int), true, ⟨key, ck, gn, data⟩⟩)) from by
          rw [hbs, length_sealed]
          exact ownsRow_base hown6 (Nat.le_trans HB2.out.size HB5.out.size))
        have HLL := Lib.hid (show X5.length + 4 = (mbytes ⟨(fr : Int), (tt : Int), (kd : Int), (vo : Int), (li : Int), id, (co : Int), true, ⟨key, ck, gn, data⟩⟩).length from by rw [hbs, length_sealed])
        clear hown6 hb6 hbs
        go_wp2
        go_ret2
        exact ⟨some ⟨g, 0, none⟩, cp, by rw [HLL.out]; rfl, HF.out, HB6.out⟩
  | false =>
    clear hn1
    have HMB := Lib.hid (show mbody ⟨(fr : Int), (tt : Int), (kd : Int), (vo : Int), (li : Int), id, (co : Int), false, ⟨key, ck, gn, data⟩⟩ = wpre fr tt kd co 4 ++ le vo 4 ++ le li 4 ++ le id 8 ++ le 0 4 ++ ([] : List UInt8) by
      unfold mbody mhead
      rw [wpre_4]
      simp [flagN])
    have HBX := Lib.hid ((Below.refl w.heap.size w).alloc (Nat.le_refl _) (.cells #[.int .i64 (fr : Int), .int .i64 (tt : Int), .int .i64 (kd : Int), .int .i64 (vo : Int), .int .i64 (li : Int), .int .u64 (id : Int), .int .i64 (co : Int), .bool false, .int .u64 (key : Int), .int .u32 (ck : Int), .bool gn, .slice x L c] 43))
    have HX := Lib.hid (Blk.new w #[.int .i64 (fr : Int), .int .i64 (tt : Int), .int .i64 (kd : Int), .int .i64 (vo : Int), .int .i64 (li : Int), .int .u64 (id : Int), .int .i64 (co : Int), .bool false, .int .u64 (key : Int), .int .u32 (ck : Int), .bool gn, .slice x L c] 43)
    have HC := Lib.hid (wcheck_any ⟨(fr : Int), (tt : Int), (kd : Int), (vo : Int), (li : Int), id, (co : Int), false, ⟨key, ck, gn, data⟩⟩ (.slice x L c) (w.alloc (.cells #[.int .i64 (fr : Int), .int .i64 (tt : Int), .int .i64 (kd : Int), .int .i64 (vo : Int), .int .i64 (li : Int), .int .u64 (id : Int), .int .i64 (co : Int), .bool false, .int .u64 (key : Int), .int .u32 (ck : Int), .bool gn, .slice x L c] 43)) (HV.out.mono HBX.out (Nat.le_refl _)))
    rw [HCK.out] at HC
    have hmk : ∀ wx : World, (Instr.makeSlice 26 (.int .i64 0) (.int .i64 24)).run Try.prog wx = .ok (.slice (some ⟨wx.heap.size, 0, none⟩) 0 24) (wx.alloc (.cells (madeCells #[.int .u8 0] 24) 5)) := fun wx => by
      have := run_make (P := Try.prog) wx 26 5 i0 (.int .u8 0) Try.underlying26 hi hz0 .i64 .i64 0 24 (by omega) (by omega) (by rw [hz2]; omega) (by omega)
      rw [this, hz1]
      simp [Value.cells]
    obtain ⟨x0, x1, x2, x3⟩ := Try.index4 (fr : Int) (tt : Int) (kd : Int) (co : Int)
    go_enter Try.func25, Try.ntmps25
    go_wp2_with fail
    refine HC.out.mono ?_
    rintro e w1 ⟨rfl, hb1⟩
    rw [cerr_0]
    have hX1 := HX.out.below hb1 HX.out.lt
    have HX1 := Lib.hid hX1
    have HB1 := Lib.hid (HBX.out.trans (hb1.mono HBX.out.size))
    have hs1 : w.heap.size + 1 ≤ w1.heap.size := hX1.lt
    have p0 := hX1.cell 0 rfl
    have p1 := hX1.cell 1 rfl
    have p2 := hX1.cell 2 rfl
    have p3 := hX1.cell 3 rfl
    have p4 := hX1.cell 4 rfl
    have p5 := hX1.cell 5 rfl
    have p6 := hX1.cell 6 rfl
    have p7 := hX1.cell 7 rfl
    have p8 := hX1.cell 8 rfl
    have p9 := hX1.cell 9 rfl
    have p10 := hX1.cell 10 rfl
    have p11 := hX1.cell 11 rfl
    clear hb1 hX1
    go_upto_region 10 with fail
    have hbk : Below w1.heap.size w1 (w1.alloc (.cells (madeCells #[.int .u8 0] 24) 5)) := (Below.refl _ _).alloc (Nat.le_refl _) _
    have HO3 := Lib.hid (World.ownsRow_made (base := w1.heap.size) (e := 5) (size := 1) w1 (madeCells #[.int .u8 0] 24) 24 (Nat.le_refl _) (by unfold maxLen; omega) (by simp [size_madeCells]))
    have HB3 := Lib.hid hbk
    clear p0 p1 p2 p3 p4 p5 p6 p7 p8 p9 p10 p11 hbk hmk
    obtain ⟨w3, hw3⟩ : ∃ w3, w1.alloc (.cells (madeCells #[.int .u8 0] 24) 5) = w3 := ⟨_, rfl⟩
    rw [hw3] at HO3 HB3
    try rw [hw3]
    clear hw3
    have hX3 := HX1.out.below HB3.out HX1.out.lt
    have p0 := hX3.cell 0 rfl
    have p1 := hX3.cell 1 rfl
    have p2 := hX3.cell 2 rfl
    have p3 := hX3.cell 3 rfl
    have p4 := hX3.cell 4 rfl
    have p5 := hX3.cell 5 rfl
    have p6 := hX3.cell 6 rfl
    have p7 := hX3.cell 7 rfl
    have p8 := hX3.cell 8 rfl
    have p9 := hX3.cell 9 rfl
    have p10 := hX3.cell 10 rfl
    have p11 := hX3.cell 11 rfl
    go_wp2_with fail
    clear p0 p1 p2 p3 p4 p5 p6 p7 p8 p9 p10 p11 hX3
    go_loopw [7, 36] (fun o k wr => ∃ i : Nat, i ≤ 4 ∧ k = .int .i64 i ∧ Hid (wr.ownsRow w1.heap.size 5 1 o i (bvs (wpre fr tt kd co i))) ∧ Hid (Below w1.heap.size w1 wr)) (fun _ k _ => 4 - (intOf k).toNat)
    case atStart => exact ⟨0, by omega, rfl, HO3, HB3⟩
    case round =>
      clear HO3 HB3
      obtain ⟨i, hi5, rfl, HO3, HB3⟩ := hrel
      by_cases hlt : i < 4
      · rcases (show i = 0 ∨ i = 1 ∨ i = 2 ∨ i = 3 from by omega) with rfl | rfl | rfl | rfl
        · go_wp2_with fail
          refine (wnum_any fr 1 _ (.inl rfl) (Nat.le_trans (show fr ≤ 255 from by omega) (by decide))).mono ?_
          rintro e w4 ⟨v4, rfl, hown4, hb4⟩
          have HB4 := Lib.hid (HB3.out.trans (hb4.mono HB3.out.size))
          have hs4 : w1.heap.size ≤ w4.heap.size := HB4.out.size
          have HO4 := Lib.hid (ownsRow_below HO3.out hb4 (Nat.le_refl _))
          have HN4 := Lib.hid (IsB.own hown4 (length_le _ _).symm)
          clear hown4 hb4 HO3 HB3
          go_wp2_with (at_builtin; refine wpList_append_B (by rfl) _ _ 26 rfl w1.heap.size 5 i0 Try.underlying26 hi hz0 hz1 hz2 _ (wpre fr tt kd co 0) _ rfl HO4.out (length_wpre _ _ _ _ _).symm _ (le fr 1) rfl HN4.out (by rw [length_wpre, length_le]; omega) hs4 ?_)
          intro v5 w5 hown5 hb5
          have HB5 := Lib.hid (HB4.out.trans hb5)
          have HO5 := Lib.hid (show w5.ownsRow w1.heap.size 5 1 v5 (0 + 1) (bvs (wpre fr tt kd co (0 + 1))) from by
            have e : (wpre fr tt kd co 0).length + (le fr 1).length = 0 + 1 := by rw [length_wpre, length_le]
            rw [e] at hown5
            exact hown5)
          clear hown5 hb5 HO4 HB4 hs4
          go_wp2
          go_roundw
          case rel => exact ⟨0 + 1, by omega, by go_num, HO5, HB5⟩
          case measure => simp [intOf]
        · go_wp2_with fail
          refine (wnum_any tt 1 _ (.inl rfl) (Nat.le_trans (show tt ≤ 255 from by omega) (by decide))).mono ?_
          rintro e w4 ⟨v4, rfl, hown4, hb4⟩
          have HB4 := Lib.hid (HB3.out.trans (hb4.mono HB3.out.size))
          have hs4 : w1.heap.size ≤ w4.heap.size := HB4.out.size
          have HO4 := Lib.hid (ownsRow_below HO3.out hb4 (Nat.le_refl _))
          have HN4 := Lib.hid (IsB.own hown4 (length_le _ _).symm)
          clear hown4 hb4 HO3 HB3
          go_wp2_with (at_builtin; refine wpList_append_B (by rfl) _ _ 26 rfl w1.heap.size 5 i0 Try.underlying26 hi hz0 hz1 hz2 _ (wpre fr tt kd co 1) _ rfl HO4.out (length_wpre _ _ _ _ _).symm _ (le tt 1) rfl HN4.out (by rw [length_wpre, length_le]; omega) hs4 ?_)
          intro v5 w5 hown5 hb5
          have HB5 := Lib.hid (HB4.out.trans hb5)
          have HO5 := Lib.hid (show w5.ownsRow w1.heap.size 5 1 v5 (1 + 1) (bvs (wpre fr tt kd co (1 + 1))) from by
            have e : (wpre fr tt kd co 1).length + (le tt 1).length = 1 + 1 := by rw [length_wpre, length_le]
            rw [e] at hown5
            exact hown5)
          clear hown5 hb5 HO4 HB4 hs4
          go_wp2
          go_roundw
          case rel => exact ⟨1 + 1, by omega, by go_num, HO5, HB5⟩
          case measure => simp [intOf]
        · go_wp2_with fail
          refine (wnum_any kd 1 _ (.inl rfl) (Nat.le_trans (show kd ≤ 255 from by omega) (by decide))).mono ?_
          rintro e w4 ⟨v4, rfl, hown4, hb4⟩
          have HB4 := Lib.hid (HB3.out.trans (hb4.mono HB3.out.size))
          have hs4 : w1.heap.size ≤ w4.heap.size := HB4.out.size
          have HO4 := Lib.hid (ownsRow_below HO3.out hb4 (Nat.le_refl _))
          have HN4 := Lib.hid (IsB.own hown4 (length_le _ _).symm)
          clear hown4 hb4 HO3 HB3
          go_wp2_with (at_builtin; refine wpList_append_B (by rfl) _ _ 26 rfl w1.heap.size 5 i0 Try.underlying26 hi hz0 hz1 hz2 _ (wpre fr tt kd co 2) _ rfl HO4.out (length_wpre _ _ _ _ _).symm _ (le kd 1) rfl HN4.out (by rw [length_wpre, length_le]; omega) hs4 ?_)
          intro v5 w5 hown5 hb5
          have HB5 := Lib.hid (HB4.out.trans hb5)
          have HO5 := Lib.hid (show w5.ownsRow w1.heap.size 5 1 v5 (2 + 1) (bvs (wpre fr tt kd co (2 + 1))) from by
            have e : (wpre fr tt kd co 2).length + (le kd 1).length = 2 + 1 := by rw [length_wpre, length_le]
            rw [e] at hown5
            exact hown5)
          clear hown5 hb5 HO4 HB4 hs4
          go_wp2
          go_roundw
          case rel => exact ⟨2 + 1, by omega, by go_num, HO5, HB5⟩
          case measure => simp [intOf]
        · go_wp2_with fail
          refine (wnum_any co 1 _ (.inl rfl) (Nat.le_trans (show co ≤ 255 from by omega) (by decide))).mono ?_
          rintro e w4 ⟨v4, rfl, hown4, hb4⟩
          have HB4 := Lib.hid (HB3.out.trans (hb4.mono HB3.out.size))
          have hs4 : w1.heap.size ≤ w4.heap.size := HB4.out.size
          have HO4 := Lib.hid (ownsRow_below HO3.out hb4 (Nat.le_refl _))
          have HN4 := Lib.hid (IsB.own hown4 (length_le _ _).symm)
          clear hown4 hb4 HO3 HB3
          go_wp2_with (at_builtin; refine wpList_append_B (by rfl) _ _ 26 rfl w1.heap.size 5 i0 Try.underlying26 hi hz0 hz1 hz2 _ (wpre fr tt kd co 3) _ rfl HO4.out (length_wpre _ _ _ _ _).symm _ (le co 1) rfl HN4.out (by rw [length_wpre, length_le]; omega) hs4 ?_)
          intro v5 w5 hown5 hb5
          have HB5 := Lib.hid (HB4.out.trans hb5)
          have HO5 := Lib.hid (show w5.ownsRow w1.heap.size 5 1 v5 (3 + 1) (bvs (wpre fr tt kd co (3 + 1))) from by
            have e : (wpre fr tt kd co 3).length + (le co 1).length = 3 + 1 := by rw [length_wpre, length_le]
            rw [e] at hown5
            exact hown5)
          clear hown5 hb5 HO4 HB4 hs4
          go_wp2
          go_roundw
          case rel => exact ⟨3 + 1, by omega, by go_num, HO5, HB5⟩
          case measure => simp [intOf]
      · obtain rfl : i = 4 := by omega
        obtain ⟨wz, rfl⟩ : ∃ wz, wz = wr := ⟨_, rfl⟩
        obtain ⟨X0, hX0⟩ : ∃ X, wpre fr tt kd co 4 = X := ⟨_, rfl⟩
        have hL0 : X0.length = 4 := by rw [← hX0, length_wpre]
        rw [hX0] at HO3 HMB
        have HO0 := HO3
        have HL0 := Lib.hid hL0
        have HB0 := HB3
        clear hX0 hL0 HO3 HB3
        have hX1 := HX1.out.below HB0.out HX1.out.lt
        have p0 := hX1.cell 0 rfl
        have p1 := hX1.cell 1 rfl
        have p2 := hX1.cell 2 rfl
        have p3 := hX1.cell 3 rfl
        have p4 := hX1.cell 4 rfl
        have p5 := hX1.cell 5 rfl
        have p6 := hX1.cell 6 rfl
        have p7 := hX1.cell 7 rfl
        have p8 := hX1.cell 8 rfl
        have p9 := hX1.cell 9 rfl
        have p10 := hX1.cell 10 rfl
        have p11 := hX1.cell 11 rfl
        go_wp2_with fail
        refine (wnum_any vo 4 _ (.inr (.inr (.inl rfl))) (Nat.le_trans (show vo ≤ 65535 from by omega) (by decide))).mono ?_
        rintro e wa1 ⟨va1, rfl, hown4, hb4⟩
        have HBa1 := Lib.hid (HB0.out.trans (hb4.mono HB0.out.size))
        have hsa1 : w1.heap.size ≤ wa1.heap.size := HBa1.out.size
        have HOa1 := Lib.hid (ownsRow_below HO0.out hb4 (Nat.le_refl _))
        have HNa1 := Lib.hid (IsB.own hown4 (length_le _ _).symm)
        clear hown4 hb4 HO0 HB0 p0 p1 p2 p3 p4 p5 p6 p7 p8 p9 p10 p11 hX1
        go_wp2_with (at_builtin; refine wpList_append_B (by rfl) _ _ 26 rfl w1.heap.size 5 i0 Try.underlying26 hi hz0 hz1 hz2 _ X0 _ rfl HOa1.out HL0.out.symm _ (le vo 4) rfl HNa1.out (by rw [HL0.out, length_le]; decide) hsa1 ?_)
        intro v1 wb1 hown5 hb5
        have HB1 := Lib.hid (HBa1.out.trans hb5)
        obtain ⟨X1, hXX⟩ : ∃ X, X0 ++ le vo 4 = X := ⟨_, rfl⟩
        have hLk : X1.length = 8 := by rw [← hXX, List.length_append, HL0.out, length_le]
        have HO1 := Lib.hid (show wb1.ownsRow w1.heap.size 5 1 v1 8 (bvs X1) from by
          rw [← hLk, ← hXX, List.length_append]
          first | exact hown5 | simpa using hown5)
        rw [hXX] at HMB
        have HL1 := Lib.hid hLk
        clear hown5 hb5 hXX hLk HOa1 HBa1 hsa1 HNa1 HL0
        have hX2 := HX1.out.below HB1.out HX1.out.lt
        have p0 := hX2.cell 0 rfl
        have p1 := hX2.cell 1 rfl
        have p2 := hX2.cell 2 rfl
        have p3 := hX2.cell 3 rfl
        have p4 := hX2.cell 4 rfl
        have p5 := hX2.cell 5 rfl
        have p6 := hX2.cell 6 rfl
        have p7 := hX2.cell 7 rfl
        have p8 := hX2.cell 8 rfl
        have p9 := hX2.cell 9 rfl
        have p10 := hX2.cell 10 rfl
        have p11 := hX2.cell 11 rfl
        go_wp2_with fail
        refine (wnum_any li 4 _ (.inr (.inr (.inl rfl))) (Nat.le_trans (show li ≤ 2147483647 from by omega) (by decide))).mono ?_
        rintro e wa2 ⟨va2, rfl, hown4, hb4⟩
        have HBa2 := Lib.hid (HB1.out.trans (hb4.mono HB1.out.size))
        have hsa2 : w1.heap.size ≤ wa2.heap.size := HBa2.out.size
        have HOa2 := Lib.hid (ownsRow_below HO1.out hb4 (Nat.le_refl _))
        have HNa2 := Lib.hid (IsB.own hown4 (length_le _ _).symm)
        clear hown4 hb4 HO1 HB1 p0 p1 p2 p3 p4 p5 p6 p7 p8 p9 p10 p11 hX2
        go_wp2_with (at_builtin; refine wpList_append_B (by rfl) _ _ 26 rfl w1.heap.size 5 i0 Try.underlying26 hi hz0 hz1 hz2 _ X1 _ rfl HOa2.out HL1.out.symm _ (le li 4) rfl HNa2.out (by rw [HL1.out, length_le]; decide) hsa2 ?_)
        intro v2 wb2 hown5 hb5
        have HB2 := Lib.hid (HBa2.out.trans hb5)
        obtain ⟨X2, hXX⟩ : ∃ X, X1 ++ le li 4 = X := ⟨_, rfl⟩
        have hLk : X2.length = 12 := by rw [← hXX, List.length_append, HL1.out, length_le]
        have HO2 := Lib.hid (show wb2.ownsRow w1.heap.size 5 1 v2 12 (bvs X2) from by
          rw [← hLk, ← hXX, List.length_append]
          first | exact hown5 | simpa using hown5)
        rw [hXX] at HMB
        have HL2 := Lib.hid hLk
        clear hown5 hb5 hXX hLk HOa2 HBa2 hsa2 HNa2 HL1
        have hX3 := HX1.out.below HB2.out HX1.out.lt
        have p0 := hX3.cell 0 rfl
        have p1 := hX3.cell 1 rfl
        have p2 := hX3.cell 2 rfl
        have p3 := hX3.cell 3 rfl
        have p4 := hX3.cell 4 rfl
        have p5 := hX3.cell 5 rfl
        have p6 := hX3.cell 6 rfl
        have p7 := hX3.cell 7 rfl
        have p8 := hX3.cell 8 rfl
        have p9 := hX3.cell 9 rfl
        have p10 := hX3.cell 10 rfl
        have p11 := hX3.cell 11 rfl
        go_wp2_with fail
        refine (wnum_any id 8 _ (.inr (.inr (.inr rfl))) (show id ≤ 18446744073709551615 from by omega)).mono ?_
        rintro e wa3 ⟨va3, rfl, hown4, hb4⟩
        have HBa3 := Lib.hid (HB2.out.trans (hb4.mono HB2.out.size))
        have hsa3 : w1.heap.size ≤ wa3.heap.size := HBa3.out.size
        have HOa3 := Lib.hid (ownsRow_below HO2.out hb4 (Nat.le_refl _))
        have HNa3 := Lib.hid (IsB.own hown4 (length_le _ _).symm)
        clear hown4 hb4 HO2 HB2 p0 p1 p2 p3 p4 p5 p6 p7 p8 p9 p10 p11 hX3
        go_wp2_with (at_builtin; refine wpList_append_B (by rfl) _ _ 26 rfl w1.heap.size 5 i0 Try.underlying26 hi hz0 hz1 hz2 _ X2 _ rfl HOa3.out HL2.out.symm _ (le id 8) rfl HNa3.out (by rw [HL2.out, length_le]; decide) hsa3 ?_)
        intro v3 wb3 hown5 hb5
        have HB3 := Lib.hid (HBa3.out.trans hb5)
        obtain ⟨X3, hXX⟩ : ∃ X, X2 ++ le id 8 = X := ⟨_, rfl⟩
        have hLk : X3.length = 20 := by rw [← hXX, List.length_append, HL2.out, length_le]
        have HO3 := Lib.hid (show wb3.ownsRow w1.heap.size 5 1 v3 20 (bvs X3) from by
          rw [← hLk, ← hXX, List.length_append]
          first | exact hown5 | simpa using hown5)
        rw [hXX] at HMB
        have HL3 := Lib.hid hLk
        clear hown5 hb5 hXX hLk HOa3 HBa3 hsa3 HNa3 HL2
        have hX4 := HX1.out.below HB3.out HX1.out.lt
        have p0 := hX4.cell 0 rfl
        have p1 := hX4.cell 1 rfl
        have p2 := hX4.cell 2 rfl
        have p3 := hX4.cell 3 rfl
        have p4 := hX4.cell 4 rfl
        have p5 := hX4.cell 5 rfl
        have p6 := hX4.cell 6 rfl
        have p7 := hX4.cell 7 rfl
        have p8 := hX4.cell 8 rfl
        have p9 := hX4.cell 9 rfl
        have p10 := hX4.cell 10 rfl
        have p11 := hX4.cell 11 rfl
        go_wp2_with fail
        refine (wnum_any 0 4 _ (.inr (.inr (.inl rfl))) (by decide)).mono ?_
        rintro e wa4 ⟨va4, rfl, hown4, hb4⟩
        have HBa4 := Lib.hid (HB3.out.trans (hb4.mono HB3.out.size))
        have hsa4 : w1.heap.size ≤ wa4.heap.size := HBa4.out.size
        have HOa4 := Lib.hid (ownsRow_below HO3.out hb4 (Nat.le_refl _))
        have HNa4 := Lib.hid (IsB.own hown4 (length_le _ _).symm)
        clear hown4 hb4 HO3 HB3 p0 p1 p2 p3 p4 p5 p6 p7 p8 p9 p10 p11 hX4
        go_wp2_with (at_builtin; refine wpList_append_B (by rfl) _ _ 26 rfl w1.heap.size 5 i0 Try.underlying26 hi hz0 hz1 hz2 _ X3 _ rfl HOa4.out HL3.out.symm _ (le 0 4) rfl HNa4.out (by rw [HL3.out, length_le]; decide) hsa4 ?_)
        intro v4 wb4 hown5 hb5
        have HB4 := Lib.hid (HBa4.out.trans hb5)
        obtain ⟨X4, hXX⟩ : ∃ X, X3 ++ le 0 4 = X := ⟨_, rfl⟩
        have hLk : X4.length = 24 := by rw [← hXX, List.length_append, HL3.out, length_le]
        have HO4 := Lib.hid (show wb4.ownsRow w1.heap.size 5 1 v4 24 (bvs X4) from by
          rw [← hLk, ← hXX, List.length_append]
          first | exact hown5 | simpa using hown5)
        rw [hXX] at HMB
        have HL4 := Lib.hid hLk
        clear hown5 hb5 hXX hLk HOa4 HBa4 hsa4 HNa4 HL3
        have HI4 := Lib.hid (IsB.nil wb4)
        have hs4 : w1.heap.size ≤ wb4.heap.size := HB4.out.size
        go_wp2_with (at_builtin; refine wpList_append_B (by rfl) _ _ 26 rfl w1.heap.size 5 i0 Try.underlying26 hi hz0 hz1 hz2 _ X4 _ rfl HO4.out HL4.out.symm _ ([] : List UInt8) rfl HI4.out (by rw [HL4.out]; decide) hs4 ?_)
        intro v5 w5 hown5 hb5
        have HB5 := Lib.hid (HB4.out.trans hb5)
        obtain ⟨X5, hX5⟩ : ∃ X, X4 ++ ([] : List UInt8) = X := ⟨_, rfl⟩
        rw [hX5] at HMB
        have HI5 := Lib.hid (show IsB w5 v5 X5 from IsB.own (show w5.ownsRow w1.heap.size 5 1 v5 X5.length (bvs X5) from by
          rw [← hX5, List.length_append]
          first | exact hown5 | simpa using hown5) rfl)
        have HL5 := Lib.hid (show X5.length ≤ 1099511627776 from by rw [← hX5, List.length_append]; rw [HL4.out]; decide)
        clear hown5 hb5 hX5 HO4 HB4 hs4 HI4 HL4
        go_wp2_with fail
        refine (seal_any _ X5 _ HI5.out HL5.out).mono ?_
        rintro e w6 ⟨g, cp, rfl, hown6, _, _, hb6⟩
        have HB6 := Lib.hid (HB1.out.trans ((HB5.out.trans (hb6.mono HB5.out.size)).mono HB1.out.size))
        have hbs : mbytes ⟨(fr : Int), (tt : Int), (kd : Int), (vo : Int), (li : Int), id, (co : Int), false, ⟨key, ck, gn, data⟩⟩ = sealed X5 := by
          unfold mbytes sealed
          rw [HMB.out]
        have HF := Lib.hid (show w6.ownsRow w.heap.size 5 1 (.slice (some ⟨g, 0, none⟩) (mbytes ⟨(fr : Int), (tt : Int), (kd : Int), (vo : Int), (li : Int), id, (co : Int), false, ⟨key, ck, gn, data⟩⟩).length cp) (mbytes ⟨(fr : Int), (tt : Int), (kd : Int), (vo : Int), (li : Int), id, (co : Int), false, ⟨key, ck, gn, data⟩⟩).length (bvs (mbytes ⟨(fr : Int), (tt : Int), (kd : Int), (vo : Int), (li : Int), id, (co : Int), false, ⟨key, ck, gn, data⟩⟩)) from by
          rw [hbs, length_sealed]
          exact ownsRow_base hown6 (Nat.le_trans HB1.out.size HB5.out.size))
        have HLL := Lib.hid (show X5.length + 4 = (mbytes ⟨(fr : Int), (tt : Int), (kd : Int), (vo : Int), (li : Int), id, (co : Int), false, ⟨key, ck, gn, data⟩⟩).length from by rw [hbs, length_sealed])
        clear hown6 hb6 hbs
        go_wp2
        go_ret2
        exact ⟨some ⟨g, 0, none⟩, cp, by rw [HLL.out]; rfl, HF.out, HB6.out⟩

end Go.Proofs.Ytofhbnnheadmlaa
