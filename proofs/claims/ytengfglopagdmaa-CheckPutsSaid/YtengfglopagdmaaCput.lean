/- Package check by contracts: Put. -/
import Derived.Test.YtengfglopagdmaaLaid
import Derived.Test.YtengfglopagdmaaSum
namespace Go.Proofs.Ytengfglopagdmaa
open Go.RowKit Go.Cor

theorem Try.infoU8b : (Try.prog.info? 5).map (fun i => (i.zero, i.size, i.bytes)) = some (some (.int .u8 0), 1, 1) := by kernel_rfl

theorem put_badC (c : Chk) (v : Value) (w : World) (hv : IsP w v c.l) (h : cright c ≠ 0) :
    Calls Try.prog 7 #[cval c v] w fun e w' => e = .returned (.tuple #[.slice none 0 0, cerr (cright c)]) ∧ Below w.heap.size w w' := by
  have HV := Lib.hid hv
  obtain ⟨x, cap, rfl, hlc, hcm⟩ := hv.at_len rfl
  obtain ⟨a, b, d, ps⟩ := c
  have HC := Lib.hid (cerr_pos h)
  rw [HC.out]
  clear h hv
  obtain ⟨q, hq⟩ : ∃ q : Nat, cright ⟨a, b, d, ps⟩ = q := ⟨_, rfl⟩
  rw [hq] at HC
  rw [hq]
  have HQ := Lib.hid hq
  clear hq
  go_enter Try.func7, Try.ntmps7
  go_wp2_with fail
  refine (right_any ⟨a, b, d, ps⟩ _ _ (HV.out.mono ((Below.refl _ _).alloc (Nat.le_refl _) _) (Nat.le_refl _))).mono ?_
  rintro e w1 ⟨rfl, hb1⟩
  rw [HQ.out, HC.out]
  have HB1 := Lib.hid ((((Below.refl w.heap.size w).alloc (Nat.le_refl _) _).trans (hb1.mono (by simp))) : Below w.heap.size w w1)
  clear hb1
  go_wp2
  go_ret2
  exact ⟨rfl, HB1.out⟩

/-- The numbers ahead, and how far they are laid. -/
def hnum (a b d n : Nat) : Nat → Nat
  | 0 => 1128811344
  | 1 => a
  | 2 => b
  | 3 => d
  | _ => n
def hpre (a b d n : Nat) : Nat → List UInt8
  | 0 => []
  | k + 1 => hpre a b d n k ++ le (hnum a b d n k) 4
theorem length_hpre (a b d n k : Nat) : (hpre a b d n k).length = 4 * k := by
  induction k with
  | zero => rfl
  | succ k ih =>
    simp only [hpre, List.length_append, ih, length_le]
    omega
theorem hpre_head (a b d n : Nat) : hpre a b d n 5 = le 1128811344 4 ++ le a 4 ++ le b 4 ++ le d 4 ++ le n 4 := rfl
theorem cbody_split (c : Chk) (i : Nat) : chead c ++ catP (c.l.take i) = chead c ++ catP (c.l.take i) := rfl

theorem Try.index5 (x0 x1 x2 x3 x4 : Int) :
    (∀ W, (Instr.index 51 (.agg #[.int .i64 x0, .int .i64 x1, .int .i64 x2, .int .i64 x3, .int .i64 x4]) (.int .i64 0)).run Try.prog W = .ok (.int .i64 x0) W) ∧
    (∀ W, (Instr.index 51 (.agg #[.int .i64 x0, .int .i64 x1, .int .i64 x2, .int .i64 x3, .int .i64 x4]) (.int .i64 1)).run Try.prog W = .ok (.int .i64 x1) W) ∧
    (∀ W, (Instr.index 51 (.agg #[.int .i64 x0, .int .i64 x1, .int .i64 x2, .int .i64 x3, .int .i64 x4]) (.int .i64 2)).run Try.prog W = .ok (.int .i64 x2) W) ∧
    (∀ W, (Instr.index 51 (.agg #[.int .i64 x0, .int .i64 x1, .int .i64 x2, .int .i64 x3, .int .i64 x4]) (.int .i64 3)).run Try.prog W = .ok (.int .i64 x3) W) ∧
    (∀ W, (Instr.index 51 (.agg #[.int .i64 x0, .int .i64 x1, .int .i64 x2, .int .i64 x3, .int .i64 x4]) (.int .i64 4)).run Try.prog W = .ok (.int .i64 x4) W) := by
  refine ⟨fun W => ?_, fun W => ?_, fun W => ?_, fun W => ?_, fun W => ?_⟩ <;> kernel_rfl

set_option maxRecDepth 100000 in
set_option maxHeartbeats 4000000 in
theorem put_okC (c : Chk) (v : Value) (w : World) (hv : IsP w v c.l) (hf : ∀ p ∈ c.l, p.fits) (h : cright c = 0) :
    Calls Try.prog 7 #[cval c v] w fun e w' =>
      ∃ g cap, e = .returned (.tuple #[.slice (some ⟨g, 0, none⟩) (cbytes c).length cap, .nilIface]) ∧ w'.ownsRow w.heap.size 5 1 (.slice (some ⟨g, 0, none⟩) (cbytes c).length cap) (cbytes c).length (bvs (cbytes c)) ∧ Below w.heap.size w w' := by
  obtain ⟨i0, hi, hz0, hz1, hz2⟩ := info_parts Try.infoU8
  obtain ⟨h1, h2, h3⟩ := cright_ok h
  have hh := hOk_fits h2
  obtain ⟨a, b, d, ps⟩ := c
  obtain ⟨a, rfl⟩ := Int.eq_ofNat_of_zero_le (show 0 ≤ a by have := hh.1; simp only at this; omega)
  obtain ⟨b, rfl⟩ := Int.eq_ofNat_of_zero_le (show 0 ≤ b by have := hh.2.2.1; simp only at this; omega)
  obtain ⟨d, rfl⟩ := Int.eq_ofNat_of_zero_le (show 0 ≤ d by have := hh.2.2.2.2.1; simp only at this; omega)
  have ha : a ≤ 65535 := by have := hh.2.1; simp only at this; omega
  have hb : b ≤ 2147483647 := by have := hh.2.2.2.1; simp only at this; omega
  have hd : d ≤ 16777216 := by have := hh.2.2.2.2.2; simp only at this; omega
  have HH := Lib.hid (show chead ⟨(a : Int), (b : Int), (d : Int), ps⟩ = hpre a b d ps.length 5 from by rw [hpre_head]; simp [chead])
  have HL := Lib.hid (length_cbytes ⟨(a : Int), (b : Int), (d : Int), ps⟩)
  have HR := Lib.hid h
  have H3 := Lib.hid (show lOk ps = true from h3)
  have HF := Lib.hid (show ∀ p ∈ ps, p.fits from hf)
  have HV := Lib.hid (show IsP w v ps from hv)
  obtain ⟨N, hN⟩ : ∃ N, ps.length = N := ⟨_, rfl⟩
  obtain ⟨x, cap, rfl, hlc, hcm⟩ := IsP.at_len (ps := ps) hv hN
  have hN4 : N ≤ 4096 := by rw [← hN]; exact h1
  simp only [hN] at HH HL
  obtain ⟨C, hC⟩ : ∃ C, C = cbytes ⟨(a : Int), (b : Int), (d : Int), ps⟩ := ⟨_, rfl⟩
  rw [← hC] at HL
  rw [← hC]
  have HC := Lib.hid hC
  have HN := Lib.hid hN
  clear hv hf h h1 h2 h3 hh hN hC
  have hmk : ∀ wx : World, (Instr.makeSlice 27 (.int .i64 0) (.int .i64 (20 + 24 * (N : Int)))).run Try.prog wx = .ok (.slice (some ⟨wx.heap.size, 0, none⟩) 0 (20 + 24 * N)) (wx.alloc (.cells (madeCells #[.int .u8 0] (20 + 24 * N)) 5)) := fun wx => by
    have := run_make (P := Try.prog) wx 27 5 i0 (.int .u8 0) Try.underlying27 hi hz0 .i64 .i64 0 (20 + 24 * (N : Int)) (by omega) (by omega) (by rw [hz2]; omega) (by omega)
    rw [this, hz1]
    simp [show (20 + 24 * (N : Int)).toNat = 20 + 24 * N from by omega, Value.cells]
  obtain ⟨x0, x1, x2, x3, x4⟩ := Try.index5 1128811344 (a : Int) (b : Int) (d : Int) (N : Int)
  go_enter Try.func7, Try.ntmps7
  go_wp2_with fail
  refine (right_any ⟨(a : Int), (b : Int), (d : Int), ps⟩ _ _ (HV.out.mono ((Below.refl _ _).alloc (Nat.le_refl _) _) (Nat.le_refl _))).mono ?_
  rintro e w1 ⟨rfl, hb1⟩
  rw [HR.out, cerr_0]
  have hs1 : w.heap.size + 1 ≤ w1.heap.size := Nat.le_trans (by simp) hb1.size
  have HX1 := Lib.hid ((BoxC.new w (a : Int) (b : Int) (d : Int) (.slice x N cap) 34).mono hb1 (by simp))
  have HB1 := Lib.hid ((((Below.refl w.heap.size w).alloc (Nat.le_refl _) _).trans (hb1.mono (by simp))) : Below w.heap.size w w1)
  have HV1 := Lib.hid (HV.out.mono HB1.out (Nat.le_refl _))
  clear hb1
  obtain ⟨q0, q1, q2, q3⟩ := HX1.out
  go_upto_region 5 with fail
  have hbk : Below w1.heap.size w1 (w1.alloc (.cells (madeCells #[.int .u8 0] (20 + 24 * N)) 5)) := (Below.refl _ _).alloc (Nat.le_refl _) _
  have hs2 : w.heap.size + 1 ≤ (w1.alloc (.cells (madeCells #[.int .u8 0] (20 + 24 * N)) 5)).heap.size := Nat.le_trans hs1 hbk.size
  have HO2 := Lib.hid (World.ownsRow_made (base := w.heap.size + 1) (e := 5) (size := 1) w1 (madeCells #[.int .u8 0] (20 + 24 * N)) (20 + 24 * N) hs1 (by unfold maxLen; omega) (by simp [size_madeCells]))
  have HX2 := Lib.hid (HX1.out.mono hbk hs1)
  have HB2 := Lib.hid (HB1.out.trans (hbk.mono (Nat.le_of_succ_le hs1)))
  clear q0 q1 q2 q3 hbk HX1 HB1 HV1 hmk hs1
  obtain ⟨w2, hw2⟩ : ∃ w2, w2 = w1.alloc (.cells (madeCells #[.int .u8 0] (20 + 24 * N)) 5) := ⟨_, rfl⟩
  rw [← hw2] at hs2 HO2 HX2 HB2 ⊢
  clear hw2
  obtain ⟨q0, q1, q2, q3⟩ := HX2.out
  go_wp2_with fail
  clear q0 q1 q2 q3
  go_loopw [5, 31] (fun o k wr => ∃ i : Nat, i ≤ 5 ∧ k = .int .i64 i ∧ Hid (wr.ownsRow (w.heap.size + 1) 5 1 o (4 * i) (bvs (hpre a b d N i))) ∧ Hid (BoxC wr w.heap.size (a : Int) (b : Int) (d : Int) (.slice x N cap)) ∧ Hid (Below w.heap.size w wr) ∧ w.heap.size + 1 ≤ wr.heap.size) (fun _ k _ => 5 - (intOf k).toNat)
  case atStart => exact ⟨0, by omega, rfl, HO2, HX2, HB2, hs2⟩
  case round =>
    clear HO2 HX2 HB2 hs2
    obtain ⟨i, hi5, rfl, HO3, HX3, HB3, hs3⟩ := hrel
    by_cases hlt : i < 5
    · rcases (show i = 0 ∨ i = 1 ∨ i = 2 ∨ i = 3 ∨ i = 4 from by omega) with rfl | rfl | rfl | rfl | rfl
      · obtain ⟨q0, q1, q2, q3⟩ := HX3.out
        go_wp2_with fail
        refine (num_anyC 1128811344 4 _ (.inr (.inr (.inl rfl))) (Nat.le_trans (show 1128811344 ≤ 4294967295 from by omega) (by decide))).mono ?_
        rintro e w4 ⟨v4, rfl, hown4, hb4⟩
        have hs4 : w.heap.size + 1 ≤ w4.heap.size := Nat.le_trans hs3 hb4.size
        have HX4 := Lib.hid (HX3.out.mono hb4 hs3)
        have HB4 := Lib.hid (HB3.out.trans (hb4.mono (Nat.le_of_succ_le hs3)))
        have HO4 := Lib.hid (ownsRow_below HO3.out hb4 (Nat.le_refl _))
        have HN4 := Lib.hid (IsB.own hown4 (length_le _ _).symm)
        clear hown4 hb4 q0 q1 q2 q3 HX3 HO3 HB3 hs3
        go_wp2_with (at_builtin; refine wpList_append_B (by rfl) _ _ 27 rfl (w.heap.size + 1) 5 i0 Try.underlying27 hi hz0 hz1 hz2 _ (hpre a b d N 0) _ rfl HO4.out (length_hpre _ _ _ _ _).symm _ (le 1128811344 4) rfl HN4.out (by rw [length_hpre, length_le]; omega) hs4 ?_)
        intro v5 w5 hown5 hb5
        have hs5 : w.heap.size + 1 ≤ w5.heap.size := Nat.le_trans hs4 hb5.size
        have HX5 := Lib.hid (HX4.out.mono hb5 (Nat.lt_succ_self _))
        have HB5 := Lib.hid (HB4.out.trans (hb5.mono (Nat.le_succ _)))
        have HO5 := Lib.hid (show w5.ownsRow (w.heap.size + 1) 5 1 v5 (4 * (0 + 1)) (bvs (hpre a b d N (0 + 1))) from by
          have e : (hpre a b d N 0).length + (le 1128811344 4).length = 4 * (0 + 1) := by rw [length_hpre, length_le]
          rw [e] at hown5
          exact hown5)
        clear hown5 hb5 HX4 HO4 HB4 hs4
        go_wp2
        go_roundw
        case rel => exact ⟨0 + 1, by omega, by go_num, HO5, HX5, HB5, hs5⟩
        case measure => simp [intOf]
      · obtain ⟨q0, q1, q2, q3⟩ := HX3.out
        go_wp2_with fail
        refine (num_anyC a 4 _ (.inr (.inr (.inl rfl))) (Nat.le_trans (show a ≤ 4294967295 from by omega) (by decide))).mono ?_
        rintro e w4 ⟨v4, rfl, hown4, hb4⟩
        have hs4 : w.heap.size + 1 ≤ w4.heap.size := Nat.le_trans hs3 hb4.size
        have HX4 := Lib.hid (HX3.out.mono hb4 hs3)
        have HB4 := Lib.hid (HB3.out.trans (hb4.mono (Nat.le_of_succ_le hs3)))
        have HO4 := Lib.hid (ownsRow_below HO3.out hb4 (Nat.le_refl _))
        have HN4 := Lib.hid (IsB.own hown4 (length_le _ _).symm)
        clear hown4 hb4 q0 q1 q2 q3 HX3 HO3 HB3 hs3
        go_wp2_with (at_builtin; refine wpList_append_B (by rfl) _ _ 27 rfl (w.heap.size + 1) 5 i0 Try.underlying27 hi hz0 hz1 hz2 _ (hpre a b d N 1) _ rfl HO4.out (length_hpre _ _ _ _ _).symm _ (le a 4) rfl HN4.out (by rw [length_hpre, length_le]; omega) hs4 ?_)
        intro v5 w5 hown5 hb5
        have hs5 : w.heap.size + 1 ≤ w5.heap.size := Nat.le_trans hs4 hb5.size
        have HX5 := Lib.hid (HX4.out.mono hb5 (Nat.lt_succ_self _))
        have HB5 := Lib.hid (HB4.out.trans (hb5.mono (Nat.le_succ _)))
        have HO5 := Lib.hid (show w5.ownsRow (w.heap.size + 1) 5 1 v5 (4 * (1 + 1)) (bvs (hpre a b d N (1 + 1))) from by
          have e : (hpre a b d N 1).length + (le a 4).length = 4 * (1 + 1) := by rw [length_hpre, length_le]
          rw [e] at hown5
          exact hown5)
        clear hown5 hb5 HX4 HO4 HB4 hs4
        go_wp2
        go_roundw
        case rel => exact ⟨1 + 1, by omega, by go_num, HO5, HX5, HB5, hs5⟩
        case measure => simp [intOf]
      · obtain ⟨q0, q1, q2, q3⟩ := HX3.out
        go_wp2_with fail
        refine (num_anyC b 4 _ (.inr (.inr (.inl rfl))) (Nat.le_trans (show b ≤ 4294967295 from by omega) (by decide))).mono ?_
        rintro e w4 ⟨v4, rfl, hown4, hb4⟩
        have hs4 : w.heap.size + 1 ≤ w4.heap.size := Nat.le_trans hs3 hb4.size
        have HX4 := Lib.hid (HX3.out.mono hb4 hs3)
        have HB4 := Lib.hid (HB3.out.trans (hb4.mono (Nat.le_of_succ_le hs3)))
        have HO4 := Lib.hid (ownsRow_below HO3.out hb4 (Nat.le_refl _))
        have HN4 := Lib.hid (IsB.own hown4 (length_le _ _).symm)
        clear hown4 hb4 q0 q1 q2 q3 HX3 HO3 HB3 hs3
        go_wp2_with (at_builtin; refine wpList_append_B (by rfl) _ _ 27 rfl (w.heap.size + 1) 5 i0 Try.underlying27 hi hz0 hz1 hz2 _ (hpre a b d N 2) _ rfl HO4.out (length_hpre _ _ _ _ _).symm _ (le b 4) rfl HN4.out (by rw [length_hpre, length_le]; omega) hs4 ?_)
        intro v5 w5 hown5 hb5
        have hs5 : w.heap.size + 1 ≤ w5.heap.size := Nat.le_trans hs4 hb5.size
        have HX5 := Lib.hid (HX4.out.mono hb5 (Nat.lt_succ_self _))
        have HB5 := Lib.hid (HB4.out.trans (hb5.mono (Nat.le_succ _)))
        have HO5 := Lib.hid (show w5.ownsRow (w.heap.size + 1) 5 1 v5 (4 * (2 + 1)) (bvs (hpre a b d N (2 + 1))) from by
          have e : (hpre a b d N 2).length + (le b 4).length = 4 * (2 + 1) := by rw [length_hpre, length_le]
          rw [e] at hown5
          exact hown5)
        clear hown5 hb5 HX4 HO4 HB4 hs4
        go_wp2
        go_roundw
        case rel => exact ⟨2 + 1, by omega, by go_num, HO5, HX5, HB5, hs5⟩
        case measure => simp [intOf]
      · obtain ⟨q0, q1, q2, q3⟩ := HX3.out
        go_wp2_with fail
        refine (num_anyC d 4 _ (.inr (.inr (.inl rfl))) (Nat.le_trans (show d ≤ 4294967295 from by omega) (by decide))).mono ?_
        rintro e w4 ⟨v4, rfl, hown4, hb4⟩
        have hs4 : w.heap.size + 1 ≤ w4.heap.size := Nat.le_trans hs3 hb4.size
        have HX4 := Lib.hid (HX3.out.mono hb4 hs3)
        have HB4 := Lib.hid (HB3.out.trans (hb4.mono (Nat.le_of_succ_le hs3)))
        have HO4 := Lib.hid (ownsRow_below HO3.out hb4 (Nat.le_refl _))
        have HN4 := Lib.hid (IsB.own hown4 (length_le _ _).symm)
        clear hown4 hb4 q0 q1 q2 q3 HX3 HO3 HB3 hs3
        go_wp2_with (at_builtin; refine wpList_append_B (by rfl) _ _ 27 rfl (w.heap.size + 1) 5 i0 Try.underlying27 hi hz0 hz1 hz2 _ (hpre a b d N 3) _ rfl HO4.out (length_hpre _ _ _ _ _).symm _ (le d 4) rfl HN4.out (by rw [length_hpre, length_le]; omega) hs4 ?_)
        intro v5 w5 hown5 hb5
        have hs5 : w.heap.size + 1 ≤ w5.heap.size := Nat.le_trans hs4 hb5.size
        have HX5 := Lib.hid (HX4.out.mono hb5 (Nat.lt_succ_self _))
        have HB5 := Lib.hid (HB4.out.trans (hb5.mono (Nat.le_succ _)))
        have HO5 := Lib.hid (show w5.ownsRow (w.heap.size + 1) 5 1 v5 (4 * (3 + 1)) (bvs (hpre a b d N (3 + 1))) from by
          have e : (hpre a b d N 3).length + (le d 4).length = 4 * (3 + 1) := by rw [length_hpre, length_le]
          rw [e] at hown5
          exact hown5)
        clear hown5 hb5 HX4 HO4 HB4 hs4
        go_wp2
        go_roundw
        case rel => exact ⟨3 + 1, by omega, by go_num, HO5, HX5, HB5, hs5⟩
        case measure => simp [intOf]
      · obtain ⟨q0, q1, q2, q3⟩ := HX3.out
        go_wp2_with fail
        refine (num_anyC N 4 _ (.inr (.inr (.inl rfl))) (Nat.le_trans (show N ≤ 4294967295 from by omega) (by decide))).mono ?_
        rintro e w4 ⟨v4, rfl, hown4, hb4⟩
        have hs4 : w.heap.size + 1 ≤ w4.heap.size := Nat.le_trans hs3 hb4.size
        have HX4 := Lib.hid (HX3.out.mono hb4 hs3)
        have HB4 := Lib.hid (HB3.out.trans (hb4.mono (Nat.le_of_succ_le hs3)))
        have HO4 := Lib.hid (ownsRow_below HO3.out hb4 (Nat.le_refl _))
        have HN4 := Lib.hid (IsB.own hown4 (length_le _ _).symm)
        clear hown4 hb4 q0 q1 q2 q3 HX3 HO3 HB3 hs3
        go_wp2_with (at_builtin; refine wpList_append_B (by rfl) _ _ 27 rfl (w.heap.size + 1) 5 i0 Try.underlying27 hi hz0 hz1 hz2 _ (hpre a b d N 4) _ rfl HO4.out (length_hpre _ _ _ _ _).symm _ (le N 4) rfl HN4.out (by rw [length_hpre, length_le]; omega) hs4 ?_)
        intro v5 w5 hown5 hb5
        have hs5 : w.heap.size + 1 ≤ w5.heap.size := Nat.le_trans hs4 hb5.size
        have HX5 := Lib.hid (HX4.out.mono hb5 (Nat.lt_succ_self _))
        have HB5 := Lib.hid (HB4.out.trans (hb5.mono (Nat.le_succ _)))
        have HO5 := Lib.hid (show w5.ownsRow (w.heap.size + 1) 5 1 v5 (4 * (4 + 1)) (bvs (hpre a b d N (4 + 1))) from by
          have e : (hpre a b d N 4).length + (le N 4).length = 4 * (4 + 1) := by rw [length_hpre, length_le]
          rw [e] at hown5
          exact hown5)
        clear hown5 hb5 HX4 HO4 HB4 hs4
        go_wp2
        go_roundw
        case rel => exact ⟨4 + 1, by omega, by go_num, HO5, HX5, HB5, hs5⟩
        case measure => simp [intOf]
    · obtain rfl : i = 5 := by omega
      obtain ⟨q0, q1, q2, q3⟩ := HX3.out
      go_wp2_with fail
      clear q0 q1 q2 q3
      go_loopw [5, 43] (fun o k wr => ∃ i : Nat, i ≤ N ∧ k = .int .i64 i ∧ Hid (wr.ownsRow (w.heap.size + 1) 5 1 o (20 + 24 * i) (bvs (hpre a b d N 5 ++ catP (ps.take i)))) ∧ Hid (Below w.heap.size w wr) ∧ w.heap.size + 1 ≤ wr.heap.size) (fun _ k _ => N - (intOf k).toNat)
      case atStart => exact ⟨0, by omega, rfl, Lib.hid (by have := HO3.out; simpa [catP] using this), HB3, hs3⟩
      case round =>
        clear HO3 HX3 HB3 hs3
        obtain ⟨i, hiN, rfl, HO4, HB4, hs4⟩ := hrel
        by_cases hlt2 : i < N
        · have HV4 := Lib.hid (HV.out.mono HB4.out (Nat.le_refl _))
          obtain ⟨p, hp⟩ : ∃ p, pat ps i = p := ⟨_, rfl⟩
          obtain ⟨bp, op, hidx, hcell⟩ := indexAt_P HV4.out 32 53 Try.underlying32 Try.sizePos i (by rw [HN.out]; exact hlt2)
          rw [hp] at hcell
          have HFp := Lib.hid (show p.fits from by rw [← hp]; exact HF.out _ (List.mem_of_getElem? (get_pat (by rw [HN.out]; exact hlt2))))
          have HCp := Lib.hid (show pcan p = true from by
            have := lOk_at H3.out (i := i) (by rw [HN.out]; exact hlt2)
            unfold pOk at this
            rw [Bool.and_eq_true, hp] at this
            exact this.1)
          have HCT := Lib.hid (show catP (ps.take (i + 1)) = catP (ps.take i) ++ pbytes p from by rw [catP_take (by rw [HN.out]; exact hlt2), hp])
          have HLT := Lib.hid (show (hpre a b d N 5 ++ catP (ps.take i)).length = 20 + 24 * i from by rw [List.length_append, length_hpre, length_catP, List.length_take, HN.out]; omega)
          obtain ⟨X, hX⟩ : ∃ X, X = hpre a b d N 5 ++ catP (ps.take i) := ⟨_, rfl⟩
          rw [← hX] at HO4 HLT
          have HXX := Lib.hid hX
          obtain ⟨k0, k1, k2, k3, k4⟩ := hcell
          clear hp hX
          go_wp2_with fail
          refine (laid_any p _ HFp.out HCp.out).mono ?_
          rintro e w5 ⟨v5, rfl, hown5, hb5⟩
          have hbk : Below wr.heap.size wr (wr.alloc (.cells #[.int .u64 (p.key : Int), .int .i64 p.off, .int .i64 p.len, .int .u32 (p.cookie : Int), .bool p.gone] 53)) := (Below.refl _ _).alloc (Nat.le_refl _) _
          have hb45 : Below wr.heap.size wr w5 := hbk.trans (hb5.mono hbk.size)
          have hs5 : w.heap.size + 1 ≤ w5.heap.size := Nat.le_trans hs4 hb45.size
          have HB5 := Lib.hid (HB4.out.trans (hb45.mono (Nat.le_of_succ_le hs4)))
          have HO5 := Lib.hid (ownsRow_below HO4.out hb45 (Nat.le_refl _))
          have HN5 := Lib.hid (IsB.own hown5 (length_pbytes p).symm)
          clear hown5 hb5 hbk hb45 HO4 HB4 hs4 k0 k1 k2 k3 k4 hidx HV4
          go_wp2_with (at_builtin; refine wpList_append_B (by rfl) _ _ 27 rfl (w.heap.size + 1) 5 i0 Try.underlying27 hi hz0 hz1 hz2 _ X _ rfl HO5.out HLT.out.symm _ (pbytes p) rfl HN5.out (by rw [HLT.out, length_pbytes]; omega) hs5 ?_)
          intro v6 w6 hown6 hb6
          have hs6 : w.heap.size + 1 ≤ w6.heap.size := Nat.le_trans hs5 hb6.size
          have HB6 := Lib.hid (HB5.out.trans (hb6.mono (Nat.le_succ _)))
          have HO6 := Lib.hid (show w6.ownsRow (w.heap.size + 1) 5 1 v6 (20 + 24 * (i + 1)) (bvs (hpre a b d N 5 ++ catP (ps.take (i + 1)))) from by
            rw [HCT.out, ← List.append_assoc, ← HXX.out]
            rw [show 20 + 24 * (i + 1) = X.length + (pbytes p).length from by rw [HLT.out, length_pbytes]; omega]
            exact hown6)
          clear hown6 hb6 HB5 HO5 hs5
          go_wp2
          go_roundw
          case rel => exact ⟨_, _, _, _, _, _, _, _, _, _, _, ⟨i + 1, by omega, by go_num, HO6, HB6, hs6⟩, rfl⟩
          case measure => simp [intOf]; omega
        · obtain rfl : N = i := by omega
          have HBd := Lib.hid (show hpre a b d N 5 ++ catP (ps.take N) = cbody ⟨(a : Int), (b : Int), (d : Int), ps⟩ from by
            rw [List.take_of_length_le (by rw [HN.out]; exact Nat.le_refl _), ← HH.out]; rfl)
          rw [HBd.out] at HO4
          obtain ⟨Y, hY⟩ : ∃ Y, Y = cbody ⟨(a : Int), (b : Int), (d : Int), ps⟩ := ⟨_, rfl⟩
          have HYL := Lib.hid (show Y.length + 4 = C.length from by rw [HL.out, hY]; unfold cbody; rw [List.length_append, length_chead, length_catP]; show 20 + 24 * ps.length + 4 = _; rw [HN.out]; omega)
          have HYS := Lib.hid (show sealed Y = C from by rw [HC.out, hY]; rfl)
          rw [← hY] at HO4
          have hYl : Y.length ≤ 1099511627776 := by have := HYL.out; have := HL.out; omega
          have HYB := Lib.hid (IsB.own HO4.out (by have := HYL.out; have := HL.out; omega))
          clear hY
          go_wp2_with fail
          refine (seal_any _ Y _ HYB.out hYl).mono ?_
          rintro e w7 ⟨g, c7, rfl, hown7, hg1, hg2, hb7⟩
          rw [HYL.out] at hown7 ⊢
          rw [HYS.out] at hown7
          have HB7 := Lib.hid (HB4.out.trans (hb7.mono HB4.out.size))
          have HO7 := Lib.hid (ownsRow_base hown7 HB4.out.size)
          clear hown7 hb7
          go_wp2
          go_ret2
          exact ⟨g, c7, rfl, HO7.out, HB7.out⟩

end Go.Proofs.Ytengfglopagdmaa
