/- The statements of layer 5 (check): one bit turned. -/
import Derived.Test.YtdcdhcjjngjnjaaSame5b
import Derived.Test.YtdcdhcjjngjnjaaRef05
import Derived.Test.YtdcdhcjjngjnjaaLaw02
namespace Go.Proofs.Ytdcdhcjjngjnjaa
open Go.RowKit Go.Cor

set_option maxHeartbeats 1000000 in
theorem checkTurned_long (a b d : Int) (ps : List Pos) (v : Value) (k : Nat) (w : World) (hv : IsP w v ps) (h : 60 < ps.length) :
    Calls Try.prog 7 #[cval ⟨a, b, d, ps⟩ v, .int .u16 (k : Int)] w fun e w' => e = .returned (.bool true) ∧ Below w.heap.size w w' := by
  obtain ⟨N, hN⟩ : ∃ N, ps.length = N := ⟨_, rfl⟩
  obtain ⟨x, cap, rfl, hlc, hcm⟩ := hv.at_len hN
  have hb : decide ((60 : Int) < (N : Int)) = true := decide_eq_true (by omega)
  clear hv hN h
  go_enter Try.func7, Try.ntmps7
  go_wp2_with fail
  refine (alive5_any _).mono ?_
  rintro e w1 ⟨rfl, hb1⟩
  obtain ⟨q0, q1, q2, q3⟩ := (BoxC.new w a b d (.slice x N cap) 24).mono hb1 (by simp)
  have HB1 := Lib.hid ((((Below.refl w.heap.size w).alloc (Nat.le_refl _) _).trans (hb1.mono (by simp))) : Below w.heap.size w w1)
  clear hb1
  go_wp2
  go_ret
  exact ⟨rfl, HB1.out⟩

set_option maxHeartbeats 1000000 in
theorem checkTurned_not (a b d : Int) (ps : List Pos) (v : Value) (k : Nat) (w : World) (hv : IsP w v ps) (h : ps.length ≤ 60) (hq : cright ⟨a, b, d, ps⟩ ≠ 0) :
    Calls Try.prog 7 #[cval ⟨a, b, d, ps⟩ v, .int .u16 (k : Int)] w fun e w' => e = .returned (.bool true) ∧ Below w.heap.size w w' := by
  obtain ⟨N, hN⟩ : ∃ N, ps.length = N := ⟨_, rfl⟩
  have HV := Lib.hid hv
  obtain ⟨x, cap, rfl, hlc, hcm⟩ := hv.at_len hN
  have hb : decide ((60 : Int) < (N : Int)) = false := decide_eq_false (by omega)
  obtain ⟨q, hqq⟩ : ∃ q : Nat, cright ⟨a, b, d, ps⟩ = q := ⟨_, rfl⟩
  rw [hqq] at hq
  have HQ := Lib.hid hqq
  have hqb : ((q : Int) != 0) = true := by rw [bne_iff_ne]; omega
  clear hv hN h hqq hq
  go_enter Try.func7, Try.ntmps7
  go_wp2_with fail
  refine (alive5_any _).mono ?_
  rintro e w1 ⟨rfl, hb1⟩
  obtain ⟨q0, q1, q2, q3⟩ := (BoxC.new w a b d (.slice x N cap) 24).mono hb1 (by simp)
  have HB1 := Lib.hid ((((Below.refl w.heap.size w).alloc (Nat.le_refl _) _).trans (hb1.mono (by simp))) : Below w.heap.size w w1)
  clear hb1
  go_wp2_with fail
  refine (refright_any ⟨a, b, d, ps⟩ _ _ (HV.out.mono HB1.out (Nat.le_refl _))).mono ?_
  rintro e w2 ⟨rfl, hb2⟩
  rw [HQ.out]
  have HB2 := Lib.hid (HB1.out.trans (hb2.mono HB1.out.size))
  clear hb2 q0 q1 q2 q3
  go_wp2
  go_ret
  exact ⟨rfl, HB2.out⟩

set_option maxRecDepth 100000 in
set_option maxHeartbeats 4000000 in
theorem checkTurned_any (a b d : Int) (ps : List Pos) (v : Value) (k : Nat) (w : World) (hv : IsP w v ps) (hf : ∀ p ∈ ps, p.fits) (hk : k < 65536) (h : ps.length ≤ 60) (hq : cright ⟨a, b, d, ps⟩ = 0) :
    Calls Try.prog 7 #[cval ⟨a, b, d, ps⟩ v, .int .u16 (k : Int)] w fun e w' => e = .returned (.bool true) ∧ Below w.heap.size w w' := by
  obtain ⟨i0, hi, hz0, hz1, hz2⟩ := info_parts Try.infoU8
  obtain ⟨N, hN⟩ : ∃ N, ps.length = N := ⟨_, rfl⟩
  have HV := Lib.hid hv
  obtain ⟨x, cap, rfl, hlc, hcm⟩ := hv.at_len hN
  rw [hN] at h
  have hb60 : decide ((60 : Int) < (N : Int)) = false := decide_eq_false (by omega)
  have HQ := Lib.hid hq
  have HF := Lib.hid hf
  have HN := Lib.hid hN
  obtain ⟨L, hL⟩ : ∃ L, L = 24 + 24 * N := ⟨_, rfl⟩
  have hL2 : L ≤ 1500 := by omega
  have hL1 : 24 ≤ L := by omega
  obtain ⟨X, hX⟩ : ∃ X, X = cbytes ⟨a, b, d, ps⟩ := ⟨_, rfl⟩
  have HXL := Lib.hid (show X.length = L from by rw [hX, length_cbytes, hL, ← hN])
  obtain ⟨i, hi8⟩ : ∃ i : Nat, i = k % (8 * L) := ⟨_, rfl⟩
  have hib : i < 8 * L := by rw [hi8]; exact Nat.mod_lt _ (by omega)
  have hqL : i / 8 < L := by omega
  have hii : (k : Int) % (8 * (L : Int)) = (i : Int) := by rw [hi8]; simp
  obtain ⟨y, hy⟩ : ∃ y : Nat, y = (X.getD (i / 8) 0).toNat := ⟨_, rfl⟩
  have hy8 : y < 256 := by rw [hy]; exact UInt8.toNat_lt _
  obtain ⟨z, hz, hzne⟩ := flip_byte y hy8 i
  have HBad := Lib.hid (show ¬ sumOk (X.set (i / 8) z) from by
    rw [hX]
    refine flipped_bad (cbody ⟨a, b, d, ps⟩) (i / 8) z ?_ ?_
    · have e := length_sealed (cbody ⟨a, b, d, ps⟩)
      have e2 := HXL.out
      rw [hX] at e2
      have e3 : (sealed (cbody ⟨a, b, d, ps⟩)).length = L := e2
      omega
    · show z.toNat ≠ ((cbytes ⟨a, b, d, ps⟩).getD (i / 8) 0).toNat
      rw [← hX, ← hy]
      exact hzne)
  have HY := Lib.hid hy
  have HZ := Lib.hid hz
  have HXX := Lib.hid hX
  clear hv hN hf hq hL hX hi8 hy hz hzne
  go_enter Try.func7, Try.ntmps7
  go_wp2_with fail
  refine (alive5_any _).mono ?_
  rintro e w1 ⟨rfl, hb1⟩
  have HX1 := Lib.hid ((BoxC.new w a b d (.slice x N cap) 24).mono hb1 (by simp))
  have hs1 : w.heap.size + 1 ≤ w1.heap.size := Nat.le_trans (by simp) hb1.size
  have HB1 := Lib.hid ((((Below.refl w.heap.size w).alloc (Nat.le_refl _) _).trans (hb1.mono (by simp))) : Below w.heap.size w w1)
  clear hb1
  obtain ⟨q0, q1, q2, q3⟩ := HX1.out
  go_wp2_with fail
  refine (refright_any ⟨a, b, d, ps⟩ _ _ (HV.out.mono HB1.out (Nat.le_refl _))).mono ?_
  rintro e w2 ⟨rfl, hb2⟩
  rw [HQ.out]
  have HX2 := Lib.hid (HX1.out.mono hb2 hs1)
  have hs2 : w.heap.size + 1 ≤ w2.heap.size := Nat.le_trans hs1 hb2.size
  have HB2 := Lib.hid (HB1.out.trans (hb2.mono HB1.out.size))
  clear hb2 q0 q1 q2 q3 HX1 HB1 hs1
  obtain ⟨q0, q1, q2, q3⟩ := HX2.out
  go_wp2_with fail
  refine (ofc_any ⟨a, b, d, ps⟩ _ _ (HV.out.mono HB2.out (Nat.le_refl _)) (by show ps.length ≤ _; rw [HN.out]; omega)).mono ?_
  rintro e w3 ⟨x3, c3, rfl, hown3, hb3⟩
  have HP3 := Lib.hid (show IsP w3 (.slice x3 N c3) ps from by have := IsP.own hown3 rfl; rwa [show (Chk.mk a b d ps).l.length = N from HN.out] at this)
  simp only [HN.out]
  have HX3 := Lib.hid (HX2.out.mono hb3 hs2)
  have hs3 : w.heap.size + 1 ≤ w3.heap.size := Nat.le_trans hs2 hb3.size
  have HB3 := Lib.hid (HB2.out.trans (hb3.mono HB2.out.size))
  clear hown3 hb3 q0 q1 q2 q3 HX2 HB2 hs2
  go_wp2_with fail
  refine (put_okC ⟨a, b, d, ps⟩ _ _ HP3.out HF.out HQ.out).mono ?_
  rintro e w4 ⟨g4, c4, rfl, hown4, hb4⟩
  rw [← HXX.out] at hown4 ⊢
  rw [HXL.out] at hown4 ⊢
  have HO4 := Lib.hid hown4
  have hg4 := hown4.lt g4 rfl
  have HX4 := Lib.hid (HX3.out.mono hb4 hs3)
  have hs4 : w.heap.size + 1 ≤ w4.heap.size := Nat.le_trans hs3 hb4.size
  have HB4 := Lib.hid (HB3.out.trans (hb4.mono HB3.out.size))
  have HB3s := HB3.out.size
  clear hown4 hb4 HX3 HB3 hs3
  have hcell : w4.cell? ⟨g4, i / 8, none⟩ = some (.int .u8 (y : Int)) := by rw [HO4.out.cellAt (i / 8) (by omega), bvs_get (by rw [HXL.out]; exact hqL), HY.out]
  have hfroz := HO4.out.frozenAt (i / 8)
  have hO5 := (HO4.out.stored (i / 8) (.int .u8 (z.toNat : Int))).1
  rw [bvs_set] at hO5
  have HI5 := Lib.hid (IsB.own hO5 (show L = (X.set (i / 8) z).length from by rw [List.length_set]; exact HXL.out.symm))
  have HB5 := Lib.hid (HB4.out.setCell (p := ⟨g4, i / 8, none⟩) (Nat.le_trans HB3s hg4.1) (.int .u8 (z.toNat : Int)))
  clear hO5
  go_wp2_with fail
  rw [HZ.out]
  have hT := get_turned (c := ⟨a, b, d, ps⟩) HBad.out
  refine (cget_any _ (X.set (i / 8) z) _ HI5.out (by rw [List.length_set, HXL.out]; omega)).mono ?_
  rintro e w6 ⟨x6, c6, rfl, _, hb6⟩
  obtain ⟨kk, hkk⟩ : ∃ kk : Nat, getK (X.set (i / 8) z) = kk := ⟨_, rfl⟩
  rw [hkk] at hT ⊢
  obtain ⟨hk3, hk5, hrc⟩ := hT
  rw [hrc]
  have HB6 := Lib.hid (HB5.out.trans (hb6.mono HB5.out.size))
  have hz6 := HB6.out.size
  clear hb6 hkk hrc hcell hfroz
  go_wp2_with fail
  refine (code_cerr kk _ (by omega)).mono ?_
  rintro e w' ⟨rfl, rfl⟩
  have hd3 : decide ((3 : Int) ≤ (kk : Int)) = true := decide_eq_true (by omega)
  have hd5 : decide ((kk : Int) ≤ 5) = true := decide_eq_true (by omega)
  have hcz : czero.l.length = 0 := rfl
  have hcv : czero.vol = 0 := rfl
  go_wp2
  go_ret
  exact ⟨rfl, HB6.out.alloc hz6 _⟩

theorem checkTurned_all (c : Chk) (v : Value) (k : Nat) (w : World) (hv : IsP w v c.l) (hf : ∀ p ∈ c.l, p.fits) (hk : k < 65536) :
    Calls Try.prog 7 #[cval c v, .int .u16 (k : Int)] w fun e w' => e = .returned (.bool true) ∧ Below w.heap.size w w' := by
  obtain ⟨a, b, d, ps⟩ := c
  by_cases h : 60 < ps.length
  · exact checkTurned_long a b d ps v k w hv h
  · by_cases hq : cright ⟨a, b, d, ps⟩ = 0
    · exact checkTurned_any a b d ps v k w hv hf hk (by omega) hq
    · exact checkTurned_not a b d ps v k w hv (by omega) hq

end Go.Proofs.Ytdcdhcjjngjnjaa
