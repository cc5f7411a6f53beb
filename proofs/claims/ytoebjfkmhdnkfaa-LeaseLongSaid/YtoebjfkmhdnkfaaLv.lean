/- Package corncriblaw18: LeaseLong. -/
import Derived.Test.YtoebjfkmhdnkfaaLp
import Derived.Test.YtoebjfkmhdnkfaaOpen18
namespace Go.Proofs.Ytoebjfkmhdnkfaa
open Go.RowKit Go.Cor
set_option linter.unusedVariables false
set_option linter.unusedSimpArgs false

theorem Try.sizeU818 : (Try.prog.info? 5).map (·.size) = some 1 := by kernel_rfl
set_option maxRecDepth 100000 in
set_option maxHeartbeats 4000000 in
theorem leaseLong_all (t : Nat) (v : Value) (l : List Nat) (w : World) (ht : t < 256) (hv : IsX w 1 v l.length (row ycl l)) (hG : ∀ x ∈ l, x < 256) :
    Calls Try.prog 4 #[.int .u8 (t : Int), v] w fun e w' => e = .returned (.bool true) ∧ Below w.heap.size w w' := by
  obtain ⟨N, hN⟩ : ∃ N, l.length = N := ⟨_, rfl⟩
  rw [hN] at hv
  have hlen := fun W => len_X (P := Try.prog) hv 39 3 5 Try.underlying39 W
  have HV := Lib.hid hv
  have HN := Lib.hid hN
  clear hv hN
  by_cases hbig : 100 < N
  · have hbig' : (100 : Int) < (N : Int) := by omega
    go_enter Try.func4, Try.ntmps4
    go_wp2_with (go_at_call 6; refine (alive18 _).mono ?_; rintro e w1 ⟨rfl, hb1⟩)
    go_ret
    exact ⟨rfl, hb1⟩
  have hbig' : ¬ (100 : Int) < (N : Int) := by omega
  obtain ⟨n, hn⟩ : ∃ n, 1 + t = n := ⟨_, rfl⟩
  have hn' : (1 : Int) + (t : Int) = (n : Int) := by omega
  have HNN := Lib.hid (show 1 ≤ n ∧ n ≤ 256 from by omega)
  have hNmx : N ≤ 100 := by omega
  have HNX := Lib.hid hNmx
  have HGG := Lib.hid hG
  clear hn hbig hNmx hG
  go_enter Try.func4, Try.ntmps4
  go_wp2_with fail
  refine (alive18 _).mono ?_
  rintro e w1 ⟨rfl, hb1⟩
  have HB1 := Lib.hid hb1
  clear hb1
  go_wp2_with fail
  refine (lnew_ok n _ HNN.out.1 (by have := HNN.out.2; omega)).mono ?_
  rintro e w2 ⟨g, rfl, hg, h2, hb2⟩
  have HG := Lib.hid (Nat.le_trans HB1.out.size hg)
  have HB2 := Lib.hid (HB1.out.trans (hb2.mono HB1.out.size))
  have H2 := Lib.hid h2
  clear hg h2 hb2 hn' ht
  go_wp2_with fail
  refine (take_p (a := 9) (now := 0) H2.out (Nat.le_refl _) (by decide) (by decide) (by decide) (fun h => by cases h)).mono ?_
  rintro e w3 ⟨rfl, h3⟩
  have H3 := Lib.hid h3.at_
  have HB3 := Lib.hid (HB2.out.trans (h3.below HB2.out.size HG.out))
  clear h3
  go_wp2_with (go_at_call 9; first | (with_reducible refine (code_nil _).mono ?_; rintro e wc ⟨rfl, rfl⟩) | (with_reducible refine (code_code _ _ (by decide) (by decide)).mono ?_; rintro e wc ⟨rfl, rfl⟩))
  go_loopw [10, 11] (fun now c wr => ∃ (i M T : Nat), i ≤ N ∧ c = .int .i64 i ∧ now = .int .i64 M ∧ Hid (M ≤ i * 256) ∧ Hid (LsAt wr g ⟨n, T, true, 9, 1, M⟩) ∧ Hid (T ≤ M) ∧ Hid (Below w.heap.size w wr)) (fun _ c _ => N - (intOf c).toNat)
  case atStart => exact ⟨0, 0, 0, Nat.zero_le _, rfl, rfl, Lib.hid (by omega), H3, Lib.hid (Nat.le_refl _), HB3⟩
  case round =>
    obtain ⟨i, M, T, hiN, rfl, rfl, HM, HL, HT, HB⟩ := hrel
    by_cases hlt : i < N
    · have hlt' : (i : Int) < (N : Int) := by omega
      have HI := Lib.hid hlt
      obtain ⟨y, hy⟩ := (⟨_, List.getElem?_eq_getElem (l := l) (i := i) (by rw [HN.out]; exact hlt)⟩ : ∃ d, l[i]? = some d)
      have hyb := HGG.out y (List.mem_of_getElem? hy)
      obtain ⟨b, o, hidx, _, hcell⟩ := indexAt_X (P := Try.prog) HV.out 39 5 Try.underlying39 Try.sizeU818 i hlt
      have hc0 := (hcell 0 (by decide)).trans (row_get (enc := ycl) (size := 1) (fun _ => rfl) hy 0 (by decide))
      have hc0' : w.cell? ⟨b, o, none⟩ = some (.int .u8 (y : Int)) := hc0
      have c0 : wr.cell? ⟨b, o, none⟩ = some (.int .u8 (y : Int)) := (World.cell?_of_block (w := w) (HB.out.block b (cell_lt hc0'))).trans hc0'
      obtain ⟨z, hz⟩ : ∃ z, y % n = z := ⟨_, rfl⟩
      have HZ := Lib.hid (show z < n from by rw [← hz]; exact Nat.mod_lt _ HNN.out.1)
      have HZE := Lib.hid (show ((y : Int) % (n : Int)) = (z : Int) from by rw [← hz]; rfl)
      have hn1 : 1 ≤ n := HNN.out.1
      have hn2 : n ≤ 256 := HNN.out.2
      clear hc0 hc0' hcell hy hz hlt
      go_wp2_with fail
      rw [HZE.out]
      clear c0 hidx
      have hz9 : z ≤ 256 := by have := HZ.out; omega
      have hM9 : M ≤ 25600 := by have := HM.out; have := HNX.out; have := HI.out; omega
      go_loopw [13] (fun c wx => ∃ (k T2 : Nat), k ≤ z + 1 ∧ c = .int .i64 k ∧ Hid (LsAt wx g ⟨n, T2, true, 9, 1, M⟩) ∧ Hid (T2 ≤ M + (k - 1)) ∧ Hid (Below w.heap.size w wx)) (fun c _ => z + 1 - (intOf c).toNat)
      case atStart => exact ⟨0, T, Nat.zero_le _, rfl, HL, HT, HB⟩
      case round =>
        obtain ⟨k, T2, hk, rfl, HL2, HT2, HBI⟩ := hrel
        have HK := Lib.hid hk
        by_cases hkz : k ≤ z
        · have HKZ := Lib.hid hkz
          obtain ⟨p, hp⟩ : ∃ p, M + k = p := ⟨_, rfl⟩
          obtain ⟨r, hr⟩ : ∃ r, n - k = r := ⟨_, rfl⟩
          have HPP := Lib.hid hp
          have HRR := Lib.hid hr
          have HP := Lib.hid (show (M : Int) + (k : Int) = (p : Int) from by omega)
          have hR : (n : Int) - (k : Int) = (r : Int) := by have := HZ.out; omega
          clear hp hr
          go_wp2_with fail
          rw [HP.out]
          refine (left_p (now := p) (r := r) HL2.out (by have := HPP.out; have := HT2.out; omega) (by have := HPP.out; omega) (by have := HPP.out; have := HRR.out; omega)).mono ?_
          rintro e w4 ⟨rfl, h4⟩
          have H4 := Lib.hid h4.at_
          have HB4 := Lib.hid (HBI.out.trans (h4.below HBI.out.size HG.out))
          clear h4
          go_wp2_with fail
          clear hR
          go_roundw
          case rel => exact ⟨k + 1, p, by have := HKZ.out; omega, by simp, H4, Lib.hid (by have := HPP.out; omega), HB4⟩
          case measure => simp [intOf] <;> (have := HKZ.out; omega)
        · obtain rfl : k = z + 1 := by omega
          obtain ⟨p, hp⟩ : ∃ p, M + z = p := ⟨_, rfl⟩
          have HPP := Lib.hid hp
          have HP := Lib.hid (show (M : Int) + (z : Int) = (p : Int) from by omega)
          have HTP := Lib.hid (show T2 ≤ p from by have := HT2.out; omega)
          clear hp
          go_wp2_with fail
          rw [HP.out]
          refine (keep_p (a := 9) (ep := 1) (now := p) HL2.out HTP.out (by have := HPP.out; omega) (by have := HPP.out; have := HZ.out; omega) rfl rfl).mono ?_
          rintro e w4 ⟨rfl, h4⟩
          have H4 := Lib.hid h4.at_
          have HB4 := Lib.hid (HBI.out.trans (h4.below HBI.out.size HG.out))
          clear h4
          go_wp2_with (go_at_call 9; first | (with_reducible refine (code_nil _).mono ?_; rintro e wc ⟨rfl, rfl⟩) | (with_reducible refine (code_code _ _ (by decide) (by decide)).mono ?_; rintro e wc ⟨rfl, rfl⟩))
          go_roundw
          case rel => exact ⟨i + 1, p, p, by have := HI.out; omega, by simp, rfl, Lib.hid (by have := HPP.out; have := HM.out; have := HZ.out; have := HNN.out; omega), H4, Lib.hid (Nat.le_refl _), HB4⟩
          case measure => simp [intOf] <;> (have := HI.out; omega)
    · obtain rfl : N = i := by omega
      obtain ⟨p, hp⟩ : ∃ p, M + n = p := ⟨_, rfl⟩
      have HPP := Lib.hid hp
      have HP := Lib.hid (show (M : Int) + (n : Int) = (p : Int) from by omega)
      have hM9 : M ≤ 25600 := by have := HM.out; have := HNX.out; omega
      have hn2 : n ≤ 256 := HNN.out.2
      clear hp
      go_wp2_with fail
      refine (holder_p (now := M) HL.out HT.out (by omega) (by have := HNN.out; omega)).mono ?_
      rintro e w4 ⟨rfl, h4⟩
      have H4 := Lib.hid h4.at_
      have HB4 := Lib.hid (HB.out.trans (h4.below HB.out.size HG.out))
      clear h4
      go_wp2_with fail
      rw [HP.out]
      refine (keep_n (a := 9) (ep := 1) (now := p) H4.out (by have := HPP.out; omega) (by have := HPP.out; omega) (fun _ h => by have := HPP.out; omega)).mono ?_
      rintro e w5 ⟨rfl, h5⟩
      have H5 := Lib.hid h5.at_
      have HB5 := Lib.hid (HB4.out.trans (h5.below HB4.out.size HG.out))
      clear h5
      go_wp2_with (go_at_call 9; first | (with_reducible refine (code_nil _).mono ?_; rintro e wc ⟨rfl, rfl⟩) | (with_reducible refine (code_code _ _ (by decide) (by decide)).mono ?_; rintro e wc ⟨rfl, rfl⟩))
      rw [HP.out]
      refine (left_z (now := p) H5.out (Nat.le_refl _) (by have := HPP.out; omega) (fun _ => by have := HPP.out; omega)).mono ?_
      rintro e w6 ⟨rfl, h6⟩
      have H6 := Lib.hid h6.at_
      have HB6 := Lib.hid (HB5.out.trans (h6.below HB5.out.size HG.out))
      clear h6
      go_wp2_with fail
      go_ret
      exact ⟨rfl, HB6.out⟩
end Go.Proofs.Ytoebjfkmhdnkfaa
