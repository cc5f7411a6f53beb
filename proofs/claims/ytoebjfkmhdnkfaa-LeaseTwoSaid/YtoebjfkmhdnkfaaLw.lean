/- Package corncriblaw18: LeaseTwo. -/
import Derived.Test.YtoebjfkmhdnkfaaLp
import Derived.Test.YtoebjfkmhdnkfaaOpen18
namespace Go.Proofs.Ytoebjfkmhdnkfaa
open Go.RowKit Go.Cor
set_option linter.unusedVariables false
set_option linter.unusedSimpArgs false

theorem Try.sizeAct18 : (Try.prog.info? 30).map (·.size) = some 4 := by kernel_rfl
set_option maxRecDepth 100000 in
set_option maxHeartbeats 4000000 in
theorem leaseTwo_all (t : Nat) (v : Value) (l : List A18) (w : World) (ht : t < 256) (hv : IsX w 4 v l.length (row acl18 l)) :
    Calls Try.prog 3 #[.int .u8 (t : Int), v] w fun e w' => e = .returned (.bool true) ∧ Below w.heap.size w w' := by
  obtain ⟨N, hN⟩ : ∃ N, l.length = N := ⟨_, rfl⟩
  rw [hN] at hv
  have hlen := fun W => len_X (P := Try.prog) hv 22 3 30 Try.underlying22 W
  have HV := Lib.hid hv
  have HN := Lib.hid hN
  clear hv hN
  by_cases hbig : 100 < N
  · have hbig' : (100 : Int) < (N : Int) := by omega
    go_enter Try.func3, Try.ntmps3
    go_wp2_with (go_at_call 6; refine (alive18 _).mono ?_; rintro e w1 ⟨rfl, hb1⟩)
    go_ret
    exact ⟨rfl, hb1⟩
  have hbig' : ¬ (100 : Int) < (N : Int) := by omega
  obtain ⟨n, hn⟩ : ∃ n, 1 + t = n := ⟨_, rfl⟩
  have hn' : (1 : Int) + (t : Int) = (n : Int) := by omega
  have HNN := Lib.hid (show 1 ≤ n ∧ n ≤ 256 from by omega)
  have hNmx : N ≤ 100 := by omega
  have HNX := Lib.hid hNmx
  clear hn hbig hNmx
  go_enter Try.func3, Try.ntmps3
  go_wp2_with fail
  refine (alive18 _).mono ?_
  rintro e w1 ⟨rfl, hb1⟩
  have HB1 := Lib.hid hb1
  clear hb1
  go_wp2_with fail
  refine (lnew_ok n _ HNN.out.1 (by have := HNN.out.2; omega)).mono ?_
  rintro e w2 ⟨g, rfl, hg, h2, hb2⟩
  have HG := Lib.hid (Nat.le_trans HB1.out.size hg)
  have HB2 := Lib.hid (HB1.out.trans (hb2.mono HB1.out.size))
  have H2 := Lib.hid h2
  clear hg h2 hb2 hn' ht
  go_wp2_with fail
  go_loopw [8, 9, 10] (fun last now c wr => ∃ (i M T E : Nat) (D : Bool) (O F : Nat), i ≤ N ∧ c = .int .i64 i ∧ now = .int .i64 M ∧ last = .int .i64 E ∧ Hid (M ≤ i * 320) ∧ Hid (E ≤ i) ∧ Hid (LsAt wr g ⟨n, T, D, O, E, F⟩) ∧ Hid (T ≤ M) ∧ Hid (O ≤ 1) ∧ Hid (Below w.heap.size w wr)) (fun _ _ c _ => N - (intOf c).toNat)
  case atStart => exact ⟨0, 0, 0, 0, false, 0, 0, Nat.zero_le _, rfl, rfl, rfl, Lib.hid (by omega), Lib.hid (by omega), H2, Lib.hid (Nat.le_refl _), Lib.hid (by omega), HB2⟩
  case round =>
    obtain ⟨i, M, T, E, D, O, F, hiN, rfl, rfl, rfl, HM, HE, HL, HT, HO, HB⟩ := hrel
    by_cases hlt : i < N
    · have hlt' : (i : Int) < (N : Int) := by omega
      have HI := Lib.hid hlt
      obtain ⟨⟨ak, aw, ae, an⟩, hy⟩ := (⟨_, List.getElem?_eq_getElem (l := l) (i := i) (by rw [HN.out]; exact hlt)⟩ : ∃ d, l[i]? = some d)
      obtain ⟨b, o, hidx, _, hcell⟩ := indexAt_X (P := Try.prog) HV.out 22 30 Try.underlying22 Try.sizeAct18 i hlt
      have hc1 := (hcell 1 (by decide)).trans (row_get (enc := acl18) (size := 4) (fun _ => rfl) hy 1 (by decide))
      have hc3 := (hcell 3 (by decide)).trans (row_get (enc := acl18) (size := 4) (fun _ => rfl) hy 3 (by decide))
      have hc1' : w.cell? ⟨b, o + 1, none⟩ = some (.int .i64 aw) := hc1
      have hc3' : w.cell? ⟨b, o + 3, none⟩ = some (.int .i64 an) := hc3
      have c1 : wr.cell? ⟨b, o + 1, none⟩ = some (.int .i64 aw) := (World.cell?_of_block (w := w) (HB.out.block b (cell_lt hc1'))).trans hc1'
      have c3 : wr.cell? ⟨b, o + 3, none⟩ = some (.int .i64 an) := (World.cell?_of_block (w := w) (HB.out.block b (cell_lt hc3'))).trans hc3'
      have hn1 : 1 ≤ n := HNN.out.1
      have hn2 : n ≤ 256 := HNN.out.2
      obtain ⟨u, hu, hA⟩ : ∃ u : Nat, u ≤ 1 ∧ bits .and .i64 aw 1 = (u : Int) := and_mask aw 1 (by decide)
      obtain ⟨z, hz, hZ⟩ : ∃ z : Nat, z ≤ 63 ∧ bits .and .i64 an 63 = (z : Int) := and_mask an 63 (by decide)
      have hZ2 : ((z : Int) + 64) % 64 = (z : Int) := by omega
      have hM9 : M ≤ 32000 := by have := HM.out; have := HNX.out; omega
      clear hc1 hc1' hc3 hc3' hcell hy hlt
      obtain ⟨p, hp⟩ : ∃ p, M + z = p := ⟨_, rfl⟩
      have HPP := Lib.hid (show M + z = p ∧ z ≤ 63 from ⟨hp, hz⟩)
      have HP := Lib.hid (show (M : Int) + (z : Int) = (p : Int) from by omega)
      have hp9 : p ≤ 33000 := by omega
      obtain ⟨q, hq⟩ : ∃ q, 1 - u = q := ⟨_, rfl⟩
      have hQ : (1 : Int) - (u : Int) = (q : Int) := by omega
      have HU := Lib.hid (show u ≤ 1 ∧ q ≤ 1 ∧ u + q = 1 from by omega)
      have hE9 : E ≤ 100 := by have := HE.out; have := HNX.out; omega
      clear hp hq
      go_wp2_with fail
      rw [HP.out]
      clear c1 c3 hidx hA hZ hZ2
      by_cases hb : D = true ∧ p - F < n ∧ O ≠ u
      · obtain ⟨rfl, hb2, hb3⟩ := hb
        have HB2 := Lib.hid hb2
        have HB3 := Lib.hid hb3
        obtain rfl : O = q := by have := HO.out; have := HU.out; omega
        clear hb2 hb3
        refine (busy_p (a := u) (now := p) HL.out (by have := HT.out; have := HPP.out; omega) (by omega) (by have := HU.out; omega) HB2.out HB3.out).mono ?_
        rintro e w4 ⟨rfl, h4⟩
        have H4 := Lib.hid h4.at_
        have HB4 := Lib.hid (HB.out.trans (h4.below HB.out.size HG.out))
        clear h4
        go_wp2_with (go_at_call 9; first | (with_reducible refine (code_nil _).mono ?_; rintro e wc ⟨rfl, rfl⟩) | (with_reducible refine (code_code _ _ (by decide) (by decide)).mono ?_; rintro e wc ⟨rfl, rfl⟩))
        refine (holder_p (now := p) H4.out (Nat.le_refl _) (by omega) HB2.out).mono ?_
        rintro e w5 ⟨rfl, h5⟩
        have H5 := Lib.hid h5.at_
        have HB5 := Lib.hid (HB4.out.trans (h5.below HB4.out.size HG.out))
        clear h5
        obtain ⟨r, hr⟩ : ∃ r, n - (p - F) = r := ⟨_, rfl⟩
        have HR := Lib.hid hr
        have hr1 : ¬ (r : Int) < 1 := by have := HB2.out; omega
        have hr2 : ¬ (r : Int) > (n : Int) := by omega
        clear hr
        go_wp2_with (go_at_call 9; first | (with_reducible refine (code_nil _).mono ?_; rintro e wc ⟨rfl, rfl⟩) | (with_reducible refine (code_code _ _ (by decide) (by decide)).mono ?_; rintro e wc ⟨rfl, rfl⟩))
        refine (left_p (now := p) (r := r) H5.out (Nat.le_refl _) (by omega) HR.out).mono ?_
        rintro e w6 ⟨rfl, h6⟩
        have H6 := Lib.hid h6.at_
        have HB6 := Lib.hid (HB5.out.trans (h6.below HB5.out.size HG.out))
        clear h6
        go_wp2_with fail
        refine (left_p (now := p) (r := r) H6.out (Nat.le_refl _) (by omega) HR.out).mono ?_
        rintro e w7 ⟨rfl, h7⟩
        have H7 := Lib.hid h7.at_
        have HB7 := Lib.hid (HB6.out.trans (h7.below HB6.out.size HG.out))
        clear h7
        go_wp2_with fail
        go_roundw
        case rel => exact ⟨i + 1, p, p, E, true, O, F, by have := HI.out; omega, by simp, rfl, rfl, Lib.hid (by have := HPP.out; have := HM.out; omega), Lib.hid (by have := HE.out; omega), H7, Lib.hid (Nat.le_refl _), HO, HB7⟩
        case measure => simp [intOf] <;> (have := HI.out; omega)
      · have HF := Lib.hid (show D = true → p - F < n → O = u from fun h1 h2 => by
          by_cases h3 : O = u
          · exact h3
          · exact absurd ⟨h1, h2, h3⟩ hb)
        obtain ⟨m, hm⟩ : ∃ m, p + n - 1 = m := ⟨_, rfl⟩
        have HMm := Lib.hid hm
        have HMM := Lib.hid (show (p : Int) + (n : Int) - 1 = (m : Int) from by have := HNN.out; omega)
        clear hb hm
        refine (take_p (a := u) (now := p) HL.out (by have := HT.out; have := HPP.out; omega) (by omega) (by have := HU.out; omega) (by omega) HF.out).mono ?_
        rintro e w4 ⟨rfl, h4⟩
        have H4 := Lib.hid h4.at_
        have HB4 := Lib.hid (HB.out.trans (h4.below HB.out.size HG.out))
        clear h4
        go_wp2_with (go_at_call 9; first | (with_reducible refine (code_nil _).mono ?_; rintro e wc ⟨rfl, rfl⟩) | (with_reducible refine (code_code _ _ (by decide) (by decide)).mono ?_; rintro e wc ⟨rfl, rfl⟩))
        rw [HMM.out]
        refine (keep_p (a := (u : Int)) (ep := (E : Int) + 1) (now := m) H4.out (by have := HMm.out; omega) (by have := HMm.out; omega) (by have := HMm.out; omega) rfl rfl).mono ?_
        rintro e w5 ⟨rfl, h5⟩
        have H5 := Lib.hid h5.at_
        have HB5 := Lib.hid (HB4.out.trans (h5.below HB4.out.size HG.out))
        clear h5
        go_wp2_with fail
        rw [HMM.out]
        refine (keep_n (a := (q : Int)) (ep := (E : Int) + 1) (now := m) H5.out (Nat.le_refl _) (by have := HMm.out; omega) (fun _ _ h => by have := HU.out; omega)).mono ?_
        rintro e w6 ⟨rfl, h6⟩
        have H6 := Lib.hid h6.at_
        have HB6 := Lib.hid (HB5.out.trans (h6.below HB5.out.size HG.out))
        clear h6
        go_wp2_with (go_at_call 9; first | (with_reducible refine (code_nil _).mono ?_; rintro e wc ⟨rfl, rfl⟩) | (with_reducible refine (code_code _ _ (by decide) (by decide)).mono ?_; rintro e wc ⟨rfl, rfl⟩))
        rw [HMM.out]
        refine (left_p (now := m) (r := n) H6.out (Nat.le_refl _) (by have := HMm.out; omega) (by omega)).mono ?_
        rintro e w7 ⟨rfl, h7⟩
        have H7 := Lib.hid h7.at_
        have HB7 := Lib.hid (HB6.out.trans (h7.below HB6.out.size HG.out))
        clear h7
        go_wp2_with fail
        go_roundw
        case rel => exact ⟨i + 1, m, m, E + 1, true, u, m, by have := HI.out; omega, by simp, by rw [HMM.out], by simp, Lib.hid (by have := HPP.out; have := HM.out; have := HMm.out; omega), Lib.hid (by have := HE.out; omega), H7, Lib.hid (Nat.le_refl _), Lib.hid HU.out.1, HB7⟩
        case measure => simp [intOf] <;> (have := HI.out; omega)
    · obtain rfl : N = i := by omega
      go_wp2_with (first | (go_at_call 9; refine (code_code _ _ (by decide) (by decide)).mono ?_; rintro e wc ⟨rfl, rfl⟩) | (go_at_call 8; refine (ltake_nil _ _ _).mono ?_; rintro e wc ⟨rfl, rfl⟩) | (go_at_call 10; refine (lholder_nil _ _).mono ?_; rintro e wc ⟨rfl, rfl⟩) | (go_at_call 12; refine (lkeep_nil _ _ _ _).mono ?_; rintro e wc ⟨rfl, rfl⟩) | (go_at_call 13; refine (ldrop_nil _ _ _ _).mono ?_; rintro e wc ⟨rfl, rfl⟩) | (go_at_call 11; refine (lleft_nil _ _).mono ?_; rintro e wc ⟨rfl, rfl⟩))
      go_ret
      exact ⟨rfl, HB.out⟩
end Go.Proofs.Ytoebjfkmhdnkfaa
