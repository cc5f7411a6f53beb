/- Package corncriblaw18: LeaseTurns. -/
import Derived.Test.YtoebjfkmhdnkfaaLp
import Derived.Test.YtoebjfkmhdnkfaaOpen18
namespace Go.Proofs.Ytoebjfkmhdnkfaa
open Go.RowKit Go.Cor
set_option linter.unusedVariables false
set_option linter.unusedSimpArgs false

theorem Try.sizeBool18 : (Try.prog.info? 4).map (·.size) = some 1 := by kernel_rfl
set_option maxRecDepth 100000 in
set_option maxHeartbeats 4000000 in
theorem leaseTurns_all (t : Nat) (v : Value) (l : List Bool) (w : World) (ht : t < 256) (hv : IsX w 1 v l.length (row bcl l)) :
    Calls Try.prog 5 #[.int .u8 (t : Int), v] w fun e w' => e = .returned (.bool true) ∧ Below w.heap.size w w' := by
  obtain ⟨N, hN⟩ : ∃ N, l.length = N := ⟨_, rfl⟩
  rw [hN] at hv
  have hlen := fun W => len_X (P := Try.prog) hv 41 3 4 Try.underlying41 W
  have HV := Lib.hid hv
  have HN := Lib.hid hN
  clear hv hN
  by_cases hbig : 60 < N
  · have hbig' : (60 : Int) < (N : Int) := by omega
    go_enter Try.func5, Try.ntmps5
    go_wp2_with (go_at_call 6; refine (alive18 _).mono ?_; rintro e w1 ⟨rfl, hb1⟩)
    go_ret
    exact ⟨rfl, hb1⟩
  have hbig' : ¬ (60 : Int) < (N : Int) := by omega
  obtain ⟨n, hn⟩ : ∃ n, 1 + t = n := ⟨_, rfl⟩
  have hn' : (1 : Int) + (t : Int) = (n : Int) := by omega
  have HNN := Lib.hid (show 1 ≤ n ∧ n ≤ 256 from by omega)
  have hN60 : N ≤ 60 := by omega
  have HN60 := Lib.hid hN60
  clear hn hbig hN60
  go_enter Try.func5, Try.ntmps5
  go_wp2_with fail
  refine (alive18 _).mono ?_
  rintro e w1 ⟨rfl, hb1⟩
  have HB1 := Lib.hid hb1
  clear hb1
  go_wp2_with fail
  refine (lnew_ok n _ HNN.out.1 (by have := HNN.out.2; omega)).mono ?_
  rintro e w2 ⟨g, rfl, hg, h2, hb2⟩
  have HG := Lib.hid (Nat.le_trans HB1.out.size hg)
  have HB2 := Lib.hid (HB1.out.trans (hb2.mono HB1.out.size))
  have H2 := Lib.hid h2
  clear hg h2 hb2 hn' ht
  go_wp2_with fail
  go_loopw [8, 9] (fun now c wr => ∃ (i M T : Nat) (D : Bool) (O F : Nat), i ≤ N ∧ c = .int .i64 i ∧ now = .int .i64 M ∧ Hid (M ≤ i * 256) ∧ Hid (LsAt wr g ⟨n, T, D, O, i, F⟩) ∧ Hid (T ≤ M) ∧ Hid (D = true → n ≤ M - F) ∧ Hid (Below w.heap.size w wr)) (fun _ c _ => N - (intOf c).toNat)
  case atStart => exact ⟨0, 0, 0, false, 0, 0, Nat.zero_le _, rfl, rfl, Lib.hid (by omega), H2, Lib.hid (Nat.le_refl _), Lib.hid (fun h => by cases h), HB2⟩
  case round =>
    obtain ⟨i, M, T, D, O, F, hiN, rfl, rfl, HM, HL, HT, HO, HB⟩ := hrel
    by_cases hlt : i < N
    · have hlt' : (i : Int) < (N : Int) := by omega
      have HI := Lib.hid hlt
      obtain ⟨d, hd⟩ := (⟨_, List.getElem?_eq_getElem (l := l) (i := i) (by rw [HN.out]; exact hlt)⟩ : ∃ d, l[i]? = some d)
      obtain ⟨b, o, hidx, _, hcell⟩ := indexAt_X (P := Try.prog) HV.out 41 4 Try.underlying41 Try.sizeBool18 i hlt
      have hc0 := (hcell 0 (by decide)).trans (row_get (enc := bcl) (size := 1) (fun _ => rfl) hd 0 (by decide))
      have HC := Lib.hid (show w.cell? ⟨b, o, none⟩ = some (.bool d) from hc0)
      have HX := Lib.hid hidx
      obtain ⟨r, hr⟩ : ∃ r, i % 3 = r := ⟨_, rfl⟩
      obtain ⟨q, hq⟩ : ∃ q, (r + 1) % 3 = q := ⟨_, rfl⟩
      have HR := Lib.hid (show ((i : Int) % 3) = (r : Int) from by omega)
      have HQ := Lib.hid (show (((r : Int) + 1) % 3) = (q : Int) from by omega)
      have HRQ := Lib.hid (show r < 3 ∧ q < 3 ∧ r ≠ q from by omega)
      clear hc0 hcell hd hr hq hidx hlt
      go_wp2_with fail
      rw [HR.out]
      refine (take_p (a := r) HL.out HT.out (by have := HM.out; have := HN60.out; omega) (by have := HRQ.out; omega) (by have := HN60.out; omega) (fun h1 h2 => absurd (HO.out h1) (by omega))).mono ?_
      rintro e w3 ⟨rfl, h3⟩
      have H3 := Lib.hid h3.at_
      have HB3 := Lib.hid (HB.out.trans (h3.below HB.out.size HG.out))
      clear h3
      have hidx := HX.out
      have c0 : w3.cell? ⟨b, o, none⟩ = some (.bool d) := (World.cell?_of_block (w := w) (HB3.out.block b (cell_lt HC.out))).trans HC.out
      cases d with
      | true =>
        go_wp2_with (go_at_call 9; first | (with_reducible refine (code_nil _).mono ?_; rintro e wc ⟨rfl, rfl⟩) | (with_reducible refine (code_code _ _ (by decide) (by decide)).mono ?_; rintro e wc ⟨rfl, rfl⟩))
        clear hidx c0
        refine (drop_p (a := (r : Int)) (ep := (i : Int) + 1) H3.out (Nat.le_refl _) (by have := HM.out; have := HN60.out; have := HI.out; have := HNN.out; omega) (by have := HNN.out; omega) rfl (by omega)).mono ?_
        rintro e w4 ⟨rfl, h4⟩
        have H4 := Lib.hid h4.at_
        have HB4 := Lib.hid (HB3.out.trans (h4.below HB3.out.size HG.out))
        clear h4
        go_wp2_with fail
        refine (drop_n (a := (r : Int)) (ep := (i : Int) + 1) H4.out (Nat.le_refl _) (by have := HM.out; have := HN60.out; have := HI.out; have := HNN.out; omega) (fun h => by cases h)).mono ?_
        rintro e w5 ⟨rfl, h5⟩
        have H5 := Lib.hid h5.at_
        have HB5 := Lib.hid (HB4.out.trans (h5.below HB4.out.size HG.out))
        clear h5
        go_wp2_with (go_at_call 9; first | (with_reducible refine (code_nil _).mono ?_; rintro e wc ⟨rfl, rfl⟩) | (with_reducible refine (code_code _ _ (by decide) (by decide)).mono ?_; rintro e wc ⟨rfl, rfl⟩))
        refine (keep_n (a := (r : Int)) (ep := (i : Int) + 1) H5.out (Nat.le_refl _) (by have := HM.out; have := HN60.out; have := HI.out; have := HNN.out; omega) (fun h => by cases h)).mono ?_
        rintro e w6 ⟨rfl, h6⟩
        have H6 := Lib.hid h6.at_
        have HB6 := Lib.hid (HB5.out.trans (h6.below HB5.out.size HG.out))
        clear h6
        go_wp2_with (go_at_call 9; first | (with_reducible refine (code_nil _).mono ?_; rintro e wc ⟨rfl, rfl⟩) | (with_reducible refine (code_code _ _ (by decide) (by decide)).mono ?_; rintro e wc ⟨rfl, rfl⟩))
        refine (left_z H6.out (Nat.le_refl _) (by have := HM.out; have := HN60.out; have := HI.out; have := HNN.out; omega) (fun h => by cases h)).mono ?_
        rintro e w7 ⟨rfl, h7⟩
        have H7 := Lib.hid h7.at_
        have HB7 := Lib.hid (HB6.out.trans (h7.below HB6.out.size HG.out))
        clear h7
        go_wp2_with fail
        go_roundw
        case rel => exact ⟨i + 1, M, M, false, r, M, by have := HI.out; omega, by simp, rfl, Lib.hid (by have := HM.out; omega), H7, Lib.hid (Nat.le_refl _), Lib.hid (fun h => by cases h), HB7⟩
        case measure => simp [intOf] <;> (have := HI.out; omega)
      | false =>
        obtain ⟨m, hm⟩ : ∃ m, M + n - 1 = m := ⟨_, rfl⟩
        obtain ⟨p, hp⟩ : ∃ p, M + n = p := ⟨_, rfl⟩
        have HMM := Lib.hid (show (M : Int) + (n : Int) - 1 = (m : Int) from by have := HNN.out; omega)
        have HMP := Lib.hid (show (M : Int) + (n : Int) = (p : Int) from by omega)
        have HMm := Lib.hid hm
        have HPp := Lib.hid hp
        have hn9 : n ≤ 256 := HNN.out.2
        have hM9 : M ≤ 15360 := by have := HM.out; have := HN60.out; have := HI.out; omega
        have hr9 : r < 3 := HRQ.out.1
        have hi9 : i < 60 := by have := HN60.out; have := HI.out; omega
        clear hm hp
        go_wp2_with (go_at_call 9; first | (with_reducible refine (code_nil _).mono ?_; rintro e wc ⟨rfl, rfl⟩) | (with_reducible refine (code_code _ _ (by decide) (by decide)).mono ?_; rintro e wc ⟨rfl, rfl⟩))
        clear hidx c0
        rw [HQ.out, HMM.out]
        refine (busy_p (a := q) H3.out (by have := HM.out; have := HN60.out; have := HI.out; have := HNN.out; have := HMm.out; have := HPp.out; omega) (by have := HM.out; have := HN60.out; have := HI.out; have := HNN.out; have := HMm.out; have := HPp.out; omega) (by have := HRQ.out; omega) (by have := HM.out; have := HN60.out; have := HI.out; have := HNN.out; have := HMm.out; have := HPp.out; omega) HRQ.out.2.2).mono ?_
        rintro e w4 ⟨rfl, h4⟩
        have H4 := Lib.hid h4.at_
        have HB4 := Lib.hid (HB3.out.trans (h4.below HB3.out.size HG.out))
        clear h4
        go_wp2_with (go_at_call 9; first | (with_reducible refine (code_nil _).mono ?_; rintro e wc ⟨rfl, rfl⟩) | (with_reducible refine (code_code _ _ (by decide) (by decide)).mono ?_; rintro e wc ⟨rfl, rfl⟩))
        rw [HMP.out]
        refine (keep_n (a := (r : Int)) (ep := (i : Int) + 1) (now := p) H4.out (by have := HM.out; have := HN60.out; have := HI.out; have := HNN.out; have := HMm.out; have := HPp.out; omega) (by have := HM.out; have := HN60.out; have := HI.out; have := HNN.out; have := HMm.out; have := HPp.out; omega) (fun _ h => by have := HPp.out; omega)).mono ?_
        rintro e w5 ⟨rfl, h5⟩
        have H5 := Lib.hid h5.at_
        have HB5 := Lib.hid (HB4.out.trans (h5.below HB4.out.size HG.out))
        clear h5
        go_wp2_with (go_at_call 9; first | (with_reducible refine (code_nil _).mono ?_; rintro e wc ⟨rfl, rfl⟩) | (with_reducible refine (code_code _ _ (by decide) (by decide)).mono ?_; rintro e wc ⟨rfl, rfl⟩))
        refine (left_z (now := p) H5.out (by have := HM.out; have := HN60.out; have := HI.out; have := HNN.out; have := HMm.out; have := HPp.out; omega) (by have := HM.out; have := HN60.out; have := HI.out; have := HNN.out; have := HMm.out; have := HPp.out; omega) (fun h => (by have := HM.out; have := HN60.out; have := HI.out; have := HNN.out; have := HMm.out; have := HPp.out; omega))).mono ?_
        rintro e w6 ⟨rfl, h6⟩
        have H6 := Lib.hid h6.at_
        have HB6 := Lib.hid (HB5.out.trans (h6.below HB5.out.size HG.out))
        clear h6
        go_wp2_with fail
        go_roundw
        case rel => exact ⟨i + 1, p, p, true, r, M, by have := HI.out; omega, by simp, rfl, Lib.hid (by have := HM.out; have := HN60.out; have := HI.out; have := HNN.out; have := HMm.out; have := HPp.out; omega), H6, Lib.hid (Nat.le_refl _), Lib.hid (fun h => (by have := HM.out; have := HN60.out; have := HI.out; have := HNN.out; have := HMm.out; have := HPp.out; omega)), HB6⟩
        case measure => simp [intOf] <;> (have := HI.out; omega)
    · obtain rfl : N = i := by omega
      go_wp2_with fail
      refine (holder_n HL.out HT.out (by have := HM.out; have := HN60.out; omega) HO.out).mono ?_
      rintro e w7 ⟨rfl, h7⟩
      have H7 := Lib.hid h7.at_
      have HB7 := Lib.hid (HB.out.trans (h7.below HB.out.size HG.out))
      clear h7
      go_wp2_with fail
      go_ret
      exact ⟨rfl, HB7.out⟩
end Go.Proofs.Ytoebjfkmhdnkfaa
