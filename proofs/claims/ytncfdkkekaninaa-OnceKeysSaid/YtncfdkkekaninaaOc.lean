/- Package corncriblaw16: OnceClears. -/
import Derived.Test.YtncfdkkekaninaaOa
import Derived.Test.YtncfdkkekaninaaWs
import Derived.Test.YtncfdkkekaninaaOrdE
import Derived.Deep.CutRange
set_option linter.unusedVariables false
set_option linter.unusedSimpArgs false
namespace Go.Proofs.Ytncfdkkekaninaa
open Go.RowKit Go.Cor

/-- A slice of messages as it came in. -/
def IsG (w : World) (v : Value) (l : List (Msg × Value)) : Prop := IsX w 12 v l.length (row mcl l) ∧ ∀ x ∈ l, IsB w x.2 x.1.n.data ∧ x.1.n.fits ∧ x.1.id < 18446744073709551616
theorem keepK_le (most : Int) (l : List Msg) (m : Msg) : keepK most l m ≤ 17 := by
  have := mcheck_le m
  unfold keepK
  split
  · split
    · split
      · omega
      · split <;> omega
    · omega
  · omega
theorem keepL_no {most : Int} {l : List Msg} {m : Msg} (h : keepK most l m ≠ 0) : keepL most l m = l := by unfold keepL; rw [if_neg h]
theorem keepL_ok {most : Int} {l : List Msg} {m : Msg} (h : keepK most l m = 0) : keepL most l m = l ++ [m] := by unfold keepL; rw [if_pos h]
set_option maxRecDepth 100000 in
set_option maxHeartbeats 8000000 in
theorem onceClears_all (v : Value) (l : List (Msg × Value)) (w : World) (h : IsG w v l) :
    Calls Try.prog 6 #[v] w fun e w' => e = .returned (.bool true) ∧ Below w.heap.size w w' := by
  obtain ⟨LL, hLL⟩ : ∃ n, l.length = n := ⟨_, rfl⟩
  have hX := h.1
  rw [hLL] at hX
  have hlen := fun W => len_X (P := Try.prog) hX 22 3 36 Try.underlying22 W
  have HX := Lib.hid hX
  have HG := Lib.hid h.2
  have HLL := Lib.hid hLL
  clear h hX hLL
  go_enter Try.func6, Try.ntmps6
  go_wp2_with fail
  refine (alive16 _).mono ?_
  rintro e w1 ⟨rfl, hb⟩
  have HB1 := Lib.hid hb
  clear hb
  by_cases h40 : 40 < LL
  · have k40 : (40 : Int) < (LL : Int) := by omega
    go_wp2
    go_ret
    exact ⟨rfl, HB1.out⟩
  have k40 : ¬ (40 : Int) < (LL : Int) := by omega
  go_wp2_with fail
  refine (onew_ht 4 w w1 HB1.out (by decide)).mono ?_
  rintro e w2 ⟨g, S2, rfl, h2, _, hb2⟩
  have HH2 := Lib.hid h2
  clear h2 hb2
  go_wp2_with fail
  go_loopw [5] (fun q5 wr => ∃ (r : Nat) (S : Nat → Prop), r ≤ 2 ∧ q5 = .int .i64 r ∧ Hid (Ht w wr g S 4 [])) (fun q5 _ => 2 - (intOf q5).toNat)
  case atStart => exact ⟨0, S2, by omega, rfl, HH2⟩
  case round =>
    obtain ⟨r, S, hr, rfl, HHr⟩ := hrel
    by_cases hr2 : r < 2
    · have kr : (r : Int) < 2 := by omega
      go_wp2_with fail
      go_loopw [6, 7] (fun q6 q7 wx => ∃ (i : Nat) (N : Nat) (L : List Msg) (S1 : Nat → Prop), i ≤ LL ∧ q6 = .int .i64 N ∧ q7 = .int .i64 i ∧ Hid (L.length = N) ∧ Hid (Ht w wx g S1 4 L)) (fun _ q7 _ => LL - (intOf q7).toNat)
      case atStart => exact ⟨0, 0, [], S, Nat.zero_le _, rfl, rfl, Lib.hid rfl, HHr⟩
      case round =>
        obtain ⟨i, N, L, S1, hi, rfl, rfl, HN, HH⟩ := hrel
        by_cases hlt : i < LL
        · have hx := HX.out.mono HH.out.bel (Nat.le_refl _)
          obtain ⟨bi, oi, hidx, _, hcell⟩ := indexAt_X hx 22 36 Try.underlying22 Try.sizeMsg i hlt
          obtain ⟨⟨m, mv⟩, hxl⟩ : ∃ z, l[i]? = some z := ⟨_, List.getElem?_eq_getElem (by rw [HLL.out]; exact hlt)⟩
          obtain ⟨hB, hf, hid⟩ := HG.out _ (List.mem_of_getElem? hxl)
          obtain ⟨dl, hdl⟩ : ∃ z, m.n.data.length = z := ⟨_, rfl⟩
          obtain ⟨dx, dc, rfl, _, _⟩ := hB.at_len hdl
          have hce := fun q (hq : q < 12) => (hcell q hq).trans (row_get mcl_len hxl q hq)
          have c0 : wr.cell? ⟨bi, oi, none⟩ = some (.int .i64 m.fr) := hce 0 (by decide)
          have c1 : wr.cell? ⟨bi, oi + 1, none⟩ = some (.int .i64 m.to) := hce 1 (by decide)
          have c2 : wr.cell? ⟨bi, oi + 2, none⟩ = some (.int .i64 m.kd) := hce 2 (by decide)
          have c3 : wr.cell? ⟨bi, oi + 3, none⟩ = some (.int .i64 m.vo) := hce 3 (by decide)
          have c4 : wr.cell? ⟨bi, oi + 4, none⟩ = some (.int .i64 m.li) := hce 4 (by decide)
          have c5 : wr.cell? ⟨bi, oi + 5, none⟩ = some (.int .u64 (m.id : Int)) := hce 5 (by decide)
          have c6 : wr.cell? ⟨bi, oi + 6, none⟩ = some (.int .i64 m.co) := hce 6 (by decide)
          have c7 : wr.cell? ⟨bi, oi + 7, none⟩ = some (.bool m.has) := hce 7 (by decide)
          have c8 : wr.cell? ⟨bi, oi + 8, none⟩ = some (.int .u64 (m.n.key : Int)) := hce 8 (by decide)
          have c9 : wr.cell? ⟨bi, oi + 9, none⟩ = some (.int .u32 (m.n.cookie : Int)) := hce 9 (by decide)
          have c10 : wr.cell? ⟨bi, oi + 10, none⟩ = some (.bool m.n.gone) := hce 10 (by decide)
          have c11 : wr.cell? ⟨bi, oi + 11, none⟩ = some (.slice dx dl dc) := hce 11 (by decide)
          have HBD := Lib.hid hB
          have HF := Lib.hid hf
          have HI := Lib.hid hid
          clear hx hcell hxl hB hf hid hdl hce
          by_cases h300 : 300 < dl
          · have k300 : (300 : Int) < (dl : Int) := by omega
            go_wp2
            go_ret
            exact ⟨rfl, HH.out.bel⟩
          have k300 : ¬ (300 : Int) < (dl : Int) := by omega
          obtain ⟨KK, hKK⟩ : ∃ z, keepK 4 L m = z := ⟨_, rfl⟩
          have hkl := keepK_le 4 L m
          rw [hKK] at hkl
          have HKL := Lib.hid hkl
          have HKK := Lib.hid hKK
          have HLEN := Lib.hid (fun wx (hb : Below wr.heap.size wr wx) => show Calls Try.prog 14 #[.pointer (some ⟨g, 0, none⟩)] wx fun e w' => e = .returned (.int .i64 (N : Int)) ∧ wx = w' from by
            have h9 := olen_any wx (HH.out.below hb).tb
            rw [HN.out] at h9
            exact h9)
          clear hKK hkl
          go_wp2_with fail
          refine (HLEN.out _ (Below.refl _ _)).mono ?_
          rintro e wl ⟨rfl, rfl⟩
          go_wp2_with fail
          refine (of_any14 m dx dl dc _).mono ?_
          rintro e wo ⟨rfl, hb⟩
          have hHo := HH.out.below hb
          have hs := okeep_any wo hHo.tb m dx dl dc (HBD.out.mono hHo.bel (Nat.le_refl _)) HF.out HI.out
          rw [HKK.out] at hs
          have HS := Lib.hid hs
          have HHo := Lib.hid hHo
          clear hs hHo hb c0 c1 c2 c3 c4 c5 c6 c7 c8 c9 c10 c11
          go_wp2_with fail
          refine HS.out.mono ?_
          rintro e wz ⟨rfl, ht⟩
          obtain ⟨S3, h3, _, _⟩ := HHo.out.call ht
          clear ht
          by_cases hk0 : KK = 0
          · subst hk0
            obtain ⟨N1, hN1⟩ : ∃ z, N + 1 = z := ⟨_, rfl⟩
            rw [keepL_ok HKK.out] at h3
            have HNN := Lib.hid (show (L ++ [m]).length = N1 from by rw [List.length_append, HN.out]; exact hN1)
            have HH3 := Lib.hid h3
            have h4 := h3.tb.bound
            rw [HNN.out] at h4
            have ew : IntKind.i64.wrap ((N : Int) + 1) = (N1 : Int) := by rw [IntWalk.i64_in _ (by omega)]; omega
            have HL2 := Lib.hid (show Calls Try.prog 14 #[.pointer (some ⟨g, 0, none⟩)] wz fun e w' => e = .returned (.int .i64 (N1 : Int)) ∧ wz = w' from by
              have h9 := olen_any wz HH3.out.tb
              rw [HNN.out] at h9
              exact h9)
            rw [cerr_0]
            clear h3 h4 hN1
            as_aux_lemma =>
              go_wp2_with fail
              refine (code_nil _).mono ?_
              rintro e wc ⟨rfl, rfl⟩
              go_wp2_with fail
              refine HL2.out.mono ?_
              rintro e wc ⟨rfl, rfl⟩
              go_wp2_with fail
              refine HL2.out.mono ?_
              rintro e wc ⟨rfl, rfl⟩
              go_wp2
              go_roundw
              case rel => exact ⟨i + 1, N1, L ++ [m], S3, by omega, by first | rfl | go_num, by go_num, HNN, HH3⟩
              case measure => simp [intOf]; omega
          · have kk : ((KK : Int) == 0) = false := beq_eq_false_iff_ne.2 (by omega)
            have kn : ((KK : Int) != 0) = true := bne_iff_ne.2 (by omega)
            have kz : ¬ ((KK : Int) = 0) := by omega
            rw [keepL_no (by rw [HKK.out]; exact hk0)] at h3
            have HH3 := Lib.hid h3
            have HL2 := Lib.hid (show Calls Try.prog 14 #[.pointer (some ⟨g, 0, none⟩)] wz fun e w' => e = .returned (.int .i64 (N : Int)) ∧ wz = w' from by
              have h9 := olen_any wz HH3.out.tb
              rw [HN.out] at h9
              exact h9)
            clear h3 hk0
            as_aux_lemma =>
              go_wp2_with fail
              refine (code_cerr KK _ HKL.out).mono ?_
              rintro e wc ⟨rfl, rfl⟩
              go_wp2_with fail
              refine HL2.out.mono ?_
              rintro e wc ⟨rfl, rfl⟩
              go_wp2_with fail
              refine HL2.out.mono ?_
              rintro e wc ⟨rfl, rfl⟩
              go_wp2
              go_roundw
              case rel => exact ⟨i + 1, N, L, S3, by omega, by first | rfl | go_num, by go_num, HN, HH3⟩
              case measure => simp [intOf]; omega
        · obtain rfl : i = LL := by omega
          have HCL := Lib.hid (oclear_any wr HH.out.tb)
          as_aux_lemma =>
            go_wp2_with fail
            refine HCL.out.mono ?_
            rintro e w4 ⟨rfl, ht⟩
            obtain ⟨S4, h4, _, _⟩ := HH.out.call ht
            have HH4 := Lib.hid h4
            clear ht h4
            go_wp2_with fail
            refine (olen_any w4 HH4.out.tb).mono ?_
            rintro e wc ⟨rfl, rfl⟩
            have e0 : ((([] : List Msg).length : Nat) : Int) = 0 := rfl
            rw [e0]
            go_wp2_with fail
            refine (oroom_any w4 HH4.out.tb).mono ?_
            rintro e w5 ⟨rfl, hb5⟩
            have e1 : decide (((([] : List Msg).length : Nat) : Int) < 4) = true := by decide
            rw [e1]
            have HH5 := Lib.hid (HH4.out.below hb5)
            clear hb5 e0 e1
            go_wp2
            go_roundw
            case rel => exact ⟨r + 1, S4, by omega, by go_num, HH5⟩
            case measure => simp [intOf]; omega
    · have kr : ¬ (r : Int) < 2 := by omega
      as_aux_lemma =>
        go_wp2
        go_ret
        exact ⟨rfl, HHr.out.bel⟩

end Go.Proofs.Ytncfdkkekaninaa
