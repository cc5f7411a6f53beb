/- Package corncriblaw16: OncePlays. -/
import Derived.Test.YtncfdkkekaninaaOc
import Derived.Test.YtncfdkkekaninaaFk
import Derived.Test.YtncfdkkekaninaaOrdE
import Derived.Deep.CutRange
set_option linter.unusedVariables false
set_option linter.unusedSimpArgs false
namespace Go.Proofs.Ytncfdkkekaninaa
open Go.RowKit Go.Cor

/-- The document's slice beside a table whose blocks are S: what it holds came in. -/
structure Dc (w : World) (v : Value) (n : Nat) (d l : List (Msg × Value)) (S : Nat → Prop) : Prop where
  dx : IsX w 12 v n (row mcl d)
  dn : d.length = n
  dm : ∀ z ∈ d, z ∈ l
  ds : ∀ b, liesX v n b → ¬ S b
section
variable {w w' : World} {v : Value} {n : Nat} {d l : List (Msg × Value)} {S S' : Nat → Prop}
theorem Dc.below (h : Dc w v n d l S) (hb : Below w.heap.size w w') : Dc w' v n d l S := ⟨h.dx.mono hb (Nat.le_refl _), h.dn, h.dm, h.ds⟩
theorem Dc.call (h : Dc w v n d l S) (hk : Kept S w w') (hs : ∀ b, b < w.heap.size → ¬ S b → ¬ S' b) : Dc w' v n d l S' :=
  ⟨h.dx.kept hk h.ds, h.dn, h.dm, fun b hb => hs b (h.dx.lies_lt (by decide) hb) (h.ds b hb)⟩
theorem Dc.empty (w : World) (l : List (Msg × Value)) (S : Nat → Prop) : Dc w (.slice none 0 0) 0 [] l S := ⟨IsX.nil w 12, rfl, (fun z hz => by cases hz), fun b hb => absurd rfl hb.1⟩
theorem Dc.isM (h : Dc w v n d l S) (hl : ∀ z ∈ l, IsB w z.2 z.1.n.data ∧ z.2.oneCell' = true) : IsM w v d := ⟨by rw [h.dn]; exact h.dx, fun z hz => hl z (h.dm z hz)⟩
end
theorem cell_on {w w' : World} {p : Addr} {v : Value} (hb : Below w.heap.size w w') (h : w.cell? p = some v) : w'.cell? p = some v := (hb.cell (cell_lt h)).trans h
theorem isB_one {w : World} {v : Value} {l : List UInt8} (h : IsB w v l) : v.oneCell' = true := by
  obtain ⟨a, c, rfl, _⟩ := h
  rfl
theorem findM_some {a : Int} {q : Nat} {d : List (Msg × Value)} {i : Nat} {x : Msg × Value} (hi : findP a q (d.map (·.1)) = (i : Int)) (hx : d[i]? = some x) : findM a q (d.map (·.1)) = x.1 ∧ findK a q (d.map (·.1)) = 0 := by
  unfold findM findK
  rw [hi, if_neg (by omega), if_neg (by omega)]
  simp [List.getD, hx]
set_option maxRecDepth 100000 in
set_option maxHeartbeats 16000000 in
theorem oncePlays_all (most : Int) (v : Value) (l : List (Msg × Value)) (fm : Int) (iq : Nat) (at' : Int) (w : World) (h : IsG w v l) (hfm : wfI fm) (hiq : wfU iq) :
    Calls Try.prog 3 #[.int .i64 most, v, .int .i64 fm, .int .u64 (iq : Int), .int .i64 at'] w fun e w' => e = .returned (.bool true) ∧ Below w.heap.size w w' := by
  obtain ⟨LL, hLL⟩ : ∃ n, l.length = n := ⟨_, rfl⟩
  have hX := h.1
  rw [hLL] at hX
  have hlen := fun W => len_X (P := Try.prog) hX 22 3 36 Try.underlying22 W
  have HX := Lib.hid hX
  have HG := Lib.hid h.2
  have HGM := Lib.hid (fun wx (hb : Below w.heap.size w wx) => show ∀ z ∈ l, IsB wx z.2 z.1.n.data ∧ z.2.oneCell' = true from fun z hz => ⟨(h.2 z hz).1.mono hb (Nat.le_refl _), isB_one (h.2 z hz).1⟩)
  have HLL := Lib.hid hLL
  have HFM := Lib.hid (And.intro hfm hiq)
  clear h hX hLL hfm hiq
  go_enter Try.func3, Try.ntmps3
  go_wp2_with fail
  refine (alive16 _).mono ?_
  rintro e w1 ⟨rfl, hb⟩
  have HB1 := Lib.hid hb
  clear hb
  by_cases h60 : 60 < LL
  · have k60 : (60 : Int) < (LL : Int) := by omega
    go_wp2
    go_ret
    exact ⟨rfl, HB1.out⟩
  have k60 : ¬ (60 : Int) < (LL : Int) := by omega
  by_cases hmost : 1 ≤ most ∧ most ≤ 4096
  case neg =>
    by_cases hm1 : most < 1
    · as_aux_lemma =>
        go_wp2_with fail
        refine (onew_bad most w1 hmost).mono ?_
        rintro e w2 ⟨rfl, rfl⟩
        go_wp2_with fail
        refine (code_code 1 _ (by decide) (by decide)).mono ?_
        rintro e wx ⟨rfl, rfl⟩
        go_wp2
        go_ret
        exact ⟨rfl, HB1.out⟩
    · have hm2 : 4096 < most := by omega
      as_aux_lemma =>
        go_wp2_with fail
        refine (onew_bad most w1 hmost).mono ?_
        rintro e w2 ⟨rfl, rfl⟩
        go_wp2_with fail
        refine (code_code 1 _ (by decide) (by decide)).mono ?_
        rintro e wx ⟨rfl, rfl⟩
        go_wp2
        go_ret
        exact ⟨rfl, HB1.out⟩
  have hm1 : ¬ most < 1 := by omega
  have hm2 : ¬ most > 4096 := by omega
  have HMO := Lib.hid hmost
  clear hmost
  go_wp2_with fail
  refine (onew_ht most w w1 HB1.out HMO.out).mono ?_
  rintro e w2 ⟨g, S2, rfl, h2, _, hb2⟩
  have HH2 := Lib.hid h2
  clear h2 hb2
  go_wp2_with fail
  refine (code_nil _).mono ?_
  rintro e wx ⟨rfl, rfl⟩
  go_wp2_with fail
  go_loopw [13, 14] (fun q13 q14 wr => ∃ (i n k : Nat) (y : Option Addr) (d : List (Msg × Value)) (S : Nat → Prop), i ≤ LL ∧ q13 = .slice y n k ∧ q14 = .int .i64 i ∧ Hid (Ht w wr g S most (d.map (·.1))) ∧ Hid (Dc wr (.slice y n k) n d l S)) (fun _ q14 _ => LL - (intOf q14).toNat)
  case atStart => exact ⟨0, 0, 0, none, [], S2, by omega, rfl, rfl, HH2, Lib.hid (Dc.empty _ _ _)⟩
  case round =>
    obtain ⟨i, n, k, y, d, S, hi, rfl, rfl, HH, HD⟩ := hrel
    by_cases hlt : i < LL
    · have hx := HX.out.mono HH.out.bel (Nat.le_refl _)
      obtain ⟨bi, oi, hidx, _, hcell⟩ := indexAt_X hx 22 36 Try.underlying22 Try.sizeMsg i hlt
      obtain ⟨⟨m, mv⟩, hxl⟩ : ∃ z, l[i]? = some z := ⟨_, List.getElem?_eq_getElem (by rw [HLL.out]; exact hlt)⟩
      have hmem := List.mem_of_getElem? hxl
      obtain ⟨hB, hf, hid⟩ := HG.out _ hmem
      obtain ⟨dl, hdl⟩ : ∃ z, m.n.data.length = z := ⟨_, rfl⟩
      obtain ⟨dx, dc, rfl, _, _⟩ := hB.at_len hdl
      have hce := fun q (hq : q < 12) => (hcell q hq).trans (row_get mcl_len hxl q hq)
      have c0 : wr.cell? ⟨bi, oi, none⟩ = some (.int .i64 m.fr) := hce 0 (by decide)
      have c1 : wr.cell? ⟨bi, oi + 1, none⟩ = some (.int .i64 m.to) := hce 1 (by decide)
      have c2 : wr.cell? ⟨bi, oi + 2, none⟩ = some (.int .i64 m.kd) := hce 2 (by decide)
      have c3 : wr.cell? ⟨bi, oi + 3, none⟩ = some (.int .i64 m.vo) := hce 3 (by decide)
      have c4 : wr.cell? ⟨bi, oi + 4, none⟩ = some (.int .i64 m.li) := hce 4 (by decide)
      have c5 : wr.cell? ⟨bi, oi + 5, none⟩ = some (.int .u64 (m.id : Int)) := hce 5 (by decide)
      have c6 : wr.cell? ⟨bi, oi + 6, none⟩ = some (.int .i64 m.co) := hce 6 (by decide)
      have c7 : wr.cell? ⟨bi, oi + 7, none⟩ = some (.bool m.has) := hce 7 (by decide)
      have c8 : wr.cell? ⟨bi, oi + 8, none⟩ = some (.int .u64 (m.n.key : Int)) := hce 8 (by decide)
      have c9 : wr.cell? ⟨bi, oi + 9, none⟩ = some (.int .u32 (m.n.cookie : Int)) := hce 9 (by decide)
      have c10 : wr.cell? ⟨bi, oi + 10, none⟩ = some (.bool m.n.gone) := hce 10 (by decide)
      have c11 : wr.cell? ⟨bi, oi + 11, none⟩ = some (.slice dx dl dc) := hce 11 (by decide)
      have hx0 := HX.out
      obtain ⟨b2, o2, hidx2, _, hcell2⟩ := indexAt_X hx0 22 36 Try.underlying22 Try.sizeMsg i hlt
      have hbo : b2 = bi ∧ o2 = oi := by
        have e1 := (hidx2 wr).symm.trans (hidx wr)
        simp only [Result.ok.injEq, Value.pointer.injEq, Option.some.injEq, Addr.mk.injEq, and_true] at e1
        exact e1
      obtain ⟨rfl, rfl⟩ := hbo
      have HCE := Lib.hid (fun wx (hb : Below w.heap.size w wx) => show wx.cell? ⟨b2, o2, none⟩ = some (.int .i64 m.fr) ∧ wx.cell? ⟨b2, o2 + 1, none⟩ = some (.int .i64 m.to) ∧ wx.cell? ⟨b2, o2 + 2, none⟩ = some (.int .i64 m.kd) ∧ wx.cell? ⟨b2, o2 + 3, none⟩ = some (.int .i64 m.vo) ∧ wx.cell? ⟨b2, o2 + 4, none⟩ = some (.int .i64 m.li) ∧ wx.cell? ⟨b2, o2 + 5, none⟩ = some (.int .u64 (m.id : Int)) ∧ wx.cell? ⟨b2, o2 + 6, none⟩ = some (.int .i64 m.co) ∧ wx.cell? ⟨b2, o2 + 7, none⟩ = some (.bool m.has) ∧ wx.cell? ⟨b2, o2 + 8, none⟩ = some (.int .u64 (m.n.key : Int)) ∧ wx.cell? ⟨b2, o2 + 9, none⟩ = some (.int .u32 (m.n.cookie : Int)) ∧ wx.cell? ⟨b2, o2 + 10, none⟩ = some (.bool m.n.gone) ∧ wx.cell? ⟨b2, o2 + 11, none⟩ = some (.slice dx dl dc) from by
        have hc := fun q (hq : q < 12) => (hcell2 q hq).trans (row_get mcl_len hxl q hq)
        exact ⟨cell_on hb (v := .int .i64 m.fr) (hc 0 (by decide)), cell_on hb (v := .int .i64 m.to) (hc 1 (by decide)), cell_on hb (v := .int .i64 m.kd) (hc 2 (by decide)), cell_on hb (v := .int .i64 m.vo) (hc 3 (by decide)), cell_on hb (v := .int .i64 m.li) (hc 4 (by decide)), cell_on hb (v := .int .u64 (m.id : Int)) (hc 5 (by decide)), cell_on hb (v := .int .i64 m.co) (hc 6 (by decide)), cell_on hb (v := .bool m.has) (hc 7 (by decide)), cell_on hb (v := .int .u64 (m.n.key : Int)) (hc 8 (by decide)), cell_on hb (v := .int .u32 (m.n.cookie : Int)) (hc 9 (by decide)), cell_on hb (v := .bool m.n.gone) (hc 10 (by decide)), cell_on hb (v := .slice dx dl dc) (hc 11 (by decide))⟩)
      have HBD := Lib.hid hB
      have HF := Lib.hid hf
      have HI := Lib.hid hid
      have HME := Lib.hid hmem
      have HDL := Lib.hid hdl
      clear hx hcell hxl hB hf hid hdl hce hx0 hidx2 hcell2 hmem
      by_cases h300 : 300 < dl
      · have k300 : (300 : Int) < (dl : Int) := by omega
        as_aux_lemma =>
          go_wp2
          go_ret
          exact ⟨rfl, HH.out.bel⟩
      have k300 : ¬ (300 : Int) < (dl : Int) := by omega
      by_cases hat : (i : Int) = at'
      · have kat : ((i : Int) == at') = true := beq_iff_eq.2 hat
        have HCL := Lib.hid (oclear_any wr HH.out.tb)
        clear hat
        as_aux_lemma =>
          go_wp2_with fail
          refine HCL.out.mono ?_
          rintro e w3 ⟨rfl, ht⟩
          obtain ⟨S3, h3, _, _⟩ := HH.out.call ht
          have HH3 := Lib.hid (show Ht w w3 g S3 most (([] : List (Msg × Value)).map (·.1)) from h3)
          have HD3 := Lib.hid (Dc.empty w3 l S3)
          clear ht h3 c0 c1 c2 c3 c4 c5 c6 c7 c8 c9 c10 c11
          obtain ⟨c0, c1, c2, c3, c4, c5, c6, c7, c8, c9, c10, c11⟩ := HCE.out w3 HH3.out.bel
          have hbd := HH3.out.tb.bound
          rw [List.length_map, HD3.out.dn] at hbd
          have hr := rkeep16_any none 0 0 ([] : List (Msg × Value)) most m dx dl dc w3 HD3.out.dn (by have := hbd.2.1; have := hbd.2.2; omega) (HD3.out.isM (HGM.out _ HH3.out.bel)) (HBD.out.mono HH3.out.bel (Nat.le_refl _)) (by rw [HDL.out]; omega)
          obtain ⟨KK, hKK⟩ : ∃ z, keepK most (([] : List (Msg × Value)).map (·.1)) m = z := ⟨_, rfl⟩
          have hkl := keepK_le most (([] : List (Msg × Value)).map (·.1)) m
          rw [hKK] at hr hkl
          have HR := Lib.hid hr
          have HKK := Lib.hid hKK
          have HKL := Lib.hid hkl
          clear hbd hr hKK hkl
          go_wp2_with fail
          refine HR.out.mono ?_
          rintro e w4 ⟨y1, n1, k1, d1, rfl, hd1, hn1, hm1', hl1, hz1, hb4⟩
          have hD1 : Dc w4 (.slice y1 n1 k1) n1 d1 l S3 := ⟨by have := hm1'.1; rw [hn1] at this; exact this, hn1, fun z hz => by
            rcases hz1 z hz with h | h
            · exact HD3.out.dm z h
            · rw [h]; exact HME.out, fun b hb => by
            rcases hl1 b hb with h | h
            · exact HD3.out.ds b h
            · exact HH3.out.new h⟩
          have hH1 := HH3.out.below hb4
          obtain ⟨c0, c1, c2, c3, c4, c5, c6, c7, c8, c9, c10, c11⟩ := HCE.out w4 hH1.bel
          have HD1 := Lib.hid hD1
          have HH1 := Lib.hid hH1
          have HDE := Lib.hid hd1
          clear hD1 hH1 hm1' hl1 hz1 hb4 hd1 hn1
          go_wp2_with fail
          refine (of_any14 m dx dl dc _).mono ?_
          rintro e w5 ⟨rfl, hb⟩
          have hH2 := HH1.out.below hb
          have hs := okeep_any w5 hH2.tb m dx dl dc (HBD.out.mono hH2.bel (Nat.le_refl _)) HF.out HI.out
          rw [HKK.out, ← HDE.out] at hs
          have HS := Lib.hid hs
          have HH2' := Lib.hid hH2
          have HD2 := Lib.hid (HD1.out.below hb)
          clear hs hH2 hb c0 c1 c2 c3 c4 c5 c6 c7 c8 c9 c10 c11
          go_wp2_with fail
          refine HS.out.mono ?_
          rintro e w6 ⟨rfl, ht⟩
          obtain ⟨S6, h6, hk6, hs6⟩ := HH2'.out.call ht
          have HH6 := Lib.hid h6
          have HD6 := Lib.hid (HD2.out.call hk6 hs6)
          have HL6 := Lib.hid (show Calls Try.prog 14 #[.pointer (some ⟨g, 0, none⟩)] w6 fun e w' => e = .returned (.int .i64 (n1 : Int)) ∧ w6 = w' from by
            have h9 := olen_any w6 h6.tb
            rw [List.length_map, HD1.out.dn] at h9
            exact h9)
          obtain ⟨D, hD⟩ : ∃ D, decide ((n1 : Int) < most) = D := ⟨_, rfl⟩
          have HR6 := Lib.hid (show Calls Try.prog 15 #[.pointer (some ⟨g, 0, none⟩)] w6 fun e w' => e = .returned (.bool D) ∧ Below w6.heap.size w6 w' from by
            have h9 := oroom_any w6 h6.tb
            rw [List.length_map, HD1.out.dn, hD] at h9
            exact h9)
          clear ht h6 hk6 hs6
          go_wp2_with fail
          refine (code_cerr KK _ HKL.out).mono ?_
          rintro e wc ⟨rfl, rfl⟩
          go_wp2_with fail
          refine HL6.out.mono ?_
          rintro e wc ⟨rfl, rfl⟩
          go_wp2_with fail
          refine HR6.out.mono ?_
          rintro e w7 ⟨rfl, hb7⟩
          have HH7 := Lib.hid (HH6.out.below hb7)
          have HD7 := Lib.hid (HD6.out.below hb7)
          clear hb7
          go_wp2
          go_roundw
          case rel => exact ⟨i + 1, n1, k1, y1, d1, S6, by omega, rfl, by go_num, HH7, HD7⟩
          case measure => simp [intOf]; omega
      · have kat : ((i : Int) == at') = false := beq_eq_false_iff_ne.2 hat
        clear hat
        as_aux_lemma =>
          have hbd := HH.out.tb.bound
          rw [List.length_map, HD.out.dn] at hbd
          have hr := rkeep16_any y n k d most m dx dl dc wr HD.out.dn (by have := hbd.2.1; have := hbd.2.2; omega) (HD.out.isM (HGM.out _ HH.out.bel)) (HBD.out.mono HH.out.bel (Nat.le_refl _)) (by rw [HDL.out]; omega)
          obtain ⟨KK, hKK⟩ : ∃ z, keepK most (d.map (·.1)) m = z := ⟨_, rfl⟩
          have hkl := keepK_le most (d.map (·.1)) m
          rw [hKK] at hr hkl
          have HR := Lib.hid hr
          have HKK := Lib.hid hKK
          have HKL := Lib.hid hkl
          clear hbd hr hKK hkl
          go_wp2_with fail
          refine HR.out.mono ?_
          rintro e w4 ⟨y1, n1, k1, d1, rfl, hd1, hn1, hm1', hl1, hz1, hb4⟩
          have hD1 : Dc w4 (.slice y1 n1 k1) n1 d1 l S := ⟨by have := hm1'.1; rw [hn1] at this; exact this, hn1, fun z hz => by
            rcases hz1 z hz with h | h
            · exact HD.out.dm z h
            · rw [h]; exact HME.out, fun b hb => by
            rcases hl1 b hb with h | h
            · exact HD.out.ds b h
            · exact HH.out.new h⟩
          have hH1 := HH.out.below hb4
          obtain ⟨c0, c1, c2, c3, c4, c5, c6, c7, c8, c9, c10, c11⟩ := HCE.out w4 hH1.bel
          have HD1 := Lib.hid hD1
          have HH1 := Lib.hid hH1
          have HDE := Lib.hid hd1
          clear hD1 hH1 hm1' hl1 hz1 hb4 hd1 hn1
          go_wp2_with fail
          refine (of_any14 m dx dl dc _).mono ?_
          rintro e w5 ⟨rfl, hb⟩
          have hH2 := HH1.out.below hb
          have hs := okeep_any w5 hH2.tb m dx dl dc (HBD.out.mono hH2.bel (Nat.le_refl _)) HF.out HI.out
          rw [HKK.out, ← HDE.out] at hs
          have HS := Lib.hid hs
          have HH2' := Lib.hid hH2
          have HD2 := Lib.hid (HD1.out.below hb)
          clear hs hH2 hb c0 c1 c2 c3 c4 c5 c6 c7 c8 c9 c10 c11
          go_wp2_with fail
          refine HS.out.mono ?_
          rintro e w6 ⟨rfl, ht⟩
          obtain ⟨S6, h6, hk6, hs6⟩ := HH2'.out.call ht
          have HH6 := Lib.hid h6
          have HD6 := Lib.hid (HD2.out.call hk6 hs6)
          have HL6 := Lib.hid (show Calls Try.prog 14 #[.pointer (some ⟨g, 0, none⟩)] w6 fun e w' => e = .returned (.int .i64 (n1 : Int)) ∧ w6 = w' from by
            have h9 := olen_any w6 h6.tb
            rw [List.length_map, HD1.out.dn] at h9
            exact h9)
          obtain ⟨D, hD⟩ : ∃ D, decide ((n1 : Int) < most) = D := ⟨_, rfl⟩
          have HR6 := Lib.hid (show Calls Try.prog 15 #[.pointer (some ⟨g, 0, none⟩)] w6 fun e w' => e = .returned (.bool D) ∧ Below w6.heap.size w6 w' from by
            have h9 := oroom_any w6 h6.tb
            rw [List.length_map, HD1.out.dn, hD] at h9
            exact h9)
          clear ht h6 hk6 hs6
          go_wp2_with fail
          refine (code_cerr KK _ HKL.out).mono ?_
          rintro e wc ⟨rfl, rfl⟩
          go_wp2_with fail
          refine HL6.out.mono ?_
          rintro e wc ⟨rfl, rfl⟩
          go_wp2_with fail
          refine HR6.out.mono ?_
          rintro e w7 ⟨rfl, hb7⟩
          have HH7 := Lib.hid (HH6.out.below hb7)
          have HD7 := Lib.hid (HD6.out.below hb7)
          clear hb7
          go_wp2
          go_roundw
          case rel => exact ⟨i + 1, n1, k1, y1, d1, S6, by omega, rfl, by go_num, HH7, HD7⟩
          case measure => simp [intOf]; omega
    · have hbd := HH.out.tb.bound
      rw [List.length_map, HD.out.dn] at hbd
      have hff := rfind16_any y n k d fm iq wr HD.out.dn (HD.out.isM (HGM.out _ HH.out.bel)) (by have := hbd.2.1; have := hbd.2.2; omega)
      clear hbd
      cases hn : lookT fm iq d with
      | none =>
        have hf := lookT_none.1 hn
        obtain ⟨R, hR⟩ : ∃ R, findP fm iq (d.map (·.1)) = R := ⟨_, rfl⟩
        rw [hR] at hff
        have kR : R < 0 := by rw [← hR]; exact hf
        have HFF := Lib.hid hff
        have HFI := Lib.hid (fun wx (hb : Below wr.heap.size wr wx) => show Calls Try.prog 17 #[.pointer (some ⟨g, 0, none⟩), .int .i64 fm, .int .u64 (iq : Int)] wx fun e w' => ∃ zx zc, e = .returned (.tuple #[.agg #[.int .i64 0, .int .i64 0, .int .i64 0, .int .i64 0, .int .i64 0, .int .u64 0, .int .i64 0, .bool false, .int .u64 0, .int .u32 0, .bool false, .slice zx 0 zc], err 6]) ∧ IsB w' (.slice zx 0 zc) [] ∧ Below wx.heap.size wx w' from by
          have h9 := ofind_any wx (HH.out.below hb).tb fm iq HFM.out.1 HFM.out.2
          rw [show findM fm iq (d.map (·.1)) = mz by unfold findM; rw [if_pos hf], show findK fm iq (d.map (·.1)) = 6 by unfold findK; rw [if_pos hf], cerr_pos (by decide)] at h9
          refine h9.mono ?_
          rintro e w' ⟨z, nn, c, q1, q2, q3, q4⟩
          have e9 : nn = 0 := by obtain ⟨a, cp, e, _⟩ := q2.1; cases e; rfl
          rw [e9] at q1 q2
          exact ⟨z, c, q1, q2.1, q4⟩)
        clear hff hR hf hn
        as_aux_lemma =>
          go_wp2_with fail
          refine HFF.out.mono ?_
          rintro e w2' ⟨rfl, hb⟩
          have HB2 := Lib.hid hb
          clear hb
          go_wp2_with fail
          refine (HFI.out _ HB2.out).mono ?_
          rintro e w3 ⟨zx, zc, rfl, hz, hb⟩
          have hbb := HB2.out.trans (hb.mono HB2.out.size)
          have HH4 := Lib.hid ((HH.out.below hbb).alloc (.cells #[.int .i64 0, .int .i64 0, .int .i64 0, .int .i64 0, .int .i64 0, .int .u64 0, .int .i64 0, .bool false, .int .u64 0, .int .u32 0, .bool false, .slice zx 0 zc] 42))
          have HX4 := Lib.hid (Blk.new w3 #[.int .i64 0, .int .i64 0, .int .i64 0, .int .i64 0, .int .i64 0, .int .u64 0, .int .i64 0, .bool false, .int .u64 0, .int .u32 0, .bool false, .slice zx 0 zc] 42)
          have HZ4 := Lib.hid (hz.mono (below_new16 w3 (.cells #[.int .i64 0, .int .i64 0, .int .i64 0, .int .i64 0, .int .i64 0, .int .u64 0, .int .i64 0, .bool false, .int .u64 0, .int .u32 0, .bool false, .slice zx 0 zc] 42)) (Nat.le_refl _))
          obtain ⟨w4, hw4⟩ : ∃ z, w3.alloc (.cells #[.int .i64 0, .int .i64 0, .int .i64 0, .int .i64 0, .int .i64 0, .int .u64 0, .int .i64 0, .bool false, .int .u64 0, .int .u32 0, .bool false, .slice zx 0 zc] 42) = z := ⟨_, rfl⟩
          obtain ⟨X, hXX⟩ : ∃ z, w3.heap.size = z := ⟨_, rfl⟩
          rw [hw4] at HH4 HX4 HZ4
          rw [hXX] at HX4
          have HW4 := Lib.hid hw4
          have HXX := Lib.hid hXX
          clear hw4 hXX hz hb hbb
          go_upto_region 25 with fail
          rw [HW4.out, HXX.out]
          have p0 := HX4.out.cell 0 rfl
          have p1 := HX4.out.cell 1 rfl
          have p2 := HX4.out.cell 2 rfl
          have p3 := HX4.out.cell 3 rfl
          have p4 := HX4.out.cell 4 rfl
          have p5 := HX4.out.cell 5 rfl
          have p6 := HX4.out.cell 6 rfl
          have p7 := HX4.out.cell 7 rfl
          have p8 := HX4.out.cell 8 rfl
          have p9 := HX4.out.cell 9 rfl
          have p10 := HX4.out.cell 10 rfl
          have p11 := HX4.out.cell 11 rfl
          have HSM := Lib.hid (show Calls Try.prog 18 #[.agg #[.int .i64 0, .int .i64 0, .int .i64 0, .int .i64 0, .int .i64 0, .int .u64 0, .int .i64 0, .bool false, .int .u64 0, .int .u32 0, .bool false, .slice zx 0 zc], .agg #[.int .i64 0, .int .i64 0, .int .i64 0, .int .i64 0, .int .i64 0, .int .u64 0, .int .i64 0, .bool false, .int .u64 0, .int .u32 0, .bool false, .slice none 0 0]] w4 fun e w' => e = .returned (.bool true) ∧ Below w4.heap.size w4 w' from by
            have h9 := wsame_v mz mz zx 0 zc none 0 0 w4 HZ4.out (IsB.nil w4)
            rwa [show sameM mz mz = true from (sameM_eq mz mz).2 rfl] at h9)
          go_wp2_with fail
          refine (code_code 6 _ (by decide) (by decide)).mono ?_
          rintro e wx ⟨rfl, rfl⟩
          go_wp2_with fail
          refine HSM.out.mono ?_
          rintro e w5 ⟨rfl, hb5⟩
          have HH5 := Lib.hid (HH4.out.below hb5)
          clear hb5
          go_wp2
          go_ret
          exact ⟨rfl, HH5.out.bel⟩
      | some x =>
        obtain ⟨j, hj, hxd⟩ := lookT_at hn
        obtain ⟨m, mv⟩ := x
        obtain ⟨dl, hdl⟩ : ∃ z, m.n.data.length = z := ⟨_, rfl⟩
        have hB := ((HGM.out wr HH.out.bel) _ (HD.out.dm _ (lookT_some hn).1)).1
        obtain ⟨dx, dc, rfl, hdc, hdm⟩ := hB.at_len hdl
        rw [hj] at hff
        have hjn : j < n := by
          have := (List.getElem?_eq_some_iff.1 hxd).1
          rw [HD.out.dn] at this
          exact this
        obtain ⟨bd, od, hidx, _, hcell⟩ := indexAt_X HD.out.dx 22 36 Try.underlying22 Try.sizeMsg j hjn
        have HCE := Lib.hid (fun wx (hb : Below wr.heap.size wr wx) => show wx.cell? ⟨bd, od, none⟩ = some (.int .i64 m.fr) ∧ wx.cell? ⟨bd, od + 1, none⟩ = some (.int .i64 m.to) ∧ wx.cell? ⟨bd, od + 2, none⟩ = some (.int .i64 m.kd) ∧ wx.cell? ⟨bd, od + 3, none⟩ = some (.int .i64 m.vo) ∧ wx.cell? ⟨bd, od + 4, none⟩ = some (.int .i64 m.li) ∧ wx.cell? ⟨bd, od + 5, none⟩ = some (.int .u64 (m.id : Int)) ∧ wx.cell? ⟨bd, od + 6, none⟩ = some (.int .i64 m.co) ∧ wx.cell? ⟨bd, od + 7, none⟩ = some (.bool m.has) ∧ wx.cell? ⟨bd, od + 8, none⟩ = some (.int .u64 (m.n.key : Int)) ∧ wx.cell? ⟨bd, od + 9, none⟩ = some (.int .u32 (m.n.cookie : Int)) ∧ wx.cell? ⟨bd, od + 10, none⟩ = some (.bool m.n.gone) ∧ wx.cell? ⟨bd, od + 11, none⟩ = some (.slice dx dl dc) from by
          have hc := fun q (hq : q < 12) => (hcell q hq).trans (row_get mcl_len hxd q hq)
          exact ⟨cell_on hb (v := .int .i64 m.fr) (hc 0 (by decide)), cell_on hb (v := .int .i64 m.to) (hc 1 (by decide)), cell_on hb (v := .int .i64 m.kd) (hc 2 (by decide)), cell_on hb (v := .int .i64 m.vo) (hc 3 (by decide)), cell_on hb (v := .int .i64 m.li) (hc 4 (by decide)), cell_on hb (v := .int .u64 (m.id : Int)) (hc 5 (by decide)), cell_on hb (v := .int .i64 m.co) (hc 6 (by decide)), cell_on hb (v := .bool m.has) (hc 7 (by decide)), cell_on hb (v := .int .u64 (m.n.key : Int)) (hc 8 (by decide)), cell_on hb (v := .int .u32 (m.n.cookie : Int)) (hc 9 (by decide)), cell_on hb (v := .bool m.n.gone) (hc 10 (by decide)), cell_on hb (v := .slice dx dl dc) (hc 11 (by decide))⟩)
        have kR : ¬ ((j : Int) < 0) := by omega
        have HFF := Lib.hid hff
        have HBD := Lib.hid hB
        have HDL := Lib.hid hdl
        have hMC := HH.out.tb
        have HLE := Lib.hid (show dl ≤ 4096 from by
          obtain ⟨b0, l0, k1, k2, k3, k4, k5, k6⟩ := hMC
          have := mcheck_len (k4 m (List.mem_map.2 ⟨(m, .slice dx dl dc), (lookT_some hn).1, rfl⟩)).1
          omega)
        have HFI := Lib.hid (fun wx (hb : Below wr.heap.size wr wx) => show Calls Try.prog 17 #[.pointer (some ⟨g, 0, none⟩), .int .i64 fm, .int .u64 (iq : Int)] wx fun e w' => ∃ zx zc, e = .returned (.tuple #[.agg #[.int .i64 m.fr, .int .i64 m.to, .int .i64 m.kd, .int .i64 m.vo, .int .i64 m.li, .int .u64 (m.id : Int), .int .i64 m.co, .bool m.has, .int .u64 (m.n.key : Int), .int .u32 (m.n.cookie : Int), .bool m.n.gone, .slice zx dl zc], .nilIface]) ∧ IsB w' (.slice zx dl zc) m.n.data ∧ Below wx.heap.size wx w' from by
          have h9 := ofind_any wx (HH.out.below hb).tb fm iq HFM.out.1 HFM.out.2
          rw [(findM_some hj hxd).1, (findM_some hj hxd).2, cerr_0] at h9
          refine h9.mono ?_
          rintro e w' ⟨z, nn, c, q1, q2, q3, q4⟩
          have e9 : nn = dl := by rw [← hdl]; obtain ⟨a, cp, e, _⟩ := q2.1; cases e; rfl
          rw [e9] at q1 q2
          exact ⟨z, c, q1, q2.1, q4⟩)
        clear hff hj hxd hn hB hdl hcell hMC hdc hdm
        as_aux_lemma =>
          go_wp2_with fail
          refine HFF.out.mono ?_
          rintro e w2' ⟨rfl, hb⟩
          have HB2 := Lib.hid hb
          clear hb
          go_wp2_with fail
          refine (HFI.out _ HB2.out).mono ?_
          rintro e w3 ⟨zx, zc, rfl, hz, hb⟩
          have hbb := HB2.out.trans (hb.mono HB2.out.size)
          have HB4 := Lib.hid (hbb.alloc hbb.size (.cells #[.int .i64 m.fr, .int .i64 m.to, .int .i64 m.kd, .int .i64 m.vo, .int .i64 m.li, .int .u64 (m.id : Int), .int .i64 m.co, .bool m.has, .int .u64 (m.n.key : Int), .int .u32 (m.n.cookie : Int), .bool m.n.gone, .slice zx dl zc] 42))
          have HX4 := Lib.hid (Blk.new w3 #[.int .i64 m.fr, .int .i64 m.to, .int .i64 m.kd, .int .i64 m.vo, .int .i64 m.li, .int .u64 (m.id : Int), .int .i64 m.co, .bool m.has, .int .u64 (m.n.key : Int), .int .u32 (m.n.cookie : Int), .bool m.n.gone, .slice zx dl zc] 42)
          have HZ4 := Lib.hid (hz.mono (below_new16 w3 (.cells #[.int .i64 m.fr, .int .i64 m.to, .int .i64 m.kd, .int .i64 m.vo, .int .i64 m.li, .int .u64 (m.id : Int), .int .i64 m.co, .bool m.has, .int .u64 (m.n.key : Int), .int .u32 (m.n.cookie : Int), .bool m.n.gone, .slice zx dl zc] 42)) (Nat.le_refl _))
          obtain ⟨w4, hw4⟩ : ∃ z, w3.alloc (.cells #[.int .i64 m.fr, .int .i64 m.to, .int .i64 m.kd, .int .i64 m.vo, .int .i64 m.li, .int .u64 (m.id : Int), .int .i64 m.co, .bool m.has, .int .u64 (m.n.key : Int), .int .u32 (m.n.cookie : Int), .bool m.n.gone, .slice zx dl zc] 42) = z := ⟨_, rfl⟩
          obtain ⟨X, hXX⟩ : ∃ z, w3.heap.size = z := ⟨_, rfl⟩
          rw [hw4] at HB4 HX4 HZ4
          rw [hXX] at HX4
          have HW4 := Lib.hid hw4
          have HXX := Lib.hid hXX
          clear hw4 hXX hz hb hbb
          go_upto_region 27 with fail
          try rw [HW4.out]
          try rw [HXX.out]
          have HTO := Lib.hid (fun wx => to_any m zx dl zc wx)
          have HCX := Lib.hid (fun (wx : World) (hb : Below w4.heap.size w4 wx) => show wx.cell? ⟨X, 0, none⟩ = some (.int .i64 m.fr) ∧ wx.cell? ⟨X, 1, none⟩ = some (.int .i64 m.to) ∧ wx.cell? ⟨X, 2, none⟩ = some (.int .i64 m.kd) ∧ wx.cell? ⟨X, 3, none⟩ = some (.int .i64 m.vo) ∧ wx.cell? ⟨X, 4, none⟩ = some (.int .i64 m.li) ∧ wx.cell? ⟨X, 5, none⟩ = some (.int .u64 (m.id : Int)) ∧ wx.cell? ⟨X, 6, none⟩ = some (.int .i64 m.co) ∧ wx.cell? ⟨X, 7, none⟩ = some (.bool m.has) ∧ wx.cell? ⟨X, 8, none⟩ = some (.int .u64 (m.n.key : Int)) ∧ wx.cell? ⟨X, 9, none⟩ = some (.int .u32 (m.n.cookie : Int)) ∧ wx.cell? ⟨X, 10, none⟩ = some (.bool m.n.gone) ∧ wx.cell? ⟨X, 11, none⟩ = some (.slice zx dl zc) from
            have h := HX4.out.below hb HX4.out.lt
            ⟨h.cell 0 rfl, h.cell 1 rfl, h.cell 2 rfl, h.cell 3 rfl, h.cell 4 rfl, h.cell 5 rfl, h.cell 6 rfl, h.cell 7 rfl, h.cell 8 rfl, h.cell 9 rfl, h.cell 10 rfl, h.cell 11 rfl⟩)
          have HCD := Lib.hid (fun (wx : World) (hb : Below w4.heap.size w4 wx) => HCE.out wx (HB4.out.trans (hb.mono HB4.out.size)))
          have HSM := Lib.hid (fun (wx : World) (hb : Below w4.heap.size w4 wx) => show Calls Try.prog 19 #[mval m (.slice zx dl zc), mval m (.slice dx dl dc)] wx fun e w' => e = .returned (.bool true) ∧ Below wx.heap.size wx w' from by
            have h9 := rsame_any m m (.slice zx dl zc) (.slice dx dl dc) wx (HZ4.out.mono hb (Nat.le_refl _)) (HBD.out.mono (HB4.out.trans (hb.mono HB4.out.size)) (Nat.le_refl _)) (by rw [HDL.out]; have := HLE.out; omega)
            rwa [show sameM m m = true from (sameM_eq m m).2 rfl] at h9)
          have HUX := Lib.hid (show Below w4.heap.size w4 w4.drew from (Below.refl _ _).drew)
          refine wp_region_held_drew (S := (fun wx => Below w4.heap.size w4 wx)) (by kernel_rfl) (HUX.out) (fun hHeld => ?_)
          obtain ⟨q0w, hq0w⟩ : ∃ q, w4.drew = q := ⟨_, rfl⟩
          rw [hq0w] at HUX hHeld
          rw [hq0w]
          clear hq0w
          refine wpAnyH_take (i := 0) (v := ?_) rfl (by kernel_rfl) (by kernel_rfl) (by kernel_rfl) (fun _ _ _ h => h) (Or.inl ⟨by rfl, ?_⟩) (by assumption) ?_
          rotate_left 1
          · intro w hSw
            (try dsimp only at hSw)
            go_simp
            all_goals (with_reducible rfl)
          try simp only [Act.put, List.getElem_toArray, List.getElem_cons_zero, List.getElem_cons_succ, List.setIfInBounds_toArray, List.set_cons_zero, List.set_cons_succ]
          refine wpAnyH_ready (rs := [1]) (by kernel_rfl) (by simp) ?_
          refine AllReadyH.cons rfl (fun K hK => ?_) AllReadyH.nil
          go_simp
          refine (code_nil _).mono ?_
          rintro e u ⟨rfl, rfl⟩
          refine hK.out _ _ (by first | exact hHeld | exact HUX.out) (fun hHeld => ?_)
          clear hK K
          try simp only [Act.put, List.getElem_toArray, List.getElem_cons_zero, List.getElem_cons_succ, List.setIfInBounds_toArray, List.set_cons_zero, List.set_cons_succ]
          refine wpAnyH_take (i := 2) (v := ?_) rfl (by kernel_rfl) (by kernel_rfl) (by kernel_rfl) (fun _ _ _ h => h) (Or.inl ⟨by rfl, ?_⟩) (by assumption) ?_
          rotate_left 1
          · intro w hSw
            (try dsimp only at hSw)
            go_simp
            all_goals (with_reducible rfl)
          try simp only [Act.put, List.getElem_toArray, List.getElem_cons_zero, List.getElem_cons_succ, List.setIfInBounds_toArray, List.set_cons_zero, List.set_cons_succ]
          refine wpAnyH_take (i := 3) (v := ?_) rfl (by kernel_rfl) (by kernel_rfl) (by kernel_rfl) (fun _ _ _ h => h) (Or.inl ⟨by rfl, ?_⟩) (by assumption) ?_
          rotate_left 1
          · intro w hSw
            (try dsimp only at hSw)
            go_simp
            all_goals (with_reducible rfl)
          try simp only [Act.put, List.getElem_toArray, List.getElem_cons_zero, List.getElem_cons_succ, List.setIfInBounds_toArray, List.set_cons_zero, List.set_cons_succ]
          refine wpAnyH_take (i := 4) (v := ?_) rfl (by kernel_rfl) (by kernel_rfl) (by kernel_rfl) (fun _ _ _ h => h) (Or.inl ⟨by rfl, ?_⟩) (by assumption) ?_
          rotate_left 1
          · intro w hSw
            obtain ⟨p0, p1, p2, p3, p4, p5, p6, p7, p8, p9, p10, p11⟩ := HCX.out w hSw
            go_simp
            all_goals (with_reducible rfl)
          try simp only [Act.put, List.getElem_toArray, List.getElem_cons_zero, List.getElem_cons_succ, List.setIfInBounds_toArray, List.set_cons_zero, List.set_cons_succ]
          refine wpAnyH_take (i := 6) (v := ?_) rfl (by kernel_rfl) (by kernel_rfl) (by kernel_rfl) (fun _ _ _ h => h) (Or.inl ⟨by rfl, ?_⟩) (by assumption) ?_
          rotate_left 1
          · intro w hSw
            (try dsimp only at hSw)
            go_simp
            all_goals (with_reducible rfl)
          try simp only [Act.put, List.getElem_toArray, List.getElem_cons_zero, List.getElem_cons_succ, List.setIfInBounds_toArray, List.set_cons_zero, List.set_cons_succ]
          refine wpAnyH_take (i := 7) (v := ?_) rfl (by kernel_rfl) (by kernel_rfl) (by kernel_rfl) (fun _ _ _ h => h) (Or.inl ⟨by rfl, ?_⟩) (by assumption) ?_
          rotate_left 1
          · intro w hSw
            (try dsimp only at hSw)
            go_simp
            all_goals (with_reducible rfl)
          try simp only [Act.put, List.getElem_toArray, List.getElem_cons_zero, List.getElem_cons_succ, List.setIfInBounds_toArray, List.set_cons_zero, List.set_cons_succ]
          refine wpAnyH_take (i := 8) (v := ?_) rfl (by kernel_rfl) (by kernel_rfl) (by kernel_rfl) (fun _ _ _ h => h) (Or.inl ⟨by rfl, ?_⟩) (by assumption) ?_
          rotate_left 1
          · intro w hSw
            (try dsimp only at hSw)
            go_simp
            all_goals (with_reducible rfl)
          try simp only [Act.put, List.getElem_toArray, List.getElem_cons_zero, List.getElem_cons_succ, List.setIfInBounds_toArray, List.set_cons_zero, List.set_cons_succ]
          refine wpAnyH_take (i := 9) (v := ?_) rfl (by kernel_rfl) (by kernel_rfl) (by kernel_rfl) (fun _ _ _ h => h) (Or.inl ⟨by rfl, ?_⟩) (by assumption) ?_
          rotate_left 1
          · intro w hSw
            obtain ⟨p0, p1, p2, p3, p4, p5, p6, p7, p8, p9, p10, p11⟩ := HCD.out w hSw
            go_simp
            all_goals (with_reducible rfl)
          try simp only [Act.put, List.getElem_toArray, List.getElem_cons_zero, List.getElem_cons_succ, List.setIfInBounds_toArray, List.set_cons_zero, List.set_cons_succ]
          refine wpAnyH_ready (rs := [5]) (by kernel_rfl) (by simp) ?_
          refine AllReadyH.cons rfl (fun K hK => ?_) AllReadyH.nil
          go_simp
          refine (HTO.out _).mono ?_
          rintro e u1 ⟨rfl, hbx⟩
          have HUn := Lib.hid (HUX.out.trans (hbx.mono HUX.out.size))
          clear hbx HUX
          have HUX := HUn
          clear HUn
          refine hK.out _ _ (by first | exact hHeld | exact HUX.out) (fun hHeld => ?_)
          clear hK K
          try simp only [Act.put, List.getElem_toArray, List.getElem_cons_zero, List.getElem_cons_succ, List.setIfInBounds_toArray, List.set_cons_zero, List.set_cons_succ]
          refine wpAnyH_ready (rs := [10]) (by kernel_rfl) (by simp) ?_
          refine AllReadyH.cons rfl (fun K hK => ?_) AllReadyH.nil
          go_simp
          refine (HSM.out _ HUX.out).mono ?_
          rintro e u1 ⟨rfl, hbx⟩
          have HUn := Lib.hid (HUX.out.trans (hbx.mono HUX.out.size))
          clear hbx HUX
          have HUX := HUn
          clear HUn
          refine hK.out _ _ (by first | exact hHeld | exact HUX.out) (fun hHeld => ?_)
          clear hK K
          try simp only [Act.put, List.getElem_toArray, List.getElem_cons_zero, List.getElem_cons_succ, List.setIfInBounds_toArray, List.set_cons_zero, List.set_cons_succ]
          refine wpAnyH_take (i := 11) (v := ?_) rfl (by kernel_rfl) (by kernel_rfl) (by kernel_rfl) (fun _ _ _ h => h) (Or.inl ⟨by rfl, ?_⟩) (by assumption) ?_
          rotate_left 1
          · intro w hSw
            (try dsimp only at hSw)
            go_simp
            all_goals (with_reducible rfl)
          try simp only [Act.put, List.getElem_toArray, List.getElem_cons_zero, List.getElem_cons_succ, List.setIfInBounds_toArray, List.set_cons_zero, List.set_cons_succ]
          refine wpAnyH_ready (rs := [12]) (by kernel_rfl) (by simp) ?_
          refine AllReadyH.cons rfl (fun K hK => ?_) AllReadyH.nil
          go_simp
          refine hK.out _ _ (hHeld) (fun hHeld => ?_)
          clear hK K
          try simp only [Act.put, List.getElem_toArray, List.getElem_cons_zero, List.getElem_cons_succ, List.setIfInBounds_toArray, List.set_cons_zero, List.set_cons_succ]
          refine wpAnyH_done (by kernel_rfl) ?_ _
          go_wp2
          go_ret
          exact ⟨rfl, HH.out.bel.trans ((HB4.out.trans (HUX.out.mono HB4.out.size)).mono HH.out.bel.size)⟩

end Go.Proofs.Ytncfdkkekaninaa
