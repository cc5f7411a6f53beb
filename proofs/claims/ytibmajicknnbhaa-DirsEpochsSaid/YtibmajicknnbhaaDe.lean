/- Package corncriblaw19: DirsEpochs. -/
import Derived.Test.YtibmajicknnbhaaDa
namespace Go.Proofs.Ytibmajicknnbhaa
open Go.RowKit Go.Cor
set_option linter.unusedVariables false
set_option linter.unusedSimpArgs false

theorem Try.sizeCmd19 : (Try.prog.info? 33).map (·.size) = some 8 := by kernel_rfl
theorem doK_le (L : List En) (c : Cm) : doK L c ≤ 17 := by
  unfold doK
  split
  · split
    · split <;> omega
    · omega
  · split
    · split
      · omega
      · unfold turnK
        repeat (split <;> try omega)
    · omega
/-- A command without an error on the one volume: what it leaves, and that it can't be done again. -/
theorem epoch_done {e : En} {c : Cm} {m : Nat} (hk : doK [e] c = 0) (hm : doN [e] c = m) (h1 : c.kind ≠ 1) (he : EnOk e) :
    ∃ t, doL [e] c = [t] ∧ EnOk t ∧ t.ep = e.ep + 1 ∧ m = e.ep + 1 ∧ doK [t] c = 13 := by
  obtain ⟨x, hx, ht, hl, hn⟩ := doK_zero hk h1
  have hx2 := lookE_some hx
  have hlt := lookE_lt hx
  have h0 : (c.vol - 1).toNat = 0 := by simpa using hlt
  rw [h0] at hx2 hl
  have hxe : e = x := by simpa using hx2.2
  subst hxe
  refine ⟨turnE e c, by rw [hl]; rfl, turnE_ok he ht, turnE_ep e c, by omega, ?_⟩
  have hep : c.ep = (e.ep : Int) := by
    unfold turnK at ht
    split at ht
    · assumption
    · omega
  have hkind : c.kind = 2 ∨ c.kind = 3 ∨ c.kind = 4 := by
    unfold doK at hk
    rw [if_neg h1] at hk
    split at hk
    · assumption
    · omega
  have hlook : lookE [turnE e c] c.vol = some (turnE e c) := by
    unfold lookE
    rw [if_pos hx2.1, h0]
    rfl
  unfold doK
  rw [if_neg h1, if_pos hkind, hlook]
  show turnK (turnE e c) c = 13
  unfold turnK
  rw [if_neg (by rw [turnE_ep]; omega)]
set_option maxRecDepth 100000 in
set_option maxHeartbeats 4000000 in
theorem dirsEpochs_all (v : Value) (l : List Cm) (w : World) (hv : IsX w 8 v l.length (row ccl l)) :
    Calls Try.prog 3 #[v] w fun e w' => e = .returned (.bool true) ∧ Below w.heap.size w w' := by
  obtain ⟨N, hN⟩ : ∃ N, l.length = N := ⟨_, rfl⟩
  rw [hN] at hv
  have hlen := fun W => len_X (P := Try.prog) hv 22 3 33 Try.underlying22 W
  have HV := Lib.hid hv
  have HN := Lib.hid hN
  clear hv hN
  by_cases hbig : 100 < N
  · have hbig' : (100 : Int) < (N : Int) := by omega
    go_enter Try.func3, Try.ntmps3
    go_wp2_with (go_at_call 6; refine (alive19 _).mono ?_; rintro e w1 ⟨rfl, hb1⟩)
    go_ret
    exact ⟨rfl, hb1⟩
  have hbig' : ¬ (100 : Int) < (N : Int) := by omega
  have HNX := Lib.hid (show N ≤ 100 from by omega)
  clear hbig
  go_enter Try.func3, Try.ntmps3
  go_wp2_with fail
  refine (alive19 _).mono ?_
  rintro e w1 ⟨rfl, hb1⟩
  have HB1 := Lib.hid hb1
  clear hb1
  go_wp2_with fail
  refine (dnew _).mono ?_
  rintro e w2 ⟨g, S0, rfl, h2, hb2⟩
  have H2 := Lib.hid (Dh.new HB1.out h2 hb2 1)
  clear h2 hb2
  go_wp2_with fail
  refine (H2.out.do (by decide) ⟨1, 0, 0, 0, 0, 0, 1, 2⟩).mono ?_
  rw [show doK [] ⟨1, 0, 0, 0, 0, 0, 1, 2⟩ = 0 from by decide, show doN [] ⟨1, 0, 0, 0, 0, 0, 1, 2⟩ = 1 from by decide, derr_zero]
  rintro e w3 ⟨rfl, h3⟩
  obtain ⟨S1, h4, _, _⟩ := H2.out.call h3 (doL_ok H2.out.ok (by decide))
  have H3 := Lib.hid (show Dh w w3 g S1 [⟨1, 1, 0, 1, 2, false⟩] 2 from h4)
  clear h3 h4
  go_wp2_with fail
  go_loopw [4] (fun c wr => ∃ (i : Nat) (S : Nat → Prop) (e : En), i ≤ N ∧ c = .int .i64 i ∧ Hid (Dh w wr g S [e] (i + 2))) (fun c _ => N - (intOf c).toNat)
  case atStart => exact ⟨0, S1, ⟨1, 1, 0, 1, 2, false⟩, Nat.zero_le _, rfl, H3⟩
  case round =>
    obtain ⟨i, S, e, hiN, rfl, HH⟩ := hrel
    by_cases hlt : i < N
    · have hlt' : (i : Int) < (N : Int) := by omega
      have HI := Lib.hid hlt
      obtain ⟨⟨ck, cv, ce, ca, cn, c1, c2, c3⟩, hy⟩ := (⟨_, List.getElem?_eq_getElem (l := l) (i := i) (by rw [HN.out]; exact hlt)⟩ : ∃ d, l[i]? = some d)
      obtain ⟨b, o, hidx, _, hcell⟩ := indexAt_X (P := Try.prog) (HV.out.mono HH.out.bel (Nat.le_refl _)) 22 33 Try.underlying22 Try.sizeCmd19 i hlt
      have hce := fun q (hq : q < 8) => (hcell q hq).trans (row_get ccl_len hy q hq)
      have d0 : wr.cell? ⟨b, o, none⟩ = some (.int .i64 ck) := hce 0 (by decide)
      have d1 : wr.cell? ⟨b, o + 1, none⟩ = some (.int .i64 cv) := hce 1 (by decide)
      have d2 : wr.cell? ⟨b, o + 2, none⟩ = some (.int .i64 ce) := hce 2 (by decide)
      have d3 : wr.cell? ⟨b, o + 3, none⟩ = some (.int .i64 ca) := hce 3 (by decide)
      have d4 : wr.cell? ⟨b, o + 4, none⟩ = some (.int .i64 cn) := hce 4 (by decide)
      have d5 : wr.cell? ⟨b, o + 5, none⟩ = some (.int .i64 c1) := hce 5 (by decide)
      have d6 : wr.cell? ⟨b, o + 6, none⟩ = some (.int .i64 c2) := hce 6 (by decide)
      have d7 : wr.cell? ⟨b, o + 7, none⟩ = some (.int .i64 c3) := hce 7 (by decide)
      clear hce hcell hy hlt
      obtain ⟨ev, ep, ea, eb, ec, es⟩ := e
      have hY := Blk.new wr #[.int .i64 ck, .int .i64 1, .int .i64 ce, .int .i64 ca, .int .i64 cn, .int .i64 c1, .int .i64 c2, .int .i64 c3] 32
      have hh := HH.out.alloc (.cells #[.int .i64 ck, .int .i64 1, .int .i64 ce, .int .i64 ca, .int .i64 cn, .int .i64 c1, .int .i64 c2, .int .i64 c3] 32)
      have hY0 : ¬ S wr.heap.size := fun h => by have := HH.out.mp.lt h; omega
      have hYB : w.heap.size ≤ wr.heap.size := HH.out.bel.size
      obtain ⟨W1, hW1⟩ : ∃ z, wr.alloc (.cells #[.int .i64 ck, .int .i64 1, .int .i64 ce, .int .i64 ca, .int .i64 cn, .int .i64 c1, .int .i64 c2, .int .i64 c3] 32) = z := ⟨_, rfl⟩
      rw [hW1] at hY hh
      obtain ⟨Y, hYe⟩ : ∃ z, wr.heap.size = z := ⟨_, rfl⟩
      rw [hYe] at hY hY0 hYB
      have HW1 := Lib.hid hW1
      have HYe := Lib.hid hYe
      have HY := Lib.hid hY
      have HY0 := Lib.hid hY0
      have HYB := Lib.hid hYB
      have HH1 := Lib.hid hh
      clear hW1 hYe hY hY0 hYB hh
      go_upto_region 12 with fail
      rw [HW1.out]
      try rw [HYe.out]
      clear d0 d1 d2 d3 d4 d5 d6 d7 hidx
      go_wp2_with fail
      refine (HH1.out.find (by have := HI.out; have := HNX.out; omega) 1 rfl).mono ?_
      rintro r W2 ⟨rfl, hb⟩
      have HH2 := Lib.hid (HH1.out.below hb)
      have HY2 := Lib.hid (HY.out.below hb HY.out.lt)
      clear hb
      have hZ := Blk.new W2 #[.int .i64 (ev : Int), .int .i64 (ep : Int), .int .i64 (ea : Int), .int .i64 (eb : Int), .int .i64 (ec : Int), .bool es] 35
      have hh := HH2.out.alloc (.cells #[.int .i64 (ev : Int), .int .i64 (ep : Int), .int .i64 (ea : Int), .int .i64 (eb : Int), .int .i64 (ec : Int), .bool es] 35)
      have hZ0 : ¬ S W2.heap.size := fun h => by have := HH2.out.mp.lt h; omega
      have hZB : w.heap.size ≤ W2.heap.size := HH2.out.bel.size
      have hYZ : Y ≠ W2.heap.size := fun h => by have := HY2.out.lt; omega
      have hY3 := HY2.out.alloc (.cells #[.int .i64 (ev : Int), .int .i64 (ep : Int), .int .i64 (ea : Int), .int .i64 (eb : Int), .int .i64 (ec : Int), .bool es] 35)
      obtain ⟨W3, hW3⟩ : ∃ z, W2.alloc (.cells #[.int .i64 (ev : Int), .int .i64 (ep : Int), .int .i64 (ea : Int), .int .i64 (eb : Int), .int .i64 (ec : Int), .bool es] 35) = z := ⟨_, rfl⟩
      rw [hW3] at hZ hh hY3
      obtain ⟨Z, hZe⟩ : ∃ z, W2.heap.size = z := ⟨_, rfl⟩
      rw [hZe] at hZ hZ0 hZB hYZ
      have HW3 := Lib.hid hW3
      have HZe := Lib.hid hZe
      have HZ := Lib.hid hZ
      have HY3 := Lib.hid hY3
      have HZ0 := Lib.hid hZ0
      have HZB := Lib.hid hZB
      have HYZ := Lib.hid hYZ
      have HH3 := Lib.hid hh
      clear hW3 hZe hZ hZ0 hZB hh hYZ hY3
      unfold eval
      go_upto_region 13 with fail
      rw [HW3.out]
      try rw [HZe.out]
      have y0 := HY3.out.cell 0 rfl
      by_cases hk1 : ck = 1
      · subst hk1
        go_wp2
        go_roundw
        case rel => exact ⟨i + 1, S, ⟨ev, ep, ea, eb, ec, es⟩, by have := HI.out; omega, by go_num, Lib.hid ⟨HH3.out.bel, HH3.out.mp, HH3.out.ok.more (by omega)⟩⟩
        case measure => simp [intOf] <;> (have := HI.out; omega)
      · have hkb : (ck == 1) = false := by rw [beq_eq_false_iff_ne]; exact hk1
        have y2 := HY3.out.cell 2 rfl
        have z1 := HZ.out.cell 1 rfl
        have yf := HY3.out.free 2
        have hY4 := HY3.out.set 2 (.int .i64 (ep : Int))
        have hh := HH3.out.cell (p := ⟨Y, 2, none⟩) HYB.out HY0.out (.int .i64 (ep : Int))
        have hZ4 := HZ.out.other (a := ⟨Y, 2, none⟩) HYZ.out (.int .i64 (ep : Int))
        obtain ⟨W4, hW4⟩ : ∃ z, W3.setCell ⟨Y, 2, none⟩ (.int .i64 (ep : Int)) = z := ⟨_, rfl⟩
        rw [hW4] at hY4 hh hZ4
        have HY4 := Lib.hid (show Blk W4 Y #[.int .i64 ck, .int .i64 1, .int .i64 (ep : Int), .int .i64 ca, .int .i64 cn, .int .i64 c1, .int .i64 c2, .int .i64 c3] 32 from by simpa using hY4)
        have HZ4 := Lib.hid hZ4
        have HH4 := Lib.hid hh
        have HW4 := Lib.hid hW4
        clear hY4 hh hZ4 hW4
        go_upto_region 15 with fail
        rw [HW4.out]
        clear y0 y2 z1 yf
        -- the command, and what it does
        obtain ⟨k, hk⟩ : ∃ k, doK [⟨ev, ep, ea, eb, ec, es⟩] ⟨ck, 1, ep, ca, cn, c1, c2, c3⟩ = k := ⟨_, rfl⟩
        obtain ⟨m, hm⟩ : ∃ k, doN [⟨ev, ep, ea, eb, ec, es⟩] ⟨ck, 1, ep, ca, cn, c1, c2, c3⟩ = k := ⟨_, rfl⟩
        have hdo := fun wx (h : Dh w wx g S [⟨ev, ep, ea, eb, ec, es⟩] (i + 2)) => h.do (by have := HI.out; have := HNX.out; omega) ⟨ck, 1, ep, ca, cn, c1, c2, c3⟩
        rw [hk, hm] at hdo
        have HDO := Lib.hid (fun wx (h : Dh w wx g S [⟨ev, ep, ea, eb, ec, es⟩] (i + 2)) => show Calls Try.prog 8 #[.pointer (some ⟨g, 0, none⟩), .agg #[.int .i64 ck, .int .i64 1, .int .i64 (ep : Int), .int .i64 ca, .int .i64 cn, .int .i64 c1, .int .i64 c2, .int .i64 c3]] wx fun e w' => e = .returned (.tuple #[.int .i64 (m : Int), derr k]) ∧ MpT wx w.heap.size g S (doL [⟨ev, ep, ea, eb, ec, es⟩] ⟨ck, 1, ep, ca, cn, c1, c2, c3⟩) w' from hdo wx h)
        have HKK := Lib.hid hk
        have HMM := Lib.hid hm
        have HCK := Lib.hid hk1
        clear hk hm hdo hk1
        have y0 := HY4.out.cell 0 rfl
        have y1 := HY4.out.cell 1 rfl
        have y2 := HY4.out.cell 2 rfl
        have y3 := HY4.out.cell 3 rfl
        have y4 := HY4.out.cell 4 rfl
        have y5 := HY4.out.cell 5 rfl
        have y6 := HY4.out.cell 6 rfl
        have y7 := HY4.out.cell 7 rfl
        go_wp2_with fail
        refine (HDO.out _ HH4.out).mono ?_
        rintro r W5 ⟨rfl, ht⟩
        clear y0 y1 y2 y3 y4 y5 y6 y7
        by_cases hk0 : k = 0
        · subst hk0
          rw [derr_zero]
          obtain ⟨t, ht1⟩ : ∃ t, doL [⟨ev, ep, ea, eb, ec, es⟩] ⟨ck, 1, ep, ca, cn, c1, c2, c3⟩ = [t] ∧ EnOk t ∧ t.ep = ep + 1 ∧ m = ep + 1 ∧ doK [t] ⟨ck, 1, ep, ca, cn, c1, c2, c3⟩ = 13 := epoch_done HKK.out HMM.out HCK.out (HH4.out.ok.ok _ (List.mem_singleton.2 rfl)).1
          obtain ⟨hdl, hto, htp, hme, h13⟩ := ht1
          rw [hdl] at ht
          obtain ⟨S2, hh, hs2, hkp⟩ := HH4.out.call ht (show LOk [t] (i + 3) from by rw [← hdl]; exact doL_ok HH4.out.ok (by omega))
          have hy5 := HY4.out.kept hkp HY0.out
          have hz5 := HZ4.out.kept hkp HZ0.out
          have hyb := HY4.out.lt
          have hzb := HZ4.out.lt
          have HYS := Lib.hid (show ¬ S2 Y from fun h => by rcases hs2 _ h with h | h; exact HY0.out h; omega)
          have HZS := Lib.hid (show ¬ S2 Z from fun h => by rcases hs2 _ h with h | h; exact HZ0.out h; omega)
          have HY5 := Lib.hid hy5
          have HZ5 := Lib.hid hz5
          have HH5 := Lib.hid hh
          obtain ⟨tv, tp, ta, tb, tc, ts⟩ := t
          obtain rfl : tp = ep + 1 := htp
          obtain rfl : m = ep + 1 := hme
          obtain ⟨M, hM⟩ : ∃ M, ep + 1 = M := ⟨_, rfl⟩
          have HME := Lib.hid (show (ep : Int) + 1 = (M : Int) from by omega)
          have hMb : M ≤ 1000 := by
            have h1 := (HH4.out.ok.ok _ (List.mem_singleton.2 rfl)).2
            have h2 : ep ≤ i + 2 := h1
            have := HI.out; have := HNX.out; omega
          rw [hM] at hto h13 HH5
          have HEP := Lib.hid hM
          have HTO := Lib.hid hto
          have H13 := Lib.hid h13
          try rw [hM]
          clear ht hh hs2 hkp hy5 hz5 hyb hzb hdl hto h13 hM
          go_wp2_with fail
          refine (HH5.out.find (by have := HI.out; have := HNX.out; omega) 1 rfl).mono ?_
          rintro r W6 ⟨rfl, hb⟩
          have HH6 := Lib.hid (HH5.out.below hb)
          have HY6 := Lib.hid (HY5.out.below hb HY5.out.lt)
          have HZ6 := Lib.hid (HZ5.out.below hb HZ5.out.lt)
          clear hb
          have hQ := Blk.new W6 #[.int .i64 (tv : Int), .int .i64 (M : Int), .int .i64 (ta : Int), .int .i64 (tb : Int), .int .i64 (tc : Int), .bool ts] 35
          have hh := HH6.out.alloc (.cells #[.int .i64 (tv : Int), .int .i64 (M : Int), .int .i64 (ta : Int), .int .i64 (tb : Int), .int .i64 (tc : Int), .bool ts] 35)
          have hQ0 : ¬ S2 W6.heap.size := fun h => by have := HH6.out.mp.lt h; omega
          have hQB : w.heap.size ≤ W6.heap.size := HH6.out.bel.size
          have hYQ : Y ≠ W6.heap.size := fun h => by have := HY6.out.lt; omega
          have hHY7 := HY6.out.alloc (.cells #[.int .i64 (tv : Int), .int .i64 (M : Int), .int .i64 (ta : Int), .int .i64 (tb : Int), .int .i64 (tc : Int), .bool ts] 35)
          have hZQ : Z ≠ W6.heap.size := fun h => by have := HZ6.out.lt; omega
          have hHZ7 := HZ6.out.alloc (.cells #[.int .i64 (tv : Int), .int .i64 (M : Int), .int .i64 (ta : Int), .int .i64 (tb : Int), .int .i64 (tc : Int), .bool ts] 35)
          obtain ⟨W7, hW⟩ : ∃ z, W6.alloc (.cells #[.int .i64 (tv : Int), .int .i64 (M : Int), .int .i64 (ta : Int), .int .i64 (tb : Int), .int .i64 (tc : Int), .bool ts] 35) = z := ⟨_, rfl⟩
          rw [hW] at hQ hh hHY7 hHZ7
          obtain ⟨Q, hB⟩ : ∃ z, W6.heap.size = z := ⟨_, rfl⟩
          rw [hB] at hQ hQ0 hQB hYQ hZQ
          have HW7 := Lib.hid hW
          have HQe := Lib.hid hB
          have HQ := Lib.hid hQ
          have HQ0 := Lib.hid hQ0
          have HQB := Lib.hid hQB
          have HH7 := Lib.hid hh
          have HY7 := Lib.hid hHY7
          have HYQ := Lib.hid hYQ
          have HZ7 := Lib.hid hHZ7
          have HZQ := Lib.hid hZQ
          clear hW hB hQ hQ0 hQB hh hHY7 hHZ7 hYQ hZQ
          unfold eval
          go_upto_region 17 with fail
          rw [HW7.out]
          try rw [HQe.out]
          have y0 := HY7.out.cell 0 rfl
          have y1 := HY7.out.cell 1 rfl
          have y2 := HY7.out.cell 2 rfl
          have y3 := HY7.out.cell 3 rfl
          have y4 := HY7.out.cell 4 rfl
          have y5 := HY7.out.cell 5 rfl
          have y6 := HY7.out.cell 6 rfl
          have y7 := HY7.out.cell 7 rfl
          go_wp2_with (go_at_call 10; first | (with_reducible refine (code_nil _).mono ?_; rintro e wc ⟨rfl, rfl⟩) | (with_reducible refine (code_code _ _ (by decide) (by decide)).mono ?_; rintro e wc ⟨rfl, rfl⟩))
          have HDO2 := Lib.hid (fun wx (h : Dh w wx g S2 [⟨tv, M, ta, tb, tc, ts⟩] (i + 3)) => show Calls Try.prog 8 #[.pointer (some ⟨g, 0, none⟩), .agg #[.int .i64 ck, .int .i64 1, .int .i64 (ep : Int), .int .i64 ca, .int .i64 cn, .int .i64 c1, .int .i64 c2, .int .i64 c3]] wx fun e w' => e = .returned (.tuple #[.int .i64 0, erc 13]) ∧ MpT wx w.heap.size g S2 [⟨tv, M, ta, tb, tc, ts⟩] w' from by
            have h1 := h.do (by have := HI.out; have := HNX.out; omega) ⟨ck, 1, ep, ca, cn, c1, c2, c3⟩
            have h2 := doL_bad (L := [⟨tv, M, ta, tb, tc, ts⟩]) (c := ⟨ck, 1, ep, ca, cn, c1, c2, c3⟩) (by rw [H13.out]; decide)
            rw [h2.1, h2.2, H13.out] at h1
            exact h1)
          refine (HDO2.out _ HH7.out).mono ?_
          rintro r W8 ⟨rfl, ht⟩
          obtain ⟨S3, hh, hs3, hkp⟩ := HH7.out.call ht HH7.out.ok
          have hy8 := HY7.out.kept hkp HYS.out
          have hz8 := HZ7.out.kept hkp HZS.out
          have hq8 := HQ.out.kept hkp HQ0.out
          have HY8 := Lib.hid hy8
          have HZ8 := Lib.hid hz8
          have HQ8 := Lib.hid hq8
          have HH8 := Lib.hid hh
          clear ht hh hkp hy8 hz8 hq8 y0 y1 y2 y3 y4 y5 y6 y7
          go_wp2_with fail
          refine (HH8.out.find (by have := HI.out; have := HNX.out; omega) 1 rfl).mono ?_
          rintro r W9 ⟨rfl, hb⟩
          have HH9 := Lib.hid (HH8.out.below hb)
          have HZ9 := Lib.hid (HZ8.out.below hb HZ8.out.lt)
          have HQ9 := Lib.hid (HQ8.out.below hb HQ8.out.lt)
          clear hb
          have hR := Blk.new W9 #[.int .i64 (tv : Int), .int .i64 (M : Int), .int .i64 (ta : Int), .int .i64 (tb : Int), .int .i64 (tc : Int), .bool ts] 35
          have hh := HH9.out.alloc (.cells #[.int .i64 (tv : Int), .int .i64 (M : Int), .int .i64 (ta : Int), .int .i64 (tb : Int), .int .i64 (tc : Int), .bool ts] 35)
          have hR0 : ¬ S3 W9.heap.size := fun h => by have := HH9.out.mp.lt h; omega
          have hRB : w.heap.size ≤ W9.heap.size := HH9.out.bel.size
          have hZR : Z ≠ W9.heap.size := fun h => by have := HZ9.out.lt; omega
          have hHZA := HZ9.out.alloc (.cells #[.int .i64 (tv : Int), .int .i64 (M : Int), .int .i64 (ta : Int), .int .i64 (tb : Int), .int .i64 (tc : Int), .bool ts] 35)
          have hQR : Q ≠ W9.heap.size := fun h => by have := HQ9.out.lt; omega
          have hHQA := HQ9.out.alloc (.cells #[.int .i64 (tv : Int), .int .i64 (M : Int), .int .i64 (ta : Int), .int .i64 (tb : Int), .int .i64 (tc : Int), .bool ts] 35)
          obtain ⟨WA, hW⟩ : ∃ z, W9.alloc (.cells #[.int .i64 (tv : Int), .int .i64 (M : Int), .int .i64 (ta : Int), .int .i64 (tb : Int), .int .i64 (tc : Int), .bool ts] 35) = z := ⟨_, rfl⟩
          rw [hW] at hR hh hHZA hHQA
          obtain ⟨R, hB⟩ : ∃ z, W9.heap.size = z := ⟨_, rfl⟩
          rw [hB] at hR hR0 hRB hZR hQR
          have HWA := Lib.hid hW
          have HRe := Lib.hid hB
          have HR := Lib.hid hR
          have HR0 := Lib.hid hR0
          have HRB := Lib.hid hRB
          have HHA := Lib.hid hh
          have HZA := Lib.hid hHZA
          have HZR := Lib.hid hZR
          have HQA := Lib.hid hHQA
          have HQR := Lib.hid hQR
          clear hW hB hR hR0 hRB hh hHZA hHQA hZR hQR
          unfold eval
          go_upto_region 22 with fail
          rw [HWA.out]
          try rw [HRe.out]
          have z1 := HZA.out.cell 1 rfl
          have q0 := HQA.out.cell 0 rfl
          have q1 := HQA.out.cell 1 rfl
          have q2 := HQA.out.cell 2 rfl
          have q3 := HQA.out.cell 3 rfl
          have q4 := HQA.out.cell 4 rfl
          have q5 := HQA.out.cell 5 rfl
          have r0 := HR.out.cell 0 rfl
          have r1 := HR.out.cell 1 rfl
          have r2 := HR.out.cell 2 rfl
          have r3 := HR.out.cell 3 rfl
          have r4 := HR.out.cell 4 rfl
          have r5 := HR.out.cell 5 rfl
          have hme := HME.out
          have heq := fun W => show (binOp .neq 35 (.agg #[.int .i64 (tv : Int), .int .i64 (M : Int), .int .i64 (ta : Int), .int .i64 (tb : Int), .int .i64 (tc : Int), .bool ts]) (.agg #[.int .i64 (tv : Int), .int .i64 (M : Int), .int .i64 (ta : Int), .int .i64 (tb : Int), .int .i64 (tc : Int), .bool ts])).run Try.prog W = .ok (.bool false) W from by
            have h1 := Try.eqlEn ⟨tv, M, ta, tb, tc, ts⟩ ⟨tv, M, ta, tb, tc, ts⟩ W
            rw [show decide ((⟨tv, M, ta, tb, tc, ts⟩ : En) ≠ ⟨tv, M, ta, tb, tc, ts⟩) = false from by simp] at h1
            exact h1
          have hgu := Try.guardEn
          have d1 : ((ta : Int) == (tb : Int)) = false := by rw [beq_eq_false_iff_ne]; have := HTO.out.2.2.2.1; dsimp only at this; omega
          have d2 : ((tb : Int) == (tc : Int)) = false := by rw [beq_eq_false_iff_ne]; have := HTO.out.2.2.2.2.2; dsimp only at this; omega
          have d3 : ((ta : Int) == (tc : Int)) = false := by rw [beq_eq_false_iff_ne]; have := HTO.out.2.2.2.2.1; dsimp only at this; omega
          go_wp2_with (go_at_call 10; first | (with_reducible refine (code_nil _).mono ?_; rintro e wc ⟨rfl, rfl⟩) | (with_reducible refine (code_code _ _ (by decide) (by decide)).mono ?_; rintro e wc ⟨rfl, rfl⟩))
          go_roundw
          case rel => exact ⟨i + 1, S3, ⟨tv, M, ta, tb, tc, ts⟩, by have := HI.out; omega, by go_num, Lib.hid ⟨HHA.out.bel, HHA.out.mp, HHA.out.ok⟩⟩
          case measure => simp [intOf] <;> (have := HI.out; omega)
        · have hk17 : k ≤ 17 := by rw [← HKK.out]; exact doK_le _ _
          have hkc : derr k = erc (k : Int) := derr_pos hk0
          rw [(doL_bad (by rw [HKK.out]; exact hk0)).1] at ht
          rw [hkc]
          have HK17 := Lib.hid hk17
          have HK0 := Lib.hid hk0
          obtain ⟨S2, hh, hs2, hkp⟩ := HH4.out.call ht HH4.out.ok
          have hz5 := HZ4.out.kept hkp HZ0.out
          have hzb := HZ4.out.lt
          have HZS := Lib.hid (show ¬ S2 Z from fun h => by rcases hs2 _ h with h | h; exact HZ0.out h; omega)
          have HZ5 := Lib.hid hz5
          have HH5 := Lib.hid hh
          have hkne : ((k : Int) != 0) = true := by rw [bne_iff_ne]; omega
          clear ht hh hs2 hkp hz5 hzb hk17 hkc hk0
          go_wp2_with fail
          refine (HH5.out.find (by have := HI.out; have := HNX.out; omega) 1 rfl).mono ?_
          rintro r W6 ⟨rfl, hb⟩
          have HH6 := Lib.hid (HH5.out.below hb)
          have HZ6 := Lib.hid (HZ5.out.below hb HZ5.out.lt)
          clear hb
          have hQ := Blk.new W6 #[.int .i64 (ev : Int), .int .i64 (ep : Int), .int .i64 (ea : Int), .int .i64 (eb : Int), .int .i64 (ec : Int), .bool es] 35
          have hh := HH6.out.alloc (.cells #[.int .i64 (ev : Int), .int .i64 (ep : Int), .int .i64 (ea : Int), .int .i64 (eb : Int), .int .i64 (ec : Int), .bool es] 35)
          have hQ0 : ¬ S2 W6.heap.size := fun h => by have := HH6.out.mp.lt h; omega
          have hQB : w.heap.size ≤ W6.heap.size := HH6.out.bel.size
          have hZQ : Z ≠ W6.heap.size := fun h => by have := HZ6.out.lt; omega
          have hHZ7 := HZ6.out.alloc (.cells #[.int .i64 (ev : Int), .int .i64 (ep : Int), .int .i64 (ea : Int), .int .i64 (eb : Int), .int .i64 (ec : Int), .bool es] 35)
          obtain ⟨W7, hW⟩ : ∃ z, W6.alloc (.cells #[.int .i64 (ev : Int), .int .i64 (ep : Int), .int .i64 (ea : Int), .int .i64 (eb : Int), .int .i64 (ec : Int), .bool es] 35) = z := ⟨_, rfl⟩
          rw [hW] at hQ hh hHZ7
          obtain ⟨Q, hB⟩ : ∃ z, W6.heap.size = z := ⟨_, rfl⟩
          rw [hB] at hQ hQ0 hQB hZQ
          have HW7 := Lib.hid hW
          have HQe := Lib.hid hB
          have HQ := Lib.hid hQ
          have HQ0 := Lib.hid hQ0
          have HQB := Lib.hid hQB
          have HH7 := Lib.hid hh
          have HZ7 := Lib.hid hHZ7
          have HZQ := Lib.hid hZQ
          clear hW hB hQ hQ0 hQB hh hHZ7 hZQ
          unfold eval
          go_upto_region 17 with fail
          rw [HW7.out]
          try rw [HQe.out]
          have z0 := HZ7.out.cell 0 rfl
          have z1 := HZ7.out.cell 1 rfl
          have z2 := HZ7.out.cell 2 rfl
          have z3 := HZ7.out.cell 3 rfl
          have z4 := HZ7.out.cell 4 rfl
          have z5 := HZ7.out.cell 5 rfl
          have q0 := HQ.out.cell 0 rfl
          have q1 := HQ.out.cell 1 rfl
          have q2 := HQ.out.cell 2 rfl
          have q3 := HQ.out.cell 3 rfl
          have q4 := HQ.out.cell 4 rfl
          have q5 := HQ.out.cell 5 rfl
          have heq := fun W => show (binOp .neq 35 (.agg #[.int .i64 (ev : Int), .int .i64 (ep : Int), .int .i64 (ea : Int), .int .i64 (eb : Int), .int .i64 (ec : Int), .bool es]) (.agg #[.int .i64 (ev : Int), .int .i64 (ep : Int), .int .i64 (ea : Int), .int .i64 (eb : Int), .int .i64 (ec : Int), .bool es])).run Try.prog W = .ok (.bool false) W from by
            have h1 := Try.eqlEn ⟨ev, ep, ea, eb, ec, es⟩ ⟨ev, ep, ea, eb, ec, es⟩ W
            rw [show decide ((⟨ev, ep, ea, eb, ec, es⟩ : En) ≠ ⟨ev, ep, ea, eb, ec, es⟩) = false from by simp] at h1
            exact h1
          have hgu := Try.guardEn
          go_wp2_with (go_at_call 10; refine (code_code _ _ (by have := HK0.out; omega) (by have := HK17.out; omega)).mono ?_; rintro e wc ⟨rfl, rfl⟩)
          go_roundw
          case rel => exact ⟨i + 1, S2, ⟨ev, ep, ea, eb, ec, es⟩, by have := HI.out; omega, by go_num, Lib.hid ⟨HH7.out.bel, HH7.out.mp, HH7.out.ok.more (by omega)⟩⟩
          case measure => simp [intOf] <;> (have := HI.out; omega)
    · obtain rfl : N = i := by omega
      go_wp2_with fail
      refine (ddo_nil _ ⟨0, 0, 0, 0, 0, 0, 0, 0⟩).mono ?_
      rintro r W1 ⟨rfl, hb⟩
      have HB2 := Lib.hid (HH.out.bel.trans (hb.mono HH.out.bel.size))
      clear hb
      go_wp2_with fail
      refine (dfind_nil _ 1).mono ?_
      rintro r W2 ⟨rfl, hb⟩
      have HB3 := Lib.hid (HB2.out.trans (hb.mono HB2.out.size))
      clear hb
      unfold eval zEn
      go_wp2_with (go_at_call 10; refine (code_code _ _ (by decide) (by decide)).mono ?_; rintro e wc ⟨rfl, rfl⟩)
      refine (dall_nil _).mono ?_
      rintro r W3 ⟨va, rfl, hva, hb⟩
      have hla := fun W => len_X (P := Try.prog) hva 39 3 35 Try.underlying39 W
      have HB4 := Lib.hid ((HB3.out.alloc HB3.out.size _).trans (hb.mono (by have := HB3.out.size; simp; omega)))
      clear hb hva
      go_wp2_with fail
      refine (don_nil _ 1).mono ?_
      rintro r W4 ⟨vo, rfl, hvo, hb⟩
      have hlo := fun W => len_X (P := Try.prog) hvo 41 3 3 Try.underlying41 W
      have HB5 := Lib.hid (HB4.out.trans (hb.mono HB4.out.size))
      clear hb hvo
      go_wp2_with fail
      refine (dbytes_nil _).mono ?_
      rintro r W5 ⟨vb, rfl, hvb, hb⟩
      have hlb := fun W => len_B19 (P := Try.prog) hvb 43 3 5 Try.underlying43 W
      have HB6 := Lib.hid (HB5.out.trans (hb.mono HB5.out.size))
      clear hb hvb
      go_wp2
      go_ret
      exact ⟨rfl, HB6.out⟩
end Go.Proofs.Ytibmajicknnbhaa
