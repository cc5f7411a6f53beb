/- Package corncriblaw19: DirsApart. -/
import Derived.Test.YtibmajicknnbhaaDe
namespace Go.Proofs.Ytibmajicknnbhaa
open Go.RowKit Go.Cor
set_option linter.unusedVariables false
set_option linter.unusedSimpArgs false

/-- Where a command turns an entry: at P, or nowhere (P behind them all). -/
theorem apart_do {L : List En} {K : Nat} (h : LOk L K) (c : Cm) : ∃ P,
    (∀ k x y, L[k]? = some x → (doL L c)[k]? = some y → (x = y ↔ k ≠ P)) ∧
    (P < L.length → doK L c = 0 ∧ c.vol = (P : Int) + 1 ∧ (doL L c).length = L.length ∧ ∀ x y, L[P]? = some x → (doL L c)[P]? = some y → y.ep = x.ep + 1 ∧ y.vol = x.vol) ∧
    (L.length ≤ P → (doK L c = 0 → (doL L c).length = L.length + 1) ∧ (doK L c ≠ 0 → (doL L c).length = L.length)) := by
  by_cases hk : doK L c = 0
  · by_cases h1 : c.kind = 1
    · obtain ⟨_, _, e, _⟩ := doK_make hk h1
      refine ⟨L.length, fun k x y hx hy => ?_, fun h => absurd h (Nat.lt_irrefl _), fun _ => ⟨fun _ => by rw [e, List.length_append]; rfl, fun h => absurd hk h⟩⟩
      have hlt := (List.getElem?_eq_some_iff.1 hx).1
      rw [e, List.getElem?_append_left hlt, hx] at hy
      obtain rfl := Option.some.inj hy
      exact ⟨fun _ => by omega, fun _ => rfl⟩
    · obtain ⟨e, hl, ht, e1, _⟩ := doK_zero hk h1
      obtain ⟨v1, v2⟩ := lookE_some hl
      have vlt := lookE_lt hl
      refine ⟨(c.vol - 1).toNat, fun k x y hx hy => ?_, fun _ => ⟨hk, by omega, by rw [e1, List.length_set], fun x y hx hy => ?_⟩, fun h => absurd vlt (by omega)⟩
      · rw [e1, List.getElem?_set] at hy
        by_cases hkP : (c.vol - 1).toNat = k
        · rw [if_pos hkP, if_pos (by omega)] at hy
          obtain rfl := Option.some.inj hy
          rw [hkP] at v2
          rw [v2] at hx
          obtain rfl := Option.some.inj hx
          refine ⟨fun he => ?_, fun hne => absurd hkP.symm hne⟩
          have := congrArg En.ep he
          rw [turnE_ep] at this
          omega
        · rw [if_neg hkP, hx] at hy
          obtain rfl := Option.some.inj hy
          exact ⟨fun _ => fun he => hkP he.symm, fun _ => rfl⟩
      · rw [e1, List.getElem?_set, if_pos rfl, if_pos vlt] at hy
        obtain rfl := Option.some.inj hy
        rw [v2] at hx
        obtain rfl := Option.some.inj hx
        exact ⟨turnE_ep _ _, turnE_vol _ _⟩
  · obtain ⟨e, _⟩ := doL_bad hk
    refine ⟨L.length, fun k x y hx hy => ?_, fun h => absurd h (Nat.lt_irrefl _), fun _ => ⟨fun h => absurd h hk, fun _ => by rw [e]⟩⟩
    have hlt := (List.getElem?_eq_some_iff.1 hx).1
    rw [e, hx] at hy
    obtain rfl := Option.some.inj hy
    exact ⟨fun _ => by omega, fun _ => rfl⟩
theorem Try.sizeEn19 : (Try.prog.info? 35).map (·.size) = some 6 := by kernel_rfl
set_option maxRecDepth 100000 in
set_option maxHeartbeats 4000000 in
theorem dirsApart_all (v : Value) (l : List Cm) (w : World) (hv : IsX w 8 v l.length (row ccl l)) :
    Calls Try.prog 4 #[v] w fun e w' => e = .returned (.bool true) ∧ Below w.heap.size w w' := by
  obtain ⟨N, hN⟩ : ∃ N, l.length = N := ⟨_, rfl⟩
  rw [hN] at hv
  have hlen := fun W => len_X (P := Try.prog) hv 22 3 33 Try.underlying22 W
  have HV := Lib.hid hv
  have HN := Lib.hid hN
  clear hv hN
  by_cases hbig : 100 < N
  · have hbig' : (100 : Int) < (N : Int) := by omega
    go_enter Try.func4, Try.ntmps4
    go_wp2_with (go_at_call 6; refine (alive19 _).mono ?_; rintro e w1 ⟨rfl, hb1⟩)
    go_ret
    exact ⟨rfl, hb1⟩
  have hbig' : ¬ (100 : Int) < (N : Int) := by omega
  have HNX := Lib.hid (show N ≤ 100 from by omega)
  clear hbig
  go_enter Try.func4, Try.ntmps4
  go_wp2_with fail
  refine (alive19 _).mono ?_
  rintro e w1 ⟨rfl, hb1⟩
  have HB1 := Lib.hid hb1
  clear hb1
  go_wp2_with fail
  refine (dnew _).mono ?_
  rintro e w2 ⟨g, S0, rfl, h2, hb2⟩
  have H2 := Lib.hid (Dh.new HB1.out h2 hb2 1)
  clear h2 hb2
  go_wp2_with fail
  go_loopw [4] (fun c wr => ∃ (i : Nat) (S : Nat → Prop) (L : List En), i ≤ 3 ∧ c = .int .i64 i ∧ Hid (Dh w wr g S L (i + 1))) (fun c _ => 3 - (intOf c).toNat)
  case atStart => exact ⟨0, S0, [], Nat.zero_le _, rfl, H2⟩
  case round =>
    obtain ⟨i, S, L, hi3, rfl, HH⟩ := hrel
    by_cases hlt : i < 3
    · have hlt' : (i : Int) < 3 := by omega
      have HI := Lib.hid hlt
      clear hlt
      go_wp2_with fail
      refine (HH.out.do (by have := HI.out; omega) ⟨1, 0, 0, 0, 0, i, (i : Int) + 1, (i : Int) + 2⟩).mono ?_
      rintro e w3 ⟨rfl, ht⟩
      obtain ⟨S1, hh, _, _⟩ := HH.out.call ht (doL_ok HH.out.ok (by omega))
      have HH1 := Lib.hid hh
      clear ht hh
      go_wp2_with fail
      go_roundw
      case rel => exact ⟨i + 1, S1, _, by have := HI.out; omega, by go_num, HH1⟩
      case measure => simp [intOf] <;> (have := HI.out; omega)
    · have hlt3 : ¬ (i : Int) < 3 := by omega
      clear hlt
      go_wp2_with fail
      go_loopw [5] (fun c wr => ∃ (i : Nat) (S : Nat → Prop) (L : List En), i ≤ N ∧ c = .int .i64 i ∧ Hid (Dh w wr g S L (i + 4))) (fun c _ => N - (intOf c).toNat)
      case atStart => exact ⟨0, S, L, Nat.zero_le _, rfl, Lib.hid ⟨HH.out.bel, HH.out.mp, HH.out.ok.more (by omega)⟩⟩
      case round =>
        obtain ⟨i, S, L, hiN, rfl, HH⟩ := hrel
        by_cases hlt : i < N
        · have hlt' : (i : Int) < (N : Int) := by omega
          have HI := Lib.hid hlt
          have HKB := Lib.hid (show i + 4 ≤ 1000000 from by have := HNX.out; omega)
          obtain ⟨wa, hwa⟩ : ∃ z, wr = z := ⟨_, rfl⟩
          subst hwa
          go_wp2_with fail
          refine (dall wr _ g S L HH.out.mp (HH.out.ok.more HKB.out)).mono ?_
          rintro e W1 ⟨v1, rfl, hx1, hf1, hb⟩
          obtain ⟨NL, hNL⟩ : ∃ z, L.length = z := ⟨_, rfl⟩
          rw [hNL] at hx1 hf1
          have HH1 := Lib.hid (HH.out.below hb)
          have HX1 := Lib.hid hx1
          have HF1 := Lib.hid hf1
          have HNL := Lib.hid hNL
          have HSW := Lib.hid hb.size
          clear hx1 hf1 hb hNL
          obtain ⟨⟨ck, cv, ce, ca, cn, c1, c2, c3⟩, hy⟩ := (⟨_, List.getElem?_eq_getElem (l := l) (i := i) (by rw [HN.out]; exact hlt)⟩ : ∃ d, l[i]? = some d)
          obtain ⟨b, o, hidx, _, hcell⟩ := indexAt_X (P := Try.prog) (HV.out.mono HH1.out.bel (Nat.le_refl _)) 22 33 Try.underlying22 Try.sizeCmd19 i hlt
          have hce := fun q (hq : q < 8) => (hcell q hq).trans (row_get ccl_len hy q hq)
          have d0 : W1.cell? ⟨b, o, none⟩ = some (.int .i64 ck) := hce 0 (by decide)
          have d1 : W1.cell? ⟨b, o + 1, none⟩ = some (.int .i64 cv) := hce 1 (by decide)
          have d2 : W1.cell? ⟨b, o + 2, none⟩ = some (.int .i64 ce) := hce 2 (by decide)
          have d3 : W1.cell? ⟨b, o + 3, none⟩ = some (.int .i64 ca) := hce 3 (by decide)
          have d4 : W1.cell? ⟨b, o + 4, none⟩ = some (.int .i64 cn) := hce 4 (by decide)
          have d5 : W1.cell? ⟨b, o + 5, none⟩ = some (.int .i64 c1) := hce 5 (by decide)
          have d6 : W1.cell? ⟨b, o + 6, none⟩ = some (.int .i64 c2) := hce 6 (by decide)
          have d7 : W1.cell? ⟨b, o + 7, none⟩ = some (.int .i64 c3) := hce 7 (by decide)
          have HYL := Lib.hid hy
          have HLT := Lib.hid hlt
          obtain ⟨C, hC⟩ : ∃ C : Cm, C = ⟨ck, cv, ce, ca, cn, c1, c2, c3⟩ := ⟨_, rfl⟩
          have HCV := Lib.hid (show C.vol = cv from by rw [hC])
          have HDO := Lib.hid (show Calls Try.prog 8 #[.pointer (some ⟨g, 0, none⟩), .agg #[.int .i64 ck, .int .i64 cv, .int .i64 ce, .int .i64 ca, .int .i64 cn, .int .i64 c1, .int .i64 c2, .int .i64 c3]] W1 fun e w' => e = .returned (.tuple #[.int .i64 (doN L C : Int), derr (doK L C)]) ∧ MpT W1 w.heap.size g S (doL L C) w' from by
            rw [hC]
            exact HH1.out.do HKB.out ⟨ck, cv, ce, ca, cn, c1, c2, c3⟩)
          obtain ⟨P, hP1, hP2, hP3⟩ := apart_do HH1.out.ok C
          have hok2 := doL_ok (c := C) HH1.out.ok (by omega)
          have hk17 := doK_le L C
          obtain ⟨L2, hL2⟩ : ∃ z, doL L C = z := ⟨_, rfl⟩
          obtain ⟨k2, hk2⟩ : ∃ z, doK L C = z := ⟨_, rfl⟩
          obtain ⟨m2, hm2⟩ : ∃ z, doN L C = z := ⟨_, rfl⟩
          rw [hL2, hk2, hm2] at HDO
          rw [hL2] at hP1
          rw [hL2, HNL.out] at hP2 hP3
          rw [hk2] at hP2 hP3 hk17
          rw [hL2] at hok2
          have HP1 := Lib.hid hP1
          have HP2 := Lib.hid hP2
          have HP3 := Lib.hid hP3
          have HOK2 := Lib.hid hok2
          have HK17 := Lib.hid hk17
          clear hP1 hP2 hP3 hok2 hk17 hL2 hk2 hm2 hC hce hcell hy hlt
          go_wp2_with fail
          refine HDO.out.mono ?_
          rintro e W2 ⟨rfl, ht⟩
          obtain ⟨S2, hh, hs2, hkp⟩ := HH1.out.call ht HOK2.out
          have hx2 := HX1.out.kept hkp (fun k hk hs => by have h1 := HF1.out k hk; have h2 := (HH.out.mp.lt hs).2; omega)
          have HX2 := Lib.hid hx2
          have HH2 := Lib.hid hh
          clear d0 d1 d2 d3 d4 d5 d6 d7 hidx ht hh hs2 hkp hx2
          go_wp2_with fail
          refine (dall W2 _ g S2 L2 HH2.out.mp (HH2.out.ok.more (by have := HNX.out; have := HI.out; omega))).mono ?_
          rintro e W3 ⟨v2, rfl, hx3, _, hb⟩
          obtain ⟨N2, hN2⟩ : ∃ z, L2.length = z := ⟨_, rfl⟩
          rw [hN2] at hx3
          have HN2 := Lib.hid hN2
          have HX3 := Lib.hid hx3
          have HX4 := Lib.hid (HX2.out.mono hb (Nat.le_refl _))
          have HH3 := Lib.hid (HH2.out.below hb)
          clear hx3 hb hN2
          have hl1 := fun W => len_X (P := Try.prog) HX4.out 39 3 35 Try.underlying39 W
          have hl2 := fun W => len_X (P := Try.prog) HX3.out 39 3 35 Try.underlying39 W
          have HNN2 := Lib.hid (show NL ≤ N2 from by
            by_cases hp : P < NL
            · have := (HP2.out hp).2.2.1; have := HN2.out; omega
            · by_cases hk : k2 = 0
              · have := (HP3.out (by omega)).1 hk; have := HN2.out; omega
              · have := (HP3.out (by omega)).2 hk; have := HN2.out; omega)
          have HLB := Lib.hid (show NL ≤ 4096 from by have := HH.out.ok.len; have := HNL.out; omega)
          go_wp2_with fail
          go_loopw [10, 11] (fun tq kq wx => ∃ (k T : Nat), k ≤ NL ∧ kq = .int .i64 k ∧ tq = .int .i64 T ∧ Hid (T = if P < k then 1 else 0) ∧ Hid (Below W3.heap.size W3 wx)) (fun _ kq _ => NL - (intOf kq).toNat)
          case atStart => exact ⟨0, 0, Nat.zero_le _, rfl, rfl, Lib.hid (by simp), Lib.hid (Below.refl _ _)⟩
          case round =>
            obtain ⟨k, T, hkN, rfl, rfl, HT, HWX⟩ := hrel
            have ha1 := HX4.out.mono HWX.out (Nat.le_refl _)
            have ha2 := HX3.out.mono HWX.out (Nat.le_refl _)
            have hnl9 : NL ≤ 4096 := HLB.out
            by_cases hlt : k < NL
            · have hlt' : (k : Int) < (NL : Int) := by omega
              obtain ⟨⟨xv, xp, xa, xb, xc, xs⟩, hx⟩ := (⟨_, List.getElem?_eq_getElem (l := L) (i := k) (by rw [HNL.out]; exact hlt)⟩ : ∃ d, L[k]? = some d)
              obtain ⟨⟨yv, yp, ya, yb, yc, ys⟩, hy⟩ := (⟨_, List.getElem?_eq_getElem (l := L2) (i := k) (by rw [HN2.out]; have := HNN2.out; omega)⟩ : ∃ d, L2[k]? = some d)
              obtain ⟨b1, o1, hi1, _, hq1⟩ := indexAt_X (P := Try.prog) ha1 39 35 Try.underlying39 Try.sizeEn19 k hlt
              obtain ⟨b2, o2, hi2, _, hq2⟩ := indexAt_X (P := Try.prog) ha2 39 35 Try.underlying39 Try.sizeEn19 k (by have := HNN2.out; omega)
              have e1 := fun q (hq : q < 6) => (hq1 q hq).trans (row_get ecl_len hx q hq)
              have e2 := fun q (hq : q < 6) => (hq2 q hq).trans (row_get ecl_len hy q hq)
              have p0 : wr.cell? ⟨b1, o1, none⟩ = some (.int .i64 (xv : Int)) := e1 0 (by decide)
              have p1 : wr.cell? ⟨b1, o1 + 1, none⟩ = some (.int .i64 (xp : Int)) := e1 1 (by decide)
              have p2 : wr.cell? ⟨b1, o1 + 2, none⟩ = some (.int .i64 (xa : Int)) := e1 2 (by decide)
              have p3 : wr.cell? ⟨b1, o1 + 3, none⟩ = some (.int .i64 (xb : Int)) := e1 3 (by decide)
              have p4 : wr.cell? ⟨b1, o1 + 4, none⟩ = some (.int .i64 (xc : Int)) := e1 4 (by decide)
              have p5 : wr.cell? ⟨b1, o1 + 5, none⟩ = some (.bool xs) := e1 5 (by decide)
              have r0 : wr.cell? ⟨b2, o2, none⟩ = some (.int .i64 (yv : Int)) := e2 0 (by decide)
              have r1 : wr.cell? ⟨b2, o2 + 1, none⟩ = some (.int .i64 (yp : Int)) := e2 1 (by decide)
              have r2 : wr.cell? ⟨b2, o2 + 2, none⟩ = some (.int .i64 (ya : Int)) := e2 2 (by decide)
              have r3 : wr.cell? ⟨b2, o2 + 3, none⟩ = some (.int .i64 (yb : Int)) := e2 3 (by decide)
              have r4 : wr.cell? ⟨b2, o2 + 4, none⟩ = some (.int .i64 (yc : Int)) := e2 4 (by decide)
              have r5 : wr.cell? ⟨b2, o2 + 5, none⟩ = some (.bool ys) := e2 5 (by decide)
              have hgu := Try.guardEn
              have heq := fun W => Try.eqlEn ⟨xv, xp, xa, xb, xc, xs⟩ ⟨yv, yp, ya, yb, yc, ys⟩ W
              unfold eval at heq
              dsimp only at heq
              obtain ⟨E, hE⟩ : ∃ E, decide ((⟨xv, xp, xa, xb, xc, xs⟩ : En) ≠ ⟨yv, yp, ya, yb, yc, ys⟩) = E := ⟨_, rfl⟩
              rw [hE] at heq
              have HIF := Lib.hid (HP1.out k _ _ hx hy)
              have HK := Lib.hid hlt
              cases E with
              | false =>
                have hkP : k ≠ P := HIF.out.1 (by simpa using hE)
                have HKP := Lib.hid hkP
                clear e1 e2 hq1 hq2 hx hy ha1 ha2 hE hlt hkP
                go_wp2_with fail
                go_region
                go_wp2
                go_roundw
                case rel => exact ⟨k + 1, T, by have := HK.out; omega, by go_num, rfl, Lib.hid (by rw [HT.out]; have := HKP.out; split <;> split <;> omega), Lib.hid (HWX.out.drew)⟩
                case measure => simp [intOf] <;> (have := HK.out; omega)
              | true =>
                have hkP : k = P := by
                  by_cases h : k = P
                  · exact h
                  · have := HIF.out.2 h; rw [decide_eq_true_iff] at hE; exact absurd this hE
                subst hkP
                obtain ⟨_, hcv, _, hee⟩ := HP2.out HK.out
                obtain ⟨he1, he2⟩ := hee _ _ hx hy
                dsimp only at he1 he2
                subst he2
                have hme : (xp : Int) + 1 = (yp : Int) := by omega
                have hxp : xp ≤ 200 := by have := (HH.out.ok.ok _ (List.mem_of_getElem? hx)).2; dsimp only at this; have := HI.out; have := HNX.out; omega
                have hw1 : IntKind.i64.wrap ((k : Int) + 1) = (k : Int) + 1 := IntWalk.i64_in _ (by omega)
                have hw2 : IntKind.i64.wrap ((xp : Int) + 1) = (yp : Int) := by rw [IntWalk.i64_in _ (by omega)]; exact hme
                have hcv' : cv = (k : Int) + 1 := by rw [← HCV.out]; exact hcv
                obtain rfl : T = 0 := by rw [HT.out, if_neg (by omega)]
                clear e1 e2 hq1 hq2 hx hy ha1 ha2 hE hlt he1 hee hcv
                obtain ⟨b, o, hidx, _, hcell⟩ := indexAt_X (P := Try.prog) (HV.out.mono (HH3.out.bel.trans (HWX.out.mono HH3.out.bel.size)) (Nat.le_refl _)) 22 33 Try.underlying22 Try.sizeCmd19 i HLT.out
                have d1 : wr.cell? ⟨b, o + 1, none⟩ = some (.int .i64 cv) := (hcell 1 (by decide)).trans (row_get ccl_len HYL.out 1 (by decide))
                clear hcell
                subst hcv'
                go_wp2_with fail
                go_region
                go_wp2_with fail
                go_quiet (fail)
                go_wp2
                go_roundw
                case rel => exact ⟨k + 1, 1, by have := HK.out; omega, by go_num, rfl, Lib.hid (by rw [if_pos (by omega)]), Lib.hid (below_drewN19 HWX.out _)⟩
                case measure => simp [intOf] <;> (have := HK.out; omega)
            · obtain rfl : NL = k := by omega
              have HFIN := Lib.hid (Dh.below HH3.out HWX.out)
              clear ha1 ha2 hlt
              by_cases hp : P < NL
              · obtain ⟨hk0, _, hl, _⟩ := HP2.out hp
                obtain rfl : T = 1 := by rw [HT.out, if_pos hp]
                subst hk0
                rw [derr_zero]
                clear hp hl
                go_wp2_with (go_at_call 10; refine (code_nil _).mono ?_; rintro e wc ⟨rfl, rfl⟩)
                go_roundw
                case rel => exact ⟨i + 1, S2, L2, by have := HI.out; omega, by go_num, Lib.hid ⟨HFIN.out.bel, HFIN.out.mp, HFIN.out.ok.more (by omega)⟩⟩
                case measure => simp [intOf] <;> (have := HI.out; omega)
              · obtain rfl : T = 0 := by rw [HT.out, if_neg hp]
                by_cases hk0 : k2 = 0
                · have hl := (HP3.out (by omega)).1 hk0
                  rw [HN2.out] at hl
                  subst hk0
                  subst hl
                  rw [derr_zero]
                  clear hp
                  go_wp2_with (go_at_call 10; refine (code_nil _).mono ?_; rintro e wc ⟨rfl, rfl⟩)
                  go_roundw
                  case rel => exact ⟨i + 1, S2, L2, by have := HI.out; omega, by go_num, Lib.hid ⟨HFIN.out.bel, HFIN.out.mp, HFIN.out.ok.more (by omega)⟩⟩
                  case measure => simp [intOf] <;> (have := HI.out; omega)
                · have hl := (HP3.out (by omega)).2 hk0
                  rw [HN2.out] at hl
                  subst hl
                  rw [derr_pos hk0]
                  have HK0 := Lib.hid hk0
                  have hkne : ((k2 : Int) == 0) = false := by rw [beq_eq_false_iff_ne]; omega
                  clear hp hk0
                  go_wp2_with (go_at_call 10; refine (code_code _ _ (by have := HK0.out; omega) (by have := HK17.out; omega)).mono ?_; rintro e wc ⟨rfl, rfl⟩)
                  go_roundw
                  case rel => exact ⟨i + 1, S2, L2, by have := HI.out; omega, by go_num, Lib.hid ⟨HFIN.out.bel, HFIN.out.mp, HFIN.out.ok.more (by omega)⟩⟩
                  case measure => simp [intOf] <;> (have := HI.out; omega)
        · obtain rfl : N = i := by omega
          go_wp2
          go_ret
          exact ⟨rfl, HH.out.bel⟩
end Go.Proofs.Ytibmajicknnbhaa
