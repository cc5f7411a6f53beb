/- DiskTwice: the walk. -/
import Derived.Test.YtnofabeajcdddaaTwice
import Derived.Test.YtnofabeajcdddaaLaw07n
namespace Go.Proofs.Ytnofabeajcdddaa
open Go.RowKit Go.Cor

theorem Try.infoSB : (Try.prog.info? 37).map (fun i => (i.zero, i.size, i.bytes)) = some (some (.slice none 0 0), 1, 24) := by kernel_rfl
theorem Try.sizeSB : (Try.prog.info? 37).map (·.size) = some 1 := by kernel_rfl

set_option maxRecDepth 100000 in
set_option maxHeartbeats 8000000 in
theorem diskTwice_all (v : Value) (l : List Ac) (pn qn : Int) (pv qv : Value) (ps qs : List Pck) (w : World) (hv : Acts w v l) (hp : IsX w 2 pv ps.length (row pck ps)) (hq : IsX w 2 qv qs.length (row pck qs)) :
    Calls Try.prog 7 #[v, .agg #[.int .i64 pn, pv], .agg #[.int .i64 qn, qv]] w fun e w' => e = .returned (.bool true) ∧ Below w.heap.size w w' := by
  obtain ⟨N, hN⟩ : ∃ N, l.length = N := ⟨_, rfl⟩
  obtain ⟨M1, hM1⟩ : ∃ N, ps.length = N := ⟨_, rfl⟩
  obtain ⟨M2, hM2⟩ : ∃ N, qs.length = N := ⟨_, rfl⟩
  obtain ⟨ib, hib, hib0, hib1, hib2⟩ := info_parts Try.infoSB
  have hlen := fun W => len_X (P := Try.prog) hv.is 22 3 _ Try.underlying22 W
  have hlp := fun W => len_X (P := Try.prog) hp 40 3 _ Try.underlying40 W
  have hlq := fun W => len_X (P := Try.prog) hq 40 3 _ Try.underlying40 W
  rw [hN] at hlen
  rw [hM1] at hlp
  rw [hM2] at hlq
  obtain ⟨w0, hw0⟩ : ∃ w0, w0 = (w.alloc (.cells #[.int .i64 pn, pv] 42)).alloc (.cells #[.int .i64 qn, qv] 42) := ⟨_, rfl⟩
  have hs0 : w0.heap.size = w.heap.size + 2 := by rw [hw0]; simp
  have hb0 : Below w.heap.size w w0 := by rw [hw0]; exact ((Below.refl _ w).alloc (Nat.le_refl _) _).alloc (by simp) _
  have hP : Blk w0 w.heap.size #[.int .i64 pn, pv] 42 := by rw [hw0]; exact (Blk.new w _ _).alloc _
  have hQ : Blk w0 (w.heap.size + 1) #[.int .i64 qn, qv] 42 := by
    rw [hw0]
    have := Blk.new (w.alloc (.cells #[.int .i64 pn, pv] 42)) #[.int .i64 qn, qv] 42
    simpa using this
  have HV := Lib.hid (hv.mono hb0 (Nat.le_refl _))
  have HX := Lib.hid (hp.mono hb0 (Nat.le_refl _))
  have HY := Lib.hid (hq.mono hb0 (Nat.le_refl _))
  have HP := Lib.hid hP
  have HQ := Lib.hid hQ
  have H0 := Lib.hid hb0
  have HN := Lib.hid hN
  have HM1 := Lib.hid hM1
  have HM2 := Lib.hid hM2
  have HS0 := Lib.hid hs0
  have HI := Lib.hid hib
  have HZ0 := Lib.hid hib0
  have HZ1 := Lib.hid hib1
  have HZ2 := Lib.hid hib2
  clear hv hp hq hN hM1 hM2 hb0 hP hQ hs0 hib hib0 hib1 hib2
  go_enter Try.func7, Try.ntmps7
  go_wp2_with fail
  rw [← hw0]
  refine (alive7_any _).mono ?_
  rintro e w1 ⟨rfl, hb⟩
  have HB := Lib.hid hb
  have HP1 := Lib.hid (HP.out.below hb HP.out.lt)
  have HQ1 := Lib.hid (HQ.out.below hb HQ.out.lt)
  have p1 := HP1.out.cell 1 (v := pv) rfl
  have q1 := HQ1.out.cell 1 (v := qv) rfl
  clear hb hw0
  go_wp2_with fail
  refine (far_any v l _ (HV.out.mono HB.out (Nat.le_refl _))).mono ?_
  rintro e w2 ⟨rfl, rfl | ⟨rfl, h60, hnear⟩⟩
  · go_wp2
    go_ret
    exact ⟨rfl, H0.out.trans (HB.out.mono H0.out.size)⟩
  by_cases hp60 : 60 < M1
  · have h1 : (60 : Int) < (M1 : Int) := by omega
    go_wp2
    go_ret
    exact ⟨rfl, H0.out.trans (HB.out.mono H0.out.size)⟩
  by_cases hq60 : 60 < M2
  · have h1 : ¬ (60 : Int) < (M1 : Int) := by omega
    have h2 : (60 : Int) < (M2 : Int) := by omega
    go_wp2
    go_ret
    exact ⟨rfl, H0.out.trans (HB.out.mono H0.out.size)⟩
  have h1 : ¬ (60 : Int) < (M1 : Int) := by omega
  have h2 : ¬ (60 : Int) < (M2 : Int) := by omega
  rw [HN.out] at h60
  have HNE := Lib.hid hnear
  clear hnear
  go_wp2_with fail
  refine (new_u 5000 _ (by omega)).mono ?_
  rintro e w3 ⟨p, rfl, hD, hp, hb⟩
  have HD0 := Lib.hid hD
  have HB0 := Lib.hid (HB.out.trans (hb.mono HB.out.size))
  have HP0 := Lib.hid (Nat.le_trans HB.out.size hp)
  clear hD hb hp p1 q1 HP1 HQ1 HB h1 h2
  go_wp2_with fail
  go_loopw [9] (fun x wr => ∃ (i : Nat) (S : Nat → Prop) (d : Dsk), i ≤ N ∧ x = .int .i64 i ∧ Hid (Dk wr p S d (2 * i)) ∧ Hid (∀ b, S b → w0.heap.size ≤ b) ∧ Hid (Below w0.heap.size w0 wr)) (fun x _ => N - (intOf x).toNat)
  case atStart => exact ⟨0, _, _, Nat.zero_le _, rfl, HD0, Lib.hid (fun b e => by rw [e]; exact HP0.out), HB0⟩
  case round =>
    obtain ⟨i, S, d, hiN, rfl, hD, hS, hB⟩ := hrel
    by_cases hlt : i < N
    · obtain ⟨a, ha⟩ : ∃ a, l[i]? = some a := ⟨_, List.getElem?_eq_getElem (by rw [HN.out]; omega)⟩
      have HI5 := Lib.hid ((HV.out.each a (List.mem_of_getElem? ha)).mono hB.out (Nat.le_refl _))
      have HA := Lib.hid (HNE.out a (List.mem_of_getElem? ha))
      obtain ⟨k, hk⟩ := Int.eq_ofNat_of_zero_le HA.out.k0
      obtain ⟨g, o, hidx, ⟨e0, e1, e2, e3, e4, e5, e6, e7⟩⟩ := act_at (HV.out.mono hB.out (Nat.le_refl _)) ha
      have HK := Lib.hid hk
      rw [hk] at e0
      clear ha hk HD0 HB0 HP0
      go_wp2_with fail
      refine (do_u _ p S d _ a k HK.out hD.out (by omega) HI5.out HA.out).mono ?_
      rintro e w6 ⟨rv, rfl, _, ht⟩
      obtain ⟨S2, hD2, hS2, hb⟩ := ht.ge (B := w0.heap.size) hB.out.size hS.out
      have HD6 := Lib.hid hD2
      have HB6 := Lib.hid (hB.out.trans hb)
      have HS6 := Lib.hid hS2
      clear ht hD2 hS2 hb e0 e1 e2 e3 e4 e5 e6 e7 hidx
      go_wp2
      go_roundw
      case rel => exact ⟨i + 1, S2, _, by omega, by go_num, HD6, HS6, HB6⟩
      case measure => simp [intOf]; omega
    · obtain rfl : i = N := by omega
      have HPb := Lib.hid (HP.out.below hB.out HP.out.lt)
      have p0 := HPb.out.cell 0 (v := .int .i64 pn) rfl
      have p1 := HPb.out.cell 1 (v := pv) rfl
      clear HD0 HB0 HP0
      go_wp2_with fail
      refine (picks_any pn pv ps _ (HX.out.mono hB.out (Nat.le_refl _)) (by rw [HM1.out]; omega)).mono ?_
      rintro e w4 ⟨v', rfl, hown, hb⟩
      have HX4 := Lib.hid (IsX.own hown)
      have HL4 := Lib.hid hown.lt
      have HB4 := Lib.hid (hB.out.trans (hb.mono hB.out.size))
      have HD4 := Lib.hid (hD.out.below hb (Nat.le_refl _))
      have HSZ := Lib.hid hb.size
      clear hown hb p0 p1 HPb
      go_wp2_with fail
      refine (crash_u _ p S d _ pn _ ps HD4.out (by omega) HX4.out (by rw [HM1.out]; omega) (fun b hb hs => by have h1 := (HL4.out b hb.2).1; have h2 := hD.out.lt b hs; omega)).mono ?_
      rintro e w5 ⟨rfl, ht⟩
      obtain ⟨S5, hD5, hS5, hb⟩ := ht.ge (B := w0.heap.size) HB4.out.size hS.out
      have HT := Lib.hid (fun qz qq => crash_twice hD.out.ok pn qz ps qq)
      have har : (d.crash pn ps).armed = none := rfl
      generalize d.crash pn ps = d1 at hD5 HT har
      have HD5 := Lib.hid hD5
      have HB5 := Lib.hid (HB4.out.trans hb)
      have HS5 := Lib.hid hS5
      have HAR := Lib.hid har
      clear ht hD5 hS5 hb har
      go_wp2_with fail
      refine (names_u _ p S5 d1 _ HD5.out).mono ?_
      rintro e w6 ⟨nv, rfl, hown, hb⟩
      obtain ⟨K, hK⟩ : ∃ n, d1.now.length = n := ⟨_, rfl⟩
      rw [hK] at hown
      have hln := fun W => len_X (P := Try.prog) (IsX.own hown) 69 3 _ Try.underlying69 W
      have HNV := Lib.hid (IsX.own hown)
      have HKK := Lib.hid hK
      have hK2 : K ≤ 200 := by have h1 := HD5.out.ok.nowN; have h2 := HD5.out.ok.lenN; omega
      have HD6 := Lib.hid (HD5.out.below hb (Nat.le_refl _))
      have HB6 := Lib.hid (HB5.out.trans (hb.mono HB5.out.size))
      have HLN := Lib.hid (show ∀ b, liesX nv K b → ¬ S5 b from fun b hb hs => by have h1 := (hown.lt b hb.2).1; have h2 := HD5.out.lt b hs; omega)
      have HSL := Lib.hid HD6.out.lt
      clear hown hb hK HD4 HB4 HX4 HL4 HSZ HD5 HB5
      go_wp2_with fail
      go_loopw [12, 11] (fun x y wr => ∃ (i : Nat) (z : Option Addr) (c : Nat), i ≤ K ∧ x = .int .i64 i ∧ y = .slice z i c ∧ Hid (Was wr w6.heap.size (.slice z i c) ((d1.now.take i).map (bAt d1))) ∧ Hid (Below w6.heap.size w6 wr)) (fun x _ _ => K - (intOf x).toNat)
      case atStart => exact ⟨0, none, 0, Nat.zero_le _, rfl, rfl, Lib.hid (Was.nil _ _), Lib.hid (Below.refl _ _)⟩
      case round =>
        obtain ⟨i, z, c, hiK, rfl, rfl, hW, hB7⟩ := hrel
        by_cases hlt : i < K
        · obtain ⟨x, hx⟩ : ∃ x, d1.now[i]? = some x := ⟨_, List.getElem?_eq_getElem (by rw [HKK.out]; omega)⟩
          obtain ⟨b, o, hidx, hob, hc⟩ := indexAt_X (HNV.out.mono hB7.out (Nat.le_refl _)) 69 _ Try.underlying69 Try.sizeStr i hlt
          have k0 := hc 0 (by decide)
          rw [Nat.mul_one, Nat.add_zero, Nat.add_zero, nms_at hx] at k0
          have HDr := Lib.hid (HD6.out.below hB7.out (Nat.le_refl _))
          have hsz := size_at HDr.out.ok (by rw [HAR.out]; simp) hx
          have hrd := read_at HDr.out.ok (by rw [HAR.out]; simp) hx
          have hbl := bAt_len HDr.out.ok hx
          obtain ⟨fb, hfb⟩ : ∃ fb, bAt d1 x = fb := ⟨_, rfl⟩
          rw [hfb] at hsz hrd hbl
          obtain ⟨fl, hfl⟩ : ∃ fl, fb.length = fl := ⟨_, rfl⟩
          rw [hfl] at hsz hrd hbl
          have HRD := Lib.hid hrd
          have HFL := Lib.hid hfl
          have HFB := Lib.hid hfb
          have HXX := Lib.hid hx
          have HBL := Lib.hid hbl
          clear hc hob hrd hfl hfb hx hbl
          go_wp2_with fail
          refine (size_u _ p S5 d1 _ x.1 HDr.out).mono ?_
          rintro e w8 ⟨rfl, hb⟩
          rw [hsz, cerr_0]
          have HD8 := Lib.hid (HDr.out.below hb (Nat.le_refl _))
          have HB8 := Lib.hid (hB7.out.trans (hb.mono hB7.out.size))
          have HW8 := Lib.hid (hW.out.below hb)
          have k8 := (hb.cell (cell_lt k0)).trans k0
          clear hb k0 hsz
          go_wp2_with fail
          refine (read_u _ p S5 d1 _ x.1 0 (fl : Int) HD8.out (by decide) (by decide) (by omega) (by have := HBL.out; omega)).mono ?_
          rintro e w9 ⟨rv, rfl, hown, hb⟩
          rw [HRD.out] at hown ⊢
          rw [cerr_0]
          have hown9 : w9.ownsRow _ 5 1 rv fb.length (bvs fb) := hown
          have HU := Lib.hid (IsB.own hown9 rfl)
          have HUL := Lib.hid hown9.lt
          have HB9 := Lib.hid (HB8.out.trans (hb.mono HB8.out.size))
          have HW9 := Lib.hid (HW8.out.below hb)
          obtain ⟨rx, rn, rc, rfl⟩ : ∃ a n c, rv = .slice a n c := by
            obtain ⟨x, c, h, _⟩ := ownsRow_slice hown9
            exact ⟨x, _, c, h⟩
          have HSZ8 := Lib.hid (show ∀ g, (Value.slice z i c).ownBlock = some g → g < w8.heap.size from fun g hg => by
            obtain ⟨_, h1, _⟩ := HW8.out
            exact (h1.lt g hg).2)
          have HSB := Lib.hid HB8.out.size
          clear hown hown9 hb k8 hidx
          go_wp2_with fail
          refine (code_nil _).mono ?_
          rintro e w10 ⟨rfl, rfl⟩
          obtain ⟨vs, hown, hvs⟩ := HW9.out
          have hLi : ((d1.now.take i).map (bAt d1)).length = i := by rw [List.length_map, List.length_take, HKK.out]; omega
          rw [hLi] at hown
          have HVS := Lib.hid hvs
          have HOW := Lib.hid hown
          have HLI := Lib.hid hLi
          clear hown hvs hLi
          go_wp2_with (at_builtin; (refine wpList_append_X (by rfl) _ _ 75 75 rfl (fun _ _ _ => rfl) w6.heap.size 37 ib _ 1 24 Try.underlying75 HI.out HZ0.out HZ1.out HZ2.out rfl (by decide) _ vs i rfl (HOW.out.alloc _) _ 1 _ rfl (IsX.lit w9 #[.slice rx rn rc] 37 1 1 rfl (by decide)) (by intro u hu; simp only [List.mem_cons, List.not_mem_nil, or_false] at hu; subst hu; rfl) (by unfold maxLen; omega) (by omega) (by have := HB9.out.size; simp; omega) ?_))
          intro v4 w4 hown4 hgr4 hat4
          obtain ⟨x4, z4, rfl, _, _⟩ := ownsRow_slice hown4
          have HW4 := Lib.hid (show Was w4 w6.heap.size (.slice x4 (i + 1) z4) ((d1.now.take (i + 1)).map (bAt d1)) from by
            have hba := below_alloc w9 (.cells #[.slice rx rn rc] 37)
            have h1 := Was.app (bs := (d1.now.take i).map (bAt d1)) (b := fb) (vs := vs) (u := .slice rx rn rc) (v := .slice z i c) (w := w9.alloc (.cells #[.slice rx rn rc] 37)) (B := w6.heap.size) (by have := HB9.out.size; simp; omega)
              (fun j b hj => by
                obtain ⟨u, h1, h2, h3⟩ := HVS.out j b hj
                exact ⟨u, h1, h2.mono hba (Nat.le_refl _), h3⟩) (by rw [HLI.out]; have := HOW.out.1; omega) (HU.out.mono hba (Nat.le_refl _))
              (fun g hg => ⟨by have := (HUL.out g hg.2).1; have := HSB.out; omega, fun e => by have := (HUL.out g hg.2).1; have := HSZ8.out g e; omega⟩) (by rw [HLI.out]; exact hown4) hgr4 (by rw [World.size_alloc]; exact hat4)
            have h2 : (d1.now.take (i + 1)).map (bAt d1) = (d1.now.take i).map (bAt d1) ++ [fb] := by
              obtain ⟨hi, he⟩ := List.getElem?_eq_some_iff.1 HXX.out
              rw [List.take_succ_eq_append_getElem hi, List.map_append, he, ← HFB.out]
              rfl
            rw [h2]
            exact h1)
          have HB10 := Lib.hid (show Below w6.heap.size w6 w4 from (HB9.out.alloc HB9.out.size _).grown hgr4 (by have := HB9.out.size; simp; omega) (fun k hk => (HOW.out.lt k hk).1))
          clear hown4 hgr4 hat4
          go_wp2
          go_roundw
          case rel => exact ⟨i + 1, x4, z4, by omega, by go_num, rfl, HW4, HB10⟩
          case measure => simp [intOf]; omega
        · obtain rfl : i = K := by omega
          have HBc := Lib.hid (HB6.out.trans (hB7.out.mono HB6.out.size))
          have HQb := Lib.hid (HQ.out.below HBc.out HQ.out.lt)
          have q0 := HQb.out.cell 0 (v := .int .i64 qn) rfl
          have q1 := HQb.out.cell 1 (v := qv) rfl
          have HDc := Lib.hid (HD6.out.below hB7.out (Nat.le_refl _))
          have HNc := Lib.hid (HNV.out.mono hB7.out (Nat.le_refl _))
          clear HD6 hB7 HNV
          go_wp2_with fail
          refine (picks_any qn qv qs _ (HY.out.mono HBc.out (Nat.le_refl _)) (by rw [HM2.out]; omega)).mono ?_
          rintro e w11 ⟨v2, rfl, hown, hb⟩
          have HX11 := Lib.hid (IsX.own hown)
          have HL11 := Lib.hid hown.lt
          have HB11 := Lib.hid (HBc.out.trans (hb.mono HBc.out.size))
          have HD11 := Lib.hid (HDc.out.below hb (Nat.le_refl _))
          have HW11 := Lib.hid (hW.out.below hb)
          have HN11 := Lib.hid (HNc.out.mono hb (Nat.le_refl _))
          clear hown hb q0 q1 HQb
          go_wp2_with fail
          refine (crash_u _ p S5 d1 _ qn _ qs HD11.out (by omega) HX11.out (by rw [HM2.out]; omega) (fun b hb hs => by have h1 := (HL11.out b hb.2).1; have h2 := HDc.out.lt b hs; omega)).mono ?_
          rintro e w12 ⟨rfl, ht⟩
          rw [HT.out qn qs] at ht
          obtain ⟨S12, hD12, hK12, hS12⟩ := ht
          have HD12 := Lib.hid hD12
          have HW12 := Lib.hid (HW11.out.kept hK12 (fun b hb => HSL.out b hb))
          have HN12 := Lib.hid (HN11.out.kept hK12 HLN.out)
          have HB12 := Lib.hid (HB11.out.trans (hK12.below (B := w0.heap.size) HB11.out.size (fun b hb hs => by have := HS5.out b hs; omega)))
          clear hD12 hK12 hS12 HX11 HL11 HB11 HD11 HW11 HN11 HNc HDc hW HBc HB6 HSL HLN
          go_wp2_with fail
          refine (names_u _ p S12 d1 _ HD12.out).mono ?_
          rintro e w13 ⟨nv2, rfl, hown, hb⟩
          rw [HKK.out] at hown
          have hln2 := fun W => len_X (P := Try.prog) (IsX.own hown) 69 3 _ Try.underlying69 W
          have HO13 := Lib.hid (IsX.own hown)
          have HD13 := Lib.hid (HD12.out.below hb (Nat.le_refl _))
          have HW13 := Lib.hid (HW12.out.below hb)
          have HN13 := Lib.hid (HN12.out.mono hb (Nat.le_refl _))
          have HB13 := Lib.hid (HB12.out.trans (hb.mono HB12.out.size))
          clear hown hb HD12 HW12 HN12 HB12
          go_wp2_with fail
          refine (down_u _ p S12 d1 _ HD13.out).mono ?_
          rintro e w14 ⟨rfl, rfl⟩
          rw [HAR.out, show isDown none = false from rfl]
          go_wp2_with fail
          go_loopw [18] (fun x wr => ∃ j : Nat, j ≤ i ∧ x = .int .i64 j ∧ Hid (Below w13.heap.size w13 wr)) (fun x _ => i - (intOf x).toNat)
          case atStart => exact ⟨0, Nat.zero_le _, rfl, Lib.hid (Below.refl _ _)⟩
          case round =>
            obtain ⟨j, hjK, rfl, hB15⟩ := hrel
            by_cases hlt : j < i
            · obtain ⟨x, hx⟩ : ∃ x, d1.now[j]? = some x := ⟨_, List.getElem?_eq_getElem (by rw [HKK.out]; omega)⟩
              have HDr := Lib.hid (HD13.out.below hB15.out (Nat.le_refl _))
              have HOr := Lib.hid (HO13.out.mono hB15.out (Nat.le_refl _))
              have HNr := Lib.hid (HN13.out.mono hB15.out (Nat.le_refl _))
              have HWr := Lib.hid (HW13.out.below hB15.out)
              obtain ⟨b, o, hidx, hob, hc⟩ := indexAt_X HOr.out 69 _ Try.underlying69 Try.sizeStr j hlt
              have k0 := hc 0 (by decide)
              rw [Nat.mul_one, Nat.add_zero, Nat.add_zero, nms_at hx] at k0
              obtain ⟨b2, o2, hidx2, hob2, hc2⟩ := indexAt_X HNr.out 69 _ Try.underlying69 Try.sizeStr j hlt
              have m0 := hc2 0 (by decide)
              rw [Nat.mul_one, Nat.add_zero, Nat.add_zero, nms_at hx] at m0
              obtain ⟨vs, how, hvs⟩ := HWr.out
              obtain ⟨u, hu, huB, _⟩ := hvs j (bAt d1 x) (by
                have : (d1.now.take i)[j]? = some x := by rw [List.getElem?_take, if_pos hlt]; exact hx
                rw [List.getElem?_map, this]
                rfl)
              have hLi : ((d1.now.take i).map (bAt d1)).length = i := by rw [List.length_map, List.length_take, HKK.out]; omega
              rw [hLi] at how
              obtain ⟨b3, o3, hidx3, hob3, hc3⟩ := indexAt_X (IsX.own how) 75 _ Try.underlying75 Try.sizeSB j hlt
              have u0 := hc3 0 (by decide)
              rw [Nat.mul_one, Nat.add_zero, Nat.add_zero, hu] at u0
              have hsz := size_at HDr.out.ok (by rw [HAR.out]; simp) hx
              have hrd := read_at HDr.out.ok (by rw [HAR.out]; simp) hx
              have hbl := bAt_len HDr.out.ok hx
              obtain ⟨fb, hfb⟩ : ∃ fb, bAt d1 x = fb := ⟨_, rfl⟩
              rw [hfb] at hsz hrd hbl huB
              obtain ⟨fl, hfl⟩ : ∃ fl, fb.length = fl := ⟨_, rfl⟩
              rw [hfl] at hsz hrd hbl
              obtain ⟨xn, hxn⟩ : ∃ xn, x.1 = xn := ⟨_, rfl⟩
              rw [hxn] at hsz hrd k0 m0
              have HRD := Lib.hid hrd
              have HFL := Lib.hid hfl
              have HBL := Lib.hid hbl
              have HUB := Lib.hid huB
              clear hc hob hrd hfl hfb hx hbl hxn hc2 hob2 hc3 hob3 how hvs hu huB hLi
              go_wp2_with fail
              refine (size_u _ p S12 d1 _ xn HDr.out).mono ?_
              rintro e w18 ⟨rfl, hb⟩
              rw [hsz, cerr_0]
              have HD18 := Lib.hid (HDr.out.below hb (Nat.le_refl _))
              have HB18 := Lib.hid (hB15.out.trans (hb.mono hB15.out.size))
              have HU18 := Lib.hid (HUB.out.mono hb (Nat.le_refl _))
              have k8 := (hb.cell (cell_lt k0)).trans k0
              have m8 := (hb.cell (cell_lt m0)).trans m0
              have u8 := (hb.cell (cell_lt u0)).trans u0
              clear hb k0 m0 u0 hsz
              go_wp2_with fail
              refine (read_u _ p S12 d1 _ xn 0 (fl : Int) HD18.out (by decide) (by decide) (by omega) (by have := HBL.out; omega)).mono ?_
              rintro e w19 ⟨rv, rfl, hown, hb⟩
              rw [HRD.out] at hown ⊢
              rw [cerr_0]
              have hown9 : w19.ownsRow _ 5 1 rv fb.length (bvs fb) := hown
              have HU := Lib.hid (IsB.own hown9 rfl)
              have HU19 := Lib.hid (HU18.out.mono hb (Nat.le_refl _))
              have HB19 := Lib.hid (HB18.out.trans (hb.mono HB18.out.size))
              have k9 := (hb.cell (cell_lt k8)).trans k8
              have m9 := (hb.cell (cell_lt m8)).trans m8
              have u9 := (hb.cell (cell_lt u8)).trans u8
              clear hown hown9 hb k8 m8 u8
              go_upto_region 30 with fail
              go_still_tail 15, (by kernel_rfl)
              change wpList _ _ _ _ _ w19.drew
              go_wp2_with fail
              refine (same_yes rv u fb _ (HU.out.mono ((Below.refl _ _).drew) (Nat.le_refl _)) (HU19.out.mono ((Below.refl _ _).drew) (Nat.le_refl _)) (by rw [HFL.out]; have := HBL.out; omega)).mono ?_
              rintro e w20 ⟨rfl, nd, rfl⟩
              have HB20 := Lib.hid (below_drewN (HB19.out.drew) nd)
              generalize w19.drew.drewN nd = w21 at HB20 ⊢
              clear k9 m9 u9 hidx hidx2 hidx3
              go_wp2
              go_roundw
              case rel => exact ⟨j + 1, by omega, by go_num, HB20⟩
              case measure => simp [intOf]; omega
            · obtain rfl : j = i := by omega
              go_wp2
              go_ret
              exact ⟨rfl, H0.out.trans ((HB13.out.trans (hB15.out.mono HB13.out.size)).mono H0.out.size)⟩

end Go.Proofs.Ytnofabeajcdddaa
