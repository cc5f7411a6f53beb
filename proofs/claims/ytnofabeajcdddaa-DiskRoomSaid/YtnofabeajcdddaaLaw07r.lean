/- DiskRoom: the walk. -/
import Derived.Test.YtnofabeajcdddaaRoom
import Derived.Test.YtnofabeajcdddaaActC
namespace Go.Proofs.Ytnofabeajcdddaa
open Go.RowKit Go.Cor

set_option maxRecDepth 100000 in
set_option maxHeartbeats 8000000 in
theorem diskRoom_all (c : Nat) (hc : c < 65536) (v : Value) (l : List Ac) (w : World) (hv : Acts w v l) :
    Calls Try.prog 6 #[.int .u16 (c : Int), v] w fun e w' => e = .returned (.bool true) ∧ Below w.heap.size w w' := by
  obtain ⟨N, hN⟩ : ∃ N, l.length = N := ⟨_, rfl⟩
  have hlen := fun W => len_X (P := Try.prog) hv.is 22 3 _ Try.underlying22 W
  rw [hN] at hlen
  have hw : IntKind.i64.wrap (c : Int) = (c : Int) := by rw [IntKind.wrap_i64]; omega
  have HV := Lib.hid hv
  have HN := Lib.hid hN
  clear hv hN
  go_enter Try.func6, Try.ntmps6
  go_wp2_with fail
  refine (alive7_any _).mono ?_
  rintro e w1 ⟨rfl, hb⟩
  have HB := Lib.hid hb
  clear hb
  go_wp2_with fail
  refine (far_any v l _ (HV.out.mono HB.out (Nat.le_refl _))).mono ?_
  rintro e w2 ⟨rfl, rfl | ⟨rfl, h60, hnear⟩⟩
  · go_wp2
    go_ret
    exact ⟨rfl, HB.out⟩
  rw [HN.out] at h60
  have HNE := Lib.hid hnear
  clear hnear
  go_wp2_with fail
  refine (new_u c _ (by omega)).mono ?_
  rintro e w3 ⟨p, rfl, hD, hp, hb⟩
  have HD0 := Lib.hid hD
  have HB0 := Lib.hid (HB.out.trans (hb.mono HB.out.size))
  have HP0 := Lib.hid (Nat.le_trans HB.out.size hp)
  clear hD hb hp HB
  go_wp2_with fail
  go_loopw [7] (fun x wr => ∃ (i : Nat) (S : Nat → Prop) (d : Dsk), i ≤ N ∧ x = .int .i64 i ∧ Hid (Dk wr p S d (2 * i)) ∧ Hid (Rm d c) ∧ Hid (∀ b, S b → w.heap.size ≤ b) ∧ Hid (Below w.heap.size w wr)) (fun x _ => N - (intOf x).toNat)
  case atStart => exact ⟨0, _, _, Nat.zero_le _, rfl, HD0, Lib.hid (Rm.new c), Lib.hid (fun b e => by rw [e]; exact HP0.out), HB0⟩
  case round =>
    obtain ⟨i, S, d, hiN, rfl, hD, hR, hS, hB⟩ := hrel
    by_cases hlt : i < N
    · obtain ⟨a, ha⟩ : ∃ a, l[i]? = some a := ⟨_, List.getElem?_eq_getElem (by rw [HN.out]; omega)⟩
      have HI := Lib.hid (HV.out.each a (List.mem_of_getElem? ha))
      have HA := Lib.hid (HNE.out a (List.mem_of_getElem? ha))
      obtain ⟨k, hk⟩ := Int.eq_ofNat_of_zero_le HA.out.k0
      obtain ⟨g, o, hidx, hc⟩ := act_at (HV.out.mono hB.out (Nat.le_refl _)) ha
      have HK := Lib.hid hk
      have hc0 := hc.c0
      rw [hk] at hc0
      have HC := Lib.hid hc
      clear ha hc hk HD0 HB0 HP0
      by_cases h8 : k = 8
      · subst h8
        go_wp2
        go_roundw
        case rel => exact ⟨i + 1, S, d, by omega, by go_num, Lib.hid (hD.out.more (by omega) (by omega)), hR, hS, hB⟩
        case measure => simp [intOf]; omega
      · have h8' : ((k : Int) == 8) = false := by simp; omega
        go_wp2_with fail
        refine (used_u _ p S d _ hD.out).mono ?_
        rintro e w4 ⟨rfl, hb⟩
        have HD4 := Lib.hid (hD.out.below hb (Nat.le_refl _))
        have HB4 := Lib.hid (hB.out.trans (hb.mono hB.out.size))
        have HC4 := Lib.hid (HC.out.mono hb (Nat.le_refl _))
        clear hb
        go_wp2_with fail
        refine (names_u _ p S d _ HD4.out).mono ?_
        rintro e w5 ⟨nv, rfl, hown, hb⟩
        have hln := fun W => len_X (P := Try.prog) (IsX.own hown) 69 3 _ Try.underlying69 W
        have HD5 := Lib.hid (HD4.out.below hb (Nat.le_refl _))
        have HB5 := Lib.hid (HB4.out.trans (hb.mono HB4.out.size))
        have HI5 := Lib.hid (HI.out.mono HB5.out (Nat.le_refl _))
        obtain ⟨e0, e1, e2, e3, e4, e5, e6, e7⟩ := HC4.out.mono hb (Nat.le_refl _)
        rw [HK.out] at e0
        have HU := Lib.hid (show d.used ≤ c from hR.out.used)
        obtain ⟨us, hus⟩ : ∃ us, d.used = us := ⟨_, rfl⟩
        obtain ⟨nl, hnl⟩ : ∃ nl, d.now.length = nl := ⟨_, rfl⟩
        rw [hus]
        rw [hnl] at hln
        clear hb hown hc0
        go_wp2_with fail
        refine (do_u _ p S d _ a k HK.out HD5.out (by omega) HI5.out HA.out).mono ?_
        rintro e w6 ⟨rv, rfl, _, ht⟩
        obtain ⟨S2, hD2, hS2, hb⟩ := ht.ge (B := w.heap.size) HB5.out.size hS.out
        obtain ⟨hR2, hq⟩ := hR.out.act hD.out.ok a k h8
        obtain ⟨d2, hd2⟩ : ∃ d2, (actD d a k).1 = d2 := ⟨_, rfl⟩
        obtain ⟨cd, hcd⟩ : ∃ cd, (actD d a k).2.2.2 = cd := ⟨_, rfl⟩
        obtain ⟨nn, hnn⟩ : ∃ nn, (actD d a k).2.2.1 = nn := ⟨_, rfl⟩
        rw [hd2] at hD2 hR2 hq
        rw [hcd] at hq
        rw [hcd, hnn]
        have HD6 := Lib.hid hD2
        have HB6 := Lib.hid (HB5.out.trans hb)
        have HS6 := Lib.hid hS2
        have HR6 := Lib.hid hR2
        have HQ := Lib.hid hq
        have HUS := Lib.hid hus
        have HNL := Lib.hid hnl
        clear ht hD2 hS2 hb hR2 hq hd2 hcd hnn hus hnl e0 e1 e2 e3 e4 e5 e6 e7 hidx h8'
        go_wp2_with fail
        refine (used_u _ p S2 d2 _ HD6.out).mono ?_
        rintro e w7 ⟨rfl, hb⟩
        have HD7 := Lib.hid (HD6.out.below hb (Nat.le_refl _))
        have HB7 := Lib.hid (HB6.out.trans (hb.mono HB6.out.size))
        obtain ⟨us2, hus2⟩ : ∃ us, d2.used = us := ⟨_, rfl⟩
        have hu : ¬ (c : Int) < (us2 : Int) := by have := HR6.out.used; omega
        rw [hus2]
        clear hb
        go_wp2_with fail
        refine (names_u _ p S2 d2 _ HD7.out).mono ?_
        rintro e w8 ⟨nv2, rfl, hown, hb⟩
        have hln2 := fun W => len_X (P := Try.prog) (IsX.own hown) 69 3 _ Try.underlying69 W
        have HD8 := Lib.hid (HD7.out.below hb (Nat.le_refl _))
        have HB8 := Lib.hid (HB7.out.trans (hb.mono HB7.out.size))
        obtain ⟨nl2, hnl2⟩ : ∃ nl, d2.now.length = nl := ⟨_, rfl⟩
        have hl : ¬ (64 : Int) < (nl2 : Int) := by have := HR6.out.len; omega
        rw [hnl2] at hln2
        have HUS2 := Lib.hid hus2
        have HNL2 := Lib.hid hnl2
        clear hb hown hus2 hnl2
        by_cases hcd : cd = 0
        · subst hcd
          go_wp2
          go_roundw
          case rel => exact ⟨i + 1, S2, d2, by omega, by go_num, Lib.hid (HD8.out.more (by omega) (by omega)), HR6, HS6, HB8⟩
          case measure => simp [intOf]; omega
        · have hcd' : ((cd : Int) != 0) = true := by simp; omega
          obtain rfl : d2 = d := HQ.out hcd
          obtain rfl : us2 = us := HUS2.out.symm.trans HUS.out
          obtain rfl : nl2 = nl := HNL2.out.symm.trans HNL.out
          go_wp2_with fail
          refine (used_u _ p S2 d2 _ HD8.out).mono ?_
          rintro e w9 ⟨rfl, hb⟩
          rw [HUS.out]
          have HD9 := Lib.hid (HD8.out.below hb (Nat.le_refl _))
          have HB9 := Lib.hid (HB8.out.trans (hb.mono HB8.out.size))
          clear hb
          go_wp2_with fail
          refine (names_u _ p S2 d2 _ HD9.out).mono ?_
          rintro e w10 ⟨nv3, rfl, hown, hb⟩
          have hln3 := fun W => len_X (P := Try.prog) (IsX.own hown) 69 3 _ Try.underlying69 W
          rw [HNL.out] at hln3
          have HD10 := Lib.hid (HD9.out.below hb (Nat.le_refl _))
          have HB10 := Lib.hid (HB9.out.trans (hb.mono HB9.out.size))
          clear hb hown
          go_wp2
          go_roundw
          case rel => exact ⟨i + 1, S2, d2, by omega, by go_num, Lib.hid (HD10.out.more (by omega) (by omega)), HR6, HS6, HB10⟩
          case measure => simp [intOf]; omega
    · obtain rfl : i = N := by omega
      go_wp2
      go_ret
      exact ⟨rfl, hB.out⟩

end Go.Proofs.Ytnofabeajcdddaa
