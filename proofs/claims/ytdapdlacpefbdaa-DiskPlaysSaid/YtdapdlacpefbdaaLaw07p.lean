/- DiskPlays: the walk. -/
import Derived.Test.YtdapdlacpefbdaaRd8
namespace Go.Proofs.Ytdapdlacpefbdaa
open Go.RowKit Go.Cor

theorem rnew_any (c : Nat) (w : World) : Calls Try.prog 8 #[.int .i64 (c : Int)] w fun e w' => e = .returned (.agg #[.int .i64 (c : Int), .slice none 0 0, .slice none 0 0, .slice none 0 0, .slice none 0 0, .int .i64 (-1)]) ∧ Below w.heap.size w w' := by
  go_enter Try.func8, Try.ntmps8
  go_wp2
  exact bodyPost_ret (v := .agg #[.int .i64 (c : Int), .slice none 0 0, .slice none 0 0, .slice none 0 0, .slice none 0 0, .int .i64 (-1)]) (by simp [results, Try.results8, go_sem]) rfl ⟨rfl, (Below.refl _ w).alloc (Nat.le_refl _) _⟩
theorem RAt.new {w : World} {g c : Nat} (h : Blk w g #[.int .i64 (c : Int), .slice none 0 0, .slice none 0 0, .slice none 0 0, .slice none 0 0, .int .i64 (-1)] 35) : RAt w g ⟨.slice none 0 0, .slice none 0 0, .slice none 0 0, .slice none 0 0, []⟩ (fun _ => False) (newD c) :=
  ⟨h, ⟨IsX.nil _ _, IsX.nil _ _, IsX.nil _ _, World.ownsRow_nil _ _ _ _, rfl, fun p hp => (by cases hp), fun b hb => (hb.1 rfl).elim, fun b hb => (hb.1 rfl).elim, fun b hb => (hb.1 rfl).elim, fun p hp => (by cases hp), fun b hb => hb.elim, fun e => (by cases e)⟩⟩
theorem act_len {d : Dsk} {k0 : Nat} (ok : d.Ok k0) (a : Ac) (k : Nat) : (actD d a k).2.1.length ≤ 16777216 := by
  unfold actD
  split
  all_goals first | exact Nat.zero_le _ | skip
  unfold Dsk.read Dsk.on
  split
  · exact Nat.zero_le _
  · cases hf : tfind d.now a.name with
    | none => exact Nat.zero_le _
    | some j =>
      dsimp only
      split
      · exact Nat.zero_le _
      split
      · exact Nat.zero_le _
      · have := (Ok.fat ok (Ok.file ok hf).1).2
        simp only [List.length_take, List.length_drop]
        omega
/-- The program's disk and the document's: they share nothing, and lie behind B. -/
structure Both (w : World) (p : Nat) (S : Nat → Prop) (g : Nat) (L : RL) (R : Nat → Prop) (d : Dsk) (k B : Nat) : Prop where
  dk : Dk w p S d k
  ra : RAt w g L R d
  ap : ∀ b, S b → b ≠ g ∧ L.fil.ownBlock ≠ some b ∧ ¬ R b
  sB : ∀ b, S b → B ≤ b
  gB : B ≤ g
  fB : ∀ b, L.fil.ownBlock = some b → B ≤ b
theorem Both.below {w w' : World} {p g k B : Nat} {S R : Nat → Prop} {L : RL} {d : Dsk} (h : Both w p S g L R d k B) (hb : Below w.heap.size w w') : Both w' p S g L R d k B :=
  ⟨h.dk.below hb (Nat.le_refl _), h.ra.below hb, h.ap, h.sB, h.gB, h.fB⟩

set_option maxRecDepth 100000 in
set_option maxHeartbeats 8000000 in
theorem diskPlays_all (c : Int) (hc64 : is64 c) (v : Value) (l : List Ac) (w : World) (hv : Acts w v l) :
    Calls Try.prog 3 #[.int .i64 c, v] w fun e w' => e = .returned (.bool true) ∧ Below w.heap.size w w' := by
  obtain ⟨N, hN⟩ : ∃ N, l.length = N := ⟨_, rfl⟩
  have hlen := fun W => len_X (P := Try.prog) hv.is 22 3 _ Try.underlying22 W
  rw [hN] at hlen
  have HV := Lib.hid hv
  have HN := Lib.hid hN
  clear hv hN
  by_cases hbad : c < 0 ∨ 1073741824 < c
  · go_enter Try.func3, Try.ntmps3
    go_wp2_with fail
    refine (alive7_any _).mono ?_
    rintro e w1 ⟨rfl, hb⟩
    have HB := Lib.hid hb
    clear hb
    go_wp2_with fail
    refine (far_any v l _ (HV.out.mono HB.out (Nat.le_refl _))).mono ?_
    rintro e w2 ⟨rfl, rfl | ⟨rfl, h60, hnear⟩⟩
    · go_wp2
      go_ret
      exact ⟨rfl, HB.out⟩
    clear hnear
    go_wp2_with fail
    refine (new_no c _ hbad).mono ?_
    rintro e w3 ⟨rfl, rfl⟩
    by_cases h0 : c < 0
    · go_wp2_with fail
      refine (code_code 1 _ (by decide) (by decide)).mono ?_
      rintro e w4 ⟨rfl, rfl⟩
      go_wp2
      go_ret
      exact ⟨rfl, HB.out⟩
    · have h1 : (1073741824 : Int) < c := by omega
      go_wp2_with fail
      refine (code_code 1 _ (by decide) (by decide)).mono ?_
      rintro e w4 ⟨rfl, rfl⟩
      go_wp2
      go_ret
      exact ⟨rfl, HB.out⟩
  obtain ⟨cn, hcn⟩ := Int.eq_ofNat_of_zero_le (show 0 ≤ c by omega)
  subst hcn
  have h0 : ¬ (cn : Int) < 0 := by omega
  have h1 : ¬ (1073741824 : Int) < (cn : Int) := by omega
  go_enter Try.func3, Try.ntmps3
  go_wp2_with fail
  refine (alive7_any _).mono ?_
  rintro e w1 ⟨rfl, hb⟩
  have HB := Lib.hid hb
  clear hb
  go_wp2_with fail
  refine (far_any v l _ (HV.out.mono HB.out (Nat.le_refl _))).mono ?_
  rintro e w2 ⟨rfl, rfl | ⟨rfl, h60, hnear⟩⟩
  · go_wp2
    go_ret
    exact ⟨rfl, HB.out⟩
  rw [HN.out] at h60
  have HNE := Lib.hid hnear
  clear hnear
  go_wp2_with fail
  refine (new_u cn _ (by omega)).mono ?_
  rintro e w3 ⟨p, rfl, hD, hp, hb⟩
  have HD0 := Lib.hid hD
  have HB0 := Lib.hid (HB.out.trans (hb.mono HB.out.size))
  have HP0 := Lib.hid (Nat.le_trans HB.out.size hp)
  clear hD hb hp HB
  go_wp2_with fail
  refine (rnew_any cn _).mono ?_
  rintro e w4 ⟨rfl, hb⟩
  have HD1 := Lib.hid (HD0.out.below hb (Nat.le_refl _))
  have HB1 := Lib.hid (HB0.out.trans (hb.mono HB0.out.size))
  clear hb HD0 HB0
  go_upto_region 9 with fail
  obtain ⟨g, hg⟩ : ∃ g, w4.heap.size = g := ⟨_, rfl⟩
  obtain ⟨w5, hw5⟩ : ∃ w5, w5 = w4.alloc (.cells #[.int .i64 (cn : Int), .slice none 0 0, .slice none 0 0, .slice none 0 0, .slice none 0 0, .int .i64 (-1)] 35) := ⟨_, rfl⟩
  have hblk : Blk w5 g #[.int .i64 (cn : Int), .slice none 0 0, .slice none 0 0, .slice none 0 0, .slice none 0 0, .int .i64 (-1)] 35 := by rw [hw5, ← hg]; exact Blk.new w4 _ _
  have hb5 : Below w4.heap.size w4 w5 := by rw [hw5]; exact bel_alloc w4 _
  have HBO := Lib.hid (show Both w5 p (fun b => b = p) g ⟨.slice none 0 0, .slice none 0 0, .slice none 0 0, .slice none 0 0, []⟩ (fun _ => False) (newD cn) (2 * 0) w.heap.size from
    ⟨HD1.out.below hb5 (Nat.le_refl _), RAt.new hblk, fun b hb => ⟨fun e => by have h1 := HD1.out.lt b hb; omega, fun e => (by cases e), fun h => h⟩, fun b hb => by rw [hb]; exact HP0.out, by rw [← hg]; exact HB1.out.size, fun b hb => (by cases hb)⟩)
  have HB5 := Lib.hid (HB1.out.trans (hb5.mono HB1.out.size))
  rw [← hw5]
  rw [hg]
  clear hblk hb5 hw5 hg HD1 HB1 HP0
  go_wp2_with fail
  go_loopw [8] (fun x wr => ∃ (i : Nat) (S : Nat → Prop) (d : Dsk) (L : RL) (R : Nat → Prop), i ≤ N ∧ x = .int .i64 i ∧ Hid (Both wr p S g L R d (2 * i) w.heap.size) ∧ Hid (Below w.heap.size w wr)) (fun x _ => N - (intOf x).toNat)
  case atStart => exact ⟨0, _, _, _, _, Nat.zero_le _, rfl, HBO, HB5⟩
  case round =>
    obtain ⟨i, S, d, L, R, hiN, rfl, hO, hB⟩ := hrel
    by_cases hlt : i < N
    · obtain ⟨a, ha⟩ : ∃ a, l[i]? = some a := ⟨_, List.getElem?_eq_getElem (by rw [HN.out]; omega)⟩
      have HIW := Lib.hid (HV.out.each a (List.mem_of_getElem? ha))
      have HA := Lib.hid (HNE.out a (List.mem_of_getElem? ha))
      obtain ⟨k, hk⟩ := Int.eq_ofNat_of_zero_le HA.out.k0
      have hk11 : k ≤ 11 := by have := HA.out.k11; omega
      obtain ⟨b, o, hidx, hc⟩ := act_at HV.out ha
      have HC := Lib.hid hc
      obtain ⟨e0, e1, e2, e3, e4, e5, e6, e7⟩ := hc.mono hB.out (Nat.le_refl _)
      have HK := Lib.hid hk
      rw [hk] at e0
      clear ha hk hc HBO HB5
      go_wp2_with fail
      refine (do_u _ p S d _ a k HK.out hO.out.dk (by omega) (HIW.out.mono hB.out (Nat.le_refl _)) HA.out).mono ?_
      rintro e w6 ⟨rv, rfl, hown, ht⟩
      obtain ⟨S2, hD2, hK2, hS2⟩ := ht
      have hA6 := hO.out.ra.kept hK2 (fun b hb => hO.out.ap b hb)
      have hB6 : Below w.heap.size w w6 := hB.out.trans (hK2.below hB.out.size (fun b hb hs => by have := hO.out.sB b hs; omega))
      have hRl : ∀ b, (b = g ∨ L.fil.ownBlock = some b ∨ R b) → b < wr.heap.size ∧ ¬ S b := fun b hb => by
        refine ⟨?_, fun hs => ?_⟩
        · rcases hb with hb | hb | hb
          · rw [hb]; exact hO.out.ra.box.lt
          · exact (hO.out.ra.rest.fil.lt b hb).2
          · exact (hO.out.ra.rest.rg b hb).2.2
        · have h := hO.out.ap b hs
          rcases hb with hb | hb | hb
          · exact h.1 hb
          · exact h.2.1 hb
          · exact h.2.2 hb
      have hap2 : ∀ b, S2 b → ¬ (b = g ∨ L.fil.ownBlock = some b ∨ R b) := fun b hs hb => by
        have h := hRl b hb
        rcases hS2 b hs with h1 | h1
        · exact h.2 h1
        · omega
      have hsB2 : ∀ b, S2 b → w.heap.size ≤ b := fun b hs => by
        rcases hS2 b hs with h1 | h1
        · exact hO.out.sB b h1
        · have := hB.out.size; omega
      obtain ⟨d2, hd2⟩ : ∃ d2, (actD d a k).1 = d2 := ⟨_, rfl⟩
      obtain ⟨bs, hbs⟩ : ∃ bs, (actD d a k).2.1 = bs := ⟨_, rfl⟩
      obtain ⟨nn, hnn⟩ : ∃ nn, (actD d a k).2.2.1 = nn := ⟨_, rfl⟩
      obtain ⟨cd, hcd⟩ : ∃ cd, (actD d a k).2.2.2 = cd := ⟨_, rfl⟩
      have hbl : bs.length ≤ 16777216 := by rw [← hbs]; exact act_len hO.out.dk.ok a k
      rw [hd2] at hD2
      rw [hbs] at hown
      rw [hnn, hcd]
      have HD2 := Lib.hid hD2
      have HA6 := Lib.hid hA6
      have HB6 := Lib.hid hB6
      have HAP := Lib.hid hap2
      have HSB := Lib.hid hsB2
      have HOW := Lib.hid hown
      have HS6 := Lib.hid hK2.size
      have HRO := Lib.hid (show ∀ (W : World), RAt W g L R d → a.In W → (∀ b, liesX a.pv a.pf.length b → ¬ (b = g ∨ L.fil.ownBlock = some b)) → Calls Try.prog 10 #[.pointer (some ⟨g, 0, none⟩), actV (k : Int) a.name a.dst a.bv a.n a.m a.pn a.pv] W fun e w' => ∃ rv, e = .returned (.tuple #[rv, .int .i64 (nn : Int), .int .i64 (cd : Int)]) ∧ IsB w' rv bs ∧ Rs W g L R d2 w' from fun W h1 h2 h3 => by
        have h := rdo_any W g L R d (2 * i) a k h1 hO.out.dk.ok (by omega) h2 HA.out hk11 h3
        unfold RoAt at h
        rw [hd2, hbs, hnn, hcd] at h
        exact h)
      have HBL := Lib.hid hbl
      have HRL := Lib.hid hRl
      have HFG := Lib.hid hO.out.fB
      have HGB := Lib.hid hO.out.gB
      obtain ⟨e0, e1, e2, e3, e4, e5, e6, e7⟩ := HC.out.mono hB6 (Nat.le_refl _)
      rw [HK.out] at e0
      clear hD2 hK2 hS2 hA6 hB6 hRl hap2 hsB2 hd2 hbs hnn hcd hbl hown hO hB
      go_wp2_with fail
      refine (HRO.out _ HA6.out (HIW.out.mono HB6.out (Nat.le_refl _)) (fun b hb => by
        have h1 := (HIW.out.p).lies_lt (by decide) hb
        rintro (h | h)
        · have := HGB.out; omega
        · have := HFG.out b h; omega)).mono ?_
      rintro e w7 ⟨rv2, rfl, hI2, hrs⟩
      obtain ⟨L2, R2, hA2, hK, hR, hF⟩ := hrs
      have hD7 := HD2.out.kept hK (fun b hs hb => HAP.out b hs (hb.imp id .inl))
      have hI1 : IsB w7 rv bs := (IsB.own HOW.out rfl).kept hK (fun b hb hw => by
        have h1 := (HOW.out.lt b hb.2).1
        have h2 := (HRL.out b (hw.imp id .inl)).1
        omega)
      have HB7 := Lib.hid (HB6.out.trans (hK.below HB6.out.size (fun b hb hw => by
        rcases hw with hw | hw
        · have := HGB.out; omega
        · have := HFG.out b hw; omega)))
      have HO7 := Lib.hid (show Both w7 p S2 g L2 R2 d2 (2 * i + 2) w.heap.size from
        ⟨hD7, hA2, fun b hs => ⟨fun e => HAP.out b hs (.inl e), fun e => by
          rcases hF b e with h | h
          · exact HAP.out b hs (.inr (.inl h))
          · have := HD2.out.lt b hs; omega, fun e => by
          rcases hR b e with h | h
          · exact HAP.out b hs (.inr (.inr h))
          · have := HD2.out.lt b hs; omega⟩, HSB.out, HGB.out, fun b hb => by
          rcases hF b hb with h | h
          · exact HFG.out b h
          · have := HB6.out.size; omega⟩)
      have HI1 := Lib.hid hI1
      have HI2 := Lib.hid hI2
      clear hD7 hI1 hI2 hA2 hK hR hF e0 e1 e2 e3 e4 e5 e6 e7 hidx
      go_wp2_with fail
      refine (same_yes rv rv2 bs _ HI1.out HI2.out (by have := HBL.out; omega)).mono ?_
      rintro e w8 ⟨rfl, nd, rfl⟩
      have HO8 := Lib.hid (HO7.out.below (bel_drewN (Below.refl _ _) nd))
      have HB8 := Lib.hid (bel_drewN HB7.out nd)
      generalize w7.drewN nd = w8 at HO8 HB8 ⊢
      go_wp2_with fail
      refine (same_any7 _ p S2 d2 _ g L2 R2 HO8.out.dk HO8.out.ra).mono ?_
      rintro e w9 ⟨rfl, hb⟩
      have HO9 := Lib.hid (HO8.out.below hb)
      have HB9 := Lib.hid (HB8.out.trans (hb.mono HB8.out.size))
      clear hb
      go_wp2
      go_roundw
      case rel => exact ⟨i + 1, S2, d2, L2, R2, by omega, by go_num, HO9, HB9⟩
      case measure => simp [intOf]; omega
    · obtain rfl : i = N := by omega
      clear HBO HB5
      obtain ⟨NN, hNN⟩ : ∃ n, d.now.length = n := ⟨_, rfl⟩
      have hNk : NN ≤ 90000 := by have h1 := hO.out.dk.ok.nowN; have h2 := hO.out.dk.ok.lenN; have h3 := hO.out.dk.small; omega
      have HNN := Lib.hid hNN
      clear hNN
      go_wp2_with fail
      go_loopw [15] (fun x wx => ∃ j : Nat, j ≤ NN ∧ x = .int .i64 j ∧ Hid (Below wr.heap.size wr wx)) (fun x _ => NN - (intOf x).toNat)
      case atStart => exact ⟨0, Nat.zero_le _, rfl, Lib.hid (Below.refl _ _)⟩
      case round =>
        obtain ⟨j, hjN, rfl, hX⟩ := hrel
        have HOr := Lib.hid (hO.out.below hX.out)
        obtain ⟨_, c1, _, _, c4, c5⟩ := HOr.out.ra.facts
        have hlm := fun W => len_X (P := Try.prog) HOr.out.ra.rest.now 31 3 _ Try.underlying31 W
        have hlm2 : ∀ W, (Builtin.len_ #[31] 3 #[L.now]).run Try.prog W = .ok (.int .i64 (NN : Int)) W := fun W => by rw [hlm W, HNN.out]
        clear hlm
        have HFIN := Lib.hid (hB.out.trans (hX.out.mono hB.out.size))
        by_cases hlt2 : j < NN
        · have hj1 : (j : Int) < (NN : Int) := by omega
          by_cases hdown : d.armed = some 0
          · rw [hdown] at c5
            have c5' : wr.cell? ⟨g, 5, none⟩ = some (.int .i64 0) := c5
            go_wp2
            go_ret
            exact ⟨rfl, HFIN.out⟩
          · obtain ⟨AI, hAI⟩ : ∃ x, armI d.armed = x := ⟨_, rfl⟩
            have hai : (AI != 0) = true := by
              have h := armI_0 hdown
              rw [hAI] at h
              simp at h ⊢
              exact h
            rw [hAI] at c5
            obtain ⟨x, hx⟩ : ∃ x, d.now[j]? = some x := ⟨_, List.getElem?_eq_getElem (by rw [HNN.out]; omega)⟩
            obtain ⟨b, o, hidx, _, n0, n1⟩ := indexAt_N HOr.out.ra.rest.now hx
            have hkf := (HOr.out.dk.ok.nowF x (List.mem_of_getElem? hx)).1
            obtain ⟨fv, hfv, hfB⟩ := HOr.out.ra.rest.fileAt hkf
            obtain ⟨F, _, hidf, hfc, _, _⟩ := indexAt_own HOr.out.ra.rest.fil 33 _ Try.underlying33 Try.sizeRFil x.2 (by rw [rfps_len HOr.out.ra.rest]; exact hkf)
            have f0 := hfc 0 (by decide)
            rw [row_get rfe_len hfv _ (by decide)] at f0
            simp only [rfe, List.getElem?_cons_zero, Nat.add_zero] at f0
            have hrd := read_at HOr.out.dk.ok hdown hx
            have hbl := bAt_len HOr.out.dk.ok hx
            have hfB' : IsB wr fv (bAt d x) := hfB
            obtain ⟨fb, hfb⟩ : ∃ fb, bAt d x = fb := ⟨_, rfl⟩
            rw [hfb] at hrd hbl hfB'
            have hlf := fun W => len_X (P := Try.prog) (isX_of_B hfB') 37 3 _ Try.underlying37 W
            obtain ⟨fl, hfl⟩ : ∃ fl, fb.length = fl := ⟨_, rfl⟩
            rw [hfl] at hrd hbl hlf
            obtain ⟨xn, hxn⟩ : ∃ xn, x.1 = xn := ⟨_, rfl⟩
            rw [hxn] at hrd n0
            have HRD := Lib.hid hrd
            have HFL := Lib.hid hfl
            have HBL := Lib.hid hbl
            have HFB := Lib.hid hfB'
            clear hrd hfl hbl hfB hfB' hfb hfc hfv hkf hxn hx hAI
            go_wp2
            go_quiet (fail)
            have n0' : (wr.drewN nq).cell? ⟨b, o, none⟩ = some (.string xn) := by
              have hb0 := bel_drewN (Below.refl wr.heap.size wr) nq
              exact (hb0.cell (p := ⟨b, o, none⟩) (cell_lt n0)).trans n0
            have c1' : (wr.drewN nq).cell? ⟨g, 1, none⟩ = some L.now := by
              have hb0 := bel_drewN (Below.refl wr.heap.size wr) nq
              exact (hb0.cell (p := ⟨g, 1, none⟩) (cell_lt c1)).trans c1
            have HOn := Lib.hid (HOr.out.below (bel_drewN (Below.refl wr.heap.size wr) nq))
            have HXn := Lib.hid (bel_drewN hX.out nq)
            have HFn := Lib.hid (HFB.out.mono (bel_drewN (Below.refl wr.heap.size wr) nq) (Nat.le_refl _))
            go_wp2_with fail
            refine (read_u _ p S d _ xn 0 (fl : Int) HOn.out.dk (by decide) (by decide) (by omega) (by have := HBL.out; omega)).mono ?_
            rintro e w9 ⟨rv, rfl, hown, hb⟩
            rw [HRD.out] at hown ⊢
            rw [cerr_0]
            have hown9 : w9.ownsRow _ 5 1 rv fb.length (bvs fb) := hown
            have HU := Lib.hid (IsB.own hown9 rfl)
            have HFn9 := Lib.hid (HFn.out.mono hb (Nat.le_refl _))
            have HX9 := Lib.hid (HXn.out.trans (hb.mono HXn.out.size))
            clear hown hown9 hb
            go_wp2_with fail
            refine (code_nil _).mono ?_
            rintro e w10 ⟨rfl, rfl⟩
            go_wp2_with fail
            refine (same_yes fv rv fb _ HFn9.out HU.out (by rw [HFL.out]; have := HBL.out; omega)).mono ?_
            rintro e w11 ⟨rfl, nd, rfl⟩
            have HX11 := Lib.hid (bel_drewN HX9.out nd)
            generalize w9.drewN nd = w11 at HX11 ⊢
            go_wp2
            go_roundw
            case rel => exact ⟨j + 1, by omega, by go_num, HX11⟩
            case measure => simp [intOf]; omega
        · have hj1 : ¬ (j : Int) < (NN : Int) := by omega
          go_wp2
          go_ret
          exact ⟨rfl, HFIN.out⟩

end Go.Proofs.Ytdapdlacpefbdaa
