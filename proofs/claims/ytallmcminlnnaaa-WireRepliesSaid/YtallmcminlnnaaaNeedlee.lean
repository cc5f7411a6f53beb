/- Package needle by contracts: Get, where there is a needle. -/
import Derived.Test.YtallmcminlnnaaaNeedled
import Derived.Deep.CutRange
set_option linter.unusedVariables false
set_option linter.unusedSimpArgs false
namespace Go.Proofs.Ytallmcminlnnaaa
open Go.RowKit Go.Cor

/-- The world behind the needle's own block. -/
abbrev gworld2 (w : World) : World := (gworld w).alloc (.cells #[.int .u64 0, .int .u32 0, .bool false, .slice none 0 0] 27)
theorem isB_gw2 {w : World} {v : Value} {l : List UInt8} (h : IsB (gworld w) v l) : IsB (gworld2 w) v l := h.mono ((Below.refl _ _).alloc (Nat.le_refl _) _) (Nat.le_refl _)
theorem gbox2 {w wc : World} (hb : Below (gworld2 w).drew.drew.heap.size (gworld2 w).drew.drew wc) :
    wc.cell? ⟨w.heap.size, 0, none⟩ = some (.int .u64 0) ∧ wc.cell? ⟨w.heap.size, 1, none⟩ = some (.int .u32 0) ∧ wc.cell? ⟨w.heap.size, 2, none⟩ = some (.bool false) ∧ wc.cell? ⟨w.heap.size, 3, none⟩ = some (.slice none 0 0) ∧
    wc.cell? ⟨w.heap.size + 1, 0, none⟩ = some (.int .u64 0) ∧ wc.cell? ⟨w.heap.size + 1, 1, none⟩ = some (.int .u32 0) ∧ wc.cell? ⟨w.heap.size + 1, 2, none⟩ = some (.bool false) ∧ wc.cell? ⟨w.heap.size + 1, 3, none⟩ = some (.slice none 0 0) ∧
    (∀ o, wc.frozen? ⟨w.heap.size, o, none⟩ = false) ∧ (∀ o, wc.frozen? ⟨w.heap.size + 1, o, none⟩ = false) ∧ w.heap.size + 1 < wc.heap.size := by
  have hs : (gworld2 w).drew.drew.heap.size = w.heap.size + 2 := by show (gworld2 w).heap.size = _; simp
  have c : ∀ b o, b < w.heap.size + 2 → wc.cell? ⟨b, o, none⟩ = (gworld2 w).cell? ⟨b, o, none⟩ := fun b o h => hb.cell (p := ⟨b, o, none⟩) (by rw [hs]; exact h)
  have f : ∀ b o, b < w.heap.size + 2 → wc.frozen? ⟨b, o, none⟩ = (gworld2 w).frozen? ⟨b, o, none⟩ := fun b o h => hb.frozen (p := ⟨b, o, none⟩) (by rw [hs]; exact h)
  refine ⟨?_, ?_, ?_, ?_, ?_, ?_, ?_, ?_, fun o => ?_, fun o => ?_, ?_⟩
  any_goals (rw [c _ _ (by omega)]; go_simp)
  · rw [f _ _ (by omega)]
    go_simp
  · rw [f _ _ (by omega)]
    go_simp
  · have := hb.size
    omega

theorem isB_zalloc {w : World} {v : Value} {l : List UInt8} (h : IsB w v l) : IsB (w.alloc (.cells #[.int .u64 0, .int .u32 0, .bool false, .slice none 0 0] 27)) v l := h.mono ((Below.refl _ _).alloc (Nat.le_refl _) _) (Nat.le_refl _)
/-- What the needle's own block holds, and the result's. -/
def GotBox (w : World) (l : List UInt8) (d k c : Nat) (g : Bool) (p : Value) (wx : World) : Prop :=
  ∃ b xc cc, p = .pointer (some ⟨b, 0, none⟩) ∧ wx.cell? ⟨b, 0, none⟩ = some (.int .u64 (k : Int)) ∧ wx.cell? ⟨b, 1, none⟩ = some (.int .u32 (c : Int)) ∧ wx.cell? ⟨b, 2, none⟩ = some (.bool g) ∧ wx.cell? ⟨b, 3, none⟩ = some (.slice xc d cc) ∧
    wx.ownsRow (w.heap.size + 1) 5 1 (.slice xc d cc) d (bvs l) ∧
    wx.cell? ⟨w.heap.size, 0, none⟩ = some (.int .u64 0) ∧ wx.cell? ⟨w.heap.size, 1, none⟩ = some (.int .u32 0) ∧ wx.cell? ⟨w.heap.size, 2, none⟩ = some (.bool false) ∧ wx.cell? ⟨w.heap.size, 3, none⟩ = some (.slice none 0 0) ∧
    (∀ o, wx.frozen? ⟨w.heap.size, o, none⟩ = false) ∧ Below w.heap.size w wx ∧ w.heap.size < b ∧ b < wx.heap.size
theorem gbox1 {w wc : World} (hb : Below (gworld w).drew.drew.heap.size (gworld w).drew.drew wc) :
    wc.cell? ⟨w.heap.size, 0, none⟩ = some (.int .u64 0) ∧ wc.cell? ⟨w.heap.size, 1, none⟩ = some (.int .u32 0) ∧ wc.cell? ⟨w.heap.size, 2, none⟩ = some (.bool false) ∧ wc.cell? ⟨w.heap.size, 3, none⟩ = some (.slice none 0 0) ∧
    (∀ o, wc.frozen? ⟨w.heap.size, o, none⟩ = false) ∧ w.heap.size < wc.heap.size := by
  have hs : (gworld w).drew.drew.heap.size = w.heap.size + 1 := by show (gworld w).heap.size = _; simp
  have c : ∀ b o, b < w.heap.size + 1 → wc.cell? ⟨b, o, none⟩ = (gworld w).cell? ⟨b, o, none⟩ := fun b o h => hb.cell (p := ⟨b, o, none⟩) (by rw [hs]; exact h)
  have f : ∀ b o, b < w.heap.size + 1 → wc.frozen? ⟨b, o, none⟩ = (gworld w).frozen? ⟨b, o, none⟩ := fun b o h => hb.frozen (p := ⟨b, o, none⟩) (by rw [hs]; exact h)
  refine ⟨?_, ?_, ?_, ?_, fun o => ?_, ?_⟩
  any_goals (rw [c _ _ (by omega)]; go_simp)
  · rw [f _ _ (by omega)]
    go_simp
  · have := hb.size
    omega

theorem gotBox_new {w wc : World} {l : List UInt8} {d k c : Nat} {g : Bool} {xc : Option Addr} {cc : Nat}
    (hown : wc.ownsRow (gworld w).drew.drew.heap.size 5 1 (.slice xc d cc) d (bvs l)) (hb : Below (gworld w).drew.drew.heap.size (gworld w).drew.drew wc) :
    GotBox w l d k c g (.pointer (some ⟨wc.heap.size, 0, none⟩)) (wc.alloc (.cells #[.int .u64 (k : Int), .int .u32 (c : Int), .bool g, .slice xc d cc] 27)) := by
  obtain ⟨z0, z1, z2, z3, g0, hs⟩ := gbox1 hb
  have hsz : (gworld w).drew.drew.heap.size = w.heap.size + 1 := by show (gworld w).heap.size = _; simp
  have hb1 : Below wc.heap.size wc (wc.alloc (.cells #[.int .u64 (k : Int), .int .u32 (c : Int), .bool g, .slice xc d cc] 27)) := (Below.refl _ _).alloc (Nat.le_refl _) _
  refine ⟨wc.heap.size, xc, cc, rfl, ?_, ?_, ?_, ?_, ownsRow_base (hown.alloc _) (by omega), ?_, ?_, ?_, ?_, fun o => ?_, ?_, hs, by simp⟩
  any_goals go_simp
  · exact ((gworld_below w).drew.drew).trans ((hb.mono (by omega)).trans (hb1.mono (by omega)))
theorem gotBox_set {w wc : World} {l : List UInt8} {d k c : Nat} {g : Bool} {xc : Option Addr} {cc : Nat}
    (hown : wc.ownsRow (gworld2 w).drew.drew.heap.size 5 1 (.slice xc d cc) d (bvs l)) (hb : Below (gworld2 w).drew.drew.heap.size (gworld2 w).drew.drew wc) :
    GotBox w l d k c g (.pointer (some ⟨w.heap.size + 1, 0, none⟩)) ((((wc.setCell ⟨w.heap.size + 1, 0, none⟩ (.int .u64 (k : Int))).setCell ⟨w.heap.size + 1, 1, none⟩ (.int .u32 (c : Int))).setCell ⟨w.heap.size + 1, 2, none⟩ (.bool g)).setCell ⟨w.heap.size + 1, 3, none⟩ (.slice xc d cc)) := by
  obtain ⟨z0, z1, z2, z3, y0, y1, y2, y3, g0, g1, hs⟩ := gbox2 hb
  have hsz : (gworld2 w).drew.drew.heap.size = w.heap.size + 2 := by show (gworld2 w).heap.size = _; simp
  have ho : ∀ (W : World) (p : Addr) (u : Value), p.block < w.heap.size + 2 → W.ownsRow (w.heap.size + 2) 5 1 (.slice xc d cc) d (bvs l) → (W.setCell p u).ownsRow (w.heap.size + 2) 5 1 (.slice xc d cc) d (bvs l) := fun W p u hp h => ownsRow_setCell_below h hp u
  rw [hsz] at hown
  refine ⟨w.heap.size + 1, xc, cc, rfl, ?_, ?_, ?_, ?_, ownsRow_base (ho _ _ _ (by simp) (ho _ _ _ (by simp) (ho _ _ _ (by simp) (ho _ _ _ (by simp) hown)))) (by omega), ?_, ?_, ?_, ?_, fun o => ?_, ?_, by omega, by simpa using hs⟩
  any_goals go_simp
  · have h2 : Below w.heap.size w (gworld2 w) := (gworld_below w).alloc (by simp) _
    have h3 : Below w.heap.size w wc := h2.drew.drew.trans (hb.mono (by omega))
    exact (((h3.setCell (by simp) _).setCell (by simp) _).setCell (by simp) _).setCell (by simp) _
theorem got_fin {w wx : World} {U : TypeId} {x : Option Addr} {d cc : Nat} {xs : List Value} {u0 u1 u2 u3 : Value} (h : wx.ownsRow (w.heap.size + 1) U 1 (.slice x d cc) d xs) :
    ((((wx.setCell ⟨w.heap.size, 0, none⟩ u0).setCell ⟨w.heap.size, 1, none⟩ u1).setCell ⟨w.heap.size, 2, none⟩ u2).setCell ⟨w.heap.size, 3, none⟩ u3).ownsRow w.heap.size U 1 (.slice x d cc) d xs :=
  ownsRow_base (ownsRow_setCell_below (ownsRow_setCell_below (ownsRow_setCell_below (ownsRow_setCell_below h (Nat.lt_succ_self _) _) (Nat.lt_succ_self _) _) (Nat.lt_succ_self _) _) (Nat.lt_succ_self _) _) (Nat.le_succ _)
theorem got_bel {w wx : World} {u0 u1 u2 u3 : Value} (h : Below w.heap.size w wx) :
    Below w.heap.size w ((((wx.setCell ⟨w.heap.size, 0, none⟩ u0).setCell ⟨w.heap.size, 1, none⟩ u1).setCell ⟨w.heap.size, 2, none⟩ u2).setCell ⟨w.heap.size, 3, none⟩ u3) :=
  (((h.setCell (Nat.le_refl _) _).setCell (Nat.le_refl _) _).setCell (Nat.le_refl _) _).setCell (Nat.le_refl _) _

set_option maxHeartbeats 1000000 in
theorem get_okN (v : Value) (l : List UInt8) (w : World) (hv : IsB w v l) (hl : l.length ≤ 1099511627776) (h : 32 ≤ l.length) (hf : formedB l = true) (ht : total l ≤ l.length) (hs : sumOkN l = true) (hzp : zeroB (padOf l) = true) :
    Calls Try.prog 37 #[v] w fun e w' => ∃ v', e = .returned (.tuple #[nval (getN l) v', .int .i64 (total l : Nat), .nilIface]) ∧ w'.ownsRow w.heap.size 5 1 v' (dataOf l).length (bvs (dataOf l)) ∧ Below w.heap.size w w' := by
  obtain ⟨n, hn⟩ : ∃ n : Nat, l.length = n := ⟨_, rfl⟩
  have HV := Lib.hid hv
  have hlen := fun W => len_B (P := Try.prog) hv hn 22 3 5 Try.underlying22 W
  rw [hn] at h hl ht
  have HN := Lib.hid hn
  have HF := Lib.hid hf
  have hd := formed_len hf
  have hz := nsize_nat hd
  unfold total at ht
  unfold sumOkN at hs
  have hs := of_decide_eq_true hs
  unfold dataOf at hs
  obtain ⟨d, hdd⟩ : ∃ d : Nat, d = dlen l := ⟨_, rfl⟩
  rw [← hdd] at hd hz ht hs
  obtain ⟨S, hS⟩ : ∃ S : Nat, S = 32 + d + padn d := ⟨_, rfl⟩
  rw [← hS] at hz ht
  have hp8 := padn_lt d
  have hS2 : S ≤ 5000 := by omega
  have hS3 : 32 + d ≤ S := by omega
  have HZ := Lib.hid hz
  have HD := Lib.hid (show d = fld l 20 4 from hdd)
  obtain ⟨s1, h1⟩ : ∃ s : Nat, s = crc (l.take 24 ++ (l.drop 32).take d) := ⟨_, rfl⟩
  obtain ⟨s2, h2⟩ : ∃ s : Nat, s = fld l 24 4 := ⟨_, rfl⟩
  have hs1 : s1 < 4294967296 := by rw [h1]; exact crc_lt _
  have hsb : ((s1 : Int) != (s2 : Int)) = false := by rw [bne_eq_false_iff_eq]; omega
  have H1 := Lib.hid h1
  have H2 := Lib.hid h2
  obtain ⟨E, hE⟩ : ∃ E : Nat, E = 32 + d := ⟨_, rfl⟩
  have hEi : (32 : Int) + (d : Int) = (E : Int) := by omega
  have hE1 : 32 ≤ E := by omega
  have hE2 : E ≤ S := by omega
  obtain ⟨sA, rA, iA⟩ := slice_h_B (P := Try.prog) hv 22 5 Try.underlying22 Try.sizeU8 24 (by omega)
  obtain ⟨sD, rD, iD⟩ := slice_lh_B (P := Try.prog) hv 22 5 Try.underlying22 Try.sizeU8 32 E hE1 (by omega)
  have rA' : ∀ W, (Instr.slice 22 v none (some (.int .i64 24)) none).run Try.prog W = .ok sA W := rA
  have rD' : ∀ W, (Instr.slice 22 v (some (.int .i64 32)) (some (.int .i64 (E : Int))) none).run Try.prog W = .ok sD W := rD
  rw [show E - 32 = d from by omega] at iD
  have HAd := Lib.hid (show IsB (gworld w).drew sA (l.take 24) from isB_gw iA)
  have HDd := Lib.hid (show IsB (gworld w).drew sD ((l.drop 32).take d) from isB_gw iD)
  have HVd := Lib.hid (show IsB (gworld w).drew v l from isB_gw hv)
  obtain ⟨sP, rP, iP⟩ := slice_lh_B (P := Try.prog) hv 22 5 Try.underlying22 Try.sizeU8 E S hE2 (by omega)
  have hpe : (l.drop E).take (S - E) = padOf l := by unfold padOf; rw [← hdd, hE, hS]; congr 1; omega
  rw [hpe] at iP
  have HPd := Lib.hid (show IsB (gworld w).drew sP (padOf l) from isB_gw iP)
  have hl5 := Lib.hid (show (padOf l).length ≤ 1099511627776 from by unfold padOf; rw [List.length_take]; have := padn_lt (dlen l); omega)
  have HZP := Lib.hid hzp
  clear iP hpe hzp
  obtain ⟨k, hk⟩ : ∃ k : Nat, k = fld l 8 8 := ⟨_, rfl⟩
  obtain ⟨c, hc⟩ : ∃ c : Nat, c = fld l 16 4 := ⟨_, rfl⟩
  obtain ⟨f, hf4⟩ : ∃ f : Nat, f = fld l 4 4 := ⟨_, rfl⟩
  have hc4 : c < 4294967296 := by rw [hc]; exact fld4_lt l 16
  have hwc : IntKind.u32.wrap (c : Int) = (c : Int) := IntWalk.u32_in _ (by omega)
  have HK := Lib.hid hk
  have HC := Lib.hid hc
  have HF4 := Lib.hid hf4
  obtain ⟨g, hg⟩ : ∃ g : Bool, g = decide (f = 1) := ⟨_, rfl⟩
  have hgb : ((f : Int) == 1) = g := by rw [hg, Bool.eq_iff_iff]; simp; omega
  have HG := Lib.hid hg
  have HTot := Lib.hid (show total l = S from by rw [hS, hdd]; rfl)
  have HDa := Lib.hid (show dataOf l = (l.drop 32).take d from by rw [hdd]; rfl)
  have HRes := Lib.hid (show ∀ v', nval (getN l) v' = .agg #[.int .u64 (k : Int), .int .u32 (c : Int), .bool g, v'] from fun v' => by rw [hk, hc, hg, hf4]; rfl)
  clear hk hc hf4 hc4 hg
  have HV2 := Lib.hid (show IsB (gworld w).drew.drew v l from isB_gw hv)
  have HV3 := Lib.hid (show IsB (gworld2 w).drew.drew v l from isB_gw2 (isB_gw hv))
  have HD1 := Lib.hid (show IsB (gworld w).drew.drew sD ((l.drop 32).take d) from HDd.out)
  have HD2 := Lib.hid (show IsB (gworld2 w).drew.drew sD ((l.drop 32).take d) from isB_gw2 HDd.out)
  have hl1 := Lib.hid (show (l.take 24).length ≤ 1099511627776 from by rw [List.length_take]; omega)
  have hl2 := Lib.hid (show ((l.drop 32).take d).length ≤ 1099511627776 from by rw [List.length_take]; omega)
  have hl6 := Lib.hid (show ((l.drop 32).take d).length = d from by rw [List.length_take, List.length_drop]; omega)
  have hl3 := Lib.hid (show l.length ≤ 1099511627776 from by omega)
  have hl4 := Lib.hid (show 32 ≤ l.length from by omega)
  have hw1 : IntKind.u64.wrap (s1 : Int) = (s1 : Int) := by rw [IntKind.wrap_u64]; omega
  clear hv hn hf hdd hz hS hp8 hs h1 h2 hE hS3 rA rD iA iD
  go_enter Try.func37, Try.ntmps37
  go_wp2_with fail
  refine (formed_any _ l _ (isB_gw HV.out) (by rw [HN.out]; omega) (by rw [HN.out]; omega)).mono ?_
  rintro e w' ⟨rfl, rfl⟩
  rw [HF.out]
  go_wp2_with fail
  refine (at_any _ l 20 4 _ (.inr (.inr (.inl rfl))) (isB_gw HV.out) (by rw [HN.out]; omega) (by rw [HN.out]; omega)).mono ?_
  rintro e w' ⟨rfl, rfl⟩
  rw [← HD.out]
  go_wp2_with fail
  refine (size_any (d : Int) _ (by omega) (by omega)).mono ?_
  rintro e w' ⟨rfl, rfl⟩
  rw [HZ.out]
  go_wp2_with fail
  go_region_held3 (fun _ => True) (trivial) (first
    | (go_at_call 47; with_reducible refine (sumOf_any sA sD (l.take 24) ((l.drop 32).take d) _ HAd.out HDd.out hl1.out hl2.out).mono ?_; rintro e w' ⟨rfl, rfl⟩; rw [← H1.out])
    | (go_at_call 54; with_reducible refine (at_24_4 v l _ HVd.out hl3.out hl4.out).mono ?_; rintro e w' ⟨rfl, rfl⟩; rw [← H2.out]))
  go_wp2_with fail
  refine (zero_anyB _ _ _ HPd.out hl5.out).mono ?_
  rintro e w' ⟨rfl, rfl⟩
  rw [HZP.out]
  go_upto_region 13 with fail
  go_cut [8] from 52 to 64 (fun p wx => GotBox w ((l.drop 32).take d) d k c g p wx)
  case first =>
    go_wp2_with fail
    go_region_held3 (fun _ => True) (trivial) (first
      | (go_at_call 54; (with_reducible refine (at_8_8 v l _ ?_ hl3.out hl4.out).mono ?_); (first | with_reducible exact HV2.out | with_reducible exact HV3.out | with_reducible exact HVc.out | with_reducible exact HVe.out); rintro e w' ⟨rfl, rfl⟩; rw [← HK.out])
      | (go_at_call 54; (with_reducible refine (at_16_4 v l _ ?_ hl3.out hl4.out).mono ?_); (first | with_reducible exact HV2.out | with_reducible exact HV3.out | with_reducible exact HVc.out | with_reducible exact HVe.out); rintro e w' ⟨rfl, rfl⟩; rw [← HC.out])
      | (go_at_call 54; (with_reducible refine (at_4_4 v l _ ?_ hl3.out hl4.out).mono ?_); (first | with_reducible exact HV2.out | with_reducible exact HV3.out | with_reducible exact HVc.out | with_reducible exact HVe.out); rintro e w' ⟨rfl, rfl⟩; rw [← HF4.out])
      | (go_at_call 34; with_reducible refine (clone_S sD ((l.drop 32).take d) _ d HD2.out hl2.out hl6.out).mono ?_; rintro e wc ⟨xc, cc, rfl, hownc, hbc⟩; obtain ⟨z0, z1, z2, z3, y0, y1, y2, y3, g0, g1, hsc⟩ := gbox2 hbc; have HVc := Lib.hid (HV3.out.mono hbc (Nat.le_refl _)))
      | (go_at_call 34; with_reducible refine (clone_S sD ((l.drop 32).take d) _ d HD1.out hl2.out hl6.out).mono ?_; rintro e wc ⟨xc, cc, rfl, hownc, hbc⟩; obtain ⟨z0, z1, z2, z3, g0, hsc⟩ := gbox1 hbc; have HVc := Lib.hid (HV2.out.mono hbc (Nat.le_refl _)); have HVe := Lib.hid (isB_zalloc HVc.out)))
    all_goals (go_wp2_with fail; go_meet)
    all_goals first | exact gotBox_new hownc hbc | exact gotBox_set hownc hbc
  case rest =>
    obtain ⟨b, xc, cc, rfl, c0, c1, c2, c3, hown, z0, z1, z2, z3, g0, hbel, hwb, hbs⟩ := hcut
    have hbw : b ≠ w.heap.size := by omega
    have HO := Lib.hid hown
    have HB := Lib.hid hbel
    clear hown hbel
    go_wp2
    refine bodyPost_ret (v := .tuple #[.agg #[.int .u64 (k : Int), .int .u32 (c : Int), .bool g, .slice xc d cc], .int .i64 (S : Int), .nilIface]) (by simp [results, Try.results37, go_sem, z0, z1, z2, z3]) rfl ⟨_, by rw [HRes.out, HTot.out], ?_, got_bel HB.out⟩
    rw [HDa.out, hl6.out]
    exact got_fin HO.out

end Go.Proofs.Ytallmcminlnnaaa
