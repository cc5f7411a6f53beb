/- The document's answers for layer 3, by contracts: the needle of bytes, the sum and what follows. -/
import Derived.Test.YtallmcminlnnaaaRef03c
import Derived.Deep.RegionLaw
set_option linter.unusedVariables false
set_option linter.unusedSimpArgs false
namespace Go.Proofs.Ytallmcminlnnaaa
open Go.RowKit Go.Cor

/-- What stands in the two blocks behind the data's copy. -/
def RGot (w : World) (D : List UInt8) (d k c : Nat) (g : Bool) (wx : World) : Prop :=
  ∃ x cd, Boxed wx (w.heap.size + 1) ⟨k, c, g, []⟩ (.slice x d cd) ∧ wx.ownsRow (w.heap.size + 2) 5 1 (.slice x d cd) d (bvs D) ∧ Boxed wx w.heap.size ⟨0, 0, false, []⟩ (.slice none 0 0) ∧
    (∀ o, wx.frozen? ⟨w.heap.size, o, none⟩ = false) ∧ (∀ o, wx.frozen? ⟨w.heap.size + 1, o, none⟩ = false) ∧ Below w.heap.size w wx ∧ w.heap.size + 2 ≤ wx.heap.size
theorem RGot.mono {w wx wy : World} {D : List UInt8} {d k c : Nat} {g : Bool} {B : Nat} (h : RGot w D d k c g wx) (hb : Below B wx wy) (hB : wx.heap.size ≤ B) : RGot w D d k c g wy := by
  obtain ⟨x, cd, h1, h2, h3, h4, h5, h6, h7⟩ := h
  refine ⟨x, cd, h1.mono hb (by omega), ownsRow_below h2 hb hB, h3.mono hb (by omega), fun o => ?_, fun o => ?_, h6.trans (hb.mono (by omega)), Nat.le_trans h7 hb.size⟩
  · rw [hb.frozen (p := ⟨w.heap.size, o, none⟩) (by show w.heap.size < B; omega)]
    exact h4 o
  · rw [hb.frozen (p := ⟨w.heap.size + 1, o, none⟩) (by show w.heap.size + 1 < B; omega)]
    exact h5 o
theorem rbox_facts (w : World) (k c : Nat) (g : Bool) (v : Value) :
    Boxed (rbox w k c g v) (w.heap.size + 1) ⟨k, c, g, []⟩ v ∧ Boxed (rbox w k c g v) w.heap.size ⟨0, 0, false, []⟩ (.slice none 0 0) ∧ (∀ o, (rbox w k c g v).frozen? ⟨w.heap.size, o, none⟩ = false) ∧ (∀ o, (rbox w k c g v).frozen? ⟨w.heap.size + 1, o, none⟩ = false) ∧ (rbox w k c g v).heap.size = w.heap.size + 2 := by
  refine ⟨⟨?_, ?_, ?_, ?_⟩, ⟨?_, ?_, ?_, ?_⟩, fun o => ?_, fun o => ?_, ?_⟩ <;> go_simp
theorem appd {w : World} {B : Nat} {U : TypeId} {v : Value} {D : List UInt8} {d : Nat} (hd : D.length = d) (h : w.ownsRow B U 1 v ([] ++ D).length (bvs ([] ++ D))) : ∃ x c, v = .slice x d c ∧ w.ownsRow B U 1 (.slice x d c) d (bvs D) := by
  rw [List.nil_append, hd] at h
  obtain ⟨x, c, rfl⟩ := ownsRow_slice h
  exact ⟨x, c, rfl, h⟩
theorem rgot_set {w wd : World} {D : List UInt8} {d k c : Nat} {g : Bool} {x : Option Addr} {cd : Nat} (hown : wd.ownsRow (w.heap.size + 2) 5 1 (.slice x d cd) d (bvs D)) (hb : Below (w.heap.size + 2) (rbox w k c g (.slice none 0 0)) wd) :
    RGot w D d k c g (wd.setCell ⟨w.heap.size + 1, 3, none⟩ (.slice x d cd)) := by
  obtain ⟨h1, h2, h3, h4, h5⟩ := rbox_facts w k c g (.slice none 0 0)
  obtain ⟨a0, a1, a2, a3⟩ := h1.mono hb (by omega)
  obtain ⟨b0, b1, b2, b3⟩ := h2.mono hb (by omega)
  have f4 : wd.frozen? ⟨w.heap.size + 1, 3, none⟩ = false := by rw [hb.frozen (p := ⟨w.heap.size + 1, 3, none⟩) (by show w.heap.size + 1 < w.heap.size + 2; omega)]; exact h4 3
  have hown2 := ownsRow_setCell_below hown (a := ⟨w.heap.size + 1, 3, none⟩) (by show w.heap.size + 1 < w.heap.size + 2; omega) (.slice x d cd)
  have hsz := hb.size
  refine ⟨x, cd, ⟨?_, ?_, ?_, ?_⟩, hown2, ⟨?_, ?_, ?_, ?_⟩, fun o => ?_, fun o => ?_, ?_, ?_⟩
  any_goals go_simp
  · rw [hb.frozen (p := ⟨w.heap.size, o, none⟩) (by show w.heap.size < w.heap.size + 2; omega)]
    exact h3 o
  · rw [hb.frozen (p := ⟨w.heap.size + 1, o, none⟩) (by show w.heap.size + 1 < w.heap.size + 2; omega)]
    exact h4 o
  · exact ((rbox_below w k c g (.slice none 0 0)).trans (hb.mono (by omega))).setCell (by simp) _
  · omega

theorem rbox_at {w wd : World} {k c : Nat} {g : Bool} (hb : Below (w.heap.size + 2) (rbox w k c g (.slice none 0 0)).drew.drew.drew wd) :
    wd.cell? ⟨w.heap.size + 1, 0, none⟩ = some (.int .u64 (k : Int)) ∧ wd.cell? ⟨w.heap.size + 1, 1, none⟩ = some (.int .u32 (c : Int)) ∧ wd.cell? ⟨w.heap.size + 1, 2, none⟩ = some (.bool g) ∧ wd.cell? ⟨w.heap.size + 1, 3, none⟩ = some (.slice none 0 0) ∧ wd.frozen? ⟨w.heap.size + 1, 3, none⟩ = false := by
  obtain ⟨h1, h2, h3, h4, h5⟩ := rbox_facts w k c g (.slice none 0 0)
  have hb' : Below (w.heap.size + 2) (rbox w k c g (.slice none 0 0)) wd := ((((Below.refl (w.heap.size + 2) (rbox w k c g (.slice none 0 0))).drew).drew).drew).trans hb
  obtain ⟨a0, a1, a2, a3⟩ := h1.mono hb' (by omega)
  refine ⟨a0, a1, a2, a3, ?_⟩
  rw [hb'.frozen (p := ⟨w.heap.size + 1, 3, none⟩) (by show w.heap.size + 1 < w.heap.size + 2; omega)]
  exact h4 3

theorem pad_get {l : List UInt8} {i : Nat} (h : i < padn (dlen l)) : (padOf l).getD i 0 = l.getD (32 + dlen l + i) 0 := by
  unfold padOf
  simp only [List.getD_eq_getElem?_getD, List.getElem?_take, if_pos h, List.getElem?_drop]
theorem pad_len {l : List UInt8} (h : total l ≤ l.length) : (padOf l).length = padn (dlen l) := by
  unfold padOf
  unfold total at h
  rw [List.length_take, List.length_drop]
  omega
theorem pad_zero {l : List UInt8} (h : total l ≤ l.length) (hz : zeroB (padOf l) = true) (i : Nat) (h1 : 32 + dlen l ≤ i) (h2 : i < total l) : l.getD i 0 = 0 := by
  have hi : i - (32 + dlen l) < padn (dlen l) := by unfold total at h2; omega
  have e := pad_get hi
  rw [show 32 + dlen l + (i - (32 + dlen l)) = i from by omega] at e
  rw [← e, List.getD_eq_getElem?_getD, List.getElem?_eq_getElem (by rw [pad_len h]; exact hi)]
  exact of_decide_eq_true hz _ (List.getElem_mem _)
theorem pad_first {l : List UInt8} (h : total l ≤ l.length) (hz : zeroB (padOf l) = false) : ∃ q, 32 + dlen l ≤ q ∧ q < total l ∧ l.getD q 0 ≠ 0 ∧ ∀ i, 32 + dlen l ≤ i → i < q → l.getD i 0 = 0 := by
  obtain ⟨p, h1, h2, h3⟩ := zeroB_first hz
  rw [pad_len h] at h1
  refine ⟨32 + dlen l + p, by omega, by unfold total; omega, by rw [← pad_get h1]; exact h2, fun i hi1 hi2 => ?_⟩
  have e := pad_get (l := l) (i := i - (32 + dlen l)) (by omega)
  rw [show 32 + dlen l + (i - (32 + dlen l)) = i from by omega] at e
  rw [← e]
  exact h3 _ (by omega)

set_option maxRecDepth 100000 in
set_option maxHeartbeats 4000000 in
theorem refget_bad4 (v : Value) (l : List UInt8) (w : World) (hv : IsB w v l) (hl : l.length ≤ 1099511627776) (h : 32 ≤ l.length) (hfo : formedB l = true) (ht : total l ≤ l.length) (hsu : sumOkN l = false) :
    Calls Try.prog 26 #[v] w fun e w' => e = .returned (.tuple #[nzero, .int .i64 0, .int .i64 5]) ∧ Below w.heap.size w w' := by
  obtain ⟨i0, hi, hz0, hz1, hz2⟩ := info_parts Try.infoU8
  obtain ⟨n, hn⟩ : ∃ n : Nat, l.length = n := ⟨_, rfl⟩
  have hlen := fun W => len_B (P := Try.prog) hv hn 22 3 5 Try.underlying22 W
  have HN := Lib.hid hn
  have HV := Lib.hid hv
  have hn32 : 32 ≤ n := by omega
  have hnl : n ≤ 1099511627776 := by omega
  obtain ⟨s4, r4, i4⟩ := slice_lh_B (P := Try.prog) hv 22 5 Try.underlying22 Try.sizeU8 4 8 (by decide) (by omega)
  have q4 : ∀ W, (Instr.slice 22 v (some (.int .i64 4)) (some (.int .i64 8)) none).run Try.prog W = .ok s4 W := r4
  have I4 := Lib.hid (show IsB w s4 ((l.drop 4).take 4) from i4)
  obtain ⟨s20, r20, i20⟩ := slice_lh_B (P := Try.prog) hv 22 5 Try.underlying22 Try.sizeU8 20 24 (by decide) (by omega)
  have q20 : ∀ W, (Instr.slice 22 v (some (.int .i64 20)) (some (.int .i64 24)) none).run Try.prog W = .ok s20 W := r20
  have I20 := Lib.hid (show IsB w s20 ((l.drop 20).take 4) from i20)
  obtain ⟨s28, r28, i28⟩ := slice_lh_B (P := Try.prog) hv 22 5 Try.underlying22 Try.sizeU8 28 32 (by decide) (by omega)
  have q28 : ∀ W, (Instr.slice 22 v (some (.int .i64 28)) (some (.int .i64 32)) none).run Try.prog W = .ok s28 W := r28
  have I28 := Lib.hid (show IsB w s28 ((l.drop 28).take 4) from i28)
  obtain ⟨s8, r8, i8⟩ := slice_lh_B (P := Try.prog) hv 22 5 Try.underlying22 Try.sizeU8 8 16 (by decide) (by omega)
  have q8 : ∀ W, (Instr.slice 22 v (some (.int .i64 8)) (some (.int .i64 16)) none).run Try.prog W = .ok s8 W := r8
  have I8 := Lib.hid (show IsB w s8 ((l.drop 8).take 8) from i8)
  obtain ⟨s16, r16, i16⟩ := slice_lh_B (P := Try.prog) hv 22 5 Try.underlying22 Try.sizeU8 16 20 (by decide) (by omega)
  have q16 : ∀ W, (Instr.slice 22 v (some (.int .i64 16)) (some (.int .i64 20)) none).run Try.prog W = .ok s16 W := r16
  have I16 := Lib.hid (show IsB w s16 ((l.drop 16).take 4) from i16)
  obtain ⟨s24, r24, i24⟩ := slice_lh_B (P := Try.prog) hv 22 5 Try.underlying22 Try.sizeU8 24 28 (by decide) (by omega)
  have q24 : ∀ W, (Instr.slice 22 v (some (.int .i64 24)) (some (.int .i64 28)) none).run Try.prog W = .ok s24 W := r24
  have I24 := Lib.hid (show IsB w s24 ((l.drop 24).take 4) from i24)
  obtain ⟨s0, r0, i0⟩ := slice_h_B (P := Try.prog) hv 22 5 Try.underlying22 Try.sizeU8 4 (by omega)
  have q0 : ∀ W, (Instr.slice 22 v none (some (.int .i64 4)) none).run Try.prog W = .ok s0 W := r0
  obtain ⟨sA, rA, iA⟩ := slice_h_B (P := Try.prog) hv 22 5 Try.underlying22 Try.sizeU8 24 (by omega)
  have qA : ∀ W, (Instr.slice 22 v none (some (.int .i64 24)) none).run Try.prog W = .ok sA W := rA
  have I0 := Lib.hid (show IsB w s0 ((l.drop 0).take 4) from i0)
  have IA := Lib.hid iA
  have G4 := Lib.hid (show IsB (rworld w).drew s4 ((l.drop 4).take 4) from isB_rw I4.out)
  have G20 := Lib.hid (show IsB (rworld w).drew s20 ((l.drop 20).take 4) from isB_rw I20.out)
  have G0 := Lib.hid (show IsB (rworld w).drew s0 ((l.drop 0).take 4) from isB_rw I0.out)
  have G28 := Lib.hid (show IsB (rworld w).drew s28 ((l.drop 28).take 4) from isB_rw I28.out)
  clear r4 r20 r28 r8 r16 r24 r0 rA i4 i20 i28 i8 i16 i24 i0 iA
  have hf4 := fld4_lt l 4
  have hd4 := fld4_lt l 20
  have hm4 := fld4_lt l 0
  have hz4 := fld4_lt l 28
  have hR : formedB l = decide (fld l 0 4 = 1313162572 ∧ fld l 4 4 ≤ 1 ∧ fld l 28 4 = 0 ∧ fld l 20 4 ≤ 4096 ∧ (fld l 4 4 = 1 → fld l 20 4 = 0)) := rfl
  obtain ⟨m, hm⟩ : ∃ m : Nat, m = fld l 0 4 := ⟨_, rfl⟩
  obtain ⟨f, hf⟩ : ∃ f : Nat, f = fld l 4 4 := ⟨_, rfl⟩
  obtain ⟨d, hd⟩ : ∃ d : Nat, d = fld l 20 4 := ⟨_, rfl⟩
  obtain ⟨z, hz⟩ : ∃ z : Nat, z = fld l 28 4 := ⟨_, rfl⟩
  rw [← hm] at hm4 hR
  rw [← hf] at hf4 hR
  rw [← hd] at hd4 hR
  rw [← hz] at hz4 hR
  have HM := Lib.hid hm
  have HF := Lib.hid hf
  have HD := Lib.hid hd
  have HZ := Lib.hid hz
  rw [hR] at hfo
  obtain ⟨m1, f1, z1, d1, hfd⟩ := of_decide_eq_true hfo
  have mb : ((m : Int) != 1313162572) = false := by rw [bne_eq_false_iff_eq]; omega
  have zb : ((z : Int) != 0) = false := by rw [bne_eq_false_iff_eq]; omega
  have HFD := Lib.hid hfd
  obtain ⟨p, hp⟩ : ∃ p, p = padn d := ⟨_, rfl⟩
  have hp8 := padn_lt d
  rw [← hp] at hp8
  obtain ⟨E, hE⟩ : ∃ E : Nat, E = 32 + d := ⟨_, rfl⟩
  obtain ⟨S, hS⟩ : ∃ S : Nat, S = 32 + d + p := ⟨_, rfl⟩
  have HT := Lib.hid (show total l = S from by rw [hS, hp, hd]; rfl)
  have hEi : (32 : Int) + (d : Int) = (E : Int) := by omega
  have hES : (E : Int) + (p : Int) = (S : Int) := by omega
  have hE1 : 32 ≤ E := by omega
  have hE2 : E ≤ S := by omega
  have hS2 : S ≤ 5000 := by omega
  have HPad := Lib.hid (show pad (E : Int) = (p : Int) from by rw [pad_padn, hp, hE]; congr 1; unfold padn; omega)
  obtain ⟨k, hk⟩ : ∃ k : Nat, k = fld l 8 8 := ⟨_, rfl⟩
  obtain ⟨c, hc⟩ : ∃ c : Nat, c = fld l 16 4 := ⟨_, rfl⟩
  have hc4 : c < 4294967296 := by rw [hc]; exact fld4_lt l 16
  have hwc : IntKind.u32.wrap (c : Int) = (c : Int) := IntWalk.u32_in _ (by omega)
  have HK := Lib.hid hk
  have HC := Lib.hid hc
  obtain ⟨g, hg⟩ : ∃ g : Bool, g = decide (f = 1) := ⟨_, rfl⟩
  have hgb : ((f : Int) == 1) = g := by rw [hg, Bool.eq_iff_iff]; simp; omega
  have HG := Lib.hid hg
  have hdl : dlen l = d := hd.symm
  have G8 := Lib.hid (show IsB (rworld w).drew.drew s8 ((l.drop 8).take 8) from isB_rw I8.out)
  have G8' := Lib.hid (show IsB (rworld2 w).drew.drew s8 ((l.drop 8).take 8) from isB_rw2 I8.out)
  have G16 := Lib.hid (show IsB (rworld w).drew.drew s16 ((l.drop 16).take 4) from isB_rw I16.out)
  have G16' := Lib.hid (show IsB (rworld2 w).drew.drew s16 ((l.drop 16).take 4) from isB_rw2 I16.out)
  have ht' : S ≤ n := by have := HT.out; omega
  obtain ⟨s32, r32, i32⟩ := slice_lh_B (P := Try.prog) hv 22 5 Try.underlying22 Try.sizeU8 32 E hE1 (by omega)
  have q32 : ∀ W, (Instr.slice 22 v (some (.int .i64 32)) (some (.int .i64 (E : Int))) none).run Try.prog W = .ok s32 W := r32
  have hED : E - 32 = d := by omega
  rw [hED] at i32
  obtain ⟨D, hD⟩ : ∃ D : List UInt8, D = (l.drop 32).take d := ⟨_, rfl⟩
  rw [← hD] at i32
  have HDl := Lib.hid (show D.length = d from by rw [hD, List.length_take, List.length_drop]; omega)
  have HDa := Lib.hid (show dataOf l = D from by rw [hD, hd]; rfl)
  obtain ⟨s1, h1⟩ : ∃ s : Nat, s = crc (l.take 24 ++ D) := ⟨_, rfl⟩
  obtain ⟨s2, h2⟩ : ∃ s : Nat, s = fld l 24 4 := ⟨_, rfl⟩
  have hs1 : s1 < 4294967296 := by rw [h1]; exact crc_lt _
  have hw1 : IntKind.u64.wrap (s1 : Int) = (s1 : Int) := by rw [IntKind.wrap_u64]; omega
  have H1 := Lib.hid h1
  have H2 := Lib.hid h2
  have hso : sumOkN l = decide (s1 = s2) := by unfold sumOkN; rw [HDa.out, h1, h2]
  have HSO := Lib.hid hso
  have hsb : ((s2 : Int) != (s1 : Int)) = true := by rw [hsu] at hso; have := of_decide_eq_false hso.symm; rw [bne_iff_ne]; omega
  clear hsu
  have hRB : (rbox w k c g (.slice none 0 0)).drew.drew.drew.heap.size = w.heap.size + 2 := (rbox_facts w k c g (.slice none 0 0)).2.2.2.2
  have hRBle := Lib.hid (show w.heap.size + 2 ≤ (rbox w k c g (.slice none 0 0)).drew.drew.drew.heap.size from by omega)
  have J32 := Lib.hid (show IsB (rbox w k c g (.slice none 0 0)).drew.drew.drew s32 D from i32.mono (((rbox_below w k c g (.slice none 0 0)).drew).drew).drew (Nat.le_refl _))
  have hDb := Lib.hid (show ([] : List UInt8).length + D.length ≤ 1099511627776 from by rw [HDl.out]; simp; omega)
  have k3 : (rbox w k c g (.slice none 0 0)).drew.drew.cell? ⟨w.heap.size + 1, 3, none⟩ = some (.slice none 0 0) := (rbox_facts w k c g (.slice none 0 0)).1.2.2.2
  have K3 := Lib.hid k3
  have hnS : decide (n < S) = false := decide_eq_false (by omega)
  have hAl := Lib.hid (show (l.take 24).length = 24 from by rw [List.length_take]; omega)
  clear hRB r32 i32 hED hD h1 h2 hso k3 ht
  have HDL := Lib.hid hdl
  clear hm hf hd hz hn h hl hR hfo m1 z1 hfd hp hp8 hE hS hk hc hc4 hg hdl hv
  go_enter Try.func26, Try.ntmps26
  go_wp2_with fail
  go_region_held3 (fun _ => True) (trivial) (first
    | (go_at_call 24; with_reducible refine (refnumber_fld s4 l 4 4 _ G4.out k48).mono ?_; rintro e w' ⟨rfl, rfl⟩; rw [← HF.out])
    | (go_at_call 24; with_reducible refine (refnumber_fld s20 l 20 4 _ G20.out k48).mono ?_; rintro e w' ⟨rfl, rfl⟩; rw [← HD.out]))
  go_upto_region 4 with fail
  have hgbH := Lib.hid hgb
  clear hgb
  go_cut [46] from 21 to 46 (fun q wx => q = .bool false ∧ wx = (rworld w).drew)
  case first =>
    by_cases f3 : f = 1
    · have fb : ((f : Int) == 1) = true := by rw [beq_iff_eq]; omega
      have d3 : d ≤ 0 := by rw [HFD.out f3]; exact Nat.le_refl _
      clear f3
      go_wp2_with fail
      refine (refnumber_fld s0 l 0 4 _ G0.out k48).mono ?_
      rintro e w' ⟨rfl, rfl⟩
      rw [← HM.out]
      go_wp2_with fail
      refine (refnumber_fld s28 l 28 4 _ G28.out k48).mono ?_
      rintro e w' ⟨rfl, rfl⟩
      rw [← HZ.out]
      go_wp2_with fail
      go_meet
      refine ⟨congrArg Value.bool ?_, rfl⟩
      simp
      omega
    · have fb : ((f : Int) == 1) = false := by rw [beq_eq_false_iff_ne]; omega
      clear f3
      go_wp2_with fail
      refine (refnumber_fld s0 l 0 4 _ G0.out k48).mono ?_
      rintro e w' ⟨rfl, rfl⟩
      rw [← HM.out]
      go_wp2_with fail
      refine (refnumber_fld s28 l 28 4 _ G28.out k48).mono ?_
      rintro e w' ⟨rfl, rfl⟩
      rw [← HZ.out]
      go_wp2_with fail
      go_meet
      refine ⟨congrArg Value.bool ?_, rfl⟩
      simp
      omega
  case rest =>
    obtain ⟨rfl, rfl⟩ := hcut
    go_upto_region 6 with fail
    go_cut [7] from 48 to 57 (fun q wx => q = .pointer (some ⟨w.heap.size + 1, 0, none⟩) ∧ wx = (rbox w k c g (.slice none 0 0)).drew.drew)
    case first =>
      have hgb := hgbH.out
      go_wp2_with fail
      go_region_held3 (fun _ => True) (trivial) (first
        | (go_at_call 24; (with_reducible refine (refnumber_fld s8 l 8 8 _ ?_ k88).mono ?_); (first | with_reducible exact G8.out | with_reducible exact G8'.out); rintro e w' ⟨rfl, rfl⟩; rw [← HK.out])
        | (go_at_call 24; (with_reducible refine (refnumber_fld s16 l 16 4 _ ?_ k48).mono ?_); (first | with_reducible exact G16.out | with_reducible exact G16'.out); rintro e w' ⟨rfl, rfl⟩; rw [← HC.out]))
      all_goals (go_wp2_with fail; go_meet)
      all_goals exact ⟨rfl, rfl⟩
    case rest =>
    obtain ⟨rfl, rfl⟩ := hcut
    go_wp2_with fail
    refine (refpad_any (E : Int) _ (by omega) (by omega)).mono ?_
    rintro e w' ⟨rfl, rfl⟩
    rw [HPad.out]
    go_upto_region 11 with fail
    go_cut [75] from 70 to 76 (fun _q wx => RGot w D d k c g wx)
    case first =>
      have k3 := K3.out
      go_wp2_with fail
      go_region_law (first
        | (refine step_append_B (by rfl) (.tmp 71) (.tmp 74) 22 rfl (w.heap.size + 2) 5 i0 Try.underlying22 hi hz0 hz1 hz2 (.slice none 0 0) [] 0 rfl (World.ownsRow_nil _ _ _ _) rfl s32 D rfl J32.out hDb.out hRBle.out ?_; intro vd wd hownd hbd; obtain ⟨xd, cd, rfl, hownd2⟩ := appd HDl.out hownd; obtain ⟨y0, y1, y2, c3a, f3a⟩ := rbox_at hbd))
      all_goals (go_wp2_with fail; go_meet)
      all_goals exact rgot_set hownd2 ((((Below.refl (w.heap.size + 2) (rbox w k c g (.slice none 0 0))).drew).drew).drew.trans hbd)
    case rest =>
    obtain ⟨wd, rfl⟩ : ∃ wd, wd = wc := ⟨_, rfl⟩
    have HRG := Lib.hid hcut
    obtain ⟨xd, cd, hbx1, hD0, hbx0, hfr0, hfr1, hbel0, hsz0⟩ := hcut
    have HD0 := Lib.hid (IsB.own hD0 HDl.out.symm)
    have HB0 := Lib.hid hbel0
    clear hD0 hbel0 hfr0 hfr1 hnS
    obtain ⟨y0, y1, y2, y3⟩ := hbx1
    have y3' : (wd.alloc (.cells #[] 5)).cell? ⟨w.heap.size + 1, 3, none⟩ = some (.slice xd d cd) := (((Below.refl wd.heap.size wd).alloc (Nat.le_refl _) (.cells #[] 5)).cell (p := ⟨w.heap.size + 1, 3, none⟩) hsz0).trans y3
    have N0 := Lib.hid (show IsB wd.drew s24 ((l.drop 24).take 4) from I24.out.mono HB0.out.drew (Nat.le_refl _))
    have N1 := Lib.hid (show IsB (wd.alloc (.cells #[] 5)).drew s24 ((l.drop 24).take 4) from (I24.out.mono HB0.out (Nat.le_refl _)).mono (((Below.refl wd.heap.size wd).alloc (Nat.le_refl _) (.cells #[] 5))).drew (Nat.le_refl _))
    have NA := Lib.hid (show IsB (wd.alloc (.cells #[] 5)).drew sA (l.take 24) from (IA.out.mono HB0.out (Nat.le_refl _)).mono (((Below.refl wd.heap.size wd).alloc (Nat.le_refl _) (.cells #[] 5))).drew (Nat.le_refl _))
    have hA1 := Lib.hid (show ([] : List UInt8).length + (l.take 24).length ≤ 1099511627776 from by rw [hAl.out]; decide)
    have hA2 := Lib.hid (show (l.take 24).length + D.length ≤ 1099511627776 from by rw [hAl.out, HDl.out]; omega)
    have hA3 := Lib.hid (show (l.take 24 ++ D).length ≤ 1099511627776 from by rw [List.length_append]; exact hA2.out)
    have y3H := Lib.hid y3
    go_upto_region 12 with fail
    go_cut [89] from 77 to 89 (fun q wx => q = .bool true ∧ Below wd.heap.size wd wx)
    case first =>
      go_wp2_with fail
      go_region_held3 (fun wx => wx.cell? ⟨w.heap.size + 1, 3, none⟩ = some (.slice xd d cd)) (first | exact y3 | exact y3' | exact c3a | exact c3b) (first
        | (refine step_append_B (by rfl) (.tmp 80) (.tmp 82) 22 rfl wd.heap.size 5 i0 Try.underlying22 hi hz0 hz1 hz2 _ [] 0 rfl (World.ownsRow_lit _ #[] 0 (Nat.le_refl _) (Nat.zero_le _) rfl) rfl sA (l.take 24) rfl NA.out hA1.out (by simp) ?_; intro va wa howna hba; have hsa := Nat.le_trans (show wd.heap.size ≤ (wd.alloc (.cells #[] 5)).drew.heap.size from by simp) hba.size; have c3a := (hba.cell (p := ⟨w.heap.size + 1, 3, none⟩) hsz0).trans y3'; have hbva := (((Below.refl wd.heap.size wd).alloc (Nat.le_refl _) (.cells #[] 5)).drew).trans hba; have HDa2 := HD0.out.mono hbva (Nat.le_refl _); have N2 := Lib.hid ((I24.out.mono HB0.out (Nat.le_refl _)).mono hbva (Nat.le_refl _)))
        | (refine step_append_B (by rfl) (.tmp 83) (.tmp 85) 22 rfl wd.heap.size 5 i0 Try.underlying22 hi hz0 hz1 hz2 _ (l.take 24) (l.take 24).length rfl howna rfl _ D rfl HDa2 hA2.out hsa ?_; intro vb wb hownb hbb; have c3b := (hbb.cell (p := ⟨w.heap.size + 1, 3, none⟩) hsz0).trans c3a; have hbvb := hbva.trans hbb; have e1 := IsB.own (l := l.take 24 ++ D) hownb (by simp); have N3 := Lib.hid ((I24.out.mono HB0.out (Nat.le_refl _)).mono hbvb (Nat.le_refl _)))
        | (go_at_call 25; with_reducible refine (refof_any _ (l.take 24 ++ D) _ e1 hA3.out).mono ?_; rintro e w' ⟨rfl, rfl⟩; rw [← H1.out])
        | (go_at_call 24; (with_reducible refine (refnumber_fld s24 l 24 4 _ ?_ k48).mono ?_); (first | with_reducible exact N0.out | with_reducible exact N1.out | with_reducible exact N2.out | with_reducible exact N3.out); rintro e w' ⟨rfl, rfl⟩; rw [← H2.out]))
      all_goals (go_wp2_with fail; go_meet)
      all_goals exact ⟨rfl, hbvb⟩
    case rest =>
    obtain ⟨rfl, hbc⟩ := hcut
    obtain ⟨xe, ce, hbe1, hDe, hbe0, hfe0, hfe1, hbele, hsze⟩ := HRG.out.mono hbc (Nat.le_refl _)
    have HBE := Lib.hid hbele
    have HDE := Lib.hid hDe
    obtain ⟨z0, z1, z2, z3⟩ := hbe0
    have hf0 := hfe0 0
    have hf1 := hfe0 1
    have hf2 := hfe0 2
    have hf3 := hfe0 3
    have HVC := Lib.hid (HV.out.mono hbele (Nat.le_refl _))
    clear hbc hDe hfe0 hfe1 hbele y0 y1 y2 y3 y3' hbx0
    obtain ⟨y0, y1, y2, y3⟩ := hbe1
    go_wp2
    exact bodyPost_ret (v := .tuple #[nzero, .int .i64 0, .int .i64 5]) (by simp [results, Try.results26, go_sem, z0, z1, z2, z3]) rfl ⟨rfl, got_bel HBE.out⟩

set_option maxRecDepth 100000 in
set_option maxHeartbeats 4000000 in
theorem refget_bad5 (v : Value) (l : List UInt8) (w : World) (hv : IsB w v l) (hl : l.length ≤ 1099511627776) (h : 32 ≤ l.length) (hfo : formedB l = true) (ht : total l ≤ l.length) (hsu : sumOkN l = true) (hzp : zeroB (padOf l) = false) :
    Calls Try.prog 26 #[v] w fun e w' => e = .returned (.tuple #[nzero, .int .i64 0, .int .i64 4]) ∧ Below w.heap.size w w' := by
  obtain ⟨i0, hi, hz0, hz1, hz2⟩ := info_parts Try.infoU8
  obtain ⟨n, hn⟩ : ∃ n : Nat, l.length = n := ⟨_, rfl⟩
  have hlen := fun W => len_B (P := Try.prog) hv hn 22 3 5 Try.underlying22 W
  have HN := Lib.hid hn
  have HV := Lib.hid hv
  have hn32 : 32 ≤ n := by omega
  have hnl : n ≤ 1099511627776 := by omega
  obtain ⟨s4, r4, i4⟩ := slice_lh_B (P := Try.prog) hv 22 5 Try.underlying22 Try.sizeU8 4 8 (by decide) (by omega)
  have q4 : ∀ W, (Instr.slice 22 v (some (.int .i64 4)) (some (.int .i64 8)) none).run Try.prog W = .ok s4 W := r4
  have I4 := Lib.hid (show IsB w s4 ((l.drop 4).take 4) from i4)
  obtain ⟨s20, r20, i20⟩ := slice_lh_B (P := Try.prog) hv 22 5 Try.underlying22 Try.sizeU8 20 24 (by decide) (by omega)
  have q20 : ∀ W, (Instr.slice 22 v (some (.int .i64 20)) (some (.int .i64 24)) none).run Try.prog W = .ok s20 W := r20
  have I20 := Lib.hid (show IsB w s20 ((l.drop 20).take 4) from i20)
  obtain ⟨s28, r28, i28⟩ := slice_lh_B (P := Try.prog) hv 22 5 Try.underlying22 Try.sizeU8 28 32 (by decide) (by omega)
  have q28 : ∀ W, (Instr.slice 22 v (some (.int .i64 28)) (some (.int .i64 32)) none).run Try.prog W = .ok s28 W := r28
  have I28 := Lib.hid (show IsB w s28 ((l.drop 28).take 4) from i28)
  obtain ⟨s8, r8, i8⟩ := slice_lh_B (P := Try.prog) hv 22 5 Try.underlying22 Try.sizeU8 8 16 (by decide) (by omega)
  have q8 : ∀ W, (Instr.slice 22 v (some (.int .i64 8)) (some (.int .i64 16)) none).run Try.prog W = .ok s8 W := r8
  have I8 := Lib.hid (show IsB w s8 ((l.drop 8).take 8) from i8)
  obtain ⟨s16, r16, i16⟩ := slice_lh_B (P := Try.prog) hv 22 5 Try.underlying22 Try.sizeU8 16 20 (by decide) (by omega)
  have q16 : ∀ W, (Instr.slice 22 v (some (.int .i64 16)) (some (.int .i64 20)) none).run Try.prog W = .ok s16 W := r16
  have I16 := Lib.hid (show IsB w s16 ((l.drop 16).take 4) from i16)
  obtain ⟨s24, r24, i24⟩ := slice_lh_B (P := Try.prog) hv 22 5 Try.underlying22 Try.sizeU8 24 28 (by decide) (by omega)
  have q24 : ∀ W, (Instr.slice 22 v (some (.int .i64 24)) (some (.int .i64 28)) none).run Try.prog W = .ok s24 W := r24
  have I24 := Lib.hid (show IsB w s24 ((l.drop 24).take 4) from i24)
  obtain ⟨s0, r0, i0⟩ := slice_h_B (P := Try.prog) hv 22 5 Try.underlying22 Try.sizeU8 4 (by omega)
  have q0 : ∀ W, (Instr.slice 22 v none (some (.int .i64 4)) none).run Try.prog W = .ok s0 W := r0
  obtain ⟨sA, rA, iA⟩ := slice_h_B (P := Try.prog) hv 22 5 Try.underlying22 Try.sizeU8 24 (by omega)
  have qA : ∀ W, (Instr.slice 22 v none (some (.int .i64 24)) none).run Try.prog W = .ok sA W := rA
  have I0 := Lib.hid (show IsB w s0 ((l.drop 0).take 4) from i0)
  have IA := Lib.hid iA
  have G4 := Lib.hid (show IsB (rworld w).drew s4 ((l.drop 4).take 4) from isB_rw I4.out)
  have G20 := Lib.hid (show IsB (rworld w).drew s20 ((l.drop 20).take 4) from isB_rw I20.out)
  have G0 := Lib.hid (show IsB (rworld w).drew s0 ((l.drop 0).take 4) from isB_rw I0.out)
  have G28 := Lib.hid (show IsB (rworld w).drew s28 ((l.drop 28).take 4) from isB_rw I28.out)
  clear r4 r20 r28 r8 r16 r24 r0 rA i4 i20 i28 i8 i16 i24 i0 iA
  have hf4 := fld4_lt l 4
  have hd4 := fld4_lt l 20
  have hm4 := fld4_lt l 0
  have hz4 := fld4_lt l 28
  have hR : formedB l = decide (fld l 0 4 = 1313162572 ∧ fld l 4 4 ≤ 1 ∧ fld l 28 4 = 0 ∧ fld l 20 4 ≤ 4096 ∧ (fld l 4 4 = 1 → fld l 20 4 = 0)) := rfl
  obtain ⟨m, hm⟩ : ∃ m : Nat, m = fld l 0 4 := ⟨_, rfl⟩
  obtain ⟨f, hf⟩ : ∃ f : Nat, f = fld l 4 4 := ⟨_, rfl⟩
  obtain ⟨d, hd⟩ : ∃ d : Nat, d = fld l 20 4 := ⟨_, rfl⟩
  obtain ⟨z, hz⟩ : ∃ z : Nat, z = fld l 28 4 := ⟨_, rfl⟩
  rw [← hm] at hm4 hR
  rw [← hf] at hf4 hR
  rw [← hd] at hd4 hR
  rw [← hz] at hz4 hR
  have HM := Lib.hid hm
  have HF := Lib.hid hf
  have HD := Lib.hid hd
  have HZ := Lib.hid hz
  rw [hR] at hfo
  obtain ⟨m1, f1, z1, d1, hfd⟩ := of_decide_eq_true hfo
  have mb : ((m : Int) != 1313162572) = false := by rw [bne_eq_false_iff_eq]; omega
  have zb : ((z : Int) != 0) = false := by rw [bne_eq_false_iff_eq]; omega
  have HFD := Lib.hid hfd
  obtain ⟨p, hp⟩ : ∃ p, p = padn d := ⟨_, rfl⟩
  have hp8 := padn_lt d
  rw [← hp] at hp8
  obtain ⟨E, hE⟩ : ∃ E : Nat, E = 32 + d := ⟨_, rfl⟩
  obtain ⟨S, hS⟩ : ∃ S : Nat, S = 32 + d + p := ⟨_, rfl⟩
  have HT := Lib.hid (show total l = S from by rw [hS, hp, hd]; rfl)
  have hEi : (32 : Int) + (d : Int) = (E : Int) := by omega
  have hES : (E : Int) + (p : Int) = (S : Int) := by omega
  have hE1 : 32 ≤ E := by omega
  have hE2 : E ≤ S := by omega
  have hS2 : S ≤ 5000 := by omega
  have HPad := Lib.hid (show pad (E : Int) = (p : Int) from by rw [pad_padn, hp, hE]; congr 1; unfold padn; omega)
  obtain ⟨k, hk⟩ : ∃ k : Nat, k = fld l 8 8 := ⟨_, rfl⟩
  obtain ⟨c, hc⟩ : ∃ c : Nat, c = fld l 16 4 := ⟨_, rfl⟩
  have hc4 : c < 4294967296 := by rw [hc]; exact fld4_lt l 16
  have hwc : IntKind.u32.wrap (c : Int) = (c : Int) := IntWalk.u32_in _ (by omega)
  have HK := Lib.hid hk
  have HC := Lib.hid hc
  obtain ⟨g, hg⟩ : ∃ g : Bool, g = decide (f = 1) := ⟨_, rfl⟩
  have hgb : ((f : Int) == 1) = g := by rw [hg, Bool.eq_iff_iff]; simp; omega
  have HG := Lib.hid hg
  have hdl : dlen l = d := hd.symm
  have G8 := Lib.hid (show IsB (rworld w).drew.drew s8 ((l.drop 8).take 8) from isB_rw I8.out)
  have G8' := Lib.hid (show IsB (rworld2 w).drew.drew s8 ((l.drop 8).take 8) from isB_rw2 I8.out)
  have G16 := Lib.hid (show IsB (rworld w).drew.drew s16 ((l.drop 16).take 4) from isB_rw I16.out)
  have G16' := Lib.hid (show IsB (rworld2 w).drew.drew s16 ((l.drop 16).take 4) from isB_rw2 I16.out)
  have ht' : S ≤ n := by have := HT.out; omega
  obtain ⟨s32, r32, i32⟩ := slice_lh_B (P := Try.prog) hv 22 5 Try.underlying22 Try.sizeU8 32 E hE1 (by omega)
  have q32 : ∀ W, (Instr.slice 22 v (some (.int .i64 32)) (some (.int .i64 (E : Int))) none).run Try.prog W = .ok s32 W := r32
  have hED : E - 32 = d := by omega
  rw [hED] at i32
  obtain ⟨D, hD⟩ : ∃ D : List UInt8, D = (l.drop 32).take d := ⟨_, rfl⟩
  rw [← hD] at i32
  have HDl := Lib.hid (show D.length = d from by rw [hD, List.length_take, List.length_drop]; omega)
  have HDa := Lib.hid (show dataOf l = D from by rw [hD, hd]; rfl)
  obtain ⟨s1, h1⟩ : ∃ s : Nat, s = crc (l.take 24 ++ D) := ⟨_, rfl⟩
  obtain ⟨s2, h2⟩ : ∃ s : Nat, s = fld l 24 4 := ⟨_, rfl⟩
  have hs1 : s1 < 4294967296 := by rw [h1]; exact crc_lt _
  have hw1 : IntKind.u64.wrap (s1 : Int) = (s1 : Int) := by rw [IntKind.wrap_u64]; omega
  have H1 := Lib.hid h1
  have H2 := Lib.hid h2
  have hso : sumOkN l = decide (s1 = s2) := by unfold sumOkN; rw [HDa.out, h1, h2]
  have HSO := Lib.hid hso
  have hsb : ((s2 : Int) != (s1 : Int)) = false := by rw [hsu] at hso; have := of_decide_eq_true hso.symm; rw [bne_eq_false_iff_eq]; omega
  have hpt := HT.out
  have hED2 : 32 + dlen l = E := by rw [hdl]; omega
  obtain ⟨pz, hpz1, hpz2, hpz3, hpz4⟩ := pad_first ht hzp
  rw [hED2] at hpz1
  rw [hpt] at hpz2
  have HPN := Lib.hid hpz3
  have HPZ := Lib.hid (show ∀ i, E ≤ i → i < pz → l.getD i 0 = 0 from fun i h1 h2 => hpz4 i (by omega) h2)
  clear hpz3 hpz4
  clear hsu hzp hpt hED2
  have hRB : (rbox w k c g (.slice none 0 0)).drew.drew.drew.heap.size = w.heap.size + 2 := (rbox_facts w k c g (.slice none 0 0)).2.2.2.2
  have hRBle := Lib.hid (show w.heap.size + 2 ≤ (rbox w k c g (.slice none 0 0)).drew.drew.drew.heap.size from by omega)
  have J32 := Lib.hid (show IsB (rbox w k c g (.slice none 0 0)).drew.drew.drew s32 D from i32.mono (((rbox_below w k c g (.slice none 0 0)).drew).drew).drew (Nat.le_refl _))
  have hDb := Lib.hid (show ([] : List UInt8).length + D.length ≤ 1099511627776 from by rw [HDl.out]; simp; omega)
  have k3 : (rbox w k c g (.slice none 0 0)).drew.drew.cell? ⟨w.heap.size + 1, 3, none⟩ = some (.slice none 0 0) := (rbox_facts w k c g (.slice none 0 0)).1.2.2.2
  have K3 := Lib.hid k3
  have hnS : decide (n < S) = false := decide_eq_false (by omega)
  have hAl := Lib.hid (show (l.take 24).length = 24 from by rw [List.length_take]; omega)
  clear hRB r32 i32 hED hD h1 h2 hso k3 ht
  have HDL := Lib.hid hdl
  clear hm hf hd hz hn h hl hR hfo m1 z1 hfd hp hp8 hE hS hk hc hc4 hg hdl hv
  go_enter Try.func26, Try.ntmps26
  go_wp2_with fail
  go_region_held3 (fun _ => True) (trivial) (first
    | (go_at_call 24; with_reducible refine (refnumber_fld s4 l 4 4 _ G4.out k48).mono ?_; rintro e w' ⟨rfl, rfl⟩; rw [← HF.out])
    | (go_at_call 24; with_reducible refine (refnumber_fld s20 l 20 4 _ G20.out k48).mono ?_; rintro e w' ⟨rfl, rfl⟩; rw [← HD.out]))
  go_upto_region 4 with fail
  have hgbH := Lib.hid hgb
  clear hgb
  go_cut [46] from 21 to 46 (fun q wx => q = .bool false ∧ wx = (rworld w).drew)
  case first =>
    by_cases f3 : f = 1
    · have fb : ((f : Int) == 1) = true := by rw [beq_iff_eq]; omega
      have d3 : d ≤ 0 := by rw [HFD.out f3]; exact Nat.le_refl _
      clear f3
      go_wp2_with fail
      refine (refnumber_fld s0 l 0 4 _ G0.out k48).mono ?_
      rintro e w' ⟨rfl, rfl⟩
      rw [← HM.out]
      go_wp2_with fail
      refine (refnumber_fld s28 l 28 4 _ G28.out k48).mono ?_
      rintro e w' ⟨rfl, rfl⟩
      rw [← HZ.out]
      go_wp2_with fail
      go_meet
      refine ⟨congrArg Value.bool ?_, rfl⟩
      simp
      omega
    · have fb : ((f : Int) == 1) = false := by rw [beq_eq_false_iff_ne]; omega
      clear f3
      go_wp2_with fail
      refine (refnumber_fld s0 l 0 4 _ G0.out k48).mono ?_
      rintro e w' ⟨rfl, rfl⟩
      rw [← HM.out]
      go_wp2_with fail
      refine (refnumber_fld s28 l 28 4 _ G28.out k48).mono ?_
      rintro e w' ⟨rfl, rfl⟩
      rw [← HZ.out]
      go_wp2_with fail
      go_meet
      refine ⟨congrArg Value.bool ?_, rfl⟩
      simp
      omega
  case rest =>
    obtain ⟨rfl, rfl⟩ := hcut
    go_upto_region 6 with fail
    go_cut [7] from 48 to 57 (fun q wx => q = .pointer (some ⟨w.heap.size + 1, 0, none⟩) ∧ wx = (rbox w k c g (.slice none 0 0)).drew.drew)
    case first =>
      have hgb := hgbH.out
      go_wp2_with fail
      go_region_held3 (fun _ => True) (trivial) (first
        | (go_at_call 24; (with_reducible refine (refnumber_fld s8 l 8 8 _ ?_ k88).mono ?_); (first | with_reducible exact G8.out | with_reducible exact G8'.out); rintro e w' ⟨rfl, rfl⟩; rw [← HK.out])
        | (go_at_call 24; (with_reducible refine (refnumber_fld s16 l 16 4 _ ?_ k48).mono ?_); (first | with_reducible exact G16.out | with_reducible exact G16'.out); rintro e w' ⟨rfl, rfl⟩; rw [← HC.out]))
      all_goals (go_wp2_with fail; go_meet)
      all_goals exact ⟨rfl, rfl⟩
    case rest =>
    obtain ⟨rfl, rfl⟩ := hcut
    go_wp2_with fail
    refine (refpad_any (E : Int) _ (by omega) (by omega)).mono ?_
    rintro e w' ⟨rfl, rfl⟩
    rw [HPad.out]
    go_upto_region 11 with fail
    go_cut [75] from 70 to 76 (fun _q wx => RGot w D d k c g wx)
    case first =>
      have k3 := K3.out
      go_wp2_with fail
      go_region_law (first
        | (refine step_append_B (by rfl) (.tmp 71) (.tmp 74) 22 rfl (w.heap.size + 2) 5 i0 Try.underlying22 hi hz0 hz1 hz2 (.slice none 0 0) [] 0 rfl (World.ownsRow_nil _ _ _ _) rfl s32 D rfl J32.out hDb.out hRBle.out ?_; intro vd wd hownd hbd; obtain ⟨xd, cd, rfl, hownd2⟩ := appd HDl.out hownd; obtain ⟨y0, y1, y2, c3a, f3a⟩ := rbox_at hbd))
      all_goals (go_wp2_with fail; go_meet)
      all_goals exact rgot_set hownd2 ((((Below.refl (w.heap.size + 2) (rbox w k c g (.slice none 0 0))).drew).drew).drew.trans hbd)
    case rest =>
    obtain ⟨wd, rfl⟩ : ∃ wd, wd = wc := ⟨_, rfl⟩
    have HRG := Lib.hid hcut
    obtain ⟨xd, cd, hbx1, hD0, hbx0, hfr0, hfr1, hbel0, hsz0⟩ := hcut
    have HD0 := Lib.hid (IsB.own hD0 HDl.out.symm)
    have HB0 := Lib.hid hbel0
    clear hD0 hbel0 hfr0 hfr1 hnS
    obtain ⟨y0, y1, y2, y3⟩ := hbx1
    have y3' : (wd.alloc (.cells #[] 5)).cell? ⟨w.heap.size + 1, 3, none⟩ = some (.slice xd d cd) := (((Below.refl wd.heap.size wd).alloc (Nat.le_refl _) (.cells #[] 5)).cell (p := ⟨w.heap.size + 1, 3, none⟩) hsz0).trans y3
    have N0 := Lib.hid (show IsB wd.drew s24 ((l.drop 24).take 4) from I24.out.mono HB0.out.drew (Nat.le_refl _))
    have N1 := Lib.hid (show IsB (wd.alloc (.cells #[] 5)).drew s24 ((l.drop 24).take 4) from (I24.out.mono HB0.out (Nat.le_refl _)).mono (((Below.refl wd.heap.size wd).alloc (Nat.le_refl _) (.cells #[] 5))).drew (Nat.le_refl _))
    have NA := Lib.hid (show IsB (wd.alloc (.cells #[] 5)).drew sA (l.take 24) from (IA.out.mono HB0.out (Nat.le_refl _)).mono (((Below.refl wd.heap.size wd).alloc (Nat.le_refl _) (.cells #[] 5))).drew (Nat.le_refl _))
    have hA1 := Lib.hid (show ([] : List UInt8).length + (l.take 24).length ≤ 1099511627776 from by rw [hAl.out]; decide)
    have hA2 := Lib.hid (show (l.take 24).length + D.length ≤ 1099511627776 from by rw [hAl.out, HDl.out]; omega)
    have hA3 := Lib.hid (show (l.take 24 ++ D).length ≤ 1099511627776 from by rw [List.length_append]; exact hA2.out)
    have y3H := Lib.hid y3
    go_upto_region 12 with fail
    go_cut [89] from 77 to 89 (fun q wx => q = .bool false ∧ Below wd.heap.size wd wx)
    case first =>
      go_wp2_with fail
      go_region_held3 (fun wx => wx.cell? ⟨w.heap.size + 1, 3, none⟩ = some (.slice xd d cd)) (first | exact y3 | exact y3' | exact c3a | exact c3b) (first
        | (refine step_append_B (by rfl) (.tmp 80) (.tmp 82) 22 rfl wd.heap.size 5 i0 Try.underlying22 hi hz0 hz1 hz2 _ [] 0 rfl (World.ownsRow_lit _ #[] 0 (Nat.le_refl _) (Nat.zero_le _) rfl) rfl sA (l.take 24) rfl NA.out hA1.out (by simp) ?_; intro va wa howna hba; have hsa := Nat.le_trans (show wd.heap.size ≤ (wd.alloc (.cells #[] 5)).drew.heap.size from by simp) hba.size; have c3a := (hba.cell (p := ⟨w.heap.size + 1, 3, none⟩) hsz0).trans y3'; have hbva := (((Below.refl wd.heap.size wd).alloc (Nat.le_refl _) (.cells #[] 5)).drew).trans hba; have HDa2 := HD0.out.mono hbva (Nat.le_refl _); have N2 := Lib.hid ((I24.out.mono HB0.out (Nat.le_refl _)).mono hbva (Nat.le_refl _)))
        | (refine step_append_B (by rfl) (.tmp 83) (.tmp 85) 22 rfl wd.heap.size 5 i0 Try.underlying22 hi hz0 hz1 hz2 _ (l.take 24) (l.take 24).length rfl howna rfl _ D rfl HDa2 hA2.out hsa ?_; intro vb wb hownb hbb; have c3b := (hbb.cell (p := ⟨w.heap.size + 1, 3, none⟩) hsz0).trans c3a; have hbvb := hbva.trans hbb; have e1 := IsB.own (l := l.take 24 ++ D) hownb (by simp); have N3 := Lib.hid ((I24.out.mono HB0.out (Nat.le_refl _)).mono hbvb (Nat.le_refl _)))
        | (go_at_call 25; with_reducible refine (refof_any _ (l.take 24 ++ D) _ e1 hA3.out).mono ?_; rintro e w' ⟨rfl, rfl⟩; rw [← H1.out])
        | (go_at_call 24; (with_reducible refine (refnumber_fld s24 l 24 4 _ ?_ k48).mono ?_); (first | with_reducible exact N0.out | with_reducible exact N1.out | with_reducible exact N2.out | with_reducible exact N3.out); rintro e w' ⟨rfl, rfl⟩; rw [← H2.out]))
      all_goals (go_wp2_with fail; go_meet)
      all_goals exact ⟨rfl, hbvb⟩
    case rest =>
    obtain ⟨rfl, hbc⟩ := hcut
    obtain ⟨xe, ce, hbe1, hDe, hbe0, hfe0, hfe1, hbele, hsze⟩ := HRG.out.mono hbc (Nat.le_refl _)
    have HBE := Lib.hid hbele
    have HDE := Lib.hid hDe
    obtain ⟨z0, z1, z2, z3⟩ := hbe0
    have hf0 := hfe0 0
    have hf1 := hfe0 1
    have hf2 := hfe0 2
    have hf3 := hfe0 3
    have HVC := Lib.hid (HV.out.mono hbele (Nat.le_refl _))
    clear hbc hDe hfe0 hfe1 hbele y0 y1 y2 y3 y3' hbx0
    obtain ⟨y0, y1, y2, y3⟩ := hbe1
    go_wp2_with fail
    go_loop [10] (fun x => ∃ i : Nat, E ≤ i ∧ i ≤ pz ∧ x = .int .i64 i) (fun x => S - (intOf x).toNat)
    case atStart => exact ⟨E, Nat.le_refl _, hpz1, rfl⟩
    case round =>
      obtain ⟨i, hi1, hi2, rfl⟩ := hrel
      have hiS : i < S := by omega
      by_cases hlt : i < pz
      · obtain ⟨b, o, hix, hcell⟩ := indexAt_B (P := Try.prog) HVC.out (by rw [HN.out]; exact hnl) 22 5 Try.underlying22 Try.sizeU8 i (by rw [HN.out]; omega)
        rw [HPZ.out i hi1 hlt] at hcell
        have hcell' : wc.cell? ⟨b, o, none⟩ = some (.int .u8 0) := hcell
        clear hcell
        go_wp2
        go_round
        case rel => exact ⟨i + 1, by omega, by omega, by go_num⟩
        case measure => simp [intOf]; omega
      · obtain rfl : i = pz := by omega
        obtain ⟨b, o, hix, hcell⟩ := indexAt_B (P := Try.prog) HVC.out (by rw [HN.out]; exact hnl) 22 5 Try.underlying22 Try.sizeU8 i (by rw [HN.out]; omega)
        have hnz := HPN.out
        obtain ⟨y, hy⟩ : ∃ y, y = l.getD i 0 := ⟨_, rfl⟩
        rw [← hy] at hcell hnz
        have hyb : ((y.toNat : Int) != 0) = true := by
          rw [bne_iff_ne]
          intro h0
          exact hnz (UInt8.toNat_inj.1 (by simp; omega))
        clear hnz hy
        go_wp2
        exact bodyPost_ret (v := .tuple #[nzero, .int .i64 0, .int .i64 4]) (by simp [results, Try.results26, go_sem, z0, z1, z2, z3]) rfl ⟨rfl, got_bel HBE.out⟩

set_option maxRecDepth 100000 in
set_option maxHeartbeats 4000000 in
theorem refget_okO (v : Value) (l : List UInt8) (w : World) (hv : IsB w v l) (hl : l.length ≤ 1099511627776) (h : 32 ≤ l.length) (hfo : formedB l = true) (ht : total l ≤ l.length) (hsu : sumOkN l = true) (hzp : zeroB (padOf l) = true) :
    Calls Try.prog 26 #[v] w fun e w' => ∃ v', e = .returned (.tuple #[nval (getN l) v', .int .i64 (total l : Nat), .int .i64 0]) ∧ w'.ownsRow w.heap.size 5 1 v' (dataOf l).length (bvs (dataOf l)) ∧ Below w.heap.size w w' := by
  obtain ⟨i0, hi, hz0, hz1, hz2⟩ := info_parts Try.infoU8
  obtain ⟨n, hn⟩ : ∃ n : Nat, l.length = n := ⟨_, rfl⟩
  have hlen := fun W => len_B (P := Try.prog) hv hn 22 3 5 Try.underlying22 W
  have HN := Lib.hid hn
  have HV := Lib.hid hv
  have hn32 : 32 ≤ n := by omega
  have hnl : n ≤ 1099511627776 := by omega
  obtain ⟨s4, r4, i4⟩ := slice_lh_B (P := Try.prog) hv 22 5 Try.underlying22 Try.sizeU8 4 8 (by decide) (by omega)
  have q4 : ∀ W, (Instr.slice 22 v (some (.int .i64 4)) (some (.int .i64 8)) none).run Try.prog W = .ok s4 W := r4
  have I4 := Lib.hid (show IsB w s4 ((l.drop 4).take 4) from i4)
  obtain ⟨s20, r20, i20⟩ := slice_lh_B (P := Try.prog) hv 22 5 Try.underlying22 Try.sizeU8 20 24 (by decide) (by omega)
  have q20 : ∀ W, (Instr.slice 22 v (some (.int .i64 20)) (some (.int .i64 24)) none).run Try.prog W = .ok s20 W := r20
  have I20 := Lib.hid (show IsB w s20 ((l.drop 20).take 4) from i20)
  obtain ⟨s28, r28, i28⟩ := slice_lh_B (P := Try.prog) hv 22 5 Try.underlying22 Try.sizeU8 28 32 (by decide) (by omega)
  have q28 : ∀ W, (Instr.slice 22 v (some (.int .i64 28)) (some (.int .i64 32)) none).run Try.prog W = .ok s28 W := r28
  have I28 := Lib.hid (show IsB w s28 ((l.drop 28).take 4) from i28)
  obtain ⟨s8, r8, i8⟩ := slice_lh_B (P := Try.prog) hv 22 5 Try.underlying22 Try.sizeU8 8 16 (by decide) (by omega)
  have q8 : ∀ W, (Instr.slice 22 v (some (.int .i64 8)) (some (.int .i64 16)) none).run Try.prog W = .ok s8 W := r8
  have I8 := Lib.hid (show IsB w s8 ((l.drop 8).take 8) from i8)
  obtain ⟨s16, r16, i16⟩ := slice_lh_B (P := Try.prog) hv 22 5 Try.underlying22 Try.sizeU8 16 20 (by decide) (by omega)
  have q16 : ∀ W, (Instr.slice 22 v (some (.int .i64 16)) (some (.int .i64 20)) none).run Try.prog W = .ok s16 W := r16
  have I16 := Lib.hid (show IsB w s16 ((l.drop 16).take 4) from i16)
  obtain ⟨s24, r24, i24⟩ := slice_lh_B (P := Try.prog) hv 22 5 Try.underlying22 Try.sizeU8 24 28 (by decide) (by omega)
  have q24 : ∀ W, (Instr.slice 22 v (some (.int .i64 24)) (some (.int .i64 28)) none).run Try.prog W = .ok s24 W := r24
  have I24 := Lib.hid (show IsB w s24 ((l.drop 24).take 4) from i24)
  obtain ⟨s0, r0, i0⟩ := slice_h_B (P := Try.prog) hv 22 5 Try.underlying22 Try.sizeU8 4 (by omega)
  have q0 : ∀ W, (Instr.slice 22 v none (some (.int .i64 4)) none).run Try.prog W = .ok s0 W := r0
  obtain ⟨sA, rA, iA⟩ := slice_h_B (P := Try.prog) hv 22 5 Try.underlying22 Try.sizeU8 24 (by omega)
  have qA : ∀ W, (Instr.slice 22 v none (some (.int .i64 24)) none).run Try.prog W = .ok sA W := rA
  have I0 := Lib.hid (show IsB w s0 ((l.drop 0).take 4) from i0)
  have IA := Lib.hid iA
  have G4 := Lib.hid (show IsB (rworld w).drew s4 ((l.drop 4).take 4) from isB_rw I4.out)
  have G20 := Lib.hid (show IsB (rworld w).drew s20 ((l.drop 20).take 4) from isB_rw I20.out)
  have G0 := Lib.hid (show IsB (rworld w).drew s0 ((l.drop 0).take 4) from isB_rw I0.out)
  have G28 := Lib.hid (show IsB (rworld w).drew s28 ((l.drop 28).take 4) from isB_rw I28.out)
  clear r4 r20 r28 r8 r16 r24 r0 rA i4 i20 i28 i8 i16 i24 i0 iA
  have hf4 := fld4_lt l 4
  have hd4 := fld4_lt l 20
  have hm4 := fld4_lt l 0
  have hz4 := fld4_lt l 28
  have hR : formedB l = decide (fld l 0 4 = 1313162572 ∧ fld l 4 4 ≤ 1 ∧ fld l 28 4 = 0 ∧ fld l 20 4 ≤ 4096 ∧ (fld l 4 4 = 1 → fld l 20 4 = 0)) := rfl
  obtain ⟨m, hm⟩ : ∃ m : Nat, m = fld l 0 4 := ⟨_, rfl⟩
  obtain ⟨f, hf⟩ : ∃ f : Nat, f = fld l 4 4 := ⟨_, rfl⟩
  obtain ⟨d, hd⟩ : ∃ d : Nat, d = fld l 20 4 := ⟨_, rfl⟩
  obtain ⟨z, hz⟩ : ∃ z : Nat, z = fld l 28 4 := ⟨_, rfl⟩
  rw [← hm] at hm4 hR
  rw [← hf] at hf4 hR
  rw [← hd] at hd4 hR
  rw [← hz] at hz4 hR
  have HM := Lib.hid hm
  have HF := Lib.hid hf
  have HD := Lib.hid hd
  have HZ := Lib.hid hz
  rw [hR] at hfo
  obtain ⟨m1, f1, z1, d1, hfd⟩ := of_decide_eq_true hfo
  have mb : ((m : Int) != 1313162572) = false := by rw [bne_eq_false_iff_eq]; omega
  have zb : ((z : Int) != 0) = false := by rw [bne_eq_false_iff_eq]; omega
  have HFD := Lib.hid hfd
  obtain ⟨p, hp⟩ : ∃ p, p = padn d := ⟨_, rfl⟩
  have hp8 := padn_lt d
  rw [← hp] at hp8
  obtain ⟨E, hE⟩ : ∃ E : Nat, E = 32 + d := ⟨_, rfl⟩
  obtain ⟨S, hS⟩ : ∃ S : Nat, S = 32 + d + p := ⟨_, rfl⟩
  have HT := Lib.hid (show total l = S from by rw [hS, hp, hd]; rfl)
  have hEi : (32 : Int) + (d : Int) = (E : Int) := by omega
  have hES : (E : Int) + (p : Int) = (S : Int) := by omega
  have hE1 : 32 ≤ E := by omega
  have hE2 : E ≤ S := by omega
  have hS2 : S ≤ 5000 := by omega
  have HPad := Lib.hid (show pad (E : Int) = (p : Int) from by rw [pad_padn, hp, hE]; congr 1; unfold padn; omega)
  obtain ⟨k, hk⟩ : ∃ k : Nat, k = fld l 8 8 := ⟨_, rfl⟩
  obtain ⟨c, hc⟩ : ∃ c : Nat, c = fld l 16 4 := ⟨_, rfl⟩
  have hc4 : c < 4294967296 := by rw [hc]; exact fld4_lt l 16
  have hwc : IntKind.u32.wrap (c : Int) = (c : Int) := IntWalk.u32_in _ (by omega)
  have HK := Lib.hid hk
  have HC := Lib.hid hc
  obtain ⟨g, hg⟩ : ∃ g : Bool, g = decide (f = 1) := ⟨_, rfl⟩
  have hgb : ((f : Int) == 1) = g := by rw [hg, Bool.eq_iff_iff]; simp; omega
  have HG := Lib.hid hg
  have hdl : dlen l = d := hd.symm
  have G8 := Lib.hid (show IsB (rworld w).drew.drew s8 ((l.drop 8).take 8) from isB_rw I8.out)
  have G8' := Lib.hid (show IsB (rworld2 w).drew.drew s8 ((l.drop 8).take 8) from isB_rw2 I8.out)
  have G16 := Lib.hid (show IsB (rworld w).drew.drew s16 ((l.drop 16).take 4) from isB_rw I16.out)
  have G16' := Lib.hid (show IsB (rworld2 w).drew.drew s16 ((l.drop 16).take 4) from isB_rw2 I16.out)
  have ht' : S ≤ n := by have := HT.out; omega
  obtain ⟨s32, r32, i32⟩ := slice_lh_B (P := Try.prog) hv 22 5 Try.underlying22 Try.sizeU8 32 E hE1 (by omega)
  have q32 : ∀ W, (Instr.slice 22 v (some (.int .i64 32)) (some (.int .i64 (E : Int))) none).run Try.prog W = .ok s32 W := r32
  have hED : E - 32 = d := by omega
  rw [hED] at i32
  obtain ⟨D, hD⟩ : ∃ D : List UInt8, D = (l.drop 32).take d := ⟨_, rfl⟩
  rw [← hD] at i32
  have HDl := Lib.hid (show D.length = d from by rw [hD, List.length_take, List.length_drop]; omega)
  have HDa := Lib.hid (show dataOf l = D from by rw [hD, hd]; rfl)
  obtain ⟨s1, h1⟩ : ∃ s : Nat, s = crc (l.take 24 ++ D) := ⟨_, rfl⟩
  obtain ⟨s2, h2⟩ : ∃ s : Nat, s = fld l 24 4 := ⟨_, rfl⟩
  have hs1 : s1 < 4294967296 := by rw [h1]; exact crc_lt _
  have hw1 : IntKind.u64.wrap (s1 : Int) = (s1 : Int) := by rw [IntKind.wrap_u64]; omega
  have H1 := Lib.hid h1
  have H2 := Lib.hid h2
  have hso : sumOkN l = decide (s1 = s2) := by unfold sumOkN; rw [HDa.out, h1, h2]
  have HSO := Lib.hid hso
  have hsb : ((s2 : Int) != (s1 : Int)) = false := by rw [hsu] at hso; have := of_decide_eq_true hso.symm; rw [bne_eq_false_iff_eq]; omega
  have hpt := HT.out
  have hED2 : 32 + dlen l = E := by rw [hdl]; omega
  have HPZ := Lib.hid (show ∀ i, E ≤ i → i < S → l.getD i 0 = 0 from fun i h1 h2 => pad_zero ht hzp i (by omega) (by omega))
  have HRes := Lib.hid (show ∀ v', nval (getN l) v' = .agg #[.int .u64 (k : Int), .int .u32 (c : Int), .bool g, v'] from fun v' => by rw [hk, hc, hg, hf]; rfl)
  clear hsu hzp hpt hED2
  have hRB : (rbox w k c g (.slice none 0 0)).drew.drew.drew.heap.size = w.heap.size + 2 := (rbox_facts w k c g (.slice none 0 0)).2.2.2.2
  have hRBle := Lib.hid (show w.heap.size + 2 ≤ (rbox w k c g (.slice none 0 0)).drew.drew.drew.heap.size from by omega)
  have J32 := Lib.hid (show IsB (rbox w k c g (.slice none 0 0)).drew.drew.drew s32 D from i32.mono (((rbox_below w k c g (.slice none 0 0)).drew).drew).drew (Nat.le_refl _))
  have hDb := Lib.hid (show ([] : List UInt8).length + D.length ≤ 1099511627776 from by rw [HDl.out]; simp; omega)
  have k3 : (rbox w k c g (.slice none 0 0)).drew.drew.cell? ⟨w.heap.size + 1, 3, none⟩ = some (.slice none 0 0) := (rbox_facts w k c g (.slice none 0 0)).1.2.2.2
  have K3 := Lib.hid k3
  have hnS : decide (n < S) = false := decide_eq_false (by omega)
  have hAl := Lib.hid (show (l.take 24).length = 24 from by rw [List.length_take]; omega)
  clear hRB r32 i32 hED hD h1 h2 hso k3 ht
  have HDL := Lib.hid hdl
  clear hm hf hd hz hn h hl hR hfo m1 z1 hfd hp hp8 hE hS hk hc hc4 hg hdl hv
  go_enter Try.func26, Try.ntmps26
  go_wp2_with fail
  go_region_held3 (fun _ => True) (trivial) (first
    | (go_at_call 24; with_reducible refine (refnumber_fld s4 l 4 4 _ G4.out k48).mono ?_; rintro e w' ⟨rfl, rfl⟩; rw [← HF.out])
    | (go_at_call 24; with_reducible refine (refnumber_fld s20 l 20 4 _ G20.out k48).mono ?_; rintro e w' ⟨rfl, rfl⟩; rw [← HD.out]))
  go_upto_region 4 with fail
  have hgbH := Lib.hid hgb
  clear hgb
  go_cut [46] from 21 to 46 (fun q wx => q = .bool false ∧ wx = (rworld w).drew)
  case first =>
    by_cases f3 : f = 1
    · have fb : ((f : Int) == 1) = true := by rw [beq_iff_eq]; omega
      have d3 : d ≤ 0 := by rw [HFD.out f3]; exact Nat.le_refl _
      clear f3
      go_wp2_with fail
      refine (refnumber_fld s0 l 0 4 _ G0.out k48).mono ?_
      rintro e w' ⟨rfl, rfl⟩
      rw [← HM.out]
      go_wp2_with fail
      refine (refnumber_fld s28 l 28 4 _ G28.out k48).mono ?_
      rintro e w' ⟨rfl, rfl⟩
      rw [← HZ.out]
      go_wp2_with fail
      go_meet
      refine ⟨congrArg Value.bool ?_, rfl⟩
      simp
      omega
    · have fb : ((f : Int) == 1) = false := by rw [beq_eq_false_iff_ne]; omega
      clear f3
      go_wp2_with fail
      refine (refnumber_fld s0 l 0 4 _ G0.out k48).mono ?_
      rintro e w' ⟨rfl, rfl⟩
      rw [← HM.out]
      go_wp2_with fail
      refine (refnumber_fld s28 l 28 4 _ G28.out k48).mono ?_
      rintro e w' ⟨rfl, rfl⟩
      rw [← HZ.out]
      go_wp2_with fail
      go_meet
      refine ⟨congrArg Value.bool ?_, rfl⟩
      simp
      omega
  case rest =>
    obtain ⟨rfl, rfl⟩ := hcut
    go_upto_region 6 with fail
    go_cut [7] from 48 to 57 (fun q wx => q = .pointer (some ⟨w.heap.size + 1, 0, none⟩) ∧ wx = (rbox w k c g (.slice none 0 0)).drew.drew)
    case first =>
      have hgb := hgbH.out
      go_wp2_with fail
      go_region_held3 (fun _ => True) (trivial) (first
        | (go_at_call 24; (with_reducible refine (refnumber_fld s8 l 8 8 _ ?_ k88).mono ?_); (first | with_reducible exact G8.out | with_reducible exact G8'.out); rintro e w' ⟨rfl, rfl⟩; rw [← HK.out])
        | (go_at_call 24; (with_reducible refine (refnumber_fld s16 l 16 4 _ ?_ k48).mono ?_); (first | with_reducible exact G16.out | with_reducible exact G16'.out); rintro e w' ⟨rfl, rfl⟩; rw [← HC.out]))
      all_goals (go_wp2_with fail; go_meet)
      all_goals exact ⟨rfl, rfl⟩
    case rest =>
    obtain ⟨rfl, rfl⟩ := hcut
    go_wp2_with fail
    refine (refpad_any (E : Int) _ (by omega) (by omega)).mono ?_
    rintro e w' ⟨rfl, rfl⟩
    rw [HPad.out]
    go_upto_region 11 with fail
    go_cut [75] from 70 to 76 (fun _q wx => RGot w D d k c g wx)
    case first =>
      have k3 := K3.out
      go_wp2_with fail
      go_region_law (first
        | (refine step_append_B (by rfl) (.tmp 71) (.tmp 74) 22 rfl (w.heap.size + 2) 5 i0 Try.underlying22 hi hz0 hz1 hz2 (.slice none 0 0) [] 0 rfl (World.ownsRow_nil _ _ _ _) rfl s32 D rfl J32.out hDb.out hRBle.out ?_; intro vd wd hownd hbd; obtain ⟨xd, cd, rfl, hownd2⟩ := appd HDl.out hownd; obtain ⟨y0, y1, y2, c3a, f3a⟩ := rbox_at hbd))
      all_goals (go_wp2_with fail; go_meet)
      all_goals exact rgot_set hownd2 ((((Below.refl (w.heap.size + 2) (rbox w k c g (.slice none 0 0))).drew).drew).drew.trans hbd)
    case rest =>
    obtain ⟨wd, rfl⟩ : ∃ wd, wd = wc := ⟨_, rfl⟩
    have HRG := Lib.hid hcut
    obtain ⟨xd, cd, hbx1, hD0, hbx0, hfr0, hfr1, hbel0, hsz0⟩ := hcut
    have HD0 := Lib.hid (IsB.own hD0 HDl.out.symm)
    have HB0 := Lib.hid hbel0
    clear hD0 hbel0 hfr0 hfr1 hnS
    obtain ⟨y0, y1, y2, y3⟩ := hbx1
    have y3' : (wd.alloc (.cells #[] 5)).cell? ⟨w.heap.size + 1, 3, none⟩ = some (.slice xd d cd) := (((Below.refl wd.heap.size wd).alloc (Nat.le_refl _) (.cells #[] 5)).cell (p := ⟨w.heap.size + 1, 3, none⟩) hsz0).trans y3
    have N0 := Lib.hid (show IsB wd.drew s24 ((l.drop 24).take 4) from I24.out.mono HB0.out.drew (Nat.le_refl _))
    have N1 := Lib.hid (show IsB (wd.alloc (.cells #[] 5)).drew s24 ((l.drop 24).take 4) from (I24.out.mono HB0.out (Nat.le_refl _)).mono (((Below.refl wd.heap.size wd).alloc (Nat.le_refl _) (.cells #[] 5))).drew (Nat.le_refl _))
    have NA := Lib.hid (show IsB (wd.alloc (.cells #[] 5)).drew sA (l.take 24) from (IA.out.mono HB0.out (Nat.le_refl _)).mono (((Below.refl wd.heap.size wd).alloc (Nat.le_refl _) (.cells #[] 5))).drew (Nat.le_refl _))
    have hA1 := Lib.hid (show ([] : List UInt8).length + (l.take 24).length ≤ 1099511627776 from by rw [hAl.out]; decide)
    have hA2 := Lib.hid (show (l.take 24).length + D.length ≤ 1099511627776 from by rw [hAl.out, HDl.out]; omega)
    have hA3 := Lib.hid (show (l.take 24 ++ D).length ≤ 1099511627776 from by rw [List.length_append]; exact hA2.out)
    have y3H := Lib.hid y3
    go_upto_region 12 with fail
    go_cut [89] from 77 to 89 (fun q wx => q = .bool false ∧ Below wd.heap.size wd wx)
    case first =>
      go_wp2_with fail
      go_region_held3 (fun wx => wx.cell? ⟨w.heap.size + 1, 3, none⟩ = some (.slice xd d cd)) (first | exact y3 | exact y3' | exact c3a | exact c3b) (first
        | (refine step_append_B (by rfl) (.tmp 80) (.tmp 82) 22 rfl wd.heap.size 5 i0 Try.underlying22 hi hz0 hz1 hz2 _ [] 0 rfl (World.ownsRow_lit _ #[] 0 (Nat.le_refl _) (Nat.zero_le _) rfl) rfl sA (l.take 24) rfl NA.out hA1.out (by simp) ?_; intro va wa howna hba; have hsa := Nat.le_trans (show wd.heap.size ≤ (wd.alloc (.cells #[] 5)).drew.heap.size from by simp) hba.size; have c3a := (hba.cell (p := ⟨w.heap.size + 1, 3, none⟩) hsz0).trans y3'; have hbva := (((Below.refl wd.heap.size wd).alloc (Nat.le_refl _) (.cells #[] 5)).drew).trans hba; have HDa2 := HD0.out.mono hbva (Nat.le_refl _); have N2 := Lib.hid ((I24.out.mono HB0.out (Nat.le_refl _)).mono hbva (Nat.le_refl _)))
        | (refine step_append_B (by rfl) (.tmp 83) (.tmp 85) 22 rfl wd.heap.size 5 i0 Try.underlying22 hi hz0 hz1 hz2 _ (l.take 24) (l.take 24).length rfl howna rfl _ D rfl HDa2 hA2.out hsa ?_; intro vb wb hownb hbb; have c3b := (hbb.cell (p := ⟨w.heap.size + 1, 3, none⟩) hsz0).trans c3a; have hbvb := hbva.trans hbb; have e1 := IsB.own (l := l.take 24 ++ D) hownb (by simp); have N3 := Lib.hid ((I24.out.mono HB0.out (Nat.le_refl _)).mono hbvb (Nat.le_refl _)))
        | (go_at_call 25; with_reducible refine (refof_any _ (l.take 24 ++ D) _ e1 hA3.out).mono ?_; rintro e w' ⟨rfl, rfl⟩; rw [← H1.out])
        | (go_at_call 24; (with_reducible refine (refnumber_fld s24 l 24 4 _ ?_ k48).mono ?_); (first | with_reducible exact N0.out | with_reducible exact N1.out | with_reducible exact N2.out | with_reducible exact N3.out); rintro e w' ⟨rfl, rfl⟩; rw [← H2.out]))
      all_goals (go_wp2_with fail; go_meet)
      all_goals exact ⟨rfl, hbvb⟩
    case rest =>
    obtain ⟨rfl, hbc⟩ := hcut
    obtain ⟨xe, ce, hbe1, hDe, hbe0, hfe0, hfe1, hbele, hsze⟩ := HRG.out.mono hbc (Nat.le_refl _)
    have HBE := Lib.hid hbele
    have HDE := Lib.hid hDe
    obtain ⟨z0, z1, z2, z3⟩ := hbe0
    have hf0 := hfe0 0
    have hf1 := hfe0 1
    have hf2 := hfe0 2
    have hf3 := hfe0 3
    have HVC := Lib.hid (HV.out.mono hbele (Nat.le_refl _))
    clear hbc hDe hfe0 hfe1 hbele y0 y1 y2 y3 y3' hbx0
    obtain ⟨y0, y1, y2, y3⟩ := hbe1
    go_wp2_with fail
    go_loop [10] (fun q => ∃ i : Nat, E ≤ i ∧ i ≤ S ∧ q = .int .i64 i) (fun q => S - (intOf q).toNat)
    case atStart => exact ⟨E, Nat.le_refl _, hE2, rfl⟩
    case round =>
      obtain ⟨i, hi1, hi2, rfl⟩ := hrel
      by_cases hlt : i < S
      · obtain ⟨b, o, hix, hcell⟩ := indexAt_B (P := Try.prog) HVC.out (by rw [HN.out]; exact hnl) 22 5 Try.underlying22 Try.sizeU8 i (by rw [HN.out]; omega)
        rw [HPZ.out i hi1 hlt] at hcell
        have hcell' : wc.cell? ⟨b, o, none⟩ = some (.int .u8 0) := hcell
        clear hcell
        go_wp2
        go_round
        case rel => exact ⟨i + 1, by omega, by omega, by go_num⟩
        case measure => simp [intOf]; omega
      · obtain rfl : i = S := by omega
        go_wp2
        refine bodyPost_ret (v := .tuple #[.agg #[.int .u64 (k : Int), .int .u32 (c : Int), .bool g, .slice xe d ce], .int .i64 (i : Int), .int .i64 0]) (by simp [results, Try.results26, go_sem, z0, z1, z2, z3]) rfl ⟨_, by rw [HRes.out, HT.out], ?_, got_bel HBE.out⟩
        rw [HDa.out, HDl.out]
        exact got_fin (ownsRow_base HDE.out (Nat.le_succ _))

theorem refget_ok (v : Value) (l : List UInt8) (w : World) (hv : IsB w v l) (hl : l.length ≤ 1099511627776) (h : 32 ≤ l.length) (hfo : formedB l = true) (ht : total l ≤ l.length) (hsu : sumOkN l = true) (hzp : zeroB (padOf l) = true) :
    Calls Try.prog 26 #[v] w fun e w' => ∃ v', e = .returned (.tuple #[nval (getN l) v', .int .i64 (total l : Nat), .int .i64 0]) ∧ IsB w' v' (dataOf l) ∧ Below w.heap.size w w' :=
  (refget_okO v l w hv hl h hfo ht hsu hzp).mono fun e w' ⟨v', he, ho, hb⟩ => ⟨v', he, IsB.own ho rfl, hb⟩

end Go.Proofs.Ytallmcminlnnaaa
