/- The document's answers for layer 3, by contracts: the needle of bytes, where the head may be. -/
import Derived.Test.YtallmcminlnnaaaRef03b
set_option linter.unusedVariables false
set_option linter.unusedSimpArgs false
namespace Go.Proofs.Ytallmcminlnnaaa
open Go.RowKit Go.Cor

/-- The world behind the needle's own block. -/
abbrev rbox (w : World) (k c : Nat) (g : Bool) (v : Value) : World := (rworld w).alloc (.cells #[.int .u64 (k : Int), .int .u32 (c : Int), .bool g, v] 34)
abbrev rworld2 (w : World) : World := (rworld w).alloc (.cells #[.int .u64 0, .int .u32 0, .bool false, .slice none 0 0] 34)
theorem isB_rw2 {w : World} {v : Value} {l : List UInt8} (h : IsB w v l) : IsB (rworld2 w) v l := (isB_rw h).mono ((Below.refl _ _).alloc (Nat.le_refl _) _) (Nat.le_refl _)
theorem rbox_below (w : World) (k c : Nat) (g : Bool) (v : Value) : Below w.heap.size w (rbox w k c g v) := (rworld_below w).alloc (by simp) _

set_option maxRecDepth 100000 in
set_option maxHeartbeats 4000000 in
theorem refget_bad3 (v : Value) (l : List UInt8) (w : World) (hv : IsB w v l) (hl : l.length ≤ 1099511627776) (h : 32 ≤ l.length) (hfo : formedB l = true) (ht : l.length < total l) :
    Calls Try.prog 26 #[v] w fun e w' => e = .returned (.tuple #[nzero, .int .i64 0, .int .i64 3]) ∧ Below w.heap.size w w' := by
  obtain ⟨n, hn⟩ : ∃ n : Nat, l.length = n := ⟨_, rfl⟩
  have hlen := fun W => len_B (P := Try.prog) hv hn 22 3 5 Try.underlying22 W
  have HN := Lib.hid hn
  have HV := Lib.hid hv
  have hn32 : 32 ≤ n := by omega
  have hnl : n ≤ 1099511627776 := by omega
  obtain ⟨s4, r4, i4⟩ := slice_lh_B (P := Try.prog) hv 22 5 Try.underlying22 Try.sizeU8 4 8 (by decide) (by omega)
  have q4 : ∀ W, (Instr.slice 22 v (some (.int .i64 4)) (some (.int .i64 8)) none).run Try.prog W = .ok s4 W := r4
  have I4 := Lib.hid (show IsB w s4 ((l.drop 4).take 4) from i4)
  obtain ⟨s20, r20, i20⟩ := slice_lh_B (P := Try.prog) hv 22 5 Try.underlying22 Try.sizeU8 20 24 (by decide) (by omega)
  have q20 : ∀ W, (Instr.slice 22 v (some (.int .i64 20)) (some (.int .i64 24)) none).run Try.prog W = .ok s20 W := r20
  have I20 := Lib.hid (show IsB w s20 ((l.drop 20).take 4) from i20)
  obtain ⟨s28, r28, i28⟩ := slice_lh_B (P := Try.prog) hv 22 5 Try.underlying22 Try.sizeU8 28 32 (by decide) (by omega)
  have q28 : ∀ W, (Instr.slice 22 v (some (.int .i64 28)) (some (.int .i64 32)) none).run Try.prog W = .ok s28 W := r28
  have I28 := Lib.hid (show IsB w s28 ((l.drop 28).take 4) from i28)
  obtain ⟨s8, r8, i8⟩ := slice_lh_B (P := Try.prog) hv 22 5 Try.underlying22 Try.sizeU8 8 16 (by decide) (by omega)
  have q8 : ∀ W, (Instr.slice 22 v (some (.int .i64 8)) (some (.int .i64 16)) none).run Try.prog W = .ok s8 W := r8
  have I8 := Lib.hid (show IsB w s8 ((l.drop 8).take 8) from i8)
  obtain ⟨s16, r16, i16⟩ := slice_lh_B (P := Try.prog) hv 22 5 Try.underlying22 Try.sizeU8 16 20 (by decide) (by omega)
  have q16 : ∀ W, (Instr.slice 22 v (some (.int .i64 16)) (some (.int .i64 20)) none).run Try.prog W = .ok s16 W := r16
  have I16 := Lib.hid (show IsB w s16 ((l.drop 16).take 4) from i16)
  obtain ⟨s24, r24, i24⟩ := slice_lh_B (P := Try.prog) hv 22 5 Try.underlying22 Try.sizeU8 24 28 (by decide) (by omega)
  have q24 : ∀ W, (Instr.slice 22 v (some (.int .i64 24)) (some (.int .i64 28)) none).run Try.prog W = .ok s24 W := r24
  have I24 := Lib.hid (show IsB w s24 ((l.drop 24).take 4) from i24)
  obtain ⟨s0, r0, i0⟩ := slice_h_B (P := Try.prog) hv 22 5 Try.underlying22 Try.sizeU8 4 (by omega)
  have q0 : ∀ W, (Instr.slice 22 v none (some (.int .i64 4)) none).run Try.prog W = .ok s0 W := r0
  obtain ⟨sA, rA, iA⟩ := slice_h_B (P := Try.prog) hv 22 5 Try.underlying22 Try.sizeU8 24 (by omega)
  have qA : ∀ W, (Instr.slice 22 v none (some (.int .i64 24)) none).run Try.prog W = .ok sA W := rA
  have I0 := Lib.hid (show IsB w s0 ((l.drop 0).take 4) from i0)
  have IA := Lib.hid iA
  have G4 := Lib.hid (show IsB (rworld w).drew s4 ((l.drop 4).take 4) from isB_rw I4.out)
  have G20 := Lib.hid (show IsB (rworld w).drew s20 ((l.drop 20).take 4) from isB_rw I20.out)
  have G0 := Lib.hid (show IsB (rworld w).drew s0 ((l.drop 0).take 4) from isB_rw I0.out)
  have G28 := Lib.hid (show IsB (rworld w).drew s28 ((l.drop 28).take 4) from isB_rw I28.out)
  clear r4 r20 r28 r8 r16 r24 r0 rA i4 i20 i28 i8 i16 i24 i0 iA
  have hf4 := fld4_lt l 4
  have hd4 := fld4_lt l 20
  have hm4 := fld4_lt l 0
  have hz4 := fld4_lt l 28
  have hR : formedB l = decide (fld l 0 4 = 1313162572 ∧ fld l 4 4 ≤ 1 ∧ fld l 28 4 = 0 ∧ fld l 20 4 ≤ 4096 ∧ (fld l 4 4 = 1 → fld l 20 4 = 0)) := rfl
  obtain ⟨m, hm⟩ : ∃ m : Nat, m = fld l 0 4 := ⟨_, rfl⟩
  obtain ⟨f, hf⟩ : ∃ f : Nat, f = fld l 4 4 := ⟨_, rfl⟩
  obtain ⟨d, hd⟩ : ∃ d : Nat, d = fld l 20 4 := ⟨_, rfl⟩
  obtain ⟨z, hz⟩ : ∃ z : Nat, z = fld l 28 4 := ⟨_, rfl⟩
  rw [← hm] at hm4 hR
  rw [← hf] at hf4 hR
  rw [← hd] at hd4 hR
  rw [← hz] at hz4 hR
  have HM := Lib.hid hm
  have HF := Lib.hid hf
  have HD := Lib.hid hd
  have HZ := Lib.hid hz
  rw [hR] at hfo
  obtain ⟨m1, f1, z1, d1, hfd⟩ := of_decide_eq_true hfo
  have mb : ((m : Int) != 1313162572) = false := by rw [bne_eq_false_iff_eq]; omega
  have zb : ((z : Int) != 0) = false := by rw [bne_eq_false_iff_eq]; omega
  have HFD := Lib.hid hfd
  obtain ⟨p, hp⟩ : ∃ p, p = padn d := ⟨_, rfl⟩
  have hp8 := padn_lt d
  rw [← hp] at hp8
  obtain ⟨E, hE⟩ : ∃ E : Nat, E = 32 + d := ⟨_, rfl⟩
  obtain ⟨S, hS⟩ : ∃ S : Nat, S = 32 + d + p := ⟨_, rfl⟩
  have HT := Lib.hid (show total l = S from by rw [hS, hp, hd]; rfl)
  have hEi : (32 : Int) + (d : Int) = (E : Int) := by omega
  have hES : (E : Int) + (p : Int) = (S : Int) := by omega
  have hE1 : 32 ≤ E := by omega
  have hE2 : E ≤ S := by omega
  have hS2 : S ≤ 5000 := by omega
  have HPad := Lib.hid (show pad (E : Int) = (p : Int) from by rw [pad_padn, hp, hE]; congr 1; unfold padn; omega)
  obtain ⟨k, hk⟩ : ∃ k : Nat, k = fld l 8 8 := ⟨_, rfl⟩
  obtain ⟨c, hc⟩ : ∃ c : Nat, c = fld l 16 4 := ⟨_, rfl⟩
  have hc4 : c < 4294967296 := by rw [hc]; exact fld4_lt l 16
  have hwc : IntKind.u32.wrap (c : Int) = (c : Int) := IntWalk.u32_in _ (by omega)
  have HK := Lib.hid hk
  have HC := Lib.hid hc
  obtain ⟨g, hg⟩ : ∃ g : Bool, g = decide (f = 1) := ⟨_, rfl⟩
  have hgb : ((f : Int) == 1) = g := by rw [hg, Bool.eq_iff_iff]; simp; omega
  have HG := Lib.hid hg
  have hdl : dlen l = d := hd.symm
  have G8 := Lib.hid (show IsB (rworld w).drew.drew s8 ((l.drop 8).take 8) from isB_rw I8.out)
  have G8' := Lib.hid (show IsB (rworld2 w).drew.drew s8 ((l.drop 8).take 8) from isB_rw2 I8.out)
  have G16 := Lib.hid (show IsB (rworld w).drew.drew s16 ((l.drop 16).take 4) from isB_rw I16.out)
  have G16' := Lib.hid (show IsB (rworld2 w).drew.drew s16 ((l.drop 16).take 4) from isB_rw2 I16.out)
  have ht' : n < S := by have := HT.out; omega
  clear ht
  have HDL := Lib.hid hdl
  clear hm hf hd hz hn h hl hR hfo m1 z1 hfd hp hp8 hE hS hk hc hc4 hg hdl hv
  go_enter Try.func26, Try.ntmps26
  go_wp2_with fail
  go_region_held3 (fun _ => True) (trivial) (first
    | (go_at_call 24; with_reducible refine (refnumber_fld s4 l 4 4 _ G4.out k48).mono ?_; rintro e w' ⟨rfl, rfl⟩; rw [← HF.out])
    | (go_at_call 24; with_reducible refine (refnumber_fld s20 l 20 4 _ G20.out k48).mono ?_; rintro e w' ⟨rfl, rfl⟩; rw [← HD.out]))
  go_upto_region 4 with fail
  have hgbH := Lib.hid hgb
  clear hgb
  go_cut [46] from 21 to 46 (fun q wx => q = .bool false ∧ wx = (rworld w).drew)
  case first =>
    by_cases f3 : f = 1
    · have fb : ((f : Int) == 1) = true := by rw [beq_iff_eq]; omega
      have d3 : d ≤ 0 := by rw [HFD.out f3]; exact Nat.le_refl _
      clear f3
      go_wp2_with fail
      refine (refnumber_fld s0 l 0 4 _ G0.out k48).mono ?_
      rintro e w' ⟨rfl, rfl⟩
      rw [← HM.out]
      go_wp2_with fail
      refine (refnumber_fld s28 l 28 4 _ G28.out k48).mono ?_
      rintro e w' ⟨rfl, rfl⟩
      rw [← HZ.out]
      go_wp2_with fail
      go_meet
      refine ⟨congrArg Value.bool ?_, rfl⟩
      simp
      omega
    · have fb : ((f : Int) == 1) = false := by rw [beq_eq_false_iff_ne]; omega
      clear f3
      go_wp2_with fail
      refine (refnumber_fld s0 l 0 4 _ G0.out k48).mono ?_
      rintro e w' ⟨rfl, rfl⟩
      rw [← HM.out]
      go_wp2_with fail
      refine (refnumber_fld s28 l 28 4 _ G28.out k48).mono ?_
      rintro e w' ⟨rfl, rfl⟩
      rw [← HZ.out]
      go_wp2_with fail
      go_meet
      refine ⟨congrArg Value.bool ?_, rfl⟩
      simp
      omega
  case rest =>
    obtain ⟨rfl, rfl⟩ := hcut
    go_upto_region 6 with fail
    go_cut [7] from 48 to 57 (fun q wx => q = .pointer (some ⟨w.heap.size + 1, 0, none⟩) ∧ wx = (rbox w k c g (.slice none 0 0)).drew.drew)
    case first =>
      have hgb := hgbH.out
      go_wp2_with fail
      go_region_held3 (fun _ => True) (trivial) (first
        | (go_at_call 24; (with_reducible refine (refnumber_fld s8 l 8 8 _ ?_ k88).mono ?_); (first | with_reducible exact G8.out | with_reducible exact G8'.out); rintro e w' ⟨rfl, rfl⟩; rw [← HK.out])
        | (go_at_call 24; (with_reducible refine (refnumber_fld s16 l 16 4 _ ?_ k48).mono ?_); (first | with_reducible exact G16.out | with_reducible exact G16'.out); rintro e w' ⟨rfl, rfl⟩; rw [← HC.out]))
      all_goals (go_wp2_with fail; go_meet)
      all_goals exact ⟨rfl, rfl⟩
    case rest =>
    obtain ⟨rfl, rfl⟩ := hcut
    go_wp2_with fail
    refine (refpad_any (E : Int) _ (by omega) (by omega)).mono ?_
    rintro e w' ⟨rfl, rfl⟩
    rw [HPad.out]
    go_wp2
    exact bodyPost_ret (v := .tuple #[nzero, .int .i64 0, .int .i64 3]) (by simp [results, Try.results26, go_sem]) rfl ⟨rfl, (rbox_below w k c g (.slice none 0 0)).drew.drew⟩

end Go.Proofs.Ytallmcminlnnaaa
