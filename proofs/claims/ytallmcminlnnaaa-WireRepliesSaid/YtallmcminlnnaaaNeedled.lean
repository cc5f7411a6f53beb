/- Package needle by contracts: Get. -/
import Derived.Test.YtallmcminlnnaaaNeedlec
import Derived.Outline
set_option linter.unusedVariables false
set_option linter.unusedSimpArgs false
namespace Go.Proofs.Ytallmcminlnnaaa
open Go.RowKit Go.Cor

/-- No needle. -/
abbrev nzero : Value := .agg #[.int .u64 0, .int .u32 0, .bool false, .slice none 0 0]

theorem get_bad1 (v : Value) (l : List UInt8) (w : World) (hv : IsB w v l) (h : l.length < 32) :
    Calls Try.prog 37 #[v] w fun e w' => e = .returned (.tuple #[nzero, .int .i64 0, err 3]) ∧ Below w.heap.size w w' := by
  obtain ⟨x, cap, rfl, hlc, hcm⟩ := hv.at_len rfl
  clear hv
  go_enter Try.func37, Try.ntmps37
  go_wp2
  exact bodyPost_ret (v := .tuple #[nzero, .int .i64 0, err 3]) (by simp [results, Try.results37, go_sem]) rfl ⟨rfl, (Below.refl _ _).alloc (Nat.le_refl _) _⟩

theorem get_bad2 (v : Value) (l : List UInt8) (w : World) (hv : IsB w v l) (hl : l.length ≤ 1099511627776) (h : 32 ≤ l.length) (hf : formedB l = false) :
    Calls Try.prog 37 #[v] w fun e w' => e = .returned (.tuple #[nzero, .int .i64 0, err 4]) ∧ Below w.heap.size w w' := by
  obtain ⟨n, hn⟩ : ∃ n : Nat, l.length = n := ⟨_, rfl⟩
  have HV := Lib.hid hv
  obtain ⟨x, cap, rfl, hlc, hcm⟩ := hv.at_len hn
  rw [hn] at h hl
  have HN := Lib.hid hn
  have HF := Lib.hid hf
  clear hv hn hf
  go_enter Try.func37, Try.ntmps37
  go_wp2_with fail
  refine (formed_any _ l _ (HV.out.mono ((Below.refl _ _).alloc (Nat.le_refl _) _) (Nat.le_refl _)) (by rw [HN.out]; omega) (by rw [HN.out]; omega)).mono ?_
  rintro e w' ⟨rfl, rfl⟩
  rw [HF.out]
  go_wp2
  exact bodyPost_ret (v := .tuple #[nzero, .int .i64 0, err 4]) (by simp [results, Try.results37, go_sem]) rfl ⟨rfl, (Below.refl _ _).alloc (Nat.le_refl _) _⟩

set_option maxHeartbeats 1000000 in
theorem get_bad3 (v : Value) (l : List UInt8) (w : World) (hv : IsB w v l) (hl : l.length ≤ 1099511627776) (h : 32 ≤ l.length) (hf : formedB l = true) (ht : l.length < total l) :
    Calls Try.prog 37 #[v] w fun e w' => e = .returned (.tuple #[nzero, .int .i64 0, err 3]) ∧ Below w.heap.size w w' := by
  obtain ⟨n, hn⟩ : ∃ n : Nat, l.length = n := ⟨_, rfl⟩
  have HV := Lib.hid hv
  obtain ⟨x, cap, rfl, hlc, hcm⟩ := hv.at_len hn
  rw [hn] at h hl ht
  have HN := Lib.hid hn
  have HF := Lib.hid hf
  have hd := formed_len hf
  have hz := nsize_nat hd
  unfold total at ht
  obtain ⟨d, hdd⟩ : ∃ d : Nat, d = dlen l := ⟨_, rfl⟩
  rw [← hdd] at hd hz ht
  obtain ⟨S, hS⟩ : ∃ S : Nat, S = 32 + d + padn d := ⟨_, rfl⟩
  rw [← hS] at hz ht
  have hp8 := padn_lt d
  have hS2 : S ≤ 5000 := by omega
  have HZ := Lib.hid hz
  have HD := Lib.hid (show d = fld l 20 4 from hdd)
  clear hv hn hf hdd hz hS hp8
  go_enter Try.func37, Try.ntmps37
  go_wp2_with fail
  refine (formed_any _ l _ (HV.out.mono ((Below.refl _ _).alloc (Nat.le_refl _) _) (Nat.le_refl _)) (by rw [HN.out]; omega) (by rw [HN.out]; omega)).mono ?_
  rintro e w' ⟨rfl, rfl⟩
  rw [HF.out]
  go_wp2_with fail
  refine (at_any _ l 20 4 _ (.inr (.inr (.inl rfl))) (HV.out.mono ((Below.refl _ _).alloc (Nat.le_refl _) _) (Nat.le_refl _)) (by rw [HN.out]; omega) (by rw [HN.out]; omega)).mono ?_
  rintro e w' ⟨rfl, rfl⟩
  rw [← HD.out]
  go_wp2_with fail
  refine (size_any (d : Int) _ (by omega) (by omega)).mono ?_
  rintro e w' ⟨rfl, rfl⟩
  rw [HZ.out]
  go_wp2
  exact bodyPost_ret (v := .tuple #[nzero, .int .i64 0, err 3]) (by simp [results, Try.results37, go_sem]) rfl ⟨rfl, (Below.refl _ _).alloc (Nat.le_refl _) _⟩

/-- The world behind Get's first step. -/
abbrev gworld (w : World) : World := w.alloc (.cells #[.int .u64 0, .int .u32 0, .bool false, .slice none 0 0] 27)
theorem gworld_below (w : World) : Below w.heap.size w (gworld w) := (Below.refl _ _).alloc (Nat.le_refl _) _
theorem isB_gw {w : World} {v : Value} {l : List UInt8} (h : IsB w v l) : IsB (gworld w) v l := h.mono (gworld_below w) (Nat.le_refl _)

set_option maxHeartbeats 1000000 in
theorem get_bad4 (v : Value) (l : List UInt8) (w : World) (hv : IsB w v l) (hl : l.length ≤ 1099511627776) (h : 32 ≤ l.length) (hf : formedB l = true) (ht : total l ≤ l.length) (hs : sumOkN l = false) :
    Calls Try.prog 37 #[v] w fun e w' => e = .returned (.tuple #[nzero, .int .i64 0, err 5]) ∧ Below w.heap.size w w' := by
  obtain ⟨n, hn⟩ : ∃ n : Nat, l.length = n := ⟨_, rfl⟩
  have HV := Lib.hid hv
  have hlen := fun W => len_B (P := Try.prog) hv hn 22 3 5 Try.underlying22 W
  rw [hn] at h hl ht
  have HN := Lib.hid hn
  have HF := Lib.hid hf
  have hd := formed_len hf
  have hz := nsize_nat hd
  unfold total at ht
  unfold sumOkN at hs
  have hs := of_decide_eq_false hs
  unfold dataOf at hs
  obtain ⟨d, hdd⟩ : ∃ d : Nat, d = dlen l := ⟨_, rfl⟩
  rw [← hdd] at hd hz ht hs
  obtain ⟨S, hS⟩ : ∃ S : Nat, S = 32 + d + padn d := ⟨_, rfl⟩
  rw [← hS] at hz ht
  have hp8 := padn_lt d
  have hS2 : S ≤ 5000 := by omega
  have hS3 : 32 + d ≤ S := by omega
  have HZ := Lib.hid hz
  have HD := Lib.hid (show d = fld l 20 4 from hdd)
  obtain ⟨s1, h1⟩ : ∃ s : Nat, s = crc (l.take 24 ++ (l.drop 32).take d) := ⟨_, rfl⟩
  obtain ⟨s2, h2⟩ : ∃ s : Nat, s = fld l 24 4 := ⟨_, rfl⟩
  have hs1 : s1 < 4294967296 := by rw [h1]; exact crc_lt _
  have hsb : ((s1 : Int) != (s2 : Int)) = true := by rw [bne_iff_ne]; omega
  have H1 := Lib.hid h1
  have H2 := Lib.hid h2
  obtain ⟨E, hE⟩ : ∃ E : Nat, E = 32 + d := ⟨_, rfl⟩
  have hEi : (32 : Int) + (d : Int) = (E : Int) := by omega
  have hE1 : 32 ≤ E := by omega
  have hE2 : E ≤ S := by omega
  obtain ⟨sA, rA, iA⟩ := slice_h_B (P := Try.prog) hv 22 5 Try.underlying22 Try.sizeU8 24 (by omega)
  obtain ⟨sD, rD, iD⟩ := slice_lh_B (P := Try.prog) hv 22 5 Try.underlying22 Try.sizeU8 32 E hE1 (by omega)
  have rA' : ∀ W, (Instr.slice 22 v none (some (.int .i64 24)) none).run Try.prog W = .ok sA W := rA
  have rD' : ∀ W, (Instr.slice 22 v (some (.int .i64 32)) (some (.int .i64 (E : Int))) none).run Try.prog W = .ok sD W := rD
  rw [show E - 32 = d from by omega] at iD
  have HAd := Lib.hid (show IsB (gworld w).drew sA (l.take 24) from isB_gw iA)
  have HDd := Lib.hid (show IsB (gworld w).drew sD ((l.drop 32).take d) from isB_gw iD)
  have HVd := Lib.hid (show IsB (gworld w).drew v l from isB_gw hv)
  have hl1 := Lib.hid (show (l.take 24).length ≤ 1099511627776 from by rw [List.length_take]; omega)
  have hl2 := Lib.hid (show ((l.drop 32).take d).length ≤ 1099511627776 from by rw [List.length_take]; omega)
  have hl3 := Lib.hid (show l.length ≤ 1099511627776 from by omega)
  have hl4 := Lib.hid (show 32 ≤ l.length from by omega)
  have hw1 : IntKind.u64.wrap (s1 : Int) = (s1 : Int) := by rw [IntKind.wrap_u64]; omega
  clear hv hn hf hdd hz hS hp8 hs h1 h2 hE hS3 rA rD iA iD
  go_enter Try.func37, Try.ntmps37
  go_wp2_with fail
  refine (formed_any _ l _ (isB_gw HV.out) (by rw [HN.out]; omega) (by rw [HN.out]; omega)).mono ?_
  rintro e w' ⟨rfl, rfl⟩
  rw [HF.out]
  go_wp2_with fail
  refine (at_any _ l 20 4 _ (.inr (.inr (.inl rfl))) (isB_gw HV.out) (by rw [HN.out]; omega) (by rw [HN.out]; omega)).mono ?_
  rintro e w' ⟨rfl, rfl⟩
  rw [← HD.out]
  go_wp2_with fail
  refine (size_any (d : Int) _ (by omega) (by omega)).mono ?_
  rintro e w' ⟨rfl, rfl⟩
  rw [HZ.out]
  go_wp2_with fail
  go_region_held3 (fun _ => True) (trivial) (first
    | (go_at_call 47; with_reducible refine (sumOf_any sA sD (l.take 24) ((l.drop 32).take d) _ HAd.out HDd.out hl1.out hl2.out).mono ?_; rintro e w' ⟨rfl, rfl⟩; rw [← H1.out])
    | (go_at_call 54; with_reducible refine (at_24_4 v l _ HVd.out hl3.out hl4.out).mono ?_; rintro e w' ⟨rfl, rfl⟩; rw [← H2.out]))
  go_wp2
  exact bodyPost_ret (v := .tuple #[nzero, .int .i64 0, err 5]) (by simp [results, Try.results37, go_sem]) rfl ⟨rfl, (gworld_below w).drew⟩

set_option maxHeartbeats 1000000 in
theorem get_bad5 (v : Value) (l : List UInt8) (w : World) (hv : IsB w v l) (hl : l.length ≤ 1099511627776) (h : 32 ≤ l.length) (hf : formedB l = true) (ht : total l ≤ l.length) (hs : sumOkN l = true) (hzp : zeroB (padOf l) = false) :
    Calls Try.prog 37 #[v] w fun e w' => e = .returned (.tuple #[nzero, .int .i64 0, err 4]) ∧ Below w.heap.size w w' := by
  obtain ⟨n, hn⟩ : ∃ n : Nat, l.length = n := ⟨_, rfl⟩
  have HV := Lib.hid hv
  have hlen := fun W => len_B (P := Try.prog) hv hn 22 3 5 Try.underlying22 W
  rw [hn] at h hl ht
  have HN := Lib.hid hn
  have HF := Lib.hid hf
  have hd := formed_len hf
  have hz := nsize_nat hd
  unfold total at ht
  unfold sumOkN at hs
  have hs := of_decide_eq_true hs
  unfold dataOf at hs
  obtain ⟨d, hdd⟩ : ∃ d : Nat, d = dlen l := ⟨_, rfl⟩
  rw [← hdd] at hd hz ht hs
  obtain ⟨S, hS⟩ : ∃ S : Nat, S = 32 + d + padn d := ⟨_, rfl⟩
  rw [← hS] at hz ht
  have hp8 := padn_lt d
  have hS2 : S ≤ 5000 := by omega
  have hS3 : 32 + d ≤ S := by omega
  have HZ := Lib.hid hz
  have HD := Lib.hid (show d = fld l 20 4 from hdd)
  obtain ⟨s1, h1⟩ : ∃ s : Nat, s = crc (l.take 24 ++ (l.drop 32).take d) := ⟨_, rfl⟩
  obtain ⟨s2, h2⟩ : ∃ s : Nat, s = fld l 24 4 := ⟨_, rfl⟩
  have hs1 : s1 < 4294967296 := by rw [h1]; exact crc_lt _
  have hsb : ((s1 : Int) != (s2 : Int)) = false := by rw [bne_eq_false_iff_eq]; omega
  have H1 := Lib.hid h1
  have H2 := Lib.hid h2
  obtain ⟨E, hE⟩ : ∃ E : Nat, E = 32 + d := ⟨_, rfl⟩
  have hEi : (32 : Int) + (d : Int) = (E : Int) := by omega
  have hE1 : 32 ≤ E := by omega
  have hE2 : E ≤ S := by omega
  obtain ⟨sA, rA, iA⟩ := slice_h_B (P := Try.prog) hv 22 5 Try.underlying22 Try.sizeU8 24 (by omega)
  obtain ⟨sD, rD, iD⟩ := slice_lh_B (P := Try.prog) hv 22 5 Try.underlying22 Try.sizeU8 32 E hE1 (by omega)
  have rA' : ∀ W, (Instr.slice 22 v none (some (.int .i64 24)) none).run Try.prog W = .ok sA W := rA
  have rD' : ∀ W, (Instr.slice 22 v (some (.int .i64 32)) (some (.int .i64 (E : Int))) none).run Try.prog W = .ok sD W := rD
  rw [show E - 32 = d from by omega] at iD
  have HAd := Lib.hid (show IsB (gworld w).drew sA (l.take 24) from isB_gw iA)
  have HDd := Lib.hid (show IsB (gworld w).drew sD ((l.drop 32).take d) from isB_gw iD)
  have HVd := Lib.hid (show IsB (gworld w).drew v l from isB_gw hv)
  obtain ⟨sP, rP, iP⟩ := slice_lh_B (P := Try.prog) hv 22 5 Try.underlying22 Try.sizeU8 E S hE2 (by omega)
  have hpe : (l.drop E).take (S - E) = padOf l := by unfold padOf; rw [← hdd, hE, hS]; congr 1; omega
  rw [hpe] at iP
  have HPd := Lib.hid (show IsB (gworld w).drew sP (padOf l) from isB_gw iP)
  have hl5 := Lib.hid (show (padOf l).length ≤ 1099511627776 from by unfold padOf; rw [List.length_take]; have := padn_lt (dlen l); omega)
  have HZP := Lib.hid hzp
  clear iP hpe hzp
  have hl1 := Lib.hid (show (l.take 24).length ≤ 1099511627776 from by rw [List.length_take]; omega)
  have hl2 := Lib.hid (show ((l.drop 32).take d).length ≤ 1099511627776 from by rw [List.length_take]; omega)
  have hl3 := Lib.hid (show l.length ≤ 1099511627776 from by omega)
  have hl4 := Lib.hid (show 32 ≤ l.length from by omega)
  have hw1 : IntKind.u64.wrap (s1 : Int) = (s1 : Int) := by rw [IntKind.wrap_u64]; omega
  clear hv hn hf hdd hz hS hp8 hs h1 h2 hE hS3 rA rD iA iD
  go_enter Try.func37, Try.ntmps37
  go_wp2_with fail
  refine (formed_any _ l _ (isB_gw HV.out) (by rw [HN.out]; omega) (by rw [HN.out]; omega)).mono ?_
  rintro e w' ⟨rfl, rfl⟩
  rw [HF.out]
  go_wp2_with fail
  refine (at_any _ l 20 4 _ (.inr (.inr (.inl rfl))) (isB_gw HV.out) (by rw [HN.out]; omega) (by rw [HN.out]; omega)).mono ?_
  rintro e w' ⟨rfl, rfl⟩
  rw [← HD.out]
  go_wp2_with fail
  refine (size_any (d : Int) _ (by omega) (by omega)).mono ?_
  rintro e w' ⟨rfl, rfl⟩
  rw [HZ.out]
  go_wp2_with fail
  go_region_held3 (fun _ => True) (trivial) (first
    | (go_at_call 47; with_reducible refine (sumOf_any sA sD (l.take 24) ((l.drop 32).take d) _ HAd.out HDd.out hl1.out hl2.out).mono ?_; rintro e w' ⟨rfl, rfl⟩; rw [← H1.out])
    | (go_at_call 54; with_reducible refine (at_24_4 v l _ HVd.out hl3.out hl4.out).mono ?_; rintro e w' ⟨rfl, rfl⟩; rw [← H2.out]))
  go_wp2_with fail
  refine (zero_anyB _ _ _ HPd.out hl5.out).mono ?_
  rintro e w' ⟨rfl, rfl⟩
  rw [HZP.out]
  go_wp2
  exact bodyPost_ret (v := .tuple #[nzero, .int .i64 0, err 4]) (by simp [results, Try.results37, go_sem]) rfl ⟨rfl, (gworld_below w).drew⟩

end Go.Proofs.Ytallmcminlnnaaa
