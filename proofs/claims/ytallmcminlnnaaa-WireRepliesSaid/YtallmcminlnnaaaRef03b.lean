/- The document's answers for layer 3, by contracts: the needle of bytes. -/
import Derived.Test.YtallmcminlnnaaaRef03
import Derived.Deep.CutRange
set_option linter.unusedVariables false
set_option linter.unusedSimpArgs false
namespace Go.Proofs.Ytallmcminlnnaaa
open Go.RowKit Go.Cor

abbrev rworld (w : World) : World := w.alloc (.cells #[.int .u64 0, .int .u32 0, .bool false, .slice none 0 0] 34)
theorem rworld_below (w : World) : Below w.heap.size w (rworld w) := (Below.refl _ _).alloc (Nat.le_refl _) _
theorem isB_rw {w : World} {v : Value} {l : List UInt8} (h : IsB w v l) : IsB (rworld w) v l := h.mono (rworld_below w) (Nat.le_refl _)
theorem indexAt_B {P : Program} {w : World} {v : Value} {l : List UInt8} (hv : IsB w v l) (_hl : l.length ≤ 1099511627776) (T U : TypeId) (ht : P.underlying T = some (.slice U)) (hs : (P.info? U).map (·.size) = some 1) (i : Nat) (hi : i < l.length) :
    ∃ b o, (∀ W, (Instr.indexAt T v (.int .i64 (i : Int))).run P W = .ok (.pointer (some ⟨b, o, none⟩)) W) ∧ w.cell? ⟨b, o, none⟩ = some (bv (l.getD i 0)) := by
  obtain ⟨j, hj1, hj2⟩ := Option.map_eq_some_iff.1 hs
  obtain ⟨a, cap, rfl, k1, k2, k0, k3⟩ := hv
  rcases k3 with k3 | ⟨b, off, rfl, hc⟩
  · omega
  refine ⟨b, off + i, fun W => ?_, hc i hi⟩
  have ht' : P.underlying T = some (.slice (P.elem T)) := by simp [Program.elem, ht]
  have he : P.elem T = U := by simp [Program.elem, ht]
  have hsz : ∀ W, (sizeOf U).run P W = .ok 1 W := fun W => by simp [sizeOf, typeInfo, hj1, hj2]
  have h0 : (0 : Int) ≤ (i : Int) := by omega
  have h1 : (i : Int) < (l.length : Int) := by omega
  go_simp

theorem refget_bad1 (v : Value) (l : List UInt8) (w : World) (hv : IsB w v l) (h : l.length < 32) :
    Calls Try.prog 26 #[v] w fun e w' => e = .returned (.tuple #[nzero, .int .i64 0, .int .i64 3]) ∧ Below w.heap.size w w' := by
  obtain ⟨x, cap, rfl, hlc, hcm⟩ := hv.at_len rfl
  clear hv
  go_enter Try.func26, Try.ntmps26
  go_wp2
  exact bodyPost_ret (v := .tuple #[nzero, .int .i64 0, .int .i64 3]) (by simp [results, Try.results26, go_sem]) rfl ⟨rfl, (Below.refl _ _).alloc (Nat.le_refl _) _⟩

theorem refnumber_fld (v : Value) (l : List UInt8) (a k : Nat) (w : World) (hv : IsB w v ((l.drop a).take k)) (hk : k ≤ 8) :
    Calls Try.prog 24 #[v] w fun e w' => e = .returned (.int .u64 (fld l a k : Nat)) ∧ w = w' := number_any v _ w hv (by rw [List.length_take]; omega)
theorem k48 : 4 ≤ 8 := by decide
theorem k88 : 8 ≤ 8 := by decide

set_option maxRecDepth 100000 in
set_option maxHeartbeats 4000000 in
theorem refget_bad2 (v : Value) (l : List UInt8) (w : World) (hv : IsB w v l) (hl : l.length ≤ 1099511627776) (h : 32 ≤ l.length) (hfo : formedB l = false) :
    Calls Try.prog 26 #[v] w fun e w' => e = .returned (.tuple #[nzero, .int .i64 0, .int .i64 4]) ∧ Below w.heap.size w w' := by
  obtain ⟨n, hn⟩ : ∃ n : Nat, l.length = n := ⟨_, rfl⟩
  have hlen := fun W => len_B (P := Try.prog) hv hn 22 3 5 Try.underlying22 W
  have HN := Lib.hid hn
  have HV := Lib.hid hv
  have hn32 : 32 ≤ n := by omega
  have hnl : n ≤ 1099511627776 := by omega
  obtain ⟨s4, r4, i4⟩ := slice_lh_B (P := Try.prog) hv 22 5 Try.underlying22 Try.sizeU8 4 8 (by decide) (by omega)
  have q4 : ∀ W, (Instr.slice 22 v (some (.int .i64 4)) (some (.int .i64 8)) none).run Try.prog W = .ok s4 W := r4
  have I4 := Lib.hid (show IsB w s4 ((l.drop 4).take 4) from i4)
  obtain ⟨s20, r20, i20⟩ := slice_lh_B (P := Try.prog) hv 22 5 Try.underlying22 Try.sizeU8 20 24 (by decide) (by omega)
  have q20 : ∀ W, (Instr.slice 22 v (some (.int .i64 20)) (some (.int .i64 24)) none).run Try.prog W = .ok s20 W := r20
  have I20 := Lib.hid (show IsB w s20 ((l.drop 20).take 4) from i20)
  obtain ⟨s28, r28, i28⟩ := slice_lh_B (P := Try.prog) hv 22 5 Try.underlying22 Try.sizeU8 28 32 (by decide) (by omega)
  have q28 : ∀ W, (Instr.slice 22 v (some (.int .i64 28)) (some (.int .i64 32)) none).run Try.prog W = .ok s28 W := r28
  have I28 := Lib.hid (show IsB w s28 ((l.drop 28).take 4) from i28)
  obtain ⟨s8, r8, i8⟩ := slice_lh_B (P := Try.prog) hv 22 5 Try.underlying22 Try.sizeU8 8 16 (by decide) (by omega)
  have q8 : ∀ W, (Instr.slice 22 v (some (.int .i64 8)) (some (.int .i64 16)) none).run Try.prog W = .ok s8 W := r8
  have I8 := Lib.hid (show IsB w s8 ((l.drop 8).take 8) from i8)
  obtain ⟨s16, r16, i16⟩ := slice_lh_B (P := Try.prog) hv 22 5 Try.underlying22 Try.sizeU8 16 20 (by decide) (by omega)
  have q16 : ∀ W, (Instr.slice 22 v (some (.int .i64 16)) (some (.int .i64 20)) none).run Try.prog W = .ok s16 W := r16
  have I16 := Lib.hid (show IsB w s16 ((l.drop 16).take 4) from i16)
  obtain ⟨s24, r24, i24⟩ := slice_lh_B (P := Try.prog) hv 22 5 Try.underlying22 Try.sizeU8 24 28 (by decide) (by omega)
  have q24 : ∀ W, (Instr.slice 22 v (some (.int .i64 24)) (some (.int .i64 28)) none).run Try.prog W = .ok s24 W := r24
  have I24 := Lib.hid (show IsB w s24 ((l.drop 24).take 4) from i24)
  obtain ⟨s0, r0, i0⟩ := slice_h_B (P := Try.prog) hv 22 5 Try.underlying22 Try.sizeU8 4 (by omega)
  have q0 : ∀ W, (Instr.slice 22 v none (some (.int .i64 4)) none).run Try.prog W = .ok s0 W := r0
  obtain ⟨sA, rA, iA⟩ := slice_h_B (P := Try.prog) hv 22 5 Try.underlying22 Try.sizeU8 24 (by omega)
  have qA : ∀ W, (Instr.slice 22 v none (some (.int .i64 24)) none).run Try.prog W = .ok sA W := rA
  have I0 := Lib.hid (show IsB w s0 ((l.drop 0).take 4) from i0)
  have IA := Lib.hid iA
  have G4 := Lib.hid (show IsB (rworld w).drew s4 ((l.drop 4).take 4) from isB_rw I4.out)
  have G20 := Lib.hid (show IsB (rworld w).drew s20 ((l.drop 20).take 4) from isB_rw I20.out)
  have G0 := Lib.hid (show IsB (rworld w).drew s0 ((l.drop 0).take 4) from isB_rw I0.out)
  have G28 := Lib.hid (show IsB (rworld w).drew s28 ((l.drop 28).take 4) from isB_rw I28.out)
  clear r4 r20 r28 r8 r16 r24 r0 rA i4 i20 i28 i8 i16 i24 i0 iA
  have hf4 := fld4_lt l 4
  have hd4 := fld4_lt l 20
  have hm4 := fld4_lt l 0
  have hz4 := fld4_lt l 28
  have hR : formedB l = decide (fld l 0 4 = 1313162572 ∧ fld l 4 4 ≤ 1 ∧ fld l 28 4 = 0 ∧ fld l 20 4 ≤ 4096 ∧ (fld l 4 4 = 1 → fld l 20 4 = 0)) := rfl
  obtain ⟨m, hm⟩ : ∃ m : Nat, m = fld l 0 4 := ⟨_, rfl⟩
  obtain ⟨f, hf⟩ : ∃ f : Nat, f = fld l 4 4 := ⟨_, rfl⟩
  obtain ⟨d, hd⟩ : ∃ d : Nat, d = fld l 20 4 := ⟨_, rfl⟩
  obtain ⟨z, hz⟩ : ∃ z : Nat, z = fld l 28 4 := ⟨_, rfl⟩
  rw [← hm] at hm4 hR
  rw [← hf] at hf4 hR
  rw [← hd] at hd4 hR
  rw [← hz] at hz4 hR
  have HM := Lib.hid hm
  have HF := Lib.hid hf
  have HD := Lib.hid hd
  have HZ := Lib.hid hz
  rw [hR] at hfo
  have hno := of_decide_eq_false hfo
  clear hm hf hd hz hn hv h hl hR hfo I4 I20 I28 I8 I16 I24 I0 IA
  by_cases m1 : m = 1313162572
  · have mb : ((m : Int) != 1313162572) = false := by rw [bne_eq_false_iff_eq]; omega
    by_cases f1 : f ≤ 1
    · by_cases z1 : z = 0
      · have zb : ((z : Int) != 0) = false := by rw [bne_eq_false_iff_eq]; omega
        by_cases d1 : d ≤ 4096
        · have hfd : f = 1 ∧ d ≠ 0 := by
            refine ⟨?_, fun h0 => hno ⟨m1, f1, z1, d1, fun _ => h0⟩⟩
            apply Classical.byContradiction
            intro hf1
            exact hno ⟨m1, f1, z1, d1, fun h1 => absurd h1 hf1⟩
          have fb : ((f : Int) == 1) = true := by rw [beq_iff_eq]; omega
          have d3 : 0 < d := by omega
          clear hno m1 z1 hfd
          go_enter Try.func26, Try.ntmps26
          go_wp2_with fail
          go_region_held3 (fun _ => True) (trivial) (first
            | (go_at_call 24; with_reducible refine (refnumber_fld s4 l 4 4 _ G4.out k48).mono ?_; rintro e w' ⟨rfl, rfl⟩; rw [← HF.out])
            | (go_at_call 24; with_reducible refine (refnumber_fld s20 l 20 4 _ G20.out k48).mono ?_; rintro e w' ⟨rfl, rfl⟩; rw [← HD.out]))
          go_wp2_with fail
          refine (refnumber_fld s0 l 0 4 _ G0.out k48).mono ?_
          rintro e w' ⟨rfl, rfl⟩
          rw [← HM.out]
          go_wp2_with fail
          refine (refnumber_fld s28 l 28 4 _ G28.out k48).mono ?_
          rintro e w' ⟨rfl, rfl⟩
          rw [← HZ.out]
          go_wp2
          exact bodyPost_ret (v := .tuple #[nzero, .int .i64 0, .int .i64 4]) (by simp [results, Try.results26, go_sem]) rfl ⟨rfl, (rworld_below w).drew⟩
        · have d2 : 4096 < d := by omega
          clear hno m1 z1 d1
          go_enter Try.func26, Try.ntmps26
          go_wp2_with fail
          go_region_held3 (fun _ => True) (trivial) (first
            | (go_at_call 24; with_reducible refine (refnumber_fld s4 l 4 4 _ G4.out k48).mono ?_; rintro e w' ⟨rfl, rfl⟩; rw [← HF.out])
            | (go_at_call 24; with_reducible refine (refnumber_fld s20 l 20 4 _ G20.out k48).mono ?_; rintro e w' ⟨rfl, rfl⟩; rw [← HD.out]))
          go_wp2_with fail
          refine (refnumber_fld s0 l 0 4 _ G0.out k48).mono ?_
          rintro e w' ⟨rfl, rfl⟩
          rw [← HM.out]
          go_wp2_with fail
          refine (refnumber_fld s28 l 28 4 _ G28.out k48).mono ?_
          rintro e w' ⟨rfl, rfl⟩
          rw [← HZ.out]
          go_wp2
          exact bodyPost_ret (v := .tuple #[nzero, .int .i64 0, .int .i64 4]) (by simp [results, Try.results26, go_sem]) rfl ⟨rfl, (rworld_below w).drew⟩
      · have zb : ((z : Int) != 0) = true := by rw [bne_iff_ne]; omega
        clear hno m1 z1
        go_enter Try.func26, Try.ntmps26
        go_wp2_with fail
        go_region_held3 (fun _ => True) (trivial) (first
          | (go_at_call 24; with_reducible refine (refnumber_fld s4 l 4 4 _ G4.out k48).mono ?_; rintro e w' ⟨rfl, rfl⟩; rw [← HF.out])
          | (go_at_call 24; with_reducible refine (refnumber_fld s20 l 20 4 _ G20.out k48).mono ?_; rintro e w' ⟨rfl, rfl⟩; rw [← HD.out]))
        go_wp2_with fail
        refine (refnumber_fld s0 l 0 4 _ G0.out k48).mono ?_
        rintro e w' ⟨rfl, rfl⟩
        rw [← HM.out]
        go_wp2_with fail
        refine (refnumber_fld s28 l 28 4 _ G28.out k48).mono ?_
        rintro e w' ⟨rfl, rfl⟩
        rw [← HZ.out]
        go_wp2
        exact bodyPost_ret (v := .tuple #[nzero, .int .i64 0, .int .i64 4]) (by simp [results, Try.results26, go_sem]) rfl ⟨rfl, (rworld_below w).drew⟩
    · have f2 : 1 < f := by omega
      clear hno m1 f1
      go_enter Try.func26, Try.ntmps26
      go_wp2_with fail
      go_region_held3 (fun _ => True) (trivial) (first
        | (go_at_call 24; with_reducible refine (refnumber_fld s4 l 4 4 _ G4.out k48).mono ?_; rintro e w' ⟨rfl, rfl⟩; rw [← HF.out])
        | (go_at_call 24; with_reducible refine (refnumber_fld s20 l 20 4 _ G20.out k48).mono ?_; rintro e w' ⟨rfl, rfl⟩; rw [← HD.out]))
      go_wp2_with fail
      refine (refnumber_fld s0 l 0 4 _ G0.out k48).mono ?_
      rintro e w' ⟨rfl, rfl⟩
      rw [← HM.out]
      go_wp2
      exact bodyPost_ret (v := .tuple #[nzero, .int .i64 0, .int .i64 4]) (by simp [results, Try.results26, go_sem]) rfl ⟨rfl, (rworld_below w).drew⟩
  · have mb : ((m : Int) != 1313162572) = true := by rw [bne_iff_ne]; omega
    clear hno m1
    go_enter Try.func26, Try.ntmps26
    go_wp2_with fail
    go_region_held3 (fun _ => True) (trivial) (first
      | (go_at_call 24; with_reducible refine (refnumber_fld s4 l 4 4 _ G4.out k48).mono ?_; rintro e w' ⟨rfl, rfl⟩; rw [← HF.out])
      | (go_at_call 24; with_reducible refine (refnumber_fld s20 l 20 4 _ G20.out k48).mono ?_; rintro e w' ⟨rfl, rfl⟩; rw [← HD.out]))
    go_wp2_with fail
    refine (refnumber_fld s0 l 0 4 _ G0.out k48).mono ?_
    rintro e w' ⟨rfl, rfl⟩
    rw [← HM.out]
    go_wp2
    exact bodyPost_ret (v := .tuple #[nzero, .int .i64 0, .int .i64 4]) (by simp [results, Try.results26, go_sem]) rfl ⟨rfl, (rworld_below w).drew⟩

end Go.Proofs.Ytallmcminlnnaaa
