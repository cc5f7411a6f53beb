/- The document's Read of a message (layer 14) by contracts: where the sum is right. -/
import Derived.Test.YtallmcminlnnaaaRef14d
import Derived.Test.YtallmcminlnnaaaBlk
set_option linter.unusedVariables false
set_option linter.unusedSimpArgs false
namespace Go.Proofs.Ytallmcminlnnaaa
open Go.RowKit Go.Cor

def set12 (w : World) (B : Nat) (u0 u1 u2 u3 u4 u5 u6 u7 u8 u9 u10 u11 : Value) : World := ((((((((((((w.setCell ⟨B, 0, none⟩ u0).setCell ⟨B, 1, none⟩ u1).setCell ⟨B, 2, none⟩ u2).setCell ⟨B, 3, none⟩ u3).setCell ⟨B, 4, none⟩ u4).setCell ⟨B, 5, none⟩ u5).setCell ⟨B, 6, none⟩ u6).setCell ⟨B, 7, none⟩ u7).setCell ⟨B, 8, none⟩ u8).setCell ⟨B, 9, none⟩ u9).setCell ⟨B, 10, none⟩ u10).setCell ⟨B, 11, none⟩ u11)
theorem fin12 {w0 w : World} {B : Nat} {a0 a1 a2 a3 a4 a5 a6 a7 a8 a9 a10 a11 : Value} {T : TypeId} (h : Blk w B #[a0, a1, a2, a3, a4, a5, a6, a7, a8, a9, a10, a11] T) (hb : Below w0.heap.size w0 w) (hB : w0.heap.size ≤ B) (u0 u1 u2 u3 u4 u5 u6 u7 u8 u9 u10 u11 : Value) :
    (set12 w B u0 u1 u2 u3 u4 u5 u6 u7 u8 u9 u10 u11).cell? ⟨B, 0, none⟩ = some u0 ∧ (set12 w B u0 u1 u2 u3 u4 u5 u6 u7 u8 u9 u10 u11).cell? ⟨B, 1, none⟩ = some u1 ∧ (set12 w B u0 u1 u2 u3 u4 u5 u6 u7 u8 u9 u10 u11).cell? ⟨B, 2, none⟩ = some u2 ∧ (set12 w B u0 u1 u2 u3 u4 u5 u6 u7 u8 u9 u10 u11).cell? ⟨B, 3, none⟩ = some u3 ∧ (set12 w B u0 u1 u2 u3 u4 u5 u6 u7 u8 u9 u10 u11).cell? ⟨B, 4, none⟩ = some u4 ∧ (set12 w B u0 u1 u2 u3 u4 u5 u6 u7 u8 u9 u10 u11).cell? ⟨B, 5, none⟩ = some u5 ∧ (set12 w B u0 u1 u2 u3 u4 u5 u6 u7 u8 u9 u10 u11).cell? ⟨B, 6, none⟩ = some u6 ∧ (set12 w B u0 u1 u2 u3 u4 u5 u6 u7 u8 u9 u10 u11).cell? ⟨B, 7, none⟩ = some u7 ∧ (set12 w B u0 u1 u2 u3 u4 u5 u6 u7 u8 u9 u10 u11).cell? ⟨B, 8, none⟩ = some u8 ∧ (set12 w B u0 u1 u2 u3 u4 u5 u6 u7 u8 u9 u10 u11).cell? ⟨B, 9, none⟩ = some u9 ∧ (set12 w B u0 u1 u2 u3 u4 u5 u6 u7 u8 u9 u10 u11).cell? ⟨B, 10, none⟩ = some u10 ∧ (set12 w B u0 u1 u2 u3 u4 u5 u6 u7 u8 u9 u10 u11).cell? ⟨B, 11, none⟩ = some u11 ∧ Below w0.heap.size w0 (set12 w B u0 u1 u2 u3 u4 u5 u6 u7 u8 u9 u10 u11) ∧ Kept (fun j => j = B) w (set12 w B u0 u1 u2 u3 u4 u5 u6 u7 u8 u9 u10 u11) := by
  have hz : Blk (set12 w B u0 u1 u2 u3 u4 u5 u6 u7 u8 u9 u10 u11) B #[u0, u1, u2, u3, u4, u5, u6, u7, u8, u9, u10, u11] T := by
    unfold set12
    have h1 := ((((((h.set 0 u0).set 1 u1).set 2 u2).set 3 u3).set 4 u4).set 5 u5)
    simp at h1
    have h2 := ((((((h1.set 6 u6).set 7 u7).set 8 u8).set 9 u9).set 10 u10).set 11 u11)
    simp at h2
    exact h2
  have hbb : Below w0.heap.size w0 (set12 w B u0 u1 u2 u3 u4 u5 u6 u7 u8 u9 u10 u11) := by
    unfold set12
    exact ((((((((((((hb.setCell (p := ⟨B, 0, none⟩) hB u0).setCell (p := ⟨B, 1, none⟩) hB u1).setCell (p := ⟨B, 2, none⟩) hB u2).setCell (p := ⟨B, 3, none⟩) hB u3).setCell (p := ⟨B, 4, none⟩) hB u4).setCell (p := ⟨B, 5, none⟩) hB u5).setCell (p := ⟨B, 6, none⟩) hB u6).setCell (p := ⟨B, 7, none⟩) hB u7).setCell (p := ⟨B, 8, none⟩) hB u8).setCell (p := ⟨B, 9, none⟩) hB u9).setCell (p := ⟨B, 10, none⟩) hB u10).setCell (p := ⟨B, 11, none⟩) hB u11)
  have hkk : Kept (fun j => j = B) w (set12 w B u0 u1 u2 u3 u4 u5 u6 u7 u8 u9 u10 u11) := by
    unfold set12
    exact (((((((((((((Kept.refl (fun j => j = B) w).setCell (p := ⟨B, 0, none⟩) (.inl rfl) u0).setCell (p := ⟨B, 1, none⟩) (.inl rfl) u1).setCell (p := ⟨B, 2, none⟩) (.inl rfl) u2).setCell (p := ⟨B, 3, none⟩) (.inl rfl) u3).setCell (p := ⟨B, 4, none⟩) (.inl rfl) u4).setCell (p := ⟨B, 5, none⟩) (.inl rfl) u5).setCell (p := ⟨B, 6, none⟩) (.inl rfl) u6).setCell (p := ⟨B, 7, none⟩) (.inl rfl) u7).setCell (p := ⟨B, 8, none⟩) (.inl rfl) u8).setCell (p := ⟨B, 9, none⟩) (.inl rfl) u9).setCell (p := ⟨B, 10, none⟩) (.inl rfl) u10).setCell (p := ⟨B, 11, none⟩) (.inl rfl) u11)
  exact ⟨hz.cell 0 rfl, hz.cell 1 rfl, hz.cell 2 rfl, hz.cell 3 rfl, hz.cell 4 rfl, hz.cell 5 rfl, hz.cell 6 rfl, hz.cell 7 rfl, hz.cell 8 rfl, hz.cell 9 rfl, hz.cell 10 rfl, hz.cell 11 rfl, hbb, hkk⟩
theorem formed_of_code {l : List UInt8} (h : getCode l = 0) : formedB l = true := by
  unfold getCode at h
  split at h
  · cases h
  · cases hf : formedB l with
    | true => rfl
    | false => rw [if_pos hf] at h; cases h
set_option maxRecDepth 100000 in
set_option maxHeartbeats 4000000 in
theorem rread_main (v : Value) (l : List UInt8) (w : World) (hv : IsB w v l) (hl : l.length ≤ 1099511627776) (h : 28 ≤ l.length) (hs : msum l = true) :
    Calls Try.prog 9 #[v] w (ReadT w l) := by
  obtain ⟨K, hK⟩ : ∃ K, l.length = K + 4 := ⟨l.length - 4, by omega⟩
  have hlen := fun W => len_B (P := Try.prog) hv hK 22 3 5 Try.underlying22 W
  obtain ⟨st, rt, it⟩ := slice_l_B (P := Try.prog) hv 22 5 Try.underlying22 Try.sizeU8 K (by omega)
  obtain ⟨sb, rb, ib⟩ := slice_h_B (P := Try.prog) hv 22 5 Try.underlying22 Try.sizeU8 K (by omega)
  have hw0 := (Below.refl w.heap.size w).alloc (Nat.le_refl _) (.cells #[.int .i64 0, .int .i64 0, .int .i64 0, .int .i64 0, .int .i64 0, .int .u64 0, .int .i64 0, .bool false, .int .u64 0, .int .u32 0, .bool false, .slice none 0 0] 36)
  have HW0 := Lib.hid hw0
  have IT := Lib.hid (it.mono hw0 (Nat.le_refl _))
  have IB := Lib.hid (ib.mono hw0 (Nat.le_refl _))
  obtain ⟨t, ht⟩ : ∃ t, num (l.drop K) = t := ⟨_, rfl⟩
  obtain ⟨c, hc⟩ : ∃ c, crc (l.take K) = c := ⟨_, rfl⟩
  have hc4 : c < 4294967296 := by rw [← hc]; exact crc_lt _
  have hwc : IntKind.u64.wrap (c : Int) = (c : Int) := IntWalk.u64_in _ (by omega)
  have hms : msum l = decide (t = c) := by
    unfold msum fld
    rw [hK, Nat.add_sub_cancel, List.take_of_length_le (by rw [List.length_drop]; omega), ht, hc]
  have hk1 : ¬ ((K + 4 : Nat) : Int) < 28 := by omega
  have ek : IntKind.i64.wrap (((K + 4 : Nat) : Int) - 4) = (K : Int) := by rw [IntWalk.i64_in _ (by omega)]; omega
  obtain ⟨N, hN⟩ : ∃ N, K + 4 = N := ⟨_, rfl⟩
  rw [hN] at hlen hk1 ek
  have HNM := Lib.hid (show Calls Try.prog 24 #[st] (w.alloc (.cells #[.int .i64 0, .int .i64 0, .int .i64 0, .int .i64 0, .int .i64 0, .int .u64 0, .int .i64 0, .bool false, .int .u64 0, .int .u32 0, .bool false, .slice none 0 0] 36)).drew (fun e w' => e = .returned (.int .u64 (t : Int)) ∧ (w.alloc (.cells #[.int .i64 0, .int .i64 0, .int .i64 0, .int .i64 0, .int .i64 0, .int .u64 0, .int .i64 0, .bool false, .int .u64 0, .int .u32 0, .bool false, .slice none 0 0] 36)).drew = w') by
    have := number_any st (l.drop K) (w.alloc (.cells #[.int .i64 0, .int .i64 0, .int .i64 0, .int .i64 0, .int .i64 0, .int .u64 0, .int .i64 0, .bool false, .int .u64 0, .int .u32 0, .bool false, .slice none 0 0] 36)).drew (IT.out.mono (Below.refl _ _).drew (Nat.le_refl _)) (by rw [List.length_drop]; omega)
    rw [ht] at this
    exact this)
  have HOF := Lib.hid (show Calls Try.prog 25 #[sb] (w.alloc (.cells #[.int .i64 0, .int .i64 0, .int .i64 0, .int .i64 0, .int .i64 0, .int .u64 0, .int .i64 0, .bool false, .int .u64 0, .int .u32 0, .bool false, .slice none 0 0] 36)).drew (fun e w' => e = .returned (.int .u32 (c : Int)) ∧ (w.alloc (.cells #[.int .i64 0, .int .i64 0, .int .i64 0, .int .i64 0, .int .i64 0, .int .u64 0, .int .i64 0, .bool false, .int .u64 0, .int .u32 0, .bool false, .slice none 0 0] 36)).drew = w') by
    have := refof_any sb (l.take K) (w.alloc (.cells #[.int .i64 0, .int .i64 0, .int .i64 0, .int .i64 0, .int .i64 0, .int .u64 0, .int .i64 0, .bool false, .int .u64 0, .int .u32 0, .bool false, .slice none 0 0] 36)).drew (IB.out.mono (Below.refl _ _).drew (Nat.le_refl _)) (by rw [List.length_take]; omega)
    rw [hc] at this
    exact this)
  have hne' : t = c := by rw [hms] at hs; exact of_decide_eq_true hs
  subst hne'
  obtain ⟨B, hB⟩ : ∃ B, l.take K = B := ⟨_, rfl⟩
  have hBL : B.length = K := by rw [← hB, List.length_take]; omega
  rw [hB] at ib IB
  have hcode : mcode l = if mform B = false then 4 else 0 := by
    unfold mcode
    rw [if_neg (by omega), if_neg (by rw [hs]; simp), hK, Nat.add_sub_cancel, hB]
  have hread : mcode l = 0 → mread l = mget B := fun h0 => by unfold mread; rw [if_pos h0, hK, Nat.add_sub_cancel, hB]
  have HCODE := Lib.hid hcode
  have HREAD := Lib.hid hread
  have hlenb := fun W => len_B (P := Try.prog) ib hBL 22 3 5 Try.underlying22 W
  obtain ⟨b0, o0, x0, c0⟩ := indexAt_B (P := Try.prog) ib (by omega) 22 5 Try.underlying22 Try.sizeU8 0 (by omega)
  have p0 : ∀ W, (Instr.indexAt 22 sb (.int .i64 0)).run Try.prog W = .ok (.pointer (some ⟨b0, o0, none⟩)) W := x0
  obtain ⟨y0, hy0⟩ : ∃ y, (B.getD 0 0).toNat = y := ⟨_, rfl⟩
  have hyl0 : y0 < 256 := by rw [← hy0]; exact UInt8.toNat_lt _
  have k0 : w.cell? ⟨b0, o0, none⟩ = some (.int .u8 (y0 : Int)) := by rw [← hy0]; exact c0
  have hl0 : b0 < w.heap.size := cell_lt k0
  have hm0 : b0 < w.heap.size + 1 := by omega
  have v0 : IntKind.i64.wrap (y0 : Int) = (y0 : Int) := IntWalk.i64_in _ (by omega)
  have HY0 := Lib.hid hy0
  obtain ⟨b1, o1, x1, c1⟩ := indexAt_B (P := Try.prog) ib (by omega) 22 5 Try.underlying22 Try.sizeU8 1 (by omega)
  have p1 : ∀ W, (Instr.indexAt 22 sb (.int .i64 1)).run Try.prog W = .ok (.pointer (some ⟨b1, o1, none⟩)) W := x1
  obtain ⟨y1, hy1⟩ : ∃ y, (B.getD 1 0).toNat = y := ⟨_, rfl⟩
  have hyl1 : y1 < 256 := by rw [← hy1]; exact UInt8.toNat_lt _
  have k1 : w.cell? ⟨b1, o1, none⟩ = some (.int .u8 (y1 : Int)) := by rw [← hy1]; exact c1
  have hl1 : b1 < w.heap.size := cell_lt k1
  have hm1 : b1 < w.heap.size + 1 := by omega
  have v1 : IntKind.i64.wrap (y1 : Int) = (y1 : Int) := IntWalk.i64_in _ (by omega)
  have HY1 := Lib.hid hy1
  obtain ⟨b2, o2, x2, c2⟩ := indexAt_B (P := Try.prog) ib (by omega) 22 5 Try.underlying22 Try.sizeU8 2 (by omega)
  have p2 : ∀ W, (Instr.indexAt 22 sb (.int .i64 2)).run Try.prog W = .ok (.pointer (some ⟨b2, o2, none⟩)) W := x2
  obtain ⟨y2, hy2⟩ : ∃ y, (B.getD 2 0).toNat = y := ⟨_, rfl⟩
  have hyl2 : y2 < 256 := by rw [← hy2]; exact UInt8.toNat_lt _
  have k2 : w.cell? ⟨b2, o2, none⟩ = some (.int .u8 (y2 : Int)) := by rw [← hy2]; exact c2
  have hl2 : b2 < w.heap.size := cell_lt k2
  have hm2 : b2 < w.heap.size + 1 := by omega
  have v2 : IntKind.i64.wrap (y2 : Int) = (y2 : Int) := IntWalk.i64_in _ (by omega)
  have HY2 := Lib.hid hy2
  obtain ⟨b3, o3, x3, c3⟩ := indexAt_B (P := Try.prog) ib (by omega) 22 5 Try.underlying22 Try.sizeU8 3 (by omega)
  have p3 : ∀ W, (Instr.indexAt 22 sb (.int .i64 3)).run Try.prog W = .ok (.pointer (some ⟨b3, o3, none⟩)) W := x3
  obtain ⟨y3, hy3⟩ : ∃ y, (B.getD 3 0).toNat = y := ⟨_, rfl⟩
  have hyl3 : y3 < 256 := by rw [← hy3]; exact UInt8.toNat_lt _
  have k3 : w.cell? ⟨b3, o3, none⟩ = some (.int .u8 (y3 : Int)) := by rw [← hy3]; exact c3
  have hl3 : b3 < w.heap.size := cell_lt k3
  have hm3 : b3 < w.heap.size + 1 := by omega
  have v3 : IntKind.i64.wrap (y3 : Int) = (y3 : Int) := IntWalk.i64_in _ (by omega)
  have HY3 := Lib.hid hy3
  obtain ⟨s4, r4, i4⟩ := slice_lh_B (P := Try.prog) ib 22 5 Try.underlying22 Try.sizeU8 4 8 (by decide) (by omega)
  have q4 : ∀ W, (Instr.slice 22 sb (some (.int .i64 4)) (some (.int .i64 8)) none).run Try.prog W = .ok s4 W := r4
  obtain ⟨f4, hf4⟩ : ∃ f, fld B 4 4 = f := ⟨_, rfl⟩
  have HN4 := Lib.hid (fun wx (hx : Below w.heap.size w wx) => show Calls Try.prog 24 #[s4] wx (fun e w' => e = .returned (.int .u64 (f4 : Int)) ∧ wx = w') by
    have := number_any s4 ((B.drop 4).take (8 - 4)) wx (i4.mono hx (Nat.le_refl _)) (by rw [List.length_take]; omega)
    rw [show num ((B.drop 4).take (8 - 4)) = f4 from hf4] at this
    exact this)
  have HF4 := Lib.hid hf4
  obtain ⟨s8, r8, i8⟩ := slice_lh_B (P := Try.prog) ib 22 5 Try.underlying22 Try.sizeU8 8 12 (by decide) (by omega)
  have q8 : ∀ W, (Instr.slice 22 sb (some (.int .i64 8)) (some (.int .i64 12)) none).run Try.prog W = .ok s8 W := r8
  obtain ⟨f8, hf8⟩ : ∃ f, fld B 8 4 = f := ⟨_, rfl⟩
  have HN8 := Lib.hid (fun wx (hx : Below w.heap.size w wx) => show Calls Try.prog 24 #[s8] wx (fun e w' => e = .returned (.int .u64 (f8 : Int)) ∧ wx = w') by
    have := number_any s8 ((B.drop 8).take (12 - 8)) wx (i8.mono hx (Nat.le_refl _)) (by rw [List.length_take]; omega)
    rw [show num ((B.drop 8).take (12 - 8)) = f8 from hf8] at this
    exact this)
  have HF8 := Lib.hid hf8
  obtain ⟨s12, r12, i12⟩ := slice_lh_B (P := Try.prog) ib 22 5 Try.underlying22 Try.sizeU8 12 20 (by decide) (by omega)
  have q12 : ∀ W, (Instr.slice 22 sb (some (.int .i64 12)) (some (.int .i64 20)) none).run Try.prog W = .ok s12 W := r12
  obtain ⟨f12, hf12⟩ : ∃ f, fld B 12 8 = f := ⟨_, rfl⟩
  have HN12 := Lib.hid (fun wx (hx : Below w.heap.size w wx) => show Calls Try.prog 24 #[s12] wx (fun e w' => e = .returned (.int .u64 (f12 : Int)) ∧ wx = w') by
    have := number_any s12 ((B.drop 12).take (20 - 12)) wx (i12.mono hx (Nat.le_refl _)) (by rw [List.length_take]; omega)
    rw [show num ((B.drop 12).take (20 - 12)) = f12 from hf12] at this
    exact this)
  have HF12 := Lib.hid hf12
  obtain ⟨s20, r20, i20⟩ := slice_lh_B (P := Try.prog) ib 22 5 Try.underlying22 Try.sizeU8 20 24 (by decide) (by omega)
  have q20 : ∀ W, (Instr.slice 22 sb (some (.int .i64 20)) (some (.int .i64 24)) none).run Try.prog W = .ok s20 W := r20
  obtain ⟨f20, hf20⟩ : ∃ f, fld B 20 4 = f := ⟨_, rfl⟩
  have HN20 := Lib.hid (fun wx (hx : Below w.heap.size w wx) => show Calls Try.prog 24 #[s20] wx (fun e w' => e = .returned (.int .u64 (f20 : Int)) ∧ wx = w') by
    have := number_any s20 ((B.drop 20).take (24 - 20)) wx (i20.mono hx (Nat.le_refl _)) (by rw [List.length_take]; omega)
    rw [show num ((B.drop 20).take (24 - 20)) = f20 from hf20] at this
    exact this)
  have HF20 := Lib.hid hf20
  have hf4l : f4 < 4294967296 := by rw [← hf4]; exact fld4_lt B 4
  have hf8l : f8 < 4294967296 := by rw [← hf8]; exact fld4_lt B 8
  have e4 : IntKind.i64.wrap (f4 : Int) = (f4 : Int) := IntWalk.i64_in _ (by omega)
  have e8 : IntKind.i64.wrap (f8 : Int) = (f8 : Int) := IntWalk.i64_in _ (by omega)
  obtain ⟨s24, r24, i24⟩ := slice_l_B (P := Try.prog) ib 22 5 Try.underlying22 Try.sizeU8 24 (by omega)
  have q24 : ∀ W, (Instr.slice 22 sb (some (.int .i64 24)) none none).run Try.prog W = .ok s24 W := r24
  obtain ⟨G, hG⟩ : ∃ G, getCode (B.drop 24) = G := ⟨_, rfl⟩
  obtain ⟨RN, hRN⟩ : ∃ R, resN (B.drop 24) = R := ⟨_, rfl⟩
  obtain ⟨RK, hRK⟩ : ∃ R, resK (B.drop 24) = R := ⟨_, rfl⟩
  have HG24 := Lib.hid (fun wx (hx : Below w.heap.size w wx) => show Calls Try.prog 26 #[s24] wx (fun e w' => ∃ x c, e = .returned (.tuple #[nval RN (.slice x RN.data.length c), .int .i64 (RK : Int), .int .i64 (G : Int)]) ∧ w'.ownsRow wx.heap.size 5 1 (.slice x RN.data.length c) RN.data.length (bvs RN.data) ∧ Below wx.heap.size wx w') by
    have := refget_anyO s24 (B.drop 24) wx (i24.mono hx (Nat.le_refl _)) (by rw [List.length_drop]; omega)
    rw [hG, hRN, hRK] at this
    exact this)
  have hRKb : RK ≤ 5000 := by
    rw [← hRK]
    by_cases h0 : getCode (B.drop 24) = 0
    · rw [resK_ok h0]
      have := formed_of_code h0
      have := formed_len this
      unfold total padn
      omega
    · rw [resK_no h0]; omega
  have HG := Lib.hid hG
  have HRN := Lib.hid hRN
  have HRK := Lib.hid hRK
  obtain ⟨rk, rc, rg, rd⟩ := RN
  obtain ⟨RL, hRL⟩ : ∃ R, rd.length = R := ⟨_, rfl⟩
  have hRLb : RL ≤ 1099511627776 := by
    have h0 : (resN (B.drop 24)).data.length ≤ B.length := by
      unfold resN
      split
      · show (dataOf (B.drop 24)).length ≤ _
        unfold dataOf
        rw [List.length_take, List.length_drop, List.length_drop]
        omega
      · exact Nat.zero_le _
    rw [hRN] at h0
    dsimp only at h0
    omega
  dsimp only at HG24
  rw [hRL] at HG24
  have HRL := Lib.hid hRL
  have eE : IntKind.i64.wrap (24 + (RK : Int)) = ((24 + RK : Nat) : Int) := by rw [IntWalk.i64_in _ (by omega)]; omega
  obtain ⟨E, hE⟩ : ∃ E, 24 + RK = E := ⟨_, rfl⟩
  rw [hE] at eE
  have HE := Lib.hid hE
  have HBL := Lib.hid hBL
  have HIB := Lib.hid ib
  clear hv hl h hs hcode hread hK it ib hw0 ht hc hms hN hB hBL x0 x1 x2 x3 c0 c1 c2 c3 hy0 hy1 hy2 hy3 r4 r8 r12 r20 i4 i8 i12 i20 hf4 hf8 hf12 hf20 r24 i24 hG hRN hRK hRKb hRL hE
  go_enter Try.func9, Try.ntmps9
  go_wp2_with fail
  go_region_held3 (fun _ => True) (trivial) (first
    | (go_at_call 24; with_reducible refine HNM.out.mono ?_; rintro e w' ⟨rfl, rfl⟩)
    | (go_at_call 25; with_reducible refine HOF.out.mono ?_; rintro e w' ⟨rfl, rfl⟩))
  go_upto_region 6 with fail
  go_region
  go_wp2_with fail
  refine (HN4.out _ ((((Below.refl w.heap.size w).alloc (Nat.le_refl _) _).alloc (by simp) _).drew.drew)).mono ?_
  rintro e w' ⟨rfl, rfl⟩
  go_wp2_with fail
  refine (HN8.out _ ((((Below.refl w.heap.size w).alloc (Nat.le_refl _) _).alloc (by simp) _).drew.drew)).mono ?_
  rintro e w' ⟨rfl, rfl⟩
  go_wp2_with fail
  refine (HN12.out _ ((((Below.refl w.heap.size w).alloc (Nat.le_refl _) _).alloc (by simp) _).drew.drew)).mono ?_
  rintro e w' ⟨rfl, rfl⟩
  go_wp2_with fail
  refine (HN20.out _ ((((Below.refl w.heap.size w).alloc (Nat.le_refl _) _).alloc (by simp) _).drew.drew)).mono ?_
  rintro e w' ⟨rfl, rfl⟩
  by_cases h1 : f20 = 1
  · subst h1
    by_cases h5 : G = 0
    · subst h5
      have hm1 : mget B = ⟨(y0 : Int), (y1 : Int), (y2 : Int), (f4 : Int), (f8 : Int), f12, (y3 : Int), true, ⟨rk, rc, rg, rd⟩⟩ := by
        have h6 : getN (B.drop 24) = ⟨rk, rc, rg, rd⟩ := by rw [← resN_ok HG.out]; exact HRN.out
        unfold mget
        rw [HY0.out, HY1.out, HY2.out, HY3.out, HF4.out, HF8.out, HF12.out, HF20.out, h6]
        rfl
      have HM1 := Lib.hid hm1
      have HTT := Lib.hid (show 24 + total (B.drop 24) = E by rw [← HE.out, ← HRK.out, resK_ok HG.out])
      clear hm1
      go_wp2_with fail
      refine (HG24.out _ ((((Below.refl w.heap.size w).alloc (Nat.le_refl _) _).alloc (by simp) _).drew.drew)).mono ?_
      rintro e w3 ⟨x, cc, rfl, hown, hb3⟩
      have hX := (((Blk.new w #[.int .i64 0, .int .i64 0, .int .i64 0, .int .i64 0, .int .i64 0, .int .u64 0, .int .i64 0, .bool false, .int .u64 0, .int .u32 0, .bool false, .slice none 0 0] 36).alloc (.cells #[.int .i64 (y0 : Int), .int .i64 (y1 : Int), .int .i64 (y2 : Int), .int .i64 (f4 : Int), .int .i64 (f8 : Int), .int .u64 (f12 : Int), .int .i64 (y3 : Int), .bool false, .int .u64 0, .int .u32 0, .bool false, .slice none 0 0] 36)).drew.drew).below hb3 (by simp; omega)
      have hM := ((Blk.new (w.alloc (.cells #[.int .i64 0, .int .i64 0, .int .i64 0, .int .i64 0, .int .i64 0, .int .u64 0, .int .i64 0, .bool false, .int .u64 0, .int .u32 0, .bool false, .slice none 0 0] 36)) #[.int .i64 (y0 : Int), .int .i64 (y1 : Int), .int .i64 (y2 : Int), .int .i64 (f4 : Int), .int .i64 (f8 : Int), .int .u64 (f12 : Int), .int .i64 (y3 : Int), .bool false, .int .u64 0, .int .u32 0, .bool false, .slice none 0 0] 36).drew.drew).below hb3 (by simp)
      rw [show (w.alloc (.cells #[.int .i64 0, .int .i64 0, .int .i64 0, .int .i64 0, .int .i64 0, .int .u64 0, .int .i64 0, .bool false, .int .u64 0, .int .u32 0, .bool false, .slice none 0 0] 36)).heap.size = w.heap.size + 1 by simp] at hM
      have hB3 := ((((Below.refl w.heap.size w).alloc (Nat.le_refl _) (.cells #[.int .i64 0, .int .i64 0, .int .i64 0, .int .i64 0, .int .i64 0, .int .u64 0, .int .i64 0, .bool false, .int .u64 0, .int .u32 0, .bool false, .slice none 0 0] 36)).alloc (by simp) (.cells #[.int .i64 (y0 : Int), .int .i64 (y1 : Int), .int .i64 (y2 : Int), .int .i64 (f4 : Int), .int .i64 (f8 : Int), .int .u64 (f12 : Int), .int .i64 (y3 : Int), .bool false, .int .u64 0, .int .u32 0, .bool false, .slice none 0 0] 36)).drew.drew).trans (hb3.mono (by simp; omega))
      have hI3 := IsB.own hown HRL.out.symm
      have hlo : ∀ b, (Value.slice x RL cc).ownBlock = some b → w.heap.size + 1 + 1 ≤ b := fun b e => by have := (hown.lt b e).1; simpa using this
      have m7 := hM.cell 7 rfl
      have m8 := hM.cell 8 rfl
      have m9 := hM.cell 9 rfl
      have m10 := hM.cell 10 rfl
      have m11 := hM.cell 11 rfl
      have mf := fun j => hM.free j
      have hlt3 : w.heap.size + 1 < w3.heap.size := hM.lt
      go_upto_region 18 with fail
      have hk4 : Kept (fun j => j = w.heap.size + 1) w3 ((((((w3.setCell ⟨w.heap.size + 1, 7, none⟩ (.bool true)).setCell ⟨w.heap.size + 1, 8, none⟩ (.int .u64 (rk : Int))).setCell ⟨w.heap.size + 1, 9, none⟩ (.int .u32 (rc : Int))).setCell ⟨w.heap.size + 1, 10, none⟩ (.bool rg)).setCell ⟨w.heap.size + 1, 11, none⟩ (.slice x RL cc)).alloc (.cells #[.int .u64 (rk : Int), .int .u32 (rc : Int), .bool rg, .slice x RL cc] 34)) := ((((((Kept.refl (fun j => j = w.heap.size + 1) w3).setCell (p := ⟨w.heap.size + 1, 7, none⟩) (.inl rfl) (.bool true)).setCell (p := ⟨w.heap.size + 1, 8, none⟩) (.inl rfl) (.int .u64 (rk : Int))).setCell (p := ⟨w.heap.size + 1, 9, none⟩) (.inl rfl) (.int .u32 (rc : Int))).setCell (p := ⟨w.heap.size + 1, 10, none⟩) (.inl rfl) (.bool rg)).setCell (p := ⟨w.heap.size + 1, 11, none⟩) (.inl rfl) (.slice x RL cc)).alloc _
      have hX4 : Blk ((((((w3.setCell ⟨w.heap.size + 1, 7, none⟩ (.bool true)).setCell ⟨w.heap.size + 1, 8, none⟩ (.int .u64 (rk : Int))).setCell ⟨w.heap.size + 1, 9, none⟩ (.int .u32 (rc : Int))).setCell ⟨w.heap.size + 1, 10, none⟩ (.bool rg)).setCell ⟨w.heap.size + 1, 11, none⟩ (.slice x RL cc)).alloc (.cells #[.int .u64 (rk : Int), .int .u32 (rc : Int), .bool rg, .slice x RL cc] 34)) w.heap.size #[.int .i64 0, .int .i64 0, .int .i64 0, .int .i64 0, .int .i64 0, .int .u64 0, .int .i64 0, .bool false, .int .u64 0, .int .u32 0, .bool false, .slice none 0 0] 36 := (((((hX.other (a := ⟨w.heap.size + 1, 7, none⟩) (by simp) (.bool true)).other (a := ⟨w.heap.size + 1, 8, none⟩) (by simp) (.int .u64 (rk : Int))).other (a := ⟨w.heap.size + 1, 9, none⟩) (by simp) (.int .u32 (rc : Int))).other (a := ⟨w.heap.size + 1, 10, none⟩) (by simp) (.bool rg)).other (a := ⟨w.heap.size + 1, 11, none⟩) (by simp) (.slice x RL cc)).alloc _
      have hM4 : Blk ((((((w3.setCell ⟨w.heap.size + 1, 7, none⟩ (.bool true)).setCell ⟨w.heap.size + 1, 8, none⟩ (.int .u64 (rk : Int))).setCell ⟨w.heap.size + 1, 9, none⟩ (.int .u32 (rc : Int))).setCell ⟨w.heap.size + 1, 10, none⟩ (.bool rg)).setCell ⟨w.heap.size + 1, 11, none⟩ (.slice x RL cc)).alloc (.cells #[.int .u64 (rk : Int), .int .u32 (rc : Int), .bool rg, .slice x RL cc] 34)) (w.heap.size + 1) #[.int .i64 (y0 : Int), .int .i64 (y1 : Int), .int .i64 (y2 : Int), .int .i64 (f4 : Int), .int .i64 (f8 : Int), .int .u64 (f12 : Int), .int .i64 (y3 : Int), .bool true, .int .u64 (rk : Int), .int .u32 (rc : Int), .bool rg, .slice x RL cc] 36 := by
        have h1 := (((((hM.set 7 (.bool true)).set 8 (.int .u64 (rk : Int))).set 9 (.int .u32 (rc : Int))).set 10 (.bool rg)).set 11 (.slice x RL cc))
        simp at h1
        exact h1.alloc _
      have hB4 : Below w.heap.size w ((((((w3.setCell ⟨w.heap.size + 1, 7, none⟩ (.bool true)).setCell ⟨w.heap.size + 1, 8, none⟩ (.int .u64 (rk : Int))).setCell ⟨w.heap.size + 1, 9, none⟩ (.int .u32 (rc : Int))).setCell ⟨w.heap.size + 1, 10, none⟩ (.bool rg)).setCell ⟨w.heap.size + 1, 11, none⟩ (.slice x RL cc)).alloc (.cells #[.int .u64 (rk : Int), .int .u32 (rc : Int), .bool rg, .slice x RL cc] 34)) := by
        have h1 := (((((hB3.setCell (p := ⟨w.heap.size + 1, 7, none⟩) (Nat.le_succ _) (.bool true)).setCell (p := ⟨w.heap.size + 1, 8, none⟩) (Nat.le_succ _) (.int .u64 (rk : Int))).setCell (p := ⟨w.heap.size + 1, 9, none⟩) (Nat.le_succ _) (.int .u32 (rc : Int))).setCell (p := ⟨w.heap.size + 1, 10, none⟩) (Nat.le_succ _) (.bool rg)).setCell (p := ⟨w.heap.size + 1, 11, none⟩) (Nat.le_succ _) (.slice x RL cc))
        exact h1.alloc h1.size _
      have hI4 := hI3.kept hk4 (fun b hb e => by have := hlo b hb.2; omega)
      obtain ⟨w4, hw4⟩ : ∃ w4, (((((w3.setCell ⟨w.heap.size + 1, 7, none⟩ (.bool true)).setCell ⟨w.heap.size + 1, 8, none⟩ (.int .u64 (rk : Int))).setCell ⟨w.heap.size + 1, 9, none⟩ (.int .u32 (rc : Int))).setCell ⟨w.heap.size + 1, 10, none⟩ (.bool rg)).setCell ⟨w.heap.size + 1, 11, none⟩ (.slice x RL cc)).alloc (.cells #[.int .u64 (rk : Int), .int .u32 (rc : Int), .bool rg, .slice x RL cc] 34) = w4 := ⟨_, rfl⟩
      rw [hw4] at hX4 hM4 hB4 hI4
      try rw [hw4]
      clear hw4 hk4 hX hM hB3 hown hb3 hI3 m7 m8 m9 m10 m11 mf hlt3
      have HX4 := Lib.hid hX4
      have HM4 := Lib.hid hM4
      have HB4 := Lib.hid hB4
      have HI4 := Lib.hid hI4
      have k0 : ¬ (1 : Int) < 1 := by decide
      by_cases h3 : E = K
      · have k3 : ((E : Int) != (K : Int)) = false := by rw [h3]; simp
        have k4 : (E : Int) = (K : Int) := by omega
        have HK3 := Lib.hid h3
        have HCK := Lib.hid (rcheck_any ⟨(y0 : Int), (y1 : Int), (y2 : Int), (f4 : Int), (f8 : Int), f12, (y3 : Int), true, ⟨rk, rc, rg, rd⟩⟩ (.slice x RL cc) w4 HI4.out (by show rd.length ≤ _; rw [HRL.out]; exact hRLb))
        obtain ⟨C, hC⟩ : ∃ C, mcheck ⟨(y0 : Int), (y1 : Int), (y2 : Int), (f4 : Int), (f8 : Int), f12, (y3 : Int), true, ⟨rk, rc, rg, rd⟩⟩ = C := ⟨_, rfl⟩
        rw [hC] at HCK
        have HC := Lib.hid hC
        clear hC h3
        have m0 := hM4.cell 0 rfl
        have m1 := hM4.cell 1 rfl
        have m2 := hM4.cell 2 rfl
        have m3 := hM4.cell 3 rfl
        have m4 := hM4.cell 4 rfl
        have m5 := hM4.cell 5 rfl
        have m6 := hM4.cell 6 rfl
        have m7 := hM4.cell 7 rfl
        have m8 := hM4.cell 8 rfl
        have m9 := hM4.cell 9 rfl
        have m10 := hM4.cell 10 rfl
        have m11 := hM4.cell 11 rfl
        clear hX4 hM4 hB4 hI4
        go_wp2_with fail
        refine HCK.out.mono ?_
        rintro e w5 ⟨rfl, hb5⟩
        have hX5 := HX4.out.below hb5 HX4.out.lt
        have hM5 := HM4.out.below hb5 HM4.out.lt
        have hB5 := HB4.out.trans (hb5.mono HB4.out.size)
        have HI5 := Lib.hid (HI4.out.mono hb5 (Nat.le_refl _))
        clear hb5 m0 m1 m2 m3 m4 m5 m6 m7 m8 m9 m10 m11
        by_cases h4 : C = 0
        · subst h4
          have n0 := hX5.cell 0 rfl
          have n1 := hX5.cell 1 rfl
          have n2 := hX5.cell 2 rfl
          have n3 := hX5.cell 3 rfl
          have n4 := hX5.cell 4 rfl
          have n5 := hX5.cell 5 rfl
          have n6 := hX5.cell 6 rfl
          have n7 := hX5.cell 7 rfl
          have n8 := hX5.cell 8 rfl
          have n9 := hX5.cell 9 rfl
          have n10 := hX5.cell 10 rfl
          have n11 := hX5.cell 11 rfl
          have m0 := hM5.cell 0 rfl
          have m1 := hM5.cell 1 rfl
          have m2 := hM5.cell 2 rfl
          have m3 := hM5.cell 3 rfl
          have m4 := hM5.cell 4 rfl
          have m5 := hM5.cell 5 rfl
          have m6 := hM5.cell 6 rfl
          have m7 := hM5.cell 7 rfl
          have m8 := hM5.cell 8 rfl
          have m9 := hM5.cell 9 rfl
          have m10 := hM5.cell 10 rfl
          have m11 := hM5.cell 11 rfl
          have nf := fun j => hX5.free j
          have hF := fin12 hX5 hB5 (Nat.le_refl _) (.int .i64 (y0 : Int)) (.int .i64 (y1 : Int)) (.int .i64 (y2 : Int)) (.int .i64 (f4 : Int)) (.int .i64 (f8 : Int)) (.int .u64 (f12 : Int)) (.int .i64 (y3 : Int)) (.bool true) (.int .u64 (rk : Int)) (.int .u32 (rc : Int)) (.bool rg) (.slice x RL cc)
          unfold set12 at hF
          have HF := Lib.hid hF
          clear hF
          clear hX5 hM5 hB5
          go_wp2
          obtain ⟨j0, j1, j2, j3, j4, j5, j6, j7, j8, j9, j10, j11, jb, jk⟩ := HF.out
          have hmf : mform B = true := by
            refine decide_eq_true ⟨?_, ?_, ?_, ?_⟩
            · rw [HF20.out]; decide
            · intro _; exact ⟨HG.out, by rw [HTT.out, HBL.out]; exact HK3.out⟩
            · intro e; rw [HF20.out] at e; cases e
            · rw [HM1.out]; exact HC.out
          have hcode : mcode l = 0 := by rw [HCODE.out, if_neg (by rw [hmf]; simp)]
          refine bodyPost_ret (v := .tuple #[.agg #[.int .i64 (y0 : Int), .int .i64 (y1 : Int), .int .i64 (y2 : Int), .int .i64 (f4 : Int), .int .i64 (f8 : Int), .int .u64 (f12 : Int), .int .i64 (y3 : Int), .bool true, .int .u64 (rk : Int), .int .u32 (rc : Int), .bool rg, .slice x RL cc], .int .i64 0]) (by simp [results, Try.results9, go_sem, j0, j1, j2, j3, j4, j5, j6, j7, j8, j9, j10, j11]) rfl ⟨.slice x RL cc, ?_, ?_, jb⟩
          · rw [hcode, HREAD.out hcode, HM1.out]; rfl
          · rw [HREAD.out hcode, HM1.out]; exact HI5.out.kept jk (fun b hb e => by have := hlo b hb.2; omega)
        · have h5 : ((C : Int) != 0) = true := bne_iff_ne.2 (by omega)
          have h6 : ¬ (C : Int) = 0 := by omega
          have HT := fun w' (hb : Below w.heap.size w w') => ReadT.bad (l := l) (w := w) (w' := w') (c := 4) (by rw [HCODE.out, if_pos (show mform B = false from decide_eq_false (fun hh => by have := hh.2.2.2; rw [HM1.out, HC.out] at this; exact h4 this))]) (by decide) hb
          have HT := Lib.hid HT
          have n0 := hX5.cell 0 rfl
          have n1 := hX5.cell 1 rfl
          have n2 := hX5.cell 2 rfl
          have n3 := hX5.cell 3 rfl
          have n4 := hX5.cell 4 rfl
          have n5 := hX5.cell 5 rfl
          have n6 := hX5.cell 6 rfl
          have n7 := hX5.cell 7 rfl
          have n8 := hX5.cell 8 rfl
          have n9 := hX5.cell 9 rfl
          have n10 := hX5.cell 10 rfl
          have n11 := hX5.cell 11 rfl
          have nf := fun j => hX5.free j
          have hF := fin12 hX5 hB5 (Nat.le_refl _) (.int .i64 0) (.int .i64 0) (.int .i64 0) (.int .i64 0) (.int .i64 0) (.int .u64 0) (.int .i64 0) (.bool false) (.int .u64 0) (.int .u32 0) (.bool false) (.slice none 0 0)
          unfold set12 at hF
          have HF := Lib.hid hF
          clear hF
          go_wp2
          obtain ⟨j0, j1, j2, j3, j4, j5, j6, j7, j8, j9, j10, j11, jb, jk⟩ := HF.out
          exact bodyPost_ret (v := .tuple #[.agg #[.int .i64 0, .int .i64 0, .int .i64 0, .int .i64 0, .int .i64 0, .int .u64 0, .int .i64 0, .bool false, .int .u64 0, .int .u32 0, .bool false, .slice none 0 0], .int .i64 4]) (by simp [results, Try.results9, go_sem, j0, j1, j2, j3, j4, j5, j6, j7, j8, j9, j10, j11]) rfl (HT.out _ jb)
      · have k3 : ((E : Int) != (K : Int)) = true := bne_iff_ne.2 (by omega)
        have k4 : ¬ (E : Int) = (K : Int) := by omega
        have HT := fun w' (hb : Below w.heap.size w w') => ReadT.bad (l := l) (w := w) (w' := w') (c := 4) (by rw [HCODE.out, if_pos (show mform B = false from decide_eq_false (fun hh => by have := (hh.2.1 HF20.out).2; rw [HTT.out, HBL.out] at this; exact h3 this))]) (by decide) hb
        have HT := Lib.hid HT
        have n0 := hX4.cell 0 rfl
        have n1 := hX4.cell 1 rfl
        have n2 := hX4.cell 2 rfl
        have n3 := hX4.cell 3 rfl
        have n4 := hX4.cell 4 rfl
        have n5 := hX4.cell 5 rfl
        have n6 := hX4.cell 6 rfl
        have n7 := hX4.cell 7 rfl
        have n8 := hX4.cell 8 rfl
        have n9 := hX4.cell 9 rfl
        have n10 := hX4.cell 10 rfl
        have n11 := hX4.cell 11 rfl
        have nf := fun j => hX4.free j
        have hF := fin12 hX4 hB4 (Nat.le_refl _) (.int .i64 0) (.int .i64 0) (.int .i64 0) (.int .i64 0) (.int .i64 0) (.int .u64 0) (.int .i64 0) (.bool false) (.int .u64 0) (.int .u32 0) (.bool false) (.slice none 0 0)
        unfold set12 at hF
        have HF := Lib.hid hF
        clear hF
        go_wp2
        obtain ⟨j0, j1, j2, j3, j4, j5, j6, j7, j8, j9, j10, j11, jb, jk⟩ := HF.out
        exact bodyPost_ret (v := .tuple #[.agg #[.int .i64 0, .int .i64 0, .int .i64 0, .int .i64 0, .int .i64 0, .int .u64 0, .int .i64 0, .bool false, .int .u64 0, .int .u32 0, .bool false, .slice none 0 0], .int .i64 4]) (by simp [results, Try.results9, go_sem, j0, j1, j2, j3, j4, j5, j6, j7, j8, j9, j10, j11]) rfl (HT.out _ jb)
    · have g1 : ¬ (G : Int) = 0 := by omega
      have g2 : ((G : Int) != 0) = true := bne_iff_ne.2 g1
      go_wp2_with fail
      refine (HG24.out _ ((((Below.refl w.heap.size w).alloc (Nat.le_refl _) _).alloc (by simp) _).drew.drew)).mono ?_
      rintro e w3 ⟨x, cc, rfl, hown, hb3⟩
      have hX := (((Blk.new w #[.int .i64 0, .int .i64 0, .int .i64 0, .int .i64 0, .int .i64 0, .int .u64 0, .int .i64 0, .bool false, .int .u64 0, .int .u32 0, .bool false, .slice none 0 0] 36).alloc (.cells #[.int .i64 (y0 : Int), .int .i64 (y1 : Int), .int .i64 (y2 : Int), .int .i64 (f4 : Int), .int .i64 (f8 : Int), .int .u64 (f12 : Int), .int .i64 (y3 : Int), .bool false, .int .u64 0, .int .u32 0, .bool false, .slice none 0 0] 36)).drew.drew).below hb3 (by simp; omega)
      have hM := ((Blk.new (w.alloc (.cells #[.int .i64 0, .int .i64 0, .int .i64 0, .int .i64 0, .int .i64 0, .int .u64 0, .int .i64 0, .bool false, .int .u64 0, .int .u32 0, .bool false, .slice none 0 0] 36)) #[.int .i64 (y0 : Int), .int .i64 (y1 : Int), .int .i64 (y2 : Int), .int .i64 (f4 : Int), .int .i64 (f8 : Int), .int .u64 (f12 : Int), .int .i64 (y3 : Int), .bool false, .int .u64 0, .int .u32 0, .bool false, .slice none 0 0] 36).drew.drew).below hb3 (by simp)
      rw [show (w.alloc (.cells #[.int .i64 0, .int .i64 0, .int .i64 0, .int .i64 0, .int .i64 0, .int .u64 0, .int .i64 0, .bool false, .int .u64 0, .int .u32 0, .bool false, .slice none 0 0] 36)).heap.size = w.heap.size + 1 by simp] at hM
      have hB3 := ((((Below.refl w.heap.size w).alloc (Nat.le_refl _) (.cells #[.int .i64 0, .int .i64 0, .int .i64 0, .int .i64 0, .int .i64 0, .int .u64 0, .int .i64 0, .bool false, .int .u64 0, .int .u32 0, .bool false, .slice none 0 0] 36)).alloc (by simp) (.cells #[.int .i64 (y0 : Int), .int .i64 (y1 : Int), .int .i64 (y2 : Int), .int .i64 (f4 : Int), .int .i64 (f8 : Int), .int .u64 (f12 : Int), .int .i64 (y3 : Int), .bool false, .int .u64 0, .int .u32 0, .bool false, .slice none 0 0] 36)).drew.drew).trans (hb3.mono (by simp; omega))
      have hX4 := hX.alloc (.cells #[.int .u64 (rk : Int), .int .u32 (rc : Int), .bool rg, .slice x RL cc] 34)
      have hB4 := hB3.alloc hB3.size (.cells #[.int .u64 (rk : Int), .int .u32 (rc : Int), .bool rg, .slice x RL cc] 34)
      clear hX hM hB3 hown hb3
      go_upto_region 14 with fail
      obtain ⟨w4, hw4⟩ : ∃ w4, w3.alloc (.cells #[.int .u64 (rk : Int), .int .u32 (rc : Int), .bool rg, .slice x RL cc] 34) = w4 := ⟨_, rfl⟩
      rw [hw4] at hX4 hB4
      try rw [hw4]
      clear hw4
      have HT := fun w' (hb : Below w.heap.size w w') => ReadT.bad (l := l) (w := w) (w' := w') (c := 4) (by rw [HCODE.out, if_pos (show mform B = false from decide_eq_false (fun hh => by have := (hh.2.1 HF20.out).1; rw [HG.out] at this; exact h5 this))]) (by decide) hb
      have HT := Lib.hid HT
      have n0 := hX4.cell 0 rfl
      have n1 := hX4.cell 1 rfl
      have n2 := hX4.cell 2 rfl
      have n3 := hX4.cell 3 rfl
      have n4 := hX4.cell 4 rfl
      have n5 := hX4.cell 5 rfl
      have n6 := hX4.cell 6 rfl
      have n7 := hX4.cell 7 rfl
      have n8 := hX4.cell 8 rfl
      have n9 := hX4.cell 9 rfl
      have n10 := hX4.cell 10 rfl
      have n11 := hX4.cell 11 rfl
      have nf := fun j => hX4.free j
      have hF := fin12 hX4 hB4 (Nat.le_refl _) (.int .i64 0) (.int .i64 0) (.int .i64 0) (.int .i64 0) (.int .i64 0) (.int .u64 0) (.int .i64 0) (.bool false) (.int .u64 0) (.int .u32 0) (.bool false) (.slice none 0 0)
      unfold set12 at hF
      have HF := Lib.hid hF
      clear hF
      go_wp2
      obtain ⟨j0, j1, j2, j3, j4, j5, j6, j7, j8, j9, j10, j11, jb, jk⟩ := HF.out
      exact bodyPost_ret (v := .tuple #[.agg #[.int .i64 0, .int .i64 0, .int .i64 0, .int .i64 0, .int .i64 0, .int .u64 0, .int .i64 0, .bool false, .int .u64 0, .int .u32 0, .bool false, .slice none 0 0], .int .i64 4]) (by simp [results, Try.results9, go_sem, j0, j1, j2, j3, j4, j5, j6, j7, j8, j9, j10, j11]) rfl (HT.out _ jb)
  · have k1 : ¬ (f20 : Int) = 1 := by omega
    have k2 : ((f20 : Int) == 1) = false := beq_eq_false_iff_ne.2 k1
    by_cases h2 : 1 < f20
    · have k5 : (1 : Int) < (f20 : Int) := by omega
      have HT := fun w' (hb : Below w.heap.size w w') => ReadT.bad (l := l) (w := w) (w' := w') (c := 4) (by rw [HCODE.out, if_pos (show mform B = false from decide_eq_false (fun hh => by have := hh.1; rw [HF20.out] at this; omega))]) (by decide) hb
      have HT := Lib.hid HT
      go_wp2
      exact bodyPost_ret (v := .tuple #[.agg #[.int .i64 0, .int .i64 0, .int .i64 0, .int .i64 0, .int .i64 0, .int .u64 0, .int .i64 0, .bool false, .int .u64 0, .int .u32 0, .bool false, .slice none 0 0], .int .i64 4]) (by simp [results, Try.results9, go_sem]) rfl (HT.out _ ((((Below.refl w.heap.size w).alloc (Nat.le_refl _) _).alloc (by simp) _).drew.drew))
    · obtain rfl : f20 = 0 := by omega
      have hm0 : mget B = ⟨(y0 : Int), (y1 : Int), (y2 : Int), (f4 : Int), (f8 : Int), f12, (y3 : Int), false, nz⟩ := by
        unfold mget
        rw [HY0.out, HY1.out, HY2.out, HY3.out, HF4.out, HF8.out, HF12.out, HF20.out]
        rfl
      have HM0 := Lib.hid hm0
      have k0 : ¬ (1 : Int) < 0 := by decide
      clear hm0
      by_cases h3 : K = 24
      · have k3 : ((24 : Int) != (K : Int)) = false := by rw [h3]; rfl
        have k4 : (24 : Int) = (K : Int) := by omega
        have HK3 := Lib.hid h3
        have HCK := Lib.hid (fun wx => rcheck_any ⟨(y0 : Int), (y1 : Int), (y2 : Int), (f4 : Int), (f8 : Int), f12, (y3 : Int), false, nz⟩ (.slice none 0 0) wx (IsB.nil wx) (Nat.zero_le _))
        obtain ⟨C, hC⟩ : ∃ C, mcheck ⟨(y0 : Int), (y1 : Int), (y2 : Int), (f4 : Int), (f8 : Int), f12, (y3 : Int), false, nz⟩ = C := ⟨_, rfl⟩
        rw [hC] at HCK
        have HC := Lib.hid hC
        clear hC h3
        go_wp2_with fail
        refine (HCK.out _).mono ?_
        rintro e w3 ⟨rfl, hb3⟩
        have hX := (((Blk.new w #[.int .i64 0, .int .i64 0, .int .i64 0, .int .i64 0, .int .i64 0, .int .u64 0, .int .i64 0, .bool false, .int .u64 0, .int .u32 0, .bool false, .slice none 0 0] 36).alloc (.cells #[.int .i64 (y0 : Int), .int .i64 (y1 : Int), .int .i64 (y2 : Int), .int .i64 (f4 : Int), .int .i64 (f8 : Int), .int .u64 (f12 : Int), .int .i64 (y3 : Int), .bool false, .int .u64 0, .int .u32 0, .bool false, .slice none 0 0] 36)).drew.drew).below hb3 (by simp; omega)
        have hM := ((Blk.new (w.alloc (.cells #[.int .i64 0, .int .i64 0, .int .i64 0, .int .i64 0, .int .i64 0, .int .u64 0, .int .i64 0, .bool false, .int .u64 0, .int .u32 0, .bool false, .slice none 0 0] 36)) #[.int .i64 (y0 : Int), .int .i64 (y1 : Int), .int .i64 (y2 : Int), .int .i64 (f4 : Int), .int .i64 (f8 : Int), .int .u64 (f12 : Int), .int .i64 (y3 : Int), .bool false, .int .u64 0, .int .u32 0, .bool false, .slice none 0 0] 36).drew.drew).below hb3 (by simp)
        rw [show (w.alloc (.cells #[.int .i64 0, .int .i64 0, .int .i64 0, .int .i64 0, .int .i64 0, .int .u64 0, .int .i64 0, .bool false, .int .u64 0, .int .u32 0, .bool false, .slice none 0 0] 36)).heap.size = w.heap.size + 1 by simp] at hM
        have hB3 := ((((Below.refl w.heap.size w).alloc (Nat.le_refl _) (.cells #[.int .i64 0, .int .i64 0, .int .i64 0, .int .i64 0, .int .i64 0, .int .u64 0, .int .i64 0, .bool false, .int .u64 0, .int .u32 0, .bool false, .slice none 0 0] 36)).alloc (by simp) (.cells #[.int .i64 (y0 : Int), .int .i64 (y1 : Int), .int .i64 (y2 : Int), .int .i64 (f4 : Int), .int .i64 (f8 : Int), .int .u64 (f12 : Int), .int .i64 (y3 : Int), .bool false, .int .u64 0, .int .u32 0, .bool false, .slice none 0 0] 36)).drew.drew).trans (hb3.mono (by simp; omega))
        clear hb3
        by_cases h4 : C = 0
        · subst h4
          have n0 := hX.cell 0 rfl
          have n1 := hX.cell 1 rfl
          have n2 := hX.cell 2 rfl
          have n3 := hX.cell 3 rfl
          have n4 := hX.cell 4 rfl
          have n5 := hX.cell 5 rfl
          have n6 := hX.cell 6 rfl
          have n7 := hX.cell 7 rfl
          have n8 := hX.cell 8 rfl
          have n9 := hX.cell 9 rfl
          have n10 := hX.cell 10 rfl
          have n11 := hX.cell 11 rfl
          have m0 := hM.cell 0 rfl
          have m1 := hM.cell 1 rfl
          have m2 := hM.cell 2 rfl
          have m3 := hM.cell 3 rfl
          have m4 := hM.cell 4 rfl
          have m5 := hM.cell 5 rfl
          have m6 := hM.cell 6 rfl
          have m7 := hM.cell 7 rfl
          have m8 := hM.cell 8 rfl
          have m9 := hM.cell 9 rfl
          have m10 := hM.cell 10 rfl
          have m11 := hM.cell 11 rfl
          have nf := fun j => hX.free j
          have hF := fin12 hX hB3 (Nat.le_refl _) (.int .i64 (y0 : Int)) (.int .i64 (y1 : Int)) (.int .i64 (y2 : Int)) (.int .i64 (f4 : Int)) (.int .i64 (f8 : Int)) (.int .u64 (f12 : Int)) (.int .i64 (y3 : Int)) (.bool false) (.int .u64 0) (.int .u32 0) (.bool false) (.slice none 0 0)
          unfold set12 at hF
          have HF := Lib.hid hF
          clear hF
          clear hX hM hB3
          go_wp2
          obtain ⟨j0, j1, j2, j3, j4, j5, j6, j7, j8, j9, j10, j11, jb, jk⟩ := HF.out
          have hmf : mform B = true := by
            refine decide_eq_true ⟨?_, ?_, ?_, ?_⟩
            · rw [HF20.out]; decide
            · intro e; rw [HF20.out] at e; cases e
            · intro _; rw [HBL.out]; exact HK3.out
            · rw [HM0.out]; exact HC.out
          have hcode : mcode l = 0 := by rw [HCODE.out, if_neg (by rw [hmf]; simp)]
          refine bodyPost_ret (v := .tuple #[.agg #[.int .i64 (y0 : Int), .int .i64 (y1 : Int), .int .i64 (y2 : Int), .int .i64 (f4 : Int), .int .i64 (f8 : Int), .int .u64 (f12 : Int), .int .i64 (y3 : Int), .bool false, .int .u64 0, .int .u32 0, .bool false, .slice none 0 0], .int .i64 0]) (by simp [results, Try.results9, go_sem, j0, j1, j2, j3, j4, j5, j6, j7, j8, j9, j10, j11]) rfl ⟨.slice none 0 0, ?_, ?_, jb⟩
          · rw [hcode, HREAD.out hcode, HM0.out]; rfl
          · rw [HREAD.out hcode, HM0.out]; exact IsB.nil _
        · have h5 : ((C : Int) != 0) = true := bne_iff_ne.2 (by omega)
          have h6 : ¬ (C : Int) = 0 := by omega
          have HT := fun w' (hb : Below w.heap.size w w') => ReadT.bad (l := l) (w := w) (w' := w') (c := 4) (by rw [HCODE.out, if_pos (show mform B = false from decide_eq_false (fun hh => by have := hh.2.2.2; rw [HM0.out, HC.out] at this; exact h4 this))]) (by decide) hb
          have HT := Lib.hid HT
          have n0 := hX.cell 0 rfl
          have n1 := hX.cell 1 rfl
          have n2 := hX.cell 2 rfl
          have n3 := hX.cell 3 rfl
          have n4 := hX.cell 4 rfl
          have n5 := hX.cell 5 rfl
          have n6 := hX.cell 6 rfl
          have n7 := hX.cell 7 rfl
          have n8 := hX.cell 8 rfl
          have n9 := hX.cell 9 rfl
          have n10 := hX.cell 10 rfl
          have n11 := hX.cell 11 rfl
          have nf := fun j => hX.free j
          have hF := fin12 hX hB3 (Nat.le_refl _) (.int .i64 0) (.int .i64 0) (.int .i64 0) (.int .i64 0) (.int .i64 0) (.int .u64 0) (.int .i64 0) (.bool false) (.int .u64 0) (.int .u32 0) (.bool false) (.slice none 0 0)
          unfold set12 at hF
          have HF := Lib.hid hF
          clear hF
          go_wp2
          obtain ⟨j0, j1, j2, j3, j4, j5, j6, j7, j8, j9, j10, j11, jb, jk⟩ := HF.out
          exact bodyPost_ret (v := .tuple #[.agg #[.int .i64 0, .int .i64 0, .int .i64 0, .int .i64 0, .int .i64 0, .int .u64 0, .int .i64 0, .bool false, .int .u64 0, .int .u32 0, .bool false, .slice none 0 0], .int .i64 4]) (by simp [results, Try.results9, go_sem, j0, j1, j2, j3, j4, j5, j6, j7, j8, j9, j10, j11]) rfl (HT.out _ jb)
      · have k3 : ((24 : Int) != (K : Int)) = true := bne_iff_ne.2 (by omega)
        have k4 : ¬ (24 : Int) = (K : Int) := by omega
        have HT := fun w' (hb : Below w.heap.size w w') => ReadT.bad (l := l) (w := w) (w' := w') (c := 4) (by rw [HCODE.out, if_pos (show mform B = false from decide_eq_false (fun hh => by have := hh.2.2.1 HF20.out; rw [HBL.out] at this; exact h3 this))]) (by decide) hb
        have HT := Lib.hid HT
        go_wp2
        exact bodyPost_ret (v := .tuple #[.agg #[.int .i64 0, .int .i64 0, .int .i64 0, .int .i64 0, .int .i64 0, .int .u64 0, .int .i64 0, .bool false, .int .u64 0, .int .u32 0, .bool false, .slice none 0 0], .int .i64 4]) (by simp [results, Try.results9, go_sem]) rfl (HT.out _ ((((Below.refl w.heap.size w).alloc (Nat.le_refl _) _).alloc (by simp) _).drew.drew))

end Go.Proofs.Ytallmcminlnnaaa
