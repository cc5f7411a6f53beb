/- Package wire by contracts: Read. -/
import Derived.Test.YtofhbnnheadmlaaWh
import Derived.Test.YtofhbnnheadmlaaRef14eF
set_option linter.unusedVariables false
set_option linter.unusedSimpArgs false
namespace Go.Proofs.Ytofhbnnheadmlaa
open Go.RowKit Go.Cor

theorem fld_byte {l : List UInt8} {i : Nat} (h : i < l.length) : fld l i 1 = (l.getD i 0).toNat := by
  unfold fld
  rw [List.drop_eq_getElem_cons h, List.take_succ_cons, List.take_zero, List.getD_eq_getElem?_getD, List.getElem?_eq_getElem h, Option.getD_some]
  show l[i].toNat + 256 * 0 = _
  omega
theorem fldk_lt (l : List UInt8) (a k : Nat) : fld l a k < 256 ^ k := by
  unfold fld
  refine Nat.lt_of_lt_of_le (num_lt _) (Nat.pow_le_pow_right (by decide) ?_)
  rw [List.length_take]
  omega
theorem sumOk_msum {l : List UInt8} (h : 4 ≤ l.length) : sumOk l ↔ msum l = true := by
  unfold sumOk msum fld
  rw [List.take_of_length_le (l := l.drop (l.length - 4)) (by rw [List.length_drop]; omega), decide_eq_true_iff]
  exact eq_comm
theorem mform_held {B : List UInt8} (h : 24 ≤ B.length) : mform B = (heldOk (fld B 20 4) (B.drop 24) && decide (mcheck (mget B) = 0)) := by
  rw [Bool.eq_iff_iff, Bool.and_eq_true]
  unfold mform heldOk
  rw [decide_eq_true_iff, decide_eq_true_iff, decide_eq_true_iff, List.length_drop]
  constructor
  · rintro ⟨h1, h2, h3, h4⟩
    refine ⟨?_, h4⟩
    by_cases hf : fld B 20 4 = 1
    · exact .inl ⟨hf, (h2 hf).1, by have := (h2 hf).2; omega⟩
    · exact .inr ⟨by omega, by have := h3 (by omega); omega⟩
  · rintro ⟨h1 | h1, h4⟩
    · exact ⟨by omega, fun _ => ⟨h1.2.1, by omega⟩, fun e => absurd e (by omega), h4⟩
    · exact ⟨by omega, fun e => absurd e (by omega), fun _ => by omega, h4⟩
theorem mget_held {B : List UInt8} (h : 24 ≤ B.length) (hk : heldOk (fld B 20 4) (B.drop 24) = true) : mget B = ⟨(fld B 0 1 : Int), (fld B 1 1 : Int), (fld B 2 1 : Int), (fld B 4 4 : Int), (fld B 8 4 : Int), fld B 12 8, (fld B 3 1 : Int), decide (fld B 20 4 = 1), heldN (fld B 20 4) (B.drop 24)⟩ := by
  unfold mget
  rw [fld_byte (l := B) (i := 0) (by omega), fld_byte (l := B) (i := 1) (by omega), fld_byte (l := B) (i := 2) (by omega), fld_byte (l := B) (i := 3) (by omega)]
  refine Msg.ext' rfl rfl rfl rfl rfl rfl rfl rfl ?_
  show (if fld B 20 4 = 1 then _ else _) = heldN _ _
  unfold heldN
  rcases of_decide_eq_true hk with h1 | h1
  · rw [if_pos h1.1, if_pos h1]
  · rw [if_neg (by omega), if_neg (by omega)]
theorem fin12c {w0 w : World} {B : Nat} {a0 a1 a2 a3 a4 a5 a6 a7 a8 a9 a10 a11 : Value} {T : TypeId} (h : Blk w B #[a0, a1, a2, a3, a4, a5, a6, a7, a8, a9, a10, a11] T) (hb : Below w0.heap.size w0 w) (hB : w0.heap.size ≤ B) (u0 u1 u2 u3 u4 u5 u6 u7 u8 u9 u10 u11 : Value) :
    Blk (set12 w B u0 u1 u2 u3 u4 u5 u6 u7 u8 u9 u10 u11) B #[u0, u1, u2, u3, u4, u5, u6, u7, u8, u9, u10, u11] T ∧ Below w0.heap.size w0 (set12 w B u0 u1 u2 u3 u4 u5 u6 u7 u8 u9 u10 u11) := by
  refine ⟨?_, (fin12 h hb hB u0 u1 u2 u3 u4 u5 u6 u7 u8 u9 u10 u11).2.2.2.2.2.2.2.2.2.2.2.2.1⟩
  unfold set12
  have h1 := (((((h.set 0 u0).set 1 u1).set 2 u2).set 3 u3).set 4 u4).set 5 u5
  simp at h1
  have h2 := (((((h1.set 6 u6).set 7 u7).set 8 u8).set 9 u9).set 10 u10).set 11 u11
  simp at h2
  exact h2
theorem fin4c {w0 w : World} {B : Nat} {a0 a1 a2 a3 : Value} {T : TypeId} (h : Blk w B #[a0, a1, a2, a3] T) (hb : Below w0.heap.size w0 w) (hB : w0.heap.size ≤ B) (u0 u1 u2 u3 : Value) :
    Blk (set4 w B u0 u1 u2 u3) B #[u0, u1, u2, u3] T ∧ Below w0.heap.size w0 (set4 w B u0 u1 u2 u3) ∧ Kept (fun j => j = B) w (set4 w B u0 u1 u2 u3) := by
  refine ⟨?_, (fin4 h hb hB u0 u1 u2 u3).2.2.2.2.1, (fin4 h hb hB u0 u1 u2 u3).2.2.2.2.2⟩
  unfold set4
  have h1 := (((h.set 0 u0).set 1 u1).set 2 u2).set 3 u3
  simp at h1
  exact h1
/-- What Read leaves. -/
def WReadT (w : World) (l : List UInt8) (e : Ending) (w' : World) : Prop := ∃ x c, e = .returned (.tuple #[mval (mread l) (.slice x (mread l).n.data.length c), cerr (mcode l)]) ∧ IsF w' (.slice x (mread l).n.data.length c) (mread l).n.data ∧ (∀ b, liesB (.slice x (mread l).n.data.length c) (mread l).n.data b → w.heap.size ≤ b) ∧ Below w.heap.size w w'
theorem WReadT.bad {w w' : World} {l : List UInt8} {k : Nat} (hc : mcode l = k) (h0 : k ≠ 0) (hb : Below w.heap.size w w') : WReadT w l (.returned (.tuple #[.agg #[.int .i64 0, .int .i64 0, .int .i64 0, .int .i64 0, .int .i64 0, .int .u64 0, .int .i64 0, .bool false, .int .u64 0, .int .u32 0, .bool false, .slice none 0 0], err (k : Int)])) w' := by
  have e : mread l = mz := by unfold mread; rw [if_neg (by omega)]
  refine ⟨none, 0, ?_, ?_, ?_, hb⟩
  · rw [e, hc, cerr_pos h0]; rfl
  · rw [e]; exact IsF.nil w'
  · rw [e]; intro b h; exact absurd rfl h.1
set_option maxRecDepth 100000 in
set_option maxHeartbeats 1000000 in
theorem wread_short (v : Value) (l : List UInt8) (w : World) (hv : IsB w v l) (h : l.length < 28) :
    Calls Try.prog 34 #[v] w (WReadT w l) := by
  obtain ⟨N, hN⟩ : ∃ N, l.length = N := ⟨_, rfl⟩
  have hlen := fun W => len_B (P := Try.prog) hv hN 26 3 5 Try.underlying26 W
  have HT := Lib.hid (WReadT.bad (mcode_short h).1 (by decide) ((Below.refl w.heap.size w).alloc (Nat.le_refl _) (.cells #[.int .i64 0, .int .i64 0, .int .i64 0, .int .i64 0, .int .i64 0, .int .u64 0, .int .i64 0, .bool false, .int .u64 0, .int .u32 0, .bool false, .slice none 0 0] 43)))
  have hn : (N : Int) < 28 := by omega
  clear hv h hN
  go_enter Try.func34, Try.ntmps34
  go_wp2
  exact bodyPost_ret (v := .tuple #[.agg #[.int .i64 0, .int .i64 0, .int .i64 0, .int .i64 0, .int .i64 0, .int .u64 0, .int .i64 0, .bool false, .int .u64 0, .int .u32 0, .bool false, .slice none 0 0], err 3]) (by simp [results, Try.results34, go_sem]) rfl HT.out
set_option maxRecDepth 100000 in
set_option maxHeartbeats 1000000 in
theorem wread_sum (v : Value) (l : List UInt8) (w : World) (hv : IsB w v l) (hl : l.length ≤ 1099511627776) (h : 28 ≤ l.length) (hs : msum l = false) :
    Calls Try.prog 34 #[v] w (WReadT w l) := by
  have hcode : mcode l = 5 := by unfold mcode; rw [if_neg (by omega), if_pos hs]
  obtain ⟨N, hN⟩ : ∃ N, l.length = N := ⟨_, rfl⟩
  have hlen := fun W => len_B (P := Try.prog) hv hN 26 3 5 Try.underlying26 W
  have hB := (Below.refl w.heap.size w).alloc (Nat.le_refl _) (.cells #[.int .i64 0, .int .i64 0, .int .i64 0, .int .i64 0, .int .i64 0, .int .u64 0, .int .i64 0, .bool false, .int .u64 0, .int .u32 0, .bool false, .slice none 0 0] 43)
  have HT := Lib.hid (WReadT.bad hcode (by decide) hB)
  have hn : ¬ (N : Int) < 28 := by omega
  have HO := Lib.hid (open_bad v l (w.alloc (.cells #[.int .i64 0, .int .i64 0, .int .i64 0, .int .i64 0, .int .i64 0, .int .u64 0, .int .i64 0, .bool false, .int .u64 0, .int .u32 0, .bool false, .slice none 0 0] 43)) (hv.mono hB (Nat.le_refl _)) hl (by omega) (fun hh => by rw [(sumOk_msum (by omega)).1 hh] at hs; cases hs))
  clear hv h hN hl hs hcode hB
  go_enter Try.func34, Try.ntmps34
  go_wp2_with fail
  refine HO.out.mono ?_
  rintro e w2 ⟨rfl, rfl⟩
  go_wp2
  exact bodyPost_ret (v := .tuple #[.agg #[.int .i64 0, .int .i64 0, .int .i64 0, .int .i64 0, .int .i64 0, .int .u64 0, .int .i64 0, .bool false, .int .u64 0, .int .u32 0, .bool false, .slice none 0 0], err 5]) (by simp [results, Try.results34, go_sem]) rfl HT.out
set_option maxRecDepth 100000 in
set_option maxHeartbeats 8000000 in
theorem wread_main (v : Value) (l : List UInt8) (w : World) (hv : IsB w v l) (hl : l.length ≤ 1099511627776) (h : 28 ≤ l.length) (hs : msum l = true) :
    Calls Try.prog 34 #[v] w (WReadT w l) := by
  obtain ⟨N, hN⟩ : ∃ N, l.length = N := ⟨_, rfl⟩
  have hlen := fun W => len_B (P := Try.prog) hv hN 26 3 5 Try.underlying26 W
  have hB := (Below.refl w.heap.size w).alloc (Nat.le_refl _) (.cells #[.int .i64 0, .int .i64 0, .int .i64 0, .int .i64 0, .int .i64 0, .int .u64 0, .int .i64 0, .bool false, .int .u64 0, .int .u32 0, .bool false, .slice none 0 0] 43)
  have HB0 := Lib.hid hB
  have HR0 := Lib.hid (Blk.new w #[.int .i64 0, .int .i64 0, .int .i64 0, .int .i64 0, .int .i64 0, .int .u64 0, .int .i64 0, .bool false, .int .u64 0, .int .u32 0, .bool false, .slice none 0 0] 43)
  have hn : ¬ (N : Int) < 28 := by omega
  have HO := Lib.hid (open_ok v l (w.alloc (.cells #[.int .i64 0, .int .i64 0, .int .i64 0, .int .i64 0, .int .i64 0, .int .u64 0, .int .i64 0, .bool false, .int .u64 0, .int .u32 0, .bool false, .slice none 0 0] 43)) (hv.mono hB (Nat.le_refl _)) hl (by omega) ((sumOk_msum (by omega)).2 hs))
  obtain ⟨B, hBe⟩ : ∃ B, l.take (l.length - 4) = B := ⟨_, rfl⟩
  have hBL : B.length = N - 4 := by rw [← hBe, List.length_take]; omega
  have hcode : mcode l = if mform B = false then 4 else 0 := by
    unfold mcode
    rw [if_neg (by omega), if_neg (by rw [hs]; simp), hBe]
  have hread : mcode l = 0 → mread l = mget B := fun e => by unfold mread; rw [if_pos e, hBe]
  rw [hBe, hN] at HO
  have hB24 : 24 ≤ B.length := by omega
  have hBl : B.length ≤ 1099511627776 := by omega
  have hmf := mform_held hB24
  have hmg := fun h => mget_held hB24 h
  obtain ⟨f0, hf0⟩ : ∃ f, fld B 0 1 = f := ⟨_, rfl⟩
  have b0 : f0 < 256 := by rw [← hf0]; exact fldk_lt B 0 1
  obtain ⟨f1, hf1⟩ : ∃ f, fld B 1 1 = f := ⟨_, rfl⟩
  have b1 : f1 < 256 := by rw [← hf1]; exact fldk_lt B 1 1
  obtain ⟨f2, hf2⟩ : ∃ f, fld B 2 1 = f := ⟨_, rfl⟩
  have b2 : f2 < 256 := by rw [← hf2]; exact fldk_lt B 2 1
  obtain ⟨f3, hf3⟩ : ∃ f, fld B 3 1 = f := ⟨_, rfl⟩
  have b3 : f3 < 256 := by rw [← hf3]; exact fldk_lt B 3 1
  obtain ⟨f4, hf4⟩ : ∃ f, fld B 4 4 = f := ⟨_, rfl⟩
  have b4 : f4 < 4294967296 := by rw [← hf4]; exact fldk_lt B 4 4
  obtain ⟨f8, hf8⟩ : ∃ f, fld B 8 4 = f := ⟨_, rfl⟩
  have b8 : f8 < 4294967296 := by rw [← hf8]; exact fldk_lt B 8 4
  obtain ⟨f12, hf12⟩ : ∃ f, fld B 12 8 = f := ⟨_, rfl⟩
  have b12 : f12 < 18446744073709551616 := by rw [← hf12]; exact fldk_lt B 12 8
  obtain ⟨f20, hf20⟩ : ∃ f, fld B 20 4 = f := ⟨_, rfl⟩
  have b20 : f20 < 4294967296 := by rw [← hf20]; exact fldk_lt B 20 4
  rw [hf20] at hmf hmg
  rw [hf0, hf1, hf2, hf3, hf4, hf8, hf12] at hmg
  obtain ⟨OK, hOK⟩ : ∃ b, heldOk f20 (B.drop 24) = b := ⟨_, rfl⟩
  obtain ⟨HN, hHN⟩ : ∃ n, heldN f20 (B.drop 24) = n := ⟨_, rfl⟩
  rw [hOK] at hmf hmg
  rw [hHN] at hmg
  obtain ⟨hb, hhb⟩ : ∃ b, ((f20 : Int) == 1) = b := ⟨_, rfl⟩
  have hhd : decide (f20 = 1) = hb := by rw [← hhb, Bool.eq_iff_iff]; simp; omega
  rw [hhd] at hmg
  obtain ⟨rk, rc, rg, rd⟩ := HN
  obtain ⟨RL, hRL⟩ : ∃ R, rd.length = R := ⟨_, rfl⟩
  have e0 : IntKind.i64.wrap (f0 : Int) = (f0 : Int) := IntWalk.i64_in _ (by omega)
  have e1 : IntKind.i64.wrap (f1 : Int) = (f1 : Int) := IntWalk.i64_in _ (by omega)
  have e2 : IntKind.i64.wrap (f2 : Int) = (f2 : Int) := IntWalk.i64_in _ (by omega)
  have e3 : IntKind.i64.wrap (f3 : Int) = (f3 : Int) := IntWalk.i64_in _ (by omega)
  have e4 : IntKind.i64.wrap (f4 : Int) = (f4 : Int) := IntWalk.i64_in _ (by omega)
  have e8 : IntKind.i64.wrap (f8 : Int) = (f8 : Int) := IntWalk.i64_in _ (by omega)
  have HMF := Lib.hid hmf
  have HMG := Lib.hid hmg
  have HCODE := Lib.hid hcode
  have HREAD := Lib.hid hread
  have HRL := Lib.hid hRL
  have HOW := Lib.hid hBL
  have HBl := Lib.hid hBl
  have HB24 := Lib.hid hB24
  have HFS := Lib.hid (And.intro hf0 (And.intro hf1 (And.intro hf2 (And.intro hf3 (And.intro hf4 (And.intro hf8 (And.intro hf12 hf20)))))))
  have HOK := Lib.hid hOK
  have HHN := Lib.hid hHN
  clear hv hl hN hs hBe hBL hcode hread hB24 hBl hmf hmg hf0 hf1 hf2 hf3 hf4 hf8 hf12 hf20 hOK hHN hhd b0 b1 b2 b3 b4 b8 b12 b20 hRL h hB
  go_enter Try.func34, Try.ntmps34
  go_wp2_with fail
  refine HO.out.mono ?_
  rintro e w3 ⟨bv, rfl, hown3, hb3⟩
  have HR3 := Lib.hid (HR0.out.below hb3 HR0.out.lt)
  have HB3 := Lib.hid (HB0.out.trans (hb3.mono HB0.out.size))
  have HIB := Lib.hid (show IsB w3 bv B from IsB.own hown3 HOW.out.symm)
  have HW3 := Lib.hid (show w.heap.size + 1 ≤ w3.heap.size from HR3.out.lt)
  clear hown3 hb3
  go_upto_region 6 with fail
  have hBl := HBl.out
  have hB24 := HB24.out
  obtain ⟨hf0, hf1, hf2, hf3, hf4, hf8, hf12, hf20⟩ := HFS.out
  have HA0 := Lib.hid (fun wx (hb : Below w3.heap.size w3 wx) => show Calls Try.prog 47 #[bv, .int .i64 0, .int .i64 1] wx (fun e w' => e = .returned (.int .u64 (f0 : Int)) ∧ wx = w') by
    have := wat_any bv B 0 1 wx (.inl rfl) (HIB.out.mono hb (Nat.le_refl _)) (by omega) (by omega)
    rw [hf0] at this
    exact this)
  have HA1 := Lib.hid (fun wx (hb : Below w3.heap.size w3 wx) => show Calls Try.prog 47 #[bv, .int .i64 1, .int .i64 1] wx (fun e w' => e = .returned (.int .u64 (f1 : Int)) ∧ wx = w') by
    have := wat_any bv B 1 1 wx (.inl rfl) (HIB.out.mono hb (Nat.le_refl _)) (by omega) (by omega)
    rw [hf1] at this
    exact this)
  have HA2 := Lib.hid (fun wx (hb : Below w3.heap.size w3 wx) => show Calls Try.prog 47 #[bv, .int .i64 2, .int .i64 1] wx (fun e w' => e = .returned (.int .u64 (f2 : Int)) ∧ wx = w') by
    have := wat_any bv B 2 1 wx (.inl rfl) (HIB.out.mono hb (Nat.le_refl _)) (by omega) (by omega)
    rw [hf2] at this
    exact this)
  have HA3 := Lib.hid (fun wx (hb : Below w3.heap.size w3 wx) => show Calls Try.prog 47 #[bv, .int .i64 3, .int .i64 1] wx (fun e w' => e = .returned (.int .u64 (f3 : Int)) ∧ wx = w') by
    have := wat_any bv B 3 1 wx (.inl rfl) (HIB.out.mono hb (Nat.le_refl _)) (by omega) (by omega)
    rw [hf3] at this
    exact this)
  have HA4 := Lib.hid (fun wx (hb : Below w3.heap.size w3 wx) => show Calls Try.prog 47 #[bv, .int .i64 4, .int .i64 4] wx (fun e w' => e = .returned (.int .u64 (f4 : Int)) ∧ wx = w') by
    have := wat_any bv B 4 4 wx (.inr (.inr (.inl rfl))) (HIB.out.mono hb (Nat.le_refl _)) (by omega) (by omega)
    rw [hf4] at this
    exact this)
  have HA8 := Lib.hid (fun wx (hb : Below w3.heap.size w3 wx) => show Calls Try.prog 47 #[bv, .int .i64 8, .int .i64 4] wx (fun e w' => e = .returned (.int .u64 (f8 : Int)) ∧ wx = w') by
    have := wat_any bv B 8 4 wx (.inr (.inr (.inl rfl))) (HIB.out.mono hb (Nat.le_refl _)) (by omega) (by omega)
    rw [hf8] at this
    exact this)
  have HA12 := Lib.hid (fun wx (hb : Below w3.heap.size w3 wx) => show Calls Try.prog 47 #[bv, .int .i64 12, .int .i64 8] wx (fun e w' => e = .returned (.int .u64 (f12 : Int)) ∧ wx = w') by
    have := wat_any bv B 12 8 wx (.inr (.inr (.inr rfl))) (HIB.out.mono hb (Nat.le_refl _)) (by omega) (by omega)
    rw [hf12] at this
    exact this)
  have HA20 := Lib.hid (fun wx (hb : Below w3.heap.size w3 wx) => show Calls Try.prog 47 #[bv, .int .i64 20, .int .i64 4] wx (fun e w' => e = .returned (.int .u64 (f20 : Int)) ∧ wx = w') by
    have := wat_any bv B 20 4 wx (.inr (.inr (.inl rfl))) (HIB.out.mono hb (Nat.le_refl _)) (by omega) (by omega)
    rw [hf20] at this
    exact this)
  obtain ⟨s24, r24, i24⟩ := slice_l_B (P := Try.prog) HIB.out 26 5 Try.underlying26 Try.sizeU8 24 hB24
  have r24 : ∀ W, (Instr.slice 26 bv (some (.int .i64 24)) none none).run Try.prog W = .ok s24 W := r24
  have HHD := Lib.hid (fun wx (hb : Below w3.heap.size w3 wx) => show Calls Try.prog 46 #[.int .u64 (f20 : Int), s24] wx (fun e w' => ∃ x c, e = .returned (.tuple #[.agg #[.int .u64 (rk : Int), .int .u32 (rc : Int), .bool rg, .slice x RL c], .bool OK]) ∧ IsF w' (.slice x RL c) rd ∧ (∀ b, liesB (.slice x RL c) rd b → wx.heap.size ≤ b) ∧ Below wx.heap.size wx w') by
    have := held_any f20 s24 (B.drop 24) wx (i24.mono hb (Nat.le_refl _)) (by rw [List.length_drop]; omega)
    unfold HeldT at this
    rw [HHN.out, HOK.out] at this
    dsimp only at this
    rw [HRL.out] at this
    exact this)
  clear i24 hf0 hf1 hf2 hf3 hf4 hf8 hf12 hf20 hBl hB24
  go_cut [5, 6] from 22 to 29 (fun x5 x6 wx => ∃ A x c, x5 = .pointer (some ⟨A, 0, none⟩) ∧ x6 = .bool OK ∧ Hid (Blk wx A #[.int .u64 (rk : Int), .int .u32 (rc : Int), .bool rg, .slice x RL c] 41) ∧ Hid (IsF wx (.slice x RL c) rd) ∧ Hid (∀ b, liesB (.slice x RL c) rd b → w.heap.size + 1 ≤ b) ∧ Hid (Below w3.heap.size w3 wx))
  case first =>
    refine wp_region_held_drew (S := (fun _ => True)) (by kernel_rfl) (trivial) (fun hHeld => ?_)
    have U0 := Lib.hid ((Below.refl w3.heap.size w3).drew)
    obtain ⟨q0, hq0⟩ : ∃ q, w3.drew = q := ⟨_, rfl⟩
    rw [hq0] at U0
    try rw [hq0]
    clear hq0
    refine wpAnyH_take (i := 0) (v := ?_) rfl (by kernel_rfl) (by kernel_rfl) (by kernel_rfl) (fun _ _ _ h => h) (Or.inl ⟨by rfl, ?_⟩) (by assumption) ?_
    rotate_left 1
    · intro w hSw
      (try dsimp only at hSw)
      go_simp
      all_goals (with_reducible rfl)
    try simp only [Act.put, List.getElem_toArray, List.getElem_cons_zero, List.getElem_cons_succ, List.setIfInBounds_toArray, List.set_cons_zero, List.set_cons_succ]
    refine wpAnyH_take (i := 2) (v := ?_) rfl (by kernel_rfl) (by kernel_rfl) (by kernel_rfl) (fun _ _ _ h => h) (Or.inl ⟨by rfl, ?_⟩) (by assumption) ?_
    rotate_left 1
    · intro w hSw
      (try dsimp only at hSw)
      go_simp
      all_goals (with_reducible rfl)
    try simp only [Act.put, List.getElem_toArray, List.getElem_cons_zero, List.getElem_cons_succ, List.setIfInBounds_toArray, List.set_cons_zero, List.set_cons_succ]
    refine wpAnyH_take (i := 3) (v := ?_) rfl (by kernel_rfl) (by kernel_rfl) (by kernel_rfl) (fun _ _ _ h => h) (Or.inl ⟨by rfl, ?_⟩) (by assumption) ?_
    rotate_left 1
    · intro w hSw
      (try dsimp only at hSw)
      go_simp
      all_goals (with_reducible rfl)
    try simp only [Act.put, List.getElem_toArray, List.getElem_cons_zero, List.getElem_cons_succ, List.setIfInBounds_toArray, List.set_cons_zero, List.set_cons_succ]
    refine wpAnyH_ready (rs := [1, 8]) (by kernel_rfl) (by simp) ?_
    refine AllReadyH.cons rfl (fun K hK => ?_) ?_
    · go_simp
      go_at_call 47
      refine (HA20.out _ U0.out).mono ?_
      rintro e w' ⟨rfl, rfl⟩
      go_wp2_with fail
      refine hK.out _ _ (trivial) (fun hHeld => ?_)
      clear hK K
      try simp only [Act.put, List.getElem_toArray, List.getElem_cons_zero, List.getElem_cons_succ, List.setIfInBounds_toArray, List.set_cons_zero, List.set_cons_succ]
      refine wpAnyH_ready (rs := [4, 8]) (by kernel_rfl) (by simp) ?_
      refine AllReadyH.cons rfl (fun K hK => ?_) ?_
      · go_simp
        go_at_call 46
        refine (HHD.out _ U0.out).mono ?_
        rintro e w5 ⟨x, c, rfl, hi5, hl5, hb5⟩
        go_wp2_with fail
        refine hK.out _ _ (trivial) (fun hHeld => ?_)
        clear hK K
        try simp only [Act.put, List.getElem_toArray, List.getElem_cons_zero, List.getElem_cons_succ, List.setIfInBounds_toArray, List.set_cons_zero, List.set_cons_succ]
        refine wpAnyH_take (i := 5) (v := ?_) rfl (by kernel_rfl) (by kernel_rfl) (by kernel_rfl) (fun _ _ _ h => h) (Or.inl ⟨by rfl, ?_⟩) (by assumption) ?_
        rotate_left 1
        · intro w hSw
          (try dsimp only at hSw)
          go_simp
          all_goals (with_reducible rfl)
        try simp only [Act.put, List.getElem_toArray, List.getElem_cons_zero, List.getElem_cons_succ, List.setIfInBounds_toArray, List.set_cons_zero, List.set_cons_succ]
        refine wpAnyH_take (i := 6) (v := ?_) rfl (by kernel_rfl) (by kernel_rfl) (by kernel_rfl) (fun _ _ _ h => h) (Or.inl ⟨by rfl, ?_⟩) (by assumption) ?_
        rotate_left 1
        · intro w hSw
          (try dsimp only at hSw)
          go_simp
          all_goals (with_reducible rfl)
        try simp only [Act.put, List.getElem_toArray, List.getElem_cons_zero, List.getElem_cons_succ, List.setIfInBounds_toArray, List.set_cons_zero, List.set_cons_succ]
        refine wpAnyH_take (i := 7) (v := ?_) rfl (by kernel_rfl) (by kernel_rfl) (by kernel_rfl) (fun _ _ _ h => h) (Or.inl ⟨by rfl, ?_⟩) (by assumption) ?_
        rotate_left 1
        · intro w hSw
          (try dsimp only at hSw)
          go_simp
          all_goals (with_reducible rfl)
        try simp only [Act.put, List.getElem_toArray, List.getElem_cons_zero, List.getElem_cons_succ, List.setIfInBounds_toArray, List.set_cons_zero, List.set_cons_succ]
        refine wpAnyH_ready (rs := [8]) (by kernel_rfl) (by simp) ?_
        refine AllReadyH.cons rfl (fun K hK => ?_) AllReadyH.nil
        go_simp
        have hN6 := Blk.new w5 #[.int .u64 0, .int .u32 0, .bool false, .slice none 0 0] 41
        obtain ⟨w6, hnew⟩ : ∃ z, w5.alloc (.cells #[.int .u64 0, .int .u32 0, .bool false, .slice none 0 0] 41) = z := ⟨_, rfl⟩
        obtain ⟨A, hA⟩ : ∃ A, w5.heap.size = A := ⟨_, rfl⟩
        rw [hnew, hA] at hN6
        have hBn := below_new14 w5 (.cells #[.int .u64 0, .int .u32 0, .bool false, .slice none 0 0] 41)
        rw [hnew] at hBn
        have hsz : w6.heap.size = A + 1 := by rw [← hnew, ← hA]; simp
        try rw [hnew]
        try rw [hA]
        have HN6 := Lib.hid hN6
        have HBn := Lib.hid hBn
        have HAe := Lib.hid hA
        have HSZ := Lib.hid hsz
        clear hnew hA hN6 hBn hsz
        refine hK.out _ _ (trivial) (fun hHeld => ?_)
        clear hK K
        try simp only [Act.put, List.getElem_toArray, List.getElem_cons_zero, List.getElem_cons_succ, List.setIfInBounds_toArray, List.set_cons_zero, List.set_cons_succ]
        have FIN0 := Lib.hid (fin4c HN6.out HBn.out (Nat.le_of_eq HAe.out) (.int .u64 (rk : Int)) (.int .u32 (rc : Int)) (.bool rg) (.slice x RL c))
        have z0 := HN6.out.cell 0 rfl
        have z1 := HN6.out.cell 1 rfl
        have z2 := HN6.out.cell 2 rfl
        have z3 := HN6.out.cell 3 rfl
        have zf := fun j => HN6.out.free j
        have FIN := FIN0.out
        unfold set4 at FIN
        have FIN := Lib.hid FIN
        refine wpAnyH_ready (rs := [9]) (by kernel_rfl) (by simp) ?_
        refine AllReadyH.cons rfl (fun K hK => ?_) AllReadyH.nil
        go_simp
        refine hK.out _ _ (trivial) (fun hHeld => ?_)
        clear hK K
        try simp only [Act.put, List.getElem_toArray, List.getElem_cons_zero, List.getElem_cons_succ, List.setIfInBounds_toArray, List.set_cons_zero, List.set_cons_succ]
        refine wpAnyH_take (i := 10) (v := ?_) rfl (by kernel_rfl) (by kernel_rfl) (by kernel_rfl) (fun _ _ _ h => h) (Or.inl ⟨by rfl, ?_⟩) (by assumption) ?_
        rotate_left 1
        · intro w hSw
          (try dsimp only at hSw)
          go_simp
          all_goals (with_reducible rfl)
        try simp only [Act.put, List.getElem_toArray, List.getElem_cons_zero, List.getElem_cons_succ, List.setIfInBounds_toArray, List.set_cons_zero, List.set_cons_succ]
        refine wpAnyH_done (by kernel_rfl) ?_ _
        go_wp2_with fail
        go_meet
        exact ⟨A, x, c, rfl, rfl, Lib.hid FIN.out.1, Lib.hid (hi5.mono FIN.out.2.1 (Nat.le_refl _)), Lib.hid (fun b h => Nat.le_trans HW3.out (Nat.le_trans U0.out.size (hl5 b h))), Lib.hid ((U0.out.trans (hb5.mono U0.out.size)).trans (FIN.out.2.1.mono (Nat.le_trans U0.out.size hb5.size)))⟩
      refine AllReadyH.cons rfl (fun K hK => ?_) AllReadyH.nil
      go_simp
      have hN6 := Blk.new q0 #[.int .u64 0, .int .u32 0, .bool false, .slice none 0 0] 41
      obtain ⟨q1, hnew⟩ : ∃ z, q0.alloc (.cells #[.int .u64 0, .int .u32 0, .bool false, .slice none 0 0] 41) = z := ⟨_, rfl⟩
      obtain ⟨A, hA⟩ : ∃ A, q0.heap.size = A := ⟨_, rfl⟩
      rw [hnew, hA] at hN6
      have hBn := below_new14 q0 (.cells #[.int .u64 0, .int .u32 0, .bool false, .slice none 0 0] 41)
      rw [hnew] at hBn
      have hsz : q1.heap.size = A + 1 := by rw [← hnew, ← hA]; simp
      try rw [hnew]
      try rw [hA]
      have HN6 := Lib.hid hN6
      have HBn := Lib.hid hBn
      have HAe := Lib.hid hA
      have HSZ := Lib.hid hsz
      clear hnew hA hN6 hBn hsz
      refine hK.out _ _ (trivial) (fun hHeld => ?_)
      clear hK K
      try simp only [Act.put, List.getElem_toArray, List.getElem_cons_zero, List.getElem_cons_succ, List.setIfInBounds_toArray, List.set_cons_zero, List.set_cons_succ]
      have U1 := Lib.hid (U0.out.trans (HBn.out.mono U0.out.size))
      refine wpAnyH_ready (rs := [4]) (by kernel_rfl) (by simp) ?_
      refine AllReadyH.cons rfl (fun K hK => ?_) AllReadyH.nil
      go_simp
      go_at_call 46
      refine (HHD.out _ U1.out).mono ?_
      rintro e w5 ⟨x, c, rfl, hi5, hl5, hb5⟩
      go_wp2_with fail
      refine hK.out _ _ (trivial) (fun hHeld => ?_)
      clear hK K
      try simp only [Act.put, List.getElem_toArray, List.getElem_cons_zero, List.getElem_cons_succ, List.setIfInBounds_toArray, List.set_cons_zero, List.set_cons_succ]
      refine wpAnyH_take (i := 5) (v := ?_) rfl (by kernel_rfl) (by kernel_rfl) (by kernel_rfl) (fun _ _ _ h => h) (Or.inl ⟨by rfl, ?_⟩) (by assumption) ?_
      rotate_left 1
      · intro w hSw
        (try dsimp only at hSw)
        go_simp
        all_goals (with_reducible rfl)
      try simp only [Act.put, List.getElem_toArray, List.getElem_cons_zero, List.getElem_cons_succ, List.setIfInBounds_toArray, List.set_cons_zero, List.set_cons_succ]
      refine wpAnyH_take (i := 6) (v := ?_) rfl (by kernel_rfl) (by kernel_rfl) (by kernel_rfl) (fun _ _ _ h => h) (Or.inl ⟨by rfl, ?_⟩) (by assumption) ?_
      rotate_left 1
      · intro w hSw
        (try dsimp only at hSw)
        go_simp
        all_goals (with_reducible rfl)
      try simp only [Act.put, List.getElem_toArray, List.getElem_cons_zero, List.getElem_cons_succ, List.setIfInBounds_toArray, List.set_cons_zero, List.set_cons_succ]
      refine wpAnyH_take (i := 7) (v := ?_) rfl (by kernel_rfl) (by kernel_rfl) (by kernel_rfl) (fun _ _ _ h => h) (Or.inl ⟨by rfl, ?_⟩) (by assumption) ?_
      rotate_left 1
      · intro w hSw
        (try dsimp only at hSw)
        go_simp
        all_goals (with_reducible rfl)
      try simp only [Act.put, List.getElem_toArray, List.getElem_cons_zero, List.getElem_cons_succ, List.setIfInBounds_toArray, List.set_cons_zero, List.set_cons_succ]
      have HN7 := Lib.hid (HN6.out.below hb5 HN6.out.lt)
      have FIN0 := Lib.hid (fin4c HN7.out (HBn.out.trans (hb5.mono HBn.out.size)) (Nat.le_of_eq HAe.out) (.int .u64 (rk : Int)) (.int .u32 (rc : Int)) (.bool rg) (.slice x RL c))
      have z0 := HN7.out.cell 0 rfl
      have z1 := HN7.out.cell 1 rfl
      have z2 := HN7.out.cell 2 rfl
      have z3 := HN7.out.cell 3 rfl
      have zf := fun j => HN7.out.free j
      have FIN := FIN0.out
      unfold set4 at FIN
      have FIN := Lib.hid FIN
      refine wpAnyH_ready (rs := [9]) (by kernel_rfl) (by simp) ?_
      refine AllReadyH.cons rfl (fun K hK => ?_) AllReadyH.nil
      go_simp
      refine hK.out _ _ (trivial) (fun hHeld => ?_)
      clear hK K
      try simp only [Act.put, List.getElem_toArray, List.getElem_cons_zero, List.getElem_cons_succ, List.setIfInBounds_toArray, List.set_cons_zero, List.set_cons_succ]
      refine wpAnyH_take (i := 10) (v := ?_) rfl (by kernel_rfl) (by kernel_rfl) (by kernel_rfl) (fun _ _ _ h => h) (Or.inl ⟨by rfl, ?_⟩) (by assumption) ?_
      rotate_left 1
      · intro w hSw
        (try dsimp only at hSw)
        go_simp
        all_goals (with_reducible rfl)
      try simp only [Act.put, List.getElem_toArray, List.getElem_cons_zero, List.getElem_cons_succ, List.setIfInBounds_toArray, List.set_cons_zero, List.set_cons_succ]
      refine wpAnyH_done (by kernel_rfl) ?_ _
      go_wp2_with fail
      go_meet
      exact ⟨A, x, c, rfl, rfl, Lib.hid FIN.out.1, Lib.hid (hi5.kept FIN.out.2.2 (fun b h e => by have h1 := hl5 b h; rw [HSZ.out] at h1; omega)), Lib.hid (fun b h => Nat.le_trans HW3.out (Nat.le_trans U1.out.size (hl5 b h))), Lib.hid (U0.out.trans (FIN.out.2.1.mono U0.out.size))⟩
    refine AllReadyH.cons rfl (fun K hK => ?_) AllReadyH.nil
    go_simp
    have hN6 := Blk.new q0 #[.int .u64 0, .int .u32 0, .bool false, .slice none 0 0] 41
    obtain ⟨q1, hnew⟩ : ∃ z, q0.alloc (.cells #[.int .u64 0, .int .u32 0, .bool false, .slice none 0 0] 41) = z := ⟨_, rfl⟩
    obtain ⟨A, hA⟩ : ∃ A, q0.heap.size = A := ⟨_, rfl⟩
    rw [hnew, hA] at hN6
    have hBn := below_new14 q0 (.cells #[.int .u64 0, .int .u32 0, .bool false, .slice none 0 0] 41)
    rw [hnew] at hBn
    have hsz : q1.heap.size = A + 1 := by rw [← hnew, ← hA]; simp
    try rw [hnew]
    try rw [hA]
    have HN6 := Lib.hid hN6
    have HBn := Lib.hid hBn
    have HAe := Lib.hid hA
    have HSZ := Lib.hid hsz
    clear hnew hA hN6 hBn hsz
    refine hK.out _ _ (trivial) (fun hHeld => ?_)
    clear hK K
    try simp only [Act.put, List.getElem_toArray, List.getElem_cons_zero, List.getElem_cons_succ, List.setIfInBounds_toArray, List.set_cons_zero, List.set_cons_succ]
    have U1 := Lib.hid (U0.out.trans (HBn.out.mono U0.out.size))
    refine wpAnyH_ready (rs := [1]) (by kernel_rfl) (by simp) ?_
    refine AllReadyH.cons rfl (fun K hK => ?_) AllReadyH.nil
    go_simp
    go_at_call 47
    refine (HA20.out _ U1.out).mono ?_
    rintro e w' ⟨rfl, rfl⟩
    go_wp2_with fail
    refine hK.out _ _ (trivial) (fun hHeld => ?_)
    clear hK K
    try simp only [Act.put, List.getElem_toArray, List.getElem_cons_zero, List.getElem_cons_succ, List.setIfInBounds_toArray, List.set_cons_zero, List.set_cons_succ]
    refine wpAnyH_ready (rs := [4]) (by kernel_rfl) (by simp) ?_
    refine AllReadyH.cons rfl (fun K hK => ?_) AllReadyH.nil
    go_simp
    go_at_call 46
    refine (HHD.out _ U1.out).mono ?_
    rintro e w5 ⟨x, c, rfl, hi5, hl5, hb5⟩
    go_wp2_with fail
    refine hK.out _ _ (trivial) (fun hHeld => ?_)
    clear hK K
    try simp only [Act.put, List.getElem_toArray, List.getElem_cons_zero, List.getElem_cons_succ, List.setIfInBounds_toArray, List.set_cons_zero, List.set_cons_succ]
    refine wpAnyH_take (i := 5) (v := ?_) rfl (by kernel_rfl) (by kernel_rfl) (by kernel_rfl) (fun _ _ _ h => h) (Or.inl ⟨by rfl, ?_⟩) (by assumption) ?_
    rotate_left 1
    · intro w hSw
      (try dsimp only at hSw)
      go_simp
      all_goals (with_reducible rfl)
    try simp only [Act.put, List.getElem_toArray, List.getElem_cons_zero, List.getElem_cons_succ, List.setIfInBounds_toArray, List.set_cons_zero, List.set_cons_succ]
    refine wpAnyH_take (i := 6) (v := ?_) rfl (by kernel_rfl) (by kernel_rfl) (by kernel_rfl) (fun _ _ _ h => h) (Or.inl ⟨by rfl, ?_⟩) (by assumption) ?_
    rotate_left 1
    · intro w hSw
      (try dsimp only at hSw)
      go_simp
      all_goals (with_reducible rfl)
    try simp only [Act.put, List.getElem_toArray, List.getElem_cons_zero, List.getElem_cons_succ, List.setIfInBounds_toArray, List.set_cons_zero, List.set_cons_succ]
    refine wpAnyH_take (i := 7) (v := ?_) rfl (by kernel_rfl) (by kernel_rfl) (by kernel_rfl) (fun _ _ _ h => h) (Or.inl ⟨by rfl, ?_⟩) (by assumption) ?_
    rotate_left 1
    · intro w hSw
      (try dsimp only at hSw)
      go_simp
      all_goals (with_reducible rfl)
    try simp only [Act.put, List.getElem_toArray, List.getElem_cons_zero, List.getElem_cons_succ, List.setIfInBounds_toArray, List.set_cons_zero, List.set_cons_succ]
    have HN7 := Lib.hid (HN6.out.below hb5 HN6.out.lt)
    have FIN0 := Lib.hid (fin4c HN7.out (HBn.out.trans (hb5.mono HBn.out.size)) (Nat.le_of_eq HAe.out) (.int .u64 (rk : Int)) (.int .u32 (rc : Int)) (.bool rg) (.slice x RL c))
    have z0 := HN7.out.cell 0 rfl
    have z1 := HN7.out.cell 1 rfl
    have z2 := HN7.out.cell 2 rfl
    have z3 := HN7.out.cell 3 rfl
    have zf := fun j => HN7.out.free j
    have FIN := FIN0.out
    unfold set4 at FIN
    have FIN := Lib.hid FIN
    refine wpAnyH_ready (rs := [9]) (by kernel_rfl) (by simp) ?_
    refine AllReadyH.cons rfl (fun K hK => ?_) AllReadyH.nil
    go_simp
    refine hK.out _ _ (trivial) (fun hHeld => ?_)
    clear hK K
    try simp only [Act.put, List.getElem_toArray, List.getElem_cons_zero, List.getElem_cons_succ, List.setIfInBounds_toArray, List.set_cons_zero, List.set_cons_succ]
    refine wpAnyH_take (i := 10) (v := ?_) rfl (by kernel_rfl) (by kernel_rfl) (by kernel_rfl) (fun _ _ _ h => h) (Or.inl ⟨by rfl, ?_⟩) (by assumption) ?_
    rotate_left 1
    · intro w hSw
      (try dsimp only at hSw)
      go_simp
      all_goals (with_reducible rfl)
    try simp only [Act.put, List.getElem_toArray, List.getElem_cons_zero, List.getElem_cons_succ, List.setIfInBounds_toArray, List.set_cons_zero, List.set_cons_succ]
    refine wpAnyH_done (by kernel_rfl) ?_ _
    go_wp2_with fail
    go_meet
    exact ⟨A, x, c, rfl, rfl, Lib.hid FIN.out.1, Lib.hid (hi5.kept FIN.out.2.2 (fun b h e => by have h1 := hl5 b h; rw [HSZ.out] at h1; omega)), Lib.hid (fun b h => Nat.le_trans HW3.out (Nat.le_trans U1.out.size (hl5 b h))), Lib.hid (U0.out.trans (FIN.out.2.1.mono U0.out.size))⟩
  case rest =>
    obtain ⟨A, x, c, rfl, rfl, HA, HI4, HL4, HB4⟩ := hcut
    obtain ⟨w4, hw4⟩ : ∃ w4, w4 = wc := ⟨_, rfl⟩
    subst hw4
    have HR4 := Lib.hid (HR3.out.below HB4.out (Nat.lt_of_succ_le HW3.out))
    have HBA := Lib.hid (HB3.out.trans (HB4.out.mono HB3.out.size))
    cases OK with
    | false =>
      have HT := Lib.hid (fun w' (hb : Below w.heap.size w w') => WReadT.bad (l := l) (w := w) (w' := w') (k := 4) (by rw [HCODE.out, if_pos (by rw [HMF.out]; rfl)]) (by decide) hb)
      have hF := fin12 HR4.out HBA.out (Nat.le_refl _) (.int .i64 0) (.int .i64 0) (.int .i64 0) (.int .i64 0) (.int .i64 0) (.int .u64 0) (.int .i64 0) (.bool false) (.int .u64 0) (.int .u32 0) (.bool false) (.slice none 0 0)
      unfold set12 at hF
      have HF := Lib.hid hF
      have r0 := HR4.out.cell 0 rfl
      have r1 := HR4.out.cell 1 rfl
      have r2 := HR4.out.cell 2 rfl
      have r3 := HR4.out.cell 3 rfl
      have r4 := HR4.out.cell 4 rfl
      have r5 := HR4.out.cell 5 rfl
      have r6 := HR4.out.cell 6 rfl
      have r7 := HR4.out.cell 7 rfl
      have r8 := HR4.out.cell 8 rfl
      have r9 := HR4.out.cell 9 rfl
      have r10 := HR4.out.cell 10 rfl
      have r11 := HR4.out.cell 11 rfl
      have rf := fun j => HR4.out.free j
      clear hF
      go_wp2
      obtain ⟨j0, j1, j2, j3, j4, j5, j6, j7, j8, j9, j10, j11, jb, jk⟩ := HF.out
      exact bodyPost_ret (v := .tuple #[.agg #[.int .i64 0, .int .i64 0, .int .i64 0, .int .i64 0, .int .i64 0, .int .u64 0, .int .i64 0, .bool false, .int .u64 0, .int .u32 0, .bool false, .slice none 0 0], err 4]) (by simp [results, Try.results34, go_sem, j0, j1, j2, j3, j4, j5, j6, j7, j8, j9, j10, j11]) rfl (HT.out _ jb)
    | true =>
      have HMG1 := Lib.hid (HMG.out rfl)
      clear HMG
      have HS := Lib.hid (show ∀ wx, Below w4.heap.size w4 wx → (fun wx => wx.cell? ⟨A, 0, none⟩ = some (.int .u64 (rk : Int)) ∧ wx.cell? ⟨A, 1, none⟩ = some (.int .u32 (rc : Int)) ∧ wx.cell? ⟨A, 2, none⟩ = some (.bool rg) ∧ wx.cell? ⟨A, 3, none⟩ = some (.slice x RL c)) wx from fun wx hb => by
        have h1 := HA.out.below hb HA.out.lt
        exact ⟨h1.cell 0 rfl, h1.cell 1 rfl, h1.cell 2 rfl, h1.cell 3 rfl⟩)
      have HA0 := Lib.hid (fun wx (hb : Below w4.heap.size w4 wx) => HA0.out wx (HB4.out.trans (hb.mono HB4.out.size)))
      have HA1 := Lib.hid (fun wx (hb : Below w4.heap.size w4 wx) => HA1.out wx (HB4.out.trans (hb.mono HB4.out.size)))
      have HA2 := Lib.hid (fun wx (hb : Below w4.heap.size w4 wx) => HA2.out wx (HB4.out.trans (hb.mono HB4.out.size)))
      have HA3 := Lib.hid (fun wx (hb : Below w4.heap.size w4 wx) => HA3.out wx (HB4.out.trans (hb.mono HB4.out.size)))
      have HA4 := Lib.hid (fun wx (hb : Below w4.heap.size w4 wx) => HA4.out wx (HB4.out.trans (hb.mono HB4.out.size)))
      have HA8 := Lib.hid (fun wx (hb : Below w4.heap.size w4 wx) => HA8.out wx (HB4.out.trans (hb.mono HB4.out.size)))
      have HA12 := Lib.hid (fun wx (hb : Below w4.heap.size w4 wx) => HA12.out wx (HB4.out.trans (hb.mono HB4.out.size)))
      have HA20 := Lib.hid (fun wx (hb : Below w4.heap.size w4 wx) => HA20.out wx (HB4.out.trans (hb.mono HB4.out.size)))
      go_upto_region 9 with fail
      go_cut [7] from 34 to 58 (fun x7 wx => ∃ Z, x7 = .pointer (some ⟨Z, 0, none⟩) ∧ Hid (Blk wx Z #[.int .i64 (f0 : Int), .int .i64 (f1 : Int), .int .i64 (f2 : Int), .int .i64 (f4 : Int), .int .i64 (f8 : Int), .int .u64 (f12 : Int), .int .i64 (f3 : Int), .bool hb, .int .u64 (rk : Int), .int .u32 (rc : Int), .bool rg, .slice x RL c] 43) ∧ Hid (Below w4.heap.size w4 wx))
      case first =>
        refine wp_region_held_drew (S := (fun wx => wx.cell? ⟨A, 0, none⟩ = some (.int .u64 (rk : Int)) ∧ wx.cell? ⟨A, 1, none⟩ = some (.int .u32 (rc : Int)) ∧ wx.cell? ⟨A, 2, none⟩ = some (.bool rg) ∧ wx.cell? ⟨A, 3, none⟩ = some (.slice x RL c))) (by kernel_rfl) (HS.out _ (Below.refl _ w4).drew) (fun hHeld => ?_)
        have U0 := Lib.hid ((Below.refl w4.heap.size w4).drew)
        obtain ⟨q0, hq0⟩ : ∃ q, w4.drew = q := ⟨_, rfl⟩
        rw [hq0] at U0 hHeld
        try rw [hq0]
        have hN9 := Blk.new q0 #[.int .i64 0, .int .i64 0, .int .i64 0, .int .i64 0, .int .i64 0, .int .u64 0, .int .i64 0, .bool false, .int .u64 0, .int .u32 0, .bool false, .slice none 0 0] 43
        have hBn := below_new14 q0 (.cells #[.int .i64 0, .int .i64 0, .int .i64 0, .int .i64 0, .int .i64 0, .int .u64 0, .int .i64 0, .bool false, .int .u64 0, .int .u32 0, .bool false, .slice none 0 0] 43)
        obtain ⟨q1, hq1⟩ : ∃ q, q0.alloc (.cells #[.int .i64 0, .int .i64 0, .int .i64 0, .int .i64 0, .int .i64 0, .int .u64 0, .int .i64 0, .bool false, .int .u64 0, .int .u32 0, .bool false, .slice none 0 0] 43) = q := ⟨_, rfl⟩
        obtain ⟨Z, hZ⟩ : ∃ Z, q0.heap.size = Z := ⟨_, rfl⟩
        rw [hq1, hZ] at hN9
        rw [hq1] at hBn
        have U1 := Lib.hid (U0.out.trans (hBn.mono U0.out.size))
        have FIN := fin12c hN9 U1.out (by rw [← hZ]; exact U0.out.size) (.int .i64 (f0 : Int)) (.int .i64 (f1 : Int)) (.int .i64 (f2 : Int)) (.int .i64 (f4 : Int)) (.int .i64 (f8 : Int)) (.int .u64 (f12 : Int)) (.int .i64 (f3 : Int)) (.bool hb) (.int .u64 (rk : Int)) (.int .u32 (rc : Int)) (.bool rg) (.slice x RL c)
        unfold set12 at FIN
        have FIN := Lib.hid FIN
        have HN9 := Lib.hid hN9
        have HQ1 := Lib.hid hq1
        have HZ1 := Lib.hid hZ
        clear hq0 hN9 hBn hq1 hZ r24 hlen
        refine wpAnyH_take (i := 0) (v := ?_) rfl (by kernel_rfl) (by kernel_rfl) (by kernel_rfl) (fun _ _ _ h => h) (Or.inl ⟨by rfl, ?_⟩) hHeld ?_
        rotate_left 1
        · intro w hSw
          (try dsimp only at hSw)
          go_simp
          all_goals (with_reducible rfl)
        try simp only [Act.put, List.getElem_toArray, List.getElem_cons_zero, List.getElem_cons_succ, List.setIfInBounds_toArray, List.set_cons_zero, List.set_cons_succ]
        refine wpAnyH_take (i := 3) (v := ?_) rfl (by kernel_rfl) (by kernel_rfl) (by kernel_rfl) (fun _ _ _ h => h) (Or.inl ⟨by rfl, ?_⟩) hHeld ?_
        rotate_left 1
        · intro w hSw
          (try dsimp only at hSw)
          go_simp
          all_goals (with_reducible rfl)
        try simp only [Act.put, List.getElem_toArray, List.getElem_cons_zero, List.getElem_cons_succ, List.setIfInBounds_toArray, List.set_cons_zero, List.set_cons_succ]
        refine wpAnyH_take (i := 6) (v := ?_) rfl (by kernel_rfl) (by kernel_rfl) (by kernel_rfl) (fun _ _ _ h => h) (Or.inl ⟨by rfl, ?_⟩) hHeld ?_
        rotate_left 1
        · intro w hSw
          (try dsimp only at hSw)
          go_simp
          all_goals (with_reducible rfl)
        try simp only [Act.put, List.getElem_toArray, List.getElem_cons_zero, List.getElem_cons_succ, List.setIfInBounds_toArray, List.set_cons_zero, List.set_cons_succ]
        refine wpAnyH_take (i := 9) (v := ?_) rfl (by kernel_rfl) (by kernel_rfl) (by kernel_rfl) (fun _ _ _ h => h) (Or.inl ⟨by rfl, ?_⟩) hHeld ?_
        rotate_left 1
        · intro w hSw
          (try dsimp only at hSw)
          go_simp
          all_goals (with_reducible rfl)
        try simp only [Act.put, List.getElem_toArray, List.getElem_cons_zero, List.getElem_cons_succ, List.setIfInBounds_toArray, List.set_cons_zero, List.set_cons_succ]
        refine wpAnyH_take (i := 12) (v := ?_) rfl (by kernel_rfl) (by kernel_rfl) (by kernel_rfl) (fun _ _ _ h => h) (Or.inl ⟨by rfl, ?_⟩) hHeld ?_
        rotate_left 1
        · intro w hSw
          (try dsimp only at hSw)
          go_simp
          all_goals (with_reducible rfl)
        try simp only [Act.put, List.getElem_toArray, List.getElem_cons_zero, List.getElem_cons_succ, List.setIfInBounds_toArray, List.set_cons_zero, List.set_cons_succ]
        refine wpAnyH_take (i := 15) (v := ?_) rfl (by kernel_rfl) (by kernel_rfl) (by kernel_rfl) (fun _ _ _ h => h) (Or.inl ⟨by rfl, ?_⟩) hHeld ?_
        rotate_left 1
        · intro w hSw
          (try dsimp only at hSw)
          go_simp
          all_goals (with_reducible rfl)
        try simp only [Act.put, List.getElem_toArray, List.getElem_cons_zero, List.getElem_cons_succ, List.setIfInBounds_toArray, List.set_cons_zero, List.set_cons_succ]
        refine wpAnyH_take (i := 17) (v := ?_) rfl (by kernel_rfl) (by kernel_rfl) (by kernel_rfl) (fun _ _ _ h => h) (Or.inl ⟨by rfl, ?_⟩) hHeld ?_
        rotate_left 1
        · intro w hSw
          (try dsimp only at hSw)
          go_simp
          all_goals (with_reducible rfl)
        try simp only [Act.put, List.getElem_toArray, List.getElem_cons_zero, List.getElem_cons_succ, List.setIfInBounds_toArray, List.set_cons_zero, List.set_cons_succ]
        refine wpAnyH_take (i := 20) (v := ?_) rfl (by kernel_rfl) (by kernel_rfl) (by kernel_rfl) (fun _ _ _ h => h) (Or.inl ⟨by rfl, ?_⟩) hHeld ?_
        rotate_left 1
        · intro w hSw
          (try dsimp only at hSw)
          go_simp
          all_goals (with_reducible rfl)
        try simp only [Act.put, List.getElem_toArray, List.getElem_cons_zero, List.getElem_cons_succ, List.setIfInBounds_toArray, List.set_cons_zero, List.set_cons_succ]
        refine wpAnyH_take (i := 23) (v := ?_) rfl (by kernel_rfl) (by kernel_rfl) (by kernel_rfl) (fun _ _ _ h => h) (Or.inl ⟨by rfl, ?_⟩) hHeld ?_
        rotate_left 1
        · intro w hSw
          (try dsimp only at hSw)
          go_simp
          all_goals (with_reducible rfl)
        try simp only [Act.put, List.getElem_toArray, List.getElem_cons_zero, List.getElem_cons_succ, List.setIfInBounds_toArray, List.set_cons_zero, List.set_cons_succ]
        refine wpAnyH_ready (rs := [1, 25]) (by kernel_rfl) (by simp) ?_
        refine AllReadyH.cons rfl (fun K hK => ?_) ?_
        · go_simp
          refine (HA0.out _ U0.out).mono ?_
          rintro e w' ⟨rfl, rfl⟩
          refine hK.out _ _ (HS.out _ U0.out) (fun hHeld => ?_)
          clear hK K
          try simp only [Act.put, List.getElem_toArray, List.getElem_cons_zero, List.getElem_cons_succ, List.setIfInBounds_toArray, List.set_cons_zero, List.set_cons_succ]
          refine wpAnyH_take (i := 2) (v := ?_) rfl (by kernel_rfl) (by kernel_rfl) (by kernel_rfl) (fun _ _ _ h => h) (Or.inl ⟨by rfl, ?_⟩) hHeld ?_
          rotate_left 1
          · intro w hSw
            (try dsimp only at hSw)
            go_simp
            all_goals (with_reducible rfl)
          try simp only [Act.put, List.getElem_toArray, List.getElem_cons_zero, List.getElem_cons_succ, List.setIfInBounds_toArray, List.set_cons_zero, List.set_cons_succ]
          refine wpAnyH_ready (rs := [4, 25]) (by kernel_rfl) (by simp) ?_
          refine AllReadyH.cons rfl (fun K hK => ?_) ?_
          · go_simp
            refine (HA1.out _ U0.out).mono ?_
            rintro e w' ⟨rfl, rfl⟩
            refine hK.out _ _ (HS.out _ U0.out) (fun hHeld => ?_)
            clear hK K
            try simp only [Act.put, List.getElem_toArray, List.getElem_cons_zero, List.getElem_cons_succ, List.setIfInBounds_toArray, List.set_cons_zero, List.set_cons_succ]
            refine wpAnyH_take (i := 5) (v := ?_) rfl (by kernel_rfl) (by kernel_rfl) (by kernel_rfl) (fun _ _ _ h => h) (Or.inl ⟨by rfl, ?_⟩) hHeld ?_
            rotate_left 1
            · intro w hSw
              (try dsimp only at hSw)
              go_simp
              all_goals (with_reducible rfl)
            try simp only [Act.put, List.getElem_toArray, List.getElem_cons_zero, List.getElem_cons_succ, List.setIfInBounds_toArray, List.set_cons_zero, List.set_cons_succ]
            refine wpAnyH_ready (rs := [7, 25]) (by kernel_rfl) (by simp) ?_
            refine AllReadyH.cons rfl (fun K hK => ?_) ?_
            · go_simp
              refine (HA2.out _ U0.out).mono ?_
              rintro e w' ⟨rfl, rfl⟩
              refine hK.out _ _ (HS.out _ U0.out) (fun hHeld => ?_)
              clear hK K
              try simp only [Act.put, List.getElem_toArray, List.getElem_cons_zero, List.getElem_cons_succ, List.setIfInBounds_toArray, List.set_cons_zero, List.set_cons_succ]
              refine wpAnyH_take (i := 8) (v := ?_) rfl (by kernel_rfl) (by kernel_rfl) (by kernel_rfl) (fun _ _ _ h => h) (Or.inl ⟨by rfl, ?_⟩) hHeld ?_
              rotate_left 1
              · intro w hSw
                (try dsimp only at hSw)
                go_simp
                all_goals (with_reducible rfl)
              try simp only [Act.put, List.getElem_toArray, List.getElem_cons_zero, List.getElem_cons_succ, List.setIfInBounds_toArray, List.set_cons_zero, List.set_cons_succ]
              refine wpAnyH_ready (rs := [10, 25]) (by kernel_rfl) (by simp) ?_
              refine AllReadyH.cons rfl (fun K hK => ?_) ?_
              · go_simp
                refine (HA4.out _ U0.out).mono ?_
                rintro e w' ⟨rfl, rfl⟩
                refine hK.out _ _ (HS.out _ U0.out) (fun hHeld => ?_)
                clear hK K
                try simp only [Act.put, List.getElem_toArray, List.getElem_cons_zero, List.getElem_cons_succ, List.setIfInBounds_toArray, List.set_cons_zero, List.set_cons_succ]
                refine wpAnyH_take (i := 11) (v := ?_) rfl (by kernel_rfl) (by kernel_rfl) (by kernel_rfl) (fun _ _ _ h => h) (Or.inl ⟨by rfl, ?_⟩) hHeld ?_
                rotate_left 1
                · intro w hSw
                  (try dsimp only at hSw)
                  go_simp
                  all_goals (with_reducible rfl)
                try simp only [Act.put, List.getElem_toArray, List.getElem_cons_zero, List.getElem_cons_succ, List.setIfInBounds_toArray, List.set_cons_zero, List.set_cons_succ]
                refine wpAnyH_ready (rs := [13, 25]) (by kernel_rfl) (by simp) ?_
                refine AllReadyH.cons rfl (fun K hK => ?_) ?_
                · go_simp
                  refine (HA8.out _ U0.out).mono ?_
                  rintro e w' ⟨rfl, rfl⟩
                  refine hK.out _ _ (HS.out _ U0.out) (fun hHeld => ?_)
                  clear hK K
                  try simp only [Act.put, List.getElem_toArray, List.getElem_cons_zero, List.getElem_cons_succ, List.setIfInBounds_toArray, List.set_cons_zero, List.set_cons_succ]
                  refine wpAnyH_take (i := 14) (v := ?_) rfl (by kernel_rfl) (by kernel_rfl) (by kernel_rfl) (fun _ _ _ h => h) (Or.inl ⟨by rfl, ?_⟩) hHeld ?_
                  rotate_left 1
                  · intro w hSw
                    (try dsimp only at hSw)
                    go_simp
                    all_goals (with_reducible rfl)
                  try simp only [Act.put, List.getElem_toArray, List.getElem_cons_zero, List.getElem_cons_succ, List.setIfInBounds_toArray, List.set_cons_zero, List.set_cons_succ]
                  refine wpAnyH_ready (rs := [16, 25]) (by kernel_rfl) (by simp) ?_
                  refine AllReadyH.cons rfl (fun K hK => ?_) ?_
                  · go_simp
                    refine (HA12.out _ U0.out).mono ?_
                    rintro e w' ⟨rfl, rfl⟩
                    refine hK.out _ _ (HS.out _ U0.out) (fun hHeld => ?_)
                    clear hK K
                    try simp only [Act.put, List.getElem_toArray, List.getElem_cons_zero, List.getElem_cons_succ, List.setIfInBounds_toArray, List.set_cons_zero, List.set_cons_succ]
                    refine wpAnyH_ready (rs := [18, 25]) (by kernel_rfl) (by simp) ?_
                    refine AllReadyH.cons rfl (fun K hK => ?_) ?_
                    · go_simp
                      refine (HA3.out _ U0.out).mono ?_
                      rintro e w' ⟨rfl, rfl⟩
                      refine hK.out _ _ (HS.out _ U0.out) (fun hHeld => ?_)
                      clear hK K
                      try simp only [Act.put, List.getElem_toArray, List.getElem_cons_zero, List.getElem_cons_succ, List.setIfInBounds_toArray, List.set_cons_zero, List.set_cons_succ]
                      refine wpAnyH_take (i := 19) (v := ?_) rfl (by kernel_rfl) (by kernel_rfl) (by kernel_rfl) (fun _ _ _ h => h) (Or.inl ⟨by rfl, ?_⟩) hHeld ?_
                      rotate_left 1
                      · intro w hSw
                        (try dsimp only at hSw)
                        go_simp
                        all_goals (with_reducible rfl)
                      try simp only [Act.put, List.getElem_toArray, List.getElem_cons_zero, List.getElem_cons_succ, List.setIfInBounds_toArray, List.set_cons_zero, List.set_cons_succ]
                      refine wpAnyH_ready (rs := [21, 25]) (by kernel_rfl) (by simp) ?_
                      refine AllReadyH.cons rfl (fun K hK => ?_) ?_
                      · go_simp
                        refine (HA20.out _ U0.out).mono ?_
                        rintro e w' ⟨rfl, rfl⟩
                        refine hK.out _ _ (HS.out _ U0.out) (fun hHeld => ?_)
                        clear hK K
                        try simp only [Act.put, List.getElem_toArray, List.getElem_cons_zero, List.getElem_cons_succ, List.setIfInBounds_toArray, List.set_cons_zero, List.set_cons_succ]
                        refine wpAnyH_take (i := 22) (v := ?_) rfl (by kernel_rfl) (by kernel_rfl) (by kernel_rfl) (fun _ _ _ h => h) (Or.inl ⟨by rfl, ?_⟩) hHeld ?_
                        rotate_left 1
                        · intro w hSw
                          (try dsimp only at hSw)
                          go_simp
                          all_goals (with_reducible rfl)
                        try simp only [Act.put, List.getElem_toArray, List.getElem_cons_zero, List.getElem_cons_succ, List.setIfInBounds_toArray, List.set_cons_zero, List.set_cons_succ]
                        refine wpAnyH_take (i := 24) (v := ?_) rfl (by kernel_rfl) (by kernel_rfl) (by kernel_rfl) (fun _ _ _ h => h) (Or.inl ⟨by rfl, ?_⟩) hHeld ?_
                        rotate_left 1
                        · intro w hSw
                          (try dsimp only at hSw)
                          go_simp
                          all_goals (with_reducible rfl)
                        try simp only [Act.put, List.getElem_toArray, List.getElem_cons_zero, List.getElem_cons_succ, List.setIfInBounds_toArray, List.set_cons_zero, List.set_cons_succ]
                        refine wpAnyH_ready (rs := [25]) (by kernel_rfl) (by simp) ?_
                        refine AllReadyH.cons rfl (fun K hK => ?_) AllReadyH.nil
                        go_simp
                        try rw [HQ1.out]
                        try rw [HZ1.out]
                        refine hK.out _ _ (HS.out _ U1.out) (fun hHeld => ?_)
                        clear hK K
                        try simp only [Act.put, List.getElem_toArray, List.getElem_cons_zero, List.getElem_cons_succ, List.setIfInBounds_toArray, List.set_cons_zero, List.set_cons_succ]
                        have z0 := HN9.out.cell 0 rfl
                        have z1 := HN9.out.cell 1 rfl
                        have z2 := HN9.out.cell 2 rfl
                        have z3 := HN9.out.cell 3 rfl
                        have z4 := HN9.out.cell 4 rfl
                        have z5 := HN9.out.cell 5 rfl
                        have z6 := HN9.out.cell 6 rfl
                        have z7 := HN9.out.cell 7 rfl
                        have z8 := HN9.out.cell 8 rfl
                        have z9 := HN9.out.cell 9 rfl
                        have z10 := HN9.out.cell 10 rfl
                        have z11 := HN9.out.cell 11 rfl
                        have zf := fun j => HN9.out.free j
                        refine wpAnyH_ready (rs := [26]) (by kernel_rfl) (by simp) ?_
                        refine AllReadyH.cons rfl (fun K hK => ?_) AllReadyH.nil
                        go_simp
                        refine hK.out _ _ (HS.out _ FIN.out.2) (fun hHeld => ?_)
                        clear hK K
                        try simp only [Act.put, List.getElem_toArray, List.getElem_cons_zero, List.getElem_cons_succ, List.setIfInBounds_toArray, List.set_cons_zero, List.set_cons_succ]
                        refine wpAnyH_done (by kernel_rfl) ?_ _
                        go_wp2_with fail
                        go_meet
                        exact ⟨Z, by first | exact rfl | exact trivial, Lib.hid FIN.out.1, Lib.hid FIN.out.2⟩
                      refine AllReadyH.cons rfl (fun K hK => ?_) AllReadyH.nil
                      go_simp
                      try rw [HQ1.out]
                      try rw [HZ1.out]
                      refine hK.out _ _ (HS.out _ U1.out) (fun hHeld => ?_)
                      clear hK K
                      try simp only [Act.put, List.getElem_toArray, List.getElem_cons_zero, List.getElem_cons_succ, List.setIfInBounds_toArray, List.set_cons_zero, List.set_cons_succ]
                      refine wpAnyH_ready (rs := [21]) (by kernel_rfl) (by simp) ?_
                      refine AllReadyH.cons rfl (fun K hK => ?_) AllReadyH.nil
                      go_simp
                      refine (HA20.out _ U1.out).mono ?_
                      rintro e w' ⟨rfl, rfl⟩
                      refine hK.out _ _ (HS.out _ U1.out) (fun hHeld => ?_)
                      clear hK K
                      try simp only [Act.put, List.getElem_toArray, List.getElem_cons_zero, List.getElem_cons_succ, List.setIfInBounds_toArray, List.set_cons_zero, List.set_cons_succ]
                      refine wpAnyH_take (i := 22) (v := ?_) rfl (by kernel_rfl) (by kernel_rfl) (by kernel_rfl) (fun _ _ _ h => h) (Or.inl ⟨by rfl, ?_⟩) hHeld ?_
                      rotate_left 1
                      · intro w hSw
                        (try dsimp only at hSw)
                        go_simp
                        all_goals (with_reducible rfl)
                      try simp only [Act.put, List.getElem_toArray, List.getElem_cons_zero, List.getElem_cons_succ, List.setIfInBounds_toArray, List.set_cons_zero, List.set_cons_succ]
                      refine wpAnyH_take (i := 24) (v := ?_) rfl (by kernel_rfl) (by kernel_rfl) (by kernel_rfl) (fun _ _ _ h => h) (Or.inl ⟨by rfl, ?_⟩) hHeld ?_
                      rotate_left 1
                      · intro w hSw
                        (try dsimp only at hSw)
                        go_simp
                        all_goals (with_reducible rfl)
                      try simp only [Act.put, List.getElem_toArray, List.getElem_cons_zero, List.getElem_cons_succ, List.setIfInBounds_toArray, List.set_cons_zero, List.set_cons_succ]
                      have z0 := HN9.out.cell 0 rfl
                      have z1 := HN9.out.cell 1 rfl
                      have z2 := HN9.out.cell 2 rfl
                      have z3 := HN9.out.cell 3 rfl
                      have z4 := HN9.out.cell 4 rfl
                      have z5 := HN9.out.cell 5 rfl
                      have z6 := HN9.out.cell 6 rfl
                      have z7 := HN9.out.cell 7 rfl
                      have z8 := HN9.out.cell 8 rfl
                      have z9 := HN9.out.cell 9 rfl
                      have z10 := HN9.out.cell 10 rfl
                      have z11 := HN9.out.cell 11 rfl
                      have zf := fun j => HN9.out.free j
                      refine wpAnyH_ready (rs := [26]) (by kernel_rfl) (by simp) ?_
                      refine AllReadyH.cons rfl (fun K hK => ?_) AllReadyH.nil
                      go_simp
                      refine hK.out _ _ (HS.out _ FIN.out.2) (fun hHeld => ?_)
                      clear hK K
                      try simp only [Act.put, List.getElem_toArray, List.getElem_cons_zero, List.getElem_cons_succ, List.setIfInBounds_toArray, List.set_cons_zero, List.set_cons_succ]
                      refine wpAnyH_done (by kernel_rfl) ?_ _
                      go_wp2_with fail
                      go_meet
                      exact ⟨Z, by first | exact rfl | exact trivial, Lib.hid FIN.out.1, Lib.hid FIN.out.2⟩
                    refine AllReadyH.cons rfl (fun K hK => ?_) AllReadyH.nil
                    go_simp
                    try rw [HQ1.out]
                    try rw [HZ1.out]
                    refine hK.out _ _ (HS.out _ U1.out) (fun hHeld => ?_)
                    clear hK K
                    try simp only [Act.put, List.getElem_toArray, List.getElem_cons_zero, List.getElem_cons_succ, List.setIfInBounds_toArray, List.set_cons_zero, List.set_cons_succ]
                    refine wpAnyH_ready (rs := [18]) (by kernel_rfl) (by simp) ?_
                    refine AllReadyH.cons rfl (fun K hK => ?_) AllReadyH.nil
                    go_simp
                    refine (HA3.out _ U1.out).mono ?_
                    rintro e w' ⟨rfl, rfl⟩
                    refine hK.out _ _ (HS.out _ U1.out) (fun hHeld => ?_)
                    clear hK K
                    try simp only [Act.put, List.getElem_toArray, List.getElem_cons_zero, List.getElem_cons_succ, List.setIfInBounds_toArray, List.set_cons_zero, List.set_cons_succ]
                    refine wpAnyH_take (i := 19) (v := ?_) rfl (by kernel_rfl) (by kernel_rfl) (by kernel_rfl) (fun _ _ _ h => h) (Or.inl ⟨by rfl, ?_⟩) hHeld ?_
                    rotate_left 1
                    · intro w hSw
                      (try dsimp only at hSw)
                      go_simp
                      all_goals (with_reducible rfl)
                    try simp only [Act.put, List.getElem_toArray, List.getElem_cons_zero, List.getElem_cons_succ, List.setIfInBounds_toArray, List.set_cons_zero, List.set_cons_succ]
                    refine wpAnyH_ready (rs := [21]) (by kernel_rfl) (by simp) ?_
                    refine AllReadyH.cons rfl (fun K hK => ?_) AllReadyH.nil
                    go_simp
                    refine (HA20.out _ U1.out).mono ?_
                    rintro e w' ⟨rfl, rfl⟩
                    refine hK.out _ _ (HS.out _ U1.out) (fun hHeld => ?_)
                    clear hK K
                    try simp only [Act.put, List.getElem_toArray, List.getElem_cons_zero, List.getElem_cons_succ, List.setIfInBounds_toArray, List.set_cons_zero, List.set_cons_succ]
                    refine wpAnyH_take (i := 22) (v := ?_) rfl (by kernel_rfl) (by kernel_rfl) (by kernel_rfl) (fun _ _ _ h => h) (Or.inl ⟨by rfl, ?_⟩) hHeld ?_
                    rotate_left 1
                    · intro w hSw
                      (try dsimp only at hSw)
                      go_simp
                      all_goals (with_reducible rfl)
                    try simp only [Act.put, List.getElem_toArray, List.getElem_cons_zero, List.getElem_cons_succ, List.setIfInBounds_toArray, List.set_cons_zero, List.set_cons_succ]
                    refine wpAnyH_take (i := 24) (v := ?_) rfl (by kernel_rfl) (by kernel_rfl) (by kernel_rfl) (fun _ _ _ h => h) (Or.inl ⟨by rfl, ?_⟩) hHeld ?_
                    rotate_left 1
                    · intro w hSw
                      (try dsimp only at hSw)
                      go_simp
                      all_goals (with_reducible rfl)
                    try simp only [Act.put, List.getElem_toArray, List.getElem_cons_zero, List.getElem_cons_succ, List.setIfInBounds_toArray, List.set_cons_zero, List.set_cons_succ]
                    have z0 := HN9.out.cell 0 rfl
                    have z1 := HN9.out.cell 1 rfl
                    have z2 := HN9.out.cell 2 rfl
                    have z3 := HN9.out.cell 3 rfl
                    have z4 := HN9.out.cell 4 rfl
                    have z5 := HN9.out.cell 5 rfl
                    have z6 := HN9.out.cell 6 rfl
                    have z7 := HN9.out.cell 7 rfl
                    have z8 := HN9.out.cell 8 rfl
                    have z9 := HN9.out.cell 9 rfl
                    have z10 := HN9.out.cell 10 rfl
                    have z11 := HN9.out.cell 11 rfl
                    have zf := fun j => HN9.out.free j
                    refine wpAnyH_ready (rs := [26]) (by kernel_rfl) (by simp) ?_
                    refine AllReadyH.cons rfl (fun K hK => ?_) AllReadyH.nil
                    go_simp
                    refine hK.out _ _ (HS.out _ FIN.out.2) (fun hHeld => ?_)
                    clear hK K
                    try simp only [Act.put, List.getElem_toArray, List.getElem_cons_zero, List.getElem_cons_succ, List.setIfInBounds_toArray, List.set_cons_zero, List.set_cons_succ]
                    refine wpAnyH_done (by kernel_rfl) ?_ _
                    go_wp2_with fail
                    go_meet
                    exact ⟨Z, by first | exact rfl | exact trivial, Lib.hid FIN.out.1, Lib.hid FIN.out.2⟩
                  refine AllReadyH.cons rfl (fun K hK => ?_) AllReadyH.nil
                  go_simp
                  try rw [HQ1.out]
                  try rw [HZ1.out]
                  refine hK.out _ _ (HS.out _ U1.out) (fun hHeld => ?_)
                  clear hK K
                  try simp only [Act.put, List.getElem_toArray, List.getElem_cons_zero, List.getElem_cons_succ, List.setIfInBounds_toArray, List.set_cons_zero, List.set_cons_succ]
                  refine wpAnyH_ready (rs := [16]) (by kernel_rfl) (by simp) ?_
                  refine AllReadyH.cons rfl (fun K hK => ?_) AllReadyH.nil
                  go_simp
                  refine (HA12.out _ U1.out).mono ?_
                  rintro e w' ⟨rfl, rfl⟩
                  refine hK.out _ _ (HS.out _ U1.out) (fun hHeld => ?_)
                  clear hK K
                  try simp only [Act.put, List.getElem_toArray, List.getElem_cons_zero, List.getElem_cons_succ, List.setIfInBounds_toArray, List.set_cons_zero, List.set_cons_succ]
                  refine wpAnyH_ready (rs := [18]) (by kernel_rfl) (by simp) ?_
                  refine AllReadyH.cons rfl (fun K hK => ?_) AllReadyH.nil
                  go_simp
                  refine (HA3.out _ U1.out).mono ?_
                  rintro e w' ⟨rfl, rfl⟩
                  refine hK.out _ _ (HS.out _ U1.out) (fun hHeld => ?_)
                  clear hK K
                  try simp only [Act.put, List.getElem_toArray, List.getElem_cons_zero, List.getElem_cons_succ, List.setIfInBounds_toArray, List.set_cons_zero, List.set_cons_succ]
                  refine wpAnyH_take (i := 19) (v := ?_) rfl (by kernel_rfl) (by kernel_rfl) (by kernel_rfl) (fun _ _ _ h => h) (Or.inl ⟨by rfl, ?_⟩) hHeld ?_
                  rotate_left 1
                  · intro w hSw
                    (try dsimp only at hSw)
                    go_simp
                    all_goals (with_reducible rfl)
                  try simp only [Act.put, List.getElem_toArray, List.getElem_cons_zero, List.getElem_cons_succ, List.setIfInBounds_toArray, List.set_cons_zero, List.set_cons_succ]
                  refine wpAnyH_ready (rs := [21]) (by kernel_rfl) (by simp) ?_
                  refine AllReadyH.cons rfl (fun K hK => ?_) AllReadyH.nil
                  go_simp
                  refine (HA20.out _ U1.out).mono ?_
                  rintro e w' ⟨rfl, rfl⟩
                  refine hK.out _ _ (HS.out _ U1.out) (fun hHeld => ?_)
                  clear hK K
                  try simp only [Act.put, List.getElem_toArray, List.getElem_cons_zero, List.getElem_cons_succ, List.setIfInBounds_toArray, List.set_cons_zero, List.set_cons_succ]
                  refine wpAnyH_take (i := 22) (v := ?_) rfl (by kernel_rfl) (by kernel_rfl) (by kernel_rfl) (fun _ _ _ h => h) (Or.inl ⟨by rfl, ?_⟩) hHeld ?_
                  rotate_left 1
                  · intro w hSw
                    (try dsimp only at hSw)
                    go_simp
                    all_goals (with_reducible rfl)
                  try simp only [Act.put, List.getElem_toArray, List.getElem_cons_zero, List.getElem_cons_succ, List.setIfInBounds_toArray, List.set_cons_zero, List.set_cons_succ]
                  refine wpAnyH_take (i := 24) (v := ?_) rfl (by kernel_rfl) (by kernel_rfl) (by kernel_rfl) (fun _ _ _ h => h) (Or.inl ⟨by rfl, ?_⟩) hHeld ?_
                  rotate_left 1
                  · intro w hSw
                    (try dsimp only at hSw)
                    go_simp
                    all_goals (with_reducible rfl)
                  try simp only [Act.put, List.getElem_toArray, List.getElem_cons_zero, List.getElem_cons_succ, List.setIfInBounds_toArray, List.set_cons_zero, List.set_cons_succ]
                  have z0 := HN9.out.cell 0 rfl
                  have z1 := HN9.out.cell 1 rfl
                  have z2 := HN9.out.cell 2 rfl
                  have z3 := HN9.out.cell 3 rfl
                  have z4 := HN9.out.cell 4 rfl
                  have z5 := HN9.out.cell 5 rfl
                  have z6 := HN9.out.cell 6 rfl
                  have z7 := HN9.out.cell 7 rfl
                  have z8 := HN9.out.cell 8 rfl
                  have z9 := HN9.out.cell 9 rfl
                  have z10 := HN9.out.cell 10 rfl
                  have z11 := HN9.out.cell 11 rfl
                  have zf := fun j => HN9.out.free j
                  refine wpAnyH_ready (rs := [26]) (by kernel_rfl) (by simp) ?_
                  refine AllReadyH.cons rfl (fun K hK => ?_) AllReadyH.nil
                  go_simp
                  refine hK.out _ _ (HS.out _ FIN.out.2) (fun hHeld => ?_)
                  clear hK K
                  try simp only [Act.put, List.getElem_toArray, List.getElem_cons_zero, List.getElem_cons_succ, List.setIfInBounds_toArray, List.set_cons_zero, List.set_cons_succ]
                  refine wpAnyH_done (by kernel_rfl) ?_ _
                  go_wp2_with fail
                  go_meet
                  exact ⟨Z, by first | exact rfl | exact trivial, Lib.hid FIN.out.1, Lib.hid FIN.out.2⟩
                refine AllReadyH.cons rfl (fun K hK => ?_) AllReadyH.nil
                go_simp
                try rw [HQ1.out]
                try rw [HZ1.out]
                refine hK.out _ _ (HS.out _ U1.out) (fun hHeld => ?_)
                clear hK K
                try simp only [Act.put, List.getElem_toArray, List.getElem_cons_zero, List.getElem_cons_succ, List.setIfInBounds_toArray, List.set_cons_zero, List.set_cons_succ]
                refine wpAnyH_ready (rs := [13]) (by kernel_rfl) (by simp) ?_
                refine AllReadyH.cons rfl (fun K hK => ?_) AllReadyH.nil
                go_simp
                refine (HA8.out _ U1.out).mono ?_
                rintro e w' ⟨rfl, rfl⟩
                refine hK.out _ _ (HS.out _ U1.out) (fun hHeld => ?_)
                clear hK K
                try simp only [Act.put, List.getElem_toArray, List.getElem_cons_zero, List.getElem_cons_succ, List.setIfInBounds_toArray, List.set_cons_zero, List.set_cons_succ]
                refine wpAnyH_take (i := 14) (v := ?_) rfl (by kernel_rfl) (by kernel_rfl) (by kernel_rfl) (fun _ _ _ h => h) (Or.inl ⟨by rfl, ?_⟩) hHeld ?_
                rotate_left 1
                · intro w hSw
                  (try dsimp only at hSw)
                  go_simp
                  all_goals (with_reducible rfl)
                try simp only [Act.put, List.getElem_toArray, List.getElem_cons_zero, List.getElem_cons_succ, List.setIfInBounds_toArray, List.set_cons_zero, List.set_cons_succ]
                refine wpAnyH_ready (rs := [16]) (by kernel_rfl) (by simp) ?_
                refine AllReadyH.cons rfl (fun K hK => ?_) AllReadyH.nil
                go_simp
                refine (HA12.out _ U1.out).mono ?_
                rintro e w' ⟨rfl, rfl⟩
                refine hK.out _ _ (HS.out _ U1.out) (fun hHeld => ?_)
                clear hK K
                try simp only [Act.put, List.getElem_toArray, List.getElem_cons_zero, List.getElem_cons_succ, List.setIfInBounds_toArray, List.set_cons_zero, List.set_cons_succ]
                refine wpAnyH_ready (rs := [18]) (by kernel_rfl) (by simp) ?_
                refine AllReadyH.cons rfl (fun K hK => ?_) AllReadyH.nil
                go_simp
                refine (HA3.out _ U1.out).mono ?_
                rintro e w' ⟨rfl, rfl⟩
                refine hK.out _ _ (HS.out _ U1.out) (fun hHeld => ?_)
                clear hK K
                try simp only [Act.put, List.getElem_toArray, List.getElem_cons_zero, List.getElem_cons_succ, List.setIfInBounds_toArray, List.set_cons_zero, List.set_cons_succ]
                refine wpAnyH_take (i := 19) (v := ?_) rfl (by kernel_rfl) (by kernel_rfl) (by kernel_rfl) (fun _ _ _ h => h) (Or.inl ⟨by rfl, ?_⟩) hHeld ?_
                rotate_left 1
                · intro w hSw
                  (try dsimp only at hSw)
                  go_simp
                  all_goals (with_reducible rfl)
                try simp only [Act.put, List.getElem_toArray, List.getElem_cons_zero, List.getElem_cons_succ, List.setIfInBounds_toArray, List.set_cons_zero, List.set_cons_succ]
                refine wpAnyH_ready (rs := [21]) (by kernel_rfl) (by simp) ?_
                refine AllReadyH.cons rfl (fun K hK => ?_) AllReadyH.nil
                go_simp
                refine (HA20.out _ U1.out).mono ?_
                rintro e w' ⟨rfl, rfl⟩
                refine hK.out _ _ (HS.out _ U1.out) (fun hHeld => ?_)
                clear hK K
                try simp only [Act.put, List.getElem_toArray, List.getElem_cons_zero, List.getElem_cons_succ, List.setIfInBounds_toArray, List.set_cons_zero, List.set_cons_succ]
                refine wpAnyH_take (i := 22) (v := ?_) rfl (by kernel_rfl) (by kernel_rfl) (by kernel_rfl) (fun _ _ _ h => h) (Or.inl ⟨by rfl, ?_⟩) hHeld ?_
                rotate_left 1
                · intro w hSw
                  (try dsimp only at hSw)
                  go_simp
                  all_goals (with_reducible rfl)
                try simp only [Act.put, List.getElem_toArray, List.getElem_cons_zero, List.getElem_cons_succ, List.setIfInBounds_toArray, List.set_cons_zero, List.set_cons_succ]
                refine wpAnyH_take (i := 24) (v := ?_) rfl (by kernel_rfl) (by kernel_rfl) (by kernel_rfl) (fun _ _ _ h => h) (Or.inl ⟨by rfl, ?_⟩) hHeld ?_
                rotate_left 1
                · intro w hSw
                  (try dsimp only at hSw)
                  go_simp
                  all_goals (with_reducible rfl)
                try simp only [Act.put, List.getElem_toArray, List.getElem_cons_zero, List.getElem_cons_succ, List.setIfInBounds_toArray, List.set_cons_zero, List.set_cons_succ]
                have z0 := HN9.out.cell 0 rfl
                have z1 := HN9.out.cell 1 rfl
                have z2 := HN9.out.cell 2 rfl
                have z3 := HN9.out.cell 3 rfl
                have z4 := HN9.out.cell 4 rfl
                have z5 := HN9.out.cell 5 rfl
                have z6 := HN9.out.cell 6 rfl
                have z7 := HN9.out.cell 7 rfl
                have z8 := HN9.out.cell 8 rfl
                have z9 := HN9.out.cell 9 rfl
                have z10 := HN9.out.cell 10 rfl
                have z11 := HN9.out.cell 11 rfl
                have zf := fun j => HN9.out.free j
                refine wpAnyH_ready (rs := [26]) (by kernel_rfl) (by simp) ?_
                refine AllReadyH.cons rfl (fun K hK => ?_) AllReadyH.nil
                go_simp
                refine hK.out _ _ (HS.out _ FIN.out.2) (fun hHeld => ?_)
                clear hK K
                try simp only [Act.put, List.getElem_toArray, List.getElem_cons_zero, List.getElem_cons_succ, List.setIfInBounds_toArray, List.set_cons_zero, List.set_cons_succ]
                refine wpAnyH_done (by kernel_rfl) ?_ _
                go_wp2_with fail
                go_meet
                exact ⟨Z, by first | exact rfl | exact trivial, Lib.hid FIN.out.1, Lib.hid FIN.out.2⟩
              refine AllReadyH.cons rfl (fun K hK => ?_) AllReadyH.nil
              go_simp
              try rw [HQ1.out]
              try rw [HZ1.out]
              refine hK.out _ _ (HS.out _ U1.out) (fun hHeld => ?_)
              clear hK K
              try simp only [Act.put, List.getElem_toArray, List.getElem_cons_zero, List.getElem_cons_succ, List.setIfInBounds_toArray, List.set_cons_zero, List.set_cons_succ]
              refine wpAnyH_ready (rs := [10]) (by kernel_rfl) (by simp) ?_
              refine AllReadyH.cons rfl (fun K hK => ?_) AllReadyH.nil
              go_simp
              refine (HA4.out _ U1.out).mono ?_
              rintro e w' ⟨rfl, rfl⟩
              refine hK.out _ _ (HS.out _ U1.out) (fun hHeld => ?_)
              clear hK K
              try simp only [Act.put, List.getElem_toArray, List.getElem_cons_zero, List.getElem_cons_succ, List.setIfInBounds_toArray, List.set_cons_zero, List.set_cons_succ]
              refine wpAnyH_take (i := 11) (v := ?_) rfl (by kernel_rfl) (by kernel_rfl) (by kernel_rfl) (fun _ _ _ h => h) (Or.inl ⟨by rfl, ?_⟩) hHeld ?_
              rotate_left 1
              · intro w hSw
                (try dsimp only at hSw)
                go_simp
                all_goals (with_reducible rfl)
              try simp only [Act.put, List.getElem_toArray, List.getElem_cons_zero, List.getElem_cons_succ, List.setIfInBounds_toArray, List.set_cons_zero, List.set_cons_succ]
              refine wpAnyH_ready (rs := [13]) (by kernel_rfl) (by simp) ?_
              refine AllReadyH.cons rfl (fun K hK => ?_) AllReadyH.nil
              go_simp
              refine (HA8.out _ U1.out).mono ?_
              rintro e w' ⟨rfl, rfl⟩
              refine hK.out _ _ (HS.out _ U1.out) (fun hHeld => ?_)
              clear hK K
              try simp only [Act.put, List.getElem_toArray, List.getElem_cons_zero, List.getElem_cons_succ, List.setIfInBounds_toArray, List.set_cons_zero, List.set_cons_succ]
              refine wpAnyH_take (i := 14) (v := ?_) rfl (by kernel_rfl) (by kernel_rfl) (by kernel_rfl) (fun _ _ _ h => h) (Or.inl ⟨by rfl, ?_⟩) hHeld ?_
              rotate_left 1
              · intro w hSw
                (try dsimp only at hSw)
                go_simp
                all_goals (with_reducible rfl)
              try simp only [Act.put, List.getElem_toArray, List.getElem_cons_zero, List.getElem_cons_succ, List.setIfInBounds_toArray, List.set_cons_zero, List.set_cons_succ]
              refine wpAnyH_ready (rs := [16]) (by kernel_rfl) (by simp) ?_
              refine AllReadyH.cons rfl (fun K hK => ?_) AllReadyH.nil
              go_simp
              refine (HA12.out _ U1.out).mono ?_
              rintro e w' ⟨rfl, rfl⟩
              refine hK.out _ _ (HS.out _ U1.out) (fun hHeld => ?_)
              clear hK K
              try simp only [Act.put, List.getElem_toArray, List.getElem_cons_zero, List.getElem_cons_succ, List.setIfInBounds_toArray, List.set_cons_zero, List.set_cons_succ]
              refine wpAnyH_ready (rs := [18]) (by kernel_rfl) (by simp) ?_
              refine AllReadyH.cons rfl (fun K hK => ?_) AllReadyH.nil
              go_simp
              refine (HA3.out _ U1.out).mono ?_
              rintro e w' ⟨rfl, rfl⟩
              refine hK.out _ _ (HS.out _ U1.out) (fun hHeld => ?_)
              clear hK K
              try simp only [Act.put, List.getElem_toArray, List.getElem_cons_zero, List.getElem_cons_succ, List.setIfInBounds_toArray, List.set_cons_zero, List.set_cons_succ]
              refine wpAnyH_take (i := 19) (v := ?_) rfl (by kernel_rfl) (by kernel_rfl) (by kernel_rfl) (fun _ _ _ h => h) (Or.inl ⟨by rfl, ?_⟩) hHeld ?_
              rotate_left 1
              · intro w hSw
                (try dsimp only at hSw)
                go_simp
                all_goals (with_reducible rfl)
              try simp only [Act.put, List.getElem_toArray, List.getElem_cons_zero, List.getElem_cons_succ, List.setIfInBounds_toArray, List.set_cons_zero, List.set_cons_succ]
              refine wpAnyH_ready (rs := [21]) (by kernel_rfl) (by simp) ?_
              refine AllReadyH.cons rfl (fun K hK => ?_) AllReadyH.nil
              go_simp
              refine (HA20.out _ U1.out).mono ?_
              rintro e w' ⟨rfl, rfl⟩
              refine hK.out _ _ (HS.out _ U1.out) (fun hHeld => ?_)
              clear hK K
              try simp only [Act.put, List.getElem_toArray, List.getElem_cons_zero, List.getElem_cons_succ, List.setIfInBounds_toArray, List.set_cons_zero, List.set_cons_succ]
              refine wpAnyH_take (i := 22) (v := ?_) rfl (by kernel_rfl) (by kernel_rfl) (by kernel_rfl) (fun _ _ _ h => h) (Or.inl ⟨by rfl, ?_⟩) hHeld ?_
              rotate_left 1
              · intro w hSw
                (try dsimp only at hSw)
                go_simp
                all_goals (with_reducible rfl)
              try simp only [Act.put, List.getElem_toArray, List.getElem_cons_zero, List.getElem_cons_succ, List.setIfInBounds_toArray, List.set_cons_zero, List.set_cons_succ]
              refine wpAnyH_take (i := 24) (v := ?_) rfl (by kernel_rfl) (by kernel_rfl) (by kernel_rfl) (fun _ _ _ h => h) (Or.inl ⟨by rfl, ?_⟩) hHeld ?_
              rotate_left 1
              · intro w hSw
                (try dsimp only at hSw)
                go_simp
                all_goals (with_reducible rfl)
              try simp only [Act.put, List.getElem_toArray, List.getElem_cons_zero, List.getElem_cons_succ, List.setIfInBounds_toArray, List.set_cons_zero, List.set_cons_succ]
              have z0 := HN9.out.cell 0 rfl
              have z1 := HN9.out.cell 1 rfl
              have z2 := HN9.out.cell 2 rfl
              have z3 := HN9.out.cell 3 rfl
              have z4 := HN9.out.cell 4 rfl
              have z5 := HN9.out.cell 5 rfl
              have z6 := HN9.out.cell 6 rfl
              have z7 := HN9.out.cell 7 rfl
              have z8 := HN9.out.cell 8 rfl
              have z9 := HN9.out.cell 9 rfl
              have z10 := HN9.out.cell 10 rfl
              have z11 := HN9.out.cell 11 rfl
              have zf := fun j => HN9.out.free j
              refine wpAnyH_ready (rs := [26]) (by kernel_rfl) (by simp) ?_
              refine AllReadyH.cons rfl (fun K hK => ?_) AllReadyH.nil
              go_simp
              refine hK.out _ _ (HS.out _ FIN.out.2) (fun hHeld => ?_)
              clear hK K
              try simp only [Act.put, List.getElem_toArray, List.getElem_cons_zero, List.getElem_cons_succ, List.setIfInBounds_toArray, List.set_cons_zero, List.set_cons_succ]
              refine wpAnyH_done (by kernel_rfl) ?_ _
              go_wp2_with fail
              go_meet
              exact ⟨Z, by first | exact rfl | exact trivial, Lib.hid FIN.out.1, Lib.hid FIN.out.2⟩
            refine AllReadyH.cons rfl (fun K hK => ?_) AllReadyH.nil
            go_simp
            try rw [HQ1.out]
            try rw [HZ1.out]
            refine hK.out _ _ (HS.out _ U1.out) (fun hHeld => ?_)
            clear hK K
            try simp only [Act.put, List.getElem_toArray, List.getElem_cons_zero, List.getElem_cons_succ, List.setIfInBounds_toArray, List.set_cons_zero, List.set_cons_succ]
            refine wpAnyH_ready (rs := [7]) (by kernel_rfl) (by simp) ?_
            refine AllReadyH.cons rfl (fun K hK => ?_) AllReadyH.nil
            go_simp
            refine (HA2.out _ U1.out).mono ?_
            rintro e w' ⟨rfl, rfl⟩
            refine hK.out _ _ (HS.out _ U1.out) (fun hHeld => ?_)
            clear hK K
            try simp only [Act.put, List.getElem_toArray, List.getElem_cons_zero, List.getElem_cons_succ, List.setIfInBounds_toArray, List.set_cons_zero, List.set_cons_succ]
            refine wpAnyH_take (i := 8) (v := ?_) rfl (by kernel_rfl) (by kernel_rfl) (by kernel_rfl) (fun _ _ _ h => h) (Or.inl ⟨by rfl, ?_⟩) hHeld ?_
            rotate_left 1
            · intro w hSw
              (try dsimp only at hSw)
              go_simp
              all_goals (with_reducible rfl)
            try simp only [Act.put, List.getElem_toArray, List.getElem_cons_zero, List.getElem_cons_succ, List.setIfInBounds_toArray, List.set_cons_zero, List.set_cons_succ]
            refine wpAnyH_ready (rs := [10]) (by kernel_rfl) (by simp) ?_
            refine AllReadyH.cons rfl (fun K hK => ?_) AllReadyH.nil
            go_simp
            refine (HA4.out _ U1.out).mono ?_
            rintro e w' ⟨rfl, rfl⟩
            refine hK.out _ _ (HS.out _ U1.out) (fun hHeld => ?_)
            clear hK K
            try simp only [Act.put, List.getElem_toArray, List.getElem_cons_zero, List.getElem_cons_succ, List.setIfInBounds_toArray, List.set_cons_zero, List.set_cons_succ]
            refine wpAnyH_take (i := 11) (v := ?_) rfl (by kernel_rfl) (by kernel_rfl) (by kernel_rfl) (fun _ _ _ h => h) (Or.inl ⟨by rfl, ?_⟩) hHeld ?_
            rotate_left 1
            · intro w hSw
              (try dsimp only at hSw)
              go_simp
              all_goals (with_reducible rfl)
            try simp only [Act.put, List.getElem_toArray, List.getElem_cons_zero, List.getElem_cons_succ, List.setIfInBounds_toArray, List.set_cons_zero, List.set_cons_succ]
            refine wpAnyH_ready (rs := [13]) (by kernel_rfl) (by simp) ?_
            refine AllReadyH.cons rfl (fun K hK => ?_) AllReadyH.nil
            go_simp
            refine (HA8.out _ U1.out).mono ?_
            rintro e w' ⟨rfl, rfl⟩
            refine hK.out _ _ (HS.out _ U1.out) (fun hHeld => ?_)
            clear hK K
            try simp only [Act.put, List.getElem_toArray, List.getElem_cons_zero, List.getElem_cons_succ, List.setIfInBounds_toArray, List.set_cons_zero, List.set_cons_succ]
            refine wpAnyH_take (i := 14) (v := ?_) rfl (by kernel_rfl) (by kernel_rfl) (by kernel_rfl) (fun _ _ _ h => h) (Or.inl ⟨by rfl, ?_⟩) hHeld ?_
            rotate_left 1
            · intro w hSw
              (try dsimp only at hSw)
              go_simp
              all_goals (with_reducible rfl)
            try simp only [Act.put, List.getElem_toArray, List.getElem_cons_zero, List.getElem_cons_succ, List.setIfInBounds_toArray, List.set_cons_zero, List.set_cons_succ]
            refine wpAnyH_ready (rs := [16]) (by kernel_rfl) (by simp) ?_
            refine AllReadyH.cons rfl (fun K hK => ?_) AllReadyH.nil
            go_simp
            refine (HA12.out _ U1.out).mono ?_
            rintro e w' ⟨rfl, rfl⟩
            refine hK.out _ _ (HS.out _ U1.out) (fun hHeld => ?_)
            clear hK K
            try simp only [Act.put, List.getElem_toArray, List.getElem_cons_zero, List.getElem_cons_succ, List.setIfInBounds_toArray, List.set_cons_zero, List.set_cons_succ]
            refine wpAnyH_ready (rs := [18]) (by kernel_rfl) (by simp) ?_
            refine AllReadyH.cons rfl (fun K hK => ?_) AllReadyH.nil
            go_simp
            refine (HA3.out _ U1.out).mono ?_
            rintro e w' ⟨rfl, rfl⟩
            refine hK.out _ _ (HS.out _ U1.out) (fun hHeld => ?_)
            clear hK K
            try simp only [Act.put, List.getElem_toArray, List.getElem_cons_zero, List.getElem_cons_succ, List.setIfInBounds_toArray, List.set_cons_zero, List.set_cons_succ]
            refine wpAnyH_take (i := 19) (v := ?_) rfl (by kernel_rfl) (by kernel_rfl) (by kernel_rfl) (fun _ _ _ h => h) (Or.inl ⟨by rfl, ?_⟩) hHeld ?_
            rotate_left 1
            · intro w hSw
              (try dsimp only at hSw)
              go_simp
              all_goals (with_reducible rfl)
            try simp only [Act.put, List.getElem_toArray, List.getElem_cons_zero, List.getElem_cons_succ, List.setIfInBounds_toArray, List.set_cons_zero, List.set_cons_succ]
            refine wpAnyH_ready (rs := [21]) (by kernel_rfl) (by simp) ?_
            refine AllReadyH.cons rfl (fun K hK => ?_) AllReadyH.nil
            go_simp
            refine (HA20.out _ U1.out).mono ?_
            rintro e w' ⟨rfl, rfl⟩
            refine hK.out _ _ (HS.out _ U1.out) (fun hHeld => ?_)
            clear hK K
            try simp only [Act.put, List.getElem_toArray, List.getElem_cons_zero, List.getElem_cons_succ, List.setIfInBounds_toArray, List.set_cons_zero, List.set_cons_succ]
            refine wpAnyH_take (i := 22) (v := ?_) rfl (by kernel_rfl) (by kernel_rfl) (by kernel_rfl) (fun _ _ _ h => h) (Or.inl ⟨by rfl, ?_⟩) hHeld ?_
            rotate_left 1
            · intro w hSw
              (try dsimp only at hSw)
              go_simp
              all_goals (with_reducible rfl)
            try simp only [Act.put, List.getElem_toArray, List.getElem_cons_zero, List.getElem_cons_succ, List.setIfInBounds_toArray, List.set_cons_zero, List.set_cons_succ]
            refine wpAnyH_take (i := 24) (v := ?_) rfl (by kernel_rfl) (by kernel_rfl) (by kernel_rfl) (fun _ _ _ h => h) (Or.inl ⟨by rfl, ?_⟩) hHeld ?_
            rotate_left 1
            · intro w hSw
              (try dsimp only at hSw)
              go_simp
              all_goals (with_reducible rfl)
            try simp only [Act.put, List.getElem_toArray, List.getElem_cons_zero, List.getElem_cons_succ, List.setIfInBounds_toArray, List.set_cons_zero, List.set_cons_succ]
            have z0 := HN9.out.cell 0 rfl
            have z1 := HN9.out.cell 1 rfl
            have z2 := HN9.out.cell 2 rfl
            have z3 := HN9.out.cell 3 rfl
            have z4 := HN9.out.cell 4 rfl
            have z5 := HN9.out.cell 5 rfl
            have z6 := HN9.out.cell 6 rfl
            have z7 := HN9.out.cell 7 rfl
            have z8 := HN9.out.cell 8 rfl
            have z9 := HN9.out.cell 9 rfl
            have z10 := HN9.out.cell 10 rfl
            have z11 := HN9.out.cell 11 rfl
            have zf := fun j => HN9.out.free j
            refine wpAnyH_ready (rs := [26]) (by kernel_rfl) (by simp) ?_
            refine AllReadyH.cons rfl (fun K hK => ?_) AllReadyH.nil
            go_simp
            refine hK.out _ _ (HS.out _ FIN.out.2) (fun hHeld => ?_)
            clear hK K
            try simp only [Act.put, List.getElem_toArray, List.getElem_cons_zero, List.getElem_cons_succ, List.setIfInBounds_toArray, List.set_cons_zero, List.set_cons_succ]
            refine wpAnyH_done (by kernel_rfl) ?_ _
            go_wp2_with fail
            go_meet
            exact ⟨Z, by first | exact rfl | exact trivial, Lib.hid FIN.out.1, Lib.hid FIN.out.2⟩
          refine AllReadyH.cons rfl (fun K hK => ?_) AllReadyH.nil
          go_simp
          try rw [HQ1.out]
          try rw [HZ1.out]
          refine hK.out _ _ (HS.out _ U1.out) (fun hHeld => ?_)
          clear hK K
          try simp only [Act.put, List.getElem_toArray, List.getElem_cons_zero, List.getElem_cons_succ, List.setIfInBounds_toArray, List.set_cons_zero, List.set_cons_succ]
          refine wpAnyH_ready (rs := [4]) (by kernel_rfl) (by simp) ?_
          refine AllReadyH.cons rfl (fun K hK => ?_) AllReadyH.nil
          go_simp
          refine (HA1.out _ U1.out).mono ?_
          rintro e w' ⟨rfl, rfl⟩
          refine hK.out _ _ (HS.out _ U1.out) (fun hHeld => ?_)
          clear hK K
          try simp only [Act.put, List.getElem_toArray, List.getElem_cons_zero, List.getElem_cons_succ, List.setIfInBounds_toArray, List.set_cons_zero, List.set_cons_succ]
          refine wpAnyH_take (i := 5) (v := ?_) rfl (by kernel_rfl) (by kernel_rfl) (by kernel_rfl) (fun _ _ _ h => h) (Or.inl ⟨by rfl, ?_⟩) hHeld ?_
          rotate_left 1
          · intro w hSw
            (try dsimp only at hSw)
            go_simp
            all_goals (with_reducible rfl)
          try simp only [Act.put, List.getElem_toArray, List.getElem_cons_zero, List.getElem_cons_succ, List.setIfInBounds_toArray, List.set_cons_zero, List.set_cons_succ]
          refine wpAnyH_ready (rs := [7]) (by kernel_rfl) (by simp) ?_
          refine AllReadyH.cons rfl (fun K hK => ?_) AllReadyH.nil
          go_simp
          refine (HA2.out _ U1.out).mono ?_
          rintro e w' ⟨rfl, rfl⟩
          refine hK.out _ _ (HS.out _ U1.out) (fun hHeld => ?_)
          clear hK K
          try simp only [Act.put, List.getElem_toArray, List.getElem_cons_zero, List.getElem_cons_succ, List.setIfInBounds_toArray, List.set_cons_zero, List.set_cons_succ]
          refine wpAnyH_take (i := 8) (v := ?_) rfl (by kernel_rfl) (by kernel_rfl) (by kernel_rfl) (fun _ _ _ h => h) (Or.inl ⟨by rfl, ?_⟩) hHeld ?_
          rotate_left 1
          · intro w hSw
            (try dsimp only at hSw)
            go_simp
            all_goals (with_reducible rfl)
          try simp only [Act.put, List.getElem_toArray, List.getElem_cons_zero, List.getElem_cons_succ, List.setIfInBounds_toArray, List.set_cons_zero, List.set_cons_succ]
          refine wpAnyH_ready (rs := [10]) (by kernel_rfl) (by simp) ?_
          refine AllReadyH.cons rfl (fun K hK => ?_) AllReadyH.nil
          go_simp
          refine (HA4.out _ U1.out).mono ?_
          rintro e w' ⟨rfl, rfl⟩
          refine hK.out _ _ (HS.out _ U1.out) (fun hHeld => ?_)
          clear hK K
          try simp only [Act.put, List.getElem_toArray, List.getElem_cons_zero, List.getElem_cons_succ, List.setIfInBounds_toArray, List.set_cons_zero, List.set_cons_succ]
          refine wpAnyH_take (i := 11) (v := ?_) rfl (by kernel_rfl) (by kernel_rfl) (by kernel_rfl) (fun _ _ _ h => h) (Or.inl ⟨by rfl, ?_⟩) hHeld ?_
          rotate_left 1
          · intro w hSw
            (try dsimp only at hSw)
            go_simp
            all_goals (with_reducible rfl)
          try simp only [Act.put, List.getElem_toArray, List.getElem_cons_zero, List.getElem_cons_succ, List.setIfInBounds_toArray, List.set_cons_zero, List.set_cons_succ]
          refine wpAnyH_ready (rs := [13]) (by kernel_rfl) (by simp) ?_
          refine AllReadyH.cons rfl (fun K hK => ?_) AllReadyH.nil
          go_simp
          refine (HA8.out _ U1.out).mono ?_
          rintro e w' ⟨rfl, rfl⟩
          refine hK.out _ _ (HS.out _ U1.out) (fun hHeld => ?_)
          clear hK K
          try simp only [Act.put, List.getElem_toArray, List.getElem_cons_zero, List.getElem_cons_succ, List.setIfInBounds_toArray, List.set_cons_zero, List.set_cons_succ]
          refine wpAnyH_take (i := 14) (v := ?_) rfl (by kernel_rfl) (by kernel_rfl) (by kernel_rfl) (fun _ _ _ h => h) (Or.inl ⟨by rfl, ?_⟩) hHeld ?_
          rotate_left 1
          · intro w hSw
            (try dsimp only at hSw)
            go_simp
            all_goals (with_reducible rfl)
          try simp only [Act.put, List.getElem_toArray, List.getElem_cons_zero, List.getElem_cons_succ, List.setIfInBounds_toArray, List.set_cons_zero, List.set_cons_succ]
          refine wpAnyH_ready (rs := [16]) (by kernel_rfl) (by simp) ?_
          refine AllReadyH.cons rfl (fun K hK => ?_) AllReadyH.nil
          go_simp
          refine (HA12.out _ U1.out).mono ?_
          rintro e w' ⟨rfl, rfl⟩
          refine hK.out _ _ (HS.out _ U1.out) (fun hHeld => ?_)
          clear hK K
          try simp only [Act.put, List.getElem_toArray, List.getElem_cons_zero, List.getElem_cons_succ, List.setIfInBounds_toArray, List.set_cons_zero, List.set_cons_succ]
          refine wpAnyH_ready (rs := [18]) (by kernel_rfl) (by simp) ?_
          refine AllReadyH.cons rfl (fun K hK => ?_) AllReadyH.nil
          go_simp
          refine (HA3.out _ U1.out).mono ?_
          rintro e w' ⟨rfl, rfl⟩
          refine hK.out _ _ (HS.out _ U1.out) (fun hHeld => ?_)
          clear hK K
          try simp only [Act.put, List.getElem_toArray, List.getElem_cons_zero, List.getElem_cons_succ, List.setIfInBounds_toArray, List.set_cons_zero, List.set_cons_succ]
          refine wpAnyH_take (i := 19) (v := ?_) rfl (by kernel_rfl) (by kernel_rfl) (by kernel_rfl) (fun _ _ _ h => h) (Or.inl ⟨by rfl, ?_⟩) hHeld ?_
          rotate_left 1
          · intro w hSw
            (try dsimp only at hSw)
            go_simp
            all_goals (with_reducible rfl)
          try simp only [Act.put, List.getElem_toArray, List.getElem_cons_zero, List.getElem_cons_succ, List.setIfInBounds_toArray, List.set_cons_zero, List.set_cons_succ]
          refine wpAnyH_ready (rs := [21]) (by kernel_rfl) (by simp) ?_
          refine AllReadyH.cons rfl (fun K hK => ?_) AllReadyH.nil
          go_simp
          refine (HA20.out _ U1.out).mono ?_
          rintro e w' ⟨rfl, rfl⟩
          refine hK.out _ _ (HS.out _ U1.out) (fun hHeld => ?_)
          clear hK K
          try simp only [Act.put, List.getElem_toArray, List.getElem_cons_zero, List.getElem_cons_succ, List.setIfInBounds_toArray, List.set_cons_zero, List.set_cons_succ]
          refine wpAnyH_take (i := 22) (v := ?_) rfl (by kernel_rfl) (by kernel_rfl) (by kernel_rfl) (fun _ _ _ h => h) (Or.inl ⟨by rfl, ?_⟩) hHeld ?_
          rotate_left 1
          · intro w hSw
            (try dsimp only at hSw)
            go_simp
            all_goals (with_reducible rfl)
          try simp only [Act.put, List.getElem_toArray, List.getElem_cons_zero, List.getElem_cons_succ, List.setIfInBounds_toArray, List.set_cons_zero, List.set_cons_succ]
          refine wpAnyH_take (i := 24) (v := ?_) rfl (by kernel_rfl) (by kernel_rfl) (by kernel_rfl) (fun _ _ _ h => h) (Or.inl ⟨by rfl, ?_⟩) hHeld ?_
          rotate_left 1
          · intro w hSw
            (try dsimp only at hSw)
            go_simp
            all_goals (with_reducible rfl)
          try simp only [Act.put, List.getElem_toArray, List.getElem_cons_zero, List.getElem_cons_succ, List.setIfInBounds_toArray, List.set_cons_zero, List.set_cons_succ]
          have z0 := HN9.out.cell 0 rfl
          have z1 := HN9.out.cell 1 rfl
          have z2 := HN9.out.cell 2 rfl
          have z3 := HN9.out.cell 3 rfl
          have z4 := HN9.out.cell 4 rfl
          have z5 := HN9.out.cell 5 rfl
          have z6 := HN9.out.cell 6 rfl
          have z7 := HN9.out.cell 7 rfl
          have z8 := HN9.out.cell 8 rfl
          have z9 := HN9.out.cell 9 rfl
          have z10 := HN9.out.cell 10 rfl
          have z11 := HN9.out.cell 11 rfl
          have zf := fun j => HN9.out.free j
          refine wpAnyH_ready (rs := [26]) (by kernel_rfl) (by simp) ?_
          refine AllReadyH.cons rfl (fun K hK => ?_) AllReadyH.nil
          go_simp
          refine hK.out _ _ (HS.out _ FIN.out.2) (fun hHeld => ?_)
          clear hK K
          try simp only [Act.put, List.getElem_toArray, List.getElem_cons_zero, List.getElem_cons_succ, List.setIfInBounds_toArray, List.set_cons_zero, List.set_cons_succ]
          refine wpAnyH_done (by kernel_rfl) ?_ _
          go_wp2_with fail
          go_meet
          exact ⟨Z, by first | exact rfl | exact trivial, Lib.hid FIN.out.1, Lib.hid FIN.out.2⟩
        refine AllReadyH.cons rfl (fun K hK => ?_) AllReadyH.nil
        go_simp
        try rw [HQ1.out]
        try rw [HZ1.out]
        refine hK.out _ _ (HS.out _ U1.out) (fun hHeld => ?_)
        clear hK K
        try simp only [Act.put, List.getElem_toArray, List.getElem_cons_zero, List.getElem_cons_succ, List.setIfInBounds_toArray, List.set_cons_zero, List.set_cons_succ]
        refine wpAnyH_ready (rs := [1]) (by kernel_rfl) (by simp) ?_
        refine AllReadyH.cons rfl (fun K hK => ?_) AllReadyH.nil
        go_simp
        refine (HA0.out _ U1.out).mono ?_
        rintro e w' ⟨rfl, rfl⟩
        refine hK.out _ _ (HS.out _ U1.out) (fun hHeld => ?_)
        clear hK K
        try simp only [Act.put, List.getElem_toArray, List.getElem_cons_zero, List.getElem_cons_succ, List.setIfInBounds_toArray, List.set_cons_zero, List.set_cons_succ]
        refine wpAnyH_take (i := 2) (v := ?_) rfl (by kernel_rfl) (by kernel_rfl) (by kernel_rfl) (fun _ _ _ h => h) (Or.inl ⟨by rfl, ?_⟩) hHeld ?_
        rotate_left 1
        · intro w hSw
          (try dsimp only at hSw)
          go_simp
          all_goals (with_reducible rfl)
        try simp only [Act.put, List.getElem_toArray, List.getElem_cons_zero, List.getElem_cons_succ, List.setIfInBounds_toArray, List.set_cons_zero, List.set_cons_succ]
        refine wpAnyH_ready (rs := [4]) (by kernel_rfl) (by simp) ?_
        refine AllReadyH.cons rfl (fun K hK => ?_) AllReadyH.nil
        go_simp
        refine (HA1.out _ U1.out).mono ?_
        rintro e w' ⟨rfl, rfl⟩
        refine hK.out _ _ (HS.out _ U1.out) (fun hHeld => ?_)
        clear hK K
        try simp only [Act.put, List.getElem_toArray, List.getElem_cons_zero, List.getElem_cons_succ, List.setIfInBounds_toArray, List.set_cons_zero, List.set_cons_succ]
        refine wpAnyH_take (i := 5) (v := ?_) rfl (by kernel_rfl) (by kernel_rfl) (by kernel_rfl) (fun _ _ _ h => h) (Or.inl ⟨by rfl, ?_⟩) hHeld ?_
        rotate_left 1
        · intro w hSw
          (try dsimp only at hSw)
          go_simp
          all_goals (with_reducible rfl)
        try simp only [Act.put, List.getElem_toArray, List.getElem_cons_zero, List.getElem_cons_succ, List.setIfInBounds_toArray, List.set_cons_zero, List.set_cons_succ]
        refine wpAnyH_ready (rs := [7]) (by kernel_rfl) (by simp) ?_
        refine AllReadyH.cons rfl (fun K hK => ?_) AllReadyH.nil
        go_simp
        refine (HA2.out _ U1.out).mono ?_
        rintro e w' ⟨rfl, rfl⟩
        refine hK.out _ _ (HS.out _ U1.out) (fun hHeld => ?_)
        clear hK K
        try simp only [Act.put, List.getElem_toArray, List.getElem_cons_zero, List.getElem_cons_succ, List.setIfInBounds_toArray, List.set_cons_zero, List.set_cons_succ]
        refine wpAnyH_take (i := 8) (v := ?_) rfl (by kernel_rfl) (by kernel_rfl) (by kernel_rfl) (fun _ _ _ h => h) (Or.inl ⟨by rfl, ?_⟩) hHeld ?_
        rotate_left 1
        · intro w hSw
          (try dsimp only at hSw)
          go_simp
          all_goals (with_reducible rfl)
        try simp only [Act.put, List.getElem_toArray, List.getElem_cons_zero, List.getElem_cons_succ, List.setIfInBounds_toArray, List.set_cons_zero, List.set_cons_succ]
        refine wpAnyH_ready (rs := [10]) (by kernel_rfl) (by simp) ?_
        refine AllReadyH.cons rfl (fun K hK => ?_) AllReadyH.nil
        go_simp
        refine (HA4.out _ U1.out).mono ?_
        rintro e w' ⟨rfl, rfl⟩
        refine hK.out _ _ (HS.out _ U1.out) (fun hHeld => ?_)
        clear hK K
        try simp only [Act.put, List.getElem_toArray, List.getElem_cons_zero, List.getElem_cons_succ, List.setIfInBounds_toArray, List.set_cons_zero, List.set_cons_succ]
        refine wpAnyH_take (i := 11) (v := ?_) rfl (by kernel_rfl) (by kernel_rfl) (by kernel_rfl) (fun _ _ _ h => h) (Or.inl ⟨by rfl, ?_⟩) hHeld ?_
        rotate_left 1
        · intro w hSw
          (try dsimp only at hSw)
          go_simp
          all_goals (with_reducible rfl)
        try simp only [Act.put, List.getElem_toArray, List.getElem_cons_zero, List.getElem_cons_succ, List.setIfInBounds_toArray, List.set_cons_zero, List.set_cons_succ]
        refine wpAnyH_ready (rs := [13]) (by kernel_rfl) (by simp) ?_
        refine AllReadyH.cons rfl (fun K hK => ?_) AllReadyH.nil
        go_simp
        refine (HA8.out _ U1.out).mono ?_
        rintro e w' ⟨rfl, rfl⟩
        refine hK.out _ _ (HS.out _ U1.out) (fun hHeld => ?_)
        clear hK K
        try simp only [Act.put, List.getElem_toArray, List.getElem_cons_zero, List.getElem_cons_succ, List.setIfInBounds_toArray, List.set_cons_zero, List.set_cons_succ]
        refine wpAnyH_take (i := 14) (v := ?_) rfl (by kernel_rfl) (by kernel_rfl) (by kernel_rfl) (fun _ _ _ h => h) (Or.inl ⟨by rfl, ?_⟩) hHeld ?_
        rotate_left 1
        · intro w hSw
          (try dsimp only at hSw)
          go_simp
          all_goals (with_reducible rfl)
        try simp only [Act.put, List.getElem_toArray, List.getElem_cons_zero, List.getElem_cons_succ, List.setIfInBounds_toArray, List.set_cons_zero, List.set_cons_succ]
        refine wpAnyH_ready (rs := [16]) (by kernel_rfl) (by simp) ?_
        refine AllReadyH.cons rfl (fun K hK => ?_) AllReadyH.nil
        go_simp
        refine (HA12.out _ U1.out).mono ?_
        rintro e w' ⟨rfl, rfl⟩
        refine hK.out _ _ (HS.out _ U1.out) (fun hHeld => ?_)
        clear hK K
        try simp only [Act.put, List.getElem_toArray, List.getElem_cons_zero, List.getElem_cons_succ, List.setIfInBounds_toArray, List.set_cons_zero, List.set_cons_succ]
        refine wpAnyH_ready (rs := [18]) (by kernel_rfl) (by simp) ?_
        refine AllReadyH.cons rfl (fun K hK => ?_) AllReadyH.nil
        go_simp
        refine (HA3.out _ U1.out).mono ?_
        rintro e w' ⟨rfl, rfl⟩
        refine hK.out _ _ (HS.out _ U1.out) (fun hHeld => ?_)
        clear hK K
        try simp only [Act.put, List.getElem_toArray, List.getElem_cons_zero, List.getElem_cons_succ, List.setIfInBounds_toArray, List.set_cons_zero, List.set_cons_succ]
        refine wpAnyH_take (i := 19) (v := ?_) rfl (by kernel_rfl) (by kernel_rfl) (by kernel_rfl) (fun _ _ _ h => h) (Or.inl ⟨by rfl, ?_⟩) hHeld ?_
        rotate_left 1
        · intro w hSw
          (try dsimp only at hSw)
          go_simp
          all_goals (with_reducible rfl)
        try simp only [Act.put, List.getElem_toArray, List.getElem_cons_zero, List.getElem_cons_succ, List.setIfInBounds_toArray, List.set_cons_zero, List.set_cons_succ]
        refine wpAnyH_ready (rs := [21]) (by kernel_rfl) (by simp) ?_
        refine AllReadyH.cons rfl (fun K hK => ?_) AllReadyH.nil
        go_simp
        refine (HA20.out _ U1.out).mono ?_
        rintro e w' ⟨rfl, rfl⟩
        refine hK.out _ _ (HS.out _ U1.out) (fun hHeld => ?_)
        clear hK K
        try simp only [Act.put, List.getElem_toArray, List.getElem_cons_zero, List.getElem_cons_succ, List.setIfInBounds_toArray, List.set_cons_zero, List.set_cons_succ]
        refine wpAnyH_take (i := 22) (v := ?_) rfl (by kernel_rfl) (by kernel_rfl) (by kernel_rfl) (fun _ _ _ h => h) (Or.inl ⟨by rfl, ?_⟩) hHeld ?_
        rotate_left 1
        · intro w hSw
          (try dsimp only at hSw)
          go_simp
          all_goals (with_reducible rfl)
        try simp only [Act.put, List.getElem_toArray, List.getElem_cons_zero, List.getElem_cons_succ, List.setIfInBounds_toArray, List.set_cons_zero, List.set_cons_succ]
        refine wpAnyH_take (i := 24) (v := ?_) rfl (by kernel_rfl) (by kernel_rfl) (by kernel_rfl) (fun _ _ _ h => h) (Or.inl ⟨by rfl, ?_⟩) hHeld ?_
        rotate_left 1
        · intro w hSw
          (try dsimp only at hSw)
          go_simp
          all_goals (with_reducible rfl)
        try simp only [Act.put, List.getElem_toArray, List.getElem_cons_zero, List.getElem_cons_succ, List.setIfInBounds_toArray, List.set_cons_zero, List.set_cons_succ]
        have z0 := HN9.out.cell 0 rfl
        have z1 := HN9.out.cell 1 rfl
        have z2 := HN9.out.cell 2 rfl
        have z3 := HN9.out.cell 3 rfl
        have z4 := HN9.out.cell 4 rfl
        have z5 := HN9.out.cell 5 rfl
        have z6 := HN9.out.cell 6 rfl
        have z7 := HN9.out.cell 7 rfl
        have z8 := HN9.out.cell 8 rfl
        have z9 := HN9.out.cell 9 rfl
        have z10 := HN9.out.cell 10 rfl
        have z11 := HN9.out.cell 11 rfl
        have zf := fun j => HN9.out.free j
        refine wpAnyH_ready (rs := [26]) (by kernel_rfl) (by simp) ?_
        refine AllReadyH.cons rfl (fun K hK => ?_) AllReadyH.nil
        go_simp
        refine hK.out _ _ (HS.out _ FIN.out.2) (fun hHeld => ?_)
        clear hK K
        try simp only [Act.put, List.getElem_toArray, List.getElem_cons_zero, List.getElem_cons_succ, List.setIfInBounds_toArray, List.set_cons_zero, List.set_cons_succ]
        refine wpAnyH_done (by kernel_rfl) ?_ _
        go_wp2_with fail
        go_meet
        exact ⟨Z, by first | exact rfl | exact trivial, Lib.hid FIN.out.1, Lib.hid FIN.out.2⟩
      case rest =>
        obtain ⟨Z, rfl, HZ, HB5⟩ := hcut
        obtain ⟨w5, hw5⟩ : ∃ w5, w5 = wc := ⟨_, rfl⟩
        subst hw5
        have HR5 := Lib.hid (HR4.out.below HB5.out HR4.out.lt)
        have HBB := Lib.hid (HBA.out.trans (HB5.out.mono HBA.out.size))
        have HI5 := Lib.hid (HI4.out.mono HB5.out (Nat.le_refl _))
        have HCK := Lib.hid (wcheck_any ⟨(f0 : Int), (f1 : Int), (f2 : Int), (f4 : Int), (f8 : Int), f12, (f3 : Int), hb, ⟨rk, rc, rg, rd⟩⟩ (.slice x RL c) w5 HI5.out.1)
        obtain ⟨C, hC⟩ : ∃ C, mcheck ⟨(f0 : Int), (f1 : Int), (f2 : Int), (f4 : Int), (f8 : Int), f12, (f3 : Int), hb, ⟨rk, rc, rg, rd⟩⟩ = C := ⟨_, rfl⟩
        rw [hC] at HCK
        have HC := Lib.hid hC
        clear hC
        have z0 := HZ.out.cell 0 rfl
        have z1 := HZ.out.cell 1 rfl
        have z2 := HZ.out.cell 2 rfl
        have z3 := HZ.out.cell 3 rfl
        have z4 := HZ.out.cell 4 rfl
        have z5 := HZ.out.cell 5 rfl
        have z6 := HZ.out.cell 6 rfl
        have z7 := HZ.out.cell 7 rfl
        have z8 := HZ.out.cell 8 rfl
        have z9 := HZ.out.cell 9 rfl
        have z10 := HZ.out.cell 10 rfl
        have z11 := HZ.out.cell 11 rfl
        by_cases h4 : C = 0
        · subst h4
          rw [cerr_0] at HCK
          go_wp2_with fail
          refine HCK.out.mono ?_
          rintro e w6 ⟨rfl, hb6⟩
          have HR6 := Lib.hid (HR5.out.below hb6 HR5.out.lt)
          have HZ6 := Lib.hid (HZ.out.below hb6 HZ.out.lt)
          have HB6 := Lib.hid (HBB.out.trans (hb6.mono HBB.out.size))
          have HI6 := Lib.hid (HI5.out.mono hb6 (Nat.le_refl _))
          clear z0 z1 z2 z3 z4 z5 z6 z7 z8 z9 z10 z11 hb6
          have z0 := HZ6.out.cell 0 rfl
          have z1 := HZ6.out.cell 1 rfl
          have z2 := HZ6.out.cell 2 rfl
          have z3 := HZ6.out.cell 3 rfl
          have z4 := HZ6.out.cell 4 rfl
          have z5 := HZ6.out.cell 5 rfl
          have z6 := HZ6.out.cell 6 rfl
          have z7 := HZ6.out.cell 7 rfl
          have z8 := HZ6.out.cell 8 rfl
          have z9 := HZ6.out.cell 9 rfl
          have z10 := HZ6.out.cell 10 rfl
          have z11 := HZ6.out.cell 11 rfl
          have hF := fin12 HR6.out HB6.out (Nat.le_refl _) (.int .i64 (f0 : Int)) (.int .i64 (f1 : Int)) (.int .i64 (f2 : Int)) (.int .i64 (f4 : Int)) (.int .i64 (f8 : Int)) (.int .u64 (f12 : Int)) (.int .i64 (f3 : Int)) (.bool hb) (.int .u64 (rk : Int)) (.int .u32 (rc : Int)) (.bool rg) (.slice x RL c)
          unfold set12 at hF
          have HF := Lib.hid hF
          have r0 := HR6.out.cell 0 rfl
          have r1 := HR6.out.cell 1 rfl
          have r2 := HR6.out.cell 2 rfl
          have r3 := HR6.out.cell 3 rfl
          have r4 := HR6.out.cell 4 rfl
          have r5 := HR6.out.cell 5 rfl
          have r6 := HR6.out.cell 6 rfl
          have r7 := HR6.out.cell 7 rfl
          have r8 := HR6.out.cell 8 rfl
          have r9 := HR6.out.cell 9 rfl
          have r10 := HR6.out.cell 10 rfl
          have r11 := HR6.out.cell 11 rfl
          have rf := fun j => HR6.out.free j
          clear hF
          go_wp2
          obtain ⟨j0, j1, j2, j3, j4, j5, j6, j7, j8, j9, j10, j11, jb, jk⟩ := HF.out
          have hcode : mcode l = 0 := by rw [HCODE.out, if_neg (by rw [HMF.out, HMG1.out, HC.out]; simp)]
          have hre : mread l = ⟨(f0 : Int), (f1 : Int), (f2 : Int), (f4 : Int), (f8 : Int), f12, (f3 : Int), hb, ⟨rk, rc, rg, rd⟩⟩ := by rw [HREAD.out hcode, HMG1.out]
          refine bodyPost_ret (v := .tuple #[.agg #[.int .i64 (f0 : Int), .int .i64 (f1 : Int), .int .i64 (f2 : Int), .int .i64 (f4 : Int), .int .i64 (f8 : Int), .int .u64 (f12 : Int), .int .i64 (f3 : Int), .bool hb, .int .u64 (rk : Int), .int .u32 (rc : Int), .bool rg, .slice x RL c], .nilIface]) (by simp [results, Try.results34, go_sem, j0, j1, j2, j3, j4, j5, j6, j7, j8, j9, j10, j11]) rfl ⟨x, c, ?_, ?_, ?_, jb⟩
          · rw [hcode, hre, cerr_0]; dsimp only; rw [HRL.out]
          · rw [hre]; dsimp only; rw [HRL.out]; exact HI6.out.kept jk (fun b hb e => by have := HL4.out b hb; omega)
          · rw [hre]; dsimp only; rw [HRL.out]; intro b hb; exact Nat.le_of_succ_le (HL4.out b hb)
        · have HT := Lib.hid (fun w' (hb : Below w.heap.size w w') => WReadT.bad (l := l) (w := w) (w' := w') (k := 4) (by rw [HCODE.out, if_pos (by rw [HMF.out, HMG1.out, HC.out]; simp [h4])]) (by decide) hb)
          rw [cerr_pos h4] at HCK
          clear h4
          go_wp2_with fail
          refine HCK.out.mono ?_
          rintro e w6 ⟨rfl, hb6⟩
          have HR6 := Lib.hid (HR5.out.below hb6 HR5.out.lt)
          have HB6 := Lib.hid (HBB.out.trans (hb6.mono HBB.out.size))
          clear z0 z1 z2 z3 z4 z5 z6 z7 z8 z9 z10 z11 hb6
          have hF := fin12 HR6.out HB6.out (Nat.le_refl _) (.int .i64 0) (.int .i64 0) (.int .i64 0) (.int .i64 0) (.int .i64 0) (.int .u64 0) (.int .i64 0) (.bool false) (.int .u64 0) (.int .u32 0) (.bool false) (.slice none 0 0)
          unfold set12 at hF
          have HF := Lib.hid hF
          have r0 := HR6.out.cell 0 rfl
          have r1 := HR6.out.cell 1 rfl
          have r2 := HR6.out.cell 2 rfl
          have r3 := HR6.out.cell 3 rfl
          have r4 := HR6.out.cell 4 rfl
          have r5 := HR6.out.cell 5 rfl
          have r6 := HR6.out.cell 6 rfl
          have r7 := HR6.out.cell 7 rfl
          have r8 := HR6.out.cell 8 rfl
          have r9 := HR6.out.cell 9 rfl
          have r10 := HR6.out.cell 10 rfl
          have r11 := HR6.out.cell 11 rfl
          have rf := fun j => HR6.out.free j
          clear hF
          go_wp2
          obtain ⟨j0, j1, j2, j3, j4, j5, j6, j7, j8, j9, j10, j11, jb, jk⟩ := HF.out
          exact bodyPost_ret (v := .tuple #[.agg #[.int .i64 0, .int .i64 0, .int .i64 0, .int .i64 0, .int .i64 0, .int .u64 0, .int .i64 0, .bool false, .int .u64 0, .int .u32 0, .bool false, .slice none 0 0], err 4]) (by simp [results, Try.results34, go_sem, j0, j1, j2, j3, j4, j5, j6, j7, j8, j9, j10, j11]) rfl (HT.out _ jb)
theorem wread_v (v : Value) (l : List UInt8) (w : World) (hv : IsB w v l) (hl : l.length ≤ 1099511627776) :
    Calls Try.prog 34 #[v] w fun e w' => ∃ x c, e = .returned (.tuple #[mval (mread l) (.slice x (mread l).n.data.length c), cerr (mcode l)]) ∧ IsF w' (.slice x (mread l).n.data.length c) (mread l).n.data ∧ (∀ b, liesB (.slice x (mread l).n.data.length c) (mread l).n.data b → w.heap.size ≤ b) ∧ Below w.heap.size w w' := by
  by_cases h : l.length < 28
  · exact wread_short v l w hv h
  · cases hs : msum l with
    | true => exact wread_main v l w hv hl (by omega) hs
    | false => exact wread_sum v l w hv hl (by omega) hs

end Go.Proofs.Ytofhbnnheadmlaa
