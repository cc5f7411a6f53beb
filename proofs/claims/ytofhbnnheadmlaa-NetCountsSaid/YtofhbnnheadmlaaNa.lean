/- Package corncriblaw15: what is carried along a law; alive. -/
import Derived.Test.YtofhbnnheadmlaaNw
import Derived.Test.YtofhbnnheadmlaaLaw03fF
set_option linter.unusedVariables false
set_option linter.unusedSimpArgs false
namespace Go.Proofs.Ytofhbnnheadmlaa
open Go.RowKit Go.Cor

/-- A law's world, begun at a: a net, and nothing turned that there was. -/
structure Hd (a w : World) (g : Nat) (S : Nat → Prop) (n : NetP) (K : Nat) : Prop where
  nt : Nt w a.heap.size g S n K
  bel : Below a.heap.size a w
section
variable {a w w' : World} {g : Nat} {S : Nat → Prop} {n n' : NetP} {K K' : Nat}
theorem Hd.below (h : Hd a w g S n K) (hb : Below w.heap.size w w') : Hd a w' g S n K := ⟨h.nt.below hb, h.bel.trans (hb.mono h.bel.size)⟩
theorem Hd.alloc (h : Hd a w g S n K) (o : Obj) : Hd a (w.alloc o) g S n K := h.below (below_new15 w o)
theorem Hd.lt (h : Hd a w g S n K) {k : Nat} (hk : S k) : k < w.heap.size := by
  obtain ⟨pv, ps, mv, hA, hl, hgd, hS1, hS2⟩ := h.nt
  exact (hS2 k hk).2
theorem Hd.ge (h : Hd a w g S n K) {k : Nat} (hk : S k) : a.heap.size ≤ k := by
  obtain ⟨pv, ps, mv, hA, hl, hgd, hS1, hS2⟩ := h.nt
  exact (hS2 k hk).1
theorem Hd.new (h : Hd a w g S n K) {k : Nat} (hk : w.heap.size ≤ k) : ¬ S k := fun e => by have := h.lt e; omega
theorem Hd.old (h : Hd a w g S n K) {k : Nat} (hk : k < a.heap.size) : ¬ S k := fun e => by have := h.ge e; omega
theorem Hd.call (h : Hd a w g S n K) (ht : NtT w a.heap.size g S n' K' w') : ∃ S', Hd a w' g S' n' K' ∧ Kept S w w' ∧ ∀ b, b < w.heap.size → ¬ S b → ¬ S' b := by
  obtain ⟨S', h1, h2, h3⟩ := ht
  exact ⟨S', ⟨h1, h3.below_trans h.bel h.bel.size (fun k hk => h.old hk)⟩, h3, fun b hb hn e => by
    rcases h2 b e with h4 | h4
    · exact hn h4
    · omega⟩
end
theorem Nt.base {w : World} {B B' g : Nat} {S : Nat → Prop} {n : NetP} {K : Nat} (h : Nt w B g S n K) (hB : B' ≤ B) : Nt w B' g S n K := by
  obtain ⟨pv, ps, mv, hA, hl, hgd, hS1, hS2⟩ := h
  exact ⟨pv, ps, mv, hA, hl, hgd, hS1, fun k hk => ⟨Nat.le_trans hB (hS2 k hk).1, (hS2 k hk).2⟩⟩
theorem nnew_hd (a w : World) (ha : Below a.heap.size a w) :
    Calls Try.prog 8 #[] w fun e w' => e = .returned (.pointer (some ⟨w.heap.size, 0, none⟩)) ∧ Hd a w' w.heap.size (fun k => k = w.heap.size) ⟨[], []⟩ 0 ∧ Below w.heap.size w w' := by
  refine (nnew_nt w).mono ?_
  rintro e w' ⟨rfl, h1, h2⟩
  exact ⟨rfl, ⟨h1.base ha.size, ha.trans (h2.mono ha.size)⟩, h2⟩
def mA : Msg := ⟨0, 1, 3, 1, 0, 9, 0, false, nz⟩
theorem sA_k : sendK ⟨[], []⟩ mA = 0 := by decide
theorem sA_n : sendN ⟨[], []⟩ mA = ⟨[mA], []⟩ := by unfold sendN; rw [sA_k]; rfl
theorem tA_k : twiceK ⟨[mA], []⟩ 0 = 0 := by decide
theorem tA_n : twiceN ⟨[mA], []⟩ 0 = ⟨[mA, mA], []⟩ := by unfold twiceN; rw [tA_k]; rfl
theorem lA_k : peekK ⟨[mA, mA], []⟩ 0 = 0 := by decide
theorem lA_n : loseN ⟨[mA, mA], []⟩ 0 = ⟨[mA], []⟩ := by unfold loseN; rw [lA_k]; rfl
theorem kA_k : takeK ⟨[mA], []⟩ 0 = 0 := by decide
theorem kA_n : takeN ⟨[mA], []⟩ 0 = ⟨[], []⟩ := by unfold takeN; rw [kA_k]; rfl
theorem kA_m : takeM ⟨[mA], []⟩ 0 = mA := by unfold takeM; rw [kA_k]; rfl
theorem kB_k : takeK ⟨[], []⟩ 0 = 6 := by decide
theorem kB_m : takeM ⟨[], []⟩ 0 = mz := by unfold takeM; rw [kB_k]; rfl
set_option maxRecDepth 100000 in
set_option maxHeartbeats 4000000 in
theorem alive15 (w : World) :
    Calls Try.prog 7 #[] w fun e w' => e = .returned (.bool true) ∧ Below w.heap.size w w' := by
  go_enter Try.func7, Try.ntmps7
  go_wp2_with fail
  refine (nnew_hd w w (Below.refl _ _)).mono ?_
  rintro e w1 ⟨rfl, h1, hb1⟩
  have hH2 := h1.alloc (.cells #[.int .i64 0, .int .i64 1, .int .i64 3, .int .i64 1, .int .i64 0, .int .u64 9, .int .i64 0, .bool false, .int .u64 0, .int .u32 0, .bool false, .slice none 0 0] 43)
  have hX2 := Blk.new w1 #[.int .i64 0, .int .i64 1, .int .i64 3, .int .i64 1, .int .i64 0, .int .u64 9, .int .i64 0, .bool false, .int .u64 0, .int .u32 0, .bool false, .slice none 0 0] 43
  have hnX := h1.new (Nat.le_refl w1.heap.size)
  obtain ⟨w2, hw2⟩ : ∃ z, w1.alloc (.cells #[.int .i64 0, .int .i64 1, .int .i64 3, .int .i64 1, .int .i64 0, .int .u64 9, .int .i64 0, .bool false, .int .u64 0, .int .u32 0, .bool false, .slice none 0 0] 43) = z := ⟨_, rfl⟩
  obtain ⟨M, hM⟩ : ∃ z, w1.heap.size = z := ⟨_, rfl⟩
  rw [hw2] at hH2 hX2
  rw [hM] at hX2 hnX
  have HW2 := Lib.hid hw2
  have HM := Lib.hid hM
  have HH2 := Lib.hid hH2
  have HX2 := Lib.hid hX2
  have HNX := Lib.hid hnX
  have HS := Lib.hid (show Calls Try.prog 10 #[.pointer (some ⟨w.heap.size, 0, none⟩), .agg #[.int .i64 0, .int .i64 1, .int .i64 3, .int .i64 1, .int .i64 0, .int .u64 9, .int .i64 0, .bool false, .int .u64 0, .int .u32 0, .bool false, .slice none 0 0]] w2 fun e w' => e = .returned .nilIface ∧ NtT w2 w.heap.size w.heap.size (fun k => k = w.heap.size) ⟨[mA], []⟩ 0 w' from by
    have h := nsend_any mA none 0 0 w2 hH2.nt (IsB.nil w2) ⟨by decide, by decide⟩ (by decide)
    rw [sA_k, sA_n, cerr_0] at h
    exact h)
  clear hw2 hM hH2 hX2 hnX h1 hb1
  go_upto_region 3 with fail
  rw [HW2.out, HM.out]
  have r0 := HX2.out.cell 0 rfl
  have r1 := HX2.out.cell 1 rfl
  have r2 := HX2.out.cell 2 rfl
  have r3 := HX2.out.cell 3 rfl
  have r4 := HX2.out.cell 4 rfl
  have r5 := HX2.out.cell 5 rfl
  have r6 := HX2.out.cell 6 rfl
  have r7 := HX2.out.cell 7 rfl
  have r8 := HX2.out.cell 8 rfl
  have r9 := HX2.out.cell 9 rfl
  have r10 := HX2.out.cell 10 rfl
  have r11 := HX2.out.cell 11 rfl
  
  go_wp2_with fail
  refine HS.out.mono ?_
  rintro e w3 ⟨rfl, ht3⟩
  obtain ⟨S3, h3, hk3, hs3⟩ := HH2.out.call ht3
  clear ht3 r0 r1 r2 r3 r4 r5 r6 r7 r8 r9 r10 r11
  have HH3 := Lib.hid h3
  have HT := Lib.hid (show Calls Try.prog 14 #[.pointer (some ⟨w.heap.size, 0, none⟩), .int .i64 0] w3 fun e w' => e = .returned .nilIface ∧ NtT w3 w.heap.size w.heap.size S3 ⟨[mA, mA], []⟩ 0 w' from by
    have h := ntwice_any 0 w3 h3.nt
    rw [tA_k, tA_n, cerr_0] at h
    exact h)
  clear h3 hk3 hs3
  go_wp2_with fail
  refine HT.out.mono ?_
  rintro e w4 ⟨rfl, ht4⟩
  obtain ⟨S4, h4, hk4, hs4⟩ := HH3.out.call ht4
  clear ht4
  have HH4 := Lib.hid h4
  have HL := Lib.hid (show Calls Try.prog 13 #[.pointer (some ⟨w.heap.size, 0, none⟩), .int .i64 0] w4 fun e w' => e = .returned .nilIface ∧ NtT w4 w.heap.size w.heap.size S4 ⟨[mA], []⟩ 0 w' from by
    have h := nlose_any 0 w4 h4.nt
    rw [lA_k, lA_n, cerr_0] at h
    exact h)
  clear h4 hk4 hs4
  go_wp2_with fail
  refine HL.out.mono ?_
  rintro e w5 ⟨rfl, ht5⟩
  obtain ⟨S5, h5, hk5, hs5⟩ := HH4.out.call ht5
  clear ht5
  have HH5 := Lib.hid h5
  have HK := Lib.hid (show Calls Try.prog 12 #[.pointer (some ⟨w.heap.size, 0, none⟩), .int .i64 0] w5 fun e w' => ∃ x cp, e = .returned (.tuple #[.agg #[.int .i64 0, .int .i64 1, .int .i64 3, .int .i64 1, .int .i64 0, .int .u64 9, .int .i64 0, .bool false, .int .u64 0, .int .u32 0, .bool false, .slice x 0 cp], .nilIface]) ∧ NtT w5 w.heap.size w.heap.size S5 ⟨[], []⟩ 0 w' from by
    have h := ntake_any 0 w5 h5.nt
    rw [kA_k, kA_n, kA_m, cerr_0] at h
    exact h.mono fun e w' ⟨x, cp, h1, _, _, h2⟩ => ⟨x, cp, h1, h2⟩)
  clear h5 hk5 hs5
  go_wp2_with fail
  refine HK.out.mono ?_
  rintro e w6 ⟨x, cp, rfl, ht6⟩
  obtain ⟨S6, h6, hk6, hs6⟩ := HH5.out.call ht6
  clear ht6
  have hH7 := h6.alloc (.cells #[.int .i64 0, .int .i64 1, .int .i64 3, .int .i64 1, .int .i64 0, .int .u64 9, .int .i64 0, .bool false, .int .u64 0, .int .u32 0, .bool false, .slice x 0 cp] 43)
  have hX7 := Blk.new w6 #[.int .i64 0, .int .i64 1, .int .i64 3, .int .i64 1, .int .i64 0, .int .u64 9, .int .i64 0, .bool false, .int .u64 0, .int .u32 0, .bool false, .slice x 0 cp] 43
  have hnX7 := h6.new (Nat.le_refl w6.heap.size)
  obtain ⟨w7, hw7⟩ : ∃ z, w6.alloc (.cells #[.int .i64 0, .int .i64 1, .int .i64 3, .int .i64 1, .int .i64 0, .int .u64 9, .int .i64 0, .bool false, .int .u64 0, .int .u32 0, .bool false, .slice x 0 cp] 43) = z := ⟨_, rfl⟩
  obtain ⟨X, hX⟩ : ∃ z, w6.heap.size = z := ⟨_, rfl⟩
  rw [hw7] at hH7 hX7
  rw [hX] at hX7 hnX7
  have HW7 := Lib.hid hw7
  have HXX := Lib.hid hX
  have HH7 := Lib.hid hH7
  have HX7 := Lib.hid hX7
  have HNX7 := Lib.hid hnX7
  have HK2 := Lib.hid (show Calls Try.prog 12 #[.pointer (some ⟨w.heap.size, 0, none⟩), .int .i64 0] w7 fun e w' => ∃ y cq, e = .returned (.tuple #[.agg #[.int .i64 0, .int .i64 0, .int .i64 0, .int .i64 0, .int .i64 0, .int .u64 0, .int .i64 0, .bool false, .int .u64 0, .int .u32 0, .bool false, .slice y 0 cq], err 6]) ∧ NtT w7 w.heap.size w.heap.size S6 (takeN ⟨[], []⟩ 0) 0 w' from by
    have h := ntake_any 0 w7 hH7.nt
    rw [kB_k, kB_m, cerr_pos (by decide)] at h
    exact h.mono fun e w' ⟨x, cp, h1, _, _, h2⟩ => ⟨x, cp, h1, h2⟩)
  clear h6 hk6 hs6 hH7 hX7 hnX7 hw7 hX
  go_upto_region 7 with fail
  (try rw [HW7.out]); (try rw [HXX.out])
  go_wp2_with fail
  refine HK2.out.mono ?_
  rintro e w8 ⟨y, cq, rfl, ht8⟩
  obtain ⟨S8, h8, hk8, hs8⟩ := HH7.out.call ht8
  clear ht8
  have hX8 := (HX7.out.kept hk8 HNX7.out).alloc (.cells #[.int .i64 0, .int .i64 0, .int .i64 0, .int .i64 0, .int .i64 0, .int .u64 0, .int .i64 0, .bool false, .int .u64 0, .int .u32 0, .bool false, .slice y 0 cq] 43)
  have HB9 := Lib.hid (h8.alloc (.cells #[.int .i64 0, .int .i64 0, .int .i64 0, .int .i64 0, .int .i64 0, .int .u64 0, .int .i64 0, .bool false, .int .u64 0, .int .u32 0, .bool false, .slice y 0 cq] 43)).bel
  obtain ⟨w9, hw9⟩ : ∃ z, w8.alloc (.cells #[.int .i64 0, .int .i64 0, .int .i64 0, .int .i64 0, .int .i64 0, .int .u64 0, .int .i64 0, .bool false, .int .u64 0, .int .u32 0, .bool false, .slice y 0 cq] 43) = z := ⟨_, rfl⟩
  rw [hw9] at hX8 HB9
  have HW9 := Lib.hid hw9
  have HX9 := Lib.hid hX8
  clear hw9 hX8 h8 hk8 hs8
  go_upto_region 8 with fail
  (try rw [HW9.out])
  have q5 := HX9.out.cell 5 rfl
  go_wp2_with fail
  refine (code_nil _).mono ?_
  rintro e wx ⟨rfl, rfl⟩
  go_wp2_with fail
  refine (code_nil _).mono ?_
  rintro e wx ⟨rfl, rfl⟩
  go_wp2_with fail
  refine (code_nil _).mono ?_
  rintro e wx ⟨rfl, rfl⟩
  go_wp2_with fail
  refine (code_nil _).mono ?_
  rintro e wx ⟨rfl, rfl⟩
  go_wp2_with fail
  refine (code_code 6 _ (by decide) (by decide)).mono ?_
  rintro e wx ⟨rfl, rfl⟩
  go_wp2
  go_ret
  exact ⟨rfl, HB9.out⟩

end Go.Proofs.Ytofhbnnheadmlaa
