/- Package net by contracts: Len, has, Peek. -/
import Derived.Test.YtofhbnnheadmlaaNp
import Derived.Test.YtofhbnnheadmlaaWk
set_option linter.unusedVariables false
set_option linter.unusedSimpArgs false
namespace Go.Proofs.Ytofhbnnheadmlaa
open Go.RowKit Go.Cor

theorem nlen_nil (w : World) :
    Calls Try.prog 21 #[.pointer none] w fun e w' => e = .returned (.int .i64 0) ∧ w = w' := by
  go_enter Try.func21, Try.ntmps21
  go_wp2
  go_ret
  exact ⟨rfl, rfl⟩
theorem nlen_at {g : Nat} {pv : Value} {ps : List (Msg × Value)} {mv : Value} {c : List (Int × Int)} {K : Nat} (w : World) (h : NtAt w g pv ps mv c K) :
    Calls Try.prog 21 #[.pointer (some ⟨g, 0, none⟩)] w fun e w' => e = .returned (.int .i64 (ps.length : Int)) ∧ w = w' := by
  have k0 : w.cell? ⟨g, 0, none⟩ = some pv := h.nblk.cell 0 rfl
  have hlen := (fun W => len_X (P := Try.prog) h.isX 63 3 26 Try.underlying63 W)
  clear h
  go_enter Try.func21, Try.ntmps21
  go_wp2
  go_ret
  exact ⟨rfl, rfl⟩
theorem nhas_nil (i : Int) (w : World) :
    Calls Try.prog 28 #[.pointer none, .int .i64 i] w fun e w' => e = .returned (err 15) ∧ w = w' := by
  go_enter Try.func28, Try.ntmps28
  go_wp2
  go_ret
  exact ⟨rfl, rfl⟩
theorem nhas_at {g : Nat} {pv : Value} {ps : List (Msg × Value)} {mv : Value} {c : List (Int × Int)} {K : Nat} (i : Int) (w : World) (h : NtAt w g pv ps mv c K) :
    Calls Try.prog 28 #[.pointer (some ⟨g, 0, none⟩), .int .i64 i] w fun e w' => e = .returned (cerr (if 0 ≤ i ∧ i.toNat < ps.length then 0 else 6)) ∧ w = w' := by
  have k0 : w.cell? ⟨g, 0, none⟩ = some pv := h.nblk.cell 0 rfl
  have hlen := (fun W => len_X (P := Try.prog) h.isX 63 3 26 Try.underlying63 W)
  obtain ⟨L, hL⟩ : ∃ L, ps.length = L := ⟨_, rfl⟩
  rw [hL] at hlen ⊢
  clear h hL
  by_cases h0 : i < 0
  · rw [if_neg (by omega)]
    go_enter Try.func28, Try.ntmps28
    go_wp2
    go_ret
    exact ⟨rfl, rfl⟩
  · by_cases h1 : (L : Int) ≤ i
    · rw [if_neg (by omega)]
      go_enter Try.func28, Try.ntmps28
      go_wp2
      go_ret
      exact ⟨rfl, rfl⟩
    · rw [if_pos (by omega)]
      go_enter Try.func28, Try.ntmps28
      go_wp2
      go_ret
      exact ⟨rfl, rfl⟩
set_option maxHeartbeats 1000000 in
theorem npeek_nil (i : Int) (w : World) :
    Calls Try.prog 22 #[.pointer none, .int .i64 i] w fun e w' => e = .returned (.tuple #[mval mz (.slice none 0 0), err 15]) ∧ Below w.heap.size w w' := by
  have HH := Lib.hid (nhas_nil i (w.alloc (.cells #[.int .i64 0, .int .i64 0, .int .i64 0, .int .i64 0, .int .i64 0, .int .u64 0, .int .i64 0, .bool false, .int .u64 0, .int .u32 0, .bool false, .slice none 0 0] 43)))
  go_enter Try.func22, Try.ntmps22
  go_wp2_with fail
  refine HH.out.mono ?_
  rintro e w1 ⟨rfl, rfl⟩
  go_wp2
  exact bodyPost_ret (v := .tuple #[mval mz (.slice none 0 0), err 15]) (by simp [results, Try.results22, go_sem, mz, nz]) rfl ⟨rfl, below_new15 _ _⟩
set_option maxHeartbeats 1000000 in
theorem npeek_no {g : Nat} {pv : Value} {ps : List (Msg × Value)} {mv : Value} {c : List (Int × Int)} {K : Nat} (i : Int) (w : World) (h : NtAt w g pv ps mv c K) (hi : ¬ (0 ≤ i ∧ i.toNat < ps.length)) :
    Calls Try.prog 22 #[.pointer (some ⟨g, 0, none⟩), .int .i64 i] w fun e w' => e = .returned (.tuple #[mval mz (.slice none 0 0), err 6]) ∧ Below w.heap.size w w' := by
  have hc := nhas_at i (w.alloc (.cells #[.int .i64 0, .int .i64 0, .int .i64 0, .int .i64 0, .int .i64 0, .int .u64 0, .int .i64 0, .bool false, .int .u64 0, .int .u32 0, .bool false, .slice none 0 0] 43)) (h.below (below_new15 w _) (Nat.le_refl _))
  rw [if_neg hi, cerr_pos (by decide)] at hc
  have HH := Lib.hid hc
  clear hc h hi
  go_enter Try.func22, Try.ntmps22
  go_wp2_with fail
  refine HH.out.mono ?_
  rintro e w1 ⟨rfl, rfl⟩
  go_wp2
  exact bodyPost_ret (v := .tuple #[mval mz (.slice none 0 0), err 6]) (by simp [results, Try.results22, go_sem, mz, nz]) rfl ⟨rfl, below_new15 _ _⟩
set_option maxRecDepth 100000 in
set_option maxHeartbeats 2000000 in
theorem npeek_ok {g : Nat} {pv : Value} {ps : List (Msg × Value)} {mv : Value} {c : List (Int × Int)} {K : Nat} (i : Nat) (m : Msg) (u : Value) (w : World) (h : NtAt w g pv ps mv c K) (hx : ps[i]? = some (m, u)) (hm : mcheck m = 0 ∧ m.n.fits ∧ m.id < 18446744073709551616) :
    Calls Try.prog 22 #[.pointer (some ⟨g, 0, none⟩), .int .i64 (i : Int)] w fun e w' => ∃ x cp, e = .returned (.tuple #[mval m (.slice x m.n.data.length cp), .nilIface]) ∧ IsF w' (.slice x m.n.data.length cp) m.n.data ∧ (∀ b, liesB (.slice x m.n.data.length cp) m.n.data b → w.heap.size ≤ b) ∧ Below w.heap.size w w' := by
  have hil : i < ps.length := (List.getElem?_eq_some_iff.1 hx).1
  have hB0 := below_new15 w (.cells #[.int .i64 0, .int .i64 0, .int .i64 0, .int .i64 0, .int .i64 0, .int .u64 0, .int .i64 0, .bool false, .int .u64 0, .int .u32 0, .bool false, .slice none 0 0] 43)
  have hX0 := Blk.new w #[.int .i64 0, .int .i64 0, .int .i64 0, .int .i64 0, .int .i64 0, .int .u64 0, .int .i64 0, .bool false, .int .u64 0, .int .u32 0, .bool false, .slice none 0 0] 43
  have hA := h.below hB0 (Nat.le_refl _)
  obtain ⟨w1, hw1⟩ : ∃ z, w.alloc (.cells #[.int .i64 0, .int .i64 0, .int .i64 0, .int .i64 0, .int .i64 0, .int .u64 0, .int .i64 0, .bool false, .int .u64 0, .int .u32 0, .bool false, .slice none 0 0] 43) = z := ⟨_, rfl⟩
  rw [hw1] at hB0 hX0 hA
  have hs1 : w.heap.size + 1 = w1.heap.size := by rw [← hw1]; simp
  have hc := nhas_at (i : Int) w1 hA
  rw [if_pos (by omega), cerr_0] at hc
  have HH := Lib.hid hc
  have k0 : w1.cell? ⟨g, 0, none⟩ = some pv := hA.nblk.cell 0 rfl
  obtain ⟨b, o, hidx, _, hcell⟩ := indexAt_X hA.isX 63 26 Try.underlying63 Try.sizeBs i hil
  have k1 : w1.cell? ⟨b, o, none⟩ = some u := by
    have := hcell 0 (by decide)
    rw [row_get pkc_len hx 0 (by decide)] at this
    simpa [pkc] using this
  have hu := (hA.npk (m, u) (List.mem_of_getElem? hx)).1
  have hu1 := (hA.npk (m, u) (List.mem_of_getElem? hx)).2.1
  obtain ⟨hc0, hmr⟩ := mread_bytes hm.1 hm.2.1 hm.2.2
  have hlb : (mbytes m).length ≤ 1099511627776 := by
    rw [length_mbytes, length_mbody]
    have h1 := length_nbytes m.n
    have h2 := padn_lt m.n.data.length
    split
    · rename_i h3
      have h4 := (ncheck_ok ((mcheck_ok hm.1).2.1 h3)).1
      omega
    · omega
  have hr := wread_v u (mbytes m) w1 hu hlb
  rw [hc0, hmr, cerr_0] at hr
  have HR := Lib.hid hr
  have HW1 := Lib.hid hw1
  have HX := Lib.hid hX0
  have HB := Lib.hid hB0
  have HS := Lib.hid hs1
  clear hc h hx hm hA hcell hu hr hw1 hX0 hB0 hs1 hc0 hmr hlb hil
  go_enter Try.func22, Try.ntmps22
  go_wp2_with fail
  rw [HW1.out]
  refine HH.out.mono ?_
  rintro e w2 ⟨rfl, rfl⟩
  go_wp2_with fail
  refine HR.out.mono ?_
  rintro e w3 ⟨x, cp, rfl, hi3, hl3, hb3⟩
  have HY := Lib.hid (HX.out.below hb3 HX.out.lt)
  have HB3 := Lib.hid (HB.out.trans (hb3.mono HB.out.size))
  have hF := fin12 HY.out HB3.out (Nat.le_refl _) (.int .i64 m.fr) (.int .i64 m.to) (.int .i64 m.kd) (.int .i64 m.vo) (.int .i64 m.li) (.int .u64 (m.id : Int)) (.int .i64 m.co) (.bool m.has) (.int .u64 (m.n.key : Int)) (.int .u32 (m.n.cookie : Int)) (.bool m.n.gone) (.slice x m.n.data.length cp)
  have hlo : ∀ b, liesB (.slice x m.n.data.length cp) m.n.data b → w.heap.size < b := fun b hb => by have := hl3 b hb; have := HS.out; omega
  have hi4 := hi3.kept hF.2.2.2.2.2.2.2.2.2.2.2.2.2 (fun b hb e => by have := hlo b hb; omega)
  unfold set12 at hF hi4
  have HF := Lib.hid hF
  have HI := Lib.hid hi4
  have HLO := Lib.hid hlo
  have r0 := HY.out.cell 0 rfl
  have r1 := HY.out.cell 1 rfl
  have r2 := HY.out.cell 2 rfl
  have r3 := HY.out.cell 3 rfl
  have r4 := HY.out.cell 4 rfl
  have r5 := HY.out.cell 5 rfl
  have r6 := HY.out.cell 6 rfl
  have r7 := HY.out.cell 7 rfl
  have r8 := HY.out.cell 8 rfl
  have r9 := HY.out.cell 9 rfl
  have r10 := HY.out.cell 10 rfl
  have r11 := HY.out.cell 11 rfl
  have rf := fun j => HY.out.free j
  clear hF hi4 hi3 hl3 hb3 hlo
  go_wp2
  obtain ⟨j0, j1, j2, j3, j4, j5, j6, j7, j8, j9, j10, j11, jb, jk⟩ := HF.out
  exact bodyPost_ret (v := .tuple #[mval m (.slice x m.n.data.length cp), .nilIface]) (by simp [results, Try.results22, go_sem, j0, j1, j2, j3, j4, j5, j6, j7, j8, j9, j10, j11]) rfl ⟨x, cp, rfl, HI.out, fun b hb => Nat.le_of_lt (HLO.out b hb), jb⟩

end Go.Proofs.Ytofhbnnheadmlaa
