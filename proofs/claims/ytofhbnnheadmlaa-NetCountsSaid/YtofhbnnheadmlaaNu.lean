/- Package net by contracts: Send, Peek and Take of a net as a plain value. -/
import Derived.Test.YtofhbnnheadmlaaNs
set_option linter.unusedVariables false
set_option linter.unusedSimpArgs false
namespace Go.Proofs.Ytofhbnnheadmlaa
open Go.RowKit Go.Cor

set_option maxHeartbeats 1000000 in
theorem nsend_nil (m : Msg) (x : Option Addr) (L c : Nat) (w : World) :
    Calls Try.prog 10 #[.pointer none, mval m (.slice x L c)] w fun e w' => e = .returned (err 15) ∧ Below w.heap.size w w' := by
  go_enter Try.func10, Try.ntmps10
  go_wp2
  go_ret
  exact ⟨rfl, below_new15 _ _⟩
set_option maxHeartbeats 2000000 in
theorem nsend_any {B g : Nat} {S : Nat → Prop} {n : NetP} {K : Nat} (m : Msg) (x : Option Addr) (L c : Nat) (w : World) (h : Nt w B g S n K) (hv : IsB w (.slice x L c) m.n.data) (hf : m.n.fits) (hid : m.id < 18446744073709551616) :
    Calls Try.prog 10 #[.pointer (some ⟨g, 0, none⟩), mval m (.slice x L c)] w fun e w' => e = .returned (cerr (sendK n m)) ∧ NtT w B g S (sendN n m) K w' := by
  have hB0 := below_new15 w (.cells #[.int .i64 m.fr, .int .i64 m.to, .int .i64 m.kd, .int .i64 m.vo, .int .i64 m.li, .int .u64 (m.id : Int), .int .i64 m.co, .bool m.has, .int .u64 (m.n.key : Int), .int .u32 (m.n.cookie : Int), .bool m.n.gone, .slice x L c] 43)
  have hX0 := Blk.new w #[.int .i64 m.fr, .int .i64 m.to, .int .i64 m.kd, .int .i64 m.vo, .int .i64 m.li, .int .u64 (m.id : Int), .int .i64 m.co, .bool m.has, .int .u64 (m.n.key : Int), .int .u32 (m.n.cookie : Int), .bool m.n.gone, .slice x L c] 43
  obtain ⟨w1, hw1⟩ : ∃ z, w.alloc (.cells #[.int .i64 m.fr, .int .i64 m.to, .int .i64 m.kd, .int .i64 m.vo, .int .i64 m.li, .int .u64 (m.id : Int), .int .i64 m.co, .bool m.has, .int .u64 (m.n.key : Int), .int .u32 (m.n.cookie : Int), .bool m.n.gone, .slice x L c] 43) = z := ⟨_, rfl⟩
  obtain ⟨X, hX⟩ : ∃ z, w.heap.size = z := ⟨_, rfl⟩
  rw [hw1] at hB0 hX0
  have hv1 := hv.mono hB0 (Nat.le_refl _)
  have HW1 := Lib.hid hw1
  have HX := Lib.hid hX
  have HB1 := Lib.hid hB0
  have r0 := hX0.cell 0 rfl
  have r1 := hX0.cell 1 rfl
  have r2 := hX0.cell 2 rfl
  have r3 := hX0.cell 3 rfl
  have r4 := hX0.cell 4 rfl
  have r5 := hX0.cell 5 rfl
  have r6 := hX0.cell 6 rfl
  have r7 := hX0.cell 7 rfl
  have r8 := hX0.cell 8 rfl
  have r9 := hX0.cell 9 rfl
  have r10 := hX0.cell 10 rfl
  have r11 := hX0.cell 11 rfl
  
  rw [hX] at r0 r1 r2 r3 r4 r5 r6 r7 r8 r9 r10 r11
  clear hX
  by_cases hc : mcheck m = 0
  · have HC := Lib.hid (wbytes_ok m x L c w1 hv1 hc hf hid)
    obtain ⟨pv, ps, mv, hA, hl, hgd, hS1, hS2⟩ := id h
    have hlen : n.l.length = ps.length := by rw [hl, List.length_map]
    have HLT := Lib.hid (fun k (hk : nmem g pv ps mv k) => hA.lt hk)
    by_cases hfl : 4096 ≤ n.l.length
    · have hsk : sendK n m = 11 := by unfold sendK; rw [if_pos hc, if_pos hfl]
      have hsn : sendN n m = n := by unfold sendN; rw [if_neg (by omega)]
      rw [hsk, hsn, cerr_pos (by decide)]
      have HAD := Lib.hid (fun (w2 : World) (v : Value) (hb : Below w.heap.size w w2) => nadd_full v w2 (hA.below hb (Nat.le_refl _)) (by omega))
      have HZ := Lib.hid (fun (w2 : World) (hb : Below w.heap.size w w2) => NtT.same h hb)
      clear h hv hv1 hc hfl hsk hsn hA hl hgd hS1 hS2 hlen hw1 hB0 hX0 HLT
      go_enter Try.func10, Try.ntmps10
      go_upto_region 3 with fail
      rw [HW1.out, HX.out]
      go_wp2_with fail
      refine HC.out.mono ?_
      rintro e w2 ⟨y, k, rfl, hown2, hb2⟩
      have HB2 := Lib.hid (HB1.out.trans (hb2.mono HB1.out.size))
      clear hown2 hb2
      go_wp2_with fail
      refine (HAD.out w2 _ HB2.out).mono ?_
      rintro e w3 ⟨rfl, rfl⟩
      go_wp2
      go_ret
      exact ⟨rfl, HZ.out _ HB2.out⟩
    · have hsk : sendK n m = 0 := by unfold sendK; rw [if_pos hc, if_neg hfl]
      have hsn : sendN n m = { n with l := n.l ++ [m] } := by unfold sendN; rw [if_pos hsk]
      rw [hsk, hsn, cerr_0]
      have HAD := Lib.hid (fun (w2 : World) (y : Option Addr) (k : Nat) (hb : Below w.heap.size w w2) (hu : IsB w2 (.slice y (mbytes m).length k) (mbytes m)) (hn : ∀ j, liesB (.slice y (mbytes m).length k) (mbytes m) j → w.heap.size ≤ j) =>
        nadd_ok y (mbytes m).length k m w2 (hA.below hb (Nat.le_refl _)) (by omega) hu (fun j hk => ⟨fun e => by have := HLT.out j (.inl e); have := hn j hk; omega, fun e => by have := HLT.out j (.inr (.inl e)); have := hn j hk; omega, fun e => by have := HLT.out j (.inr (.inr (.inl e))); have := hn j hk; omega⟩))
      have HZ := Lib.hid (fun (w2 w3 : World) (y : Option Addr) (k : Nat) (pv' : Value) (hb : Below w.heap.size w w2) (hn : ∀ j, liesB (.slice y (mbytes m).length k) (mbytes m) j → w.heap.size ≤ j) h1 h2 h3 => NtT.push (w1 := w2) (w2 := w3) (pv' := pv') (u := .slice y (mbytes m).length k) hA hl hgd hS1 hS2 hfl ⟨hc, hf, hid⟩ hb hn h1 h2 h3)
      obtain ⟨LL, hLL⟩ : ∃ z, (mbytes m).length = z := ⟨_, rfl⟩
      rw [hLL] at HC HAD HZ
      have HL := Lib.hid hLL
      clear h hv hv1 hc hfl hsk hsn hA hl hgd hS1 hS2 hlen hw1 hB0 hX0 HLT hLL hf hid
      go_enter Try.func10, Try.ntmps10
      go_upto_region 3 with fail
      rw [HW1.out, HX.out]
      go_wp2_with fail
      refine HC.out.mono ?_
      rintro e w2 ⟨y, k, rfl, hown2, hb2⟩
      have HB2 := Lib.hid (HB1.out.trans (hb2.mono HB1.out.size))
      have HN2 := Lib.hid (show ∀ j, liesB (.slice y LL k) (mbytes m) j → w.heap.size ≤ j from fun j hk => Nat.le_trans HB1.out.size (hown2.lt j hk.2).1)
      have HI2 := Lib.hid (IsB.own hown2 HL.out.symm)
      clear hown2 hb2
      go_wp2_with fail
      refine (HAD.out w2 y k HB2.out HI2.out HN2.out).mono ?_
      rintro e w3 ⟨rfl, pv', h1, h2, h3⟩
      have HR := Lib.hid (HZ.out w2 w3 y k pv' HB2.out HN2.out h1 h2 h3)
      clear h1 h2 h3
      go_wp2
      go_ret
      exact ⟨rfl, HR.out⟩
  · have HC := Lib.hid (wbytes_no m x L c w1 hv1 hc)
    have hsk : sendK n m = mcheck m := by unfold sendK; rw [if_neg hc]
    have hsn : sendN n m = n := by unfold sendN; rw [hsk, if_neg hc]
    rw [hsk, hsn]
    obtain ⟨C, hC⟩ : ∃ z, mcheck m = z := ⟨_, rfl⟩
    rw [hC] at HC hc ⊢
    rw [cerr_pos hc]
    have HZ := Lib.hid (fun (w2 : World) (hb : Below w.heap.size w w2) => NtT.same h hb)
    clear h hv hv1 hsk hsn hw1 hB0 hX0 hC hc
    go_enter Try.func10, Try.ntmps10
    go_upto_region 3 with fail
    rw [HW1.out, HX.out]
    go_wp2_with fail
    refine HC.out.mono ?_
    rintro e w2 ⟨rfl, hb2⟩
    have HB2 := Lib.hid (HB1.out.trans (hb2.mono HB1.out.size))
    clear hb2
    go_wp2
    go_ret
    exact ⟨rfl, HZ.out _ HB2.out⟩

end Go.Proofs.Ytofhbnnheadmlaa
