/- Rvold, Dov. -/
import Derived.Test.YtcpoaofcfefgaaaGreatDoorM10

section
namespace Go.Proofs.YtcpoaofcfefgaaaGreatDoor
open Go.RowKit Go.Cor

theorem two_facts {w w2 : World} {A B : Array Value} {TA TB : TypeId} (hb : Below ((w.alloc (.cells A TA)).alloc (.cells B TB)).heap.size ((w.alloc (.cells A TA)).alloc (.cells B TB)) w2) :
    Blk w2 w.heap.size A TA ∧ Blk w2 (w.heap.size + 1) B TB ∧ Below w.heap.size w w2 ∧ w.heap.size + 1 < w2.heap.size := by
  have h1 := (Blk.new w A TA).alloc (.cells B TB)
  have h2 := Blk.new (w.alloc (.cells A TA)) B TB
  rw [show (w.alloc (.cells A TA)).heap.size = w.heap.size + 1 by simp] at h2
  have hs := hb.size
  have e : ((w.alloc (.cells A TA)).alloc (.cells B TB)).heap.size = w.heap.size + 1 + 1 := by simp
  rw [e] at hb hs
  refine ⟨h1.below hb (by omega), h2.below hb (by omega), ?_, by omega⟩
  exact ((below_alloc w (.cells A TA)).alloc (by simp) (.cells B TB)).trans (hb.mono (by omega))
theorem two_below (w : World) (A B : Array Value) (TA TB : TypeId) : Below w.heap.size w ((w.alloc (.cells A TA)).alloc (.cells B TB)) := (below_alloc w (.cells A TA)).alloc (by simp) (.cells B TB)

set_option maxRecDepth 100000 in
set_option maxHeartbeats 1000000 in
theorem rdel_b (key c : Nat) (S : Nat → Prop) (s : Vst) (lv dv : Value) (ps : List (Ndl × Value)) (w : World) (h : DocP w S s lv dv ps) (hf : s.ns.length < 4095) (hn : s.look key c ≠ 0) :
    Calls Tryz.prog 32 #[dval s lv dv, .int .u64 (key : Int), .int .u32 (c : Int)] w (DocT w S s (s.look key c)) := by
  obtain ⟨lx, lc, rfl, _, _⟩ := IsX.slice h.l
  obtain ⟨dx, dc, rfl, _, _⟩ := IsX.slice h.d.1
  have hpl : ps.length = s.ns.length := by rw [← h.ns, List.length_map]
  obtain ⟨I, hI⟩ : ∃ I, s.idx.length = I := ⟨_, rfl⟩
  obtain ⟨N, hN⟩ : ∃ N, ps.length = N := ⟨_, rfl⟩
  rw [hI, hN] at h ⊢
  have HH := Lib.hid h
  have HB0 := Lib.hid (two_below w #[.int .i64 (s.num : Int), .int .i64 (s.most : Int), .int .i64 (s.epoch : Int), .int .i64 (s.size : Int), .bool s.shut, .slice lx I lc, .slice dx N dc] zvol 30 30)
  have HLK := Lib.hid (look_r key c S s _ _ ps _ (h.below HB0.out) (by rw [hN]; omega))
  obtain ⟨q, hq⟩ : ∃ q, s.look key c = q := ⟨_, rfl⟩
  rw [hq] at hn HLK ⊢
  have hq0 : ¬ (q : Int) = 0 := by omega
  clear h hI hN hpl hq hf
  go_enter Tryz.func32, Tryz.ntmps32
  go_wp2_with fail
  refine HLK.out.mono ?_
  rintro e w2 ⟨rfl, hb2⟩
  obtain ⟨hV, hR, hB, hlt⟩ := two_facts hb2
  have HVB := Lib.hid hV
  have HRB := Lib.hid hR
  have HB2 := Lib.hid hB
  have v0 := hV.cell 0 rfl
  have v1 := hV.cell 1 rfl
  have v2 := hV.cell 2 rfl
  have v3 := hV.cell 3 rfl
  have v4 := hV.cell 4 rfl
  have v5 := hV.cell 5 rfl
  have v6 := hV.cell 6 rfl
  have r0 := hR.cell 0 rfl
  have r1 := hR.cell 1 rfl
  have r2 := hR.cell 2 rfl
  have r3 := hR.cell 3 rfl
  have r4 := hR.cell 4 rfl
  have r5 := hR.cell 5 rfl
  have r6 := hR.cell 6 rfl
  have rf := fun j => hR.free j
  clear hb2 hV hR hB
  have hF := fin7 HRB.out HB2.out (show w.heap.size ≤ w.heap.size + 1 by omega) (.int .i64 (s.num : Int)) (.int .i64 (s.most : Int)) (.int .i64 (s.epoch : Int)) (.int .i64 (s.size : Int)) (.bool s.shut) (.slice lx I lc) (.slice dx N dc)
  unfold set7 at hF
  have HF := Lib.hid hF
  clear hF
  go_wp2
  obtain ⟨y0, y1, y2, y3, y4, y5, y6, yb⟩ := HF.out
  exact bodyPost_ret (v := .tuple #[.agg #[.int .i64 (s.num : Int), .int .i64 (s.most : Int), .int .i64 (s.epoch : Int), .int .i64 (s.size : Int), .bool s.shut, .slice lx I lc, .slice dx N dc], .int .i64 (q : Int)]) (by simp [results, Tryz.results32, go_sem, y0, y1, y2, y3, y4, y5, y6]) rfl ⟨_, _, ps, rfl, HH.out.below yb, yb⟩
set_option maxRecDepth 100000 in
set_option maxHeartbeats 1000000 in
theorem rdel_s (key c : Nat) (S : Nat → Prop) (s : Vst) (lv dv : Value) (ps : List (Ndl × Value)) (w : World) (h : DocP w S s lv dv ps) (hf : s.ns.length < 4095) (hn : s.look key c = 0) (hs : s.shut = true) :
    Calls Tryz.prog 32 #[dval s lv dv, .int .u64 (key : Int), .int .u32 (c : Int)] w (DocT w S s 10) := by
  obtain ⟨lx, lc, rfl, _, _⟩ := IsX.slice h.l
  obtain ⟨dx, dc, rfl, _, _⟩ := IsX.slice h.d.1
  have hpl : ps.length = s.ns.length := by rw [← h.ns, List.length_map]
  obtain ⟨I, hI⟩ : ∃ I, s.idx.length = I := ⟨_, rfl⟩
  obtain ⟨N, hN⟩ : ∃ N, ps.length = N := ⟨_, rfl⟩
  rw [hI, hN] at h ⊢
  have HH := Lib.hid h
  have HB0 := Lib.hid (two_below w #[.int .i64 (s.num : Int), .int .i64 (s.most : Int), .int .i64 (s.epoch : Int), .int .i64 (s.size : Int), .bool s.shut, .slice lx I lc, .slice dx N dc] zvol 30 30)
  have HLK := Lib.hid (look_r key c S s _ _ ps _ (h.below HB0.out) (by rw [hN]; omega))
  rw [hn] at HLK
  have HSH := Lib.hid hs
  clear h hI hN hpl hn hs hf
  go_enter Tryz.func32, Tryz.ntmps32
  go_wp2_with fail
  refine HLK.out.mono ?_
  rintro e w2 ⟨rfl, hb2⟩
  obtain ⟨hV, hR, hB, hlt⟩ := two_facts hb2
  have HVB := Lib.hid hV
  have HRB := Lib.hid hR
  have HB2 := Lib.hid hB
  have v0 := hV.cell 0 rfl
  have v1 := hV.cell 1 rfl
  have v2 := hV.cell 2 rfl
  have v3 := hV.cell 3 rfl
  have v4 := hV.cell 4 rfl
  have v5 := hV.cell 5 rfl
  have v6 := hV.cell 6 rfl
  have r0 := hR.cell 0 rfl
  have r1 := hR.cell 1 rfl
  have r2 := hR.cell 2 rfl
  have r3 := hR.cell 3 rfl
  have r4 := hR.cell 4 rfl
  have r5 := hR.cell 5 rfl
  have r6 := hR.cell 6 rfl
  have rf := fun j => hR.free j
  clear hb2 hV hR hB
  rw [HSH.out] at v4
  have hF := fin7 HRB.out HB2.out (show w.heap.size ≤ w.heap.size + 1 by omega) (.int .i64 (s.num : Int)) (.int .i64 (s.most : Int)) (.int .i64 (s.epoch : Int)) (.int .i64 (s.size : Int)) (.bool true) (.slice lx I lc) (.slice dx N dc)
  unfold set7 at hF
  have HF := Lib.hid hF
  clear hF
  go_wp2
  obtain ⟨y0, y1, y2, y3, y4, y5, y6, yb⟩ := HF.out
  exact bodyPost_ret (v := .tuple #[.agg #[.int .i64 (s.num : Int), .int .i64 (s.most : Int), .int .i64 (s.epoch : Int), .int .i64 (s.size : Int), .bool true, .slice lx I lc, .slice dx N dc], .int .i64 10]) (by simp [results, Tryz.results32, go_sem, y0, y1, y2, y3, y4, y5, y6]) rfl ⟨_, _, ps, by rw [show dval s (.slice lx I lc) (.slice dx N dc) = .agg #[.int .i64 (s.num : Int), .int .i64 (s.most : Int), .int .i64 (s.epoch : Int), .int .i64 (s.size : Int), .bool true, .slice lx I lc, .slice dx N dc] by rw [← HSH.out]]; rfl, HH.out.below yb, yb⟩
set_option maxRecDepth 100000 in
set_option maxHeartbeats 1000000 in
theorem rdel_o (key c : Nat) (S : Nat → Prop) (s : Vst) (lv dv : Value) (ps : List (Ndl × Value)) (w : World) (h : DocP w S s lv dv ps) (hf : s.ns.length < 4095) (hSw : ∀ b, S b → b < w.heap.size) (hsok : s.Ok) (hm : s.size + nlen (grave key c) ≤ s.most) (hn : s.look key c = 0) (hs : s.shut = false) :
    Calls Tryz.prog 32 #[dval s lv dv, .int .u64 (key : Int), .int .u32 (c : Int)] w (DocT w S (s.wrote (grave key c)) 0) := by
  obtain ⟨lx, lc, rfl, _, _⟩ := IsX.slice h.l
  obtain ⟨dx, dc, rfl, _, _⟩ := IsX.slice h.d.1
  have hpl : ps.length = s.ns.length := by rw [← h.ns, List.length_map]
  obtain ⟨I, hI⟩ : ∃ I, s.idx.length = I := ⟨_, rfl⟩
  obtain ⟨N, hN⟩ : ∃ N, ps.length = N := ⟨_, rfl⟩
  rw [hI, hN] at h ⊢
  have HH := Lib.hid h
  have HB0 := Lib.hid (two_below w #[.int .i64 (s.num : Int), .int .i64 (s.most : Int), .int .i64 (s.epoch : Int), .int .i64 (s.size : Int), .bool s.shut, .slice lx I lc, .slice dx N dc] zvol 30 30)
  have HLK := Lib.hid (look_r key c S s _ _ ps _ (h.below HB0.out) (by rw [hN]; omega))
  have HWR := Lib.hid (fun w1 (hb : Below w.heap.size w w1) => write_r (grave key c) none 0 0 S s _ _ ps w1 (h.below hb) hsok (IsB.nil _) rfl hm (by omega))
  have HSW := Lib.hid hSw
  rw [hn] at HLK
  have HSH := Lib.hid hs
  have hdv : dval s (.slice lx I lc) (.slice dx N dc) = .agg #[.int .i64 (s.num : Int), .int .i64 (s.most : Int), .int .i64 (s.epoch : Int), .int .i64 (s.size : Int), .bool false, .slice lx I lc, .slice dx N dc] := by rw [← hs]
  rw [hdv] at HWR
  clear h hI hN hpl hn hs hf hSw hsok hm hdv
  go_enter Tryz.func32, Tryz.ntmps32
  go_wp2_with fail
  refine HLK.out.mono ?_
  rintro e w2 ⟨rfl, hb2⟩
  obtain ⟨hV, hR, hB, hlt⟩ := two_facts hb2
  have HVB := Lib.hid hV
  have HRB := Lib.hid hR
  have HB2 := Lib.hid hB
  have v0 := hV.cell 0 rfl
  have v1 := hV.cell 1 rfl
  have v2 := hV.cell 2 rfl
  have v3 := hV.cell 3 rfl
  have v4 := hV.cell 4 rfl
  have v5 := hV.cell 5 rfl
  have v6 := hV.cell 6 rfl
  have r0 := hR.cell 0 rfl
  have r1 := hR.cell 1 rfl
  have r2 := hR.cell 2 rfl
  have r3 := hR.cell 3 rfl
  have r4 := hR.cell 4 rfl
  have r5 := hR.cell 5 rfl
  have r6 := hR.cell 6 rfl
  have rf := fun j => hR.free j
  clear hb2 hV hR hB
  rw [HSH.out] at v4
  go_wp2_with fail
  refine (HWR.out _ HB2.out).mono ?_
  rintro e w5 ⟨lv', dv', rfl, hL5, hD5, hb5⟩
  obtain ⟨lx5, lc5, rfl, _, _⟩ := ownsRow_slice hL5
  obtain ⟨dx5, dc5, rfl, _, _⟩ := ownsRow_slice hD5
  obtain ⟨PN, hPN⟩ : ∃ PN, (put s.idx (posN (grave key c) s.size)).length = PN := ⟨_, rfl⟩
  obtain ⟨DN, hDN⟩ : ∃ DN, ps.length + 1 = DN := ⟨_, rfl⟩
  rw [hPN] at hL5 ⊢
  rw [hDN] at hD5 ⊢
  obtain ⟨s2, hs2⟩ : ∃ s2, s.wrote (grave key c) = s2 := ⟨_, rfl⟩
  have hR5 := HRB.out.below hb5 hlt
  have hs4 := HB2.out.size
  have HB5 := Lib.hid (HB2.out.trans (hb5.mono hs4))
  have hL6 := row_set7 (g := w.heap.size + 1) (u0 := .int .i64 (s2.num : Int)) (u1 := .int .i64 (s2.most : Int)) (u2 := .int .i64 (s2.epoch : Int)) (u3 := .int .i64 (s2.size : Int)) (u4 := .bool s2.shut) (u5 := .slice lx5 PN lc5) (u6 := .slice dx5 DN dc5) hL5 hlt
  have hD6 := row_set7 (g := w.heap.size + 1) (u0 := .int .i64 (s2.num : Int)) (u1 := .int .i64 (s2.most : Int)) (u2 := .int .i64 (s2.epoch : Int)) (u3 := .int .i64 (s2.size : Int)) (u4 := .bool s2.shut) (u5 := .slice lx5 PN lc5) (u6 := .slice dx5 DN dc5) hD5 hlt
  have hF := fin7 hR5 HB5.out (show w.heap.size ≤ w.heap.size + 1 by omega) (.int .i64 (s2.num : Int)) (.int .i64 (s2.most : Int)) (.int .i64 (s2.epoch : Int)) (.int .i64 (s2.size : Int)) (.bool s2.shut) (.slice lx5 PN lc5) (.slice dx5 DN dc5)
  unfold set7 at hL6 hD6 hF
  have HF := Lib.hid hF
  have HL6 := Lib.hid hL6
  have HD6 := Lib.hid hD6
  have HPN := Lib.hid hPN
  have HDN := Lib.hid hDN
  have HS2 := Lib.hid hs2
  rw [hs2]
  clear v0 v1 v2 v3 v4 v5 v6 r0 r1 r2 r3 r4 r5 r6 rf
  have r0 := hR5.cell 0 rfl
  have r1 := hR5.cell 1 rfl
  have r2 := hR5.cell 2 rfl
  have r3 := hR5.cell 3 rfl
  have r4 := hR5.cell 4 rfl
  have r5 := hR5.cell 5 rfl
  have r6 := hR5.cell 6 rfl
  have rf := fun j => hR5.free j
  clear hF hL6 hD6 hPN hDN hs2 hL5 hD5 hR5 hb5
  go_wp2
  obtain ⟨y0, y1, y2, y3, y4, y5, y6, yb⟩ := HF.out
  refine bodyPost_ret (v := .tuple #[dval s2 (.slice lx5 PN lc5) (.slice dx5 DN dc5), .int .i64 0]) (by simp [results, Tryz.results32, go_sem, y0, y1, y2, y3, y4, y5, y6]) rfl ⟨_, _, ps ++ [(grave key c, .slice none 0 0)], by rw [← HS2.out]; rfl, ?_, yb⟩
  refine HH.out.wrote yb HSW.out ?_ ?_ (IsB.nil _) (fun b hb => absurd rfl hb.1) rfl
  · rw [HPN.out]; exact ownsRow_base HL6.out hs4
  · rw [HDN.out]; exact ownsRow_base HD6.out hs4
theorem del_r (key c : Nat) (S : Nat → Prop) (s : Vst) (lv dv : Value) (ps : List (Ndl × Value)) (w : World) (h : DocP w S s lv dv ps) (hSw : ∀ b, S b → b < w.heap.size) (hf : s.ns.length < 4095) (hsok : s.Ok) (hm : s.size + nlen (grave key c) ≤ s.most) :
    Calls Tryz.prog 32 #[dval s lv dv, .int .u64 (key : Int), .int .u32 (c : Int)] w (DocT w S (s.del key c).1 (s.del key c).2) := by
  by_cases hn : s.look key c = 0
  · cases hs : s.shut with
    | true =>
      rw [del_shut hn hs]
      exact rdel_s key c S s lv dv ps w h hf hn hs
    | false =>
      rw [del_ok hn hs hm]
      exact rdel_o key c S s lv dv ps w h hf hSw hsok hm hn hs
  · rw [del_bad hn]
    exact rdel_b key c S s lv dv ps w h hf hn

theorem DocP.with {w : World} {S : Nat → Prop} {s : Vst} {lv dv : Value} {ps : List (Ndl × Value)} (h : DocP w S s lv dv ps) (e : Nat) (b : Bool) : DocP w S (Vst.with s e b) lv dv ps := ⟨h.ns, h.l, h.d, h.la, h.da, h.na⟩
set_option maxRecDepth 100000 in
set_option maxHeartbeats 1000000 in
theorem set_r (e : Int) (b : Bool) (S : Nat → Prop) (s : Vst) (lv dv : Value) (ps : List (Ndl × Value)) (w : World) (h : DocP w S s lv dv ps) :
    Calls Tryz.prog 35 #[dval s lv dv, .int .i64 e, .bool b] w (DocT w S (s.set e b).1 (s.set e b).2) := by
  obtain ⟨lx, lc, rfl, _, _⟩ := IsX.slice h.l
  obtain ⟨dx, dc, rfl, _, _⟩ := IsX.slice h.d.1
  have hpl : ps.length = s.ns.length := by rw [← h.ns, List.length_map]
  obtain ⟨I, hI⟩ : ∃ I, s.idx.length = I := ⟨_, rfl⟩
  obtain ⟨N, hN⟩ : ∃ N, ps.length = N := ⟨_, rfl⟩
  rw [hI, hN] at h ⊢
  have HH := Lib.hid h
  have HYB := Lib.hid (fun A B => two_below w A B 30 30)
  clear h hI hN hpl
  by_cases h1 : e < 0
  · rw [show s.set e b = (s, 1) by unfold Vst.set; rw [if_pos (.inl h1)]]
    go_enter Tryz.func35, Tryz.ntmps35
    go_wp2
    have yb := HYB.out #[.int .i64 (s.num : Int), .int .i64 (s.most : Int), .int .i64 (s.epoch : Int), .int .i64 (s.size : Int), .bool s.shut, .slice lx I lc, .slice dx N dc] #[.int .i64 (s.num : Int), .int .i64 (s.most : Int), .int .i64 (s.epoch : Int), .int .i64 (s.size : Int), .bool s.shut, .slice lx I lc, .slice dx N dc]
    exact bodyPost_ret (v := .tuple #[.agg #[.int .i64 (s.num : Int), .int .i64 (s.most : Int), .int .i64 (s.epoch : Int), .int .i64 (s.size : Int), .bool s.shut, .slice lx I lc, .slice dx N dc], .int .i64 1]) (by simp [results, Tryz.results35, go_sem]) rfl ⟨_, _, ps, rfl, HH.out.below yb, yb⟩
  · by_cases h2 : 2147483647 < e
    · rw [show s.set e b = (s, 1) by unfold Vst.set; rw [if_pos (.inr h2)]]
      go_enter Tryz.func35, Tryz.ntmps35
      go_wp2
      have yb := HYB.out #[.int .i64 (s.num : Int), .int .i64 (s.most : Int), .int .i64 (s.epoch : Int), .int .i64 (s.size : Int), .bool s.shut, .slice lx I lc, .slice dx N dc] #[.int .i64 (s.num : Int), .int .i64 (s.most : Int), .int .i64 (s.epoch : Int), .int .i64 (s.size : Int), .bool s.shut, .slice lx I lc, .slice dx N dc]
      exact bodyPost_ret (v := .tuple #[.agg #[.int .i64 (s.num : Int), .int .i64 (s.most : Int), .int .i64 (s.epoch : Int), .int .i64 (s.size : Int), .bool s.shut, .slice lx I lc, .slice dx N dc], .int .i64 1]) (by simp [results, Tryz.results35, go_sem]) rfl ⟨_, _, ps, rfl, HH.out.below yb, yb⟩
    · by_cases h3 : e < (s.epoch : Int)
      · rw [show s.set e b = (s, 13) by unfold Vst.set; rw [if_neg (by omega), if_pos h3]]
        go_enter Tryz.func35, Tryz.ntmps35
        go_wp2
        have yb := HYB.out #[.int .i64 (s.num : Int), .int .i64 (s.most : Int), .int .i64 (s.epoch : Int), .int .i64 (s.size : Int), .bool s.shut, .slice lx I lc, .slice dx N dc] #[.int .i64 (s.num : Int), .int .i64 (s.most : Int), .int .i64 (s.epoch : Int), .int .i64 (s.size : Int), .bool s.shut, .slice lx I lc, .slice dx N dc]
        exact bodyPost_ret (v := .tuple #[.agg #[.int .i64 (s.num : Int), .int .i64 (s.most : Int), .int .i64 (s.epoch : Int), .int .i64 (s.size : Int), .bool s.shut, .slice lx I lc, .slice dx N dc], .int .i64 13]) (by simp [results, Tryz.results35, go_sem]) rfl ⟨_, _, ps, rfl, HH.out.below yb, yb⟩
      · obtain ⟨E, rfl⟩ := Int.eq_ofNat_of_zero_le (show 0 ≤ e by omega)
        rw [set_ok (by omega) (by omega)]
        go_enter Tryz.func35, Tryz.ntmps35
        go_wp2
        have yb := HYB.out #[.int .i64 (s.num : Int), .int .i64 (s.most : Int), .int .i64 (E : Int), .int .i64 (s.size : Int), .bool b, .slice lx I lc, .slice dx N dc] #[.int .i64 (s.num : Int), .int .i64 (s.most : Int), .int .i64 (E : Int), .int .i64 (s.size : Int), .bool b, .slice lx I lc, .slice dx N dc]
        exact bodyPost_ret (v := .tuple #[dval (Vst.with s E b) (.slice lx I lc) (.slice dx N dc), .int .i64 0]) (by simp [results, Tryz.results35, go_sem, Vst.with, Vst.size]) rfl ⟨_, _, ps, rfl, DocP.with (HH.out.below yb) E b, yb⟩

end Go.Proofs.YtcpoaofcfefgaaaGreatDoor
end

section
namespace Go.Proofs.YtcpoaofcfefgaaaGreatDoor
open Go.RowKit Go.Cor

/-- An act: its kind, its number, its needle. -/
structure A9 where
  kind : Int
  m : Int
  n : Ndl
abbrev av (a : A9) (v : Value) : Value := .agg #[.int .i64 a.kind, .int .i64 a.m, .int .u64 (a.n.key : Int), .int .u32 (a.n.cookie : Int), .bool a.n.gone, v]
def actV (s : Vst) (a : A9) : Vst × Nat :=
  if a.kind = 0 then s.put a.n else if a.kind = 1 then s.del a.n.key a.n.cookie else if a.kind = 2 then (s, s.look a.n.key a.n.cookie) else if a.kind = 4 then s.set a.m a.n.gone else (s, 0)
theorem look_le (s : Vst) (k c : Nat) : s.look k c ≤ 17 := by
  unfold Vst.look
  split
  · omega
  · split
    · omega
    · split <;> omega
theorem put_le (s : Vst) (n : Ndl) : (s.put n).2 ≤ 17 := by
  have h := ncheck_le n
  unfold Vst.put
  split
  · simp
  · split
    · simp only; omega
    · split
      · simp
      · split
        · simp only; split <;> omega
        · unfold Vst.write; split <;> simp
theorem del_le (s : Vst) (k c : Nat) : (s.del k c).2 ≤ 17 := by
  have h := look_le s k c
  unfold Vst.del
  split
  · exact h
  · split
    · simp
    · unfold Vst.write; split <;> simp
theorem set_le (s : Vst) (e : Int) (b : Bool) : (s.set e b).2 ≤ 17 := by
  unfold Vst.set
  split
  · simp
  · split <;> simp
/-- What Do leaves. -/
def DovT (w : World) (g p : Nat) (S : Nat → Prop) (d : Dsk) (s : Vst) (k' : Nat) (s' : Vst) (c : Nat) (e : Ending) (w' : World) : Prop :=
  ∃ (m : Ndl) (x : Option Addr) (L cc : Nat) (kv : Value), e = .returned (.tuple #[Nd.nval m (.slice x L cc), kv, .int .i64 (c : Int)]) ∧ VolT w w' g p S d s k' s'
theorem VolT.other {w w0 w2 w3 : World} {g p k' B : Nat} {S : Nat → Prop} {d : Dsk} {s s' : Vst} (h : VolT w0 w2 g p S d s k' s') (hb : Below w.heap.size w w0) (hB : w.heap.size ≤ B) (hB2 : B < w0.heap.size) (hS : ∀ b, S b → b < w.heap.size) (hk : Kept (fun j => j = B) w2 w3) : VolT w w3 g p S d s k' s' := by
  obtain ⟨d', ⟨S', h1, h2, h3⟩, h4⟩ := h
  refine ⟨d', ⟨S', h1.kept hk (fun b hb2 e => ?_), ?_, fun b hb2 => ?_⟩, h4⟩
  · subst e
    rcases h3 b hb2 with h | h
    · have := hS b h; omega
    · omega
  · exact ((Kept.of_below (S := S) hb (Nat.le_refl _)).trans h2 (fun j hj _ => hj)).trans hk (fun j e hj => by subst e; omega)
  · rcases h3 b hb2 with h | h
    · exact .inl h
    · exact .inr (Nat.le_trans hb.size h)
theorem kept_set4 (w : World) (B : Nat) (u0 u1 u2 u3 : Value) : Kept (fun j => j = B) w (set4 w B u0 u1 u2 u3) :=
  ((((Kept.refl (fun j => j = B) w).setCell (.inl rfl) _).setCell (.inl rfl) _).setCell (.inl rfl) _).setCell (.inl rfl) _

set_option maxRecDepth 100000 in
set_option maxHeartbeats 1000000 in
theorem dov_0 (m : Int) (key cookie : Nat) (gone : Bool) (data : List UInt8) (x : Option Addr) (vL vc : Nat) (g p k : Nat) (S : Nat → Prop) (d : Dsk) (s : Vst) (w : World) (h : Vready w g p S d k s) (hv : IsB w (.slice x vL vc) data) (hvS : ∀ b, liesB (.slice x vL vc) data b → ¬ S b) (hn : Ndl.fits ⟨key, cookie, gone, data⟩) (hr : Room s d ⟨key, cookie, gone, data⟩) :
    Calls Tryz.prog 18 #[.pointer (some ⟨g, 0, none⟩), .agg #[.int .i64 0, .int .i64 m, .int .u64 (key : Int), .int .u32 (cookie : Int), .bool gone, .slice x vL vc]] w (DovT w g p S d s (k + 4) (s.put ⟨key, cookie, gone, data⟩).1 (s.put ⟨key, cookie, gone, data⟩).2) := by
  have HB0 := Lib.hid (two_below w #[.int .i64 0, .int .i64 m, .int .u64 (key : Int), .int .u32 (cookie : Int), .bool gone, .slice x vL vc] #[.int .u64 0, .int .u32 0, .bool false, .slice none 0 0] 57 65)
  have HR0 := Lib.hid (h.below HB0.out)
  have HC := Lib.hid (put_v ⟨key, cookie, gone, data⟩ (.slice x vL vc) g p k S d s _ HR0.out (hv.mono HB0.out (Nat.le_refl _)) hvS hn hr)
  have HLE := Lib.hid (show (s.put ⟨key, cookie, gone, data⟩).2 ≤ 17 from put_le _ _)
  obtain ⟨q, hq⟩ : ∃ q, (s.put ⟨key, cookie, gone, data⟩).2 = q := ⟨_, rfl⟩
  rw [hq] at HC HLE ⊢
  have HSL := Lib.hid (fun b hb => h.vl.lt b hb)
  clear h hv hvS hn hr hq
  go_enter Tryz.func18, Tryz.ntmps18
  go_wp2_with fail
  refine HC.out.mono ?_
  rintro e w2 ⟨rfl, ht⟩
  have HT := Lib.hid (VolT.other ht HB0.out (Nat.le_succ _) (by simp) HSL.out (kept_set4 w2 (w.heap.size + 1) (.int .u64 0) (.int .u32 0) (.bool false) (.slice none 0 0)))
  have hz := (Blk.new (w.alloc (.cells #[.int .i64 0, .int .i64 m, .int .u64 (key : Int), .int .u32 (cookie : Int), .bool gone, .slice x vL vc] 57)) #[.int .u64 0, .int .u32 0, .bool false, .slice none 0 0] 65)
  rw [show (w.alloc (.cells #[.int .i64 0, .int .i64 m, .int .u64 (key : Int), .int .u32 (cookie : Int), .bool gone, .slice x vL vc] 57)).heap.size = w.heap.size + 1 by simp] at hz
  have hz2 : Blk w2 (w.heap.size + 1) #[.int .u64 0, .int .u32 0, .bool false, .slice none 0 0] 65 := by
    obtain ⟨d', ⟨S', _, h2, _⟩, _⟩ := ht
    exact hz.kept h2 (fun hs => by have := HSL.out _ hs; omega)
  have HZ := Lib.hid hz2
  clear ht hz hz2
  go_wp2_with fail
  refine (code_any q _ HLE.out).mono ?_
  rintro e w3 ⟨rfl, rfl⟩
  have z0 := HZ.out.cell 0 rfl
  have z1 := HZ.out.cell 1 rfl
  have z2 := HZ.out.cell 2 rfl
  have z3 := HZ.out.cell 3 rfl
  have zf := fun j => HZ.out.free j
  have hF := blk_set4 HZ.out (.int .u64 0) (.int .u32 0) (.bool false) (.slice none 0 0)
  have y0 := hF.cell 0 rfl
  have y1 := hF.cell 1 rfl
  have y2 := hF.cell 2 rfl
  have y3 := hF.cell 3 rfl
  have hT := HT.out
  unfold set4 at y0 y1 y2 y3 hT
  have HTT := Lib.hid hT
  have HY := Lib.hid (And.intro y0 (And.intro y1 (And.intro y2 y3)))
  clear hF y0 y1 y2 y3 hT
  go_wp2
  obtain ⟨y0, y1, y2, y3⟩ := HY.out
  exact bodyPost_ret (v := .tuple #[.agg #[.int .u64 0, .int .u32 0, .bool false, .slice none 0 0], .slice none 0 0, .int .i64 (q : Int)]) (by simp [results, Tryz.results18, go_sem, y0, y1, y2, y3]) rfl ⟨⟨0, 0, false, []⟩, none, 0, 0, .slice none 0 0, rfl, HTT.out⟩
set_option maxRecDepth 100000 in
set_option maxHeartbeats 1000000 in
theorem dov_1 (m : Int) (key cookie : Nat) (gone : Bool) (data : List UInt8) (x : Option Addr) (vL vc : Nat) (g p k : Nat) (S : Nat → Prop) (d : Dsk) (s : Vst) (w : World) (h : Vready w g p S d k s) (hk : key < 18446744073709551616) (hc : cookie < 4294967296) (hr : Room s d (grave key cookie)) :
    Calls Tryz.prog 18 #[.pointer (some ⟨g, 0, none⟩), .agg #[.int .i64 1, .int .i64 m, .int .u64 (key : Int), .int .u32 (cookie : Int), .bool gone, .slice x vL vc]] w (DovT w g p S d s (k + 4) (s.del key cookie).1 (s.del key cookie).2) := by
  have HB0 := Lib.hid (two_below w #[.int .i64 1, .int .i64 m, .int .u64 (key : Int), .int .u32 (cookie : Int), .bool gone, .slice x vL vc] #[.int .u64 0, .int .u32 0, .bool false, .slice none 0 0] 57 65)
  have HR0 := Lib.hid (h.below HB0.out)
  have HC := Lib.hid (del_v key cookie g p k S d s _ HR0.out hk hc hr)
  have HLE := Lib.hid (show (s.del key cookie).2 ≤ 17 from del_le _ _ _)
  obtain ⟨q, hq⟩ : ∃ q, (s.del key cookie).2 = q := ⟨_, rfl⟩
  rw [hq] at HC HLE ⊢
  have HSL := Lib.hid (fun b hb => h.vl.lt b hb)
  clear h hk hc hr hq
  go_enter Tryz.func18, Tryz.ntmps18
  go_wp2_with fail
  refine HC.out.mono ?_
  rintro e w2 ⟨rfl, ht⟩
  have HT := Lib.hid (VolT.other ht HB0.out (Nat.le_succ _) (by simp) HSL.out (kept_set4 w2 (w.heap.size + 1) (.int .u64 0) (.int .u32 0) (.bool false) (.slice none 0 0)))
  have hz := (Blk.new (w.alloc (.cells #[.int .i64 1, .int .i64 m, .int .u64 (key : Int), .int .u32 (cookie : Int), .bool gone, .slice x vL vc] 57)) #[.int .u64 0, .int .u32 0, .bool false, .slice none 0 0] 65)
  rw [show (w.alloc (.cells #[.int .i64 1, .int .i64 m, .int .u64 (key : Int), .int .u32 (cookie : Int), .bool gone, .slice x vL vc] 57)).heap.size = w.heap.size + 1 by simp] at hz
  have hz2 : Blk w2 (w.heap.size + 1) #[.int .u64 0, .int .u32 0, .bool false, .slice none 0 0] 65 := by
    obtain ⟨d', ⟨S', _, h2, _⟩, _⟩ := ht
    exact hz.kept h2 (fun hs => by have := HSL.out _ hs; omega)
  have HZ := Lib.hid hz2
  clear ht hz hz2
  go_wp2_with fail
  refine (code_any q _ HLE.out).mono ?_
  rintro e w3 ⟨rfl, rfl⟩
  have z0 := HZ.out.cell 0 rfl
  have z1 := HZ.out.cell 1 rfl
  have z2 := HZ.out.cell 2 rfl
  have z3 := HZ.out.cell 3 rfl
  have zf := fun j => HZ.out.free j
  have hF := blk_set4 HZ.out (.int .u64 0) (.int .u32 0) (.bool false) (.slice none 0 0)
  have y0 := hF.cell 0 rfl
  have y1 := hF.cell 1 rfl
  have y2 := hF.cell 2 rfl
  have y3 := hF.cell 3 rfl
  have hT := HT.out
  unfold set4 at y0 y1 y2 y3 hT
  have HTT := Lib.hid hT
  have HY := Lib.hid (And.intro y0 (And.intro y1 (And.intro y2 y3)))
  clear hF y0 y1 y2 y3 hT
  go_wp2
  obtain ⟨y0, y1, y2, y3⟩ := HY.out
  exact bodyPost_ret (v := .tuple #[.agg #[.int .u64 0, .int .u32 0, .bool false, .slice none 0 0], .slice none 0 0, .int .i64 (q : Int)]) (by simp [results, Tryz.results18, go_sem, y0, y1, y2, y3]) rfl ⟨⟨0, 0, false, []⟩, none, 0, 0, .slice none 0 0, rfl, HTT.out⟩
set_option maxRecDepth 100000 in
set_option maxHeartbeats 1000000 in
theorem dov_4 (m : Int) (key cookie : Nat) (gone : Bool) (data : List UInt8) (x : Option Addr) (vL vc : Nat) (g p k : Nat) (S : Nat → Prop) (d : Dsk) (s : Vst) (w : World) (h : Vready w g p S d k s) (hu : d.used + 24 ≤ d.cap) :
    Calls Tryz.prog 18 #[.pointer (some ⟨g, 0, none⟩), .agg #[.int .i64 4, .int .i64 m, .int .u64 (key : Int), .int .u32 (cookie : Int), .bool gone, .slice x vL vc]] w (DovT w g p S d s (k + 10) (s.set m gone).1 (s.set m gone).2) := by
  have HB0 := Lib.hid (two_below w #[.int .i64 4, .int .i64 m, .int .u64 (key : Int), .int .u32 (cookie : Int), .bool gone, .slice x vL vc] #[.int .u64 0, .int .u32 0, .bool false, .slice none 0 0] 57 65)
  have HR0 := Lib.hid (h.below HB0.out)
  have HC := Lib.hid (set_v m gone g p k S d s _ HR0.out hu)
  have HLE := Lib.hid (show (s.set m gone).2 ≤ 17 from set_le _ _ _)
  obtain ⟨q, hq⟩ : ∃ q, (s.set m gone).2 = q := ⟨_, rfl⟩
  rw [hq] at HC HLE ⊢
  have HSL := Lib.hid (fun b hb => h.vl.lt b hb)
  clear h hu hq
  go_enter Tryz.func18, Tryz.ntmps18
  go_wp2_with fail
  refine HC.out.mono ?_
  rintro e w2 ⟨rfl, ht⟩
  have HT := Lib.hid (VolT.other ht HB0.out (Nat.le_succ _) (by simp) HSL.out (kept_set4 w2 (w.heap.size + 1) (.int .u64 0) (.int .u32 0) (.bool false) (.slice none 0 0)))
  have hz := (Blk.new (w.alloc (.cells #[.int .i64 4, .int .i64 m, .int .u64 (key : Int), .int .u32 (cookie : Int), .bool gone, .slice x vL vc] 57)) #[.int .u64 0, .int .u32 0, .bool false, .slice none 0 0] 65)
  rw [show (w.alloc (.cells #[.int .i64 4, .int .i64 m, .int .u64 (key : Int), .int .u32 (cookie : Int), .bool gone, .slice x vL vc] 57)).heap.size = w.heap.size + 1 by simp] at hz
  have hz2 : Blk w2 (w.heap.size + 1) #[.int .u64 0, .int .u32 0, .bool false, .slice none 0 0] 65 := by
    obtain ⟨d', ⟨S', _, h2, _⟩, _⟩ := ht
    exact hz.kept h2 (fun hs => by have := HSL.out _ hs; omega)
  have HZ := Lib.hid hz2
  clear ht hz hz2
  go_wp2_with fail
  refine (code_any q _ HLE.out).mono ?_
  rintro e w3 ⟨rfl, rfl⟩
  have z0 := HZ.out.cell 0 rfl
  have z1 := HZ.out.cell 1 rfl
  have z2 := HZ.out.cell 2 rfl
  have z3 := HZ.out.cell 3 rfl
  have zf := fun j => HZ.out.free j
  have hF := blk_set4 HZ.out (.int .u64 0) (.int .u32 0) (.bool false) (.slice none 0 0)
  have y0 := hF.cell 0 rfl
  have y1 := hF.cell 1 rfl
  have y2 := hF.cell 2 rfl
  have y3 := hF.cell 3 rfl
  have hT := HT.out
  unfold set4 at y0 y1 y2 y3 hT
  have HTT := Lib.hid hT
  have HY := Lib.hid (And.intro y0 (And.intro y1 (And.intro y2 y3)))
  clear hF y0 y1 y2 y3 hT
  go_wp2
  obtain ⟨y0, y1, y2, y3⟩ := HY.out
  exact bodyPost_ret (v := .tuple #[.agg #[.int .u64 0, .int .u32 0, .bool false, .slice none 0 0], .slice none 0 0, .int .i64 (q : Int)]) (by simp [results, Tryz.results18, go_sem, y0, y1, y2, y3]) rfl ⟨⟨0, 0, false, []⟩, none, 0, 0, .slice none 0 0, rfl, HTT.out⟩
set_option maxRecDepth 100000 in
set_option maxHeartbeats 1000000 in
theorem dov_2 (m : Int) (key cookie : Nat) (gone : Bool) (data : List UInt8) (x : Option Addr) (vL vc : Nat) (g p k : Nat) (S : Nat → Prop) (d : Dsk) (s : Vst) (w : World) (h : Vready w g p S d k s) :
    Calls Tryz.prog 18 #[.pointer (some ⟨g, 0, none⟩), .agg #[.int .i64 2, .int .i64 m, .int .u64 (key : Int), .int .u32 (cookie : Int), .bool gone, .slice x vL vc]] w (DovT w g p S d s (k + 4) s (s.look key cookie)) := by
  have HB0 := Lib.hid (two_below w #[.int .i64 2, .int .i64 m, .int .u64 (key : Int), .int .u32 (cookie : Int), .bool gone, .slice x vL vc] #[.int .u64 0, .int .u32 0, .bool false, .slice none 0 0] 57 65)
  have HR0 := Lib.hid (h.below HB0.out)
  have HC := Lib.hid ((get_v key cookie g p k S d s _ HR0.out).mono (R' := fun e w' => ∃ (n : Ndl) (nx : Option Addr) (nL nc : Nat), e = .returned (.tuple #[Nd.nval n (.slice nx nL nc), cerr (s.look key cookie)]) ∧ Below (w.alloc (.cells #[.int .i64 2, .int .i64 m, .int .u64 (key : Int), .int .u32 (cookie : Int), .bool gone, .slice x vL vc] 57) |>.alloc (.cells #[.int .u64 0, .int .u32 0, .bool false, .slice none 0 0] 65)).heap.size _ w') (fun e w' ht => by obtain ⟨n, nx, nc, h1, _, h3, _⟩ := ht; exact ⟨n, nx, _, nc, h1, h3⟩))
  have HLE := Lib.hid (look_le s key cookie)
  obtain ⟨q, hq⟩ : ∃ q, s.look key cookie = q := ⟨_, rfl⟩
  rw [hq] at HC HLE ⊢
  have HH := Lib.hid h
  clear h hq
  go_enter Tryz.func18, Tryz.ntmps18
  go_wp2_with fail
  refine HC.out.mono ?_
  rintro e w2 ⟨n, nx, nL, nc, rfl, hb⟩
  obtain ⟨hA, hz, hB, hlt⟩ := two_facts hb
  have HZ := Lib.hid hz
  have HB2 := Lib.hid hB
  have HBA := Lib.hid (HB2.out.alloc HB2.out.size (.cells #[.int .u64 (n.key : Int), .int .u32 (n.cookie : Int), .bool n.gone, .slice nx nL nc] 65))
  have hz3 := hz.alloc (.cells #[.int .u64 (n.key : Int), .int .u32 (n.cookie : Int), .bool n.gone, .slice nx nL nc] 65)
  have hn3 := Blk.new w2 #[.int .u64 (n.key : Int), .int .u32 (n.cookie : Int), .bool n.gone, .slice nx nL nc] 65
  clear hA hz hB hb
  go_wp2_with fail
  obtain ⟨w3, hw3⟩ : ∃ w3, w2.alloc (.cells #[.int .u64 (n.key : Int), .int .u32 (n.cookie : Int), .bool n.gone, .slice nx nL nc] 65) = w3 := ⟨_, rfl⟩
  rw [hw3] at hz3 hn3 HBA
  rw [hw3]
  clear hw3
  have hn4 := hn3.below ((Below.refl w3.heap.size w3).drew) (by have := hn3.lt; omega)
  have hz4 := hz3.below ((Below.refl w3.heap.size w3).drew) (by have := hz3.lt; omega)
  have hb4 : Below w.heap.size w w3.drew := HBA.out.drew
  have hne : w.heap.size + 1 ≠ w2.heap.size := by omega
  obtain ⟨w4, hw4⟩ : ∃ w4, w3.drew = w4 := ⟨_, rfl⟩
  rw [hw4] at hn4 hz4 hb4
  have HN4 := Lib.hid hn4
  have HZ4 := Lib.hid hz4
  have HB4 := Lib.hid hb4
  clear hn3 hz3 hn4 hz4 hb4
  refine AnyE.start (S := (fun wx => wx.cell? ⟨w2.heap.size, 0, none⟩ = some (.int .u64 (n.key : Int)) ∧ wx.cell? ⟨w2.heap.size, 1, none⟩ = some (.int .u32 (n.cookie : Int)) ∧ wx.cell? ⟨w2.heap.size, 2, none⟩ = some (.bool n.gone) ∧ wx.cell? ⟨w2.heap.size, 3, none⟩ = some (.slice nx nL nc))) 5 (by kernel_rfl) (by rw [hw4]; exact ⟨HN4.out.cell 0 rfl, HN4.out.cell 1 rfl, HN4.out.cell 2 rfl, HN4.out.cell 3 rfl⟩) (fun hHeld => ?_)
  rw [hw4]
  rw [hw4] at hHeld
  clear hw4
  refine AnyE.take (i := 0) (v := ?_) rfl (by kernel_rfl) (by kernel_rfl) (by kernel_rfl) (by kernel_rfl) (fun _ _ _ h => h) (Or.inl ⟨by rfl, ?_⟩) (by assumption) ?_
  rotate_left 1
  · intro w hSw
    (try dsimp only at hSw)
    go_simp
    all_goals (with_reducible rfl)
  try simp only [Act.put, List.getElem_toArray, List.getElem_cons_zero, List.getElem_cons_succ, List.setIfInBounds_toArray, List.set_cons_zero, List.set_cons_succ]
  refine AnyE.take (i := 1) (v := ?_) rfl (by kernel_rfl) (by kernel_rfl) (by kernel_rfl) (by kernel_rfl) (fun _ _ _ h => h) (Or.inl ⟨by rfl, ?_⟩) (by assumption) ?_
  rotate_left 1
  · intro w hSw
    (try dsimp only at hSw)
    go_simp
    all_goals (with_reducible rfl)
  try simp only [Act.put, List.getElem_toArray, List.getElem_cons_zero, List.getElem_cons_succ, List.setIfInBounds_toArray, List.set_cons_zero, List.set_cons_succ]
  refine AnyE.next (rs := [2]) (by kernel_rfl) (by simp) ?_
  refine AllE.cons rfl (fun K hK => ?_) AllE.nil
  go_simp
  refine (code_any q _ HLE.out).mono ?_
  rintro e w5 ⟨rfl, rfl⟩
  refine hK.out _ _ (⟨HN4.out.cell 0 rfl, HN4.out.cell 1 rfl, HN4.out.cell 2 rfl, HN4.out.cell 3 rfl⟩) (fun hHeld => ?_)
  clear hK K
  try simp only [Act.put, List.getElem_toArray, List.getElem_cons_zero, List.getElem_cons_succ, List.setIfInBounds_toArray, List.set_cons_zero, List.set_cons_succ]
  have HF := Lib.hid (blk_set4 HZ4.out (.int .u64 (n.key : Int)) (.int .u32 (n.cookie : Int)) (.bool n.gone) (.slice nx nL nc))
  have HX := Lib.hid ((((HN4.out.other (a := ⟨w.heap.size + 1, 0, none⟩) hne (.int .u64 (n.key : Int))).other (a := ⟨w.heap.size + 1, 1, none⟩) hne (.int .u32 (n.cookie : Int))).other (a := ⟨w.heap.size + 1, 2, none⟩) hne (.bool n.gone)).other (a := ⟨w.heap.size + 1, 3, none⟩) hne (.slice nx nL nc))
  have HY := Lib.hid (below_set4 (u0 := .int .u64 (n.key : Int)) (u1 := .int .u32 (n.cookie : Int)) (u2 := .bool n.gone) (u3 := .slice nx nL nc) HB4.out (Nat.le_succ w.heap.size))
  unfold set4 at HF HY
  have z0 := HZ4.out.cell 0 rfl
  have z1 := HZ4.out.cell 1 rfl
  have z2 := HZ4.out.cell 2 rfl
  have z3 := HZ4.out.cell 3 rfl
  have zf := fun j => HZ4.out.free j
  refine AnyE.next (rs := [3]) (by kernel_rfl) (by simp) ?_
  refine AllE.cons rfl (fun K hK => ?_) AllE.nil
  go_simp
  refine hK.out _ _ (⟨HX.out.cell 0 rfl, HX.out.cell 1 rfl, HX.out.cell 2 rfl, HX.out.cell 3 rfl⟩) (fun hHeld => ?_)
  clear hK K
  try simp only [Act.put, List.getElem_toArray, List.getElem_cons_zero, List.getElem_cons_succ, List.setIfInBounds_toArray, List.set_cons_zero, List.set_cons_succ]
  clear z0 z1 z2 z3 zf
  refine AnyE.take (i := 4) (v := ?_) rfl (by kernel_rfl) (by kernel_rfl) (by kernel_rfl) (by kernel_rfl) (fun _ _ _ h => h) (Or.inl ⟨by rfl, ?_⟩) (by assumption) ?_
  rotate_left 1
  · intro w hSw
    (try dsimp only at hSw)
    go_simp
    all_goals (with_reducible rfl)
  try simp only [Act.put, List.getElem_toArray, List.getElem_cons_zero, List.getElem_cons_succ, List.setIfInBounds_toArray, List.set_cons_zero, List.set_cons_succ]
  refine AnyE.next (rs := [5]) (by kernel_rfl) (by simp) ?_
  refine AllE.last rfl (fun K hK => ?_)
  go_simp
  refine hK.out _ _ ?_
  clear hK K
  try simp only [Act.put, List.getElem_toArray, List.getElem_cons_zero, List.getElem_cons_succ, List.setIfInBounds_toArray, List.set_cons_zero, List.set_cons_succ]
  refine AnyE.done (by kernel_rfl) ?_ _
  have HT := Lib.hid (HH.out.same HY.out (k + 4) (by omega) (by omega))
  have y0 := HF.out.cell 0 rfl
  have y1 := HF.out.cell 1 rfl
  have y2 := HF.out.cell 2 rfl
  have y3 := HF.out.cell 3 rfl
  go_wp2
  exact bodyPost_ret (v := .tuple #[.agg #[.int .u64 (n.key : Int), .int .u32 (n.cookie : Int), .bool n.gone, .slice nx nL nc], .slice none 0 0, .int .i64 (q : Int)]) (by simp [results, Tryz.results18, go_sem, y0, y1, y2, y3]) rfl ⟨n, nx, nL, nc, .slice none 0 0, rfl, HT.out⟩
set_option maxRecDepth 100000 in
set_option maxHeartbeats 1000000 in
theorem dov_3 (m : Int) (key cookie : Nat) (gone : Bool) (data : List UInt8) (x : Option Addr) (vL vc : Nat) (g p k : Nat) (S : Nat → Prop) (d : Dsk) (s : Vst) (w : World) (h : Vready w g p S d k s) :
    Calls Tryz.prog 18 #[.pointer (some ⟨g, 0, none⟩), .agg #[.int .i64 3, .int .i64 m, .int .u64 (key : Int), .int .u32 (cookie : Int), .bool gone, .slice x vL vc]] w (DovT w g p S d s (k + 4) s 0) := by
  have HB0 := Lib.hid (two_below w #[.int .i64 3, .int .i64 m, .int .u64 (key : Int), .int .u32 (cookie : Int), .bool gone, .slice x vL vc] #[.int .u64 0, .int .u32 0, .bool false, .slice none 0 0] 57 65)
  have HR0 := Lib.hid (h.below HB0.out)
  have HC := Lib.hid (keys_v key m g p k S d s _ HR0.out)
  have HH := Lib.hid h
  clear h
  go_enter Tryz.func18, Tryz.ntmps18
  go_wp2_with fail
  refine HC.out.mono ?_
  rintro e w2 ⟨kv, rfl, hown, hb⟩
  obtain ⟨hA, hz, hB, hlt⟩ := two_facts hb
  have hF := blk_set4 hz (.int .u64 0) (.int .u32 0) (.bool false) (.slice none 0 0)
  have z0 := hz.cell 0 rfl
  have z1 := hz.cell 1 rfl
  have z2 := hz.cell 2 rfl
  have z3 := hz.cell 3 rfl
  have zf := fun j => hz.free j
  have y0 := hF.cell 0 rfl
  have y1 := hF.cell 1 rfl
  have y2 := hF.cell 2 rfl
  have y3 := hF.cell 3 rfl
  have yb := below_set4 (u0 := .int .u64 0) (u1 := .int .u32 0) (u2 := .bool false) (u3 := .slice none 0 0) hB (Nat.le_succ w.heap.size)
  unfold set4 at y0 y1 y2 y3 yb
  have HT := Lib.hid (HH.out.same yb (k + 4) (by omega) (by omega))
  have HY := Lib.hid (And.intro y0 (And.intro y1 (And.intro y2 y3)))
  clear hF y0 y1 y2 y3 yb hA hz hB hb hown
  go_wp2
  obtain ⟨y0, y1, y2, y3⟩ := HY.out
  exact bodyPost_ret (v := .tuple #[.agg #[.int .u64 0, .int .u32 0, .bool false, .slice none 0 0], kv, .int .i64 0]) (by simp [results, Tryz.results18, go_sem, y0, y1, y2, y3]) rfl ⟨⟨0, 0, false, []⟩, none, 0, 0, kv, rfl, HT.out⟩
set_option maxRecDepth 100000 in
set_option maxHeartbeats 1000000 in
theorem dov_x (k9 : Int) (m : Int) (key cookie : Nat) (gone : Bool) (data : List UInt8) (x : Option Addr) (vL vc : Nat) (g p k : Nat) (S : Nat → Prop) (d : Dsk) (s : Vst) (w : World) (h : Vready w g p S d k s) (h0 : k9 ≠ 0) (h1 : k9 ≠ 1) (h2 : k9 ≠ 2) (h3 : k9 ≠ 3) (h4 : k9 ≠ 4) :
    Calls Tryz.prog 18 #[.pointer (some ⟨g, 0, none⟩), .agg #[.int .i64 k9, .int .i64 m, .int .u64 (key : Int), .int .u32 (cookie : Int), .bool gone, .slice x vL vc]] w (DovT w g p S d s (k + 4) s 0) := by
  have HT := Lib.hid (h.same (two_below w #[.int .i64 k9, .int .i64 m, .int .u64 (key : Int), .int .u32 (cookie : Int), .bool gone, .slice x vL vc] #[.int .u64 0, .int .u32 0, .bool false, .slice none 0 0] 57 65) (k + 4) (by omega) (by omega))
  clear h
  go_enter Tryz.func18, Tryz.ntmps18
  go_wp2
  exact bodyPost_ret (v := .tuple #[.agg #[.int .u64 0, .int .u32 0, .bool false, .slice none 0 0], .slice none 0 0, .int .i64 0]) (by simp [results, Tryz.results18, go_sem]) rfl ⟨⟨0, 0, false, []⟩, none, 0, 0, .slice none 0 0, rfl, HT.out⟩

theorem do_v (a : A9) (x : Option Addr) (vL vc : Nat) (g p k : Nat) (S : Nat → Prop) (d : Dsk) (s : Vst) (w : World) (h : Vready w g p S d k s) (hv : IsB w (.slice x vL vc) a.n.data) (hvS : ∀ b, liesB (.slice x vL vc) a.n.data b → ¬ S b) (hn : Ndl.fits a.n) (hr : Room s d a.n) (hr2 : Room s d (grave a.n.key a.n.cookie)) (hu : d.used + 24 ≤ d.cap) (h9 : k + 10 ≤ 90000) :
    Calls Tryz.prog 18 #[.pointer (some ⟨g, 0, none⟩), av a (.slice x vL vc)] w (DovT w g p S d s (k + 10) (actV s a).1 (actV s a).2) := by
  obtain ⟨kd, m, ⟨key, cookie, gone, data⟩⟩ := a
  have hk : key < 18446744073709551616 := hn.1
  have hc : cookie < 4294967296 := hn.2
  have up : ∀ {k' s' c e w'}, k' ≤ k + 10 → DovT w g p S d s k' s' c e w' → DovT w g p S d s (k + 10) s' c e w' := fun hk ⟨m, x, L, cc, kv, h1, h2⟩ => ⟨m, x, L, cc, kv, h1, h2.more hk h9⟩
  unfold actV
  dsimp only
  split
  · rename_i e; subst e
    exact (dov_0 m key cookie gone data x vL vc g p k S d s w h hv hvS hn hr).mono (fun _ _ t => up (by omega) t)
  · rename_i h0
    split
    · rename_i e; subst e
      exact (dov_1 m key cookie gone data x vL vc g p k S d s w h hk hc hr2).mono (fun _ _ t => up (by omega) t)
    · rename_i h1
      split
      · rename_i e; subst e
        exact (dov_2 m key cookie gone data x vL vc g p k S d s w h).mono (fun _ _ t => up (by omega) t)
      · rename_i h2
        split
        · rename_i e; subst e
          exact (dov_4 m key cookie gone data x vL vc g p k S d s w h hu).mono (fun _ _ t => up (by omega) t)
        · rename_i h4
          by_cases h3 : kd = 3
          · subst h3
            exact (dov_3 m key cookie gone data x vL vc g p k S d s w h).mono (fun _ _ t => up (by omega) t)
          · exact (dov_x kd m key cookie gone data x vL vc g p k S d s w h h0 h1 h2 h3 h4).mono (fun _ _ t => up (by omega) t)

end Go.Proofs.YtcpoaofcfefgaaaGreatDoor
end
