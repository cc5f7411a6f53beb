/- Scr, Scw, Scs, Volm, Ref08, Ref03. -/
import Derived.Test.YtcpoaofcfefgaaaGreatDoorM1
import Derived.Test.YtcpoaofcfefgaaaGreatDoorM8
import Derived.Test.YtcpoaofcfefgaaaGreatDoorM6
import Derived.Test.YtcpoaofcfefgaaaGreatDoorM7

section
namespace Go.Proofs.YtcpoaofcfefgaaaGreatDoor
open Go.RowKit Go.Cor

theorem Fs.short {d : Dsk} {k : Nat} (h : Fs d k) {n : ByteArray} {b : List UInt8} (hv : view d n = some b) {off m : Nat} (hb : b.length < off + m) : d.read n (off : Int) (m : Int) = ([], 3) := by
  obtain ⟨j, hj, rfl⟩ := view_some hv
  unfold Dsk.read
  rw [on_up h.up hj, if_neg (by omega), if_pos (by omega)]
theorem read_sh (w : World) (g p : Nat) (S : Nat → Prop) (d : Dsk) (k : Nat) (s : Vst) (n : ByteArray) (b : List UInt8) (off m : Nat) (h : Vl w g p S d k s) (hf : Fs d k) (hv : view d n = some b) (hb : b.length < off + m) (ho : off ≤ 1099511627776) (hm : m ≤ 1099511627776) :
    Calls Tryz.prog 92 #[.pointer (some ⟨p, 0, none⟩), .string n, .int .i64 (off : Int), .int .i64 (m : Int)] w fun e w' =>
      ∃ v', e = .returned (.tuple #[v', ercode 3]) ∧ Below w.heap.size w w' := by
  obtain ⟨Sd, h1, h2, h3⟩ := h.disk
  refine (read_u w p Sd d k n (off : Int) (m : Int) h1 (by omega) (by omega) (by omega) (by omega)).mono ?_
  rintro e w' ⟨v', rfl, ho, hb2⟩
  rw [hf.short hv hb]
  exact ⟨v', rfl, hb2⟩
set_option maxRecDepth 100000 in
set_option maxHeartbeats 1000000 in
theorem raw_s (n : Ndl) (off : Nat) (b : List UInt8) (g p k : Nat) (S : Nat → Prop) (d : Dsk) (s : Vst) (w : World) (h : Vready w g p S d k s) (hv : view d (nmD s.num s.gen) = some b) (hb : b.length < off + nlen n) (hl : off ≤ 16777216) (hn : n.data.length ≤ 4096) :
    Calls Tryz.prog 64 #[.pointer (some ⟨g, 0, none⟩), Q.pval (posN n off)] w fun e w' =>
      ∃ v', e = .returned (.tuple #[v', ercode 3]) ∧ Below w.heap.size w w' := by
  obtain ⟨L, hL⟩ : ∃ L, n.data.length = L := ⟨_, rfl⟩
  have HH := Lib.hid h
  have HV := Lib.hid hv
  have HB := Lib.hid hb
  have HL := Lib.hid hl
  have HN := Lib.hid hn
  have HLL := Lib.hid hL
  have HSZ := Lib.hid (fun w => size_n n w hn)
  rw [hL] at HSZ
  obtain ⟨M, hM⟩ : ∃ M, nlen n = M := ⟨_, rfl⟩
  have HM := Lib.hid (show M ≤ 8192 by rw [← hM]; unfold nlen padn; omega)
  rw [hM] at HSZ HB
  simp only [posN, hL]
  obtain ⟨key, cookie, gone, data⟩ := n
  simp only
  clear h hv hb hl hn hL hM
  have hal := below_alloc w (.cells #[.int .u64 (key : Int), .int .i64 (off : Int), .int .i64 (L : Int), .int .u32 (cookie : Int), .bool gone] 49)
  have HAL := Lib.hid hal
  have HVL := Lib.hid ((HH.out.vl.below hal (Nat.le_refl _)).drew)
  obtain ⟨z0, z1, z2, z3, z4, _⟩ := Q.blk5_facts (Blk.new w #[.int .u64 (key : Int), .int .i64 (off : Int), .int .i64 (L : Int), .int .u32 (cookie : Int), .bool gone] 49)
  obtain ⟨w0, hw0⟩ : ∃ w0, w.alloc (.cells #[.int .u64 (key : Int), .int .i64 (off : Int), .int .i64 (L : Int), .int .u32 (cookie : Int), .bool gone] 49) = w0 := ⟨_, rfl⟩
  have hgl : g < w0.heap.size := by
    have h1 := HVL.out.lt g
    obtain ⟨x, v, Sd, _, hS⟩ := HVL.out
    have h2 := h1 ((hS g).2 (.inl rfl))
    rw [hw0] at h2
    exact h2
  have hBl : w.heap.size < w0.heap.size := by rw [← hw0]; simp
  go_enter Tryz.func64, Tryz.ntmps64
  go_upto_region 3 with fail
  rw [hw0] at HAL HVL z1 z2
  have K0 : w0.drew.cell? ⟨g, 0, none⟩ = some (.pointer (some ⟨p, 0, none⟩)) ∧ w0.drew.cell? ⟨w.heap.size, 1, none⟩ = some (.int .i64 (off : Int)) ∧ w0.drew.cell? ⟨w.heap.size, 2, none⟩ = some (.int .i64 (L : Int)) := ⟨Vl.cells HVL.out, z1, z2⟩
  clear z0 z1 z2 z3 z4 hw0 hal
  go_region_held3 (fun wx => wx.cell? ⟨g, 0, none⟩ = some (.pointer (some ⟨p, 0, none⟩)) ∧ wx.cell? ⟨w.heap.size, 1, none⟩ = some (.int .i64 (off : Int)) ∧ wx.cell? ⟨w.heap.size, 2, none⟩ = some (.int .i64 (L : Int))) (first | exact K0 | exact Ka | exact Kb) (first | (go_at_call 67; refine (file_vl g p k S d s w0.drew HH.out.ok HVL.out).mono ?_; rintro e wa ⟨rfl, hna⟩; have HBa := Lib.hid (drewn_below hna); have HVa := Lib.hid (HVL.out.below HBa.out (Nat.le_refl _)); have Ka := rk_below HBa.out hgl hBl K0) | (go_at_call 93; refine (HSZ.out _).mono ?_; rintro e wz ⟨rfl, rfl⟩) | (go_at_call 92; refine (read_sh wa g p S d k s (nmD s.num s.gen) b off M HVa.out HH.out.lies.fs HV.out HB.out (Nat.le_trans HL.out (by decide)) (Nat.le_trans HM.out (by decide))).mono ?_; rintro e wb ⟨vb, rfl, hbb⟩; have Kb := rk_below hbb (Nat.lt_of_lt_of_le hgl HBa.out.size) (Nat.lt_of_lt_of_le hBl HBa.out.size) Ka))
  have HBF := Lib.hid (((HAL.out.trans ((Below.refl _ w0).drew.mono (Nat.le_of_lt hBl))).trans (HBa.out.mono (Nat.le_of_lt hBl))).trans (hbb.mono (Nat.le_of_lt (Nat.lt_of_lt_of_le hBl HBa.out.size))))
  clear hbb K0 Ka Kb
  go_wp2
  go_ret2
  exact ⟨vb, rfl, HBF.out⟩


theorem get_c (v : Value) (l : List UInt8) (w : World) (hv : IsB w v l) (hl : l.length ≤ 1099511627776) (h0 : getCode l ≠ 0) :
    Calls Tryz.prog 65 #[v] w fun e w' => e = .returned (.tuple #[Nd.nzero, .int .i64 0, ercode (getCode l)]) ∧ Below w.heap.size w w' := by
  by_cases h1 : l.length < 32
  · rw [show getCode l = 3 by unfold getCode; rw [if_pos h1]]
    exact Nd.get_bad1 v l w hv h1
  cases h2 : formedB l with
  | false => rw [show getCode l = 4 by unfold getCode; rw [if_neg h1, if_pos h2]]; exact Nd.get_bad2 v l w hv hl (by omega) h2
  | true =>
  have h2' : ¬ formedB l = false := by rw [h2]; simp
  by_cases h3 : l.length < total l
  · rw [show getCode l = 3 by unfold getCode; rw [if_neg h1, if_neg h2', if_pos h3]]; exact Nd.get_bad3 v l w hv hl (by omega) h2 h3
  cases h4 : sumOkN l with
  | false => rw [show getCode l = 5 by unfold getCode; rw [if_neg h1, if_neg h2', if_neg h3, if_pos h4]]; exact Nd.get_bad4 v l w hv hl (by omega) h2 (by omega) h4
  | true =>
  have h4' : ¬ sumOkN l = false := by rw [h4]; simp
  cases h5 : zeroB (padOf l) with
  | false => rw [show getCode l = 4 by unfold getCode; rw [if_neg h1, if_neg h2', if_neg h3, if_neg h4', if_pos h5]]; exact Nd.get_bad5 v l w hv hl (by omega) h2 (by omega) h4 h5
  | true =>
  exact absurd (show getCode l = 0 by unfold getCode; rw [if_neg h1, if_neg h2', if_neg h3, if_neg h4', if_neg (by rw [h5]; simp)]) h0
theorem get_g (v : Value) (l : List UInt8) (w : World) (hv : IsB w v l) (hl : l.length ≤ 1099511627776) (h0 : getCode l = 0) :
    Calls Tryz.prog 65 #[v] w fun e w' => ∃ x c, e = .returned (.tuple #[Nd.nval (getN l) (.slice x (getN l).data.length c), .int .i64 (total l : Nat), .nilIface]) ∧ Below w.heap.size w w' := by
  have h1 : ¬ l.length < 32 := fun h => by unfold getCode at h0; rw [if_pos h] at h0; cases h0
  have h2 : formedB l = true := by
    cases h2 : formedB l with
    | true => rfl
    | false => unfold getCode at h0; rw [if_neg h1, if_pos h2] at h0; cases h0
  have h2' : ¬ formedB l = false := by rw [h2]; simp
  have h3 : ¬ l.length < total l := fun h => by unfold getCode at h0; rw [if_neg h1, if_neg h2', if_pos h] at h0; cases h0
  have h4 : sumOkN l = true := by
    cases h4 : sumOkN l with
    | true => rfl
    | false => unfold getCode at h0; rw [if_neg h1, if_neg h2', if_neg h3, if_pos h4] at h0; cases h0
  have h4' : ¬ sumOkN l = false := by rw [h4]; simp
  have h5 : zeroB (padOf l) = true := by
    cases h5 : zeroB (padOf l) with
    | true => rfl
    | false => unfold getCode at h0; rw [if_neg h1, if_neg h2', if_neg h3, if_neg h4', if_pos h5] at h0; cases h0
  refine (Nd.get_okN v l w hv hl (by omega) h2 (by omega) h4 h5).mono ?_
  rintro e w' ⟨v', rfl, hown, hb⟩
  obtain ⟨x, c, rfl, _, _⟩ := ownsRow_slice hown
  exact ⟨x, c, rfl, hb⟩

set_option maxRecDepth 100000 in
set_option maxHeartbeats 1000000 in
theorem mis_s (n : Ndl) (off : Nat) (b : List UInt8) (g p k : Nat) (S : Nat → Prop) (d : Dsk) (s : Vst) (w : World) (h : Vready w g p S d k s) (hv : view d (nmD s.num s.gen) = some b) (hb : b.length < off + nlen n) (hl : off ≤ 16777216) (hn : n.data.length ≤ 4096) :
    Calls Tryz.prog 43 #[.pointer (some ⟨g, 0, none⟩), Q.pval (posN n off)] w fun e w' => e = .returned (ercode 3) ∧ Below w.heap.size w w' := by
  obtain ⟨L, hL⟩ : ∃ L, n.data.length = L := ⟨_, rfl⟩
  have HRW := Lib.hid (fun wx (hb2 : Below w.heap.size w wx) => raw_s n off b g p k S d s wx (h.below hb2) hv hb hl hn)
  simp only [posN, hL] at HRW ⊢
  obtain ⟨key, cookie, gone, data⟩ := n
  simp only at HRW ⊢
  have HAL := Lib.hid (below_alloc w (.cells #[.int .u64 (key : Int), .int .i64 (off : Int), .int .i64 (L : Int), .int .u32 (cookie : Int), .bool gone] 49))
  clear h hv hb hl hn hL
  go_enter Tryz.func43, Tryz.ntmps43
  go_wp2_with fail
  refine (HRW.out _ HAL.out).mono ?_
  rintro e w1 ⟨v', rfl, hb1⟩
  have HB1 := Lib.hid (HAL.out.trans (hb1.mono HAL.out.size))
  clear hb1
  go_wp2
  go_ret
  exact ⟨rfl, HB1.out⟩
set_option maxRecDepth 100000 in
set_option maxHeartbeats 1000000 in
theorem mis_c (n : Ndl) (off : Nat) (b : List UInt8) (g p k : Nat) (S : Nat → Prop) (d : Dsk) (s : Vst) (w : World) (h : Vready w g p S d k s) (hv : view d (nmD s.num s.gen) = some b) (hb : off + nlen n ≤ b.length) (hl : b.length ≤ 16777216) (hn : n.data.length ≤ 4096) (l : List UInt8) (hlq : (b.drop off).take (nlen n) = l) (h0 : getCode l ≠ 0) :
    Calls Tryz.prog 43 #[.pointer (some ⟨g, 0, none⟩), Q.pval (posN n off)] w fun e w' => e = .returned (ercode (getCode l)) ∧ Below w.heap.size w w' := by
  obtain ⟨L, hL⟩ : ∃ L, n.data.length = L := ⟨_, rfl⟩
  have HRW := Lib.hid (fun wx (hb2 : Below w.heap.size w wx) => raw_v n off b g p k S d s wx (h.below hb2) hv hb hl hn)
  rw [hlq] at HRW
  have HLL := Lib.hid (show nlen n = l.length by rw [← hlq]; simp; omega)
  have HLB := Lib.hid (show l.length ≤ 1099511627776 by rw [← HLL.out]; omega)
  have HGC := Lib.hid (fun v wx (hx : IsB wx v l) => get_c v l wx hx HLB.out h0)
  obtain ⟨q, hq⟩ : ∃ q, getCode l = q := ⟨_, rfl⟩
  rw [hq] at HGC ⊢
  simp only [posN, hL] at HRW ⊢
  obtain ⟨key, cookie, gone, data⟩ := n
  simp only at HRW ⊢
  have HAL := Lib.hid (below_alloc w (.cells #[.int .u64 (key : Int), .int .i64 (off : Int), .int .i64 (L : Int), .int .u32 (cookie : Int), .bool gone] 49))
  clear h hv hb hl hn hL h0 hlq hq
  go_enter Tryz.func43, Tryz.ntmps43
  go_wp2_with fail
  refine (HRW.out _ HAL.out).mono ?_
  rintro e w1 ⟨v', rfl, hown, hb1⟩
  have HO := Lib.hid (IsB.own hown HLL.out)
  have HB1 := Lib.hid (HAL.out.trans (hb1.mono HAL.out.size))
  clear hb1 hown
  go_wp2_with fail
  refine (HGC.out _ _ HO.out).mono ?_
  rintro e w2 ⟨rfl, hb2⟩
  have HB2 := Lib.hid (fun o => ((HB1.out.trans (hb2.mono HB1.out.size)).alloc (Nat.le_trans HB1.out.size hb2.size) o))
  clear hb2
  go_wp2
  go_ret
  exact ⟨rfl, HB2.out _⟩
set_option maxRecDepth 100000 in
set_option maxHeartbeats 1000000 in
theorem mis_g (n : Ndl) (off : Nat) (b : List UInt8) (g p k : Nat) (S : Nat → Prop) (d : Dsk) (s : Vst) (w : World) (h : Vready w g p S d k s) (hv : view d (nmD s.num s.gen) = some b) (hb : off + nlen n ≤ b.length) (hl : b.length ≤ 16777216) (hn : n.data.length ≤ 4096) (l : List UInt8) (hlq : (b.drop off).take (nlen n) = l) (h0 : getCode l = 0) (h1 : (getN l).key = n.key ∧ (getN l).cookie = n.cookie ∧ (getN l).gone = n.gone ∧ (getN l).data.length = n.data.length) :
    Calls Tryz.prog 43 #[.pointer (some ⟨g, 0, none⟩), Q.pval (posN n off)] w fun e w' => e = .returned .nilIface ∧ Below w.heap.size w w' := by
  obtain ⟨L, hL⟩ : ∃ L, n.data.length = L := ⟨_, rfl⟩
  have HRW := Lib.hid (fun wx (hb2 : Below w.heap.size w wx) => raw_v n off b g p k S d s wx (h.below hb2) hv hb hl hn)
  rw [hlq] at HRW
  have HLL := Lib.hid (show nlen n = l.length by rw [← hlq]; simp; omega)
  have HLB := Lib.hid (show l.length ≤ 1099511627776 by rw [← HLL.out]; omega)
  have HGC := Lib.hid (fun v wx (hx : IsB wx v l) => get_g v l wx hx HLB.out h0)
  obtain ⟨⟨mk, mc, mg, md⟩, hm⟩ : ∃ m, getN l = m := ⟨_, rfl⟩
  rw [hm] at HGC h1
  obtain ⟨mL, hmL⟩ : ∃ mL, md.length = mL := ⟨_, rfl⟩
  simp only [hmL, hL] at HGC h1
  simp only [posN, hL] at HRW ⊢
  obtain ⟨key, cookie, gone, data⟩ := n
  simp only at HRW ⊢
  simp only at h1
  obtain ⟨e1, e2, e3, e4⟩ := h1
  replace e1 := e1.symm
  replace e2 := e2.symm
  replace e3 := e3.symm
  replace e4 := e4.symm
  subst e1
  subst e2
  subst e3
  subst e4
  have HAL := Lib.hid (below_alloc w (.cells #[.int .u64 (key : Int), .int .i64 (off : Int), .int .i64 (L : Int), .int .u32 (cookie : Int), .bool gone] 49))
  clear h hv hb hl hn hL h0 hlq hm hmL
  go_enter Tryz.func43, Tryz.ntmps43
  go_wp2_with fail
  refine (HRW.out _ HAL.out).mono ?_
  rintro e w1 ⟨v', rfl, hown, hb1⟩
  have HO := Lib.hid (IsB.own hown HLL.out)
  have HB1 := Lib.hid (HAL.out.trans (hb1.mono HAL.out.size))
  have HP1 := Lib.hid ((Blk.new w #[.int .u64 (key : Int), .int .i64 (off : Int), .int .i64 (L : Int), .int .u32 (cookie : Int), .bool gone] 49).below hb1 (by simp))
  have hlt1 : w.heap.size < w1.heap.size := by have := hb1.size; simp at this; omega
  clear hb1 hown
  go_wp2_with fail
  refine (HGC.out _ _ HO.out).mono ?_
  rintro e w2 ⟨x, c, rfl, hb2⟩
  have HB2 := Lib.hid (fun o => ((HB1.out.trans (hb2.mono HB1.out.size)).alloc (Nat.le_trans HB1.out.size hb2.size) o))
  have hP2 := HP1.out.below hb2 HP1.out.lt
  have c0 := hP2.cell 0 rfl
  have c1 := hP2.cell 1 rfl
  have c2 := hP2.cell 2 rfl
  have c3 := hP2.cell 3 rfl
  have c4 := hP2.cell 4 rfl
  have hlt2 : w.heap.size < w2.heap.size := Nat.lt_of_lt_of_le hlt1 hb2.size
  clear hb2 hP2 HP1
  go_wp2
  go_ret
  exact ⟨rfl, HB2.out _⟩
set_option maxRecDepth 100000 in
set_option maxHeartbeats 1000000 in
theorem mis_d1 (n : Ndl) (off : Nat) (b : List UInt8) (g p k : Nat) (S : Nat → Prop) (d : Dsk) (s : Vst) (w : World) (h : Vready w g p S d k s) (hv : view d (nmD s.num s.gen) = some b) (hb : off + nlen n ≤ b.length) (hl : b.length ≤ 16777216) (hn : n.data.length ≤ 4096) (l : List UInt8) (hlq : (b.drop off).take (nlen n) = l) (h0 : getCode l = 0) (h1 : (getN l).key ≠ n.key) :
    Calls Tryz.prog 43 #[.pointer (some ⟨g, 0, none⟩), Q.pval (posN n off)] w fun e w' => e = .returned (ercode 4) ∧ Below w.heap.size w w' := by
  obtain ⟨L, hL⟩ : ∃ L, n.data.length = L := ⟨_, rfl⟩
  have HRW := Lib.hid (fun wx (hb2 : Below w.heap.size w wx) => raw_v n off b g p k S d s wx (h.below hb2) hv hb hl hn)
  rw [hlq] at HRW
  have HLL := Lib.hid (show nlen n = l.length by rw [← hlq]; simp; omega)
  have HLB := Lib.hid (show l.length ≤ 1099511627776 by rw [← HLL.out]; omega)
  have HGC := Lib.hid (fun v wx (hx : IsB wx v l) => get_g v l wx hx HLB.out h0)
  obtain ⟨⟨mk, mc, mg, md⟩, hm⟩ : ∃ m, getN l = m := ⟨_, rfl⟩
  rw [hm] at HGC h1
  obtain ⟨mL, hmL⟩ : ∃ mL, md.length = mL := ⟨_, rfl⟩
  simp only [hmL, hL] at HGC h1
  simp only [posN, hL] at HRW ⊢
  obtain ⟨key, cookie, gone, data⟩ := n
  simp only at HRW ⊢
  simp only at h1
  have HAL := Lib.hid (below_alloc w (.cells #[.int .u64 (key : Int), .int .i64 (off : Int), .int .i64 (L : Int), .int .u32 (cookie : Int), .bool gone] 49))
  clear h hv hb hl hn hL h0 hlq hm hmL
  go_enter Tryz.func43, Tryz.ntmps43
  go_wp2_with fail
  refine (HRW.out _ HAL.out).mono ?_
  rintro e w1 ⟨v', rfl, hown, hb1⟩
  have HO := Lib.hid (IsB.own hown HLL.out)
  have HB1 := Lib.hid (HAL.out.trans (hb1.mono HAL.out.size))
  have HP1 := Lib.hid ((Blk.new w #[.int .u64 (key : Int), .int .i64 (off : Int), .int .i64 (L : Int), .int .u32 (cookie : Int), .bool gone] 49).below hb1 (by simp))
  have hlt1 : w.heap.size < w1.heap.size := by have := hb1.size; simp at this; omega
  clear hb1 hown
  go_wp2_with fail
  refine (HGC.out _ _ HO.out).mono ?_
  rintro e w2 ⟨x, c, rfl, hb2⟩
  have HB2 := Lib.hid (fun o => ((HB1.out.trans (hb2.mono HB1.out.size)).alloc (Nat.le_trans HB1.out.size hb2.size) o))
  have hP2 := HP1.out.below hb2 HP1.out.lt
  have c0 := hP2.cell 0 rfl
  have c1 := hP2.cell 1 rfl
  have c2 := hP2.cell 2 rfl
  have c3 := hP2.cell 3 rfl
  have c4 := hP2.cell 4 rfl
  have hlt2 : w.heap.size < w2.heap.size := Nat.lt_of_lt_of_le hlt1 hb2.size
  clear hb2 hP2 HP1
  go_wp2
  go_ret
  exact ⟨rfl, HB2.out _⟩
set_option maxRecDepth 100000 in
set_option maxHeartbeats 1000000 in
theorem mis_d2 (n : Ndl) (off : Nat) (b : List UInt8) (g p k : Nat) (S : Nat → Prop) (d : Dsk) (s : Vst) (w : World) (h : Vready w g p S d k s) (hv : view d (nmD s.num s.gen) = some b) (hb : off + nlen n ≤ b.length) (hl : b.length ≤ 16777216) (hn : n.data.length ≤ 4096) (l : List UInt8) (hlq : (b.drop off).take (nlen n) = l) (h0 : getCode l = 0) (h1 : (getN l).key = n.key ∧ (getN l).cookie ≠ n.cookie) :
    Calls Tryz.prog 43 #[.pointer (some ⟨g, 0, none⟩), Q.pval (posN n off)] w fun e w' => e = .returned (ercode 4) ∧ Below w.heap.size w w' := by
  obtain ⟨L, hL⟩ : ∃ L, n.data.length = L := ⟨_, rfl⟩
  have HRW := Lib.hid (fun wx (hb2 : Below w.heap.size w wx) => raw_v n off b g p k S d s wx (h.below hb2) hv hb hl hn)
  rw [hlq] at HRW
  have HLL := Lib.hid (show nlen n = l.length by rw [← hlq]; simp; omega)
  have HLB := Lib.hid (show l.length ≤ 1099511627776 by rw [← HLL.out]; omega)
  have HGC := Lib.hid (fun v wx (hx : IsB wx v l) => get_g v l wx hx HLB.out h0)
  obtain ⟨⟨mk, mc, mg, md⟩, hm⟩ : ∃ m, getN l = m := ⟨_, rfl⟩
  rw [hm] at HGC h1
  obtain ⟨mL, hmL⟩ : ∃ mL, md.length = mL := ⟨_, rfl⟩
  simp only [hmL, hL] at HGC h1
  simp only [posN, hL] at HRW ⊢
  obtain ⟨key, cookie, gone, data⟩ := n
  simp only at HRW ⊢
  simp only at h1
  obtain ⟨e1, h1⟩ := h1
  replace e1 := e1.symm
  subst e1
  have HAL := Lib.hid (below_alloc w (.cells #[.int .u64 (key : Int), .int .i64 (off : Int), .int .i64 (L : Int), .int .u32 (cookie : Int), .bool gone] 49))
  clear h hv hb hl hn hL h0 hlq hm hmL
  go_enter Tryz.func43, Tryz.ntmps43
  go_wp2_with fail
  refine (HRW.out _ HAL.out).mono ?_
  rintro e w1 ⟨v', rfl, hown, hb1⟩
  have HO := Lib.hid (IsB.own hown HLL.out)
  have HB1 := Lib.hid (HAL.out.trans (hb1.mono HAL.out.size))
  have HP1 := Lib.hid ((Blk.new w #[.int .u64 (key : Int), .int .i64 (off : Int), .int .i64 (L : Int), .int .u32 (cookie : Int), .bool gone] 49).below hb1 (by simp))
  have hlt1 : w.heap.size < w1.heap.size := by have := hb1.size; simp at this; omega
  clear hb1 hown
  go_wp2_with fail
  refine (HGC.out _ _ HO.out).mono ?_
  rintro e w2 ⟨x, c, rfl, hb2⟩
  have HB2 := Lib.hid (fun o => ((HB1.out.trans (hb2.mono HB1.out.size)).alloc (Nat.le_trans HB1.out.size hb2.size) o))
  have hP2 := HP1.out.below hb2 HP1.out.lt
  have c0 := hP2.cell 0 rfl
  have c1 := hP2.cell 1 rfl
  have c2 := hP2.cell 2 rfl
  have c3 := hP2.cell 3 rfl
  have c4 := hP2.cell 4 rfl
  have hlt2 : w.heap.size < w2.heap.size := Nat.lt_of_lt_of_le hlt1 hb2.size
  clear hb2 hP2 HP1
  go_wp2
  go_ret
  exact ⟨rfl, HB2.out _⟩
set_option maxRecDepth 100000 in
set_option maxHeartbeats 1000000 in
theorem mis_d3 (n : Ndl) (off : Nat) (b : List UInt8) (g p k : Nat) (S : Nat → Prop) (d : Dsk) (s : Vst) (w : World) (h : Vready w g p S d k s) (hv : view d (nmD s.num s.gen) = some b) (hb : off + nlen n ≤ b.length) (hl : b.length ≤ 16777216) (hn : n.data.length ≤ 4096) (l : List UInt8) (hlq : (b.drop off).take (nlen n) = l) (h0 : getCode l = 0) (h1 : (getN l).key = n.key ∧ (getN l).cookie = n.cookie ∧ (getN l).gone ≠ n.gone) :
    Calls Tryz.prog 43 #[.pointer (some ⟨g, 0, none⟩), Q.pval (posN n off)] w fun e w' => e = .returned (ercode 4) ∧ Below w.heap.size w w' := by
  obtain ⟨L, hL⟩ : ∃ L, n.data.length = L := ⟨_, rfl⟩
  have HRW := Lib.hid (fun wx (hb2 : Below w.heap.size w wx) => raw_v n off b g p k S d s wx (h.below hb2) hv hb hl hn)
  rw [hlq] at HRW
  have HLL := Lib.hid (show nlen n = l.length by rw [← hlq]; simp; omega)
  have HLB := Lib.hid (show l.length ≤ 1099511627776 by rw [← HLL.out]; omega)
  have HGC := Lib.hid (fun v wx (hx : IsB wx v l) => get_g v l wx hx HLB.out h0)
  obtain ⟨⟨mk, mc, mg, md⟩, hm⟩ : ∃ m, getN l = m := ⟨_, rfl⟩
  rw [hm] at HGC h1
  obtain ⟨mL, hmL⟩ : ∃ mL, md.length = mL := ⟨_, rfl⟩
  simp only [hmL, hL] at HGC h1
  simp only [posN, hL] at HRW ⊢
  obtain ⟨key, cookie, gone, data⟩ := n
  simp only at HRW ⊢
  simp only at h1
  obtain ⟨e1, e2, h1⟩ := h1
  replace e1 := e1.symm
  replace e2 := e2.symm
  subst e1
  subst e2
  have HAL := Lib.hid (below_alloc w (.cells #[.int .u64 (key : Int), .int .i64 (off : Int), .int .i64 (L : Int), .int .u32 (cookie : Int), .bool gone] 49))
  clear h hv hb hl hn hL h0 hlq hm hmL
  go_enter Tryz.func43, Tryz.ntmps43
  go_wp2_with fail
  refine (HRW.out _ HAL.out).mono ?_
  rintro e w1 ⟨v', rfl, hown, hb1⟩
  have HO := Lib.hid (IsB.own hown HLL.out)
  have HB1 := Lib.hid (HAL.out.trans (hb1.mono HAL.out.size))
  have HP1 := Lib.hid ((Blk.new w #[.int .u64 (key : Int), .int .i64 (off : Int), .int .i64 (L : Int), .int .u32 (cookie : Int), .bool gone] 49).below hb1 (by simp))
  have hlt1 : w.heap.size < w1.heap.size := by have := hb1.size; simp at this; omega
  clear hb1 hown
  go_wp2_with fail
  refine (HGC.out _ _ HO.out).mono ?_
  rintro e w2 ⟨x, c, rfl, hb2⟩
  have HB2 := Lib.hid (fun o => ((HB1.out.trans (hb2.mono HB1.out.size)).alloc (Nat.le_trans HB1.out.size hb2.size) o))
  have hP2 := HP1.out.below hb2 HP1.out.lt
  have c0 := hP2.cell 0 rfl
  have c1 := hP2.cell 1 rfl
  have c2 := hP2.cell 2 rfl
  have c3 := hP2.cell 3 rfl
  have c4 := hP2.cell 4 rfl
  have hlt2 : w.heap.size < w2.heap.size := Nat.lt_of_lt_of_le hlt1 hb2.size
  clear hb2 hP2 HP1
  go_wp2
  go_ret
  exact ⟨rfl, HB2.out _⟩
set_option maxRecDepth 100000 in
set_option maxHeartbeats 1000000 in
theorem mis_d4 (n : Ndl) (off : Nat) (b : List UInt8) (g p k : Nat) (S : Nat → Prop) (d : Dsk) (s : Vst) (w : World) (h : Vready w g p S d k s) (hv : view d (nmD s.num s.gen) = some b) (hb : off + nlen n ≤ b.length) (hl : b.length ≤ 16777216) (hn : n.data.length ≤ 4096) (l : List UInt8) (hlq : (b.drop off).take (nlen n) = l) (h0 : getCode l = 0) (h1 : (getN l).key = n.key ∧ (getN l).cookie = n.cookie ∧ (getN l).gone = n.gone ∧ (getN l).data.length ≠ n.data.length) :
    Calls Tryz.prog 43 #[.pointer (some ⟨g, 0, none⟩), Q.pval (posN n off)] w fun e w' => e = .returned (ercode 4) ∧ Below w.heap.size w w' := by
  obtain ⟨L, hL⟩ : ∃ L, n.data.length = L := ⟨_, rfl⟩
  have HRW := Lib.hid (fun wx (hb2 : Below w.heap.size w wx) => raw_v n off b g p k S d s wx (h.below hb2) hv hb hl hn)
  rw [hlq] at HRW
  have HLL := Lib.hid (show nlen n = l.length by rw [← hlq]; simp; omega)
  have HLB := Lib.hid (show l.length ≤ 1099511627776 by rw [← HLL.out]; omega)
  have HGC := Lib.hid (fun v wx (hx : IsB wx v l) => get_g v l wx hx HLB.out h0)
  obtain ⟨⟨mk, mc, mg, md⟩, hm⟩ : ∃ m, getN l = m := ⟨_, rfl⟩
  rw [hm] at HGC h1
  obtain ⟨mL, hmL⟩ : ∃ mL, md.length = mL := ⟨_, rfl⟩
  simp only [hmL, hL] at HGC h1
  simp only [posN, hL] at HRW ⊢
  obtain ⟨key, cookie, gone, data⟩ := n
  simp only at HRW ⊢
  simp only at h1
  obtain ⟨e1, e2, e3, h1⟩ := h1
  replace e1 := e1.symm
  replace e2 := e2.symm
  replace e3 := e3.symm
  subst e1
  subst e2
  subst e3
  have HAL := Lib.hid (below_alloc w (.cells #[.int .u64 (key : Int), .int .i64 (off : Int), .int .i64 (L : Int), .int .u32 (cookie : Int), .bool gone] 49))
  clear h hv hb hl hn hL h0 hlq hm hmL
  go_enter Tryz.func43, Tryz.ntmps43
  go_wp2_with fail
  refine (HRW.out _ HAL.out).mono ?_
  rintro e w1 ⟨v', rfl, hown, hb1⟩
  have HO := Lib.hid (IsB.own hown HLL.out)
  have HB1 := Lib.hid (HAL.out.trans (hb1.mono HAL.out.size))
  have HP1 := Lib.hid ((Blk.new w #[.int .u64 (key : Int), .int .i64 (off : Int), .int .i64 (L : Int), .int .u32 (cookie : Int), .bool gone] 49).below hb1 (by simp))
  have hlt1 : w.heap.size < w1.heap.size := by have := hb1.size; simp at this; omega
  clear hb1 hown
  go_wp2_with fail
  refine (HGC.out _ _ HO.out).mono ?_
  rintro e w2 ⟨x, c, rfl, hb2⟩
  have HB2 := Lib.hid (fun o => ((HB1.out.trans (hb2.mono HB1.out.size)).alloc (Nat.le_trans HB1.out.size hb2.size) o))
  have hP2 := HP1.out.below hb2 HP1.out.lt
  have c0 := hP2.cell 0 rfl
  have c1 := hP2.cell 1 rfl
  have c2 := hP2.cell 2 rfl
  have c3 := hP2.cell 3 rfl
  have c4 := hP2.cell 4 rfl
  have hlt2 : w.heap.size < w2.heap.size := Nat.lt_of_lt_of_le hlt1 hb2.size
  clear hb2 hP2 HP1
  go_wp2
  go_ret
  exact ⟨rfl, HB2.out _⟩
/-- What mismatch tells: no error where misN is 0, else the code. -/
theorem mis_any (n : Ndl) (off : Nat) (b : List UInt8) (g p k : Nat) (S : Nat → Prop) (d : Dsk) (s : Vst) (w : World) (h : Vready w g p S d k s) (hv : view d (nmD s.num s.gen) = some b) (ho : off ≤ 16777216) (hl : b.length ≤ 16777216) (hn : n.data.length ≤ 4096) :
    Calls Tryz.prog 43 #[.pointer (some ⟨g, 0, none⟩), Q.pval (posN n off)] w fun e w' => e = .returned (cerr (misN b n off)) ∧ Below w.heap.size w w' := by
  by_cases hb : b.length < off + nlen n
  · rw [show misN b n off = 3 by unfold misN; rw [if_pos hb]]
    exact mis_s n off b g p k S d s w h hv hb ho hn
  · have hb' : off + nlen n ≤ b.length := by omega
    obtain ⟨l, hlq⟩ : ∃ l, (b.drop off).take (nlen n) = l := ⟨_, rfl⟩
    rw [show misN b n off = misK l n by unfold misN; rw [if_neg hb, hlq]]
    by_cases h0 : getCode l = 0
    · by_cases h1 : (getN l).key = n.key
      · by_cases h2 : (getN l).cookie = n.cookie
        · by_cases h3 : (getN l).gone = n.gone
          · by_cases h4 : (getN l).data.length = n.data.length
            · rw [show misK l n = 0 by unfold misK; rw [if_neg (by simp [h0]), if_neg (by simp [h1, h2, h3, h4])]]
              exact mis_g n off b g p k S d s w h hv hb' hl hn l hlq h0 ⟨h1, h2, h3, h4⟩
            · rw [show misK l n = 4 by unfold misK; rw [if_neg (by simp [h0]), if_pos (.inr (.inr (.inr h4)))]]
              exact mis_d4 n off b g p k S d s w h hv hb' hl hn l hlq h0 ⟨h1, h2, h3, h4⟩
          · rw [show misK l n = 4 by unfold misK; rw [if_neg (by simp [h0]), if_pos (.inr (.inr (.inl h3)))]]
            exact mis_d3 n off b g p k S d s w h hv hb' hl hn l hlq h0 ⟨h1, h2, h3⟩
        · rw [show misK l n = 4 by unfold misK; rw [if_neg (by simp [h0]), if_pos (.inr (.inl h2))]]
          exact mis_d2 n off b g p k S d s w h hv hb' hl hn l hlq h0 ⟨h1, h2⟩
      · rw [show misK l n = 4 by unfold misK; rw [if_neg (by simp [h0]), if_pos (.inl h1)]]
        exact mis_d1 n off b g p k S d s w h hv hb' hl hn l hlq h0 h1
    · rw [show misK l n = getCode l by unfold misK; rw [if_pos h0], cerr_pos h0]
      exact mis_c n off b g p k S d s w h hv hb' hl hn l hlq h0

end Go.Proofs.YtcpoaofcfefgaaaGreatDoor
end

section
namespace Go.Proofs.YtcpoaofcfefgaaaGreatDoor
open Go.RowKit Go.Cor

theorem Vready.kept {w w' : World} {g p k : Nat} {S T : Nat → Prop} {d : Dsk} {s : Vst} (h : Vready w g p S d k s) (hk : Kept T w w') (hT : ∀ b, S b → ¬ T b) : Vready w' g p S d k s := ⟨h.vl.kept hk hT, h.lies, h.ok, h.few, h.names⟩
set_option maxRecDepth 100000 in
set_option maxHeartbeats 1000000 in
theorem wrong_ok (n : Ndl) (off : Nat) (b : List UInt8) (g p k : Nat) (S : Nat → Prop) (d : Dsk) (s : Vst) (w : World) (h : Vready w g p S d k s) (hv : view d (nmD s.num s.gen) = some b) (ho : off ≤ 16777216) (hl : b.length ≤ 16777216) (hn : n.data.length ≤ 4096) (h0 : misN b n off = 0) :
    Calls Tryz.prog 22 #[.pointer (some ⟨g, 0, none⟩), Q.pval (posN n off)] w fun e w' => e = .returned (.pointer none) ∧ Below w.heap.size w w' := by
  have HMI := Lib.hid (fun wx (hb2 : Below w.heap.size w wx) => mis_any n off b g p k S d s wx (h.below hb2) hv ho hl hn)
  obtain ⟨L, hL⟩ : ∃ L, n.data.length = L := ⟨_, rfl⟩
  rw [h0, cerr_0] at HMI
  simp only [posN, hL] at HMI ⊢
  obtain ⟨key, cookie, gone, data⟩ := n
  simp only at HMI ⊢
  have HAL := Lib.hid (below_alloc w (.cells #[.int .u64 (key : Int), .int .i64 (off : Int), .int .i64 (L : Int), .int .u32 (cookie : Int), .bool gone] 49))
  clear h hv ho hl hn hL h0
  go_enter Tryz.func22, Tryz.ntmps22
  go_wp2_with fail
  refine (HMI.out _ HAL.out).mono ?_
  rintro e w1 ⟨rfl, hb1⟩
  have HB1 := Lib.hid (HAL.out.trans (hb1.mono HAL.out.size))
  clear hb1
  go_wp2
  go_ret
  exact ⟨rfl, HB1.out⟩
set_option maxRecDepth 100000 in
set_option maxHeartbeats 1000000 in
theorem wrong_bad (n : Ndl) (off : Nat) (b : List UInt8) (g p k : Nat) (S : Nat → Prop) (d : Dsk) (s : Vst) (w : World) (h : Vready w g p S d k s) (hv : view d (nmD s.num s.gen) = some b) (ho : off ≤ 16777216) (hl : b.length ≤ 16777216) (hn : n.data.length ≤ 4096) (h0 : misN b n off ≠ 0) :
    Calls Tryz.prog 22 #[.pointer (some ⟨g, 0, none⟩), Q.pval (posN n off)] w fun e w' => ∃ A, e = .returned (.pointer (some ⟨A, 0, none⟩)) ∧ w'.cell? ⟨A, 2, none⟩ = some (ercode (misN b n off)) ∧ Below w.heap.size w w' := by
  have HMI := Lib.hid (fun wx (hb2 : Below w.heap.size w wx) => mis_any n off b g p k S d s wx (h.below hb2) hv ho hl hn)
  obtain ⟨L, hL⟩ : ∃ L, n.data.length = L := ⟨_, rfl⟩
  rw [cerr_pos h0] at HMI
  obtain ⟨q, hq⟩ : ∃ q, misN b n off = q := ⟨_, rfl⟩
  rw [hq] at HMI ⊢
  obtain ⟨G, hG⟩ : ∃ G, Q.goneN s.idx = G := ⟨_, rfl⟩
  obtain ⟨AA, hA⟩ : ∃ A : Int, (s.idx.length : Int) - (G : Int) = A := ⟨_, rfl⟩
  have HIN := Lib.hid (fun wx (hb2 : Below w.heap.size w wx) => info_v g p k S d s wx (h.below hb2))
  unfold infoV at HIN
  rw [hG, hA] at HIN
  have hn9 := h.ok.num9
  have hg9 := h.ok.gen9
  simp only [posN, hL] at HMI ⊢
  obtain ⟨key, cookie, gone, data⟩ := n
  simp only at HMI ⊢
  have HAL := Lib.hid (below_alloc w (.cells #[.int .u64 (key : Int), .int .i64 (off : Int), .int .i64 (L : Int), .int .u32 (cookie : Int), .bool gone] 49))
  clear h hv ho hl hn hL h0 hq hG hA
  go_enter Tryz.func22, Tryz.ntmps22
  go_wp2_with fail
  refine (HMI.out _ HAL.out).mono ?_
  rintro e w1 ⟨rfl, hb1⟩
  have HB1 := Lib.hid (HAL.out.trans (hb1.mono HAL.out.size))
  have HP1 := Lib.hid ((Blk.new w #[.int .u64 (key : Int), .int .i64 (off : Int), .int .i64 (L : Int), .int .u32 (cookie : Int), .bool gone] 49).below hb1 (by simp))
  clear hb1 HMI
  go_wp2_with fail
  refine (HIN.out _ HB1.out).mono ?_
  rintro e w2 ⟨rfl, hb2⟩
  obtain ⟨w3, hw3⟩ : ∃ w3, w2.alloc (.cells #[.int .i64 (s.num : Int), .int .i64 (s.gen : Int), .int .i64 (s.epoch : Int), .int .i64 (s.size : Int), .int .i64 AA, .int .i64 (G : Int), .bool s.shut] 123) = w3 := ⟨_, rfl⟩
  have hb3 := (HB1.out.trans (hb2.mono HB1.out.size)).alloc (Nat.le_trans HB1.out.size hb2.size) (.cells #[.int .i64 (s.num : Int), .int .i64 (s.gen : Int), .int .i64 (s.epoch : Int), .int .i64 (s.size : Int), .int .i64 AA, .int .i64 (G : Int), .bool s.shut] 123)
  have hp3 := (HP1.out.below hb2 HP1.out.lt).alloc (.cells #[.int .i64 (s.num : Int), .int .i64 (s.gen : Int), .int .i64 (s.epoch : Int), .int .i64 (s.size : Int), .int .i64 AA, .int .i64 (G : Int), .bool s.shut] 123)
  have hi3 := Blk.new w2 #[.int .i64 (s.num : Int), .int .i64 (s.gen : Int), .int .i64 (s.epoch : Int), .int .i64 (s.size : Int), .int .i64 AA, .int .i64 (G : Int), .bool s.shut] 123
  go_upto_region 5 with fail
  rw [hw3] at hb3 hp3 hi3
  try rw [hw3]
  have HB3 := Lib.hid hb3
  have c1 := hp3.cell 1 rfl
  have z0 := hi3.cell 0 rfl
  have z1 := hi3.cell 1 rfl
  clear hb2 HIN hb3 hp3 hi3 hw3
  go_wp2_with fail
  refine (names_h s.num s.gen _ hn9 hg9).mono ?_
  rintro e w4 ⟨rfl, rfl⟩
  go_wp2_with fail
  go_ret
  refine ⟨_, rfl, ?_, HB3.out.alloc HB3.out.size _⟩
  exact (Blk.new w3 #[.string (nmD s.num s.gen), .int .i64 (off : Int), ercode q] 81).cell 2 rfl
set_option maxRecDepth 100000 in
set_option maxHeartbeats 1000000 in
theorem look_ok (n : Ndl) (off : Nat) (b : List UInt8) (g p k : Nat) (S : Nat → Prop) (d : Dsk) (s : Vst) (w : World) (h : Vready w g p S d k s) (hv : view d (nmD s.num s.gen) = some b) (ho : off ≤ 16777216) (hl : b.length ≤ 16777216) (hn : n.data.length ≤ 4096) (h0 : misN b n off = 0) :
    Calls Tryz.prog 12 #[.pointer (some ⟨g, 0, none⟩), Q.pval (posN n off)] w fun e w' => e = .returned .nilIface ∧ Below w.heap.size w w' := by
  have HMI := Lib.hid (fun wx (hb2 : Below w.heap.size w wx) => wrong_ok n off b g p k S d s wx (h.below hb2) hv ho hl hn h0)
  obtain ⟨L, hL⟩ : ∃ L, n.data.length = L := ⟨_, rfl⟩
  simp only [posN, hL] at HMI ⊢
  obtain ⟨key, cookie, gone, data⟩ := n
  simp only at HMI ⊢
  have HAL := Lib.hid (below_alloc w (.cells #[.int .u64 (key : Int), .int .i64 (off : Int), .int .i64 (L : Int), .int .u32 (cookie : Int), .bool gone] 49))
  clear h hv ho hl hn hL h0
  go_enter Tryz.func12, Tryz.ntmps12
  go_wp2_with fail
  refine (HMI.out _ HAL.out).mono ?_
  rintro e w1 ⟨rfl, hb1⟩
  have HB1 := Lib.hid (HAL.out.trans (hb1.mono HAL.out.size))
  clear hb1
  go_wp2
  go_ret
  exact ⟨rfl, HB1.out⟩
set_option maxRecDepth 100000 in
set_option maxHeartbeats 1000000 in
theorem look_bad (n : Ndl) (off : Nat) (b : List UInt8) (g p k : Nat) (S : Nat → Prop) (d : Dsk) (s : Vst) (w : World) (h : Vready w g p S d k s) (hv : view d (nmD s.num s.gen) = some b) (ho : off ≤ 16777216) (hl : b.length ≤ 16777216) (hn : n.data.length ≤ 4096) (h0 : misN b n off ≠ 0) :
    Calls Tryz.prog 12 #[.pointer (some ⟨g, 0, none⟩), Q.pval (posN n off)] w fun e w' => ∃ A, e = .returned (.iface 76 (.pointer (some ⟨A, 0, none⟩))) ∧ w'.cell? ⟨A, 2, none⟩ = some (ercode (misN b n off)) ∧ Below w.heap.size w w' := by
  have HMI := Lib.hid (fun wx (hb2 : Below w.heap.size w wx) => wrong_bad n off b g p k S d s wx (h.below hb2) hv ho hl hn h0)
  obtain ⟨L, hL⟩ : ∃ L, n.data.length = L := ⟨_, rfl⟩
  obtain ⟨q, hq⟩ : ∃ q, misN b n off = q := ⟨_, rfl⟩
  rw [hq] at HMI ⊢
  simp only [posN, hL] at HMI ⊢
  obtain ⟨key, cookie, gone, data⟩ := n
  simp only at HMI ⊢
  have HAL := Lib.hid (below_alloc w (.cells #[.int .u64 (key : Int), .int .i64 (off : Int), .int .i64 (L : Int), .int .u32 (cookie : Int), .bool gone] 49))
  clear h hv ho hl hn hL h0 hq
  go_enter Tryz.func12, Tryz.ntmps12
  go_wp2_with fail
  refine (HMI.out _ HAL.out).mono ?_
  rintro e w1 ⟨A, rfl, hc, hb1⟩
  have HC := Lib.hid hc
  have HB1 := Lib.hid (HAL.out.trans (hb1.mono HAL.out.size))
  clear hb1 hc
  go_wp2
  go_ret
  exact ⟨A, rfl, HC.out, HB1.out⟩

/-- A scrubber that has found nothing. -/
abbrev scells (g nx : Nat) (dn : Bool) (sn : Nat) : Array Value := #[.pointer (some ⟨g, 0, none⟩), .int .u64 (nx : Int), .bool dn, .int .i64 (sn : Int), .slice none 0 0]
set_option maxRecDepth 100000 in
set_option maxHeartbeats 1000000 in
theorem slook_ok (n : Ndl) (off : Nat) (b : List UInt8) (g p k : Nat) (S : Nat → Prop) (d : Dsk) (s : Vst) (w : World) (h : Vready w g p S d k s) (hv : view d (nmD s.num s.gen) = some b) (ho : off ≤ 16777216) (hl : b.length ≤ 16777216) (hn : n.data.length ≤ 4096) (h0 : misN b n off = 0) (x nx sn : Nat) (dn : Bool) (hx : Blk w x (scells g nx dn sn) 72) (hxS : ¬ S x) (hs : sn ≤ 1048576) :
    Calls Tryz.prog 20 #[.pointer (some ⟨x, 0, none⟩), Q.pval (posN n off)] w fun e w' => e = .returned (.tuple #[]) ∧ Blk w' x (scells g nx dn (sn + 1)) 72 ∧ Kept (fun j => j = x) w w' := by
  have HWR := Lib.hid (fun wx (hk : Kept (fun j => j = x) w wx) => wrong_ok n off b g p k S d s wx (h.kept hk (fun j hj e => hxS (e ▸ hj))) hv ho hl hn h0)
  obtain ⟨L, hL⟩ : ∃ L, n.data.length = L := ⟨_, rfl⟩
  simp only [posN, hL] at HWR ⊢
  obtain ⟨key, cookie, gone, data⟩ := n
  simp only at HWR ⊢
  have hx1 := hx.alloc (.cells #[.int .u64 (key : Int), .int .i64 (off : Int), .int .i64 (L : Int), .int .u32 (cookie : Int), .bool gone] 49)
  have hp1 := Blk.new w #[.int .u64 (key : Int), .int .i64 (off : Int), .int .i64 (L : Int), .int .u32 (cookie : Int), .bool gone] 49
  have hne : w.heap.size ≠ x := by have := hx.lt; omega
  have hxl := hx.lt
  obtain ⟨w1, hw1⟩ : ∃ w1, w.alloc (.cells #[.int .u64 (key : Int), .int .i64 (off : Int), .int .i64 (L : Int), .int .u32 (cookie : Int), .bool gone] 49) = w1 := ⟨_, rfl⟩
  have hb1 := below_alloc w (.cells #[.int .u64 (key : Int), .int .i64 (off : Int), .int .i64 (L : Int), .int .u32 (cookie : Int), .bool gone] 49)
  have hk1 : Kept (fun j => j = x) w (w.alloc (.cells #[.int .u64 (key : Int), .int .i64 (off : Int), .int .i64 (L : Int), .int .u32 (cookie : Int), .bool gone] 49)) := Kept.of_below hb1 (Nat.le_refl _)
  have x0 := hx1.cell 0 rfl
  have x3 := hx1.cell 3 rfl
  have xf := fun j => hx1.free j
  have e1 : IntKind.i64.wrap ((sn : Int) + 1) = ((sn + 1 : Nat) : Int) := by rw [IntWalk.i64_in _ (by omega)]; omega
  have HE := Lib.hid e1
  have hx2 := hx1.set 3 (.int .i64 ((sn + 1 : Nat) : Int))
  have hp2 := hp1.other (a := ⟨x, 3, none⟩) (fun e => hne e.symm) (.int .i64 ((sn + 1 : Nat) : Int))
  have hk2 := hk1.setCell (p := ⟨x, 3, none⟩) (.inl rfl) (.int .i64 ((sn + 1 : Nat) : Int))
  rw [hw1] at hx1 hp1 hk1 x0 x3 xf hx2 hp2 hk2
  have hk3 := hk2.drew
  clear h hv ho hl hn hL h0 hx hxS hs hx1 hp1 hk1 hb1
  obtain ⟨w2, hw2⟩ : ∃ w2, w1.setCell ⟨x, 3, none⟩ (.int .i64 ((sn + 1 : Nat) : Int)) = w2 := ⟨_, rfl⟩
  obtain ⟨s1, hs1⟩ : ∃ s1 : Int, ((sn + 1 : Nat) : Int) = s1 := ⟨_, rfl⟩
  rw [hs1] at e1
  have HS1 := Lib.hid hs1
  rw [hw2] at hx2 hp2 hk3
  rw [hs1] at hw2
  have HX2 := Lib.hid hx2
  have HP2 := Lib.hid hp2
  have HK2 := Lib.hid hk3
  clear hx2 hp2 hk2 hk3 hs1 HE hne
  go_enter Tryz.func20, Tryz.ntmps20
  go_upto_region 1 with fail
  try rw [hw1]
  clear hw1
  go_upto_region 2 with fail
  try rw [hw2]
  clear hw2 x0 x3 xf e1
  have x0 := HX2.out.cell 0 rfl
  have p0 := HP2.out.cell 0 rfl
  have p1 := HP2.out.cell 1 rfl
  have p2 := HP2.out.cell 2 rfl
  have p3 := HP2.out.cell 3 rfl
  have p4 := HP2.out.cell 4 rfl
  go_still_tail 5, (by kernel_rfl)
  change wpList _ _ _ _ _ w2.drew
  go_wp2_with fail
  refine (HWR.out _ HK2.out).mono ?_
  rintro e w3 ⟨rfl, hb3⟩
  have HX3 := Lib.hid (HX2.out.drew.below hb3 HX2.out.lt)
  have HK3 := Lib.hid (HK2.out.trans (Kept.of_below (S := fun _ => False) hb3 (Nat.le_refl _)) (fun _ e => e.elim))
  clear hb3 x0 p0 p1 p2 p3 p4
  go_wp2_with fail
  go_end0
  exact ⟨rfl, HX3.out, HK3.out⟩

end Go.Proofs.YtcpoaofcfefgaaaGreatDoor
end

section
namespace Go.Proofs.YtcpoaofcfefgaaaGreatDoor
open Go.RowKit Go.Cor

/-- Each position of a volume is its needle's. -/
theorem Vready.at {w : World} {g p k : Nat} {S : Nat → Prop} {d : Dsk} {s : Vst} (h : Vready w g p S d k s) : ∃ b, view d (nmD s.num s.gen) = some b ∧ b.length ≤ 16777216 ∧ ∀ q ∈ s.idx, ∃ (n : Ndl) (off : Nat), q = posN n off ∧ n.key < 18446744073709551616 ∧ n.data.length ≤ 4096 ∧ off + 8 ≤ 16777216 ∧ misN b n off = 0 ∧ misN b n (off + 8) ≠ 0 := by
  obtain ⟨X, hX, hv⟩ := h.lies.data
  have hbl : (X ++ nsB s.ns).length = s.size := by rw [List.length_append, hX, length_nsB]; rfl
  have hb16 : (X ++ nsB s.ns).length ≤ 16777216 := by rw [hbl]; exact Nat.le_trans h.ok.size h.ok.most
  refine ⟨X ++ nsB s.ns, hv, hb16, fun q hq => ?_⟩
  obtain ⟨a, n, c, h5, rfl⟩ := Vst.idx_mem hq
  have hal := h.ok.all n (by rw [h5]; simp)
  have hsz : 16 + tot a + nlen n ≤ (X ++ nsB s.ns).length := by
    rw [hbl]
    unfold Vst.size
    rw [h5, tot_append]
    simp only [tot]
    omega
  have hd : ((X ++ nsB s.ns).drop (16 + tot a)).take (nlen n) = nbytes n := by rw [h5]; exact bytes_at hX
  have h32 : 32 ≤ nlen n := by unfold nlen; omega
  exact ⟨n, 16 + tot a, rfl, hal.1.1, (ncheck_ok hal.2).1, by omega, misN_own hal.1 hal.2 hsz hd, misN_beside hal.1 hal.2 hsz hd⟩

theorem snew_nil (w : World) :
    Calls Tryz.prog 7 #[.pointer none] w fun e w' => e = .returned (.tuple #[.pointer none, ercode 15]) ∧ w = w' := by
  go_enter Tryz.func7, Tryz.ntmps7
  go_wp2
  exact bodyPost_ret (v := .tuple #[.pointer none, ercode 15]) (by simp [results, Tryz.results7, go_sem]) rfl ⟨rfl, rfl⟩
theorem snew_ok (g : Nat) (w : World) :
    Calls Tryz.prog 7 #[.pointer (some ⟨g, 0, none⟩)] w fun e w' => e = .returned (.tuple #[.pointer (some ⟨w.heap.size, 0, none⟩), .nilIface]) ∧ Blk w' w.heap.size (scells g 0 false 0) 72 ∧ Below w.heap.size w w' := by
  go_enter Tryz.func7, Tryz.ntmps7
  go_wp2
  exact bodyPost_ret (v := .tuple #[.pointer (some ⟨w.heap.size, 0, none⟩), .nilIface]) (by simp [results, Tryz.results7, go_sem]) rfl ⟨rfl, Blk.new w _ _, below_alloc w _⟩
theorem sseen_any (x g nx sn : Nat) (dn : Bool) (w : World) (h : Blk w x (scells g nx dn sn) 72) :
    Calls Tryz.prog 10 #[.pointer (some ⟨x, 0, none⟩)] w fun e w' => e = .returned (.int .i64 (sn : Int)) ∧ w = w' := by
  have c3 := h.cell 3 rfl
  clear h
  go_enter Tryz.func10, Tryz.ntmps10
  go_wp2
  go_ret
  exact ⟨rfl, rfl⟩
theorem Tryz.sizePosA : (Tryz.prog.info? 49).map (·.size) = some 5 := by kernel_rfl
theorem Tryz.makeBad (w : World) : (Instr.makeSlice 42 (.int .i64 0) (.int .i64 0)).run Tryz.prog w = .ok (.slice (some ⟨w.heap.size, 0, none⟩) 0 0) (w.alloc (.cells #[] 83)) := by kernel_rfl
theorem sbad_any (x g nx sn : Nat) (dn : Bool) (w : World) (h : Blk w x (scells g nx dn sn) 72) :
    Calls Tryz.prog 13 #[.pointer (some ⟨x, 0, none⟩)] w fun e w' => e = .returned (.slice (some ⟨w.heap.size, 0, none⟩) 0 0) ∧ Below w.heap.size w w' := by
  have c4 := h.cell 4 rfl
  have hlt := h.lt
  have hmk := Tryz.makeBad
  clear h
  go_enter Tryz.func13, Tryz.ntmps13
  go_wp2
  refine wp_loop_rounds 1 ?_
  rw [rounds_succ]
  go_wp2
  go_ret
  exact ⟨rfl, below_alloc w _⟩
theorem sstep_arg (x g nx sn : Nat) (n : Int) (w : World) (h : Blk w x (scells g nx false sn) 72) (hn : n < 1) :
    Calls Tryz.prog 8 #[.pointer (some ⟨x, 0, none⟩), .int .i64 n] w fun e w' => e = .returned (.tuple #[.bool false, ercode 1]) ∧ w = w' := by
  have c2 := h.cell 2 rfl
  clear h
  go_enter Tryz.func8, Tryz.ntmps8
  go_wp2
  exact bodyPost_ret (v := .tuple #[.bool false, ercode 1]) (by simp [results, Tryz.results8, go_sem]) rfl ⟨rfl, rfl⟩
/-- What a scrubber's first step leaves. -/
def SStep (x g K : Nat) (w : World) (e : Ending) (w' : World) : Prop := ∃ (D : Bool) (nx : Nat), e = .returned (.tuple #[.bool D, .nilIface]) ∧ Blk w' x (scells g nx D K) 72 ∧ Kept (fun j => j = x) w w'
theorem SStep.mk' {x g K : Nat} {w w' : World} (D : Bool) (nx : Nat) (h1 : Blk w' x (scells g nx D K) 72) (h2 : Kept (fun j => j = x) w w') : SStep x g K w (.returned (.tuple #[.bool D, .nilIface])) w' := ⟨D, nx, rfl, h1, h2⟩
set_option maxRecDepth 100000 in
set_option maxHeartbeats 2000000 in
theorem sstep_ok (x g p k : Nat) (S : Nat → Prop) (d : Dsk) (s : Vst) (n : Int) (w : World) (h : Vready w g p S d k s) (hx : Blk w x (scells g 0 false 0) 72) (hxS : ¬ S x) (hn : 1 ≤ n) (hn2 : n ≤ 9223372036854775807) :
    Calls Tryz.prog 8 #[.pointer (some ⟨x, 0, none⟩), .int .i64 n] w (SStep x g (min n.toNat s.idx.length) w) := by
  obtain ⟨b, hv, hb16, hat⟩ := h.at
  have hI := s.idx_len
  have hfew := h.ok.few
  obtain ⟨K, hK⟩ : ∃ K, min n.toNat s.idx.length = K := ⟨_, rfl⟩
  have hKlen : (s.idx.take n.toNat).length = K := by rw [List.length_take]; exact hK
  obtain ⟨l, hl⟩ : ∃ l, s.idx.take n.toNat = l := ⟨_, rfl⟩
  rw [hl] at hKlen
  have hK4 : K ≤ 4096 := by omega
  have HAT := Lib.hid (show ∀ (i : Nat), i < l.length → ∃ (m : Ndl) (off : Nat), pat l i = posN m off ∧ (pat l i).key < 18446744073709551616 ∧ ∀ (wx : World) (sn : Nat) (nx : Nat) (dn : Bool), Kept (fun j => j = x) w wx → Blk wx x (scells g nx dn sn) 72 → sn ≤ 1048576 →
      Calls Tryz.prog 20 #[.pointer (some ⟨x, 0, none⟩), Q.pval (pat l i)] wx fun e w' => e = .returned (.tuple #[]) ∧ Blk w' x (scells g nx dn (sn + 1)) 72 ∧ Kept (fun j => j = x) wx w' from fun i hi => by
    have hmem : pat l i ∈ s.idx := by
      rw [← hl]
      exact List.mem_of_mem_take (pat_mem (by rw [hl]; exact hi))
    obtain ⟨m, off, hq, hkb, h4, ho, h0, _⟩ := hat _ hmem
    refine ⟨m, off, hq, by rw [hq]; exact hkb, fun wx sn nx dn hk hbx hs => ?_⟩
    rw [hq]
    exact slook_ok m off b g p k S d s wx (h.kept hk (fun j hj e => hxS (e ▸ hj))) hv (by omega) hb16 h4 h0 x nx sn dn hbx hxS hs)
  have HKY := Lib.hid (show Calls Tryz.prog 19 #[.pointer (some ⟨g, 0, none⟩), .int .u64 0, .int .i64 n] w.drew (fun r w' => ∃ v', r = .returned v' ∧ w'.ownsRow w.heap.size 49 5 v' K (row Q.pcells l) ∧ Below w.heap.size w w') by
    have := keys_v 0 n g p k S d s w.drew (h.below (Below.refl _ w).drew)
    unfold Q.fromL at this
    rw [psn_zero, List.drop_zero, hl, hKlen] at this
    refine this.mono ?_
    rintro r w' ⟨v', rfl, ho, hb⟩
    exact ⟨v', rfl, ho, (Below.refl _ w).drew.trans hb⟩)
  have x0 := hx.cell 0 rfl
  have x1 := hx.cell 1 rfl
  have x2 := hx.cell 2 rfl
  have HX := Lib.hid hx
  have HKL := Lib.hid hKlen
  have hn1 : ¬ n < 1 := by omega
  have HN := Lib.hid (show K ≤ n.toNat by omega)
  have hKn : (K : Int) ≤ n := by omega
  rw [hK]
  clear h hx hxS hv hb16 hat hI hfew hK hKlen hl hn
  go_enter Tryz.func8, Tryz.ntmps8
  go_upto_region 7 with fail
  go_still_tail 9, (by kernel_rfl)
  change wpList _ _ _ _ _ w.drew
  go_wp2_with fail
  refine HKY.out.mono ?_
  rintro e w1 ⟨v', rfl, hown, hb1⟩
  have hlen := fun W => Q.len_P (P := Tryz.prog) (Q.IsP.own (by exact hown) HKL.out.symm) HKL.out 66 3 49 Tryz.underlying66 W
  have HP1 := Lib.hid (show Q.IsP w1 v' l from Q.IsP.own (by exact hown) HKL.out.symm)
  have HLI := Lib.hid (show ∀ j, liesX v' l.length j → ¬ j = x from fun j hj e => by have h1 := (hown.lt j hj.2).1; have h2 := HX.out.lt; omega)
  have HX1 := Lib.hid (HX.out.below hb1 HX.out.lt)
  have HK1 := Lib.hid (Kept.of_below (S := fun j => j = x) hb1 (Nat.le_refl _))
  clear hown hb1 HKY x0 x1 x2
  go_wp2_with fail
  go_loopw [32] (fun c wr => ∃ i : Nat, i ≤ K ∧ c = .int .i64 (i : Int) ∧ Hid (Blk wr x (scells g 0 false i) 72) ∧ Hid (Kept (fun j => j = x) w wr) ∧ Hid (Q.IsP wr v' l)) (fun c _ => (K - intOf c).toNat)
  case atStart => exact ⟨0, Nat.zero_le _, rfl, HX1, HK1, HP1⟩
  case round =>
    obtain ⟨i, hiK, rfl, HXr, HKr, HPr⟩ := hrel
    clear HX1 HK1 HP1
    by_cases hi : i < K
    · obtain ⟨B, o, hidx, hp⟩ := Q.indexAt_P (P := Tryz.prog) HPr.out 66 49 Tryz.underlying66 Tryz.sizePosA i (by rw [HKL.out]; exact hi)
      obtain ⟨m, off, hq, _, hlk⟩ := HAT.out i (by rw [HKL.out]; exact hi)
      obtain ⟨⟨pk, po, pl, pc, pg⟩, hpp⟩ : ∃ q, pat l i = q := ⟨_, rfl⟩
      rw [hpp] at hp hlk
      obtain ⟨c0, c1, c2, c3, c4⟩ := hp
      dsimp only at c0 c1 c2 c3 c4
      have HLK := Lib.hid hlk
      have e1 : IntKind.i64.wrap ((i : Int) + 1) = (i : Int) + 1 := IntWalk.i64_in _ (by omega)
      clear hpp hq hlk
      go_wp2_with fail
      have ha := HKr.out.alloc (.cells #[.int .u64 (pk : Int), .int .i64 po, .int .i64 pl, .int .u32 (pc : Int), .bool pg] 49)
      refine (HLK.out _ i 0 false ha (HXr.out.alloc _) (by omega)).mono ?_
      rintro e w2 ⟨rfl, hx2, hk2⟩
      have HX2 := Lib.hid hx2
      have HK2 := Lib.hid (ha.trans hk2 (fun j e _ => e))
      have HP2 := Lib.hid (show Q.IsP w2 v' l from IsX.kept (HPr.out.mono (below_alloc _ _) (Nat.le_refl _)) hk2 HLI.out)
      clear ha hx2 hk2 c0 c1 c2 c3 c4 HLK
      go_wp2
      go_roundw
      case rel => exact ⟨i + 1, by omega, by simp, HX2, HK2, HP2⟩
      case measure => simp [intOf] <;> omega
    · obtain rfl : i = K := by omega
      have x2 := HXr.out.cell 2 rfl
      have xf := fun j => HXr.out.free j
      by_cases hlt : (i : Int) < n
      · have HXF := Lib.hid (HXr.out.set 2 (.bool true))
        have HKF := Lib.hid (HKr.out.setCell (p := ⟨x, 2, none⟩) (.inl rfl) (.bool true))
        go_wp2
        refine bodyPost_ret (v := .tuple #[.bool true, .nilIface]) (by simp [results, Tryz.results8, go_sem]) rfl (SStep.mk' true 0 HXF.out HKF.out)
      · obtain rfl : n = (i : Int) := by omega
        obtain ⟨J, hJ⟩ : ∃ J, i = J + 1 := ⟨i - 1, by omega⟩
        obtain ⟨B, o, hidx, hob, h3⟩ := indexAt_X (P := Tryz.prog) HPr.out 66 49 Tryz.underlying66 Tryz.sizePosA J (by rw [HKL.out]; omega)
        have hp := Q.pcells_at (by rw [HKL.out]; omega) h3
        obtain ⟨_, _, _, hpk, _⟩ := HAT.out J (by rw [HKL.out]; omega)
        have hBx : B ≠ x := HLI.out B ⟨by rw [HKL.out]; omega, hob⟩
        obtain ⟨⟨pk, po, pl, pc, pg⟩, hpp⟩ : ∃ q, pat l J = q := ⟨_, rfl⟩
        rw [hpp] at hpk
        dsimp only at hpk
        rw [hpp] at hp
        obtain ⟨c0, c1, c2, c3, c4⟩ := hp
        dsimp only at c0 c1 c2 c3 c4
        have e1 : IntKind.i64.wrap ((i : Int) - 1) = (J : Int) := by rw [IntWalk.i64_in _ (by omega)]; omega
        clear hpp c1 c2 c3 c4 h3 hob
        have HJ := Lib.hid hJ
        clear hJ
        by_cases hmax : pk = 18446744073709551615
        · subst hmax
          have HXF := Lib.hid (HXr.out.set 2 (.bool true))
          have HKF := Lib.hid (HKr.out.setCell (p := ⟨x, 2, none⟩) (.inl rfl) (.bool true))
          go_wp2
          refine bodyPost_ret (v := .tuple #[.bool true, .nilIface]) (by simp [results, Tryz.results8, go_sem]) rfl (SStep.mk' true 0 HXF.out HKF.out)
        · have e2 : IntKind.u64.wrap ((pk : Int) + 1) = ((pk + 1 : Nat) : Int) := by rw [IntWalk.u64_in _ (by omega)]; omega
          have hm2 : ((pk : Int) == 18446744073709551615) = false := by simp; omega
          have hy := HXr.out.set 2 (.bool false)
          have y1 := hy.cell 1 rfl
          have yf := fun j => hy.free j
          have hz := hy.set 1 (.int .u64 ((pk + 1 : Nat) : Int))
          have z2 := hz.cell 2 rfl
          clear hy hz
          have HXF := Lib.hid ((HXr.out.set 2 (.bool false)).set 1 (.int .u64 ((pk + 1 : Nat) : Int)))
          have HKF := Lib.hid ((HKr.out.setCell (p := ⟨x, 2, none⟩) (.inl rfl) (.bool false)).setCell (p := ⟨x, 1, none⟩) (.inl rfl) (.int .u64 ((pk + 1 : Nat) : Int)))
          go_wp2
          refine bodyPost_ret (v := .tuple #[.bool false, .nilIface]) (by simp [results, Tryz.results8, go_sem]) rfl (SStep.mk' false (pk + 1) HXF.out HKF.out)

end Go.Proofs.YtcpoaofcfefgaaaGreatDoor
end

section
namespace Go.Proofs.YtcpoaofcfefgaaaGreatDoor
open Go.RowKit Go.Cor

theorem mk_keep {wx wy : World} {B : Nat} {c0 c1 c2 c3 : Value} (hb : Below wx.heap.size wx wy) (hB : B < wx.heap.size)
    (K : wx.cell? ⟨B, 0, none⟩ = some c0 ∧ wx.cell? ⟨B, 1, none⟩ = some c1 ∧ wx.cell? ⟨B, 2, none⟩ = some c2 ∧ wx.cell? ⟨B, 3, none⟩ = some c3) : wy.cell? ⟨B, 0, none⟩ = some c0 ∧ wy.cell? ⟨B, 1, none⟩ = some c1 ∧ wy.cell? ⟨B, 2, none⟩ = some c2 ∧ wy.cell? ⟨B, 3, none⟩ = some c3 := four_below hb hB K
/-- A volume as it is made. -/
def vst0 (num most ep : Nat) : Vst := ⟨num, 1, most, ep, false, []⟩
/-- What Make leaves. -/
def Made (w w' : World) (g p : Nat) (Sd : Nat → Prop) (d : Dsk) (k' : Nat) (s : Vst) : Prop :=
  ∃ S' d', Vl w' g p S' d' k' s ∧ Kept Sd w w' ∧ (∀ b, S' b → Sd b ∨ w.heap.size ≤ b) ∧ w.heap.size ≤ g ∧ Lies d' k' s ∧ s.Ok ∧ d'.cap = d.cap ∧ d'.now.length = d.now.length + 2 ∧ d'.used = d.used + 40 ∧ ∀ m, m ≠ nmD s.num s.gen → m ≠ nmM s.num → m ≠ nmS s.num → view d' m = view d m

theorem make_plain {d d1 d2 : Dsk} {k num most ep : Nat} {X Y : List UInt8} (hX : X.length = 16) (hY : Y.length = 24) (hM : view d (nmM num) = none) (hS : view d (nmS num) = none)
    (h1 : Went d d1 (k + 6) (d.used + X.length) (d.now.length + 1) (fun m => if m = nmD num 1 then some X else view d m))
    (h2 : Went d1 d2 (k + 16) (d1.used + 24 - olen (view d1 (nmM num))) (d1.now.length + 1 - if (view d1 (nmM num)).isSome then 1 else 0) (fun m => if m = nmM num then some Y else view d1 m)) :
    Lies d2 (k + 16) (vst0 num most ep) ∧ d2.cap = d.cap ∧ d2.now.length = d.now.length + 2 ∧ d2.used = d.used + 40 ∧ ∀ m, m ≠ nmD num 1 → m ≠ nmM num → m ≠ nmS num → view d2 m = view d m := by
  have hv1 : view d1 (nmM num) = none := by rw [h1.view, if_neg (nmD_nmM _ _ _), hM]
  refine ⟨⟨h2.fs, ⟨X, hX, ?_⟩, ⟨Y, ?_, hY⟩, ?_⟩, h2.cap.trans h1.cap, ?_, ?_, fun m a b _ => by rw [h2.view, if_neg b, h1.view, if_neg a]⟩
  · show view d2 (nmD num 1) = some (X ++ [])
    rw [h2.view, if_neg (fun e => nmD_nmM _ _ _ e.symm), h1.view, if_pos rfl, List.append_nil]
  · show view d2 (nmM num) = some Y
    rw [h2.view, if_pos rfl]
  · show view d2 (nmS num) = none
    rw [h2.view, if_neg (nmM_nmS _ _), h1.view, if_neg (nmD_nmS _ _ _), hS]
  · rw [h2.len, h1.len, hv1]
    simp
  · rw [h2.used, h1.used, hv1, hX]
    simp only [olen]
    omega

set_option maxRecDepth 100000 in
set_option maxHeartbeats 1000000 in
theorem make_v (num most ep p k : Nat) (Sd : Nat → Prop) (d : Dsk) (w : World) (h : Dk w p Sd d k) (hk : k + 16 ≤ 90000) (hf : Fs d k) (n1 : 1 ≤ num) (n9 : num < 10) (hm : 16 ≤ most) (hm2 : most ≤ 16777216) (he : ep ≤ 2147483647)
    (hD : view d (nmD num 1) = none) (hM : view d (nmM num) = none) (hS : view d (nmS num) = none) (hc : d.now.length < 60) (hu : d.used + 40 ≤ d.cap) :
    Calls Tryz.prog 15 #[.pointer (some ⟨p, 0, none⟩), .int .i64 (num : Int), .int .i64 (most : Int), .int .i64 (ep : Int)] w fun e w' =>
      ∃ g, e = .returned (.tuple #[.pointer (some ⟨g, 0, none⟩), .nilIface]) ∧ Made w w' g p Sd d (k + 16) (vst0 num most ep) := by
  have HH := Lib.hid h
  have HF := Lib.hid hf
  have HDD := Lib.hid hD
  have HM := Lib.hid hM
  have HS := Lib.hid hS
  have HC := Lib.hid hc
  have HU := Lib.hid hu
  have hde : decide (0 ≤ (ep : Int) ∧ (ep : Int) ≤ 2147483647) = true := decide_eq_true (by omega)
  clear h hf hD hM hS hc hu
  go_enter Tryz.func15, Tryz.ntmps15
  go_wp2_with fail
  refine (can_yes num most _ n1 n9 hm hm2).mono ?_
  rintro e w1 ⟨rfl, rfl⟩
  go_wp2_with fail
  refine (epochCan_any (ep : Int) _).mono ?_
  rintro e w1 ⟨rfl, rfl⟩
  rw [hde]
  go_wp2_with fail
  refine (names_h num 1 _ n9 (by omega)).mono ?_
  rintro e w2 ⟨rfl, rfl⟩
  go_wp2_with fail
  refine (named_d w p k Sd d (nmM num) HH.out).mono ?_
  rintro e w3 ⟨rfl, hb3⟩
  rw [HM.out, Option.isSome_none]
  have HB3 := Lib.hid hb3
  clear hb3
  go_wp2_with fail
  refine (putSuper_ok num 1 _ n1 n9 (by omega) (by omega)).mono ?_
  rintro e w4 ⟨q, cap, rfl, ⟨X, hX, hown⟩, hb4⟩
  have HB4 := Lib.hid (HB3.out.trans (hb4.mono HB3.out.size))
  have HI4 := Lib.hid (IsB.own hown hX.symm)
  have hfresh : ∀ b, liesB (.slice (some ⟨q, 0, none⟩) 16 cap) X b → ¬ Sd b := fun b hb hs => by
    have h1 := (hown.lt b hb.2).1
    have h2 := HH.out.lt b hs
    have h3 := HB3.out.size
    omega
  have HFR := Lib.hid hfresh
  have HD4 := Lib.hid (HH.out.below HB4.out (Nat.le_refl _))
  clear hown hb4 hfresh
  go_wp2_with fail
  refine (create_d w4 p k Sd d (nmD num 1) _ X HD4.out (by omega) HF.out (isNm_D n9 (by omega)) HDD.out (by have := HC.out; omega) HI4.out HFR.out (by omega) (by have := HU.out; omega)).mono ?_
  rintro e w5 ⟨rfl, d1, ht5, hw5⟩
  obtain ⟨S5, hd5, hk5, hs5⟩ := Dt.pre HB4.out ht5
  have HD5 := Lib.hid hd5
  have HK5 := Lib.hid hk5
  have HS5 := Lib.hid hs5
  have HW5 := Lib.hid hw5
  clear ht5 hd5 hk5 hs5 hw5
  go_wp2_with fail
  have hal5 := below_alloc w5 (.cells #[.int .i64 (num : Int), .int .i64 1, .int .i64 (ep : Int), .bool false] 100)
  have HZ5 := Lib.hid (Blk.new w5 #[.int .i64 (num : Int), .int .i64 1, .int .i64 (ep : Int), .bool false] 100)
  have hv1S : view d1 (nmS num) = none := by rw [HW5.out.view, if_neg (nmD_nmS _ _ _), HS.out]
  refine (lay_d _ p (k + 6) S5 d1 num 1 ep false (HD5.out.below hal5 (Nat.le_refl _)) (by omega) HW5.out.fs n1 n9 (by omega) (by omega) he hv1S (by rw [HW5.out.len]; have := HC.out; omega) (by rw [HW5.out.used, HW5.out.cap, hX]; have := HU.out; omega)).mono ?_
  rintro e w6 ⟨rfl, d2, Y, hY, ht6, hw6⟩
  have HP := Lib.hid (make_plain (most := most) (ep := ep) hX hY HM.out HS.out HW5.out hw6)
  have hb5 : Kept Sd w (w5.alloc (.cells #[.int .i64 (num : Int), .int .i64 1, .int .i64 (ep : Int), .bool false] 100)) := HK5.out.alloc _
  obtain ⟨S6, hd6, hk6, hs6⟩ := ht6
  have h5w : w.heap.size ≤ w5.heap.size := HK5.out.size
  have hz6 := HZ5.out.kept hk6 (fun hs => by have := HD5.out.lt _ hs; omega)
  have HK6 := Lib.hid (hb5.trans hk6 (fun j hj hlt => by
    rcases HS5.out j hj with h | h
    · exact h
    · omega))
  have HS6 := Lib.hid (show ∀ b, S6 b → Sd b ∨ w.heap.size ≤ b from fun b hb => by
    rcases hs6 b hb with h | h
    · exact HS5.out b h
    · exact .inr (Nat.le_trans (Nat.le_trans h5w hal5.size) h))
  have HD6 := Lib.hid hd6
  have K0 : w6.drew.cell? ⟨w5.heap.size, 0, none⟩ = some (.int .i64 (num : Int)) ∧ w6.drew.cell? ⟨w5.heap.size, 1, none⟩ = some (.int .i64 1) ∧ w6.drew.cell? ⟨w5.heap.size, 2, none⟩ = some (.int .i64 (ep : Int)) ∧ w6.drew.cell? ⟨w5.heap.size, 3, none⟩ = some (.bool false) := ⟨hz6.cell 0 rfl, hz6.cell 1 rfl, hz6.cell 2 rfl, hz6.cell 3 rfl⟩
  have hl56 : w5.heap.size < w6.heap.size := hz6.lt
  have hl6 : w.heap.size ≤ w6.heap.size := HK6.out.size
  clear hw6 hk6 hs6 hd6 hz6 hb5 HZ5 hv1S hal5
  go_upto_region 18 with fail
  go_region_held3 (fun wx => wx.cell? ⟨w5.heap.size, 0, none⟩ = some (.int .i64 (num : Int)) ∧ wx.cell? ⟨w5.heap.size, 1, none⟩ = some (.int .i64 1) ∧ wx.cell? ⟨w5.heap.size, 2, none⟩ = some (.int .i64 (ep : Int)) ∧ wx.cell? ⟨w5.heap.size, 3, none⟩ = some (.bool false)) (first | exact K0 | exact Ka | exact mk_keep (below_alloc _ _) (Nat.lt_of_lt_of_le hl56 hb7.size) Ka) (first | (go_at_call 30; refine (Q.new_any (.slice none 0 0) [] w6.drew (Q.IsP.nil _) (by decide)).mono ?_; rintro e w7 ⟨x, rfl, hown7, hb7⟩; have Ka := mk_keep hb7 hl56 K0))
  clear K0 Ka
  have h67 : w6.heap.size ≤ w7.heap.size := hb7.size
  obtain ⟨xv, hix, hge⟩ := hown7
  have hdk := (HD6.out.below (((Below.refl _ w6).drew).trans hb7) (Nat.le_refl _)).below (below_alloc w7 (.cells #[.pointer (some ⟨p, 0, none⟩), .int .i64 (num : Int), .int .i64 1, .int .i64 (ep : Int), .bool false, .int .i64 (most : Int), .int .i64 16, .pointer (some ⟨x, 0, none⟩)] 105)) (Nat.le_refl _)
  have hbx := Blk.new w7 (vcells p x (vst0 num most ep)) 105
  have hixa : Q.At (w7.alloc (.cells #[.pointer (some ⟨p, 0, none⟩), .int .i64 (num : Int), .int .i64 1, .int .i64 (ep : Int), .bool false, .int .i64 (most : Int), .int .i64 16, .pointer (some ⟨x, 0, none⟩)] 105)) x xv (vst0 num most ep).idx := hix.below (below_alloc w7 _) (Nat.le_refl _)
  have hgx : ¬ Q.own x xv w7.heap.size := fun h => by have := hix.lt _ h; omega
  have hgd : ¬ S6 w7.heap.size := fun h => by have := HD6.out.lt _ h; omega
  have hxd : ∀ b, Q.own x xv b → ¬ S6 b := fun b h1 h2 => by
    have := hge b h1
    have h3 := HD6.out.lt _ h2
    have h4 : w6.drew.heap.size = w6.heap.size := rfl
    omega
  have hok : (vst0 num most ep).Ok := ⟨n1, n9, Nat.le_refl 1, Nat.lt_of_sub_pos (Nat.succ_pos 8), he, hm2, hm, Nat.succ_pos 4095, fun n hn => by cases hn⟩
  have hM : Made w (w7.alloc (.cells #[.pointer (some ⟨p, 0, none⟩), .int .i64 (num : Int), .int .i64 1, .int .i64 (ep : Int), .bool false, .int .i64 (most : Int), .int .i64 16, .pointer (some ⟨x, 0, none⟩)] 105)) w7.heap.size p Sd d (k + 16) (vst0 num most ep) := by
    refine ⟨fun b => b = w7.heap.size ∨ Q.own x xv b ∨ S6 b, d2, ⟨x, xv, S6, ⟨hbx, hixa, hdk, hgx, hgd, hxd⟩, fun b => Iff.rfl⟩, ?_, fun b hb => ?_, ?_, HP.out.1, hok, HP.out.2.1, HP.out.2.2.1, HP.out.2.2.2.1, HP.out.2.2.2.2⟩
    · exact (HK6.out.trans (Kept.of_below (S := fun _ => False) (((Below.refl _ w6).drew).trans hb7) (Nat.le_refl _)) (fun _ h => h.elim)).alloc _
    · rcases hb with rfl | h | h
      · exact .inr (by omega)
      · have := hge b h
        have h4 : w6.drew.heap.size = w6.heap.size := rfl
        exact .inr (by omega)
      · exact HS6.out b h
    · omega
  have HMM := Lib.hid hM
  clear hM hok hxd hgd hgx hixa hbx hdk hix hge hb7
  go_wp2
  go_ret2
  exact ⟨_, rfl, HMM.out⟩

end Go.Proofs.YtcpoaofcfefgaaaGreatDoor
end

section
namespace Go.Proofs.YtcpoaofcfefgaaaGreatDoor.Q
open Go.RowKit Go.Cor

theorem psn_is {l : List Pos} (hs : Asc l) {i k : Nat} {e : Pos} (h : l[i]? = some e) (hk : e.key = k) : psn l k = i := by
  have hlt := (List.getElem?_eq_some_iff.1 h).1
  by_cases h1 : i < psn l k
  · have := psn_below h h1
    omega
  · by_cases h2 : psn l k < i
    · have he : l[psn l k]? = some (pat l (psn l k)) := get_pat (by omega)
      have h3 := psn_above hs he (Nat.le_refl _)
      have h4 := hs.lt he h h2
      omega
    · omega
theorem fnd_is {l : List Pos} {i k : Nat} {e : Pos} (hs : Asc l) (h : l[i]? = some e) (hk : e.key = k) : fnd l k = some e := (fnd_iff hs).2 ⟨List.mem_of_getElem? h, hk⟩
theorem fnd_no {l : List Pos} {k : Nat} (hs : Asc l) (h : ∀ i, i < l.length → (pat l i).key ≠ k) : fnd l k = none := by
  cases hf : fnd l k with
  | none => rfl
  | some q =>
    obtain ⟨hm, hk⟩ := (fnd_iff hs).1 hf
    obtain ⟨i, hi⟩ := List.getElem?_of_mem hm
    exact absurd (by rw [pat_of hi]; exact hk) (h i (List.getElem?_eq_some_iff.1 hi).1)
/-- Where a key stands, or below 0. -/
def fidx (l : List Pos) (k : Nat) : Int := if (fnd l k).isSome then (psn l k : Int) else -1

set_option maxHeartbeats 1000000 in
theorem rfind_any (v : Value) (l : List Pos) (k : Nat) (w : World) (hv : IsP w v l) (hs : Asc l) (hl : l.length ≤ 1048576) :
    Calls Tryz.prog 88 #[v, .int .u64 (k : Int)] w fun e w' => e = .returned (.int .i64 (fidx l k)) ∧ w = w' := by
  obtain ⟨N, hN⟩ : ∃ N, l.length = N := ⟨_, rfl⟩
  obtain ⟨r, hr⟩ : ∃ r, fidx l k = r := ⟨_, rfl⟩
  have hlen := fun W => len_P (P := Tryz.prog) hv hN 27 3 _ Tryz.underlying27 W
  have HV := Lib.hid hv
  rw [hN] at hl
  rw [hr]
  have HN := Lib.hid hN
  have HR := Lib.hid hr
  clear hv hN hr
  go_enter Tryz.func88, Tryz.ntmps88
  go_wp2
  go_loop [5] (fun c => ∃ i : Nat, i ≤ N ∧ c = .int .i64 i ∧ Hid (∀ j, j < i → (pat l j).key ≠ k)) (fun c => N - (intOf c).toNat)
  case atStart => exact ⟨0, Nat.zero_le _, rfl, Lib.hid (fun j hj => absurd hj (Nat.not_lt_zero j))⟩
  case round =>
    obtain ⟨i, hiN, rfl, HJ⟩ := hrel
    by_cases hlt : i < N
    · obtain ⟨p, hp⟩ : ∃ p, pat l i = p := ⟨_, rfl⟩
      obtain ⟨b, o, hidx, c0, c1, c2, c3, c4⟩ := indexAt_P HV.out 27 50 Tryz.underlying27 Tryz.sizePosR i (by rw [HN.out]; omega)
      rw [hp] at c0 c1 c2 c3 c4
      have hget : l[i]? = some p := by rw [← hp]; exact get_pat (by rw [HN.out]; exact hlt)
      by_cases hk : p.key = k
      · obtain rfl : r = (i : Int) := by
          rw [← HR.out]
          unfold fidx
          rw [fnd_is hs hget hk, psn_is hs hget hk]
          rfl
        have hb : ((p.key : Int) == (k : Int)) = true := by rw [beq_iff_eq]; omega
        clear hk hget hp
        go_wp2
        go_ret
        exact ⟨rfl, rfl⟩
      · have hb : ((p.key : Int) == (k : Int)) = false := by rw [beq_eq_false_iff_ne]; omega
        have HJ2 := Lib.hid (show ∀ j, j < i + 1 → (pat l j).key ≠ k from fun j hj => by
          by_cases h : j < i
          · exact HJ.out j h
          · obtain rfl : j = i := by omega
            rw [hp]
            exact hk)
        clear hk hget hp
        go_wp2
        go_round
        case rel => exact ⟨i + 1, by omega, by go_num, HJ2⟩
        case measure => simp [intOf]; omega
    · obtain rfl : i = N := by omega
      obtain rfl : r = -1 := by
        rw [← HR.out]
        unfold fidx
        rw [fnd_no hs (fun j hj => HJ.out j (by rw [← HN.out]; exact hj))]
        rfl
      go_wp2
      go_ret
      exact ⟨rfl, rfl⟩

/-- A put, in two parts. -/
def thereN (l : List Pos) (k : Nat) : Nat := if (fnd l k).isSome then 1 else 0
theorem put_parts (l : List Pos) (p : Pos) : put l p = l.take (psn l p.key) ++ p :: l.drop (psn l p.key + thereN l p.key) := by
  unfold thereN
  cases h : fnd l p.key with
  | none => rw [put_new h]; rfl
  | some q =>
    have hlt := (List.getElem?_eq_some_iff.1 (fnd_at h).1).1
    rw [put_there h, List.set_eq_take_append_cons_drop, if_pos hlt]
    rfl

set_option maxRecDepth 100000 in
set_option maxHeartbeats 2000000 in
theorem rput_any (v : Value) (l : List Pos) (p : Pos) (w : World) (hv : IsP w v l) (hs : Asc l) (hl : l.length < 4096) :
    Calls Tryz.prog 89 #[v, pval p] w fun e w' =>
      ∃ v', e = .returned (.tuple #[v', .bool true]) ∧ w'.ownsRow w.heap.size 50 5 v' (put l p).length (row pcells (put l p)) ∧ Below w.heap.size w w' := by
  obtain ⟨i0, hi, hz0, hz1, hz2⟩ := info_parts Tryz.infoPosR
  obtain ⟨N, hN⟩ : ∃ N, l.length = N := ⟨_, rfl⟩
  obtain ⟨J, hJ⟩ : ∃ J, psn l p.key = J := ⟨_, rfl⟩
  obtain ⟨T, hT⟩ : ∃ T, thereN l p.key = T := ⟨_, rfl⟩
  have hJN := psn_le l p.key
  have hlen := fun W => len_P (P := Tryz.prog) hv hN 27 3 _ Tryz.underlying27 W
  have HV := Lib.hid hv
  have HP := Lib.hid (put_parts l p)
  rw [hN] at hl hJN
  rw [hJ] at hJN
  have hl' : ¬ ((4096 : Int) ≤ (N : Int)) := by omega
  have HN := Lib.hid hN
  have HJ := Lib.hid hJ
  have HT := Lib.hid hT
  have hb1 := (Below.refl w.heap.size w).alloc (Nat.le_refl _) (.cells #[.int .u64 (p.key : Int), .int .i64 p.off, .int .i64 p.len, .int .u32 (p.cookie : Int), .bool p.gone] 50)
  have hq := Blk.new w #[.int .u64 (p.key : Int), .int .i64 p.off, .int .i64 p.len, .int .u32 (p.cookie : Int), .bool p.gone] 50
  clear hv hN hJ hT
  go_enter Tryz.func89, Tryz.ntmps89
  go_wp2_with fail
  refine (rfind_any v l p.key _ (HV.out.mono hb1 (Nat.le_refl _)) hs (by rw [HN.out]; omega)).mono ?_
  rintro e w1 ⟨rfl, rfl⟩
  obtain ⟨w1, hw1⟩ : ∃ w1, w.alloc (.cells #[.int .u64 (p.key : Int), .int .i64 p.off, .int .i64 p.len, .int .u32 (p.cookie : Int), .bool p.gone] 50) = w1 := ⟨_, rfl⟩
  obtain ⟨B1, hBB⟩ : ∃ B1, w1.heap.size = B1 := ⟨_, rfl⟩
  have HS1 := Lib.hid (show B1 = w.heap.size + 1 from by rw [← hBB, ← hw1]; simp)
  have HSB := Lib.hid hBB
  have HSL := Lib.hid (show w.heap.size ≤ B1 from by rw [HS1.out]; exact Nat.le_succ _)
  rw [hw1] at hb1 hq ⊢
  have HB1 := Lib.hid hb1
  have HQ := Lib.hid hq
  clear hb1 hq hw1 hBB
  obtain ⟨F, hF⟩ : ∃ F, fidx l p.key = F := ⟨_, rfl⟩
  rw [hF]
  clear hF
  by_cases hF : F < 0
  all_goals
    go_wp2
    go_loopw [6, 7] (fun o k wr => ∃ i : Nat, i ≤ J ∧ k = .int .i64 i ∧ Hid (wr.ownsRow B1 50 5 o i (row pcells (l.take i))) ∧ Hid (Below B1 w1 wr)) (fun _ k _ => N - (intOf k).toNat)
    case atStart => exact ⟨0, Nat.zero_le _, rfl, Lib.hid (World.ownsRow_nil _ _ _ _), Lib.hid (Below.refl _ _)⟩
    case round =>
      obtain ⟨i, hiJ, rfl, HO, HB⟩ := hrel
      obtain ⟨q0, q1, q2, q3, q4, _⟩ := blk5_facts (HQ.out.below HB.out (by rw [HS1.out]; exact Nat.lt_succ_self _))
      by_cases hlt : i < J
      · obtain ⟨e, he⟩ : ∃ e, pat l i = e := ⟨_, rfl⟩
        obtain ⟨b, o, hidx, c0, c1, c2, c3, c4⟩ := indexAt_P ((HV.out.mono HB1.out (Nat.le_refl _)).mono HB.out (by rw [HSB.out]; exact Nat.le_refl _)) 27 50 Tryz.underlying27 Tryz.sizePosR i (by rw [HN.out]; omega)
        rw [he] at c0 c1 c2 c3 c4
        have hk : decide (e.key < p.key) = true := decide_eq_true (by
          have := psn_below (k := p.key) (get_pat (ps := l) (i := i) (by rw [HN.out]; omega)) (by rw [HJ.out]; exact hlt)
          rw [he] at this
          omega)
        have hiN : decide (i < N) = true := decide_eq_true (by omega)
        have HPT := Lib.hid (show row pcells (l.take (i + 1)) = row pcells (l.take i) ++ pcells e from by rw [take_snoc (by rw [HN.out]; omega), row_append, row_one, he])
        obtain ⟨X, hX⟩ : ∃ X, X = row pcells (l.take i) := ⟨_, rfl⟩
        rw [← hX] at HO HPT
        clear hX he
        go_wp2
        go_quiet (fail)
        have HO5 := Lib.hid (show (wr.drewN nq).ownsRow B1 50 5 u6 i X from HO.out)
        have HB5 := Lib.hid (show Below B1 w1 (wr.drewN nq) from ⟨HB.out.os, HB.out.tape, HB.out.output, HB.out.size, HB.out.block⟩)
        have HZ5 := Lib.hid (show B1 ≤ (wr.drewN nq).heap.size from by rw [← HSB.out]; exact HB5.out.size)
        clear HO HB
        go_wp2_with (at_builtin; refine wpList_append_own _ rfl _ _ 27 rfl B1 50 i0 _ 5 32 Tryz.underlying27 hi hz0 hz1 hz2 rfl (by decide) _ _ _ rfl (HO5.out.alloc _) ⟨wr.heap.size, 0, none⟩ 1 1 (pcells e) rfl rfl ?c1 ?c2 ?c3 ?c4 ?c5 ?_)
        case c1 => exact cell_five_new _ e _
        case c2 => exact pcells_one e
        case c3 => unfold maxLen; omega
        case c4 => omega
        case c5 => exact Nat.le_trans HZ5.out (by simp)
        intro v5 w5 hown5 hgrow5 _
        have HB6 := Lib.hid ((HB5.out.alloc HZ5.out _).grown hgrow5 (Nat.le_trans HZ5.out (by simp)) (fun j hj => (HO5.out.lt j hj).1))
        have HO6 := Lib.hid (show w5.ownsRow B1 50 5 v5 (i + 1) (row pcells (l.take (i + 1))) from by rw [HPT.out]; exact hown5)
        clear hown5 hgrow5 q0 q1 q2 q3 q4 c0 c1 c2 c3 c4 hidx HO5 HB5
        go_wp2
        go_roundw
        case rel => exact ⟨i + 1, by omega, by go_num, HO6, HB6⟩
        case measure => simp [intOf]; omega
      · obtain rfl : i = J := by omega
        by_cases hJN2 : i < N
        · obtain ⟨e, he⟩ : ∃ e, pat l i = e := ⟨_, rfl⟩
          obtain ⟨b, o, hidx, c0, c1, c2, c3, c4⟩ := indexAt_P ((HV.out.mono HB1.out (Nat.le_refl _)).mono HB.out (by rw [HSB.out]; exact Nat.le_refl _)) 27 50 Tryz.underlying27 Tryz.sizePosR i (by rw [HN.out]; omega)
          rw [he] at c0 c1 c2 c3 c4
          have hk : decide (e.key < p.key) = false := decide_eq_false (by
            have := psn_above (k := p.key) hs (get_pat (ps := l) (i := i) (by rw [HN.out]; omega)) (by rw [HJ.out]; exact Nat.le_refl _)
            rw [he] at this
            omega)
          have hiN : decide (i < N) = true := decide_eq_true (by omega)
          clear he
          go_wp2
          go_quiet (fail)
          clear hidx c0 c1 c2 c3 c4 hk hiN
          have HO5 := Lib.hid (show (wr.drewN nq).ownsRow B1 50 5 u6 i (row pcells (l.take i)) from HO.out)
          have HB5 := Lib.hid (show Below B1 w1 (wr.drewN nq) from ⟨HB.out.os, HB.out.tape, HB.out.output, HB.out.size, HB.out.block⟩)
          have HZ5 := Lib.hid (show B1 ≤ (wr.drewN nq).heap.size from by rw [← HSB.out]; exact HB5.out.size)
          clear HO HB
          obtain ⟨X, hX⟩ : ∃ X, X = row pcells (l.take i) := ⟨_, rfl⟩
          rw [← hX] at HO5
          have HX := Lib.hid hX
          clear hX
          go_wp2_with (at_builtin; refine wpList_append_own _ rfl _ _ 27 rfl B1 50 i0 _ 5 32 Tryz.underlying27 hi hz0 hz1 hz2 rfl (by decide) _ _ _ rfl (HO5.out.alloc _) ⟨wr.heap.size, 0, none⟩ 1 1 (pcells p) rfl rfl ?c1 ?c2 ?c3 ?c4 ?c5 ?_)
          case c1 => exact cell_five_new _ p _
          case c2 => exact pcells_one p
          case c3 => unfold maxLen; omega
          case c4 => omega
          case c5 => exact Nat.le_trans HZ5.out (by simp)
          intro v5 w5 hown5 hgrow5 _
          have HB6 := Lib.hid ((HB5.out.alloc HZ5.out _).grown hgrow5 (Nat.le_trans HZ5.out (by simp)) (fun j hj => (HO5.out.lt j hj).1))
          have HO6 := Lib.hid (show w5.ownsRow B1 50 5 v5 (i + 1) (row pcells (l.take i ++ [p] ++ (l.take i).drop (i + T))) from by
            rw [List.drop_of_length_le (by rw [List.length_take]; omega), List.append_nil, row_append, row_one, ← HX.out]
            exact hown5)
          clear hown5 hgrow5 HO5 HB5 q0 q1 q2 q3 q4
          go_wp2
          go_loopw [6, 7] (fun o k wr => ∃ m : Nat, i ≤ m ∧ m ≤ N ∧ k = .int .i64 m ∧ Hid (wr.ownsRow B1 50 5 o (i + 1 + (m - (i + T))) (row pcells (l.take i ++ [p] ++ (l.take m).drop (i + T)))) ∧ Hid (Below B1 w1 wr)) (fun _ k _ => N - (intOf k).toNat)
          case atStart => exact ⟨i, Nat.le_refl _, hJN, rfl, by rw [show i - (i + T) = 0 from by omega]; exact HO6, HB6⟩
          case round =>
            clear HO6 HB6
            obtain ⟨m, him, hmN, rfl, HO, HB⟩ := hrel
            obtain ⟨q0, q1, q2, q3, q4, _⟩ := blk5_facts (HQ.out.below HB.out (by rw [HS1.out]; exact Nat.lt_succ_self _))
            by_cases hlt : m < N
            · obtain ⟨e, he⟩ : ∃ e, pat l m = e := ⟨_, rfl⟩
              obtain ⟨b, o, hidx, c0, c1, c2, c3, c4⟩ := indexAt_P ((HV.out.mono HB1.out (Nat.le_refl _)).mono HB.out (by rw [HSB.out]; exact Nat.le_refl _)) 27 50 Tryz.underlying27 Tryz.sizePosR m (by rw [HN.out]; omega)
              rw [he] at c0 c1 c2 c3 c4
              have hget : l[m]? = some e := by rw [← he]; exact get_pat (by rw [HN.out]; exact hlt)
              by_cases hk : e.key = p.key
              · have hmi : m = i := (psn_is hs hget hk).symm.trans HJ.out
                have hT1 : T = 1 := by
                  rw [← HT.out]
                  unfold thereN
                  rw [fnd_is hs hget hk]
                  rfl
                have hb : ((e.key : Int) != (p.key : Int)) = false := by rw [bne_eq_false_iff_eq]; omega
                have HO6 := Lib.hid (show wr.ownsRow B1 50 5 u6 (i + 1 + (m + 1 - (i + T))) (row pcells (l.take i ++ [p] ++ (l.take (m + 1)).drop (i + T))) from by
                  have h9 := HO.out
                  rw [List.drop_of_length_le (by rw [List.length_take]; omega)] at h9 ⊢
                  rw [show i + 1 + (m + 1 - (i + T)) = i + 1 + (m - (i + T)) from by omega]
                  exact h9)
                have HB6 := HB
                clear hk hget he HO hmi hT1
                go_wp2
                go_quiet (fail)
                have HO7 := Lib.hid (show (wr.drewN nq).ownsRow B1 50 5 u6 (i + 1 + (m + 1 - (i + T))) (row pcells (l.take i ++ [p] ++ (l.take (m + 1)).drop (i + T))) from HO6.out)
                have HB7 := Lib.hid (show Below B1 w1 (wr.drewN nq) from ⟨HB6.out.os, HB6.out.tape, HB6.out.output, HB6.out.size, HB6.out.block⟩)
                clear HO6 HB6
                go_wp2
                go_roundw
                case rel => exact ⟨m + 1, by omega, by omega, by go_num, HO7, HB7⟩
                case measure => simp [intOf]; omega
              · have hmT : i + T ≤ m := by
                  have h8 := HT.out
                  unfold thereN at h8
                  cases hf : fnd l p.key with
                  | none =>
                    rw [hf] at h8
                    have h9 : T = 0 := h8.symm
                    omega
                  | some q =>
                    rw [hf] at h8
                    have h9 : T = 1 := h8.symm
                    have h7 := fnd_at hf
                    rw [HJ.out] at h7
                    by_cases hmi : m = i
                    · rw [← hmi, hget] at h7
                      exact absurd (by rw [Option.some.inj h7.1]; exact h7.2) hk
                    · omega
                have hb : ((e.key : Int) != (p.key : Int)) = true := by rw [bne_iff_ne]; omega
                have HPT := Lib.hid (show row pcells (l.take i ++ [p] ++ (l.take (m + 1)).drop (i + T)) = row pcells (l.take i ++ [p] ++ (l.take m).drop (i + T)) ++ pcells e from by
                  rw [take_snoc (by rw [HN.out]; omega), List.drop_append_of_le_length (by rw [List.length_take, HN.out]; omega), ← List.append_assoc, row_append, row_one, he])
                obtain ⟨Y, hY⟩ : ∃ Y, Y = row pcells (l.take i ++ [p] ++ (l.take m).drop (i + T)) := ⟨_, rfl⟩
                rw [← hY] at HO HPT
                obtain ⟨n5, hn5⟩ : ∃ n5, i + 1 + (m - (i + T)) = n5 := ⟨_, rfl⟩
                have HN5 := Lib.hid (show i + 1 + (m + 1 - (i + T)) = n5 + 1 from by omega)
                have hn5l : n5 ≤ 8192 := by omega
                rw [hn5] at HO
                clear hk hget he hmT hY hn5
                go_wp2
                go_quiet (fail)
                have HO5 := Lib.hid (show (wr.drewN nq).ownsRow B1 50 5 u6 n5 Y from HO.out)
                have HB5 := Lib.hid (show Below B1 w1 (wr.drewN nq) from ⟨HB.out.os, HB.out.tape, HB.out.output, HB.out.size, HB.out.block⟩)
                have HZ5 := Lib.hid (show B1 ≤ (wr.drewN nq).heap.size from by rw [← HSB.out]; exact HB5.out.size)
                clear HO HB
                go_wp2_with (at_builtin; refine wpList_append_own _ rfl _ _ 27 rfl B1 50 i0 _ 5 32 Tryz.underlying27 hi hz0 hz1 hz2 rfl (by decide) _ _ _ rfl (HO5.out.alloc _) ⟨wr.heap.size, 0, none⟩ 1 1 (pcells e) rfl rfl ?c1 ?c2 ?c3 ?c4 ?c5 ?_)
                case c1 => exact cell_five_new _ e _
                case c2 => exact pcells_one e
                case c3 => unfold maxLen; omega
                case c4 => omega
                case c5 => exact Nat.le_trans HZ5.out (by simp)
                intro v5 w5 hown5 hgrow5 _
                have HB6 := Lib.hid ((HB5.out.alloc HZ5.out _).grown hgrow5 (Nat.le_trans HZ5.out (by simp)) (fun j hj => (HO5.out.lt j hj).1))
                have HO6 := Lib.hid (show w5.ownsRow B1 50 5 v5 (i + 1 + (m + 1 - (i + T))) (row pcells (l.take i ++ [p] ++ (l.take (m + 1)).drop (i + T))) from by rw [HPT.out, HN5.out]; exact hown5)
                clear hown5 hgrow5 q0 q1 q2 q3 q4 c0 c1 c2 c3 c4 hidx HO5 HB5
                go_wp2
                go_roundw
                case rel =>
                  exact ⟨m + 1, by omega, by omega, by go_num, HO6, HB6⟩
                case measure => simp [intOf]; omega
            · obtain rfl : m = N := by omega
              have HO6 := Lib.hid (show wr.ownsRow w.heap.size 50 5 u6 (put l p).length (row pcells (put l p)) from by
                have h9 := HO.out
                rw [List.take_of_length_le (l := l) (i := m) (by rw [HN.out]; exact Nat.le_refl _), List.append_assoc] at h9
                have h8 := HP.out
                rw [HJ.out, HT.out] at h8
                have h7 : (put l p).length = i + 1 + (m - (i + T)) := by
                  rw [h8]
                  have h6 := HN.out
                  simp only [List.length_append, List.length_take, List.length_cons, List.length_drop, h6]
                  omega
                rw [h7, h8]
                exact ownsRow_base h9 HSL.out)
              have HB6 := Lib.hid (HB1.out.trans (HB.out.mono HSL.out))
              clear HO HB
              go_wp2
              go_ret2
              exact ⟨_, rfl, HO6.out, HB6.out⟩
        · have hiN : decide (i < N) = false := decide_eq_false hJN2
          go_wp2
          go_quiet (fail)
          clear hiN
          have HO5 := Lib.hid (show (wr.drewN nq).ownsRow B1 50 5 u6 i (row pcells (l.take i)) from HO.out)
          have HB5 := Lib.hid (show Below B1 w1 (wr.drewN nq) from ⟨HB.out.os, HB.out.tape, HB.out.output, HB.out.size, HB.out.block⟩)
          have HZ5 := Lib.hid (show B1 ≤ (wr.drewN nq).heap.size from by rw [← HSB.out]; exact HB5.out.size)
          clear HO HB
          obtain ⟨X, hX⟩ : ∃ X, X = row pcells (l.take i) := ⟨_, rfl⟩
          rw [← hX] at HO5
          have HX := Lib.hid hX
          clear hX
          go_wp2_with (at_builtin; refine wpList_append_own _ rfl _ _ 27 rfl B1 50 i0 _ 5 32 Tryz.underlying27 hi hz0 hz1 hz2 rfl (by decide) _ _ _ rfl (HO5.out.alloc _) ⟨wr.heap.size, 0, none⟩ 1 1 (pcells p) rfl rfl ?c1 ?c2 ?c3 ?c4 ?c5 ?_)
          case c1 => exact cell_five_new _ p _
          case c2 => exact pcells_one p
          case c3 => unfold maxLen; omega
          case c4 => omega
          case c5 => exact Nat.le_trans HZ5.out (by simp)
          intro v5 w5 hown5 hgrow5 _
          have HB6 := Lib.hid ((HB5.out.alloc HZ5.out _).grown hgrow5 (Nat.le_trans HZ5.out (by simp)) (fun j hj => (HO5.out.lt j hj).1))
          have HO6 := Lib.hid (show w5.ownsRow B1 50 5 v5 (i + 1) (row pcells (l.take i ++ [p] ++ (l.take i).drop (i + T))) from by
            rw [List.drop_of_length_le (by rw [List.length_take]; omega), List.append_nil, row_append, row_one, ← HX.out]
            exact hown5)
          clear hown5 hgrow5 HO5 HB5 q0 q1 q2 q3 q4
          go_wp2
          go_loopw [6, 7] (fun o k wr => ∃ m : Nat, i ≤ m ∧ m ≤ N ∧ k = .int .i64 m ∧ Hid (wr.ownsRow B1 50 5 o (i + 1 + (m - (i + T))) (row pcells (l.take i ++ [p] ++ (l.take m).drop (i + T)))) ∧ Hid (Below B1 w1 wr)) (fun _ k _ => N - (intOf k).toNat)
          case atStart => exact ⟨i, Nat.le_refl _, hJN, rfl, by rw [show i - (i + T) = 0 from by omega]; exact HO6, HB6⟩
          case round =>
            clear HO6 HB6
            obtain ⟨m, him, hmN, rfl, HO, HB⟩ := hrel
            obtain ⟨q0, q1, q2, q3, q4, _⟩ := blk5_facts (HQ.out.below HB.out (by rw [HS1.out]; exact Nat.lt_succ_self _))
            by_cases hlt : m < N
            · exact absurd hlt (by omega)
            · obtain rfl : m = N := by omega
              have HO6 := Lib.hid (show wr.ownsRow w.heap.size 50 5 u6 (put l p).length (row pcells (put l p)) from by
                have h9 := HO.out
                rw [List.take_of_length_le (l := l) (i := m) (by rw [HN.out]; exact Nat.le_refl _), List.append_assoc] at h9
                have h8 := HP.out
                rw [HJ.out, HT.out] at h8
                have h7 : (put l p).length = i + 1 + (m - (i + T)) := by
                  rw [h8]
                  have h6 := HN.out
                  simp only [List.length_append, List.length_take, List.length_cons, List.length_drop, h6]
                  omega
                rw [h7, h8]
                exact ownsRow_base h9 HSL.out)
              have HB6 := Lib.hid (HB1.out.trans (HB.out.mono HSL.out))
              clear HO HB
              go_wp2
              go_ret2
              exact ⟨_, rfl, HO6.out, HB6.out⟩

end Go.Proofs.YtcpoaofcfefgaaaGreatDoor.Q
end

section
namespace Go.Proofs.YtcpoaofcfefgaaaGreatDoor.Nd
open Go.RowKit Go.Cor

theorem refcheck_any (n : Ndl) (v : Value) (w : World) (hv : IsB w v n.data) :
    Calls Tryz.prog 58 #[nval n v] w fun e w' => e = .returned (.int .i64 (ncheck n : Nat)) ∧ Below w.heap.size w w' := by
  obtain ⟨k, c, g, l⟩ := n
  obtain ⟨d, hd⟩ : ∃ d : Nat, l.length = d := ⟨_, rfl⟩
  obtain ⟨x, cap, rfl, hlc, hcm⟩ := hv.at_len hd
  unfold maxLen at hcm
  have HR : Hid (ncheck ⟨k, c, g, l⟩ = if 4096 < d then 2 else if g = true ∧ 0 < d then 1 else 0) := by
    show ncheck ⟨k, c, g, l⟩ = _
    unfold ncheck
    rw [hd]
  clear hv hd
  by_cases h1 : 4096 < d
  · go_enter Tryz.func58, Tryz.ntmps58
    go_wp2
    go_ret
    exact ⟨by rw [HR.out, if_pos h1]; rfl, (Below.refl _ _).alloc (Nat.le_refl _) _⟩
  · cases g with
    | false =>
      go_enter Tryz.func58, Tryz.ntmps58
      go_wp2
      go_ret
      exact ⟨by rw [HR.out, if_neg h1]; rfl, (Below.refl _ _).alloc (Nat.le_refl _) _⟩
    | true =>
      by_cases h2 : 0 < d
      · go_enter Tryz.func58, Tryz.ntmps58
        go_wp2
        go_ret
        exact ⟨by rw [HR.out, if_neg h1, if_pos ⟨trivial, h2⟩]; rfl, (Below.refl _ _).alloc (Nat.le_refl _) _⟩
      · go_enter Tryz.func58, Tryz.ntmps58
        go_wp2
        go_ret
        exact ⟨by rw [HR.out, if_neg h1, if_neg (fun h => h2 h.2)]; rfl, (Below.refl _ _).alloc (Nat.le_refl _) _⟩

end Go.Proofs.YtcpoaofcfefgaaaGreatDoor.Nd
end
