/- Package corncriblaw15: NetCounts. -/
import Derived.Test.YtofhbnnheadmlaaNa
import Derived.Test.YtofhbnnheadmlaaActN
import Derived.Test.YtofhbnnheadmlaaOrdE
import Derived.Deep.CutRange
set_option linter.unusedVariables false
set_option linter.unusedSimpArgs false
namespace Go.Proofs.Ytofhbnnheadmlaa
open Go.RowKit Go.Cor

theorem Hd.turned {a w w' : World} {g : Nat} {S T : Nat → Prop} {n : NetP} {K : Nat} (h : Hd a w g S n K) (hk : Kept T w w') (hT : ∀ k, S k → ¬ T k) (hTa : ∀ k, T k → a.heap.size ≤ k) : Hd a w' g S n K :=
  ⟨h.nt.kept hk hT, hk.below_trans h.bel h.bel.size (fun k hk1 e => by have := hTa k e; omega)⟩
theorem NtT.kpt {w w' : World} {B g : Nat} {S : Nat → Prop} {n : NetP} {K : Nat} (h : NtT w B g S n K w') : Kept S w w' := by
  obtain ⟨S', _, _, hk⟩ := h
  exact hk
theorem Hd.more {a w : World} {g : Nat} {S : Nat → Prop} {n : NetP} {K K' : Nat} (h : Hd a w g S n K) (hK : K ≤ K') : Hd a w g S n K' := ⟨h.nt.mono hK, h.bel⟩
theorem IsX.litAt15 (w : World) (cs : Array Value) (T : TypeId) (size n b : Nat) (hb : w.heap.size = b) (hs : cs.size = n * size) (hm : n ≤ maxLen) : IsX (w.alloc (.cells cs T)) size (.slice (some ⟨b, 0, none⟩) n n) n cs.toList := by
  subst hb
  exact IsX.lit w cs T size n hs hm
def idc (x : Nat) : List Value := [.int .u64 (x : Int)]
theorem idc_len (x : Nat) : (idc x).length = 1 := rfl
theorem idc_one (l : List Nat) : ∀ u ∈ row idc l, u.oneCell' = true := row_mem fun x _ u hu => by
  simp only [idc, List.mem_cons, List.not_mem_nil, or_false] at hu
  subst hu
  rfl
theorem Try.infoU64 : (Try.prog.info? 24).map (fun i => (i.zero, i.size, i.bytes)) = some (some (.int .u64 0), 1, 8) := by kernel_rfl
theorem Try.sizeU64 : (Try.prog.info? 24).map (·.size) = some 1 := by kernel_rfl
/-- All packets' numbers are among those that were sent. -/
def Sent (n : NetP) (ids : List Nat) : Prop := ∀ m ∈ n.l, m.id ∈ ids
theorem sendN_ok {n : NetP} {m : Msg} (h : sendK n m = 0) : sendN n m = { n with l := n.l ++ [m] } := by unfold sendN; rw [if_pos h]
theorem sendN_no {n : NetP} {m : Msg} (h : sendK n m ≠ 0) : sendN n m = n := by unfold sendN; rw [if_neg h]
theorem sendK_le (n : NetP) (m : Msg) : sendK n m ≤ 17 := by
  have := mcheck_le m
  unfold sendK
  split
  · split <;> omega
  · omega
theorem takeK_le (n : NetP) (i : Int) : takeK n i ≤ 17 := by
  rw [takeK_peek]
  split
  · split <;> omega
  · omega
theorem peekK_le (n : NetP) (i : Int) : peekK n i ≤ 17 := by unfold peekK; split <;> omega
theorem twiceK_le (n : NetP) (i : Int) : twiceK n i ≤ 17 := by
  unfold twiceK
  split
  · split <;> omega
  · omega
theorem cutK_le (a b : Int) : cutK a b ≤ 17 := by unfold cutK; split <;> omega
theorem takeN_no {n : NetP} {i : Int} (h : takeK n i ≠ 0) : takeN n i = n := by unfold takeN; rw [if_neg h]
theorem takeN_ok {n : NetP} {i : Int} (h : takeK n i = 0) : takeN n i = { n with l := n.l.eraseIdx i.toNat } := by unfold takeN; rw [if_pos h]
theorem loseN_no {n : NetP} {i : Int} (h : peekK n i ≠ 0) : loseN n i = n := by unfold loseN; rw [if_neg h]
theorem loseN_ok {n : NetP} {i : Int} (h : peekK n i = 0) : loseN n i = { n with l := n.l.eraseIdx i.toNat } := by unfold loseN; rw [if_pos h]
theorem twiceN_no {n : NetP} {i : Int} (h : twiceK n i ≠ 0) : twiceN n i = n := by unfold twiceN; rw [if_neg h]
theorem twiceK_peek {n : NetP} {i : Int} (h : twiceK n i = 0) : peekK n i = 0 := by
  unfold twiceK at h
  split at h
  · assumption
  · cases h
theorem takeK_peek0 {n : NetP} {i : Int} (h : takeK n i = 0) : peekK n i = 0 := by
  rw [takeK_peek] at h
  split at h
  · assumption
  · cases h
theorem getD_mem {n : NetP} {i : Int} (h : peekK n i = 0) : n.l.getD i.toNat mz ∈ n.l := by
  have := (peekK_ok h).2
  rw [List.getD_eq_getElem?_getD, List.getElem?_eq_getElem this]
  exact List.getElem_mem _
theorem erase_cnt {n : NetP} {i : Int} {cnt : Int} (h : peekK n i = 0) (hc : cnt = (n.l.length : Int)) : cnt - 1 = (((n.l.eraseIdx i.toNat).length : Nat) : Int) := by
  have h1 := (peekK_ok h).2
  rw [List.length_eraseIdx, if_pos h1]
  omega
set_option maxRecDepth 100000 in
set_option maxHeartbeats 16000000 in
theorem netCounts_all (v : Value) (l : List A15) (w : World) (hA : IsA15 w v l) :
    Calls Try.prog 5 #[v] w fun e w' => e = .returned (.bool true) ∧ Below w.heap.size w w' := by
  obtain ⟨i0, hi0, hz0, hz1, hz2⟩ := info_parts Try.infoU64
  obtain ⟨N, hN⟩ : ∃ z, l.length = z := ⟨_, rfl⟩
  have hlenA := fun W => len_X (P := Try.prog) hA.1 22 3 32 Try.underlying22 W
  rw [hN] at hlenA
  have HAL := Lib.hid (fun wx => alive15 wx)
  by_cases h60 : 60 < N
  · have k1 : (60 : Int) < (N : Int) := by omega
    clear hA hN
    go_enter Try.func5, Try.ntmps5
    go_wp2_with fail
    refine (HAL.out _).mono ?_
    rintro e w1 ⟨rfl, hb⟩
    have HB1 := Lib.hid hb
    clear hb
    go_wp2
    go_ret
    exact ⟨rfl, HB1.out⟩
  have k1 : ¬ (60 : Int) < (N : Int) := by omega
  have HACT := Lib.hid (fun (wx : World) (hb : Below w.heap.size w wx) (i : Nat) (hi : i < N) => show ∃ x : A15, l[i]? = some x ∧ Good15 wx x ∧ ∃ b o, (∀ W, (Instr.indexAt 22 v (.int .i64 (i : Int))).run Try.prog W = .ok (.pointer (some ⟨b, o, none⟩)) W) ∧ ∀ j, j < 15 → wx.cell? ⟨b, o + j, none⟩ = (acl15 x)[j]? from by
    have h9 := hA.mono hb (Nat.le_refl _)
    have hx : l[i]? = some (l[i]'(by omega)) := List.getElem?_eq_getElem _
    obtain ⟨b, o, h1, h2⟩ := act15_at h9 hx
    exact ⟨_, hx, h9.2 _ (List.mem_of_getElem? hx), b, o, h1, h2⟩)
  clear hA hN
  go_enter Try.func5, Try.ntmps5
  go_wp2_with fail
  refine (HAL.out _).mono ?_
  rintro e w1 ⟨rfl, hb⟩
  have HB1 := Lib.hid hb
  clear hb
  go_wp2_with fail
  refine (nnew_hd w w1 HB1.out).mono ?_
  rintro e w2 ⟨rfl, h2, hb⟩
  obtain ⟨g, hg⟩ : ∃ z, w1.heap.size = z := ⟨_, rfl⟩
  rw [hg] at h2
  try rw [hg]
  have HH2 := Lib.hid h2
  clear hb h2 hg
  go_wp2_with fail
  go_loopw [4, 5, 6] (fun q4 q5 q6 wr => ∃ (i : Nat) (cnt : Int) (y : Option Addr) (s k : Nat) (n : NetP) (S : Nat → Prop) (ids : List Nat), i ≤ N ∧ q4 = .int .i64 cnt ∧ q5 = .slice y s k ∧ q6 = .int .i64 i ∧ s ≤ i ∧ Hid (ids.length = s) ∧ Hid (cnt = (n.l.length : Int)) ∧ Hid (Hd w wr g S n i) ∧ Hid (wr.ownsRow w.heap.size 24 1 (.slice y s k) s (row idc ids)) ∧ Hid (Sent n ids) ∧ Hid (∀ b, (Value.slice y s k).ownBlock = some b → ¬ S b)) (fun _ _ q6 _ => N - (intOf q6).toNat)
  case atStart => exact ⟨0, 0, none, 0, 0, ⟨[], []⟩, _, [], Nat.zero_le _, rfl, rfl, rfl, Nat.le_refl _, Lib.hid rfl, Lib.hid rfl, HH2, Lib.hid (World.ownsRow_nil _ _ _ _), Lib.hid (fun m hm => by cases hm), Lib.hid (fun b hb => by cases hb)⟩
  case round =>
    obtain ⟨i, cnt, y, s, k, n, S, ids, hiN, rfl, rfl, rfl, hsi, HIDS, HCNT, HHr, HRO, HSE, HNR⟩ := hrel
    by_cases hlt : i < N
    · obtain ⟨⟨⟨ak, ai, aK, m⟩, dv⟩, hx, hg, b, o, hidx, hcell⟩ := HACT.out wr HHr.out.bel i hlt
      obtain ⟨hgB, hgF, hgI, hgK, hgWi, hgWk⟩ := hg
      dsimp only at hgB hgF hgI hgK hgWi hgWk
      obtain ⟨dl, hdl⟩ : ∃ z, m.n.data.length = z := ⟨_, rfl⟩
      obtain ⟨dx, dc, rfl, _, _⟩ := hgB.at_len hdl
      have d0 : wr.cell? ⟨b, o, none⟩ = some (.int .i64 ak) := hcell 0 (by decide)
      have d1 : wr.cell? ⟨b, o + 1, none⟩ = some (.int .i64 ai) := hcell 1 (by decide)
      have d2 : wr.cell? ⟨b, o + 2, none⟩ = some (.int .i64 aK) := hcell 2 (by decide)
      have d3 : wr.cell? ⟨b, o + 3, none⟩ = some (.int .i64 m.fr) := hcell 3 (by decide)
      have d4 : wr.cell? ⟨b, o + 4, none⟩ = some (.int .i64 m.to) := hcell 4 (by decide)
      have d5 : wr.cell? ⟨b, o + 5, none⟩ = some (.int .i64 m.kd) := hcell 5 (by decide)
      have d6 : wr.cell? ⟨b, o + 6, none⟩ = some (.int .i64 m.vo) := hcell 6 (by decide)
      have d7 : wr.cell? ⟨b, o + 7, none⟩ = some (.int .i64 m.li) := hcell 7 (by decide)
      have d8 : wr.cell? ⟨b, o + 8, none⟩ = some (.int .u64 (m.id : Int)) := hcell 8 (by decide)
      have d9 : wr.cell? ⟨b, o + 9, none⟩ = some (.int .i64 m.co) := hcell 9 (by decide)
      have d10 : wr.cell? ⟨b, o + 10, none⟩ = some (.bool m.has) := hcell 10 (by decide)
      have d11 : wr.cell? ⟨b, o + 11, none⟩ = some (.int .u64 (m.n.key : Int)) := hcell 11 (by decide)
      have d12 : wr.cell? ⟨b, o + 12, none⟩ = some (.int .u32 (m.n.cookie : Int)) := hcell 12 (by decide)
      have d13 : wr.cell? ⟨b, o + 13, none⟩ = some (.bool m.n.gone) := hcell 13 (by decide)
      have d14 : wr.cell? ⟨b, o + 14, none⟩ = some (.slice dx dl dc) := hcell 14 (by decide)
      have zb : b < wr.heap.size := cell_lt d0
      have HF := Lib.hid hgF
      have HID := Lib.hid hgI
      have HWI := Lib.hid hgWi
      have HWK := Lib.hid hgWk
      have hcn0 : 0 ≤ cnt := by rw [HCNT.out]; omega
      have hcn1 : cnt ≤ 4096 := by rw [HCNT.out]; have := HHr.out.nt.good.1; omega
      have ew1 : IntKind.i64.wrap (cnt + 1) = cnt + 1 := IntWalk.i64_in _ (by omega)
      have ew2 : IntKind.i64.wrap (cnt - 1) = cnt - 1 := IntWalk.i64_in _ (by omega)
      clear hcell hx hgF hgI hgK hgWi hgWk hdl
      by_cases hdd : 300 < dl
      · have kd : (300 : Int) < (dl : Int) := by omega
        have HBB := Lib.hid (HHr.out.alloc (.cells #[.int .i64 ak, .int .i64 ai, .int .i64 aK, .int .i64 m.fr, .int .i64 m.to, .int .i64 m.kd, .int .i64 m.vo, .int .i64 m.li, .int .u64 (m.id : Int), .int .i64 m.co, .bool m.has, .int .u64 (m.n.key : Int), .int .u32 (m.n.cookie : Int), .bool m.n.gone, .slice dx dl dc] 32)).bel
        clear hgB
        go_wp2
        go_ret
        exact ⟨rfl, HBB.out⟩
      have kd : ¬ (300 : Int) < (dl : Int) := by omega
      have HHb := Lib.hid (HHr.out.alloc (.cells #[.int .i64 ak, .int .i64 ai, .int .i64 aK, .int .i64 m.fr, .int .i64 m.to, .int .i64 m.kd, .int .i64 m.vo, .int .i64 m.li, .int .u64 (m.id : Int), .int .i64 m.co, .bool m.has, .int .u64 (m.n.key : Int), .int .u32 (m.n.cookie : Int), .bool m.n.gone, .slice dx dl dc] 32))
      have HROb := Lib.hid (ownsRow_below HRO.out (below_new15 wr (.cells #[.int .i64 ak, .int .i64 ai, .int .i64 aK, .int .i64 m.fr, .int .i64 m.to, .int .i64 m.kd, .int .i64 m.vo, .int .i64 m.li, .int .u64 (m.id : Int), .int .i64 m.co, .bool m.has, .int .u64 (m.n.key : Int), .int .u32 (m.n.cookie : Int), .bool m.n.gone, .slice dx dl dc] 32)) (Nat.le_refl _))
      have HNRb := HNR
      have HAb := Lib.hid (Blk.new wr #[.int .i64 ak, .int .i64 ai, .int .i64 aK, .int .i64 m.fr, .int .i64 m.to, .int .i64 m.kd, .int .i64 m.vo, .int .i64 m.li, .int .u64 (m.id : Int), .int .i64 m.co, .bool m.has, .int .u64 (m.n.key : Int), .int .u32 (m.n.cookie : Int), .bool m.n.gone, .slice dx dl dc] 32)
      have HDb := Lib.hid (hgB.mono (below_new15 wr (.cells #[.int .i64 ak, .int .i64 ai, .int .i64 aK, .int .i64 m.fr, .int .i64 m.to, .int .i64 m.kd, .int .i64 m.vo, .int .i64 m.li, .int .u64 (m.id : Int), .int .i64 m.co, .bool m.has, .int .u64 (m.n.key : Int), .int .u32 (m.n.cookie : Int), .bool m.n.gone, .slice dx dl dc] 32)) (Nat.le_refl _))
      obtain ⟨wb, hwb⟩ : ∃ z, wr.alloc (.cells #[.int .i64 ak, .int .i64 ai, .int .i64 aK, .int .i64 m.fr, .int .i64 m.to, .int .i64 m.kd, .int .i64 m.vo, .int .i64 m.li, .int .u64 (m.id : Int), .int .i64 m.co, .bool m.has, .int .u64 (m.n.key : Int), .int .u32 (m.n.cookie : Int), .bool m.n.gone, .slice dx dl dc] 32) = z := ⟨_, rfl⟩
      obtain ⟨X7, hX7⟩ : ∃ z, wr.heap.size = z := ⟨_, rfl⟩
      have HNX := Lib.hid (show ¬ S X7 from HHr.out.new (by omega))
      rw [hwb] at HHb HROb HAb HDb
      rw [hX7] at HAb
      have HWB := Lib.hid hwb
      have HX7 := Lib.hid hX7
      clear hwb hX7
      clear hgB hdd
      by_cases hk0 : ak = 0
      · subst hk0
        as_aux_lemma =>
          go_upto_region 12 with fail
          try rw [HWB.out]
          try rw [HX7.out]
          clear hidx d0 d1 d2 d3 d4 d5 d6 d7 d8 d9 d10 d11 d12 d13 d14 zb
          have a0 := HAb.out.cell 0 rfl
          have a1 := HAb.out.cell 1 rfl
          have a2 := HAb.out.cell 2 rfl
          have a3 := HAb.out.cell 3 rfl
          have a4 := HAb.out.cell 4 rfl
          have a5 := HAb.out.cell 5 rfl
          have a6 := HAb.out.cell 6 rfl
          have a7 := HAb.out.cell 7 rfl
          have a8 := HAb.out.cell 8 rfl
          have a9 := HAb.out.cell 9 rfl
          have a10 := HAb.out.cell 10 rfl
          have a11 := HAb.out.cell 11 rfl
          have a12 := HAb.out.cell 12 rfl
          have a13 := HAb.out.cell 13 rfl
          have a14 := HAb.out.cell 14 rfl
          go_wp2_with fail
          refine (of_any14 m dx dl dc _).mono ?_
          rintro e wo ⟨rfl, hb⟩
          have hHo := HHb.out.below hb
          have hRo := ownsRow_below HROb.out hb (Nat.le_refl _)
          have hAo := HAb.out.below hb HAb.out.lt
          have hDo := HDb.out.mono hb (Nat.le_refl _)
          have HS := Lib.hid (nsend_any m dx dl dc wo hHo.nt hDo HF.out HID.out)
          have HKL := Lib.hid (sendK_le n m)
          obtain ⟨C, hC⟩ : ∃ z, sendK n m = z := ⟨_, rfl⟩
          have HCC := Lib.hid hC
          rw [hC] at HS HKL
          have HHb2 := Lib.hid hHo
          have HRO2 := Lib.hid hRo
          have HA2 := Lib.hid hAo
          clear hb hHo hRo hAo hDo hC a0 a1 a2 a3 a4 a5 a6 a7 a8 a9 a10 a11 a12 a13 a14 HHb HROb HAb
          have HHb := HHb2
          have HROb := HRO2
          have HAb := HA2
          go_wp2_with fail
          refine HS.out.mono ?_
          rintro e wz ⟨rfl, ht⟩
          have HA1 := Lib.hid (HAb.out.kept ht.kpt HNX.out)
          obtain ⟨S1, h1, hk1, hs1⟩ := HHb.out.call ht
          have HH1 := Lib.hid h1
          have HRO1 := Lib.hid (ownsRow_kept HROb.out hk1 (fun b hb => HNRb.out b hb))
          have HNR1 := Lib.hid (show ∀ b, (Value.slice y s k).ownBlock = some b → ¬ S1 b from fun b hb => hs1 b (HROb.out.lt b hb).2 (HNRb.out b hb))
          clear ht h1 hk1 hs1
          go_wp2_with fail
          refine (code_cerr C _ HKL.out).mono ?_
          rintro e wc ⟨rfl, rfl⟩
          by_cases hC0 : C = 0
          · subst hC0
            have HSO := Lib.hid (sendN_ok HCC.out)
            have HCN := Lib.hid (show cnt + 1 = (((sendN n m).l.length : Nat) : Int) by rw [HSO.out]; show _ = (((n.l ++ [m]).length : Nat) : Int); rw [List.length_append, HCNT.out]; simp)
            have HSE1 := Lib.hid (show Sent (sendN n m) (ids ++ [m.id]) from by
              rw [HSO.out]
              intro q hq
              rcases List.mem_append.1 hq with h | h
              · exact List.mem_append_left _ (HSE.out q h)
              · rw [List.mem_singleton.1 h]; exact List.mem_append_right _ (List.mem_singleton.2 rfl))
            have HIDS1 := Lib.hid (show (ids ++ [m.id]).length = s + 1 by rw [List.length_append, HIDS.out]; rfl)
            have HL6 := Lib.hid (IsX.litAt15 wz #[.int .u64 (m.id : Int)] 24 1 1 wz.heap.size rfl rfl (by decide))
            have HRA := Lib.hid (ownsRow_below HRO1.out (below_new15 wz (.cells #[.int .u64 (m.id : Int)] 24)) (Nat.le_refl _))
            have HSZ := Lib.hid (show w.heap.size ≤ (wz.alloc (.cells #[.int .u64 (m.id : Int)] 24)).heap.size from by have h1 := HH1.out.bel.size; simp; omega)
            have HON := Lib.hid (show ∀ u ∈ (#[.int .u64 (m.id : Int)] : Array Value).toList, u.oneCell' = true from by intro v hv; simp at hv; subst hv; rfl)
            have a0 := HA1.out.cell 0 rfl
            have a1 := HA1.out.cell 1 rfl
            have a2 := HA1.out.cell 2 rfl
            have a3 := HA1.out.cell 3 rfl
            have a4 := HA1.out.cell 4 rfl
            have a5 := HA1.out.cell 5 rfl
            have a6 := HA1.out.cell 6 rfl
            have a7 := HA1.out.cell 7 rfl
            have a8 := HA1.out.cell 8 rfl
            have a9 := HA1.out.cell 9 rfl
            have a10 := HA1.out.cell 10 rfl
            have a11 := HA1.out.cell 11 rfl
            have a12 := HA1.out.cell 12 rfl
            have a13 := HA1.out.cell 13 rfl
            have a14 := HA1.out.cell 14 rfl
            go_wp2_with (at_builtin; refine wpList_append_X (by rfl) _ _ 61 61 rfl (fun _ _ _ => rfl) w.heap.size 24 i0 _ 1 8 Try.underlying61 hi0 hz0 hz1 hz2 rfl (by decide) _ (row idc ids) s rfl HRA.out _ 1 _ rfl HL6.out HON.out (by unfold maxLen; omega) (by omega) HSZ.out ?_)
            intro v4 w4 hown4 hgr4 hat4
            obtain ⟨y4, k4, rfl, _, _⟩ := Go.Cor.ownsRow_slice hown4
            have HRO4 := Lib.hid (show w4.ownsRow w.heap.size 24 1 (.slice y4 (s + 1) k4) (s + 1) (row idc (ids ++ [m.id])) from by rw [row_append, row_one]; exact hown4)
            have HH4 := Lib.hid ((HH1.out.alloc (.cells #[.int .u64 (m.id : Int)] 24)).turned ((Kept.refl (fun b => (Value.slice y s k).ownBlock = some b) (wz.alloc (.cells #[.int .u64 (m.id : Int)] 24))).grown hgr4 (fun b hb => .inl hb)) (fun b hb e => HNR1.out b e hb) (fun b e => (HRA.out.lt b e).1))
            have HNR4 := Lib.hid (show ∀ b, (Value.slice y4 (s + 1) k4).ownBlock = some b → ¬ S1 b from fun b hb => by
              rcases hat4 with h | h
              · exact HNR1.out b (h ▸ hb)
              · rw [h] at hb
                cases hb
                exact HH1.out.new (by simp))
            clear hown4 hgr4 hat4 a0 a1 a2 a3 a4 a5 a6 a7 a8 a9 a10 a11 a12 a13 a14
            have HLN := Lib.hid (show Calls Try.prog 21 #[.pointer (some ⟨g, 0, none⟩)] w4 fun e w' => e = .returned (.int .i64 (cnt + 1)) ∧ w4 = w' from by
              have h9 := nlen_any w4 HH4.out.nt
              rw [← HCN.out] at h9
              exact h9)
            have HM1 := Lib.hid (HH4.out.more (K' := i + 1) (by omega))
            go_wp2_with fail
            refine HLN.out.mono ?_
            rintro e wl ⟨rfl, rfl⟩
            go_wp2
            go_roundw
            case rel => exact ⟨i + 1, cnt + 1, y4, s + 1, k4, (sendN n m), S1, (ids ++ [m.id]), by omega, by first | rfl | go_num, rfl, by go_num, by omega, HIDS1, HCN, HM1, HRO4, HSE1, HNR4⟩
            case measure => simp [intOf]; omega
          · have kC : ((C : Int) == 0) = false := beq_eq_false_iff_ne.2 (by omega)
            have HSN := Lib.hid (sendN_no (n := n) (m := m) (by rw [HCC.out]; exact hC0))
            have HCN := Lib.hid (show cnt = (((sendN n m).l.length : Nat) : Int) by rw [HSN.out]; exact HCNT.out)
            have HSE1 := Lib.hid (show Sent (sendN n m) ids from by rw [HSN.out]; exact HSE.out)
            clear hC0
            have HLN := Lib.hid (show Calls Try.prog 21 #[.pointer (some ⟨g, 0, none⟩)] wz fun e w' => e = .returned (.int .i64 (cnt)) ∧ wz = w' from by
              have h9 := nlen_any wz HH1.out.nt
              rw [← HCN.out] at h9
              exact h9)
            have HM1 := Lib.hid (HH1.out.more (K' := i + 1) (by omega))
            go_wp2_with fail
            refine HLN.out.mono ?_
            rintro e wl ⟨rfl, rfl⟩
            go_wp2
            go_roundw
            case rel => exact ⟨i + 1, cnt, y, s, k, (sendN n m), S1, ids, by omega, by first | rfl | go_num, rfl, by go_num, by omega, HIDS, HCN, HM1, HRO1, HSE1, HNR1⟩
            case measure => simp [intOf]; omega
      · have kk0 : (ak == 0) = false := beq_eq_false_iff_ne.2 hk0
        have HK0 := Lib.hid hk0
        clear hk0
        by_cases hk1 : ak = 1
        · subst hk1
          as_aux_lemma =>
            go_upto_region 12 with fail
            try rw [HWB.out]
            try rw [HX7.out]
            clear hidx d0 d1 d2 d3 d4 d5 d6 d7 d8 d9 d10 d11 d12 d13 d14 zb
            have a0 := HAb.out.cell 0 rfl
            have a1 := HAb.out.cell 1 rfl
            have a2 := HAb.out.cell 2 rfl
            have a3 := HAb.out.cell 3 rfl
            have a4 := HAb.out.cell 4 rfl
            have a5 := HAb.out.cell 5 rfl
            have a6 := HAb.out.cell 6 rfl
            have a7 := HAb.out.cell 7 rfl
            have a8 := HAb.out.cell 8 rfl
            have a9 := HAb.out.cell 9 rfl
            have a10 := HAb.out.cell 10 rfl
            have a11 := HAb.out.cell 11 rfl
            have a12 := HAb.out.cell 12 rfl
            have a13 := HAb.out.cell 13 rfl
            have a14 := HAb.out.cell 14 rfl
            have HS := Lib.hid (ntake_any ai wb HHb.out.nt)
            have HKL := Lib.hid (takeK_le n ai)
            have HMM := Lib.hid (show takeK n ai = 0 → (takeM n ai).id ∈ ids from fun h => by unfold takeM; rw [if_pos h]; exact HSE.out _ (getD_mem (takeK_peek0 h)))
            obtain ⟨C, hC⟩ : ∃ z, takeK n ai = z := ⟨_, rfl⟩
            obtain ⟨M, hM⟩ : ∃ z, takeM n ai = z := ⟨_, rfl⟩
            have HCC := Lib.hid hC
            rw [hC, hM] at HS HMM
            rw [hC] at HKL
            clear hC hM
            go_wp2_with fail
            refine HS.out.mono ?_
            rintro e wz ⟨tx, tc, rfl, _, _, ht⟩
            clear a0 a1 a2 a3 a4 a5 a6 a7 a8 a9 a10 a11 a12 a13 a14
            obtain ⟨S1, h1, hk1, hs1⟩ := HHb.out.call ht
            have HH1 := Lib.hid h1
            have HRO1 := Lib.hid (ownsRow_kept HROb.out hk1 (fun b hb => HNRb.out b hb))
            have HNR1 := Lib.hid (show ∀ b, (Value.slice y s k).ownBlock = some b → ¬ S1 b from fun b hb => hs1 b (HROb.out.lt b hb).2 (HNRb.out b hb))
            clear ht h1 hk1 hs1
            have HH8 := Lib.hid (HH1.out.alloc (.cells #[.int .i64 M.fr, .int .i64 M.to, .int .i64 M.kd, .int .i64 M.vo, .int .i64 M.li, .int .u64 (M.id : Int), .int .i64 M.co, .bool M.has, .int .u64 (M.n.key : Int), .int .u32 (M.n.cookie : Int), .bool M.n.gone, .slice tx M.n.data.length tc] 43))
            have HRO8 := Lib.hid (ownsRow_below HRO1.out (below_new15 wz (.cells #[.int .i64 M.fr, .int .i64 M.to, .int .i64 M.kd, .int .i64 M.vo, .int .i64 M.li, .int .u64 (M.id : Int), .int .i64 M.co, .bool M.has, .int .u64 (M.n.key : Int), .int .u32 (M.n.cookie : Int), .bool M.n.gone, .slice tx M.n.data.length tc] 43)) (Nat.le_refl _))
            have HT8 := Lib.hid (Blk.new wz #[.int .i64 M.fr, .int .i64 M.to, .int .i64 M.kd, .int .i64 M.vo, .int .i64 M.li, .int .u64 (M.id : Int), .int .i64 M.co, .bool M.has, .int .u64 (M.n.key : Int), .int .u32 (M.n.cookie : Int), .bool M.n.gone, .slice tx M.n.data.length tc] 43)
            obtain ⟨w8, hw8⟩ : ∃ z, wz.alloc (.cells #[.int .i64 M.fr, .int .i64 M.to, .int .i64 M.kd, .int .i64 M.vo, .int .i64 M.li, .int .u64 (M.id : Int), .int .i64 M.co, .bool M.has, .int .u64 (M.n.key : Int), .int .u32 (M.n.cookie : Int), .bool M.n.gone, .slice tx M.n.data.length tc] 43) = z := ⟨_, rfl⟩
            obtain ⟨X8, hX8⟩ : ∃ z, wz.heap.size = z := ⟨_, rfl⟩
            rw [hw8] at HH8 HRO8 HT8
            rw [hX8] at HT8
            have HW8 := Lib.hid hw8
            have HX8 := Lib.hid hX8
            clear hw8 hX8
            go_upto_region 21 with fail
            try rw [HW8.out]
            try rw [HX8.out]
            go_wp2_with fail
            refine (code_cerr C _ HKL.out).mono ?_
            rintro e wc ⟨rfl, rfl⟩
            by_cases hC0 : C = 0
            · subst hC0
              have HIN := Lib.hid (HMM.out rfl)
              have HCN := Lib.hid (show cnt - 1 = ((((takeN n ai)).l.length : Nat) : Int) by rw [takeN_ok HCC.out]; exact erase_cnt (takeK_peek0 HCC.out) HCNT.out)
              have HSE1 := Lib.hid (show Sent (takeN n ai) ids from by rw [takeN_ok HCC.out]; exact fun q hq => HSE.out q (List.mem_of_mem_eraseIdx hq))
              have hlen5 := fun W => len_X (P := Try.prog) (IsX.own HRO8.out) 61 3 24 Try.underlying61 W
              go_wp2_with fail
              go_loopw [10, 11] (fun q10 q11 wr => ∃ (k2 : Nat) (hb : Bool), k2 ≤ s ∧ q10 = .bool hb ∧ q11 = .int .i64 k2 ∧ Hid ((ids.take k2).any (fun z => z == M.id) = hb) ∧ Hid (Below w8.heap.size w8 wr)) (fun _ q11 _ => s - (intOf q11).toNat)
              case atStart => exact ⟨0, false, Nat.zero_le _, rfl, rfl, Lib.hid rfl, Lib.hid (Below.refl _ _)⟩
              case round =>
                obtain ⟨k2, hb2, hk2, rfl, rfl, HAN, HBe⟩ := hrel
                by_cases hlt2 : k2 < s
                · have hRr := ownsRow_below HRO8.out HBe.out (Nat.le_refl _)
                  obtain ⟨bi, oi, hidx2, _, hcell2⟩ := indexAt_X (IsX.own hRr) 61 24 Try.underlying61 Try.sizeU64 k2 hlt2
                  obtain ⟨idk, hidk⟩ : ∃ z, ids[k2]'(by rw [HIDS.out]; exact hlt2) = z := ⟨_, rfl⟩
                  have hg2 : ids[k2]? = some idk := by rw [List.getElem?_eq_getElem (by rw [HIDS.out]; exact hlt2), hidk]
                  have hci : wr.cell? ⟨bi, oi, none⟩ = some (.int .u64 (idk : Int)) := by
                    have := hcell2 0 (by decide)
                    rw [row_get idc_len hg2 0 (by decide)] at this
                    simpa [idc] using this
                  have t5 : wr.cell? ⟨X8, 5, none⟩ = some (.int .u64 (M.id : Int)) := (HT8.out.below HBe.out HT8.out.lt).cell 5 rfl
                  have HTK2 := Lib.hid (show ids.take (k2 + 1) = ids.take k2 ++ [idk] from by rw [List.take_succ_eq_append_getElem (by rw [HIDS.out]; exact hlt2), hidk])
                  have HBd := Lib.hid HBe.out.drew
                  clear hRr hcell2 hidk hg2
                  cases hb2 with
                  | true =>
                    as_aux_lemma =>
                      go_upto_region 27 with fail
                      refine wp_region_held_drew (S := (fun wx => wx.cell? ⟨bi, oi, none⟩ = some (.int .u64 (idk : Int)) ∧ wx.cell? ⟨X8, 5, none⟩ = some (.int .u64 (M.id : Int)))) (by kernel_rfl) (⟨hci, t5⟩) (fun hHeld => ?_)
                      refine wpAnyH_take (i := 0) (v := ?_) rfl (by kernel_rfl) (by kernel_rfl) (by kernel_rfl) (fun _ _ _ h => h) (Or.inl ⟨by rfl, ?_⟩) (by assumption) ?_
                      rotate_left 1
                      · intro w hSw
                        (try dsimp only at hSw)
                        go_simp
                        all_goals (with_reducible rfl)
                      try simp only [Act.put, List.getElem_toArray, List.getElem_cons_zero, List.getElem_cons_succ, List.setIfInBounds_toArray, List.set_cons_zero, List.set_cons_succ]
                      refine wpAnyH_take (i := 1) (v := ?_) rfl (by kernel_rfl) (by kernel_rfl) (by kernel_rfl) (fun _ _ _ h => h) (Or.inl ⟨by rfl, ?_⟩) (by assumption) ?_
                      rotate_left 1
                      · intro w hSw
                        (try dsimp only at hSw)
                        go_simp
                        all_goals (with_reducible rfl)
                      try simp only [Act.put, List.getElem_toArray, List.getElem_cons_zero, List.getElem_cons_succ, List.setIfInBounds_toArray, List.set_cons_zero, List.set_cons_succ]
                      refine wpAnyH_take (i := 2) (v := undef) rfl (by kernel_rfl) (by kernel_rfl) (by kernel_rfl) (fun _ _ _ h => h) (Or.inr ⟨by rfl, rfl⟩) (by assumption) ?_
                      try simp only [Act.put, List.getElem_toArray, List.getElem_cons_zero, List.getElem_cons_succ, List.setIfInBounds_toArray, List.set_cons_zero, List.set_cons_succ]
                      refine wpAnyH_take (i := 3) (v := undef) rfl (by kernel_rfl) (by kernel_rfl) (by kernel_rfl) (fun _ _ _ h => h) (Or.inr ⟨by rfl, rfl⟩) (by assumption) ?_
                      try simp only [Act.put, List.getElem_toArray, List.getElem_cons_zero, List.getElem_cons_succ, List.setIfInBounds_toArray, List.set_cons_zero, List.set_cons_succ]
                      refine wpAnyH_take (i := 4) (v := undef) rfl (by kernel_rfl) (by kernel_rfl) (by kernel_rfl) (fun _ _ _ h => h) (Or.inr ⟨by rfl, rfl⟩) (by assumption) ?_
                      try simp only [Act.put, List.getElem_toArray, List.getElem_cons_zero, List.getElem_cons_succ, List.setIfInBounds_toArray, List.set_cons_zero, List.set_cons_succ]
                      refine wpAnyH_take (i := 5) (v := undef) rfl (by kernel_rfl) (by kernel_rfl) (by kernel_rfl) (fun _ _ _ h => h) (Or.inr ⟨by rfl, rfl⟩) (by assumption) ?_
                      try simp only [Act.put, List.getElem_toArray, List.getElem_cons_zero, List.getElem_cons_succ, List.setIfInBounds_toArray, List.set_cons_zero, List.set_cons_succ]
                      refine wpAnyH_take (i := 6) (v := undef) rfl (by kernel_rfl) (by kernel_rfl) (by kernel_rfl) (fun _ _ _ h => h) (Or.inr ⟨by rfl, rfl⟩) (by assumption) ?_
                      try simp only [Act.put, List.getElem_toArray, List.getElem_cons_zero, List.getElem_cons_succ, List.setIfInBounds_toArray, List.set_cons_zero, List.set_cons_succ]
                      refine wpAnyH_take (i := 7) (v := undef) rfl (by kernel_rfl) (by kernel_rfl) (by kernel_rfl) (fun _ _ _ h => h) (Or.inr ⟨by rfl, rfl⟩) (by assumption) ?_
                      try simp only [Act.put, List.getElem_toArray, List.getElem_cons_zero, List.getElem_cons_succ, List.setIfInBounds_toArray, List.set_cons_zero, List.set_cons_succ]
                      refine wpAnyH_take (i := 8) (v := undef) rfl (by kernel_rfl) (by kernel_rfl) (by kernel_rfl) (fun _ _ _ h => h) (Or.inr ⟨by rfl, rfl⟩) (by assumption) ?_
                      try simp only [Act.put, List.getElem_toArray, List.getElem_cons_zero, List.getElem_cons_succ, List.setIfInBounds_toArray, List.set_cons_zero, List.set_cons_succ]
                      refine wpAnyH_take (i := 9) (v := ?_) rfl (by kernel_rfl) (by kernel_rfl) (by kernel_rfl) (fun _ _ _ h => h) (Or.inl ⟨by rfl, ?_⟩) (by assumption) ?_
                      rotate_left 1
                      · intro w hSw
                        (try dsimp only at hSw)
                        go_simp
                        all_goals (with_reducible rfl)
                      try simp only [Act.put, List.getElem_toArray, List.getElem_cons_zero, List.getElem_cons_succ, List.setIfInBounds_toArray, List.set_cons_zero, List.set_cons_succ]
                      refine wpAnyH_ready (rs := [10]) (by kernel_rfl) (by simp) ?_
                      refine AllReadyH.cons rfl (fun K hK => ?_) AllReadyH.nil
                      go_simp
                      refine hK.out _ _ (hHeld) (fun hHeld => ?_)
                      clear hK K
                      try simp only [Act.put, List.getElem_toArray, List.getElem_cons_zero, List.getElem_cons_succ, List.setIfInBounds_toArray, List.set_cons_zero, List.set_cons_succ]
                      refine wpAnyH_done (by kernel_rfl) ?_ _
                      go_wp2
                      go_roundw
                      case rel => exact ⟨k2 + 1, true, by omega, rfl, by go_num, Lib.hid (by rw [HTK2.out, List.any_append, HAN.out]; rfl), HBd⟩
                      case measure => simp [intOf]; omega
                  | false =>
                    by_cases heq : idk = M.id
                    · as_aux_lemma =>
                        have kq : ((idk : Int) == (M.id : Int)) = true := beq_iff_eq.2 (by omega)
                        have HEQ := Lib.hid heq
                        clear heq
                        go_upto_region 27 with fail
                        refine wp_region_held_drew (S := (fun wx => wx.cell? ⟨bi, oi, none⟩ = some (.int .u64 (idk : Int)) ∧ wx.cell? ⟨X8, 5, none⟩ = some (.int .u64 (M.id : Int)))) (by kernel_rfl) (⟨hci, t5⟩) (fun hHeld => ?_)
                        refine wpAnyH_take (i := 0) (v := ?_) rfl (by kernel_rfl) (by kernel_rfl) (by kernel_rfl) (fun _ _ _ h => h) (Or.inl ⟨by rfl, ?_⟩) (by assumption) ?_
                        rotate_left 1
                        · intro w hSw
                          (try dsimp only at hSw)
                          go_simp
                          all_goals (with_reducible rfl)
                        try simp only [Act.put, List.getElem_toArray, List.getElem_cons_zero, List.getElem_cons_succ, List.setIfInBounds_toArray, List.set_cons_zero, List.set_cons_succ]
                        refine wpAnyH_take (i := 1) (v := ?_) rfl (by kernel_rfl) (by kernel_rfl) (by kernel_rfl) (fun _ _ _ h => h) (Or.inl ⟨by rfl, ?_⟩) (by assumption) ?_
                        rotate_left 1
                        · intro w hSw
                          (try dsimp only at hSw)
                          go_simp
                          all_goals (with_reducible rfl)
                        try simp only [Act.put, List.getElem_toArray, List.getElem_cons_zero, List.getElem_cons_succ, List.setIfInBounds_toArray, List.set_cons_zero, List.set_cons_succ]
                        refine wpAnyH_take (i := 2) (v := ?_) rfl (by kernel_rfl) (by kernel_rfl) (by kernel_rfl) (fun _ _ _ h => h) (Or.inl ⟨by rfl, ?_⟩) (by assumption) ?_
                        rotate_left 1
                        · intro w hSw
                          (try dsimp only at hSw)
                          go_simp
                          all_goals (with_reducible rfl)
                        try simp only [Act.put, List.getElem_toArray, List.getElem_cons_zero, List.getElem_cons_succ, List.setIfInBounds_toArray, List.set_cons_zero, List.set_cons_succ]
                        refine wpAnyH_take (i := 3) (v := ?_) rfl (by kernel_rfl) (by kernel_rfl) (by kernel_rfl) (fun _ _ _ h => h) (Or.inl ⟨by rfl, ?_⟩) (by assumption) ?_
                        rotate_left 1
                        · intro w hSw
                          (try dsimp only at hSw)
                          go_simp
                          all_goals (with_reducible rfl)
                        try simp only [Act.put, List.getElem_toArray, List.getElem_cons_zero, List.getElem_cons_succ, List.setIfInBounds_toArray, List.set_cons_zero, List.set_cons_succ]
                        refine wpAnyH_take (i := 4) (v := ?_) rfl (by kernel_rfl) (by kernel_rfl) (by kernel_rfl) (fun _ _ _ h => h) (Or.inl ⟨by rfl, ?_⟩) (by assumption) ?_
                        rotate_left 1
                        · intro w hSw
                          (try dsimp only at hSw)
                          go_simp
                          all_goals (with_reducible rfl)
                        try simp only [Act.put, List.getElem_toArray, List.getElem_cons_zero, List.getElem_cons_succ, List.setIfInBounds_toArray, List.set_cons_zero, List.set_cons_succ]
                        refine wpAnyH_take (i := 5) (v := ?_) rfl (by kernel_rfl) (by kernel_rfl) (by kernel_rfl) (fun _ _ _ h => h) (Or.inl ⟨by rfl, ?_⟩) (by assumption) ?_
                        rotate_left 1
                        · intro w hSw
                          (try dsimp only at hSw)
                          go_simp
                          all_goals (with_reducible rfl)
                        try simp only [Act.put, List.getElem_toArray, List.getElem_cons_zero, List.getElem_cons_succ, List.setIfInBounds_toArray, List.set_cons_zero, List.set_cons_succ]
                        refine wpAnyH_take (i := 6) (v := ?_) rfl (by kernel_rfl) (by kernel_rfl) (by kernel_rfl) (fun _ _ _ h => h) (Or.inl ⟨by rfl, ?_⟩) (by assumption) ?_
                        rotate_left 1
                        · intro w hSw
                          (try dsimp only at hSw)
                          go_simp
                          all_goals (with_reducible rfl)
                        try simp only [Act.put, List.getElem_toArray, List.getElem_cons_zero, List.getElem_cons_succ, List.setIfInBounds_toArray, List.set_cons_zero, List.set_cons_succ]
                        refine wpAnyH_take (i := 7) (v := ?_) rfl (by kernel_rfl) (by kernel_rfl) (by kernel_rfl) (fun _ _ _ h => h) (Or.inl ⟨by rfl, ?_⟩) (by assumption) ?_
                        rotate_left 1
                        · intro w hSw
                          (try dsimp only at hSw)
                          go_simp
                          all_goals (with_reducible rfl)
                        try simp only [Act.put, List.getElem_toArray, List.getElem_cons_zero, List.getElem_cons_succ, List.setIfInBounds_toArray, List.set_cons_zero, List.set_cons_succ]
                        refine wpAnyH_take (i := 8) (v := ?_) rfl (by kernel_rfl) (by kernel_rfl) (by kernel_rfl) (fun _ _ _ h => h) (Or.inl ⟨by rfl, ?_⟩) (by assumption) ?_
                        rotate_left 1
                        · intro w hSw
                          (try dsimp only at hSw)
                          go_simp
                          all_goals (with_reducible rfl)
                        try simp only [Act.put, List.getElem_toArray, List.getElem_cons_zero, List.getElem_cons_succ, List.setIfInBounds_toArray, List.set_cons_zero, List.set_cons_succ]
                        refine wpAnyH_take (i := 9) (v := ?_) rfl (by kernel_rfl) (by kernel_rfl) (by kernel_rfl) (fun _ _ _ h => h) (Or.inl ⟨by rfl, ?_⟩) (by assumption) ?_
                        rotate_left 1
                        · intro w hSw
                          (try dsimp only at hSw)
                          go_simp
                          all_goals (with_reducible rfl)
                        try simp only [Act.put, List.getElem_toArray, List.getElem_cons_zero, List.getElem_cons_succ, List.setIfInBounds_toArray, List.set_cons_zero, List.set_cons_succ]
                        refine wpAnyH_ready (rs := [10]) (by kernel_rfl) (by simp) ?_
                        refine AllReadyH.cons rfl (fun K hK => ?_) AllReadyH.nil
                        go_simp
                        refine hK.out _ _ (hHeld) (fun hHeld => ?_)
                        clear hK K
                        try simp only [Act.put, List.getElem_toArray, List.getElem_cons_zero, List.getElem_cons_succ, List.setIfInBounds_toArray, List.set_cons_zero, List.set_cons_succ]
                        refine wpAnyH_done (by kernel_rfl) ?_ _
                        go_wp2
                        go_roundw
                        case rel => exact ⟨k2 + 1, true, by omega, rfl, by go_num, Lib.hid (by rw [HTK2.out, List.any_append, HAN.out]; simp [HEQ.out]), HBd⟩
                        case measure => simp [intOf]; omega
                    · as_aux_lemma =>
                        have kq : ((idk : Int) == (M.id : Int)) = false := beq_eq_false_iff_ne.2 (by omega)
                        have HEQ := Lib.hid heq
                        clear heq
                        go_upto_region 27 with fail
                        refine wp_region_held_drew (S := (fun wx => wx.cell? ⟨bi, oi, none⟩ = some (.int .u64 (idk : Int)) ∧ wx.cell? ⟨X8, 5, none⟩ = some (.int .u64 (M.id : Int)))) (by kernel_rfl) (⟨hci, t5⟩) (fun hHeld => ?_)
                        refine wpAnyH_take (i := 0) (v := ?_) rfl (by kernel_rfl) (by kernel_rfl) (by kernel_rfl) (fun _ _ _ h => h) (Or.inl ⟨by rfl, ?_⟩) (by assumption) ?_
                        rotate_left 1
                        · intro w hSw
                          (try dsimp only at hSw)
                          go_simp
                          all_goals (with_reducible rfl)
                        try simp only [Act.put, List.getElem_toArray, List.getElem_cons_zero, List.getElem_cons_succ, List.setIfInBounds_toArray, List.set_cons_zero, List.set_cons_succ]
                        refine wpAnyH_take (i := 1) (v := ?_) rfl (by kernel_rfl) (by kernel_rfl) (by kernel_rfl) (fun _ _ _ h => h) (Or.inl ⟨by rfl, ?_⟩) (by assumption) ?_
                        rotate_left 1
                        · intro w hSw
                          (try dsimp only at hSw)
                          go_simp
                          all_goals (with_reducible rfl)
                        try simp only [Act.put, List.getElem_toArray, List.getElem_cons_zero, List.getElem_cons_succ, List.setIfInBounds_toArray, List.set_cons_zero, List.set_cons_succ]
                        refine wpAnyH_take (i := 2) (v := ?_) rfl (by kernel_rfl) (by kernel_rfl) (by kernel_rfl) (fun _ _ _ h => h) (Or.inl ⟨by rfl, ?_⟩) (by assumption) ?_
                        rotate_left 1
                        · intro w hSw
                          (try dsimp only at hSw)
                          go_simp
                          all_goals (with_reducible rfl)
                        try simp only [Act.put, List.getElem_toArray, List.getElem_cons_zero, List.getElem_cons_succ, List.setIfInBounds_toArray, List.set_cons_zero, List.set_cons_succ]
                        refine wpAnyH_take (i := 3) (v := ?_) rfl (by kernel_rfl) (by kernel_rfl) (by kernel_rfl) (fun _ _ _ h => h) (Or.inl ⟨by rfl, ?_⟩) (by assumption) ?_
                        rotate_left 1
                        · intro w hSw
                          (try dsimp only at hSw)
                          go_simp
                          all_goals (with_reducible rfl)
                        try simp only [Act.put, List.getElem_toArray, List.getElem_cons_zero, List.getElem_cons_succ, List.setIfInBounds_toArray, List.set_cons_zero, List.set_cons_succ]
                        refine wpAnyH_take (i := 4) (v := ?_) rfl (by kernel_rfl) (by kernel_rfl) (by kernel_rfl) (fun _ _ _ h => h) (Or.inl ⟨by rfl, ?_⟩) (by assumption) ?_
                        rotate_left 1
                        · intro w hSw
                          (try dsimp only at hSw)
                          go_simp
                          all_goals (with_reducible rfl)
                        try simp only [Act.put, List.getElem_toArray, List.getElem_cons_zero, List.getElem_cons_succ, List.setIfInBounds_toArray, List.set_cons_zero, List.set_cons_succ]
                        refine wpAnyH_take (i := 5) (v := ?_) rfl (by kernel_rfl) (by kernel_rfl) (by kernel_rfl) (fun _ _ _ h => h) (Or.inl ⟨by rfl, ?_⟩) (by assumption) ?_
                        rotate_left 1
                        · intro w hSw
                          (try dsimp only at hSw)
                          go_simp
                          all_goals (with_reducible rfl)
                        try simp only [Act.put, List.getElem_toArray, List.getElem_cons_zero, List.getElem_cons_succ, List.setIfInBounds_toArray, List.set_cons_zero, List.set_cons_succ]
                        refine wpAnyH_take (i := 6) (v := ?_) rfl (by kernel_rfl) (by kernel_rfl) (by kernel_rfl) (fun _ _ _ h => h) (Or.inl ⟨by rfl, ?_⟩) (by assumption) ?_
                        rotate_left 1
                        · intro w hSw
                          (try dsimp only at hSw)
                          go_simp
                          all_goals (with_reducible rfl)
                        try simp only [Act.put, List.getElem_toArray, List.getElem_cons_zero, List.getElem_cons_succ, List.setIfInBounds_toArray, List.set_cons_zero, List.set_cons_succ]
                        refine wpAnyH_take (i := 7) (v := ?_) rfl (by kernel_rfl) (by kernel_rfl) (by kernel_rfl) (fun _ _ _ h => h) (Or.inl ⟨by rfl, ?_⟩) (by assumption) ?_
                        rotate_left 1
                        · intro w hSw
                          (try dsimp only at hSw)
                          go_simp
                          all_goals (with_reducible rfl)
                        try simp only [Act.put, List.getElem_toArray, List.getElem_cons_zero, List.getElem_cons_succ, List.setIfInBounds_toArray, List.set_cons_zero, List.set_cons_succ]
                        refine wpAnyH_take (i := 8) (v := ?_) rfl (by kernel_rfl) (by kernel_rfl) (by kernel_rfl) (fun _ _ _ h => h) (Or.inl ⟨by rfl, ?_⟩) (by assumption) ?_
                        rotate_left 1
                        · intro w hSw
                          (try dsimp only at hSw)
                          go_simp
                          all_goals (with_reducible rfl)
                        try simp only [Act.put, List.getElem_toArray, List.getElem_cons_zero, List.getElem_cons_succ, List.setIfInBounds_toArray, List.set_cons_zero, List.set_cons_succ]
                        refine wpAnyH_take (i := 9) (v := ?_) rfl (by kernel_rfl) (by kernel_rfl) (by kernel_rfl) (fun _ _ _ h => h) (Or.inl ⟨by rfl, ?_⟩) (by assumption) ?_
                        rotate_left 1
                        · intro w hSw
                          (try dsimp only at hSw)
                          go_simp
                          all_goals (with_reducible rfl)
                        try simp only [Act.put, List.getElem_toArray, List.getElem_cons_zero, List.getElem_cons_succ, List.setIfInBounds_toArray, List.set_cons_zero, List.set_cons_succ]
                        refine wpAnyH_ready (rs := [10]) (by kernel_rfl) (by simp) ?_
                        refine AllReadyH.cons rfl (fun K hK => ?_) AllReadyH.nil
                        go_simp
                        refine hK.out _ _ (hHeld) (fun hHeld => ?_)
                        clear hK K
                        try simp only [Act.put, List.getElem_toArray, List.getElem_cons_zero, List.getElem_cons_succ, List.setIfInBounds_toArray, List.set_cons_zero, List.set_cons_succ]
                        refine wpAnyH_done (by kernel_rfl) ?_ _
                        go_wp2
                        go_roundw
                        case rel => exact ⟨k2 + 1, false, by omega, rfl, by go_num, Lib.hid (by rw [HTK2.out, List.any_append, HAN.out]; simp [HEQ.out]), HBd⟩
                        case measure => simp [intOf]; omega
                · have hh2 : hb2 = true := by
                    have h9 : k2 = s := by omega
                    rw [← HAN.out, h9, List.take_of_length_le (by rw [HIDS.out]; exact Nat.le_refl _)]
                    exact List.any_eq_true.2 ⟨M.id, HIN.out, by simp⟩
                  subst hh2
                  obtain ⟨wv, hwv⟩ : ∃ z, z = wr := ⟨_, rfl⟩
                  subst hwv
                  have HHv := Lib.hid (HH8.out.below HBe.out)
                  have HROv := Lib.hid (ownsRow_below HRO8.out HBe.out (Nat.le_refl _))
                  have HLN := Lib.hid (show Calls Try.prog 21 #[.pointer (some ⟨g, 0, none⟩)] wv fun e w' => e = .returned (.int .i64 (cnt - 1)) ∧ wv = w' from by
                    have h9 := nlen_any wv HHv.out.nt
                    rw [← HCN.out] at h9
                    exact h9)
                  have HM1 := Lib.hid (HHv.out.more (K' := i + 1) (by omega))
                  go_wp2_with fail
                  refine HLN.out.mono ?_
                  rintro e wl ⟨rfl, rfl⟩
                  go_wp2
                  go_roundw
                  case rel => exact ⟨i + 1, cnt - 1, y, s, k, (takeN n ai), S1, ids, by omega, by first | rfl | go_num, rfl, by go_num, by omega, HIDS, HCN, HM1, HROv, HSE1, HNR1⟩
                  case measure => simp [intOf]; omega
            · have kC : ((C : Int) == 0) = false := beq_eq_false_iff_ne.2 (by omega)
              have HSN := Lib.hid (show takeN n ai = n from takeN_no (by rw [HCC.out]; exact hC0))
              have HCN := Lib.hid (show cnt = ((((takeN n ai)).l.length : Nat) : Int) by rw [HSN.out]; exact HCNT.out)
              have HSE1 := Lib.hid (show Sent (takeN n ai) ids from by rw [HSN.out]; exact HSE.out)
              clear hC0
              have HLN := Lib.hid (show Calls Try.prog 21 #[.pointer (some ⟨g, 0, none⟩)] w8 fun e w' => e = .returned (.int .i64 (cnt)) ∧ w8 = w' from by
                have h9 := nlen_any w8 HH8.out.nt
                rw [← HCN.out] at h9
                exact h9)
              have HM1 := Lib.hid (HH8.out.more (K' := i + 1) (by omega))
              go_wp2_with fail
              refine HLN.out.mono ?_
              rintro e wl ⟨rfl, rfl⟩
              go_wp2
              go_roundw
              case rel => exact ⟨i + 1, cnt, y, s, k, (takeN n ai), S1, ids, by omega, by first | rfl | go_num, rfl, by go_num, by omega, HIDS, HCN, HM1, HRO8, HSE1, HNR1⟩
              case measure => simp [intOf]; omega
        · have kk1 : (ak == 1) = false := beq_eq_false_iff_ne.2 hk1
          have HK1 := Lib.hid hk1
          clear hk1
          by_cases hk2 : ak = 2
          · subst hk2
            as_aux_lemma =>
              go_upto_region 12 with fail
              try rw [HWB.out]
              try rw [HX7.out]
              clear hidx d0 d1 d2 d3 d4 d5 d6 d7 d8 d9 d10 d11 d12 d13 d14 zb
              have a0 := HAb.out.cell 0 rfl
              have a1 := HAb.out.cell 1 rfl
              have a2 := HAb.out.cell 2 rfl
              have a3 := HAb.out.cell 3 rfl
              have a4 := HAb.out.cell 4 rfl
              have a5 := HAb.out.cell 5 rfl
              have a6 := HAb.out.cell 6 rfl
              have a7 := HAb.out.cell 7 rfl
              have a8 := HAb.out.cell 8 rfl
              have a9 := HAb.out.cell 9 rfl
              have a10 := HAb.out.cell 10 rfl
              have a11 := HAb.out.cell 11 rfl
              have a12 := HAb.out.cell 12 rfl
              have a13 := HAb.out.cell 13 rfl
              have a14 := HAb.out.cell 14 rfl
              have HS := Lib.hid (nlose_any ai wb HHb.out.nt)
              have HKL := Lib.hid (peekK_le n ai)
              obtain ⟨C, hC⟩ : ∃ z, peekK n ai = z := ⟨_, rfl⟩
              have HCC := Lib.hid hC
              rw [hC] at HS HKL
              clear hC
              go_wp2_with fail
              refine HS.out.mono ?_
              rintro e wz ⟨rfl, ht⟩
              clear a0 a1 a2 a3 a4 a5 a6 a7 a8 a9 a10 a11 a12 a13 a14
              obtain ⟨S1, h1, hk1, hs1⟩ := HHb.out.call ht
              have HH1 := Lib.hid h1
              have HRO1 := Lib.hid (ownsRow_kept HROb.out hk1 (fun b hb => HNRb.out b hb))
              have HNR1 := Lib.hid (show ∀ b, (Value.slice y s k).ownBlock = some b → ¬ S1 b from fun b hb => hs1 b (HROb.out.lt b hb).2 (HNRb.out b hb))
              clear ht h1 hk1 hs1
              go_wp2_with fail
              refine (code_cerr C _ HKL.out).mono ?_
              rintro e wc ⟨rfl, rfl⟩
              by_cases hC0 : C = 0
              · subst hC0
                have HCN := Lib.hid (show cnt - 1 = ((((loseN n ai)).l.length : Nat) : Int) by rw [loseN_ok HCC.out]; exact erase_cnt HCC.out HCNT.out)
                have HSE1 := Lib.hid (show Sent (loseN n ai) ids from by rw [loseN_ok HCC.out]; exact fun q hq => HSE.out q (List.mem_of_mem_eraseIdx hq))
                have HLN := Lib.hid (show Calls Try.prog 21 #[.pointer (some ⟨g, 0, none⟩)] wz fun e w' => e = .returned (.int .i64 (cnt - 1)) ∧ wz = w' from by
                  have h9 := nlen_any wz HH1.out.nt
                  rw [← HCN.out] at h9
                  exact h9)
                have HM1 := Lib.hid (HH1.out.more (K' := i + 1) (by omega))
                go_wp2_with fail
                refine HLN.out.mono ?_
                rintro e wl ⟨rfl, rfl⟩
                go_wp2
                go_roundw
                case rel => exact ⟨i + 1, cnt - 1, y, s, k, (loseN n ai), S1, ids, by omega, by first | rfl | go_num, rfl, by go_num, by omega, HIDS, HCN, HM1, HRO1, HSE1, HNR1⟩
                case measure => simp [intOf]; omega
              · have kC : ((C : Int) == 0) = false := beq_eq_false_iff_ne.2 (by omega)
                have HSN := Lib.hid (show loseN n ai = n from loseN_no (by rw [HCC.out]; exact hC0))
                have HCN := Lib.hid (show cnt = ((((loseN n ai)).l.length : Nat) : Int) by rw [HSN.out]; exact HCNT.out)
                have HSE1 := Lib.hid (show Sent (loseN n ai) ids from by rw [HSN.out]; exact HSE.out)
                clear hC0
                have HLN := Lib.hid (show Calls Try.prog 21 #[.pointer (some ⟨g, 0, none⟩)] wz fun e w' => e = .returned (.int .i64 (cnt)) ∧ wz = w' from by
                  have h9 := nlen_any wz HH1.out.nt
                  rw [← HCN.out] at h9
                  exact h9)
                have HM1 := Lib.hid (HH1.out.more (K' := i + 1) (by omega))
                go_wp2_with fail
                refine HLN.out.mono ?_
                rintro e wl ⟨rfl, rfl⟩
                go_wp2
                go_roundw
                case rel => exact ⟨i + 1, cnt, y, s, k, (loseN n ai), S1, ids, by omega, by first | rfl | go_num, rfl, by go_num, by omega, HIDS, HCN, HM1, HRO1, HSE1, HNR1⟩
                case measure => simp [intOf]; omega
          · have kk2 : (ak == 2) = false := beq_eq_false_iff_ne.2 hk2
            have HK2 := Lib.hid hk2
            clear hk2
            by_cases hk3 : ak = 3
            · subst hk3
              as_aux_lemma =>
                go_upto_region 12 with fail
                try rw [HWB.out]
                try rw [HX7.out]
                clear hidx d0 d1 d2 d3 d4 d5 d6 d7 d8 d9 d10 d11 d12 d13 d14 zb
                have a0 := HAb.out.cell 0 rfl
                have a1 := HAb.out.cell 1 rfl
                have a2 := HAb.out.cell 2 rfl
                have a3 := HAb.out.cell 3 rfl
                have a4 := HAb.out.cell 4 rfl
                have a5 := HAb.out.cell 5 rfl
                have a6 := HAb.out.cell 6 rfl
                have a7 := HAb.out.cell 7 rfl
                have a8 := HAb.out.cell 8 rfl
                have a9 := HAb.out.cell 9 rfl
                have a10 := HAb.out.cell 10 rfl
                have a11 := HAb.out.cell 11 rfl
                have a12 := HAb.out.cell 12 rfl
                have a13 := HAb.out.cell 13 rfl
                have a14 := HAb.out.cell 14 rfl
                have HS := Lib.hid (ntwice_any ai wb HHb.out.nt)
                have HKL := Lib.hid (twiceK_le n ai)
                obtain ⟨C, hC⟩ : ∃ z, twiceK n ai = z := ⟨_, rfl⟩
                have HCC := Lib.hid hC
                rw [hC] at HS HKL
                clear hC
                go_wp2_with fail
                refine HS.out.mono ?_
                rintro e wz ⟨rfl, ht⟩
                clear a0 a1 a2 a3 a4 a5 a6 a7 a8 a9 a10 a11 a12 a13 a14
                obtain ⟨S1, h1, hk1, hs1⟩ := HHb.out.call ht
                have HH1 := Lib.hid h1
                have HRO1 := Lib.hid (ownsRow_kept HROb.out hk1 (fun b hb => HNRb.out b hb))
                have HNR1 := Lib.hid (show ∀ b, (Value.slice y s k).ownBlock = some b → ¬ S1 b from fun b hb => hs1 b (HROb.out.lt b hb).2 (HNRb.out b hb))
                clear ht h1 hk1 hs1
                go_wp2_with fail
                refine (code_cerr C _ HKL.out).mono ?_
                rintro e wc ⟨rfl, rfl⟩
                by_cases hC0 : C = 0
                · subst hC0
                  have HCN := Lib.hid (show cnt + 1 = ((((twiceN n ai)).l.length : Nat) : Int) by unfold twiceN; rw [if_pos HCC.out]; show _ = (((n.l ++ [n.l.getD ai.toNat mz]).length : Nat) : Int); rw [List.length_append, HCNT.out]; simp)
                  have HSE1 := Lib.hid (show Sent (twiceN n ai) ids from by unfold twiceN; rw [if_pos HCC.out]; exact fun q hq => (List.mem_append.1 hq).elim (HSE.out q) (fun h => by rw [List.mem_singleton.1 h]; exact HSE.out _ (getD_mem (twiceK_peek HCC.out))))
                  have HLN := Lib.hid (show Calls Try.prog 21 #[.pointer (some ⟨g, 0, none⟩)] wz fun e w' => e = .returned (.int .i64 (cnt + 1)) ∧ wz = w' from by
                    have h9 := nlen_any wz HH1.out.nt
                    rw [← HCN.out] at h9
                    exact h9)
                  have HM1 := Lib.hid (HH1.out.more (K' := i + 1) (by omega))
                  go_wp2_with fail
                  refine HLN.out.mono ?_
                  rintro e wl ⟨rfl, rfl⟩
                  go_wp2
                  go_roundw
                  case rel => exact ⟨i + 1, cnt + 1, y, s, k, (twiceN n ai), S1, ids, by omega, by first | rfl | go_num, rfl, by go_num, by omega, HIDS, HCN, HM1, HRO1, HSE1, HNR1⟩
                  case measure => simp [intOf]; omega
                · have kC : ((C : Int) == 0) = false := beq_eq_false_iff_ne.2 (by omega)
                  have HSN := Lib.hid (show twiceN n ai = n from twiceN_no (by rw [HCC.out]; exact hC0))
                  have HCN := Lib.hid (show cnt = ((((twiceN n ai)).l.length : Nat) : Int) by rw [HSN.out]; exact HCNT.out)
                  have HSE1 := Lib.hid (show Sent (twiceN n ai) ids from by rw [HSN.out]; exact HSE.out)
                  clear hC0
                  have HLN := Lib.hid (show Calls Try.prog 21 #[.pointer (some ⟨g, 0, none⟩)] wz fun e w' => e = .returned (.int .i64 (cnt)) ∧ wz = w' from by
                    have h9 := nlen_any wz HH1.out.nt
                    rw [← HCN.out] at h9
                    exact h9)
                  have HM1 := Lib.hid (HH1.out.more (K' := i + 1) (by omega))
                  go_wp2_with fail
                  refine HLN.out.mono ?_
                  rintro e wl ⟨rfl, rfl⟩
                  go_wp2
                  go_roundw
                  case rel => exact ⟨i + 1, cnt, y, s, k, (twiceN n ai), S1, ids, by omega, by first | rfl | go_num, rfl, by go_num, by omega, HIDS, HCN, HM1, HRO1, HSE1, HNR1⟩
                  case measure => simp [intOf]; omega
            · have kk3 : (ak == 3) = false := beq_eq_false_iff_ne.2 hk3
              have HK3 := Lib.hid hk3
              clear hk3
              by_cases hk4 : ak = 4
              · subst hk4
                as_aux_lemma =>
                  go_upto_region 12 with fail
                  try rw [HWB.out]
                  try rw [HX7.out]
                  clear hidx d0 d1 d2 d3 d4 d5 d6 d7 d8 d9 d10 d11 d12 d13 d14 zb
                  have a0 := HAb.out.cell 0 rfl
                  have a1 := HAb.out.cell 1 rfl
                  have a2 := HAb.out.cell 2 rfl
                  have a3 := HAb.out.cell 3 rfl
                  have a4 := HAb.out.cell 4 rfl
                  have a5 := HAb.out.cell 5 rfl
                  have a6 := HAb.out.cell 6 rfl
                  have a7 := HAb.out.cell 7 rfl
                  have a8 := HAb.out.cell 8 rfl
                  have a9 := HAb.out.cell 9 rfl
                  have a10 := HAb.out.cell 10 rfl
                  have a11 := HAb.out.cell 11 rfl
                  have a12 := HAb.out.cell 12 rfl
                  have a13 := HAb.out.cell 13 rfl
                  have a14 := HAb.out.cell 14 rfl
                  have HS := Lib.hid (ncut_any ai aK true wb HHb.out.nt (by unfold maxLen; omega) HWI.out HWK.out)
                  have HKL := Lib.hid (cutK_le ai aK)
                  go_wp2_with fail
                  refine HS.out.mono ?_
                  rintro e wz ⟨rfl, ht⟩
                  clear a0 a1 a2 a3 a4 a5 a6 a7 a8 a9 a10 a11 a12 a13 a14
                  obtain ⟨S1, h1, hk1, hs1⟩ := HHb.out.call ht
                  have HH1 := Lib.hid h1
                  have HRO1 := Lib.hid (ownsRow_kept HROb.out hk1 (fun b hb => HNRb.out b hb))
                  have HNR1 := Lib.hid (show ∀ b, (Value.slice y s k).ownBlock = some b → ¬ S1 b from fun b hb => hs1 b (HROb.out.lt b hb).2 (HNRb.out b hb))
                  clear ht h1 hk1 hs1
                  have HCN := Lib.hid (show cnt = (((cutN n ai aK true).l.length : Nat) : Int) by unfold cutN; split <;> exact HCNT.out)
                  have HSE1 := Lib.hid (show Sent (cutN n ai aK true) ids from by unfold cutN; split <;> exact HSE.out)
                  have HLN := Lib.hid (show Calls Try.prog 21 #[.pointer (some ⟨g, 0, none⟩)] wz fun e w' => e = .returned (.int .i64 (cnt)) ∧ wz = w' from by
                    have h9 := nlen_any wz HH1.out.nt
                    rw [← HCN.out] at h9
                    exact h9)
                  have HM1 := Lib.hid (HH1.out.more (K' := i + 1) (by omega))
                  go_wp2_with fail
                  refine HLN.out.mono ?_
                  rintro e wl ⟨rfl, rfl⟩
                  go_wp2
                  go_roundw
                  case rel => exact ⟨i + 1, cnt, y, s, k, (cutN n ai aK true), S1, ids, by omega, by first | rfl | go_num, rfl, by go_num, by omega, HIDS, HCN, HM1, HRO1, HSE1, HNR1⟩
                  case measure => simp [intOf]; omega
              · have kk4 : (ak == 4) = false := beq_eq_false_iff_ne.2 hk4
                have HK4 := Lib.hid hk4
                clear hk4
                as_aux_lemma =>
                  go_upto_region 12 with fail
                  try rw [HWB.out]
                  try rw [HX7.out]
                  clear hidx d0 d1 d2 d3 d4 d5 d6 d7 d8 d9 d10 d11 d12 d13 d14 zb
                  have a0 := HAb.out.cell 0 rfl
                  have a1 := HAb.out.cell 1 rfl
                  have a2 := HAb.out.cell 2 rfl
                  have a3 := HAb.out.cell 3 rfl
                  have a4 := HAb.out.cell 4 rfl
                  have a5 := HAb.out.cell 5 rfl
                  have a6 := HAb.out.cell 6 rfl
                  have a7 := HAb.out.cell 7 rfl
                  have a8 := HAb.out.cell 8 rfl
                  have a9 := HAb.out.cell 9 rfl
                  have a10 := HAb.out.cell 10 rfl
                  have a11 := HAb.out.cell 11 rfl
                  have a12 := HAb.out.cell 12 rfl
                  have a13 := HAb.out.cell 13 rfl
                  have a14 := HAb.out.cell 14 rfl
                  go_wp2_with fail
                  have HLN := Lib.hid (show Calls Try.prog 21 #[.pointer (some ⟨g, 0, none⟩)] wb fun e w' => e = .returned (.int .i64 (cnt)) ∧ wb = w' from by
                    have h9 := nlen_any wb HHb.out.nt
                    rw [← HCNT.out] at h9
                    exact h9)
                  have HM1 := Lib.hid (HHb.out.more (K' := i + 1) (by omega))
                  refine HLN.out.mono ?_
                  rintro e wl ⟨rfl, rfl⟩
                  go_wp2
                  go_roundw
                  case rel => exact ⟨i + 1, cnt, y, s, k, n, S, ids, by omega, by first | rfl | go_num, rfl, by go_num, by omega, HIDS, HCNT, HM1, HROb, HSE, HNR⟩
                  case measure => simp [intOf]; omega
    · go_wp2
      go_ret
      exact ⟨rfl, HHr.out.bel⟩

end Go.Proofs.Ytofhbnnheadmlaa
