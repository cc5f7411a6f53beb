/- The document's answer for layer 6, by contract; what scan.All tells of a place that is none. -/
import Derived.Test.YtdoohmhgcdcmgaaDoorAll
namespace Go.Proofs.YtdoohmhgcdcmgaaDoor
open Go.RowKit Go.Cor Go.Extern.Stop Go.Stop Go.Extern

set_option maxRecDepth 100000 in
set_option maxHeartbeats 4000000 in
theorem refall_any (v : Value) (l : List UInt8) (a : Nat) (w : World) (hv : IsB w v l) (hl : l.length ≤ 4000) (ha : a ≤ l.length) :
    Calls Tryd.prog 10 #[v, .int .i64 (a : Int)] w fun e w' =>
      ∃ (x : Option Addr) (n c z : Nat) (fs : List Fnd), e = .returned (.tuple #[.slice x n c, .int .i64 (z : Int), .int .i64 (endCode l z : Nat)]) ∧ fs.length = n ∧ IsF w' (.slice x n c) fs ∧ Path l a fs z ∧ EndsAt l z ∧ z ≤ l.length ∧ Below w.heap.size w w' := by
  obtain ⟨ip, hip, hp0, hp1, hp2⟩ := info_parts Tryd.infoFoundR
  obtain ⟨N, hN⟩ : ∃ N : Nat, l.length = N := ⟨_, rfl⟩
  have hlen := fun W => len_B (P := Tryd.prog) hv hN 22 3 5 Tryd.underlying22 W
  have HN := Lib.hid hN
  have HV := Lib.hid hv
  rw [hN] at hl ha
  clear hv hN
  go_enter Tryd.func10, Tryd.ntmps10
  go_wp2_with fail
  go_loopw [1, 7] (fun c x wr => ∃ (i : Nat) (ps : List (Fnd × Value)), i ≤ N ∧ c = .int .i64 i ∧ Hid (Path l a (ps.map (·.1)) i) ∧ Hid (RowF wr w.heap.size 44 x ps) ∧ Hid (Below w.heap.size w wr)) (fun c _ _ => N - (intOf c).toNat)
  case atStart => exact ⟨a, [], ha, rfl, Lib.hid rfl, Lib.hid (RowF.nil _ _ _), Lib.hid (Below.refl _ _)⟩
  case round =>
    obtain ⟨i, ps, hiN, rfl, hP, hR, hB⟩ := hrel
    obtain ⟨x9, c9, rfl⟩ := ownsRow_slice hR.out.1
    by_cases hlt : i < N
    · obtain ⟨sv, rsv, isv⟩ := slice_l_B (P := Tryd.prog) HV.out 22 5 Tryd.underlying22 Tryd.sizeU8 i (by rw [HN.out]; exact hiN)
      have ISV := Lib.hid (isv.mono hB.out (Nat.le_refl _))
      have hdl : (l.drop i).length ≤ 1099511627776 := by rw [List.length_drop, HN.out]; omega
      have HDL := Lib.hid hdl
      clear isv hdl
      by_cases hq : getCode (l.drop i) = 0
      · obtain ⟨F, hF⟩ : ∃ F, F = fndAt l i := ⟨_, rfl⟩
        have HPN := Lib.hid (show Path l a ((ps.map (·.1)) ++ [F]) (i + F.size) from by rw [hF]; exact hP.out.snoc (by rw [HN.out]; exact hlt) hq)
        have HE := Lib.hid (show resN (l.drop i) = F.n ∧ resK (l.drop i) = F.size from ⟨by rw [resN_ok hq, hF]; rfl, by rw [resK_ok hq, hF]; rfl⟩)
        have hfit : i + F.size ≤ N := by
          rw [hF]
          have := get_fit (l := l) (a := i) (by rw [HN.out]; exact hlt) hq
          rw [HN.out] at this
          exact this
        have h32 : 32 ≤ F.size := by rw [hF]; exact total_ge _
        have hoff : F.off = i := by rw [hF]; rfl
        have HQ := Lib.hid hq
        obtain ⟨o, s, k, cc, g, dt⟩ := F
        obtain rfl : o = i := hoff
        obtain ⟨d, hd⟩ : ∃ d : Nat, dt.length = d := ⟨_, rfl⟩
        have HD := Lib.hid hd
        have hsN : o + s ≤ N := hfit
        have hs32 : 32 ≤ s := h32
        clear hF hq hfit h32 hd
        go_wp2_with fail
        refine (refget_anyO _ (l.drop o) _ ISV.out HDL.out).mono ?_
        rintro e w2 ⟨x2, c2, rfl, hown2, hb2⟩
        rw [HE.out.1] at hown2
        rw [HE.out.1, HE.out.2, HQ.out]
        have hown : w2.ownsRow wr.heap.size 5 1 (.slice x2 dt.length c2) dt.length (bvs dt) := hown2
        rw [show nval ⟨k, cc, g, dt⟩ (.slice x2 (Ndl.data ⟨k, cc, g, dt⟩).length c2) = .agg #[.int .u64 (k : Int), .int .u32 (cc : Int), .bool g, .slice x2 d c2] from by rw [← HD.out]]
        rw [HD.out] at hown
        have HI2 := Lib.hid (IsB.own hown HD.out.symm)
        have HA2 := Lib.hid (apart_old (l := dt) hR.out hown)
        have HB2 := Lib.hid (hB.out.trans (hb2.mono hB.out.size))
        have HR2 := Lib.hid (hR.out.below hb2 (Nat.le_refl _))
        have hbx : Below w2.heap.size w2 ((w2.alloc (.cells #[.int .u64 (k : Int), .int .u32 (cc : Int), .bool g, .slice x2 d c2] 42)).alloc (.cells #[.int .i64 (o : Int), .int .i64 (s : Int), .int .u64 (k : Int), .int .u32 (cc : Int), .bool g, .slice x2 d c2] 44)) := ((Below.refl _ _).alloc (Nat.le_refl _) _).alloc (by simp) _
        have HB3 := Lib.hid (HB2.out.trans (hbx.mono HB2.out.size))
        have HR3 := Lib.hid (HR2.out.below hbx (Nat.le_refl _))
        have HI3 := Lib.hid (HI2.out.mono hbx (Nat.le_refl _))
        have hpl : ps.length ≤ 200 := by
          have := Path.len hP.out
          rw [List.length_map] at this
          omega
        have hsz : w.heap.size ≤ w2.heap.size := HB2.out.size
        clear hown hown2 hb2 hbx
        go_wp2_with (at_builtin; refine wpList_append_own_at _ rfl _ _ 31 rfl w.heap.size 44 ip _ 6 56 Tryd.underlying31 hip hp0 hp1 hp2 rfl (by decide) _ _ _ rfl HR3.out.1 ⟨w2.heap.size + 1, 0, none⟩ 1 1 (fcells ((⟨o, s, ⟨k, cc, g, dt⟩⟩ : Fnd), Value.slice x2 d c2)) rfl rfl ?c1 ?c2 ?c3 ?c4 ?c5 ?_)
        case c1 =>
          have h := cell_six_new (w2.alloc (.cells #[.int .u64 (k : Int), .int .u32 (cc : Int), .bool g, .slice x2 d c2] 42)) ((⟨o, s, ⟨k, cc, g, dt⟩⟩ : Fnd), Value.slice x2 d c2) 44
          rw [show (w2.alloc (.cells #[.int .u64 (k : Int), .int .u32 (cc : Int), .bool g, .slice x2 d c2] 42)).heap.size = w2.heap.size + 1 from by simp] at h
          exact h
        case c2 => exact HR3.out.one (p := ((⟨o, s, ⟨k, cc, g, dt⟩⟩ : Fnd), Value.slice x2 d c2)) HI3.out
        case c3 => unfold maxLen; omega
        case c4 => omega
        case c5 => simp; omega
        intro v' w4 hown' hgrow _ hat
        have HR4 := Lib.hid (RowF.app (p := ((⟨o, s, ⟨k, cc, g, dt⟩⟩ : Fnd), Value.slice x2 d c2)) HR3.out HI3.out HA2.out hown' hgrow (hat.imp id fun h => by rw [h]; simp))
        have HB4 := Lib.hid (HB3.out.grown hgrow (by simp; omega) (fun j hj => (HR3.out.1.lt j hj).1))
        clear hown' hgrow hat
        go_wp2
        go_roundw
        case rel => exact ⟨o + s, ps ++ [((⟨o, s, ⟨k, cc, g, dt⟩⟩ : Fnd), Value.slice x2 d c2)], hsN, by go_num, by rw [List.map_append]; exact HPN, HR4, HB4⟩
        case measure => simp [intOf]; omega
      · obtain ⟨q, hqq⟩ : ∃ q : Nat, getCode (l.drop i) = q := ⟨_, rfl⟩
        have h5 := getCode_le (l.drop i)
        rw [hqq] at h5 hq
        have HQ := Lib.hid hqq
        have HEN := Lib.hid (show EndsAt l i ∧ endCode l i = q from ⟨.inr ⟨by rw [HN.out]; exact hlt, by rw [hqq]; exact hq⟩, by unfold endCode; rw [if_pos (by rw [HN.out]; exact hlt)]; exact hqq⟩)
        clear hqq
        go_wp2_with fail
        refine (refget_anyO _ (l.drop i) _ ISV.out HDL.out).mono ?_
        rintro e w2 ⟨x2, c2, rfl, hown2, hb2⟩
        rw [HQ.out]
        have HB2 := Lib.hid (hB.out.trans (hb2.mono hB.out.size))
        have HR2 := Lib.hid (hR.out.below hb2 (Nat.le_refl _))
        clear hown2 hb2
        go_wp2
        have hbx : Below w2.heap.size w2 (w2.alloc (.cells #[.int .u64 ((resN (l.drop i)).key : Int), .int .u32 ((resN (l.drop i)).cookie : Int), .bool (resN (l.drop i)).gone, .slice x2 (resN (l.drop i)).data.length c2] 42)) := (Below.refl _ _).alloc (Nat.le_refl _) _
        refine bodyPost_ret (v := .tuple #[.slice x9 ps.length c9, .int .i64 (i : Int), .int .i64 (q : Int)]) (by simp [results, Tryd.results10, go_sem]) rfl ⟨x9, _, c9, i, ps.map (·.1), by rw [HEN.out.2], by simp, IsF.own (HR2.out.below hbx (Nat.le_refl _)), hP.out, HEN.out.1, by rw [HN.out]; exact hiN, HB2.out.trans (hbx.mono HB2.out.size)⟩
    · obtain rfl : i = N := by omega
      go_wp2
      have he0 : endCode l i = 0 := by unfold endCode; rw [HN.out, if_neg (Nat.lt_irrefl _)]
      refine bodyPost_ret (v := .tuple #[.slice x9 ps.length c9, .int .i64 (i : Int), .int .i64 0]) (by simp [results, Tryd.results10, go_sem]) rfl ⟨x9, _, c9, i, ps.map (·.1), by rw [he0]; rfl, by simp, IsF.own hR.out, hP.out, .inl HN.out.symm, by rw [HN.out]; exact Nat.le_refl _, hB.out⟩


/-- A place ahead of the bytes, or behind them. -/
theorem all_out (name : ByteArray) (v : Value) (l : List UInt8) (a : Int) (w : World) (hv : IsB w v l) (hl : l.length ≤ 4000) (ha : a < 0 ∨ (l.length : Int) < a) :
    Calls Tryd.prog 7 #[.string name, v, .int .i64 a] w fun e w' => e = .returned (.tuple #[.slice none 0 0, .int .i64 0, .iface 50 (.int .i64 1)]) ∧ w = w' := by
  obtain ⟨N, hN⟩ : ∃ N : Nat, l.length = N := ⟨_, rfl⟩
  have hlen := fun W => len_B (P := Tryd.prog) hv hN 22 3 5 Tryd.underlying22 W
  rw [hN] at hl ha
  clear hv hN
  by_cases h0 : a < 0
  · go_enter Tryd.func7, Tryd.ntmps7
    go_wp2
    exact bodyPost_ret (v := .tuple #[.slice none 0 0, .int .i64 0, .iface 50 (.int .i64 1)]) (by simp [results, Tryd.results7, go_sem]) rfl ⟨rfl, rfl⟩
  · have h1 : (N : Int) < a := by omega
    go_enter Tryd.func7, Tryd.ntmps7
    go_wp2
    exact bodyPost_ret (v := .tuple #[.slice none 0 0, .int .i64 0, .iface 50 (.int .i64 1)]) (by simp [results, Tryd.results7, go_sem]) rfl ⟨rfl, rfl⟩

end Go.Proofs.YtdoohmhgcdcmgaaDoor
