/- IndexMerge: the walk. -/
import Derived.Test.YtglmajbpcjmakaaLaw08
namespace Go.Proofs.Ytglmajbpcjmakaa
open Go.RowKit Go.Cor

theorem PCells.below {w w' : World} {b o B : Nat} {p : Pos} (h : PCells w b o p) (hb : Below B w w') (hB : b < B) : PCells w' b o p := by
  obtain ⟨h0, h1, h2, h3, h4⟩ := h
  exact ⟨(hb.cell (by exact hB)).trans h0, (hb.cell (by exact hB)).trans h1, (hb.cell (by exact hB)).trans h2, (hb.cell (by exact hB)).trans h3, (hb.cell (by exact hB)).trans h4⟩
theorem fnd_merge (a b : List Pos) (k : Nat) : fnd (puts [] (a ++ b)) k = (fnd (puts [] b) k).or (fnd (puts [] a) k) := by
  rw [puts_append, fnd_puts (puts_asc Asc.nil a), fnd_puts0 b]
theorem merge_at {a b : List Pos} {e : Pos} (h : e ∈ puts [] (a ++ b)) : fnd (puts [] b) e.key = some e ∨ fnd (puts [] b) e.key = none ∧ fnd (puts [] a) e.key = some e := by
  have h1 := (mem_fnd (puts_asc Asc.nil _)).1 h
  rw [fnd_merge] at h1
  cases hb : fnd (puts [] b) e.key with
  | none =>
    rw [hb, Option.none_or] at h1
    exact .inr ⟨rfl, h1⟩
  | some r =>
    rw [hb, Option.some_or] at h1
    exact .inl h1
theorem merge_x {a b : List Pos} {e : Pos} (h : e ∈ puts [] a) : ∃ q, fnd (puts [] (a ++ b)) e.key = some q := by
  have h1 := (mem_fnd (puts_asc Asc.nil _)).1 h
  rw [fnd_merge, h1]
  cases hb : fnd (puts [] b) e.key with
  | none => exact ⟨e, rfl⟩
  | some r => exact ⟨r, rfl⟩
theorem merge_y {a b : List Pos} {e : Pos} (h : e ∈ puts [] b) : ∃ q, fnd (puts [] (a ++ b)) e.key = some q := by
  have h1 := (mem_fnd (puts_asc Asc.nil _)).1 h
  rw [fnd_merge, h1]
  exact ⟨e, rfl⟩
theorem merge_length (a b : List Pos) : (puts [] (a ++ b)).length ≤ (puts [] a).length + (puts [] b).length := by
  rw [← List.length_append]
  refine asc_length (puts_asc Asc.nil _) fun q hq => ?_
  rcases merge_at hq with h | h
  · exact List.mem_append_right _ ((fnd_iff (puts_asc Asc.nil b)).1 h).1
  · exact List.mem_append_left _ ((fnd_iff (puts_asc Asc.nil a)).1 h.2).1

set_option maxRecDepth 100000 in
set_option maxHeartbeats 4000000 in
theorem indexMerge_all (v u : Value) (a b : List Pos) (w : World) (hv : IsP w v a) (hu : IsP w u b) :
    Calls Try.prog 4 #[v, u] w fun e w' => e = .returned (.bool true) ∧ Below w.heap.size w w' := by
  obtain ⟨i0, hi, hz0, hz1, hz2⟩ := info_parts Try.infoPos
  obtain ⟨N, hN⟩ : ∃ N, a.length = N := ⟨_, rfl⟩
  obtain ⟨M, hM⟩ : ∃ M, b.length = M := ⟨_, rfl⟩
  have hlen := fun W => len_P (P := Try.prog) hv hN 22 3 27 Try.underlying22 W
  have hlenu := fun W => len_P (P := Try.prog) hu hM 22 3 27 Try.underlying22 W
  have HV := Lib.hid hv
  have HU := Lib.hid hu
  have HN := Lib.hid hN
  have HM := Lib.hid hM
  clear hv hu hN hM
  by_cases hbig : 40 < N
  · have hbig' : (40 : Int) < (N : Int) := by omega
    go_enter Try.func4, Try.ntmps4
    go_wp2_with (go_at_call 5; refine (alive_any _).mono ?_; rintro e w1 ⟨rfl, hb1⟩)
    go_ret
    exact ⟨rfl, hb1⟩
  have hbig' : ¬ (40 : Int) < (N : Int) := by omega
  by_cases hbig2 : 40 < M
  · have hbig2' : (40 : Int) < (M : Int) := by omega
    go_enter Try.func4, Try.ntmps4
    go_wp2_with (go_at_call 5; refine (alive_any _).mono ?_; rintro e w1 ⟨rfl, hb1⟩)
    go_ret
    exact ⟨rfl, hb1⟩
  have hbig2' : ¬ (40 : Int) < (M : Int) := by omega
  obtain ⟨A, hA⟩ : ∃ A, puts [] a = A := ⟨_, rfl⟩
  obtain ⟨B, hB⟩ : ∃ B, puts [] b = B := ⟨_, rfl⟩
  obtain ⟨Z, hZ⟩ : ∃ Z, puts [] (a ++ b) = Z := ⟨_, rfl⟩
  have HA := Lib.hid hA
  have HB := Lib.hid hB
  have HZ := Lib.hid hZ
  have hAl : A.length ≤ 40 := by
    have := length_puts [] a
    have h9 := HN.out
    rw [hA] at this
    simp at this
    omega
  have hBl : B.length ≤ 40 := by
    have := length_puts [] b
    have h9 := HM.out
    rw [hB] at this
    simp at this
    omega
  have hZl : Z.length ≤ A.length + B.length := by
    have := merge_length a b
    rw [hA, hB, hZ] at this
    exact this
  clear hA hB hZ
  go_enter Try.func4, Try.ntmps4
  go_wp2_with fail
  refine (alive_any _).mono ?_
  rintro e w1 ⟨rfl, h1⟩
  have HB1 := Lib.hid h1
  clear h1
  go_wp2_with fail
  refine (of5_any _ a _ (HV.out.mono HB1.out (Nat.le_refl _)) (by rw [HN.out]; omega)).mono ?_
  rintro e w2 ⟨v2, rfl, h1, h2⟩
  have HP2 := Lib.hid (IsP.own (ps := a) h1 rfl)
  have HB2 := Lib.hid (HB1.out.trans (h2.mono HB1.out.size))
  clear h1 h2 HB1
  go_wp2_with fail
  refine (new_any _ a _ HP2.out (by rw [HN.out]; omega)).mono ?_
  rintro e w3 ⟨gx, rfl, h1, h2⟩
  rw [HA.out] at h1
  have HX3 := Lib.hid h1
  have HB3 := Lib.hid (HB2.out.trans (h2.mono HB2.out.size))
  clear h1 h2 HB2 HP2
  go_wp2_with fail
  refine (of5_any _ b _ (HU.out.mono HB3.out (Nat.le_refl _)) (by rw [HM.out]; omega)).mono ?_
  rintro e w4 ⟨v4, rfl, h1, h2⟩
  have HP4 := Lib.hid (IsP.own (ps := b) h1 rfl)
  have HX4 := Lib.hid (HX3.out.below h2 (Nat.le_refl _))
  have HB4 := Lib.hid (HB3.out.trans (h2.mono HB3.out.size))
  clear h1 h2 HB3 HX3
  go_wp2_with fail
  refine (new_any _ b _ HP4.out (by rw [HM.out]; omega)).mono ?_
  rintro e w5 ⟨gy, rfl, h1, h2⟩
  rw [HB.out] at h1
  have HY5 := Lib.hid h1
  have HX5 := Lib.hid (HX4.out.below h2 (Nat.le_refl _))
  have HB5 := Lib.hid (HB4.out.trans (h2.mono HB4.out.size))
  clear h1 h2 HB4 HP4 HX4
  go_wp2_with fail
  refine (of5_any _ a _ (HV.out.mono HB5.out (Nat.le_refl _)) (by rw [HN.out]; omega)).mono ?_
  rintro e w6 ⟨v6, rfl, h1, h2⟩
  have HA6 := Lib.hid h1
  have HX6 := Lib.hid (HX5.out.below h2 (Nat.le_refl _))
  have HY6 := Lib.hid (HY5.out.below h2 (Nat.le_refl _))
  have HB6 := Lib.hid (HB5.out.trans (h2.mono HB5.out.size))
  have hs6 : w5.heap.size ≤ w6.heap.size := h2.size
  have HF6 := Lib.hid h2
  clear h1 h2
  go_wp2_with fail
  refine (of5_any _ b _ (HU.out.mono HB6.out (Nat.le_refl _)) (by rw [HM.out]; omega)).mono ?_
  rintro e w7 ⟨v7, rfl, h1, h2⟩
  have HP7 := Lib.hid (IsP.own (ps := b) h1 rfl)
  have HA7 := Lib.hid (ownsRow_below HA6.out h2 (Nat.le_refl _))
  have HF7 := Lib.hid (show Below w5.heap.size w5 w7 from HF6.out.trans (h2.mono hs6))
  have hs7 : w5.heap.size ≤ w7.heap.size := Nat.le_trans hs6 h2.size
  have HX7 := Lib.hid (HX6.out.below h2 (Nat.le_refl _))
  have HY7 := Lib.hid (HY6.out.below h2 (Nat.le_refl _))
  have HB7 := Lib.hid (HB6.out.trans (h2.mono HB6.out.size))
  clear h1 h2 HA6 HX6 HY6 HB6 HF6
  go_wp2_with (at_builtin; refine wpList_append_X (by rfl) _ _ 30 30 rfl (fun _ _ _ => rfl) w5.heap.size 35 i0 _ 5 32 Try.underlying30 hi hz0 hz1 hz2 rfl (by decide) _ _ _ rfl HA7.out _ _ _ rfl HP7.out (pcs_one _) ?c1 ?c2 ?c3 ?_)
  case c1 => rw [HN.out, HM.out]; unfold maxLen; omega
  case c2 => rw [HN.out, HM.out]; omega
  case c3 => exact hs7
  intro v8 w8 h1 h2 h3
  have HP8 := Lib.hid (show IsP w8 v8 (a ++ b) from IsP.own (n := a.length + b.length) (by rw [pcs_append]; exact h1) (by rw [List.length_append]))
  have hb8 : Below w5.heap.size w7 w8 := (Below.refl _ w7).grown h2 hs7 (fun k e => (HA7.out.lt k e).1)
  have HF8 := Lib.hid (HF7.out.trans hb8)
  have HX8 := Lib.hid (HX5.out.below HF8.out (Nat.le_refl _))
  have HY8 := Lib.hid (HY5.out.below HF8.out (Nat.le_refl _))
  have HB8 := Lib.hid (HB5.out.trans (HF8.out.mono HB5.out.size))
  clear h1 h2 h3 hb8 HX7 HY7 HB7 HF7 HA7 HP7 HX5 HY5 HB5 HF8
  go_wp2_with fail
  refine (new_any _ (a ++ b) _ HP8.out (by rw [List.length_append, HN.out, HM.out]; omega)).mono ?_
  rintro e w9 ⟨gz, rfl, h1, h2⟩
  rw [HZ.out] at h1
  have HZ9 := Lib.hid h1
  have HX9 := Lib.hid (HX8.out.below h2 (Nat.le_refl _))
  have HY9 := Lib.hid (HY8.out.below h2 (Nat.le_refl _))
  have HB9 := Lib.hid (HB8.out.trans (h2.mono HB8.out.size))
  clear h1 h2 HX8 HY8 HB8 HP8
  obtain ⟨vx, hx⟩ := HX9.out.ix
  obtain ⟨vy, hy⟩ := HY9.out.ix
  obtain ⟨vz, hz⟩ := HZ9.out.ix
  have HXI := Lib.hid hx
  have HYI := Lib.hid hy
  have HZI := Lib.hid hz
  clear hx hy hz HX9 HY9 HZ9
  go_wp2_with fail
  refine (all_any _ vz Z _ HZI.out (by omega)).mono ?_
  rintro e w0 ⟨vl, rfl, h1, h2⟩
  have HL := Lib.hid (IsP.own (ps := Z) h1 rfl)
  have HX := Lib.hid (HXI.out.below h2 (Nat.le_refl _))
  have HY := Lib.hid (HYI.out.below h2 (Nat.le_refl _))
  have HZX := Lib.hid (HZI.out.below h2 (Nat.le_refl _))
  have HB0 := Lib.hid (HB9.out.trans (h2.mono HB9.out.size))
  clear h1 h2 HXI HYI HZI HB9
  obtain ⟨K, hK⟩ : ∃ K, Z.length = K := ⟨_, rfl⟩
  have hlenl := fun W => len_P (P := Try.prog) HL.out hK 30 3 35 Try.underlying30 W
  rw [hK] at hZl
  have HK := Lib.hid hK
  have hgd := Try.guardPosA
  clear hK
  go_wp2_with fail
  go_loopw [9] (fun c wr => ∃ i : Nat, i ≤ K ∧ c = .int .i64 i ∧ Hid (Below w0.heap.size w0 wr)) (fun c _ => K - (intOf c).toNat)
  case atStart => exact ⟨0, Nat.zero_le _, rfl, Lib.hid (Below.refl _ _)⟩
  case round =>
    obtain ⟨i, hiK, rfl, JB⟩ := hrel
    have hs0 : w0.heap.size ≤ wr.heap.size := JB.out.size
    by_cases hlt : i < K
    · obtain ⟨p, hp⟩ : ∃ p, pat Z i = p := ⟨_, rfl⟩
      have hget : Z[i]? = some p := by rw [← hp]; exact get_pat (by rw [HK.out]; exact hlt)
      have hmg := merge_at (a := a) (b := b) (e := p) (by rw [HZ.out]; exact List.mem_of_getElem? hget)
      rw [HA.out, HB.out] at hmg
      obtain ⟨b1, o1, hidx, pc⟩ := indexAt_P HL.out 30 35 Try.underlying30 Try.sizePos i (by rw [HK.out]; exact hlt)
      rw [hp] at pc
      have hb1 := pc.lt
      have P0 := Lib.hid pc
      have he := fun W => Try.eqlPosA p p W
      simp only [ne_eq, not_true_eq_false, decide_false] at he
      have hasc : i = 0 ∨ 0 < i ∧ ∃ b2 o2 pm, (∀ W, (Instr.indexAt 30 vl (.int .i64 ((i : Int) - 1))).run Try.prog W = .ok (.pointer (some ⟨b2, o2, none⟩)) W) ∧ PCells w0 b2 o2 pm ∧ pm.key < p.key := by
        by_cases h0 : i = 0
        · exact .inl h0
        · obtain ⟨b2, o2, hidx2, pc2⟩ := indexAt_P HL.out 30 35 Try.underlying30 Try.sizePos (i - 1) (by rw [HK.out]; omega)
          rw [show ((i - 1 : Nat) : Int) = (i : Int) - 1 from by omega] at hidx2
          exact .inr ⟨by omega, b2, o2, _, hidx2, pc2, HZX.out.asc.lt (get_pat (by rw [HK.out]; omega)) hget (by omega)⟩
      have HASC := Lib.hid hasc
      obtain ⟨c0, c1, c2, c3, c4⟩ := P0.out.below JB.out hb1
      clear hp hget pc hasc
      obtain ⟨q2, q2h⟩ : ∃ q2, fnd A p.key = q2 := ⟨_, rfl⟩
      have HMG := Lib.hid hmg
      have hb1r : b1 < wr.heap.size := by omega
      clear hmg
      rcases HMG.out with hm | ⟨hm, hm2⟩
      · have HQ1 := Lib.hid hm
        have HQ2 := Lib.hid q2h
        clear hm q2h
        rcases HASC.out with h0 | ⟨h0, b2, o2, pm, hidx2, pc2, hlt2⟩
        · have hdi : decide (0 < i) = false := decide_eq_false (by omega)
          clear h0
          go_wp2_with fail
          refine (find_any _ vy B p.key _ (HY.out.below JB.out (Nat.le_refl _)) (by omega)).mono ?_
          rintro e wa ⟨rfl, h1⟩
          rw [HQ1.out, foundE_some, Option.getD_some]
          have hsa : w0.heap.size ≤ wa.heap.size := Nat.le_trans hs0 h1.size
          have JA := Lib.hid (JB.out.trans (h1.mono hs0))
          clear h1 c0 c1 c2 c3 c4
          obtain ⟨c0, c1, c2, c3, c4⟩ := P0.out.below JA.out hb1
          have JA2 := Lib.hid (JA.out.alloc hsa (.cells (pcells p).toArray 35))
          have HBX := Lib.hid (Blk.new wa (pcells p).toArray 35)
          have hb1a : b1 < wa.heap.size := by omega
          go_wp2_with fail
          refine (find_any _ vx A p.key _ (HX.out.below JA2.out (Nat.le_refl _)) (by omega)).mono ?_
          rintro e wb ⟨rfl, h1⟩
          rw [HQ2.out]
          have hsb : wa.heap.size < wb.heap.size := by have := h1.size; simp at this; omega
          have JC := Lib.hid (show Below w0.heap.size w0 wb from JA2.out.trans (h1.mono (by simp; omega)))
          have HBX2 := Lib.hid (HBX.out.below h1 (by simp))
          clear h1 c0 c1 c2 c3 c4 JA2 HBX JA
          obtain ⟨c0, c1, c2, c3, c4⟩ := P0.out.below JC.out hb1
          obtain ⟨z0, z1, z2, z3, z4, _⟩ := blk5_facts HBX2.out
          have hb1b : b1 < wb.heap.size := by omega
          have hsb2 : w0.heap.size ≤ wb.heap.size := by omega
          obtain ⟨r2, hr2⟩ : ∃ r2, q2.getD pzero = r2 := ⟨_, rfl⟩
          obtain ⟨e2, he2⟩ : ∃ e2, foundE q2 = e2 := ⟨_, rfl⟩
          rw [hr2, he2]
          clear hr2 he2
          have JD := Lib.hid (JC.out.alloc hsb2 (.cells (pcells r2).toArray 35))
          clear JC HBX2
          go_wp2
          go_quiet (first | with_reducible exact Calls.quiet_of_same ((code_nil _).mono fun e w' ⟨he, hw⟩ => ⟨he, hw.symm⟩) | with_reducible exact Calls.quiet_of_same ((code_code 6 _ (by decide) (by decide)).mono fun e w' ⟨he, hw⟩ => ⟨he, hw.symm⟩))
          have JE := Lib.hid (show Below w0.heap.size w0 ((wb.alloc (.cells (pcells r2).toArray 35)).drewN nq) from ⟨JD.out.os, JD.out.tape, JD.out.output, JD.out.size, JD.out.block⟩)
          clear c0 c1 c2 c3 c4 z0 z1 z2 z3 z4 JD
          go_wp2
          go_roundw
          case rel => exact ⟨i + 1, by omega, by go_num, JE⟩
          case measure => simp [intOf]; omega
        · have hdi : decide (0 < i) = true := decide_eq_true h0
          have hdk : decide (p.key ≤ pm.key) = false := decide_eq_false (by omega)
          have hb2 := pc2.lt
          have P2 := Lib.hid pc2
          clear pc2 hlt2
          go_wp2_with fail
          refine (find_any _ vy B p.key _ (HY.out.below JB.out (Nat.le_refl _)) (by omega)).mono ?_
          rintro e wa ⟨rfl, h1⟩
          rw [HQ1.out, foundE_some, Option.getD_some]
          have hsa : w0.heap.size ≤ wa.heap.size := Nat.le_trans hs0 h1.size
          have JA := Lib.hid (JB.out.trans (h1.mono hs0))
          clear h1 c0 c1 c2 c3 c4
          obtain ⟨c0, c1, c2, c3, c4⟩ := P0.out.below JA.out hb1
          have JA2 := Lib.hid (JA.out.alloc hsa (.cells (pcells p).toArray 35))
          have HBX := Lib.hid (Blk.new wa (pcells p).toArray 35)
          have hb1a : b1 < wa.heap.size := by omega
          go_wp2_with fail
          refine (find_any _ vx A p.key _ (HX.out.below JA2.out (Nat.le_refl _)) (by omega)).mono ?_
          rintro e wb ⟨rfl, h1⟩
          rw [HQ2.out]
          have hsb : wa.heap.size < wb.heap.size := by have := h1.size; simp at this; omega
          have JC := Lib.hid (show Below w0.heap.size w0 wb from JA2.out.trans (h1.mono (by simp; omega)))
          have HBX2 := Lib.hid (HBX.out.below h1 (by simp))
          clear h1 c0 c1 c2 c3 c4 JA2 HBX JA
          obtain ⟨c0, c1, c2, c3, c4⟩ := P0.out.below JC.out hb1
          obtain ⟨z0, z1, z2, z3, z4, _⟩ := blk5_facts HBX2.out
          have hb1b : b1 < wb.heap.size := by omega
          have hsb2 : w0.heap.size ≤ wb.heap.size := by omega
          obtain ⟨d0, d1, d2, d3, d4⟩ := P2.out.below JC.out hb2
          have hb2b : b2 < wb.heap.size := by omega
          obtain ⟨r2, hr2⟩ : ∃ r2, q2.getD pzero = r2 := ⟨_, rfl⟩
          obtain ⟨e2, he2⟩ : ∃ e2, foundE q2 = e2 := ⟨_, rfl⟩
          rw [hr2, he2]
          clear hr2 he2
          have JD := Lib.hid (JC.out.alloc hsb2 (.cells (pcells r2).toArray 35))
          clear JC HBX2
          go_wp2
          go_quiet (first | with_reducible exact Calls.quiet_of_same ((code_nil _).mono fun e w' ⟨he, hw⟩ => ⟨he, hw.symm⟩) | with_reducible exact Calls.quiet_of_same ((code_code 6 _ (by decide) (by decide)).mono fun e w' ⟨he, hw⟩ => ⟨he, hw.symm⟩))
          have JE := Lib.hid (show Below w0.heap.size w0 ((wb.alloc (.cells (pcells r2).toArray 35)).drewN nq) from ⟨JD.out.os, JD.out.tape, JD.out.output, JD.out.size, JD.out.block⟩)
          clear c0 c1 c2 c3 c4 z0 z1 z2 z3 z4 JD
          go_wp2
          go_roundw
          case rel => exact ⟨i + 1, by omega, by go_num, JE⟩
          case measure => simp [intOf]; omega
      · have HQ1 := Lib.hid hm
        have HQ2 := Lib.hid hm2
        clear hm hm2 q2h
        rcases HASC.out with h0 | ⟨h0, b2, o2, pm, hidx2, pc2, hlt2⟩
        · have hdi : decide (0 < i) = false := decide_eq_false (by omega)
          clear h0
          go_wp2_with fail
          refine (find_any _ vy B p.key _ (HY.out.below JB.out (Nat.le_refl _)) (by omega)).mono ?_
          rintro e wa ⟨rfl, h1⟩
          rw [HQ1.out, foundE_none, Option.getD_none]
          have hsa : w0.heap.size ≤ wa.heap.size := Nat.le_trans hs0 h1.size
          have JA := Lib.hid (JB.out.trans (h1.mono hs0))
          clear h1 c0 c1 c2 c3 c4
          obtain ⟨c0, c1, c2, c3, c4⟩ := P0.out.below JA.out hb1
          have JA2 := Lib.hid (JA.out.alloc hsa (.cells (pcells pzero).toArray 35))
          have HBX := Lib.hid (Blk.new wa (pcells pzero).toArray 35)
          have hb1a : b1 < wa.heap.size := by omega
          go_wp2_with fail
          refine (find_any _ vx A p.key _ (HX.out.below JA2.out (Nat.le_refl _)) (by omega)).mono ?_
          rintro e wb ⟨rfl, h1⟩
          rw [HQ2.out, foundE_some, Option.getD_some]
          have hsb : wa.heap.size < wb.heap.size := by have := h1.size; simp at this; omega
          have JC := Lib.hid (show Below w0.heap.size w0 wb from JA2.out.trans (h1.mono (by simp; omega)))
          have HBX2 := Lib.hid (HBX.out.below h1 (by simp))
          clear h1 c0 c1 c2 c3 c4 JA2 HBX JA
          obtain ⟨c0, c1, c2, c3, c4⟩ := P0.out.below JC.out hb1
          obtain ⟨z0, z1, z2, z3, z4, _⟩ := blk5_facts HBX2.out
          have hb1b : b1 < wb.heap.size := by omega
          have hsb2 : w0.heap.size ≤ wb.heap.size := by omega
          have JD := Lib.hid (JC.out.alloc hsb2 (.cells (pcells p).toArray 35))
          clear JC HBX2
          go_wp2
          go_quiet (first | with_reducible exact Calls.quiet_of_same ((code_nil _).mono fun e w' ⟨he, hw⟩ => ⟨he, hw.symm⟩) | with_reducible exact Calls.quiet_of_same ((code_code 6 _ (by decide) (by decide)).mono fun e w' ⟨he, hw⟩ => ⟨he, hw.symm⟩))
          have JE := Lib.hid (show Below w0.heap.size w0 ((wb.alloc (.cells (pcells p).toArray 35)).drewN nq) from ⟨JD.out.os, JD.out.tape, JD.out.output, JD.out.size, JD.out.block⟩)
          clear c0 c1 c2 c3 c4 z0 z1 z2 z3 z4 JD
          go_wp2
          go_roundw
          case rel => exact ⟨i + 1, by omega, by go_num, JE⟩
          case measure => simp [intOf]; omega
        · have hdi : decide (0 < i) = true := decide_eq_true h0
          have hdk : decide (p.key ≤ pm.key) = false := decide_eq_false (by omega)
          have hb2 := pc2.lt
          have P2 := Lib.hid pc2
          clear pc2 hlt2
          go_wp2_with fail
          refine (find_any _ vy B p.key _ (HY.out.below JB.out (Nat.le_refl _)) (by omega)).mono ?_
          rintro e wa ⟨rfl, h1⟩
          rw [HQ1.out, foundE_none, Option.getD_none]
          have hsa : w0.heap.size ≤ wa.heap.size := Nat.le_trans hs0 h1.size
          have JA := Lib.hid (JB.out.trans (h1.mono hs0))
          clear h1 c0 c1 c2 c3 c4
          obtain ⟨c0, c1, c2, c3, c4⟩ := P0.out.below JA.out hb1
          have JA2 := Lib.hid (JA.out.alloc hsa (.cells (pcells pzero).toArray 35))
          have HBX := Lib.hid (Blk.new wa (pcells pzero).toArray 35)
          have hb1a : b1 < wa.heap.size := by omega
          go_wp2_with fail
          refine (find_any _ vx A p.key _ (HX.out.below JA2.out (Nat.le_refl _)) (by omega)).mono ?_
          rintro e wb ⟨rfl, h1⟩
          rw [HQ2.out, foundE_some, Option.getD_some]
          have hsb : wa.heap.size < wb.heap.size := by have := h1.size; simp at this; omega
          have JC := Lib.hid (show Below w0.heap.size w0 wb from JA2.out.trans (h1.mono (by simp; omega)))
          have HBX2 := Lib.hid (HBX.out.below h1 (by simp))
          clear h1 c0 c1 c2 c3 c4 JA2 HBX JA
          obtain ⟨c0, c1, c2, c3, c4⟩ := P0.out.below JC.out hb1
          obtain ⟨z0, z1, z2, z3, z4, _⟩ := blk5_facts HBX2.out
          have hb1b : b1 < wb.heap.size := by omega
          have hsb2 : w0.heap.size ≤ wb.heap.size := by omega
          obtain ⟨d0, d1, d2, d3, d4⟩ := P2.out.below JC.out hb2
          have hb2b : b2 < wb.heap.size := by omega
          have JD := Lib.hid (JC.out.alloc hsb2 (.cells (pcells p).toArray 35))
          clear JC HBX2
          go_wp2
          go_quiet (first | with_reducible exact Calls.quiet_of_same ((code_nil _).mono fun e w' ⟨he, hw⟩ => ⟨he, hw.symm⟩) | with_reducible exact Calls.quiet_of_same ((code_code 6 _ (by decide) (by decide)).mono fun e w' ⟨he, hw⟩ => ⟨he, hw.symm⟩))
          have JE := Lib.hid (show Below w0.heap.size w0 ((wb.alloc (.cells (pcells p).toArray 35)).drewN nq) from ⟨JD.out.os, JD.out.tape, JD.out.output, JD.out.size, JD.out.block⟩)
          clear c0 c1 c2 c3 c4 z0 z1 z2 z3 z4 JD
          go_wp2
          go_roundw
          case rel => exact ⟨i + 1, by omega, by go_num, JE⟩
          case measure => simp [intOf]; omega
    · obtain rfl : K = i := by omega
      have JL := Lib.hid (show Below w0.heap.size w0 wr from JB.out)
      clear JB
      go_wp2_with fail
      refine (all_any _ vx A _ (HX.out.below JL.out (Nat.le_refl _)) (by omega)).mono ?_
      rintro e wkx ⟨vax, rfl, h1, h2⟩
      have HLx := Lib.hid (IsP.own (ps := A) h1 rfl)
      have hsx : w0.heap.size ≤ wkx.heap.size := Nat.le_trans JL.out.size h2.size
      have JKx := Lib.hid (JL.out.trans (h2.mono JL.out.size))
      clear h1 h2 JL
      obtain ⟨Kx, hKx⟩ : ∃ K, A.length = K := ⟨_, rfl⟩
      have hlenx := fun W => len_P (P := Try.prog) HLx.out hKx 30 3 35 Try.underlying30 W
      have HKx := Lib.hid hKx
      have hKxl : Kx ≤ 40 := by omega
      clear hKx
      go_wp2_with fail
      go_loopw [125] (fun c wr => ∃ i : Nat, i ≤ Kx ∧ c = .int .i64 i ∧ Hid (Below wkx.heap.size wkx wr)) (fun c _ => Kx - (intOf c).toNat)
      case atStart => exact ⟨0, Nat.zero_le _, rfl, Lib.hid (Below.refl _ _)⟩
      case round =>
        obtain ⟨i, hiK, rfl, JB⟩ := hrel
        have hs0 : wkx.heap.size ≤ wr.heap.size := JB.out.size
        by_cases hlt : i < Kx
        · obtain ⟨p, hp⟩ : ∃ p, pat A i = p := ⟨_, rfl⟩
          obtain ⟨q, hq⟩ := merge_x (a := a) (b := b) (e := p) (by rw [HA.out, ← hp]; exact pat_mem (by rw [HKx.out]; exact hlt))
          rw [HZ.out] at hq
          have HQ := Lib.hid hq
          obtain ⟨b1, o1, hidx, c0, c1, c2, c3, c4⟩ := indexAt_P (HLx.out.mono JB.out (Nat.le_refl _)) 30 35 Try.underlying30 Try.sizePos i (by rw [HKx.out]; exact hlt)
          rw [hp] at c0 c1 c2 c3 c4
          have JA := Lib.hid (JB.out.alloc hs0 (.cells (pcells p).toArray 35))
          clear hp hq
          go_wp2_with fail
          refine (find_any _ vz Z p.key _ ((HZX.out.below JKx.out (Nat.le_refl _)).below JA.out (Nat.le_refl _)) (by rw [HK.out]; omega)).mono ?_
          rintro e wa ⟨rfl, h1⟩
          rw [HQ.out, foundE_some, Option.getD_some]
          have JC := Lib.hid (show Below wkx.heap.size wkx wa from JA.out.trans (h1.mono (by simp; omega)))
          have JD := Lib.hid (JC.out.alloc JC.out.size (.cells (pcells q).toArray 35))
          clear h1 c0 c1 c2 c3 c4 hidx JA JC
          go_wp2_with (go_at_call 15; refine (code_nil _).mono ?_; rintro e w4 ⟨rfl, rfl⟩)
          go_roundw
          case rel => exact ⟨i + 1, by omega, by go_num, JD⟩
          case measure => simp [intOf]; omega
        · obtain rfl : Kx = i := by omega
          have JL := Lib.hid (JKx.out.trans (JB.out.mono hsx))
          clear JB
          go_wp2_with fail
          refine (all_any _ vy B _ (HY.out.below JL.out (Nat.le_refl _)) (by omega)).mono ?_
          rintro e wky ⟨vay, rfl, h1, h2⟩
          have HLy := Lib.hid (IsP.own (ps := B) h1 rfl)
          have hsy : w0.heap.size ≤ wky.heap.size := Nat.le_trans JL.out.size h2.size
          have JKy := Lib.hid (JL.out.trans (h2.mono JL.out.size))
          clear h1 h2 JL
          obtain ⟨Ky, hKy⟩ : ∃ K, B.length = K := ⟨_, rfl⟩
          have hleny := fun W => len_P (P := Try.prog) HLy.out hKy 30 3 35 Try.underlying30 W
          have HKy := Lib.hid hKy
          have hKyl : Ky ≤ 40 := by omega
          clear hKy
          go_wp2_with fail
          go_loopw [143] (fun c wr => ∃ i : Nat, i ≤ Ky ∧ c = .int .i64 i ∧ Hid (Below wky.heap.size wky wr)) (fun c _ => Ky - (intOf c).toNat)
          case atStart => exact ⟨0, Nat.zero_le _, rfl, Lib.hid (Below.refl _ _)⟩
          case round =>
            obtain ⟨i, hiK, rfl, JB⟩ := hrel
            have hs0 : wky.heap.size ≤ wr.heap.size := JB.out.size
            by_cases hlt : i < Ky
            · obtain ⟨p, hp⟩ : ∃ p, pat B i = p := ⟨_, rfl⟩
              obtain ⟨q, hq⟩ := merge_y (a := a) (b := b) (e := p) (by rw [HB.out, ← hp]; exact pat_mem (by rw [HKy.out]; exact hlt))
              rw [HZ.out] at hq
              have HQ := Lib.hid hq
              obtain ⟨b1, o1, hidx, c0, c1, c2, c3, c4⟩ := indexAt_P (HLy.out.mono JB.out (Nat.le_refl _)) 30 35 Try.underlying30 Try.sizePos i (by rw [HKy.out]; exact hlt)
              rw [hp] at c0 c1 c2 c3 c4
              have JA := Lib.hid (JB.out.alloc hs0 (.cells (pcells p).toArray 35))
              clear hp hq
              go_wp2_with fail
              refine (find_any _ vz Z p.key _ ((HZX.out.below JKy.out (Nat.le_refl _)).below JA.out (Nat.le_refl _)) (by rw [HK.out]; omega)).mono ?_
              rintro e wa ⟨rfl, h1⟩
              rw [HQ.out, foundE_some, Option.getD_some]
              have JC := Lib.hid (show Below wky.heap.size wky wa from JA.out.trans (h1.mono (by simp; omega)))
              have JD := Lib.hid (JC.out.alloc JC.out.size (.cells (pcells q).toArray 35))
              clear h1 c0 c1 c2 c3 c4 hidx JA JC
              go_wp2_with (go_at_call 15; refine (code_nil _).mono ?_; rintro e w4 ⟨rfl, rfl⟩)
              go_roundw
              case rel => exact ⟨i + 1, by omega, by go_num, JD⟩
              case measure => simp [intOf]; omega
            · obtain rfl : Ky = i := by omega
              have JL := Lib.hid (JKy.out.trans (JB.out.mono hsy))
              clear JB
              go_wp2_with fail
              refine (all_any _ vx A _ (HX.out.below JL.out (Nat.le_refl _)) (by omega)).mono ?_
              rintro e we ⟨ve, rfl, h1, h2⟩
              have hle := fun W => len_P (P := Try.prog) (IsP.own (ps := A) h1 rfl) HKx.out 30 3 35 Try.underlying30 W
              have JM := Lib.hid (JL.out.trans (h2.mono JL.out.size))
              clear h1 h2 JL
              go_wp2_with fail
              refine (all_any _ vy B _ (HY.out.below JM.out (Nat.le_refl _)) (by omega)).mono ?_
              rintro e wf ⟨vf, rfl, h1, h2⟩
              have hlf := fun W => len_P (P := Try.prog) (IsP.own (ps := B) h1 rfl) HKy.out 30 3 35 Try.underlying30 W
              have JO := Lib.hid (JM.out.trans (h2.mono JM.out.size))
              clear h1 h2 JM
              have hfin : (K : Int) ≤ (Kx : Int) + (Ky : Int) := by
                have h1 := HKx.out
                have h2 := HKy.out
                omega
              have hfin2 : K ≤ Kx + Ky := by omega
              go_wp2
              go_ret
              exact ⟨by simp [hfin], HB0.out.trans (JO.out.mono HB0.out.size)⟩

end Go.Proofs.Ytglmajbpcjmakaa
