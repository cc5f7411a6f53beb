/- IndexPlays: the walk. -/
import Derived.Test.YtbloedaidbfehaaLaw08
namespace Go.Proofs.Ytbloedaidbfehaa
open Go.RowKit Go.Cor

theorem PCells.below {w w' : World} {b o B : Nat} {p : Pos} (h : PCells w b o p) (hb : Below B w w') (hB : b < B) : PCells w' b o p := by
  obtain ⟨h0, h1, h2, h3, h4⟩ := h
  exact ⟨(hb.cell (by exact hB)).trans h0, (hb.cell (by exact hB)).trans h1, (hb.cell (by exact hB)).trans h2, (hb.cell (by exact hB)).trans h3, (hb.cell (by exact hB)).trans h4⟩
/-- What the statement has gathered so far. -/
def soFar (l : List Pos) (J mt i : Nat) : List Pos := ((l.take i).drop J).take mt
theorem soFar_zero (l : List Pos) (J mt : Nat) : soFar l J mt 0 = [] := by simp [soFar]
theorem soFar_length {l : List Pos} {J mt i : Nat} (h : i ≤ l.length) : (soFar l J mt i).length = min mt (i - J) := by
  unfold soFar
  rw [List.length_take, List.length_drop, List.length_take, Nat.min_eq_left h]
theorem soFar_ahead {l : List Pos} {J mt i : Nat} (h : i < J) : soFar l J mt (i + 1) = soFar l J mt i := by
  unfold soFar
  rw [List.drop_of_length_le (by rw [List.length_take]; omega), List.drop_of_length_le (by rw [List.length_take]; omega)]
theorem soFar_more {l : List Pos} {J mt i : Nat} (hi : i < l.length) (h : J ≤ i) (hm : i - J < mt) : soFar l J mt (i + 1) = soFar l J mt i ++ [pat l i] := by
  unfold soFar
  have hX : ((l.take i).drop J).length = i - J := by rw [List.length_drop, List.length_take]; omega
  rw [take_snoc hi, List.drop_append_of_le_length (by rw [List.length_take]; omega), List.take_of_length_le (by rw [List.length_append, hX]; simp; omega), List.take_of_length_le (l := (l.take i).drop J) (by omega)]
theorem soFar_full {l : List Pos} {J mt i : Nat} (hi : i < l.length) (h : J ≤ i) (hm : mt ≤ i - J) : soFar l J mt (i + 1) = soFar l J mt i := by
  unfold soFar
  have hX : ((l.take i).drop J).length = i - J := by rw [List.length_drop, List.length_take]; omega
  rw [take_snoc hi, List.drop_append_of_le_length (by rw [List.length_take]; omega), List.take_append_of_le_length (by omega)]

set_option maxRecDepth 100000 in
set_option maxHeartbeats 4000000 in
theorem indexPlays_all (v : Value) (l : List Pos) (k : Nat) (most : Int) (w : World) (hv : IsP w v l) :
    Calls Try.prog 3 #[v, .int .u64 (k : Int), .int .i64 most] w fun e w' => e = .returned (.bool true) ∧ Below w.heap.size w w' := by
  obtain ⟨i0, hi, hz0, hz1, hz2⟩ := info_parts Try.infoPosR
  obtain ⟨N, hN⟩ : ∃ N, l.length = N := ⟨_, rfl⟩
  have hlen := fun W => len_P (P := Try.prog) hv hN 22 3 33 Try.underlying22 W
  have HV := Lib.hid hv
  have HN := Lib.hid hN
  clear hv hN
  by_cases hbig : 60 < N
  · have hbig' : (60 : Int) < (N : Int) := by omega
    go_enter Try.func3, Try.ntmps3
    go_wp2_with (go_at_call 7; refine (alive_any _).mono ?_; rintro e w1 ⟨rfl, hb1⟩)
    go_ret
    exact ⟨rfl, hb1⟩
  have hbig' : ¬ (60 : Int) < (N : Int) := by omega
  obtain ⟨C, hC⟩ : ∃ C, puts [] l = C := ⟨_, rfl⟩
  obtain ⟨M, hM⟩ : ∃ M, C.length = M := ⟨_, rfl⟩
  have hM60 : M ≤ 60 := by
    have := length_puts [] l
    have h9 := HN.out
    rw [hC, hM] at this
    simp at this
    omega
  have HC := Lib.hid hC
  have HM := Lib.hid hM
  have HCA := Lib.hid (show Asc C from by rw [← hC]; exact puts_asc Asc.nil l)
  clear hC hM
  go_enter Try.func3, Try.ntmps3
  go_wp2_with fail
  refine (alive_any _).mono ?_
  rintro e w1 ⟨rfl, h1⟩
  have HB1 := Lib.hid h1
  clear h1
  go_wp2_with fail
  refine (new_any _ [] _ (IsP.nil _) (by decide)).mono ?_
  rintro e w2 ⟨g, rfl, h1, h2⟩
  have HX2 := Lib.hid (show ∃ vx, At w2 g vx (puts [] (l.take 0)) ∧ ∀ k, own g vx k → w.heap.size ≤ k ∧ (Value.slice none 0 0).ownBlock ≠ some k from by
    obtain ⟨vx, k1, k2⟩ := h1
    exact ⟨vx, k1, fun k hk => ⟨Nat.le_trans HB1.out.size (k2 k hk), by simp [Value.ownBlock]⟩⟩)
  have HB2 := Lib.hid (HB1.out.trans (h2.mono HB1.out.size))
  clear h1 h2 HB1
  go_wp2_with fail
  go_loopw [8, 9] (fun o c wr => ∃ i : Nat, i ≤ N ∧ c = .int .i64 i ∧ Hid (∃ vx, At wr g vx (puts [] (l.take i)) ∧ ∀ k, own g vx k → w.heap.size ≤ k ∧ o.ownBlock ≠ some k) ∧ Hid (IsP wr o (puts [] (l.take i))) ∧ Hid (Below w.heap.size w wr) ∧ Hid (∀ k, o.ownBlock = some k → k < wr.heap.size)) (fun _ c _ => N - (intOf c).toNat)
  case atStart => exact ⟨0, Nat.zero_le _, rfl, HX2, Lib.hid (IsP.nil _), HB2, Lib.hid (fun k hk => by simp [Value.ownBlock] at hk)⟩
  case round =>
    obtain ⟨i, hiN, rfl, JX, JP, JB, JV⟩ := hrel
    by_cases hlt : i < N
    · obtain ⟨p, hp⟩ : ∃ p, pat l i = p := ⟨_, rfl⟩
      obtain ⟨b, o, hidx, pc⟩ := indexAt_P HV.out 22 33 Try.underlying22 Try.sizePosR i (by rw [HN.out]; exact hlt)
      rw [hp] at pc
      have P0 := Lib.hid pc
      have hbw := pc.lt
      obtain ⟨c0, c1, c2, c3, c4⟩ := P0.out.below JB.out hbw
      obtain ⟨cur, hcur⟩ : ∃ cur, puts [] (l.take i) = cur := ⟨_, rfl⟩
      have HT := Lib.hid (show puts [] (l.take (i + 1)) = put cur p from by rw [take_snoc (by rw [HN.out]; exact hlt), puts_snoc, hp, hcur])
      have hcl : cur.length ≤ i := by
        have := length_puts [] (l.take i)
        rw [hcur, List.length_take] at this
        simp at this
        omega
      have hpl : (put cur p).length ≤ 61 := by have := length_put_le cur p; omega
      rw [hcur] at JX JP
      obtain ⟨vx, k1, k2⟩ := JX.out
      have K1 := Lib.hid k1
      have K2 := Lib.hid k2
      clear hp pc hcur k1 k2 JX
      go_wp2_with fail
      refine (put_any g vx cur p _ K1.out (by omega)).mono ?_
      rintro e w3 ⟨rfl, vy, h1, h2, h3⟩
      have hs3 := h2.size
      have H1 := Lib.hid h1
      have HY := Lib.hid (show ∀ k, own g vy k → w.heap.size ≤ k from fun k hk => by
        rcases h3 k hk with h | h
        · exact (K2.out k h).1
        · exact Nat.le_trans JB.out.size h)
      have JP3 := Lib.hid (show IsP w3 u8 cur from IsX.kept JP.out h2 (fun k hk hs => (K2.out k hs).2 hk.2))
      have JB3 := Lib.hid (show Below w.heap.size w w3 from JB.out.trans (h2.below JB.out.size (fun k hk hs => by have := (K2.out k hs).1; omega)))
      have hasc := Lib.hid K1.out.asc
      clear h1 h2 h3 c0 c1 c2 c3 c4 JP JB K1 K2
      obtain ⟨c0, c1, c2, c3, c4⟩ := P0.out.below JB3.out hbw
      go_wp2_with fail
      refine (rput_any u8 cur p _ JP3.out hasc.out (by omega)).mono ?_
      rintro e w4 ⟨vm, rfl, h1, h2⟩
      have HM4 := Lib.hid h1
      have JB4 := Lib.hid (JB3.out.trans (h2.mono JB3.out.size))
      have hs4 := h2.size
      have HX4 := Lib.hid (show ∃ vx, At w4 g vx (put cur p) ∧ ∀ k, own g vx k → w.heap.size ≤ k ∧ vm.ownBlock ≠ some k from ⟨vy, H1.out.below h2 (Nat.le_refl _), fun k hk => ⟨HY.out k hk, fun e9 => by
        have q1 := H1.out.lt k hk
        have q2 := (h1.lt k e9).1
        omega⟩⟩)
      clear h1 h2 c0 c1 c2 c3 c4 JP3 JB3 H1 HY hasc
      obtain ⟨vx4, hx4, _⟩ := HX4.out
      have HXI := Lib.hid (Ix.at g vx4 (put cur p) hx4)
      clear hx4
      go_wp2_with (go_at_call 11; refine (code_nil _).mono ?_; rintro e w9 ⟨rfl, rfl⟩)
      refine (all_any _ vx4 _ _ HXI.out (by omega)).mono ?_
      rintro e w5 ⟨v5, rfl, h1, h2⟩
      have HP5 := Lib.hid (IsP.own (ps := put cur p) h1 rfl)
      have HF5 := Lib.hid h2
      clear h1 h2
      go_wp2_with fail
      refine (to5_any v5 _ _ HP5.out (by omega)).mono ?_
      rintro e w6 ⟨v6, rfl, h1, h2⟩
      have HP6 := Lib.hid (IsP.own (ps := put cur p) h1 rfl)
      have HF6 := Lib.hid (HF5.out.trans (h2.mono HF5.out.size))
      clear h1 h2 HP5 HF5
      go_wp2_with fail
      refine (same5_any v6 vm _ _ _ HP6.out ((IsP.own (ps := put cur p) HM4.out rfl).mono HF6.out (Nat.le_refl _)) (by omega)).mono ?_
      rintro e w7 ⟨rfl, nq, hw7⟩
      rw [decide_eq_true rfl]
      have HF7 := Lib.hid (show Below w4.heap.size w4 w7 from by rw [hw7]; exact ⟨HF6.out.os, HF6.out.tape, HF6.out.output, HF6.out.size, HF6.out.block⟩)
      clear hw7 HF6 HP6
      have JX' := Lib.hid (show ∃ vx, At w7 g vx (puts [] (l.take (i + 1))) ∧ ∀ k, own g vx k → w.heap.size ≤ k ∧ vm.ownBlock ≠ some k from by
        rw [HT.out]
        obtain ⟨vx, q1, q2⟩ := HX4.out
        exact ⟨vx, q1.below HF7.out (Nat.le_refl _), q2⟩)
      have JP' := Lib.hid (show IsP w7 vm (puts [] (l.take (i + 1))) from by rw [HT.out]; exact (IsP.own (ps := put cur p) HM4.out rfl).mono HF7.out (Nat.le_refl _))
      have JB' := Lib.hid (JB4.out.trans (HF7.out.mono JB4.out.size))
      have JV' := Lib.hid (show ∀ k, vm.ownBlock = some k → k < w7.heap.size from fun k hk => Nat.lt_of_lt_of_le (HM4.out.lt k hk).2 HF7.out.size)
      clear HX4 HXI HM4 JB4 HF7
      go_wp2
      go_roundw
      case rel => exact ⟨i + 1, by omega, by go_num, JX', JP', JB', JV'⟩
      case measure => simp [intOf]; omega
    · obtain rfl : N = i := by omega
      obtain ⟨wz, rfl⟩ : ∃ wz, wz = wr := ⟨_, rfl⟩
      have hCt : puts [] (l.take N) = C := by rw [List.take_of_length_le (by rw [HN.out]; exact Nat.le_refl _), HC.out]
      rw [hCt] at JX JP
      clear hCt
      obtain ⟨vx, k1, _⟩ := JX.out
      have HX := Lib.hid (Ix.at g vx C k1)
      obtain ⟨vm, hvm⟩ : ∃ vm, u8 = vm := ⟨_, rfl⟩
      rw [hvm] at JP
      have hlenm := fun W => len_P (P := Try.prog) JP.out HM.out 22 3 33 Try.underlying22 W
      have HB0 := JB
      clear k1 JX JV HX2 HB2 JB
      go_wp2_with fail
      refine (find_any _ vx C k _ HX.out (by rw [HM.out]; omega)).mono ?_
      rintro e w3 ⟨rfl, h1⟩
      have HF3 := Lib.hid h1
      have hs3 : wz.heap.size ≤ w3.heap.size := h1.size
      clear h1
      obtain ⟨J, hJ⟩ : ∃ J, psn C k = J := ⟨_, rfl⟩
      have HJ := Lib.hid hJ
      obtain ⟨r, hr⟩ : ∃ r, fnd C k = r := ⟨_, rfl⟩
      have HR := Lib.hid hr
      rw [hr]
      clear hJ hr
      have HF4 := Lib.hid (HF3.out.alloc hs3 (.cells (pcells (r.getD pzero)).toArray 32))
      cases r with
      | none =>
        rw [foundE_none, Option.getD_none] at *
        go_wp2_with fail
        refine (rfind_any vm C k _ (JP.out.mono HF4.out (Nat.le_refl _)) HCA.out (by rw [HM.out]; omega)).mono ?_
        rintro e w4 ⟨rfl, rfl⟩
        rw [show fidx C k = -1 from by unfold fidx; rw [HR.out]; rfl]
        go_wp2
        go_quiet (first | with_reducible exact Calls.quiet_of_same ((code_nil _).mono fun e w' ⟨he, hw⟩ => ⟨he, hw.symm⟩) | with_reducible exact Calls.quiet_of_same ((code_code 6 _ (by decide) (by decide)).mono fun e w' ⟨he, hw⟩ => ⟨he, hw.symm⟩))
        have HF5 := Lib.hid (show Below wz.heap.size wz ((w3.alloc (.cells (pcells pzero).toArray 32)).drewN nq) from ⟨HF4.out.os, HF4.out.tape, HF4.out.output, HF4.out.size, HF4.out.block⟩)
        clear HF3 HF4
        obtain ⟨mt, hmt⟩ : ∃ mt, most.toNat = mt := ⟨_, rfl⟩
        have hB0s := HB0.out.size
        go_wp2_with fail
        go_loopw [14, 15, 16] (fun o gg c wr => ∃ i n : Nat, i ≤ M ∧ n ≤ i ∧ c = .int .i64 i ∧ gg = .int .i64 n ∧ Hid (goneN (C.take i) = n) ∧ Hid (wr.ownsRow wz.heap.size 33 5 o (soFar C J mt i).length (row pcells (soFar C J mt i))) ∧ Hid (Below wz.heap.size wz wr)) (fun _ _ c _ => M - (intOf c).toNat)
        case atStart => exact ⟨0, 0, Nat.zero_le _, Nat.le_refl _, rfl, rfl, Lib.hid rfl, by rw [soFar_zero]; exact Lib.hid (World.ownsRow_nil _ _ _ _), HF5⟩
        case round =>
          clear HF5
          obtain ⟨i, n, hiM, hni, rfl, rfl, HG, HO, HB⟩ := hrel
          have hwq : wz.heap.size ≤ wr.heap.size := HB.out.size
          by_cases hlt : i < M
          · obtain ⟨p, hp⟩ : ∃ p, pat C i = p := ⟨_, rfl⟩
            have hget : C[i]? = some p := by rw [← hp]; exact get_pat (by rw [HM.out]; exact hlt)
            obtain ⟨b, o, hidx, pc⟩ := indexAt_P JP.out 22 33 Try.underlying22 Try.sizePosR i (by rw [HM.out]; exact hlt)
            rw [hp] at pc
            obtain ⟨c0, c1, c2, c3, c4⟩ := pc.below HB.out pc.lt
            have hbq : b < wr.heap.size := Nat.lt_of_lt_of_le pc.lt hwq
            have hgs := goneN_snoc (l := C) (i := i) (by rw [HM.out]; exact hlt)
            rw [HG.out, hp] at hgs
            obtain ⟨n2, hn2⟩ : ∃ n2, (soFar C J mt i).length = n2 := ⟨_, rfl⟩
            have hn2l : n2 = min mt (i - J) := by rw [← hn2]; exact soFar_length (by rw [HM.out]; omega)
            have hlenf := fun W => len_P (P := Try.prog) (IsP.own (ps := soFar C J mt i) HO.out rfl) hn2 22 3 33 Try.underlying22 W
            have P0 := Lib.hid pc
            have hbz := pc.lt
            clear pc HG
            obtain ⟨key, off, len, cookie, gone⟩ := p
            by_cases hJi : i < J
            · have hk : decide (k ≤ key) = false := decide_eq_false (by
                have := psn_below (k := k) hget (by rw [HJ.out]; exact hJi)
                simp at this
                omega)
              have HO2 := Lib.hid (show wr.ownsRow wz.heap.size 33 5 u14 (soFar C J mt (i + 1)).length (row pcells (soFar C J mt (i + 1))) from by rw [soFar_ahead hJi]; exact HO.out)
              clear hget hp HO hn2 hn2l
              cases gone with
              | true =>
                have HG2 := Lib.hid (show goneN (C.take (i + 1)) = n + 1 from hgs)
                clear hgs
                go_wp2
                go_roundw
                case rel => exact ⟨i + 1, n + 1, by omega, by omega, by go_num, by go_num, HG2, HO2, HB⟩
                case measure => simp [intOf]; omega
              | false =>
                have HG2 := Lib.hid (show goneN (C.take (i + 1)) = n from hgs)
                clear hgs
                go_wp2
                go_roundw
                case rel => exact ⟨i + 1, n, by omega, by omega, by go_num, by go_num, HG2, HO2, HB⟩
                case measure => simp [intOf]; omega
            · have hk : decide (k ≤ key) = true := decide_eq_true (by
                have := psn_above (k := k) HCA.out hget (by rw [HJ.out]; omega)
                simpa using this)
              by_cases hmm : (n2 : Int) < most
              · have HS := Lib.hid (show soFar C J mt (i + 1) = soFar C J mt i ++ [⟨key, off, len, cookie, gone⟩] from by rw [soFar_more (by rw [HM.out]; exact hlt) (by omega) (by omega), hp])
                have hd : decide ((n2 : Int) < most) = true := decide_eq_true hmm
                rw [hn2] at HO
                have HN2 := Lib.hid hn2
                have hn60 : n2 ≤ 60 := by omega
                obtain ⟨X, hX⟩ : ∃ X, row pcells (soFar C J mt i) = X := ⟨_, rfl⟩
                rw [hX] at HO
                have HXX := Lib.hid hX
                clear hget hp hn2 hn2l hX
                cases gone with
                | true =>
                  have HG2 := Lib.hid (show goneN (C.take (i + 1)) = n + 1 from hgs)
                  clear hgs
                  go_wp2_with (at_builtin; refine wpList_append_own _ rfl _ _ 22 rfl wz.heap.size 33 i0 _ 5 32 Try.underlying22 hi hz0 hz1 hz2 rfl (by decide) _ _ _ rfl (HO.out.alloc _) ⟨wr.heap.size, 0, none⟩ 1 1 (pcells ⟨key, off, len, cookie, true⟩) rfl rfl ?c1 ?c2 ?c3 ?c4 ?c5 ?_)
                  case c1 => first | exact fun j u h => h | exact cell_five_new _ ⟨key, off, len, cookie, true⟩ _
                  case c2 => exact pcells_one _
                  case c3 => unfold maxLen; omega
                  case c4 => omega
                  case c5 => first | omega | (simp; omega)
                  intro v5 w5 hown5 hgr5 _
                  have HB6 := Lib.hid ((HB.out.alloc hwq _).grown hgr5 (Nat.le_trans hwq (by simp)) (fun j hj => (HO.out.lt j hj).1))
                  have HO6 := Lib.hid (show w5.ownsRow wz.heap.size 33 5 v5 (soFar C J mt (i + 1)).length (row pcells (soFar C J mt (i + 1))) from by
                    rw [HS.out, List.length_append, HN2.out, row_append, row_one, HXX.out]
                    exact hown5)
                  clear hown5 hgr5 HO HB c0 c1 c2 c3 c4
                  obtain ⟨c0, c1, c2, c3, c4⟩ := P0.out.below HB6.out hbz
                  go_wp2
                  go_roundw
                  case rel => exact ⟨i + 1, n + 1, by omega, by omega, by go_num, by go_num, HG2, HO6, HB6⟩
                  case measure => simp [intOf]; omega
                | false =>
                  have HG2 := Lib.hid (show goneN (C.take (i + 1)) = n from hgs)
                  clear hgs
                  go_wp2_with (at_builtin; refine wpList_append_own _ rfl _ _ 22 rfl wz.heap.size 33 i0 _ 5 32 Try.underlying22 hi hz0 hz1 hz2 rfl (by decide) _ _ _ rfl (HO.out.alloc _) ⟨wr.heap.size, 0, none⟩ 1 1 (pcells ⟨key, off, len, cookie, false⟩) rfl rfl ?c1 ?c2 ?c3 ?c4 ?c5 ?_)
                  case c1 => first | exact fun j u h => h | exact cell_five_new _ ⟨key, off, len, cookie, false⟩ _
                  case c2 => exact pcells_one _
                  case c3 => unfold maxLen; omega
                  case c4 => omega
                  case c5 => first | omega | (simp; omega)
                  intro v5 w5 hown5 hgr5 _
                  have HB6 := Lib.hid ((HB.out.alloc hwq _).grown hgr5 (Nat.le_trans hwq (by simp)) (fun j hj => (HO.out.lt j hj).1))
                  have HO6 := Lib.hid (show w5.ownsRow wz.heap.size 33 5 v5 (soFar C J mt (i + 1)).length (row pcells (soFar C J mt (i + 1))) from by
                    rw [HS.out, List.length_append, HN2.out, row_append, row_one, HXX.out]
                    exact hown5)
                  clear hown5 hgr5 HO HB c0 c1 c2 c3 c4
                  obtain ⟨c0, c1, c2, c3, c4⟩ := P0.out.below HB6.out hbz
                  go_wp2
                  go_roundw
                  case rel => exact ⟨i + 1, n, by omega, by omega, by go_num, by go_num, HG2, HO6, HB6⟩
                  case measure => simp [intOf]; omega
              · have HO2 := Lib.hid (show wr.ownsRow wz.heap.size 33 5 u14 (soFar C J mt (i + 1)).length (row pcells (soFar C J mt (i + 1))) from by rw [soFar_full (by rw [HM.out]; exact hlt) (by omega) (by omega)]; exact HO.out)
                have hd : decide ((n2 : Int) < most) = false := decide_eq_false hmm
                clear hget hp HO hn2 hn2l
                cases gone with
                | true =>
                  have HG2 := Lib.hid (show goneN (C.take (i + 1)) = n + 1 from hgs)
                  clear hgs
                  go_wp2
                  go_roundw
                  case rel => exact ⟨i + 1, n + 1, by omega, by omega, by go_num, by go_num, HG2, HO2, HB⟩
                  case measure => simp [intOf]; omega
                | false =>
                  have HG2 := Lib.hid (show goneN (C.take (i + 1)) = n from hgs)
                  clear hgs
                  go_wp2
                  go_roundw
                  case rel => exact ⟨i + 1, n, by omega, by omega, by go_num, by go_num, HG2, HO2, HB⟩
                  case measure => simp [intOf]; omega
          · obtain rfl : M = i := by omega
            have hGM := HG.out
            rw [List.take_of_length_le (by rw [HM.out]; exact Nat.le_refl _)] at hGM
            have HGM := Lib.hid hGM
            have hsf : soFar C J mt M = fromL C k most := by
              unfold soFar fromL
              rw [List.take_of_length_le (l := C) (i := M) (by rw [HM.out]; exact Nat.le_refl _), HJ.out, hmt]
            rw [hsf] at HO
            have hfl : (fromL C k most).length ≤ 60 := by rw [← hsf, soFar_length (by rw [HM.out]; exact Nat.le_refl _)]; omega
            obtain ⟨FL, hFL⟩ : ∃ FL, fromL C k most = FL := ⟨_, rfl⟩
            rw [hFL] at HO hfl
            have HFL := Lib.hid hFL
            have hwB : w.heap.size ≤ wr.heap.size := Nat.le_trans hB0s hwq
            have HBw := Lib.hid (HB0.out.trans (HB.out.mono hB0s))
            clear hsf hFL hGM HG
            go_wp2_with fail
            refine (len_any _ vx C _ (HX.out.below HB.out (Nat.le_refl _)) (by rw [HM.out]; omega)).mono ?_
            rintro e wa ⟨rfl, h1⟩
            rw [HM.out, HGM.out]
            have HD1 := Lib.hid h1
            clear h1
            go_wp2_with fail
            refine (from_any _ vx C k most _ ((HX.out.below HB.out (Nat.le_refl _)).below HD1.out (Nat.le_refl _)) (by rw [HM.out]; omega)).mono ?_
            rintro e wb ⟨vf, rfl, h1, h2⟩
            rw [HFL.out] at h1
            have HP1 := Lib.hid (IsP.own (ps := FL) h1 rfl)
            have HD2 := Lib.hid (HD1.out.trans (h2.mono HD1.out.size))
            clear h1 h2 HD1
            go_wp2_with fail
            refine (to5_any vf FL _ HP1.out (by omega)).mono ?_
            rintro e wc ⟨vt, rfl, h1, h2⟩
            have HP2 := Lib.hid (IsP.own (ps := FL) h1 rfl)
            have HD3 := Lib.hid (HD2.out.trans (h2.mono HD2.out.size))
            clear h1 h2 HD2 HP1
            go_wp2_with fail
            refine (same5_any vt u14 FL FL _ HP2.out ((IsP.own (ps := FL) HO.out rfl).mono HD3.out (Nat.le_refl _)) (by omega)).mono ?_
            rintro e wd ⟨rfl, nq2, hwd⟩
            rw [decide_eq_true rfl]
            have HD4 := Lib.hid (show Below wr.heap.size wr wd from by rw [hwd]; exact ⟨HD3.out.os, HD3.out.tape, HD3.out.output, HD3.out.size, HD3.out.block⟩)
            clear hwd HD3 HP2
            go_wp2_with fail
            refine (of5_any _ l _ ((HV.out.mono HBw.out (Nat.le_refl _)).mono HD4.out (Nat.le_refl _)) (by rw [HN.out]; omega)).mono ?_
            rintro e we ⟨vo, rfl, h1, h2⟩
            have HP3 := Lib.hid (IsP.own (ps := l) h1 rfl)
            have HD5 := Lib.hid (HD4.out.trans (h2.mono HD4.out.size))
            clear h1 h2 HD4
            go_wp2_with fail
            refine (new_any _ l _ HP3.out (by rw [HN.out]; omega)).mono ?_
            rintro e wf ⟨gz, rfl, h1, h2⟩
            rw [HC.out] at h1
            obtain ⟨vz, hvz⟩ := h1.ix
            have HZ := Lib.hid hvz
            have HD6 := Lib.hid (HD5.out.trans (h2.mono HD5.out.size))
            clear h1 h2 hvz HD5 HP3
            go_wp2_with fail
            refine (all_any _ vz C _ HZ.out (by rw [HM.out]; omega)).mono ?_
            rintro e wg ⟨va, rfl, h1, h2⟩
            have HP4 := Lib.hid (IsP.own (ps := C) h1 rfl)
            have HD7 := Lib.hid (HD6.out.trans (h2.mono HD6.out.size))
            clear h1 h2 HD6 HZ
            go_wp2_with fail
            refine (to5_any va C _ HP4.out (by rw [HM.out]; omega)).mono ?_
            rintro e wh ⟨vs, rfl, h1, h2⟩
            have HP5 := Lib.hid (IsP.own (ps := C) h1 rfl)
            have HD8 := Lib.hid (HD7.out.trans (h2.mono HD7.out.size))
            clear h1 h2 HD7 HP4
            go_wp2_with fail
            refine (same5_any vs vm C C _ HP5.out ((JP.out.mono HB.out (Nat.le_refl _)).mono HD8.out (Nat.le_refl _)) (by rw [HM.out]; omega)).mono ?_
            rintro e wi ⟨rfl, nq3, hwi⟩
            rw [decide_eq_true rfl]
            have HD9 := Lib.hid (show Below w.heap.size w wi from by
              have h9 := HBw.out.trans (HD8.out.mono hwB)
              rw [hwi]
              exact ⟨h9.os, h9.tape, h9.output, h9.size, h9.block⟩)
            clear hwi HD8 HP5
            go_wp2
            go_ret
            exact ⟨rfl, HD9.out⟩
      | some q =>
        rw [foundE_some, Option.getD_some] at *
        have hat := (fnd_at HR.out).1
        rw [HJ.out] at hat
        have hJM : J < M := by rw [← HM.out]; exact (List.getElem?_eq_some_iff.1 hat).1
        obtain ⟨b, o, hidx, pc⟩ := indexAt_P JP.out 22 33 Try.underlying22 Try.sizePosR J (by rw [HM.out]; exact hJM)
        rw [pat_of hat] at pc
        have hbw := pc.lt
        obtain ⟨c0, c1, c2, c3, c4⟩ := pc.below HF3.out hbw
        have he := fun W => Try.eqlPos q q W
        have hgd := Try.guardPos
        simp only [ne_eq, not_true_eq_false, decide_false] at he
        have hb3 : b < w3.heap.size := by omega
        have hJ0 : decide ((J : Int) < 0) = false := decide_eq_false (by omega)
        have hJ1 : decide (0 ≤ (J : Int)) = true := decide_eq_true (by omega)
        have hJ2 : ¬ (J : Int) < 0 := by omega
        have HF4 := Lib.hid (show Below wz.heap.size wz (w3.alloc (.cells #[.int .u64 (q.key : Int), .int .i64 q.off, .int .i64 q.len, .int .u32 (q.cookie : Int), .bool q.gone] 32)) from HF4.out)
        clear hat pc
        go_wp2_with fail
        refine (rfind_any vm C k _ (JP.out.mono HF4.out (Nat.le_refl _)) HCA.out (by rw [HM.out]; omega)).mono ?_
        rintro e w4 ⟨rfl, rfl⟩
        rw [show fidx C k = (J : Int) from by unfold fidx; rw [HR.out, HJ.out]; rfl]
        go_wp2
        go_quiet (first | with_reducible exact Calls.quiet_of_same ((code_nil _).mono fun e w' ⟨he, hw⟩ => ⟨he, hw.symm⟩) | with_reducible exact Calls.quiet_of_same ((code_code 6 _ (by decide) (by decide)).mono fun e w' ⟨he, hw⟩ => ⟨he, hw.symm⟩))
        have HF5 := Lib.hid (show Below wz.heap.size wz ((w3.alloc (.cells #[.int .u64 (q.key : Int), .int .i64 q.off, .int .i64 q.len, .int .u32 (q.cookie : Int), .bool q.gone] 32)).drewN nq) from ⟨HF4.out.os, HF4.out.tape, HF4.out.output, HF4.out.size, HF4.out.block⟩)
        clear HF3 HF4 c0 c1 c2 c3 c4 hidx he hgd
        obtain ⟨mt, hmt⟩ : ∃ mt, most.toNat = mt := ⟨_, rfl⟩
        have hB0s := HB0.out.size
        go_wp2_with fail
        go_loopw [14, 15, 16] (fun o gg c wr => ∃ i n : Nat, i ≤ M ∧ n ≤ i ∧ c = .int .i64 i ∧ gg = .int .i64 n ∧ Hid (goneN (C.take i) = n) ∧ Hid (wr.ownsRow wz.heap.size 33 5 o (soFar C J mt i).length (row pcells (soFar C J mt i))) ∧ Hid (Below wz.heap.size wz wr)) (fun _ _ c _ => M - (intOf c).toNat)
        case atStart => exact ⟨0, 0, Nat.zero_le _, Nat.le_refl _, rfl, rfl, Lib.hid rfl, by rw [soFar_zero]; exact Lib.hid (World.ownsRow_nil _ _ _ _), HF5⟩
        case round =>
          clear HF5
          obtain ⟨i, n, hiM, hni, rfl, rfl, HG, HO, HB⟩ := hrel
          have hwq : wz.heap.size ≤ wr.heap.size := HB.out.size
          by_cases hlt : i < M
          · obtain ⟨p, hp⟩ : ∃ p, pat C i = p := ⟨_, rfl⟩
            have hget : C[i]? = some p := by rw [← hp]; exact get_pat (by rw [HM.out]; exact hlt)
            obtain ⟨b, o, hidx, pc⟩ := indexAt_P JP.out 22 33 Try.underlying22 Try.sizePosR i (by rw [HM.out]; exact hlt)
            rw [hp] at pc
            obtain ⟨c0, c1, c2, c3, c4⟩ := pc.below HB.out pc.lt
            have hbq : b < wr.heap.size := Nat.lt_of_lt_of_le pc.lt hwq
            have hgs := goneN_snoc (l := C) (i := i) (by rw [HM.out]; exact hlt)
            rw [HG.out, hp] at hgs
            obtain ⟨n2, hn2⟩ : ∃ n2, (soFar C J mt i).length = n2 := ⟨_, rfl⟩
            have hn2l : n2 = min mt (i - J) := by rw [← hn2]; exact soFar_length (by rw [HM.out]; omega)
            have hlenf := fun W => len_P (P := Try.prog) (IsP.own (ps := soFar C J mt i) HO.out rfl) hn2 22 3 33 Try.underlying22 W
            have P0 := Lib.hid pc
            have hbz := pc.lt
            clear pc HG
            obtain ⟨key, off, len, cookie, gone⟩ := p
            by_cases hJi : i < J
            · have hk : decide (k ≤ key) = false := decide_eq_false (by
                have := psn_below (k := k) hget (by rw [HJ.out]; exact hJi)
                simp at this
                omega)
              have HO2 := Lib.hid (show wr.ownsRow wz.heap.size 33 5 u14 (soFar C J mt (i + 1)).length (row pcells (soFar C J mt (i + 1))) from by rw [soFar_ahead hJi]; exact HO.out)
              clear hget hp HO hn2 hn2l
              cases gone with
              | true =>
                have HG2 := Lib.hid (show goneN (C.take (i + 1)) = n + 1 from hgs)
                clear hgs
                go_wp2
                go_roundw
                case rel => exact ⟨i + 1, n + 1, by omega, by omega, by go_num, by go_num, HG2, HO2, HB⟩
                case measure => simp [intOf]; omega
              | false =>
                have HG2 := Lib.hid (show goneN (C.take (i + 1)) = n from hgs)
                clear hgs
                go_wp2
                go_roundw
                case rel => exact ⟨i + 1, n, by omega, by omega, by go_num, by go_num, HG2, HO2, HB⟩
                case measure => simp [intOf]; omega
            · have hk : decide (k ≤ key) = true := decide_eq_true (by
                have := psn_above (k := k) HCA.out hget (by rw [HJ.out]; omega)
                simpa using this)
              by_cases hmm : (n2 : Int) < most
              · have HS := Lib.hid (show soFar C J mt (i + 1) = soFar C J mt i ++ [⟨key, off, len, cookie, gone⟩] from by rw [soFar_more (by rw [HM.out]; exact hlt) (by omega) (by omega), hp])
                have hd : decide ((n2 : Int) < most) = true := decide_eq_true hmm
                rw [hn2] at HO
                have HN2 := Lib.hid hn2
                have hn60 : n2 ≤ 60 := by omega
                obtain ⟨X, hX⟩ : ∃ X, row pcells (soFar C J mt i) = X := ⟨_, rfl⟩
                rw [hX] at HO
                have HXX := Lib.hid hX
                clear hget hp hn2 hn2l hX
                cases gone with
                | true =>
                  have HG2 := Lib.hid (show goneN (C.take (i + 1)) = n + 1 from hgs)
                  clear hgs
                  go_wp2_with (at_builtin; refine wpList_append_own _ rfl _ _ 22 rfl wz.heap.size 33 i0 _ 5 32 Try.underlying22 hi hz0 hz1 hz2 rfl (by decide) _ _ _ rfl (HO.out.alloc _) ⟨wr.heap.size, 0, none⟩ 1 1 (pcells ⟨key, off, len, cookie, true⟩) rfl rfl ?c1 ?c2 ?c3 ?c4 ?c5 ?_)
                  case c1 => first | exact fun j u h => h | exact cell_five_new _ ⟨key, off, len, cookie, true⟩ _
                  case c2 => exact pcells_one _
                  case c3 => unfold maxLen; omega
                  case c4 => omega
                  case c5 => first | omega | (simp; omega)
                  intro v5 w5 hown5 hgr5 _
                  have HB6 := Lib.hid ((HB.out.alloc hwq _).grown hgr5 (Nat.le_trans hwq (by simp)) (fun j hj => (HO.out.lt j hj).1))
                  have HO6 := Lib.hid (show w5.ownsRow wz.heap.size 33 5 v5 (soFar C J mt (i + 1)).length (row pcells (soFar C J mt (i + 1))) from by
                    rw [HS.out, List.length_append, HN2.out, row_append, row_one, HXX.out]
                    exact hown5)
                  clear hown5 hgr5 HO HB c0 c1 c2 c3 c4
                  obtain ⟨c0, c1, c2, c3, c4⟩ := P0.out.below HB6.out hbz
                  go_wp2
                  go_roundw
                  case rel => exact ⟨i + 1, n + 1, by omega, by omega, by go_num, by go_num, HG2, HO6, HB6⟩
                  case measure => simp [intOf]; omega
                | false =>
                  have HG2 := Lib.hid (show goneN (C.take (i + 1)) = n from hgs)
                  clear hgs
                  go_wp2_with (at_builtin; refine wpList_append_own _ rfl _ _ 22 rfl wz.heap.size 33 i0 _ 5 32 Try.underlying22 hi hz0 hz1 hz2 rfl (by decide) _ _ _ rfl (HO.out.alloc _) ⟨wr.heap.size, 0, none⟩ 1 1 (pcells ⟨key, off, len, cookie, false⟩) rfl rfl ?c1 ?c2 ?c3 ?c4 ?c5 ?_)
                  case c1 => first | exact fun j u h => h | exact cell_five_new _ ⟨key, off, len, cookie, false⟩ _
                  case c2 => exact pcells_one _
                  case c3 => unfold maxLen; omega
                  case c4 => omega
                  case c5 => first | omega | (simp; omega)
                  intro v5 w5 hown5 hgr5 _
                  have HB6 := Lib.hid ((HB.out.alloc hwq _).grown hgr5 (Nat.le_trans hwq (by simp)) (fun j hj => (HO.out.lt j hj).1))
                  have HO6 := Lib.hid (show w5.ownsRow wz.heap.size 33 5 v5 (soFar C J mt (i + 1)).length (row pcells (soFar C J mt (i + 1))) from by
                    rw [HS.out, List.length_append, HN2.out, row_append, row_one, HXX.out]
                    exact hown5)
                  clear hown5 hgr5 HO HB c0 c1 c2 c3 c4
                  obtain ⟨c0, c1, c2, c3, c4⟩ := P0.out.below HB6.out hbz
                  go_wp2
                  go_roundw
                  case rel => exact ⟨i + 1, n, by omega, by omega, by go_num, by go_num, HG2, HO6, HB6⟩
                  case measure => simp [intOf]; omega
              · have HO2 := Lib.hid (show wr.ownsRow wz.heap.size 33 5 u14 (soFar C J mt (i + 1)).length (row pcells (soFar C J mt (i + 1))) from by rw [soFar_full (by rw [HM.out]; exact hlt) (by omega) (by omega)]; exact HO.out)
                have hd : decide ((n2 : Int) < most) = false := decide_eq_false hmm
                clear hget hp HO hn2 hn2l
                cases gone with
                | true =>
                  have HG2 := Lib.hid (show goneN (C.take (i + 1)) = n + 1 from hgs)
                  clear hgs
                  go_wp2
                  go_roundw
                  case rel => exact ⟨i + 1, n + 1, by omega, by omega, by go_num, by go_num, HG2, HO2, HB⟩
                  case measure => simp [intOf]; omega
                | false =>
                  have HG2 := Lib.hid (show goneN (C.take (i + 1)) = n from hgs)
                  clear hgs
                  go_wp2
                  go_roundw
                  case rel => exact ⟨i + 1, n, by omega, by omega, by go_num, by go_num, HG2, HO2, HB⟩
                  case measure => simp [intOf]; omega
          · obtain rfl : M = i := by omega
            have hGM := HG.out
            rw [List.take_of_length_le (by rw [HM.out]; exact Nat.le_refl _)] at hGM
            have HGM := Lib.hid hGM
            have hsf : soFar C J mt M = fromL C k most := by
              unfold soFar fromL
              rw [List.take_of_length_le (l := C) (i := M) (by rw [HM.out]; exact Nat.le_refl _), HJ.out, hmt]
            rw [hsf] at HO
            have hfl : (fromL C k most).length ≤ 60 := by rw [← hsf, soFar_length (by rw [HM.out]; exact Nat.le_refl _)]; omega
            obtain ⟨FL, hFL⟩ : ∃ FL, fromL C k most = FL := ⟨_, rfl⟩
            rw [hFL] at HO hfl
            have HFL := Lib.hid hFL
            have hwB : w.heap.size ≤ wr.heap.size := Nat.le_trans hB0s hwq
            have HBw := Lib.hid (HB0.out.trans (HB.out.mono hB0s))
            clear hsf hFL hGM HG
            go_wp2_with fail
            refine (len_any _ vx C _ (HX.out.below HB.out (Nat.le_refl _)) (by rw [HM.out]; omega)).mono ?_
            rintro e wa ⟨rfl, h1⟩
            rw [HM.out, HGM.out]
            have HD1 := Lib.hid h1
            clear h1
            go_wp2_with fail
            refine (from_any _ vx C k most _ ((HX.out.below HB.out (Nat.le_refl _)).below HD1.out (Nat.le_refl _)) (by rw [HM.out]; omega)).mono ?_
            rintro e wb ⟨vf, rfl, h1, h2⟩
            rw [HFL.out] at h1
            have HP1 := Lib.hid (IsP.own (ps := FL) h1 rfl)
            have HD2 := Lib.hid (HD1.out.trans (h2.mono HD1.out.size))
            clear h1 h2 HD1
            go_wp2_with fail
            refine (to5_any vf FL _ HP1.out (by omega)).mono ?_
            rintro e wc ⟨vt, rfl, h1, h2⟩
            have HP2 := Lib.hid (IsP.own (ps := FL) h1 rfl)
            have HD3 := Lib.hid (HD2.out.trans (h2.mono HD2.out.size))
            clear h1 h2 HD2 HP1
            go_wp2_with fail
            refine (same5_any vt u14 FL FL _ HP2.out ((IsP.own (ps := FL) HO.out rfl).mono HD3.out (Nat.le_refl _)) (by omega)).mono ?_
            rintro e wd ⟨rfl, nq2, hwd⟩
            rw [decide_eq_true rfl]
            have HD4 := Lib.hid (show Below wr.heap.size wr wd from by rw [hwd]; exact ⟨HD3.out.os, HD3.out.tape, HD3.out.output, HD3.out.size, HD3.out.block⟩)
            clear hwd HD3 HP2
            go_wp2_with fail
            refine (of5_any _ l _ ((HV.out.mono HBw.out (Nat.le_refl _)).mono HD4.out (Nat.le_refl _)) (by rw [HN.out]; omega)).mono ?_
            rintro e we ⟨vo, rfl, h1, h2⟩
            have HP3 := Lib.hid (IsP.own (ps := l) h1 rfl)
            have HD5 := Lib.hid (HD4.out.trans (h2.mono HD4.out.size))
            clear h1 h2 HD4
            go_wp2_with fail
            refine (new_any _ l _ HP3.out (by rw [HN.out]; omega)).mono ?_
            rintro e wf ⟨gz, rfl, h1, h2⟩
            rw [HC.out] at h1
            obtain ⟨vz, hvz⟩ := h1.ix
            have HZ := Lib.hid hvz
            have HD6 := Lib.hid (HD5.out.trans (h2.mono HD5.out.size))
            clear h1 h2 hvz HD5 HP3
            go_wp2_with fail
            refine (all_any _ vz C _ HZ.out (by rw [HM.out]; omega)).mono ?_
            rintro e wg ⟨va, rfl, h1, h2⟩
            have HP4 := Lib.hid (IsP.own (ps := C) h1 rfl)
            have HD7 := Lib.hid (HD6.out.trans (h2.mono HD6.out.size))
            clear h1 h2 HD6 HZ
            go_wp2_with fail
            refine (to5_any va C _ HP4.out (by rw [HM.out]; omega)).mono ?_
            rintro e wh ⟨vs, rfl, h1, h2⟩
            have HP5 := Lib.hid (IsP.own (ps := C) h1 rfl)
            have HD8 := Lib.hid (HD7.out.trans (h2.mono HD7.out.size))
            clear h1 h2 HD7 HP4
            go_wp2_with fail
            refine (same5_any vs vm C C _ HP5.out ((JP.out.mono HB.out (Nat.le_refl _)).mono HD8.out (Nat.le_refl _)) (by rw [HM.out]; omega)).mono ?_
            rintro e wi ⟨rfl, nq3, hwi⟩
            rw [decide_eq_true rfl]
            have HD9 := Lib.hid (show Below w.heap.size w wi from by
              have h9 := HBw.out.trans (HD8.out.mono hwB)
              rw [hwi]
              exact ⟨h9.os, h9.tape, h9.output, h9.size, h9.block⟩)
            clear hwi HD8 HP5
            go_wp2
            go_ret
            exact ⟨rfl, HD9.out⟩

end Go.Proofs.Ytbloedaidbfehaa
