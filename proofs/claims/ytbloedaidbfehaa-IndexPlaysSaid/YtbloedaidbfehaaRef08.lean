/- The document's answers for the index, by contracts. -/
import Derived.Test.YtbloedaidbfehaaIdxp
namespace Go.Proofs.Ytbloedaidbfehaa
open Go.RowKit Go.Cor

theorem psn_is {l : List Pos} (hs : Asc l) {i k : Nat} {e : Pos} (h : l[i]? = some e) (hk : e.key = k) : psn l k = i := by
  have hlt := (List.getElem?_eq_some_iff.1 h).1
  by_cases h1 : i < psn l k
  · have := psn_below h h1
    omega
  · by_cases h2 : psn l k < i
    · have he : l[psn l k]? = some (pat l (psn l k)) := get_pat (by omega)
      have h3 := psn_above hs he (Nat.le_refl _)
      have h4 := hs.lt he h h2
      omega
    · omega
theorem fnd_is {l : List Pos} {i k : Nat} {e : Pos} (hs : Asc l) (h : l[i]? = some e) (hk : e.key = k) : fnd l k = some e := (fnd_iff hs).2 ⟨List.mem_of_getElem? h, hk⟩
theorem fnd_no {l : List Pos} {k : Nat} (hs : Asc l) (h : ∀ i, i < l.length → (pat l i).key ≠ k) : fnd l k = none := by
  cases hf : fnd l k with
  | none => rfl
  | some q =>
    obtain ⟨hm, hk⟩ := (fnd_iff hs).1 hf
    obtain ⟨i, hi⟩ := List.getElem?_of_mem hm
    exact absurd (by rw [pat_of hi]; exact hk) (h i (List.getElem?_eq_some_iff.1 hi).1)
/-- Where a key stands, or below 0. -/
def fidx (l : List Pos) (k : Nat) : Int := if (fnd l k).isSome then (psn l k : Int) else -1

set_option maxHeartbeats 1000000 in
theorem rfind_any (v : Value) (l : List Pos) (k : Nat) (w : World) (hv : IsP w v l) (hs : Asc l) (hl : l.length ≤ 1048576) :
    Calls Try.prog 16 #[v, .int .u64 (k : Int)] w fun e w' => e = .returned (.int .i64 (fidx l k)) ∧ w = w' := by
  obtain ⟨N, hN⟩ : ∃ N, l.length = N := ⟨_, rfl⟩
  obtain ⟨r, hr⟩ : ∃ r, fidx l k = r := ⟨_, rfl⟩
  have hlen := fun W => len_P (P := Try.prog) hv hN 22 3 _ Try.underlying22 W
  have HV := Lib.hid hv
  rw [hN] at hl
  rw [hr]
  have HN := Lib.hid hN
  have HR := Lib.hid hr
  clear hv hN hr
  go_enter Try.func16, Try.ntmps16
  go_wp2
  go_loop [5] (fun c => ∃ i : Nat, i ≤ N ∧ c = .int .i64 i ∧ Hid (∀ j, j < i → (pat l j).key ≠ k)) (fun c => N - (intOf c).toNat)
  case atStart => exact ⟨0, Nat.zero_le _, rfl, Lib.hid (fun j hj => absurd hj (Nat.not_lt_zero j))⟩
  case round =>
    obtain ⟨i, hiN, rfl, HJ⟩ := hrel
    by_cases hlt : i < N
    · obtain ⟨p, hp⟩ : ∃ p, pat l i = p := ⟨_, rfl⟩
      obtain ⟨b, o, hidx, c0, c1, c2, c3, c4⟩ := indexAt_P HV.out 22 33 Try.underlying22 Try.sizePosR i (by rw [HN.out]; omega)
      rw [hp] at c0 c1 c2 c3 c4
      have hget : l[i]? = some p := by rw [← hp]; exact get_pat (by rw [HN.out]; exact hlt)
      by_cases hk : p.key = k
      · obtain rfl : r = (i : Int) := by
          rw [← HR.out]
          unfold fidx
          rw [fnd_is hs hget hk, psn_is hs hget hk]
          rfl
        have hb : ((p.key : Int) == (k : Int)) = true := by rw [beq_iff_eq]; omega
        clear hk hget hp
        go_wp2
        go_ret
        exact ⟨rfl, rfl⟩
      · have hb : ((p.key : Int) == (k : Int)) = false := by rw [beq_eq_false_iff_ne]; omega
        have HJ2 := Lib.hid (show ∀ j, j < i + 1 → (pat l j).key ≠ k from fun j hj => by
          by_cases h : j < i
          · exact HJ.out j h
          · obtain rfl : j = i := by omega
            rw [hp]
            exact hk)
        clear hk hget hp
        go_wp2
        go_round
        case rel => exact ⟨i + 1, by omega, by go_num, HJ2⟩
        case measure => simp [intOf]; omega
    · obtain rfl : i = N := by omega
      obtain rfl : r = -1 := by
        rw [← HR.out]
        unfold fidx
        rw [fnd_no hs (fun j hj => HJ.out j (by rw [← HN.out]; exact hj))]
        rfl
      go_wp2
      go_ret
      exact ⟨rfl, rfl⟩

/-- A put, in two parts. -/
def thereN (l : List Pos) (k : Nat) : Nat := if (fnd l k).isSome then 1 else 0
theorem put_parts (l : List Pos) (p : Pos) : put l p = l.take (psn l p.key) ++ p :: l.drop (psn l p.key + thereN l p.key) := by
  unfold thereN
  cases h : fnd l p.key with
  | none => rw [put_new h]; rfl
  | some q =>
    have hlt := (List.getElem?_eq_some_iff.1 (fnd_at h).1).1
    rw [put_there h, List.set_eq_take_append_cons_drop, if_pos hlt]
    rfl

set_option maxRecDepth 100000 in
set_option maxHeartbeats 2000000 in
theorem rput_any (v : Value) (l : List Pos) (p : Pos) (w : World) (hv : IsP w v l) (hs : Asc l) (hl : l.length < 4096) :
    Calls Try.prog 10 #[v, pval p] w fun e w' =>
      ∃ v', e = .returned (.tuple #[v', .bool true]) ∧ w'.ownsRow w.heap.size 33 5 v' (put l p).length (row pcells (put l p)) ∧ Below w.heap.size w w' := by
  obtain ⟨i0, hi, hz0, hz1, hz2⟩ := info_parts Try.infoPosR
  obtain ⟨N, hN⟩ : ∃ N, l.length = N := ⟨_, rfl⟩
  obtain ⟨J, hJ⟩ : ∃ J, psn l p.key = J := ⟨_, rfl⟩
  obtain ⟨T, hT⟩ : ∃ T, thereN l p.key = T := ⟨_, rfl⟩
  have hJN := psn_le l p.key
  have hlen := fun W => len_P (P := Try.prog) hv hN 22 3 _ Try.underlying22 W
  have HV := Lib.hid hv
  have HP := Lib.hid (put_parts l p)
  rw [hN] at hl hJN
  rw [hJ] at hJN
  have hl' : ¬ ((4096 : Int) ≤ (N : Int)) := by omega
  have HN := Lib.hid hN
  have HJ := Lib.hid hJ
  have HT := Lib.hid hT
  have hb1 := (Below.refl w.heap.size w).alloc (Nat.le_refl _) (.cells #[.int .u64 (p.key : Int), .int .i64 p.off, .int .i64 p.len, .int .u32 (p.cookie : Int), .bool p.gone] 33)
  have hq := Blk.new w #[.int .u64 (p.key : Int), .int .i64 p.off, .int .i64 p.len, .int .u32 (p.cookie : Int), .bool p.gone] 33
  clear hv hN hJ hT
  go_enter Try.func10, Try.ntmps10
  go_wp2_with fail
  refine (rfind_any v l p.key _ (HV.out.mono hb1 (Nat.le_refl _)) hs (by rw [HN.out]; omega)).mono ?_
  rintro e w1 ⟨rfl, rfl⟩
  obtain ⟨w1, hw1⟩ : ∃ w1, w.alloc (.cells #[.int .u64 (p.key : Int), .int .i64 p.off, .int .i64 p.len, .int .u32 (p.cookie : Int), .bool p.gone] 33) = w1 := ⟨_, rfl⟩
  obtain ⟨B1, hBB⟩ : ∃ B1, w1.heap.size = B1 := ⟨_, rfl⟩
  have HS1 := Lib.hid (show B1 = w.heap.size + 1 from by rw [← hBB, ← hw1]; simp)
  have HSB := Lib.hid hBB
  have HSL := Lib.hid (show w.heap.size ≤ B1 from by rw [HS1.out]; exact Nat.le_succ _)
  rw [hw1] at hb1 hq ⊢
  have HB1 := Lib.hid hb1
  have HQ := Lib.hid hq
  clear hb1 hq hw1 hBB
  obtain ⟨F, hF⟩ : ∃ F, fidx l p.key = F := ⟨_, rfl⟩
  rw [hF]
  clear hF
  by_cases hF : F < 0
  all_goals
    go_wp2
    go_loopw [6, 7] (fun o k wr => ∃ i : Nat, i ≤ J ∧ k = .int .i64 i ∧ Hid (wr.ownsRow B1 33 5 o i (row pcells (l.take i))) ∧ Hid (Below B1 w1 wr)) (fun _ k _ => N - (intOf k).toNat)
    case atStart => exact ⟨0, Nat.zero_le _, rfl, Lib.hid (World.ownsRow_nil _ _ _ _), Lib.hid (Below.refl _ _)⟩
    case round =>
      obtain ⟨i, hiJ, rfl, HO, HB⟩ := hrel
      obtain ⟨q0, q1, q2, q3, q4, _⟩ := blk5_facts (HQ.out.below HB.out (by rw [HS1.out]; exact Nat.lt_succ_self _))
      by_cases hlt : i < J
      · obtain ⟨e, he⟩ : ∃ e, pat l i = e := ⟨_, rfl⟩
        obtain ⟨b, o, hidx, c0, c1, c2, c3, c4⟩ := indexAt_P ((HV.out.mono HB1.out (Nat.le_refl _)).mono HB.out (by rw [HSB.out]; exact Nat.le_refl _)) 22 33 Try.underlying22 Try.sizePosR i (by rw [HN.out]; omega)
        rw [he] at c0 c1 c2 c3 c4
        have hk : decide (e.key < p.key) = true := decide_eq_true (by
          have := psn_below (k := p.key) (get_pat (ps := l) (i := i) (by rw [HN.out]; omega)) (by rw [HJ.out]; exact hlt)
          rw [he] at this
          omega)
        have hiN : decide (i < N) = true := decide_eq_true (by omega)
        have HPT := Lib.hid (show row pcells (l.take (i + 1)) = row pcells (l.take i) ++ pcells e from by rw [take_snoc (by rw [HN.out]; omega), row_append, row_one, he])
        obtain ⟨X, hX⟩ : ∃ X, X = row pcells (l.take i) := ⟨_, rfl⟩
        rw [← hX] at HO HPT
        clear hX he
        go_wp2
        go_quiet (fail)
        have HO5 := Lib.hid (show (wr.drewN nq).ownsRow B1 33 5 u6 i X from HO.out)
        have HB5 := Lib.hid (show Below B1 w1 (wr.drewN nq) from ⟨HB.out.os, HB.out.tape, HB.out.output, HB.out.size, HB.out.block⟩)
        have HZ5 := Lib.hid (show B1 ≤ (wr.drewN nq).heap.size from by rw [← HSB.out]; exact HB5.out.size)
        clear HO HB
        go_wp2_with (at_builtin; refine wpList_append_own _ rfl _ _ 22 rfl B1 33 i0 _ 5 32 Try.underlying22 hi hz0 hz1 hz2 rfl (by decide) _ _ _ rfl (HO5.out.alloc _) ⟨wr.heap.size, 0, none⟩ 1 1 (pcells e) rfl rfl ?c1 ?c2 ?c3 ?c4 ?c5 ?_)
        case c1 => exact cell_five_new _ e _
        case c2 => exact pcells_one e
        case c3 => unfold maxLen; omega
        case c4 => omega
        case c5 => exact Nat.le_trans HZ5.out (by simp)
        intro v5 w5 hown5 hgrow5 _
        have HB6 := Lib.hid ((HB5.out.alloc HZ5.out _).grown hgrow5 (Nat.le_trans HZ5.out (by simp)) (fun j hj => (HO5.out.lt j hj).1))
        have HO6 := Lib.hid (show w5.ownsRow B1 33 5 v5 (i + 1) (row pcells (l.take (i + 1))) from by rw [HPT.out]; exact hown5)
        clear hown5 hgrow5 q0 q1 q2 q3 q4 c0 c1 c2 c3 c4 hidx HO5 HB5
        go_wp2
        go_roundw
        case rel => exact ⟨i + 1, by omega, by go_num, HO6, HB6⟩
        case measure => simp [intOf]; omega
      · obtain rfl : i = J := by omega
        by_cases hJN2 : i < N
        · obtain ⟨e, he⟩ : ∃ e, pat l i = e := ⟨_, rfl⟩
          obtain ⟨b, o, hidx, c0, c1, c2, c3, c4⟩ := indexAt_P ((HV.out.mono HB1.out (Nat.le_refl _)).mono HB.out (by rw [HSB.out]; exact Nat.le_refl _)) 22 33 Try.underlying22 Try.sizePosR i (by rw [HN.out]; omega)
          rw [he] at c0 c1 c2 c3 c4
          have hk : decide (e.key < p.key) = false := decide_eq_false (by
            have := psn_above (k := p.key) hs (get_pat (ps := l) (i := i) (by rw [HN.out]; omega)) (by rw [HJ.out]; exact Nat.le_refl _)
            rw [he] at this
            omega)
          have hiN : decide (i < N) = true := decide_eq_true (by omega)
          clear he
          go_wp2
          go_quiet (fail)
          clear hidx c0 c1 c2 c3 c4 hk hiN
          have HO5 := Lib.hid (show (wr.drewN nq).ownsRow B1 33 5 u6 i (row pcells (l.take i)) from HO.out)
          have HB5 := Lib.hid (show Below B1 w1 (wr.drewN nq) from ⟨HB.out.os, HB.out.tape, HB.out.output, HB.out.size, HB.out.block⟩)
          have HZ5 := Lib.hid (show B1 ≤ (wr.drewN nq).heap.size from by rw [← HSB.out]; exact HB5.out.size)
          clear HO HB
          obtain ⟨X, hX⟩ : ∃ X, X = row pcells (l.take i) := ⟨_, rfl⟩
          rw [← hX] at HO5
          have HX := Lib.hid hX
          clear hX
          go_wp2_with (at_builtin; refine wpList_append_own _ rfl _ _ 22 rfl B1 33 i0 _ 5 32 Try.underlying22 hi hz0 hz1 hz2 rfl (by decide) _ _ _ rfl (HO5.out.alloc _) ⟨wr.heap.size, 0, none⟩ 1 1 (pcells p) rfl rfl ?c1 ?c2 ?c3 ?c4 ?c5 ?_)
          case c1 => exact cell_five_new _ p _
          case c2 => exact pcells_one p
          case c3 => unfold maxLen; omega
          case c4 => omega
          case c5 => exact Nat.le_trans HZ5.out (by simp)
          intro v5 w5 hown5 hgrow5 _
          have HB6 := Lib.hid ((HB5.out.alloc HZ5.out _).grown hgrow5 (Nat.le_trans HZ5.out (by simp)) (fun j hj => (HO5.out.lt j hj).1))
          have HO6 := Lib.hid (show w5.ownsRow B1 33 5 v5 (i + 1) (row pcells (l.take i ++ [p] ++ (l.take i).drop (i + T))) from by
            rw [List.drop_of_length_le (by rw [List.length_take]; omega), List.append_nil, row_append, row_one, ← HX.out]
            exact hown5)
          clear hown5 hgrow5 HO5 HB5 q0 q1 q2 q3 q4
          go_wp2
          go_loopw [6, 7] (fun o k wr => ∃ m : Nat, i ≤ m ∧ m ≤ N ∧ k = .int .i64 m ∧ Hid (wr.ownsRow B1 33 5 o (i + 1 + (m - (i + T))) (row pcells (l.take i ++ [p] ++ (l.take m).drop (i + T)))) ∧ Hid (Below B1 w1 wr)) (fun _ k _ => N - (intOf k).toNat)
          case atStart => exact ⟨i, Nat.le_refl _, hJN, rfl, by rw [show i - (i + T) = 0 from by omega]; exact HO6, HB6⟩
          case round =>
            clear HO6 HB6
            obtain ⟨m, him, hmN, rfl, HO, HB⟩ := hrel
            obtain ⟨q0, q1, q2, q3, q4, _⟩ := blk5_facts (HQ.out.below HB.out (by rw [HS1.out]; exact Nat.lt_succ_self _))
            by_cases hlt : m < N
            · obtain ⟨e, he⟩ : ∃ e, pat l m = e := ⟨_, rfl⟩
              obtain ⟨b, o, hidx, c0, c1, c2, c3, c4⟩ := indexAt_P ((HV.out.mono HB1.out (Nat.le_refl _)).mono HB.out (by rw [HSB.out]; exact Nat.le_refl _)) 22 33 Try.underlying22 Try.sizePosR m (by rw [HN.out]; omega)
              rw [he] at c0 c1 c2 c3 c4
              have hget : l[m]? = some e := by rw [← he]; exact get_pat (by rw [HN.out]; exact hlt)
              by_cases hk : e.key = p.key
              · have hmi : m = i := (psn_is hs hget hk).symm.trans HJ.out
                have hT1 : T = 1 := by
                  rw [← HT.out]
                  unfold thereN
                  rw [fnd_is hs hget hk]
                  rfl
                have hb : ((e.key : Int) != (p.key : Int)) = false := by rw [bne_eq_false_iff_eq]; omega
                have HO6 := Lib.hid (show wr.ownsRow B1 33 5 u6 (i + 1 + (m + 1 - (i + T))) (row pcells (l.take i ++ [p] ++ (l.take (m + 1)).drop (i + T))) from by
                  have h9 := HO.out
                  rw [List.drop_of_length_le (by rw [List.length_take]; omega)] at h9 ⊢
                  rw [show i + 1 + (m + 1 - (i + T)) = i + 1 + (m - (i + T)) from by omega]
                  exact h9)
                have HB6 := HB
                clear hk hget he HO hmi hT1
                go_wp2
                go_quiet (fail)
                have HO7 := Lib.hid (show (wr.drewN nq).ownsRow B1 33 5 u6 (i + 1 + (m + 1 - (i + T))) (row pcells (l.take i ++ [p] ++ (l.take (m + 1)).drop (i + T))) from HO6.out)
                have HB7 := Lib.hid (show Below B1 w1 (wr.drewN nq) from ⟨HB6.out.os, HB6.out.tape, HB6.out.output, HB6.out.size, HB6.out.block⟩)
                clear HO6 HB6
                go_wp2
                go_roundw
                case rel => exact ⟨m + 1, by omega, by omega, by go_num, HO7, HB7⟩
                case measure => simp [intOf]; omega
              · have hmT : i + T ≤ m := by
                  have h8 := HT.out
                  unfold thereN at h8
                  cases hf : fnd l p.key with
                  | none =>
                    rw [hf] at h8
                    have h9 : T = 0 := h8.symm
                    omega
                  | some q =>
                    rw [hf] at h8
                    have h9 : T = 1 := h8.symm
                    have h7 := fnd_at hf
                    rw [HJ.out] at h7
                    by_cases hmi : m = i
                    · rw [← hmi, hget] at h7
                      exact absurd (by rw [Option.some.inj h7.1]; exact h7.2) hk
                    · omega
                have hb : ((e.key : Int) != (p.key : Int)) = true := by rw [bne_iff_ne]; omega
                have HPT := Lib.hid (show row pcells (l.take i ++ [p] ++ (l.take (m + 1)).drop (i + T)) = row pcells (l.take i ++ [p] ++ (l.take m).drop (i + T)) ++ pcells e from by
                  rw [take_snoc (by rw [HN.out]; omega), List.drop_append_of_le_length (by rw [List.length_take, HN.out]; omega), ← List.append_assoc, row_append, row_one, he])
                obtain ⟨Y, hY⟩ : ∃ Y, Y = row pcells (l.take i ++ [p] ++ (l.take m).drop (i + T)) := ⟨_, rfl⟩
                rw [← hY] at HO HPT
                obtain ⟨n5, hn5⟩ : ∃ n5, i + 1 + (m - (i + T)) = n5 := ⟨_, rfl⟩
                have HN5 := Lib.hid (show i + 1 + (m + 1 - (i + T)) = n5 + 1 from by omega)
                have hn5l : n5 ≤ 8192 := by omega
                rw [hn5] at HO
                clear hk hget he hmT hY hn5
                go_wp2
                go_quiet (fail)
                have HO5 := Lib.hid (show (wr.drewN nq).ownsRow B1 33 5 u6 n5 Y from HO.out)
                have HB5 := Lib.hid (show Below B1 w1 (wr.drewN nq) from ⟨HB.out.os, HB.out.tape, HB.out.output, HB.out.size, HB.out.block⟩)
                have HZ5 := Lib.hid (show B1 ≤ (wr.drewN nq).heap.size from by rw [← HSB.out]; exact HB5.out.size)
                clear HO HB
                go_wp2_with (at_builtin; refine wpList_append_own _ rfl _ _ 22 rfl B1 33 i0 _ 5 32 Try.underlying22 hi hz0 hz1 hz2 rfl (by decide) _ _ _ rfl (HO5.out.alloc _) ⟨wr.heap.size, 0, none⟩ 1 1 (pcells e) rfl rfl ?c1 ?c2 ?c3 ?c4 ?c5 ?_)
                case c1 => exact cell_five_new _ e _
                case c2 => exact pcells_one e
                case c3 => unfold maxLen; omega
                case c4 => omega
                case c5 => exact Nat.le_trans HZ5.out (by simp)
                intro v5 w5 hown5 hgrow5 _
                have HB6 := Lib.hid ((HB5.out.alloc HZ5.out _).grown hgrow5 (Nat.le_trans HZ5.out (by simp)) (fun j hj => (HO5.out.lt j hj).1))
                have HO6 := Lib.hid (show w5.ownsRow B1 33 5 v5 (i + 1 + (m + 1 - (i + T))) (row pcells (l.take i ++ [p] ++ (l.take (m + 1)).drop (i + T))) from by rw [HPT.out, HN5.out]; exact hown5)
                clear hown5 hgrow5 q0 q1 q2 q3 q4 c0 c1 c2 c3 c4 hidx HO5 HB5
                go_wp2
                go_roundw
                case rel =>
                  exact ⟨m + 1, by omega, by omega, by go_num, HO6, HB6⟩
                case measure => simp [intOf]; omega
            · obtain rfl : m = N := by omega
              have HO6 := Lib.hid (show wr.ownsRow w.heap.size 33 5 u6 (put l p).length (row pcells (put l p)) from by
                have h9 := HO.out
                rw [List.take_of_length_le (l := l) (i := m) (by rw [HN.out]; exact Nat.le_refl _), List.append_assoc] at h9
                have h8 := HP.out
                rw [HJ.out, HT.out] at h8
                have h7 : (put l p).length = i + 1 + (m - (i + T)) := by
                  rw [h8]
                  have h6 := HN.out
                  simp only [List.length_append, List.length_take, List.length_cons, List.length_drop, h6]
                  omega
                rw [h7, h8]
                exact ownsRow_base h9 HSL.out)
              have HB6 := Lib.hid (HB1.out.trans (HB.out.mono HSL.out))
              clear HO HB
              go_wp2
              go_ret2
              exact ⟨_, rfl, HO6.out, HB6.out⟩
        · have hiN : decide (i < N) = false := decide_eq_false hJN2
          go_wp2
          go_quiet (fail)
          clear hiN
          have HO5 := Lib.hid (show (wr.drewN nq).ownsRow B1 33 5 u6 i (row pcells (l.take i)) from HO.out)
          have HB5 := Lib.hid (show Below B1 w1 (wr.drewN nq) from ⟨HB.out.os, HB.out.tape, HB.out.output, HB.out.size, HB.out.block⟩)
          have HZ5 := Lib.hid (show B1 ≤ (wr.drewN nq).heap.size from by rw [← HSB.out]; exact HB5.out.size)
          clear HO HB
          obtain ⟨X, hX⟩ : ∃ X, X = row pcells (l.take i) := ⟨_, rfl⟩
          rw [← hX] at HO5
          have HX := Lib.hid hX
          clear hX
          go_wp2_with (at_builtin; refine wpList_append_own _ rfl _ _ 22 rfl B1 33 i0 _ 5 32 Try.underlying22 hi hz0 hz1 hz2 rfl (by decide) _ _ _ rfl (HO5.out.alloc _) ⟨wr.heap.size, 0, none⟩ 1 1 (pcells p) rfl rfl ?c1 ?c2 ?c3 ?c4 ?c5 ?_)
          case c1 => exact cell_five_new _ p _
          case c2 => exact pcells_one p
          case c3 => unfold maxLen; omega
          case c4 => omega
          case c5 => exact Nat.le_trans HZ5.out (by simp)
          intro v5 w5 hown5 hgrow5 _
          have HB6 := Lib.hid ((HB5.out.alloc HZ5.out _).grown hgrow5 (Nat.le_trans HZ5.out (by simp)) (fun j hj => (HO5.out.lt j hj).1))
          have HO6 := Lib.hid (show w5.ownsRow B1 33 5 v5 (i + 1) (row pcells (l.take i ++ [p] ++ (l.take i).drop (i + T))) from by
            rw [List.drop_of_length_le (by rw [List.length_take]; omega), List.append_nil, row_append, row_one, ← HX.out]
            exact hown5)
          clear hown5 hgrow5 HO5 HB5 q0 q1 q2 q3 q4
          go_wp2
          go_loopw [6, 7] (fun o k wr => ∃ m : Nat, i ≤ m ∧ m ≤ N ∧ k = .int .i64 m ∧ Hid (wr.ownsRow B1 33 5 o (i + 1 + (m - (i + T))) (row pcells (l.take i ++ [p] ++ (l.take m).drop (i + T)))) ∧ Hid (Below B1 w1 wr)) (fun _ k _ => N - (intOf k).toNat)
          case atStart => exact ⟨i, Nat.le_refl _, hJN, rfl, by rw [show i - (i + T) = 0 from by omega]; exact HO6, HB6⟩
          case round =>
            clear HO6 HB6
            obtain ⟨m, him, hmN, rfl, HO, HB⟩ := hrel
            obtain ⟨q0, q1, q2, q3, q4, _⟩ := blk5_facts (HQ.out.below HB.out (by rw [HS1.out]; exact Nat.lt_succ_self _))
            by_cases hlt : m < N
            · exact absurd hlt (by omega)
            · obtain rfl : m = N := by omega
              have HO6 := Lib.hid (show wr.ownsRow w.heap.size 33 5 u6 (put l p).length (row pcells (put l p)) from by
                have h9 := HO.out
                rw [List.take_of_length_le (l := l) (i := m) (by rw [HN.out]; exact Nat.le_refl _), List.append_assoc] at h9
                have h8 := HP.out
                rw [HJ.out, HT.out] at h8
                have h7 : (put l p).length = i + 1 + (m - (i + T)) := by
                  rw [h8]
                  have h6 := HN.out
                  simp only [List.length_append, List.length_take, List.length_cons, List.length_drop, h6]
                  omega
                rw [h7, h8]
                exact ownsRow_base h9 HSL.out)
              have HB6 := Lib.hid (HB1.out.trans (HB.out.mono HSL.out))
              clear HO HB
              go_wp2
              go_ret2
              exact ⟨_, rfl, HO6.out, HB6.out⟩

end Go.Proofs.Ytbloedaidbfehaa
