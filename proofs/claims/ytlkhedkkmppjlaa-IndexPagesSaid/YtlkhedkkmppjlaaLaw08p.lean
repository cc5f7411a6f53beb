/- IndexPages: the walk. -/
import Derived.Test.YtlkhedkkmppjlaaLaw08
namespace Go.Proofs.Ytlkhedkkmppjlaa
open Go.RowKit Go.Cor

theorem puts_fits {l : List Pos} (hf : ∀ p ∈ l, p.fits) : ∀ p ∈ puts [] l, p.fits := fun p hp => by
  rcases puts_mem Asc.nil hp with h | h
  · cases h
  · exact hf p h

theorem max_last {m : List Pos} (hs : Asc m) (hf : ∀ p ∈ m, p.fits) {c : Nat} {e : Pos} (h : m[c]? = some e) (hk : e.key = 18446744073709551615) : m.length = c + 1 := by
  have hlt := (List.getElem?_eq_some_iff.1 h).1
  by_cases h1 : m.length = c + 1
  · exact h1
  · have he : m[c + 1]? = some (pat m (c + 1)) := get_pat (by omega)
    have h2 := hs.lt h he (Nat.lt_succ_self _)
    have h3 := (hf _ (List.mem_of_getElem? he)).1
    omega
/-- A position, its place one higher. -/
def bump (p : Pos) : Pos := { p with off := wrap64 (p.off + 1) }
/-- A list that has a list's keys has its keys' positions. -/
theorem fnd_keys {cur m : List Pos} (hs : Asc cur) (h : cur.map Pos.key = m.map Pos.key) {p : Pos} (hp : p ∈ m) : ∃ q, fnd cur p.key = some q := by
  have h1 : p.key ∈ cur.map Pos.key := by
    rw [h]
    exact List.mem_map_of_mem hp
  obtain ⟨q, hq, he⟩ := List.mem_map.1 h1
  exact ⟨q, (fnd_iff hs).2 ⟨hq, he⟩⟩

set_option maxRecDepth 100000 in
set_option maxHeartbeats 4000000 in
theorem indexPages_all (v : Value) (l : List Pos) (a : Nat) (w : World) (hv : IsP w v l) (hf : ∀ p ∈ l, p.fits) (ha : a < 256) :
    Calls Try.prog 3 #[v, .int .u8 (a : Int)] w fun e w' => e = .returned (.bool true) ∧ Below w.heap.size w w' := by
  obtain ⟨i0, hi, hz0, hz1, hz2⟩ := info_parts Try.infoPos
  obtain ⟨N0, hN0⟩ : ∃ N0, l.length = N0 := ⟨_, rfl⟩
  have hlen := fun W => len_P (P := Try.prog) hv hN0 22 3 _ Try.underlying22 W
  have HV := Lib.hid hv
  have HF := Lib.hid (puts_fits hf)
  have HN0 := Lib.hid hN0
  clear hv hf hN0
  by_cases hbig : 60 < N0
  · have hbig' : (60 : Int) < (N0 : Int) := by omega
    go_enter Try.func3, Try.ntmps3
    go_wp2_with (go_at_call 4; refine (alive_any _).mono ?_; rintro e w1 ⟨rfl, hb1⟩)
    go_ret
    exact ⟨rfl, hb1⟩
  have hbig' : ¬ (60 : Int) < (N0 : Int) := by omega
  obtain ⟨n, hn⟩ : ∃ n, 1 + a % 5 = n := ⟨_, rfl⟩
  have hn1 : 1 ≤ n := by omega
  have hn5 : n ≤ 5 := by omega
  have hnI : (1 : Int) + (a : Int) % 5 = (n : Int) := by omega
  obtain ⟨m, hm⟩ : ∃ m, puts [] l = m := ⟨_, rfl⟩
  obtain ⟨M, hM⟩ : ∃ M, m.length = M := ⟨_, rfl⟩
  have hM60 : M ≤ 60 := by
    have := length_puts [] l
    have h9 := HN0.out
    rw [hm, hM] at this
    simp at this
    omega
  rw [hm] at HF
  have HM := Lib.hid hM
  have HMM := Lib.hid hm
  clear hn hm hM
  go_enter Try.func3, Try.ntmps3
  go_wp2_with fail
  refine (alive_any _).mono ?_
  rintro e w1 ⟨rfl, hb1⟩
  have HB1 := Lib.hid hb1
  clear hb1
  go_wp2_with fail
  refine (of5_any _ l _ (HV.out.mono HB1.out (Nat.le_refl _)) (by rw [HN0.out]; omega)).mono ?_
  rintro e w2 ⟨v2, rfl, h1, h2⟩
  have HP2 := Lib.hid (IsP.own (ps := l) h1 rfl)
  have HB2 := Lib.hid (HB1.out.trans (h2.mono HB1.out.size))
  clear h1 h2
  go_wp2_with fail
  refine (new_any _ l _ HP2.out (by rw [HN0.out]; omega)).mono ?_
  rintro e w3 ⟨g, rfl, ho, hb⟩
  rw [HMM.out] at ho
  have HO3 := Lib.hid (ho.mono (C := w.heap.size) HB2.out.size)
  have HB3 := Lib.hid (HB2.out.trans (hb.mono HB2.out.size))
  have hsz := HB3.out.size
  clear ho hb HP2 HB2 HB1
  go_wp2_with fail
  obtain ⟨B2, hB2⟩ : ∃ B2, w3.heap.size = B2 := ⟨_, rfl⟩
  rw [hB2] at hsz
  have HS2 := Lib.hid hB2
  clear hB2
  have HMA := Lib.hid (show Asc m from HO3.out.asc)
  go_loopw [7, 8, 9] (fun o k r wr => ∃ c kk rr : Nat, rr ≤ c ∧ c ≤ M ∧ k = .int .u64 kk ∧ r = .int .i64 rr ∧ Hid (psn m kk = c) ∧ Hid (wr.ownsRow B2 32 5 o c (row pcells (m.take c))) ∧ Hid (Below B2 w3 wr)) (fun _ _ r _ => 70 - (intOf r).toNat)
  case atStart => exact ⟨0, 0, 0, Nat.le_refl _, Nat.zero_le _, rfl, rfl, Lib.hid psn_zero, Lib.hid (World.ownsRow_nil _ _ _ _), Lib.hid (Below.refl _ _)⟩
  case round =>
    obtain ⟨c, kk, rr, hrc, hcM, rfl, rfl, HK, HA, HB⟩ := hrel
    by_cases hr : rr < 70
    · have hO := HO3.out.below HB.out (by rw [HS2.out]; exact Nat.le_refl _)
      obtain ⟨vx, hx⟩ := hO.ix
      have HX := Lib.hid hx
      have HO := Lib.hid hO
      clear hx hO
      obtain ⟨L, hL⟩ : ∃ L, min n (M - c) = L := ⟨_, rfl⟩
      have HQ := Lib.hid (show fromL m kk (n : Int) = (m.drop c).take n from by unfold fromL; rw [HK.out]; rfl)
      have HQL := Lib.hid (show ((m.drop c).take n).length = L from by rw [List.length_take, List.length_drop, HM.out]; exact hL)
      have HTA := Lib.hid (show m.take c ++ (m.drop c).take n = m.take (c + L) from by
        rw [← List.take_add]
        by_cases h : n ≤ M - c
        · rw [show L = n from by omega]
        · rw [List.take_of_length_le (by rw [HM.out]; omega), List.take_of_length_le (by rw [HM.out]; omega)])
      have hwz : B2 ≤ wr.heap.size := by have := HB.out.size; rw [HS2.out] at this; exact this
      go_wp2_with fail
      refine (from_any _ vx m kk (n : Int) _ HX.out (by rw [HM.out]; omega)).mono ?_
      rintro e w4 ⟨q, rfl, h1, h2⟩
      rw [HQ.out, HQL.out] at h1
      have HA4 := Lib.hid (ownsRow_below HA.out h2 (Nat.le_refl _))
      have HB4 := Lib.hid (HB.out.trans (h2.mono hwz))
      have hwz4 : wr.heap.size ≤ w4.heap.size := h2.size
      have HQ4 := Lib.hid h1
      have HO4 := Lib.hid (HO.out.below h2 (Nat.le_refl _))
      have hqne : ∀ k, u7.ownBlock = some k → ¬ q.ownBlock = some k := fun k e e2 => by
        have h8 := (HA.out.lt k e).2
        have h9 := (h1.lt k e2).1
        omega
      have HQN := Lib.hid hqne
      clear h1 h2 hqne HA HB HX HO
      go_wp2_with (at_builtin; refine wpList_append_X (by rfl) _ _ 26 26 rfl (fun _ _ _ => rfl) B2 32 i0 _ 5 32 Try.underlying26 hi hz0 hz1 hz2 rfl (by decide) _ _ _ rfl HA4.out _ _ _ rfl (IsX.own HQ4.out) (pcs_one _) ?c1 ?c2 ?c3 ?_)
      case c1 => unfold maxLen; omega
      case c2 => omega
      case c3 => omega
      intro v5 w5 hown5 hgr5 hl5
      have hwz5 : w4.heap.size ≤ w5.heap.size := hgr5.size
      have HA5 := Lib.hid (show w5.ownsRow B2 32 5 v5 (c + L) (row pcells (m.take (c + L))) from by rw [← HTA.out, row_append]; exact hown5)
      have HB5 := Lib.hid (HB4.out.grown hgr5 (Nat.le_trans hwz hwz4) (fun k e => (HA4.out.lt k e).1))
      have HO5 := Lib.hid (HO3.out.below HB5.out (by rw [HS2.out]; exact Nat.le_refl _))
      have HQ5 := Lib.hid (show IsP w5 q ((m.drop c).take n) from IsP.own (n := L) (ownsRow_kept (S := fun k => u7.ownBlock = some k) HQ4.out ((Kept.refl _ w4).grown hgr5 (fun k hk => .inl hk)) (fun k e2 e => HQN.out k e e2)) HQL.out.symm)
      have hlenq := fun W => len_P (P := Try.prog) HQ5.out HQL.out 26 3 32 Try.underlying26 W
      clear hown5 hgr5 hl5 HQ4 HQN HA4 HB4 HO4
      by_cases hLn : L < n
      · have hcL : c + L = M := by omega
        have hLn' : (L : Int) < (n : Int) := by omega
        have HP5 := Lib.hid (show IsP w5 v5 m from IsP.own (n := c + L) (by
          have h9 := HA5.out
          rw [List.take_of_length_le (by rw [HM.out]; omega)] at h9
          exact h9) (by rw [HM.out]; exact hcL))
        obtain ⟨vx5, hx5⟩ := HO5.out.ix
        have HX5 := Lib.hid hx5
        have HV5 := Lib.hid (show ∀ k, v5.ownBlock = some k → B2 ≤ k ∧ k < w5.heap.size from fun k e => HA5.out.lt k e)
        have HL5 := Lib.hid (fun W => len_P (P := Try.prog) HP5.out HM.out 26 3 32 Try.underlying26 W)
        have HBz := Lib.hid (show w.heap.size ≤ w5.heap.size from Nat.le_trans (Nat.le_trans hsz hwz) (Nat.le_trans hwz4 hwz5))
        have HBw := Lib.hid (show Below w.heap.size w w5 from HB3.out.trans (HB5.out.mono hsz))
        clear hx5 hcL
        go_wp2_with fail
        refine (len_any _ vx5 m _ HX5.out (by rw [HM.out]; omega)).mono ?_
        rintro e w6 ⟨rfl, h6⟩
        rw [HM.out]
        have HB6 := Lib.hid h6
        have hs6 : w5.heap.size ≤ w6.heap.size := h6.size
        clear h6
        go_wp2_with fail
        refine (to5_any v5 m _ (HP5.out.mono HB6.out (Nat.le_refl _)) (by rw [HM.out]; omega)).mono ?_
        rintro e w7 ⟨v7, rfl, h71, h72⟩
        have HP7 := Lib.hid (IsP.own (ps := m) h71 rfl)
        have HB7 := Lib.hid (HB6.out.trans (h72.mono hs6))
        clear h71 h72
        go_wp2_with fail
        refine (all_any _ vx5 m _ (HX5.out.below HB7.out (Nat.le_refl _)) (by rw [HM.out]; omega)).mono ?_
        rintro e w8 ⟨v8, rfl, h81, h82⟩
        have hs8 : w5.heap.size ≤ w7.heap.size := HB7.out.size
        have HP8 := Lib.hid (IsP.own (ps := m) h81 rfl)
        have HP78 := Lib.hid (HP7.out.mono h82 (Nat.le_refl _))
        have HB8 := Lib.hid (HB7.out.trans (h82.mono hs8))
        clear h81 h82 hs8
        go_wp2_with fail
        refine (to5_any v8 m _ HP8.out (by rw [HM.out]; omega)).mono ?_
        rintro e w9 ⟨v9, rfl, h91, h92⟩
        have hs9 : w5.heap.size ≤ w8.heap.size := HB8.out.size
        have HP9 := Lib.hid (IsP.own (ps := m) h91 rfl)
        have HP79 := Lib.hid (HP78.out.mono h92 (Nat.le_refl _))
        have HB9 := Lib.hid (HB8.out.trans (h92.mono hs9))
        clear h91 h92 hs9
        go_wp2_with fail
        refine (same5_any v7 v9 m m _ HP79.out HP9.out (by rw [HM.out]; omega)).mono ?_
        rintro e w10 ⟨rfl, nq, hw10⟩
        rw [decide_eq_true rfl]
        have HBa := Lib.hid (show Below w5.heap.size w5 w10 from by rw [hw10]; exact ⟨HB9.out.os, HB9.out.tape, HB9.out.output, HB9.out.size, HB9.out.block⟩)
        clear hw10 HB6 HP7 HB7 HP8 HP78 HB8 HP9 HP79 HB9 hs6
        obtain ⟨G, hG⟩ : ∃ G, goneN m = G := ⟨_, rfl⟩
        rw [hG]
        have hGM : G ≤ M := by rw [← hG, ← HM.out]; exact goneN_le m
        clear hG
        have hMG : (M : Int) - (G : Int) + (G : Int) = (M : Int) := by omega
        have hlen5 := HL5.out
        have HI0 := Lib.hid (show (∃ vx, At w10 g vx m ∧ ∀ k, own g vx k → w.heap.size ≤ k ∧ v5.ownBlock ≠ some k) from by
          obtain ⟨vx, k1, k2⟩ := HO3.out
          have k3 := k1.below HB5.out (by rw [HS2.out]; exact Nat.le_refl _)
          refine ⟨vx, k3.below HBa.out (Nat.le_refl _), fun k hk => ⟨k2 k hk, fun e => ?_⟩⟩
          have k4 := k1.lt k hk
          have k5 := (HV5.out k e).1
          rw [HS2.out] at k4
          omega)
        have HIP := Lib.hid (HP5.out.mono HBa.out (Nat.le_refl _))
        have HIB := Lib.hid (HBw.out.trans (HBa.out.mono HBz.out))
        have HIV := Lib.hid (show ∀ k, v5.ownBlock = some k → k < w10.heap.size from fun k e => Nat.lt_of_lt_of_le (HV5.out k e).2 HBa.out.size)
        clear HX5 HP5 HO5 HB5 HA5 HBa HBw HL5
        go_wp2
        go_loopw [13] (fun cc wr => ∃ (i : Nat) (cur : List Pos), i ≤ M ∧ cc = .int .i64 i ∧ Hid (∃ vx, At wr g vx cur ∧ ∀ k, own g vx k → w.heap.size ≤ k ∧ v5.ownBlock ≠ some k) ∧ Hid (IsP wr v5 m) ∧ Hid (cur.map Pos.key = m.map Pos.key) ∧ Hid (Below w.heap.size w wr) ∧ Hid (∀ k, v5.ownBlock = some k → k < wr.heap.size)) (fun cc _ => M - (intOf cc).toNat)
        case atStart => exact ⟨0, m, Nat.zero_le _, rfl, HI0, HIP, Lib.hid rfl, HIB, HIV⟩
        case round =>
          obtain ⟨i, cur, hiM, rfl, JX, JP, JK, JB, JV⟩ := hrel
          have hcl : cur.length = M := by
            have := congrArg List.length JK.out
            rw [List.length_map, List.length_map, HM.out] at this
            exact this
          by_cases hlt : i < M
          · obtain ⟨e, he⟩ : ∃ e, pat m i = e := ⟨_, rfl⟩
            obtain ⟨b, o, hidx, c0, c1, c2, c3, c4⟩ := indexAt_P JP.out 26 32 Try.underlying26 Try.sizePos i (by rw [HM.out]; exact hlt)
            rw [he] at c0 c1 c2 c3 c4
            have HE := Lib.hid (show e ∈ m from by rw [← he]; exact pat_mem (by rw [HM.out]; exact hlt))
            have HCL := Lib.hid hcl
            clear he hcl
            obtain ⟨vx, k1, k2⟩ := JX.out
            have K2 := Lib.hid k2
            have K1 := Lib.hid k1
            have HL4 := Lib.hid (show cur.length < 4096 from by rw [HCL.out]; omega)
            obtain ⟨q0, hq0⟩ := fnd_keys k1.asc JK.out HE.out
            have HKS := Lib.hid (show (put cur (bump e)).map Pos.key = m.map Pos.key from by rw [put_keys (p := bump e) hq0]; exact JK.out)
            have HFN := Lib.hid (show fnd (put cur (bump e)) e.key = some (bump e) from by rw [fnd_put k1.asc]; exact if_pos rfl)
            have HPL := Lib.hid (show (put cur (bump e)).length = M from by rw [length_put_there (p := bump e) hq0]; exact HCL.out)
            clear k1 k2 hq0 JX JK
            go_wp2_with fail
            refine (put_any g vx cur (bump e) _ (K1.out.below ((Below.refl _ _).alloc (Nat.le_refl _) _) (Nat.le_refl _)) HL4.out).mono ?_
            rintro e1 w5 ⟨rfl, vy, h1, h2, h3⟩
            have hsz5 : wr.heap.size < w5.heap.size := by have := h2.size; simp at this; omega
            have HBX := Lib.hid ((Blk.new wr (pcells (bump e)).toArray 32).kept h2 (fun hk => by have := K1.out.lt _ hk; omega))
            have HY := Lib.hid (show ∀ k, own g vy k → w.heap.size ≤ k ∧ v5.ownBlock ≠ some k from fun k hk => by
              rcases h3 k hk with h | h
              · exact K2.out k h
              · have hsz1 := JB.out.size
                simp at h
                exact ⟨by omega, fun e9 => by have := JV.out k e9; omega⟩)
            have HP5 := Lib.hid (show IsP w5 v5 m from IsX.kept (JP.out.mono ((Below.refl _ _).alloc (Nat.le_refl _) _) (Nat.le_refl _)) h2 (fun k hk hs => (K2.out k hs).2 hk.2))
            have HB5 := Lib.hid (show Below w.heap.size w w5 from (JB.out.alloc JB.out.size _).trans (h2.below (by have := JB.out.size; simp; omega) (fun k hk hs => by have := (K2.out k hs).1; omega)))
            have H1 := Lib.hid h1
            obtain ⟨z0, z1, z2, z3, z4, _⟩ := blk5_facts HBX.out
            clear h1 h2 h3 c0 c1 c2 c3 c4 hidx JP JB K1 K2
            go_wp2_with (go_at_call 12; refine (code_nil _).mono ?_; rintro e w4 ⟨rfl, rfl⟩)
            refine (find_any _ vy (put cur (bump e)) e.key _ (.at g vy _ H1.out) (by rw [HPL.out]; omega)).mono ?_
            rintro e2 w6 ⟨rfl, h6⟩
            rw [HFN.out, foundE_some, Option.getD_some]
            have HBX6 := Lib.hid (HBX.out.below h6 hsz5)
            have hsz6 : w5.heap.size ≤ w6.heap.size := h6.size
            have hlt6 : wr.heap.size < w6.heap.size := by omega
            have HI6 := Lib.hid (show (∃ vx, At w6 g vx (put cur (bump e)) ∧ ∀ k, own g vx k → w.heap.size ≤ k ∧ v5.ownBlock ≠ some k) from ⟨vy, H1.out.below h6 (Nat.le_refl _), HY.out⟩)
            have HP6 := Lib.hid (HP5.out.mono h6 (Nat.le_refl _))
            have HB6 := Lib.hid (HB5.out.trans (h6.mono HB5.out.size))
            clear h6 z0 z1 z2 z3 z4 HBX HY HP5 HB5 H1
            obtain ⟨z0, z1, z2, z3, z4, _⟩ := blk5_facts HBX6.out
            have he := fun W => Try.eqlPosA (bump e) (bump e) W
            have hgd := Try.guardPosA
            simp only [ne_eq, not_true_eq_false, decide_false] at he
            have HB7 := Lib.hid (show Below w.heap.size w (w6.alloc (.cells (pcells (bump e)).toArray 32)) from HB6.out.alloc HB6.out.size _)
            have HI7 := Lib.hid (show (∃ vx, At (w6.alloc (.cells (pcells (bump e)).toArray 32)) g vx (put cur (bump e)) ∧ ∀ k, own g vx k → w.heap.size ≤ k ∧ v5.ownBlock ≠ some k) from by
              obtain ⟨vx, k1, k2⟩ := HI6.out
              exact ⟨vx, k1.below ((Below.refl _ _).alloc (Nat.le_refl _) _) (Nat.le_refl _), k2⟩)
            have HP7 := Lib.hid (HP6.out.mono ((Below.refl w6.heap.size w6).alloc (Nat.le_refl _) (.cells (pcells (bump e)).toArray 32)) (Nat.le_refl _))
            have HV7 := Lib.hid (show ∀ k, v5.ownBlock = some k → k < (w6.alloc (.cells (pcells (bump e)).toArray 32)).heap.size from fun k hk => by have := JV.out k hk; simp; omega)
            clear HI6 HP6 HB6
            go_wp2_with (go_at_call 12; refine (code_nil _).mono ?_; rintro e w4 ⟨rfl, rfl⟩)
            go_roundw
            case rel => exact ⟨i + 1, _, by omega, by go_num, HI7, HP7, HKS, HB7, HV7⟩
            case measure => simp [intOf]; omega
          · obtain rfl : i = M := by omega
            obtain ⟨vx, k1, k2⟩ := JX.out
            have HCL := Lib.hid hcl
            have K1 := Lib.hid k1
            clear k1 k2 hcl JX
            go_wp2_with fail
            refine (all_any _ vx cur _ (.at g vx _ K1.out) (by rw [HCL.out]; omega)).mono ?_
            rintro e1 w6 ⟨va, rfl, h1, h2⟩
            have hlena := fun W => len_P (P := Try.prog) (IsP.own (ps := cur) h1 rfl) HCL.out 26 3 32 Try.underlying26 W
            have HB6 := Lib.hid (JB.out.trans (h2.mono JB.out.size))
            clear h1 h2
            go_wp2
            go_ret
            exact ⟨rfl, HB6.out⟩
      · obtain rfl : L = n := by omega
        have hcn : c + L ≤ M := by omega
        obtain ⟨e, he⟩ : ∃ e, pat m (c + (L - 1)) = e := ⟨_, rfl⟩
        have hget : m[c + (L - 1)]? = some e := by rw [← he]; exact get_pat (by rw [HM.out]; omega)
        obtain ⟨b, o, hidx, c0, c1, c2, c3, c4⟩ := indexAt_P HQ5.out 26 32 Try.underlying26 Try.sizePos (L - 1) (by rw [HQL.out]; omega)
        have hpe : pat ((m.drop c).take L) (L - 1) = e := pat_of (by rw [List.getElem?_take, if_pos (by omega), List.getElem?_drop]; exact hget)
        rw [hpe] at c0 c1 c2 c3 c4
        rw [show ((L - 1 : Nat) : Int) = (L : Int) - 1 from by omega] at hidx
        have hef := (HF.out e (List.mem_of_getElem? hget)).1
        have HG := Lib.hid hget
        clear he hget hpe
        by_cases hk : e.key = 18446744073709551615
        · have hb : ((e.key : Int) == 18446744073709551615) = true := by rw [beq_iff_eq]; omega
          have hcL : c + L = M := by
            have := max_last HMA.out HF.out HG.out hk
            rw [HM.out] at this
            omega
          clear hk
          have HP5 := Lib.hid (show IsP w5 v5 m from IsP.own (n := c + L) (by
            have h9 := HA5.out
            rw [List.take_of_length_le (by rw [HM.out]; omega)] at h9
            exact h9) (by rw [HM.out]; exact hcL))
          obtain ⟨vx5, hx5⟩ := HO5.out.ix
          have HX5 := Lib.hid hx5
          have HV5 := Lib.hid (show ∀ k, v5.ownBlock = some k → B2 ≤ k ∧ k < w5.heap.size from fun k e => HA5.out.lt k e)
          have HL5 := Lib.hid (fun W => len_P (P := Try.prog) HP5.out HM.out 26 3 32 Try.underlying26 W)
          have HBz := Lib.hid (show w.heap.size ≤ w5.heap.size from Nat.le_trans (Nat.le_trans hsz hwz) (Nat.le_trans hwz4 hwz5))
          have HBw := Lib.hid (show Below w.heap.size w w5 from HB3.out.trans (HB5.out.mono hsz))
          clear hx5 hcL
          go_wp2_with fail
          refine (len_any _ vx5 m _ HX5.out (by rw [HM.out]; omega)).mono ?_
          rintro e w6 ⟨rfl, h6⟩
          rw [HM.out]
          have HB6 := Lib.hid h6
          have hs6 : w5.heap.size ≤ w6.heap.size := h6.size
          clear h6
          go_wp2_with fail
          refine (to5_any v5 m _ (HP5.out.mono HB6.out (Nat.le_refl _)) (by rw [HM.out]; omega)).mono ?_
          rintro e w7 ⟨v7, rfl, h71, h72⟩
          have HP7 := Lib.hid (IsP.own (ps := m) h71 rfl)
          have HB7 := Lib.hid (HB6.out.trans (h72.mono hs6))
          clear h71 h72
          go_wp2_with fail
          refine (all_any _ vx5 m _ (HX5.out.below HB7.out (Nat.le_refl _)) (by rw [HM.out]; omega)).mono ?_
          rintro e w8 ⟨v8, rfl, h81, h82⟩
          have hs8 : w5.heap.size ≤ w7.heap.size := HB7.out.size
          have HP8 := Lib.hid (IsP.own (ps := m) h81 rfl)
          have HP78 := Lib.hid (HP7.out.mono h82 (Nat.le_refl _))
          have HB8 := Lib.hid (HB7.out.trans (h82.mono hs8))
          clear h81 h82 hs8
          go_wp2_with fail
          refine (to5_any v8 m _ HP8.out (by rw [HM.out]; omega)).mono ?_
          rintro e w9 ⟨v9, rfl, h91, h92⟩
          have hs9 : w5.heap.size ≤ w8.heap.size := HB8.out.size
          have HP9 := Lib.hid (IsP.own (ps := m) h91 rfl)
          have HP79 := Lib.hid (HP78.out.mono h92 (Nat.le_refl _))
          have HB9 := Lib.hid (HB8.out.trans (h92.mono hs9))
          clear h91 h92 hs9
          go_wp2_with fail
          refine (same5_any v7 v9 m m _ HP79.out HP9.out (by rw [HM.out]; omega)).mono ?_
          rintro e w10 ⟨rfl, nq, hw10⟩
          rw [decide_eq_true rfl]
          have HBa := Lib.hid (show Below w5.heap.size w5 w10 from by rw [hw10]; exact ⟨HB9.out.os, HB9.out.tape, HB9.out.output, HB9.out.size, HB9.out.block⟩)
          clear hw10 HB6 HP7 HB7 HP8 HP78 HB8 HP9 HP79 HB9 hs6
          obtain ⟨G, hG⟩ : ∃ G, goneN m = G := ⟨_, rfl⟩
          rw [hG]
          have hGM : G ≤ M := by rw [← hG, ← HM.out]; exact goneN_le m
          clear hG
          have hMG : (M : Int) - (G : Int) + (G : Int) = (M : Int) := by omega
          have hlen5 := HL5.out
          have HI0 := Lib.hid (show (∃ vx, At w10 g vx m ∧ ∀ k, own g vx k → w.heap.size ≤ k ∧ v5.ownBlock ≠ some k) from by
            obtain ⟨vx, k1, k2⟩ := HO3.out
            have k3 := k1.below HB5.out (by rw [HS2.out]; exact Nat.le_refl _)
            refine ⟨vx, k3.below HBa.out (Nat.le_refl _), fun k hk => ⟨k2 k hk, fun e => ?_⟩⟩
            have k4 := k1.lt k hk
            have k5 := (HV5.out k e).1
            rw [HS2.out] at k4
            omega)
          have HIP := Lib.hid (HP5.out.mono HBa.out (Nat.le_refl _))
          have HIB := Lib.hid (HBw.out.trans (HBa.out.mono HBz.out))
          have HIV := Lib.hid (show ∀ k, v5.ownBlock = some k → k < w10.heap.size from fun k e => Nat.lt_of_lt_of_le (HV5.out k e).2 HBa.out.size)
          clear HX5 HP5 HO5 HB5 HA5 HBa HBw HL5
          go_wp2
          go_loopw [13] (fun cc wr => ∃ (i : Nat) (cur : List Pos), i ≤ M ∧ cc = .int .i64 i ∧ Hid (∃ vx, At wr g vx cur ∧ ∀ k, own g vx k → w.heap.size ≤ k ∧ v5.ownBlock ≠ some k) ∧ Hid (IsP wr v5 m) ∧ Hid (cur.map Pos.key = m.map Pos.key) ∧ Hid (Below w.heap.size w wr) ∧ Hid (∀ k, v5.ownBlock = some k → k < wr.heap.size)) (fun cc _ => M - (intOf cc).toNat)
          case atStart => exact ⟨0, m, Nat.zero_le _, rfl, HI0, HIP, Lib.hid rfl, HIB, HIV⟩
          case round =>
            obtain ⟨i, cur, hiM, rfl, JX, JP, JK, JB, JV⟩ := hrel
            have hcl : cur.length = M := by
              have := congrArg List.length JK.out
              rw [List.length_map, List.length_map, HM.out] at this
              exact this
            by_cases hlt : i < M
            · obtain ⟨e, he⟩ : ∃ e, pat m i = e := ⟨_, rfl⟩
              obtain ⟨b, o, hidx, c0, c1, c2, c3, c4⟩ := indexAt_P JP.out 26 32 Try.underlying26 Try.sizePos i (by rw [HM.out]; exact hlt)
              rw [he] at c0 c1 c2 c3 c4
              have HE := Lib.hid (show e ∈ m from by rw [← he]; exact pat_mem (by rw [HM.out]; exact hlt))
              have HCL := Lib.hid hcl
              clear he hcl
              obtain ⟨vx, k1, k2⟩ := JX.out
              have K2 := Lib.hid k2
              have K1 := Lib.hid k1
              have HL4 := Lib.hid (show cur.length < 4096 from by rw [HCL.out]; omega)
              obtain ⟨q0, hq0⟩ := fnd_keys k1.asc JK.out HE.out
              have HKS := Lib.hid (show (put cur (bump e)).map Pos.key = m.map Pos.key from by rw [put_keys (p := bump e) hq0]; exact JK.out)
              have HFN := Lib.hid (show fnd (put cur (bump e)) e.key = some (bump e) from by rw [fnd_put k1.asc]; exact if_pos rfl)
              have HPL := Lib.hid (show (put cur (bump e)).length = M from by rw [length_put_there (p := bump e) hq0]; exact HCL.out)
              clear k1 k2 hq0 JX JK
              go_wp2_with fail
              refine (put_any g vx cur (bump e) _ (K1.out.below ((Below.refl _ _).alloc (Nat.le_refl _) _) (Nat.le_refl _)) HL4.out).mono ?_
              rintro e1 w5 ⟨rfl, vy, h1, h2, h3⟩
              have hsz5 : wr.heap.size < w5.heap.size := by have := h2.size; simp at this; omega
              have HBX := Lib.hid ((Blk.new wr (pcells (bump e)).toArray 32).kept h2 (fun hk => by have := K1.out.lt _ hk; omega))
              have HY := Lib.hid (show ∀ k, own g vy k → w.heap.size ≤ k ∧ v5.ownBlock ≠ some k from fun k hk => by
                rcases h3 k hk with h | h
                · exact K2.out k h
                · have hsz1 := JB.out.size
                  simp at h
                  exact ⟨by omega, fun e9 => by have := JV.out k e9; omega⟩)
              have HP5 := Lib.hid (show IsP w5 v5 m from IsX.kept (JP.out.mono ((Below.refl _ _).alloc (Nat.le_refl _) _) (Nat.le_refl _)) h2 (fun k hk hs => (K2.out k hs).2 hk.2))
              have HB5 := Lib.hid (show Below w.heap.size w w5 from (JB.out.alloc JB.out.size _).trans (h2.below (by have := JB.out.size; simp; omega) (fun k hk hs => by have := (K2.out k hs).1; omega)))
              have H1 := Lib.hid h1
              obtain ⟨z0, z1, z2, z3, z4, _⟩ := blk5_facts HBX.out
              clear h1 h2 h3 c0 c1 c2 c3 c4 hidx JP JB K1 K2
              go_wp2_with (go_at_call 12; refine (code_nil _).mono ?_; rintro e w4 ⟨rfl, rfl⟩)
              refine (find_any _ vy (put cur (bump e)) e.key _ (.at g vy _ H1.out) (by rw [HPL.out]; omega)).mono ?_
              rintro e2 w6 ⟨rfl, h6⟩
              rw [HFN.out, foundE_some, Option.getD_some]
              have HBX6 := Lib.hid (HBX.out.below h6 hsz5)
              have hsz6 : w5.heap.size ≤ w6.heap.size := h6.size
              have hlt6 : wr.heap.size < w6.heap.size := by omega
              have HI6 := Lib.hid (show (∃ vx, At w6 g vx (put cur (bump e)) ∧ ∀ k, own g vx k → w.heap.size ≤ k ∧ v5.ownBlock ≠ some k) from ⟨vy, H1.out.below h6 (Nat.le_refl _), HY.out⟩)
              have HP6 := Lib.hid (HP5.out.mono h6 (Nat.le_refl _))
              have HB6 := Lib.hid (HB5.out.trans (h6.mono HB5.out.size))
              clear h6 z0 z1 z2 z3 z4 HBX HY HP5 HB5 H1
              obtain ⟨z0, z1, z2, z3, z4, _⟩ := blk5_facts HBX6.out
              have he := fun W => Try.eqlPosA (bump e) (bump e) W
              have hgd := Try.guardPosA
              simp only [ne_eq, not_true_eq_false, decide_false] at he
              have HB7 := Lib.hid (show Below w.heap.size w (w6.alloc (.cells (pcells (bump e)).toArray 32)) from HB6.out.alloc HB6.out.size _)
              have HI7 := Lib.hid (show (∃ vx, At (w6.alloc (.cells (pcells (bump e)).toArray 32)) g vx (put cur (bump e)) ∧ ∀ k, own g vx k → w.heap.size ≤ k ∧ v5.ownBlock ≠ some k) from by
                obtain ⟨vx, k1, k2⟩ := HI6.out
                exact ⟨vx, k1.below ((Below.refl _ _).alloc (Nat.le_refl _) _) (Nat.le_refl _), k2⟩)
              have HP7 := Lib.hid (HP6.out.mono ((Below.refl w6.heap.size w6).alloc (Nat.le_refl _) (.cells (pcells (bump e)).toArray 32)) (Nat.le_refl _))
              have HV7 := Lib.hid (show ∀ k, v5.ownBlock = some k → k < (w6.alloc (.cells (pcells (bump e)).toArray 32)).heap.size from fun k hk => by have := JV.out k hk; simp; omega)
              clear HI6 HP6 HB6
              go_wp2_with (go_at_call 12; refine (code_nil _).mono ?_; rintro e w4 ⟨rfl, rfl⟩)
              go_roundw
              case rel => exact ⟨i + 1, _, by omega, by go_num, HI7, HP7, HKS, HB7, HV7⟩
              case measure => simp [intOf]; omega
            · obtain rfl : i = M := by omega
              obtain ⟨vx, k1, k2⟩ := JX.out
              have HCL := Lib.hid hcl
              have K1 := Lib.hid k1
              clear k1 k2 hcl JX
              go_wp2_with fail
              refine (all_any _ vx cur _ (.at g vx _ K1.out) (by rw [HCL.out]; omega)).mono ?_
              rintro e1 w6 ⟨va, rfl, h1, h2⟩
              have hlena := fun W => len_P (P := Try.prog) (IsP.own (ps := cur) h1 rfl) HCL.out 26 3 32 Try.underlying26 W
              have HB6 := Lib.hid (JB.out.trans (h2.mono JB.out.size))
              clear h1 h2
              go_wp2
              go_ret
              exact ⟨rfl, HB6.out⟩
        · have hb : ((e.key : Int) == 18446744073709551615) = false := by rw [beq_eq_false_iff_ne]; omega
          have hwr : IntKind.u64.wrap ((e.key : Int) + 1) = ((e.key + 1 : Nat) : Int) := by rw [show ((e.key : Int) + 1) = ((e.key + 1 : Nat) : Int) from rfl]; exact IntWalk.u64_in _ (by omega)
          have HPN := Lib.hid (show psn m (e.key + 1) = c + L from by rw [psn_next HMA.out HG.out]; omega)
          clear hk
          go_wp2
          go_roundw
          case rel => exact ⟨c + L, e.key + 1, rr + 1, by omega, by omega, by go_num, by go_num, HPN, HA5, HB5⟩
          case measure => simp [intOf]; omega
    · exfalso
      omega

end Go.Proofs.Ytlkhedkkmppjlaa
