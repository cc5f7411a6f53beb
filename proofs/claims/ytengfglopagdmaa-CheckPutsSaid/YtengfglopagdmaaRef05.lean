/- The document's answers for layer 5, by contracts: Right, num. -/
import Derived.Test.YtengfglopagdmaaRight
import Derived.Test.YtengfglopagdmaaRef01
namespace Go.Proofs.Ytengfglopagdmaa
open Go.RowKit Go.Cor

theorem refright_long (a b d : Int) (ps : List Pos) (v : Value) (w : World) (hv : IsP w v ps) (hl : 4096 < ps.length) :
    Calls Try.prog 6 #[cval ⟨a, b, d, ps⟩ v] w fun e w' => e = .returned (.int .i64 2) ∧ Below w.heap.size w w' := by
  obtain ⟨N, hN⟩ : ∃ N, ps.length = N := ⟨_, rfl⟩
  obtain ⟨x, cap, rfl, hlc, hcm⟩ := hv.at_len hN
  rw [hN] at hl
  have h' : (4096 : Int) < (N : Int) := by omega
  clear hv hN
  go_enter Try.func6, Try.ntmps6
  go_wp2
  go_ret
  exact ⟨rfl, (Below.refl _ _).alloc (Nat.le_refl _) _⟩

set_option maxHeartbeats 1000000 in
theorem refright_head (a b d : Int) (ps : List Pos) (v : Value) (w : World) (hv : IsP w v ps) (hl : ps.length ≤ 4096) (hh : hOk a b d = false) :
    Calls Try.prog 6 #[cval ⟨a, b, d, ps⟩ v] w fun e w' => e = .returned (.int .i64 1) ∧ Below w.heap.size w w' := by
  obtain ⟨N, hN⟩ : ∃ N, ps.length = N := ⟨_, rfl⟩
  obtain ⟨x, cap, rfl, hlc, hcm⟩ := hv.at_len hN
  rw [hN] at hl
  have hno := of_decide_eq_false hh
  have hl4 : decide ((4096 : Int) < (N : Int)) = false := decide_eq_false (by omega)
  clear hv hN hh
  by_cases c0 : a < 1
  · have d0 : decide (a < 1) = true := decide_eq_true c0
    clear hno c0
    go_enter Try.func6, Try.ntmps6
    go_wp2
    go_ret
    exact ⟨rfl, (Below.refl _ _).alloc (Nat.le_refl _) _⟩
  have d0 : decide (a < 1) = false := decide_eq_false c0
  by_cases c1 : 65535 < a
  · have d1 : decide (65535 < a) = true := decide_eq_true c1
    clear hno c1
    go_enter Try.func6, Try.ntmps6
    go_wp2
    go_ret
    exact ⟨rfl, (Below.refl _ _).alloc (Nat.le_refl _) _⟩
  have d1 : decide (65535 < a) = false := decide_eq_false c1
  by_cases c2 : b < 1
  · have d2 : decide (b < 1) = true := decide_eq_true c2
    clear hno c2
    go_enter Try.func6, Try.ntmps6
    go_wp2
    go_ret
    exact ⟨rfl, (Below.refl _ _).alloc (Nat.le_refl _) _⟩
  have d2 : decide (b < 1) = false := decide_eq_false c2
  by_cases c3 : 2147483647 < b
  · have d3 : decide (2147483647 < b) = true := decide_eq_true c3
    clear hno c3
    go_enter Try.func6, Try.ntmps6
    go_wp2
    go_ret
    exact ⟨rfl, (Below.refl _ _).alloc (Nat.le_refl _) _⟩
  have d3 : decide (2147483647 < b) = false := decide_eq_false c3
  by_cases c4 : d < 0
  · have d4 : decide (d < 0) = true := decide_eq_true c4
    clear hno c4
    go_enter Try.func6, Try.ntmps6
    go_wp2
    go_ret
    exact ⟨rfl, (Below.refl _ _).alloc (Nat.le_refl _) _⟩
  have d4 : decide (d < 0) = false := decide_eq_false c4
  have c5 : 16777216 < d := by omega
  have d5 : decide (16777216 < d) = true := decide_eq_true c5
  clear hno c0 c1 c2 c3 c4 c5
  go_enter Try.func6, Try.ntmps6
  go_wp2
  go_ret
  exact ⟨rfl, (Below.refl _ _).alloc (Nat.le_refl _) _⟩

set_option maxRecDepth 100000 in
set_option maxHeartbeats 4000000 in
theorem refright_list (a b d : Int) (ps : List Pos) (v : Value) (w : World) (hv : IsP w v ps) (hl : ps.length ≤ 4096) (hh : hOk a b d = true) :
    Calls Try.prog 6 #[cval ⟨a, b, d, ps⟩ v] w fun e w' => e = .returned (if lOk ps = true then .int .i64 0 else .int .i64 1) ∧ Below w.heap.size w w' := by
  obtain ⟨N, hN⟩ : ∃ N, ps.length = N := ⟨_, rfl⟩
  have HV := Lib.hid hv
  obtain ⟨x, cap, rfl, hlc, hcm⟩ := hv.at_len hN
  rw [hN] at hl
  have HN := Lib.hid hN
  obtain ⟨h1, h2, h3, h4, h5, h6⟩ := hOk_fits hh
  have hl4 : decide ((4096 : Int) < (N : Int)) = false := decide_eq_false (by omega)
  have d0 : decide (a < 1) = false := decide_eq_false (by omega)
  have d1 : decide (65535 < a) = false := decide_eq_false (by omega)
  have d2 : decide (b < 1) = false := decide_eq_false (by omega)
  have d3 : decide (2147483647 < b) = false := decide_eq_false (by omega)
  have d4 : decide (d < 0) = false := decide_eq_false (by omega)
  have d5 : decide (16777216 < d) = false := decide_eq_false (by omega)
  obtain ⟨rv, hrv⟩ : ∃ rv, rv = (if lOk ps = true then Value.int .i64 0 else .int .i64 1) := ⟨_, rfl⟩
  rw [← hrv]
  have HRV := Lib.hid hrv
  clear hv hN hrv h1 h2 h3 h4 h5 h6
  go_enter Try.func6, Try.ntmps6
  go_wp2
  clear d0 d1 d2 d3 d4 d5 hl4
  go_loopw [3] (fun k wr => ∃ i : Nat, i ≤ N ∧ k = .int .i64 i ∧ Hid (∀ j, j < i → pOk ps j = true) ∧ Hid (Below (w.heap.size + 1) (w.alloc (.cells #[.int .i64 a, .int .i64 b, .int .i64 d, .slice x N cap] 24)) wr)) (fun k _ => N - (intOf k).toNat)
  case atStart => exact ⟨0, by omega, rfl, Lib.hid (fun j hj => by omega), Lib.hid (Below.refl _ _)⟩
  case round =>
    obtain ⟨i, hi, rfl, hK, hB⟩ := hrel
    have HB0 := Lib.hid (((Below.refl w.heap.size w).alloc (Nat.le_refl _) (.cells #[.int .i64 a, .int .i64 b, .int .i64 d, .slice x N cap] 24)).trans (hB.out.mono (Nat.le_succ _)))
    have hx3 := ((BoxC.new w a b d (.slice x N cap) 24).mono hB.out (Nat.lt_succ_self _)).2.2.2
    by_cases hlt : i < N
    · have HVr := Lib.hid (HV.out.mono HB0.out (Nat.le_refl _))
      have hs := hB.out.size
      obtain ⟨p, hp⟩ : ∃ p, pat ps i = p := ⟨_, rfl⟩
      obtain ⟨bp, op, hidx, hcell⟩ := indexAt_P HVr.out 22 50 Try.underlying22 Try.sizePosR i (by rw [HN.out]; exact hlt)
      rw [hp] at hcell
      obtain ⟨key, off, len, cookie, gone⟩ := p
      obtain ⟨k0, k1, k2, k3, k4⟩ := hcell
      simp only at k0 k1 k2 k3 k4
      have HP := Lib.hid hp
      obtain ⟨ok, hok⟩ : ∃ ok, pOk ps i = ok := ⟨_, rfl⟩
      have HOK := Lib.hid hok
      clear hp hok
      go_upto_region 9 with fail
      have HW1 := Lib.hid ((Below.refl wr.heap.size wr).alloc (Nat.le_refl _) (.cells #[.int .u64 (key : Int), .int .i64 off, .int .i64 len, .int .u32 (cookie : Int), .bool gone] 50))
      have hy3 := (HW1.out.cell (p := ⟨w.heap.size, 3, none⟩) (Nat.lt_of_lt_of_le (by simp) hs)).trans hx3
      go_cut [91] from 49 to 91 (fun q wx => q = .bool (!ok) ∧ Below wr.heap.size (wr.alloc (.cells #[.int .u64 (key : Int), .int .i64 off, .int .i64 len, .int .u32 (cookie : Int), .bool gone] 50)) wx)
      case first =>
        clear k0 k1 k2 k3 k4 hx3
        by_cases e0 : off < 0
        · obtain rfl : ok = false := HOK.out.symm.trans (pOk_can (by rw [HP.out]; exact decide_eq_false fun h => by simp only at h; omega))
          have f0 : decide (off < 0) = true := decide_eq_true e0
          clear e0
          go_wp2_with fail
          go_quiet (fail)
          go_wp2
          go_meet
          exact ⟨rfl, ⟨rfl, rfl, rfl, Nat.le_refl _, fun _ _ => rfl⟩⟩
        have f0 : decide (off < 0) = false := decide_eq_false e0
        by_cases e1 : 16777216 < off
        · obtain rfl : ok = false := HOK.out.symm.trans (pOk_can (by rw [HP.out]; exact decide_eq_false fun h => by simp only at h; omega))
          have f1 : decide (16777216 < off) = true := decide_eq_true e1
          clear e1
          go_wp2_with fail
          go_quiet (fail)
          go_wp2
          go_meet
          exact ⟨rfl, ⟨rfl, rfl, rfl, Nat.le_refl _, fun _ _ => rfl⟩⟩
        have f1 : decide (16777216 < off) = false := decide_eq_false e1
        by_cases e2 : len < 0
        · obtain rfl : ok = false := HOK.out.symm.trans (pOk_can (by rw [HP.out]; exact decide_eq_false fun h => by simp only at h; omega))
          have f2 : decide (len < 0) = true := decide_eq_true e2
          clear e2
          go_wp2_with fail
          go_quiet (fail)
          go_wp2
          go_meet
          exact ⟨rfl, ⟨rfl, rfl, rfl, Nat.le_refl _, fun _ _ => rfl⟩⟩
        have f2 : decide (len < 0) = false := decide_eq_false e2
        by_cases e3 : 4096 < len
        · obtain rfl : ok = false := HOK.out.symm.trans (pOk_can (by rw [HP.out]; exact decide_eq_false fun h => by simp only at h; omega))
          have f3 : decide (4096 < len) = true := decide_eq_true e3
          clear e3
          go_wp2_with fail
          go_quiet (fail)
          go_wp2
          go_meet
          exact ⟨rfl, ⟨rfl, rfl, rfl, Nat.le_refl _, fun _ _ => rfl⟩⟩
        have f3 : decide (4096 < len) = false := decide_eq_false e3
        cases gone with
        | false =>
          have hcan : pcan ⟨key, off, len, cookie, false⟩ = true := decide_eq_true ⟨by show 0 ≤ off; omega, by show off ≤ 16777216; omega, by show 0 ≤ len; omega, by show len ≤ 4096; omega, fun h => by first | (cases h; done) | (show len = 0; omega)⟩
          cases i with
          | zero =>
            obtain rfl : ok = true := HOK.out.symm.trans (pOk_zero (by rw [HP.out]; exact hcan))
            clear hcan
            go_wp2_with fail
            go_quiet (fail)
            go_wp2
            go_meet
            exact ⟨rfl, ⟨rfl, rfl, rfl, Nat.le_refl _, fun _ _ => rfl⟩⟩
          | succ j =>
            obtain ⟨q, hq⟩ : ∃ q, pat ps j = q := ⟨_, rfl⟩
            obtain ⟨bq, oq, hidq, hcellq⟩ := indexAt_P HVr.out 22 50 Try.underlying22 Try.sizePosR j (by rw [HN.out]; omega)
            have hq0 := (HW1.out.cell (p := ⟨bq, oq, none⟩) hcellq.lt).trans hcellq.1
            rw [hq] at hq0
            clear hcellq
            have e2 : ok = decide (q.key < key) := by rw [← HOK.out, pOk_succ (by rw [HP.out]; exact hcan), HP.out, hq]
            have hj0 : decide ((0 : Int) < ((j : Int) + 1)) = true := decide_eq_true (by omega)
            have hwj : IntKind.i64.wrap (j : Int) = (j : Int) := by rw [IntKind.wrap_i64]; omega
            clear hcan
            by_cases hkey : q.key < key
            · obtain rfl : ok = true := e2.trans (decide_eq_true hkey)
              have hd : decide ((key : Int) ≤ (q.key : Int)) = false := decide_eq_false (by omega)
              clear e2
              go_wp2_with fail
              go_quiet (fail)
              go_wp2
              go_meet
              exact ⟨congrArg Value.bool (decide_eq_false (by omega)), ⟨rfl, rfl, rfl, Nat.le_refl _, fun _ _ => rfl⟩⟩
            · obtain rfl : ok = false := e2.trans (decide_eq_false hkey)
              have hd : decide ((key : Int) ≤ (q.key : Int)) = true := decide_eq_true (by omega)
              clear e2
              go_wp2_with fail
              go_quiet (fail)
              go_wp2
              go_meet
              exact ⟨congrArg Value.bool (decide_eq_true (by omega)), ⟨rfl, rfl, rfl, Nat.le_refl _, fun _ _ => rfl⟩⟩
        | true =>
          by_cases e4 : 0 < len
          · obtain rfl : ok = false := HOK.out.symm.trans (pOk_can (by rw [HP.out]; exact decide_eq_false fun h => absurd (h.2.2.2.2 rfl) (by show ¬ len = 0; omega)))
            have f4 : decide (0 < len) = true := decide_eq_true e4
            clear e4
            go_wp2_with fail
            go_quiet (fail)
            go_wp2
            go_meet
            exact ⟨rfl, ⟨rfl, rfl, rfl, Nat.le_refl _, fun _ _ => rfl⟩⟩
          have f4 : decide (0 < len) = false := decide_eq_false e4
          have hcan : pcan ⟨key, off, len, cookie, true⟩ = true := decide_eq_true ⟨by show 0 ≤ off; omega, by show off ≤ 16777216; omega, by show 0 ≤ len; omega, by show len ≤ 4096; omega, fun h => by first | (cases h; done) | (show len = 0; omega)⟩
          cases i with
          | zero =>
            obtain rfl : ok = true := HOK.out.symm.trans (pOk_zero (by rw [HP.out]; exact hcan))
            clear hcan
            go_wp2_with fail
            go_quiet (fail)
            go_wp2
            go_meet
            exact ⟨rfl, ⟨rfl, rfl, rfl, Nat.le_refl _, fun _ _ => rfl⟩⟩
          | succ j =>
            obtain ⟨q, hq⟩ : ∃ q, pat ps j = q := ⟨_, rfl⟩
            obtain ⟨bq, oq, hidq, hcellq⟩ := indexAt_P HVr.out 22 50 Try.underlying22 Try.sizePosR j (by rw [HN.out]; omega)
            have hq0 := (HW1.out.cell (p := ⟨bq, oq, none⟩) hcellq.lt).trans hcellq.1
            rw [hq] at hq0
            clear hcellq
            have e2 : ok = decide (q.key < key) := by rw [← HOK.out, pOk_succ (by rw [HP.out]; exact hcan), HP.out, hq]
            have hj0 : decide ((0 : Int) < ((j : Int) + 1)) = true := decide_eq_true (by omega)
            have hwj : IntKind.i64.wrap (j : Int) = (j : Int) := by rw [IntKind.wrap_i64]; omega
            clear hcan
            by_cases hkey : q.key < key
            · obtain rfl : ok = true := e2.trans (decide_eq_true hkey)
              have hd : decide ((key : Int) ≤ (q.key : Int)) = false := decide_eq_false (by omega)
              clear e2
              go_wp2_with fail
              go_quiet (fail)
              go_wp2
              go_meet
              exact ⟨congrArg Value.bool (decide_eq_false (by omega)), ⟨rfl, rfl, rfl, Nat.le_refl _, fun _ _ => rfl⟩⟩
            · obtain rfl : ok = false := e2.trans (decide_eq_false hkey)
              have hd : decide ((key : Int) ≤ (q.key : Int)) = true := decide_eq_true (by omega)
              clear e2
              go_wp2_with fail
              go_quiet (fail)
              go_wp2
              go_meet
              exact ⟨congrArg Value.bool (decide_eq_true (by omega)), ⟨rfl, rfl, rfl, Nat.le_refl _, fun _ _ => rfl⟩⟩
      case rest =>
      obtain ⟨rfl, hbc⟩ := hcut
      have HW2 := Lib.hid (HW1.out.trans (hbc.mono (by simp)))
      clear hbc HW1 k0 k1 k2 k3 k4 hx3 hy3
      cases ok with
      | true =>
        go_wp2
        go_roundw
        case rel => exact ⟨i + 1, by omega, by go_num, Lib.hid (fun j hj => by
          by_cases hji : j < i
          · exact hK.out j hji
          · obtain rfl : j = i := by omega
            exact HOK.out), Lib.hid (hB.out.trans (HW2.out.mono (by simpa using hs)))⟩
        case measure => simp [intOf]; omega
      | false =>
        have HE := Lib.hid (HRV.out.trans (if_neg (by rw [lOk_no (by rw [HN.out]; exact hlt) HOK.out]; exact Bool.false_ne_true)))
        go_wp2
        go_ret
        exact ⟨congrArg _ HE.out.symm, HB0.out.trans (HW2.out.mono HB0.out.size)⟩
    · obtain rfl : N = i := by omega
      have e : lOk ps = true := lOk_of fun j hj => hK.out j (by rw [← HN.out]; exact hj)
      have HE := Lib.hid (HRV.out.trans (if_pos e))
      clear e
      go_wp2
      go_ret
      exact ⟨congrArg _ HE.out.symm, HB0.out⟩

theorem refright_any (c : Chk) (v : Value) (w : World) (hv : IsP w v c.l) :
    Calls Try.prog 6 #[cval c v] w fun e w' => e = .returned (.int .i64 (cright c : Nat)) ∧ Below w.heap.size w w' := by
  obtain ⟨a, b, d, ps⟩ := c
  by_cases hl : 4096 < ps.length
  · rw [cright_long hl]
    exact refright_long a b d ps v w hv hl
  · cases hh : hOk a b d with
    | false =>
      rw [cright_head (by show ps.length ≤ 4096; omega) hh]
      exact refright_head a b d ps v w hv (by omega) hh
    | true =>
      refine (refright_list a b d ps v w hv (by omega) hh).mono ?_
      rintro e w' ⟨rfl, hb⟩
      refine ⟨?_, hb⟩
      cases ho : lOk ps with
      | true => rw [cright_of (by show ps.length ≤ 4096; omega) hh ho]; rfl
      | false => rw [cright_list (by show ps.length ≤ 4096; omega) ho]; rfl

theorem refnum5_any (n s : Nat) (w : World) (hn : n < 18446744073709551616) (hs : s ≤ 8) :
    Calls Try.prog 23 #[.int .u64 n, .int .i64 (s : Int)] w fun e w' =>
      ∃ v', e = .returned v' ∧ w'.ownsRow w.heap.size 5 1 v' s (bvs (le n s)) ∧ Below w.heap.size w w' := by
  go_enter Try.func23, Try.ntmps23
  go_wp2_with fail
  refine (bytes_any n s _ hn hs).mono ?_
  rintro e w' ⟨v', rfl, hown, hb⟩
  go_wp2
  go_ret
  exact ⟨_, rfl, hown, hb⟩

end Go.Proofs.Ytengfglopagdmaa
