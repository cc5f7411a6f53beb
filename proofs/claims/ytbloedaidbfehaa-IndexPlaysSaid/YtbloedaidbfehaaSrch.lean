/- A key's place: the binary search, by contract. -/
import Derived.Test.YtbloedaidbfehaaPosn
namespace Go.Proofs.Ytbloedaidbfehaa
open Go.RowKit Go.Cor

/-- How two keys stand to each other. -/
def cmpK (a b : Nat) : Int := if a < b then -1 else if b < a then 1 else 0
theorem cmpK_neg {a b : Nat} : cmpK a b < 0 ↔ a < b := by
  unfold cmpK
  split
  · simp_all
  · split <;> simp_all
theorem cmpK_zero {a b : Nat} : cmpK a b = 0 ↔ a = b := by
  unfold cmpK
  split
  · simp; omega
  · split
    · simp; omega
    · simp; omega

theorem nan_any (a : Nat) (w : World) :
    Calls Try.prog 33 #[.int .u64 (a : Int)] w fun e w' => e = .returned (.bool false) ∧ w = w' := by
  go_enter Try.func33, Try.ntmps33
  go_wp2
  go_ret
  exact ⟨by simp, rfl⟩
theorem compare_any (a b : Nat) (w : World) :
    Calls Try.prog 28 #[.int .u64 (a : Int), .int .u64 (b : Int)] w fun e w' => e = .returned (.int .i64 (cmpK a b)) ∧ w = w' := by
  by_cases h1 : a < b
  · have e : cmpK a b = -1 := if_pos h1
    have h1' : (a : Int) < (b : Int) := by omega
    rw [e]
    go_enter Try.func28, Try.ntmps28
    go_wp2_with (go_at_call 33; refine (nan_any _ _).mono ?_; rintro e w' ⟨rfl, rfl⟩)
    go_ret
    exact ⟨rfl, rfl⟩
  · have h1' : ¬ (a : Int) < (b : Int) := by omega
    by_cases h2 : b < a
    · have e : cmpK a b = 1 := by unfold cmpK; rw [if_neg h1, if_pos h2]
      have h2' : (b : Int) < (a : Int) := by omega
      rw [e]
      go_enter Try.func28, Try.ntmps28
      go_wp2_with (go_at_call 33; refine (nan_any _ _).mono ?_; rintro e w' ⟨rfl, rfl⟩)
      go_ret
      exact ⟨rfl, rfl⟩
    · have e : cmpK a b = 0 := by unfold cmpK; rw [if_neg h1, if_neg h2]
      have h2' : ¬ (b : Int) < (a : Int) := by omega
      rw [e]
      go_enter Try.func28, Try.ntmps28
      go_wp2_with (go_at_call 33; refine (nan_any _ _).mono ?_; rintro e w' ⟨rfl, rfl⟩)
      go_ret
      exact ⟨rfl, rfl⟩
theorem closure_any (p : Pos) (k : Nat) (w : World) :
    Calls Try.prog 27 #[pval p, .int .u64 (k : Int)] w fun e w' => e = .returned (.int .i64 (cmpK p.key k)) ∧ Below w.heap.size w w' := by
  go_enter Try.func27, Try.ntmps27
  go_wp2_with (go_at_call 28; refine (compare_any _ _ _).mono ?_; rintro e w' ⟨rfl, rfl⟩)
  go_ret
  exact ⟨rfl, (Below.refl _ _).alloc (Nat.le_refl _) _⟩

set_option maxRecDepth 100000 in
set_option maxHeartbeats 1000000 in
theorem search_any (v : Value) (l : List Pos) (k : Nat) (w : World) (hv : IsP w v l) (hs : Asc l) (hl : l.length ≤ 1048576) :
    Calls Try.prog 26 #[v, .int .u64 (k : Int), .func (.func 27) #[] #[]] w fun e w' => e = .returned (.tuple #[.int .i64 (psn l k), .bool (fnd l k).isSome]) ∧ Below w.heap.size w w' := by
  obtain ⟨N, hN⟩ : ∃ N, l.length = N := ⟨_, rfl⟩
  obtain ⟨q, hq⟩ : ∃ q, psn l k = q := ⟨_, rfl⟩
  obtain ⟨r, hr⟩ : ∃ r, (fnd l k).isSome = r := ⟨_, rfl⟩
  have hqN := psn_le l k
  have hlen := fun W => len_P (P := Try.prog) hv hN 39 3 32 Try.underlying39 W
  rw [hN] at hqN hl
  rw [hq] at hqN
  rw [hq, hr]
  have HV := Lib.hid hv
  have HN := Lib.hid hN
  have HQ := Lib.hid hq
  have HR := Lib.hid hr
  clear hv hN hq hr
  go_enter Try.func26, Try.ntmps26
  go_wp2
  go_loopw [9, 10] (fun a b wr => ∃ i j : Nat, i ≤ q ∧ q ≤ j ∧ j ≤ N ∧ a = .int .i64 i ∧ b = .int .i64 j ∧ Hid (Below w.heap.size w wr)) (fun a b _ => (intOf b).toNat - (intOf a).toNat)
  case atStart => exact ⟨0, N, Nat.zero_le _, hqN, Nat.le_refl _, rfl, rfl, Lib.hid (Below.refl _ _)⟩
  case round =>
    obtain ⟨i, j, hiq, hqj, hjN, rfl, rfl, hB⟩ := hrel
    by_cases hlt : i < j
    · obtain ⟨e, he⟩ : ∃ e, pat l ((i + j) / 2) = e := ⟨_, rfl⟩
      have hget : l[(i + j) / 2]? = some e := by rw [← he]; exact get_pat (by rw [HN.out]; omega)
      obtain ⟨b, o, hidx, c0, c1, c2, c3, c4⟩ := indexAt_P (HV.out.mono hB.out (Nat.le_refl _)) 39 32 Try.underlying39 Try.sizePos ((i + j) / 2) (by rw [HN.out]; omega)
      rw [he] at c0 c1 c2 c3 c4
      rw [show ((((i + j) / 2 : Nat)) : Int) = ((i : Int) + (j : Int)) / 2 from by omega] at hidx
      have HE := Lib.hid hget
      obtain ⟨c, hc⟩ : ∃ c, cmpK e.key k = c := ⟨_, rfl⟩
      have HCM := Lib.hid hc
      clear he hc hget
      go_wp2_with fail
      refine (closure_any e _ _).mono ?_
      rintro e2 w2 ⟨rfl, hb2⟩
      rw [HCM.out]
      have HB2 := Lib.hid (hB.out.trans (hb2.mono hB.out.size))
      clear hb2 c0 c1 c2 c3 c4 hidx
      by_cases hneg : c < 0
      · have hiq2 : (i + j) / 2 + 1 ≤ q := by
          by_cases h : (i + j) / 2 < q
          · exact h
          · have h2 := psn_above (k := k) hs HE.out (by rw [HQ.out]; omega)
            have h3 := cmpK_neg.1 (by rw [HCM.out]; exact hneg)
            omega
        go_wp2
        go_roundw
        case rel => exact ⟨(i + j) / 2 + 1, j, hiq2, hqj, hjN, by congr 1, rfl, HB2⟩
        case measure => simp [intOf]; omega
      · have hqj2 : q ≤ (i + j) / 2 := by
          by_cases h : (i + j) / 2 < q
          · have h2 := psn_below (k := k) HE.out (by rw [HQ.out]; omega)
            have h3 := cmpK_neg.2 h2
            rw [HCM.out] at h3
            omega
          · omega
        go_wp2
        go_roundw
        case rel => exact ⟨i, (i + j) / 2, hiq, hqj2, by omega, rfl, by congr 1, HB2⟩
        case measure => simp [intOf]; omega
    · obtain rfl : i = q := by omega
      by_cases hiN : i < N
      · obtain ⟨e, he⟩ : ∃ e, pat l i = e := ⟨_, rfl⟩
        have hget : l[i]? = some e := by rw [← he]; exact get_pat (by rw [HN.out]; omega)
        obtain ⟨b, o, hidx, c0, c1, c2, c3, c4⟩ := indexAt_P (HV.out.mono hB.out (Nat.le_refl _)) 39 32 Try.underlying39 Try.sizePos i (by rw [HN.out]; omega)
        rw [he] at c0 c1 c2 c3 c4
        obtain ⟨c, hc⟩ : ∃ c, cmpK e.key k = c := ⟨_, rfl⟩
        have HCM := Lib.hid hc
        have hrc : r = (c == 0) := by
          rw [← HR.out, fnd, HQ.out, hget, ← hc, Option.filter_some]
          by_cases hen : e.key = k
          · rw [cmpK_zero.2 hen]
            simp [hen]
          · have h1 : cmpK e.key k ≠ 0 := fun h => hen (cmpK_zero.1 h)
            simp [hen, h1]
        have HRC := Lib.hid hrc
        clear he hc hget hrc
        go_wp2_with fail
        refine (closure_any e _ _).mono ?_
        rintro e2 w2 ⟨rfl, hb2⟩
        rw [HCM.out]
        have HB2 := Lib.hid (hB.out.trans (hb2.mono hB.out.size))
        clear hb2 c0 c1 c2 c3 c4 hidx
        go_wp2
        go_ret2
        exact ⟨by rw [HRC.out]; rfl, HB2.out⟩
      · have hrf : r = false := by
          rw [← HR.out, fnd, HQ.out, List.getElem?_eq_none (by rw [HN.out]; omega)]
          rfl
        subst hrf
        go_wp2
        go_ret2
        exact ⟨rfl, hB.out⟩

theorem place_any (v : Value) (l : List Pos) (k : Nat) (w : World) (hv : IsP w v l) (hs : Asc l) (hl : l.length ≤ 1048576) :
    Calls Try.prog 21 #[v, .int .u64 (k : Int)] w fun e w' => e = .returned (.tuple #[.int .i64 (psn l k), .bool (fnd l k).isSome]) ∧ Below w.heap.size w w' := by
  go_enter Try.func21, Try.ntmps21
  go_wp2_with fail
  refine (search_any v l k _ hv hs hl).mono ?_
  rintro e w' ⟨rfl, hb⟩
  go_wp2
  go_ret2
  exact ⟨rfl, hb⟩

end Go.Proofs.Ytbloedaidbfehaa
