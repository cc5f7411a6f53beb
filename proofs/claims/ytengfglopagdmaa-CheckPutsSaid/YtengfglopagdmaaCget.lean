/- Package check by contracts: sized, and what Get refuses ahead of the positions. -/
import Derived.Test.YtengfglopagdmaaRight
import Derived.Test.YtengfglopagdmaaSum
namespace Go.Proofs.Ytengfglopagdmaa
open Go.RowKit Go.Cor

theorem csized_short (v : Value) (l : List UInt8) (w : World) (hv : IsB w v l) (h : l.length < 24) :
    Calls Try.prog 26 #[v] w fun e w' => e = .returned (err 3) ∧ w = w' := by
  obtain ⟨x, cap, rfl, hlc, hcm⟩ := hv.at_len rfl
  clear hv
  go_enter Try.func26, Try.ntmps26
  go_wp2
  go_ret
  exact ⟨rfl, rfl⟩

set_option maxHeartbeats 1000000 in
theorem csized_rest (v : Value) (l : List UInt8) (w : World) (hv : IsB w v l) (hl : l.length ≤ 1099511627776) (h : 24 ≤ l.length) :
    Calls Try.prog 26 #[v] w fun e w' => e = .returned (cerr (sizedK l)) ∧ w = w' := by
  obtain ⟨L, hL⟩ : ∃ L, l.length = L := ⟨_, rfl⟩
  have HV := Lib.hid hv
  obtain ⟨x, cap, rfl, hlc, hcm⟩ := hv.at_len hL
  obtain ⟨m, hm⟩ : ∃ m : Nat, m = fld l 0 4 := ⟨_, rfl⟩
  obtain ⟨n, hn⟩ : ∃ n : Nat, n = fld l 16 4 := ⟨_, rfl⟩
  have hn4 : n < 4294967296 := by rw [hn]; exact fld4_lt l 16
  have hm4 : m < 4294967296 := by rw [hm]; exact fld4_lt l 0
  have HM := Lib.hid hm
  have HN := Lib.hid hn
  have HL := Lib.hid hL
  have hK : sizedK l = if m ≠ 1128811344 ∨ 4096 < n then 4 else if L < 24 + 24 * n then 3 else if 24 + 24 * n < L then 4 else 0 := by
    unfold sizedK cnt
    rw [if_neg (by omega), ← hm, ← hn, hL]
  rw [hL] at h hl
  obtain ⟨q, hq⟩ : ∃ q : Nat, sizedK l = q := ⟨_, rfl⟩
  rw [hq] at hK ⊢
  clear hv hm hn hL hq
  by_cases m1 : m = 1128811344
  · have mb : ((m : Int) != 1128811344) = false := by rw [bne_eq_false_iff_eq]; omega
    by_cases n1 : 4096 < n
    · obtain rfl : q = 4 := by rw [hK, if_pos (.inr n1)]
      clear hK m1
      go_enter Try.func26, Try.ntmps26
      go_wp2_with fail
      refine (at_anyC _ l 16 4 _ (.inr (.inr (.inl rfl))) HV.out (by rw [HL.out]; omega) (by rw [HL.out]; omega)).mono ?_
      rintro e w' ⟨rfl, rfl⟩
      rw [← HN.out]
      go_wp2_with fail
      refine (at_anyC _ l 0 4 _ (.inr (.inr (.inl rfl))) HV.out (by rw [HL.out]; omega) (by rw [HL.out]; omega)).mono ?_
      rintro e w' ⟨rfl, rfl⟩
      rw [← HM.out]
      go_wp2
      go_ret
      exact ⟨rfl, rfl⟩
    · have n2 : n ≤ 4096 := by omega
      by_cases l1 : L < 24 + 24 * n
      · obtain rfl : q = 3 := by rw [hK, if_neg (by omega), if_pos l1]
        have lb : decide ((L : Int) < 20 + 24 * (n : Int) + 4) = true := decide_eq_true (by omega)
        clear hK m1 n1
        go_enter Try.func26, Try.ntmps26
        go_wp2_with fail
        refine (at_anyC _ l 16 4 _ (.inr (.inr (.inl rfl))) HV.out (by rw [HL.out]; omega) (by rw [HL.out]; omega)).mono ?_
        rintro e w' ⟨rfl, rfl⟩
        rw [← HN.out]
        go_wp2_with fail
        refine (at_anyC _ l 0 4 _ (.inr (.inr (.inl rfl))) HV.out (by rw [HL.out]; omega) (by rw [HL.out]; omega)).mono ?_
        rintro e w' ⟨rfl, rfl⟩
        rw [← HM.out]
        go_wp2
        go_ret
        exact ⟨rfl, rfl⟩
      · have lb : decide ((L : Int) < 20 + 24 * (n : Int) + 4) = false := decide_eq_false (by omega)
        by_cases l2 : 24 + 24 * n < L
        · obtain rfl : q = 4 := by rw [hK, if_neg (by omega), if_neg l1, if_pos l2]
          have lc : decide (20 + 24 * (n : Int) + 4 < (L : Int)) = true := decide_eq_true (by omega)
          clear hK m1 n1 l1
          go_enter Try.func26, Try.ntmps26
          go_wp2_with fail
          refine (at_anyC _ l 16 4 _ (.inr (.inr (.inl rfl))) HV.out (by rw [HL.out]; omega) (by rw [HL.out]; omega)).mono ?_
          rintro e w' ⟨rfl, rfl⟩
          rw [← HN.out]
          go_wp2_with fail
          refine (at_anyC _ l 0 4 _ (.inr (.inr (.inl rfl))) HV.out (by rw [HL.out]; omega) (by rw [HL.out]; omega)).mono ?_
          rintro e w' ⟨rfl, rfl⟩
          rw [← HM.out]
          go_wp2
          go_ret
          exact ⟨rfl, rfl⟩
        · obtain rfl : q = 0 := by rw [hK, if_neg (by omega), if_neg l1, if_neg l2]
          have lc : decide (20 + 24 * (n : Int) + 4 < (L : Int)) = false := decide_eq_false (by omega)
          clear hK m1 n1 l1
          go_enter Try.func26, Try.ntmps26
          go_wp2_with fail
          refine (at_anyC _ l 16 4 _ (.inr (.inr (.inl rfl))) HV.out (by rw [HL.out]; omega) (by rw [HL.out]; omega)).mono ?_
          rintro e w' ⟨rfl, rfl⟩
          rw [← HN.out]
          go_wp2_with fail
          refine (at_anyC _ l 0 4 _ (.inr (.inr (.inl rfl))) HV.out (by rw [HL.out]; omega) (by rw [HL.out]; omega)).mono ?_
          rintro e w' ⟨rfl, rfl⟩
          rw [← HM.out]
          go_wp2
          go_ret
          exact ⟨rfl, rfl⟩
  · obtain rfl : q = 4 := by rw [hK, if_pos (.inl m1)]
    have mb : ((m : Int) != 1128811344) = true := by rw [bne_iff_ne]; omega
    clear hK m1
    go_enter Try.func26, Try.ntmps26
    go_wp2_with fail
    refine (at_anyC _ l 16 4 _ (.inr (.inr (.inl rfl))) HV.out (by rw [HL.out]; omega) (by rw [HL.out]; omega)).mono ?_
    rintro e w' ⟨rfl, rfl⟩
    rw [← HN.out]
    go_wp2_with fail
    refine (at_anyC _ l 0 4 _ (.inr (.inr (.inl rfl))) HV.out (by rw [HL.out]; omega) (by rw [HL.out]; omega)).mono ?_
    rintro e w' ⟨rfl, rfl⟩
    rw [← HM.out]
    go_wp2
    go_ret
    exact ⟨rfl, rfl⟩

theorem csized_any (v : Value) (l : List UInt8) (w : World) (hv : IsB w v l) (hl : l.length ≤ 1099511627776) :
    Calls Try.prog 26 #[v] w fun e w' => e = .returned (cerr (sizedK l)) ∧ w = w' := by
  by_cases h : l.length < 24
  · rw [sizedK_short h]
    exact csized_short v l w hv h
  · exact csized_rest v l w hv hl (by omega)

/-- The world in which Get has its result. -/
abbrev cworld (w : World) : World := w.alloc (.cells #[.int .i64 0, .int .i64 0, .int .i64 0, .slice none 0 0] 34)
theorem cworld_below (w : World) : Below w.heap.size w (cworld w) := (Below.refl _ _).alloc (Nat.le_refl _) _

theorem cget_sized (v : Value) (l : List UInt8) (w : World) (hv : IsB w v l) (hl : l.length ≤ 1099511627776) (h : sizedK l ≠ 0) :
    Calls Try.prog 13 #[v] w fun e w' => e = .returned (.tuple #[cval czero (.slice none 0 0), err (sizedK l : Nat)]) ∧ Below w.heap.size w w' := by
  have HV := Lib.hid (hv.mono (cworld_below w) (Nat.le_refl _))
  have HC := Lib.hid (cerr_pos h)
  obtain ⟨q, hq⟩ : ∃ q : Nat, sizedK l = q := ⟨_, rfl⟩
  rw [hq] at HC ⊢
  have HQ := Lib.hid hq
  clear hq h hv
  go_enter Try.func13, Try.ntmps13
  go_wp2_with fail
  refine (csized_any _ l _ HV.out hl).mono ?_
  rintro e w' ⟨rfl, rfl⟩
  rw [HQ.out, HC.out]
  go_wp2
  exact bodyPost_ret (v := .tuple #[cval czero (.slice none 0 0), err (q : Int)]) (by simp [results, Try.results13, go_sem, czero]) rfl ⟨rfl, cworld_below w⟩

theorem cget_sum (v : Value) (l : List UInt8) (w : World) (hv : IsB w v l) (hl : l.length ≤ 1099511627776) (h : sizedK l = 0) (hs : ¬ sumOk l) :
    Calls Try.prog 13 #[v] w fun e w' => e = .returned (.tuple #[cval czero (.slice none 0 0), err 5]) ∧ Below w.heap.size w w' := by
  have HV := Lib.hid (hv.mono (cworld_below w) (Nat.le_refl _))
  have h24 := (sizedK_ok h).1
  have HQ := Lib.hid h
  have HS := Lib.hid hs
  clear h hv hs
  go_enter Try.func13, Try.ntmps13
  go_wp2_with fail
  refine (csized_any _ l _ HV.out hl).mono ?_
  rintro e w' ⟨rfl, rfl⟩
  rw [HQ.out, cerr_0]
  go_wp2_with fail
  refine (open_bad _ l _ HV.out hl (by omega) HS.out).mono ?_
  rintro e w' ⟨rfl, rfl⟩
  go_wp2
  exact bodyPost_ret (v := .tuple #[cval czero (.slice none 0 0), err 5]) (by simp [results, Try.results13, go_sem, czero]) rfl ⟨rfl, cworld_below w⟩

end Go.Proofs.Ytengfglopagdmaa
