/- The document's messages (layer 14) by contracts: byteful, Check, Same; the law's To and Of. -/
import Derived.Test.YtncfdkkekaninaaMsg
import Derived.Test.YtncfdkkekaninaaLaw03
import Derived.Test.YtncfdkkekaninaaRef03d
set_option linter.unusedVariables false
set_option linter.unusedSimpArgs false
namespace Go.Proofs.Ytncfdkkekaninaa
open Go.RowKit Go.Cor

/-- A message as a value; v: its data's slice. -/
abbrev mval (m : Msg) (v : Value) : Value := .agg #[.int .i64 m.fr, .int .i64 m.to, .int .i64 m.kd, .int .i64 m.vo, .int .i64 m.li, .int .u64 (m.id : Int), .int .i64 m.co, .bool m.has, .int .u64 (m.n.key : Int), .int .u32 (m.n.cookie : Int), .bool m.n.gone, v]
theorem byteful_yes (n : Int) (w : World) (h : 0 ≤ n) (h2 : n < 256) :
    Calls Try.prog 27 #[.int .i64 n] w fun e w' => e = .returned (.bool true) ∧ w = w' := by
  go_enter Try.func27, Try.ntmps27
  go_wp2
  go_ret
  exact ⟨rfl, rfl⟩
theorem byteful_no (n : Int) (w : World) (h : ¬ (0 ≤ n ∧ n < 256)) :
    Calls Try.prog 27 #[.int .i64 n] w fun e w' => e = .returned (.bool false) ∧ w = w' := by
  by_cases h1 : 0 ≤ n
  · have h2 : ¬ n < 256 := fun h2 => h ⟨h1, h2⟩
    go_enter Try.func27, Try.ntmps27
    go_wp2
    go_ret
    exact ⟨rfl, rfl⟩
  · go_enter Try.func27, Try.ntmps27
    go_wp2
    go_ret
    exact ⟨rfl, rfl⟩
set_option maxRecDepth 100000 in
set_option maxHeartbeats 4000000 in
theorem rcheck_bad (m : Msg) (v : Value) (w : World) (hv : IsB w v m.n.data) (h : ¬ m.good) :
    Calls Try.prog 21 #[mval m v] w fun e w' => e = .returned (.int .i64 1) ∧ Below w.heap.size w w' := by
  obtain ⟨fr, tt, kd, vo, li, id, co, has, key, cookie, gone, data⟩ := m
  obtain ⟨L, hL⟩ : ∃ L, data.length = L := ⟨_, rfl⟩
  obtain ⟨x, c, rfl, _, _⟩ := hv.at_len hL
  unfold Msg.good at h
  dsimp only at h
  have HB := Lib.hid ((Below.refl w.heap.size w).alloc (Nat.le_refl _) (.cells #[.int .i64 fr, .int .i64 tt, .int .i64 kd, .int .i64 vo, .int .i64 li, .int .u64 (id : Int), .int .i64 co, .bool has, .int .u64 (key : Int), .int .u32 (cookie : Int), .bool gone, .slice x L c] 36))
  clear hv hL
  by_cases c0 : 0 ≤ fr ∧ fr < 256
  case neg =>
    go_enter Try.func21, Try.ntmps21
    go_wp2_with fail
    refine (byteful_no _ _ c0).mono ?_
    rintro e w1 ⟨rfl, rfl⟩
    go_wp2
    go_ret
    exact ⟨rfl, HB.out⟩
  by_cases c1 : 0 ≤ tt ∧ tt < 256
  case neg =>
    go_enter Try.func21, Try.ntmps21
    go_wp2_with fail
    refine (byteful_yes _ _ c0.1 c0.2).mono ?_
    rintro e w1 ⟨rfl, rfl⟩
    go_wp2_with fail
    refine (byteful_no _ _ c1).mono ?_
    rintro e w1 ⟨rfl, rfl⟩
    go_wp2
    go_ret
    exact ⟨rfl, HB.out⟩
  by_cases c2 : 0 ≤ co ∧ co < 256
  case neg =>
    go_enter Try.func21, Try.ntmps21
    go_wp2_with fail
    refine (byteful_yes _ _ c0.1 c0.2).mono ?_
    rintro e w1 ⟨rfl, rfl⟩
    go_wp2_with fail
    refine (byteful_yes _ _ c1.1 c1.2).mono ?_
    rintro e w1 ⟨rfl, rfl⟩
    go_wp2_with fail
    refine (byteful_no _ _ c2).mono ?_
    rintro e w1 ⟨rfl, rfl⟩
    go_wp2
    go_ret
    exact ⟨rfl, HB.out⟩
  by_cases c3 : ¬ kd < 1
  case neg =>
    have k0 := Classical.not_not.1 c3
    go_enter Try.func21, Try.ntmps21
    go_wp2_with fail
    refine (byteful_yes _ _ c0.1 c0.2).mono ?_
    rintro e w1 ⟨rfl, rfl⟩
    go_wp2_with fail
    refine (byteful_yes _ _ c1.1 c1.2).mono ?_
    rintro e w1 ⟨rfl, rfl⟩
    go_wp2_with fail
    refine (byteful_yes _ _ c2.1 c2.2).mono ?_
    rintro e w1 ⟨rfl, rfl⟩
    go_wp2
    go_ret
    exact ⟨rfl, HB.out⟩
  by_cases c4 : ¬ 5 < kd
  case neg =>
    have k0 := Classical.not_not.1 c4
    go_enter Try.func21, Try.ntmps21
    go_wp2_with fail
    refine (byteful_yes _ _ c0.1 c0.2).mono ?_
    rintro e w1 ⟨rfl, rfl⟩
    go_wp2_with fail
    refine (byteful_yes _ _ c1.1 c1.2).mono ?_
    rintro e w1 ⟨rfl, rfl⟩
    go_wp2_with fail
    refine (byteful_yes _ _ c2.1 c2.2).mono ?_
    rintro e w1 ⟨rfl, rfl⟩
    go_wp2
    go_ret
    exact ⟨rfl, HB.out⟩
  by_cases c5 : ¬ (kd < 5 ∧ co ≠ 0)
  case neg =>
    have k1 : kd < 5 := (Classical.not_not.1 c5).1
    have k2 : ¬ co = 0 := (Classical.not_not.1 c5).2
    have k3 : (co == 0) = false := beq_eq_false_iff_ne.2 k2
    go_enter Try.func21, Try.ntmps21
    go_wp2_with fail
    refine (byteful_yes _ _ c0.1 c0.2).mono ?_
    rintro e w1 ⟨rfl, rfl⟩
    go_wp2_with fail
    refine (byteful_yes _ _ c1.1 c1.2).mono ?_
    rintro e w1 ⟨rfl, rfl⟩
    go_wp2_with fail
    refine (byteful_yes _ _ c2.1 c2.2).mono ?_
    rintro e w1 ⟨rfl, rfl⟩
    go_wp2
    go_ret
    exact ⟨rfl, HB.out⟩
  by_cases c6 : ¬ vo < 1
  case neg =>
    have k0 := Classical.not_not.1 c6
    by_cases k5 : kd < 5
    · have k6 : co = 0 := Classical.byContradiction fun e => c5 ⟨k5, e⟩
      subst k6
      go_enter Try.func21, Try.ntmps21
      go_wp2_with fail
      refine (byteful_yes _ _ c0.1 c0.2).mono ?_
      rintro e w1 ⟨rfl, rfl⟩
      go_wp2_with fail
      refine (byteful_yes _ _ c1.1 c1.2).mono ?_
      rintro e w1 ⟨rfl, rfl⟩
      go_wp2_with fail
      refine (byteful_yes _ _ c2.1 c2.2).mono ?_
      rintro e w1 ⟨rfl, rfl⟩
      go_wp2
      go_ret
      exact ⟨rfl, HB.out⟩
    · go_enter Try.func21, Try.ntmps21
      go_wp2_with fail
      refine (byteful_yes _ _ c0.1 c0.2).mono ?_
      rintro e w1 ⟨rfl, rfl⟩
      go_wp2_with fail
      refine (byteful_yes _ _ c1.1 c1.2).mono ?_
      rintro e w1 ⟨rfl, rfl⟩
      go_wp2_with fail
      refine (byteful_yes _ _ c2.1 c2.2).mono ?_
      rintro e w1 ⟨rfl, rfl⟩
      go_wp2
      go_ret
      exact ⟨rfl, HB.out⟩
  by_cases c7 : ¬ 65535 < vo
  case neg =>
    have k0 := Classical.not_not.1 c7
    by_cases k5 : kd < 5
    · have k6 : co = 0 := Classical.byContradiction fun e => c5 ⟨k5, e⟩
      subst k6
      go_enter Try.func21, Try.ntmps21
      go_wp2_with fail
      refine (byteful_yes _ _ c0.1 c0.2).mono ?_
      rintro e w1 ⟨rfl, rfl⟩
      go_wp2_with fail
      refine (byteful_yes _ _ c1.1 c1.2).mono ?_
      rintro e w1 ⟨rfl, rfl⟩
      go_wp2_with fail
      refine (byteful_yes _ _ c2.1 c2.2).mono ?_
      rintro e w1 ⟨rfl, rfl⟩
      go_wp2
      go_ret
      exact ⟨rfl, HB.out⟩
    · go_enter Try.func21, Try.ntmps21
      go_wp2_with fail
      refine (byteful_yes _ _ c0.1 c0.2).mono ?_
      rintro e w1 ⟨rfl, rfl⟩
      go_wp2_with fail
      refine (byteful_yes _ _ c1.1 c1.2).mono ?_
      rintro e w1 ⟨rfl, rfl⟩
      go_wp2_with fail
      refine (byteful_yes _ _ c2.1 c2.2).mono ?_
      rintro e w1 ⟨rfl, rfl⟩
      go_wp2
      go_ret
      exact ⟨rfl, HB.out⟩
  by_cases c8 : ¬ li < 0
  case neg =>
    have k0 := Classical.not_not.1 c8
    by_cases k5 : kd < 5
    · have k6 : co = 0 := Classical.byContradiction fun e => c5 ⟨k5, e⟩
      subst k6
      go_enter Try.func21, Try.ntmps21
      go_wp2_with fail
      refine (byteful_yes _ _ c0.1 c0.2).mono ?_
      rintro e w1 ⟨rfl, rfl⟩
      go_wp2_with fail
      refine (byteful_yes _ _ c1.1 c1.2).mono ?_
      rintro e w1 ⟨rfl, rfl⟩
      go_wp2_with fail
      refine (byteful_yes _ _ c2.1 c2.2).mono ?_
      rintro e w1 ⟨rfl, rfl⟩
      go_wp2
      go_ret
      exact ⟨rfl, HB.out⟩
    · go_enter Try.func21, Try.ntmps21
      go_wp2_with fail
      refine (byteful_yes _ _ c0.1 c0.2).mono ?_
      rintro e w1 ⟨rfl, rfl⟩
      go_wp2_with fail
      refine (byteful_yes _ _ c1.1 c1.2).mono ?_
      rintro e w1 ⟨rfl, rfl⟩
      go_wp2_with fail
      refine (byteful_yes _ _ c2.1 c2.2).mono ?_
      rintro e w1 ⟨rfl, rfl⟩
      go_wp2
      go_ret
      exact ⟨rfl, HB.out⟩
  by_cases c9 : ¬ 2147483647 < li
  case neg =>
    have k0 := Classical.not_not.1 c9
    by_cases k5 : kd < 5
    · have k6 : co = 0 := Classical.byContradiction fun e => c5 ⟨k5, e⟩
      subst k6
      go_enter Try.func21, Try.ntmps21
      go_wp2_with fail
      refine (byteful_yes _ _ c0.1 c0.2).mono ?_
      rintro e w1 ⟨rfl, rfl⟩
      go_wp2_with fail
      refine (byteful_yes _ _ c1.1 c1.2).mono ?_
      rintro e w1 ⟨rfl, rfl⟩
      go_wp2_with fail
      refine (byteful_yes _ _ c2.1 c2.2).mono ?_
      rintro e w1 ⟨rfl, rfl⟩
      go_wp2
      go_ret
      exact ⟨rfl, HB.out⟩
    · go_enter Try.func21, Try.ntmps21
      go_wp2_with fail
      refine (byteful_yes _ _ c0.1 c0.2).mono ?_
      rintro e w1 ⟨rfl, rfl⟩
      go_wp2_with fail
      refine (byteful_yes _ _ c1.1 c1.2).mono ?_
      rintro e w1 ⟨rfl, rfl⟩
      go_wp2_with fail
      refine (byteful_yes _ _ c2.1 c2.2).mono ?_
      rintro e w1 ⟨rfl, rfl⟩
      go_wp2
      go_ret
      exact ⟨rfl, HB.out⟩
  exact absurd ⟨c0.1, by omega, c1.1, by omega, c2.1, by omega, by omega, by omega, fun e => Classical.byContradiction fun e2 => c5 ⟨e, e2⟩, by omega, by omega, by omega, by omega⟩ h

end Go.Proofs.Ytncfdkkekaninaa
