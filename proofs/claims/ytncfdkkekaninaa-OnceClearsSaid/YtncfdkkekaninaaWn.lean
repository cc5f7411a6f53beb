/- Package wire by contracts: number, at, within, can, Check. -/
import Derived.Test.YtncfdkkekaninaaRef14
import Derived.Test.YtncfdkkekaninaaBlk
set_option linter.unusedVariables false
set_option linter.unusedSimpArgs false
namespace Go.Proofs.Ytncfdkkekaninaa
open Go.RowKit Go.Cor

theorem within_yes (n lo hi : Int) (w : World) (h1 : lo ≤ n) (h2 : n ≤ hi) :
    Calls Try.prog 36 #[.int .i64 n, .int .i64 lo, .int .i64 hi] w fun e w' => e = .returned (.bool true) ∧ w = w' := by
  go_enter Try.func36, Try.ntmps36
  go_wp2
  go_ret
  exact ⟨rfl, rfl⟩
theorem within_no (n lo hi : Int) (w : World) (h : ¬ (lo ≤ n ∧ n ≤ hi)) :
    Calls Try.prog 36 #[.int .i64 n, .int .i64 lo, .int .i64 hi] w fun e w' => e = .returned (.bool false) ∧ w = w' := by
  by_cases h1 : lo ≤ n
  · have h2 : ¬ n ≤ hi := fun h2 => h ⟨h1, h2⟩
    go_enter Try.func36, Try.ntmps36
    go_wp2
    go_ret
    exact ⟨rfl, rfl⟩
  · clear h
    go_enter Try.func36, Try.ntmps36
    go_wp2
    go_ret
    exact ⟨rfl, rfl⟩
set_option maxRecDepth 100000 in
set_option maxHeartbeats 4000000 in
theorem can_no (m : Msg) (v : Value) (w : World) (hv : IsB w v m.n.data) (h : ¬ m.good) :
    Calls Try.prog 31 #[mval m v] w fun e w' => e = .returned (.bool false) ∧ Below w.heap.size w w' := by
  obtain ⟨fr, tt, kd, vo, li, id, co, has, key, cookie, gone, data⟩ := m
  obtain ⟨L, hL⟩ : ∃ L, data.length = L := ⟨_, rfl⟩
  obtain ⟨x, c, rfl, _, _⟩ := hv.at_len hL
  unfold Msg.good at h
  dsimp only at h
  clear hv hL
  by_cases h14 : kd = 1 ∨ kd = 2 ∨ kd = 3 ∨ kd = 4
  · by_cases h0 : co = 0
    · subst h0
      rcases h14 with rfl | rfl | rfl | rfl
      · have HB := Lib.hid ((Below.refl w.heap.size w).alloc (Nat.le_refl _) (.cells #[.int .i64 fr, .int .i64 tt, .int .i64 1, .int .i64 vo, .int .i64 li, .int .u64 (id : Int), .int .i64 0, .bool has, .int .u64 (key : Int), .int .u32 (cookie : Int), .bool gone, .slice x L c] 42))
        by_cases c0 : 0 ≤ fr ∧ fr ≤ 255
        case neg =>
          go_enter Try.func31, Try.ntmps31
          go_wp2_with fail
          refine (within_no _ _ _ _ c0).mono ?_
          rintro e w1 ⟨rfl, rfl⟩
          go_wp2
          go_ret
          exact ⟨rfl, HB.out⟩
        by_cases c1 : 0 ≤ tt ∧ tt ≤ 255
        case neg =>
          go_enter Try.func31, Try.ntmps31
          go_wp2_with fail
          refine (within_yes _ _ _ _ (by omega) (by omega)).mono ?_
          rintro e w1 ⟨rfl, rfl⟩
          go_wp2_with fail
          refine (within_no _ _ _ _ c1).mono ?_
          rintro e w1 ⟨rfl, rfl⟩
          go_wp2
          go_ret
          exact ⟨rfl, HB.out⟩
        by_cases c2 : 1 ≤ vo ∧ vo ≤ 65535
        case neg =>
          go_enter Try.func31, Try.ntmps31
          go_wp2_with fail
          refine (within_yes _ _ _ _ (by omega) (by omega)).mono ?_
          rintro e w1 ⟨rfl, rfl⟩
          go_wp2_with fail
          refine (within_yes _ _ _ _ (by omega) (by omega)).mono ?_
          rintro e w1 ⟨rfl, rfl⟩
          go_wp2_with fail
          refine (within_no _ _ _ _ c2).mono ?_
          rintro e w1 ⟨rfl, rfl⟩
          go_wp2
          go_ret
          exact ⟨rfl, HB.out⟩
        by_cases c3 : 0 ≤ li ∧ li ≤ 2147483647
        case neg =>
          go_enter Try.func31, Try.ntmps31
          go_wp2_with fail
          refine (within_yes _ _ _ _ (by omega) (by omega)).mono ?_
          rintro e w1 ⟨rfl, rfl⟩
          go_wp2_with fail
          refine (within_yes _ _ _ _ (by omega) (by omega)).mono ?_
          rintro e w1 ⟨rfl, rfl⟩
          go_wp2_with fail
          refine (within_yes _ _ _ _ (by omega) (by omega)).mono ?_
          rintro e w1 ⟨rfl, rfl⟩
          go_wp2_with fail
          refine (within_no _ _ _ _ c3).mono ?_
          rintro e w1 ⟨rfl, rfl⟩
          go_wp2
          go_ret
          exact ⟨rfl, HB.out⟩
        exact absurd ⟨c0.1, c0.2, c1.1, c1.2, by omega, by omega, by omega, by omega, fun _ => rfl, c2.1, c2.2, c3.1, c3.2⟩ h
      · have HB := Lib.hid ((Below.refl w.heap.size w).alloc (Nat.le_refl _) (.cells #[.int .i64 fr, .int .i64 tt, .int .i64 2, .int .i64 vo, .int .i64 li, .int .u64 (id : Int), .int .i64 0, .bool has, .int .u64 (key : Int), .int .u32 (cookie : Int), .bool gone, .slice x L c] 42))
        by_cases c0 : 0 ≤ fr ∧ fr ≤ 255
        case neg =>
          go_enter Try.func31, Try.ntmps31
          go_wp2_with fail
          refine (within_no _ _ _ _ c0).mono ?_
          rintro e w1 ⟨rfl, rfl⟩
          go_wp2
          go_ret
          exact ⟨rfl, HB.out⟩
        by_cases c1 : 0 ≤ tt ∧ tt ≤ 255
        case neg =>
          go_enter Try.func31, Try.ntmps31
          go_wp2_with fail
          refine (within_yes _ _ _ _ (by omega) (by omega)).mono ?_
          rintro e w1 ⟨rfl, rfl⟩
          go_wp2_with fail
          refine (within_no _ _ _ _ c1).mono ?_
          rintro e w1 ⟨rfl, rfl⟩
          go_wp2
          go_ret
          exact ⟨rfl, HB.out⟩
        by_cases c2 : 1 ≤ vo ∧ vo ≤ 65535
        case neg =>
          go_enter Try.func31, Try.ntmps31
          go_wp2_with fail
          refine (within_yes _ _ _ _ (by omega) (by omega)).mono ?_
          rintro e w1 ⟨rfl, rfl⟩
          go_wp2_with fail
          refine (within_yes _ _ _ _ (by omega) (by omega)).mono ?_
          rintro e w1 ⟨rfl, rfl⟩
          go_wp2_with fail
          refine (within_no _ _ _ _ c2).mono ?_
          rintro e w1 ⟨rfl, rfl⟩
          go_wp2
          go_ret
          exact ⟨rfl, HB.out⟩
        by_cases c3 : 0 ≤ li ∧ li ≤ 2147483647
        case neg =>
          go_enter Try.func31, Try.ntmps31
          go_wp2_with fail
          refine (within_yes _ _ _ _ (by omega) (by omega)).mono ?_
          rintro e w1 ⟨rfl, rfl⟩
          go_wp2_with fail
          refine (within_yes _ _ _ _ (by omega) (by omega)).mono ?_
          rintro e w1 ⟨rfl, rfl⟩
          go_wp2_with fail
          refine (within_yes _ _ _ _ (by omega) (by omega)).mono ?_
          rintro e w1 ⟨rfl, rfl⟩
          go_wp2_with fail
          refine (within_no _ _ _ _ c3).mono ?_
          rintro e w1 ⟨rfl, rfl⟩
          go_wp2
          go_ret
          exact ⟨rfl, HB.out⟩
        exact absurd ⟨c0.1, c0.2, c1.1, c1.2, by omega, by omega, by omega, by omega, fun _ => rfl, c2.1, c2.2, c3.1, c3.2⟩ h
      · have HB := Lib.hid ((Below.refl w.heap.size w).alloc (Nat.le_refl _) (.cells #[.int .i64 fr, .int .i64 tt, .int .i64 3, .int .i64 vo, .int .i64 li, .int .u64 (id : Int), .int .i64 0, .bool has, .int .u64 (key : Int), .int .u32 (cookie : Int), .bool gone, .slice x L c] 42))
        by_cases c0 : 0 ≤ fr ∧ fr ≤ 255
        case neg =>
          go_enter Try.func31, Try.ntmps31
          go_wp2_with fail
          refine (within_no _ _ _ _ c0).mono ?_
          rintro e w1 ⟨rfl, rfl⟩
          go_wp2
          go_ret
          exact ⟨rfl, HB.out⟩
        by_cases c1 : 0 ≤ tt ∧ tt ≤ 255
        case neg =>
          go_enter Try.func31, Try.ntmps31
          go_wp2_with fail
          refine (within_yes _ _ _ _ (by omega) (by omega)).mono ?_
          rintro e w1 ⟨rfl, rfl⟩
          go_wp2_with fail
          refine (within_no _ _ _ _ c1).mono ?_
          rintro e w1 ⟨rfl, rfl⟩
          go_wp2
          go_ret
          exact ⟨rfl, HB.out⟩
        by_cases c2 : 1 ≤ vo ∧ vo ≤ 65535
        case neg =>
          go_enter Try.func31, Try.ntmps31
          go_wp2_with fail
          refine (within_yes _ _ _ _ (by omega) (by omega)).mono ?_
          rintro e w1 ⟨rfl, rfl⟩
          go_wp2_with fail
          refine (within_yes _ _ _ _ (by omega) (by omega)).mono ?_
          rintro e w1 ⟨rfl, rfl⟩
          go_wp2_with fail
          refine (within_no _ _ _ _ c2).mono ?_
          rintro e w1 ⟨rfl, rfl⟩
          go_wp2
          go_ret
          exact ⟨rfl, HB.out⟩
        by_cases c3 : 0 ≤ li ∧ li ≤ 2147483647
        case neg =>
          go_enter Try.func31, Try.ntmps31
          go_wp2_with fail
          refine (within_yes _ _ _ _ (by omega) (by omega)).mono ?_
          rintro e w1 ⟨rfl, rfl⟩
          go_wp2_with fail
          refine (within_yes _ _ _ _ (by omega) (by omega)).mono ?_
          rintro e w1 ⟨rfl, rfl⟩
          go_wp2_with fail
          refine (within_yes _ _ _ _ (by omega) (by omega)).mono ?_
          rintro e w1 ⟨rfl, rfl⟩
          go_wp2_with fail
          refine (within_no _ _ _ _ c3).mono ?_
          rintro e w1 ⟨rfl, rfl⟩
          go_wp2
          go_ret
          exact ⟨rfl, HB.out⟩
        exact absurd ⟨c0.1, c0.2, c1.1, c1.2, by omega, by omega, by omega, by omega, fun _ => rfl, c2.1, c2.2, c3.1, c3.2⟩ h
      · have HB := Lib.hid ((Below.refl w.heap.size w).alloc (Nat.le_refl _) (.cells #[.int .i64 fr, .int .i64 tt, .int .i64 4, .int .i64 vo, .int .i64 li, .int .u64 (id : Int), .int .i64 0, .bool has, .int .u64 (key : Int), .int .u32 (cookie : Int), .bool gone, .slice x L c] 42))
        by_cases c0 : 0 ≤ fr ∧ fr ≤ 255
        case neg =>
          go_enter Try.func31, Try.ntmps31
          go_wp2_with fail
          refine (within_no _ _ _ _ c0).mono ?_
          rintro e w1 ⟨rfl, rfl⟩
          go_wp2
          go_ret
          exact ⟨rfl, HB.out⟩
        by_cases c1 : 0 ≤ tt ∧ tt ≤ 255
        case neg =>
          go_enter Try.func31, Try.ntmps31
          go_wp2_with fail
          refine (within_yes _ _ _ _ (by omega) (by omega)).mono ?_
          rintro e w1 ⟨rfl, rfl⟩
          go_wp2_with fail
          refine (within_no _ _ _ _ c1).mono ?_
          rintro e w1 ⟨rfl, rfl⟩
          go_wp2
          go_ret
          exact ⟨rfl, HB.out⟩
        by_cases c2 : 1 ≤ vo ∧ vo ≤ 65535
        case neg =>
          go_enter Try.func31, Try.ntmps31
          go_wp2_with fail
          refine (within_yes _ _ _ _ (by omega) (by omega)).mono ?_
          rintro e w1 ⟨rfl, rfl⟩
          go_wp2_with fail
          refine (within_yes _ _ _ _ (by omega) (by omega)).mono ?_
          rintro e w1 ⟨rfl, rfl⟩
          go_wp2_with fail
          refine (within_no _ _ _ _ c2).mono ?_
          rintro e w1 ⟨rfl, rfl⟩
          go_wp2
          go_ret
          exact ⟨rfl, HB.out⟩
        by_cases c3 : 0 ≤ li ∧ li ≤ 2147483647
        case neg =>
          go_enter Try.func31, Try.ntmps31
          go_wp2_with fail
          refine (within_yes _ _ _ _ (by omega) (by omega)).mono ?_
          rintro e w1 ⟨rfl, rfl⟩
          go_wp2_with fail
          refine (within_yes _ _ _ _ (by omega) (by omega)).mono ?_
          rintro e w1 ⟨rfl, rfl⟩
          go_wp2_with fail
          refine (within_yes _ _ _ _ (by omega) (by omega)).mono ?_
          rintro e w1 ⟨rfl, rfl⟩
          go_wp2_with fail
          refine (within_no _ _ _ _ c3).mono ?_
          rintro e w1 ⟨rfl, rfl⟩
          go_wp2
          go_ret
          exact ⟨rfl, HB.out⟩
        exact absurd ⟨c0.1, c0.2, c1.1, c1.2, by omega, by omega, by omega, by omega, fun _ => rfl, c2.1, c2.2, c3.1, c3.2⟩ h
    · have hne : (co != 0) = true := bne_iff_ne.2 h0
      clear h
      rcases h14 with rfl | rfl | rfl | rfl
      · have HB := Lib.hid ((Below.refl w.heap.size w).alloc (Nat.le_refl _) (.cells #[.int .i64 fr, .int .i64 tt, .int .i64 1, .int .i64 vo, .int .i64 li, .int .u64 (id : Int), .int .i64 co, .bool has, .int .u64 (key : Int), .int .u32 (cookie : Int), .bool gone, .slice x L c] 42))
        go_enter Try.func31, Try.ntmps31
        go_wp2
        go_ret
        exact ⟨rfl, HB.out⟩
      · have HB := Lib.hid ((Below.refl w.heap.size w).alloc (Nat.le_refl _) (.cells #[.int .i64 fr, .int .i64 tt, .int .i64 2, .int .i64 vo, .int .i64 li, .int .u64 (id : Int), .int .i64 co, .bool has, .int .u64 (key : Int), .int .u32 (cookie : Int), .bool gone, .slice x L c] 42))
        go_enter Try.func31, Try.ntmps31
        go_wp2
        go_ret
        exact ⟨rfl, HB.out⟩
      · have HB := Lib.hid ((Below.refl w.heap.size w).alloc (Nat.le_refl _) (.cells #[.int .i64 fr, .int .i64 tt, .int .i64 3, .int .i64 vo, .int .i64 li, .int .u64 (id : Int), .int .i64 co, .bool has, .int .u64 (key : Int), .int .u32 (cookie : Int), .bool gone, .slice x L c] 42))
        go_enter Try.func31, Try.ntmps31
        go_wp2
        go_ret
        exact ⟨rfl, HB.out⟩
      · have HB := Lib.hid ((Below.refl w.heap.size w).alloc (Nat.le_refl _) (.cells #[.int .i64 fr, .int .i64 tt, .int .i64 4, .int .i64 vo, .int .i64 li, .int .u64 (id : Int), .int .i64 co, .bool has, .int .u64 (key : Int), .int .u32 (cookie : Int), .bool gone, .slice x L c] 42))
        go_enter Try.func31, Try.ntmps31
        go_wp2
        go_ret
        exact ⟨rfl, HB.out⟩
  by_cases h5 : kd = 5
  · subst h5
    have HB := Lib.hid ((Below.refl w.heap.size w).alloc (Nat.le_refl _) (.cells #[.int .i64 fr, .int .i64 tt, .int .i64 5, .int .i64 vo, .int .i64 li, .int .u64 (id : Int), .int .i64 co, .bool has, .int .u64 (key : Int), .int .u32 (cookie : Int), .bool gone, .slice x L c] 42))
    by_cases c0 : 0 ≤ fr ∧ fr ≤ 255
    case neg =>
      go_enter Try.func31, Try.ntmps31
      go_wp2_with fail
      refine (within_no _ _ _ _ c0).mono ?_
      rintro e w1 ⟨rfl, rfl⟩
      go_wp2
      go_ret
      exact ⟨rfl, HB.out⟩
    by_cases c1 : 0 ≤ tt ∧ tt ≤ 255
    case neg =>
      go_enter Try.func31, Try.ntmps31
      go_wp2_with fail
      refine (within_yes _ _ _ _ (by omega) (by omega)).mono ?_
      rintro e w1 ⟨rfl, rfl⟩
      go_wp2_with fail
      refine (within_no _ _ _ _ c1).mono ?_
      rintro e w1 ⟨rfl, rfl⟩
      go_wp2
      go_ret
      exact ⟨rfl, HB.out⟩
    by_cases c2 : 1 ≤ vo ∧ vo ≤ 65535
    case neg =>
      go_enter Try.func31, Try.ntmps31
      go_wp2_with fail
      refine (within_yes _ _ _ _ (by omega) (by omega)).mono ?_
      rintro e w1 ⟨rfl, rfl⟩
      go_wp2_with fail
      refine (within_yes _ _ _ _ (by omega) (by omega)).mono ?_
      rintro e w1 ⟨rfl, rfl⟩
      go_wp2_with fail
      refine (within_no _ _ _ _ c2).mono ?_
      rintro e w1 ⟨rfl, rfl⟩
      go_wp2
      go_ret
      exact ⟨rfl, HB.out⟩
    by_cases c3 : 0 ≤ li ∧ li ≤ 2147483647
    case neg =>
      go_enter Try.func31, Try.ntmps31
      go_wp2_with fail
      refine (within_yes _ _ _ _ (by omega) (by omega)).mono ?_
      rintro e w1 ⟨rfl, rfl⟩
      go_wp2_with fail
      refine (within_yes _ _ _ _ (by omega) (by omega)).mono ?_
      rintro e w1 ⟨rfl, rfl⟩
      go_wp2_with fail
      refine (within_yes _ _ _ _ (by omega) (by omega)).mono ?_
      rintro e w1 ⟨rfl, rfl⟩
      go_wp2_with fail
      refine (within_no _ _ _ _ c3).mono ?_
      rintro e w1 ⟨rfl, rfl⟩
      go_wp2
      go_ret
      exact ⟨rfl, HB.out⟩
    by_cases c4 : 0 ≤ co ∧ co ≤ 255
    case neg =>
      go_enter Try.func31, Try.ntmps31
      go_wp2_with fail
      refine (within_yes _ _ _ _ (by omega) (by omega)).mono ?_
      rintro e w1 ⟨rfl, rfl⟩
      go_wp2_with fail
      refine (within_yes _ _ _ _ (by omega) (by omega)).mono ?_
      rintro e w1 ⟨rfl, rfl⟩
      go_wp2_with fail
      refine (within_yes _ _ _ _ (by omega) (by omega)).mono ?_
      rintro e w1 ⟨rfl, rfl⟩
      go_wp2_with fail
      refine (within_yes _ _ _ _ (by omega) (by omega)).mono ?_
      rintro e w1 ⟨rfl, rfl⟩
      go_wp2_with fail
      refine (within_no _ _ _ _ c4).mono ?_
      rintro e w1 ⟨rfl, rfl⟩
      go_wp2
      go_ret
      exact ⟨rfl, HB.out⟩
    exact absurd ⟨c0.1, c0.2, c1.1, c1.2, c4.1, c4.2, by omega, by omega, fun e => absurd e (by omega), c2.1, c2.2, c3.1, c3.2⟩ h
  have k1 : (kd == 1) = false := beq_eq_false_iff_ne.2 (fun e => h14 (.inl e))
  have k2 : (kd == 2) = false := beq_eq_false_iff_ne.2 (fun e => h14 (.inr (.inl e)))
  have k3 : (kd == 3) = false := beq_eq_false_iff_ne.2 (fun e => h14 (.inr (.inr (.inl e))))
  have k4 : (kd == 4) = false := beq_eq_false_iff_ne.2 (fun e => h14 (.inr (.inr (.inr e))))
  have k5 : (kd == 5) = false := beq_eq_false_iff_ne.2 h5
  clear h h14 h5
  have HB := Lib.hid ((Below.refl w.heap.size w).alloc (Nat.le_refl _) (.cells #[.int .i64 fr, .int .i64 tt, .int .i64 kd, .int .i64 vo, .int .i64 li, .int .u64 (id : Int), .int .i64 co, .bool has, .int .u64 (key : Int), .int .u32 (cookie : Int), .bool gone, .slice x L c] 42))
  go_enter Try.func31, Try.ntmps31
  go_wp2
  go_ret
  exact ⟨rfl, HB.out⟩
set_option maxRecDepth 100000 in
set_option maxHeartbeats 4000000 in
theorem can_yes (m : Msg) (v : Value) (w : World) (hv : IsB w v m.n.data) (h : m.good) :
    Calls Try.prog 31 #[mval m v] w fun e w' => e = .returned (.bool true) ∧ Below w.heap.size w w' := by
  obtain ⟨fr, tt, kd, vo, li, id, co, has, key, cookie, gone, data⟩ := m
  obtain ⟨L, hL⟩ : ∃ L, data.length = L := ⟨_, rfl⟩
  obtain ⟨x, c, rfl, _, _⟩ := hv.at_len hL
  unfold Msg.good at h
  dsimp only at h
  clear hv hL
  obtain ⟨g1, g2, g3, g4, g5, g6, g7, g8, g9, g10, g11, g12, g13⟩ := h
  have hk : kd = 1 ∨ kd = 2 ∨ kd = 3 ∨ kd = 4 ∨ kd = 5 := by omega
  rcases hk with rfl | rfl | rfl | rfl | rfl
  · have h0 : co = 0 := g9 (by omega)
    subst h0
    clear g9
    have HB := Lib.hid ((Below.refl w.heap.size w).alloc (Nat.le_refl _) (.cells #[.int .i64 fr, .int .i64 tt, .int .i64 1, .int .i64 vo, .int .i64 li, .int .u64 (id : Int), .int .i64 0, .bool has, .int .u64 (key : Int), .int .u32 (cookie : Int), .bool gone, .slice x L c] 42))
    go_enter Try.func31, Try.ntmps31
    go_wp2_with fail
    refine (within_yes _ _ _ _ (by omega) (by omega)).mono ?_
    rintro e w1 ⟨rfl, rfl⟩
    go_wp2_with fail
    refine (within_yes _ _ _ _ (by omega) (by omega)).mono ?_
    rintro e w1 ⟨rfl, rfl⟩
    go_wp2_with fail
    refine (within_yes _ _ _ _ (by omega) (by omega)).mono ?_
    rintro e w1 ⟨rfl, rfl⟩
    go_wp2_with fail
    refine (within_yes _ _ _ _ (by omega) (by omega)).mono ?_
    rintro e w1 ⟨rfl, rfl⟩
    go_wp2_with fail
    refine (within_yes _ _ _ _ (by omega) (by omega)).mono ?_
    rintro e w1 ⟨rfl, rfl⟩
    go_wp2
    go_ret
    exact ⟨rfl, HB.out⟩
  · have h0 : co = 0 := g9 (by omega)
    subst h0
    clear g9
    have HB := Lib.hid ((Below.refl w.heap.size w).alloc (Nat.le_refl _) (.cells #[.int .i64 fr, .int .i64 tt, .int .i64 2, .int .i64 vo, .int .i64 li, .int .u64 (id : Int), .int .i64 0, .bool has, .int .u64 (key : Int), .int .u32 (cookie : Int), .bool gone, .slice x L c] 42))
    go_enter Try.func31, Try.ntmps31
    go_wp2_with fail
    refine (within_yes _ _ _ _ (by omega) (by omega)).mono ?_
    rintro e w1 ⟨rfl, rfl⟩
    go_wp2_with fail
    refine (within_yes _ _ _ _ (by omega) (by omega)).mono ?_
    rintro e w1 ⟨rfl, rfl⟩
    go_wp2_with fail
    refine (within_yes _ _ _ _ (by omega) (by omega)).mono ?_
    rintro e w1 ⟨rfl, rfl⟩
    go_wp2_with fail
    refine (within_yes _ _ _ _ (by omega) (by omega)).mono ?_
    rintro e w1 ⟨rfl, rfl⟩
    go_wp2_with fail
    refine (within_yes _ _ _ _ (by omega) (by omega)).mono ?_
    rintro e w1 ⟨rfl, rfl⟩
    go_wp2
    go_ret
    exact ⟨rfl, HB.out⟩
  · have h0 : co = 0 := g9 (by omega)
    subst h0
    clear g9
    have HB := Lib.hid ((Below.refl w.heap.size w).alloc (Nat.le_refl _) (.cells #[.int .i64 fr, .int .i64 tt, .int .i64 3, .int .i64 vo, .int .i64 li, .int .u64 (id : Int), .int .i64 0, .bool has, .int .u64 (key : Int), .int .u32 (cookie : Int), .bool gone, .slice x L c] 42))
    go_enter Try.func31, Try.ntmps31
    go_wp2_with fail
    refine (within_yes _ _ _ _ (by omega) (by omega)).mono ?_
    rintro e w1 ⟨rfl, rfl⟩
    go_wp2_with fail
    refine (within_yes _ _ _ _ (by omega) (by omega)).mono ?_
    rintro e w1 ⟨rfl, rfl⟩
    go_wp2_with fail
    refine (within_yes _ _ _ _ (by omega) (by omega)).mono ?_
    rintro e w1 ⟨rfl, rfl⟩
    go_wp2_with fail
    refine (within_yes _ _ _ _ (by omega) (by omega)).mono ?_
    rintro e w1 ⟨rfl, rfl⟩
    go_wp2_with fail
    refine (within_yes _ _ _ _ (by omega) (by omega)).mono ?_
    rintro e w1 ⟨rfl, rfl⟩
    go_wp2
    go_ret
    exact ⟨rfl, HB.out⟩
  · have h0 : co = 0 := g9 (by omega)
    subst h0
    clear g9
    have HB := Lib.hid ((Below.refl w.heap.size w).alloc (Nat.le_refl _) (.cells #[.int .i64 fr, .int .i64 tt, .int .i64 4, .int .i64 vo, .int .i64 li, .int .u64 (id : Int), .int .i64 0, .bool has, .int .u64 (key : Int), .int .u32 (cookie : Int), .bool gone, .slice x L c] 42))
    go_enter Try.func31, Try.ntmps31
    go_wp2_with fail
    refine (within_yes _ _ _ _ (by omega) (by omega)).mono ?_
    rintro e w1 ⟨rfl, rfl⟩
    go_wp2_with fail
    refine (within_yes _ _ _ _ (by omega) (by omega)).mono ?_
    rintro e w1 ⟨rfl, rfl⟩
    go_wp2_with fail
    refine (within_yes _ _ _ _ (by omega) (by omega)).mono ?_
    rintro e w1 ⟨rfl, rfl⟩
    go_wp2_with fail
    refine (within_yes _ _ _ _ (by omega) (by omega)).mono ?_
    rintro e w1 ⟨rfl, rfl⟩
    go_wp2_with fail
    refine (within_yes _ _ _ _ (by omega) (by omega)).mono ?_
    rintro e w1 ⟨rfl, rfl⟩
    go_wp2
    go_ret
    exact ⟨rfl, HB.out⟩
  · clear g9
    have HB := Lib.hid ((Below.refl w.heap.size w).alloc (Nat.le_refl _) (.cells #[.int .i64 fr, .int .i64 tt, .int .i64 5, .int .i64 vo, .int .i64 li, .int .u64 (id : Int), .int .i64 co, .bool has, .int .u64 (key : Int), .int .u32 (cookie : Int), .bool gone, .slice x L c] 42))
    go_enter Try.func31, Try.ntmps31
    go_wp2_with fail
    refine (within_yes _ _ _ _ (by omega) (by omega)).mono ?_
    rintro e w1 ⟨rfl, rfl⟩
    go_wp2_with fail
    refine (within_yes _ _ _ _ (by omega) (by omega)).mono ?_
    rintro e w1 ⟨rfl, rfl⟩
    go_wp2_with fail
    refine (within_yes _ _ _ _ (by omega) (by omega)).mono ?_
    rintro e w1 ⟨rfl, rfl⟩
    go_wp2_with fail
    refine (within_yes _ _ _ _ (by omega) (by omega)).mono ?_
    rintro e w1 ⟨rfl, rfl⟩
    go_wp2_with fail
    refine (within_yes _ _ _ _ (by omega) (by omega)).mono ?_
    rintro e w1 ⟨rfl, rfl⟩
    go_wp2
    go_ret
    exact ⟨rfl, HB.out⟩
set_option maxRecDepth 100000 in
set_option maxHeartbeats 2000000 in
theorem wcheck_any (m : Msg) (v : Value) (w : World) (hv : IsB w v m.n.data) :
    Calls Try.prog 23 #[mval m v] w fun e w' => e = .returned (cerr (mcheck m)) ∧ Below w.heap.size w w' := by
  by_cases hg : m.good
  case neg =>
    rw [show mcheck m = 1 by unfold mcheck; rw [if_pos hg]]
    have HC := Lib.hid (fun v' (W : World) (h : IsB W v' m.n.data) => can_no m v' W h hg)
    obtain ⟨fr, tt, kd, vo, li, id, co, has, key, cookie, gone, data⟩ := m
    obtain ⟨L, hL⟩ : ∃ L, data.length = L := ⟨_, rfl⟩
    obtain ⟨x, c, rfl, _, _⟩ := hv.at_len hL
    dsimp only at hv
    have hB := (Below.refl w.heap.size w).alloc (Nat.le_refl _) (.cells #[.int .i64 fr, .int .i64 tt, .int .i64 kd, .int .i64 vo, .int .i64 li, .int .u64 (id : Int), .int .i64 co, .bool has, .int .u64 (key : Int), .int .u32 (cookie : Int), .bool gone, .slice x L c] 42)
    have hX := Blk.new w #[.int .i64 fr, .int .i64 tt, .int .i64 kd, .int .i64 vo, .int .i64 li, .int .u64 (id : Int), .int .i64 co, .bool has, .int .u64 (key : Int), .int .u32 (cookie : Int), .bool gone, .slice x L c] 42
    have HI := Lib.hid (hv.mono hB (Nat.le_refl _))
    have HB := Lib.hid hB
    have HX := Lib.hid hX
    clear hv hL hB hX
    go_enter Try.func23, Try.ntmps23
    go_wp2_with fail
    refine (HC.out _ _ HI.out).mono ?_
    rintro e w1 ⟨rfl, hb1⟩
    have hX1 := HX.out.below hb1 HX.out.lt
    have HB1 := Lib.hid (HB.out.trans (hb1.mono HB.out.size))
    have HI1 := Lib.hid (HI.out.mono hb1 (Nat.le_refl _))
    have p0 := hX1.cell 0 rfl
    have p1 := hX1.cell 1 rfl
    have p2 := hX1.cell 2 rfl
    have p3 := hX1.cell 3 rfl
    have p4 := hX1.cell 4 rfl
    have p5 := hX1.cell 5 rfl
    have p6 := hX1.cell 6 rfl
    have p7 := hX1.cell 7 rfl
    have p8 := hX1.cell 8 rfl
    have p9 := hX1.cell 9 rfl
    have p10 := hX1.cell 10 rfl
    have p11 := hX1.cell 11 rfl
    clear hb1 hX1
    go_wp2
    go_ret
    exact ⟨rfl, HB1.out⟩
  have HC := Lib.hid (fun v' (W : World) (h : IsB W v' m.n.data) => can_yes m v' W h hg)
  cases hh : m.has with
  | true =>
    rw [show mcheck m = ncheck m.n by unfold mcheck; rw [if_neg (fun h => h hg), if_pos hh]]
    have HN := Lib.hid (fun v' (W : World) (h : IsB W v' m.n.data) => check_any m.n v' W h)
    have HZ := Lib.hid (ncheck_le m.n)
    obtain ⟨fr, tt, kd, vo, li, id, co, has, key, cookie, gone, data⟩ := m
    obtain ⟨L, hL⟩ : ∃ L, data.length = L := ⟨_, rfl⟩
    obtain ⟨x, c, rfl, _, _⟩ := hv.at_len hL
    dsimp only at hv hh
    subst hh
    have hB := (Below.refl w.heap.size w).alloc (Nat.le_refl _) (.cells #[.int .i64 fr, .int .i64 tt, .int .i64 kd, .int .i64 vo, .int .i64 li, .int .u64 (id : Int), .int .i64 co, .bool true, .int .u64 (key : Int), .int .u32 (cookie : Int), .bool gone, .slice x L c] 42)
    have hX := Blk.new w #[.int .i64 fr, .int .i64 tt, .int .i64 kd, .int .i64 vo, .int .i64 li, .int .u64 (id : Int), .int .i64 co, .bool true, .int .u64 (key : Int), .int .u32 (cookie : Int), .bool gone, .slice x L c] 42
    have HI := Lib.hid (hv.mono hB (Nat.le_refl _))
    have HB := Lib.hid hB
    have HX := Lib.hid hX
    clear hv hL hB hX
    obtain ⟨C, hC⟩ : ∃ C, ncheck ⟨key, cookie, gone, data⟩ = C := ⟨_, rfl⟩
    dsimp only at HN HZ ⊢
    rw [hC] at HN HZ ⊢
    clear hC
    go_enter Try.func23, Try.ntmps23
    go_wp2_with fail
    refine (HC.out _ _ HI.out).mono ?_
    rintro e w1 ⟨rfl, hb1⟩
    have hX1 := HX.out.below hb1 HX.out.lt
    have HB1 := Lib.hid (HB.out.trans (hb1.mono HB.out.size))
    have HI1 := Lib.hid (HI.out.mono hb1 (Nat.le_refl _))
    have p0 := hX1.cell 0 rfl
    have p1 := hX1.cell 1 rfl
    have p2 := hX1.cell 2 rfl
    have p3 := hX1.cell 3 rfl
    have p4 := hX1.cell 4 rfl
    have p5 := hX1.cell 5 rfl
    have p6 := hX1.cell 6 rfl
    have p7 := hX1.cell 7 rfl
    have p8 := hX1.cell 8 rfl
    have p9 := hX1.cell 9 rfl
    have p10 := hX1.cell 10 rfl
    have p11 := hX1.cell 11 rfl
    clear hb1 hX1
    go_wp2_with fail
    refine (HN.out _ _ HI1.out).mono ?_
    rintro e w2 ⟨rfl, hb2⟩
    have HB2 := Lib.hid (HB1.out.trans (hb2.mono HB1.out.size))
    clear hb2
    go_wp2
    go_ret
    exact ⟨rfl, HB2.out⟩
  | false =>
    rw [show mcheck m = if sameN m.n nz = true then 0 else 1 by unfold mcheck; rw [if_neg (fun h => h hg), if_neg (by rw [hh]; simp)]]
    have HN := Lib.hid (fun v' (W : World) (h : IsB W v' m.n.data) => nsame_any m.n nz v' (.slice none 0 0) W h (IsB.nil W))
    obtain ⟨S, hS⟩ : ∃ S, sameN m.n nz = S := ⟨_, rfl⟩
    rw [hS] at HN ⊢
    clear hS
    obtain ⟨fr, tt, kd, vo, li, id, co, has, key, cookie, gone, data⟩ := m
    obtain ⟨L, hL⟩ : ∃ L, data.length = L := ⟨_, rfl⟩
    obtain ⟨x, c, rfl, _, _⟩ := hv.at_len hL
    dsimp only at hv hh
    subst hh
    have hB := (Below.refl w.heap.size w).alloc (Nat.le_refl _) (.cells #[.int .i64 fr, .int .i64 tt, .int .i64 kd, .int .i64 vo, .int .i64 li, .int .u64 (id : Int), .int .i64 co, .bool false, .int .u64 (key : Int), .int .u32 (cookie : Int), .bool gone, .slice x L c] 42)
    have hX := Blk.new w #[.int .i64 fr, .int .i64 tt, .int .i64 kd, .int .i64 vo, .int .i64 li, .int .u64 (id : Int), .int .i64 co, .bool false, .int .u64 (key : Int), .int .u32 (cookie : Int), .bool gone, .slice x L c] 42
    have HI := Lib.hid (hv.mono hB (Nat.le_refl _))
    have HB := Lib.hid hB
    have HX := Lib.hid hX
    clear hv hL hB hX
    dsimp only at HN
    cases S with
    | true =>
      rw [if_pos rfl]
      go_enter Try.func23, Try.ntmps23
      go_wp2_with fail
      refine (HC.out _ _ HI.out).mono ?_
      rintro e w1 ⟨rfl, hb1⟩
      have hX1 := HX.out.below hb1 HX.out.lt
      have HB1 := Lib.hid (HB.out.trans (hb1.mono HB.out.size))
      have HI1 := Lib.hid (HI.out.mono hb1 (Nat.le_refl _))
      have p0 := hX1.cell 0 rfl
      have p1 := hX1.cell 1 rfl
      have p2 := hX1.cell 2 rfl
      have p3 := hX1.cell 3 rfl
      have p4 := hX1.cell 4 rfl
      have p5 := hX1.cell 5 rfl
      have p6 := hX1.cell 6 rfl
      have p7 := hX1.cell 7 rfl
      have p8 := hX1.cell 8 rfl
      have p9 := hX1.cell 9 rfl
      have p10 := hX1.cell 10 rfl
      have p11 := hX1.cell 11 rfl
      clear hb1 hX1
      go_wp2_with fail
      refine (HN.out _ _ HI1.out).mono ?_
      rintro e w2 ⟨rfl, hb2⟩
      have HB2 := Lib.hid (HB1.out.trans (hb2.mono HB1.out.size))
      clear hb2
      go_wp2
      go_ret
      exact ⟨rfl, HB2.out⟩
    | false =>
      rw [if_neg (by simp)]
      go_enter Try.func23, Try.ntmps23
      go_wp2_with fail
      refine (HC.out _ _ HI.out).mono ?_
      rintro e w1 ⟨rfl, hb1⟩
      have hX1 := HX.out.below hb1 HX.out.lt
      have HB1 := Lib.hid (HB.out.trans (hb1.mono HB.out.size))
      have HI1 := Lib.hid (HI.out.mono hb1 (Nat.le_refl _))
      have p0 := hX1.cell 0 rfl
      have p1 := hX1.cell 1 rfl
      have p2 := hX1.cell 2 rfl
      have p3 := hX1.cell 3 rfl
      have p4 := hX1.cell 4 rfl
      have p5 := hX1.cell 5 rfl
      have p6 := hX1.cell 6 rfl
      have p7 := hX1.cell 7 rfl
      have p8 := hX1.cell 8 rfl
      have p9 := hX1.cell 9 rfl
      have p10 := hX1.cell 10 rfl
      have p11 := hX1.cell 11 rfl
      clear hb1 hX1
      go_wp2_with fail
      refine (HN.out _ _ HI1.out).mono ?_
      rintro e w2 ⟨rfl, hb2⟩
      have HB2 := Lib.hid (HB1.out.trans (hb2.mono HB1.out.size))
      clear hb2
      go_wp2
      go_ret
      exact ⟨rfl, HB2.out⟩

end Go.Proofs.Ytncfdkkekaninaa
