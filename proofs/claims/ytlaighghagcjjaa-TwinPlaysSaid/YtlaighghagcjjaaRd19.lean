/- The document's own answer for layer 19: near, and Do where it changes nothing. -/
import Derived.Test.YtlaighghagcjjaaDs
import Derived.Test.YtlaighghagcjjaaBlk
import Derived.Test.YtlaighghagcjjaaChecked
import Derived.StillTailTactics
import Derived.Deep.CutRange
import Derived.RegionTactic
import Derived.ProofKit
import Derived.Deep.RegionHeld3
import Derived.Deep.RegionWith
import Derived.Deep.QuietTactic
import Derived.BigQuiet
namespace Go.Proofs.Ytlaighghagcjjaa
open Go.RowKit Go.Cor
set_option linter.unusedVariables false
set_option linter.unusedSimpArgs false

theorem below_newR (w : World) (o : Obj) : Below w.heap.size w (w.alloc o) := (Below.refl _ w).alloc (Nat.le_refl _) o
theorem below_drewR {B : Nat} {w w' : World} (h : Below B w w') (n : Nat) : Below B w (w'.drewN n) := ⟨h.os, h.tape, h.output, h.size, h.block⟩
theorem near_yes (x : Int) (w : World) (h : decide (near x) = true) : Calls Try.prog 39 #[.int .i64 x] w fun e w' => e = .returned (.bool true) ∧ w = w' := by
  have h1 : near x := of_decide_eq_true h
  have h2 : x ≥ 0 := h1.1
  have h3 : x < 256 := h1.2
  clear h h1
  go_enter Try.func39, Try.ntmps39
  go_wp2
  go_ret
  exact ⟨rfl, rfl⟩
theorem near_no (x : Int) (w : World) (h : decide (near x) = false) : Calls Try.prog 39 #[.int .i64 x] w fun e w' => e = .returned (.bool false) ∧ w = w' := by
  have h1 : ¬ near x := of_decide_eq_false h
  unfold near at h1
  clear h
  by_cases h2 : x ≥ 0
  · have h3 : ¬ x < 256 := by omega
    clear h1
    go_enter Try.func39, Try.ntmps39
    go_wp2
    go_ret
    exact ⟨rfl, rfl⟩
  · clear h1
    go_enter Try.func39, Try.ntmps39
    go_wp2
    go_ret
    exact ⟨rfl, rfl⟩
set_option maxRecDepth 100000 in
set_option maxHeartbeats 1000000 in
/-- Of no such kind. -/
theorem rd_kind (v : Value) (ck cv ce ca cn a b d : Int) (w : World) (h : ck < 1 ∨ 4 < ck) :
    Calls Try.prog 25 #[v, .agg #[.int .i64 ck, .int .i64 cv, .int .i64 ce, .int .i64 ca, .int .i64 cn, .int .i64 a, .int .i64 b, .int .i64 d]] w fun e w' => e = .returned (.tuple #[v, .int .i64 0, .int .i64 1]) ∧ Below w.heap.size w w' := by
  by_cases h1 : ck < 1
  · clear h
    have hY := Blk.new w #[.int .i64 ck, .int .i64 cv, .int .i64 ce, .int .i64 ca, .int .i64 cn, .int .i64 a, .int .i64 b, .int .i64 d] 33
    have hB := below_newR w (.cells #[.int .i64 ck, .int .i64 cv, .int .i64 ce, .int .i64 ca, .int .i64 cn, .int .i64 a, .int .i64 b, .int .i64 d] 33)
    obtain ⟨W0, hW0⟩ : ∃ z, w.alloc (.cells #[.int .i64 ck, .int .i64 cv, .int .i64 ce, .int .i64 ca, .int .i64 cn, .int .i64 a, .int .i64 b, .int .i64 d] 33) = z := ⟨_, rfl⟩
    rw [hW0] at hY hB
    obtain ⟨Y, hYe⟩ : ∃ z, w.heap.size = z := ⟨_, rfl⟩
    rw [hYe] at hY
    have HW0 := Lib.hid hW0
    have HYe := Lib.hid hYe
    have HY := Lib.hid hY
    have HB := Lib.hid hB
    have y0 := HY.out.cell 0 rfl
    have y1 := HY.out.cell 1 rfl
    have y2 := HY.out.cell 2 rfl
    have y3 := HY.out.cell 3 rfl
    have y4 := HY.out.cell 4 rfl
    have y5 := HY.out.cell 5 rfl
    have y6 := HY.out.cell 6 rfl
    have y7 := HY.out.cell 7 rfl
    clear hW0 hYe hY hB
    go_enter Try.func25, Try.ntmps25
    go_wp2
    try rw [HW0.out]
    go_ret3
    exact ⟨rfl, HB.out⟩
  · have h2 : ck > 4 := by omega
    clear h
    have hY := Blk.new w #[.int .i64 ck, .int .i64 cv, .int .i64 ce, .int .i64 ca, .int .i64 cn, .int .i64 a, .int .i64 b, .int .i64 d] 33
    have hB := below_newR w (.cells #[.int .i64 ck, .int .i64 cv, .int .i64 ce, .int .i64 ca, .int .i64 cn, .int .i64 a, .int .i64 b, .int .i64 d] 33)
    obtain ⟨W0, hW0⟩ : ∃ z, w.alloc (.cells #[.int .i64 ck, .int .i64 cv, .int .i64 ce, .int .i64 ca, .int .i64 cn, .int .i64 a, .int .i64 b, .int .i64 d] 33) = z := ⟨_, rfl⟩
    rw [hW0] at hY hB
    obtain ⟨Y, hYe⟩ : ∃ z, w.heap.size = z := ⟨_, rfl⟩
    rw [hYe] at hY
    have HW0 := Lib.hid hW0
    have HYe := Lib.hid hYe
    have HY := Lib.hid hY
    have HB := Lib.hid hB
    have y0 := HY.out.cell 0 rfl
    have y1 := HY.out.cell 1 rfl
    have y2 := HY.out.cell 2 rfl
    have y3 := HY.out.cell 3 rfl
    have y4 := HY.out.cell 4 rfl
    have y5 := HY.out.cell 5 rfl
    have y6 := HY.out.cell 6 rfl
    have y7 := HY.out.cell 7 rfl
    clear hW0 hYe hY hB
    go_enter Try.func25, Try.ntmps25
    go_wp2
    try rw [HW0.out]
    go_ret3
    exact ⟨rfl, HB.out⟩
set_option maxRecDepth 100000 in
set_option maxHeartbeats 4000000 in
/-- A volume on nodes that can't be. -/
theorem rd_make_bad (v : Value) (cv ce ca cn a b d : Int) (w : World) (h : ¬ (near a ∧ near b ∧ near d ∧ a ≠ b ∧ a ≠ d ∧ b ≠ d)) :
    Calls Try.prog 25 #[v, .agg #[.int .i64 1, .int .i64 cv, .int .i64 ce, .int .i64 ca, .int .i64 cn, .int .i64 a, .int .i64 b, .int .i64 d]] w fun e w' => e = .returned (.tuple #[v, .int .i64 0, .int .i64 1]) ∧ Below w.heap.size w w' := by
  obtain ⟨Da, ha⟩ : ∃ D, decide (near a) = D := ⟨_, rfl⟩
  obtain ⟨Db, hb⟩ : ∃ D, decide (near b) = D := ⟨_, rfl⟩
  obtain ⟨Dd, hd⟩ : ∃ D, decide (near d) = D := ⟨_, rfl⟩
  obtain ⟨E1, h1⟩ : ∃ D, (a == b) = D := ⟨_, rfl⟩
  obtain ⟨E2, h2⟩ : ∃ D, (a == d) = D := ⟨_, rfl⟩
  obtain ⟨E3, h3⟩ : ∃ D, (b == d) = D := ⟨_, rfl⟩
  have hn : ¬ (Da = true ∧ Db = true ∧ Dd = true ∧ E1 = false ∧ E2 = false ∧ E3 = false) := by
    rintro ⟨rfl, rfl, rfl, rfl, rfl, rfl⟩
    exact h ⟨of_decide_eq_true ha, of_decide_eq_true hb, of_decide_eq_true hd, by simpa using h1, by simpa using h2, by simpa using h3⟩
  clear h
  cases Da with
  | false =>
    clear hn hb hd h1 h2 h3
    have hY := Blk.new w #[.int .i64 1, .int .i64 cv, .int .i64 ce, .int .i64 ca, .int .i64 cn, .int .i64 a, .int .i64 b, .int .i64 d] 33
    have hB := below_newR w (.cells #[.int .i64 1, .int .i64 cv, .int .i64 ce, .int .i64 ca, .int .i64 cn, .int .i64 a, .int .i64 b, .int .i64 d] 33)
    obtain ⟨W0, hW0⟩ : ∃ z, w.alloc (.cells #[.int .i64 1, .int .i64 cv, .int .i64 ce, .int .i64 ca, .int .i64 cn, .int .i64 a, .int .i64 b, .int .i64 d] 33) = z := ⟨_, rfl⟩
    rw [hW0] at hY hB
    obtain ⟨Y, hYe⟩ : ∃ z, w.heap.size = z := ⟨_, rfl⟩
    rw [hYe] at hY
    have HW0 := Lib.hid hW0
    have HYe := Lib.hid hYe
    have HY := Lib.hid hY
    have HB := Lib.hid hB
    have y0 := HY.out.cell 0 rfl
    have y1 := HY.out.cell 1 rfl
    have y2 := HY.out.cell 2 rfl
    have y3 := HY.out.cell 3 rfl
    have y4 := HY.out.cell 4 rfl
    have y5 := HY.out.cell 5 rfl
    have y6 := HY.out.cell 6 rfl
    have y7 := HY.out.cell 7 rfl
    clear hW0 hYe hY hB
    go_enter Try.func25, Try.ntmps25
    go_wp2_with fail
    rw [HW0.out]
    try rw [HYe.out]
    go_region
    go_wp2_with (go_at_call 39; first | (with_reducible refine (near_yes _ _ (by assumption)).mono ?_; rintro e wc ⟨rfl, rfl⟩) | (with_reducible refine (near_no _ _ (by assumption)).mono ?_; rintro e wc ⟨rfl, rfl⟩))
    go_ret3
    exact ⟨rfl, HB.out.drew⟩
  | true =>
    cases Db with
    | false =>
      clear hn hd h1 h2 h3
      have hY := Blk.new w #[.int .i64 1, .int .i64 cv, .int .i64 ce, .int .i64 ca, .int .i64 cn, .int .i64 a, .int .i64 b, .int .i64 d] 33
      have hB := below_newR w (.cells #[.int .i64 1, .int .i64 cv, .int .i64 ce, .int .i64 ca, .int .i64 cn, .int .i64 a, .int .i64 b, .int .i64 d] 33)
      obtain ⟨W0, hW0⟩ : ∃ z, w.alloc (.cells #[.int .i64 1, .int .i64 cv, .int .i64 ce, .int .i64 ca, .int .i64 cn, .int .i64 a, .int .i64 b, .int .i64 d] 33) = z := ⟨_, rfl⟩
      rw [hW0] at hY hB
      obtain ⟨Y, hYe⟩ : ∃ z, w.heap.size = z := ⟨_, rfl⟩
      rw [hYe] at hY
      have HW0 := Lib.hid hW0
      have HYe := Lib.hid hYe
      have HY := Lib.hid hY
      have HB := Lib.hid hB
      have y0 := HY.out.cell 0 rfl
      have y1 := HY.out.cell 1 rfl
      have y2 := HY.out.cell 2 rfl
      have y3 := HY.out.cell 3 rfl
      have y4 := HY.out.cell 4 rfl
      have y5 := HY.out.cell 5 rfl
      have y6 := HY.out.cell 6 rfl
      have y7 := HY.out.cell 7 rfl
      clear hW0 hYe hY hB
      go_enter Try.func25, Try.ntmps25
      go_wp2_with fail
      rw [HW0.out]
      try rw [HYe.out]
      go_region
      go_wp2_with (go_at_call 39; first | (with_reducible refine (near_yes _ _ (by assumption)).mono ?_; rintro e wc ⟨rfl, rfl⟩) | (with_reducible refine (near_no _ _ (by assumption)).mono ?_; rintro e wc ⟨rfl, rfl⟩))
      go_ret3
      exact ⟨rfl, HB.out.drew⟩
    | true =>
      cases Dd with
      | false =>
        clear hn h1 h2 h3
        have hY := Blk.new w #[.int .i64 1, .int .i64 cv, .int .i64 ce, .int .i64 ca, .int .i64 cn, .int .i64 a, .int .i64 b, .int .i64 d] 33
        have hB := below_newR w (.cells #[.int .i64 1, .int .i64 cv, .int .i64 ce, .int .i64 ca, .int .i64 cn, .int .i64 a, .int .i64 b, .int .i64 d] 33)
        obtain ⟨W0, hW0⟩ : ∃ z, w.alloc (.cells #[.int .i64 1, .int .i64 cv, .int .i64 ce, .int .i64 ca, .int .i64 cn, .int .i64 a, .int .i64 b, .int .i64 d] 33) = z := ⟨_, rfl⟩
        rw [hW0] at hY hB
        obtain ⟨Y, hYe⟩ : ∃ z, w.heap.size = z := ⟨_, rfl⟩
        rw [hYe] at hY
        have HW0 := Lib.hid hW0
        have HYe := Lib.hid hYe
        have HY := Lib.hid hY
        have HB := Lib.hid hB
        have y0 := HY.out.cell 0 rfl
        have y1 := HY.out.cell 1 rfl
        have y2 := HY.out.cell 2 rfl
        have y3 := HY.out.cell 3 rfl
        have y4 := HY.out.cell 4 rfl
        have y5 := HY.out.cell 5 rfl
        have y6 := HY.out.cell 6 rfl
        have y7 := HY.out.cell 7 rfl
        clear hW0 hYe hY hB
        go_enter Try.func25, Try.ntmps25
        go_wp2_with fail
        rw [HW0.out]
        try rw [HYe.out]
        go_region
        go_wp2_with (go_at_call 39; first | (with_reducible refine (near_yes _ _ (by assumption)).mono ?_; rintro e wc ⟨rfl, rfl⟩) | (with_reducible refine (near_no _ _ (by assumption)).mono ?_; rintro e wc ⟨rfl, rfl⟩))
        go_ret3
        exact ⟨rfl, HB.out.drew⟩
      | true =>
        cases E1 with
        | true =>
          clear hn h2 h3
          have hY := Blk.new w #[.int .i64 1, .int .i64 cv, .int .i64 ce, .int .i64 ca, .int .i64 cn, .int .i64 a, .int .i64 b, .int .i64 d] 33
          have hB := below_newR w (.cells #[.int .i64 1, .int .i64 cv, .int .i64 ce, .int .i64 ca, .int .i64 cn, .int .i64 a, .int .i64 b, .int .i64 d] 33)
          obtain ⟨W0, hW0⟩ : ∃ z, w.alloc (.cells #[.int .i64 1, .int .i64 cv, .int .i64 ce, .int .i64 ca, .int .i64 cn, .int .i64 a, .int .i64 b, .int .i64 d] 33) = z := ⟨_, rfl⟩
          rw [hW0] at hY hB
          obtain ⟨Y, hYe⟩ : ∃ z, w.heap.size = z := ⟨_, rfl⟩
          rw [hYe] at hY
          have HW0 := Lib.hid hW0
          have HYe := Lib.hid hYe
          have HY := Lib.hid hY
          have HB := Lib.hid hB
          have y0 := HY.out.cell 0 rfl
          have y1 := HY.out.cell 1 rfl
          have y2 := HY.out.cell 2 rfl
          have y3 := HY.out.cell 3 rfl
          have y4 := HY.out.cell 4 rfl
          have y5 := HY.out.cell 5 rfl
          have y6 := HY.out.cell 6 rfl
          have y7 := HY.out.cell 7 rfl
          clear hW0 hYe hY hB
          go_enter Try.func25, Try.ntmps25
          go_wp2_with fail
          rw [HW0.out]
          try rw [HYe.out]
          go_region
          go_wp2_with (go_at_call 39; first | (with_reducible refine (near_yes _ _ (by assumption)).mono ?_; rintro e wc ⟨rfl, rfl⟩) | (with_reducible refine (near_no _ _ (by assumption)).mono ?_; rintro e wc ⟨rfl, rfl⟩))
          go_ret3
          exact ⟨rfl, HB.out.drew⟩
        | false =>
          cases E2 with
          | true =>
            clear hn h3
            have hY := Blk.new w #[.int .i64 1, .int .i64 cv, .int .i64 ce, .int .i64 ca, .int .i64 cn, .int .i64 a, .int .i64 b, .int .i64 d] 33
            have hB := below_newR w (.cells #[.int .i64 1, .int .i64 cv, .int .i64 ce, .int .i64 ca, .int .i64 cn, .int .i64 a, .int .i64 b, .int .i64 d] 33)
            obtain ⟨W0, hW0⟩ : ∃ z, w.alloc (.cells #[.int .i64 1, .int .i64 cv, .int .i64 ce, .int .i64 ca, .int .i64 cn, .int .i64 a, .int .i64 b, .int .i64 d] 33) = z := ⟨_, rfl⟩
            rw [hW0] at hY hB
            obtain ⟨Y, hYe⟩ : ∃ z, w.heap.size = z := ⟨_, rfl⟩
            rw [hYe] at hY
            have HW0 := Lib.hid hW0
            have HYe := Lib.hid hYe
            have HY := Lib.hid hY
            have HB := Lib.hid hB
            have y0 := HY.out.cell 0 rfl
            have y1 := HY.out.cell 1 rfl
            have y2 := HY.out.cell 2 rfl
            have y3 := HY.out.cell 3 rfl
            have y4 := HY.out.cell 4 rfl
            have y5 := HY.out.cell 5 rfl
            have y6 := HY.out.cell 6 rfl
            have y7 := HY.out.cell 7 rfl
            clear hW0 hYe hY hB
            go_enter Try.func25, Try.ntmps25
            go_wp2_with fail
            rw [HW0.out]
            try rw [HYe.out]
            go_region
            go_wp2_with (go_at_call 39; first | (with_reducible refine (near_yes _ _ (by assumption)).mono ?_; rintro e wc ⟨rfl, rfl⟩) | (with_reducible refine (near_no _ _ (by assumption)).mono ?_; rintro e wc ⟨rfl, rfl⟩))
            go_ret3
            exact ⟨rfl, HB.out.drew⟩
          | false =>
            cases E3 with
            | false => exact absurd ⟨rfl, rfl, rfl, rfl, rfl, rfl⟩ hn
            | true =>
              clear hn
              have hY := Blk.new w #[.int .i64 1, .int .i64 cv, .int .i64 ce, .int .i64 ca, .int .i64 cn, .int .i64 a, .int .i64 b, .int .i64 d] 33
              have hB := below_newR w (.cells #[.int .i64 1, .int .i64 cv, .int .i64 ce, .int .i64 ca, .int .i64 cn, .int .i64 a, .int .i64 b, .int .i64 d] 33)
              obtain ⟨W0, hW0⟩ : ∃ z, w.alloc (.cells #[.int .i64 1, .int .i64 cv, .int .i64 ce, .int .i64 ca, .int .i64 cn, .int .i64 a, .int .i64 b, .int .i64 d] 33) = z := ⟨_, rfl⟩
              rw [hW0] at hY hB
              obtain ⟨Y, hYe⟩ : ∃ z, w.heap.size = z := ⟨_, rfl⟩
              rw [hYe] at hY
              have HW0 := Lib.hid hW0
              have HYe := Lib.hid hYe
              have HY := Lib.hid hY
              have HB := Lib.hid hB
              have y0 := HY.out.cell 0 rfl
              have y1 := HY.out.cell 1 rfl
              have y2 := HY.out.cell 2 rfl
              have y3 := HY.out.cell 3 rfl
              have y4 := HY.out.cell 4 rfl
              have y5 := HY.out.cell 5 rfl
              have y6 := HY.out.cell 6 rfl
              have y7 := HY.out.cell 7 rfl
              clear hW0 hYe hY hB
              go_enter Try.func25, Try.ntmps25
              go_wp2_with fail
              rw [HW0.out]
              try rw [HYe.out]
              go_region
              go_wp2_with (go_at_call 39; first | (with_reducible refine (near_yes _ _ (by assumption)).mono ?_; rintro e wc ⟨rfl, rfl⟩) | (with_reducible refine (near_no _ _ (by assumption)).mono ?_; rintro e wc ⟨rfl, rfl⟩))
              go_ret3
              exact ⟨rfl, HB.out.drew⟩
end Go.Proofs.Ytlaighghagcjjaa
