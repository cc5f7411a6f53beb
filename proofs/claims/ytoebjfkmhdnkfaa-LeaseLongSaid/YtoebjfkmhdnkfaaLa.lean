/- The chapter's example of layer 18. -/
import Derived.Test.YtoebjfkmhdnkfaaLt
namespace Go.Proofs.Ytoebjfkmhdnkfaa
open Go.RowKit Go.Cor
set_option linter.unusedVariables false
set_option linter.unusedSimpArgs false

theorem below_drewN18 {B : Nat} {w w' : World} (h : Below B w w') (n : Nat) : Below B w (w'.drewN n) := ⟨h.os, h.tape, h.output, h.size, h.block⟩
set_option maxRecDepth 100000 in
set_option maxHeartbeats 2000000 in
theorem alive18 (w : World) : Calls Try.prog 6 #[] w fun e w' => e = .returned (.bool true) ∧ Below w.heap.size w w' := by
  go_enter Try.func6, Try.ntmps6
  go_wp2_with fail
  refine (lnew_ok 5 _ (by decide) (by decide)).mono ?_
  rintro e w1 ⟨g, rfl, hg, h1, hb1⟩
  have HG := Lib.hid hg
  have H1 := Lib.hid h1
  have HB1 := Lib.hid hb1
  clear hg h1 hb1
  go_wp2_with fail
  refine (ltake_ok w1 g _ 1 10 H1.out (by decide) (by decide) (by decide) (fun h => absurd h.1 (by decide))).mono ?_
  rintro e w2 ⟨rfl, h2⟩
  have HB2 := Lib.hid (HB1.out.trans (h2.below HB1.out.size HG.out))
  have H2 := Lib.hid (show LsAt w2 g ⟨5, 10, true, 1, 1, 10⟩ from h2.at_)
  clear h2
  go_wp2_with fail
  refine (ltake_busy w2 g _ 2 14 H2.out (by decide) (by decide) ⟨by decide, by decide⟩).mono ?_
  rintro e w3 ⟨rfl, h3⟩
  have HB3 := Lib.hid (HB2.out.trans (h3.below HB2.out.size HG.out))
  have H3 := Lib.hid (show LsAt w3 g ⟨5, 14, true, 1, 1, 10⟩ from h3.at_)
  clear h3
  go_wp2_with fail
  refine (ltake_ok w3 g _ 2 15 H3.out (by decide) (by decide) (by decide) (fun h => absurd h.1 (by decide))).mono ?_
  rintro e w4 ⟨rfl, h4⟩
  have HB4 := Lib.hid (HB3.out.trans (h4.below HB3.out.size HG.out))
  clear h4
  go_wp2_with fail
  refine (lnew_bad 0 _ (by decide)).mono ?_
  rintro e w5 ⟨rfl, rfl⟩
  go_wp2_with (go_at_call 9; first | (with_reducible refine (code_nil _).mono ?_; rintro e w5 ⟨rfl, rfl⟩) | (with_reducible refine (code_code _ _ (by decide) (by decide)).mono ?_; rintro e w5 ⟨rfl, rfl⟩))
  go_ret
  exact ⟨rfl, HB4.out⟩
end Go.Proofs.Ytoebjfkmhdnkfaa
