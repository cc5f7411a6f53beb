/- Ref14, Ref14b, Ref14c, Ref14d, Ref14e. -/
import Derived.Test.YtofhbnnheadmlaaMsg
import Derived.Test.YtofhbnnheadmlaaLaw03fF
import Derived.Test.YtofhbnnheadmlaaRef03dF
import Derived.Deep.RegionHeld3
import Derived.StillTailTactics
import Derived.Test.YtofhbnnheadmlaaBlk
set_option linter.unusedVariables false
set_option linter.unusedSimpArgs false

section
namespace Go.Proofs.Ytofhbnnheadmlaa
open Go.RowKit Go.Cor

/-- A message as a value; v: its data's slice. -/
abbrev mval (m : Msg) (v : Value) : Value := .agg #[.int .i64 m.fr, .int .i64 m.to, .int .i64 m.kd, .int .i64 m.vo, .int .i64 m.li, .int .u64 (m.id : Int), .int .i64 m.co, .bool m.has, .int .u64 (m.n.key : Int), .int .u32 (m.n.cookie : Int), .bool m.n.gone, v]
theorem byteful_yes (n : Int) (w : World) (h : 0 ≤ n) (h2 : n < 256) :
    Calls Try.prog 35 #[.int .i64 n] w fun e w' => e = .returned (.bool true) ∧ w = w' := by
  go_enter Try.func35, Try.ntmps35
  go_wp2
  go_ret
  exact ⟨rfl, rfl⟩
theorem byteful_no (n : Int) (w : World) (h : ¬ (0 ≤ n ∧ n < 256)) :
    Calls Try.prog 35 #[.int .i64 n] w fun e w' => e = .returned (.bool false) ∧ w = w' := by
  by_cases h1 : 0 ≤ n
  · have h2 : ¬ n < 256 := fun h2 => h ⟨h1, h2⟩
    go_enter Try.func35, Try.ntmps35
    go_wp2
    go_ret
    exact ⟨rfl, rfl⟩
  · go_enter Try.func35, Try.ntmps35
    go_wp2
    go_ret
    exact ⟨rfl, rfl⟩
set_option maxRecDepth 100000 in
set_option maxHeartbeats 4000000 in
theorem rcheck_bad (m : Msg) (v : Value) (w : World) (hv : IsB w v m.n.data) (h : ¬ m.good) :
    Calls Try.prog 23 #[mval m v] w fun e w' => e = .returned (.int .i64 1) ∧ Below w.heap.size w w' := by
  obtain ⟨fr, tt, kd, vo, li, id, co, has, key, cookie, gone, data⟩ := m
  obtain ⟨L, hL⟩ : ∃ L, data.length = L := ⟨_, rfl⟩
  obtain ⟨x, c, rfl, _, _⟩ := hv.at_len hL
  unfold Msg.good at h
  dsimp only at h
  have HB := Lib.hid ((Below.refl w.heap.size w).alloc (Nat.le_refl _) (.cells #[.int .i64 fr, .int .i64 tt, .int .i64 kd, .int .i64 vo, .int .i64 li, .int .u64 (id : Int), .int .i64 co, .bool has, .int .u64 (key : Int), .int .u32 (cookie : Int), .bool gone, .slice x L c] 30))
  clear hv hL
  by_cases c0 : 0 ≤ fr ∧ fr < 256
  case neg =>
    go_enter Try.func23, Try.ntmps23
    go_wp2_with fail
    refine (byteful_no _ _ c0).mono ?_
    rintro e w1 ⟨rfl, rfl⟩
    go_wp2
    go_ret
    exact ⟨rfl, HB.out⟩
  by_cases c1 : 0 ≤ tt ∧ tt < 256
  case neg =>
    go_enter Try.func23, Try.ntmps23
    go_wp2_with fail
    refine (byteful_yes _ _ c0.1 c0.2).mono ?_
    rintro e w1 ⟨rfl, rfl⟩
    go_wp2_with fail
    refine (byteful_no _ _ c1).mono ?_
    rintro e w1 ⟨rfl, rfl⟩
    go_wp2
    go_ret
    exact ⟨rfl, HB.out⟩
  by_cases c2 : 0 ≤ co ∧ co < 256
  case neg =>
    go_enter Try.func23, Try.ntmps23
    go_wp2_with fail
    refine (byteful_yes _ _ c0.1 c0.2).mono ?_
    rintro e w1 ⟨rfl, rfl⟩
    go_wp2_with fail
    refine (byteful_yes _ _ c1.1 c1.2).mono ?_
    rintro e w1 ⟨rfl, rfl⟩
    go_wp2_with fail
    refine (byteful_no _ _ c2).mono ?_
    rintro e w1 ⟨rfl, rfl⟩
    go_wp2
    go_ret
    exact ⟨rfl, HB.out⟩
  by_cases c3 : ¬ kd < 1
  case neg =>
    have k0 := Classical.not_not.1 c3
    go_enter Try.func23, Try.ntmps23
    go_wp2_with fail
    refine (byteful_yes _ _ c0.1 c0.2).mono ?_
    rintro e w1 ⟨rfl, rfl⟩
    go_wp2_with fail
    refine (byteful_yes _ _ c1.1 c1.2).mono ?_
    rintro e w1 ⟨rfl, rfl⟩
    go_wp2_with fail
    refine (byteful_yes _ _ c2.1 c2.2).mono ?_
    rintro e w1 ⟨rfl, rfl⟩
    go_wp2
    go_ret
    exact ⟨rfl, HB.out⟩
  by_cases c4 : ¬ 5 < kd
  case neg =>
    have k0 := Classical.not_not.1 c4
    go_enter Try.func23, Try.ntmps23
    go_wp2_with fail
    refine (byteful_yes _ _ c0.1 c0.2).mono ?_
    rintro e w1 ⟨rfl, rfl⟩
    go_wp2_with fail
    refine (byteful_yes _ _ c1.1 c1.2).mono ?_
    rintro e w1 ⟨rfl, rfl⟩
    go_wp2_with fail
    refine (byteful_yes _ _ c2.1 c2.2).mono ?_
    rintro e w1 ⟨rfl, rfl⟩
    go_wp2
    go_ret
    exact ⟨rfl, HB.out⟩
  by_cases c5 : ¬ (kd < 5 ∧ co ≠ 0)
  case neg =>
    have k1 : kd < 5 := (Classical.not_not.1 c5).1
    have k2 : ¬ co = 0 := (Classical.not_not.1 c5).2
    have k3 : (co == 0) = false := beq_eq_false_iff_ne.2 k2
    go_enter Try.func23, Try.ntmps23
    go_wp2_with fail
    refine (byteful_yes _ _ c0.1 c0.2).mono ?_
    rintro e w1 ⟨rfl, rfl⟩
    go_wp2_with fail
    refine (byteful_yes _ _ c1.1 c1.2).mono ?_
    rintro e w1 ⟨rfl, rfl⟩
    go_wp2_with fail
    refine (byteful_yes _ _ c2.1 c2.2).mono ?_
    rintro e w1 ⟨rfl, rfl⟩
    go_wp2
    go_ret
    exact ⟨rfl, HB.out⟩
  by_cases c6 : ¬ vo < 1
  case neg =>
    have k0 := Classical.not_not.1 c6
    by_cases k5 : kd < 5
    · have k6 : co = 0 := Classical.byContradiction fun e => c5 ⟨k5, e⟩
      subst k6
      go_enter Try.func23, Try.ntmps23
      go_wp2_with fail
      refine (byteful_yes _ _ c0.1 c0.2).mono ?_
      rintro e w1 ⟨rfl, rfl⟩
      go_wp2_with fail
      refine (byteful_yes _ _ c1.1 c1.2).mono ?_
      rintro e w1 ⟨rfl, rfl⟩
      go_wp2_with fail
      refine (byteful_yes _ _ c2.1 c2.2).mono ?_
      rintro e w1 ⟨rfl, rfl⟩
      go_wp2
      go_ret
      exact ⟨rfl, HB.out⟩
    · go_enter Try.func23, Try.ntmps23
      go_wp2_with fail
      refine (byteful_yes _ _ c0.1 c0.2).mono ?_
      rintro e w1 ⟨rfl, rfl⟩
      go_wp2_with fail
      refine (byteful_yes _ _ c1.1 c1.2).mono ?_
      rintro e w1 ⟨rfl, rfl⟩
      go_wp2_with fail
      refine (byteful_yes _ _ c2.1 c2.2).mono ?_
      rintro e w1 ⟨rfl, rfl⟩
      go_wp2
      go_ret
      exact ⟨rfl, HB.out⟩
  by_cases c7 : ¬ 65535 < vo
  case neg =>
    have k0 := Classical.not_not.1 c7
    by_cases k5 : kd < 5
    · have k6 : co = 0 := Classical.byContradiction fun e => c5 ⟨k5, e⟩
      subst k6
      go_enter Try.func23, Try.ntmps23
      go_wp2_with fail
      refine (byteful_yes _ _ c0.1 c0.2).mono ?_
      rintro e w1 ⟨rfl, rfl⟩
      go_wp2_with fail
      refine (byteful_yes _ _ c1.1 c1.2).mono ?_
      rintro e w1 ⟨rfl, rfl⟩
      go_wp2_with fail
      refine (byteful_yes _ _ c2.1 c2.2).mono ?_
      rintro e w1 ⟨rfl, rfl⟩
      go_wp2
      go_ret
      exact ⟨rfl, HB.out⟩
    · go_enter Try.func23, Try.ntmps23
      go_wp2_with fail
      refine (byteful_yes _ _ c0.1 c0.2).mono ?_
      rintro e w1 ⟨rfl, rfl⟩
      go_wp2_with fail
      refine (byteful_yes _ _ c1.1 c1.2).mono ?_
      rintro e w1 ⟨rfl, rfl⟩
      go_wp2_with fail
      refine (byteful_yes _ _ c2.1 c2.2).mono ?_
      rintro e w1 ⟨rfl, rfl⟩
      go_wp2
      go_ret
      exact ⟨rfl, HB.out⟩
  by_cases c8 : ¬ li < 0
  case neg =>
    have k0 := Classical.not_not.1 c8
    by_cases k5 : kd < 5
    · have k6 : co = 0 := Classical.byContradiction fun e => c5 ⟨k5, e⟩
      subst k6
      go_enter Try.func23, Try.ntmps23
      go_wp2_with fail
      refine (byteful_yes _ _ c0.1 c0.2).mono ?_
      rintro e w1 ⟨rfl, rfl⟩
      go_wp2_with fail
      refine (byteful_yes _ _ c1.1 c1.2).mono ?_
      rintro e w1 ⟨rfl, rfl⟩
      go_wp2_with fail
      refine (byteful_yes _ _ c2.1 c2.2).mono ?_
      rintro e w1 ⟨rfl, rfl⟩
      go_wp2
      go_ret
      exact ⟨rfl, HB.out⟩
    · go_enter Try.func23, Try.ntmps23
      go_wp2_with fail
      refine (byteful_yes _ _ c0.1 c0.2).mono ?_
      rintro e w1 ⟨rfl, rfl⟩
      go_wp2_with fail
      refine (byteful_yes _ _ c1.1 c1.2).mono ?_
      rintro e w1 ⟨rfl, rfl⟩
      go_wp2_with fail
      refine (byteful_yes _ _ c2.1 c2.2).mono ?_
      rintro e w1 ⟨rfl, rfl⟩
      go_wp2
      go_ret
      exact ⟨rfl, HB.out⟩
  by_cases c9 : ¬ 2147483647 < li
  case neg =>
    have k0 := Classical.not_not.1 c9
    by_cases k5 : kd < 5
    · have k6 : co = 0 := Classical.byContradiction fun e => c5 ⟨k5, e⟩
      subst k6
      go_enter Try.func23, Try.ntmps23
      go_wp2_with fail
      refine (byteful_yes _ _ c0.1 c0.2).mono ?_
      rintro e w1 ⟨rfl, rfl⟩
      go_wp2_with fail
      refine (byteful_yes _ _ c1.1 c1.2).mono ?_
      rintro e w1 ⟨rfl, rfl⟩
      go_wp2_with fail
      refine (byteful_yes _ _ c2.1 c2.2).mono ?_
      rintro e w1 ⟨rfl, rfl⟩
      go_wp2
      go_ret
      exact ⟨rfl, HB.out⟩
    · go_enter Try.func23, Try.ntmps23
      go_wp2_with fail
      refine (byteful_yes _ _ c0.1 c0.2).mono ?_
      rintro e w1 ⟨rfl, rfl⟩
      go_wp2_with fail
      refine (byteful_yes _ _ c1.1 c1.2).mono ?_
      rintro e w1 ⟨rfl, rfl⟩
      go_wp2_with fail
      refine (byteful_yes _ _ c2.1 c2.2).mono ?_
      rintro e w1 ⟨rfl, rfl⟩
      go_wp2
      go_ret
      exact ⟨rfl, HB.out⟩
  exact absurd ⟨c0.1, by omega, c1.1, by omega, c2.1, by omega, by omega, by omega, fun e => Classical.byContradiction fun e2 => c5 ⟨e, e2⟩, by omega, by omega, by omega, by omega⟩ h

end Go.Proofs.Ytofhbnnheadmlaa
end

section
namespace Go.Proofs.Ytofhbnnheadmlaa
open Go.RowKit Go.Cor

set_option maxRecDepth 100000 in
set_option maxHeartbeats 2000000 in
theorem rcheck_has (m : Msg) (v : Value) (w : World) (hv : IsB w v m.n.data) (hl : m.n.data.length ≤ 1099511627776) (hg : m.good) (hh : m.has = true) :
    Calls Try.prog 23 #[mval m v] w fun e w' => e = .returned (.int .i64 (ncheck m.n : Nat)) ∧ Below w.heap.size w w' := by
  obtain ⟨fr, tt, kd, vo, li, id, co, has, n⟩ := m
  dsimp only at hh hv hl
  subst hh
  have HCK := Lib.hid (fun wx (hb : Below w.heap.size w wx) => refcheck_any n v wx (hv.mono hb (Nat.le_refl _)))
  have HSM := Lib.hid (fun wx (hb : Below w.heap.size w wx) => refsame_any n nz v (.slice none 0 0) wx (hv.mono hb (Nat.le_refl _)) (IsB.nil wx) hl)
  obtain ⟨Q, hQ⟩ : ∃ Q, ncheck n = Q := ⟨_, rfl⟩
  obtain ⟨B, hB⟩ : ∃ B, sameN n nz = B := ⟨_, rfl⟩
  rw [hQ] at HCK
  rw [hB] at HSM
  dsimp only
  try rw [hQ]
  try rw [hB]
  obtain ⟨key, cookie, gone, data⟩ := n
  obtain ⟨L, hL⟩ : ∃ L, data.length = L := ⟨_, rfl⟩
  obtain ⟨x, c, rfl, _, _⟩ := hv.at_len hL
  have HB := Lib.hid ((Below.refl w.heap.size w).alloc (Nat.le_refl _) (.cells #[.int .i64 fr, .int .i64 tt, .int .i64 kd, .int .i64 vo, .int .i64 li, .int .u64 (id : Int), .int .i64 co, .bool true, .int .u64 (key : Int), .int .u32 (cookie : Int), .bool gone, .slice x L c] 30))
  obtain ⟨g1, g2, g3, g4, g5, g6, g7, g8, g9, g10, g11, g12, g13⟩ := hg
  dsimp only at g1 g2 g3 g4 g5 g6 g7 g8 g9 g10 g11 g12 g13
  have c0 : 0 ≤ fr ∧ fr < 256 := ⟨g1, by omega⟩
  have c1 : 0 ≤ tt ∧ tt < 256 := ⟨g3, by omega⟩
  have c2 : 0 ≤ co ∧ co < 256 := ⟨g5, by omega⟩
  have c3 : ¬ kd < 1 := by omega
  have c4 : ¬ 5 < kd := by omega
  have c6 : ¬ vo < 1 := by omega
  have c7 : ¬ 65535 < vo := by omega
  have c8 : ¬ li < 0 := by omega
  have c9 : ¬ 2147483647 < li := by omega
  clear hv hL hQ hB hl
  by_cases k5 : kd < 5
  · have k6 : co = 0 := g9 k5
    subst k6
    clear g1 g2 g3 g4 g5 g6 g7 g8 g9 g10 g11 g12 g13
    go_enter Try.func23, Try.ntmps23
    go_wp2_with fail
    refine (byteful_yes _ _ c0.1 c0.2).mono ?_
    rintro e w1 ⟨rfl, rfl⟩
    go_wp2_with fail
    refine (byteful_yes _ _ c1.1 c1.2).mono ?_
    rintro e w1 ⟨rfl, rfl⟩
    go_wp2_with fail
    refine (byteful_yes _ _ c2.1 c2.2).mono ?_
    rintro e w1 ⟨rfl, rfl⟩
    go_wp2_with fail
    refine (HCK.out _ HB.out).mono ?_
    rintro e w2 ⟨rfl, hb2⟩
    have HB2 := Lib.hid (HB.out.trans (hb2.mono HB.out.size))
    clear hb2
    go_wp2
    go_ret
    exact ⟨rfl, HB2.out⟩
  · clear g1 g2 g3 g4 g5 g6 g7 g8 g9 g10 g11 g12 g13
    go_enter Try.func23, Try.ntmps23
    go_wp2_with fail
    refine (byteful_yes _ _ c0.1 c0.2).mono ?_
    rintro e w1 ⟨rfl, rfl⟩
    go_wp2_with fail
    refine (byteful_yes _ _ c1.1 c1.2).mono ?_
    rintro e w1 ⟨rfl, rfl⟩
    go_wp2_with fail
    refine (byteful_yes _ _ c2.1 c2.2).mono ?_
    rintro e w1 ⟨rfl, rfl⟩
    go_wp2_with fail
    refine (HCK.out _ HB.out).mono ?_
    rintro e w2 ⟨rfl, hb2⟩
    have HB2 := Lib.hid (HB.out.trans (hb2.mono HB.out.size))
    clear hb2
    go_wp2
    go_ret
    exact ⟨rfl, HB2.out⟩
set_option maxRecDepth 100000 in
set_option maxHeartbeats 2000000 in
theorem rcheck_none (m : Msg) (v : Value) (w : World) (hv : IsB w v m.n.data) (hl : m.n.data.length ≤ 1099511627776) (hg : m.good) (hh : m.has = false) :
    Calls Try.prog 23 #[mval m v] w fun e w' => e = .returned (.int .i64 (if sameN m.n nz = true then 0 else 1 : Nat)) ∧ Below w.heap.size w w' := by
  obtain ⟨fr, tt, kd, vo, li, id, co, has, n⟩ := m
  dsimp only at hh hv hl
  subst hh
  have HCK := Lib.hid (fun wx (hb : Below w.heap.size w wx) => refcheck_any n v wx (hv.mono hb (Nat.le_refl _)))
  have HSM := Lib.hid (fun wx (hb : Below w.heap.size w wx) => refsame_any n nz v (.slice none 0 0) wx (hv.mono hb (Nat.le_refl _)) (IsB.nil wx) hl)
  obtain ⟨Q, hQ⟩ : ∃ Q, ncheck n = Q := ⟨_, rfl⟩
  obtain ⟨B, hB⟩ : ∃ B, sameN n nz = B := ⟨_, rfl⟩
  rw [hQ] at HCK
  rw [hB] at HSM
  dsimp only
  try rw [hQ]
  try rw [hB]
  obtain ⟨key, cookie, gone, data⟩ := n
  obtain ⟨L, hL⟩ : ∃ L, data.length = L := ⟨_, rfl⟩
  obtain ⟨x, c, rfl, _, _⟩ := hv.at_len hL
  have HB := Lib.hid ((Below.refl w.heap.size w).alloc (Nat.le_refl _) (.cells #[.int .i64 fr, .int .i64 tt, .int .i64 kd, .int .i64 vo, .int .i64 li, .int .u64 (id : Int), .int .i64 co, .bool false, .int .u64 (key : Int), .int .u32 (cookie : Int), .bool gone, .slice x L c] 30))
  obtain ⟨g1, g2, g3, g4, g5, g6, g7, g8, g9, g10, g11, g12, g13⟩ := hg
  dsimp only at g1 g2 g3 g4 g5 g6 g7 g8 g9 g10 g11 g12 g13
  have c0 : 0 ≤ fr ∧ fr < 256 := ⟨g1, by omega⟩
  have c1 : 0 ≤ tt ∧ tt < 256 := ⟨g3, by omega⟩
  have c2 : 0 ≤ co ∧ co < 256 := ⟨g5, by omega⟩
  have c3 : ¬ kd < 1 := by omega
  have c4 : ¬ 5 < kd := by omega
  have c6 : ¬ vo < 1 := by omega
  have c7 : ¬ 65535 < vo := by omega
  have c8 : ¬ li < 0 := by omega
  have c9 : ¬ 2147483647 < li := by omega
  clear hv hL hQ hB hl
  by_cases k5 : kd < 5
  · have k6 : co = 0 := g9 k5
    subst k6
    clear g1 g2 g3 g4 g5 g6 g7 g8 g9 g10 g11 g12 g13
    go_enter Try.func23, Try.ntmps23
    go_wp2_with fail
    refine (byteful_yes _ _ c0.1 c0.2).mono ?_
    rintro e w1 ⟨rfl, rfl⟩
    go_wp2_with fail
    refine (byteful_yes _ _ c1.1 c1.2).mono ?_
    rintro e w1 ⟨rfl, rfl⟩
    go_wp2_with fail
    refine (byteful_yes _ _ c2.1 c2.2).mono ?_
    rintro e w1 ⟨rfl, rfl⟩
    go_wp2_with fail
    refine (HSM.out _ HB.out).mono ?_
    rintro e w2 ⟨rfl, hb2⟩
    have HB2 := Lib.hid (HB.out.trans (hb2.mono HB.out.size))
    clear hb2
    cases B with
    | true =>
      go_wp2
      go_ret
      exact ⟨rfl, HB2.out⟩
    | false =>
      go_wp2
      go_ret
      exact ⟨rfl, HB2.out⟩
  · clear g1 g2 g3 g4 g5 g6 g7 g8 g9 g10 g11 g12 g13
    go_enter Try.func23, Try.ntmps23
    go_wp2_with fail
    refine (byteful_yes _ _ c0.1 c0.2).mono ?_
    rintro e w1 ⟨rfl, rfl⟩
    go_wp2_with fail
    refine (byteful_yes _ _ c1.1 c1.2).mono ?_
    rintro e w1 ⟨rfl, rfl⟩
    go_wp2_with fail
    refine (byteful_yes _ _ c2.1 c2.2).mono ?_
    rintro e w1 ⟨rfl, rfl⟩
    go_wp2_with fail
    refine (HSM.out _ HB.out).mono ?_
    rintro e w2 ⟨rfl, hb2⟩
    have HB2 := Lib.hid (HB.out.trans (hb2.mono HB.out.size))
    clear hb2
    cases B with
    | true =>
      go_wp2
      go_ret
      exact ⟨rfl, HB2.out⟩
    | false =>
      go_wp2
      go_ret
      exact ⟨rfl, HB2.out⟩

end Go.Proofs.Ytofhbnnheadmlaa
end

section
namespace Go.Proofs.Ytofhbnnheadmlaa
open Go.RowKit Go.Cor

theorem rcheck_any (m : Msg) (v : Value) (w : World) (hv : IsB w v m.n.data) (hl : m.n.data.length ≤ 1099511627776) :
    Calls Try.prog 23 #[mval m v] w fun e w' => e = .returned (.int .i64 (mcheck m : Nat)) ∧ Below w.heap.size w w' := by
  by_cases hg : m.good
  · cases hh : m.has with
    | true =>
      rw [show mcheck m = ncheck m.n by unfold mcheck; rw [if_neg (fun h => h hg), if_pos hh]]
      exact rcheck_has m v w hv hl hg hh
    | false =>
      rw [show mcheck m = if sameN m.n nz = true then 0 else 1 by unfold mcheck; rw [if_neg (fun h => h hg), if_neg (by rw [hh]; simp)]]
      exact rcheck_none m v w hv hl hg hh
  · rw [show mcheck m = 1 by unfold mcheck; rw [if_pos hg]]
    exact rcheck_bad m v w hv hg
set_option maxRecDepth 100000 in
set_option maxHeartbeats 4000000 in
theorem rsame_any (a b : Msg) (va vb : Value) (w : World) (ha : IsB w va a.n.data) (hb : IsB w vb b.n.data) (hl : a.n.data.length ≤ 1099511627776) :
    Calls Try.prog 19 #[mval a va, mval b vb] w fun e w' => e = .returned (.bool (sameM a b)) ∧ Below w.heap.size w w' := by
  obtain ⟨fr1, tt1, kd1, vo1, li1, id1, co1, has1, n1⟩ := a
  obtain ⟨fr2, tt2, kd2, vo2, li2, id2, co2, has2, n2⟩ := b
  dsimp only at ha hb hl
  have HSM := Lib.hid (fun wx (hx : Below w.heap.size w wx) => refsame_any n1 n2 va vb wx (ha.mono hx (Nat.le_refl _)) (hb.mono hx (Nat.le_refl _)) hl)
  obtain ⟨B, hB⟩ : ∃ B, sameN n1 n2 = B := ⟨_, rfl⟩
  rw [hB] at HSM
  have HN := Lib.hid hB
  obtain ⟨key1, cookie1, gone1, data1⟩ := n1
  obtain ⟨key2, cookie2, gone2, data2⟩ := n2
  obtain ⟨L1, hL1⟩ : ∃ L, data1.length = L := ⟨_, rfl⟩
  obtain ⟨L2, hL2⟩ : ∃ L, data2.length = L := ⟨_, rfl⟩
  obtain ⟨x1, k1, rfl, _, _⟩ := ha.at_len hL1
  obtain ⟨x2, k2, rfl, _, _⟩ := hb.at_len hL2
  clear ha hb hl hB hL1 hL2
  by_cases c0 : fr1 = fr2
  case neg =>
    have hs : ∀ n1 n2, sameM ⟨fr1, tt1, kd1, vo1, li1, id1, co1, has1, n1⟩ ⟨fr2, tt2, kd2, vo2, li2, id2, co2, has2, n2⟩ = false := fun n1 n2 => by unfold sameM; simp [c0]
    have HB := Lib.hid (((Below.refl w.heap.size w).alloc (Nat.le_refl _) (.cells #[.int .i64 fr1, .int .i64 tt1, .int .i64 kd1, .int .i64 vo1, .int .i64 li1, .int .u64 (id1 : Int), .int .i64 co1, .bool has1, .int .u64 (key1 : Int), .int .u32 (cookie1 : Int), .bool gone1, .slice x1 L1 k1] 30)).alloc (by simp) (.cells #[.int .i64 fr2, .int .i64 tt2, .int .i64 kd2, .int .i64 vo2, .int .i64 li2, .int .u64 (id2 : Int), .int .i64 co2, .bool has2, .int .u64 (key2 : Int), .int .u32 (cookie2 : Int), .bool gone2, .slice x2 L2 k2] 30))
    have q2 : (fr1 == fr2) = false := beq_eq_false_iff_ne.2 c0
    have HS := Lib.hid hs
    clear hs
    go_enter Try.func19, Try.ntmps19
    go_wp2
    go_ret
    exact ⟨by rw [HS.out]; rfl, HB.out⟩
  subst c0
  by_cases c1 : tt1 = tt2
  case neg =>
    have hs : ∀ n1 n2, sameM ⟨fr1, tt1, kd1, vo1, li1, id1, co1, has1, n1⟩ ⟨fr1, tt2, kd2, vo2, li2, id2, co2, has2, n2⟩ = false := fun n1 n2 => by unfold sameM; simp [c1]
    have HB := Lib.hid (((Below.refl w.heap.size w).alloc (Nat.le_refl _) (.cells #[.int .i64 fr1, .int .i64 tt1, .int .i64 kd1, .int .i64 vo1, .int .i64 li1, .int .u64 (id1 : Int), .int .i64 co1, .bool has1, .int .u64 (key1 : Int), .int .u32 (cookie1 : Int), .bool gone1, .slice x1 L1 k1] 30)).alloc (by simp) (.cells #[.int .i64 fr1, .int .i64 tt2, .int .i64 kd2, .int .i64 vo2, .int .i64 li2, .int .u64 (id2 : Int), .int .i64 co2, .bool has2, .int .u64 (key2 : Int), .int .u32 (cookie2 : Int), .bool gone2, .slice x2 L2 k2] 30))
    have q2 : (tt1 == tt2) = false := beq_eq_false_iff_ne.2 c1
    have HS := Lib.hid hs
    clear hs
    go_enter Try.func19, Try.ntmps19
    go_wp2
    go_ret
    exact ⟨by rw [HS.out]; rfl, HB.out⟩
  subst c1
  by_cases c2 : kd1 = kd2
  case neg =>
    have hs : ∀ n1 n2, sameM ⟨fr1, tt1, kd1, vo1, li1, id1, co1, has1, n1⟩ ⟨fr1, tt1, kd2, vo2, li2, id2, co2, has2, n2⟩ = false := fun n1 n2 => by unfold sameM; simp [c2]
    have HB := Lib.hid (((Below.refl w.heap.size w).alloc (Nat.le_refl _) (.cells #[.int .i64 fr1, .int .i64 tt1, .int .i64 kd1, .int .i64 vo1, .int .i64 li1, .int .u64 (id1 : Int), .int .i64 co1, .bool has1, .int .u64 (key1 : Int), .int .u32 (cookie1 : Int), .bool gone1, .slice x1 L1 k1] 30)).alloc (by simp) (.cells #[.int .i64 fr1, .int .i64 tt1, .int .i64 kd2, .int .i64 vo2, .int .i64 li2, .int .u64 (id2 : Int), .int .i64 co2, .bool has2, .int .u64 (key2 : Int), .int .u32 (cookie2 : Int), .bool gone2, .slice x2 L2 k2] 30))
    have q2 : (kd1 == kd2) = false := beq_eq_false_iff_ne.2 c2
    have HS := Lib.hid hs
    clear hs
    go_enter Try.func19, Try.ntmps19
    go_wp2
    go_ret
    exact ⟨by rw [HS.out]; rfl, HB.out⟩
  subst c2
  by_cases c3 : vo1 = vo2
  case neg =>
    have hs : ∀ n1 n2, sameM ⟨fr1, tt1, kd1, vo1, li1, id1, co1, has1, n1⟩ ⟨fr1, tt1, kd1, vo2, li2, id2, co2, has2, n2⟩ = false := fun n1 n2 => by unfold sameM; simp [c3]
    have HB := Lib.hid (((Below.refl w.heap.size w).alloc (Nat.le_refl _) (.cells #[.int .i64 fr1, .int .i64 tt1, .int .i64 kd1, .int .i64 vo1, .int .i64 li1, .int .u64 (id1 : Int), .int .i64 co1, .bool has1, .int .u64 (key1 : Int), .int .u32 (cookie1 : Int), .bool gone1, .slice x1 L1 k1] 30)).alloc (by simp) (.cells #[.int .i64 fr1, .int .i64 tt1, .int .i64 kd1, .int .i64 vo2, .int .i64 li2, .int .u64 (id2 : Int), .int .i64 co2, .bool has2, .int .u64 (key2 : Int), .int .u32 (cookie2 : Int), .bool gone2, .slice x2 L2 k2] 30))
    have q2 : (vo1 == vo2) = false := beq_eq_false_iff_ne.2 c3
    have HS := Lib.hid hs
    clear hs
    go_enter Try.func19, Try.ntmps19
    go_wp2
    go_ret
    exact ⟨by rw [HS.out]; rfl, HB.out⟩
  subst c3
  by_cases c4 : li1 = li2
  case neg =>
    have hs : ∀ n1 n2, sameM ⟨fr1, tt1, kd1, vo1, li1, id1, co1, has1, n1⟩ ⟨fr1, tt1, kd1, vo1, li2, id2, co2, has2, n2⟩ = false := fun n1 n2 => by unfold sameM; simp [c4]
    have HB := Lib.hid (((Below.refl w.heap.size w).alloc (Nat.le_refl _) (.cells #[.int .i64 fr1, .int .i64 tt1, .int .i64 kd1, .int .i64 vo1, .int .i64 li1, .int .u64 (id1 : Int), .int .i64 co1, .bool has1, .int .u64 (key1 : Int), .int .u32 (cookie1 : Int), .bool gone1, .slice x1 L1 k1] 30)).alloc (by simp) (.cells #[.int .i64 fr1, .int .i64 tt1, .int .i64 kd1, .int .i64 vo1, .int .i64 li2, .int .u64 (id2 : Int), .int .i64 co2, .bool has2, .int .u64 (key2 : Int), .int .u32 (cookie2 : Int), .bool gone2, .slice x2 L2 k2] 30))
    have q2 : (li1 == li2) = false := beq_eq_false_iff_ne.2 c4
    have HS := Lib.hid hs
    clear hs
    go_enter Try.func19, Try.ntmps19
    go_wp2
    go_ret
    exact ⟨by rw [HS.out]; rfl, HB.out⟩
  subst c4
  by_cases c5 : id1 = id2
  case neg =>
    have hs : ∀ n1 n2, sameM ⟨fr1, tt1, kd1, vo1, li1, id1, co1, has1, n1⟩ ⟨fr1, tt1, kd1, vo1, li1, id2, co2, has2, n2⟩ = false := fun n1 n2 => by unfold sameM; simp [c5]
    have HB := Lib.hid (((Below.refl w.heap.size w).alloc (Nat.le_refl _) (.cells #[.int .i64 fr1, .int .i64 tt1, .int .i64 kd1, .int .i64 vo1, .int .i64 li1, .int .u64 (id1 : Int), .int .i64 co1, .bool has1, .int .u64 (key1 : Int), .int .u32 (cookie1 : Int), .bool gone1, .slice x1 L1 k1] 30)).alloc (by simp) (.cells #[.int .i64 fr1, .int .i64 tt1, .int .i64 kd1, .int .i64 vo1, .int .i64 li1, .int .u64 (id2 : Int), .int .i64 co2, .bool has2, .int .u64 (key2 : Int), .int .u32 (cookie2 : Int), .bool gone2, .slice x2 L2 k2] 30))
    have q1 : ¬ (id1 : Int) = (id2 : Int) := by omega
    have q2 : ((id1 : Int) == (id2 : Int)) = false := beq_eq_false_iff_ne.2 q1
    have HS := Lib.hid hs
    clear hs
    go_enter Try.func19, Try.ntmps19
    go_wp2
    go_ret
    exact ⟨by rw [HS.out]; rfl, HB.out⟩
  subst c5
  by_cases c6 : co1 = co2
  case neg =>
    have hs : ∀ n1 n2, sameM ⟨fr1, tt1, kd1, vo1, li1, id1, co1, has1, n1⟩ ⟨fr1, tt1, kd1, vo1, li1, id1, co2, has2, n2⟩ = false := fun n1 n2 => by unfold sameM; simp [c6]
    have HB := Lib.hid (((Below.refl w.heap.size w).alloc (Nat.le_refl _) (.cells #[.int .i64 fr1, .int .i64 tt1, .int .i64 kd1, .int .i64 vo1, .int .i64 li1, .int .u64 (id1 : Int), .int .i64 co1, .bool has1, .int .u64 (key1 : Int), .int .u32 (cookie1 : Int), .bool gone1, .slice x1 L1 k1] 30)).alloc (by simp) (.cells #[.int .i64 fr1, .int .i64 tt1, .int .i64 kd1, .int .i64 vo1, .int .i64 li1, .int .u64 (id1 : Int), .int .i64 co2, .bool has2, .int .u64 (key2 : Int), .int .u32 (cookie2 : Int), .bool gone2, .slice x2 L2 k2] 30))
    have q2 : (co1 == co2) = false := beq_eq_false_iff_ne.2 c6
    have HS := Lib.hid hs
    clear hs
    go_enter Try.func19, Try.ntmps19
    go_wp2
    go_ret
    exact ⟨by rw [HS.out]; rfl, HB.out⟩
  subst c6
  by_cases c7 : has1 = has2
  case neg =>
    have hs : ∀ n1 n2, sameM ⟨fr1, tt1, kd1, vo1, li1, id1, co1, has1, n1⟩ ⟨fr1, tt1, kd1, vo1, li1, id1, co1, has2, n2⟩ = false := fun n1 n2 => by unfold sameM; simp [c7]
    have HB := Lib.hid (((Below.refl w.heap.size w).alloc (Nat.le_refl _) (.cells #[.int .i64 fr1, .int .i64 tt1, .int .i64 kd1, .int .i64 vo1, .int .i64 li1, .int .u64 (id1 : Int), .int .i64 co1, .bool has1, .int .u64 (key1 : Int), .int .u32 (cookie1 : Int), .bool gone1, .slice x1 L1 k1] 30)).alloc (by simp) (.cells #[.int .i64 fr1, .int .i64 tt1, .int .i64 kd1, .int .i64 vo1, .int .i64 li1, .int .u64 (id1 : Int), .int .i64 co1, .bool has2, .int .u64 (key2 : Int), .int .u32 (cookie2 : Int), .bool gone2, .slice x2 L2 k2] 30))
    have HS := Lib.hid hs
    clear hs
    cases has1 with
    | true =>
      cases has2 with
      | true => exact absurd rfl c7
      | false =>
        go_enter Try.func19, Try.ntmps19
        go_wp2
        go_ret
        exact ⟨by rw [HS.out]; rfl, HB.out⟩
    | false =>
      cases has2 with
      | false => exact absurd rfl c7
      | true =>
        go_enter Try.func19, Try.ntmps19
        go_wp2
        go_ret
        exact ⟨by rw [HS.out]; rfl, HB.out⟩
  subst c7
  have HB := Lib.hid (((Below.refl w.heap.size w).alloc (Nat.le_refl _) (.cells #[.int .i64 fr1, .int .i64 tt1, .int .i64 kd1, .int .i64 vo1, .int .i64 li1, .int .u64 (id1 : Int), .int .i64 co1, .bool has1, .int .u64 (key1 : Int), .int .u32 (cookie1 : Int), .bool gone1, .slice x1 L1 k1] 30)).alloc (by simp) (.cells #[.int .i64 fr1, .int .i64 tt1, .int .i64 kd1, .int .i64 vo1, .int .i64 li1, .int .u64 (id1 : Int), .int .i64 co1, .bool has1, .int .u64 (key2 : Int), .int .u32 (cookie2 : Int), .bool gone2, .slice x2 L2 k2] 30))
  have HS := Lib.hid (show sameM ⟨fr1, tt1, kd1, vo1, li1, id1, co1, has1, ⟨key1, cookie1, gone1, data1⟩⟩ ⟨fr1, tt1, kd1, vo1, li1, id1, co1, has1, ⟨key2, cookie2, gone2, data2⟩⟩ = B by unfold sameM; simp [HN.out])
  cases has1 with
  | true =>
    go_enter Try.func19, Try.ntmps19
    go_wp2_with fail
    refine (HSM.out _ HB.out).mono ?_
    rintro e w1 ⟨rfl, hb1⟩
    have HB1 := Lib.hid (HB.out.trans (hb1.mono HB.out.size))
    clear hb1
    go_wp2
    go_ret
    exact ⟨by rw [HS.out]; rfl, HB1.out⟩
  | false =>
    go_enter Try.func19, Try.ntmps19
    go_wp2_with fail
    refine (HSM.out _ HB.out).mono ?_
    rintro e w1 ⟨rfl, hb1⟩
    have HB1 := Lib.hid (HB.out.trans (hb1.mono HB.out.size))
    clear hb1
    go_wp2
    go_ret
    exact ⟨by rw [HS.out]; rfl, HB1.out⟩
set_option maxRecDepth 100000 in
set_option maxHeartbeats 1000000 in
theorem to_any (m : Msg) (x : Option Addr) (L c : Nat) (w : World) :
    Calls Try.prog 20 #[mval m (.slice x L c)] w fun e w' => e = .returned (mval m (.slice x L c)) ∧ Below w.heap.size w w' := by
  obtain ⟨fr, tt, kd, vo, li, id, co, has, key, cookie, gone, data⟩ := m
  have HB := Lib.hid (((Below.refl w.heap.size w).alloc (Nat.le_refl _) (.cells #[.int .i64 fr, .int .i64 tt, .int .i64 kd, .int .i64 vo, .int .i64 li, .int .u64 (id : Int), .int .i64 co, .bool has, .int .u64 (key : Int), .int .u32 (cookie : Int), .bool gone, .slice x L c] 43)).alloc (by simp) (.cells #[.int .i64 fr, .int .i64 tt, .int .i64 kd, .int .i64 vo, .int .i64 li, .int .u64 (id : Int), .int .i64 co, .bool has, .int .u64 (key : Int), .int .u32 (cookie : Int), .bool gone, .slice x L c] 30))
  go_enter Try.func20, Try.ntmps20
  go_wp2
  exact bodyPost_ret (v := .agg #[.int .i64 fr, .int .i64 tt, .int .i64 kd, .int .i64 vo, .int .i64 li, .int .u64 (id : Int), .int .i64 co, .bool has, .int .u64 (key : Int), .int .u32 (cookie : Int), .bool gone, .slice x L c]) (by simp [results, Try.results20, go_sem]) rfl ⟨rfl, HB.out⟩
set_option maxRecDepth 100000 in
set_option maxHeartbeats 1000000 in
theorem of_any14 (m : Msg) (x : Option Addr) (L c : Nat) (w : World) :
    Calls Try.prog 11 #[mval m (.slice x L c)] w fun e w' => e = .returned (mval m (.slice x L c)) ∧ Below w.heap.size w w' := by
  obtain ⟨fr, tt, kd, vo, li, id, co, has, key, cookie, gone, data⟩ := m
  have HB := Lib.hid (((Below.refl w.heap.size w).alloc (Nat.le_refl _) (.cells #[.int .i64 fr, .int .i64 tt, .int .i64 kd, .int .i64 vo, .int .i64 li, .int .u64 (id : Int), .int .i64 co, .bool has, .int .u64 (key : Int), .int .u32 (cookie : Int), .bool gone, .slice x L c] 30)).alloc (by simp) (.cells #[.int .i64 fr, .int .i64 tt, .int .i64 kd, .int .i64 vo, .int .i64 li, .int .u64 (id : Int), .int .i64 co, .bool has, .int .u64 (key : Int), .int .u32 (cookie : Int), .bool gone, .slice x L c] 43))
  go_enter Try.func11, Try.ntmps11
  go_wp2
  exact bodyPost_ret (v := .agg #[.int .i64 fr, .int .i64 tt, .int .i64 kd, .int .i64 vo, .int .i64 li, .int .u64 (id : Int), .int .i64 co, .bool has, .int .u64 (key : Int), .int .u32 (cookie : Int), .bool gone, .slice x L c]) (by simp [results, Try.results11, go_sem]) rfl ⟨rfl, HB.out⟩

end Go.Proofs.Ytofhbnnheadmlaa
end

section
namespace Go.Proofs.Ytofhbnnheadmlaa
open Go.RowKit Go.Cor

/-- What Read leaves. -/
def ReadT (w : World) (l : List UInt8) (e : Ending) (w' : World) : Prop := ∃ nv, e = .returned (.tuple #[mval (mread l) nv, .int .i64 (mcode l : Nat)]) ∧ IsB w' nv (mread l).n.data ∧ Below w.heap.size w w'
theorem ReadT.bad {w w' : World} {l : List UInt8} {c : Nat} (hc : mcode l = c) (h0 : c ≠ 0) (hb : Below w.heap.size w w') : ReadT w l (.returned (.tuple #[.agg #[.int .i64 0, .int .i64 0, .int .i64 0, .int .i64 0, .int .i64 0, .int .u64 0, .int .i64 0, .bool false, .int .u64 0, .int .u32 0, .bool false, .slice none 0 0], .int .i64 (c : Int)])) w' := by
  have e : mread l = mz := by unfold mread; rw [if_neg (by omega)]
  refine ⟨.slice none 0 0, ?_, ?_, hb⟩
  · rw [e, hc]; rfl
  · rw [e]; exact IsB.nil w'
end Go.Proofs.Ytofhbnnheadmlaa
end

section
namespace Go.Proofs.Ytofhbnnheadmlaa
open Go.RowKit Go.Cor

def set12 (w : World) (B : Nat) (u0 u1 u2 u3 u4 u5 u6 u7 u8 u9 u10 u11 : Value) : World := ((((((((((((w.setCell ⟨B, 0, none⟩ u0).setCell ⟨B, 1, none⟩ u1).setCell ⟨B, 2, none⟩ u2).setCell ⟨B, 3, none⟩ u3).setCell ⟨B, 4, none⟩ u4).setCell ⟨B, 5, none⟩ u5).setCell ⟨B, 6, none⟩ u6).setCell ⟨B, 7, none⟩ u7).setCell ⟨B, 8, none⟩ u8).setCell ⟨B, 9, none⟩ u9).setCell ⟨B, 10, none⟩ u10).setCell ⟨B, 11, none⟩ u11)
theorem fin12 {w0 w : World} {B : Nat} {a0 a1 a2 a3 a4 a5 a6 a7 a8 a9 a10 a11 : Value} {T : TypeId} (h : Blk w B #[a0, a1, a2, a3, a4, a5, a6, a7, a8, a9, a10, a11] T) (hb : Below w0.heap.size w0 w) (hB : w0.heap.size ≤ B) (u0 u1 u2 u3 u4 u5 u6 u7 u8 u9 u10 u11 : Value) :
    (set12 w B u0 u1 u2 u3 u4 u5 u6 u7 u8 u9 u10 u11).cell? ⟨B, 0, none⟩ = some u0 ∧ (set12 w B u0 u1 u2 u3 u4 u5 u6 u7 u8 u9 u10 u11).cell? ⟨B, 1, none⟩ = some u1 ∧ (set12 w B u0 u1 u2 u3 u4 u5 u6 u7 u8 u9 u10 u11).cell? ⟨B, 2, none⟩ = some u2 ∧ (set12 w B u0 u1 u2 u3 u4 u5 u6 u7 u8 u9 u10 u11).cell? ⟨B, 3, none⟩ = some u3 ∧ (set12 w B u0 u1 u2 u3 u4 u5 u6 u7 u8 u9 u10 u11).cell? ⟨B, 4, none⟩ = some u4 ∧ (set12 w B u0 u1 u2 u3 u4 u5 u6 u7 u8 u9 u10 u11).cell? ⟨B, 5, none⟩ = some u5 ∧ (set12 w B u0 u1 u2 u3 u4 u5 u6 u7 u8 u9 u10 u11).cell? ⟨B, 6, none⟩ = some u6 ∧ (set12 w B u0 u1 u2 u3 u4 u5 u6 u7 u8 u9 u10 u11).cell? ⟨B, 7, none⟩ = some u7 ∧ (set12 w B u0 u1 u2 u3 u4 u5 u6 u7 u8 u9 u10 u11).cell? ⟨B, 8, none⟩ = some u8 ∧ (set12 w B u0 u1 u2 u3 u4 u5 u6 u7 u8 u9 u10 u11).cell? ⟨B, 9, none⟩ = some u9 ∧ (set12 w B u0 u1 u2 u3 u4 u5 u6 u7 u8 u9 u10 u11).cell? ⟨B, 10, none⟩ = some u10 ∧ (set12 w B u0 u1 u2 u3 u4 u5 u6 u7 u8 u9 u10 u11).cell? ⟨B, 11, none⟩ = some u11 ∧ Below w0.heap.size w0 (set12 w B u0 u1 u2 u3 u4 u5 u6 u7 u8 u9 u10 u11) ∧ Kept (fun j => j = B) w (set12 w B u0 u1 u2 u3 u4 u5 u6 u7 u8 u9 u10 u11) := by
  have hz : Blk (set12 w B u0 u1 u2 u3 u4 u5 u6 u7 u8 u9 u10 u11) B #[u0, u1, u2, u3, u4, u5, u6, u7, u8, u9, u10, u11] T := by
    unfold set12
    have h1 := ((((((h.set 0 u0).set 1 u1).set 2 u2).set 3 u3).set 4 u4).set 5 u5)
    simp at h1
    have h2 := ((((((h1.set 6 u6).set 7 u7).set 8 u8).set 9 u9).set 10 u10).set 11 u11)
    simp at h2
    exact h2
  have hbb : Below w0.heap.size w0 (set12 w B u0 u1 u2 u3 u4 u5 u6 u7 u8 u9 u10 u11) := by
    unfold set12
    exact ((((((((((((hb.setCell (p := ⟨B, 0, none⟩) hB u0).setCell (p := ⟨B, 1, none⟩) hB u1).setCell (p := ⟨B, 2, none⟩) hB u2).setCell (p := ⟨B, 3, none⟩) hB u3).setCell (p := ⟨B, 4, none⟩) hB u4).setCell (p := ⟨B, 5, none⟩) hB u5).setCell (p := ⟨B, 6, none⟩) hB u6).setCell (p := ⟨B, 7, none⟩) hB u7).setCell (p := ⟨B, 8, none⟩) hB u8).setCell (p := ⟨B, 9, none⟩) hB u9).setCell (p := ⟨B, 10, none⟩) hB u10).setCell (p := ⟨B, 11, none⟩) hB u11)
  have hkk : Kept (fun j => j = B) w (set12 w B u0 u1 u2 u3 u4 u5 u6 u7 u8 u9 u10 u11) := by
    unfold set12
    exact (((((((((((((Kept.refl (fun j => j = B) w).setCell (p := ⟨B, 0, none⟩) (.inl rfl) u0).setCell (p := ⟨B, 1, none⟩) (.inl rfl) u1).setCell (p := ⟨B, 2, none⟩) (.inl rfl) u2).setCell (p := ⟨B, 3, none⟩) (.inl rfl) u3).setCell (p := ⟨B, 4, none⟩) (.inl rfl) u4).setCell (p := ⟨B, 5, none⟩) (.inl rfl) u5).setCell (p := ⟨B, 6, none⟩) (.inl rfl) u6).setCell (p := ⟨B, 7, none⟩) (.inl rfl) u7).setCell (p := ⟨B, 8, none⟩) (.inl rfl) u8).setCell (p := ⟨B, 9, none⟩) (.inl rfl) u9).setCell (p := ⟨B, 10, none⟩) (.inl rfl) u10).setCell (p := ⟨B, 11, none⟩) (.inl rfl) u11)
  exact ⟨hz.cell 0 rfl, hz.cell 1 rfl, hz.cell 2 rfl, hz.cell 3 rfl, hz.cell 4 rfl, hz.cell 5 rfl, hz.cell 6 rfl, hz.cell 7 rfl, hz.cell 8 rfl, hz.cell 9 rfl, hz.cell 10 rfl, hz.cell 11 rfl, hbb, hkk⟩
theorem formed_of_code {l : List UInt8} (h : getCode l = 0) : formedB l = true := by
  unfold getCode at h
  split at h
  · cases h
  · cases hf : formedB l with
    | true => rfl
    | false => rw [if_pos hf] at h; cases h
end Go.Proofs.Ytofhbnnheadmlaa
end
