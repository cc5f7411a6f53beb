/- The document's messages (layer 14) by contracts: Check of one whose fields are right. -/
import Derived.Test.YtncfdkkekaninaaRef14
set_option linter.unusedVariables false
set_option linter.unusedSimpArgs false
namespace Go.Proofs.Ytncfdkkekaninaa
open Go.RowKit Go.Cor

set_option maxRecDepth 100000 in
set_option maxHeartbeats 2000000 in
theorem rcheck_has (m : Msg) (v : Value) (w : World) (hv : IsB w v m.n.data) (hl : m.n.data.length ≤ 1099511627776) (hg : m.good) (hh : m.has = true) :
    Calls Try.prog 21 #[mval m v] w fun e w' => e = .returned (.int .i64 (ncheck m.n : Nat)) ∧ Below w.heap.size w w' := by
  obtain ⟨fr, tt, kd, vo, li, id, co, has, n⟩ := m
  dsimp only at hh hv hl
  subst hh
  have HCK := Lib.hid (fun wx (hb : Below w.heap.size w wx) => refcheck_any n v wx (hv.mono hb (Nat.le_refl _)))
  have HSM := Lib.hid (fun wx (hb : Below w.heap.size w wx) => refsame_any n nz v (.slice none 0 0) wx (hv.mono hb (Nat.le_refl _)) (IsB.nil wx) hl)
  obtain ⟨Q, hQ⟩ : ∃ Q, ncheck n = Q := ⟨_, rfl⟩
  obtain ⟨B, hB⟩ : ∃ B, sameN n nz = B := ⟨_, rfl⟩
  rw [hQ] at HCK
  rw [hB] at HSM
  dsimp only
  try rw [hQ]
  try rw [hB]
  obtain ⟨key, cookie, gone, data⟩ := n
  obtain ⟨L, hL⟩ : ∃ L, data.length = L := ⟨_, rfl⟩
  obtain ⟨x, c, rfl, _, _⟩ := hv.at_len hL
  have HB := Lib.hid ((Below.refl w.heap.size w).alloc (Nat.le_refl _) (.cells #[.int .i64 fr, .int .i64 tt, .int .i64 kd, .int .i64 vo, .int .i64 li, .int .u64 (id : Int), .int .i64 co, .bool true, .int .u64 (key : Int), .int .u32 (cookie : Int), .bool gone, .slice x L c] 36))
  obtain ⟨g1, g2, g3, g4, g5, g6, g7, g8, g9, g10, g11, g12, g13⟩ := hg
  dsimp only at g1 g2 g3 g4 g5 g6 g7 g8 g9 g10 g11 g12 g13
  have c0 : 0 ≤ fr ∧ fr < 256 := ⟨g1, by omega⟩
  have c1 : 0 ≤ tt ∧ tt < 256 := ⟨g3, by omega⟩
  have c2 : 0 ≤ co ∧ co < 256 := ⟨g5, by omega⟩
  have c3 : ¬ kd < 1 := by omega
  have c4 : ¬ 5 < kd := by omega
  have c6 : ¬ vo < 1 := by omega
  have c7 : ¬ 65535 < vo := by omega
  have c8 : ¬ li < 0 := by omega
  have c9 : ¬ 2147483647 < li := by omega
  clear hv hL hQ hB hl
  by_cases k5 : kd < 5
  · have k6 : co = 0 := g9 k5
    subst k6
    clear g1 g2 g3 g4 g5 g6 g7 g8 g9 g10 g11 g12 g13
    go_enter Try.func21, Try.ntmps21
    go_wp2_with fail
    refine (byteful_yes _ _ c0.1 c0.2).mono ?_
    rintro e w1 ⟨rfl, rfl⟩
    go_wp2_with fail
    refine (byteful_yes _ _ c1.1 c1.2).mono ?_
    rintro e w1 ⟨rfl, rfl⟩
    go_wp2_with fail
    refine (byteful_yes _ _ c2.1 c2.2).mono ?_
    rintro e w1 ⟨rfl, rfl⟩
    go_wp2_with fail
    refine (HCK.out _ HB.out).mono ?_
    rintro e w2 ⟨rfl, hb2⟩
    have HB2 := Lib.hid (HB.out.trans (hb2.mono HB.out.size))
    clear hb2
    go_wp2
    go_ret
    exact ⟨rfl, HB2.out⟩
  · clear g1 g2 g3 g4 g5 g6 g7 g8 g9 g10 g11 g12 g13
    go_enter Try.func21, Try.ntmps21
    go_wp2_with fail
    refine (byteful_yes _ _ c0.1 c0.2).mono ?_
    rintro e w1 ⟨rfl, rfl⟩
    go_wp2_with fail
    refine (byteful_yes _ _ c1.1 c1.2).mono ?_
    rintro e w1 ⟨rfl, rfl⟩
    go_wp2_with fail
    refine (byteful_yes _ _ c2.1 c2.2).mono ?_
    rintro e w1 ⟨rfl, rfl⟩
    go_wp2_with fail
    refine (HCK.out _ HB.out).mono ?_
    rintro e w2 ⟨rfl, hb2⟩
    have HB2 := Lib.hid (HB.out.trans (hb2.mono HB.out.size))
    clear hb2
    go_wp2
    go_ret
    exact ⟨rfl, HB2.out⟩
set_option maxRecDepth 100000 in
set_option maxHeartbeats 2000000 in
theorem rcheck_none (m : Msg) (v : Value) (w : World) (hv : IsB w v m.n.data) (hl : m.n.data.length ≤ 1099511627776) (hg : m.good) (hh : m.has = false) :
    Calls Try.prog 21 #[mval m v] w fun e w' => e = .returned (.int .i64 (if sameN m.n nz = true then 0 else 1 : Nat)) ∧ Below w.heap.size w w' := by
  obtain ⟨fr, tt, kd, vo, li, id, co, has, n⟩ := m
  dsimp only at hh hv hl
  subst hh
  have HCK := Lib.hid (fun wx (hb : Below w.heap.size w wx) => refcheck_any n v wx (hv.mono hb (Nat.le_refl _)))
  have HSM := Lib.hid (fun wx (hb : Below w.heap.size w wx) => refsame_any n nz v (.slice none 0 0) wx (hv.mono hb (Nat.le_refl _)) (IsB.nil wx) hl)
  obtain ⟨Q, hQ⟩ : ∃ Q, ncheck n = Q := ⟨_, rfl⟩
  obtain ⟨B, hB⟩ : ∃ B, sameN n nz = B := ⟨_, rfl⟩
  rw [hQ] at HCK
  rw [hB] at HSM
  dsimp only
  try rw [hQ]
  try rw [hB]
  obtain ⟨key, cookie, gone, data⟩ := n
  obtain ⟨L, hL⟩ : ∃ L, data.length = L := ⟨_, rfl⟩
  obtain ⟨x, c, rfl, _, _⟩ := hv.at_len hL
  have HB := Lib.hid ((Below.refl w.heap.size w).alloc (Nat.le_refl _) (.cells #[.int .i64 fr, .int .i64 tt, .int .i64 kd, .int .i64 vo, .int .i64 li, .int .u64 (id : Int), .int .i64 co, .bool false, .int .u64 (key : Int), .int .u32 (cookie : Int), .bool gone, .slice x L c] 36))
  obtain ⟨g1, g2, g3, g4, g5, g6, g7, g8, g9, g10, g11, g12, g13⟩ := hg
  dsimp only at g1 g2 g3 g4 g5 g6 g7 g8 g9 g10 g11 g12 g13
  have c0 : 0 ≤ fr ∧ fr < 256 := ⟨g1, by omega⟩
  have c1 : 0 ≤ tt ∧ tt < 256 := ⟨g3, by omega⟩
  have c2 : 0 ≤ co ∧ co < 256 := ⟨g5, by omega⟩
  have c3 : ¬ kd < 1 := by omega
  have c4 : ¬ 5 < kd := by omega
  have c6 : ¬ vo < 1 := by omega
  have c7 : ¬ 65535 < vo := by omega
  have c8 : ¬ li < 0 := by omega
  have c9 : ¬ 2147483647 < li := by omega
  clear hv hL hQ hB hl
  by_cases k5 : kd < 5
  · have k6 : co = 0 := g9 k5
    subst k6
    clear g1 g2 g3 g4 g5 g6 g7 g8 g9 g10 g11 g12 g13
    go_enter Try.func21, Try.ntmps21
    go_wp2_with fail
    refine (byteful_yes _ _ c0.1 c0.2).mono ?_
    rintro e w1 ⟨rfl, rfl⟩
    go_wp2_with fail
    refine (byteful_yes _ _ c1.1 c1.2).mono ?_
    rintro e w1 ⟨rfl, rfl⟩
    go_wp2_with fail
    refine (byteful_yes _ _ c2.1 c2.2).mono ?_
    rintro e w1 ⟨rfl, rfl⟩
    go_wp2_with fail
    refine (HSM.out _ HB.out).mono ?_
    rintro e w2 ⟨rfl, hb2⟩
    have HB2 := Lib.hid (HB.out.trans (hb2.mono HB.out.size))
    clear hb2
    cases B with
    | true =>
      go_wp2
      go_ret
      exact ⟨rfl, HB2.out⟩
    | false =>
      go_wp2
      go_ret
      exact ⟨rfl, HB2.out⟩
  · clear g1 g2 g3 g4 g5 g6 g7 g8 g9 g10 g11 g12 g13
    go_enter Try.func21, Try.ntmps21
    go_wp2_with fail
    refine (byteful_yes _ _ c0.1 c0.2).mono ?_
    rintro e w1 ⟨rfl, rfl⟩
    go_wp2_with fail
    refine (byteful_yes _ _ c1.1 c1.2).mono ?_
    rintro e w1 ⟨rfl, rfl⟩
    go_wp2_with fail
    refine (byteful_yes _ _ c2.1 c2.2).mono ?_
    rintro e w1 ⟨rfl, rfl⟩
    go_wp2_with fail
    refine (HSM.out _ HB.out).mono ?_
    rintro e w2 ⟨rfl, hb2⟩
    have HB2 := Lib.hid (HB.out.trans (hb2.mono HB.out.size))
    clear hb2
    cases B with
    | true =>
      go_wp2
      go_ret
      exact ⟨rfl, HB2.out⟩
    | false =>
      go_wp2
      go_ret
      exact ⟨rfl, HB2.out⟩

end Go.Proofs.Ytncfdkkekaninaa
