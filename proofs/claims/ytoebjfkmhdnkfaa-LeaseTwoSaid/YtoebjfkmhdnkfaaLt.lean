/- Package lease by contracts: Keep, Drop, Take. -/
import Derived.Test.YtoebjfkmhdnkfaaLs
namespace Go.Proofs.Ytoebjfkmhdnkfaa
open Go.RowKit Go.Cor
set_option linter.unusedVariables false
set_option linter.unusedSimpArgs false

theorem LsT.set {w w1 : World} {g : Nat} {p q : Ls} (h : LsT w g p w1) (j : Nat) (u : Value) (hq : (lcl p).setIfInBounds j u = lcl q) (hf : q.ok) : LsT w g q (w1.setCell ⟨g, j, none⟩ u) := by
  refine ⟨⟨?_, hf⟩, h.kept.setCell (.inl rfl) u⟩
  have := h.at_.blk.set j u
  rwa [hq] at this
set_option maxRecDepth 100000 in
set_option maxHeartbeats 1000000 in
theorem lkeep_any (w : World) (g : Nat) (s : Ls) (a ep : Int) (now : Nat) (h : LsAt w g s) (hn : now ≤ 1073741824) :
    Calls Try.prog 12 #[.pointer (some ⟨g, 0, none⟩), .int .i64 a, .int .i64 ep, .int .i64 now] w fun e w' => ((s.pass now).may a ep → e = .returned .nilIface ∧ LsT w g { s.pass now with since := (s.pass now).time } w') ∧ (¬ (s.pass now).may a ep → e = .returned (err 13) ∧ LsT w g (s.pass now) w') := by
  have HC := Lib.hid (lcheck_any w g s a ep now h hn)
  have HF := Lib.hid (Ls.ok_pass h.fit hn)
  obtain ⟨p, hp⟩ : ∃ p, s.pass now = p := ⟨_, rfl⟩
  rw [hp] at HC HF ⊢
  clear h hn hp
  obtain ⟨M, hM⟩ : ∃ M, p.time = M := ⟨_, rfl⟩
  have HM := Lib.hid hM
  clear hM
  by_cases hm : p.may a ep
  · have HY := Lib.hid hm
    clear hm
    go_enter Try.func12, Try.ntmps12
    go_wp2_with fail
    refine HC.out.mono ?_
    rintro e w1 ⟨h1, _, h3⟩
    obtain rfl := h1 HY.out
    have k1 : w1.cell? ⟨g, 1, none⟩ = some (.int .i64 M) := by rw [← HM.out]; exact h3.at_.blk.cell 1 rfl
    have f5 := h3.at_.blk.free 5
    obtain ⟨Z, hZ⟩ : ∃ Z, p.since = Z := ⟨_, rfl⟩
    have k5 : w1.cell? ⟨g, 5, none⟩ = some (.int .i64 Z) := by rw [← hZ]; exact h3.at_.blk.cell 5 rfl
    have HS := Lib.hid (h3.set 5 (.int .i64 M) (q := { p with since := p.time }) (by simp [lcl, HM.out]) ⟨HF.out.1, HF.out.2.1, HF.out.2.2.1, Nat.le_refl _, HF.out.2.2.2.2⟩)
    clear h1 h3 hZ
    go_wp2
    go_ret
    exact ⟨fun _ => ⟨rfl, HS.out⟩, fun hm => absurd HY.out hm⟩
  · have HY := Lib.hid hm
    clear hm
    go_enter Try.func12, Try.ntmps12
    go_wp2_with fail
    refine HC.out.mono ?_
    rintro e w1 ⟨_, h1, h3⟩
    obtain rfl := h1 HY.out
    have HS := Lib.hid h3
    clear h1 h3
    go_wp2
    go_ret
    exact ⟨fun hm => absurd hm HY.out, fun _ => ⟨rfl, HS.out⟩⟩
set_option maxRecDepth 100000 in
set_option maxHeartbeats 1000000 in
theorem ldrop_any (w : World) (g : Nat) (s : Ls) (a ep : Int) (now : Nat) (h : LsAt w g s) (hn : now ≤ 1073741824) :
    Calls Try.prog 13 #[.pointer (some ⟨g, 0, none⟩), .int .i64 a, .int .i64 ep, .int .i64 now] w fun e w' => ((s.pass now).may a ep → e = .returned .nilIface ∧ LsT w g { s.pass now with taken := false } w') ∧ (¬ (s.pass now).may a ep → e = .returned (err 13) ∧ LsT w g (s.pass now) w') := by
  have HC := Lib.hid (lcheck_any w g s a ep now h hn)
  have HF := Lib.hid (Ls.ok_pass h.fit hn)
  obtain ⟨p, hp⟩ : ∃ p, s.pass now = p := ⟨_, rfl⟩
  rw [hp] at HC HF ⊢
  clear h hn hp
  by_cases hm : p.may a ep
  · have HY := Lib.hid hm
    clear hm
    go_enter Try.func13, Try.ntmps13
    go_wp2_with fail
    refine HC.out.mono ?_
    rintro e w1 ⟨h1, _, h3⟩
    obtain rfl := h1 HY.out
    have f2 := h3.at_.blk.free 2
    obtain ⟨D, hD⟩ : ∃ D, p.taken = D := ⟨_, rfl⟩
    have k2 : w1.cell? ⟨g, 2, none⟩ = some (.bool D) := by rw [← hD]; exact h3.at_.blk.cell 2 rfl
    have HS := Lib.hid (h3.set 2 (.bool false) (q := { p with taken := false }) (by simp [lcl]) HF.out)
    clear h1 h3 hD
    go_wp2
    go_ret
    exact ⟨fun _ => ⟨rfl, HS.out⟩, fun hm => absurd HY.out hm⟩
  · have HY := Lib.hid hm
    clear hm
    go_enter Try.func13, Try.ntmps13
    go_wp2_with fail
    refine HC.out.mono ?_
    rintro e w1 ⟨_, h1, h3⟩
    obtain rfl := h1 HY.out
    have HS := Lib.hid h3
    clear h1 h3
    go_wp2
    go_ret
    exact ⟨fun hm => absurd hm HY.out, fun _ => ⟨rfl, HS.out⟩⟩

/-- Is it somebody else's? -/
def Ls.busy (p : Ls) (a : Nat) : Prop := 0 < p.left ∧ p.who ≠ a
def Ls.took (p : Ls) (a : Nat) : Ls := { p with taken := true, who := a, since := p.time, epoch := p.epoch + 1 }
set_option maxRecDepth 100000 in
set_option maxHeartbeats 2000000 in
theorem ltake_busy (w : World) (g : Nat) (s : Ls) (a : Nat) (now : Nat) (h : LsAt w g s) (ha : a ≤ 255) (hn : now ≤ 1073741824) (hb : (s.pass now).busy a) :
    Calls Try.prog 8 #[.pointer (some ⟨g, 0, none⟩), .int .i64 a, .int .i64 now] w fun e w' => e = .returned (.tuple #[.int .i64 0, err 14]) ∧ LsT w g (s.pass now) w' := by
  have HC := Lib.hid (lpass w g s now h hn)
  obtain ⟨p, hp⟩ : ∃ p, s.pass now = p := ⟨_, rfl⟩
  rw [hp] at HC hb ⊢
  obtain ⟨O, hO⟩ : ∃ O, p.who = O := ⟨_, rfl⟩
  obtain ⟨L, hL⟩ : ∃ L, p.left = L := ⟨_, rfl⟩
  obtain ⟨hb1, hb2⟩ := hb
  rw [hL] at hb1
  rw [hO] at hb2
  have HL := Lib.hid hL
  have HO := Lib.hid hO
  have g1 : ¬ (a : Int) < 0 := by omega
  have g2 : ¬ (a : Int) > 255 := by omega
  have g3 : (L : Int) > 0 := by omega
  have g4 : ((O : Int) == (a : Int)) = false := by rw [beq_eq_false_iff_ne]; omega
  have g5 : ((O : Int) != (a : Int)) = true := by rw [bne_iff_ne]; omega
  clear h ha hn hp hL hO hb1 hb2
  go_enter Try.func8, Try.ntmps8
  go_wp2_with fail
  refine HC.out.mono ?_
  rintro e w1 ⟨rfl, h1⟩
  have H1 := Lib.hid h1
  clear h1
  go_wp2_with fail
  refine (lleft w1 g p H1.out.at_).mono ?_
  rintro e w2 ⟨rfl, h2⟩
  rw [HL.out]
  have k3 : w2.cell? ⟨g, 3, none⟩ = some (.int .i64 O) := by rw [← HO.out]; exact h2.at_.blk.cell 3 rfl
  have H2 := Lib.hid h2
  clear h2
  go_wp2
  go_ret2
  exact ⟨rfl, H1.out.trans H2.out⟩
set_option maxRecDepth 100000 in
set_option maxHeartbeats 2000000 in
theorem ltake_ok (w : World) (g : Nat) (s : Ls) (a : Nat) (now : Nat) (h : LsAt w g s) (ha : a ≤ 255) (hn : now ≤ 1073741824) (he : s.epoch < 1000000) (hb : ¬ (s.pass now).busy a) :
    Calls Try.prog 8 #[.pointer (some ⟨g, 0, none⟩), .int .i64 a, .int .i64 now] w fun e w' => e = .returned (.tuple #[.int .i64 ((s.epoch : Int) + 1), .nilIface]) ∧ LsT w g ((s.pass now).took a) w' := by
  have HC := Lib.hid (lpass w g s now h hn)
  have HF := Lib.hid (Ls.ok_pass h.fit hn)
  have e2 : s.epoch = (s.pass now).epoch := rfl
  rw [e2] at he ⊢
  obtain ⟨p, hp⟩ : ∃ p, s.pass now = p := ⟨_, rfl⟩
  rw [hp] at HC HF hb he ⊢
  clear h hn hp e2
  obtain ⟨K, T, D, O, E, F⟩ := p
  obtain ⟨L, hL⟩ : ∃ L, Ls.left ⟨K, T, D, O, E, F⟩ = L := ⟨_, rfl⟩
  have HL := Lib.hid hL
  have HB := Lib.hid (show ¬ (0 < L ∧ O ≠ a) from by rw [← hL]; exact hb)
  have he' : E < 1000000 := he
  have g1 : ¬ (a : Int) < 0 := by omega
  have g2 : ¬ (a : Int) > 255 := by omega
  have g6 : IntKind.i64.wrap ((E : Int) + 1) = (E : Int) + 1 := IntWalk.i64_in _ (by omega)
  have HA := Lib.hid ha
  have HE := Lib.hid he'
  clear ha hL hb he he'
  by_cases g3 : (L : Int) > 0
  · obtain rfl : O = a := by
      have := HB.out
      by_cases hoa : O = a
      · exact hoa
      · exact absurd ⟨by omega, hoa⟩ this
    go_enter Try.func8, Try.ntmps8
    go_wp2_with fail
    refine HC.out.mono ?_
    rintro e w1 ⟨rfl, h1⟩
    have H1 := Lib.hid h1
    clear h1
    go_wp2_with fail
    refine (lleft w1 g _ H1.out.at_).mono ?_
    rintro e w2 ⟨rfl, h2⟩
    rw [HL.out]
    obtain h2 := H1.out.trans h2
    have k1 : w2.cell? ⟨g, 1, none⟩ = some (.int .i64 T) := h2.at_.blk.cell 1 rfl
    have k2 : w2.cell? ⟨g, 2, none⟩ = some (.bool D) := h2.at_.blk.cell 2 rfl
    have k3 : w2.cell? ⟨g, 3, none⟩ = some (.int .i64 O) := h2.at_.blk.cell 3 rfl
    have k4 : w2.cell? ⟨g, 4, none⟩ = some (.int .i64 E) := h2.at_.blk.cell 4 rfl
    have k5 : w2.cell? ⟨g, 5, none⟩ = some (.int .i64 F) := h2.at_.blk.cell 5 rfl
    have ff := fun j => h2.at_.blk.free j
    have HS := Lib.hid ((((h2.set 2 (.bool true) (q := ⟨K, T, true, O, E, F⟩) rfl HF.out).set 3 (.int .i64 O) (q := ⟨K, T, true, O, E, F⟩) rfl HF.out).set 5 (.int .i64 T) (q := ⟨K, T, true, O, E, T⟩) rfl ⟨HF.out.1, HF.out.2.1, HF.out.2.2.1, Nat.le_refl _, HF.out.2.2.2.2⟩).set 4 (.int .i64 ((E : Int) + 1)) (q := ⟨K, T, true, O, E + 1, T⟩) (by simp [lcl]) ⟨HF.out.1, HF.out.2.1, HF.out.2.2.1, Nat.le_refl _, HF.out.2.2.2.2.1, by have := HE.out; show E + 1 ≤ _; omega⟩)
    clear h2
    go_wp2
    go_ret2
    exact ⟨rfl, HS.out⟩
  · go_enter Try.func8, Try.ntmps8
    go_wp2_with fail
    refine HC.out.mono ?_
    rintro e w1 ⟨rfl, h1⟩
    have H1 := Lib.hid h1
    clear h1
    go_wp2_with fail
    refine (lleft w1 g _ H1.out.at_).mono ?_
    rintro e w2 ⟨rfl, h2⟩
    rw [HL.out]
    obtain h2 := H1.out.trans h2
    have k1 : w2.cell? ⟨g, 1, none⟩ = some (.int .i64 T) := h2.at_.blk.cell 1 rfl
    have k2 : w2.cell? ⟨g, 2, none⟩ = some (.bool D) := h2.at_.blk.cell 2 rfl
    have k3 : w2.cell? ⟨g, 3, none⟩ = some (.int .i64 O) := h2.at_.blk.cell 3 rfl
    have k4 : w2.cell? ⟨g, 4, none⟩ = some (.int .i64 E) := h2.at_.blk.cell 4 rfl
    have k5 : w2.cell? ⟨g, 5, none⟩ = some (.int .i64 F) := h2.at_.blk.cell 5 rfl
    have ff := fun j => h2.at_.blk.free j
    have HFa : ∀ F, F ≤ T → Ls.ok ⟨K, T, true, a, E, F⟩ := fun F hF => ⟨HF.out.1, HF.out.2.1, HF.out.2.2.1, hF, HA.out, HF.out.2.2.2.2.2⟩
    have HS := Lib.hid ((((h2.set 2 (.bool true) (q := ⟨K, T, true, O, E, F⟩) rfl HF.out).set 3 (.int .i64 a) (q := ⟨K, T, true, a, E, F⟩) rfl (HFa _ HF.out.2.2.2.1)).set 5 (.int .i64 T) (q := ⟨K, T, true, a, E, T⟩) rfl (HFa _ (Nat.le_refl _))).set 4 (.int .i64 ((E : Int) + 1)) (q := ⟨K, T, true, a, E + 1, T⟩) (by simp [lcl]) ⟨HF.out.1, HF.out.2.1, HF.out.2.2.1, Nat.le_refl _, HA.out, by have := HE.out; show E + 1 ≤ _; omega⟩)
    clear h2 HFa
    go_wp2
    go_ret2
    exact ⟨rfl, HS.out⟩
end Go.Proofs.Ytoebjfkmhdnkfaa
