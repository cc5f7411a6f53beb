/- Package lease by contracts: a plain value (ticks, time, taken, who, epoch, since) in a box of six cells. -/
import Derived.Test.YtoebjfkmhdnkfaaBlk
import Derived.Test.YtoebjfkmhdnkfaaErrs
import Derived.StillTailTactics
import Derived.Deep.CutRange
import Derived.RegionTactic
import Derived.ProofKit
import Derived.Deep.RegionHeld3
import Derived.Deep.RegionWith
import Derived.Deep.QuietTactic
import Derived.BigQuiet
namespace Go.Proofs.Ytoebjfkmhdnkfaa
open Go.RowKit Go.Cor
set_option linter.unusedVariables false
set_option linter.unusedSimpArgs false

/-- A lease as a plain value. -/
structure Ls where
  ticks : Nat
  time : Nat
  taken : Bool
  who : Nat
  epoch : Nat
  since : Nat
def lcl (s : Ls) : Array Value := #[.int .i64 s.ticks, .int .i64 s.time, .bool s.taken, .int .i64 s.who, .int .i64 s.epoch, .int .i64 s.since]
def Ls.ok (s : Ls) : Prop := 1 ≤ s.ticks ∧ s.ticks ≤ 1073741824 ∧ s.time ≤ 1073741824 ∧ s.since ≤ s.time ∧ s.who ≤ 255 ∧ s.epoch ≤ 1099511627776
def Ls.pass (s : Ls) (now : Nat) : Ls := { s with time := if now < s.time then s.time else now }
def Ls.left (s : Ls) : Nat := if s.taken then s.ticks - (s.time - s.since) else 0
theorem Ls.ok_pass {s : Ls} (h : s.ok) {now : Nat} (hn : now ≤ 1073741824) : (s.pass now).ok := by
  obtain ⟨h1, h2, h3, h4, h5, h6⟩ := h
  refine ⟨h1, h2, ?_, ?_, h5, h6⟩ <;> simp only [Ls.pass] <;> split <;> omega
/-- A lease in memory: its box is g. -/
structure LsAt (w : World) (g : Nat) (s : Ls) : Prop where
  blk : Blk w g (lcl s) 45
  fit : s.ok
theorem LsAt.kept {S : Nat → Prop} {w w' : World} {g : Nat} {s : Ls} (h : LsAt w g s) (hk : Kept S w w') (hs : ¬ S g) : LsAt w' g s := ⟨h.blk.kept hk hs, h.fit⟩
theorem LsAt.below {w w' : World} {g B : Nat} {s : Ls} (h : LsAt w g s) (hb : Below B w w') (hg : g < B) : LsAt w' g s := ⟨h.blk.below hb hg, h.fit⟩
theorem LsAt.drew {w : World} {g n : Nat} {s : Ls} (h : LsAt w g s) : LsAt (w.drewN n) g s := ⟨h.blk, h.fit⟩
/-- What a call of a lease leaves: the lease anew, and nothing turned but its box. -/
structure LsT (w : World) (g : Nat) (s : Ls) (w' : World) : Prop where
  at_ : LsAt w' g s
  kept : Kept (fun k => k = g) w w'
theorem LsT.below {w w' : World} {g B : Nat} {s : Ls} (h : LsT w g s w') (hB : B ≤ w.heap.size) (hg : B ≤ g) : Below B w w' := h.kept.below hB (fun k hk e => by omega)
theorem kept_drewN {S : Nat → Prop} {a w : World} (h : Kept S a w) (n : Nat) : Kept S a (w.drewN n) := ⟨h.os, h.tape, h.output, h.size, h.block⟩

abbrev err (k : Int) : Value := .iface 43 (.int .i64 k)

set_option maxRecDepth 100000 in
set_option maxHeartbeats 1000000 in
theorem lnew_bad (n : Int) (w : World) (h : n < 1) :
    Calls Try.prog 7 #[.int .i64 n] w fun e w' => e = .returned (.tuple #[.pointer none, err 1]) ∧ w = w' := by
  go_enter Try.func7, Try.ntmps7
  go_wp2
  go_ret2
  exact ⟨rfl, rfl⟩
set_option maxRecDepth 100000 in
set_option maxHeartbeats 1000000 in
theorem lnew_ok (n : Nat) (w : World) (h1 : 1 ≤ n) (h2 : n ≤ 1073741824) :
    Calls Try.prog 7 #[.int .i64 n] w fun e w' => ∃ g, e = .returned (.tuple #[.pointer (some ⟨g, 0, none⟩), .nilIface]) ∧ w.heap.size ≤ g ∧ LsAt w' g ⟨n, 0, false, 0, 0, 0⟩ ∧ Below w.heap.size w w' := by
  have a1 : ¬ (n : Int) < 1 := by omega
  have a2 : ¬ (n : Int) > 1073741824 := by omega
  have HX := Lib.hid (Blk.new w (lcl ⟨n, 0, false, 0, 0, 0⟩) 45)
  have HB := Lib.hid ((Below.refl w.heap.size w).alloc (Nat.le_refl _) (.cells (lcl ⟨n, 0, false, 0, 0, 0⟩) 45))
  have HF := Lib.hid (show Ls.ok ⟨n, 0, false, 0, 0, 0⟩ from ⟨h1, h2, by simp, by simp, by simp, by simp⟩)
  clear h1 h2
  go_enter Try.func7, Try.ntmps7
  go_wp2
  go_ret2
  exact ⟨w.heap.size, rfl, Nat.le_refl _, ⟨HX.out, HF.out⟩, HB.out⟩

set_option maxRecDepth 100000 in
set_option maxHeartbeats 1000000 in
theorem lpass (w : World) (g : Nat) (s : Ls) (now : Nat) (h : LsAt w g s) (hn : now ≤ 1073741824) :
    Calls Try.prog 14 #[.pointer (some ⟨g, 0, none⟩), .int .i64 now] w fun e w' => e = .returned (.tuple #[]) ∧ LsT w g (s.pass now) w' := by
  obtain ⟨M, hM⟩ : ∃ M : Nat, (if now < s.time then s.time else now) = M := ⟨_, rfl⟩
  have hMle : M ≤ 1073741824 := by have := h.fit.2.2.1; rw [← hM]; split <;> omega
  have k1 : w.cell? ⟨g, 1, none⟩ = some (.int .i64 s.time) := h.blk.cell 1 rfl
  have f1 := h.blk.free 1
  have HX := Lib.hid (show Blk (w.setCell ⟨g, 1, none⟩ (.int .i64 M)) g (lcl (s.pass now)) 45 from by
    have := h.blk.set 1 (.int .i64 M)
    simpa [lcl, Ls.pass, hM] using this)
  have HK := Lib.hid ((Kept.refl (fun k => k = g) w).setCell (p := ⟨g, 1, none⟩) (.inl rfl) (.int .i64 M))
  have HF := Lib.hid (Ls.ok_pass h.fit hn)
  obtain ⟨T, hT⟩ : ∃ T, s.time = T := ⟨_, rfl⟩
  rw [hT] at k1 hM
  have HM := Lib.hid hM
  have e2 : ¬ (1073741824 < M) := by omega
  have hb : M ≤ 1073741824 := hMle
  clear hM hT h hMle hn
  by_cases hlt : now < T
  · obtain rfl : T = M := by rw [← HM.out, if_pos hlt]
    go_enter Try.func14, Try.ntmps14
    go_wp2
    go_end0
    exact ⟨rfl, ⟨HX.out, HF.out⟩, HK.out⟩
  · obtain rfl : now = M := by rw [← HM.out, if_neg hlt]
    go_enter Try.func14, Try.ntmps14
    go_wp2
    go_end0
    exact ⟨rfl, ⟨HX.out, HF.out⟩, HK.out⟩

set_option maxRecDepth 100000 in
set_option maxHeartbeats 1000000 in
theorem lleft (w : World) (g : Nat) (s : Ls) (h : LsAt w g s) :
    Calls Try.prog 15 #[.pointer (some ⟨g, 0, none⟩)] w fun e w' => e = .returned (.int .i64 s.left) ∧ LsT w g s w' := by
  obtain ⟨K, T, D, O, E, F⟩ := s
  obtain ⟨h1, h2, h3, h4, h5, h6⟩ := h.fit
  have HX := Lib.hid h
  have k0 : w.cell? ⟨g, 0, none⟩ = some (.int .i64 K) := h.blk.cell 0 rfl
  have k1 : w.cell? ⟨g, 1, none⟩ = some (.int .i64 T) := h.blk.cell 1 rfl
  have k2 : w.cell? ⟨g, 2, none⟩ = some (.bool D) := h.blk.cell 2 rfl
  have k5 : w.cell? ⟨g, 5, none⟩ = some (.int .i64 F) := h.blk.cell 5 rfl
  cases D with
  | false =>
    clear h h1 h2 h3 h4 h5 h6
    go_enter Try.func15, Try.ntmps15
    go_wp2
    go_ret
    exact ⟨rfl, HX.out, Kept.refl _ _⟩
  | true =>
    have h3' : T ≤ 1073741824 := h3
    have h4' : F ≤ T := h4
    have h2' : K ≤ 1073741824 := h2
    have hx : IntKind.i64.wrap ((T : Int) - F) = (T : Int) - F := IntWalk.i64_in _ (by omega)
    have hres : ((Ls.left ⟨K, T, true, O, E, F⟩ : Nat) : Int) = if K < T - F then 0 else (K : Int) - ((T : Int) - F) := by
      simp only [Ls.left, if_true]
      split <;> omega
    rw [hres]
    clear h h1 h2 h3 h4 h5 h6 hres
    by_cases hneg : K < T - F
    · have hn : (0 : Int) > (K : Int) - ((T : Int) - F) := by omega
      rw [if_pos hneg]
      go_enter Try.func15, Try.ntmps15
      go_wp2_with fail
      go_region
      go_wp2
      go_ret
      exact ⟨rfl, ⟨HX.out.blk, HX.out.fit⟩, kept_drewN (Kept.refl _ _) 1⟩
    · have hn : ¬ ((0 : Int) > (K : Int) - ((T : Int) - F)) := by omega
      rw [if_neg hneg]
      go_enter Try.func15, Try.ntmps15
      go_wp2_with fail
      go_region
      go_wp2
      go_ret
      exact ⟨rfl, ⟨HX.out.blk, HX.out.fit⟩, kept_drewN (Kept.refl _ _) 1⟩
theorem LsT.trans {w w1 w2 : World} {g : Nat} {s t : Ls} (h : LsT w g s w1) (k : LsT w1 g t w2) : LsT w g t w2 := ⟨k.at_, h.kept.trans k.kept (fun _ e _ => e)⟩

set_option maxRecDepth 100000 in
set_option maxHeartbeats 1000000 in
theorem lleft_any (w : World) (g : Nat) (s : Ls) (now : Nat) (h : LsAt w g s) (hn : now ≤ 1073741824) :
    Calls Try.prog 11 #[.pointer (some ⟨g, 0, none⟩), .int .i64 now] w fun e w' => e = .returned (.int .i64 (s.pass now).left) ∧ LsT w g (s.pass now) w' := by
  have HC := Lib.hid (lpass w g s now h hn)
  obtain ⟨p, hp⟩ : ∃ p, s.pass now = p := ⟨_, rfl⟩
  rw [hp] at HC ⊢
  obtain ⟨L, hL⟩ : ∃ L, p.left = L := ⟨_, rfl⟩
  rw [hL]
  have HL := Lib.hid hL
  clear h hn hp hL
  go_enter Try.func11, Try.ntmps11
  go_wp2_with fail
  refine HC.out.mono ?_
  rintro e w1 ⟨rfl, h1⟩
  have H1 := Lib.hid h1
  clear h1
  go_wp2_with fail
  refine (lleft w1 g p H1.out.at_).mono ?_
  rintro e w2 ⟨rfl, h2⟩
  rw [HL.out]
  have H2 := Lib.hid h2
  clear h2
  go_wp2
  go_ret
  exact ⟨rfl, H1.out.trans H2.out⟩
theorem lleft_nil (w : World) (n : Int) : Calls Try.prog 11 #[.pointer none, .int .i64 n] w fun e w' => e = .returned (.int .i64 0) ∧ w = w' := by
  go_enter Try.func11, Try.ntmps11
  go_wp2
  go_ret
  exact ⟨rfl, rfl⟩
theorem lholder_nil (w : World) (n : Int) : Calls Try.prog 10 #[.pointer none, .int .i64 n] w fun e w' => e = .returned (.tuple #[.int .i64 0, .int .i64 0, .bool false]) ∧ w = w' := by
  go_enter Try.func10, Try.ntmps10
  go_wp2
  go_ret3
  exact ⟨rfl, rfl⟩
theorem ltake_nil (w : World) (a n : Int) : Calls Try.prog 8 #[.pointer none, .int .i64 a, .int .i64 n] w fun e w' => e = .returned (.tuple #[.int .i64 0, err 15]) ∧ w = w' := by
  go_enter Try.func8, Try.ntmps8
  go_wp2
  go_ret2
  exact ⟨rfl, rfl⟩
theorem lcheck_nil (w : World) (a b n : Int) : Calls Try.prog 17 #[.pointer none, .int .i64 a, .int .i64 b, .int .i64 n] w fun e w' => e = .returned (err 15) ∧ w = w' := by
  go_enter Try.func17, Try.ntmps17
  go_wp2
  go_ret
  exact ⟨rfl, rfl⟩
theorem lkeep_nil (w : World) (a b n : Int) : Calls Try.prog 12 #[.pointer none, .int .i64 a, .int .i64 b, .int .i64 n] w fun e w' => e = .returned (err 15) ∧ w = w' := by
  go_enter Try.func12, Try.ntmps12
  go_wp2_with (go_at_call 17; refine (lcheck_nil _ _ _ _).mono ?_; rintro e w1 ⟨rfl, rfl⟩)
  go_ret
  exact ⟨rfl, rfl⟩
theorem ldrop_nil (w : World) (a b n : Int) : Calls Try.prog 13 #[.pointer none, .int .i64 a, .int .i64 b, .int .i64 n] w fun e w' => e = .returned (err 15) ∧ w = w' := by
  go_enter Try.func13, Try.ntmps13
  go_wp2_with (go_at_call 17; refine (lcheck_nil _ _ _ _).mono ?_; rintro e w1 ⟨rfl, rfl⟩)
  go_ret
  exact ⟨rfl, rfl⟩
set_option maxRecDepth 100000 in
set_option maxHeartbeats 1000000 in
theorem lholder_yes (w : World) (g : Nat) (s : Ls) (now : Nat) (h : LsAt w g s) (hn : now ≤ 1073741824) (hl : 0 < (s.pass now).left) :
    Calls Try.prog 10 #[.pointer (some ⟨g, 0, none⟩), .int .i64 now] w fun e w' => e = .returned (.tuple #[.int .i64 s.who, .int .i64 s.epoch, .bool true]) ∧ LsT w g (s.pass now) w' := by
  have HC := Lib.hid (lpass w g s now h hn)
  have e1 : s.who = (s.pass now).who := rfl
  have e2 : s.epoch = (s.pass now).epoch := rfl
  rw [e1, e2]
  obtain ⟨p, hp⟩ : ∃ p, s.pass now = p := ⟨_, rfl⟩
  rw [hp] at HC hl ⊢
  obtain ⟨O, hO⟩ : ∃ O, p.who = O := ⟨_, rfl⟩
  obtain ⟨E, hE⟩ : ∃ E, p.epoch = E := ⟨_, rfl⟩
  obtain ⟨L, hL⟩ : ∃ L, p.left = L := ⟨_, rfl⟩
  rw [hO, hE]
  rw [hL] at hl
  have HL := Lib.hid hL
  have HO := Lib.hid hO
  have HE := Lib.hid hE
  have h0 : ((L : Int) == 0) = false := by rw [beq_eq_false_iff_ne]; omega
  clear h hn hp hL hO hE hl e1 e2
  go_enter Try.func10, Try.ntmps10
  go_wp2_with fail
  refine HC.out.mono ?_
  rintro e w1 ⟨rfl, h1⟩
  have H1 := Lib.hid h1
  clear h1
  go_wp2_with fail
  refine (lleft w1 g p H1.out.at_).mono ?_
  rintro e w2 ⟨rfl, h2⟩
  rw [HL.out]
  have k3 : w2.cell? ⟨g, 3, none⟩ = some (.int .i64 O) := by rw [← HO.out]; exact h2.at_.blk.cell 3 rfl
  have k4 : w2.cell? ⟨g, 4, none⟩ = some (.int .i64 E) := by rw [← HE.out]; exact h2.at_.blk.cell 4 rfl
  have H2 := Lib.hid h2
  clear h2
  go_wp2_with fail
  go_region
  go_wp2
  go_ret3
  exact ⟨rfl, ⟨H2.out.at_.blk, H2.out.at_.fit⟩, kept_drewN (H1.out.trans H2.out).kept 1⟩
set_option maxRecDepth 100000 in
set_option maxHeartbeats 1000000 in
theorem lholder_no (w : World) (g : Nat) (s : Ls) (now : Nat) (h : LsAt w g s) (hn : now ≤ 1073741824) (hl : (s.pass now).left = 0) :
    Calls Try.prog 10 #[.pointer (some ⟨g, 0, none⟩), .int .i64 now] w fun e w' => e = .returned (.tuple #[.int .i64 0, .int .i64 s.epoch, .bool false]) ∧ LsT w g (s.pass now) w' := by
  have HC := Lib.hid (lpass w g s now h hn)
  have e2 : s.epoch = (s.pass now).epoch := rfl
  rw [e2]
  obtain ⟨p, hp⟩ : ∃ p, s.pass now = p := ⟨_, rfl⟩
  rw [hp] at HC hl ⊢
  obtain ⟨E, hE⟩ : ∃ E, p.epoch = E := ⟨_, rfl⟩
  rw [hE]
  have HL := Lib.hid hl
  have HE := Lib.hid hE
  clear h hn hp hl hE e2
  go_enter Try.func10, Try.ntmps10
  go_wp2_with fail
  refine HC.out.mono ?_
  rintro e w1 ⟨rfl, h1⟩
  have H1 := Lib.hid h1
  clear h1
  go_wp2_with fail
  refine (lleft w1 g p H1.out.at_).mono ?_
  rintro e w2 ⟨rfl, h2⟩
  rw [HL.out]
  have k4 : w2.cell? ⟨g, 4, none⟩ = some (.int .i64 E) := by rw [← HE.out]; exact h2.at_.blk.cell 4 rfl
  have H2 := Lib.hid h2
  clear h2
  go_wp2_with fail
  go_region
  go_wp2
  go_ret3
  exact ⟨rfl, ⟨H2.out.at_.blk, H2.out.at_.fit⟩, kept_drewN (H1.out.trans H2.out).kept 1⟩

/-- Who may keep or drop it. -/
def Ls.may (p : Ls) (a e : Int) : Prop := 0 < p.left ∧ (p.who : Int) = a ∧ (p.epoch : Int) = e
set_option maxRecDepth 100000 in
set_option maxHeartbeats 1000000 in
theorem lcheck_any (w : World) (g : Nat) (s : Ls) (a ep : Int) (now : Nat) (h : LsAt w g s) (hn : now ≤ 1073741824) :
    Calls Try.prog 17 #[.pointer (some ⟨g, 0, none⟩), .int .i64 a, .int .i64 ep, .int .i64 now] w fun e w' => ((s.pass now).may a ep → e = .returned .nilIface) ∧ (¬ (s.pass now).may a ep → e = .returned (err 13)) ∧ LsT w g (s.pass now) w' := by
  have HC := Lib.hid (lpass w g s now h hn)
  obtain ⟨p, hp⟩ : ∃ p, s.pass now = p := ⟨_, rfl⟩
  rw [hp] at HC ⊢
  obtain ⟨O, hO⟩ : ∃ O, p.who = O := ⟨_, rfl⟩
  obtain ⟨E, hE⟩ : ∃ E, p.epoch = E := ⟨_, rfl⟩
  obtain ⟨L, hL⟩ : ∃ L, p.left = L := ⟨_, rfl⟩
  have hm : p.may a ep ↔ 0 < L ∧ (O : Int) = a ∧ (E : Int) = ep := by unfold Ls.may; rw [hO, hE, hL]
  have HM := Lib.hid hm
  have HL := Lib.hid hL
  have HO := Lib.hid hO
  have HE := Lib.hid hE
  clear h hn hp hL hO hE hm
  obtain ⟨D0, hD0⟩ : ∃ D, ((L : Int) == 0) = D := ⟨_, rfl⟩
  obtain ⟨D1, hD1⟩ : ∃ D, ((O : Int) == a) = D := ⟨_, rfl⟩
  obtain ⟨D2, hD2⟩ : ∃ D, ((E : Int) == ep) = D := ⟨_, rfl⟩
  have HD0 := Lib.hid hD0
  have HD1 := Lib.hid hD1
  have HD2 := Lib.hid hD2
  cases D0 with
  | true =>
    go_enter Try.func17, Try.ntmps17
    go_wp2_with fail
    refine HC.out.mono ?_
    rintro e w1 ⟨rfl, h1⟩
    have H1 := Lib.hid h1
    clear h1
    go_wp2_with fail
    refine (lleft w1 g p H1.out.at_).mono ?_
    rintro e w2 ⟨rfl, h2⟩
    rw [HL.out]
    have H2 := Lib.hid h2
    clear h2
    go_wp2
    go_ret
    refine ⟨fun hm => ?_, fun _ => rfl, H1.out.trans H2.out⟩
    have := (HM.out.1 hm).1
    have := HD0.out
    simp at this
    omega
  | false =>
    cases D1 with
    | false =>
      go_enter Try.func17, Try.ntmps17
      go_wp2_with fail
      refine HC.out.mono ?_
      rintro e w1 ⟨rfl, h1⟩
      have H1 := Lib.hid h1
      clear h1
      go_wp2_with fail
      refine (lleft w1 g p H1.out.at_).mono ?_
      rintro e w2 ⟨rfl, h2⟩
      rw [HL.out]
      have k3 : w2.cell? ⟨g, 3, none⟩ = some (.int .i64 O) := by rw [← HO.out]; exact h2.at_.blk.cell 3 rfl
      have k4 : w2.cell? ⟨g, 4, none⟩ = some (.int .i64 E) := by rw [← HE.out]; exact h2.at_.blk.cell 4 rfl
      have H2 := Lib.hid h2
      clear h2
      go_wp2
      go_ret
      refine ⟨fun hm => ?_, fun _ => rfl, H1.out.trans H2.out⟩
      have := (HM.out.1 hm).2.1
      have := HD1.out
      simp at this
      omega
    | true =>
      cases D2 with
      | false =>
        obtain rfl : (O : Int) = a := by simpa using hD1
        go_enter Try.func17, Try.ntmps17
        go_wp2_with fail
        refine HC.out.mono ?_
        rintro e w1 ⟨rfl, h1⟩
        have H1 := Lib.hid h1
        clear h1
        go_wp2_with fail
        refine (lleft w1 g p H1.out.at_).mono ?_
        rintro e w2 ⟨rfl, h2⟩
        rw [HL.out]
        have k3 : w2.cell? ⟨g, 3, none⟩ = some (.int .i64 O) := by rw [← HO.out]; exact h2.at_.blk.cell 3 rfl
        have k4 : w2.cell? ⟨g, 4, none⟩ = some (.int .i64 E) := by rw [← HE.out]; exact h2.at_.blk.cell 4 rfl
        have H2 := Lib.hid h2
        clear h2
        go_wp2
        go_ret
        refine ⟨fun hm => ?_, fun _ => rfl, H1.out.trans H2.out⟩
        have := (HM.out.1 hm).2.2
        have := HD2.out
        simp at this
        omega
      | true =>
        obtain rfl : (O : Int) = a := by simpa using hD1
        obtain rfl : (E : Int) = ep := by simpa using hD2
        go_enter Try.func17, Try.ntmps17
        go_wp2_with fail
        refine HC.out.mono ?_
        rintro e w1 ⟨rfl, h1⟩
        have H1 := Lib.hid h1
        clear h1
        go_wp2_with fail
        refine (lleft w1 g p H1.out.at_).mono ?_
        rintro e w2 ⟨rfl, h2⟩
        rw [HL.out]
        have k3 : w2.cell? ⟨g, 3, none⟩ = some (.int .i64 O) := by rw [← HO.out]; exact h2.at_.blk.cell 3 rfl
        have k4 : w2.cell? ⟨g, 4, none⟩ = some (.int .i64 E) := by rw [← HE.out]; exact h2.at_.blk.cell 4 rfl
        have H2 := Lib.hid h2
        clear h2
        go_wp2
        go_ret
        refine ⟨fun _ => rfl, fun hm => absurd (HM.out.2 ⟨?_, ?_, ?_⟩) hm, H1.out.trans H2.out⟩
        · have := HD0.out
          simp at this
          omega
        · trivial
        · trivial
end Go.Proofs.Ytoebjfkmhdnkfaa
