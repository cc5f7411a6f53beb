/- Package twin: settle, check, New, Lead, Logs, Settled; those of nil. -/
import Derived.Test.YtlaighghagcjjaaTwa
namespace Go.Proofs.Ytlaighghagcjjaa
open Go.RowKit Go.Cor
set_option linter.unusedVariables false
set_option linter.unusedSimpArgs false

set_option maxRecDepth 100000 in
set_option maxHeartbeats 2000000 in
theorem tsettle (w : World) (B g : Nat) (S : Nat → Prop) (va vb : Value) (p : Pr) (h : TwV w B g S va vb p) :
    Calls Try.prog 37 #[pp g] w fun e w' => e = .returned (.tuple #[]) ∧ ∃ n, w' = (w.drewN n).setCell ⟨g, 6, none⟩ (.int .i64 ((p.log p.ld).length : Int)) := by
  obtain ⟨a, b, u0, u1, ld, tm, st⟩ := p
  have k1 : w.cell? ⟨g, 1, none⟩ = some va := h.blk.cell 1 rfl
  have k3 : w.cell? ⟨g, 3, none⟩ = some vb := h.blk.cell 3 rfl
  have k4 : w.cell? ⟨g, 4, none⟩ = some (.int .i64 (sn ld : Int)) := h.blk.cell 4 rfl
  have k6 : w.cell? ⟨g, 6, none⟩ = some (.int .i64 (st : Int)) := h.blk.cell 6 rfl
  have f6 := h.blk.free 6
  have la := fun W => len_X (P := Try.prog) (isX_cmd h.ra) 63 3 56 Try.underlying63 W
  have lb := fun W => len_X (P := Try.prog) (isX_cmd h.rb) 63 3 56 Try.underlying63 W
  dsimp only at la lb
  clear h
  cases ld
  · show Calls _ _ _ _ fun e w' => e = .returned (.tuple #[]) ∧ ∃ n, w' = (w.drewN n).setCell ⟨g, 6, none⟩ (.int .i64 (a.length : Int))
    simp only [sn, Bool.false_eq_true, if_false] at k4
    obtain ⟨N, hN⟩ : ∃ N, a.length = N := ⟨_, rfl⟩
    rw [hN] at la ⊢
    clear hN lb
    go_enter Try.func37, Try.ntmps37
    go_wp2_with fail
    go_region
    go_end0
    exact ⟨rfl, 1, rfl⟩
  · show Calls _ _ _ _ fun e w' => e = .returned (.tuple #[]) ∧ ∃ n, w' = (w.drewN n).setCell ⟨g, 6, none⟩ (.int .i64 (b.length : Int))
    simp only [sn, if_true] at k4
    obtain ⟨N, hN⟩ : ∃ N, b.length = N := ⟨_, rfl⟩
    rw [hN] at lb ⊢
    clear hN la
    go_enter Try.func37, Try.ntmps37
    go_wp2_with fail
    go_region
    go_end0
    exact ⟨rfl, 1, rfl⟩
theorem tcheck_nil (w : World) (n : Int) : Calls Try.prog 30 #[.pointer none, .int .i64 n] w fun e w' => e = .returned (erc 15) ∧ w = w' := by
  go_enter Try.func30, Try.ntmps30
  go_wp2
  go_ret
  exact ⟨rfl, rfl⟩
theorem tcheck_bad (w : World) (g : Nat) (n : Int) (hn : ¬ (0 ≤ n ∧ n ≤ 1)) : Calls Try.prog 30 #[pp g, .int .i64 n] w fun e w' => e = .returned (erc 1) ∧ w = w' := by
  by_cases h0 : n < 0
  · clear hn
    go_enter Try.func30, Try.ntmps30
    go_wp2
    go_ret
    exact ⟨rfl, rfl⟩
  · have h1 : n ≥ 2 := by omega
    clear hn
    go_enter Try.func30, Try.ntmps30
    go_wp2
    go_ret
    exact ⟨rfl, rfl⟩
theorem tcheck_ok (w : World) (g : Nat) (s : Bool) : Calls Try.prog 30 #[pp g, .int .i64 (sn s : Int)] w fun e w' => e = .returned .nilIface ∧ w = w' := by
  cases s <;> simp only [sn, Bool.false_eq_true, if_true, if_false] <;>
  (go_enter Try.func30, Try.ntmps30
   go_wp2
   go_ret
   exact ⟨rfl, rfl⟩)
set_option maxRecDepth 100000 in
theorem tnew (w : World) : Calls Try.prog 8 #[] w fun e w' => ∃ g S, e = .returned (pp g) ∧ Tw w' w.heap.size g S Pr.new ∧ Below w.heap.size w w' := by
  have HX := Lib.hid (Blk.new w (pcs (.slice none 0 0) (.slice none 0 0) Pr.new) 68)
  have HB := Lib.hid (below_new19 w (.cells (pcs (.slice none 0 0) (.slice none 0 0) Pr.new) 68))
  go_enter Try.func8, Try.ntmps8
  go_wp2
  go_ret
  refine ⟨w.heap.size, fun k => k = w.heap.size, rfl, ⟨Pr.Set.new, .slice none 0 0, .slice none 0 0, HX.out, World.ownsRow_nil _ _ _ _, World.ownsRow_nil _ _ _ _, by simp [Value.ownBlock], by simp [Value.ownBlock], (fun k h => by simp [Value.ownBlock] at h), rfl, (fun k h => by simp [Value.ownBlock] at h), (fun k e => ⟨by omega, by rw [e]; exact HX.out.lt⟩)⟩, HB.out⟩
set_option maxRecDepth 100000 in
theorem tlead (w : World) (B g : Nat) (S : Nat → Prop) (p : Pr) (h : Tw w B g S p) :
    Calls Try.prog 12 #[pp g] w fun e w' => e = .returned (.tuple #[.int .i64 (sn p.ld : Int), .int .i64 (p.tm : Int)]) ∧ Below w.heap.size w w' := by
  obtain ⟨_, va, vb, h⟩ := h
  have k4 : w.cell? ⟨g, 4, none⟩ = some (.int .i64 (sn p.ld : Int)) := h.blk.cell 4 rfl
  have k5 : w.cell? ⟨g, 5, none⟩ = some (.int .i64 (p.tm : Int)) := h.blk.cell 5 rfl
  obtain ⟨N, hN⟩ : ∃ N, sn p.ld = N := ⟨_, rfl⟩
  obtain ⟨T, hT⟩ : ∃ T, p.tm = T := ⟨_, rfl⟩
  rw [hN] at k4 ⊢
  rw [hT] at k5 ⊢
  clear h hN hT
  go_enter Try.func12, Try.ntmps12
  go_wp2_with fail
  go_region
  go_wp2
  go_ret2
  exact ⟨rfl, below_drewN19 (Below.refl _ _) 1⟩
/-- Settled makes no memory. -/
theorem tsettled_q (w : World) (B g : Nat) (S : Nat → Prop) (p : Pr) (h : Tw w B g S p) :
    Calls Try.prog 14 #[pp g] w fun e w' => e = .returned (.int .i64 (p.st : Int)) ∧ ∃ n, w' = w.drewN n := by
  obtain ⟨_, va, vb, h⟩ := h
  have k6 : w.cell? ⟨g, 6, none⟩ = some (.int .i64 (p.st : Int)) := h.blk.cell 6 rfl
  obtain ⟨N, hN⟩ : ∃ N, p.st = N := ⟨_, rfl⟩
  rw [hN] at k6 ⊢
  clear h hN
  go_enter Try.func14, Try.ntmps14
  go_wp2
  go_ret
  exact ⟨rfl, 0, rfl⟩
theorem tsettled (w : World) (B g : Nat) (S : Nat → Prop) (p : Pr) (h : Tw w B g S p) :
    Calls Try.prog 14 #[pp g] w fun e w' => e = .returned (.int .i64 (p.st : Int)) ∧ Below w.heap.size w w' :=
  (tsettled_q w B g S p h).mono fun e w' ⟨h1, n, h2⟩ => ⟨h1, h2 ▸ below_drewN19 (Below.refl _ _) n⟩
set_option maxRecDepth 100000 in
theorem tlogs (w : World) (B g : Nat) (S : Nat → Prop) (p : Pr) (h : Tw w B g S p) :
    Calls Try.prog 13 #[pp g] w fun e w' => e = .returned (.tuple #[.int .i64 (p.a.length : Int), .int .i64 (p.b.length : Int)]) ∧ Below w.heap.size w w' := by
  obtain ⟨_, va, vb, h⟩ := h
  have k1 : w.cell? ⟨g, 1, none⟩ = some va := h.blk.cell 1 rfl
  have k3 : w.cell? ⟨g, 3, none⟩ = some vb := h.blk.cell 3 rfl
  have la := fun W => len_X (P := Try.prog) (isX_cmd h.ra) 63 3 56 Try.underlying63 W
  have lb := fun W => len_X (P := Try.prog) (isX_cmd h.rb) 63 3 56 Try.underlying63 W
  obtain ⟨N, hN⟩ : ∃ N, p.a.length = N := ⟨_, rfl⟩
  obtain ⟨M, hM⟩ : ∃ M, p.b.length = M := ⟨_, rfl⟩
  rw [hN] at la ⊢
  rw [hM] at lb ⊢
  clear h hN hM
  go_enter Try.func13, Try.ntmps13
  go_wp2_with fail
  go_region
  go_wp2
  go_ret2
  exact ⟨rfl, below_drewN19 (Below.refl _ _) 1⟩
theorem tlead_nil (w : World) : Calls Try.prog 12 #[.pointer none] w fun e w' => e = .returned (.tuple #[.int .i64 0, .int .i64 0]) ∧ Below w.heap.size w w' := by
  go_enter Try.func12, Try.ntmps12
  go_wp2
  go_ret2
  exact ⟨rfl, Below.refl _ _⟩
theorem tsettled_nil (w : World) : Calls Try.prog 14 #[.pointer none] w fun e w' => e = .returned (.int .i64 0) ∧ Below w.heap.size w w' := by
  go_enter Try.func14, Try.ntmps14
  go_wp2
  go_ret
  exact ⟨rfl, Below.refl _ _⟩
theorem tlogs_nil (w : World) : Calls Try.prog 13 #[.pointer none] w fun e w' => e = .returned (.tuple #[.int .i64 0, .int .i64 0]) ∧ Below w.heap.size w w' := by
  go_enter Try.func13, Try.ntmps13
  go_wp2
  go_ret2
  exact ⟨rfl, Below.refl _ _⟩
set_option maxRecDepth 100000 in
theorem task_nil (w : World) (t : Int) (c : Cm) : Calls Try.prog 21 #[.pointer none, .int .i64 t, cval c] w fun e w' => e = .returned (.tuple #[.int .i64 0, erc 15]) ∧ Below w.heap.size w w' := by
  obtain ⟨ck, cv, ce, ca, cn, c1, c2, c3⟩ := c
  unfold cval
  go_enter Try.func21, Try.ntmps21
  go_wp2
  go_ret2
  exact ⟨rfl, below_new19 w _⟩
theorem tship_nil (w : World) (t : Int) : Calls Try.prog 22 #[.pointer none, .int .i64 t] w fun e w' => e = .returned (erc 15) ∧ Below w.heap.size w w' := by
  go_enter Try.func22, Try.ntmps22
  go_wp2
  go_ret
  exact ⟨rfl, Below.refl _ _⟩
theorem tfall_nil (w : World) (n : Int) : Calls Try.prog 23 #[.pointer none, .int .i64 n] w fun e w' => e = .returned (erc 15) ∧ Below w.heap.size w w' := by
  go_enter Try.func23, Try.ntmps23
  go_wp2_with (go_at_call 30; refine (tcheck_nil _ _).mono ?_; rintro e w1 ⟨rfl, rfl⟩)
  go_ret
  exact ⟨rfl, Below.refl _ _⟩
theorem trise_nil (w : World) (n : Int) : Calls Try.prog 24 #[.pointer none, .int .i64 n] w fun e w' => e = .returned (erc 15) ∧ Below w.heap.size w w' := by
  go_enter Try.func24, Try.ntmps24
  go_wp2_with (go_at_call 30; refine (tcheck_nil _ _).mono ?_; rintro e w1 ⟨rfl, rfl⟩)
  go_ret
  exact ⟨rfl, Below.refl _ _⟩
theorem tanswer_nil (w : World) (i : Int) : Calls Try.prog 19 #[.pointer none, .int .i64 i] w fun e w' => e = .returned (.tuple #[.int .i64 0, erc 15]) ∧ Below w.heap.size w w' := by
  go_enter Try.func19, Try.ntmps19
  go_wp2
  go_ret2
  exact ⟨rfl, Below.refl _ _⟩
theorem tmap_nil (w : World) (n : Int) : Calls Try.prog 16 #[.pointer none, .int .i64 n] w fun e w' => e = .returned (.pointer none) ∧ Below w.heap.size w w' := by
  go_enter Try.func16, Try.ntmps16
  go_wp2_with (go_at_call 30; refine (tcheck_nil _ _).mono ?_; rintro e w1 ⟨rfl, rfl⟩)
  go_ret
  exact ⟨rfl, Below.refl _ _⟩
theorem tmap_none (w : World) (B g : Nat) (S : Nat → Prop) (p : Pr) (n : Int) (h : Tw w B g S p) (hn : ¬ (0 ≤ n ∧ n ≤ 1)) :
    Calls Try.prog 16 #[pp g, .int .i64 n] w fun e w' => e = .returned (.pointer none) ∧ Below w.heap.size w w' := by
  have HN := Lib.hid hn
  clear h hn
  go_enter Try.func16, Try.ntmps16
  go_wp2_with (go_at_call 30; refine (tcheck_bad _ _ _ HN.out).mono ?_; rintro e w1 ⟨rfl, rfl⟩)
  go_ret
  exact ⟨rfl, Below.refl _ _⟩
theorem tanswer_none (w : World) (B g : Nat) (S : Nat → Prop) (p : Pr) (i : Int) (h : Tw w B g S p) (hi : i < 0 ∨ (p.st : Int) ≤ i) :
    Calls Try.prog 19 #[pp g, .int .i64 i] w fun e w' => e = .returned (.tuple #[.int .i64 0, erc 6]) ∧ Below w.heap.size w w' := by
  obtain ⟨_, va, vb, h⟩ := h
  have k6 : w.cell? ⟨g, 6, none⟩ = some (.int .i64 (p.st : Int)) := h.blk.cell 6 rfl
  obtain ⟨N, hN⟩ : ∃ N, p.st = N := ⟨_, rfl⟩
  rw [hN] at k6 hi
  clear h hN
  by_cases h0 : i < 0
  · clear hi
    go_enter Try.func19, Try.ntmps19
    go_wp2
    go_ret2
    exact ⟨rfl, Below.refl _ _⟩
  · have h1 : i ≥ (N : Int) := by omega
    clear hi
    go_enter Try.func19, Try.ntmps19
    go_wp2
    go_ret2
    exact ⟨rfl, Below.refl _ _⟩
end Go.Proofs.Ytlaighghagcjjaa
