/- Twa, Twb. -/
import Derived.Test.YtlaighghagcjjaaTnF
import Derived.Test.YtlaighghagcjjaaDoF

section
namespace Go.Proofs.Ytlaighghagcjjaa
open Go.RowKit Go.Cor
set_option linter.unusedVariables false
set_option linter.unusedSimpArgs false

/-- A pair's cells: whether side 0 is up, its log, the same of side 1, which side leads, the term, how many are settled. -/
def pcs (va vb : Value) (p : Pr) : Array Value := #[.bool p.u0, va, .bool p.u1, vb, .int .i64 (sn p.ld : Int), .int .i64 (p.tm : Int), .int .i64 (p.st : Int)]
/-- A pair in memory: its box g, its logs at va and vb; S: its blocks, behind B. -/
structure TwV (w : World) (B g : Nat) (S : Nat → Prop) (va vb : Value) (p : Pr) : Prop where
  blk : Blk w g (pcs va vb p) 68
  ra : w.ownsRow B 56 8 va p.a.length (row ccl p.a)
  rb : w.ownsRow B 56 8 vb p.b.length (row ccl p.b)
  na : va.ownBlock ≠ some g
  nb : vb.ownBlock ≠ some g
  ab : ∀ k, va.ownBlock = some k → vb.ownBlock ≠ some k
  sg : S g
  sv : ∀ k, va.ownBlock = some k ∨ vb.ownBlock = some k → S k
  lt : ∀ k, S k → B ≤ k ∧ k < w.heap.size
/-- A pair in memory, of which just what is to be is settled. -/
def Tw (w : World) (B g : Nat) (S : Nat → Prop) (p : Pr) : Prop := p.Set ∧ ∃ va vb, TwV w B g S va vb p
section
variable {w w' : World} {B g : Nat} {S : Nat → Prop} {p : Pr} {va vb : Value}
theorem TwV.kept {T : Nat → Prop} (h : TwV w B g S va vb p) (hk : Kept T w w') (hT : ∀ k, S k → ¬ T k) : TwV w' B g S va vb p :=
  ⟨h.blk.kept hk (hT g h.sg), ownsRow_kept h.ra hk (fun k e => hT k (h.sv k (.inl e))), ownsRow_kept h.rb hk (fun k e => hT k (h.sv k (.inr e))), h.na, h.nb, h.ab, h.sg, h.sv, fun k hk' => ⟨(h.lt k hk').1, Nat.lt_of_lt_of_le (h.lt k hk').2 hk.size⟩⟩
theorem TwV.below (h : TwV w B g S va vb p) (hb : Below w.heap.size w w') : TwV w' B g S va vb p :=
  h.kept (T := fun _ => False) (Kept.of_below hb (Nat.le_refl _)) fun _ _ h => h
theorem TwV.drewN (h : TwV w B g S va vb p) (n : Nat) : TwV (w.drewN n) B g S va vb p := h.below (below_drewN19 (Below.refl _ _) n)
theorem Tw.kept {T : Nat → Prop} (h : Tw w B g S p) (hk : Kept T w w') (hT : ∀ k, S k → ¬ T k) : Tw w' B g S p := by
  obtain ⟨h0, va, vb, h1⟩ := h
  exact ⟨h0, va, vb, h1.kept hk hT⟩
theorem Tw.below (h : Tw w B g S p) (hb : Below w.heap.size w w') : Tw w' B g S p :=
  h.kept (T := fun _ => False) (Kept.of_below hb (Nat.le_refl _)) fun _ _ h => h
theorem Tw.lt (h : Tw w B g S p) {k : Nat} (hk : S k) : B ≤ k ∧ k < w.heap.size := by
  obtain ⟨h0, va, vb, h1⟩ := h
  exact h1.lt k hk
theorem Tw.low {B' : Nat} (h : Tw w B g S p) (hB : B' ≤ B) : Tw w B' g S p := by
  obtain ⟨h0, va, vb, h1⟩ := h
  exact ⟨h0, va, vb, h1.blk, ownsRow_base h1.ra hB, ownsRow_base h1.rb hB, h1.na, h1.nb, h1.ab, h1.sg, h1.sv, fun k hk => ⟨Nat.le_trans hB (h1.lt k hk).1, (h1.lt k hk).2⟩⟩
/-- A cell of the pair's own written. -/
theorem TwV.set (h : TwV w B g S va vb p) (j : Nat) (u : Value) (q : Pr) (hq : (pcs va vb p).setIfInBounds j u = pcs va vb q) (ha : q.a = p.a) (hb : q.b = p.b) : TwV (w.setCell ⟨g, j, none⟩ u) B g S va vb q := by
  have hk := (Kept.refl (fun k => k = g) w).setCell (p := ⟨g, j, none⟩) (.inl rfl) u
  have hs : (w.setCell ⟨g, j, none⟩ u).heap.size = w.heap.size := by simp [World.setCell]
  refine ⟨hq ▸ h.blk.set j u, ?_, ?_, h.na, h.nb, h.ab, h.sg, h.sv, fun k hk' => by rw [hs]; exact h.lt k hk'⟩
  · rw [ha]
    exact ownsRow_kept h.ra hk (fun k e e2 => h.na (e2 ▸ e))
  · rw [hb]
    exact ownsRow_kept h.rb hk (fun k e e2 => h.nb (e2 ▸ e))
theorem TwV.setK (h : TwV w B g S va vb p) (j : Nat) (u : Value) : Kept S w (w.setCell ⟨g, j, none⟩ u) := (Kept.refl S w).setCell (.inl h.sg) u
/-- A log anew. -/
theorem TwV.logA (h : TwV w B g S va vb p) {w5 : World} {v5 : Value} {l : List Cm} (ho : w5.ownsRow B 56 8 v5 l.length (row ccl l)) (hk : Kept (fun k => va.ownBlock = some k) w w5)
    (hl : v5.ownBlock = va.ownBlock ∨ ∀ k, v5.ownBlock = some k → w.heap.size ≤ k) :
    TwV (w5.setCell ⟨g, 1, none⟩ v5) B g (fun k => S k ∨ v5.ownBlock = some k) v5 vb { p with a := l } ∧ (∀ k, (S k ∨ v5.ownBlock = some k) → S k ∨ w.heap.size ≤ k) ∧ Kept S w (w5.setCell ⟨g, 1, none⟩ v5) := by
  have hgl := (h.lt g h.sg).2
  have hne : v5.ownBlock ≠ some g := by
    rcases hl with e | e
    · rw [e]; exact h.na
    · intro e2
      have := e g e2
      omega
  have hk0 : Kept S w w5 := hk.mono fun k _ e => h.sv k (.inl e)
  have hk5 := (Kept.refl (fun k => k = g) w5).setCell (p := ⟨g, 1, none⟩) (.inl rfl) v5
  have hs : (w5.setCell ⟨g, 1, none⟩ v5).heap.size = w5.heap.size := by simp [World.setCell]
  have hb5 := ownsRow_kept h.rb hk (fun k e e2 => h.ab k e2 e)
  refine ⟨⟨?_, ownsRow_kept ho hk5 (fun k e e2 => hne (e2 ▸ e)), ownsRow_kept hb5 hk5 (fun k e e2 => h.nb (e2 ▸ e)), hne, h.nb, ?_, .inl h.sg, ?_, ?_⟩, ?_, hk0.setCell (.inl h.sg) v5⟩
  · have := (h.blk.kept hk h.na).set 1 v5
    simpa [pcs] using this
  · intro k e e2
    rcases hl with e3 | e3
    · exact h.ab k (e3 ▸ e) e2
    · have := e3 k e
      have := (h.lt k (h.sv k (.inr e2))).2
      omega
  · rintro k (e | e)
    · exact .inr e
    · exact .inl (h.sv k (.inr e))
  · rintro k (e | e)
    · rw [hs]
      exact ⟨(h.lt k e).1, Nat.lt_of_lt_of_le (h.lt k e).2 hk.size⟩
    · rw [hs]
      exact ho.lt k e
  · rintro k (e | e)
    · exact .inl e
    · rcases hl with e3 | e3
      · exact .inl (h.sv k (.inl (e3 ▸ e)))
      · exact .inr (e3 k e)
theorem TwV.logB (h : TwV w B g S va vb p) {w5 : World} {v5 : Value} {l : List Cm} (ho : w5.ownsRow B 56 8 v5 l.length (row ccl l)) (hk : Kept (fun k => vb.ownBlock = some k) w w5)
    (hl : v5.ownBlock = vb.ownBlock ∨ ∀ k, v5.ownBlock = some k → w.heap.size ≤ k) :
    TwV (w5.setCell ⟨g, 3, none⟩ v5) B g (fun k => S k ∨ v5.ownBlock = some k) va v5 { p with b := l } ∧ (∀ k, (S k ∨ v5.ownBlock = some k) → S k ∨ w.heap.size ≤ k) ∧ Kept S w (w5.setCell ⟨g, 3, none⟩ v5) := by
  have hgl := (h.lt g h.sg).2
  have hne : v5.ownBlock ≠ some g := by
    rcases hl with e | e
    · rw [e]; exact h.nb
    · intro e2
      have := e g e2
      omega
  have hk0 : Kept S w w5 := hk.mono fun k _ e => h.sv k (.inr e)
  have hk5 := (Kept.refl (fun k => k = g) w5).setCell (p := ⟨g, 3, none⟩) (.inl rfl) v5
  have hs : (w5.setCell ⟨g, 3, none⟩ v5).heap.size = w5.heap.size := by simp [World.setCell]
  have ha5 := ownsRow_kept h.ra hk (fun k e e2 => h.ab k e e2)
  refine ⟨⟨?_, ownsRow_kept ha5 hk5 (fun k e e2 => h.na (e2 ▸ e)), ownsRow_kept ho hk5 (fun k e e2 => hne (e2 ▸ e)), h.na, hne, ?_, .inl h.sg, ?_, ?_⟩, ?_, hk0.setCell (.inl h.sg) v5⟩
  · have := (h.blk.kept hk h.nb).set 3 v5
    simpa [pcs] using this
  · intro k e e2
    rcases hl with e3 | e3
    · exact h.ab k e (e3 ▸ e2)
    · have := e3 k e2
      have := (h.lt k (h.sv k (.inl e))).2
      omega
  · rintro k (e | e)
    · exact .inl (h.sv k (.inl e))
    · exact .inr e
  · rintro k (e | e)
    · rw [hs]
      exact ⟨(h.lt k e).1, Nat.lt_of_lt_of_le (h.lt k e).2 hk.size⟩
    · rw [hs]
      exact ho.lt k e
  · rintro k (e | e)
    · exact .inl e
    · rcases hl with e3 | e3
      · exact .inl (h.sv k (.inr (e3 ▸ e)))
      · exact .inr (e3 k e)
end
/-- What a call of a pair leaves: the pair anew, and nothing turned but it. -/
structure TwT (w : World) (B g : Nat) (S : Nat → Prop) (p : Pr) (w' : World) : Prop where
  out : ∃ S', Tw w' B g S' p ∧ (∀ k, S' k → S k ∨ w.heap.size ≤ k) ∧ Kept S w w'
theorem Tw.same {w w' : World} {B g : Nat} {S : Nat → Prop} {p : Pr} (h : Tw w B g S p) (hb : Below w.heap.size w w') : TwT w B g S p w' :=
  ⟨S, h.below hb, fun _ h => .inl h, Kept.of_below hb (Nat.le_refl _)⟩
theorem TwT.mk' {w w' : World} {B g : Nat} {S S' : Nat → Prop} {p : Pr} {va vb : Value} (h : TwV w' B g S' va vb p) (hs : p.Set) (h2 : ∀ k, S' k → S k ∨ w.heap.size ≤ k) (h3 : Kept S w w') : TwT w B g S p w' :=
  ⟨S', ⟨hs, va, vb, h⟩, h2, h3⟩
/-- What a call of a pair leaves, but for how many are to be settled. -/
structure TwG (w : World) (B g : Nat) (S : Nat → Prop) (p : Pr) (w' : World) : Prop where
  out : ∃ S' va vb, TwV w' B g S' va vb p ∧ (∀ k, S' k → S k ∨ w.heap.size ≤ k) ∧ Kept S w w'
theorem TwG.twT {w w' : World} {B g : Nat} {S : Nat → Prop} {p : Pr} (h : TwG w B g S p w') (hs : p.Set) : TwT w B g S p w' := by
  obtain ⟨S', va, vb, h1, h2, h3⟩ := h.out
  exact ⟨S', ⟨hs, va, vb, h1⟩, h2, h3⟩
theorem kept_drew20 (S : Nat → Prop) (w : World) (n : Nat) : Kept S w (w.drewN n) := ⟨rfl, rfl, rfl, Nat.le_refl _, fun _ _ _ => rfl⟩
abbrev pp (g : Nat) : Value := .pointer (some ⟨g, 0, none⟩)
theorem isX_cmd {w : World} {B : Nat} {v : Value} {l : List Cm} (h : w.ownsRow B 56 8 v l.length (row ccl l)) : IsX w 8 v l.length (row ccl l) := IsX.own h

/-- What a side does: nothing, follows, leads, leads alone. -/
def doesN (p : Pr) (s : Bool) : Nat := if p.up s = true then (if s = p.ld then (if p.up (!s) = true then 2 else 3) else 1) else 0
set_option maxRecDepth 100000 in
set_option maxHeartbeats 2000000 in
theorem tdoes (w : World) (g : Nat) (va vb : Value) (p : Pr) (s : Bool) (h : Blk w g (pcs va vb p) 68) :
    Calls Try.prog 36 #[pp g, .int .i64 (sn s : Int)] w fun e w' => e = .returned (.int .i64 (doesN p s : Int)) ∧ w = w' := by
  obtain ⟨a, b, u0, u1, ld, tm, st⟩ := p
  have k0 : w.cell? ⟨g, 0, none⟩ = some (.bool u0) := h.cell 0 rfl
  have k2 : w.cell? ⟨g, 2, none⟩ = some (.bool u1) := h.cell 2 rfl
  have k4 : w.cell? ⟨g, 4, none⟩ = some (.int .i64 (sn ld : Int)) := h.cell 4 rfl
  clear h
  cases s <;> cases u0 <;> cases u1 <;> cases ld <;> simp only [doesN, Pr.up, sn, Bool.false_eq_true, if_true, if_false, Bool.not_true, Bool.not_false, reduceCtorEq] at k0 k2 k4 ⊢ <;>
  (go_enter Try.func36, Try.ntmps36
   go_wp2
   go_ret
   exact ⟨rfl, rfl⟩)
end Go.Proofs.Ytlaighghagcjjaa
end

section
namespace Go.Proofs.Ytlaighghagcjjaa
open Go.RowKit Go.Cor
set_option linter.unusedVariables false
set_option linter.unusedSimpArgs false

set_option maxRecDepth 100000 in
set_option maxHeartbeats 2000000 in
theorem tsettle (w : World) (B g : Nat) (S : Nat → Prop) (va vb : Value) (p : Pr) (h : TwV w B g S va vb p) :
    Calls Try.prog 37 #[pp g] w fun e w' => e = .returned (.tuple #[]) ∧ ∃ n, w' = (w.drewN n).setCell ⟨g, 6, none⟩ (.int .i64 ((p.log p.ld).length : Int)) := by
  obtain ⟨a, b, u0, u1, ld, tm, st⟩ := p
  have k1 : w.cell? ⟨g, 1, none⟩ = some va := h.blk.cell 1 rfl
  have k3 : w.cell? ⟨g, 3, none⟩ = some vb := h.blk.cell 3 rfl
  have k4 : w.cell? ⟨g, 4, none⟩ = some (.int .i64 (sn ld : Int)) := h.blk.cell 4 rfl
  have k6 : w.cell? ⟨g, 6, none⟩ = some (.int .i64 (st : Int)) := h.blk.cell 6 rfl
  have f6 := h.blk.free 6
  have la := fun W => len_X (P := Try.prog) (isX_cmd h.ra) 63 3 56 Try.underlying63 W
  have lb := fun W => len_X (P := Try.prog) (isX_cmd h.rb) 63 3 56 Try.underlying63 W
  dsimp only at la lb
  clear h
  cases ld
  · show Calls _ _ _ _ fun e w' => e = .returned (.tuple #[]) ∧ ∃ n, w' = (w.drewN n).setCell ⟨g, 6, none⟩ (.int .i64 (a.length : Int))
    simp only [sn, Bool.false_eq_true, if_false] at k4
    obtain ⟨N, hN⟩ : ∃ N, a.length = N := ⟨_, rfl⟩
    rw [hN] at la ⊢
    clear hN lb
    go_enter Try.func37, Try.ntmps37
    go_wp2_with fail
    go_region
    go_end0
    exact ⟨rfl, 1, rfl⟩
  · show Calls _ _ _ _ fun e w' => e = .returned (.tuple #[]) ∧ ∃ n, w' = (w.drewN n).setCell ⟨g, 6, none⟩ (.int .i64 (b.length : Int))
    simp only [sn, if_true] at k4
    obtain ⟨N, hN⟩ : ∃ N, b.length = N := ⟨_, rfl⟩
    rw [hN] at lb ⊢
    clear hN la
    go_enter Try.func37, Try.ntmps37
    go_wp2_with fail
    go_region
    go_end0
    exact ⟨rfl, 1, rfl⟩
theorem tcheck_nil (w : World) (n : Int) : Calls Try.prog 30 #[.pointer none, .int .i64 n] w fun e w' => e = .returned (erc 15) ∧ w = w' := by
  go_enter Try.func30, Try.ntmps30
  go_wp2
  go_ret
  exact ⟨rfl, rfl⟩
theorem tcheck_bad (w : World) (g : Nat) (n : Int) (hn : ¬ (0 ≤ n ∧ n ≤ 1)) : Calls Try.prog 30 #[pp g, .int .i64 n] w fun e w' => e = .returned (erc 1) ∧ w = w' := by
  by_cases h0 : n < 0
  · clear hn
    go_enter Try.func30, Try.ntmps30
    go_wp2
    go_ret
    exact ⟨rfl, rfl⟩
  · have h1 : n ≥ 2 := by omega
    clear hn
    go_enter Try.func30, Try.ntmps30
    go_wp2
    go_ret
    exact ⟨rfl, rfl⟩
theorem tcheck_ok (w : World) (g : Nat) (s : Bool) : Calls Try.prog 30 #[pp g, .int .i64 (sn s : Int)] w fun e w' => e = .returned .nilIface ∧ w = w' := by
  cases s <;> simp only [sn, Bool.false_eq_true, if_true, if_false] <;>
  (go_enter Try.func30, Try.ntmps30
   go_wp2
   go_ret
   exact ⟨rfl, rfl⟩)
set_option maxRecDepth 100000 in
theorem tnew (w : World) : Calls Try.prog 8 #[] w fun e w' => ∃ g S, e = .returned (pp g) ∧ Tw w' w.heap.size g S Pr.new ∧ Below w.heap.size w w' := by
  have HX := Lib.hid (Blk.new w (pcs (.slice none 0 0) (.slice none 0 0) Pr.new) 68)
  have HB := Lib.hid (below_new19 w (.cells (pcs (.slice none 0 0) (.slice none 0 0) Pr.new) 68))
  go_enter Try.func8, Try.ntmps8
  go_wp2
  go_ret
  refine ⟨w.heap.size, fun k => k = w.heap.size, rfl, ⟨Pr.Set.new, .slice none 0 0, .slice none 0 0, HX.out, World.ownsRow_nil _ _ _ _, World.ownsRow_nil _ _ _ _, by simp [Value.ownBlock], by simp [Value.ownBlock], (fun k h => by simp [Value.ownBlock] at h), rfl, (fun k h => by simp [Value.ownBlock] at h), (fun k e => ⟨by omega, by rw [e]; exact HX.out.lt⟩)⟩, HB.out⟩
set_option maxRecDepth 100000 in
theorem tlead (w : World) (B g : Nat) (S : Nat → Prop) (p : Pr) (h : Tw w B g S p) :
    Calls Try.prog 12 #[pp g] w fun e w' => e = .returned (.tuple #[.int .i64 (sn p.ld : Int), .int .i64 (p.tm : Int)]) ∧ Below w.heap.size w w' := by
  obtain ⟨_, va, vb, h⟩ := h
  have k4 : w.cell? ⟨g, 4, none⟩ = some (.int .i64 (sn p.ld : Int)) := h.blk.cell 4 rfl
  have k5 : w.cell? ⟨g, 5, none⟩ = some (.int .i64 (p.tm : Int)) := h.blk.cell 5 rfl
  obtain ⟨N, hN⟩ : ∃ N, sn p.ld = N := ⟨_, rfl⟩
  obtain ⟨T, hT⟩ : ∃ T, p.tm = T := ⟨_, rfl⟩
  rw [hN] at k4 ⊢
  rw [hT] at k5 ⊢
  clear h hN hT
  go_enter Try.func12, Try.ntmps12
  go_wp2_with fail
  go_region
  go_wp2
  go_ret2
  exact ⟨rfl, below_drewN19 (Below.refl _ _) 1⟩
/-- Settled makes no memory. -/
theorem tsettled_q (w : World) (B g : Nat) (S : Nat → Prop) (p : Pr) (h : Tw w B g S p) :
    Calls Try.prog 14 #[pp g] w fun e w' => e = .returned (.int .i64 (p.st : Int)) ∧ ∃ n, w' = w.drewN n := by
  obtain ⟨_, va, vb, h⟩ := h
  have k6 : w.cell? ⟨g, 6, none⟩ = some (.int .i64 (p.st : Int)) := h.blk.cell 6 rfl
  obtain ⟨N, hN⟩ : ∃ N, p.st = N := ⟨_, rfl⟩
  rw [hN] at k6 ⊢
  clear h hN
  go_enter Try.func14, Try.ntmps14
  go_wp2
  go_ret
  exact ⟨rfl, 0, rfl⟩
theorem tsettled (w : World) (B g : Nat) (S : Nat → Prop) (p : Pr) (h : Tw w B g S p) :
    Calls Try.prog 14 #[pp g] w fun e w' => e = .returned (.int .i64 (p.st : Int)) ∧ Below w.heap.size w w' :=
  (tsettled_q w B g S p h).mono fun e w' ⟨h1, n, h2⟩ => ⟨h1, h2 ▸ below_drewN19 (Below.refl _ _) n⟩
set_option maxRecDepth 100000 in
theorem tlogs (w : World) (B g : Nat) (S : Nat → Prop) (p : Pr) (h : Tw w B g S p) :
    Calls Try.prog 13 #[pp g] w fun e w' => e = .returned (.tuple #[.int .i64 (p.a.length : Int), .int .i64 (p.b.length : Int)]) ∧ Below w.heap.size w w' := by
  obtain ⟨_, va, vb, h⟩ := h
  have k1 : w.cell? ⟨g, 1, none⟩ = some va := h.blk.cell 1 rfl
  have k3 : w.cell? ⟨g, 3, none⟩ = some vb := h.blk.cell 3 rfl
  have la := fun W => len_X (P := Try.prog) (isX_cmd h.ra) 63 3 56 Try.underlying63 W
  have lb := fun W => len_X (P := Try.prog) (isX_cmd h.rb) 63 3 56 Try.underlying63 W
  obtain ⟨N, hN⟩ : ∃ N, p.a.length = N := ⟨_, rfl⟩
  obtain ⟨M, hM⟩ : ∃ M, p.b.length = M := ⟨_, rfl⟩
  rw [hN] at la ⊢
  rw [hM] at lb ⊢
  clear h hN hM
  go_enter Try.func13, Try.ntmps13
  go_wp2_with fail
  go_region
  go_wp2
  go_ret2
  exact ⟨rfl, below_drewN19 (Below.refl _ _) 1⟩
theorem tlead_nil (w : World) : Calls Try.prog 12 #[.pointer none] w fun e w' => e = .returned (.tuple #[.int .i64 0, .int .i64 0]) ∧ Below w.heap.size w w' := by
  go_enter Try.func12, Try.ntmps12
  go_wp2
  go_ret2
  exact ⟨rfl, Below.refl _ _⟩
theorem tsettled_nil (w : World) : Calls Try.prog 14 #[.pointer none] w fun e w' => e = .returned (.int .i64 0) ∧ Below w.heap.size w w' := by
  go_enter Try.func14, Try.ntmps14
  go_wp2
  go_ret
  exact ⟨rfl, Below.refl _ _⟩
theorem tlogs_nil (w : World) : Calls Try.prog 13 #[.pointer none] w fun e w' => e = .returned (.tuple #[.int .i64 0, .int .i64 0]) ∧ Below w.heap.size w w' := by
  go_enter Try.func13, Try.ntmps13
  go_wp2
  go_ret2
  exact ⟨rfl, Below.refl _ _⟩
set_option maxRecDepth 100000 in
theorem task_nil (w : World) (t : Int) (c : Cm) : Calls Try.prog 21 #[.pointer none, .int .i64 t, cval c] w fun e w' => e = .returned (.tuple #[.int .i64 0, erc 15]) ∧ Below w.heap.size w w' := by
  obtain ⟨ck, cv, ce, ca, cn, c1, c2, c3⟩ := c
  unfold cval
  go_enter Try.func21, Try.ntmps21
  go_wp2
  go_ret2
  exact ⟨rfl, below_new19 w _⟩
theorem tship_nil (w : World) (t : Int) : Calls Try.prog 22 #[.pointer none, .int .i64 t] w fun e w' => e = .returned (erc 15) ∧ Below w.heap.size w w' := by
  go_enter Try.func22, Try.ntmps22
  go_wp2
  go_ret
  exact ⟨rfl, Below.refl _ _⟩
theorem tfall_nil (w : World) (n : Int) : Calls Try.prog 23 #[.pointer none, .int .i64 n] w fun e w' => e = .returned (erc 15) ∧ Below w.heap.size w w' := by
  go_enter Try.func23, Try.ntmps23
  go_wp2_with (go_at_call 30; refine (tcheck_nil _ _).mono ?_; rintro e w1 ⟨rfl, rfl⟩)
  go_ret
  exact ⟨rfl, Below.refl _ _⟩
theorem trise_nil (w : World) (n : Int) : Calls Try.prog 24 #[.pointer none, .int .i64 n] w fun e w' => e = .returned (erc 15) ∧ Below w.heap.size w w' := by
  go_enter Try.func24, Try.ntmps24
  go_wp2_with (go_at_call 30; refine (tcheck_nil _ _).mono ?_; rintro e w1 ⟨rfl, rfl⟩)
  go_ret
  exact ⟨rfl, Below.refl _ _⟩
theorem tanswer_nil (w : World) (i : Int) : Calls Try.prog 19 #[.pointer none, .int .i64 i] w fun e w' => e = .returned (.tuple #[.int .i64 0, erc 15]) ∧ Below w.heap.size w w' := by
  go_enter Try.func19, Try.ntmps19
  go_wp2
  go_ret2
  exact ⟨rfl, Below.refl _ _⟩
theorem tmap_nil (w : World) (n : Int) : Calls Try.prog 16 #[.pointer none, .int .i64 n] w fun e w' => e = .returned (.pointer none) ∧ Below w.heap.size w w' := by
  go_enter Try.func16, Try.ntmps16
  go_wp2_with (go_at_call 30; refine (tcheck_nil _ _).mono ?_; rintro e w1 ⟨rfl, rfl⟩)
  go_ret
  exact ⟨rfl, Below.refl _ _⟩
theorem tmap_none (w : World) (B g : Nat) (S : Nat → Prop) (p : Pr) (n : Int) (h : Tw w B g S p) (hn : ¬ (0 ≤ n ∧ n ≤ 1)) :
    Calls Try.prog 16 #[pp g, .int .i64 n] w fun e w' => e = .returned (.pointer none) ∧ Below w.heap.size w w' := by
  have HN := Lib.hid hn
  clear h hn
  go_enter Try.func16, Try.ntmps16
  go_wp2_with (go_at_call 30; refine (tcheck_bad _ _ _ HN.out).mono ?_; rintro e w1 ⟨rfl, rfl⟩)
  go_ret
  exact ⟨rfl, Below.refl _ _⟩
theorem tanswer_none (w : World) (B g : Nat) (S : Nat → Prop) (p : Pr) (i : Int) (h : Tw w B g S p) (hi : i < 0 ∨ (p.st : Int) ≤ i) :
    Calls Try.prog 19 #[pp g, .int .i64 i] w fun e w' => e = .returned (.tuple #[.int .i64 0, erc 6]) ∧ Below w.heap.size w w' := by
  obtain ⟨_, va, vb, h⟩ := h
  have k6 : w.cell? ⟨g, 6, none⟩ = some (.int .i64 (p.st : Int)) := h.blk.cell 6 rfl
  obtain ⟨N, hN⟩ : ∃ N, p.st = N := ⟨_, rfl⟩
  rw [hN] at k6 hi
  clear h hN
  by_cases h0 : i < 0
  · clear hi
    go_enter Try.func19, Try.ntmps19
    go_wp2
    go_ret2
    exact ⟨rfl, Below.refl _ _⟩
  · have h1 : i ≥ (N : Int) := by omega
    clear hi
    go_enter Try.func19, Try.ntmps19
    go_wp2
    go_ret2
    exact ⟨rfl, Below.refl _ _⟩
end Go.Proofs.Ytlaighghagcjjaa
end
