/- Layer 20: the chapter's example; a call by its kind; what a law holds of a pair. -/
import Derived.Test.YtlaighghagcjjaaTwF
import Derived.Test.YtlaighghagcjjaaErrs
namespace Go.Proofs.Ytlaighghagcjjaa
open Go.RowKit Go.Cor
set_option linter.unusedVariables false
set_option linter.unusedSimpArgs false

/-- What a law of layer 20 carries along. -/
structure Th (w wx : World) (g : Nat) (S : Nat → Prop) (p : Pr) (K : Nat) : Prop where
  bel : Below w.heap.size w wx
  tw : Tw wx w.heap.size g S p
  ok : p.Ok
  le : p.Le K
section
variable {w wx w' : World} {g : Nat} {S : Nat → Prop} {p : Pr} {K : Nat}
theorem Th.kept {T : Nat → Prop} (h : Th w wx g S p K) (hk : Kept T wx w') (hT : ∀ k, S k → ¬ T k) (hl : ∀ k, k < w.heap.size → ¬ T k) : Th w w' g S p K :=
  ⟨Kept.below_trans h.bel hk h.bel.size hl, h.tw.kept hk hT, h.ok, h.le⟩
theorem Th.below (h : Th w wx g S p K) (hb : Below wx.heap.size wx w') : Th w w' g S p K :=
  ⟨h.bel.trans (hb.mono h.bel.size), h.tw.below hb, h.ok, h.le⟩
theorem Th.alloc (h : Th w wx g S p K) (o : Obj) : Th w (wx.alloc o) g S p K := h.below (below_new19 wx o)
theorem Th.drew (h : Th w wx g S p K) (n : Nat) : Th w (wx.drewN n) g S p K := h.below (below_drewN19 (Below.refl _ _) n)
theorem Th.cell (h : Th w wx g S p K) {q : Addr} (hq : w.heap.size ≤ q.block) (hS : ¬ S q.block) (u : Value) : Th w (wx.setCell q u) g S p K :=
  h.kept (T := fun k => k = q.block) ((Kept.refl (fun k => k = q.block) wx).setCell (p := q) (.inl rfl) u) (fun k hk e => hS (e ▸ hk)) (fun k hk e => by omega)
theorem Th.call {q : Pr} {K' : Nat} (h : Th w wx g S p K) (ht : TwT wx w.heap.size g S q w') (ho : q.Ok) (hl : q.Le K') : ∃ S', Th w w' g S' q K' ∧ (∀ k, S' k → S k ∨ wx.heap.size ≤ k) ∧ Kept S wx w' := by
  obtain ⟨S', h1, h2, h3⟩ := ht.out
  exact ⟨S', ⟨Kept.below_trans h.bel h3 h.bel.size (fun k hk hs => by have := (h.tw.lt hs).1; omega), h1, ho, hl⟩, h2, h3⟩
theorem Th.more {K' : Nat} (h : Th w wx g S p K) (hk : K ≤ K') : Th w wx g S p K' := ⟨h.bel, h.tw, h.ok, h.le.more hk⟩
theorem Th.new {w1 w2 : World} (h1 : Below w.heap.size w w1) (hm : Tw w2 w1.heap.size g S Pr.new) (h2 : Below w1.heap.size w1 w2) : Th w w2 g S Pr.new 0 :=
  ⟨h1.trans (h2.mono h1.size), hm.low h1.size, Pr.Ok.new, Pr.Le.new⟩
end
theorem code_derr (k : Nat) (w : World) (h : k < 16) : Calls Try.prog 20 #[derr k] w fun e w' => e = .returned (.int .i64 (k : Int)) ∧ w = w' := by
  by_cases h0 : k = 0
  · subst h0
    exact (code_nil w).mono fun e w' ⟨h1, h2⟩ => ⟨h1, h2⟩
  · rw [derr_pos h0]
    exact (code_code (k : Int) w (by omega) (by omega)).mono fun e w' ⟨h1, h2⟩ => ⟨h1, h2⟩
theorem actK_lt (p : Pr) (a : Ac20) : actK p a < 16 := by
  unfold actK askK shipK fallK riseK
  repeat' split
  all_goals decide
theorem askK_lt (p : Pr) (t : Int) : askK p t < 16 := by
  unfold askK
  repeat' split
  all_goals decide
theorem shipK_lt (p : Pr) (t : Int) : shipK p t < 16 := by
  unfold shipK
  repeat' split
  all_goals decide
theorem fallK_lt (p : Pr) (t : Int) : fallK p t < 16 := by
  unfold fallK
  repeat' split
  all_goals decide
theorem riseK_lt (p : Pr) (t : Int) : riseK p t < 16 := by
  unfold riseK
  repeat' split
  all_goals decide
set_option maxRecDepth 100000 in
set_option maxHeartbeats 2000000 in
theorem tdo (w : World) (B g : Nat) (S : Nat → Prop) (p : Pr) (a : Ac20) (h : Tw w B g S p) (ho : p.Ok) (hl : p.Le 1000) :
    Calls Try.prog 11 #[pp g, aval a] w fun e w' => e = .returned (.tuple #[.int .i64 (actN p a : Int), .int .i64 (actK p a : Int)]) ∧ TwT w B g S (actP p a) w' := by
  have HA := Lib.hid (fun cs => h.below (below_new19 w (.cells cs 35)))
  have HT := Lib.hid (fun (cs : Array Value) (q : Pr) (w' : World) (ht : TwT (w.alloc (.cells cs 35)) B g S q w') => (show TwT w B g S q w' from by
    obtain ⟨S', h1, h2, h3⟩ := ht.out
    have hs : w.heap.size ≤ (w.alloc (.cells cs 35)).heap.size := (below_new19 w _).size
    exact ⟨S', h1, fun k hk => (h2 k hk).imp id (fun h => Nat.le_trans hs h), ((Kept.refl S w).alloc _).trans h3 (fun _ h _ => h)⟩))
  have HO := Lib.hid ho
  have HL := Lib.hid hl
  clear h ho hl
  obtain ⟨k, t, s, c⟩ := a
  by_cases k0 : k = 0
  · subst k0
    have e1 : actN p ⟨0, t, s, c⟩ = askN p t := rfl
    have e2 : actK p ⟨0, t, s, c⟩ = askK p t := rfl
    have e3 : actP p ⟨0, t, s, c⟩ = askP p t c := rfl
    rw [e1, e2, e3]
    have HC := Lib.hid (fun cs => task _ B g S p t c (HA.out cs) HO.out HL.out)
    have HK := Lib.hid (askK_lt p t)
    obtain ⟨N, hN⟩ : ∃ N, askN p t = N := ⟨_, rfl⟩
    obtain ⟨E, hE⟩ : ∃ E, askK p t = E := ⟨_, rfl⟩
    rw [hN, hE] at HC ⊢
    rw [hE] at HK
    clear e1 e2 e3 hN hE
    obtain ⟨ck, cv, ce, ca, cn, c1, c2, c3⟩ := c
    unfold cval at HC
    unfold aval
    go_enter Try.func11, Try.ntmps11
    go_wp2_with fail
    refine (HC.out _).mono ?_
    rintro e w2 ⟨rfl, h2⟩
    have H2 := Lib.hid (HT.out _ _ _ h2)
    clear h2
    go_wp2_with (go_at_call 20; refine (code_derr E _ HK.out).mono ?_; rintro e w3 ⟨rfl, rfl⟩)
    go_ret2
    exact ⟨rfl, H2.out⟩
  by_cases k1 : k = 1
  · subst k1
    have e1 : actN p ⟨1, t, s, c⟩ = 0 := rfl
    have e2 : actK p ⟨1, t, s, c⟩ = shipK p t := rfl
    have e3 : actP p ⟨1, t, s, c⟩ = shipP p t := rfl
    rw [e1, e2, e3]
    have HC := Lib.hid (fun cs => tship _ B g S p t (HA.out cs) HO.out HL.out)
    have HK := Lib.hid (shipK_lt p t)
    obtain ⟨E, hE⟩ : ∃ E, shipK p t = E := ⟨_, rfl⟩
    rw [hE] at HC HK ⊢
    clear e1 e2 e3 hE k0
    unfold aval
    go_enter Try.func11, Try.ntmps11
    go_wp2_with fail
    refine (HC.out _).mono ?_
    rintro e w2 ⟨rfl, h2⟩
    have H2 := Lib.hid (HT.out _ _ _ h2)
    clear h2
    go_wp2_with (go_at_call 20; refine (code_derr E _ HK.out).mono ?_; rintro e w3 ⟨rfl, rfl⟩)
    go_ret2
    exact ⟨rfl, H2.out⟩
  by_cases k2 : k = 2
  · subst k2
    have e1 : actN p ⟨2, t, s, c⟩ = 0 := rfl
    have e2 : actK p ⟨2, t, s, c⟩ = fallK p s := rfl
    have e3 : actP p ⟨2, t, s, c⟩ = fallP p s := rfl
    rw [e1, e2, e3]
    have HC := Lib.hid (fun cs => tfall _ B g S p s (HA.out cs) HO.out HL.out)
    have HK := Lib.hid (fallK_lt p s)
    obtain ⟨E, hE⟩ : ∃ E, fallK p s = E := ⟨_, rfl⟩
    rw [hE] at HC HK ⊢
    clear e1 e2 e3 hE k0 k1
    unfold aval
    go_enter Try.func11, Try.ntmps11
    go_wp2_with fail
    refine (HC.out _).mono ?_
    rintro e w2 ⟨rfl, h2⟩
    have H2 := Lib.hid (HT.out _ _ _ h2)
    clear h2
    go_wp2_with (go_at_call 20; refine (code_derr E _ HK.out).mono ?_; rintro e w3 ⟨rfl, rfl⟩)
    go_ret2
    exact ⟨rfl, H2.out⟩
  have e1 : actN p ⟨k, t, s, c⟩ = 0 := if_neg k0
  have e2 : actK p ⟨k, t, s, c⟩ = riseK p s := by unfold actK; rw [if_neg k0, if_neg k1, if_neg k2]
  have e3 : actP p ⟨k, t, s, c⟩ = riseP p s := by unfold actP; rw [if_neg k0, if_neg k1, if_neg k2]
  rw [e1, e2, e3]
  have HC := Lib.hid (fun cs => trise _ B g S p s (HA.out cs) HO.out HL.out)
  have HK := Lib.hid (riseK_lt p s)
  obtain ⟨E, hE⟩ : ∃ E, riseK p s = E := ⟨_, rfl⟩
  rw [hE] at HC HK ⊢
  clear e1 e2 e3 hE
  unfold aval
  go_enter Try.func11, Try.ntmps11
  go_wp2_with fail
  refine (HC.out _).mono ?_
  rintro e w2 ⟨rfl, h2⟩
  have H2 := Lib.hid (HT.out _ _ _ h2)
  clear h2
  go_wp2_with (go_at_call 20; refine (code_derr E _ HK.out).mono ?_; rintro e w3 ⟨rfl, rfl⟩)
  go_ret2
  exact ⟨rfl, H2.out⟩
end Go.Proofs.Ytlaighghagcjjaa
