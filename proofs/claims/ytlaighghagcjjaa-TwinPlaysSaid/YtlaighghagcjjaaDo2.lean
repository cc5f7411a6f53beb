/- Package dirs: Do, way by way. -/
import Derived.Test.YtlaighghagcjjaaDg3
namespace Go.Proofs.Ytlaighghagcjjaa
open Go.RowKit Go.Cor
set_option linter.unusedVariables false
set_option linter.unusedSimpArgs false

/-- A map in memory, its slice named. -/
structure Mv (w : World) (B g : Nat) (S : Nat → Prop) (L : List En) (v : Value) : Prop where
  blk : Blk w g #[v] 92
  row : w.ownsRow B 77 6 v L.length (row ecl L)
  ne : v.ownBlock ≠ some g
  sg : S g
  sv : ∀ k, v.ownBlock = some k → S k
  sb : ∀ k, S k → B ≤ k ∧ k < w.heap.size
theorem Mv.mp {w : World} {B g : Nat} {S : Nat → Prop} {L : List En} {v : Value} (h : Mv w B g S L v) : Mp w B g S L := ⟨v, h.blk, h.row, h.ne, h.sg, h.sv, h.sb⟩
theorem Mp.mv {w : World} {B g : Nat} {S : Nat → Prop} {L : List En} (h : Mp w B g S L) : ∃ v, Mv w B g S L v := by
  obtain ⟨v, h1, h2, h3, h4, h5, h6⟩ := h
  exact ⟨v, h1, h2, h3, h4, h5, h6⟩
theorem Mv.below {w w' : World} {B g : Nat} {S : Nat → Prop} {L : List En} {v : Value} (h : Mv w B g S L v) (hb : Below w.heap.size w w') : Mv w' B g S L v :=
  ⟨h.blk.below hb h.blk.lt, ownsRow_below h.row hb (Nat.le_refl _), h.ne, h.sg, h.sv, fun k hk => ⟨(h.sb k hk).1, Nat.lt_of_lt_of_le (h.sb k hk).2 hb.size⟩⟩
theorem Mv.alloc {w : World} {B g : Nat} {S : Nat → Prop} {L : List En} {v : Value} (h : Mv w B g S L v) (x : Obj) : Mv (w.alloc x) B g S L v := h.below (below_new19 w x)
/-- A cell of an entry set. -/
theorem Mv.set {w : World} {B g b : Nat} {S : Nat → Prop} {L : List En} {v : Value} (h : Mv w B g S L v) {i : Nat} {e e1 : En} (he : L[i]? = some e) (hb : v.ownBlock = some b) (j : Nat) (u : Value) (hj : j < 6) (hs : (ecl e).set j u = ecl e1) :
    Mv (w.setCell ⟨b, i * 6 + j, none⟩ u) B g S (L.set i e1) v ∧ Kept S w (w.setCell ⟨b, i * 6 + j, none⟩ u) := by
  obtain ⟨b', hb', _, _, hset⟩ := et_of h.row he
  obtain rfl : b' = b := Option.some.inj (hb'.symm.trans hb)
  have hne : b' ≠ g := fun e => h.ne (by rw [hb', e])
  have hr := hset (i * 6 + j) u
  rw [row_set ecl_len he j hj u hs] at hr
  refine ⟨⟨h.blk.other hne u, by rw [List.length_set]; exact hr, h.ne, h.sg, h.sv, fun k hk => ⟨(h.sb k hk).1, by have := (h.sb k hk).2; simp [World.setCell]; omega⟩⟩, (Kept.refl S w).setCell (.inl (h.sv b' hb')) u⟩
theorem Mv.et {w : World} {B g b : Nat} {S : Nat → Prop} {L : List En} {v : Value} (h : Mv w B g S L v) {i : Nat} {e : En} (he : L[i]? = some e) (hb : v.ownBlock = some b) : Et w b (i * 6) e := by
  obtain ⟨b', hb', h1, _⟩ := et_of h.row he
  obtain rfl : b' = b := Option.some.inj (hb'.symm.trans hb)
  exact h1
theorem Mv.own {w : World} {B g : Nat} {S : Nat → Prop} {L : List En} {v : Value} (h : Mv w B g S L v) {i : Nat} {e : En} (he : L[i]? = some e) : ∃ b, v.ownBlock = some b := by
  obtain ⟨b', hb', _⟩ := et_of h.row he
  exact ⟨b', hb'⟩
theorem MpT.of {w w' : World} {B g : Nat} {S : Nat → Prop} {L : List En} {v : Value} (h : Mv w' B g S L v) (hk : Kept S w w') : MpT w B g S L w' := ⟨S, h.mp, fun k h => .inl h, hk⟩
theorem set_set {α : Type} (l : List α) (i : Nat) (x y : α) : (l.set i x).set i y = l.set i y := by simp
/-- What a change leaves of an entry, ahead of its epoch. -/
def midE (e : En) (c : Cm) : En := { turnE e c with ep := e.ep }
theorem midE_ep (e : En) (c : Cm) : (midE e c).ep = e.ep := rfl
theorem mid_set (e : En) (c : Cm) : (ecl (midE e c)).set 1 (.int .i64 ((e.ep : Int) + 1)) = ecl (turnE e c) := by
  have h := turnE_ep e c
  unfold midE
  generalize turnE e c = t at h
  obtain ⟨tv, te, ta, tb, tc, tl⟩ := t
  simp only at h
  subst h
  rfl
theorem turn_set (e : En) (c : Cm) (hk : c.kind = 2 ∨ c.kind = 3) : (ecl e).set 5 (.bool (decide (c.kind = 2))) = ecl (midE e c) := by
  obtain ⟨ev, ep, ea, eb, ec, es⟩ := e
  rcases hk with h | h
  · simp [midE, turnE, h, ecl]
  · simp [midE, turnE, h, ecl]
theorem rep_set (e : En) (c : Cm) (hk : c.kind = 4) (h0 : 0 ≤ c.at_) (h2 : c.at_ ≤ 2) (hn : near c.node) : (ecl e).set (2 + c.at_.toNat) (.int .i64 c.node) = ecl (midE e c) := by
  obtain ⟨ev, ep, ea, eb, ec, es⟩ := e
  obtain ⟨ck, cv, ce, ca, cn, a, b, d⟩ := c
  simp only at hk h0 h2 hn
  have hcn : ((cn.toNat : Nat) : Int) = cn := Int.toNat_of_nonneg hn.1
  subst hk
  obtain rfl | rfl | rfl : ca = 0 ∨ ca = 1 ∨ ca = 2 := by omega
  all_goals simp [midE, turnE, ecl, hcn]
theorem drew_K {S : Nat → Prop} {w : World} (n : Nat) : Kept S w (w.drewN n) := ⟨rfl, rfl, rfl, Nat.le_refl _, fun _ _ _ => rfl⟩

theorem ddo_nil (w : World) (c : Cm) : Calls Try.prog 34 #[.pointer none, cval c] w fun e w' => e = .returned (.tuple #[.int .i64 0, erc 15]) ∧ Below w.heap.size w w' := by
  have HA := Lib.hid (fun cs => below_new19 w (.cells cs 56))
  obtain ⟨ck, cv, ce, ca, cn, a, b, d⟩ := c
  dsimp only [cval]
  go_enter Try.func34, Try.ntmps34
  go_wp2
  go_ret2
  exact ⟨rfl, HA.out _⟩
set_option maxRecDepth 100000 in
set_option maxHeartbeats 1000000 in
theorem ddo_kind (w : World) (g : Nat) (c : Cm) (hk : ¬ (c.kind = 1 ∨ c.kind = 2 ∨ c.kind = 3 ∨ c.kind = 4)) : Calls Try.prog 34 #[.pointer (some ⟨g, 0, none⟩), cval c] w fun e w' => e = .returned (.tuple #[.int .i64 0, erc 1]) ∧ Below w.heap.size w w' := by
  have HA := Lib.hid (fun cs => below_new19 w (.cells cs 56))
  obtain ⟨ck, cv, ce, ca, cn, a, b, d⟩ := c
  simp only at hk
  have h1 : ¬ ck = 1 := fun h => hk (.inl h)
  have h2 : ¬ ck = 2 := fun h => hk (.inr (.inl h))
  have h3 : ¬ ck = 3 := fun h => hk (.inr (.inr (.inl h)))
  have h4 : ¬ ck = 4 := fun h => hk (.inr (.inr (.inr h)))
  clear hk
  dsimp only [cval]
  go_enter Try.func34, Try.ntmps34
  go_wp2
  go_ret2
  exact ⟨rfl, HA.out _⟩
set_option maxRecDepth 100000 in
set_option maxHeartbeats 1000000 in
theorem ddo_make_bad (w : World) (B g : Nat) (S : Nat → Prop) (L : List En) (c : Cm) (h : Mp w B g S L) (hk : c.kind = 1) (hn : ¬ makeOk c) :
    Calls Try.prog 34 #[.pointer (some ⟨g, 0, none⟩), cval c] w fun e w' => e = .returned (.tuple #[.int .i64 0, erc 1]) ∧ Below w.heap.size w w' := by
  have HA := Lib.hid (fun cs => below_new19 w (.cells cs 56))
  have HC := Lib.hid (fun cs => dadd_bad (.pointer (some ⟨g, 0, none⟩)) c.a c.b c.c (w.alloc (.cells cs 56)) hn)
  obtain ⟨ck, cv, ce, ca, cn, a, b, d⟩ := c
  simp only at hk
  subst hk
  simp only at HC
  clear h
  dsimp only [cval]
  go_enter Try.func34, Try.ntmps34
  go_wp2_with fail
  refine (HC.out _).mono ?_
  rintro e w2 ⟨rfl, h2⟩
  have H2 := Lib.hid h2
  clear h2
  go_wp2
  go_ret2
  exact ⟨rfl, (HA.out _).trans (H2.out.mono (HA.out _).size)⟩
theorem Mp.alloc {w : World} {B g : Nat} {S : Nat → Prop} {L : List En} (h : Mp w B g S L) (x : Obj) : Mp (w.alloc x) B g S L := h.below (below_new19 w x)
theorem MpT.alloc {w w' : World} {B g : Nat} {S : Nat → Prop} {L : List En} (x : Obj) (h : MpT (w.alloc x) B g S L w') : MpT w B g S L w' := by
  obtain ⟨S', h1, h2, h3⟩ := h.out
  have hs : w.heap.size ≤ (w.alloc x).heap.size := (below_new19 w x).size
  exact ⟨S', h1, fun k hk => (h2 k hk).imp id (fun h => Nat.le_trans hs h), ((Kept.refl S w).alloc x).trans h3 (fun _ h _ => h)⟩
theorem makeOk_nat {c : Cm} (h : makeOk c) : all3 ((c.a.toNat : Nat) : Int) ((c.b.toNat : Nat) : Int) ((c.c.toNat : Nat) : Int) := by
  rw [Int.toNat_of_nonneg h.1.1, Int.toNat_of_nonneg h.2.1.1, Int.toNat_of_nonneg h.2.2.1.1]
  exact h
set_option maxRecDepth 100000 in
set_option maxHeartbeats 1000000 in
theorem ddo_make_full (w : World) (B g : Nat) (S : Nat → Prop) (L : List En) (c : Cm) (h : Mp w B g S L) (hk : c.kind = 1) (hn : makeOk c) (hl : 4096 ≤ L.length) (hl2 : L.length ≤ 4096) :
    Calls Try.prog 34 #[.pointer (some ⟨g, 0, none⟩), cval c] w fun e w' => e = .returned (.tuple #[.int .i64 0, erc 11]) ∧ Below w.heap.size w w' := by
  have HA := Lib.hid (fun cs => below_new19 w (.cells cs 56))
  have HC := Lib.hid (fun cs => dadd_full (w.alloc (.cells cs 56)) B g S L c.a.toNat c.b.toNat c.c.toNat (h.alloc _) (makeOk_nat hn) hl hl2)
  obtain ⟨ck, cv, ce, ca, cn, a, b, d⟩ := c
  simp only at hk
  subst hk
  simp only [Int.toNat_of_nonneg hn.1.1, Int.toNat_of_nonneg hn.2.1.1, Int.toNat_of_nonneg hn.2.2.1.1] at HC
  clear hn hl hl2
  clear h
  dsimp only [cval]
  go_enter Try.func34, Try.ntmps34
  go_wp2_with fail
  refine (HC.out _).mono ?_
  rintro e w2 ⟨rfl, h2⟩
  have H2 := Lib.hid h2
  clear h2
  go_wp2
  go_ret2
  exact ⟨rfl, (HA.out _).trans (H2.out.mono (HA.out _).size)⟩
set_option maxRecDepth 100000 in
set_option maxHeartbeats 1000000 in
theorem ddo_make_ok (w : World) (B g : Nat) (S : Nat → Prop) (L : List En) (c : Cm) (h : Mp w B g S L) (hk : c.kind = 1) (hn : makeOk c) (hl : L.length < 4096) :
    Calls Try.prog 34 #[.pointer (some ⟨g, 0, none⟩), cval c] w fun e w' => e = .returned (.tuple #[.int .i64 ((L.length : Int) + 1), .nilIface]) ∧ MpT w B g S (L ++ [⟨L.length + 1, 1, c.a.toNat, c.b.toNat, c.c.toNat, false⟩]) w' := by
  have HA := Lib.hid (fun cs => below_new19 w (.cells cs 56))
  have HC := Lib.hid (fun cs => dadd_ok (w.alloc (.cells cs 56)) B g S L c.a.toNat c.b.toNat c.c.toNat (h.alloc _) (makeOk_nat hn) hl)
  obtain ⟨ck, cv, ce, ca, cn, a, b, d⟩ := c
  simp only at hk
  subst hk
  simp only [Int.toNat_of_nonneg hn.1.1, Int.toNat_of_nonneg hn.2.1.1, Int.toNat_of_nonneg hn.2.2.1.1] at HC
  clear hn hl
  clear h
  dsimp only [cval]
  go_enter Try.func34, Try.ntmps34
  go_wp2_with fail
  refine (HC.out _).mono ?_
  rintro e w2 ⟨rfl, h2⟩
  have H2 := Lib.hid h2
  clear h2
  go_wp2
  go_ret2
  exact ⟨rfl, H2.out.alloc⟩
end Go.Proofs.Ytlaighghagcjjaa
