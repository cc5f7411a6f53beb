/- Package dirs: an entry of a map, found and turned: by contracts. -/
import Derived.Test.YtlaighghagcjjaaDg
namespace Go.Proofs.Ytlaighghagcjjaa
open Go.RowKit Go.Cor
set_option linter.unusedVariables false
set_option linter.unusedSimpArgs false

/-- An entry's cells, and that they may be written. -/
structure Et (w : World) (b o : Nat) (e : En) : Prop where
  c0 : w.cell? ⟨b, o, none⟩ = some (.int .i64 (e.vol : Int))
  c1 : w.cell? ⟨b, o + 1, none⟩ = some (.int .i64 (e.ep : Int))
  c2 : w.cell? ⟨b, o + 2, none⟩ = some (.int .i64 (e.a : Int))
  c3 : w.cell? ⟨b, o + 3, none⟩ = some (.int .i64 (e.b : Int))
  c4 : w.cell? ⟨b, o + 4, none⟩ = some (.int .i64 (e.c : Int))
  c5 : w.cell? ⟨b, o + 5, none⟩ = some (.bool e.sl)
  fr : ∀ j, w.frozen? ⟨b, j, none⟩ = false
  lt : b < w.heap.size
theorem Et.alloc {w : World} {b o : Nat} {e : En} (h : Et w b o e) (x : Obj) : Et (w.alloc x) b o e := by
  have hb : Below w.heap.size w (w.alloc x) := below_new19 w x
  have hc : ∀ {j v}, w.cell? ⟨b, j, none⟩ = some v → (w.alloc x).cell? ⟨b, j, none⟩ = some v := fun h1 => by
    rw [World.cell?_alloc_past _ _ _ h.lt]; exact h1
  exact ⟨hc h.c0, hc h.c1, hc h.c2, hc h.c3, hc h.c4, hc h.c5, fun j => (World.frozen?_of_block (w := w) (a := ⟨b, j, none⟩) (hb.block b h.lt)).trans (h.fr j), by have := h.lt; simp; omega⟩
theorem Et.drew {w : World} {b o : Nat} {e : En} (h : Et w b o e) (n : Nat) : Et (w.drewN n) b o e := ⟨h.c0, h.c1, h.c2, h.c3, h.c4, h.c5, h.fr, h.lt⟩
theorem Et.isX {w : World} {b o : Nat} {e : En} (h : Et w b o e) : IsX w 1 (.slice (some ⟨b, o + 2, none⟩) 3 3) 3 (ints [(e.a : Int), (e.b : Int), (e.c : Int)]) := by
  refine ⟨some ⟨b, o + 2, none⟩, 3, rfl, Nat.le_refl _, by decide, rfl, by simp, .inr ⟨b, o + 2, rfl, fun j hj => ?_⟩⟩
  obtain rfl | rfl | rfl : j = 0 ∨ j = 1 ∨ j = 2 := by omega
  · exact h.c2
  · exact h.c3
  · exact h.c4
theorem Try.sizeEntD : (Try.prog.info? 77).map (·.size) = some 6 := by kernel_rfl
/-- The entry of a volume, in the map's row. -/
theorem et_of {w : World} {B : Nat} {v : Value} {L : List En} {i : Nat} {e : En} (h : w.ownsRow B 77 6 v L.length (row ecl L)) (he : L[i]? = some e) :
    ∃ b, v.ownBlock = some b ∧ Et w b (i * 6) e ∧ (∀ W, (Instr.indexAt 74 v (.int .i64 (i : Int))).run Try.prog W = .ok (.pointer (some ⟨b, i * 6, none⟩)) W) ∧ ∀ j u, (w.setCell ⟨b, j, none⟩ u).ownsRow B 77 6 v L.length ((row ecl L).set j u) := by
  have hi : i < L.length := (List.getElem?_eq_some_iff.1 he).1
  obtain ⟨b, hb, hx, hc, hf, hs⟩ := indexAt_own h 74 77 Try.underlying74 Try.sizeEntD i hi
  have hg : ∀ j, j < 6 → w.cell? ⟨b, i * 6 + j, none⟩ = (ecl e)[j]? := fun j hj => by
    rw [hc j hj, row_get ecl_len he j hj]
  exact ⟨b, hb, ⟨hg 0 (by decide), hg 1 (by decide), hg 2 (by decide), hg 3 (by decide), hg 4 (by decide), hg 5 (by decide), hf, (h.lt b hb).2⟩, hx, hs⟩
theorem isX_own19 {w : World} {B : Nat} {v : Value} {L : List En} (h : w.ownsRow B 77 6 v L.length (row ecl L)) : IsX w 6 v L.length (row ecl L) := IsX.own h

theorem dentry_nil (w : World) (x : Int) : Calls Try.prog 53 #[.pointer none, .int .i64 x] w fun e w' => e = .returned (.tuple #[.pointer none, erc 6]) ∧ w = w' := by
  by_cases h : x < 1
  · go_enter Try.func53, Try.ntmps53
    go_wp2_with fail
    refine (dents_nil _).mono ?_
    rintro e w' ⟨rfl, rfl⟩
    go_wp2
    go_ret2
    exact ⟨rfl, rfl⟩
  · have h0 : x > 0 := by omega
    have hlen := fun W => len_X (P := Try.prog) (IsX.nil w 6) 74 3 77 Try.underlying74 W
    have h0' : x > ((0 : Nat) : Int) := by omega
    go_enter Try.func53, Try.ntmps53
    go_wp2_with fail
    refine (dents_nil _).mono ?_
    rintro e w' ⟨rfl, rfl⟩
    go_wp2
    go_ret2
    exact ⟨rfl, rfl⟩
set_option maxHeartbeats 1000000 in
theorem dentry_none (w : World) (g B : Nat) (v : Value) (L : List En) (x : Int) (h1 : w.cell? ⟨g, 0, none⟩ = some v) (h2 : w.ownsRow B 77 6 v L.length (row ecl L)) (hl : L.length ≤ 4096) (hx : lookE L x = none) :
    Calls Try.prog 53 #[.pointer (some ⟨g, 0, none⟩), .int .i64 x] w fun e w' => e = .returned (.tuple #[.pointer none, erc 6]) ∧ w = w' := by
  have hlen := fun W => len_X (P := Try.prog) (isX_own19 h2) 74 3 77 Try.underlying74 W
  obtain ⟨N, hN⟩ : ∃ N, L.length = N := ⟨_, rfl⟩
  have hx' := lookE_none hx
  rw [hN] at hlen hx'
  clear hx hl h2 hN
  by_cases h : x < 1
  · go_enter Try.func53, Try.ntmps53
    go_wp2_with fail
    refine (dents_any _ _ _ h1).mono ?_
    rintro e w' ⟨rfl, rfl⟩
    go_wp2
    go_ret2
    exact ⟨rfl, rfl⟩
  · have h0 : x > (N : Int) := by omega
    go_enter Try.func53, Try.ntmps53
    go_wp2_with fail
    refine (dents_any _ _ _ h1).mono ?_
    rintro e w' ⟨rfl, rfl⟩
    go_wp2
    go_ret2
    exact ⟨rfl, rfl⟩
set_option maxRecDepth 100000 in
set_option maxHeartbeats 1000000 in
theorem dentry_some (w : World) (g B : Nat) (v : Value) (L : List En) (x : Int) (e : En) (b : Nat) (h1 : w.cell? ⟨g, 0, none⟩ = some v) (h2 : w.ownsRow B 77 6 v L.length (row ecl L)) (hl : L.length ≤ 4096) (hx : lookE L x = some e) (hb : v.ownBlock = some b) :
    Calls Try.prog 53 #[.pointer (some ⟨g, 0, none⟩), .int .i64 x] w fun r w' => r = .returned (.tuple #[.pointer (some ⟨b, (x - 1).toNat * 6, none⟩), .nilIface]) ∧ w = w' := by
  have hlen := fun W => len_X (P := Try.prog) (isX_own19 h2) 74 3 77 Try.underlying74 W
  obtain ⟨x1, x2⟩ := lookE_some hx
  have x3 := lookE_lt hx
  obtain ⟨b', hb', _, hidx, _⟩ := et_of h2 x2
  obtain rfl : b' = b := Option.some.inj (hb'.symm.trans hb)
  obtain ⟨N, hN⟩ : ∃ N, L.length = N := ⟨_, rfl⟩
  rw [hN] at hlen x3 hl
  obtain ⟨i, hi⟩ : ∃ i, (x - 1).toNat = i := ⟨_, rfl⟩
  obtain rfl : x = (i : Int) + 1 := by omega
  rw [hi] at hidx x3 ⊢
  have ha : ¬ (i : Int) + 1 < 1 := by omega
  have hc : ¬ (i : Int) + 1 > (N : Int) := by omega
  have hd : IntKind.i64.wrap ((i : Int) + 1 - 1) = (i : Int) := by
    rw [show (i : Int) + 1 - 1 = i by omega]
    exact IntWalk.i64_in _ (by omega)
  have he : wrap64 (i : Int) = (i : Int) := by
    exact IntWalk.wrap64_in _ (by omega)
  clear hx hl h2 hN x1 x2 hi hb hb'
  go_enter Try.func53, Try.ntmps53
  go_wp2_with fail
  refine (dents_any _ _ _ h1).mono ?_
  rintro e w' ⟨rfl, rfl⟩
  go_wp2
  go_ret2
  exact ⟨rfl, rfl⟩

theorem dcur_none (w : World) (g B : Nat) (v : Value) (L : List En) (x p : Int) (h1 : w.cell? ⟨g, 0, none⟩ = some v) (h2 : w.ownsRow B 77 6 v L.length (row ecl L)) (hl : L.length ≤ 4096) (hx : lookE L x = none) :
    Calls Try.prog 46 #[.pointer (some ⟨g, 0, none⟩), .int .i64 x, .int .i64 p] w fun e w' => e = .returned (.tuple #[.pointer none, erc 6]) ∧ w = w' := by
  have HE := Lib.hid (dentry_none w g B v L x h1 h2 hl hx)
  clear hx hl h2 h1
  go_enter Try.func46, Try.ntmps46
  go_wp2_with fail
  refine HE.out.mono ?_
  rintro e w' ⟨rfl, rfl⟩
  go_wp2
  go_ret2
  exact ⟨rfl, rfl⟩
set_option maxRecDepth 100000 in
theorem dcur_some (w : World) (g B : Nat) (v : Value) (L : List En) (x p : Int) (e : En) (b : Nat) (h1 : w.cell? ⟨g, 0, none⟩ = some v) (h2 : w.ownsRow B 77 6 v L.length (row ecl L)) (hl : L.length ≤ 4096) (hx : lookE L x = some e) (hb : v.ownBlock = some b) :
    Calls Try.prog 46 #[.pointer (some ⟨g, 0, none⟩), .int .i64 x, .int .i64 p] w fun r w' => r = .returned (.tuple (if p = (e.ep : Int) then #[.pointer (some ⟨b, (x - 1).toNat * 6, none⟩), .nilIface] else #[.pointer none, erc 13])) ∧ w = w' := by
  have HE := Lib.hid (dentry_some w g B v L x e b h1 h2 hl hx hb)
  obtain ⟨b', hb', he, _⟩ := et_of h2 (lookE_some hx).2
  obtain rfl : b' = b := Option.some.inj (hb'.symm.trans hb)
  obtain ⟨O, hO⟩ : ∃ O, (x - 1).toNat * 6 = O := ⟨_, rfl⟩
  rw [hO] at HE he ⊢
  have k1 := he.c1
  clear hx hl h2 h1 hb hb' he hO
  by_cases hp : p = (e.ep : Int)
  · rw [if_pos hp]
    subst hp
    go_enter Try.func46, Try.ntmps46
    go_wp2_with fail
    refine HE.out.mono ?_
    rintro e w' ⟨rfl, rfl⟩
    go_wp2
    go_ret2
    exact ⟨rfl, rfl⟩
  · rw [if_neg hp]
    have hp' : ¬ (e.ep : Int) = p := fun h => hp h.symm
    clear hp
    go_enter Try.func46, Try.ntmps46
    go_wp2_with fail
    refine HE.out.mono ?_
    rintro e w' ⟨rfl, rfl⟩
    go_wp2
    go_ret2
    exact ⟨rfl, rfl⟩
/-- What turn answers. -/
def trK (e : En) (c : Cm) : Nat := if c.kind = 2 then (if e.sl = true then 10 else 0) else (if e.sl = true then 0 else 8)
set_option maxRecDepth 100000 in
set_option maxHeartbeats 1000000 in
theorem dturn_s0 (w : World) (b o : Nat) (e : En) (c : Cm) (h : Et w b o e) (h2 : c.kind = 2) (h3 : e.sl = false) :
    Calls Try.prog 45 #[.pointer (some ⟨b, o, none⟩), cval c] w fun r w' => r = .returned .nilIface ∧ ∃ x, w' = (w.alloc x).setCell ⟨b, o + 5, none⟩ (.bool true) := by
  obtain ⟨ck, cv, ce, ca, cn, a, b1, c1⟩ := c
  have k5 : ∀ cs, (w.alloc (.cells cs 56)).cell? ⟨b, o + 5, none⟩ = some (.bool false) := fun cs => h3 ▸ (h.alloc (.cells cs 56)).c5
  have f5 : ∀ cs, (w.alloc (.cells cs 56)).frozen? ⟨b, o + 5, none⟩ = false := fun cs => (h.alloc (.cells cs 56)).fr (o + 5)
  have h2' : ck = 2 := h2
  clear h h2 h3
  dsimp only [cval]
  go_enter Try.func45, Try.ntmps45
  go_wp2
  go_ret
  exact ⟨rfl, _, rfl⟩
set_option maxRecDepth 100000 in
set_option maxHeartbeats 1000000 in
theorem dturn_s1 (w : World) (b o : Nat) (e : En) (c : Cm) (h : Et w b o e) (h2 : c.kind = 2) (h3 : e.sl = true) :
    Calls Try.prog 45 #[.pointer (some ⟨b, o, none⟩), cval c] w fun r w' => r = .returned (erc 10) ∧ ∃ x, w' = w.alloc x := by
  obtain ⟨ck, cv, ce, ca, cn, a, b1, c1⟩ := c
  have k5 : ∀ cs, (w.alloc (.cells cs 56)).cell? ⟨b, o + 5, none⟩ = some (.bool true) := fun cs => h3 ▸ (h.alloc (.cells cs 56)).c5
  have f5 : ∀ cs, (w.alloc (.cells cs 56)).frozen? ⟨b, o + 5, none⟩ = false := fun cs => (h.alloc (.cells cs 56)).fr (o + 5)
  have h2' : ck = 2 := h2
  clear h h2 h3
  dsimp only [cval]
  go_enter Try.func45, Try.ntmps45
  go_wp2
  go_ret
  exact ⟨rfl, _, rfl⟩
set_option maxRecDepth 100000 in
set_option maxHeartbeats 1000000 in
theorem dturn_o1 (w : World) (b o : Nat) (e : En) (c : Cm) (h : Et w b o e) (h2 : ¬ c.kind = 2) (h3 : e.sl = true) :
    Calls Try.prog 45 #[.pointer (some ⟨b, o, none⟩), cval c] w fun r w' => r = .returned .nilIface ∧ ∃ x, w' = (w.alloc x).setCell ⟨b, o + 5, none⟩ (.bool false) := by
  obtain ⟨ck, cv, ce, ca, cn, a, b1, c1⟩ := c
  have k5 : ∀ cs, (w.alloc (.cells cs 56)).cell? ⟨b, o + 5, none⟩ = some (.bool true) := fun cs => h3 ▸ (h.alloc (.cells cs 56)).c5
  have f5 : ∀ cs, (w.alloc (.cells cs 56)).frozen? ⟨b, o + 5, none⟩ = false := fun cs => (h.alloc (.cells cs 56)).fr (o + 5)
  have h2' : ¬ ck = 2 := h2
  clear h h2 h3
  dsimp only [cval]
  have h2b : (ck == 2) = false := by simp [h2']
  go_enter Try.func45, Try.ntmps45
  go_wp2
  go_ret
  exact ⟨rfl, _, rfl⟩
set_option maxRecDepth 100000 in
set_option maxHeartbeats 1000000 in
theorem dturn_o0 (w : World) (b o : Nat) (e : En) (c : Cm) (h : Et w b o e) (h2 : ¬ c.kind = 2) (h3 : e.sl = false) :
    Calls Try.prog 45 #[.pointer (some ⟨b, o, none⟩), cval c] w fun r w' => r = .returned (erc 8) ∧ ∃ x, w' = w.alloc x := by
  obtain ⟨ck, cv, ce, ca, cn, a, b1, c1⟩ := c
  have k5 : ∀ cs, (w.alloc (.cells cs 56)).cell? ⟨b, o + 5, none⟩ = some (.bool false) := fun cs => h3 ▸ (h.alloc (.cells cs 56)).c5
  have f5 : ∀ cs, (w.alloc (.cells cs 56)).frozen? ⟨b, o + 5, none⟩ = false := fun cs => (h.alloc (.cells cs 56)).fr (o + 5)
  have h2' : ¬ ck = 2 := h2
  clear h h2 h3
  dsimp only [cval]
  go_enter Try.func45, Try.ntmps45
  go_wp2
  go_ret
  exact ⟨rfl, _, rfl⟩
theorem dturn (w : World) (b o : Nat) (e : En) (c : Cm) (h : Et w b o e) :
    Calls Try.prog 45 #[.pointer (some ⟨b, o, none⟩), cval c] w fun r w' => r = .returned (derr (trK e c)) ∧ ∃ x, w' = (if trK e c = 0 then (w.alloc x).setCell ⟨b, o + 5, none⟩ (.bool (decide (c.kind = 2))) else w.alloc x) := by
  by_cases h2 : c.kind = 2 <;> cases h3 : e.sl
  · refine (dturn_s0 w b o e c h h2 h3).mono ?_
    rintro r w' ⟨h4, x, h5⟩
    have e1 : trK e c = 0 := by simp [trK, h2, h3]
    exact ⟨by rw [e1]; exact h4, x, by rw [e1, if_pos rfl, decide_eq_true h2]; exact h5⟩
  · refine (dturn_s1 w b o e c h h2 h3).mono ?_
    rintro r w' ⟨h4, x, h5⟩
    have e1 : trK e c = 10 := by simp [trK, h2, h3]
    exact ⟨by rw [e1]; exact h4, x, by rw [e1, if_neg (by decide)]; exact h5⟩
  · refine (dturn_o0 w b o e c h h2 h3).mono ?_
    rintro r w' ⟨h4, x, h5⟩
    have e1 : trK e c = 8 := by simp [trK, h2, h3]
    exact ⟨by rw [e1]; exact h4, x, by rw [e1, if_neg (by decide)]; exact h5⟩
  · refine (dturn_o1 w b o e c h h2 h3).mono ?_
    rintro r w' ⟨h4, x, h5⟩
    have e1 : trK e c = 0 := by simp [trK, h2, h3]
    exact ⟨by rw [e1]; exact h4, x, by rw [e1, if_pos rfl, decide_eq_false h2]; exact h5⟩
/-- What replace answers. -/
def rpK (e : En) (c : Cm) : Nat := if 0 ≤ c.at_ ∧ c.at_ ≤ 2 ∧ near c.node then (if hasE e c.node then 8 else 0) else 1
set_option maxRecDepth 100000 in
set_option maxHeartbeats 1000000 in
theorem dreplace_arg (w : World) (b o : Nat) (c : Cm) (h : ¬ (0 ≤ c.at_ ∧ c.at_ ≤ 2 ∧ near c.node)) :
    Calls Try.prog 43 #[.pointer (some ⟨b, o, none⟩), cval c] w fun r w' => r = .returned (erc 1) ∧ ∃ x, w' = w.alloc x := by
  obtain ⟨ck, cv, ce, ca, cn, a, b1, c1⟩ := c
  dsimp only [cval] at h ⊢
  by_cases h1 : ca < 0
  · clear h
    go_enter Try.func43, Try.ntmps43
    go_wp2
    go_ret
    exact ⟨rfl, _, rfl⟩
  by_cases h2 : ca ≥ 3
  · clear h
    go_enter Try.func43, Try.ntmps43
    go_wp2
    go_ret
    exact ⟨rfl, _, rfl⟩
  have h3 : decide (near cn) = false := decide_eq_false fun hn => h ⟨by omega, by omega, hn⟩
  clear h
  go_enter Try.func43, Try.ntmps43
  go_wp2_with fail
  refine (dnode _ _).mono ?_
  rintro e w2 ⟨rfl, rfl⟩
  rw [h3]
  go_wp2
  go_ret
  exact ⟨rfl, _, rfl⟩
theorem hasE_mem (e : En) (n : Int) : n ∈ [(e.a : Int), (e.b : Int), (e.c : Int)] ↔ hasE e n := by
  simp only [List.mem_cons, List.not_mem_nil, or_false]
  unfold hasE
  constructor
  · rintro (h | h | h)
    · exact .inl h.symm
    · exact .inr (.inl h.symm)
    · exact .inr (.inr h.symm)
  · rintro (h | h | h)
    · exact .inl h.symm
    · exact .inr (.inl h.symm)
    · exact .inr (.inr h.symm)
set_option maxRecDepth 100000 in
set_option maxHeartbeats 2000000 in
theorem dreplace_there (w : World) (b o : Nat) (e : En) (c : Cm) (he : Et w b o e) (h : 0 ≤ c.at_ ∧ c.at_ ≤ 2 ∧ near c.node) (hh : hasE e c.node) :
    Calls Try.prog 43 #[.pointer (some ⟨b, o, none⟩), cval c] w fun r w' => r = .returned (erc 8) ∧ Below w.heap.size w w' := by
  obtain ⟨ck, cv, ce, ca, cn, a, b1, c1⟩ := c
  obtain ⟨h1, h2, h3⟩ := h
  have h1' : ¬ ca < 0 := by show ¬ ca < 0; exact Int.not_lt.2 h1
  have h2' : ¬ ca ≥ 3 := by have : ca ≤ 2 := h2; omega
  have h3' : decide (near cn) = true := decide_eq_true h3
  have h4' : decide (cn ∈ [(e.a : Int), (e.b : Int), (e.c : Int)]) = true := decide_eq_true ((hasE_mem e cn).2 hh)
  have HB := Lib.hid (fun cs => below_new19 w (.cells cs 56))
  have HE := Lib.hid (fun cs => he.alloc (.cells cs 56))
  have HC := Lib.hid (fun cs n => (dcontains (.slice (some ⟨b, o + 2, none⟩) 3 3) [(e.a : Int), (e.b : Int), (e.c : Int)] cn ((w.alloc (.cells cs 56)).drewN n) ((HE.out cs).drew n).isX (by simp)))
  rw [h4'] at HC
  clear h1 h2 h3 hh he
  dsimp only [cval]
  go_enter Try.func43, Try.ntmps43
  go_wp2_with fail
  refine (dnode _ _).mono ?_
  rintro r w2 ⟨rfl, rfl⟩
  rw [h3']
  go_wp2_with fail
  go_quiet (exact (HC.out _ _).mono fun _ _ ⟨he, hw⟩ => ⟨he, _, hw.symm⟩)
  go_wp2
  go_ret
  exact ⟨rfl, below_drewN19 (HB.out _) _⟩
set_option maxRecDepth 100000 in
set_option maxHeartbeats 4000000 in
theorem dreplace_ok (w : World) (b o : Nat) (e : En) (c : Cm) (he : Et w b o e) (h : 0 ≤ c.at_ ∧ c.at_ ≤ 2 ∧ near c.node) (hh : ¬ hasE e c.node) :
    Calls Try.prog 43 #[.pointer (some ⟨b, o, none⟩), cval c] w fun r w' => r = .returned .nilIface ∧ ∃ W, Below w.heap.size w W ∧ w' = W.setCell ⟨b, o + 2 + c.at_.toNat, none⟩ (.int .i64 c.node) := by
  obtain ⟨ck, cv, ce, ca, cn, a, b1, c1⟩ := c
  obtain ⟨h1, h2, h3⟩ := h
  simp only at h1 h2 h3 hh
  have h3' : decide (near cn) = true := decide_eq_true h3
  have h4' : decide (cn ∈ [(e.a : Int), (e.b : Int), (e.c : Int)]) = false := decide_eq_false fun hm => hh ((hasE_mem e cn).1 hm)
  have HB := Lib.hid (fun cs n => below_drewN19 (below_new19 w (.cells cs 56)) n)
  have HE := Lib.hid (fun cs => he.alloc (.cells cs 56))
  have HC := Lib.hid (fun cs n => (dcontains (.slice (some ⟨b, o + 2, none⟩) 3 3) [(e.a : Int), (e.b : Int), (e.c : Int)] cn ((w.alloc (.cells cs 56)).drewN n) ((HE.out cs).drew n).isX (by simp)))
  rw [h4'] at HC
  have ff : ∀ cs n j, ((w.alloc (.cells cs 56)).drewN n).frozen? ⟨b, j, none⟩ = false := fun cs n j => ((HE.out cs).drew n).fr j
  have c2 : ∀ cs n, ((w.alloc (.cells cs 56)).drewN n).cell? ⟨b, o + 2, none⟩ = some (.int .i64 (e.a : Int)) := fun cs n => ((HE.out cs).drew n).c2
  have c3 : ∀ cs n, ((w.alloc (.cells cs 56)).drewN n).cell? ⟨b, o + 3, none⟩ = some (.int .i64 (e.b : Int)) := fun cs n => ((HE.out cs).drew n).c3
  have c4 : ∀ cs n, ((w.alloc (.cells cs 56)).drewN n).cell? ⟨b, o + 4, none⟩ = some (.int .i64 (e.c : Int)) := fun cs n => ((HE.out cs).drew n).c4
  clear h3 hh he
  obtain rfl | rfl | rfl : ca = 0 ∨ ca = 1 ∨ ca = 2 := by omega
  · clear h1 h2
    dsimp only [cval]
    go_enter Try.func43, Try.ntmps43
    go_wp2_with fail
    refine (dnode _ _).mono ?_
    rintro r w2 ⟨rfl, rfl⟩
    rw [h3']
    go_wp2_with fail
    go_quiet (exact (HC.out _ _).mono fun _ _ ⟨he, hw⟩ => ⟨he, _, hw.symm⟩)
    go_wp2_with fail
    go_region
    go_wp2
    go_ret
    exact ⟨rfl, _, HB.out _ _, rfl⟩
  · clear h1 h2
    dsimp only [cval]
    go_enter Try.func43, Try.ntmps43
    go_wp2_with fail
    refine (dnode _ _).mono ?_
    rintro r w2 ⟨rfl, rfl⟩
    rw [h3']
    go_wp2_with fail
    go_quiet (exact (HC.out _ _).mono fun _ _ ⟨he, hw⟩ => ⟨he, _, hw.symm⟩)
    go_wp2_with fail
    go_region
    go_wp2
    go_ret
    exact ⟨rfl, _, HB.out _ _, rfl⟩
  · clear h1 h2
    dsimp only [cval]
    go_enter Try.func43, Try.ntmps43
    go_wp2_with fail
    refine (dnode _ _).mono ?_
    rintro r w2 ⟨rfl, rfl⟩
    rw [h3']
    go_wp2_with fail
    go_quiet (exact (HC.out _ _).mono fun _ _ ⟨he, hw⟩ => ⟨he, _, hw.symm⟩)
    go_wp2_with fail
    go_region
    go_wp2
    go_ret
    exact ⟨rfl, _, HB.out _ _, rfl⟩
end Go.Proofs.Ytlaighghagcjjaa
