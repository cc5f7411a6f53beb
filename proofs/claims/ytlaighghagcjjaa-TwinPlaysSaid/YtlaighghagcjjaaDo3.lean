/- Package dirs: Do of the kinds that ask for a volume. -/
import Derived.Test.YtlaighghagcjjaaDo2
namespace Go.Proofs.Ytlaighghagcjjaa
open Go.RowKit Go.Cor
set_option linter.unusedVariables false
set_option linter.unusedSimpArgs false

set_option maxRecDepth 100000 in
set_option maxHeartbeats 2000000 in
theorem ddo_none_k2 (w : World) (B g : Nat) (S : Nat → Prop) (L : List En) (c : Cm) (h : Mp w B g S L) (hl : L.length ≤ 4096) (hk : c.kind = 2) (he : lookE L c.vol = none) :
    Calls Try.prog 34 #[.pointer (some ⟨g, 0, none⟩), cval c] w fun e w' => e = .returned (.tuple #[.int .i64 0, erc 6]) ∧ Below w.heap.size w w' := by
  obtain ⟨v, hm⟩ := h.mv
  have HA := Lib.hid (fun cs => below_new19 w (.cells cs 56))
  have HC := Lib.hid (fun cs => dcur_none (w.alloc (.cells cs 56)) g B v L c.vol c.ep ((hm.alloc _).blk.cell 0 rfl) (hm.alloc _).row hl he)
  obtain ⟨ck, cv, ce, ca, cn, a, b, d⟩ := c
  simp only at hk
  subst hk
  simp only at HC
  clear h hm he hl
  dsimp only [cval]
  go_enter Try.func34, Try.ntmps34
  go_wp2_with fail
  refine (HC.out _).mono ?_
  rintro e w2 ⟨rfl, rfl⟩
  go_wp2
  go_ret2
  exact ⟨rfl, HA.out _⟩
set_option maxRecDepth 100000 in
set_option maxHeartbeats 2000000 in
theorem ddo_stale_k2 (w : World) (B g : Nat) (S : Nat → Prop) (L : List En) (c : Cm) (en : En) (h : Mp w B g S L) (hl : L.length ≤ 4096) (hk : c.kind = 2) (he : lookE L c.vol = some en) (hp : ¬ c.ep = (en.ep : Int)) :
    Calls Try.prog 34 #[.pointer (some ⟨g, 0, none⟩), cval c] w fun e w' => e = .returned (.tuple #[.int .i64 0, erc 13]) ∧ Below w.heap.size w w' := by
  obtain ⟨v, hm⟩ := h.mv
  obtain ⟨b0, hb0⟩ := hm.own (lookE_some he).2
  have HA := Lib.hid (fun cs => below_new19 w (.cells cs 56))
  have HC := Lib.hid (fun cs => dcur_some (w.alloc (.cells cs 56)) g B v L c.vol c.ep en b0 ((hm.alloc _).blk.cell 0 rfl) (hm.alloc _).row hl he hb0)
  rw [if_neg hp] at HC
  obtain ⟨ck, cv, ce, ca, cn, a, b, d⟩ := c
  simp only at hk
  subst hk
  simp only at HC
  clear h hm he hl hb0 hp
  dsimp only [cval]
  go_enter Try.func34, Try.ntmps34
  go_wp2_with fail
  refine (HC.out _).mono ?_
  rintro e w2 ⟨rfl, rfl⟩
  go_wp2
  go_ret2
  exact ⟨rfl, HA.out _⟩
set_option maxRecDepth 100000 in
set_option maxHeartbeats 2000000 in
theorem ddo_none_k3 (w : World) (B g : Nat) (S : Nat → Prop) (L : List En) (c : Cm) (h : Mp w B g S L) (hl : L.length ≤ 4096) (hk : c.kind = 3) (he : lookE L c.vol = none) :
    Calls Try.prog 34 #[.pointer (some ⟨g, 0, none⟩), cval c] w fun e w' => e = .returned (.tuple #[.int .i64 0, erc 6]) ∧ Below w.heap.size w w' := by
  obtain ⟨v, hm⟩ := h.mv
  have HA := Lib.hid (fun cs => below_new19 w (.cells cs 56))
  have HC := Lib.hid (fun cs => dcur_none (w.alloc (.cells cs 56)) g B v L c.vol c.ep ((hm.alloc _).blk.cell 0 rfl) (hm.alloc _).row hl he)
  obtain ⟨ck, cv, ce, ca, cn, a, b, d⟩ := c
  simp only at hk
  subst hk
  simp only at HC
  clear h hm he hl
  dsimp only [cval]
  go_enter Try.func34, Try.ntmps34
  go_wp2_with fail
  refine (HC.out _).mono ?_
  rintro e w2 ⟨rfl, rfl⟩
  go_wp2
  go_ret2
  exact ⟨rfl, HA.out _⟩
set_option maxRecDepth 100000 in
set_option maxHeartbeats 2000000 in
theorem ddo_stale_k3 (w : World) (B g : Nat) (S : Nat → Prop) (L : List En) (c : Cm) (en : En) (h : Mp w B g S L) (hl : L.length ≤ 4096) (hk : c.kind = 3) (he : lookE L c.vol = some en) (hp : ¬ c.ep = (en.ep : Int)) :
    Calls Try.prog 34 #[.pointer (some ⟨g, 0, none⟩), cval c] w fun e w' => e = .returned (.tuple #[.int .i64 0, erc 13]) ∧ Below w.heap.size w w' := by
  obtain ⟨v, hm⟩ := h.mv
  obtain ⟨b0, hb0⟩ := hm.own (lookE_some he).2
  have HA := Lib.hid (fun cs => below_new19 w (.cells cs 56))
  have HC := Lib.hid (fun cs => dcur_some (w.alloc (.cells cs 56)) g B v L c.vol c.ep en b0 ((hm.alloc _).blk.cell 0 rfl) (hm.alloc _).row hl he hb0)
  rw [if_neg hp] at HC
  obtain ⟨ck, cv, ce, ca, cn, a, b, d⟩ := c
  simp only at hk
  subst hk
  simp only at HC
  clear h hm he hl hb0 hp
  dsimp only [cval]
  go_enter Try.func34, Try.ntmps34
  go_wp2_with fail
  refine (HC.out _).mono ?_
  rintro e w2 ⟨rfl, rfl⟩
  go_wp2
  go_ret2
  exact ⟨rfl, HA.out _⟩
set_option maxRecDepth 100000 in
set_option maxHeartbeats 2000000 in
theorem ddo_none_k4 (w : World) (B g : Nat) (S : Nat → Prop) (L : List En) (c : Cm) (h : Mp w B g S L) (hl : L.length ≤ 4096) (hk : c.kind = 4) (he : lookE L c.vol = none) :
    Calls Try.prog 34 #[.pointer (some ⟨g, 0, none⟩), cval c] w fun e w' => e = .returned (.tuple #[.int .i64 0, erc 6]) ∧ Below w.heap.size w w' := by
  obtain ⟨v, hm⟩ := h.mv
  have HA := Lib.hid (fun cs => below_new19 w (.cells cs 56))
  have HC := Lib.hid (fun cs => dcur_none (w.alloc (.cells cs 56)) g B v L c.vol c.ep ((hm.alloc _).blk.cell 0 rfl) (hm.alloc _).row hl he)
  obtain ⟨ck, cv, ce, ca, cn, a, b, d⟩ := c
  simp only at hk
  subst hk
  simp only at HC
  clear h hm he hl
  dsimp only [cval]
  go_enter Try.func34, Try.ntmps34
  go_wp2_with fail
  refine (HC.out _).mono ?_
  rintro e w2 ⟨rfl, rfl⟩
  go_wp2
  go_ret2
  exact ⟨rfl, HA.out _⟩
set_option maxRecDepth 100000 in
set_option maxHeartbeats 2000000 in
theorem ddo_stale_k4 (w : World) (B g : Nat) (S : Nat → Prop) (L : List En) (c : Cm) (en : En) (h : Mp w B g S L) (hl : L.length ≤ 4096) (hk : c.kind = 4) (he : lookE L c.vol = some en) (hp : ¬ c.ep = (en.ep : Int)) :
    Calls Try.prog 34 #[.pointer (some ⟨g, 0, none⟩), cval c] w fun e w' => e = .returned (.tuple #[.int .i64 0, erc 13]) ∧ Below w.heap.size w w' := by
  obtain ⟨v, hm⟩ := h.mv
  obtain ⟨b0, hb0⟩ := hm.own (lookE_some he).2
  have HA := Lib.hid (fun cs => below_new19 w (.cells cs 56))
  have HC := Lib.hid (fun cs => dcur_some (w.alloc (.cells cs 56)) g B v L c.vol c.ep en b0 ((hm.alloc _).blk.cell 0 rfl) (hm.alloc _).row hl he hb0)
  rw [if_neg hp] at HC
  obtain ⟨ck, cv, ce, ca, cn, a, b, d⟩ := c
  simp only at hk
  subst hk
  simp only at HC
  clear h hm he hl hb0 hp
  dsimp only [cval]
  go_enter Try.func34, Try.ntmps34
  go_wp2_with fail
  refine (HC.out _).mono ?_
  rintro e w2 ⟨rfl, rfl⟩
  go_wp2
  go_ret2
  exact ⟨rfl, HA.out _⟩
set_option maxRecDepth 100000 in
set_option maxHeartbeats 2000000 in
theorem ddo_seal_bad (w : World) (B g : Nat) (S : Nat → Prop) (L : List En) (c : Cm) (en : En) (h : Mp w B g S L) (hl : L.length ≤ 4096) (hk : c.kind = 2) (he : lookE L c.vol = some en) (hp : c.ep = (en.ep : Int)) (hs : en.sl = true) :
    Calls Try.prog 34 #[.pointer (some ⟨g, 0, none⟩), cval c] w fun e w' => e = .returned (.tuple #[.int .i64 0, erc 10]) ∧ Below w.heap.size w w' := by
  obtain ⟨v, hm⟩ := h.mv
  obtain ⟨b0, hb0⟩ := hm.own (lookE_some he).2
  have HA := Lib.hid (fun cs => below_new19 w (.cells cs 56))
  have HC := Lib.hid (fun cs => dcur_some (w.alloc (.cells cs 56)) g B v L c.vol c.ep en b0 ((hm.alloc _).blk.cell 0 rfl) (hm.alloc _).row hl he hb0)
  have HT := Lib.hid (fun cs => (dturn_s1 (w.alloc (.cells cs 56)) b0 ((c.vol - 1).toNat * 6) en c ((hm.alloc _).et (lookE_some he).2 hb0) hk hs).mono fun r w' ⟨hr, x, hx⟩ => (⟨hr, hx ▸ below_new19 _ x⟩ : r = Ending.returned (erc 10) ∧ Below (w.alloc (.cells cs 56)).heap.size (w.alloc (.cells cs 56)) w'))
  rw [if_pos hp] at HC
  obtain ⟨O, hO⟩ : ∃ O, (c.vol - 1).toNat * 6 = O := ⟨_, rfl⟩
  rw [hO] at HC HT
  obtain ⟨ck, cv, ce, ca, cn, a, b, d⟩ := c
  simp only at hk
  subst hk
  simp only [cval] at HC HT
  clear h hm he hl hb0 hp hO
  dsimp only [cval]
  go_enter Try.func34, Try.ntmps34
  go_wp2_with fail
  refine (HC.out _).mono ?_
  rintro e w2 ⟨rfl, rfl⟩
  go_wp2_with fail
  refine (HT.out _).mono ?_
  rintro e w2 ⟨rfl, h2⟩
  have H2 := Lib.hid h2
  clear h2
  go_wp2
  go_ret2
  exact ⟨rfl, (HA.out _).trans (H2.out.mono (HA.out _).size)⟩
set_option maxRecDepth 100000 in
set_option maxHeartbeats 2000000 in
theorem ddo_open_bad (w : World) (B g : Nat) (S : Nat → Prop) (L : List En) (c : Cm) (en : En) (h : Mp w B g S L) (hl : L.length ≤ 4096) (hk : c.kind = 3) (he : lookE L c.vol = some en) (hp : c.ep = (en.ep : Int)) (hs : en.sl = false) :
    Calls Try.prog 34 #[.pointer (some ⟨g, 0, none⟩), cval c] w fun e w' => e = .returned (.tuple #[.int .i64 0, erc 8]) ∧ Below w.heap.size w w' := by
  obtain ⟨v, hm⟩ := h.mv
  obtain ⟨b0, hb0⟩ := hm.own (lookE_some he).2
  have HA := Lib.hid (fun cs => below_new19 w (.cells cs 56))
  have HC := Lib.hid (fun cs => dcur_some (w.alloc (.cells cs 56)) g B v L c.vol c.ep en b0 ((hm.alloc _).blk.cell 0 rfl) (hm.alloc _).row hl he hb0)
  have HT := Lib.hid (fun cs => (dturn_o0 (w.alloc (.cells cs 56)) b0 ((c.vol - 1).toNat * 6) en c ((hm.alloc _).et (lookE_some he).2 hb0) (by rw [hk]; decide) hs).mono fun r w' ⟨hr, x, hx⟩ => (⟨hr, hx ▸ below_new19 _ x⟩ : r = Ending.returned (erc 8) ∧ Below (w.alloc (.cells cs 56)).heap.size (w.alloc (.cells cs 56)) w'))
  rw [if_pos hp] at HC
  obtain ⟨O, hO⟩ : ∃ O, (c.vol - 1).toNat * 6 = O := ⟨_, rfl⟩
  rw [hO] at HC HT
  obtain ⟨ck, cv, ce, ca, cn, a, b, d⟩ := c
  simp only at hk
  subst hk
  simp only [cval] at HC HT
  clear h hm he hl hb0 hp hO
  dsimp only [cval]
  go_enter Try.func34, Try.ntmps34
  go_wp2_with fail
  refine (HC.out _).mono ?_
  rintro e w2 ⟨rfl, rfl⟩
  go_wp2_with fail
  refine (HT.out _).mono ?_
  rintro e w2 ⟨rfl, h2⟩
  have H2 := Lib.hid h2
  clear h2
  go_wp2
  go_ret2
  exact ⟨rfl, (HA.out _).trans (H2.out.mono (HA.out _).size)⟩
set_option maxRecDepth 100000 in
set_option maxHeartbeats 2000000 in
theorem ddo_rep_arg (w : World) (B g : Nat) (S : Nat → Prop) (L : List En) (c : Cm) (en : En) (h : Mp w B g S L) (hl : L.length ≤ 4096) (hk : c.kind = 4) (he : lookE L c.vol = some en) (hp : c.ep = (en.ep : Int)) (hr : ¬ (0 ≤ c.at_ ∧ c.at_ ≤ 2 ∧ near c.node)) :
    Calls Try.prog 34 #[.pointer (some ⟨g, 0, none⟩), cval c] w fun e w' => e = .returned (.tuple #[.int .i64 0, erc 1]) ∧ Below w.heap.size w w' := by
  obtain ⟨v, hm⟩ := h.mv
  obtain ⟨b0, hb0⟩ := hm.own (lookE_some he).2
  have HA := Lib.hid (fun cs => below_new19 w (.cells cs 56))
  have HC := Lib.hid (fun cs => dcur_some (w.alloc (.cells cs 56)) g B v L c.vol c.ep en b0 ((hm.alloc _).blk.cell 0 rfl) (hm.alloc _).row hl he hb0)
  have HT := Lib.hid (fun cs => (dreplace_arg (w.alloc (.cells cs 56)) b0 ((c.vol - 1).toNat * 6) c hr).mono fun r w' ⟨hr, x, hx⟩ => (⟨hr, hx ▸ below_new19 _ x⟩ : r = Ending.returned (erc 1) ∧ Below (w.alloc (.cells cs 56)).heap.size (w.alloc (.cells cs 56)) w'))
  rw [if_pos hp] at HC
  obtain ⟨O, hO⟩ : ∃ O, (c.vol - 1).toNat * 6 = O := ⟨_, rfl⟩
  rw [hO] at HC HT
  obtain ⟨ck, cv, ce, ca, cn, a, b, d⟩ := c
  simp only at hk
  subst hk
  simp only [cval] at HC HT
  clear h hm he hl hb0 hp hO
  dsimp only [cval]
  go_enter Try.func34, Try.ntmps34
  go_wp2_with fail
  refine (HC.out _).mono ?_
  rintro e w2 ⟨rfl, rfl⟩
  go_wp2_with fail
  refine (HT.out _).mono ?_
  rintro e w2 ⟨rfl, h2⟩
  have H2 := Lib.hid h2
  clear h2
  go_wp2
  go_ret2
  exact ⟨rfl, (HA.out _).trans (H2.out.mono (HA.out _).size)⟩
set_option maxRecDepth 100000 in
set_option maxHeartbeats 2000000 in
theorem ddo_rep_there (w : World) (B g : Nat) (S : Nat → Prop) (L : List En) (c : Cm) (en : En) (h : Mp w B g S L) (hl : L.length ≤ 4096) (hk : c.kind = 4) (he : lookE L c.vol = some en) (hp : c.ep = (en.ep : Int)) (hr : 0 ≤ c.at_ ∧ c.at_ ≤ 2 ∧ near c.node) (hh : hasE en c.node) :
    Calls Try.prog 34 #[.pointer (some ⟨g, 0, none⟩), cval c] w fun e w' => e = .returned (.tuple #[.int .i64 0, erc 8]) ∧ Below w.heap.size w w' := by
  obtain ⟨v, hm⟩ := h.mv
  obtain ⟨b0, hb0⟩ := hm.own (lookE_some he).2
  have HA := Lib.hid (fun cs => below_new19 w (.cells cs 56))
  have HC := Lib.hid (fun cs => dcur_some (w.alloc (.cells cs 56)) g B v L c.vol c.ep en b0 ((hm.alloc _).blk.cell 0 rfl) (hm.alloc _).row hl he hb0)
  have HT := Lib.hid (fun cs => dreplace_there (w.alloc (.cells cs 56)) b0 ((c.vol - 1).toNat * 6) en c ((hm.alloc _).et (lookE_some he).2 hb0) hr hh)
  rw [if_pos hp] at HC
  obtain ⟨O, hO⟩ : ∃ O, (c.vol - 1).toNat * 6 = O := ⟨_, rfl⟩
  rw [hO] at HC HT
  obtain ⟨ck, cv, ce, ca, cn, a, b, d⟩ := c
  simp only at hk
  subst hk
  simp only [cval] at HC HT
  clear h hm he hl hb0 hp hO
  dsimp only [cval]
  go_enter Try.func34, Try.ntmps34
  go_wp2_with fail
  refine (HC.out _).mono ?_
  rintro e w2 ⟨rfl, rfl⟩
  go_wp2_with fail
  refine (HT.out _).mono ?_
  rintro e w2 ⟨rfl, h2⟩
  have H2 := Lib.hid h2
  clear h2
  go_wp2
  go_ret2
  exact ⟨rfl, (HA.out _).trans (H2.out.mono (HA.out _).size)⟩
set_option maxRecDepth 100000 in
set_option maxHeartbeats 2000000 in
theorem ddo_seal_ok (w : World) (B g : Nat) (S : Nat → Prop) (L : List En) (c : Cm) (en : En) (h : Mp w B g S L) (hl : L.length ≤ 4096) (hE : en.ep ≤ 1000000) (hk : c.kind = 2) (he : lookE L c.vol = some en) (hp : c.ep = (en.ep : Int)) (hs : en.sl = false) :
    Calls Try.prog 34 #[.pointer (some ⟨g, 0, none⟩), cval c] w fun e w' => e = .returned (.tuple #[.int .i64 ((en.ep : Int) + 1), .nilIface]) ∧ MpT w B g S (L.set (c.vol - 1).toNat (turnE en c)) w' := by
  obtain ⟨v, hm⟩ := h.mv
  obtain ⟨b0, hb0⟩ := hm.own (lookE_some he).2
  have hi := (lookE_some he).2
  have hil := lookE_lt he
  have hms := show (ecl en).set 5 (.bool true) = ecl (midE en c) from by have h := turn_set en c (.inl hk); rw [decide_eq_true hk] at h; exact h
  have HA := Lib.hid (fun cs => below_new19 w (.cells cs 56))
  have HC := Lib.hid (fun cs => dcur_some (w.alloc (.cells cs 56)) g B v L c.vol c.ep en b0 ((hm.alloc _).blk.cell 0 rfl) (hm.alloc _).row hl he hb0)
  have HT := Lib.hid (fun cs => (dturn_s0 (w.alloc (.cells cs 56)) b0 ((c.vol - 1).toNat * 6) en c ((hm.alloc _).et (lookE_some he).2 hb0) hk hs).mono fun r w' ⟨hr, x, hx⟩ => (⟨hr, _, below_new19 _ x, hx⟩ : r = Ending.returned .nilIface ∧ ∃ W, Below (w.alloc (.cells cs 56)).heap.size (w.alloc (.cells cs 56)) W ∧ w' = W.setCell ⟨b0, (c.vol - 1).toNat * 6 + 5, none⟩ (.bool true)))
  have HF := Lib.hid (fun (W : World) (hW : Below w.heap.size w W) => let h1 := (hm.below hW).set hi hb0 (5) (.bool true) (by omega) hms
    (⟨h1.1, (Kept.of_below (S := S) hW (Nat.le_refl _)).trans h1.2 (fun _ h _ => h)⟩ : Mv (W.setCell ⟨b0, (c.vol - 1).toNat * 6 + (5), none⟩ (.bool true)) B g S (L.set (c.vol - 1).toNat (midE en c)) v ∧ Kept S w (W.setCell ⟨b0, (c.vol - 1).toNat * 6 + (5), none⟩ (.bool true))))
  have HG := Lib.hid (fun (W : World) (hW : Mv W B g S (L.set (c.vol - 1).toNat (midE en c)) v ∧ Kept S w W) => let hx : (L.set (c.vol - 1).toNat (midE en c))[(c.vol - 1).toNat]? = some (midE en c) := (by rw [List.getElem?_set, if_pos rfl, if_pos hil])
    let h1 := hW.1.set hx hb0 1 (.int .i64 ((en.ep : Int) + 1)) (by decide) (mid_set en c)
    (⟨hW.1.et hx hb0, MpT.of (by have := h1.1; rw [set_set] at this; exact this) (hW.2.trans h1.2 (fun _ h _ => h))⟩ : Et W b0 ((c.vol - 1).toNat * 6) (midE en c) ∧ MpT w B g S (L.set (c.vol - 1).toNat (turnE en c)) (W.setCell ⟨b0, (c.vol - 1).toNat * 6 + 1, none⟩ (.int .i64 ((en.ep : Int) + 1)))))
  rw [if_pos hp] at HC
  have hw1 : wrap64 ((en.ep : Int) + 1) = (en.ep : Int) + 1 := IntWalk.wrap64_in _ (by omega)
  obtain ⟨I, hI⟩ : ∃ I, (c.vol - 1).toNat = I := ⟨_, rfl⟩
  rw [hI] at HC HT HF HG ⊢
  obtain ⟨O, hO⟩ : ∃ O, I * 6 = O := ⟨_, rfl⟩
  rw [hO] at HC HT HF HG
  clear hms hi hil
  have HCE := Lib.hid (rfl : c = c)
  obtain ⟨E, hE2⟩ : ∃ E, turnE en c = E := ⟨_, rfl⟩
  obtain ⟨M, hM2⟩ : ∃ M, midE en c = M := ⟨_, rfl⟩
  have hMe : (M.ep : Int) = (en.ep : Int) := by rw [← hM2, midE_ep]
  rw [hE2, hM2] at HG
  rw [hM2] at HF
  rw [hE2]
  clear hE2 hM2 HCE hI hO
  obtain ⟨ck, cv, ce, ca, cn, a, b, d⟩ := c
  simp only at hk
  subst hk
  simp only [cval] at HC HT HF
  clear h hm he hl hb0 hp
  dsimp only [cval]
  go_enter Try.func34, Try.ntmps34
  go_wp2_with fail
  refine (HC.out _).mono ?_
  rintro e w2 ⟨rfl, rfl⟩
  go_wp2_with fail
  refine (HT.out _).mono ?_
  rintro e w3 ⟨rfl, W, hW, hw3⟩
  have h3 := HF.out W ((HA.out _).trans (hW.mono (HA.out _).size))
  try rw [Nat.add_assoc] at hw3
  rw [← hw3] at h3
  obtain ⟨he3, h4⟩ := HG.out w3 h3
  have H4 := Lib.hid h4
  have e1 : w3.cell? ⟨b0, O + 1, none⟩ = some (.int .i64 (en.ep : Int)) := by rw [← hMe]; exact he3.c1
  have ef := he3.fr (O + 1)
  clear hw3 h3 h4 he3 hW hMe
  go_wp2
  go_ret2
  exact ⟨rfl, H4.out⟩
set_option maxRecDepth 100000 in
set_option maxHeartbeats 2000000 in
theorem ddo_open_ok (w : World) (B g : Nat) (S : Nat → Prop) (L : List En) (c : Cm) (en : En) (h : Mp w B g S L) (hl : L.length ≤ 4096) (hE : en.ep ≤ 1000000) (hk : c.kind = 3) (he : lookE L c.vol = some en) (hp : c.ep = (en.ep : Int)) (hs : en.sl = true) :
    Calls Try.prog 34 #[.pointer (some ⟨g, 0, none⟩), cval c] w fun e w' => e = .returned (.tuple #[.int .i64 ((en.ep : Int) + 1), .nilIface]) ∧ MpT w B g S (L.set (c.vol - 1).toNat (turnE en c)) w' := by
  obtain ⟨v, hm⟩ := h.mv
  obtain ⟨b0, hb0⟩ := hm.own (lookE_some he).2
  have hi := (lookE_some he).2
  have hil := lookE_lt he
  have hms := show (ecl en).set 5 (.bool false) = ecl (midE en c) from by have h := turn_set en c (.inr hk); rw [decide_eq_false (by rw [hk]; decide)] at h; exact h
  have HA := Lib.hid (fun cs => below_new19 w (.cells cs 56))
  have HC := Lib.hid (fun cs => dcur_some (w.alloc (.cells cs 56)) g B v L c.vol c.ep en b0 ((hm.alloc _).blk.cell 0 rfl) (hm.alloc _).row hl he hb0)
  have HT := Lib.hid (fun cs => (dturn_o1 (w.alloc (.cells cs 56)) b0 ((c.vol - 1).toNat * 6) en c ((hm.alloc _).et (lookE_some he).2 hb0) (by rw [hk]; decide) hs).mono fun r w' ⟨hr, x, hx⟩ => (⟨hr, _, below_new19 _ x, hx⟩ : r = Ending.returned .nilIface ∧ ∃ W, Below (w.alloc (.cells cs 56)).heap.size (w.alloc (.cells cs 56)) W ∧ w' = W.setCell ⟨b0, (c.vol - 1).toNat * 6 + 5, none⟩ (.bool false)))
  have HF := Lib.hid (fun (W : World) (hW : Below w.heap.size w W) => let h1 := (hm.below hW).set hi hb0 (5) (.bool false) (by omega) hms
    (⟨h1.1, (Kept.of_below (S := S) hW (Nat.le_refl _)).trans h1.2 (fun _ h _ => h)⟩ : Mv (W.setCell ⟨b0, (c.vol - 1).toNat * 6 + (5), none⟩ (.bool false)) B g S (L.set (c.vol - 1).toNat (midE en c)) v ∧ Kept S w (W.setCell ⟨b0, (c.vol - 1).toNat * 6 + (5), none⟩ (.bool false))))
  have HG := Lib.hid (fun (W : World) (hW : Mv W B g S (L.set (c.vol - 1).toNat (midE en c)) v ∧ Kept S w W) => let hx : (L.set (c.vol - 1).toNat (midE en c))[(c.vol - 1).toNat]? = some (midE en c) := (by rw [List.getElem?_set, if_pos rfl, if_pos hil])
    let h1 := hW.1.set hx hb0 1 (.int .i64 ((en.ep : Int) + 1)) (by decide) (mid_set en c)
    (⟨hW.1.et hx hb0, MpT.of (by have := h1.1; rw [set_set] at this; exact this) (hW.2.trans h1.2 (fun _ h _ => h))⟩ : Et W b0 ((c.vol - 1).toNat * 6) (midE en c) ∧ MpT w B g S (L.set (c.vol - 1).toNat (turnE en c)) (W.setCell ⟨b0, (c.vol - 1).toNat * 6 + 1, none⟩ (.int .i64 ((en.ep : Int) + 1)))))
  rw [if_pos hp] at HC
  have hw1 : wrap64 ((en.ep : Int) + 1) = (en.ep : Int) + 1 := IntWalk.wrap64_in _ (by omega)
  obtain ⟨I, hI⟩ : ∃ I, (c.vol - 1).toNat = I := ⟨_, rfl⟩
  rw [hI] at HC HT HF HG ⊢
  obtain ⟨O, hO⟩ : ∃ O, I * 6 = O := ⟨_, rfl⟩
  rw [hO] at HC HT HF HG
  clear hms hi hil
  have HCE := Lib.hid (rfl : c = c)
  obtain ⟨E, hE2⟩ : ∃ E, turnE en c = E := ⟨_, rfl⟩
  obtain ⟨M, hM2⟩ : ∃ M, midE en c = M := ⟨_, rfl⟩
  have hMe : (M.ep : Int) = (en.ep : Int) := by rw [← hM2, midE_ep]
  rw [hE2, hM2] at HG
  rw [hM2] at HF
  rw [hE2]
  clear hE2 hM2 HCE hI hO
  obtain ⟨ck, cv, ce, ca, cn, a, b, d⟩ := c
  simp only at hk
  subst hk
  simp only [cval] at HC HT HF
  clear h hm he hl hb0 hp
  dsimp only [cval]
  go_enter Try.func34, Try.ntmps34
  go_wp2_with fail
  refine (HC.out _).mono ?_
  rintro e w2 ⟨rfl, rfl⟩
  go_wp2_with fail
  refine (HT.out _).mono ?_
  rintro e w3 ⟨rfl, W, hW, hw3⟩
  have h3 := HF.out W ((HA.out _).trans (hW.mono (HA.out _).size))
  try rw [Nat.add_assoc] at hw3
  rw [← hw3] at h3
  obtain ⟨he3, h4⟩ := HG.out w3 h3
  have H4 := Lib.hid h4
  have e1 : w3.cell? ⟨b0, O + 1, none⟩ = some (.int .i64 (en.ep : Int)) := by rw [← hMe]; exact he3.c1
  have ef := he3.fr (O + 1)
  clear hw3 h3 h4 he3 hW hMe
  go_wp2
  go_ret2
  exact ⟨rfl, H4.out⟩
set_option maxRecDepth 100000 in
set_option maxHeartbeats 2000000 in
theorem ddo_rep_ok (w : World) (B g : Nat) (S : Nat → Prop) (L : List En) (c : Cm) (en : En) (h : Mp w B g S L) (hl : L.length ≤ 4096) (hE : en.ep ≤ 1000000) (hk : c.kind = 4) (he : lookE L c.vol = some en) (hp : c.ep = (en.ep : Int)) (hr : 0 ≤ c.at_ ∧ c.at_ ≤ 2 ∧ near c.node) (hh : ¬ hasE en c.node) :
    Calls Try.prog 34 #[.pointer (some ⟨g, 0, none⟩), cval c] w fun e w' => e = .returned (.tuple #[.int .i64 ((en.ep : Int) + 1), .nilIface]) ∧ MpT w B g S (L.set (c.vol - 1).toNat (turnE en c)) w' := by
  obtain ⟨v, hm⟩ := h.mv
  obtain ⟨b0, hb0⟩ := hm.own (lookE_some he).2
  have hi := (lookE_some he).2
  have hil := lookE_lt he
  have hms := rep_set en c hk hr.1 hr.2.1 hr.2.2
  have HA := Lib.hid (fun cs => below_new19 w (.cells cs 56))
  have HC := Lib.hid (fun cs => dcur_some (w.alloc (.cells cs 56)) g B v L c.vol c.ep en b0 ((hm.alloc _).blk.cell 0 rfl) (hm.alloc _).row hl he hb0)
  have HT := Lib.hid (fun cs => dreplace_ok (w.alloc (.cells cs 56)) b0 ((c.vol - 1).toNat * 6) en c ((hm.alloc _).et (lookE_some he).2 hb0) hr hh)
  have HF := Lib.hid (fun (W : World) (hW : Below w.heap.size w W) => let h1 := (hm.below hW).set hi hb0 (2 + c.at_.toNat) (.int .i64 c.node) (by omega) hms
    (⟨h1.1, (Kept.of_below (S := S) hW (Nat.le_refl _)).trans h1.2 (fun _ h _ => h)⟩ : Mv (W.setCell ⟨b0, (c.vol - 1).toNat * 6 + (2 + c.at_.toNat), none⟩ (.int .i64 c.node)) B g S (L.set (c.vol - 1).toNat (midE en c)) v ∧ Kept S w (W.setCell ⟨b0, (c.vol - 1).toNat * 6 + (2 + c.at_.toNat), none⟩ (.int .i64 c.node))))
  have HG := Lib.hid (fun (W : World) (hW : Mv W B g S (L.set (c.vol - 1).toNat (midE en c)) v ∧ Kept S w W) => let hx : (L.set (c.vol - 1).toNat (midE en c))[(c.vol - 1).toNat]? = some (midE en c) := (by rw [List.getElem?_set, if_pos rfl, if_pos hil])
    let h1 := hW.1.set hx hb0 1 (.int .i64 ((en.ep : Int) + 1)) (by decide) (mid_set en c)
    (⟨hW.1.et hx hb0, MpT.of (by have := h1.1; rw [set_set] at this; exact this) (hW.2.trans h1.2 (fun _ h _ => h))⟩ : Et W b0 ((c.vol - 1).toNat * 6) (midE en c) ∧ MpT w B g S (L.set (c.vol - 1).toNat (turnE en c)) (W.setCell ⟨b0, (c.vol - 1).toNat * 6 + 1, none⟩ (.int .i64 ((en.ep : Int) + 1)))))
  rw [if_pos hp] at HC
  have hw1 : wrap64 ((en.ep : Int) + 1) = (en.ep : Int) + 1 := IntWalk.wrap64_in _ (by omega)
  obtain ⟨I, hI⟩ : ∃ I, (c.vol - 1).toNat = I := ⟨_, rfl⟩
  rw [hI] at HC HT HF HG ⊢
  obtain ⟨O, hO⟩ : ∃ O, I * 6 = O := ⟨_, rfl⟩
  rw [hO] at HC HT HF HG
  clear hms hi hil
  have HCE := Lib.hid (rfl : c = c)
  obtain ⟨E, hE2⟩ : ∃ E, turnE en c = E := ⟨_, rfl⟩
  obtain ⟨M, hM2⟩ : ∃ M, midE en c = M := ⟨_, rfl⟩
  have hMe : (M.ep : Int) = (en.ep : Int) := by rw [← hM2, midE_ep]
  rw [hE2, hM2] at HG
  rw [hM2] at HF
  rw [hE2]
  clear hE2 hM2 HCE hI hO
  obtain ⟨ck, cv, ce, ca, cn, a, b, d⟩ := c
  simp only at hk
  subst hk
  simp only [cval] at HC HT HF
  clear h hm he hl hb0 hp
  dsimp only [cval]
  go_enter Try.func34, Try.ntmps34
  go_wp2_with fail
  refine (HC.out _).mono ?_
  rintro e w2 ⟨rfl, rfl⟩
  go_wp2_with fail
  refine (HT.out _).mono ?_
  rintro e w3 ⟨rfl, W, hW, hw3⟩
  have h3 := HF.out W ((HA.out _).trans (hW.mono (HA.out _).size))
  try rw [Nat.add_assoc] at hw3
  rw [← hw3] at h3
  obtain ⟨he3, h4⟩ := HG.out w3 h3
  have H4 := Lib.hid h4
  have e1 : w3.cell? ⟨b0, O + 1, none⟩ = some (.int .i64 (en.ep : Int)) := by rw [← hMe]; exact he3.c1
  have ef := he3.fr (O + 1)
  clear hw3 h3 h4 he3 hW hMe
  go_wp2
  go_ret2
  exact ⟨rfl, H4.out⟩
end Go.Proofs.Ytlaighghagcjjaa
