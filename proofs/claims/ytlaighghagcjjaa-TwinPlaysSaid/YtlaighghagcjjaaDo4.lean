/- Package dirs: Do as a whole; Find. -/
import Derived.Test.YtlaighghagcjjaaDo3
namespace Go.Proofs.Ytlaighghagcjjaa
open Go.RowKit Go.Cor
set_option linter.unusedVariables false
set_option linter.unusedSimpArgs false

theorem MpT.below {w w' : World} {B g : Nat} {S : Nat → Prop} {L : List En} (h : Mp w B g S L) (hb : Below w.heap.size w w') : MpT w B g S L w' := ⟨S, h.below hb, fun k h => .inl h, Kept.of_below hb (Nat.le_refl _)⟩
theorem ddo_err {w : World} {B g : Nat} {S : Nat → Prop} {L : List En} {c : Cm} (k : Nat) (h : Mp w B g S L) (hk : doK L c = k) (h0 : k ≠ 0)
    (hc : Calls Try.prog 34 #[.pointer (some ⟨g, 0, none⟩), cval c] w fun e w' => e = .returned (.tuple #[.int .i64 0, erc (k : Int)]) ∧ Below w.heap.size w w') :
    Calls Try.prog 34 #[.pointer (some ⟨g, 0, none⟩), cval c] w fun e w' => e = .returned (.tuple #[.int .i64 (doN L c : Int), derr (doK L c)]) ∧ MpT w B g S (doL L c) w' := by
  obtain ⟨e1, e2⟩ := doL_bad (L := L) (c := c) (by rw [hk]; exact h0)
  refine hc.mono ?_
  rintro e w' ⟨he, hb⟩
  rw [e1, e2, hk, derr_pos h0]
  exact ⟨he, MpT.below h hb⟩
theorem ddo_done {w : World} {B g : Nat} {S : Nat → Prop} {L L' : List En} {c : Cm} {n : Nat} (h0 : doK L c = 0) (hn : doN L c = n) (hL : doL L c = L')
    (hc : Calls Try.prog 34 #[.pointer (some ⟨g, 0, none⟩), cval c] w fun e w' => e = .returned (.tuple #[.int .i64 (n : Int), .nilIface]) ∧ MpT w B g S L' w') :
    Calls Try.prog 34 #[.pointer (some ⟨g, 0, none⟩), cval c] w fun e w' => e = .returned (.tuple #[.int .i64 (doN L c : Int), derr (doK L c)]) ∧ MpT w B g S (doL L c) w' := by
  rw [h0, hn, hL, derr_zero]
  exact hc
theorem ddo (w : World) (B g : Nat) (S : Nat → Prop) (L : List En) (c : Cm) (h : Mp w B g S L) (hL : LOk L 1000000) :
    Calls Try.prog 34 #[.pointer (some ⟨g, 0, none⟩), cval c] w fun e w' => e = .returned (.tuple #[.int .i64 (doN L c : Int), derr (doK L c)]) ∧ MpT w B g S (doL L c) w' := by
  have hlen := hL.len
  by_cases h1 : c.kind = 1
  · by_cases hm : makeOk c
    · by_cases hf : 4096 ≤ L.length
      · exact ddo_err 11 h (by unfold doK; rw [if_pos h1, if_pos hm, if_pos hf]) (by decide) (ddo_make_full w B g S L c h h1 hm hf hlen)
      · have h0 : doK L c = 0 := by unfold doK; rw [if_pos h1, if_pos hm, if_neg hf]
        obtain ⟨_, _, e1, e2⟩ := doK_make h0 h1
        exact ddo_done h0 e2 e1 (ddo_make_ok w B g S L c h h1 hm (by omega))
    · exact ddo_err 1 h (by unfold doK; rw [if_pos h1, if_neg hm]) (by decide) (ddo_make_bad w B g S L c h h1 hm)
  by_cases hk : c.kind = 2 ∨ c.kind = 3 ∨ c.kind = 4
  · cases he : lookE L c.vol with
    | none =>
      have h0 : doK L c = 6 := by unfold doK; rw [if_neg h1, if_pos hk, he]
      refine ddo_err 6 h h0 (by decide) ?_
      rcases hk with hk | hk | hk
      · exact ddo_none_k2 w B g S L c h hlen hk he
      · exact ddo_none_k3 w B g S L c h hlen hk he
      · exact ddo_none_k4 w B g S L c h hlen hk he
    | some e =>
      have hE : e.ep ≤ 1000000 := (hL.ok e (List.mem_of_getElem? (lookE_some he).2)).2
      have hK : doK L c = turnK e c := by unfold doK; rw [if_neg h1, if_pos hk, he]
      by_cases hp : c.ep = (e.ep : Int)
      · rcases hk with hk | hk | hk
        · cases hs : e.sl with
          | true => exact ddo_err 10 h (by rw [hK]; unfold turnK; rw [if_pos hp, if_pos hk, if_pos hs]) (by decide) (ddo_seal_bad w B g S L c e h hlen hk he hp hs)
          | false =>
            have h0 : turnK e c = 0 := by unfold turnK; rw [if_pos hp, if_pos hk, if_neg (by rw [hs]; decide)]
            obtain ⟨e', x1, _, x3, x4⟩ := doK_zero (hK.trans h0) h1
            obtain rfl := Option.some.inj (he.symm.trans x1)
            exact ddo_done (hK.trans h0) x4 x3 (ddo_seal_ok w B g S L c e h hlen hE hk he hp hs)
        · have n2 : ¬ c.kind = 2 := by omega
          cases hs : e.sl with
          | false => exact ddo_err 8 h (by rw [hK]; unfold turnK; rw [if_pos hp, if_neg n2, if_pos hk, if_neg (by rw [hs]; decide)]) (by decide) (ddo_open_bad w B g S L c e h hlen hk he hp hs)
          | true =>
            have h0 : turnK e c = 0 := by unfold turnK; rw [if_pos hp, if_neg n2, if_pos hk, if_pos hs]
            obtain ⟨e', x1, _, x3, x4⟩ := doK_zero (hK.trans h0) h1
            obtain rfl := Option.some.inj (he.symm.trans x1)
            exact ddo_done (hK.trans h0) x4 x3 (ddo_open_ok w B g S L c e h hlen hE hk he hp hs)
        · have n2 : ¬ c.kind = 2 := by omega
          have n3 : ¬ c.kind = 3 := by omega
          by_cases hr : 0 ≤ c.at_ ∧ c.at_ ≤ 2 ∧ near c.node
          · by_cases hh : hasE e c.node
            · exact ddo_err 8 h (by rw [hK]; unfold turnK; rw [if_pos hp, if_neg n2, if_neg n3, if_pos hr, if_pos hh]) (by decide) (ddo_rep_there w B g S L c e h hlen hk he hp hr hh)
            · have h0 : turnK e c = 0 := by unfold turnK; rw [if_pos hp, if_neg n2, if_neg n3, if_pos hr, if_neg hh]
              obtain ⟨e', x1, _, x3, x4⟩ := doK_zero (hK.trans h0) h1
              obtain rfl := Option.some.inj (he.symm.trans x1)
              exact ddo_done (hK.trans h0) x4 x3 (ddo_rep_ok w B g S L c e h hlen hE hk he hp hr hh)
          · exact ddo_err 1 h (by rw [hK]; unfold turnK; rw [if_pos hp, if_neg n2, if_neg n3, if_neg hr]) (by decide) (ddo_rep_arg w B g S L c e h hlen hk he hp hr)
      · have h0 : doK L c = 13 := by rw [hK]; unfold turnK; rw [if_neg hp]
        refine ddo_err 13 h h0 (by decide) ?_
        rcases hk with hk | hk | hk
        · exact ddo_stale_k2 w B g S L c e h hlen hk he hp
        · exact ddo_stale_k3 w B g S L c e h hlen hk he hp
        · exact ddo_stale_k4 w B g S L c e h hlen hk he hp
  · exact ddo_err 1 h (by unfold doK; rw [if_neg h1, if_neg hk]) (by decide) (ddo_kind w g c (by omega))
def zEn : En := ⟨0, 0, 0, 0, 0, false⟩
end Go.Proofs.Ytlaighghagcjjaa
