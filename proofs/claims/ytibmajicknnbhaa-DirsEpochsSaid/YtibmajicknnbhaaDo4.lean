/- Package dirs: Do as a whole; Find. -/
import Derived.Test.YtibmajicknnbhaaDo3
namespace Go.Proofs.Ytibmajicknnbhaa
open Go.RowKit Go.Cor
set_option linter.unusedVariables false
set_option linter.unusedSimpArgs false

theorem MpT.below {w w' : World} {B g : Nat} {S : Nat → Prop} {L : List En} (h : Mp w B g S L) (hb : Below w.heap.size w w') : MpT w B g S L w' := ⟨S, h.below hb, fun k h => .inl h, Kept.of_below hb (Nat.le_refl _)⟩
theorem ddo_err {w : World} {B g : Nat} {S : Nat → Prop} {L : List En} {c : Cm} (k : Nat) (h : Mp w B g S L) (hk : doK L c = k) (h0 : k ≠ 0)
    (hc : Calls Try.prog 8 #[.pointer (some ⟨g, 0, none⟩), cval c] w fun e w' => e = .returned (.tuple #[.int .i64 0, erc (k : Int)]) ∧ Below w.heap.size w w') :
    Calls Try.prog 8 #[.pointer (some ⟨g, 0, none⟩), cval c] w fun e w' => e = .returned (.tuple #[.int .i64 (doN L c : Int), derr (doK L c)]) ∧ MpT w B g S (doL L c) w' := by
  obtain ⟨e1, e2⟩ := doL_bad (L := L) (c := c) (by rw [hk]; exact h0)
  refine hc.mono ?_
  rintro e w' ⟨he, hb⟩
  rw [e1, e2, hk, derr_pos h0]
  exact ⟨he, MpT.below h hb⟩
theorem ddo_done {w : World} {B g : Nat} {S : Nat → Prop} {L L' : List En} {c : Cm} {n : Nat} (h0 : doK L c = 0) (hn : doN L c = n) (hL : doL L c = L')
    (hc : Calls Try.prog 8 #[.pointer (some ⟨g, 0, none⟩), cval c] w fun e w' => e = .returned (.tuple #[.int .i64 (n : Int), .nilIface]) ∧ MpT w B g S L' w') :
    Calls Try.prog 8 #[.pointer (some ⟨g, 0, none⟩), cval c] w fun e w' => e = .returned (.tuple #[.int .i64 (doN L c : Int), derr (doK L c)]) ∧ MpT w B g S (doL L c) w' := by
  rw [h0, hn, hL, derr_zero]
  exact hc
theorem ddo (w : World) (B g : Nat) (S : Nat → Prop) (L : List En) (c : Cm) (h : Mp w B g S L) (hL : LOk L 1000000) :
    Calls Try.prog 8 #[.pointer (some ⟨g, 0, none⟩), cval c] w fun e w' => e = .returned (.tuple #[.int .i64 (doN L c : Int), derr (doK L c)]) ∧ MpT w B g S (doL L c) w' := by
  have hlen := hL.len
  by_cases h1 : c.kind = 1
  · by_cases hm : makeOk c
    · by_cases hf : 4096 ≤ L.length
      · exact ddo_err 11 h (by unfold doK; rw [if_pos h1, if_pos hm, if_pos hf]) (by decide) (ddo_make_full w B g S L c h h1 hm hf hlen)
      · have h0 : doK L c = 0 := by unfold doK; rw [if_pos h1, if_pos hm, if_neg hf]
        obtain ⟨_, _, e1, e2⟩ := doK_make h0 h1
        exact ddo_done h0 e2 e1 (ddo_make_ok w B g S L c h h1 hm (by omega))
    · exact ddo_err 1 h (by unfold doK; rw [if_pos h1, if_neg hm]) (by decide) (ddo_make_bad w B g S L c h h1 hm)
  by_cases hk : c.kind = 2 ∨ c.kind = 3 ∨ c.kind = 4
  · cases he : lookE L c.vol with
    | none =>
      have h0 : doK L c = 6 := by unfold doK; rw [if_neg h1, if_pos hk, he]
      refine ddo_err 6 h h0 (by decide) ?_
      rcases hk with hk | hk | hk
      · exact ddo_none_k2 w B g S L c h hlen hk he
      · exact ddo_none_k3 w B g S L c h hlen hk he
      · exact ddo_none_k4 w B g S L c h hlen hk he
    | some e =>
      have hE : e.ep ≤ 1000000 := (hL.ok e (List.mem_of_getElem? (lookE_some he).2)).2
      have hK : doK L c = turnK e c := by unfold doK; rw [if_neg h1, if_pos hk, he]
      by_cases hp : c.ep = (e.ep : Int)
      · rcases hk with hk | hk | hk
        · cases hs : e.sl with
          | true => exact ddo_err 10 h (by rw [hK]; unfold turnK; rw [if_pos hp, if_pos hk, if_pos hs]) (by decide) (ddo_seal_bad w B g S L c e h hlen hk he hp hs)
          | false =>
            have h0 : turnK e c = 0 := by unfold turnK; rw [if_pos hp, if_pos hk, if_neg (by rw [hs]; decide)]
            obtain ⟨e', x1, _, x3, x4⟩ := doK_zero (hK.trans h0) h1
            obtain rfl := Option.some.inj (he.symm.trans x1)
            exact ddo_done (hK.trans h0) x4 x3 (ddo_seal_ok w B g S L c e h hlen hE hk he hp hs)
        · have n2 : ¬ c.kind = 2 := by omega
          cases hs : e.sl with
          | false => exact ddo_err 8 h (by rw [hK]; unfold turnK; rw [if_pos hp, if_neg n2, if_pos hk, if_neg (by rw [hs]; decide)]) (by decide) (ddo_open_bad w B g S L c e h hlen hk he hp hs)
          | true =>
            have h0 : turnK e c = 0 := by unfold turnK; rw [if_pos hp, if_neg n2, if_pos hk, if_pos hs]
            obtain ⟨e', x1, _, x3, x4⟩ := doK_zero (hK.trans h0) h1
            obtain rfl := Option.some.inj (he.symm.trans x1)
            exact ddo_done (hK.trans h0) x4 x3 (ddo_open_ok w B g S L c e h hlen hE hk he hp hs)
        · have n2 : ¬ c.kind = 2 := by omega
          have n3 : ¬ c.kind = 3 := by omega
          by_cases hr : 0 ≤ c.at_ ∧ c.at_ ≤ 2 ∧ near c.node
          · by_cases hh : hasE e c.node
            · exact ddo_err 8 h (by rw [hK]; unfold turnK; rw [if_pos hp, if_neg n2, if_neg n3, if_pos hr, if_pos hh]) (by decide) (ddo_rep_there w B g S L c e h hlen hk he hp hr hh)
            · have h0 : turnK e c = 0 := by unfold turnK; rw [if_pos hp, if_neg n2, if_neg n3, if_pos hr, if_neg hh]
              obtain ⟨e', x1, _, x3, x4⟩ := doK_zero (hK.trans h0) h1
              obtain rfl := Option.some.inj (he.symm.trans x1)
              exact ddo_done (hK.trans h0) x4 x3 (ddo_rep_ok w B g S L c e h hlen hE hk he hp hr hh)
          · exact ddo_err 1 h (by rw [hK]; unfold turnK; rw [if_pos hp, if_neg n2, if_neg n3, if_neg hr]) (by decide) (ddo_rep_arg w B g S L c e h hlen hk he hp hr)
      · have h0 : doK L c = 13 := by rw [hK]; unfold turnK; rw [if_neg hp]
        refine ddo_err 13 h h0 (by decide) ?_
        rcases hk with hk | hk | hk
        · exact ddo_stale_k2 w B g S L c e h hlen hk he hp
        · exact ddo_stale_k3 w B g S L c e h hlen hk he hp
        · exact ddo_stale_k4 w B g S L c e h hlen hk he hp
  · exact ddo_err 1 h (by unfold doK; rw [if_neg h1, if_neg hk]) (by decide) (ddo_kind w g c (by omega))
def zEn : En := ⟨0, 0, 0, 0, 0, false⟩
set_option maxRecDepth 100000 in
set_option maxHeartbeats 1000000 in
theorem dfind_nil (w : World) (v : Int) : Calls Try.prog 9 #[.pointer none, .int .i64 v] w fun e w' => e = .returned (.tuple #[eval zEn, erc 6]) ∧ Below w.heap.size w w' := by
  go_enter Try.func9, Try.ntmps9
  go_wp2_with fail
  refine (dentry_nil _ _).mono ?_
  rintro e w2 ⟨rfl, rfl⟩
  go_wp2
  have hX := Blk.new w #[.int .i64 0, .int .i64 0, .int .i64 0, .int .i64 0, .int .i64 0, .bool false] 35
  exact bodyPost_ret (v := .tuple #[eval zEn, erc 6]) (by simp [results, Try.results9, go_sem, eval, zEn, hX.cell 0 rfl, hX.cell 1 rfl, hX.cell 2 rfl, hX.cell 3 rfl, hX.cell 4 rfl, hX.cell 5 rfl]) rfl ⟨rfl, below_new19 _ _⟩
set_option maxRecDepth 100000 in
set_option maxHeartbeats 1000000 in
theorem dfind_none (w : World) (B g : Nat) (S : Nat → Prop) (L : List En) (x : Int) (h : Mp w B g S L) (hl : L.length ≤ 4096) (he : lookE L x = none) :
    Calls Try.prog 9 #[.pointer (some ⟨g, 0, none⟩), .int .i64 x] w fun e w' => e = .returned (.tuple #[eval zEn, erc 6]) ∧ Below w.heap.size w w' := by
  obtain ⟨v, hm⟩ := h.mv
  have HC := Lib.hid (dentry_none (w.alloc (.cells #[.int .i64 0, .int .i64 0, .int .i64 0, .int .i64 0, .int .i64 0, .bool false] 35)) g B v L x ((hm.alloc _).blk.cell 0 rfl) (hm.alloc _).row hl he)
  clear h hm hl he
  go_enter Try.func9, Try.ntmps9
  go_wp2_with fail
  refine HC.out.mono ?_
  rintro e w2 ⟨rfl, rfl⟩
  go_wp2
  have hX := Blk.new w #[.int .i64 0, .int .i64 0, .int .i64 0, .int .i64 0, .int .i64 0, .bool false] 35
  exact bodyPost_ret (v := .tuple #[eval zEn, erc 6]) (by simp [results, Try.results9, go_sem, eval, zEn, hX.cell 0 rfl, hX.cell 1 rfl, hX.cell 2 rfl, hX.cell 3 rfl, hX.cell 4 rfl, hX.cell 5 rfl]) rfl ⟨rfl, below_new19 _ _⟩
set_option maxRecDepth 100000 in
set_option maxHeartbeats 1000000 in
theorem dfind_some (w : World) (B g : Nat) (S : Nat → Prop) (L : List En) (x : Int) (en : En) (h : Mp w B g S L) (hl : L.length ≤ 4096) (he : lookE L x = some en) :
    Calls Try.prog 9 #[.pointer (some ⟨g, 0, none⟩), .int .i64 x] w fun e w' => e = .returned (.tuple #[eval en, .nilIface]) ∧ Below w.heap.size w w' := by
  obtain ⟨v, hm⟩ := h.mv
  obtain ⟨b0, hb0⟩ := hm.own (lookE_some he).2
  have HC := Lib.hid (dentry_some (w.alloc (.cells #[.int .i64 0, .int .i64 0, .int .i64 0, .int .i64 0, .int .i64 0, .bool false] 35)) g B v L x en b0 ((hm.alloc _).blk.cell 0 rfl) (hm.alloc _).row hl he hb0)
  have hE := (hm.alloc (.cells #[.int .i64 0, .int .i64 0, .int .i64 0, .int .i64 0, .int .i64 0, .bool false] 35)).et (lookE_some he).2 hb0
  obtain ⟨O, hO⟩ : ∃ O, (x - 1).toNat * 6 = O := ⟨_, rfl⟩
  rw [hO] at HC hE
  have c0 := hE.c0
  have c1 := hE.c1
  have c2 := hE.c2
  have c3 := hE.c3
  have c4 := hE.c4
  have c5 := hE.c5
  clear h hm hl he hb0 hO hE
  go_enter Try.func9, Try.ntmps9
  go_wp2_with fail
  refine HC.out.mono ?_
  rintro e w2 ⟨rfl, rfl⟩
  go_wp2
  have hX := Blk.new w #[.int .i64 (en.vol : Int), .int .i64 (en.ep : Int), .int .i64 (en.a : Int), .int .i64 (en.b : Int), .int .i64 (en.c : Int), .bool en.sl] 35
  exact bodyPost_ret (v := .tuple #[eval en, .nilIface]) (by simp [results, Try.results9, go_sem, eval, hX.cell 0 rfl, hX.cell 1 rfl, hX.cell 2 rfl, hX.cell 3 rfl, hX.cell 4 rfl, hX.cell 5 rfl]) rfl ⟨rfl, below_new19 _ _⟩
theorem dfind (w : World) (B g : Nat) (S : Nat → Prop) (L : List En) (v : Int) (h : Mp w B g S L) (hL : LOk L 1000000) :
    Calls Try.prog 9 #[.pointer (some ⟨g, 0, none⟩), .int .i64 v] w fun e w' => e = .returned (.tuple #[eval ((lookE L v).getD zEn), derr (if (lookE L v).isSome then 0 else 6)]) ∧ Below w.heap.size w w' := by
  cases he : lookE L v with
  | none => exact dfind_none w B g S L v h hL.len he
  | some e => exact dfind_some w B g S L v e h hL.len he

set_option maxHeartbeats 400000 in
theorem dclone (v : Value) (L : List En) (w : World) (hv : IsX w 6 v L.length (row ecl L)) (hl : L.length ≤ 1048576) :
    Calls Try.prog 22 #[v] w fun e w' =>
      ∃ v', e = .returned v' ∧ w'.ownsRow w.heap.size 35 6 v' L.length (row ecl L) ∧ Below w.heap.size w w' := by
  obtain ⟨i0, hi, hz0, hz1, hz2⟩ := info_parts Try.infoEntD
  have q22 : ∀ (w : World) (a : Option Addr) (n c n' c' : Nat), (binOp .eql 39 (.slice a n c) (.slice none n' c')).run Try.prog w = .ok (.bool a.isNone) w := fun w a n c n' c' => Lib.run_eql_slice_nil w _ _ a n c n' c' Try.underlying39
  have HV := Lib.hid hv
  obtain ⟨x, cap, rfl, hlc, hcm, hll, hnc, hcell⟩ := hv
  clear hcell hll
  cases x with
  | none =>
    obtain rfl := hnc rfl
    obtain rfl : L = [] := List.eq_nil_of_length_eq_zero (by omega)
    go_enter Try.func22, Try.ntmps22
    go_wp2
    go_ret
    exact ⟨_, rfl, World.ownsRow_nil _ _ _ _, Below.refl _ _⟩
  | some a =>
    clear hnc
    go_enter Try.func22, Try.ntmps22
    go_wp2_with (at_builtin; refine wpList_append_X (by rfl) _ _ 39 39 rfl (fun _ _ _ => rfl) w.heap.size 35 i0 _ 6 48 Try.underlying39 hi hz0 hz1 hz2 rfl (by decide) _ [] 0 rfl (World.ownsRow_lit _ #[] 0 (Nat.le_refl _) (Nat.zero_le _) rfl) _ L.length _ rfl (HV.out.mono ((Below.refl _ _).alloc (Nat.le_refl _) _) (Nat.le_refl _)) (row_mem fun x _ => ecl_one x) (by unfold maxLen; omega) (by omega) (by simp) ?_; intro v4 w4 hown4 hb4 hl4)
    go_ret
    refine ⟨_, rfl, by simpa using hown4, ((Below.refl _ _).alloc (Nat.le_refl _) _).grown hb4 (by simp) (fun k hk => ?_)⟩
    have : some w.heap.size = some k := hk
    cases this
    exact Nat.le_refl _
theorem dall (w : World) (B g : Nat) (S : Nat → Prop) (L : List En) (h : Mp w B g S L) (hL : LOk L 1000000) :
    Calls Try.prog 11 #[.pointer (some ⟨g, 0, none⟩)] w fun e w' => ∃ v, e = .returned v ∧ IsX w' 6 v L.length (row ecl L) ∧ (∀ b, liesX v L.length b → w.heap.size ≤ b) ∧ Below w.heap.size w w' := by
  obtain ⟨v, hm⟩ := h.mv
  have HC := Lib.hid (dclone v L w (isX_own19 hm.row) (by have := hL.len; omega))
  have k0 := hm.blk.cell 0 rfl
  have HK := Lib.hid k0
  clear h hm hL k0
  go_enter Try.func11, Try.ntmps11
  go_wp2_with fail
  refine (dents_any _ _ _ HK.out).mono ?_
  rintro e w2 ⟨rfl, rfl⟩
  go_wp2_with fail
  refine HC.out.mono ?_
  rintro e w3 ⟨v', rfl, h1, h2⟩
  have H1 := Lib.hid h1
  have H2 := Lib.hid h2
  clear h1 h2
  go_wp2
  go_ret
  exact ⟨_, rfl, isX_own19 H1.out, fun b hb => (H1.out.lt b hb.2).1, H2.out⟩
theorem dall_nil (w : World) : Calls Try.prog 11 #[.pointer none] w fun e w' => ∃ v, e = .returned v ∧ IsX w' 6 v 0 [] ∧ Below w.heap.size w w' := by
  have HC := Lib.hid (dclone (.slice none 0 0) [] w (IsX.nil w 6) (by decide))
  go_enter Try.func11, Try.ntmps11
  go_wp2_with fail
  refine (dents_nil _).mono ?_
  rintro e w2 ⟨rfl, rfl⟩
  go_wp2_with fail
  refine HC.out.mono ?_
  rintro e w3 ⟨v', rfl, h1, h2⟩
  have H1 := Lib.hid h1
  have H2 := Lib.hid h2
  clear h1 h2
  go_wp2
  go_ret
  exact ⟨_, rfl, isX_own19 (L := []) H1.out, H2.out⟩
end Go.Proofs.Ytibmajicknnbhaa
