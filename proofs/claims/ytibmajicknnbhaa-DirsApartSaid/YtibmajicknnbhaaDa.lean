/- Layer 19: the chapter's example; what a law holds of a map. -/
import Derived.Test.YtibmajicknnbhaaDq
namespace Go.Proofs.Ytibmajicknnbhaa
open Go.RowKit Go.Cor
set_option linter.unusedVariables false
set_option linter.unusedSimpArgs false

/-- What a law of layer 19 carries along: the map, its entries, that nothing else has turned. -/
structure Dh (w wx : World) (g : Nat) (S : Nat → Prop) (L : List En) (K : Nat) : Prop where
  bel : Below w.heap.size w wx
  mp : Mp wx w.heap.size g S L
  ok : LOk L K
theorem Dh.kept {w wx w' : World} {g : Nat} {S : Nat → Prop} {L : List En} {K : Nat} {T : Nat → Prop} (h : Dh w wx g S L K) (hk : Kept T wx w') (hT : ∀ k, S k → ¬ T k) (hl : ∀ k, k < w.heap.size → ¬ T k) : Dh w w' g S L K :=
  ⟨Kept.below_trans h.bel hk h.bel.size hl, h.mp.kept hk hT, h.ok⟩
theorem Dh.below {w wx w' : World} {g : Nat} {S : Nat → Prop} {L : List En} {K : Nat} (h : Dh w wx g S L K) (hb : Below wx.heap.size wx w') : Dh w w' g S L K :=
  ⟨h.bel.trans (hb.mono h.bel.size), h.mp.below hb, h.ok⟩
theorem Dh.alloc {w wx : World} {g : Nat} {S : Nat → Prop} {L : List En} {K : Nat} (h : Dh w wx g S L K) (o : Obj) : Dh w (wx.alloc o) g S L K := h.below (below_new19 wx o)
theorem Dh.drew {w wx : World} {g : Nat} {S : Nat → Prop} {L : List En} {K : Nat} (h : Dh w wx g S L K) (n : Nat) : Dh w (wx.drewN n) g S L K := h.below (below_drewN19 (Below.refl _ _) n)
/-- A cell of a block that the law made itself. -/
theorem Dh.cell {w wx : World} {g : Nat} {S : Nat → Prop} {L : List En} {K : Nat} (h : Dh w wx g S L K) {p : Addr} (hp : w.heap.size ≤ p.block) (hS : ¬ S p.block) (u : Value) : Dh w (wx.setCell p u) g S L K :=
  h.kept (T := fun k => k = p.block) ((Kept.refl (fun k => k = p.block) wx).setCell (p := p) (.inl rfl) u) (fun k hk e => hS (e ▸ hk)) (fun k hk e => by omega)
theorem Dh.call {w wx w' : World} {g : Nat} {S : Nat → Prop} {L L' : List En} {K K' : Nat} (h : Dh w wx g S L K) (ht : MpT wx w.heap.size g S L' w') (hL : LOk L' K') : ∃ S', Dh w w' g S' L' K' ∧ (∀ k, S' k → S k ∨ wx.heap.size ≤ k) ∧ Kept S wx w' := by
  obtain ⟨S', h1, h2, h3⟩ := ht.out
  exact ⟨S', ⟨Kept.below_trans h.bel h3 h.bel.size (fun k hk hs => by have := (h.mp.lt hs).1; omega), h1, hL⟩, h2, h3⟩
theorem Mp.low {w : World} {B B' g : Nat} {S : Nat → Prop} {L : List En} (hm : Mp w B g S L) (h : B' ≤ B) : Mp w B' g S L := by
  obtain ⟨v, m1, m2, m3, m4, m5, m6⟩ := hm
  exact ⟨v, m1, ownsRow_base m2 h, m3, m4, m5, fun k hk => ⟨Nat.le_trans h (m6 k hk).1, (m6 k hk).2⟩⟩
theorem Dh.of {w w1 w2 : World} {g : Nat} {S : Nat → Prop} {L : List En} {K : Nat} (h1 : Below w.heap.size w w1) (hm : Mp w2 w1.heap.size g S L) (h2 : Below w1.heap.size w1 w2) (hL : LOk L K) : Dh w w2 g S L K :=
  ⟨h1.trans (h2.mono h1.size), hm.low h1.size, hL⟩
theorem Dh.do {w wx : World} {g : Nat} {S : Nat → Prop} {L : List En} {K : Nat} (h : Dh w wx g S L K) (hK : K ≤ 1000000) (c : Cm) :
    Calls Try.prog 8 #[.pointer (some ⟨g, 0, none⟩), cval c] wx fun e w' => e = .returned (.tuple #[.int .i64 (doN L c : Int), derr (doK L c)]) ∧ MpT wx w.heap.size g S (doL L c) w' := ddo wx _ g S L c h.mp (h.ok.more hK)
theorem Dh.new {w w1 w2 : World} {g : Nat} {S : Nat → Prop} (h1 : Below w.heap.size w w1) (hm : Mp w2 w1.heap.size g S []) (h2 : Below w1.heap.size w1 w2) (K : Nat) : Dh w w2 g S [] K := by
  refine ⟨h1.trans (h2.mono h1.size), ?_, LOk.nil K⟩
  obtain ⟨v, m1, m2, m3, m4, m5, m6⟩ := hm
  exact ⟨v, m1, ownsRow_base m2 h1.size, m3, m4, m5, fun k hk => ⟨Nat.le_trans h1.size (m6 k hk).1, (m6 k hk).2⟩⟩
/-- Find of a volume that is there. -/
theorem Dh.find {w wx : World} {g : Nat} {S : Nat → Prop} {L : List En} {K : Nat} (h : Dh w wx g S L K) (hK : K ≤ 1000000) (v : Int) {e : En} (hv : lookE L v = some e) :
    Calls Try.prog 9 #[.pointer (some ⟨g, 0, none⟩), .int .i64 v] wx fun r w' => r = .returned (.tuple #[eval e, .nilIface]) ∧ Below wx.heap.size wx w' := by
  have h1 := dfind wx _ g S L v h.mp (h.ok.more hK)
  rw [hv] at h1
  exact h1
set_option maxRecDepth 100000 in
set_option maxHeartbeats 2000000 in
theorem alive19 (w : World) : Calls Try.prog 6 #[] w fun e w' => e = .returned (.bool true) ∧ Below w.heap.size w w' := by
  go_enter Try.func6, Try.ntmps6
  go_wp2_with fail
  refine (dnew _).mono ?_
  rintro e w1 ⟨g, S, rfl, h1, hb1⟩
  have H1 := Lib.hid (Dh.new (Below.refl w.heap.size w) h1 hb1 1)
  clear h1 hb1
  go_wp2_with fail
  refine (H1.out.do (by decide) ⟨1, 0, 0, 0, 0, 1, 2, 3⟩).mono ?_
  rw [show doK [] ⟨1, 0, 0, 0, 0, 1, 2, 3⟩ = 0 from by decide, show doN [] ⟨1, 0, 0, 0, 0, 1, 2, 3⟩ = 1 from by decide, derr_zero]
  rintro e w2 ⟨rfl, h2⟩
  obtain ⟨S2, h3, _, _⟩ := H1.out.call h2 (doL_ok H1.out.ok (by decide))
  have H2 := Lib.hid h3
  clear h2 h3
  go_wp2_with fail
  refine (H2.out.do (by decide) ⟨1, 0, 0, 0, 0, 1, 2, 2⟩).mono ?_
  rw [show doK (doL [] ⟨1, 0, 0, 0, 0, 1, 2, 3⟩) ⟨1, 0, 0, 0, 0, 1, 2, 2⟩ = 1 from by decide, derr_pos (by decide)]
  rintro e w3 ⟨rfl, h2⟩
  obtain ⟨S3, h3, _, _⟩ := H2.out.call h2 (doL_ok H2.out.ok (by decide))
  have H3 := Lib.hid h3.bel
  clear h2 h3
  go_wp2_with (go_at_call 10; first | (with_reducible refine (code_nil _).mono ?_; rintro e w5 ⟨rfl, rfl⟩) | (with_reducible refine (code_code _ _ (by decide) (by decide)).mono ?_; rintro e w5 ⟨rfl, rfl⟩))
  go_ret
  exact ⟨rfl, H3.out⟩
end Go.Proofs.Ytibmajicknnbhaa
