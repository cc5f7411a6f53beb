/- Layer 20: the chapter's example. -/
import Derived.Test.YtlaighghagcjjaaTa
namespace Go.Proofs.Ytlaighghagcjjaa
open Go.RowKit Go.Cor
set_option linter.unusedVariables false
set_option linter.unusedSimpArgs false

abbrev al1 : Cm := ⟨1, 0, 0, 0, 0, 1, 2, 3⟩
abbrev al0 : Cm := ⟨0, 0, 0, 0, 0, 0, 0, 0⟩
abbrev alP1 : Pr := askP Pr.new 1 al1
abbrev alP2 : Pr := shipP alP1 1
theorem Th.ask {w wx : World} {g : Nat} {S : Nat → Prop} {p : Pr} {K : Nat} (h : Th w wx g S p K) (hK : K < 1000) (t : Int) (c : Cm) :
    Calls Try.prog 21 #[pp g, .int .i64 t, cval c] wx fun e w' => e = .returned (.tuple #[.int .i64 (askN p t : Int), derr (askK p t)]) ∧ ∃ S', Th w w' g S' (askP p t c) (K + 1) ∧ (∀ k, S' k → S k ∨ wx.heap.size ≤ k) ∧ Kept S wx w' := by
  refine (task wx _ g S p t c h.tw h.ok (h.le.more (Nat.le_of_lt hK))).mono ?_
  rintro e w' ⟨h1, h2⟩
  exact ⟨h1, h.call h2 (ask_to h.ok t c).ok (act_le h.le ⟨0, t, 0, c⟩)⟩
theorem Th.ship {w wx : World} {g : Nat} {S : Nat → Prop} {p : Pr} {K : Nat} (h : Th w wx g S p K) (hK : K < 1000) (t : Int) :
    Calls Try.prog 22 #[pp g, .int .i64 t] wx fun e w' => e = .returned (derr (shipK p t)) ∧ ∃ S', Th w w' g S' (shipP p t) (K + 1) ∧ (∀ k, S' k → S k ∨ wx.heap.size ≤ k) ∧ Kept S wx w' := by
  refine (tship wx _ g S p t h.tw h.ok (h.le.more (Nat.le_of_lt hK))).mono ?_
  rintro e w' ⟨h1, h2⟩
  exact ⟨h1, h.call h2 (ship_to h.ok t).ok (act_le h.le ⟨1, t, 0, al0⟩)⟩
theorem Th.fall {w wx : World} {g : Nat} {S : Nat → Prop} {p : Pr} {K : Nat} (h : Th w wx g S p K) (hK : K < 1000) (n : Int) :
    Calls Try.prog 23 #[pp g, .int .i64 n] wx fun e w' => e = .returned (derr (fallK p n)) ∧ ∃ S', Th w w' g S' (fallP p n) (K + 1) ∧ (∀ k, S' k → S k ∨ wx.heap.size ≤ k) ∧ Kept S wx w' := by
  refine (tfall wx _ g S p n h.tw h.ok (h.le.more (Nat.le_of_lt hK))).mono ?_
  rintro e w' ⟨h1, h2⟩
  exact ⟨h1, h.call h2 (fall_to h.ok n).ok (act_le h.le ⟨2, 0, n, al0⟩)⟩
theorem Th.rise {w wx : World} {g : Nat} {S : Nat → Prop} {p : Pr} {K : Nat} (h : Th w wx g S p K) (hK : K < 1000) (n : Int) :
    Calls Try.prog 24 #[pp g, .int .i64 n] wx fun e w' => e = .returned (derr (riseK p n)) ∧ ∃ S', Th w w' g S' (riseP p n) (K + 1) ∧ (∀ k, S' k → S k ∨ wx.heap.size ≤ k) ∧ Kept S wx w' := by
  refine (trise wx _ g S p n h.tw h.ok (h.le.more (Nat.le_of_lt hK))).mono ?_
  rintro e w' ⟨h1, h2⟩
  exact ⟨h1, h.call h2 (rise_to h.ok n).ok (act_le h.le ⟨3, 0, n, al0⟩)⟩
theorem Th.do {w wx : World} {g : Nat} {S : Nat → Prop} {p : Pr} {K : Nat} (h : Th w wx g S p K) (hK : K < 1000) (a : Ac20) :
    Calls Try.prog 11 #[pp g, aval a] wx fun e w' => e = .returned (.tuple #[.int .i64 (actN p a : Int), .int .i64 (actK p a : Int)]) ∧ ∃ S', Th w w' g S' (actP p a) (K + 1) ∧ (∀ k, S' k → S k ∨ wx.heap.size ≤ k) ∧ Kept S wx w' := by
  refine (tdo wx _ g S p a h.tw h.ok (h.le.more (Nat.le_of_lt hK))).mono ?_
  rintro e w' ⟨h1, h2⟩
  exact ⟨h1, h.call h2 (act_to h.ok a).ok (act_le h.le a)⟩
theorem Th.lead {w wx : World} {g : Nat} {S : Nat → Prop} {p : Pr} {K : Nat} (h : Th w wx g S p K) :
    Calls Try.prog 12 #[pp g] wx fun e w' => e = .returned (.tuple #[.int .i64 (sn p.ld : Int), .int .i64 (p.tm : Int)]) ∧ Below wx.heap.size wx w' := tlead wx _ g S p h.tw
theorem Th.settled {w wx : World} {g : Nat} {S : Nat → Prop} {p : Pr} {K : Nat} (h : Th w wx g S p K) :
    Calls Try.prog 14 #[pp g] wx fun e w' => e = .returned (.int .i64 (p.st : Int)) ∧ Below wx.heap.size wx w' := tsettled wx _ g S p h.tw
theorem Th.logs {w wx : World} {g : Nat} {S : Nat → Prop} {p : Pr} {K : Nat} (h : Th w wx g S p K) :
    Calls Try.prog 13 #[pp g] wx fun e w' => e = .returned (.tuple #[.int .i64 (p.a.length : Int), .int .i64 (p.b.length : Int)]) ∧ Below wx.heap.size wx w' := tlogs wx _ g S p h.tw
set_option maxRecDepth 100000 in
set_option maxHeartbeats 2000000 in
theorem alive20 (w : World) : Calls Try.prog 7 #[] w fun e w' => e = .returned (.bool true) ∧ Below w.heap.size w w' := by
  go_enter Try.func7, Try.ntmps7
  go_wp2_with fail
  refine (tnew _).mono ?_
  rintro e w1 ⟨g, S, rfl, h1, hb1⟩
  have H1 := Lib.hid (Th.new (Below.refl w.heap.size w) h1 hb1)
  clear h1 hb1
  go_wp2_with fail
  refine (H1.out.ask (by decide) 1 al1).mono ?_
  rw [show askN Pr.new 1 = 0 from by decide, show askK Pr.new 1 = 0 from by decide, derr_zero]
  rintro e w2 ⟨rfl, S2, h2, _, _⟩
  have H2 := Lib.hid h2
  clear h2
  go_wp2_with fail
  refine H2.out.settled.mono ?_
  rw [show alP1.st = 0 from by decide]
  rintro e w3 ⟨rfl, hb3⟩
  have H3 := Lib.hid (H2.out.below hb3)
  clear hb3
  go_wp2_with fail
  refine (H3.out.ship (by decide) 1).mono ?_
  rw [show shipK alP1 1 = 0 from by decide, derr_zero]
  rintro e w4 ⟨rfl, S4, h4, _, _⟩
  have H4 := Lib.hid h4
  clear h4
  go_wp2_with fail
  refine (H4.out.ask (by decide) 2 al0).mono ?_
  rw [show askN alP2 2 = 0 from by decide, show askK alP2 2 = 13 from by decide, derr_pos (by decide)]
  rintro e w5 ⟨rfl, S5, h5, _, _⟩
  have H5 := Lib.hid h5
  clear h5
  go_wp2_with (first | (go_at_call 20; first | (with_reducible refine (code_nil _).mono ?_; rintro e wc ⟨rfl, rfl⟩) | (with_reducible refine (code_code _ _ (by decide) (by decide)).mono ?_; rintro e wc ⟨rfl, rfl⟩)) | (go_at_call 14; refine H5.out.settled.mono ?_; rw [show (askP alP2 2 al0).st = 1 from by decide]; rintro e w6 ⟨rfl, hb6⟩))
  go_ret
  exact ⟨rfl, H5.out.bel.trans (hb6.mono H5.out.bel.size)⟩
end Go.Proofs.Ytlaighghagcjjaa
