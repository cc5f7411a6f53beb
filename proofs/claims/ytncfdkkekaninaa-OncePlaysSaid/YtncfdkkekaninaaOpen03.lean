/- What a row's opening of needles and of slices of needles hands over. -/
import Derived.Test.YtncfdkkekaninaaNeedle
import Derived.Test.YtncfdkkekaninaaWf
import Derived.Test.YtncfdkkekaninaaLaw03f
import Derived.Lib.SmallJoins
import Derived.ProofKit
set_option linter.unusedVariables false
set_option linter.unusedSimpArgs false
namespace Go.Proofs.Ytncfdkkekaninaa
open Go.RowKit Go.Cor Go.ChangeShapes Go.WideShapes Go.Joins Go.Deep
variable {H : Type} {enc : TypeId × Value → H} {W : World}

theorem isB_of_trod {fuel : Nat} {c : Value} {y : DataW H × List MemPlace} (h : DataW.trod enc Try.prog W 0 (fun _ => true) true fuel 32 [c] = some y) : ∃ l : List UInt8, IsB W c l := by
  rcases open_ints Try.underlying32 Try.underlying5 (by kernel_rfl) h with ⟨hcs, _⟩ | ⟨x, l, c', zs, hcs, _, hl, hm, hz, _, hcell, hwz⟩
  · simp only [List.cons.injEq, and_true] at hcs
    subst hcs
    exact ⟨[], IsB.nil _⟩
  · simp only [List.cons.injEq, and_true] at hcs
    subst hcs
    obtain ⟨l', e, h'⟩ := isB_of_row (w := W) (a := some x) (len := l) (cap := c') (zs := zs) (.inr ⟨x, rfl, hl, hm, by simpa using hz, hcell, hwz⟩)
    exact ⟨l', h'⟩

theorem trod4_at {P : Program} {base : Nat} {spare : Nat → Bool} {held : Bool} {t : TypeId} {f0 f1 f2 f3 : Field} {fuel : Nat} {c0 c1 c2 c3 : Value} {x : DataW H × List MemPlace} (ht : P.underlying t = some (.struct #[f0, f1, f2, f3])) (hone : oneCellFields P #[f0, f1, f2, f3] = true)
    (h : DataW.trod enc P W base spare held fuel t [c0, c1, c2, c3] = some x) :
    ∃ y0 y1 y2 y3 n, DataW.trod enc P W base spare held n f0.type [c0] = some y0 ∧ DataW.trod enc P W base spare held n f1.type [c1] = some y1 ∧ DataW.trod enc P W base spare held n f2.type [c2] = some y2 ∧ DataW.trod enc P W base spare held n f3.type [c3] = some y3 := by
  obtain ⟨y0, y1, y2, y3, n, _, _, h0, h1, h2, h3⟩ := trod_struct4 ht h
  obtain ⟨o0, k0⟩ := hone_of hone 0 f0 rfl
  obtain ⟨o1, k1⟩ := hone_of hone 1 f1 rfl
  obtain ⟨o2, k2⟩ := hone_of hone 2 f2 rfl
  obtain ⟨o3, k3⟩ := hone_of hone 3 f3 rfl
  exact ⟨y0, y1, y2, y3, n, by simpa [o0, k0] using h0, by simpa [o1, k1] using h1, by simpa [o2, k2] using h2, by simpa [o3, k3] using h3⟩

theorem ndl_of_trods {f0 f1 f2 f3 : Nat} {c0 c1 c2 c3 : Value} {y0 y1 y2 y3 : DataW H × List MemPlace} (h0 : DataW.trod enc Try.prog W 0 (fun _ => true) true f0 23 [c0] = some y0) (h1 : DataW.trod enc Try.prog W 0 (fun _ => true) true f1 31 [c1] = some y1)
    (h2 : DataW.trod enc Try.prog W 0 (fun _ => true) true f2 4 [c2] = some y2) (h3 : DataW.trod enc Try.prog W 0 (fun _ => true) true f3 32 [c3] = some y3) :
    ∃ n : Ndl, c0 = .int .u64 (n.key : Int) ∧ c1 = .int .u32 (n.cookie : Int) ∧ c2 = .bool n.gone ∧ n.fits ∧ IsB W c3 n.data := by
  obtain ⟨a, e0, _, wa⟩ := DataW.trod_int Try.underlying23 h0
  obtain ⟨b, e1, _, wb⟩ := DataW.trod_int Try.underlying31 h1
  obtain ⟨g, e2, _⟩ := DataW.trod_bool Try.underlying4 h2
  obtain ⟨l, hl⟩ := isB_of_trod h3
  simp only [List.cons.injEq, and_true] at e0 e1 e2
  subst e0 e1 e2
  have b1 := wf_u64 wa
  have b2 := wf_u32 wb
  obtain ⟨k, rfl⟩ := Int.eq_ofNat_of_zero_le b1.1
  obtain ⟨c, rfl⟩ := Int.eq_ofNat_of_zero_le b2.1
  exact ⟨⟨k, c, g, l⟩, rfl, rfl, rfl, ⟨by show k < 18446744073709551616; omega, by show c < 4294967296; omega⟩, hl⟩

set_option maxRecDepth 10000 in
theorem open_ndl {r : Reach} {b0 : Nat} {v : Value} {d : DataW H} {p : List MemPlace} (hv : Value.okWide Try.prog W r b0 34 v) (h : DataW.Trod enc Try.prog W 0 (fun _ => true) true 34 v d p) :
    ∃ (n : Ndl) (vd : Value), v = nval n vd ∧ n.fits ∧ IsB W vd n.data := by
  obtain ⟨c0, c1, c2, c3, y0, y1, y2, y3, m, rfl, _, _, h0, h1, h2, h3⟩ := open_agg4 Try.underlying34 (by kernel_rfl) (by kernel_rfl) hv h
  obtain ⟨n, rfl, rfl, rfl, hf, hB⟩ := ndl_of_trods h0 h1 h2 h3
  exact ⟨n, c3, rfl, hf, hB⟩

end Go.Proofs.Ytncfdkkekaninaa
