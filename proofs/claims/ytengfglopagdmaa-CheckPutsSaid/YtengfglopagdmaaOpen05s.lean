/- What a row's opening of a checkpoint hands over, and how long its list may be. -/
import Derived.Test.YtengfglopagdmaaOpen05
import Derived.SizedLaws
namespace Go.Proofs.Ytengfglopagdmaa
open Go.RowKit Go.Cor Go.ChangeShapes Go.WideShapes Go.Joins Go.Deep
variable {H : Type} {enc : TypeId × Value → H} {W : World}

theorem isP_of_trodS {fuel : Nat} {c : Value} {y : DataW H × List MemPlace} (h : DataW.trod enc Try.prog W 0 (fun _ => true) true fuel 22 [c] = some y) :
    ∃ ps : List Pos, IsP W c ps ∧ (∀ p ∈ ps, p.fits) ∧ (ps.length = 0 ∨ ∃ E S, y.1 = .slice E S ∧ E.length = ps.length) := by
  obtain ⟨ps, hP, hf⟩ := isP_of_trod h
  refine ⟨ps, hP, hf, ?_⟩
  obtain ⟨a, cap', e, _⟩ := hP
  rcases open_slice Try.underlying22 h with ⟨hcs, _⟩ | ⟨x, len, cap, m, k, D, Pl, hcs, _, hl, hm, hmm, hx, hi⟩
  · simp only [List.cons.injEq, and_true] at hcs
    rw [hcs] at e
    simp only [Value.slice.injEq] at e
    exact .inl e.2.1.symm
  · simp only [List.cons.injEq, and_true] at hcs
    rw [hcs] at e
    simp only [Value.slice.injEq] at e
    refine .inr ⟨_, _, by rw [hx], ?_⟩
    rw [List.length_map, List.length_range]
    exact e.2.1

theorem Try.bytesPosR : Try.prog.bytesOf 50 = 32 := by kernel_rfl

set_option maxRecDepth 100000 in
theorem open_chkS {r : Reach} {b0 : Nat} {v : Value} {d : DataW H} {p : List MemPlace} (hv : Value.okWide Try.prog W r b0 24 v) (h : DataW.Trod enc Try.prog W 0 (fun _ => true) true 24 v d p)
    {ts : List TypeId} {ds : List (DataW H)} (ht : ts[0]? = some 24) (hd : ds[0]? = some d) (hsz : (DataW.weightsEach Try.prog ts ds).all (· ≤ reachBytes) = true) :
    ∃ (c : Chk) (vd : Value), v = cval c vd ∧ IsP W vd c.l ∧ (∀ p ∈ c.l, p.fits) ∧ c.l.length ≤ 4398046511104 := by
  obtain ⟨c0, c1, c2, c3, y0, y1, y2, y3, m, rfl, rfl, _, h0, h1, h2, h3⟩ := open_agg4 Try.underlying24 (by kernel_rfl) (by kernel_rfl) hv h
  obtain ⟨a, e0, _, _⟩ := DataW.trod_int Try.underlying3 h0
  obtain ⟨b, e1, _, _⟩ := DataW.trod_int Try.underlying3 h1
  obtain ⟨d', e2, _, _⟩ := DataW.trod_int Try.underlying3 h2
  obtain ⟨ps, hP, hf, hlen⟩ := isP_of_trodS h3
  simp only [List.cons.injEq, and_true] at e0 e1 e2
  subst e0 e1 e2
  refine ⟨⟨a, b, d', ps⟩, c3, rfl, hP, hf, ?_⟩
  show ps.length ≤ 4398046511104
  rcases hlen with h0' | ⟨E, S, hE, hl⟩
  · omega
  · have hmem : (E.length + S.length) * Try.prog.bytesOf 50 ∈ DataW.weights Try.prog 24 (.agg [y0.1, y1.1, y2.1, y3.1]) := by
      rw [hE]
      simp [DataW.weights, DataW.weightsEach, Try.underlying24, Try.underlying22]
    have := List.all_eq_true.1 hsz _ (DataW.weights_mem_each (j := 0) ht hd _ hmem)
    rw [Try.bytesPosR] at this
    simp only [decide_eq_true_eq] at this
    have hr := reachBytes_lt
    omega

end Go.Proofs.Ytengfglopagdmaa
