/- What a row's opening of a slice of positions hands over. -/
import Derived.Test.YtbloedaidbfehaaPosn
import Derived.Test.YtbloedaidbfehaaWf
import Derived.Lib.SmallJoins
import Derived.ProofKit
namespace Go.Proofs.Ytbloedaidbfehaa
open Go.RowKit Go.Cor Go.ChangeShapes Go.WideShapes Go.Joins Go.Deep
variable {H : Type} {enc : TypeId × Value → H} {W : World}

theorem trod5_at {P : Program} {base : Nat} {spare : Nat → Bool} {held : Bool} {t : TypeId} {f0 f1 f2 f3 f4 : Field} {fuel : Nat} {c0 c1 c2 c3 c4 : Value} {x : DataW H × List MemPlace} (ht : P.underlying t = some (.struct #[f0, f1, f2, f3, f4])) (hone : oneCellFields P #[f0, f1, f2, f3, f4] = true)
    (h : DataW.trod enc P W base spare held fuel t [c0, c1, c2, c3, c4] = some x) :
    ∃ y0 y1 y2 y3 y4 n, DataW.trod enc P W base spare held n f0.type [c0] = some y0 ∧ DataW.trod enc P W base spare held n f1.type [c1] = some y1 ∧ DataW.trod enc P W base spare held n f2.type [c2] = some y2 ∧ DataW.trod enc P W base spare held n f3.type [c3] = some y3 ∧ DataW.trod enc P W base spare held n f4.type [c4] = some y4 := by
  obtain ⟨ys, n, _, _, _, hl, hf⟩ := DataW.trod_struct ht h
  have hl5 : ys.length = 5 := hl
  have g : ∀ j (f : Field) c, (#[f0, f1, f2, f3, f4] : Array Field)[j]? = some f → j < 5 → (([c0, c1, c2, c3, c4].drop j).take 1 = [c]) → ∃ y, DataW.trod enc P W base spare held n f.type [c] = some y := by
    intro j f c hj hj5 hc
    obtain ⟨ho, hk⟩ := hone_of hone j f hj
    have h1 := hf j f hj
    rw [ho, hk, hc] at h1
    exact ⟨_, h1.trans (List.getElem?_eq_getElem (by omega))⟩
  obtain ⟨y0, h0⟩ := g 0 f0 c0 rfl (by decide) rfl
  obtain ⟨y1, h1⟩ := g 1 f1 c1 rfl (by decide) rfl
  obtain ⟨y2, h2⟩ := g 2 f2 c2 rfl (by decide) rfl
  obtain ⟨y3, h3⟩ := g 3 f3 c3 rfl (by decide) rfl
  obtain ⟨y4, h4⟩ := g 4 f4 c4 rfl (by decide) rfl
  exact ⟨y0, y1, y2, y3, y4, n, h0, h1, h2, h3, h4⟩

theorem pos_of_trods {g0 g1 g2 g3 g4 : Nat} {c0 c1 c2 c3 c4 : Value} {y0 y1 y2 y3 y4 : DataW H × List MemPlace} (h0 : DataW.trod enc Try.prog W 0 (fun _ => true) true g0 23 [c0] = some y0) (h1 : DataW.trod enc Try.prog W 0 (fun _ => true) true g1 3 [c1] = some y1)
    (h2 : DataW.trod enc Try.prog W 0 (fun _ => true) true g2 3 [c2] = some y2) (h3 : DataW.trod enc Try.prog W 0 (fun _ => true) true g3 30 [c3] = some y3) (h4 : DataW.trod enc Try.prog W 0 (fun _ => true) true g4 4 [c4] = some y4) :
    ∃ p : Pos, p.fits ∧ c0 = .int .u64 (p.key : Int) ∧ c1 = .int .i64 p.off ∧ c2 = .int .i64 p.len ∧ c3 = .int .u32 (p.cookie : Int) ∧ c4 = .bool p.gone := by
  obtain ⟨a, e0, _, wa⟩ := DataW.trod_int Try.underlying23 h0
  obtain ⟨b, e1, _, wb⟩ := DataW.trod_int Try.underlying3 h1
  obtain ⟨d, e2, _, wd⟩ := DataW.trod_int Try.underlying3 h2
  obtain ⟨c, e3, _, wc⟩ := DataW.trod_int Try.underlying30 h3
  obtain ⟨g, e4, _⟩ := DataW.trod_bool Try.underlying4 h4
  simp only [List.cons.injEq, and_true] at e0 e1 e2 e3 e4
  subst e0 e1 e2 e3 e4
  have b1 := wf_u64 wa
  have b2 := wf_u32 wc
  have b3 := wf_i64 wb
  have b4 := wf_i64 wd
  obtain ⟨k, rfl⟩ := Int.eq_ofNat_of_zero_le b1.1
  obtain ⟨e, rfl⟩ := Int.eq_ofNat_of_zero_le b2.1
  exact ⟨⟨k, b, d, e, g⟩, ⟨by show k < 18446744073709551616; omega, by show e < 4294967296; omega, b3, b4⟩, rfl, rfl, rfl, rfl, rfl⟩

theorem isP_of_trod {fuel : Nat} {c : Value} {y : DataW H × List MemPlace} (h : DataW.trod enc Try.prog W 0 (fun _ => true) true fuel 22 [c] = some y) : ∃ ps : List Pos, IsP W c ps ∧ ∀ p ∈ ps, p.fits := by
  rcases open_slice Try.underlying22 h with ⟨hcs, _⟩ | ⟨x, len, cap, m, k, D, Pl, hcs, _, hl, hm, hmm, _, hi⟩
  · simp only [List.cons.injEq, and_true] at hcs
    subst hcs
    exact ⟨[], IsP.nil _, fun p hp => by cases hp⟩
  · simp only [List.cons.injEq, and_true] at hcs
    subst hcs
    have hml : len ≤ m := by simp at hmm; omega
    have h5 : Try.prog.cellsOf 33 = 5 := by kernel_rfl
    have each : ∀ i, i < len → ∃ p : Pos, p.fits ∧ W.cell? ((x.add (i * 5)).add 0) = some (.int .u64 (p.key : Int)) ∧ W.cell? ((x.add (i * 5)).add 1) = some (.int .i64 p.off) ∧ W.cell? ((x.add (i * 5)).add 2) = some (.int .i64 p.len) ∧ W.cell? ((x.add (i * 5)).add 3) = some (.int .u32 (p.cookie : Int)) ∧ W.cell? ((x.add (i * 5)).add 4) = some (.bool p.gone) := by
      intro i hil
      obtain ⟨cs', hc, ht⟩ := hi i (by omega)
      rw [h5] at hc
      obtain ⟨_, hcl, hat⟩ := World.cells?_some hc
      match cs', hcl with
      | [c0, c1, c2, c3, c4], _ =>
        obtain ⟨y0, y1, y2, y3, y4, m', g0, g1, g2, g3, g4⟩ := trod5_at Try.underlying33 (by kernel_rfl) ht
        obtain ⟨p, hp, rfl, rfl, rfl, rfl, rfl⟩ := pos_of_trods g0 g1 g2 g3 g4
        exact ⟨p, hp, hat 0 (by omega), hat 1 (by omega), hat 2 (by omega), hat 3 (by omega), hat 4 (by omega)⟩
    by_cases h0 : len = 0
    · subst h0
      exact ⟨[], ⟨_, _, rfl, Nat.zero_le _, hm, rfl, by simp, .inl rfl⟩, fun p hp => by cases hp⟩
    · obtain ⟨b, off, spot⟩ := x
      obtain ⟨_, _, hc0, _⟩ := each 0 (by omega)
      have hspot : spot = none := by
        have := World.cell?_spot hc0
        simpa [Addr.add] using this
      subst hspot
      simp only [add_lit, Nat.add_zero] at each
      have list : ∀ k, k ≤ len → ∃ ps : List Pos, ps.length = k ∧ ∀ i p, ps[i]? = some p → p.fits ∧ PCells W b (off + i * 5) p := by
        intro k
        induction k with
        | zero => exact fun _ => ⟨[], rfl, fun i n h => by simp at h⟩
        | succ k ih =>
          intro hk
          obtain ⟨ps, hlen, hps⟩ := ih (by omega)
          obtain ⟨p, hpf, hpc⟩ := each k (by omega)
          refine ⟨ps ++ [p], by simp [hlen], fun i q hq => ?_⟩
          by_cases hik : i < k
          · rw [List.getElem?_append_left (by omega)] at hq
            exact hps i q hq
          · have hlt := (List.getElem?_eq_some_iff.1 hq).1
            simp [hlen] at hlt
            obtain rfl : i = k := by omega
            rw [List.getElem?_append_right (by omega), hlen] at hq
            simp at hq
            subst hq
            exact ⟨hpf, hpc⟩
      obtain ⟨ps, hlen, hps⟩ := list len (Nat.le_refl _)
      refine ⟨ps, ⟨_, _, by rw [hlen], by omega, hm, length_pcs ps, by simp, .inr ⟨b, off, rfl, fun j hj => ?_⟩⟩, fun p hp => ?_⟩
      · have hlt : j / 5 < ps.length := by omega
        obtain ⟨k0, k1, k2, k3, k4⟩ := (hps (j / 5) _ (get_pat hlt)).2
        have hget := pcs_get (get_pat hlt) (j % 5) (Nat.mod_lt _ (by decide))
        rw [show j / 5 * 5 + j % 5 = j from by omega] at hget
        rw [hget]
        rcases (show j % 5 = 0 ∨ j % 5 = 1 ∨ j % 5 = 2 ∨ j % 5 = 3 ∨ j % 5 = 4 from by omega) with e | e | e | e | e
        · rw [e, show off + j = off + j / 5 * 5 from by omega]
          exact k0
        · rw [e, show off + j = off + j / 5 * 5 + 1 from by omega]
          exact k1
        · rw [e, show off + j = off + j / 5 * 5 + 2 from by omega]
          exact k2
        · rw [e, show off + j = off + j / 5 * 5 + 3 from by omega]
          exact k3
        · rw [e, show off + j = off + j / 5 * 5 + 4 from by omega]
          exact k4
      obtain ⟨i, hi⟩ := List.getElem?_of_mem hp
      exact (hps i p hi).1


end Go.Proofs.Ytbloedaidbfehaa
