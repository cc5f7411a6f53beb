/- The document's own answer for layer 19: Do as a whole. -/
import Derived.Test.YtlaighghagcjjaaRg19
namespace Go.Proofs.Ytlaighghagcjjaa
open Go.RowKit Go.Cor
set_option linter.unusedVariables false
set_option linter.unusedSimpArgs false

theorem rdo19_at (v : Value) (L : List En) (c : Cm) (K : Nat) (w : World) (hv : IsX w 6 v L.length (row ecl L)) (hL : LOk L K) (hK : K < 1000000) :
    Calls Try.prog 25 #[v, cval c] w fun e w' => ∃ v', e = .returned (.tuple #[v', .int .i64 (doN L c : Int), .int .i64 (doK L c : Int)]) ∧ IsX w' 6 v' (doL L c).length (row ecl (doL L c)) ∧ (v' = v ∨ ∀ k, v'.ownBlock = some k → w.heap.size ≤ k) ∧ Below w.heap.size w w' := by
  have bad : ∀ k : Nat, k ≠ 0 → doK L c = k → ∀ (e : Ending) (w' : World), e = .returned (.tuple #[v, .int .i64 0, .int .i64 (k : Int)]) ∧ Below w.heap.size w w' → ∃ v', e = .returned (.tuple #[v', .int .i64 (doN L c : Int), .int .i64 (doK L c : Int)]) ∧ IsX w' 6 v' (doL L c).length (row ecl (doL L c)) ∧ (v' = v ∨ ∀ k, v'.ownBlock = some k → w.heap.size ≤ k) ∧ Below w.heap.size w w' := fun k hk0 hk e w' ⟨h1, h2⟩ => by
    obtain ⟨b1, b2⟩ := doL_bad (L := L) (c := c) (by rw [hk]; exact hk0)
    rw [b1, b2, hk]
    exact ⟨v, h1, hv.mono h2 (Nat.le_refl _), .inl rfl, h2⟩
  obtain ⟨x, cp, rfl, _, _⟩ := hv.slice
  obtain ⟨ck, cv, ce, ca, cn, a, b, d⟩ := c
  by_cases h1 : ck = 1
  · subst h1
    by_cases hm : near a ∧ near b ∧ near d ∧ a ≠ b ∧ a ≠ d ∧ b ≠ d
    · obtain ⟨n1, n2, n3, n4, n5, n6⟩ := hm
      unfold near at n1 n2 n3
      obtain ⟨A, rfl⟩ := Int.eq_ofNat_of_zero_le n1.1
      obtain ⟨B, rfl⟩ := Int.eq_ofNat_of_zero_le n2.1
      obtain ⟨D, rfl⟩ := Int.eq_ofNat_of_zero_le n3.1
      have hmk : makeOk ⟨1, cv, ce, ca, cn, A, B, D⟩ := ⟨⟨n1.1, n1.2⟩, ⟨n2.1, n2.2⟩, ⟨n3.1, n3.2⟩, n4, n5, n6⟩
      by_cases hf : 4096 ≤ L.length
      · exact (rd_full x L.length cp L cv ce ca cn A B D w hv hf (by omega) (by omega) (by omega) (by omega) (by omega) (by omega)).mono (bad 11 (by decide) (by unfold doK; rw [if_pos rfl, if_pos hmk, if_pos hf]))
      · have hk : doK L ⟨1, cv, ce, ca, cn, A, B, D⟩ = 0 := by unfold doK; rw [if_pos rfl, if_pos hmk, if_neg hf]
        obtain ⟨_, _, e1, e2⟩ := doK_make hk rfl
        refine (rd_make x L.length cp L cv ce ca cn A B D (L.length + 1) w hv (by omega) rfl (by omega) (by omega) (by omega) (by omega) (by omega) (by omega)).mono ?_
        rintro e w' ⟨v', r1, r2, r4, r3⟩
        rw [e1, e2, hk, List.length_append]
        exact ⟨v', r1, r2, .inr r4, r3⟩
    · have hmk : ¬ makeOk ⟨1, cv, ce, ca, cn, a, b, d⟩ := hm
      exact (rd_make_bad _ cv ce ca cn a b d w hm).mono (bad 1 (by decide) (by unfold doK; rw [if_pos rfl, if_neg hmk]))
  · by_cases hk : ck = 2 ∨ ck = 3 ∨ ck = 4
    · have hk' : 2 ≤ ck ∧ ck ≤ 4 := by omega
      have hdk : ∀ e, lookE L cv = some e → doK L ⟨ck, cv, ce, ca, cn, a, b, d⟩ = turnK e ⟨ck, cv, ce, ca, cn, a, b, d⟩ := fun e he => by
        unfold doK
        rw [if_neg h1, if_pos hk]
        show (match lookE L cv with | none => 6 | some e => turnK e _) = _
        rw [he]
      cases hl : lookE L cv with
      | none =>
        refine (rd_none _ L.length _ ck cv ce ca cn a b d w hv hk' (lookE_none hl)).mono (bad 6 (by decide) ?_)
        unfold doK
        rw [if_neg h1, if_pos hk]
        show (match lookE L cv with | none => 6 | some e => turnK e _) = _
        rw [hl]
      | some e0 =>
        obtain ⟨g1, g2⟩ := lookE_some hl
        have g3 := lookE_lt hl
        obtain ⟨i, hi⟩ : ∃ i, (cv - 1).toNat = i := ⟨_, rfl⟩
        obtain rfl : cv = (i : Int) + 1 := by omega
        rw [hi] at g2 g3
        have hb := hdk e0 hl
        have hep : e0.ep ≤ K := (hL.ok e0 (List.mem_of_getElem? g2)).2
        obtain ⟨ev, ep, ea, eb, ec, es⟩ := e0
        dsimp only at hep
        have fin : ∀ (M : Nat) (y : En), ep + 1 = M → turnE ⟨ev, ep, ea, eb, ec, es⟩ ⟨ck, (i : Int) + 1, ce, ca, cn, a, b, d⟩ = y → doK L ⟨ck, (i : Int) + 1, ce, ca, cn, a, b, d⟩ = 0 → ∀ (e : Ending) (w' : World), (∃ v', e = .returned (.tuple #[v', .int .i64 (M : Int), .int .i64 0]) ∧ IsX w' 6 v' L.length (row ecl (L.set i y)) ∧ (∀ k, v'.ownBlock = some k → w.heap.size ≤ k) ∧ Below w.heap.size w w') → ∃ v', e = .returned (.tuple #[v', .int .i64 (doN L ⟨ck, (i : Int) + 1, ce, ca, cn, a, b, d⟩ : Int), .int .i64 (doK L ⟨ck, (i : Int) + 1, ce, ca, cn, a, b, d⟩ : Int)]) ∧ IsX w' 6 v' (doL L ⟨ck, (i : Int) + 1, ce, ca, cn, a, b, d⟩).length (row ecl (doL L ⟨ck, (i : Int) + 1, ce, ca, cn, a, b, d⟩)) ∧ (v' = .slice x L.length cp ∨ ∀ k, v'.ownBlock = some k → w.heap.size ≤ k) ∧ Below w.heap.size w w' := fun M y hM hy h0 e w' ⟨v', r1, r2, r4, r3⟩ => by
          obtain ⟨e9, q1, q2, q3, q4⟩ := doK_zero h0 h1
          have q1' : lookE L ((i : Int) + 1) = some e9 := q1
          rw [hl] at q1'
          obtain rfl := Option.some.inj q1'
          have q3' : doL L ⟨ck, (i : Int) + 1, ce, ca, cn, a, b, d⟩ = L.set i y := by rw [q3, ← hy]; show L.set (((i : Int) + 1) - 1).toNat _ = _; rw [hi]
          rw [q3', q4, h0, List.length_set]
          refine ⟨v', ?_, r2, .inr r4, r3⟩
          rw [r1, ← hM]
          rfl
        by_cases hce : ce = (ep : Int)
        · subst hce
          rcases hk with rfl | rfl | rfl
          · cases es with
            | true => exact (rd_sealed _ L.length i L ep ca cn a b d ev ep ea eb ec w hv hL.len g3 g2).mono (bad 10 (by decide) (by rw [hb]; unfold turnK; simp))
            | false => exact (rd_seal _ L.length i L ep ca cn a b d ev ep ea eb ec (ep + 1) 0 w hv hL.len g3 g2 rfl (by omega)).mono (fin (ep + 1) _ rfl (by unfold turnE; simp) (by rw [hb]; unfold turnK; simp))
          · cases es with
            | false => exact (rd_open _ L.length i L ep ca cn a b d ev ep ea eb ec w hv hL.len g3 g2).mono (bad 8 (by decide) (by rw [hb]; unfold turnK; simp))
            | true => exact (rd_unseal _ L.length i L ep ca cn a b d ev ep ea eb ec (ep + 1) 0 w hv hL.len g3 g2 rfl (by omega)).mono (fin (ep + 1) _ rfl (by unfold turnE; simp) (by rw [hb]; unfold turnK; simp))
          · by_cases hx : 0 ≤ ca ∧ ca ≤ 2 ∧ near cn
            · obtain ⟨x1, x2, x3⟩ := hx
              by_cases hh : (ea : Int) = cn ∨ (eb : Int) = cn ∨ (ec : Int) = cn
              · exact (rd_there _ L.length i L ep ca cn a b d ev ep ea eb ec es w hv hL.len g3 g2 x1 x2 x3 hh).mono (bad 8 (by decide) (by
                  rw [hb]; unfold turnK
                  rw [if_pos rfl, if_neg (show ¬ (4 : Int) = 2 by decide), if_neg (show ¬ (4 : Int) = 3 by decide), if_pos ⟨x1, x2, x3⟩, if_pos (show hasE ⟨ev, ep, ea, eb, ec, es⟩ cn from hh)]))
              · have hz : turnK ⟨ev, ep, ea, eb, ec, es⟩ ⟨4, (i : Int) + 1, (ep : Int), ca, cn, a, b, d⟩ = 0 := by
                  unfold turnK
                  rw [if_pos rfl, if_neg (show ¬ (4 : Int) = 2 by decide), if_neg (show ¬ (4 : Int) = 3 by decide), if_pos ⟨x1, x2, x3⟩, if_neg (show ¬ hasE ⟨ev, ep, ea, eb, ec, es⟩ cn from hh)]
                obtain ⟨m, rfl⟩ := Int.eq_ofNat_of_zero_le x3.1
                have hm : m < 256 := by have := x3.2; omega
                have hca : ca = 0 ∨ ca = 1 ∨ ca = 2 := by omega
                rcases hca with rfl | rfl | rfl
                · exact (rd_rep0 _ L.length i L ep 0 m a b d ev ep ea eb ec (ep + 1) m es w hv hL.len g3 g2 rfl (by omega) hm (by omega) (by omega) (by omega)).mono (fin (ep + 1) _ rfl (by unfold turnE; simp) (by rw [hb]; exact hz))
                · exact (rd_rep1 _ L.length i L ep 1 m a b d ev ep ea eb ec (ep + 1) m es w hv hL.len g3 g2 rfl (by omega) hm (by omega) (by omega) (by omega)).mono (fin (ep + 1) _ rfl (by unfold turnE; simp) (by rw [hb]; exact hz))
                · exact (rd_rep2 _ L.length i L ep 2 m a b d ev ep ea eb ec (ep + 1) m es w hv hL.len g3 g2 rfl (by omega) hm (by omega) (by omega) (by omega)).mono (fin (ep + 1) _ rfl (by unfold turnE; simp) (by rw [hb]; exact hz))
            · exact (rd_arg _ L.length i L ep ca cn a b d ev ep ea eb ec es w hv hL.len g3 g2 hx).mono (bad 1 (by decide) (by
                rw [hb]; unfold turnK
                rw [if_pos rfl, if_neg (show ¬ (4 : Int) = 2 by decide), if_neg (show ¬ (4 : Int) = 3 by decide), if_neg hx]))
        · exact (rd_stale _ L.length i L ce ca cn a b d ev ep ea eb ec ck es w hv hL.len g3 g2 hk' hce).mono (bad 13 (by decide) (by rw [hb]; unfold turnK; rw [if_neg hce]))
    · have hd : doK L ⟨ck, cv, ce, ca, cn, a, b, d⟩ = 1 := by unfold doK; rw [if_neg h1, if_neg hk]
      exact (rd_kind _ ck cv ce ca cn a b d w (by omega)).mono (bad 1 (by decide) hd)
theorem rdo19_any (v : Value) (L : List En) (c : Cm) (K : Nat) (w : World) (hv : IsX w 6 v L.length (row ecl L)) (hL : LOk L K) (hK : K < 1000000) :
    Calls Try.prog 25 #[v, cval c] w fun e w' => ∃ v', e = .returned (.tuple #[v', .int .i64 (doN L c : Int), .int .i64 (doK L c : Int)]) ∧ IsX w' 6 v' (doL L c).length (row ecl (doL L c)) ∧ Below w.heap.size w w' :=
  (rdo19_at v L c K w hv hL hK).mono fun e w' ⟨v', h1, h2, _, h3⟩ => ⟨v', h1, h2, h3⟩
end Go.Proofs.Ytlaighghagcjjaa
