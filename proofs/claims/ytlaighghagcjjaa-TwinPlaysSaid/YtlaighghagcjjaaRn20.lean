/- The document's own pair (layer 20): Do of any pair, of any call. -/
import Derived.Test.YtlaighghagcjjaaRx20
import Derived.Test.YtlaighghagcjjaaRy20
import Derived.Test.YtlaighghagcjjaaRz20
import Derived.Test.YtlaighghagcjjaaRb20
import Derived.Test.YtlaighghagcjjaaTnF
namespace Go.Proofs.Ytlaighghagcjjaa
open Go.RowKit Go.Cor
set_option linter.unusedVariables false
set_option linter.unusedSimpArgs false

/-- A pair as the document's value, its logs va and vb. -/
def pval (va vb : Value) (p : Pr) : Value := .agg #[va, vb, .bool p.u0, .bool p.u1, .int .i64 (sn p.ld : Int), .int .i64 (p.tm : Int), .int .i64 (p.st : Int)]
structure Pv (w : World) (va vb : Value) (p : Pr) : Prop where
  a : IsX w 8 va p.a.length (row ccl p.a)
  b : IsX w 8 vb p.b.length (row ccl p.b)
def Rdone (w : World) (va vb : Value) (p : Pr) (a : Ac20) (e : Ending) (w' : World) : Prop :=
  ∃ va' vb', e = .returned (.tuple #[pval va' vb' (actP p a), .int .i64 (actN p a : Int), .int .i64 (actK p a : Int)]) ∧ Pv w' va' vb' (actP p a) ∧ (va' = va ∨ ∀ k, va'.ownBlock = some k → w.heap.size ≤ k) ∧ (vb' = vb ∨ ∀ k, vb'.ownBlock = some k → w.heap.size ≤ k) ∧ Below w.heap.size w w'
theorem rdo_fin {w w' : World} {va vb va' vb' : Value} {p q : Pr} {a : Ac20} {e : Ending} {N K : Nat} (hq : actP p a = q) (hN : actN p a = N) (hK : actK p a = K) (he : e = .returned (.tuple #[pval va' vb' q, .int .i64 (N : Int), .int .i64 (K : Int)])) (hv : Pv w' va' vb' q)
    (ha : va' = va ∨ ∀ k, va'.ownBlock = some k → w.heap.size ≤ k) (hb : vb' = vb ∨ ∀ k, vb'.ownBlock = some k → w.heap.size ≤ k) (hB : Below w.heap.size w w') : Rdone w va vb p a e w' := by
  subst hq hN hK
  exact ⟨va', vb', he, hv, ha, hb, hB⟩
theorem rdo_same {w w' : World} {va vb : Value} {p : Pr} {a : Ac20} {e : Ending} {K : Nat} (h : Pv w va vb p) (hq : actP p a = p) (hN : actN p a = 0) (hK : actK p a = K) (he : e = .returned (.tuple #[pval va vb p, .int .i64 0, .int .i64 (K : Int)])) (hB : Below w.heap.size w w') : Rdone w va vb p a e w' :=
  rdo_fin hq hN hK he ⟨h.a.mono hB (Nat.le_refl _), h.b.mono hB (Nat.le_refl _)⟩ (.inl rfl) (.inl rfl) hB
theorem ifn (a b : Nat) : (if (a : Int) < (b : Int) then (b : Int) else (a : Int)) = (((if a < b then b else a) : Nat) : Int) := by
  by_cases h : a < b
  · rw [if_pos h, if_pos (by omega)]
  · rw [if_neg h, if_neg (by omega)]
set_option maxRecDepth 100000 in
set_option maxHeartbeats 4000000 in
theorem rdo20_ask (va vb : Value) (p : Pr) (a : Ac20) (w : World) (h : Pv w va vb p) (ho : p.Ok) (hl : p.Le 900) (hk : a.kind = 0) :
    Calls Try.prog 10 #[pval va vb p, aval a] w (Rdone w va vb p a) := by
  obtain ⟨xa, ca, rfl, _, _⟩ := h.a.slice
  obtain ⟨xb, cb, rfl, _, _⟩ := h.b.slice
  obtain ⟨A, B, u0, u1, ld, tm, st⟩ := p
  obtain ⟨k, t, s, ⟨ck, cv, ce, cc, cn, c1, c2, c3⟩⟩ := a
  have hb0 : A.length ≤ 1000 := Nat.le_trans (hl.log false) (by decide)
  have hb1 : B.length ≤ 1000 := Nat.le_trans (hl.log true) (by decide)
  have htm : tm ≤ 901 := hl.tm.2
  simp only at hk h
  subst hk
  cases ld
  · cases u0
    · exact (ask_down0 xa xb A.length B.length ca cb u1 (tm : Int) (st : Int) t s ck cv ce cc cn c1 c2 c3 w).mono fun e w' ⟨h1, h2⟩ => rdo_same h (by simp [actP, actN, actK, askP, askN, askK, shipP, shipK, fallP, fallK, riseP, riseK, Pr.up, Pr.log, Pr.setLog, Pr.setUp, Pr.settle, Pr.next, sd]) (by simp [actP, actN, actK, askP, askN, askK, shipP, shipK, fallP, fallK, riseP, riseK, Pr.up, Pr.log, Pr.setLog, Pr.setUp, Pr.settle, Pr.next, sd]) (by simp [actP, actN, actK, askP, askN, askK, shipP, shipK, fallP, fallK, riseP, riseK, Pr.up, Pr.log, Pr.setLog, Pr.setUp, Pr.settle, Pr.next, sd]) h1 h2
    · by_cases ht : t = (tm : Int)
      · subst ht
        cases u1
        · refine (ask_ok0d xa xb A.length B.length ca cb A (tm : Int) (st : Int) s ck cv ce cc cn c1 c2 c3 w h.a hb0).mono ?_
          rintro e w' ⟨x, k, h1, h2, h3, h4⟩
          rw [show ((if (st : Int) < (A.length : Int) + 1 then (A.length : Int) + 1 else (st : Int)) = (((if st < A.length + 1 then A.length + 1 else st) : Nat) : Int)) from ifn st (A.length + 1)] at h1
          exact rdo_fin (q := ⟨A ++ [⟨ck, cv, ce, cc, cn, c1, c2, c3⟩], B, true, false, false, tm, if st < A.length + 1 then A.length + 1 else st⟩) (va' := (.slice x (A.length + 1) k)) (vb' := (.slice xb B.length cb)) (by simp [actP, actN, actK, askP, askN, askK, shipP, shipK, fallP, fallK, riseP, riseK, Pr.up, Pr.log, Pr.setLog, Pr.setUp, Pr.settle, Pr.next, sd]) (N := A.length) (by simp [actP, actN, actK, askP, askN, askK, shipP, shipK, fallP, fallK, riseP, riseK, Pr.up, Pr.log, Pr.setLog, Pr.setUp, Pr.settle, Pr.next, sd]) (by simp [actP, actN, actK, askP, askN, askK, shipP, shipK, fallP, fallK, riseP, riseK, Pr.up, Pr.log, Pr.setLog, Pr.setUp, Pr.settle, Pr.next, sd]) h1 ⟨(by rw [List.length_append, List.length_singleton]; exact h2), h.b.mono h4 (Nat.le_refl _)⟩ (.inr h3) (.inl rfl) h4
        · refine (ask_ok0u xa xb A.length B.length ca cb A (tm : Int) (st : Int) s ck cv ce cc cn c1 c2 c3 w h.a hb0).mono ?_
          rintro e w' ⟨x, k, h1, h2, h3, h4⟩
          exact rdo_fin (q := ⟨A ++ [⟨ck, cv, ce, cc, cn, c1, c2, c3⟩], B, true, true, false, tm, st⟩) (va' := (.slice x (A.length + 1) k)) (vb' := (.slice xb B.length cb)) (by simp [actP, actN, actK, askP, askN, askK, shipP, shipK, fallP, fallK, riseP, riseK, Pr.up, Pr.log, Pr.setLog, Pr.setUp, Pr.settle, Pr.next, sd]) (N := A.length) (by simp [actP, actN, actK, askP, askN, askK, shipP, shipK, fallP, fallK, riseP, riseK, Pr.up, Pr.log, Pr.setLog, Pr.setUp, Pr.settle, Pr.next, sd]) (by simp [actP, actN, actK, askP, askN, askK, shipP, shipK, fallP, fallK, riseP, riseK, Pr.up, Pr.log, Pr.setLog, Pr.setUp, Pr.settle, Pr.next, sd]) h1 ⟨(by rw [List.length_append, List.length_singleton]; exact h2), h.b.mono h4 (Nat.le_refl _)⟩ (.inr h3) (.inl rfl) h4
      · exact (ask_stale0 xa xb A.length B.length ca cb u1 (tm : Int) (st : Int) t s ck cv ce cc cn c1 c2 c3 w ht).mono fun e w' ⟨h1, h2⟩ => rdo_same h (by simp [actP, actN, actK, askP, askN, askK, shipP, shipK, fallP, fallK, riseP, riseK, Pr.up, Pr.log, Pr.setLog, Pr.setUp, Pr.settle, Pr.next, sd, ht]) (by simp [actP, actN, actK, askP, askN, askK, shipP, shipK, fallP, fallK, riseP, riseK, Pr.up, Pr.log, Pr.setLog, Pr.setUp, Pr.settle, Pr.next, sd, ht]) (by simp [actP, actN, actK, askP, askN, askK, shipP, shipK, fallP, fallK, riseP, riseK, Pr.up, Pr.log, Pr.setLog, Pr.setUp, Pr.settle, Pr.next, sd, ht]) h1 h2
  · cases u1
    · exact (ask_down1 xa xb A.length B.length ca cb u0 (tm : Int) (st : Int) t s ck cv ce cc cn c1 c2 c3 w).mono fun e w' ⟨h1, h2⟩ => rdo_same h (by simp [actP, actN, actK, askP, askN, askK, shipP, shipK, fallP, fallK, riseP, riseK, Pr.up, Pr.log, Pr.setLog, Pr.setUp, Pr.settle, Pr.next, sd]) (by simp [actP, actN, actK, askP, askN, askK, shipP, shipK, fallP, fallK, riseP, riseK, Pr.up, Pr.log, Pr.setLog, Pr.setUp, Pr.settle, Pr.next, sd]) (by simp [actP, actN, actK, askP, askN, askK, shipP, shipK, fallP, fallK, riseP, riseK, Pr.up, Pr.log, Pr.setLog, Pr.setUp, Pr.settle, Pr.next, sd]) h1 h2
    · by_cases ht : t = (tm : Int)
      · subst ht
        cases u0
        · refine (ask_ok1d xa xb A.length B.length ca cb B (tm : Int) (st : Int) s ck cv ce cc cn c1 c2 c3 w h.b hb1).mono ?_
          rintro e w' ⟨x, k, h1, h2, h3, h4⟩
          rw [show ((if (st : Int) < (B.length : Int) + 1 then (B.length : Int) + 1 else (st : Int)) = (((if st < B.length + 1 then B.length + 1 else st) : Nat) : Int)) from ifn st (B.length + 1)] at h1
          exact rdo_fin (q := ⟨A, B ++ [⟨ck, cv, ce, cc, cn, c1, c2, c3⟩], false, true, true, tm, if st < B.length + 1 then B.length + 1 else st⟩) (va' := (.slice xa A.length ca)) (vb' := (.slice x (B.length + 1) k)) (by simp [actP, actN, actK, askP, askN, askK, shipP, shipK, fallP, fallK, riseP, riseK, Pr.up, Pr.log, Pr.setLog, Pr.setUp, Pr.settle, Pr.next, sd]) (N := B.length) (by simp [actP, actN, actK, askP, askN, askK, shipP, shipK, fallP, fallK, riseP, riseK, Pr.up, Pr.log, Pr.setLog, Pr.setUp, Pr.settle, Pr.next, sd]) (by simp [actP, actN, actK, askP, askN, askK, shipP, shipK, fallP, fallK, riseP, riseK, Pr.up, Pr.log, Pr.setLog, Pr.setUp, Pr.settle, Pr.next, sd]) h1 ⟨h.a.mono h4 (Nat.le_refl _), (by rw [List.length_append, List.length_singleton]; exact h2)⟩ (.inl rfl) (.inr h3) h4
        · refine (ask_ok1u xa xb A.length B.length ca cb B (tm : Int) (st : Int) s ck cv ce cc cn c1 c2 c3 w h.b hb1).mono ?_
          rintro e w' ⟨x, k, h1, h2, h3, h4⟩
          exact rdo_fin (q := ⟨A, B ++ [⟨ck, cv, ce, cc, cn, c1, c2, c3⟩], true, true, true, tm, st⟩) (va' := (.slice xa A.length ca)) (vb' := (.slice x (B.length + 1) k)) (by simp [actP, actN, actK, askP, askN, askK, shipP, shipK, fallP, fallK, riseP, riseK, Pr.up, Pr.log, Pr.setLog, Pr.setUp, Pr.settle, Pr.next, sd]) (N := B.length) (by simp [actP, actN, actK, askP, askN, askK, shipP, shipK, fallP, fallK, riseP, riseK, Pr.up, Pr.log, Pr.setLog, Pr.setUp, Pr.settle, Pr.next, sd]) (by simp [actP, actN, actK, askP, askN, askK, shipP, shipK, fallP, fallK, riseP, riseK, Pr.up, Pr.log, Pr.setLog, Pr.setUp, Pr.settle, Pr.next, sd]) h1 ⟨h.a.mono h4 (Nat.le_refl _), (by rw [List.length_append, List.length_singleton]; exact h2)⟩ (.inl rfl) (.inr h3) h4
      · exact (ask_stale1 xa xb A.length B.length ca cb u0 (tm : Int) (st : Int) t s ck cv ce cc cn c1 c2 c3 w ht).mono fun e w' ⟨h1, h2⟩ => rdo_same h (by simp [actP, actN, actK, askP, askN, askK, shipP, shipK, fallP, fallK, riseP, riseK, Pr.up, Pr.log, Pr.setLog, Pr.setUp, Pr.settle, Pr.next, sd, ht]) (by simp [actP, actN, actK, askP, askN, askK, shipP, shipK, fallP, fallK, riseP, riseK, Pr.up, Pr.log, Pr.setLog, Pr.setUp, Pr.settle, Pr.next, sd, ht]) (by simp [actP, actN, actK, askP, askN, askK, shipP, shipK, fallP, fallK, riseP, riseK, Pr.up, Pr.log, Pr.setLog, Pr.setUp, Pr.settle, Pr.next, sd, ht]) h1 h2
set_option maxRecDepth 100000 in
set_option maxHeartbeats 4000000 in
theorem rdo20_ship (va vb : Value) (p : Pr) (a : Ac20) (w : World) (h : Pv w va vb p) (ho : p.Ok) (hl : p.Le 900) (hk : a.kind = 1) :
    Calls Try.prog 10 #[pval va vb p, aval a] w (Rdone w va vb p a) := by
  obtain ⟨xa, ca, rfl, _, _⟩ := h.a.slice
  obtain ⟨xb, cb, rfl, _, _⟩ := h.b.slice
  obtain ⟨A, B, u0, u1, ld, tm, st⟩ := p
  obtain ⟨k, t, s, ⟨ck, cv, ce, cc, cn, c1, c2, c3⟩⟩ := a
  have hb0 : A.length ≤ 1000 := Nat.le_trans (hl.log false) (by decide)
  have hb1 : B.length ≤ 1000 := Nat.le_trans (hl.log true) (by decide)
  have htm : tm ≤ 901 := hl.tm.2
  simp only at hk h
  subst hk
  cases ld
  · cases u0
    · exact (ship_down0a xa xb A.length B.length ca cb u1 (tm : Int) (st : Int) t s ck cv ce cc cn c1 c2 c3 w).mono fun e w' ⟨h1, h2⟩ => rdo_same h (by simp [actP, actN, actK, askP, askN, askK, shipP, shipK, fallP, fallK, riseP, riseK, Pr.up, Pr.log, Pr.setLog, Pr.setUp, Pr.settle, Pr.next, sd]) (by simp [actP, actN, actK, askP, askN, askK, shipP, shipK, fallP, fallK, riseP, riseK, Pr.up, Pr.log, Pr.setLog, Pr.setUp, Pr.settle, Pr.next, sd]) (by simp [actP, actN, actK, askP, askN, askK, shipP, shipK, fallP, fallK, riseP, riseK, Pr.up, Pr.log, Pr.setLog, Pr.setUp, Pr.settle, Pr.next, sd]) h1 h2
    · cases u1
      · exact (ship_down0b xa xb A.length B.length ca cb (tm : Int) (st : Int) t s ck cv ce cc cn c1 c2 c3 w).mono fun e w' ⟨h1, h2⟩ => rdo_same h (by simp [actP, actN, actK, askP, askN, askK, shipP, shipK, fallP, fallK, riseP, riseK, Pr.up, Pr.log, Pr.setLog, Pr.setUp, Pr.settle, Pr.next, sd]) (by simp [actP, actN, actK, askP, askN, askK, shipP, shipK, fallP, fallK, riseP, riseK, Pr.up, Pr.log, Pr.setLog, Pr.setUp, Pr.settle, Pr.next, sd]) (by simp [actP, actN, actK, askP, askN, askK, shipP, shipK, fallP, fallK, riseP, riseK, Pr.up, Pr.log, Pr.setLog, Pr.setUp, Pr.settle, Pr.next, sd]) h1 h2
      · by_cases ht : t = (tm : Int)
        · subst ht
          obtain ⟨f1, f2, f3⟩ := ho.fo rfl
          have f2' : B = A.take B.length := f2
          have hle : B.length ≤ A.length := ho.le rfl
          by_cases hlt : B.length < A.length
          · have hnle : ¬ A.length ≤ B.length := by omega
            obtain ⟨⟨dk, dv, de, dc, dn, d1, d2, d3⟩, hd⟩ : ∃ d, A[B.length]? = some d := ⟨_, List.getElem?_eq_getElem hlt⟩
            have htk : A.take (B.length + 1) = B ++ [⟨dk, dv, de, dc, dn, d1, d2, d3⟩] := by rw [List.take_add_one, hd, ← f2']; rfl
            have hlen1 : (A.take (B.length + 1)).length = B.length + 1 := by rw [List.length_take]; omega
            refine (ship_ok0 xa xb A.length B.length ca cb B A (tm : Int) (st : Int) s ck cv ce cc cn c1 c2 c3 dk dv de dc dn d1 d2 d3 w h.b h.a hb1 hlt hd).mono ?_
            rintro e w' ⟨x, k, h1, h2, h3, h4⟩
            rw [show ((if (st : Int) < (B.length : Int) + 1 then (B.length : Int) + 1 else (st : Int)) = (((if st < B.length + 1 then B.length + 1 else st) : Nat) : Int)) from ifn st (B.length + 1)] at h1
            exact rdo_fin (q := ⟨A, A.take (B.length + 1), true, true, false, tm, if st < B.length + 1 then B.length + 1 else st⟩) (va' := (.slice xa A.length ca)) (vb' := (.slice x (B.length + 1) k)) (by simp [actP, actN, actK, askP, askN, askK, shipP, shipK, fallP, fallK, riseP, riseK, Pr.up, Pr.log, Pr.setLog, Pr.setUp, Pr.settle, Pr.next, sd, hnle]) (N := 0) (by simp [actP, actN, actK, askP, askN, askK, shipP, shipK, fallP, fallK, riseP, riseK, Pr.up, Pr.log, Pr.setLog, Pr.setUp, Pr.settle, Pr.next, sd, hnle]) (by simp [actP, actN, actK, askP, askN, askK, shipP, shipK, fallP, fallK, riseP, riseK, Pr.up, Pr.log, Pr.setLog, Pr.setUp, Pr.settle, Pr.next, sd, hnle]) h1 ⟨h.a.mono h4 (Nat.le_refl _), (by rw [hlen1, htk]; exact h2)⟩ (.inl rfl) (.inr h3) h4
          · have hge : A.length ≤ B.length := by omega
            have heq : B.length = A.length := by omega
            exact (ship_none0 xa xb A.length B.length ca cb (tm : Int) (st : Int) (tm : Int) s ck cv ce cc cn c1 c2 c3 w rfl heq).mono fun e w' ⟨h1, h2⟩ => rdo_same h (by simp [actP, actN, actK, askP, askN, askK, shipP, shipK, fallP, fallK, riseP, riseK, Pr.up, Pr.log, Pr.setLog, Pr.setUp, Pr.settle, Pr.next, sd, hge]) (by simp [actP, actN, actK, askP, askN, askK, shipP, shipK, fallP, fallK, riseP, riseK, Pr.up, Pr.log, Pr.setLog, Pr.setUp, Pr.settle, Pr.next, sd, hge]) (by simp [actP, actN, actK, askP, askN, askK, shipP, shipK, fallP, fallK, riseP, riseK, Pr.up, Pr.log, Pr.setLog, Pr.setUp, Pr.settle, Pr.next, sd, hge]) h1 h2
        · exact (ship_stale0 xa xb A.length B.length ca cb (tm : Int) (st : Int) t s ck cv ce cc cn c1 c2 c3 w ht).mono fun e w' ⟨h1, h2⟩ => rdo_same h (by simp [actP, actN, actK, askP, askN, askK, shipP, shipK, fallP, fallK, riseP, riseK, Pr.up, Pr.log, Pr.setLog, Pr.setUp, Pr.settle, Pr.next, sd, ht]) (by simp [actP, actN, actK, askP, askN, askK, shipP, shipK, fallP, fallK, riseP, riseK, Pr.up, Pr.log, Pr.setLog, Pr.setUp, Pr.settle, Pr.next, sd, ht]) (by simp [actP, actN, actK, askP, askN, askK, shipP, shipK, fallP, fallK, riseP, riseK, Pr.up, Pr.log, Pr.setLog, Pr.setUp, Pr.settle, Pr.next, sd, ht]) h1 h2
  · cases u0
    · exact (ship_down1a xa xb A.length B.length ca cb u1 (tm : Int) (st : Int) t s ck cv ce cc cn c1 c2 c3 w).mono fun e w' ⟨h1, h2⟩ => rdo_same h (by simp [actP, actN, actK, askP, askN, askK, shipP, shipK, fallP, fallK, riseP, riseK, Pr.up, Pr.log, Pr.setLog, Pr.setUp, Pr.settle, Pr.next, sd]) (by simp [actP, actN, actK, askP, askN, askK, shipP, shipK, fallP, fallK, riseP, riseK, Pr.up, Pr.log, Pr.setLog, Pr.setUp, Pr.settle, Pr.next, sd]) (by simp [actP, actN, actK, askP, askN, askK, shipP, shipK, fallP, fallK, riseP, riseK, Pr.up, Pr.log, Pr.setLog, Pr.setUp, Pr.settle, Pr.next, sd]) h1 h2
    · cases u1
      · exact (ship_down1b xa xb A.length B.length ca cb (tm : Int) (st : Int) t s ck cv ce cc cn c1 c2 c3 w).mono fun e w' ⟨h1, h2⟩ => rdo_same h (by simp [actP, actN, actK, askP, askN, askK, shipP, shipK, fallP, fallK, riseP, riseK, Pr.up, Pr.log, Pr.setLog, Pr.setUp, Pr.settle, Pr.next, sd]) (by simp [actP, actN, actK, askP, askN, askK, shipP, shipK, fallP, fallK, riseP, riseK, Pr.up, Pr.log, Pr.setLog, Pr.setUp, Pr.settle, Pr.next, sd]) (by simp [actP, actN, actK, askP, askN, askK, shipP, shipK, fallP, fallK, riseP, riseK, Pr.up, Pr.log, Pr.setLog, Pr.setUp, Pr.settle, Pr.next, sd]) h1 h2
      · by_cases ht : t = (tm : Int)
        · subst ht
          obtain ⟨f1, f2, f3⟩ := ho.fo rfl
          have f2' : A = B.take A.length := f2
          have hle : A.length ≤ B.length := ho.le rfl
          by_cases hlt : A.length < B.length
          · have hnle : ¬ B.length ≤ A.length := by omega
            obtain ⟨⟨dk, dv, de, dc, dn, d1, d2, d3⟩, hd⟩ : ∃ d, B[A.length]? = some d := ⟨_, List.getElem?_eq_getElem hlt⟩
            have htk : B.take (A.length + 1) = A ++ [⟨dk, dv, de, dc, dn, d1, d2, d3⟩] := by rw [List.take_add_one, hd, ← f2']; rfl
            have hlen1 : (B.take (A.length + 1)).length = A.length + 1 := by rw [List.length_take]; omega
            refine (ship_ok1 xa xb A.length B.length ca cb A B (tm : Int) (st : Int) s ck cv ce cc cn c1 c2 c3 dk dv de dc dn d1 d2 d3 w h.a h.b hb0 hlt hd).mono ?_
            rintro e w' ⟨x, k, h1, h2, h3, h4⟩
            rw [show ((if (st : Int) < (A.length : Int) + 1 then (A.length : Int) + 1 else (st : Int)) = (((if st < A.length + 1 then A.length + 1 else st) : Nat) : Int)) from ifn st (A.length + 1)] at h1
            exact rdo_fin (q := ⟨B.take (A.length + 1), B, true, true, true, tm, if st < A.length + 1 then A.length + 1 else st⟩) (va' := (.slice x (A.length + 1) k)) (vb' := (.slice xb B.length cb)) (by simp [actP, actN, actK, askP, askN, askK, shipP, shipK, fallP, fallK, riseP, riseK, Pr.up, Pr.log, Pr.setLog, Pr.setUp, Pr.settle, Pr.next, sd, hnle]) (N := 0) (by simp [actP, actN, actK, askP, askN, askK, shipP, shipK, fallP, fallK, riseP, riseK, Pr.up, Pr.log, Pr.setLog, Pr.setUp, Pr.settle, Pr.next, sd, hnle]) (by simp [actP, actN, actK, askP, askN, askK, shipP, shipK, fallP, fallK, riseP, riseK, Pr.up, Pr.log, Pr.setLog, Pr.setUp, Pr.settle, Pr.next, sd, hnle]) h1 ⟨(by rw [hlen1, htk]; exact h2), h.b.mono h4 (Nat.le_refl _)⟩ (.inr h3) (.inl rfl) h4
          · have hge : B.length ≤ A.length := by omega
            have heq : B.length = A.length := by omega
            exact (ship_none1 xa xb A.length B.length ca cb (tm : Int) (st : Int) (tm : Int) s ck cv ce cc cn c1 c2 c3 w rfl heq).mono fun e w' ⟨h1, h2⟩ => rdo_same h (by simp [actP, actN, actK, askP, askN, askK, shipP, shipK, fallP, fallK, riseP, riseK, Pr.up, Pr.log, Pr.setLog, Pr.setUp, Pr.settle, Pr.next, sd, hge]) (by simp [actP, actN, actK, askP, askN, askK, shipP, shipK, fallP, fallK, riseP, riseK, Pr.up, Pr.log, Pr.setLog, Pr.setUp, Pr.settle, Pr.next, sd, hge]) (by simp [actP, actN, actK, askP, askN, askK, shipP, shipK, fallP, fallK, riseP, riseK, Pr.up, Pr.log, Pr.setLog, Pr.setUp, Pr.settle, Pr.next, sd, hge]) h1 h2
        · exact (ship_stale1 xa xb A.length B.length ca cb (tm : Int) (st : Int) t s ck cv ce cc cn c1 c2 c3 w ht).mono fun e w' ⟨h1, h2⟩ => rdo_same h (by simp [actP, actN, actK, askP, askN, askK, shipP, shipK, fallP, fallK, riseP, riseK, Pr.up, Pr.log, Pr.setLog, Pr.setUp, Pr.settle, Pr.next, sd, ht]) (by simp [actP, actN, actK, askP, askN, askK, shipP, shipK, fallP, fallK, riseP, riseK, Pr.up, Pr.log, Pr.setLog, Pr.setUp, Pr.settle, Pr.next, sd, ht]) (by simp [actP, actN, actK, askP, askN, askK, shipP, shipK, fallP, fallK, riseP, riseK, Pr.up, Pr.log, Pr.setLog, Pr.setUp, Pr.settle, Pr.next, sd, ht]) h1 h2
set_option maxRecDepth 100000 in
set_option maxHeartbeats 4000000 in
theorem rdo20_fall (va vb : Value) (p : Pr) (a : Ac20) (w : World) (h : Pv w va vb p) (ho : p.Ok) (hl : p.Le 900) (hk : a.kind = 2) :
    Calls Try.prog 10 #[pval va vb p, aval a] w (Rdone w va vb p a) := by
  obtain ⟨xa, ca, rfl, _, _⟩ := h.a.slice
  obtain ⟨xb, cb, rfl, _, _⟩ := h.b.slice
  obtain ⟨A, B, u0, u1, ld, tm, st⟩ := p
  obtain ⟨k, t, s, ⟨ck, cv, ce, cc, cn, c1, c2, c3⟩⟩ := a
  have hb0 : A.length ≤ 1000 := Nat.le_trans (hl.log false) (by decide)
  have hb1 : B.length ≤ 1000 := Nat.le_trans (hl.log true) (by decide)
  have htm : tm ≤ 901 := hl.tm.2
  simp only at hk h
  subst hk
  cases ld
  · by_cases hs : s < 0
    · exact (side20a xa xb A.length B.length ca cb u0 u1 (tm : Int) (st : Int) t s ck cv ce cc cn c1 c2 c3 w hs).mono fun e w' ⟨h1, h2⟩ => rdo_same h (by simp [actP, actN, actK, askP, askN, askK, shipP, shipK, fallP, fallK, riseP, riseK, Pr.up, Pr.log, Pr.setLog, Pr.setUp, Pr.settle, Pr.next, sd, show ¬ (0 : Int) ≤ s by omega]) (by simp [actP, actN, actK, askP, askN, askK, shipP, shipK, fallP, fallK, riseP, riseK, Pr.up, Pr.log, Pr.setLog, Pr.setUp, Pr.settle, Pr.next, sd, show ¬ (0 : Int) ≤ s by omega]) (by simp [actP, actN, actK, askP, askN, askK, shipP, shipK, fallP, fallK, riseP, riseK, Pr.up, Pr.log, Pr.setLog, Pr.setUp, Pr.settle, Pr.next, sd, show ¬ (0 : Int) ≤ s by omega]) h1 h2
    · by_cases hs : s > 1
      · exact (side20b xa xb A.length B.length ca cb u0 u1 (tm : Int) (st : Int) t s ck cv ce cc cn c1 c2 c3 w hs).mono fun e w' ⟨h1, h2⟩ => rdo_same h (by simp [actP, actN, actK, askP, askN, askK, shipP, shipK, fallP, fallK, riseP, riseK, Pr.up, Pr.log, Pr.setLog, Pr.setUp, Pr.settle, Pr.next, sd, show ¬ s ≤ (1 : Int) by omega]) (by simp [actP, actN, actK, askP, askN, askK, shipP, shipK, fallP, fallK, riseP, riseK, Pr.up, Pr.log, Pr.setLog, Pr.setUp, Pr.settle, Pr.next, sd, show ¬ s ≤ (1 : Int) by omega]) (by simp [actP, actN, actK, askP, askN, askK, shipP, shipK, fallP, fallK, riseP, riseK, Pr.up, Pr.log, Pr.setLog, Pr.setUp, Pr.settle, Pr.next, sd, show ¬ s ≤ (1 : Int) by omega]) h1 h2
      · obtain rfl | rfl : s = 0 ∨ s = 1 := by omega
        · cases u0
          · exact (fall_down00 xa xb A.length B.length ca cb u1 (tm : Int) (st : Int) t ck cv ce cc cn c1 c2 c3 w).mono fun e w' ⟨h1, h2⟩ => rdo_same h (by simp [actP, actN, actK, askP, askN, askK, shipP, shipK, fallP, fallK, riseP, riseK, Pr.up, Pr.log, Pr.setLog, Pr.setUp, Pr.settle, Pr.next, sd]) (by simp [actP, actN, actK, askP, askN, askK, shipP, shipK, fallP, fallK, riseP, riseK, Pr.up, Pr.log, Pr.setLog, Pr.setUp, Pr.settle, Pr.next, sd]) (by simp [actP, actN, actK, askP, askN, askK, shipP, shipK, fallP, fallK, riseP, riseK, Pr.up, Pr.log, Pr.setLog, Pr.setUp, Pr.settle, Pr.next, sd]) h1 h2
          · cases u1
            · refine (fall_alone00 xa xb A.length B.length ca cb (tm : Int) (st : Int) t ck cv ce cc cn c1 c2 c3 w).mono ?_
              rintro e w' ⟨h1, h4⟩
              exact rdo_fin (q := ⟨A, B, false, false, false, tm, st⟩) (va' := .slice xa A.length ca) (vb' := .slice xb B.length cb) (by simp [actP, actN, actK, askP, askN, askK, shipP, shipK, fallP, fallK, riseP, riseK, Pr.up, Pr.log, Pr.setLog, Pr.setUp, Pr.settle, Pr.next, sd]) (N := 0) (by simp [actP, actN, actK, askP, askN, askK, shipP, shipK, fallP, fallK, riseP, riseK, Pr.up, Pr.log, Pr.setLog, Pr.setUp, Pr.settle, Pr.next, sd]) (by simp [actP, actN, actK, askP, askN, askK, shipP, shipK, fallP, fallK, riseP, riseK, Pr.up, Pr.log, Pr.setLog, Pr.setUp, Pr.settle, Pr.next, sd]) h1 ⟨h.a.mono h4 (Nat.le_refl _), h.b.mono h4 (Nat.le_refl _)⟩ (.inl rfl) (.inl rfl) h4
            · refine (fall_lead0 xa xb A.length B.length ca cb (tm : Int) (st : Int) t ck cv ce cc cn c1 c2 c3 w ⟨by omega, by omega⟩).mono ?_
              rintro e w' ⟨h1, h4⟩
              rw [ifn st B.length] at h1
              exact rdo_fin (q := ⟨A, B, false, true, true, tm + 1, if st < B.length then B.length else st⟩) (va' := .slice xa A.length ca) (vb' := .slice xb B.length cb) (by simp [actP, actN, actK, askP, askN, askK, shipP, shipK, fallP, fallK, riseP, riseK, Pr.up, Pr.log, Pr.setLog, Pr.setUp, Pr.settle, Pr.next, sd]) (N := 0) (by simp [actP, actN, actK, askP, askN, askK, shipP, shipK, fallP, fallK, riseP, riseK, Pr.up, Pr.log, Pr.setLog, Pr.setUp, Pr.settle, Pr.next, sd]) (by simp [actP, actN, actK, askP, askN, askK, shipP, shipK, fallP, fallK, riseP, riseK, Pr.up, Pr.log, Pr.setLog, Pr.setUp, Pr.settle, Pr.next, sd]) h1 ⟨h.a.mono h4 (Nat.le_refl _), h.b.mono h4 (Nat.le_refl _)⟩ (.inl rfl) (.inl rfl) h4
        · cases u1
          · exact (fall_down01 xa xb A.length B.length ca cb u0 (tm : Int) (st : Int) t ck cv ce cc cn c1 c2 c3 w).mono fun e w' ⟨h1, h2⟩ => rdo_same h (by simp [actP, actN, actK, askP, askN, askK, shipP, shipK, fallP, fallK, riseP, riseK, Pr.up, Pr.log, Pr.setLog, Pr.setUp, Pr.settle, Pr.next, sd]) (by simp [actP, actN, actK, askP, askN, askK, shipP, shipK, fallP, fallK, riseP, riseK, Pr.up, Pr.log, Pr.setLog, Pr.setUp, Pr.settle, Pr.next, sd]) (by simp [actP, actN, actK, askP, askN, askK, shipP, shipK, fallP, fallK, riseP, riseK, Pr.up, Pr.log, Pr.setLog, Pr.setUp, Pr.settle, Pr.next, sd]) h1 h2
          · cases u0
            · refine (fall_alone01 xa xb A.length B.length ca cb (tm : Int) (st : Int) t ck cv ce cc cn c1 c2 c3 w).mono ?_
              rintro e w' ⟨h1, h4⟩
              exact rdo_fin (q := ⟨A, B, false, false, false, tm, st⟩) (va' := .slice xa A.length ca) (vb' := .slice xb B.length cb) (by simp [actP, actN, actK, askP, askN, askK, shipP, shipK, fallP, fallK, riseP, riseK, Pr.up, Pr.log, Pr.setLog, Pr.setUp, Pr.settle, Pr.next, sd]) (N := 0) (by simp [actP, actN, actK, askP, askN, askK, shipP, shipK, fallP, fallK, riseP, riseK, Pr.up, Pr.log, Pr.setLog, Pr.setUp, Pr.settle, Pr.next, sd]) (by simp [actP, actN, actK, askP, askN, askK, shipP, shipK, fallP, fallK, riseP, riseK, Pr.up, Pr.log, Pr.setLog, Pr.setUp, Pr.settle, Pr.next, sd]) h1 ⟨h.a.mono h4 (Nat.le_refl _), h.b.mono h4 (Nat.le_refl _)⟩ (.inl rfl) (.inl rfl) h4
            · refine (fall_other0 xa xb A.length B.length ca cb (tm : Int) (st : Int) t ck cv ce cc cn c1 c2 c3 w).mono ?_
              rintro e w' ⟨h1, h4⟩
              rw [ifn st A.length] at h1
              exact rdo_fin (q := ⟨A, B, true, false, false, tm, if st < A.length then A.length else st⟩) (va' := .slice xa A.length ca) (vb' := .slice xb B.length cb) (by simp [actP, actN, actK, askP, askN, askK, shipP, shipK, fallP, fallK, riseP, riseK, Pr.up, Pr.log, Pr.setLog, Pr.setUp, Pr.settle, Pr.next, sd]) (N := 0) (by simp [actP, actN, actK, askP, askN, askK, shipP, shipK, fallP, fallK, riseP, riseK, Pr.up, Pr.log, Pr.setLog, Pr.setUp, Pr.settle, Pr.next, sd]) (by simp [actP, actN, actK, askP, askN, askK, shipP, shipK, fallP, fallK, riseP, riseK, Pr.up, Pr.log, Pr.setLog, Pr.setUp, Pr.settle, Pr.next, sd]) h1 ⟨h.a.mono h4 (Nat.le_refl _), h.b.mono h4 (Nat.le_refl _)⟩ (.inl rfl) (.inl rfl) h4
  · by_cases hs : s < 0
    · exact (side21a xa xb A.length B.length ca cb u0 u1 (tm : Int) (st : Int) t s ck cv ce cc cn c1 c2 c3 w hs).mono fun e w' ⟨h1, h2⟩ => rdo_same h (by simp [actP, actN, actK, askP, askN, askK, shipP, shipK, fallP, fallK, riseP, riseK, Pr.up, Pr.log, Pr.setLog, Pr.setUp, Pr.settle, Pr.next, sd, show ¬ (0 : Int) ≤ s by omega]) (by simp [actP, actN, actK, askP, askN, askK, shipP, shipK, fallP, fallK, riseP, riseK, Pr.up, Pr.log, Pr.setLog, Pr.setUp, Pr.settle, Pr.next, sd, show ¬ (0 : Int) ≤ s by omega]) (by simp [actP, actN, actK, askP, askN, askK, shipP, shipK, fallP, fallK, riseP, riseK, Pr.up, Pr.log, Pr.setLog, Pr.setUp, Pr.settle, Pr.next, sd, show ¬ (0 : Int) ≤ s by omega]) h1 h2
    · by_cases hs : s > 1
      · exact (side21b xa xb A.length B.length ca cb u0 u1 (tm : Int) (st : Int) t s ck cv ce cc cn c1 c2 c3 w hs).mono fun e w' ⟨h1, h2⟩ => rdo_same h (by simp [actP, actN, actK, askP, askN, askK, shipP, shipK, fallP, fallK, riseP, riseK, Pr.up, Pr.log, Pr.setLog, Pr.setUp, Pr.settle, Pr.next, sd, show ¬ s ≤ (1 : Int) by omega]) (by simp [actP, actN, actK, askP, askN, askK, shipP, shipK, fallP, fallK, riseP, riseK, Pr.up, Pr.log, Pr.setLog, Pr.setUp, Pr.settle, Pr.next, sd, show ¬ s ≤ (1 : Int) by omega]) (by simp [actP, actN, actK, askP, askN, askK, shipP, shipK, fallP, fallK, riseP, riseK, Pr.up, Pr.log, Pr.setLog, Pr.setUp, Pr.settle, Pr.next, sd, show ¬ s ≤ (1 : Int) by omega]) h1 h2
      · obtain rfl | rfl : s = 0 ∨ s = 1 := by omega
        · cases u0
          · exact (fall_down10 xa xb A.length B.length ca cb u1 (tm : Int) (st : Int) t ck cv ce cc cn c1 c2 c3 w).mono fun e w' ⟨h1, h2⟩ => rdo_same h (by simp [actP, actN, actK, askP, askN, askK, shipP, shipK, fallP, fallK, riseP, riseK, Pr.up, Pr.log, Pr.setLog, Pr.setUp, Pr.settle, Pr.next, sd]) (by simp [actP, actN, actK, askP, askN, askK, shipP, shipK, fallP, fallK, riseP, riseK, Pr.up, Pr.log, Pr.setLog, Pr.setUp, Pr.settle, Pr.next, sd]) (by simp [actP, actN, actK, askP, askN, askK, shipP, shipK, fallP, fallK, riseP, riseK, Pr.up, Pr.log, Pr.setLog, Pr.setUp, Pr.settle, Pr.next, sd]) h1 h2
          · cases u1
            · refine (fall_alone10 xa xb A.length B.length ca cb (tm : Int) (st : Int) t ck cv ce cc cn c1 c2 c3 w).mono ?_
              rintro e w' ⟨h1, h4⟩
              exact rdo_fin (q := ⟨A, B, false, false, true, tm, st⟩) (va' := .slice xa A.length ca) (vb' := .slice xb B.length cb) (by simp [actP, actN, actK, askP, askN, askK, shipP, shipK, fallP, fallK, riseP, riseK, Pr.up, Pr.log, Pr.setLog, Pr.setUp, Pr.settle, Pr.next, sd]) (N := 0) (by simp [actP, actN, actK, askP, askN, askK, shipP, shipK, fallP, fallK, riseP, riseK, Pr.up, Pr.log, Pr.setLog, Pr.setUp, Pr.settle, Pr.next, sd]) (by simp [actP, actN, actK, askP, askN, askK, shipP, shipK, fallP, fallK, riseP, riseK, Pr.up, Pr.log, Pr.setLog, Pr.setUp, Pr.settle, Pr.next, sd]) h1 ⟨h.a.mono h4 (Nat.le_refl _), h.b.mono h4 (Nat.le_refl _)⟩ (.inl rfl) (.inl rfl) h4
            · refine (fall_other1 xa xb A.length B.length ca cb (tm : Int) (st : Int) t ck cv ce cc cn c1 c2 c3 w).mono ?_
              rintro e w' ⟨h1, h4⟩
              rw [ifn st B.length] at h1
              exact rdo_fin (q := ⟨A, B, false, true, true, tm, if st < B.length then B.length else st⟩) (va' := .slice xa A.length ca) (vb' := .slice xb B.length cb) (by simp [actP, actN, actK, askP, askN, askK, shipP, shipK, fallP, fallK, riseP, riseK, Pr.up, Pr.log, Pr.setLog, Pr.setUp, Pr.settle, Pr.next, sd]) (N := 0) (by simp [actP, actN, actK, askP, askN, askK, shipP, shipK, fallP, fallK, riseP, riseK, Pr.up, Pr.log, Pr.setLog, Pr.setUp, Pr.settle, Pr.next, sd]) (by simp [actP, actN, actK, askP, askN, askK, shipP, shipK, fallP, fallK, riseP, riseK, Pr.up, Pr.log, Pr.setLog, Pr.setUp, Pr.settle, Pr.next, sd]) h1 ⟨h.a.mono h4 (Nat.le_refl _), h.b.mono h4 (Nat.le_refl _)⟩ (.inl rfl) (.inl rfl) h4
        · cases u1
          · exact (fall_down11 xa xb A.length B.length ca cb u0 (tm : Int) (st : Int) t ck cv ce cc cn c1 c2 c3 w).mono fun e w' ⟨h1, h2⟩ => rdo_same h (by simp [actP, actN, actK, askP, askN, askK, shipP, shipK, fallP, fallK, riseP, riseK, Pr.up, Pr.log, Pr.setLog, Pr.setUp, Pr.settle, Pr.next, sd]) (by simp [actP, actN, actK, askP, askN, askK, shipP, shipK, fallP, fallK, riseP, riseK, Pr.up, Pr.log, Pr.setLog, Pr.setUp, Pr.settle, Pr.next, sd]) (by simp [actP, actN, actK, askP, askN, askK, shipP, shipK, fallP, fallK, riseP, riseK, Pr.up, Pr.log, Pr.setLog, Pr.setUp, Pr.settle, Pr.next, sd]) h1 h2
          · cases u0
            · refine (fall_alone11 xa xb A.length B.length ca cb (tm : Int) (st : Int) t ck cv ce cc cn c1 c2 c3 w).mono ?_
              rintro e w' ⟨h1, h4⟩
              exact rdo_fin (q := ⟨A, B, false, false, true, tm, st⟩) (va' := .slice xa A.length ca) (vb' := .slice xb B.length cb) (by simp [actP, actN, actK, askP, askN, askK, shipP, shipK, fallP, fallK, riseP, riseK, Pr.up, Pr.log, Pr.setLog, Pr.setUp, Pr.settle, Pr.next, sd]) (N := 0) (by simp [actP, actN, actK, askP, askN, askK, shipP, shipK, fallP, fallK, riseP, riseK, Pr.up, Pr.log, Pr.setLog, Pr.setUp, Pr.settle, Pr.next, sd]) (by simp [actP, actN, actK, askP, askN, askK, shipP, shipK, fallP, fallK, riseP, riseK, Pr.up, Pr.log, Pr.setLog, Pr.setUp, Pr.settle, Pr.next, sd]) h1 ⟨h.a.mono h4 (Nat.le_refl _), h.b.mono h4 (Nat.le_refl _)⟩ (.inl rfl) (.inl rfl) h4
            · refine (fall_lead1 xa xb A.length B.length ca cb (tm : Int) (st : Int) t ck cv ce cc cn c1 c2 c3 w ⟨by omega, by omega⟩).mono ?_
              rintro e w' ⟨h1, h4⟩
              rw [ifn st A.length] at h1
              exact rdo_fin (q := ⟨A, B, true, false, false, tm + 1, if st < A.length then A.length else st⟩) (va' := .slice xa A.length ca) (vb' := .slice xb B.length cb) (by simp [actP, actN, actK, askP, askN, askK, shipP, shipK, fallP, fallK, riseP, riseK, Pr.up, Pr.log, Pr.setLog, Pr.setUp, Pr.settle, Pr.next, sd]) (N := 0) (by simp [actP, actN, actK, askP, askN, askK, shipP, shipK, fallP, fallK, riseP, riseK, Pr.up, Pr.log, Pr.setLog, Pr.setUp, Pr.settle, Pr.next, sd]) (by simp [actP, actN, actK, askP, askN, askK, shipP, shipK, fallP, fallK, riseP, riseK, Pr.up, Pr.log, Pr.setLog, Pr.setUp, Pr.settle, Pr.next, sd]) h1 ⟨h.a.mono h4 (Nat.le_refl _), h.b.mono h4 (Nat.le_refl _)⟩ (.inl rfl) (.inl rfl) h4
set_option maxRecDepth 100000 in
set_option maxHeartbeats 4000000 in
theorem rdo20_rise (va vb : Value) (p : Pr) (a : Ac20) (w : World) (h : Pv w va vb p) (ho : p.Ok) (hl : p.Le 900) (hk : a.kind = 3) :
    Calls Try.prog 10 #[pval va vb p, aval a] w (Rdone w va vb p a) := by
  obtain ⟨xa, ca, rfl, _, _⟩ := h.a.slice
  obtain ⟨xb, cb, rfl, _, _⟩ := h.b.slice
  obtain ⟨A, B, u0, u1, ld, tm, st⟩ := p
  obtain ⟨k, t, s, ⟨ck, cv, ce, cc, cn, c1, c2, c3⟩⟩ := a
  have hb0 : A.length ≤ 1000 := Nat.le_trans (hl.log false) (by decide)
  have hb1 : B.length ≤ 1000 := Nat.le_trans (hl.log true) (by decide)
  have htm : tm ≤ 901 := hl.tm.2
  simp only at hk h
  subst hk
  cases ld
  · by_cases hs : s < 0
    · exact (side30a xa xb A.length B.length ca cb u0 u1 (tm : Int) (st : Int) t s ck cv ce cc cn c1 c2 c3 w hs).mono fun e w' ⟨h1, h2⟩ => rdo_same h (by simp [actP, actN, actK, askP, askN, askK, shipP, shipK, fallP, fallK, riseP, riseK, Pr.up, Pr.log, Pr.setLog, Pr.setUp, Pr.settle, Pr.next, sd, show ¬ (0 : Int) ≤ s by omega]) (by simp [actP, actN, actK, askP, askN, askK, shipP, shipK, fallP, fallK, riseP, riseK, Pr.up, Pr.log, Pr.setLog, Pr.setUp, Pr.settle, Pr.next, sd, show ¬ (0 : Int) ≤ s by omega]) (by simp [actP, actN, actK, askP, askN, askK, shipP, shipK, fallP, fallK, riseP, riseK, Pr.up, Pr.log, Pr.setLog, Pr.setUp, Pr.settle, Pr.next, sd, show ¬ (0 : Int) ≤ s by omega]) h1 h2
    · by_cases hs : s > 1
      · exact (side30b xa xb A.length B.length ca cb u0 u1 (tm : Int) (st : Int) t s ck cv ce cc cn c1 c2 c3 w hs).mono fun e w' ⟨h1, h2⟩ => rdo_same h (by simp [actP, actN, actK, askP, askN, askK, shipP, shipK, fallP, fallK, riseP, riseK, Pr.up, Pr.log, Pr.setLog, Pr.setUp, Pr.settle, Pr.next, sd, show ¬ s ≤ (1 : Int) by omega]) (by simp [actP, actN, actK, askP, askN, askK, shipP, shipK, fallP, fallK, riseP, riseK, Pr.up, Pr.log, Pr.setLog, Pr.setUp, Pr.settle, Pr.next, sd, show ¬ s ≤ (1 : Int) by omega]) (by simp [actP, actN, actK, askP, askN, askK, shipP, shipK, fallP, fallK, riseP, riseK, Pr.up, Pr.log, Pr.setLog, Pr.setUp, Pr.settle, Pr.next, sd, show ¬ s ≤ (1 : Int) by omega]) h1 h2
      · obtain rfl | rfl : s = 0 ∨ s = 1 := by omega
        · cases u0
          · cases u1
            · refine (rise_lead0 xa xb A.length B.length ca cb (tm : Int) (st : Int) t ck cv ce cc cn c1 c2 c3 w ⟨by omega, by omega⟩).mono ?_
              rintro e w' ⟨h1, h4⟩
              rw [ifn st A.length] at h1
              exact rdo_fin (q := ⟨A, B, true, false, false, tm + 1, if st < A.length then A.length else st⟩) (va' := .slice xa A.length ca) (vb' := .slice xb B.length cb) (by simp [actP, actN, actK, askP, askN, askK, shipP, shipK, fallP, fallK, riseP, riseK, Pr.up, Pr.log, Pr.setLog, Pr.setUp, Pr.settle, Pr.next, sd]) (N := 0) (by simp [actP, actN, actK, askP, askN, askK, shipP, shipK, fallP, fallK, riseP, riseK, Pr.up, Pr.log, Pr.setLog, Pr.setUp, Pr.settle, Pr.next, sd]) (by simp [actP, actN, actK, askP, askN, askK, shipP, shipK, fallP, fallK, riseP, riseK, Pr.up, Pr.log, Pr.setLog, Pr.setUp, Pr.settle, Pr.next, sd]) h1 ⟨h.a.mono h4 (Nat.le_refl _), h.b.mono h4 (Nat.le_refl _)⟩ (.inl rfl) (.inl rfl) h4
            · exact absurd (show false = true from (ho.fo rfl).1) (by decide)
          · exact (rise_busy00 xa xb A.length B.length ca cb u1 (tm : Int) (st : Int) t ck cv ce cc cn c1 c2 c3 w).mono fun e w' ⟨h1, h2⟩ => rdo_same h (by simp [actP, actN, actK, askP, askN, askK, shipP, shipK, fallP, fallK, riseP, riseK, Pr.up, Pr.log, Pr.setLog, Pr.setUp, Pr.settle, Pr.next, sd]) (by simp [actP, actN, actK, askP, askN, askK, shipP, shipK, fallP, fallK, riseP, riseK, Pr.up, Pr.log, Pr.setLog, Pr.setUp, Pr.settle, Pr.next, sd]) (by simp [actP, actN, actK, askP, askN, askK, shipP, shipK, fallP, fallK, riseP, riseK, Pr.up, Pr.log, Pr.setLog, Pr.setUp, Pr.settle, Pr.next, sd]) h1 h2
        · cases u1
          · cases u0
            · exact (rise_down0 xa xb A.length B.length ca cb (tm : Int) (st : Int) t ck cv ce cc cn c1 c2 c3 w).mono fun e w' ⟨h1, h2⟩ => rdo_same h (by simp [actP, actN, actK, askP, askN, askK, shipP, shipK, fallP, fallK, riseP, riseK, Pr.up, Pr.log, Pr.setLog, Pr.setUp, Pr.settle, Pr.next, sd]) (by simp [actP, actN, actK, askP, askN, askK, shipP, shipK, fallP, fallK, riseP, riseK, Pr.up, Pr.log, Pr.setLog, Pr.setUp, Pr.settle, Pr.next, sd]) (by simp [actP, actN, actK, askP, askN, askK, shipP, shipK, fallP, fallK, riseP, riseK, Pr.up, Pr.log, Pr.setLog, Pr.setUp, Pr.settle, Pr.next, sd]) h1 h2
            · refine (rise_ok0 xa xb A.length B.length ca cb A (tm : Int) (st : Int) t ck cv ce cc cn c1 c2 c3 w h.a hb0).mono ?_
              rintro e w' ⟨x, k, h1, h2, h3, h4⟩
              exact rdo_fin (q := ⟨A, A, true, true, false, tm, st⟩) (va' := (.slice xa A.length ca)) (vb' := (.slice x A.length k)) (by simp [actP, actN, actK, askP, askN, askK, shipP, shipK, fallP, fallK, riseP, riseK, Pr.up, Pr.log, Pr.setLog, Pr.setUp, Pr.settle, Pr.next, sd]) (N := 0) (by simp [actP, actN, actK, askP, askN, askK, shipP, shipK, fallP, fallK, riseP, riseK, Pr.up, Pr.log, Pr.setLog, Pr.setUp, Pr.settle, Pr.next, sd]) (by simp [actP, actN, actK, askP, askN, askK, shipP, shipK, fallP, fallK, riseP, riseK, Pr.up, Pr.log, Pr.setLog, Pr.setUp, Pr.settle, Pr.next, sd]) h1 ⟨h.a.mono h4 (Nat.le_refl _), h2⟩ (.inl rfl) (.inr h3) h4
          · exact (rise_busy01 xa xb A.length B.length ca cb u0 (tm : Int) (st : Int) t ck cv ce cc cn c1 c2 c3 w).mono fun e w' ⟨h1, h2⟩ => rdo_same h (by simp [actP, actN, actK, askP, askN, askK, shipP, shipK, fallP, fallK, riseP, riseK, Pr.up, Pr.log, Pr.setLog, Pr.setUp, Pr.settle, Pr.next, sd]) (by simp [actP, actN, actK, askP, askN, askK, shipP, shipK, fallP, fallK, riseP, riseK, Pr.up, Pr.log, Pr.setLog, Pr.setUp, Pr.settle, Pr.next, sd]) (by simp [actP, actN, actK, askP, askN, askK, shipP, shipK, fallP, fallK, riseP, riseK, Pr.up, Pr.log, Pr.setLog, Pr.setUp, Pr.settle, Pr.next, sd]) h1 h2
  · by_cases hs : s < 0
    · exact (side31a xa xb A.length B.length ca cb u0 u1 (tm : Int) (st : Int) t s ck cv ce cc cn c1 c2 c3 w hs).mono fun e w' ⟨h1, h2⟩ => rdo_same h (by simp [actP, actN, actK, askP, askN, askK, shipP, shipK, fallP, fallK, riseP, riseK, Pr.up, Pr.log, Pr.setLog, Pr.setUp, Pr.settle, Pr.next, sd, show ¬ (0 : Int) ≤ s by omega]) (by simp [actP, actN, actK, askP, askN, askK, shipP, shipK, fallP, fallK, riseP, riseK, Pr.up, Pr.log, Pr.setLog, Pr.setUp, Pr.settle, Pr.next, sd, show ¬ (0 : Int) ≤ s by omega]) (by simp [actP, actN, actK, askP, askN, askK, shipP, shipK, fallP, fallK, riseP, riseK, Pr.up, Pr.log, Pr.setLog, Pr.setUp, Pr.settle, Pr.next, sd, show ¬ (0 : Int) ≤ s by omega]) h1 h2
    · by_cases hs : s > 1
      · exact (side31b xa xb A.length B.length ca cb u0 u1 (tm : Int) (st : Int) t s ck cv ce cc cn c1 c2 c3 w hs).mono fun e w' ⟨h1, h2⟩ => rdo_same h (by simp [actP, actN, actK, askP, askN, askK, shipP, shipK, fallP, fallK, riseP, riseK, Pr.up, Pr.log, Pr.setLog, Pr.setUp, Pr.settle, Pr.next, sd, show ¬ s ≤ (1 : Int) by omega]) (by simp [actP, actN, actK, askP, askN, askK, shipP, shipK, fallP, fallK, riseP, riseK, Pr.up, Pr.log, Pr.setLog, Pr.setUp, Pr.settle, Pr.next, sd, show ¬ s ≤ (1 : Int) by omega]) (by simp [actP, actN, actK, askP, askN, askK, shipP, shipK, fallP, fallK, riseP, riseK, Pr.up, Pr.log, Pr.setLog, Pr.setUp, Pr.settle, Pr.next, sd, show ¬ s ≤ (1 : Int) by omega]) h1 h2
      · obtain rfl | rfl : s = 0 ∨ s = 1 := by omega
        · cases u0
          · cases u1
            · exact (rise_down1 xa xb A.length B.length ca cb (tm : Int) (st : Int) t ck cv ce cc cn c1 c2 c3 w).mono fun e w' ⟨h1, h2⟩ => rdo_same h (by simp [actP, actN, actK, askP, askN, askK, shipP, shipK, fallP, fallK, riseP, riseK, Pr.up, Pr.log, Pr.setLog, Pr.setUp, Pr.settle, Pr.next, sd]) (by simp [actP, actN, actK, askP, askN, askK, shipP, shipK, fallP, fallK, riseP, riseK, Pr.up, Pr.log, Pr.setLog, Pr.setUp, Pr.settle, Pr.next, sd]) (by simp [actP, actN, actK, askP, askN, askK, shipP, shipK, fallP, fallK, riseP, riseK, Pr.up, Pr.log, Pr.setLog, Pr.setUp, Pr.settle, Pr.next, sd]) h1 h2
            · refine (rise_ok1 xa xb A.length B.length ca cb B (tm : Int) (st : Int) t ck cv ce cc cn c1 c2 c3 w h.b hb1).mono ?_
              rintro e w' ⟨x, k, h1, h2, h3, h4⟩
              exact rdo_fin (q := ⟨B, B, true, true, true, tm, st⟩) (va' := (.slice x B.length k)) (vb' := (.slice xb B.length cb)) (by simp [actP, actN, actK, askP, askN, askK, shipP, shipK, fallP, fallK, riseP, riseK, Pr.up, Pr.log, Pr.setLog, Pr.setUp, Pr.settle, Pr.next, sd]) (N := 0) (by simp [actP, actN, actK, askP, askN, askK, shipP, shipK, fallP, fallK, riseP, riseK, Pr.up, Pr.log, Pr.setLog, Pr.setUp, Pr.settle, Pr.next, sd]) (by simp [actP, actN, actK, askP, askN, askK, shipP, shipK, fallP, fallK, riseP, riseK, Pr.up, Pr.log, Pr.setLog, Pr.setUp, Pr.settle, Pr.next, sd]) h1 ⟨h2, h.b.mono h4 (Nat.le_refl _)⟩ (.inr h3) (.inl rfl) h4
          · exact (rise_busy10 xa xb A.length B.length ca cb u1 (tm : Int) (st : Int) t ck cv ce cc cn c1 c2 c3 w).mono fun e w' ⟨h1, h2⟩ => rdo_same h (by simp [actP, actN, actK, askP, askN, askK, shipP, shipK, fallP, fallK, riseP, riseK, Pr.up, Pr.log, Pr.setLog, Pr.setUp, Pr.settle, Pr.next, sd]) (by simp [actP, actN, actK, askP, askN, askK, shipP, shipK, fallP, fallK, riseP, riseK, Pr.up, Pr.log, Pr.setLog, Pr.setUp, Pr.settle, Pr.next, sd]) (by simp [actP, actN, actK, askP, askN, askK, shipP, shipK, fallP, fallK, riseP, riseK, Pr.up, Pr.log, Pr.setLog, Pr.setUp, Pr.settle, Pr.next, sd]) h1 h2
        · cases u1
          · cases u0
            · refine (rise_lead1 xa xb A.length B.length ca cb (tm : Int) (st : Int) t ck cv ce cc cn c1 c2 c3 w ⟨by omega, by omega⟩).mono ?_
              rintro e w' ⟨h1, h4⟩
              rw [ifn st B.length] at h1
              exact rdo_fin (q := ⟨A, B, false, true, true, tm + 1, if st < B.length then B.length else st⟩) (va' := .slice xa A.length ca) (vb' := .slice xb B.length cb) (by simp [actP, actN, actK, askP, askN, askK, shipP, shipK, fallP, fallK, riseP, riseK, Pr.up, Pr.log, Pr.setLog, Pr.setUp, Pr.settle, Pr.next, sd]) (N := 0) (by simp [actP, actN, actK, askP, askN, askK, shipP, shipK, fallP, fallK, riseP, riseK, Pr.up, Pr.log, Pr.setLog, Pr.setUp, Pr.settle, Pr.next, sd]) (by simp [actP, actN, actK, askP, askN, askK, shipP, shipK, fallP, fallK, riseP, riseK, Pr.up, Pr.log, Pr.setLog, Pr.setUp, Pr.settle, Pr.next, sd]) h1 ⟨h.a.mono h4 (Nat.le_refl _), h.b.mono h4 (Nat.le_refl _)⟩ (.inl rfl) (.inl rfl) h4
            · exact absurd (show false = true from (ho.fo rfl).1) (by decide)
          · exact (rise_busy11 xa xb A.length B.length ca cb u0 (tm : Int) (st : Int) t ck cv ce cc cn c1 c2 c3 w).mono fun e w' ⟨h1, h2⟩ => rdo_same h (by simp [actP, actN, actK, askP, askN, askK, shipP, shipK, fallP, fallK, riseP, riseK, Pr.up, Pr.log, Pr.setLog, Pr.setUp, Pr.settle, Pr.next, sd]) (by simp [actP, actN, actK, askP, askN, askK, shipP, shipK, fallP, fallK, riseP, riseK, Pr.up, Pr.log, Pr.setLog, Pr.setUp, Pr.settle, Pr.next, sd]) (by simp [actP, actN, actK, askP, askN, askK, shipP, shipK, fallP, fallK, riseP, riseK, Pr.up, Pr.log, Pr.setLog, Pr.setUp, Pr.settle, Pr.next, sd]) h1 h2
theorem rdo20_any (va vb : Value) (p : Pr) (a : Ac20) (w : World) (h : Pv w va vb p) (ho : p.Ok) (hl : p.Le 900) (hk : 0 ≤ a.kind ∧ a.kind ≤ 3) : Calls Try.prog 10 #[pval va vb p, aval a] w (Rdone w va vb p a) := by
  obtain h0 | h1 | h2 | h3 : a.kind = 0 ∨ a.kind = 1 ∨ a.kind = 2 ∨ a.kind = 3 := by omega
  · exact rdo20_ask va vb p a w h ho hl h0
  · exact rdo20_ship va vb p a w h ho hl h1
  · exact rdo20_fall va vb p a w h ho hl h2
  · exact rdo20_rise va vb p a w h ho hl h3
end Go.Proofs.Ytlaighghagcjjaa
