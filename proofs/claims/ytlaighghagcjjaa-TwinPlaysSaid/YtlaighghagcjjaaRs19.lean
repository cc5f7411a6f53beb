/- An entry stored into a row of the call's own, as one operation. -/
import Derived.Test.YtlaighghagcjjaaRe19
namespace Go.Proofs.Ytlaighghagcjjaa
open Go.RowKit Go.Cor
set_option linter.unusedVariables false
set_option linter.unusedSimpArgs false

theorem row_en {L : List En} {i : Nat} {x y : En} (hx : L[i]? = some x) :
    (((((((row ecl L).set (i * 6 + 0) (.int .i64 (y.vol : Int))).set (i * 6 + 1) (.int .i64 (y.ep : Int))).set (i * 6 + 2) (.int .i64 (y.a : Int))).set (i * 6 + 3) (.int .i64 (y.b : Int))).set (i * 6 + 4) (.int .i64 (y.c : Int))).set (i * 6 + 5) (.bool y.sl)) = row ecl (L.set i y) := by
  have hi := (List.getElem?_eq_some_iff.1 hx).1
  have st : ∀ (M : List En) (p q : En) (j : Nat) (u : Value), M[i]? = some p → j < 6 → (ecl p).set j u = ecl q → (row ecl M).set (i * 6 + j) u = row ecl (M.set i q) := fun M p q j u h1 h2 h3 => row_set ecl_len h1 j h2 u h3
  have gt : ∀ p : En, (L.set i p)[i]? = some p := fun p => by rw [List.getElem?_set, if_pos rfl, if_pos hi]
  rw [st L x ⟨y.vol, x.ep, x.a, x.b, x.c, x.sl⟩ 0 (.int .i64 (y.vol : Int)) hx (by decide) rfl]
  rw [st (L.set i ⟨y.vol, x.ep, x.a, x.b, x.c, x.sl⟩) ⟨y.vol, x.ep, x.a, x.b, x.c, x.sl⟩ ⟨y.vol, y.ep, x.a, x.b, x.c, x.sl⟩ 1 (.int .i64 (y.ep : Int)) (gt _) (by decide) rfl, List.set_set]
  rw [st (L.set i ⟨y.vol, y.ep, x.a, x.b, x.c, x.sl⟩) ⟨y.vol, y.ep, x.a, x.b, x.c, x.sl⟩ ⟨y.vol, y.ep, y.a, x.b, x.c, x.sl⟩ 2 (.int .i64 (y.a : Int)) (gt _) (by decide) rfl, List.set_set]
  rw [st (L.set i ⟨y.vol, y.ep, y.a, x.b, x.c, x.sl⟩) ⟨y.vol, y.ep, y.a, x.b, x.c, x.sl⟩ ⟨y.vol, y.ep, y.a, y.b, x.c, x.sl⟩ 3 (.int .i64 (y.b : Int)) (gt _) (by decide) rfl, List.set_set]
  rw [st (L.set i ⟨y.vol, y.ep, y.a, y.b, x.c, x.sl⟩) ⟨y.vol, y.ep, y.a, y.b, x.c, x.sl⟩ ⟨y.vol, y.ep, y.a, y.b, y.c, x.sl⟩ 4 (.int .i64 (y.c : Int)) (gt _) (by decide) rfl, List.set_set]
  rw [st (L.set i ⟨y.vol, y.ep, y.a, y.b, y.c, x.sl⟩) ⟨y.vol, y.ep, y.a, y.b, y.c, x.sl⟩ y 5 (.bool y.sl) (gt _) (by decide) rfl, List.set_set]
set_option maxHeartbeats 1000000 in
theorem wpList_storeEn {P : Program} {w : World} {ops : Array Oper} {rest : List Oper} {o : Oper} {a : Act} {Q : Exit → Act → World → Prop} (hg : o.guard = none) (T : TypeId) (hs : (P.info? T).map (·.size) = some 6) (x y : Operand) (ho : o.op = .store T x y)
    {base n : Nat} {U : TypeId} {v : Value} {L : List En} (hown : w.ownsRow base U 6 v n (row ecl L)) (g i : Nat) (hv : v.ownBlock = some g) {e0 : En} (hi : L[i]? = some e0) (hc : ∀ j, j < 6 → w.cell? ⟨g, i * 6 + j, none⟩ = (row ecl L)[i * 6 + j]?) (hf : ∀ j, w.frozen? ⟨g, j, none⟩ = false)
    (ev ep ea eb ec : Nat) (es : Bool) (hx : a.eval x = .pointer (some ⟨g, i * 6, none⟩)) (hy : a.eval y = .agg #[.int .i64 (ev : Int), .int .i64 (ep : Int), .int .i64 (ea : Int), .int .i64 (eb : Int), .int .i64 (ec : Int), .bool es])
    (h : ∀ w', w'.ownsRow base U 6 v n (row ecl (L.set i ⟨ev, ep, ea, eb, ec, es⟩)) → Kept (fun j => j = g) w w' → wpList P ops Q rest (a.put o.dst undef) w') : wpList P ops Q (o :: rest) a w := by
  refine wpList_plain hg fun K hK => ?_
  obtain ⟨j, hj1, hj2⟩ := Option.map_eq_some_iff.1 hs
  have hsz : ∀ W, (sizeOf T).run P W = .ok 6 W := fun W => by simp [sizeOf, typeInfo, hj1, hj2]
  have hce := fun q (hq : q < 6) => (hc q hq).trans (row_get ecl_len hi q hq)
  obtain ⟨x0, x1, x2, x3, x4, x5⟩ := e0
  have c0 : w.cell? ⟨g, i * 6, none⟩ = some (.int .i64 (x0 : Int)) := hce 0 (by decide)
  have c1 : w.cell? ⟨g, i * 6 + 1, none⟩ = some (.int .i64 (x1 : Int)) := hce 1 (by decide)
  have c2 : w.cell? ⟨g, i * 6 + 2, none⟩ = some (.int .i64 (x2 : Int)) := hce 2 (by decide)
  have c3 : w.cell? ⟨g, i * 6 + 3, none⟩ = some (.int .i64 (x3 : Int)) := hce 3 (by decide)
  have c4 : w.cell? ⟨g, i * 6 + 4, none⟩ = some (.int .i64 (x4 : Int)) := hce 4 (by decide)
  have c5 : w.cell? ⟨g, i * 6 + 5, none⟩ = some (.bool x5) := hce 5 (by decide)
  have hst : ∀ (W : World) (cs : List Value) (j : Nat) (u : Value), W.ownsRow base U 6 v n cs → (W.setCell ⟨g, j, none⟩ u).ownsRow base U 6 v n (cs.set j u) := fun W cs j u h0 => by
    rcases h0.2 with ⟨rfl, h2⟩ | ⟨g', cap, cur, rfl, h2⟩
    · simp [Value.ownBlock] at hv
    · have : g' = g := by simpa [Value.ownBlock] using hv
      subst this
      exact (h0.stored j u).1
  have hfin := hst _ _ (i * 6 + 5) (.bool es) (hst _ _ (i * 6 + 4) (.int .i64 (ec : Int)) (hst _ _ (i * 6 + 3) (.int .i64 (eb : Int)) (hst _ _ (i * 6 + 2) (.int .i64 (ea : Int)) (hst _ _ (i * 6 + 1) (.int .i64 (ep : Int)) (hst _ _ (i * 6 + 0) (.int .i64 (ev : Int)) hown)))))
  rw [row_en (y := ⟨ev, ep, ea, eb, ec, es⟩) hi] at hfin
  have hk := (((((((Kept.refl (fun j => j = g) w).setCell (p := ⟨g, i * 6 + 0, none⟩) (.inl rfl) (.int .i64 (ev : Int))).setCell (p := ⟨g, i * 6 + 1, none⟩) (.inl rfl) (.int .i64 (ep : Int))).setCell (p := ⟨g, i * 6 + 2, none⟩) (.inl rfl) (.int .i64 (ea : Int))).setCell (p := ⟨g, i * 6 + 3, none⟩) (.inl rfl) (.int .i64 (eb : Int))).setCell (p := ⟨g, i * 6 + 4, none⟩) (.inl rfl) (.int .i64 (ec : Int))).setCell (p := ⟨g, i * 6 + 5, none⟩) (.inl rfl) (.bool es))
  have HF := Lib.hid (And.intro hfin hk)
  clear hfin hk hst hce hc
  unfold Oper.wp execOp
  rw [ho]
  simp only [hx, hy]
  go_simp
  exact hK _ _ (h _ HF.out.1 HF.out.2)
end Go.Proofs.Ytlaighghagcjjaa
