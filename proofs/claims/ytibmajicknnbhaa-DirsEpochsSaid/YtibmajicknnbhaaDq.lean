/- Two entries as values: are they one? -/
import Derived.Test.YtibmajicknnbhaaDo
import Derived.Laws.StructEq
set_option linter.unusedVariables false
set_option linter.unusedSimpArgs false
namespace Go.Proofs.Ytibmajicknnbhaa
open Go.RowKit Go.Cor

theorem En.ext' {p q : En} (h1 : p.vol = q.vol) (h2 : p.ep = q.ep) (h3 : p.a = q.a) (h4 : p.b = q.b) (h5 : p.c = q.c) (h6 : p.sl = q.sl) : p = q := by
  cases p; cases q; simp_all
theorem eql_arr3 {P : Program} (d : Nat) (T U : TypeId) (hT : P.underlying T = some (.array 3 U)) (hU : P.underlying U = some (.int .i64)) (hs : (P.info? U).map (·.size) = some 1) (x0 x1 x2 y0 y1 y2 : Int) (w : World) :
    (Op.equalIn (d + 2) T (.agg #[.int .i64 x0, .int .i64 x1, .int .i64 x2]) (.agg #[.int .i64 y0, .int .i64 y1, .int .i64 y2])).run P w = .ok (decide (x0 = y0) && (decide (x1 = y1) && decide (x2 = y2))) w := by
  obtain ⟨j, hj1, hj2⟩ := Option.map_eq_some_iff.1 hs
  have hsz : ∀ W, (sizeOf U).run P W = .ok 1 W := fun W => by simp [sizeOf, typeInfo, hj1, hj2]
  have hE : ∀ x y W, (Op.equalIn (d + 1) U (.int .i64 x) (.int .i64 y)).run P W = .ok (x == y) W := fun x y W => by
    simp [Op.equalIn, run_underlying hU]
  have hA : ∀ W, (isAgg U).run P W = .ok false W := fun W => by simp [isAgg, run_underlying hU]
  rw [Op.equalIn]
  obtain ⟨F, hF⟩ : ∃ F, Op.equalIn (d + 1) = F := ⟨_, rfl⟩
  rw [hF] at hE ⊢
  have hE0 : ∀ x y W, (F U x y).run P W = (F U x y).run P W := fun _ _ _ => rfl
  simp only [Sem.run_bind, run_underlying hT, Result.andThen_ok, hsz, Std.Legacy.Range.forIn_eq_forIn_range', Std.Legacy.Range.size]
  simp [List.range', part, hE, hA]
  by_cases h0 : x0 = y0 <;> by_cases h1 : x1 = y1 <;> by_cases h2 : x2 = y2 <;> simp [h0, h1, h2]
set_option maxRecDepth 100000 in
theorem Try.eqlEn (p q : En) (w : World) : (binOp .neq 35 (eval p) (eval q)).run Try.prog w = .ok (.bool (decide (p ≠ q))) w := by
  have hS : Try.prog.underlying 35 = some (.struct (Try.prog.fieldsOf 35)) := by kernel_rfl
  have hp : Try.prog.stoodInHeld 35 = false := by kernel_rfl
  have hp3 : Try.prog.stoodInHeld 30 = false := by kernel_rfl
  have h : (Op.equalIn 10000 35 (eval p) (eval q)).run Try.prog w = .ok (decide (p.vol = q.vol) && (decide (p.ep = q.ep) && ((decide (p.a = q.a) && (decide (p.b = q.b) && decide (p.c = q.c))) && decide (p.sl = q.sl)))) w := by
    rw [show (10000 : Nat) = 9999 + 1 from rfl, show eval p = .agg _ from rfl, show eval q = .agg _ from rfl, run_equalIn_agg w 9999 35 _ _ hS hp]
    simp only [Program.fieldsOf, Try.underlying35]
    go_simp
    have h3 : ∀ W, (Op.equalIn 9999 30 (.agg #[.int .i64 (p.a : Int), .int .i64 (p.b : Int), .int .i64 (p.c : Int)]) (.agg #[.int .i64 (q.a : Int), .int .i64 (q.b : Int), .int .i64 (q.c : Int)])).run Try.prog W = .ok (decide (p.a = q.a) && (decide (p.b = q.b) && decide (p.c = q.c))) W := fun W => by
      rw [show (9999 : Nat) = 9997 + 2 from rfl, eql_arr3 9997 30 3 Try.underlying30 Try.underlying3 (by kernel_rfl)]
      simp only [Int.natCast_inj]
    rw [h3]
    by_cases h1 : p.vol = q.vol <;> by_cases h2 : p.ep = q.ep <;> by_cases h4 : p.a = q.a <;> by_cases h5 : p.b = q.b <;> by_cases h6 : p.c = q.c <;> by_cases h7 : p.sl = q.sl <;> simp [h1, h2, h4, h5, h6, h7, Int.natCast_inj]
  unfold eval at h ⊢
  rw [run_neq_struct, h]
  refine congrArg (fun b => Result.ok (Value.bool b) w) (a₁ := !(decide (p.vol = q.vol) && (decide (p.ep = q.ep) && ((decide (p.a = q.a) && (decide (p.b = q.b) && decide (p.c = q.c))) && decide (p.sl = q.sl))))) ?_
  by_cases he : p = q
  · subst he
    simp
  · rw [decide_eq_true he]
    by_cases h1 : p.vol = q.vol <;> by_cases h2 : p.ep = q.ep <;> by_cases h4 : p.a = q.a <;> by_cases h5 : p.b = q.b <;> by_cases h6 : p.c = q.c <;> by_cases h7 : p.sl = q.sl <;> first | exact absurd (En.ext' h1 h2 h4 h5 h6 h7) he | simp [h1, h2, h4, h5, h6, h7]
theorem Try.guardEn : Try.prog.eqGuardType Try.prog.depth 35 = false := by kernel_rfl
end Go.Proofs.Ytibmajicknnbhaa
