/- errors.Is over the codes of package api, and Code of the laws' package: by contracts. -/
import Derived.Test.YtdoohmhgcdcmgaaDoorChecked
import Derived.WalkKit
import Derived.LaidEql
import Derived.Stop.Asserts
import Derived.RowKitTokens
import Derived.Lib.Hide
namespace Go.Proofs.YtdoohmhgcdcmgaaDoor
open Go.RowKit Go.Extern.Stop Go.Stop Go.Extern

/-- Are two codes, as errors, one and the same? As their numbers are. -/
theorem eql_codes {P : Program} {E C : TypeId} {ms : Array (String × TypeId)} {inf : TypeInfo} (x y : Int) (w : World)
    (h1 : P.underlying E = some (.interface ms)) (h2 : P.underlying C = some (.int .i64)) (h3 : P.info? C = some inf) (h4 : inf.comparable = true) :
    (binOp .eql E (.iface C (.int .i64 x)) (.iface C (.int .i64 y))).run P w = .ok (.bool (x == y)) w := by
  have depth : ∀ d, (Op.equalIn (d + 2) E (.iface C (.int .i64 x)) (.iface C (.int .i64 y))).run P w = .ok (x == y) w := fun d => by
    simp [Op.equalIn, typeInfo, run_underlying h1, run_underlying h2, h3, h4]
  have d := depth 9998
  simp only [binOp]
  simp [Op.equal, Op.maxDepth, d]

theorem Tryd.isTypeOf (v : Value) (w : World) : (Extern.ReflectliteType.typeOf #[.iface 50 v]).run Tryd.prog w = .ok (.iface 86 (.agg #[.pointer (some ⟨1, 50, none⟩)])) w := by kernel_rfl
theorem Tryd.isComparable (w : World) : ((Extern.ReflectliteType.method fun t => do Rtype.noPackHeld "Comparable" t; (fun a => Value.bool a.comparable) <$> typeInfo t) #[.agg #[.pointer (some ⟨1, 50, none⟩)]]).run Tryd.prog w = .ok (.bool true) w := by kernel_rfl
theorem Tryd.isComp : (Tryd.prog.info? 50).map (·.comparable) = some true := by kernel_rfl
theorem Tryd.noIs (v : Value) (xT : TypeId) (w : World) : (Instr.typeAssert (.iface 50 v) xT 88 true).run Tryd.prog w = .ok (.tuple #[.nilIface, .bool false]) w := run_typeAssert_lacksB Tryd.underlying88 (by kernel_rfl) (by kernel_rfl) v xT w
theorem Tryd.noUnwrap (v : Value) (xT : TypeId) (w : World) : (Instr.typeAssert (.iface 50 v) xT 90 true).run Tryd.prog w = .ok (.tuple #[.nilIface, .bool false]) w := run_typeAssert_lacksB Tryd.underlying90 (by kernel_rfl) (by kernel_rfl) v xT w
theorem Tryd.noUnwraps (v : Value) (xT : TypeId) (w : World) : (Instr.typeAssert (.iface 50 v) xT 92 true).run Tryd.prog w = .ok (.tuple #[.nilIface, .bool false]) w := run_typeAssert_lacksB Tryd.underlying92 (by kernel_rfl) (by kernel_rfl) v xT w

/-- errors.Is of a code and itself. -/
theorem is_same (a : Int) (w : World) :
    Calls Tryd.prog 15 #[.iface 50 (.int .i64 a), .iface 50 (.int .i64 a)] w fun e w' => e = .returned (.bool true) ∧ w = w' := by
  obtain ⟨i, hi, hcmp⟩ := Option.map_eq_some_iff.1 Tryd.isComp
  have h8 := @run_callFunc_extern Tryd.prog 28 _ Extern.ReflectliteType.typeOf Tryd.func28 (by kernel_rfl) (by kernel_rfl) (by kernel_rfl) (by kernel_rfl)
  have h32 := @run_callFunc_extern Tryd.prog 71 _ (Extern.ReflectliteType.method fun t => do Rtype.noPackHeld "Comparable" t; pure (.bool (← typeInfo t).comparable)) Tryd.func71 (by kernel_rfl) (by kernel_rfl) (by kernel_rfl) (by kernel_rfl)
  have tT := Tryd.isTypeOf
  have cT := Tryd.isComparable
  have mR : ∀ (v : Value) (w : World), (Go.method 233 86 v "Comparable").run Tryd.prog w = .ok (71, v) w := fun v w => by kernel_rfl
  have heq := eql_codes (P := Tryd.prog) a a w Tryd.underlying26 Tryd.underlying50 hi hcmp
  have hb : (a == a) = true := by simp
  go_enter Tryd.func15, Tryd.ntmps15
  go_wp2
  refine wp_loop_rounds 1 ?_
  rw [rounds_succ]
  go_wp2
  go_ret
  exact ⟨rfl, rfl⟩

/-- errors.Is of two unlike codes. -/
theorem is_other (a b : Int) (w : World) (hne : a ≠ b) :
    Calls Tryd.prog 15 #[.iface 50 (.int .i64 a), .iface 50 (.int .i64 b)] w fun e w' => e = .returned (.bool false) ∧ w = w' := by
  obtain ⟨i, hi, hcmp⟩ := Option.map_eq_some_iff.1 Tryd.isComp
  have h8 := @run_callFunc_extern Tryd.prog 28 _ Extern.ReflectliteType.typeOf Tryd.func28 (by kernel_rfl) (by kernel_rfl) (by kernel_rfl) (by kernel_rfl)
  have h32 := @run_callFunc_extern Tryd.prog 71 _ (Extern.ReflectliteType.method fun t => do Rtype.noPackHeld "Comparable" t; pure (.bool (← typeInfo t).comparable)) Tryd.func71 (by kernel_rfl) (by kernel_rfl) (by kernel_rfl) (by kernel_rfl)
  have tT := Tryd.isTypeOf
  have cT := Tryd.isComparable
  have mR : ∀ (v : Value) (w : World), (Go.method 233 86 v "Comparable").run Tryd.prog w = .ok (71, v) w := fun v w => by kernel_rfl
  have nI := Tryd.noIs
  have nU := Tryd.noUnwrap
  have nV := Tryd.noUnwraps
  have heq := eql_codes (P := Tryd.prog) a b w Tryd.underlying26 Tryd.underlying50 hi hcmp
  have hb : (a == b) = false := by simpa using hne
  go_enter Tryd.func15, Tryd.ntmps15
  go_wp2
  refine wp_loop_rounds 1 ?_
  rw [rounds_succ]
  go_wp2
  go_ret
  exact ⟨rfl, rfl⟩

/-- Code of no error. -/
theorem code_nil (w : World) :
    Calls Tryd.prog 8 #[.nilIface] w fun e w' => e = .returned (.int .i64 0) ∧ w = w' := by
  go_enter Tryd.func8, Tryd.ntmps8
  go_wp2
  go_ret
  exact ⟨rfl, rfl⟩

/-- Code of a code. -/
theorem code_code (k : Int) (w : World) (h1 : 1 ≤ k) (h2 : k ≤ 17) :
    Calls Tryd.prog 8 #[.iface 50 (.int .i64 k)] w fun e w' => e = .returned (.int .i64 k) ∧ w = w' := by
  go_enter Tryd.func8, Tryd.ntmps8
  go_wp2
  go_loop [3] (fun c => ∃ j : Int, 1 ≤ j ∧ j ≤ k ∧ c = .int .i64 j) (fun c => 18 - (intOf c).toNat)
  case atStart => exact ⟨1, by omega, by omega, rfl⟩
  case round =>
    obtain ⟨j, hj1, hj2, rfl⟩ := hrel
    have hj17 : j ≤ 17 := by omega
    by_cases hkj : k = j
    · subst hkj
      go_wp2_with (go_at_call 15; refine (is_same _ _).mono ?_; rintro e w' ⟨rfl, rfl⟩)
      go_ret
      exact ⟨rfl, rfl⟩
    · have hlt : j + 1 ≤ k := by omega
      go_wp2_with (go_at_call 15; refine (is_other _ _ _ hkj).mono ?_; rintro e w' ⟨rfl, rfl⟩)
      go_round
      case rel => exact ⟨j + 1, by omega, by omega, rfl⟩
      case measure => simp [intOf]; omega

end Go.Proofs.YtdoohmhgcdcmgaaDoor
