/- errors.Is over the codes of package api, and Code of the laws' package: by contracts. -/
import Derived.Test.YtlaighghagcjjaaChecked
import Derived.WalkKit
import Derived.LaidEql
import Derived.Stop.Asserts
import Derived.RowKitTokens
import Derived.Lib.Hide
set_option linter.unusedVariables false
set_option linter.unusedSimpArgs false
namespace Go.Proofs.Ytlaighghagcjjaa
open Go.RowKit Go.Extern.Stop Go.Stop Go.Extern

/-- Are two codes, as errors, one and the same? As their numbers are. -/
theorem eql_codes {P : Program} {E C : TypeId} {ms : Array (String × TypeId)} {inf : TypeInfo} (x y : Int) (w : World)
    (h1 : P.underlying E = some (.interface ms)) (h2 : P.underlying C = some (.int .i64)) (h3 : P.info? C = some inf) (h4 : inf.comparable = true) :
    (binOp .eql E (.iface C (.int .i64 x)) (.iface C (.int .i64 y))).run P w = .ok (.bool (x == y)) w := by
  have depth : ∀ d, (Op.equalIn (d + 2) E (.iface C (.int .i64 x)) (.iface C (.int .i64 y))).run P w = .ok (x == y) w := fun d => by
    simp [Op.equalIn, typeInfo, run_underlying h1, run_underlying h2, h3, h4]
  have d := depth 9998
  simp only [binOp]
  simp [Op.equal, Op.maxDepth, d]

theorem Try.isTypeOf (v : Value) (w : World) : (Extern.ReflectliteType.typeOf #[.iface 79 v]).run Try.prog w = .ok (.iface 110 (.agg #[.pointer (some ⟨0, 79, none⟩)])) w := by kernel_rfl
theorem Try.isComparable (w : World) : ((Extern.ReflectliteType.method fun t => do Rtype.noPackHeld "Comparable" t; (fun a => Value.bool a.comparable) <$> typeInfo t) #[.agg #[.pointer (some ⟨0, 79, none⟩)]]).run Try.prog w = .ok (.bool true) w := by kernel_rfl
theorem Try.isComp : (Try.prog.info? 79).map (·.comparable) = some true := by kernel_rfl
theorem Try.noIs (v : Value) (xT : TypeId) (w : World) : (Instr.typeAssert (.iface 79 v) xT 112 true).run Try.prog w = .ok (.tuple #[.nilIface, .bool false]) w := run_typeAssert_lacksB Try.underlying112 (by kernel_rfl) (by kernel_rfl) v xT w
theorem Try.noUnwrap (v : Value) (xT : TypeId) (w : World) : (Instr.typeAssert (.iface 79 v) xT 115 true).run Try.prog w = .ok (.tuple #[.nilIface, .bool false]) w := run_typeAssert_lacksB Try.underlying115 (by kernel_rfl) (by kernel_rfl) v xT w
theorem Try.noUnwraps (v : Value) (xT : TypeId) (w : World) : (Instr.typeAssert (.iface 79 v) xT 117 true).run Try.prog w = .ok (.tuple #[.nilIface, .bool false]) w := run_typeAssert_lacksB Try.underlying117 (by kernel_rfl) (by kernel_rfl) v xT w

/-- errors.Is of a code and itself. -/
theorem is_same (a : Int) (w : World) :
    Calls Try.prog 35 #[.iface 79 (.int .i64 a), .iface 79 (.int .i64 a)] w fun e w' => e = .returned (.bool true) ∧ w = w' := by
  obtain ⟨i, hi, hcmp⟩ := Option.map_eq_some_iff.1 Try.isComp
  have h8 := @run_callFunc_extern Try.prog 47 _ Extern.ReflectliteType.typeOf Try.func47 (by kernel_rfl) (by kernel_rfl) (by kernel_rfl) (by kernel_rfl)
  have h32 := @run_callFunc_extern Try.prog 75 _ (Extern.ReflectliteType.method fun t => do Rtype.noPackHeld "Comparable" t; pure (.bool (← typeInfo t).comparable)) Try.func75 (by kernel_rfl) (by kernel_rfl) (by kernel_rfl) (by kernel_rfl)
  have tT := Try.isTypeOf
  have cT := Try.isComparable
  have mR : ∀ (v : Value) (w : World), (Go.method 254 110 v "Comparable").run Try.prog w = .ok (75, v) w := fun v w => by kernel_rfl
  have heq := eql_codes (P := Try.prog) a a w Try.underlying49 Try.underlying79 hi hcmp
  have hb : (a == a) = true := by simp
  go_enter Try.func35, Try.ntmps35
  go_wp2
  refine wp_loop_rounds 1 ?_
  rw [rounds_succ]
  go_wp2
  go_ret
  exact ⟨rfl, rfl⟩

/-- errors.Is of two unlike codes. -/
theorem is_other (a b : Int) (w : World) (hne : a ≠ b) :
    Calls Try.prog 35 #[.iface 79 (.int .i64 a), .iface 79 (.int .i64 b)] w fun e w' => e = .returned (.bool false) ∧ w = w' := by
  obtain ⟨i, hi, hcmp⟩ := Option.map_eq_some_iff.1 Try.isComp
  have h8 := @run_callFunc_extern Try.prog 47 _ Extern.ReflectliteType.typeOf Try.func47 (by kernel_rfl) (by kernel_rfl) (by kernel_rfl) (by kernel_rfl)
  have h32 := @run_callFunc_extern Try.prog 75 _ (Extern.ReflectliteType.method fun t => do Rtype.noPackHeld "Comparable" t; pure (.bool (← typeInfo t).comparable)) Try.func75 (by kernel_rfl) (by kernel_rfl) (by kernel_rfl) (by kernel_rfl)
  have tT := Try.isTypeOf
  have cT := Try.isComparable
  have mR : ∀ (v : Value) (w : World), (Go.method 254 110 v "Comparable").run Try.prog w = .ok (75, v) w := fun v w => by kernel_rfl
  have nI := Try.noIs
  have nU := Try.noUnwrap
  have nV := Try.noUnwraps
  have heq := eql_codes (P := Try.prog) a b w Try.underlying49 Try.underlying79 hi hcmp
  have hb : (a == b) = false := by simpa using hne
  go_enter Try.func35, Try.ntmps35
  go_wp2
  refine wp_loop_rounds 1 ?_
  rw [rounds_succ]
  go_wp2
  go_ret
  exact ⟨rfl, rfl⟩

/-- Code of no error. -/
theorem code_nil (w : World) :
    Calls Try.prog 20 #[.nilIface] w fun e w' => e = .returned (.int .i64 0) ∧ w = w' := by
  go_enter Try.func20, Try.ntmps20
  go_wp2
  go_ret
  exact ⟨rfl, rfl⟩

/-- Code of a code. -/
theorem code_code (k : Int) (w : World) (h1 : 1 ≤ k) (h2 : k ≤ 17) :
    Calls Try.prog 20 #[.iface 79 (.int .i64 k)] w fun e w' => e = .returned (.int .i64 k) ∧ w = w' := by
  go_enter Try.func20, Try.ntmps20
  go_wp2
  go_loop [3] (fun c => ∃ j : Int, 1 ≤ j ∧ j ≤ k ∧ c = .int .i64 j) (fun c => 18 - (intOf c).toNat)
  case atStart => exact ⟨1, by omega, by omega, rfl⟩
  case round =>
    obtain ⟨j, hj1, hj2, rfl⟩ := hrel
    have hj17 : j ≤ 17 := by omega
    by_cases hkj : k = j
    · subst hkj
      go_wp2_with (go_at_call 35; refine (is_same _ _).mono ?_; rintro e w' ⟨rfl, rfl⟩)
      go_ret
      exact ⟨rfl, rfl⟩
    · have hlt : j + 1 ≤ k := by omega
      go_wp2_with (go_at_call 35; refine (is_other _ _ _ hkj).mono ?_; rintro e w' ⟨rfl, rfl⟩)
      go_round
      case rel => exact ⟨j + 1, by omega, by omega, rfl⟩
      case measure => simp [intOf]; omega

end Go.Proofs.Ytlaighghagcjjaa
