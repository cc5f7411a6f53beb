/- An error at a place (a pointer to api.At that wraps a code): errors.Is and Code of it. -/
import Derived.Test.YtdoohmhgcdcmgaaDoorErrs
import Derived.Below
namespace Go.Proofs.YtdoohmhgcdcmgaaDoor
open Go.RowKit Go.Extern.Stop Go.Stop Go.Extern

theorem Tryd.hasUnwrap (v : Value) (xT : TypeId) (w : World) : (Instr.typeAssert (.iface 53 v) xT 90 true).run Tryd.prog w = .ok (.tuple #[.iface 53 v, .bool true]) w := run_typeAssert_hasB Tryd.underlying90 (by kernel_rfl) v xT w
theorem Tryd.atNoIs (v : Value) (xT : TypeId) (w : World) : (Instr.typeAssert (.iface 53 v) xT 88 true).run Tryd.prog w = .ok (.tuple #[.nilIface, .bool false]) w := run_typeAssert_lacksB Tryd.underlying88 (by kernel_rfl) (by kernel_rfl) v xT w
theorem Tryd.methodUnwrap (v : Value) (w : World) : (Go.method 233 53 v "Unwrap").run Tryd.prog w = .ok (65, v) w := by kernel_rfl
theorem Tryd.eqlAt (x y : Value) (w : World) : (binOp .eql 26 (.iface 53 x) (.iface 50 y)).run Tryd.prog w = .ok (.bool false) w := run_eql_iface_types _ _ _ _ Tryd.underlying26 (by decide) w

/-- errors.Is of an error at a place, and a code: the code that it wraps is asked. -/
theorem is_at (a : Nat) (k c : Int) (w : World) (hc : w.cell? ⟨a, 2, none⟩ = some (.iface 50 (.int .i64 k))) :
    Calls Tryd.prog 15 #[.iface 53 (.pointer (some ⟨a, 0, none⟩)), .iface 50 (.int .i64 c)] w fun e w' => e = .returned (.bool (k == c)) ∧ w = w' := by
  obtain ⟨i, hi, hcmp⟩ := Option.map_eq_some_iff.1 Tryd.isComp
  have h8 := @run_callFunc_extern Tryd.prog 28 _ Extern.ReflectliteType.typeOf Tryd.func28 (by kernel_rfl) (by kernel_rfl) (by kernel_rfl) (by kernel_rfl)
  have h32 := @run_callFunc_extern Tryd.prog 71 _ (Extern.ReflectliteType.method fun t => do Rtype.noPackHeld "Comparable" t; pure (.bool (← typeInfo t).comparable)) Tryd.func71 (by kernel_rfl) (by kernel_rfl) (by kernel_rfl) (by kernel_rfl)
  have tT := Tryd.isTypeOf
  have cT := Tryd.isComparable
  have mR : ∀ (v : Value) (w : World), (Go.method 233 86 v "Comparable").run Tryd.prog w = .ok (71, v) w := fun v w => by kernel_rfl
  have nI := Tryd.noIs
  have nU := Tryd.noUnwrap
  have nV := Tryd.noUnwraps
  have aU := Tryd.hasUnwrap
  have aI := Tryd.atNoIs
  have mU := Tryd.methodUnwrap
  have eA := Tryd.eqlAt
  have heq := eql_codes (P := Tryd.prog) k c w Tryd.underlying26 Tryd.underlying50 hi hcmp
  cases hb : (k == c) with
  | true =>
    go_enter Tryd.func15, Tryd.ntmps15
    go_wp2
    refine wp_loop_rounds 2 ?_
    rw [rounds_succ]
    go_wp2
    rw [rounds_succ]
    go_wp2
    go_ret
    exact ⟨rfl, rfl⟩
  | false =>
    go_enter Tryd.func15, Tryd.ntmps15
    go_wp2
    refine wp_loop_rounds 2 ?_
    rw [rounds_succ]
    go_wp2
    rw [rounds_succ]
    go_wp2
    go_ret
    exact ⟨rfl, rfl⟩

/-- Code of an error at a place: the code that it wraps. -/
theorem code_at (a : Nat) (k : Int) (w : World) (hc : w.cell? ⟨a, 2, none⟩ = some (.iface 50 (.int .i64 k))) (h1 : 1 ≤ k) (h2 : k ≤ 17) :
    Calls Tryd.prog 8 #[.iface 53 (.pointer (some ⟨a, 0, none⟩))] w fun e w' => e = .returned (.int .i64 k) ∧ w = w' := by
  go_enter Tryd.func8, Tryd.ntmps8
  go_wp2
  go_loop [3] (fun c => ∃ j : Int, 1 ≤ j ∧ j ≤ k ∧ c = .int .i64 j) (fun c => 18 - (intOf c).toNat)
  case atStart => exact ⟨1, by omega, by omega, rfl⟩
  case round =>
    obtain ⟨j, hj1, hj2, rfl⟩ := hrel
    have hj17 : j ≤ 17 := by omega
    by_cases hkj : k = j
    · subst hkj
      have hb : (k == k) = true := by simp
      go_wp2_with (go_at_call 15; refine (is_at a k _ _ hc).mono ?_; rintro e w' ⟨rfl, rfl⟩; rw [hb])
      go_ret
      exact ⟨rfl, rfl⟩
    · have hlt : j + 1 ≤ k := by omega
      have hb : (k == j) = false := by simpa using hkj
      go_wp2_with (go_at_call 15; refine (is_at a k _ _ hc).mono ?_; rintro e w' ⟨rfl, rfl⟩; rw [hb])
      go_round
      case rel => exact ⟨j + 1, by omega, by omega, rfl⟩
      case measure => simp [intOf]; omega

end Go.Proofs.YtdoohmhgcdcmgaaDoor
