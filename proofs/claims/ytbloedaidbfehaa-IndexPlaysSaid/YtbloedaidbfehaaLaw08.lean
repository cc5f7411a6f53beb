/- The statements of layer 8 (index): what they share. -/
import Derived.Test.YtbloedaidbfehaaRef08
namespace Go.Proofs.Ytbloedaidbfehaa
open Go.RowKit Go.Cor

def p5 : Pos := ⟨5, 0, 0, 0, false⟩
def p3 : Pos := ⟨3, 0, 0, 0, false⟩
theorem puts53 : puts [] [p5, p3] = [p3, p5] := rfl
theorem fnd53 : fnd [p3, p5] 4 = none := rfl
theorem foundE_none : foundE none = .iface 53 (.int .i64 6) := rfl
theorem foundE_some (p : Pos) : foundE (some p) = .nilIface := rfl

/-- Two positions as values: are they one? -/
theorem Try.eqlPosA (p q : Pos) (w : World) : (binOp .neq 32 (pval p) (pval q)).run Try.prog w = .ok (.bool (decide (p ≠ q))) w := by
  have hS : Try.prog.underlying 32 = some (.struct (Try.prog.fieldsOf 32)) := by kernel_rfl
  have hp : Try.prog.stoodInHeld 32 = false := by kernel_rfl
  have h : (Op.equalIn 10000 32 (pval p) (pval q)).run Try.prog w = .ok (decide (p.key = q.key) && (decide (p.off = q.off) && (decide (p.len = q.len) && (decide (p.cookie = q.cookie) && decide (p.gone = q.gone))))) w := by
    rw [show (10000 : Nat) = 9999 + 1 from rfl, run_equalIn_agg w 9999 32 _ _ hS hp]
    simp only [Program.fieldsOf, Try.underlying32]
    go_simp
    by_cases h1 : p.key = q.key <;> by_cases h2 : p.off = q.off <;> by_cases h3 : p.len = q.len <;> by_cases h4 : p.cookie = q.cookie <;> by_cases h5 : p.gone = q.gone <;> simp [h1, h2, h3, h4, h5, Int.natCast_inj]
  rw [run_neq_struct, h]
  refine congrArg (fun b => Result.ok (Value.bool b) w) (a₁ := !(decide (p.key = q.key) && (decide (p.off = q.off) && (decide (p.len = q.len) && (decide (p.cookie = q.cookie) && decide (p.gone = q.gone)))))) ?_
  rw [Bool.eq_iff_iff]
  simp only [Bool.not_eq_true', Bool.and_eq_false_iff, decide_eq_false_iff_not, decide_eq_true_eq]
  constructor
  · intro h e
    subst e
    simp at h
  · intro hne
    by_cases h1 : p.key = q.key
    · by_cases h2 : p.off = q.off
      · by_cases h3 : p.len = q.len
        · by_cases h4 : p.cookie = q.cookie
          · by_cases h5 : p.gone = q.gone
            · exact absurd (Pos.ext' h1 h2 h3 h4 h5) hne
            · exact .inr (.inr (.inr (.inr h5)))
          · exact .inr (.inr (.inr (.inl h4)))
        · exact .inr (.inr (.inl h3))
      · exact .inr (.inl h2)
    · exact .inl h1
theorem Try.guardPosA : Try.prog.eqGuardType Try.prog.depth 32 = false := by kernel_rfl


set_option maxRecDepth 100000 in
set_option maxHeartbeats 1000000 in
theorem alive_any (w : World) : Calls Try.prog 7 #[] w fun e w' => e = .returned (.bool true) ∧ Below w.heap.size w w' := by
  have hlit : IsP (w.alloc (.cells #[.int .u64 5, .int .i64 0, .int .i64 0, .int .u32 0, .bool false, .int .u64 3, .int .i64 0, .int .i64 0, .int .u32 0, .bool false] 32)) (.slice (some ⟨w.heap.size, 0, none⟩) 2 2) [p5, p3] :=
    IsX.lit w _ _ 5 2 rfl (by unfold maxLen; omega)
  have HL := Lib.hid hlit
  clear hlit
  go_enter Try.func7, Try.ntmps7
  go_wp2_with fail
  refine (new_any _ [p5, p3] _ HL.out (by decide)).mono ?_
  rintro e w1 ⟨g, rfl, ho, hb⟩
  rw [puts53] at ho
  have HB1 := Lib.hid (((Below.refl w.heap.size w).alloc (Nat.le_refl _) _).trans (hb.mono (by simp)))
  have HO1 := Lib.hid ho
  clear ho hb
  obtain ⟨v, hv⟩ := HO1.out.ix
  go_wp2_with fail
  refine (all_any _ v _ _ hv (by decide)).mono ?_
  rintro e w2 ⟨v2, rfl, h1, h2⟩
  have HV2 := Lib.hid (hv.below h2 (Nat.le_refl _))
  have HB2 := Lib.hid (HB1.out.trans (h2.mono HB1.out.size))
  have HP2 := Lib.hid (IsP.own (ps := [p3, p5]) h1 rfl)
  clear h1 h2 hv
  go_wp2_with fail
  refine (find_any _ v _ 4 _ HV2.out (by decide)).mono ?_
  rintro e w3 ⟨rfl, hb⟩
  rw [fnd53, foundE_none]
  have HP3 := Lib.hid (HP2.out.mono hb (Nat.le_refl _))
  have HB3 := Lib.hid (HB2.out.trans (hb.mono HB2.out.size))
  have hsz := HB3.out.size
  have hlen := fun W => len_P (P := Try.prog) HP3.out (n := 2) rfl 39 3 32 Try.underlying39 W
  obtain ⟨b0, o0, i0, k0, k1, k2, k3, k4⟩ := indexAt_P HP3.out 39 32 Try.underlying39 Try.sizePos 0 (by decide)
  obtain ⟨b1, o1, i1, q0, q1, q2, q3, q4⟩ := indexAt_P HP3.out 39 32 Try.underlying39 Try.sizePos 1 (by decide)
  clear hb HV2 HO1
  have k0' : w3.cell? ⟨b0, o0, none⟩ = some (.int .u64 3) := k0
  have q0' : w3.cell? ⟨b1, o1, none⟩ = some (.int .u64 5) := q0
  have i0' : ∀ W, (Instr.indexAt 39 v2 (.int .i64 0)).run Try.prog W = .ok (.pointer (some ⟨b0, o0, none⟩)) W := i0
  have i1' : ∀ W, (Instr.indexAt 39 v2 (.int .i64 1)).run Try.prog W = .ok (.pointer (some ⟨b1, o1, none⟩)) W := i1
  have hb0 := cell_lt k0'
  have hb1 := cell_lt q0'
  clear k0 q0 i0 i1 k1 k2 k3 k4 q1 q2 q3 q4
  go_wp2_with (go_at_call 11; refine (code_code 6 _ (by decide) (by decide)).mono ?_; rintro e w4 ⟨rfl, rfl⟩)
  go_ret
  exact ⟨rfl, HB3.out.alloc hsz _⟩

end Go.Proofs.Ytbloedaidbfehaa
