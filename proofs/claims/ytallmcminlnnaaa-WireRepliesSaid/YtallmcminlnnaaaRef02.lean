/- The document's answers for layer 2, by contracts. -/
import Derived.Test.YtallmcminlnnaaaCrc
import Derived.Test.YtallmcminlnnaaaRef01
import Derived.Test.YtallmcminlnnaaaSum
set_option linter.unusedVariables false
set_option linter.unusedSimpArgs false
namespace Go.Proofs.Ytallmcminlnnaaa
open Go.RowKit Go.Cor

theorem refstep_any (r b : Nat) (w : World) (hr : r < 4294967296) (hb : b < 2) :
    Calls Try.prog 40 #[.int .u32 r, .int .u32 b] w fun e w' => e = .returned (.int .u32 (cstep r b : Nat)) ∧ w = w' := by
  by_cases h : r % 2 = b
  · have q1 : (((r : Int) % 2 == 1) == ((b : Int) == 1)) = true := by
      rw [beq_iff_eq, Bool.eq_iff_iff]
      simp
      omega
    have he : ((cstep r b : Nat) : Int) = (r : Int) / 2 := by rw [cstep, if_pos h]; omega
    have HE := Lib.hid he
    clear he h
    go_enter Try.func40, Try.ntmps40
    go_wp2
    go_ret
    exact ⟨ret_int HE.out.symm, rfl⟩
  · have q1 : (((r : Int) % 2 == 1) == ((b : Int) == 1)) = false := by
      rw [beq_eq_false_iff_ne, ne_eq, Bool.eq_iff_iff]
      simp
      omega
    have e := u32_xor_nat (r / 2) 2197175160 (by omega) (by decide)
    rw [show ((2197175160 : Nat) : Int) = 2197175160 from rfl, show ((r / 2 : Nat) : Int) = (r : Int) / 2 from by omega] at e
    have he : ((cstep r b : Nat) : Int) = bits .xor .u32 ((r : Int) / 2) 2197175160 := by rw [cstep, if_neg h, e]
    have HE := Lib.hid he
    clear he h e
    go_enter Try.func40, Try.ntmps40
    go_wp2
    go_ret
    exact ⟨ret_int HE.out.symm, rfl⟩

set_option maxHeartbeats 400000 in
theorem refof_any (v : Value) (l : List UInt8) (w : World) (hv : IsB w v l) (hl : l.length ≤ 1099511627776) :
    Calls Try.prog 25 #[v] w fun e w' => e = .returned (.int .u32 (crc l : Nat)) ∧ w = w' := by
  obtain ⟨x, cap, rfl, hlc, hcm, hnc, hcell⟩ := hv
  have HC : Hid (∀ i, i < l.length → ∃ b off, x = some ⟨b, off, none⟩ ∧ w.cell? ⟨b, off + i, none⟩ = some (.int .u8 ((l.getD i 0).toNat : Int))) := by
    intro i hi
    rcases hcell with hE | ⟨b, off, rfl, hc⟩
    · omega
    · exact ⟨b, off, rfl, hc i hi⟩
  clear hcell hnc
  go_enter Try.func25, Try.ntmps25
  go_wp2
  go_loop [3, 4] (fun g c => ∃ i r : Nat, i ≤ l.length ∧ r < 4294967296 ∧ Hid (r = creg 4294967295 (l.take i)) ∧ g = .int .u32 (r : Int) ∧ c = .int .i64 i) (fun _ c => l.length - (intOf c).toNat)
  case atStart => exact ⟨0, 4294967295, by omega, by omega, rfl, rfl, rfl⟩
  case round =>
    obtain ⟨i, r, hi, hr, hreg, rfl, rfl⟩ := hrel
    by_cases hlt : i < l.length
    · obtain ⟨b, off, rfl, hcell⟩ := HC.out i hlt
      have hy := (l.getD i 0).toNat_lt
      obtain ⟨y, hyy⟩ : ∃ y : Nat, y = (l.getD i 0).toNat := ⟨_, rfl⟩
      rw [← hyy] at hy hcell
      have HY := Lib.hid hyy
      clear hyy
      go_wp2
      go_loop [3, 5, 6] (fun g z c => ∃ k r2 m : Nat, k ≤ 8 ∧ r2 < 4294967296 ∧ m < 256 ∧ Hid (r2 = csteps k r y) ∧ Hid (m = y / 2 ^ k) ∧ g = .int .u32 (r2 : Int) ∧ z = .int .u8 (m : Int) ∧ c = .int .i64 k) (fun _ _ c => 8 - (intOf c).toNat)
      case atStart => exact ⟨0, r, y, by omega, hr, by omega, rfl, by show y = _; simp, rfl, rfl, rfl⟩
      case round =>
        obtain ⟨k, r2, m, hk, hr2, hm, hr2e, hme, rfl, rfl, rfl⟩ := hrel
        by_cases hk8 : k < 8
        · have hst := csteps_mod_step k r y m hme
          have hcl := cstep_lt (m % 2) hr2
          go_wp2_with fail
          refine (refstep_any r2 (m % 2) _ hr2 hst.1).mono ?_
          rintro e w' ⟨rfl, rfl⟩
          obtain ⟨g, hg⟩ : ∃ g : Nat, g = cstep r2 (m % 2) := ⟨_, rfl⟩
          rw [← hg] at hcl ⊢
          have HG := Lib.hid hg
          clear hg
          go_wp2
          go_round
          case rel => exact ⟨k + 1, g, m / 2, by omega, hcl, by omega, by show _ = _; rw [HG.out, hr2e.out]; exact hst.2.1.out, hst.2.2, rfl, by go_num, by go_num⟩
          case measure => simp [intOf]; omega
        · obtain rfl : k = 8 := by omega
          go_wp2
          go_round
          case rel => exact ⟨i + 1, r2, by omega, hr2, by show _ = _; rw [creg_snoc hlt, ← HY.out, ← hreg.out]; exact hr2e.out, rfl, by go_num⟩
          case measure => simp [intOf]; omega
    · obtain rfl : i = l.length := by omega
      go_wp2
      go_ret
      exact ⟨ret_int (by
        have h := hreg.out
        rw [List.take_length] at h
        show (4294967295 : Int) - (r : Int) = ((4294967295 - creg (4294967295 - 0) l : Nat) : Int)
        rw [Nat.sub_zero, ← h]
        omega), rfl⟩

end Go.Proofs.Ytallmcminlnnaaa
