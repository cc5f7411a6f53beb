/- What may be a name: the program's and the document's, by contracts. -/
import Derived.Test.YtnofabeajcdddaaStrs
import Derived.Lib.Hide
namespace Go.Proofs.Ytnofabeajcdddaa
open Go.RowKit Go.Cor

theorem okB_iff (c : UInt8) : okB c = true ↔ (97 ≤ c.toNat ∧ c.toNat ≤ 122 ∨ 48 ≤ c.toNat ∧ c.toNat ≤ 57 ∨ c.toNat = 46) := by
  unfold okB
  rw [decide_eq_true_iff]
  simp only [UInt8.le_iff_toNat_le, ← UInt8.toNat_inj]
  exact Iff.rfl
theorem take_all (s : ByteArray) (k : Nat) (h : k < s.size) : (s.data.toList.take (k + 1)).all okB = ((s.data.toList.take k).all okB && okB s[k]) := by
  rw [List.take_succ_eq_append_getElem (by simpa using h), List.all_append]
  simp
  rfl
theorem all_false {s : ByteArray} {k : Nat} (h : k < s.size) (hc : okB s[k] = false) : s.data.toList.all okB = false := by
  rw [List.all_eq_false]
  refine ⟨s[k], ?_, by simp [hc]⟩
  exact List.getElem_mem (l := s.data.toList) (n := k) (by simpa using h)
theorem byte_cases (x : Nat) (P : Prop) (h : ¬ (97 ≤ x ∧ x ≤ 122 ∨ 48 ≤ x ∧ x ≤ 57 ∨ x = 46)) (h1 : x < 46 → P) (h2 : x = 47 → P) (h3 : 57 < x → x < 97 → P) (h4 : 122 < x → P) : P := by
  by_cases a : x < 46
  · exact h1 a
  by_cases b : x = 47
  · exact h2 b
  by_cases c : x < 97
  · exact h3 (by omega) c
  · exact h4 (by omega)

set_option maxHeartbeats 1000000 in
theorem isName_any (s : ByteArray) (w : World) (hs : s.size ≤ 9223372036854775807) :
    Calls Try.prog 41 #[.string s] w fun e w' => e = .returned (.bool (isNm s)) ∧ w = w' := by
  obtain ⟨r, hr⟩ : ∃ r, isNm s = r := ⟨_, rfl⟩
  rw [hr]
  have HR := Lib.hid hr
  clear hr
  by_cases h1 : s.size < 1
  · obtain rfl : r = false := by rw [← HR.out]; unfold isNm; rw [decide_eq_false (by omega)]; rfl
    have h1' : (s.size : Int) < 1 := by omega
    go_enter Try.func41, Try.ntmps41
    go_wp2
    go_ret
    exact ⟨rfl, rfl⟩
  · by_cases h2 : 32 < s.size
    · obtain rfl : r = false := by rw [← HR.out]; unfold isNm; rw [decide_eq_false (by omega)]; rfl
      have h1' : ¬ (s.size : Int) < 1 := by omega
      have h2' : (32 : Int) < (s.size : Int) := by omega
      go_enter Try.func41, Try.ntmps41
      go_wp2
      go_ret
      exact ⟨rfl, rfl⟩
    · have h1' : ¬ (s.size : Int) < 1 := by omega
      have h2' : ¬ (32 : Int) < (s.size : Int) := by omega
      have HA := Lib.hid (show isNm s = s.data.toList.all okB from by unfold isNm; rw [decide_eq_true (by omega)]; rfl)
      go_enter Try.func41, Try.ntmps41
      go_wp2
      go_loop [15] (fun c => ∃ k : Nat, k ≤ s.size ∧ c = .int .i64 k ∧ Hid ((s.data.toList.take k).all okB = true)) (fun c => s.size - (intOf c).toNat)
      case atStart => exact ⟨0, Nat.zero_le _, rfl, Lib.hid rfl⟩
      case round =>
        obtain ⟨k, hk, rfl, hK⟩ := hrel
        by_cases hlt : k < s.size
        · by_cases hok : 97 ≤ s[k].toNat ∧ s[k].toNat ≤ 122 ∨ 48 ≤ s[k].toNat ∧ s[k].toNat ≤ 57 ∨ s[k].toNat = 46
          · have HN := Lib.hid (show (s.data.toList.take (k + 1)).all okB = true from by rw [take_all s k hlt, hK.out, (okB_iff _).2 hok]; rfl)
            rcases hok with hok | hok | hok
            all_goals
              go_wp2
              go_round
              case rel => exact ⟨k + 1, by omega, by go_num, HN⟩
              case measure => simp [intOf]; omega
          · obtain rfl : r = false := by
              rw [← HR.out, HA.out]
              refine all_false hlt ?_
              cases hq : okB s[k] with
              | false => rfl
              | true => exact absurd ((okB_iff _).1 hq) hok
            have hne1 : ((s[k].toNat : Int) != 46) = true := by
              have : s[k].toNat ≠ 46 := fun e => hok (.inr (.inr e))
              simp
              omega
            refine byte_cases s[k].toNat _ hok (fun a => ?_) (fun a => ?_) (fun a b => ?_) (fun a => ?_)
            all_goals
              clear hok
              go_wp2
              go_ret
              exact ⟨rfl, rfl⟩
        · obtain rfl : k = s.size := by omega
          obtain rfl : r = true := by
            rw [← HR.out, HA.out]
            have := hK.out
            rw [List.take_of_length_le (by simp)] at this
            exact this
          go_wp2
          go_ret
          exact ⟨rfl, rfl⟩

set_option maxHeartbeats 1000000 in
theorem named_any (s : ByteArray) (w : World) (hs : s.size ≤ 9223372036854775807) :
    Calls Try.prog 53 #[.string s] w fun e w' => e = .returned (.bool (isNm s)) ∧ w = w' := by
  obtain ⟨r, hr⟩ : ∃ r, isNm s = r := ⟨_, rfl⟩
  rw [hr]
  have HR := Lib.hid hr
  clear hr
  go_enter Try.func53, Try.ntmps53
  go_wp2
  go_loop [3] (fun c => ∃ k : Nat, k ≤ s.size ∧ c = .int .i64 k ∧ Hid ((s.data.toList.take k).all okB = true)) (fun c => s.size - (intOf c).toNat)
  case atStart => exact ⟨0, Nat.zero_le _, rfl, Lib.hid rfl⟩
  case round =>
    obtain ⟨k, hk, rfl, hK⟩ := hrel
    by_cases hlt : k < s.size
    · by_cases hok : 97 ≤ s[k].toNat ∧ s[k].toNat ≤ 122 ∨ 48 ≤ s[k].toNat ∧ s[k].toNat ≤ 57 ∨ s[k].toNat = 46
      · have HN := Lib.hid (show (s.data.toList.take (k + 1)).all okB = true from by rw [take_all s k hlt, hK.out, (okB_iff _).2 hok]; rfl)
        rcases hok with hok | hok | hok
        all_goals
          go_wp2
          go_round
          case rel => exact ⟨k + 1, by omega, by go_num, HN⟩
          case measure => simp [intOf]; omega
      · obtain rfl : r = false := by
          rw [← HR.out]
          unfold isNm
          rw [Bool.and_eq_false_iff]
          refine .inr (all_false hlt ?_)
          cases hq : okB s[k] with
          | false => rfl
          | true => exact absurd ((okB_iff _).1 hq) hok
        have hne1 : ((s[k].toNat : Int) == 46) = false := by
          have : s[k].toNat ≠ 46 := fun e => hok (.inr (.inr e))
          simp
          omega
        refine byte_cases s[k].toNat _ hok (fun a => ?_) (fun a => ?_) (fun a b => ?_) (fun a => ?_)
        iterate 2
          · clear hok
            go_wp2
            go_ret
            exact ⟨rfl, rfl⟩
        · have e57 : decide ((s[k].toNat : Int) ≤ 57) = false := decide_eq_false (by omega)
          clear hok
          go_wp2
          go_ret
          exact ⟨rfl, rfl⟩
        · have e57 : decide ((s[k].toNat : Int) ≤ 57) = false := decide_eq_false (by omega)
          have e122 : decide ((s[k].toNat : Int) ≤ 122) = false := decide_eq_false (by omega)
          clear hok
          go_wp2
          go_ret
          exact ⟨rfl, rfl⟩
    · obtain rfl : k = s.size := by omega
      have HA : isNm s = decide (1 ≤ s.size ∧ s.size ≤ 32) := by
        have := hK.out
        rw [List.take_of_length_le (by simp)] at this
        unfold isNm
        rw [this, Bool.and_true]
      rw [HR.out] at HA
      by_cases h1 : s.size < 1
      · obtain rfl : r = false := by rw [HA]; exact decide_eq_false (by omega)
        have h1' : ¬ (1 : Int) ≤ (s.size : Int) := by omega
        clear HA
        go_wp2
        go_ret
        exact ⟨rfl, rfl⟩
      · by_cases h2 : 32 < s.size
        · obtain rfl : r = false := by rw [HA]; exact decide_eq_false (by omega)
          have h1' : (1 : Int) ≤ (s.size : Int) := by omega
          have h2' : ¬ (s.size : Int) ≤ 32 := by omega
          clear HA
          go_wp2
          go_ret
          exact ⟨rfl, rfl⟩
        · obtain rfl : r = true := by rw [HA]; exact decide_eq_true (by omega)
          have h1' : (1 : Int) ≤ (s.size : Int) := by omega
          have h2' : (s.size : Int) ≤ 32 := by omega
          clear HA
          go_wp2
          go_ret
          exact ⟨rfl, rfl⟩

end Go.Proofs.Ytnofabeajcdddaa
