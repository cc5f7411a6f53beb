/- The statements of layer 1 (pack): more walks. -/
import Derived.Test.YtmcihecipcgcoaaLaw01
namespace Go.Proofs.Ytmcihecipcgcoaa
open Go.RowKit Go.Cor
set_option linter.unusedVariables false

/-- Are all 0? -/
def zeroB (l : List UInt8) : Bool := l.all fun x => x == 0

theorem first_bad (l : List UInt8) : zeroB l = true ∨ ∃ p, p < l.length ∧ l.getD p 0 ≠ 0 ∧ ∀ i, i < p → l.getD i 0 = 0 := by
  induction l with
  | nil => exact .inl rfl
  | cons x r ih =>
    by_cases hx : x = 0
    · subst hx
      rcases ih with h | ⟨p, hp, h1, h2⟩
      · exact .inl (by simpa [zeroB] using h)
      · refine .inr ⟨p + 1, by simpa using hp, by simpa using h1, fun i hi => ?_⟩
        cases i with
        | zero => rfl
        | succ i => simpa using h2 i (by omega)
    · exact .inr ⟨0, by simp, by simpa using hx, fun i hi => absurd hi (by omega)⟩

theorem zeroB_get {l : List UInt8} (h : zeroB l = true) (i : Nat) (hi : i < l.length) : l.getD i 0 = 0 := by
  rw [zeroB, List.all_eq_true] at h
  have := h l[i] (List.getElem_mem hi)
  simpa [List.getD_eq_getElem?_getD, List.getElem?_eq_getElem hi] using this

theorem zeroB_no {l : List UInt8} {p : Nat} (hp : p < l.length) (h1 : l.getD p 0 ≠ 0) : zeroB l = false := by
  rw [Bool.eq_false_iff]
  intro h
  exact h1 (zeroB_get h p hp)

theorem zero_any (v : Value) (l : List UInt8) (w : World) (hv : IsB w v l) (hl : l.length ≤ 1099511627776) :
    Calls Try.prog 19 #[v] w fun e w' => e = .returned (.bool (zeroB l)) ∧ w = w' := by
  rcases first_bad l with h | ⟨p, hp, h1, h2⟩
  · rw [h]
    exact zero_yes v l w hv hl (zeroB_get h)
  · rw [zeroB_no hp h1]
    exact zero_no v l p w hv hl hp h1 h2

theorem zeroB_snoc (l : List UInt8) (k : Nat) (h : k < l.length) : zeroB (l.take (k + 1)) = (zeroB (l.take k) && (((l[k]?.getD 0).toNat : Int) == 0)) := by
  rw [List.take_succ_eq_append_getElem h, zeroB, List.all_append]
  congr 1
  rw [List.getElem?_eq_getElem h, Bool.eq_iff_iff]
  simp [← UInt8.toNat_inj]

set_option maxHeartbeats 1000000 in
theorem packPads_neg (n : Int) (x : Option Addr) (cap : Nat) (l : List UInt8) (w : World) (HV : Hid (IsB w (.slice x l.length cap) l)) (h1 : -9223372036854775808 ≤ n) (h2 : n ≤ 9223372036854775807) (hl3 : ¬ 3000 < l.length) (hn : n < 0) :
    Calls Try.prog 4 #[.int .i64 n, .slice x l.length cap] w fun e w' => e = .returned (.bool true) ∧ Below w.heap.size w w' := by
  have HC : Hid (∀ i, i < l.length → ∃ b off, x = some ⟨b, off, none⟩ ∧ w.cell? ⟨b, off + i, none⟩ = some (bv (l.getD i 0))) := by
    obtain ⟨a, c, e, _, _, _, hcell⟩ := HV.out
    cases e
    intro i hi
    rcases hcell with hE | ⟨b, off, rfl, hc⟩
    · omega
    · exact ⟨b, off, rfl, hc i hi⟩
  go_enter Try.func4, Try.ntmps4
  go_wp2_with fail
  refine (alive_any _).mono ?_
  rintro e w1 ⟨rfl, hb1⟩
  go_wp2_with fail
  refine (whole_neg n _ hn).mono ?_
  rintro e w2 ⟨rfl, rfl⟩
  go_wp2_with fail
  go_loop [7, 8] (fun z c => ∃ k : Nat, k ≤ l.length ∧ c = .int .i64 k ∧ z = .bool (zeroB (l.take k))) (fun _ c => l.length - (intOf c).toNat)
  case atStart => exact ⟨0, by omega, rfl, by simp [zeroB]⟩
  case round =>
    obtain ⟨k, hk, rfl, rfl⟩ := hrel
    by_cases hlt : k < l.length
    · obtain ⟨b, off, rfl, hc⟩ := HC.out k hlt
      have hc : w1.cell? ⟨b, off + k, none⟩ = some (bv (l.getD k 0)) := by rw [hb1.cell (by have := cell_lt hc; simpa using this)]; exact hc
      have HZ := Lib.hid (zeroB_snoc l k hlt)
      cases hz : zeroB (l.take k)
      all_goals
        rw [hz] at HZ
        go_wp2
        go_round
        case rel => exact ⟨k + 1, by omega, by go_num, by rw [HZ.out]; simp [List.getElem?_eq_getElem hlt]⟩
        case measure => simp [intOf]; omega
    · obtain rfl : k = l.length := by omega
      rw [List.take_length]
      have HZ := Lib.hid (zero_any _ l w1 (HV.out.mono hb1 (Nat.le_refl _)) (by omega))
      generalize zeroB l = zb at HZ
      cases zb
      all_goals
        go_wp2_with (first | (go_at_call 17; refine (pad_any n _ h1 h2).mono ?_; rintro e w3 ⟨rfl, rfl⟩) | (go_at_call 18; refine (refpad_any n _ h1 h2).mono ?_; rintro e w3 ⟨rfl, rfl⟩) | (go_at_call 19; refine HZ.out.mono ?_; rintro e w3 ⟨rfl, rfl⟩) | (go_at_call 12; refine (code_code 1 _ (by decide) (by decide)).mono ?_; rintro e w3 ⟨rfl, rfl⟩))
        go_ret
        exact ⟨rfl, hb1⟩

set_option maxHeartbeats 1000000 in
theorem packPads_long (n : Int) (x : Option Addr) (cap : Nat) (l : List UInt8) (w : World) (HV : Hid (IsB w (.slice x l.length cap) l)) (h1 : -9223372036854775808 ≤ n) (h2 : n ≤ 9223372036854775807) (hl3 : ¬ 3000 < l.length) (hn : 1073741824 < n) :
    Calls Try.prog 4 #[.int .i64 n, .slice x l.length cap] w fun e w' => e = .returned (.bool true) ∧ Below w.heap.size w w' := by
  have HC : Hid (∀ i, i < l.length → ∃ b off, x = some ⟨b, off, none⟩ ∧ w.cell? ⟨b, off + i, none⟩ = some (bv (l.getD i 0))) := by
    obtain ⟨a, c, e, _, _, _, hcell⟩ := HV.out
    cases e
    intro i hi
    rcases hcell with hE | ⟨b, off, rfl, hc⟩
    · omega
    · exact ⟨b, off, rfl, hc i hi⟩
  have hn0 : ¬ n < 0 := by omega
  go_enter Try.func4, Try.ntmps4
  go_wp2_with fail
  refine (alive_any _).mono ?_
  rintro e w1 ⟨rfl, hb1⟩
  go_wp2_with fail
  refine (whole_long n _ hn).mono ?_
  rintro e w2 ⟨rfl, rfl⟩
  go_wp2_with fail
  go_loop [7, 8] (fun z c => ∃ k : Nat, k ≤ l.length ∧ c = .int .i64 k ∧ z = .bool (zeroB (l.take k))) (fun _ c => l.length - (intOf c).toNat)
  case atStart => exact ⟨0, by omega, rfl, by simp [zeroB]⟩
  case round =>
    obtain ⟨k, hk, rfl, rfl⟩ := hrel
    by_cases hlt : k < l.length
    · obtain ⟨b, off, rfl, hc⟩ := HC.out k hlt
      have hc : w1.cell? ⟨b, off + k, none⟩ = some (bv (l.getD k 0)) := by rw [hb1.cell (by have := cell_lt hc; simpa using this)]; exact hc
      have HZ := Lib.hid (zeroB_snoc l k hlt)
      cases hz : zeroB (l.take k)
      all_goals
        rw [hz] at HZ
        go_wp2
        go_round
        case rel => exact ⟨k + 1, by omega, by go_num, by rw [HZ.out]; simp [List.getElem?_eq_getElem hlt]⟩
        case measure => simp [intOf]; omega
    · obtain rfl : k = l.length := by omega
      rw [List.take_length]
      have HZ := Lib.hid (zero_any _ l w1 (HV.out.mono hb1 (Nat.le_refl _)) (by omega))
      generalize zeroB l = zb at HZ
      cases zb
      all_goals
        go_wp2_with (first | (go_at_call 17; refine (pad_any n _ h1 h2).mono ?_; rintro e w3 ⟨rfl, rfl⟩) | (go_at_call 18; refine (refpad_any n _ h1 h2).mono ?_; rintro e w3 ⟨rfl, rfl⟩) | (go_at_call 19; refine HZ.out.mono ?_; rintro e w3 ⟨rfl, rfl⟩) | (go_at_call 12; refine (code_code 2 _ (by decide) (by decide)).mono ?_; rintro e w3 ⟨rfl, rfl⟩))
        go_ret
        exact ⟨rfl, hb1⟩

set_option maxHeartbeats 1000000 in
theorem packPads_ok (n : Int) (x : Option Addr) (cap : Nat) (l : List UInt8) (w : World) (HV : Hid (IsB w (.slice x l.length cap) l)) (h1 : -9223372036854775808 ≤ n) (h2 : n ≤ 9223372036854775807) (hl3 : ¬ 3000 < l.length) (hn : 0 ≤ n) (hn2 : n ≤ 1073741824) :
    Calls Try.prog 4 #[.int .i64 n, .slice x l.length cap] w fun e w' => e = .returned (.bool true) ∧ Below w.heap.size w w' := by
  have HC : Hid (∀ i, i < l.length → ∃ b off, x = some ⟨b, off, none⟩ ∧ w.cell? ⟨b, off + i, none⟩ = some (bv (l.getD i 0))) := by
    obtain ⟨a, c, e, _, _, _, hcell⟩ := HV.out
    cases e
    intro i hi
    rcases hcell with hE | ⟨b, off, rfl, hc⟩
    · omega
    · exact ⟨b, off, rfl, hc i hi⟩
  have hp1 := (pad_range n).1
  have hp2 := (pad_range n).2
  have ht1 : ((n + pad n) % 8 == 0) = true := by
    have := pad_pos hn
    rw [beq_iff_eq]
    omega
  have ht2 : decide (n + pad n - n < 8) = true := by simp; omega
  go_enter Try.func4, Try.ntmps4
  go_wp2_with fail
  refine (alive_any _).mono ?_
  rintro e w1 ⟨rfl, hb1⟩
  go_wp2_with fail
  refine (whole_ok n _ hn hn2).mono ?_
  rintro e w2 ⟨rfl, rfl⟩
  go_wp2_with fail
  go_loop [7, 8] (fun z c => ∃ k : Nat, k ≤ l.length ∧ c = .int .i64 k ∧ z = .bool (zeroB (l.take k))) (fun _ c => l.length - (intOf c).toNat)
  case atStart => exact ⟨0, by omega, rfl, by simp [zeroB]⟩
  case round =>
    obtain ⟨k, hk, rfl, rfl⟩ := hrel
    by_cases hlt : k < l.length
    · obtain ⟨b, off, rfl, hc⟩ := HC.out k hlt
      have hc : w1.cell? ⟨b, off + k, none⟩ = some (bv (l.getD k 0)) := by rw [hb1.cell (by have := cell_lt hc; simpa using this)]; exact hc
      have HZ := Lib.hid (zeroB_snoc l k hlt)
      cases hz : zeroB (l.take k)
      all_goals
        rw [hz] at HZ
        go_wp2
        go_round
        case rel => exact ⟨k + 1, by omega, by go_num, by rw [HZ.out]; simp [List.getElem?_eq_getElem hlt]⟩
        case measure => simp [intOf]; omega
    · obtain rfl : k = l.length := by omega
      rw [List.take_length]
      have HZ := Lib.hid (zero_any _ l w1 (HV.out.mono hb1 (Nat.le_refl _)) (by omega))
      generalize zeroB l = zb at HZ
      cases zb
      all_goals
        go_wp2_with (first | (go_at_call 17; refine (pad_any n _ h1 h2).mono ?_; rintro e w3 ⟨rfl, rfl⟩) | (go_at_call 18; refine (refpad_any n _ h1 h2).mono ?_; rintro e w3 ⟨rfl, rfl⟩) | (go_at_call 19; refine HZ.out.mono ?_; rintro e w3 ⟨rfl, rfl⟩) | (go_at_call 12; refine (code_nil _).mono ?_; rintro e w3 ⟨rfl, rfl⟩))
        go_ret
        exact ⟨rfl, hb1⟩

theorem packPads_any (n : Int) (v : Value) (l : List UInt8) (w : World) (hv : IsB w v l) (h1 : -9223372036854775808 ≤ n) (h2 : n ≤ 9223372036854775807) :
    Calls Try.prog 4 #[.int .i64 n, v] w fun e w' => e = .returned (.bool true) ∧ Below w.heap.size w w' := by
  obtain ⟨x, cap, rfl, hlc, hcm, hnc, hcell⟩ := hv
  have HV : Hid (IsB w (.slice x l.length cap) l) := ⟨x, cap, rfl, hlc, hcm, hnc, hcell⟩
  clear hcell hnc
  by_cases hl : 3000 < l.length
  · go_enter Try.func4, Try.ntmps4
    go_wp2_with (go_at_call 8; refine (alive_any _).mono ?_; rintro e w1 ⟨rfl, hb1⟩)
    go_ret
    exact ⟨rfl, hb1⟩
  by_cases hn : n < 0
  · exact packPads_neg n x cap l w HV h1 h2 hl hn
  by_cases hn2 : 1073741824 < n
  · exact packPads_long n x cap l w HV h1 h2 hl hn2
  · exact packPads_ok n x cap l w HV h1 h2 hl (by omega) (by omega)

end Go.Proofs.Ytmcihecipcgcoaa
