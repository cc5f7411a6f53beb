/- The statements of layer 1 (pack): more walks. -/
import Derived.Test.YtmcihecipcgcoaaLaw01b
namespace Go.Proofs.Ytmcihecipcgcoaa
open Go.RowKit Go.Cor
set_option linter.unusedVariables false

/-- 1 << (i % 4), as the walk writes it. -/
theorem shl_size (i : Nat) : ∃ p : Nat, Sized (p : Int) ∧ p ≤ 8 ∧ 1 ≤ p ∧ wrap64 (2 ^ (i % 4)) = (p : Int) := by
  have h : i % 4 = 0 ∨ i % 4 = 1 ∨ i % 4 = 2 ∨ i % 4 = 3 := by omega
  rcases h with h | h | h | h
  · exact ⟨1, .inl rfl, by decide, by decide, by rw [h]; decide +kernel⟩
  · exact ⟨2, .inr (.inl rfl), by decide, by decide, by rw [h]; decide +kernel⟩
  · exact ⟨4, .inr (.inr (.inl rfl)), by decide, by decide, by rw [h]; decide +kernel⟩
  · exact ⟨8, .inr (.inr (.inr rfl)), by decide, by decide, by rw [h]; decide +kernel⟩

/-- What Put tells, as a slice of known length. -/
theorem put_okB (v : Value) (l : List UInt8) (n : Nat) (s : Nat) (w : World) (h : Sized (s : Int)) (hn : n ≤ great (s : Int)) (hv : IsB w v l) (hl : l.length ≤ 1099511627776) :
    Calls Try.prog 9 #[v, .int .u64 n, .int .i64 (s : Int)] w fun e w' =>
      ∃ x cap, e = .returned (.tuple #[.slice x (l.length + s) cap, .nilIface]) ∧ IsB w' (.slice x (l.length + s) cap) (l ++ le n s) ∧ l.length + s ≤ cap ∧ cap ≤ maxLen ∧ Below w.heap.size w w' := by
  refine (put_ok v l n s w h hn hv hl).mono ?_
  rintro e w' ⟨v', rfl, hown, hb⟩
  have hB := IsB.own hown rfl
  obtain ⟨x, cap, rfl, h1, h2, h3⟩ := hB
  rw [show (l ++ le n s).length = l.length + s from by simp [length_le]] at *
  exact ⟨x, cap, rfl, ⟨x, cap, by simp [length_le], by simpa [length_le] using h1, h2, by simpa [length_le] using h3⟩, h1, h2, hb⟩

theorem great_mono {p q : Nat} (hp : Sized (p : Int)) (hq : Sized (q : Int)) (h : p ≤ q) : great (p : Int) ≤ great (q : Int) := by
  have h1 := great_pow hp
  have h2 := great_pow hq
  have h3 : 256 ^ (p : Int).toNat ≤ 256 ^ (q : Int).toNat := Nat.pow_le_pow_right (by decide) (by omega)
  omega

theorem num_le_fit {n p : Nat} (hp : Sized (p : Int)) (h : n ≤ great (p : Int)) : num (le n p) = n := by
  have h1 := great_pow hp
  rw [num_le]
  simp only [Int.toNat_natCast] at h1
  exact Nat.mod_eq_of_lt (by omega)

/-- A number that fits, in more room: its bytes, and noughts. -/
theorem le_more (n p d : Nat) (h : n < 256 ^ p) : le n (p + d) = le n p ++ List.replicate d 0 := by
  induction p generalizing n with
  | zero =>
    obtain rfl : n = 0 := by simpa using h
    clear h
    simp only [Nat.zero_add, le, List.nil_append]
    induction d with
    | zero => rfl
    | succ d ih => rw [le, List.replicate_succ, Nat.zero_div, ih]; rfl
  | succ p ih =>
    rw [show p + 1 + d = (p + d) + 1 from by omega, le, le, List.cons_append, ih (n / 256) (by rw [Nat.pow_succ] at h; omega)]

theorem zeroB_replicate (d : Nat) : zeroB (List.replicate d 0) = true := by simp [zeroB]

theorem get_okI (v : Value) (l : List UInt8) (a s : Nat) (w : World) (n : Nat) (hs : Sized (s : Int)) (hv : IsB w v l) (hl : l.length ≤ 1099511627776) (h : a + s ≤ l.length) (hn : num ((l.drop a).take s) = n) :
    Calls Try.prog 10 #[v, .int .i64 a, .int .i64 s] w fun e w' => e = .returned (.tuple #[.int .u64 (n : Nat), .nilIface]) ∧ w = w' := by
  subst hn
  exact get_ok v l a s w hs hv hl h

set_option maxHeartbeats 1000000 in
theorem packSmall_a (n i k p q : Nat) (w : World) (hn : n < 18446744073709551616) (hi : i < 256) (hk : k < 256) (hp : Sized (p : Int)) (hp8 : p ≤ 8) (hp1 : 1 ≤ p) (hq : Sized (q : Int)) (hq8 : q ≤ 8) (hq1 : 1 ≤ q)
    (hpe : wrap64 (2 ^ (i % 4)) = (p : Int)) (hqe : wrap64 (2 ^ (k % 4)) = (q : Int)) (hik : i < k) (hki : ¬ k < i) (hpq : ¬ q < p) :
    Calls Try.prog 7 #[.int .u64 n, .int .u8 i, .int .u8 k] w fun e w' => e = .returned (.bool true) ∧ Below w.heap.size w w' := by
  by_cases hg : great (p : Int) < n
  · go_enter Try.func7, Try.ntmps7
    go_wp2_with fail
    refine (alive_any _).mono ?_
    rintro e w1 ⟨rfl, hb1⟩
    go_wp2_with (first | (go_at_call 9; refine (put_long _ _ _ _ (by assumption) hg).mono ?_; rintro e w3 ⟨rfl, rfl⟩) | (go_at_call 12; refine (code_code 2 _ (by decide) (by decide)).mono ?_; rintro e w3 ⟨rfl, rfl⟩))
    go_ret
    exact ⟨rfl, hb1⟩
  · have hgq := great_mono (p := p) (q := q) (by assumption) (by assumption) (by omega)
    have hfit : n < 256 ^ p := by
      have := great_pow (s := (p : Int)) (by assumption)
      simp at this
      omega
    have hmore := le_more n p (q - p) hfit
    rw [show p + (q - p) = q from by omega] at hmore
    have HM := Lib.hid hmore
    clear hmore hfit
    go_enter Try.func7, Try.ntmps7
    go_wp2_with fail
    refine (alive_any _).mono ?_
    rintro e w1 ⟨rfl, hb1⟩
    go_wp2_with fail
    refine (put_okB _ [] n p _ (by assumption) (by omega) (IsB.nil _) (by decide)).mono ?_
    rintro e w2 ⟨x2, c2, rfl, hB2, hc2, hm2, hb2⟩
    simp only [List.length_nil, Nat.zero_add, List.nil_append] at hB2 hc2 ⊢
    go_wp2_with fail
    refine (code_nil _).mono ?_
    rintro e w3 ⟨rfl, rfl⟩
    go_wp2_with fail
    refine (put_okB _ [] n q _ (by assumption) (by omega) (IsB.nil _) (by decide)).mono ?_
    rintro e w3 ⟨x3, c3, rfl, hB3, hc3, hm3, hb3⟩
    simp only [List.length_nil, Nat.zero_add, List.nil_append] at hB3 hc3 ⊢
    go_wp2_with fail
    refine (get_okI _ (le n q) 0 q _ n (by assumption) hB3 (by simp [length_le] <;> omega) (by simp [length_le]) (by rw [List.drop_zero, List.take_of_length_le (by simp [length_le])]; exact num_le_fit (by assumption) (by omega))).mono ?_
    rintro e w4 ⟨rfl, rfl⟩
    have hq0 : ¬ ((q : Int) < (p : Int)) := by omega
    have hs1 : IsB w3 (.slice x3 p c3) (le n p) := by
      have := hB3.take (j := p) (by simp [length_le] <;> omega)
      rw [HM.out, List.take_left' (by simp [length_le])] at this
      exact this
    have hs2 : IsB w3 (.slice x2 p c2) (le n p) := hB2.mono hb3 (Nat.le_refl _)
    have HS := Lib.hid (same_yes _ _ (le n p) _ hs1 hs2 (by simp [length_le] <;> omega))
    have HB3 := Lib.hid hB3
    have hbel : Below w.heap.size w w3 := hb1.trans ((hb2.trans (hb3.mono hb2.size)).mono hb1.size)
    clear hs1 hs2 hB3 hB2
    go_wp2_with (first | (go_at_call 12; refine (code_nil _).mono ?_; rintro e w4 ⟨rfl, rfl⟩) | (go_at_call 14; refine HS.out.mono ?_; rintro e w4 ⟨rfl, nd, rfl⟩))
    · try rw [show q - p = 0 from by omega]
      refine (zero_yes _ [] _ ⟨x3, 0, rfl, by simp, by simp, by simp, .inl rfl⟩ (by simp) (by simp)).mono ?_
      rintro e w4 ⟨rfl, rfl⟩
      go_wp2
      go_ret
      exact ⟨rfl, below_drewN hbel nd⟩
    · have hd := HB3.out.drop (j := p) (by simp [length_le] <;> omega)
      rw [HM.out, List.drop_left' (by simp [length_le]), List.length_append, List.length_replicate, length_le, show p + (q - p) - p = q - p from by omega] at hd
      try simp only [Nat.sub_self] at hd
      refine (zero_yes _ _ _ (hd.mono (below_drewN (Below.refl _ _) nd) (Nat.le_refl _)) (by simp <;> omega) (zeroB_get (zeroB_replicate _))).mono ?_
      rintro e w4 ⟨rfl, rfl⟩
      go_wp2
      go_ret
      exact ⟨rfl, below_drewN hbel nd⟩

set_option maxHeartbeats 1000000 in
theorem packSmall_b (n i k p q : Nat) (w : World) (hn : n < 18446744073709551616) (hi : i < 256) (hk : k < 256) (hp : Sized (p : Int)) (hp8 : p ≤ 8) (hp1 : 1 ≤ p) (hq : Sized (q : Int)) (hq8 : q ≤ 8) (hq1 : 1 ≤ q)
    (hpe : wrap64 (2 ^ (i % 4)) = (p : Int)) (hqe : wrap64 (2 ^ (k % 4)) = (q : Int)) (hik : i < k) (hki : ¬ k < i) (hpq : q < p) :
    Calls Try.prog 7 #[.int .u64 n, .int .u8 i, .int .u8 k] w fun e w' => e = .returned (.bool true) ∧ Below w.heap.size w w' := by
  by_cases hg : great (q : Int) < n
  · go_enter Try.func7, Try.ntmps7
    go_wp2_with fail
    refine (alive_any _).mono ?_
    rintro e w1 ⟨rfl, hb1⟩
    go_wp2_with (first | (go_at_call 9; refine (put_long _ _ _ _ (by assumption) hg).mono ?_; rintro e w3 ⟨rfl, rfl⟩) | (go_at_call 12; refine (code_code 2 _ (by decide) (by decide)).mono ?_; rintro e w3 ⟨rfl, rfl⟩))
    go_ret
    exact ⟨rfl, hb1⟩
  · have hgq := great_mono (p := q) (q := p) (by assumption) (by assumption) (by omega)
    have hfit : n < 256 ^ q := by
      have := great_pow (s := (q : Int)) (by assumption)
      simp at this
      omega
    have hmore := le_more n q (p - q) hfit
    rw [show q + (p - q) = p from by omega] at hmore
    have HM := Lib.hid hmore
    clear hmore hfit
    go_enter Try.func7, Try.ntmps7
    go_wp2_with fail
    refine (alive_any _).mono ?_
    rintro e w1 ⟨rfl, hb1⟩
    go_wp2_with fail
    refine (put_okB _ [] n q _ (by assumption) (by omega) (IsB.nil _) (by decide)).mono ?_
    rintro e w2 ⟨x2, c2, rfl, hB2, hc2, hm2, hb2⟩
    simp only [List.length_nil, Nat.zero_add, List.nil_append] at hB2 hc2 ⊢
    go_wp2_with fail
    refine (code_nil _).mono ?_
    rintro e w3 ⟨rfl, rfl⟩
    go_wp2_with fail
    refine (put_okB _ [] n p _ (by assumption) (by omega) (IsB.nil _) (by decide)).mono ?_
    rintro e w3 ⟨x3, c3, rfl, hB3, hc3, hm3, hb3⟩
    simp only [List.length_nil, Nat.zero_add, List.nil_append] at hB3 hc3 ⊢
    go_wp2_with fail
    refine (get_okI _ (le n p) 0 p _ n (by assumption) hB3 (by simp [length_le] <;> omega) (by simp [length_le]) (by rw [List.drop_zero, List.take_of_length_le (by simp [length_le])]; exact num_le_fit (by assumption) (by omega))).mono ?_
    rintro e w4 ⟨rfl, rfl⟩
    have hq0 : ¬ ((p : Int) < (q : Int)) := by omega
    have hs1 : IsB w3 (.slice x3 q c3) (le n q) := by
      have := hB3.take (j := q) (by simp [length_le] <;> omega)
      rw [HM.out, List.take_left' (by simp [length_le])] at this
      exact this
    have hs2 : IsB w3 (.slice x2 q c2) (le n q) := hB2.mono hb3 (Nat.le_refl _)
    have HS := Lib.hid (same_yes _ _ (le n q) _ hs1 hs2 (by simp [length_le] <;> omega))
    have HB3 := Lib.hid hB3
    have hbel : Below w.heap.size w w3 := hb1.trans ((hb2.trans (hb3.mono hb2.size)).mono hb1.size)
    clear hs1 hs2 hB3 hB2
    go_wp2_with (first | (go_at_call 12; refine (code_nil _).mono ?_; rintro e w4 ⟨rfl, rfl⟩) | (go_at_call 14; refine HS.out.mono ?_; rintro e w4 ⟨rfl, nd, rfl⟩))
    · have hd := HB3.out.drop (j := q) (by simp [length_le] <;> omega)
      rw [HM.out, List.drop_left' (by simp [length_le]), List.length_append, List.length_replicate, length_le, show q + (p - q) - q = p - q from by omega] at hd
      try simp only [Nat.sub_self] at hd
      refine (zero_yes _ _ _ (hd.mono (below_drewN (Below.refl _ _) nd) (Nat.le_refl _)) (by simp <;> omega) (zeroB_get (zeroB_replicate _))).mono ?_
      rintro e w4 ⟨rfl, rfl⟩
      go_wp2
      go_ret
      exact ⟨rfl, below_drewN hbel nd⟩

set_option maxHeartbeats 1000000 in
theorem packSmall_c (n i k p q : Nat) (w : World) (hn : n < 18446744073709551616) (hi : i < 256) (hk : k < 256) (hp : Sized (p : Int)) (hp8 : p ≤ 8) (hp1 : 1 ≤ p) (hq : Sized (q : Int)) (hq8 : q ≤ 8) (hq1 : 1 ≤ q)
    (hpe : wrap64 (2 ^ (k % 4)) = (p : Int)) (hqe : wrap64 (2 ^ (i % 4)) = (q : Int)) (hik : ¬ i < k) (hki : k < i) (hpq : ¬ q < p) :
    Calls Try.prog 7 #[.int .u64 n, .int .u8 i, .int .u8 k] w fun e w' => e = .returned (.bool true) ∧ Below w.heap.size w w' := by
  by_cases hg : great (p : Int) < n
  · go_enter Try.func7, Try.ntmps7
    go_wp2_with fail
    refine (alive_any _).mono ?_
    rintro e w1 ⟨rfl, hb1⟩
    go_wp2_with (first | (go_at_call 9; refine (put_long _ _ _ _ (by assumption) hg).mono ?_; rintro e w3 ⟨rfl, rfl⟩) | (go_at_call 12; refine (code_code 2 _ (by decide) (by decide)).mono ?_; rintro e w3 ⟨rfl, rfl⟩))
    go_ret
    exact ⟨rfl, hb1⟩
  · have hgq := great_mono (p := p) (q := q) (by assumption) (by assumption) (by omega)
    have hfit : n < 256 ^ p := by
      have := great_pow (s := (p : Int)) (by assumption)
      simp at this
      omega
    have hmore := le_more n p (q - p) hfit
    rw [show p + (q - p) = q from by omega] at hmore
    have HM := Lib.hid hmore
    clear hmore hfit
    go_enter Try.func7, Try.ntmps7
    go_wp2_with fail
    refine (alive_any _).mono ?_
    rintro e w1 ⟨rfl, hb1⟩
    go_wp2_with fail
    refine (put_okB _ [] n p _ (by assumption) (by omega) (IsB.nil _) (by decide)).mono ?_
    rintro e w2 ⟨x2, c2, rfl, hB2, hc2, hm2, hb2⟩
    simp only [List.length_nil, Nat.zero_add, List.nil_append] at hB2 hc2 ⊢
    go_wp2_with fail
    refine (code_nil _).mono ?_
    rintro e w3 ⟨rfl, rfl⟩
    go_wp2_with fail
    refine (put_okB _ [] n q _ (by assumption) (by omega) (IsB.nil _) (by decide)).mono ?_
    rintro e w3 ⟨x3, c3, rfl, hB3, hc3, hm3, hb3⟩
    simp only [List.length_nil, Nat.zero_add, List.nil_append] at hB3 hc3 ⊢
    go_wp2_with fail
    refine (get_okI _ (le n q) 0 q _ n (by assumption) hB3 (by simp [length_le] <;> omega) (by simp [length_le]) (by rw [List.drop_zero, List.take_of_length_le (by simp [length_le])]; exact num_le_fit (by assumption) (by omega))).mono ?_
    rintro e w4 ⟨rfl, rfl⟩
    have hq0 : ¬ ((q : Int) < (p : Int)) := by omega
    have hs1 : IsB w3 (.slice x3 p c3) (le n p) := by
      have := hB3.take (j := p) (by simp [length_le] <;> omega)
      rw [HM.out, List.take_left' (by simp [length_le])] at this
      exact this
    have hs2 : IsB w3 (.slice x2 p c2) (le n p) := hB2.mono hb3 (Nat.le_refl _)
    have HS := Lib.hid (same_yes _ _ (le n p) _ hs1 hs2 (by simp [length_le] <;> omega))
    have HB3 := Lib.hid hB3
    have hbel : Below w.heap.size w w3 := hb1.trans ((hb2.trans (hb3.mono hb2.size)).mono hb1.size)
    clear hs1 hs2 hB3 hB2
    go_wp2_with (first | (go_at_call 12; refine (code_nil _).mono ?_; rintro e w4 ⟨rfl, rfl⟩) | (go_at_call 14; refine HS.out.mono ?_; rintro e w4 ⟨rfl, nd, rfl⟩))
    · try rw [show q - p = 0 from by omega]
      refine (zero_yes _ [] _ ⟨x3, 0, rfl, by simp, by simp, by simp, .inl rfl⟩ (by simp) (by simp)).mono ?_
      rintro e w4 ⟨rfl, rfl⟩
      go_wp2
      go_ret
      exact ⟨rfl, below_drewN hbel nd⟩
    · have hd := HB3.out.drop (j := p) (by simp [length_le] <;> omega)
      rw [HM.out, List.drop_left' (by simp [length_le]), List.length_append, List.length_replicate, length_le, show p + (q - p) - p = q - p from by omega] at hd
      try simp only [Nat.sub_self] at hd
      refine (zero_yes _ _ _ (hd.mono (below_drewN (Below.refl _ _) nd) (Nat.le_refl _)) (by simp <;> omega) (zeroB_get (zeroB_replicate _))).mono ?_
      rintro e w4 ⟨rfl, rfl⟩
      go_wp2
      go_ret
      exact ⟨rfl, below_drewN hbel nd⟩

set_option maxHeartbeats 1000000 in
theorem packSmall_d (n i k p q : Nat) (w : World) (hn : n < 18446744073709551616) (hi : i < 256) (hk : k < 256) (hp : Sized (p : Int)) (hp8 : p ≤ 8) (hp1 : 1 ≤ p) (hq : Sized (q : Int)) (hq8 : q ≤ 8) (hq1 : 1 ≤ q)
    (hpe : wrap64 (2 ^ (k % 4)) = (p : Int)) (hqe : wrap64 (2 ^ (i % 4)) = (q : Int)) (hik : ¬ i < k) (hki : k < i) (hpq : q < p) :
    Calls Try.prog 7 #[.int .u64 n, .int .u8 i, .int .u8 k] w fun e w' => e = .returned (.bool true) ∧ Below w.heap.size w w' := by
  by_cases hg : great (q : Int) < n
  · go_enter Try.func7, Try.ntmps7
    go_wp2_with fail
    refine (alive_any _).mono ?_
    rintro e w1 ⟨rfl, hb1⟩
    go_wp2_with (first | (go_at_call 9; refine (put_long _ _ _ _ (by assumption) hg).mono ?_; rintro e w3 ⟨rfl, rfl⟩) | (go_at_call 12; refine (code_code 2 _ (by decide) (by decide)).mono ?_; rintro e w3 ⟨rfl, rfl⟩))
    go_ret
    exact ⟨rfl, hb1⟩
  · have hgq := great_mono (p := q) (q := p) (by assumption) (by assumption) (by omega)
    have hfit : n < 256 ^ q := by
      have := great_pow (s := (q : Int)) (by assumption)
      simp at this
      omega
    have hmore := le_more n q (p - q) hfit
    rw [show q + (p - q) = p from by omega] at hmore
    have HM := Lib.hid hmore
    clear hmore hfit
    go_enter Try.func7, Try.ntmps7
    go_wp2_with fail
    refine (alive_any _).mono ?_
    rintro e w1 ⟨rfl, hb1⟩
    go_wp2_with fail
    refine (put_okB _ [] n q _ (by assumption) (by omega) (IsB.nil _) (by decide)).mono ?_
    rintro e w2 ⟨x2, c2, rfl, hB2, hc2, hm2, hb2⟩
    simp only [List.length_nil, Nat.zero_add, List.nil_append] at hB2 hc2 ⊢
    go_wp2_with fail
    refine (code_nil _).mono ?_
    rintro e w3 ⟨rfl, rfl⟩
    go_wp2_with fail
    refine (put_okB _ [] n p _ (by assumption) (by omega) (IsB.nil _) (by decide)).mono ?_
    rintro e w3 ⟨x3, c3, rfl, hB3, hc3, hm3, hb3⟩
    simp only [List.length_nil, Nat.zero_add, List.nil_append] at hB3 hc3 ⊢
    go_wp2_with fail
    refine (get_okI _ (le n p) 0 p _ n (by assumption) hB3 (by simp [length_le] <;> omega) (by simp [length_le]) (by rw [List.drop_zero, List.take_of_length_le (by simp [length_le])]; exact num_le_fit (by assumption) (by omega))).mono ?_
    rintro e w4 ⟨rfl, rfl⟩
    have hq0 : ¬ ((p : Int) < (q : Int)) := by omega
    have hs1 : IsB w3 (.slice x3 q c3) (le n q) := by
      have := hB3.take (j := q) (by simp [length_le] <;> omega)
      rw [HM.out, List.take_left' (by simp [length_le])] at this
      exact this
    have hs2 : IsB w3 (.slice x2 q c2) (le n q) := hB2.mono hb3 (Nat.le_refl _)
    have HS := Lib.hid (same_yes _ _ (le n q) _ hs1 hs2 (by simp [length_le] <;> omega))
    have HB3 := Lib.hid hB3
    have hbel : Below w.heap.size w w3 := hb1.trans ((hb2.trans (hb3.mono hb2.size)).mono hb1.size)
    clear hs1 hs2 hB3 hB2
    go_wp2_with (first | (go_at_call 12; refine (code_nil _).mono ?_; rintro e w4 ⟨rfl, rfl⟩) | (go_at_call 14; refine HS.out.mono ?_; rintro e w4 ⟨rfl, nd, rfl⟩))
    · have hd := HB3.out.drop (j := q) (by simp [length_le] <;> omega)
      rw [HM.out, List.drop_left' (by simp [length_le]), List.length_append, List.length_replicate, length_le, show q + (p - q) - q = p - q from by omega] at hd
      try simp only [Nat.sub_self] at hd
      refine (zero_yes _ _ _ (hd.mono (below_drewN (Below.refl _ _) nd) (Nat.le_refl _)) (by simp <;> omega) (zeroB_get (zeroB_replicate _))).mono ?_
      rintro e w4 ⟨rfl, rfl⟩
      go_wp2
      go_ret
      exact ⟨rfl, below_drewN hbel nd⟩

set_option maxHeartbeats 1000000 in
theorem packSmall_e (n i k p q : Nat) (w : World) (hn : n < 18446744073709551616) (hi : i < 256) (hk : k < 256) (hp : Sized (p : Int)) (hp8 : p ≤ 8) (hp1 : 1 ≤ p) (hq : Sized (q : Int)) (hq8 : q ≤ 8) (hq1 : 1 ≤ q)
    (hpe : wrap64 (2 ^ (i % 4)) = (p : Int)) (hqe : wrap64 (2 ^ (i % 4)) = (q : Int)) (hik : ¬ i < k) (hki : ¬ k < i) (hpq : ¬ q < p) :
    Calls Try.prog 7 #[.int .u64 n, .int .u8 i, .int .u8 k] w fun e w' => e = .returned (.bool true) ∧ Below w.heap.size w w' := by
  by_cases hg : great (p : Int) < n
  · go_enter Try.func7, Try.ntmps7
    go_wp2_with fail
    refine (alive_any _).mono ?_
    rintro e w1 ⟨rfl, hb1⟩
    go_wp2_with (first | (go_at_call 9; refine (put_long _ _ _ _ (by assumption) hg).mono ?_; rintro e w3 ⟨rfl, rfl⟩) | (go_at_call 12; refine (code_code 2 _ (by decide) (by decide)).mono ?_; rintro e w3 ⟨rfl, rfl⟩))
    go_ret
    exact ⟨rfl, hb1⟩
  · have hgq := great_mono (p := p) (q := p) (by assumption) (by assumption) (by omega)
    have hfit : n < 256 ^ p := by
      have := great_pow (s := (p : Int)) (by assumption)
      simp at this
      omega
    have hmore := le_more n p (p - p) hfit
    rw [show p + (p - p) = p from by omega] at hmore
    have HM := Lib.hid hmore
    clear hmore hfit
    go_enter Try.func7, Try.ntmps7
    go_wp2_with fail
    refine (alive_any _).mono ?_
    rintro e w1 ⟨rfl, hb1⟩
    go_wp2_with fail
    refine (put_okB _ [] n p _ (by assumption) (by omega) (IsB.nil _) (by decide)).mono ?_
    rintro e w2 ⟨x2, c2, rfl, hB2, hc2, hm2, hb2⟩
    simp only [List.length_nil, Nat.zero_add, List.nil_append] at hB2 hc2 ⊢
    go_wp2_with fail
    refine (code_nil _).mono ?_
    rintro e w3 ⟨rfl, rfl⟩
    go_wp2_with fail
    refine (put_okB _ [] n p _ (by assumption) (by omega) (IsB.nil _) (by decide)).mono ?_
    rintro e w3 ⟨x3, c3, rfl, hB3, hc3, hm3, hb3⟩
    simp only [List.length_nil, Nat.zero_add, List.nil_append] at hB3 hc3 ⊢
    go_wp2_with fail
    refine (get_okI _ (le n p) 0 p _ n (by assumption) hB3 (by simp [length_le] <;> omega) (by simp [length_le]) (by rw [List.drop_zero, List.take_of_length_le (by simp [length_le])]; exact num_le_fit (by assumption) (by omega))).mono ?_
    rintro e w4 ⟨rfl, rfl⟩
    have hq0 : ¬ ((p : Int) < (p : Int)) := by omega
    have hs1 : IsB w3 (.slice x3 p c3) (le n p) := by
      have := hB3.take (j := p) (by simp [length_le] <;> omega)
      rw [HM.out, List.take_left' (by simp [length_le])] at this
      exact this
    have hs2 : IsB w3 (.slice x2 p c2) (le n p) := hB2.mono hb3 (Nat.le_refl _)
    have HS := Lib.hid (same_yes _ _ (le n p) _ hs1 hs2 (by simp [length_le] <;> omega))
    have HB3 := Lib.hid hB3
    have hbel : Below w.heap.size w w3 := hb1.trans ((hb2.trans (hb3.mono hb2.size)).mono hb1.size)
    clear hs1 hs2 hB3 hB2
    go_wp2_with (first | (go_at_call 12; refine (code_nil _).mono ?_; rintro e w4 ⟨rfl, rfl⟩) | (go_at_call 14; refine HS.out.mono ?_; rintro e w4 ⟨rfl, nd, rfl⟩))
    · try rw [show p - p = 0 from by omega]
      refine (zero_yes _ [] _ ⟨x3, 0, rfl, by simp, by simp, by simp, .inl rfl⟩ (by simp) (by simp)).mono ?_
      rintro e w4 ⟨rfl, rfl⟩
      go_wp2
      go_ret
      exact ⟨rfl, below_drewN hbel nd⟩
    · have hd := HB3.out.drop (j := p) (by simp [length_le] <;> omega)
      rw [HM.out, List.drop_left' (by simp [length_le]), List.length_append, List.length_replicate, length_le, show p + (p - p) - p = p - p from by omega] at hd
      try simp only [Nat.sub_self] at hd
      refine (zero_yes _ _ _ (hd.mono (below_drewN (Below.refl _ _) nd) (Nat.le_refl _)) (by simp <;> omega) (zeroB_get (zeroB_replicate _))).mono ?_
      rintro e w4 ⟨rfl, rfl⟩
      go_wp2
      go_ret
      exact ⟨rfl, below_drewN hbel nd⟩

theorem packSmall_any (n i k : Nat) (w : World) (hn : n < 18446744073709551616) (hi : i < 256) (hk : k < 256) :
    Calls Try.prog 7 #[.int .u64 n, .int .u8 i, .int .u8 k] w fun e w' => e = .returned (.bool true) ∧ Below w.heap.size w w' := by
  obtain ⟨p, hp, hp8, hp1, hpe⟩ := shl_size i
  obtain ⟨q, hq, hq8, hq1, hqe⟩ := shl_size k
  by_cases hik : i < k
  · have hki : ¬ k < i := by omega
    by_cases hpq : q < p
    · exact packSmall_b n i k p q w hn hi hk hp hp8 hp1 hq hq8 hq1 hpe hqe hik hki hpq
    · exact packSmall_a n i k p q w hn hi hk hp hp8 hp1 hq hq8 hq1 hpe hqe hik hki hpq
  · by_cases hki : k < i
    · by_cases hpq : p < q
      · exact packSmall_d n i k q p w hn hi hk hq hq8 hq1 hp hp8 hp1 hqe hpe hik hki hpq
      · exact packSmall_c n i k q p w hn hi hk hq hq8 hq1 hp hp8 hp1 hqe hpe hik hki hpq
    · exact packSmall_e n i k p p w hn hi hk hp hp8 hp1 hp hp8 hp1 hpe hpe hik hki (by omega)

end Go.Proofs.Ytmcihecipcgcoaa
