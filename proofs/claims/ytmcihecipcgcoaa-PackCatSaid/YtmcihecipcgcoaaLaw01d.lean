/- The statements of layer 1 (pack): more walks. -/
import Derived.Test.YtmcihecipcgcoaaLaw01c
namespace Go.Proofs.Ytmcihecipcgcoaa
open Go.RowKit Go.Cor
set_option linter.unusedVariables false

theorem get_okJ (v : Value) (l : List UInt8) (a : Int) (j s : Nat) (w : World) (n : Nat) (hs : Sized (s : Int)) (haj : a = (j : Int)) (hv : IsB w v l) (hl : l.length ≤ 1099511627776) (h : j + s ≤ l.length) (hn : num ((l.drop j).take s) = n) :
    Calls Try.prog 10 #[v, .int .i64 a, .int .i64 s] w fun e w' => e = .returned (.tuple #[.int .u64 (n : Nat), .nilIface]) ∧ w = w' := by
  subst haj
  exact get_okI v l j s w n hs hv hl h hn

set_option maxHeartbeats 1000000 in
theorem packBack_long1 (n m i k q: Nat) (x : Option Addr) (cap : Nat) (l : List UInt8) (w : World) (HV : Hid (IsB w (.slice x l.length cap) l)) (hl : ¬ 3000 < l.length) (hn : n < 18446744073709551616) (hm : m < 18446744073709551616) (hi : i < 256) (hk : k < 256)
    (hpe : wrap64 (2 ^ (i % 4)) = 1) (hqe : wrap64 (2 ^ (k % 4)) = (q : Int)) (hg : great 1 < n) :
    Calls Try.prog 5 #[.slice x l.length cap, .int .u64 n, .int .u64 m, .int .u8 i, .int .u8 k] w fun e w' => e = .returned (.bool true) ∧ Below w.heap.size w w' := by
  obtain ⟨i0, hi0, hz0, hz1, hz2⟩ := info_parts Try.infoU8
  have hd : 0 < (n : Int) / 256 := by
    have : great 1 = 255 := rfl
    omega
  go_enter Try.func5, Try.ntmps5
  go_wp2_with fail
  refine (alive_any _).mono ?_
  rintro e w1 ⟨rfl, hb1⟩
  go_wp2_with (at_builtin; refine wpList_append_B (by rfl) (.tmp 33) (.tmp 34) 22 rfl w1.heap.size 5 i0 Try.underlying22 hi0 hz0 hz1 hz2 _ [] 0 rfl (World.ownsRow_lit _ #[] 0 (Nat.le_refl _) (Nat.zero_le _) rfl) rfl _ l rfl ?hv ?hl ?hb ?_; rotate_left 3; intro v2 w2 hown2 hb2)
  case hv => exact (HV.out.mono hb1 (Nat.le_refl _)).mono ((Below.refl _ _).alloc (Nat.le_refl _) _) (Nat.le_refl _)
  case hl => simp; omega
  case hb => simp
  have hbel2 : Below w.heap.size w w2 := hb1.trans (((((Below.refl _ _).alloc (Nat.le_refl _) _).trans hb2)).mono hb1.size)
  have HW := Lib.hid (IsB.own hown2 rfl)
  clear hown2 hb2
  refine (put_long _ n 1 _ (by unfold Sized; omega) hg).mono ?_
  rintro e w3 ⟨rfl, rfl⟩
  go_wp2_with (go_at_call 12; refine (code_code 2 _ (by decide) (by decide)).mono ?_; rintro e w3 ⟨rfl, rfl⟩)
  go_ret
  exact ⟨rfl, hbel2⟩

set_option maxHeartbeats 1000000 in
theorem packBack_long2 (n m i k q: Nat) (x : Option Addr) (cap : Nat) (l : List UInt8) (w : World) (HV : Hid (IsB w (.slice x l.length cap) l)) (hl : ¬ 3000 < l.length) (hn : n < 18446744073709551616) (hm : m < 18446744073709551616) (hi : i < 256) (hk : k < 256)
    (hpe : wrap64 (2 ^ (i % 4)) = 2) (hqe : wrap64 (2 ^ (k % 4)) = (q : Int)) (hg : great 2 < n) :
    Calls Try.prog 5 #[.slice x l.length cap, .int .u64 n, .int .u64 m, .int .u8 i, .int .u8 k] w fun e w' => e = .returned (.bool true) ∧ Below w.heap.size w w' := by
  obtain ⟨i0, hi0, hz0, hz1, hz2⟩ := info_parts Try.infoU8
  have hd : 0 < (n : Int) / 65536 := by
    have : great 2 = 65535 := rfl
    omega
  go_enter Try.func5, Try.ntmps5
  go_wp2_with fail
  refine (alive_any _).mono ?_
  rintro e w1 ⟨rfl, hb1⟩
  go_wp2_with (at_builtin; refine wpList_append_B (by rfl) (.tmp 33) (.tmp 34) 22 rfl w1.heap.size 5 i0 Try.underlying22 hi0 hz0 hz1 hz2 _ [] 0 rfl (World.ownsRow_lit _ #[] 0 (Nat.le_refl _) (Nat.zero_le _) rfl) rfl _ l rfl ?hv ?hl ?hb ?_; rotate_left 3; intro v2 w2 hown2 hb2)
  case hv => exact (HV.out.mono hb1 (Nat.le_refl _)).mono ((Below.refl _ _).alloc (Nat.le_refl _) _) (Nat.le_refl _)
  case hl => simp; omega
  case hb => simp
  have hbel2 : Below w.heap.size w w2 := hb1.trans (((((Below.refl _ _).alloc (Nat.le_refl _) _).trans hb2)).mono hb1.size)
  have HW := Lib.hid (IsB.own hown2 rfl)
  clear hown2 hb2
  refine (put_long _ n 2 _ (by unfold Sized; omega) hg).mono ?_
  rintro e w3 ⟨rfl, rfl⟩
  go_wp2_with (go_at_call 12; refine (code_code 2 _ (by decide) (by decide)).mono ?_; rintro e w3 ⟨rfl, rfl⟩)
  go_ret
  exact ⟨rfl, hbel2⟩

set_option maxHeartbeats 1000000 in
theorem packBack_long4 (n m i k q: Nat) (x : Option Addr) (cap : Nat) (l : List UInt8) (w : World) (HV : Hid (IsB w (.slice x l.length cap) l)) (hl : ¬ 3000 < l.length) (hn : n < 18446744073709551616) (hm : m < 18446744073709551616) (hi : i < 256) (hk : k < 256)
    (hpe : wrap64 (2 ^ (i % 4)) = 4) (hqe : wrap64 (2 ^ (k % 4)) = (q : Int)) (hg : great 4 < n) :
    Calls Try.prog 5 #[.slice x l.length cap, .int .u64 n, .int .u64 m, .int .u8 i, .int .u8 k] w fun e w' => e = .returned (.bool true) ∧ Below w.heap.size w w' := by
  obtain ⟨i0, hi0, hz0, hz1, hz2⟩ := info_parts Try.infoU8
  have hd : 0 < (n : Int) / 4294967296 := by
    have : great 4 = 4294967295 := rfl
    omega
  go_enter Try.func5, Try.ntmps5
  go_wp2_with fail
  refine (alive_any _).mono ?_
  rintro e w1 ⟨rfl, hb1⟩
  go_wp2_with (at_builtin; refine wpList_append_B (by rfl) (.tmp 33) (.tmp 34) 22 rfl w1.heap.size 5 i0 Try.underlying22 hi0 hz0 hz1 hz2 _ [] 0 rfl (World.ownsRow_lit _ #[] 0 (Nat.le_refl _) (Nat.zero_le _) rfl) rfl _ l rfl ?hv ?hl ?hb ?_; rotate_left 3; intro v2 w2 hown2 hb2)
  case hv => exact (HV.out.mono hb1 (Nat.le_refl _)).mono ((Below.refl _ _).alloc (Nat.le_refl _) _) (Nat.le_refl _)
  case hl => simp; omega
  case hb => simp
  have hbel2 : Below w.heap.size w w2 := hb1.trans (((((Below.refl _ _).alloc (Nat.le_refl _) _).trans hb2)).mono hb1.size)
  have HW := Lib.hid (IsB.own hown2 rfl)
  clear hown2 hb2
  refine (put_long _ n 4 _ (by unfold Sized; omega) hg).mono ?_
  rintro e w3 ⟨rfl, rfl⟩
  go_wp2_with (go_at_call 12; refine (code_code 2 _ (by decide) (by decide)).mono ?_; rintro e w3 ⟨rfl, rfl⟩)
  go_ret
  exact ⟨rfl, hbel2⟩

set_option maxHeartbeats 1000000 in
theorem packBack_longm (n m i k p q: Nat) (x : Option Addr) (cap : Nat) (l : List UInt8) (w : World) (HV : Hid (IsB w (.slice x l.length cap) l)) (hl : ¬ 3000 < l.length) (hn : n < 18446744073709551616) (hm : m < 18446744073709551616) (hi : i < 256) (hk : k < 256)
    (hp : Sized (p : Int)) (hp8 : p ≤ 8) (hq : Sized (q : Int)) (hq8 : q ≤ 8) (hpe : wrap64 (2 ^ (i % 4)) = (p : Int)) (hqe : wrap64 (2 ^ (k % 4)) = (q : Int)) (hg : n ≤ great p) (hg2 : great q < m) :
    Calls Try.prog 5 #[.slice x l.length cap, .int .u64 n, .int .u64 m, .int .u8 i, .int .u8 k] w fun e w' => e = .returned (.bool true) ∧ Below w.heap.size w w' := by
  obtain ⟨i0, hi0, hz0, hz1, hz2⟩ := info_parts Try.infoU8
  go_enter Try.func5, Try.ntmps5
  go_wp2_with fail
  refine (alive_any _).mono ?_
  rintro e w1 ⟨rfl, hb1⟩
  go_wp2_with (at_builtin; refine wpList_append_B (by rfl) (.tmp 33) (.tmp 34) 22 rfl w1.heap.size 5 i0 Try.underlying22 hi0 hz0 hz1 hz2 _ [] 0 rfl (World.ownsRow_lit _ #[] 0 (Nat.le_refl _) (Nat.zero_le _) rfl) rfl _ l rfl ?hv ?hl ?hb ?_; rotate_left 3; intro v2 w2 hown2 hb2)
  case hv => exact (HV.out.mono hb1 (Nat.le_refl _)).mono ((Below.refl _ _).alloc (Nat.le_refl _) _) (Nat.le_refl _)
  case hl => simp; omega
  case hb => simp
  have hbel2 : Below w.heap.size w w2 := hb1.trans (((((Below.refl _ _).alloc (Nat.le_refl _) _).trans hb2)).mono hb1.size)
  have HW := Lib.hid (IsB.own hown2 rfl)
  clear hown2 hb2
  refine (put_okB _ l n p _ hp (by omega) (HV.out.mono hbel2 (Nat.le_refl _)) (by omega)).mono ?_
  rintro e w3 ⟨x3, c3, rfl, hB3, hc3, hm3, hb3⟩
  have HB3 := Lib.hid hB3
  clear hB3
  have hl3 : (l ++ le n p).length = l.length + p := by simp [length_le]
  have HL3 := Lib.hid hl3
  clear hl3
  go_wp2_with fail
  refine (code_nil _).mono ?_
  rintro e w4 ⟨rfl, rfl⟩
  go_wp2_with fail
  refine (put_long _ m q _ hq hg2).mono ?_
  rintro e w4 ⟨rfl, rfl⟩
  go_wp2_with (go_at_call 12; refine (code_code 2 _ (by decide) (by decide)).mono ?_; rintro e w4 ⟨rfl, rfl⟩)
  go_ret
  exact ⟨rfl, hbel2.trans (hb3.mono hbel2.size)⟩

set_option maxHeartbeats 1000000 in
theorem packBack_ok (n m i k p q: Nat) (x : Option Addr) (cap : Nat) (l : List UInt8) (w : World) (HV : Hid (IsB w (.slice x l.length cap) l)) (hl : ¬ 3000 < l.length) (hn : n < 18446744073709551616) (hm : m < 18446744073709551616) (hi : i < 256) (hk : k < 256)
    (hp : Sized (p : Int)) (hp8 : p ≤ 8) (hq : Sized (q : Int)) (hq8 : q ≤ 8) (hpe : wrap64 (2 ^ (i % 4)) = (p : Int)) (hqe : wrap64 (2 ^ (k % 4)) = (q : Int)) (hg : n ≤ great p) (hg2 : m ≤ great q) :
    Calls Try.prog 5 #[.slice x l.length cap, .int .u64 n, .int .u64 m, .int .u8 i, .int .u8 k] w fun e w' => e = .returned (.bool true) ∧ Below w.heap.size w w' := by
  obtain ⟨i0, hi0, hz0, hz1, hz2⟩ := info_parts Try.infoU8
  go_enter Try.func5, Try.ntmps5
  go_wp2_with fail
  refine (alive_any _).mono ?_
  rintro e w1 ⟨rfl, hb1⟩
  go_wp2_with (at_builtin; refine wpList_append_B (by rfl) (.tmp 33) (.tmp 34) 22 rfl w1.heap.size 5 i0 Try.underlying22 hi0 hz0 hz1 hz2 _ [] 0 rfl (World.ownsRow_lit _ #[] 0 (Nat.le_refl _) (Nat.zero_le _) rfl) rfl _ l rfl ?hv ?hl ?hb ?_; rotate_left 3; intro v2 w2 hown2 hb2)
  case hv => exact (HV.out.mono hb1 (Nat.le_refl _)).mono ((Below.refl _ _).alloc (Nat.le_refl _) _) (Nat.le_refl _)
  case hl => simp; omega
  case hb => simp
  have hbel2 : Below w.heap.size w w2 := hb1.trans (((((Below.refl _ _).alloc (Nat.le_refl _) _).trans hb2)).mono hb1.size)
  have HW := Lib.hid (IsB.own hown2 rfl)
  clear hown2 hb2
  refine (put_okB _ l n p _ hp (by omega) (HV.out.mono hbel2 (Nat.le_refl _)) (by omega)).mono ?_
  rintro e w3 ⟨x3, c3, rfl, hB3, hc3, hm3, hb3⟩
  have HB3 := Lib.hid hB3
  clear hB3
  have hl3 : (l ++ le n p).length = l.length + p := by simp [length_le]
  have HL3 := Lib.hid hl3
  clear hl3
  go_wp2_with fail
  refine (code_nil _).mono ?_
  rintro e w4 ⟨rfl, rfl⟩
  go_wp2_with fail
  refine (put_okB _ (l ++ le n p) m q _ hq (by omega) HB3.out (by rw [HL3.out]; omega)).mono ?_
  rintro e w4 ⟨x4, c4, rfl, hB4, hc4, hm4, hb4⟩
  rw [HL3.out] at hB4 hc4 ⊢
  have HB4 := Lib.hid hB4
  clear hB4
  have hbel : Below w.heap.size w w4 := hbel2.trans ((hb3.trans (hb4.mono hb3.size)).mono hbel2.size)
  have HBV := Lib.hid (HV.out.mono hbel (Nat.le_refl _))
  have HBW := Lib.hid (HW.out.mono (hb3.trans (hb4.mono hb3.size)) (Nat.le_refl _))
  have e1 : num ((((l ++ le n p) ++ le m q).drop l.length).take p) = n := by
    rw [List.append_assoc, List.drop_left, List.take_left' (length_le n p)]
    exact num_le_fit hp hg
  have e2 : num ((((l ++ le n p) ++ le m q).drop (l.length + p)).take q) = m := by
    rw [List.drop_left' (by simp [length_le]), List.take_of_length_le (by simp [length_le])]
    exact num_le_fit hq hg2
  have HG1 := Lib.hid (get_okI _ _ l.length p w4 n hp HB4.out (by simp only [List.length_append, length_le]; omega) (by simp only [List.length_append, length_le]; omega) e1)
  have HG2 := Lib.hid (get_okJ _ _ ((l.length : Int) + (p : Int)) (l.length + p) q w4 m hq (by omega) HB4.out (by simp only [List.length_append, length_le]; omega) (by simp only [List.length_append, length_le]; omega) e2)
  have HS := Lib.hid (same_yes _ _ l w4 HBV.out HBW.out (by omega))
  clear e1 e2
  go_wp2_with fail
  refine (code_nil _).mono ?_
  rintro e w5 ⟨rfl, rfl⟩
  go_wp2_with fail
  refine HG1.out.mono ?_
  rintro e w5 ⟨rfl, rfl⟩
  go_wp2_with fail
  refine HG2.out.mono ?_
  rintro e w5 ⟨rfl, rfl⟩
  go_wp2_with (first | (go_at_call 12; refine (code_nil _).mono ?_; rintro e w5 ⟨rfl, rfl⟩) | (go_at_call 14; refine HS.out.mono ?_; rintro e w5 ⟨rfl, nd, rfl⟩))
  go_ret
  exact ⟨rfl, below_drewN hbel nd⟩

theorem packBack_any (v : Value) (l : List UInt8) (n m i k : Nat) (w : World) (hv : IsB w v l) (hn : n < 18446744073709551616) (hm : m < 18446744073709551616) (hi : i < 256) (hk : k < 256) :
    Calls Try.prog 5 #[v, .int .u64 n, .int .u64 m, .int .u8 i, .int .u8 k] w fun e w' => e = .returned (.bool true) ∧ Below w.heap.size w w' := by
  obtain ⟨x, cap, rfl, hlc, hcm, hnc, hcell⟩ := hv
  have HV : Hid (IsB w (.slice x l.length cap) l) := ⟨x, cap, rfl, hlc, hcm, hnc, hcell⟩
  clear hcell hnc
  by_cases hl : 3000 < l.length
  · go_enter Try.func5, Try.ntmps5
    go_wp2_with (go_at_call 8; refine (alive_any _).mono ?_; rintro e w1 ⟨rfl, hb1⟩)
    go_ret
    exact ⟨rfl, hb1⟩
  obtain ⟨p, hp, hp8, hp1, hpe⟩ := shl_size i
  obtain ⟨q, hq, hq8, hq1, hqe⟩ := shl_size k
  by_cases hg : great p < n
  · rcases hp with h | h | h | h
    · obtain rfl : p = 1 := by omega
      exact packBack_long1 n m i k q x cap l w HV hl hn hm hi hk hpe hqe hg
    · obtain rfl : p = 2 := by omega
      exact packBack_long2 n m i k q x cap l w HV hl hn hm hi hk hpe hqe hg
    · obtain rfl : p = 4 := by omega
      exact packBack_long4 n m i k q x cap l w HV hl hn hm hi hk hpe hqe hg
    · rw [h] at hg
      have : great 8 = 18446744073709551615 := rfl
      omega
  · by_cases hg2 : great q < m
    · exact packBack_longm n m i k p q x cap l w HV hl hn hm hi hk hp hp8 hq hq8 hpe hqe (by omega) hg2
    · exact packBack_ok n m i k p q x cap l w HV hl hn hm hi hk hp hp8 hq hq8 hpe hqe (by omega) (by omega)

end Go.Proofs.Ytmcihecipcgcoaa
