/- The statements of layer 1 (pack): the walks. -/
import Derived.Test.YtmcihecipcgcoaaPack
import Derived.Test.YtmcihecipcgcoaaRef01
import Derived.Test.YtmcihecipcgcoaaErrs
import Derived.Deep.DeepMust
namespace Go.Proofs.Ytmcihecipcgcoaa
open Go.RowKit Go.Cor

theorem wf_u64 {a : Int} (h : (Lit.int .u64 a).wf = true) : 0 ≤ a ∧ a < 18446744073709551616 := by
  have : 0 ≤ a ∧ a ≤ 18446744073709551615 := by simpa [Lit.wf, IntKind.min, IntKind.max, IntKind.bits, IntKind.signed] using h
  omega
theorem wf_i64 {a : Int} (h : (Lit.int .i64 a).wf = true) : -9223372036854775808 ≤ a ∧ a ≤ 9223372036854775807 := by
  have : -9223372036854775808 ≤ a ∧ a ≤ 9223372036854775807 := by simpa [Lit.wf, IntKind.min, IntKind.max, IntKind.bits, IntKind.signed] using h
  omega
theorem wf_u8 {a : Int} (h : (Lit.int .u8 a).wf = true) : 0 ≤ a ∧ a < 256 := by
  have : 0 ≤ a ∧ a ≤ 255 := by simpa [Lit.wf, IntKind.min, IntKind.max, IntKind.bits, IntKind.signed] using h
  omega

theorem isB_of_row {w : World} {a : Option Addr} {len cap : Nat} {zs : List Int}
    (h : (a = none ∧ len = 0 ∧ cap = 0 ∧ zs = []) ∨
      ∃ x, a = some x ∧ len ≤ cap ∧ cap ≤ maxLen ∧ zs.length = cap ∧ (∀ i, i < zs.length → w.cell? (x.add i) = some (.int .u8 (zs.getD i 0))) ∧ ∀ n ∈ zs, (Lit.int .u8 n).wf = true) :
    ∃ l : List UInt8, l.length = len ∧ IsB w (.slice a len cap) l := by
  rcases h with ⟨rfl, rfl, rfl, rfl⟩ | ⟨x, rfl, hl, hm, hz, hcell, hwz⟩
  · exact ⟨[], rfl, IsB.nil w⟩
  · have hlen : ((zs.take len).map fun z => UInt8.ofNat z.toNat).length = len := by simp; omega
    refine ⟨(zs.take len).map fun z => UInt8.ofNat z.toNat, hlen, some x, cap, by rw [hlen], by omega, hm, by simp, ?_⟩
    by_cases h0 : len = 0
    · subst h0
      exact .inl (by simp)
    · obtain ⟨b, off, spot⟩ := x
      have hc := hcell 0 (by omega)
      have hspot : spot = none := by simpa [Addr.add] using World.cell?_spot hc
      subst hspot
      refine .inr ⟨b, off, rfl, fun i hi => ?_⟩
      rw [hlen] at hi
      have h1 := hcell i (by omega)
      have hadd : (⟨b, off, none⟩ : Addr).add i = ⟨b, off + i, none⟩ := by unfold Addr.add; split <;> simp_all
      rw [hadd] at h1
      rw [h1]
      have hwf := hwz (zs.getD i 0) (by rw [List.getD_eq_getElem?_getD, List.getElem?_eq_getElem (by omega)]; simp)
      have hb : 0 ≤ zs.getD i 0 ∧ zs.getD i 0 ≤ 255 := by simpa [Lit.wf, IntKind.min, IntKind.max, IntKind.bits, IntKind.signed] using hwf
      have e : ((zs.take len).map fun z => UInt8.ofNat z.toNat).getD i 0 = UInt8.ofNat (zs.getD i 0).toNat := by
        simp only [List.getD_eq_getElem?_getD, List.getElem?_map, List.getElem?_take, if_pos hi]
        rw [List.getElem?_eq_getElem (by omega)]
        simp
      rw [e]
      show some (Value.int .u8 (zs.getD i 0)) = some (.int .u8 (((UInt8.ofNat (zs.getD i 0).toNat).toNat : Nat) : Int))
      rw [UInt8.toNat_ofNat']
      congr 2
      omega

set_option maxHeartbeats 400000 in
theorem alive_any (w : World) :
    Calls Try.prog 8 #[] w fun e w' => e = .returned (.bool true) ∧ Below w.heap.size w w' := by
  go_enter Try.func8, Try.ntmps8
  go_wp2_with fail
  refine (put_ok (.slice none 0 0) [] 258 2 _ (.inr (.inl rfl)) (by decide) (IsB.nil _) (by decide)).mono ?_
  rintro e w1 ⟨v1, rfl, hown1, hb1⟩
  go_wp2_with fail
  refine (put_arg (.slice none 0 0) 1 3 _ (by unfold Sized; omega)).mono ?_
  rintro e w2 ⟨rfl, rfl⟩
  go_wp2_with fail
  refine (code_nil _).mono ?_
  rintro e w2 ⟨rfl, rfl⟩
  go_wp2_with fail
  refine (same_yes v1 _ (le 258 2) _ ?_ ?_ (by decide)).mono ?_
  · exact (IsB.own hown1 rfl).mono ((Below.refl _ _).alloc (Nat.le_refl _) _) (Nat.le_refl _)
  · exact IsB.lit w1 (le 258 2) 5 (by decide)
  rintro e w2 ⟨rfl, n, rfl⟩
  go_wp2_with fail
  refine (code_code 1 _ (by decide) (by decide)).mono ?_
  rintro e w2 ⟨rfl, rfl⟩
  go_wp2
  go_ret
  exact ⟨rfl, below_drewN (hb1.alloc hb1.size _) n⟩

set_option maxHeartbeats 800000 in
theorem packPuts_long_neg (v : Value) (l : List UInt8) (n : Nat) (s : Int) (a : Int) (w : World) (hv : IsB w v l) (hn : n < 18446744073709551616) (hl : l.length ≤ 3000) (hs : Sized s) (ha : a < 0) (hg : great s < n) :
    Calls Try.prog 3 #[v, .int .u64 n, .int .i64 s, .int .i64 a] w fun e w' => e = .returned (.bool true) ∧ Below w.heap.size w w' := by
  obtain ⟨k, rfl⟩ : ∃ k : Nat, s = (k : Int) := ⟨s.toNat, by unfold Sized at hs; omega⟩
  have hk8 : k ≤ 8 := by unfold Sized at hs; omega
  have hk1 : 1 ≤ k := by unfold Sized at hs; omega
  obtain ⟨x, cap, rfl, hlc, hcm, hnc, hcell⟩ := hv
  have HV : Hid (IsB w (.slice x l.length cap) l) := ⟨x, cap, rfl, hlc, hcm, hnc, hcell⟩
  clear hcell hnc
  have h3 : ¬ (3000 < l.length) := by omega
  have hf : fitsB n k = false := by
    have := great_pow hs
    simp at this
    simp [fitsB]; omega
  go_enter Try.func3, Try.ntmps3
  go_wp2_with fail
  refine (alive_any _).mono ?_
  rintro e w1 ⟨rfl, hb1⟩
  go_wp2_with fail
  refine (put_long _ _ _ _ hs hg).mono ?_
  rintro e w2 ⟨rfl, rfl⟩
  go_wp2_with fail
  refine (get_arg _ _ _ _ (.inr ha)).mono ?_
  rintro e w3 ⟨rfl, rfl⟩
  go_wp2_with fail
  refine (sized_yes _ _ hs).mono ?_
  rintro e w3 ⟨rfl, rfl⟩
  go_wp2_with fail
  refine (bytes_any n k _ hn (by omega)).mono ?_
  rintro e w3 ⟨v3, rfl, hown3, hb3⟩
  rw [hf]
  go_wp2_with fail
  refine (code_code 2 _ (by decide) (by decide)).mono ?_
  rintro e w4 ⟨rfl, rfl⟩
  have hb6 : Below w.heap.size w w3 := hb1.trans (hb3.mono hb1.size)
  obtain ⟨nd, hnd⟩ : ∃ nd : Nat, nd = 0 := ⟨0, rfl⟩
  go_wp2_with (go_at_call 12; refine (code_code 1 _ (by decide) (by decide)).mono ?_; rintro e w7 ⟨rfl, rfl⟩)
  go_ret
  exact ⟨rfl, hb6⟩

set_option maxHeartbeats 800000 in
theorem packPuts_long_short (v : Value) (l : List UInt8) (n : Nat) (s : Int) (j : Nat) (w : World) (hv : IsB w v l) (hn : n < 18446744073709551616) (hl : l.length ≤ 3000) (hs : Sized s) (hj : (j : Int) ≤ 9223372036854775807) (hjk : l.length < j + s.toNat) (hg : great s < n) :
    Calls Try.prog 3 #[v, .int .u64 n, .int .i64 s, .int .i64 (j : Int)] w fun e w' => e = .returned (.bool true) ∧ Below w.heap.size w w' := by
  obtain ⟨k, rfl⟩ : ∃ k : Nat, s = (k : Int) := ⟨s.toNat, by unfold Sized at hs; omega⟩
  have hk8 : k ≤ 8 := by unfold Sized at hs; omega
  have hk1 : 1 ≤ k := by unfold Sized at hs; omega
  obtain ⟨x, cap, rfl, hlc, hcm, hnc, hcell⟩ := hv
  have HV : Hid (IsB w (.slice x l.length cap) l) := ⟨x, cap, rfl, hlc, hcm, hnc, hcell⟩
  clear hcell hnc
  have h3 : ¬ (3000 < l.length) := by omega
  simp only [Int.toNat_natCast] at hjk
  have q1 : (l.length < j ∨ ((l.length : Int) - (j : Int) < (k : Int))) := by omega
  have hf : fitsB n k = false := by
    have := great_pow hs
    simp at this
    simp [fitsB]; omega
  go_enter Try.func3, Try.ntmps3
  go_wp2_with fail
  refine (alive_any _).mono ?_
  rintro e w1 ⟨rfl, hb1⟩
  go_wp2_with fail
  refine (put_long _ _ _ _ hs hg).mono ?_
  rintro e w2 ⟨rfl, rfl⟩
  go_wp2_with fail
  refine (get_short _ l j k _ hs (HV.out.mono (hb1) (Nat.le_refl _)) (by omega) hj hjk).mono ?_
  rintro e w3 ⟨rfl, rfl⟩
  go_wp2_with fail
  refine (sized_yes _ _ hs).mono ?_
  rintro e w3 ⟨rfl, rfl⟩
  go_wp2_with fail
  refine (bytes_any n k _ hn (by omega)).mono ?_
  rintro e w3 ⟨v3, rfl, hown3, hb3⟩
  rw [hf]
  go_wp2_with fail
  refine (code_code 2 _ (by decide) (by decide)).mono ?_
  rintro e w4 ⟨rfl, rfl⟩
  have hb6 : Below w.heap.size w w3 := hb1.trans (hb3.mono hb1.size)
  obtain ⟨nd, hnd⟩ : ∃ nd : Nat, nd = 0 := ⟨0, rfl⟩
  go_wp2_with (go_at_call 12; refine (code_code 3 _ (by decide) (by decide)).mono ?_; rintro e w7 ⟨rfl, rfl⟩)
  all_goals
    go_ret
    exact ⟨rfl, hb6⟩

set_option maxHeartbeats 800000 in
theorem packPuts_long_get (v : Value) (l : List UInt8) (n : Nat) (s : Int) (j : Nat) (w : World) (hv : IsB w v l) (hn : n < 18446744073709551616) (hl : l.length ≤ 3000) (hs : Sized s) (hjk : j + s.toNat ≤ l.length) (hg : great s < n) :
    Calls Try.prog 3 #[v, .int .u64 n, .int .i64 s, .int .i64 (j : Int)] w fun e w' => e = .returned (.bool true) ∧ Below w.heap.size w w' := by
  obtain ⟨k, rfl⟩ : ∃ k : Nat, s = (k : Int) := ⟨s.toNat, by unfold Sized at hs; omega⟩
  have hk8 : k ≤ 8 := by unfold Sized at hs; omega
  have hk1 : 1 ≤ k := by unfold Sized at hs; omega
  obtain ⟨x, cap, rfl, hlc, hcm, hnc, hcell⟩ := hv
  have HV : Hid (IsB w (.slice x l.length cap) l) := ⟨x, cap, rfl, hlc, hcm, hnc, hcell⟩
  clear hcell hnc
  have h3 : ¬ (3000 < l.length) := by omega
  simp only [Int.toNat_natCast] at hjk
  have q1 : ¬ (l.length < j) := by omega
  have q2 : ¬ ((l.length : Int) - (j : Int) < (k : Int)) := by omega
  have hf : fitsB n k = false := by
    have := great_pow hs
    simp at this
    simp [fitsB]; omega
  go_enter Try.func3, Try.ntmps3
  go_wp2_with fail
  refine (alive_any _).mono ?_
  rintro e w1 ⟨rfl, hb1⟩
  go_wp2_with fail
  refine (put_long _ _ _ _ hs hg).mono ?_
  rintro e w2 ⟨rfl, rfl⟩
  go_wp2_with fail
  refine (get_ok _ l j k _ hs (HV.out.mono (hb1) (Nat.le_refl _)) (by omega) hjk).mono ?_
  rintro e w3 ⟨rfl, rfl⟩
  go_wp2_with fail
  refine (sized_yes _ _ hs).mono ?_
  rintro e w3 ⟨rfl, rfl⟩
  go_wp2_with fail
  refine (bytes_any n k _ hn (by omega)).mono ?_
  rintro e w3 ⟨v3, rfl, hown3, hb3⟩
  rw [hf]
  go_wp2_with fail
  refine (code_code 2 _ (by decide) (by decide)).mono ?_
  rintro e w4 ⟨rfl, rfl⟩
  have hb6 : Below w.heap.size w w3 := hb1.trans (hb3.mono hb1.size)
  obtain ⟨nd, hnd⟩ : ∃ nd : Nat, nd = 0 := ⟨0, rfl⟩
  go_wp2_with (first | (go_at_call 12; refine (code_nil _).mono ?_; rintro e w7 ⟨rfl, rfl⟩) | (go_at_call 15; refine (number_any _ ((l.drop j).take k) _ ?_ (by simp; omega)).mono ?_; rotate_left 1; rintro e w7 ⟨rfl, rfl⟩))
  · go_ret
    exact ⟨rfl, hb6⟩
  · exact IsB.sub (n := l.length) (HV.out.mono hb6 (Nat.le_refl _)) hjk

set_option maxHeartbeats 800000 in
theorem packPuts_ok_neg (v : Value) (l : List UInt8) (n : Nat) (s : Int) (a : Int) (w : World) (hv : IsB w v l) (hn : n < 18446744073709551616) (hl : l.length ≤ 3000) (hs : Sized s) (ha : a < 0) (hg : n ≤ great s) :
    Calls Try.prog 3 #[v, .int .u64 n, .int .i64 s, .int .i64 a] w fun e w' => e = .returned (.bool true) ∧ Below w.heap.size w w' := by
  obtain ⟨k, rfl⟩ : ∃ k : Nat, s = (k : Int) := ⟨s.toNat, by unfold Sized at hs; omega⟩
  have hk8 : k ≤ 8 := by unfold Sized at hs; omega
  have hk1 : 1 ≤ k := by unfold Sized at hs; omega
  obtain ⟨x, cap, rfl, hlc, hcm, hnc, hcell⟩ := hv
  have HV : Hid (IsB w (.slice x l.length cap) l) := ⟨x, cap, rfl, hlc, hcm, hnc, hcell⟩
  clear hcell hnc
  have h3 : ¬ (3000 < l.length) := by omega
  have hf : fitsB n k = true := by
    have := great_pow hs
    simp at this
    simp [fitsB]; omega
  obtain ⟨i0, hi, hz0, hz1, hz2⟩ := info_parts Try.infoU8
  go_enter Try.func3, Try.ntmps3
  go_wp2_with fail
  refine (alive_any _).mono ?_
  rintro e w1 ⟨rfl, hb1⟩
  go_wp2_with fail
  refine (put_ok _ l n k _ hs (by omega) (HV.out.mono hb1 (Nat.le_refl _)) (by omega)).mono ?_
  rintro e w2 ⟨v2, rfl, hown2, hb2⟩
  go_wp2_with fail
  refine (get_arg _ _ _ _ (.inr ha)).mono ?_
  rintro e w3 ⟨rfl, rfl⟩
  go_wp2_with fail
  refine (sized_yes _ _ hs).mono ?_
  rintro e w3 ⟨rfl, rfl⟩
  go_wp2_with fail
  refine (bytes_any n k _ hn (by omega)).mono ?_
  rintro e w3 ⟨v3, rfl, hown3, hb3⟩
  rw [hf]
  go_wp2_with fail
  refine (code_nil _).mono ?_
  rintro e w4 ⟨rfl, rfl⟩
  go_wp2_with (first | (at_builtin; refine wpList_append_B (by rfl) (.tmp 79) (.tmp 80) 22 rfl w3.heap.size 5 i0 Try.underlying22 hi hz0 hz1 hz2 _ [] 0 rfl (World.ownsRow_lit _ #[] 0 (Nat.le_refl _) (Nat.zero_le _) rfl) rfl _ l rfl ?hv ?hl ?hb ?_; rotate_left 3; intro v4 w4 hown4 hb4) | (at_builtin; refine wpList_append_B (by rfl) (.tmp 81) (.tmp 82) 22 rfl w3.heap.size 5 i0 Try.underlying22 hi hz0 hz1 hz2 _ l l.length rfl (by assumption) rfl _ (le n k) rfl ?hv2 ?hl2 ?hb2 ?_; rotate_left 3; intro v5 w5 hown5 hb5))
  case hv => exact ((HV.out.mono hb1 (Nat.le_refl _)).mono ((hb2.trans (hb3.mono hb2.size)).alloc (Nat.le_trans hb2.size hb3.size) _) (Nat.le_refl _))
  case hl => simp; omega
  case hb => simp
  case hv2 => exact (IsB.own hown3 (by simp [length_le])).mono (((Below.refl _ _).alloc (Nat.le_refl _) _).trans hb4) (Nat.le_refl _)
  case hl2 => simp [length_le]; omega
  case hb2 => have := hb4.size; simp at this; omega
  have hb5' : Below w3.heap.size w3 w5 := (((Below.refl _ _).alloc (Nat.le_refl _) _).trans hb4).trans hb5
  refine (same_yes v2 v5 (l ++ le n k) _ ?_ (IsB.own hown5 rfl) ?_).mono ?_
  · exact ((IsB.own hown2 rfl).mono hb3 (Nat.le_refl _)).mono hb5' (Nat.le_refl _)
  · simp [length_le]; omega
  have hb6 : Below w.heap.size w w5 := hb1.trans ((hb2.trans ((hb3.trans (hb5'.mono hb3.size)).mono hb2.size)).mono hb1.size)
  rintro e w6 ⟨rfl, nd, rfl⟩
  go_wp2_with (go_at_call 12; refine (code_code 1 _ (by decide) (by decide)).mono ?_; rintro e w7 ⟨rfl, rfl⟩)
  go_ret
  exact ⟨rfl, below_drewN hb6 nd⟩

set_option maxHeartbeats 800000 in
theorem packPuts_ok_short (v : Value) (l : List UInt8) (n : Nat) (s : Int) (j : Nat) (w : World) (hv : IsB w v l) (hn : n < 18446744073709551616) (hl : l.length ≤ 3000) (hs : Sized s) (hj : (j : Int) ≤ 9223372036854775807) (hjk : l.length < j + s.toNat) (hg : n ≤ great s) :
    Calls Try.prog 3 #[v, .int .u64 n, .int .i64 s, .int .i64 (j : Int)] w fun e w' => e = .returned (.bool true) ∧ Below w.heap.size w w' := by
  obtain ⟨k, rfl⟩ : ∃ k : Nat, s = (k : Int) := ⟨s.toNat, by unfold Sized at hs; omega⟩
  have hk8 : k ≤ 8 := by unfold Sized at hs; omega
  have hk1 : 1 ≤ k := by unfold Sized at hs; omega
  obtain ⟨x, cap, rfl, hlc, hcm, hnc, hcell⟩ := hv
  have HV : Hid (IsB w (.slice x l.length cap) l) := ⟨x, cap, rfl, hlc, hcm, hnc, hcell⟩
  clear hcell hnc
  have h3 : ¬ (3000 < l.length) := by omega
  simp only [Int.toNat_natCast] at hjk
  have q1 : (l.length < j ∨ ((l.length : Int) - (j : Int) < (k : Int))) := by omega
  have hf : fitsB n k = true := by
    have := great_pow hs
    simp at this
    simp [fitsB]; omega
  obtain ⟨i0, hi, hz0, hz1, hz2⟩ := info_parts Try.infoU8
  go_enter Try.func3, Try.ntmps3
  go_wp2_with fail
  refine (alive_any _).mono ?_
  rintro e w1 ⟨rfl, hb1⟩
  go_wp2_with fail
  refine (put_ok _ l n k _ hs (by omega) (HV.out.mono hb1 (Nat.le_refl _)) (by omega)).mono ?_
  rintro e w2 ⟨v2, rfl, hown2, hb2⟩
  go_wp2_with fail
  refine (get_short _ l j k _ hs (HV.out.mono (hb1.trans (hb2.mono hb1.size)) (Nat.le_refl _)) (by omega) hj hjk).mono ?_
  rintro e w3 ⟨rfl, rfl⟩
  go_wp2_with fail
  refine (sized_yes _ _ hs).mono ?_
  rintro e w3 ⟨rfl, rfl⟩
  go_wp2_with fail
  refine (bytes_any n k _ hn (by omega)).mono ?_
  rintro e w3 ⟨v3, rfl, hown3, hb3⟩
  rw [hf]
  go_wp2_with fail
  refine (code_nil _).mono ?_
  rintro e w4 ⟨rfl, rfl⟩
  go_wp2_with (first | (at_builtin; refine wpList_append_B (by rfl) (.tmp 79) (.tmp 80) 22 rfl w3.heap.size 5 i0 Try.underlying22 hi hz0 hz1 hz2 _ [] 0 rfl (World.ownsRow_lit _ #[] 0 (Nat.le_refl _) (Nat.zero_le _) rfl) rfl _ l rfl ?hv ?hl ?hb ?_; rotate_left 3; intro v4 w4 hown4 hb4) | (at_builtin; refine wpList_append_B (by rfl) (.tmp 81) (.tmp 82) 22 rfl w3.heap.size 5 i0 Try.underlying22 hi hz0 hz1 hz2 _ l l.length rfl (by assumption) rfl _ (le n k) rfl ?hv2 ?hl2 ?hb2 ?_; rotate_left 3; intro v5 w5 hown5 hb5))
  case hv => exact ((HV.out.mono hb1 (Nat.le_refl _)).mono ((hb2.trans (hb3.mono hb2.size)).alloc (Nat.le_trans hb2.size hb3.size) _) (Nat.le_refl _))
  case hl => simp; omega
  case hb => simp
  case hv2 => exact (IsB.own hown3 (by simp [length_le])).mono (((Below.refl _ _).alloc (Nat.le_refl _) _).trans hb4) (Nat.le_refl _)
  case hl2 => simp [length_le]; omega
  case hb2 => have := hb4.size; simp at this; omega
  have hb5' : Below w3.heap.size w3 w5 := (((Below.refl _ _).alloc (Nat.le_refl _) _).trans hb4).trans hb5
  refine (same_yes v2 v5 (l ++ le n k) _ ?_ (IsB.own hown5 rfl) ?_).mono ?_
  · exact ((IsB.own hown2 rfl).mono hb3 (Nat.le_refl _)).mono hb5' (Nat.le_refl _)
  · simp [length_le]; omega
  have hb6 : Below w.heap.size w w5 := hb1.trans ((hb2.trans ((hb3.trans (hb5'.mono hb3.size)).mono hb2.size)).mono hb1.size)
  rintro e w6 ⟨rfl, nd, rfl⟩
  go_wp2_with (go_at_call 12; refine (code_code 3 _ (by decide) (by decide)).mono ?_; rintro e w7 ⟨rfl, rfl⟩)
  all_goals
    go_ret
    exact ⟨rfl, below_drewN hb6 nd⟩

set_option maxHeartbeats 800000 in
theorem packPuts_ok_get (v : Value) (l : List UInt8) (n : Nat) (s : Int) (j : Nat) (w : World) (hv : IsB w v l) (hn : n < 18446744073709551616) (hl : l.length ≤ 3000) (hs : Sized s) (hjk : j + s.toNat ≤ l.length) (hg : n ≤ great s) :
    Calls Try.prog 3 #[v, .int .u64 n, .int .i64 s, .int .i64 (j : Int)] w fun e w' => e = .returned (.bool true) ∧ Below w.heap.size w w' := by
  obtain ⟨k, rfl⟩ : ∃ k : Nat, s = (k : Int) := ⟨s.toNat, by unfold Sized at hs; omega⟩
  have hk8 : k ≤ 8 := by unfold Sized at hs; omega
  have hk1 : 1 ≤ k := by unfold Sized at hs; omega
  obtain ⟨x, cap, rfl, hlc, hcm, hnc, hcell⟩ := hv
  have HV : Hid (IsB w (.slice x l.length cap) l) := ⟨x, cap, rfl, hlc, hcm, hnc, hcell⟩
  clear hcell hnc
  have h3 : ¬ (3000 < l.length) := by omega
  simp only [Int.toNat_natCast] at hjk
  have q1 : ¬ (l.length < j) := by omega
  have q2 : ¬ ((l.length : Int) - (j : Int) < (k : Int)) := by omega
  have hf : fitsB n k = true := by
    have := great_pow hs
    simp at this
    simp [fitsB]; omega
  obtain ⟨i0, hi, hz0, hz1, hz2⟩ := info_parts Try.infoU8
  go_enter Try.func3, Try.ntmps3
  go_wp2_with fail
  refine (alive_any _).mono ?_
  rintro e w1 ⟨rfl, hb1⟩
  go_wp2_with fail
  refine (put_ok _ l n k _ hs (by omega) (HV.out.mono hb1 (Nat.le_refl _)) (by omega)).mono ?_
  rintro e w2 ⟨v2, rfl, hown2, hb2⟩
  go_wp2_with fail
  refine (get_ok _ l j k _ hs (HV.out.mono (hb1.trans (hb2.mono hb1.size)) (Nat.le_refl _)) (by omega) hjk).mono ?_
  rintro e w3 ⟨rfl, rfl⟩
  go_wp2_with fail
  refine (sized_yes _ _ hs).mono ?_
  rintro e w3 ⟨rfl, rfl⟩
  go_wp2_with fail
  refine (bytes_any n k _ hn (by omega)).mono ?_
  rintro e w3 ⟨v3, rfl, hown3, hb3⟩
  rw [hf]
  go_wp2_with fail
  refine (code_nil _).mono ?_
  rintro e w4 ⟨rfl, rfl⟩
  go_wp2_with (first | (at_builtin; refine wpList_append_B (by rfl) (.tmp 79) (.tmp 80) 22 rfl w3.heap.size 5 i0 Try.underlying22 hi hz0 hz1 hz2 _ [] 0 rfl (World.ownsRow_lit _ #[] 0 (Nat.le_refl _) (Nat.zero_le _) rfl) rfl _ l rfl ?hv ?hl ?hb ?_; rotate_left 3; intro v4 w4 hown4 hb4) | (at_builtin; refine wpList_append_B (by rfl) (.tmp 81) (.tmp 82) 22 rfl w3.heap.size 5 i0 Try.underlying22 hi hz0 hz1 hz2 _ l l.length rfl (by assumption) rfl _ (le n k) rfl ?hv2 ?hl2 ?hb2 ?_; rotate_left 3; intro v5 w5 hown5 hb5))
  case hv => exact ((HV.out.mono hb1 (Nat.le_refl _)).mono ((hb2.trans (hb3.mono hb2.size)).alloc (Nat.le_trans hb2.size hb3.size) _) (Nat.le_refl _))
  case hl => simp; omega
  case hb => simp
  case hv2 => exact (IsB.own hown3 (by simp [length_le])).mono (((Below.refl _ _).alloc (Nat.le_refl _) _).trans hb4) (Nat.le_refl _)
  case hl2 => simp [length_le]; omega
  case hb2 => have := hb4.size; simp at this; omega
  have hb5' : Below w3.heap.size w3 w5 := (((Below.refl _ _).alloc (Nat.le_refl _) _).trans hb4).trans hb5
  refine (same_yes v2 v5 (l ++ le n k) _ ?_ (IsB.own hown5 rfl) ?_).mono ?_
  · exact ((IsB.own hown2 rfl).mono hb3 (Nat.le_refl _)).mono hb5' (Nat.le_refl _)
  · simp [length_le]; omega
  have hb6 : Below w.heap.size w w5 := hb1.trans ((hb2.trans ((hb3.trans (hb5'.mono hb3.size)).mono hb2.size)).mono hb1.size)
  rintro e w6 ⟨rfl, nd, rfl⟩
  go_wp2_with (first | (go_at_call 12; refine (code_nil _).mono ?_; rintro e w7 ⟨rfl, rfl⟩) | (go_at_call 15; refine (number_any _ ((l.drop j).take k) _ ?_ (by simp; omega)).mono ?_; rotate_left 1; rintro e w7 ⟨rfl, rfl⟩))
  · go_ret
    exact ⟨rfl, below_drewN hb6 nd⟩
  · exact IsB.sub (n := l.length) (HV.out.mono (below_drewN hb6 nd) (Nat.le_refl _)) hjk

theorem packPuts_sized (v : Value) (l : List UInt8) (n : Nat) (s a : Int) (w : World) (hv : IsB w v l) (hn : n < 18446744073709551616) (ha2 : a ≤ 9223372036854775807) (hl : l.length ≤ 3000) (hs : Sized s) :
    Calls Try.prog 3 #[v, .int .u64 n, .int .i64 s, .int .i64 a] w fun e w' => e = .returned (.bool true) ∧ Below w.heap.size w w' := by
  by_cases hg : great s < n
  · by_cases ha : a < 0
    · exact packPuts_long_neg v l n s a w hv hn hl hs ha hg
    · obtain ⟨j, rfl⟩ : ∃ j : Nat, a = (j : Int) := ⟨a.toNat, by omega⟩
      by_cases hjk : l.length < j + s.toNat
      · exact packPuts_long_short v l n s j w hv hn hl hs ha2 hjk hg
      · exact packPuts_long_get v l n s j w hv hn hl hs (by omega) hg
  · by_cases ha : a < 0
    · exact packPuts_ok_neg v l n s a w hv hn hl hs ha (by omega)
    · obtain ⟨j, rfl⟩ : ∃ j : Nat, a = (j : Int) := ⟨a.toNat, by omega⟩
      by_cases hjk : l.length < j + s.toNat
      · exact packPuts_ok_short v l n s j w hv hn hl hs ha2 hjk (by omega)
      · exact packPuts_ok_get v l n s j w hv hn hl hs (by omega) (by omega)

set_option maxHeartbeats 800000 in
theorem packPuts_any (v : Value) (l : List UInt8) (n : Nat) (s a : Int) (w : World) (hv : IsB w v l) (hn : n < 18446744073709551616) (ha2 : a ≤ 9223372036854775807) :
    Calls Try.prog 3 #[v, .int .u64 n, .int .i64 s, .int .i64 a] w fun e w' => e = .returned (.bool true) ∧ Below w.heap.size w w' := by
  by_cases hl : 3000 < l.length
  · obtain ⟨x, cap, rfl, hlc, hcm, hnc, hcell⟩ := hv
    clear hcell hnc
    go_enter Try.func3, Try.ntmps3
    go_wp2_with (go_at_call 8; refine (alive_any _).mono ?_; rintro e w1 ⟨rfl, hb1⟩)
    go_ret
    exact ⟨rfl, hb1⟩
  have hlen : ∃ x cap, v = .slice x l.length cap ∧ cap ≤ maxLen := by
    obtain ⟨x, cap, rfl, hlc, hcm, hnc, hcell⟩ := hv
    exact ⟨x, cap, rfl, hcm⟩
  by_cases hs : Sized s
  · exact packPuts_sized v l n s a w hv hn ha2 (by omega) hs
  · obtain ⟨x, cap, rfl, hcm⟩ := hlen
    go_enter Try.func3, Try.ntmps3
    go_wp2_with (first | (go_at_call 8; refine (alive_any _).mono ?_; rintro e w1 ⟨rfl, hb1⟩) | (go_at_call 9; refine (put_arg _ _ _ _ hs).mono ?_; rintro e w2 ⟨rfl, rfl⟩) | (go_at_call 10; refine (get_arg _ _ _ _ (.inl hs)).mono ?_; rintro e w2 ⟨rfl, rfl⟩) | (go_at_call 11; refine (sized_no _ _ hs).mono ?_; rintro e w2 ⟨rfl, rfl⟩) | (go_at_call 12; refine (code_code 1 _ (by decide) (by decide)).mono ?_; rintro e w2 ⟨rfl, rfl⟩))
    go_ret
    exact ⟨rfl, hb1⟩

end Go.Proofs.Ytmcihecipcgcoaa
