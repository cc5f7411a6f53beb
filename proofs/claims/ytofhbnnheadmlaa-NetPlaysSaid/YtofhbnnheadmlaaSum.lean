/- Package sum by contracts. -/
import Derived.Test.YtofhbnnheadmlaaCrcF
import Derived.Test.YtofhbnnheadmlaaPack
import Derived.Lib.SliceRun
set_option linter.unusedVariables false
set_option linter.unusedSimpArgs false
namespace Go.Proofs.Ytofhbnnheadmlaa
open Go.RowKit Go.Cor

theorem ret_int {k : IntKind} {a b : Int} (h : a = b) : Ending.returned (.int k a) = .returned (.int k b) := by rw [h]

theorem step_bits {r b : Nat} (hr : r < 4294967296) (hb : b < 2) :
    bits .xor .u32 (r : Int) (b : Int) = ((r ^^^ b : Nat) : Int) ∧ bits .and .u32 ((r ^^^ b : Nat) : Int) 1 = (((r ^^^ b) % 2 : Nat) : Int) ∧ r ^^^ b < 4294967296 ∧ (r ^^^ b) / 2 = r / 2 ∧ (r ^^^ b) % 2 = (r + b) % 2 := by
  have hlt : r ^^^ b < 4294967296 := Nat.xor_lt_two_pow (n := 32) hr (by omega)
  refine ⟨u32_xor_nat r b hr (by omega), ?_, hlt, ?_, xor_mod2 r b⟩
  · have := u32_and_nat (r ^^^ b) 1 hlt (by decide)
    rw [nat_mask1] at this
    exact this
  · have := Nat.xor_div_two_pow (a := r) (b := b) (n := 1)
    rw [show (2 : Nat) ^ 1 = 2 from rfl, Nat.div_eq_of_lt hb, Nat.xor_zero] at this
    exact this
theorem step_yes {r b : Nat} (hr : r < 4294967296) (hb : b < 2) (h : (bits .and .u32 (bits .xor .u32 (r : Int) (b : Int)) 1 == 1) = true) :
    bits .xor .u32 (bits .xor .u32 (r : Int) (b : Int) / 2) 2197175160 = ((cstep r b : Nat) : Int) := by
  obtain ⟨h1, h2, h3, h4, h5⟩ := step_bits hr hb
  rw [h1, h2] at h
  have h' : (((r ^^^ b) % 2 : Nat) : Int) = 1 := by simpa using h
  rw [h1, show ((r ^^^ b : Nat) : Int) / 2 = ((r / 2 : Nat) : Int) from by omega]
  have e := u32_xor_nat (r / 2) 2197175160 (by omega) (by decide)
  rw [show ((2197175160 : Nat) : Int) = 2197175160 from rfl] at e
  rw [e, cstep, if_neg (by omega)]
theorem step_no {r b : Nat} (hr : r < 4294967296) (hb : b < 2) (h : (bits .and .u32 (bits .xor .u32 (r : Int) (b : Int)) 1 == 1) = false) :
    bits .xor .u32 (r : Int) (b : Int) / 2 = ((cstep r b : Nat) : Int) := by
  obtain ⟨h1, h2, h3, h4, h5⟩ := step_bits hr hb
  rw [h1, h2] at h
  have h' : ¬ (((r ^^^ b) % 2 : Nat) : Int) = 1 := by simpa using h
  rw [h1, cstep, if_pos (by omega)]
  omega

theorem step_any (r b : Nat) (w : World) (hr : r < 4294967296) (hb : b < 2) :
    Calls Try.prog 67 #[.int .u32 r, .int .u8 b] w fun e w' => e = .returned (.int .u32 (cstep r b : Nat)) ∧ w = w' := by
  go_enter Try.func67, Try.ntmps67
  go_wp2
  · have h : (bits .and .u32 (bits .xor .u32 (r : Int) (b : Int)) 1 == 1) = true := by assumption
    go_ret
    exact ⟨ret_int (step_yes hr hb h), rfl⟩
  · have h : (bits .and .u32 (bits .xor .u32 (r : Int) (b : Int)) 1 == 1) = false := by assumption
    go_ret
    exact ⟨ret_int (step_no hr hb h), rfl⟩

theorem csteps_mod_step (k r x m : Nat) (hm : Hid (m = x / 2 ^ k)) : m % 2 < 2 ∧ Hid (cstep (csteps k r x) (m % 2) = csteps (k + 1) r x) ∧ Hid (m / 2 = x / 2 ^ (k + 1)) := by
  refine ⟨by omega, ?_, ?_⟩
  · show _ = _
    rw [csteps_succ, hm.out]
  · show _ = _
    rw [hm.out, Nat.div_div_eq_div_mul, Nat.pow_succ]

theorem creg_snoc {r : Nat} {l : List UInt8} {i : Nat} (h : i < l.length) : creg r (l.take (i + 1)) = csteps 8 (creg r (l.take i)) (l.getD i 0).toNat := by
  rw [List.take_succ_eq_append_getElem h, creg_append, List.getD_eq_getElem?_getD, List.getElem?_eq_getElem h]
  rfl

theorem xor_ones (s : Nat) (h : s < 4294967296) : bits .xor .u32 IntKind.u32.max (s : Int) = ((4294967295 - s : Nat) : Int) := by
  have e := u32_xor_nat 4294967295 s (by decide) h
  rw [show ((4294967295 : Nat) : Int) = IntKind.u32.max from rfl] at e
  rw [e]
  congr 1
  apply Nat.eq_of_testBit_eq
  intro i
  rw [Nat.testBit_xor, show 4294967295 - s = 2 ^ 32 - (s + 1) from by omega, Nat.testBit_two_pow_sub_succ (n := 32) (by omega), show 4294967295 = 2 ^ 32 - 1 from rfl, Nat.testBit_two_pow_sub_one]
  by_cases hi : i < 32
  · simp [hi]
  · have : s.testBit i = false := Nat.testBit_lt_two_pow (Nat.lt_of_lt_of_le h (by
      have : 2 ^ 32 ≤ 2 ^ i := Nat.pow_le_pow_right (by decide) (by omega)
      omega))
    simp [hi, this]

set_option maxHeartbeats 400000 in
theorem more_any (s : Nat) (v : Value) (l : List UInt8) (w : World) (hs : s < 4294967296) (hv : IsB w v l) (hl : l.length ≤ 1099511627776) :
    Calls Try.prog 62 #[.int .u32 s, v] w fun e w' => e = .returned (.int .u32 (cmore s l : Nat)) ∧ w = w' := by
  obtain ⟨x, cap, rfl, hlc, hcm, hnc, hcell⟩ := hv
  have HC : Hid (∀ i, i < l.length → ∃ b off, x = some ⟨b, off, none⟩ ∧ w.cell? ⟨b, off + i, none⟩ = some (.int .u8 ((l.getD i 0).toNat : Int))) := by
    intro i hi
    rcases hcell with hE | ⟨b, off, rfl, hc⟩
    · omega
    · exact ⟨b, off, rfl, hc i hi⟩
  clear hcell hnc
  have hx := xor_ones s hs
  obtain ⟨t, ht⟩ : ∃ t : Nat, t = 4294967295 - s := ⟨_, rfl⟩
  rw [← ht] at hx
  have htl : t < 4294967296 := by omega
  have HT := Lib.hid ht
  clear ht
  go_enter Try.func62, Try.ntmps62
  go_wp2
  clear hx
  go_loop [5, 12] (fun g c => ∃ i r : Nat, i ≤ l.length ∧ r < 4294967296 ∧ Hid (r = creg t (l.take i)) ∧ g = .int .u32 (r : Int) ∧ c = .int .i64 i) (fun _ c => l.length - (intOf c).toNat)
  case atStart => exact ⟨0, t, by omega, htl, rfl, rfl, rfl⟩
  case round =>
    obtain ⟨i, r, hi, hr, hreg, rfl, rfl⟩ := hrel
    by_cases hlt : i < l.length
    · obtain ⟨b, off, rfl, hcell⟩ := HC.out i hlt
      have hy := (l.getD i 0).toNat_lt
      obtain ⟨y, hyy⟩ : ∃ y : Nat, y = (l.getD i 0).toNat := ⟨_, rfl⟩
      rw [← hyy] at hy hcell
      have HY := Lib.hid hyy
      clear hyy
      go_wp2
      go_loop [5, 7, 16] (fun g z c => ∃ k r2 m : Nat, k ≤ 8 ∧ r2 < 4294967296 ∧ m < 256 ∧ Hid (r2 = csteps k r y) ∧ Hid (m = y / 2 ^ k) ∧ g = .int .u32 (r2 : Int) ∧ z = .int .u8 (m : Int) ∧ c = .int .i64 k) (fun _ _ c => 8 - (intOf c).toNat)
      case atStart => exact ⟨0, r, y, by omega, hr, by omega, rfl, by show y = _; simp, rfl, rfl, rfl⟩
      case round =>
        obtain ⟨k, r2, m, hk, hr2, hm, hr2e, hme, rfl, rfl, rfl⟩ := hrel
        by_cases hk8 : k < 8
        · have hst := csteps_mod_step k r y m hme
          have hb2 := hst.1
          have hb := u8_and_nat m 1 hm (by decide)
          rw [nat_mask1, show ((1 : Nat) : Int) = 1 from rfl] at hb
          have hcl := cstep_lt (m % 2) hr2
          obtain ⟨q, hq⟩ : ∃ q : Nat, q = m % 2 := ⟨_, rfl⟩
          rw [← hq] at hb hb2 hst hcl
          clear hq
          go_wp2_with fail
          refine (step_any r2 q _ hr2 hb2).mono ?_
          rintro e w' ⟨rfl, rfl⟩
          clear hb
          go_wp2
          go_round
          case rel => exact ⟨k + 1, cstep r2 q, m / 2, by omega, hcl, by omega, by rw [hr2e.out]; exact (hr2e.out ▸ hst.2.1.out), hst.2.2, rfl, by go_num, by go_num⟩
          case measure => simp [intOf]; omega
        · obtain rfl : k = 8 := by omega
          go_wp2
          go_round
          case rel => exact ⟨i + 1, r2, by omega, hr2, by show _ = _; rw [creg_snoc hlt, ← HY.out, ← hreg.out]; exact hr2e.out, rfl, by go_num⟩
          case measure => simp [intOf]; omega
    · obtain rfl : i = l.length := by omega
      have hx := xor_ones r hr
      go_wp2
      go_ret
      exact ⟨ret_int (by rw [hreg.out, HT.out, List.take_length]; rfl), rfl⟩

theorem of_any (v : Value) (l : List UInt8) (w : World) (hv : IsB w v l) (hl : l.length ≤ 1099511627776) :
    Calls Try.prog 57 #[v] w fun e w' => e = .returned (.int .u32 (crc l : Nat)) ∧ w = w' := by
  go_enter Try.func57, Try.ntmps57
  go_wp2_with fail
  refine (more_any 0 _ l _ (by decide) hv hl).mono ?_
  rintro e w' ⟨rfl, rfl⟩
  go_wp2
  go_ret
  exact ⟨rfl, rfl⟩

/-- What Put tells, as a row of its own. -/
theorem put_okO (v : Value) (l : List UInt8) (n : Nat) (s : Nat) (w : World) (h : Sized (s : Int)) (hn : n ≤ great (s : Int)) (hv : IsB w v l) (hl : l.length ≤ 1099511627776) :
    Calls Try.prog 56 #[v, .int .u64 n, .int .i64 (s : Int)] w fun e w' =>
      ∃ g cap, e = .returned (.tuple #[.slice (some ⟨g, 0, none⟩) (l.length + s) cap, .nilIface]) ∧ w'.ownsRow w.heap.size 5 1 (.slice (some ⟨g, 0, none⟩) (l.length + s) cap) (l.length + s) (bvs (l ++ le n s)) ∧ w.heap.size ≤ g ∧ g < w'.heap.size ∧ Below w.heap.size w w' := by
  refine (put_ok v l n s w h hn hv hl).mono ?_
  rintro e w' ⟨v', rfl, hown, hb⟩
  rw [show (l ++ le n s).length = l.length + s from by simp [length_le]] at *
  have hs1 : 1 ≤ s := by unfold Sized at h; omega
  rcases hown.2 with ⟨_, h0⟩ | ⟨g, cap, cur, rfl, h1, h2, h3⟩
  · omega
  · exact ⟨g, cap, rfl, hown, h1, (Array.getElem?_eq_some_iff.1 h2).1, hb⟩

/-- What is sealed. -/
def sealed (l : List UInt8) : List UInt8 := l ++ le (crc l) 4
theorem length_sealed (l : List UInt8) : (sealed l).length = l.length + 4 := by simp [sealed, length_le]
theorem great_4 : great 4 = 4294967295 := rfl

theorem seal_any (v : Value) (l : List UInt8) (w : World) (hv : IsB w v l) (hl : l.length ≤ 1099511627776) :
    Calls Try.prog 40 #[v] w fun e w' =>
      ∃ g cap, e = .returned (.slice (some ⟨g, 0, none⟩) (l.length + 4) cap) ∧ w'.ownsRow w.heap.size 5 1 (.slice (some ⟨g, 0, none⟩) (l.length + 4) cap) (l.length + 4) (bvs (sealed l)) ∧ w.heap.size ≤ g ∧ g < w'.heap.size ∧ Below w.heap.size w w' := by
  have hc := crc_lt l
  go_enter Try.func40, Try.ntmps40
  go_wp2_with fail
  refine (of_any _ l _ hv hl).mono ?_
  rintro e w' ⟨rfl, rfl⟩
  go_wp2_with fail
  refine (put_okO _ l (crc l) 4 _ (.inr (.inr (.inl rfl))) (by rw [show ((4 : Nat) : Int) = 4 from rfl, great_4]; omega) hv hl).mono ?_
  rintro e w' ⟨g, cap, rfl, hown, hg1, hg2, hb⟩
  go_wp2
  go_ret
  exact ⟨g, cap, rfl, hown, hg1, hg2, hb⟩

set_option maxHeartbeats 400000 in
theorem clone_any (v : Value) (l : List UInt8) (w : World) (hv : IsB w v l) (hl : l.length ≤ 1099511627776) :
    Calls Try.prog 29 #[v] w fun e w' =>
      ∃ v', e = .returned v' ∧ w'.ownsRow w.heap.size 5 1 v' l.length (bvs l) ∧ Below w.heap.size w w' := by
  obtain ⟨i0, hi, hz0, hz1, hz2⟩ := info_parts Try.infoU8
  have q22 : ∀ (w : World) (a : Option Addr) (n c n' c' : Nat), (binOp .eql 26 (.slice a n c) (.slice none n' c')).run Try.prog w = .ok (.bool a.isNone) w := fun w a n c n' c' => Lib.run_eql_slice_nil w _ _ a n c n' c' Try.underlying26
  have HV := Lib.hid hv
  obtain ⟨x, cap, rfl, hlc, hcm, hnc, hcell⟩ := hv
  clear hcell
  cases x with
  | none =>
    obtain rfl := hnc rfl
    obtain rfl : l = [] := List.eq_nil_of_length_eq_zero (by omega)
    go_enter Try.func29, Try.ntmps29
    go_wp2
    go_ret
    exact ⟨_, rfl, ⟨rfl, .inl ⟨rfl, rfl⟩⟩, Below.refl _ _⟩
  | some a =>
    clear hnc
    go_enter Try.func29, Try.ntmps29
    go_wp2_with (at_builtin; refine wpList_append_B (by rfl) _ _ 26 rfl w.heap.size 5 i0 Try.underlying26 hi hz0 hz1 hz2 _ [] 0 rfl (World.ownsRow_lit _ #[] 0 (Nat.le_refl _) (Nat.zero_le _) rfl) rfl _ l rfl (HV.out.mono ((Below.refl _ _).alloc (Nat.le_refl _) _) (Nat.le_refl _)) (by simp; omega) (by simp) ?_; intro v4 w4 hown4 hb4)
    go_ret
    exact ⟨_, rfl, by simpa using hown4, ((Below.refl _ _).alloc (Nat.le_refl _) _).trans hb4⟩

theorem num_tail (l : List UInt8) (h : 4 ≤ l.length) : ((l.drop (l.length - 4)).take 4) = l.drop (l.length - 4) := List.take_of_length_le (by simp; omega)

theorem open_short (v : Value) (l : List UInt8) (w : World) (hv : IsB w v l) (h : l.length < 4) :
    Calls Try.prog 45 #[v] w fun e w' => e = .returned (.tuple #[.slice none 0 0, err 3]) ∧ w = w' := by
  obtain ⟨x, cap, rfl, hlc, hcm, hnc, hcell⟩ := hv
  clear hcell hnc
  go_enter Try.func45, Try.ntmps45
  go_wp2
  go_ret2
  exact ⟨rfl, rfl⟩

/-- Is the sum right? -/
def sumOk (l : List UInt8) : Prop := crc (l.take (l.length - 4)) = num (l.drop (l.length - 4))
theorem sealed_ok (l : List UInt8) : sumOk (sealed l) := by
  have h := crc_lt l
  have e1 : (sealed l).take ((sealed l).length - 4) = l := by rw [length_sealed]; exact List.take_left' (by omega)
  have e2 : (sealed l).drop ((sealed l).length - 4) = le (crc l) 4 := by rw [length_sealed]; exact List.drop_left' (by omega)
  unfold sumOk
  rw [e1, e2, num_le, Nat.mod_eq_of_lt (by omega)]

theorem num_tail_lt (l : List UInt8) (h : 4 ≤ l.length) : num (l.drop (l.length - 4)) < 4294967296 := by
  have := num_lt (l.drop (l.length - 4))
  rw [show (l.drop (l.length - 4)).length = 4 from by simp; omega] at this
  omega

set_option maxHeartbeats 400000 in
theorem open_bad (v : Value) (l : List UInt8) (w : World) (hv : IsB w v l) (hl : l.length ≤ 1099511627776) (h : 4 ≤ l.length) (hs : ¬ sumOk l) :
    Calls Try.prog 45 #[v] w fun e w' => e = .returned (.tuple #[.slice none 0 0, err 5]) ∧ w = w' := by
  obtain ⟨k, hk⟩ : ∃ k : Nat, l.length = k + 4 := ⟨l.length - 4, by omega⟩
  have hkb : k + 4 ≤ 1099511627776 := by omega
  have ht := num_tail_lt l h
  obtain ⟨n, hn⟩ : ∃ n : Nat, n = num (l.drop (l.length - 4)) := ⟨_, rfl⟩
  obtain ⟨c, hc⟩ : ∃ c : Nat, c = crc (l.take (l.length - 4)) := ⟨_, rfl⟩
  have hc2 : c < 4294967296 := by rw [hc]; exact crc_lt _
  have hne : ((c : Int) != (n : Int)) = true := by
    unfold sumOk at hs
    rw [bne_iff_ne]
    omega
  rw [← hn] at ht
  rw [← num_tail l h] at hn
  rw [hk, Nat.add_sub_cancel] at hn hc
  have HN := Lib.hid hn
  have HC := Lib.hid hc
  have HK := Lib.hid hk
  have HV := Lib.hid hv
  obtain ⟨x, cap, rfl, hlc, hcm⟩ := hv.at_len hk
  clear hn hc hs hk hv hl h
  go_enter Try.func45, Try.ntmps45
  go_wp2_with fail
  refine (get_ok _ l k 4 _ (.inr (.inr (.inl rfl))) HV.out (by rw [HK.out]; omega) (by rw [HK.out]; omega)).mono ?_
  rintro e w' ⟨rfl, rfl⟩
  rw [← HN.out]
  go_wp2_with fail
  refine (of_any _ (l.take k) _ (HV.out.takeN HK.out (by omega)) (by simp; omega)).mono ?_
  rintro e w' ⟨rfl, rfl⟩
  rw [← HC.out]
  go_wp2
  go_ret2
  exact ⟨rfl, rfl⟩

set_option maxHeartbeats 400000 in
theorem open_ok (v : Value) (l : List UInt8) (w : World) (hv : IsB w v l) (hl : l.length ≤ 1099511627776) (h : 4 ≤ l.length) (hs : sumOk l) :
    Calls Try.prog 45 #[v] w fun e w' =>
      ∃ v', e = .returned (.tuple #[v', .nilIface]) ∧ w'.ownsRow w.heap.size 5 1 v' (l.length - 4) (bvs (l.take (l.length - 4))) ∧ Below w.heap.size w w' := by
  obtain ⟨k, hk⟩ : ∃ k : Nat, l.length = k + 4 := ⟨l.length - 4, by omega⟩
  have hkb : k + 4 ≤ 1099511627776 := by omega
  have ht := num_tail_lt l h
  obtain ⟨n, hn⟩ : ∃ n : Nat, n = num (l.drop (l.length - 4)) := ⟨_, rfl⟩
  have hc : n = crc (l.take (l.length - 4)) := by
    unfold sumOk at hs
    omega
  have hne : ((n : Int) != (n : Int)) = false := by simp
  rw [← hn] at ht
  rw [← num_tail l h] at hn
  rw [hk, Nat.add_sub_cancel] at hn hc ⊢
  have HN := Lib.hid hn
  have HC := Lib.hid hc
  have HK := Lib.hid hk
  have HV := Lib.hid hv
  obtain ⟨x, cap, rfl, hlc, hcm⟩ := hv.at_len hk
  clear hn hc hs hk hv hl h
  go_enter Try.func45, Try.ntmps45
  go_wp2_with fail
  refine (get_ok _ l k 4 _ (.inr (.inr (.inl rfl))) HV.out (by rw [HK.out]; omega) (by rw [HK.out]; omega)).mono ?_
  rintro e w' ⟨rfl, rfl⟩
  rw [← HN.out]
  go_wp2_with fail
  refine (of_any _ (l.take k) _ (HV.out.takeN HK.out (by omega)) (by simp; omega)).mono ?_
  rintro e w' ⟨rfl, rfl⟩
  rw [← HC.out]
  go_wp2_with fail
  refine (clone_any _ (l.take k) _ (HV.out.takeN HK.out (by omega)) (by simp; omega)).mono ?_
  rintro e w' ⟨v', rfl, hown, hb⟩
  rw [show (l.take k).length = k from by rw [List.length_take, HK.out]; omega] at hown
  go_wp2
  go_ret2
  exact ⟨_, rfl, hown, hb⟩

end Go.Proofs.Ytofhbnnheadmlaa
