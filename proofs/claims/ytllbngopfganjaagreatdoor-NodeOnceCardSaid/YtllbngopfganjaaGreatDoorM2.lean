/- Sum, Needle, Zeros, Needleb, Needlec, Needled, Needlee, Ref03d. -/
import Derived.Test.YtllbngopfganjaaGreatDoorM1
import Derived.Lib.SliceRun
import Derived.Laws.BytesArg
import Derived.Laws.BytesString
import Derived.Deep.RegionHeld3
import Derived.Outline
import Derived.Deep.CutRange
import Derived.Deep.RegionLaw
set_option linter.unusedVariables false
set_option linter.unusedSimpArgs false

section
namespace Go.Proofs.YtllbngopfganjaaGreatDoor.Nd
open Go.RowKit Go.Cor

theorem ret_int {k : IntKind} {a b : Int} (h : a = b) : Ending.returned (.int k a) = .returned (.int k b) := by rw [h]

theorem step_bits {r b : Nat} (hr : r < 4294967296) (hb : b < 2) :
    bits .xor .u32 (r : Int) (b : Int) = ((r ^^^ b : Nat) : Int) ∧ bits .and .u32 ((r ^^^ b : Nat) : Int) 1 = (((r ^^^ b) % 2 : Nat) : Int) ∧ r ^^^ b < 4294967296 ∧ (r ^^^ b) / 2 = r / 2 ∧ (r ^^^ b) % 2 = (r + b) % 2 := by
  have hlt : r ^^^ b < 4294967296 := Nat.xor_lt_two_pow (n := 32) hr (by omega)
  refine ⟨u32_xor_nat r b hr (by omega), ?_, hlt, ?_, xor_mod2 r b⟩
  · have := u32_and_nat (r ^^^ b) 1 hlt (by decide)
    rw [nat_mask1] at this
    exact this
  · have := Nat.xor_div_two_pow (a := r) (b := b) (n := 1)
    rw [show (2 : Nat) ^ 1 = 2 from rfl, Nat.div_eq_of_lt hb, Nat.xor_zero] at this
    exact this
theorem step_yes {r b : Nat} (hr : r < 4294967296) (hb : b < 2) (h : (bits .and .u32 (bits .xor .u32 (r : Int) (b : Int)) 1 == 1) = true) :
    bits .xor .u32 (bits .xor .u32 (r : Int) (b : Int) / 2) 2197175160 = ((cstep r b : Nat) : Int) := by
  obtain ⟨h1, h2, h3, h4, h5⟩ := step_bits hr hb
  rw [h1, h2] at h
  have h' : (((r ^^^ b) % 2 : Nat) : Int) = 1 := by simpa using h
  rw [h1, show ((r ^^^ b : Nat) : Int) / 2 = ((r / 2 : Nat) : Int) from by omega]
  have e := u32_xor_nat (r / 2) 2197175160 (by omega) (by decide)
  rw [show ((2197175160 : Nat) : Int) = 2197175160 from rfl] at e
  rw [e, cstep, if_neg (by omega)]
theorem step_no {r b : Nat} (hr : r < 4294967296) (hb : b < 2) (h : (bits .and .u32 (bits .xor .u32 (r : Int) (b : Int)) 1 == 1) = false) :
    bits .xor .u32 (r : Int) (b : Int) / 2 = ((cstep r b : Nat) : Int) := by
  obtain ⟨h1, h2, h3, h4, h5⟩ := step_bits hr hb
  rw [h1, h2] at h
  have h' : ¬ (((r ^^^ b) % 2 : Nat) : Int) = 1 := by simpa using h
  rw [h1, cstep, if_pos (by omega)]
  omega

theorem step_any (r b : Nat) (w : World) (hr : r < 4294967296) (hb : b < 2) :
    Calls Tryz.prog 149 #[.int .u32 r, .int .u8 b] w fun e w' => e = .returned (.int .u32 (cstep r b : Nat)) ∧ w = w' := by
  go_enter Tryz.func149, Tryz.ntmps149
  go_wp2
  · have h : (bits .and .u32 (bits .xor .u32 (r : Int) (b : Int)) 1 == 1) = true := by assumption
    go_ret
    exact ⟨ret_int (step_yes hr hb h), rfl⟩
  · have h : (bits .and .u32 (bits .xor .u32 (r : Int) (b : Int)) 1 == 1) = false := by assumption
    go_ret
    exact ⟨ret_int (step_no hr hb h), rfl⟩

theorem csteps_mod_step (k r x m : Nat) (hm : Hid (m = x / 2 ^ k)) : m % 2 < 2 ∧ Hid (cstep (csteps k r x) (m % 2) = csteps (k + 1) r x) ∧ Hid (m / 2 = x / 2 ^ (k + 1)) := by
  refine ⟨by omega, ?_, ?_⟩
  · show _ = _
    rw [csteps_succ, hm.out]
  · show _ = _
    rw [hm.out, Nat.div_div_eq_div_mul, Nat.pow_succ]

theorem creg_snoc {r : Nat} {l : List UInt8} {i : Nat} (h : i < l.length) : creg r (l.take (i + 1)) = csteps 8 (creg r (l.take i)) (l.getD i 0).toNat := by
  rw [List.take_succ_eq_append_getElem h, creg_append, List.getD_eq_getElem?_getD, List.getElem?_eq_getElem h]
  rfl

theorem xor_ones (s : Nat) (h : s < 4294967296) : bits .xor .u32 IntKind.u32.max (s : Int) = ((4294967295 - s : Nat) : Int) := by
  have e := u32_xor_nat 4294967295 s (by decide) h
  rw [show ((4294967295 : Nat) : Int) = IntKind.u32.max from rfl] at e
  rw [e]
  congr 1
  apply Nat.eq_of_testBit_eq
  intro i
  rw [Nat.testBit_xor, show 4294967295 - s = 2 ^ 32 - (s + 1) from by omega, Nat.testBit_two_pow_sub_succ (n := 32) (by omega), show 4294967295 = 2 ^ 32 - 1 from rfl, Nat.testBit_two_pow_sub_one]
  by_cases hi : i < 32
  · simp [hi]
  · have : s.testBit i = false := Nat.testBit_lt_two_pow (Nat.lt_of_lt_of_le h (by
      have : 2 ^ 32 ≤ 2 ^ i := Nat.pow_le_pow_right (by decide) (by omega)
      omega))
    simp [hi, this]

set_option maxHeartbeats 400000 in
theorem more_any (s : Nat) (v : Value) (l : List UInt8) (w : World) (hs : s < 4294967296) (hv : IsB w v l) (hl : l.length ≤ 1099511627776) :
    Calls Tryz.prog 132 #[.int .u32 s, v] w fun e w' => e = .returned (.int .u32 (cmore s l : Nat)) ∧ w = w' := by
  obtain ⟨x, cap, rfl, hlc, hcm, hnc, hcell⟩ := hv
  have HC : Hid (∀ i, i < l.length → ∃ b off, x = some ⟨b, off, none⟩ ∧ w.cell? ⟨b, off + i, none⟩ = some (.int .u8 ((l.getD i 0).toNat : Int))) := by
    intro i hi
    rcases hcell with hE | ⟨b, off, rfl, hc⟩
    · omega
    · exact ⟨b, off, rfl, hc i hi⟩
  clear hcell hnc
  have hx := xor_ones s hs
  obtain ⟨t, ht⟩ : ∃ t : Nat, t = 4294967295 - s := ⟨_, rfl⟩
  rw [← ht] at hx
  have htl : t < 4294967296 := by omega
  have HT := Lib.hid ht
  clear ht
  go_enter Tryz.func132, Tryz.ntmps132
  go_wp2
  clear hx
  go_loop [5, 12] (fun g c => ∃ i r : Nat, i ≤ l.length ∧ r < 4294967296 ∧ Hid (r = creg t (l.take i)) ∧ g = .int .u32 (r : Int) ∧ c = .int .i64 i) (fun _ c => l.length - (intOf c).toNat)
  case atStart => exact ⟨0, t, by omega, htl, rfl, rfl, rfl⟩
  case round =>
    obtain ⟨i, r, hi, hr, hreg, rfl, rfl⟩ := hrel
    by_cases hlt : i < l.length
    · obtain ⟨b, off, rfl, hcell⟩ := HC.out i hlt
      have hy := (l.getD i 0).toNat_lt
      obtain ⟨y, hyy⟩ : ∃ y : Nat, y = (l.getD i 0).toNat := ⟨_, rfl⟩
      rw [← hyy] at hy hcell
      have HY := Lib.hid hyy
      clear hyy
      go_wp2
      go_loop [5, 7, 16] (fun g z c => ∃ k r2 m : Nat, k ≤ 8 ∧ r2 < 4294967296 ∧ m < 256 ∧ Hid (r2 = csteps k r y) ∧ Hid (m = y / 2 ^ k) ∧ g = .int .u32 (r2 : Int) ∧ z = .int .u8 (m : Int) ∧ c = .int .i64 k) (fun _ _ c => 8 - (intOf c).toNat)
      case atStart => exact ⟨0, r, y, by omega, hr, by omega, rfl, by show y = _; simp, rfl, rfl, rfl⟩
      case round =>
        obtain ⟨k, r2, m, hk, hr2, hm, hr2e, hme, rfl, rfl, rfl⟩ := hrel
        by_cases hk8 : k < 8
        · have hst := csteps_mod_step k r y m hme
          have hb2 := hst.1
          have hb := u8_and_nat m 1 hm (by decide)
          rw [nat_mask1, show ((1 : Nat) : Int) = 1 from rfl] at hb
          have hcl := cstep_lt (m % 2) hr2
          obtain ⟨q, hq⟩ : ∃ q : Nat, q = m % 2 := ⟨_, rfl⟩
          rw [← hq] at hb hb2 hst hcl
          clear hq
          go_wp2_with fail
          refine (step_any r2 q _ hr2 hb2).mono ?_
          rintro e w' ⟨rfl, rfl⟩
          clear hb
          go_wp2
          go_round
          case rel => exact ⟨k + 1, cstep r2 q, m / 2, by omega, hcl, by omega, by rw [hr2e.out]; exact (hr2e.out ▸ hst.2.1.out), hst.2.2, rfl, by go_num, by go_num⟩
          case measure => simp [intOf]; omega
        · obtain rfl : k = 8 := by omega
          go_wp2
          go_round
          case rel => exact ⟨i + 1, r2, by omega, hr2, by show _ = _; rw [creg_snoc hlt, ← HY.out, ← hreg.out]; exact hr2e.out, rfl, by go_num⟩
          case measure => simp [intOf]; omega
    · obtain rfl : i = l.length := by omega
      have hx := xor_ones r hr
      go_wp2
      go_ret
      exact ⟨ret_int (by rw [hreg.out, HT.out, List.take_length]; rfl), rfl⟩

theorem of_any (v : Value) (l : List UInt8) (w : World) (hv : IsB w v l) (hl : l.length ≤ 1099511627776) :
    Calls Tryz.prog 105 #[v] w fun e w' => e = .returned (.int .u32 (crc l : Nat)) ∧ w = w' := by
  go_enter Tryz.func105, Tryz.ntmps105
  go_wp2_with fail
  refine (more_any 0 _ l _ (by decide) hv hl).mono ?_
  rintro e w' ⟨rfl, rfl⟩
  go_wp2
  go_ret
  exact ⟨rfl, rfl⟩

/-- What Put tells, as a row of its own. -/
theorem put_okO (v : Value) (l : List UInt8) (n : Nat) (s : Nat) (w : World) (h : Sized (s : Int)) (hn : n ≤ great (s : Int)) (hv : IsB w v l) (hl : l.length ≤ 1099511627776) :
    Calls Tryz.prog 76 #[v, .int .u64 n, .int .i64 (s : Int)] w fun e w' =>
      ∃ g cap, e = .returned (.tuple #[.slice (some ⟨g, 0, none⟩) (l.length + s) cap, .nilIface]) ∧ w'.ownsRow w.heap.size 5 1 (.slice (some ⟨g, 0, none⟩) (l.length + s) cap) (l.length + s) (bvs (l ++ le n s)) ∧ w.heap.size ≤ g ∧ g < w'.heap.size ∧ Below w.heap.size w w' := by
  refine (put_ok v l n s w h hn hv hl).mono ?_
  rintro e w' ⟨v', rfl, hown, hb⟩
  rw [show (l ++ le n s).length = l.length + s from by simp [length_le]] at *
  have hs1 : 1 ≤ s := by unfold Sized at h; omega
  rcases hown.2 with ⟨_, h0⟩ | ⟨g, cap, cur, rfl, h1, h2, h3⟩
  · omega
  · exact ⟨g, cap, rfl, hown, h1, (Array.getElem?_eq_some_iff.1 h2).1, hb⟩

/-- What is sealed. -/
def sealed (l : List UInt8) : List UInt8 := l ++ le (crc l) 4
theorem length_sealed (l : List UInt8) : (sealed l).length = l.length + 4 := by simp [sealed, length_le]
theorem great_4 : great 4 = 4294967295 := rfl

theorem seal_any (v : Value) (l : List UInt8) (w : World) (hv : IsB w v l) (hl : l.length ≤ 1099511627776) :
    Calls Tryz.prog 77 #[v] w fun e w' =>
      ∃ g cap, e = .returned (.slice (some ⟨g, 0, none⟩) (l.length + 4) cap) ∧ w'.ownsRow w.heap.size 5 1 (.slice (some ⟨g, 0, none⟩) (l.length + 4) cap) (l.length + 4) (bvs (sealed l)) ∧ w.heap.size ≤ g ∧ g < w'.heap.size ∧ Below w.heap.size w w' := by
  have hc := crc_lt l
  go_enter Tryz.func77, Tryz.ntmps77
  go_wp2_with fail
  refine (of_any _ l _ hv hl).mono ?_
  rintro e w' ⟨rfl, rfl⟩
  go_wp2_with fail
  refine (put_okO _ l (crc l) 4 _ (.inr (.inr (.inl rfl))) (by rw [show ((4 : Nat) : Int) = 4 from rfl, great_4]; omega) hv hl).mono ?_
  rintro e w' ⟨g, cap, rfl, hown, hg1, hg2, hb⟩
  go_wp2
  go_ret
  exact ⟨g, cap, rfl, hown, hg1, hg2, hb⟩

set_option maxHeartbeats 400000 in
theorem clone_any (v : Value) (l : List UInt8) (w : World) (hv : IsB w v l) (hl : l.length ≤ 1099511627776) :
    Calls Tryz.prog 67 #[v] w fun e w' =>
      ∃ v', e = .returned v' ∧ w'.ownsRow w.heap.size 5 1 v' l.length (bvs l) ∧ Below w.heap.size w w' := by
  obtain ⟨i0, hi, hz0, hz1, hz2⟩ := info_parts Tryz.infoU8
  have q22 : ∀ (w : World) (a : Option Addr) (n c n' c' : Nat), (binOp .eql 33 (.slice a n c) (.slice none n' c')).run Tryz.prog w = .ok (.bool a.isNone) w := fun w a n c n' c' => Lib.run_eql_slice_nil w _ _ a n c n' c' Tryz.underlying33
  have HV := Lib.hid hv
  obtain ⟨x, cap, rfl, hlc, hcm, hnc, hcell⟩ := hv
  clear hcell
  cases x with
  | none =>
    obtain rfl := hnc rfl
    obtain rfl : l = [] := List.eq_nil_of_length_eq_zero (by omega)
    go_enter Tryz.func67, Tryz.ntmps67
    go_wp2
    go_ret
    exact ⟨_, rfl, ⟨rfl, .inl ⟨rfl, rfl⟩⟩, Below.refl _ _⟩
  | some a =>
    clear hnc
    go_enter Tryz.func67, Tryz.ntmps67
    go_wp2_with (at_builtin; refine wpList_append_B (by rfl) _ _ 33 rfl w.heap.size 5 i0 Tryz.underlying33 hi hz0 hz1 hz2 _ [] 0 rfl (World.ownsRow_lit _ #[] 0 (Nat.le_refl _) (Nat.zero_le _) rfl) rfl _ l rfl (HV.out.mono ((Below.refl _ _).alloc (Nat.le_refl _) _) (Nat.le_refl _)) (by simp; omega) (by simp) ?_; intro v4 w4 hown4 hb4)
    go_ret
    exact ⟨_, rfl, by simpa using hown4, ((Below.refl _ _).alloc (Nat.le_refl _) _).trans hb4⟩

end Go.Proofs.YtllbngopfganjaaGreatDoor.Nd
end

section
namespace Go.Proofs.YtllbngopfganjaaGreatDoor.Nd
open Go.RowKit Go.Cor

/-- A needle as a value, its data at v. -/
abbrev nval (n : Ndl) (v : Value) : Value := .agg #[.int .u64 (n.key : Int), .int .u32 (n.cookie : Int), .bool n.gone, v]
/-- A needle as it lies in memory of its own. -/
abbrev ncells (n : Ndl) (v : Value) (T : TypeId) : Obj := .cells #[.int .u64 (n.key : Int), .int .u32 (n.cookie : Int), .bool n.gone, v] T
/-- A code as an error, or none. -/
def cerr (k : Nat) : Value := if k = 0 then .nilIface else err (k : Int)
theorem cerr_0 : cerr 0 = .nilIface := rfl
theorem cerr_pos {k : Nat} (h : k ≠ 0) : cerr k = err (k : Int) := if_neg h

theorem pad_padn (n : Nat) : pad (n : Int) = ((padn n : Nat) : Int) := by
  rw [pad_pos (by omega)]
  unfold padn
  omega
/-- The size of so much data. -/
def nsize (d : Int) : Int := if d < 0 ∨ 4096 < d then 0 else 32 + d + pad d
theorem nsize_nat {d : Nat} (h : d ≤ 4096) : nsize (d : Int) = ((32 + d + padn d : Nat) : Int) := by
  unfold nsize
  rw [if_neg (by omega), pad_padn]
  omega

theorem size_out (d : Int) (w : World) (h : d < 0 ∨ 4096 < d) :
    Calls Tryz.prog 120 #[.int .i64 d] w fun e w' => e = .returned (.int .i64 0) ∧ w = w' := by
  by_cases h1 : d < 0
  · go_enter Tryz.func120, Tryz.ntmps120
    go_wp2
    go_ret
    exact ⟨rfl, rfl⟩
  · have h2 : 4096 < d := by omega
    have h3 : 0 ≤ d := by omega
    clear h
    go_enter Tryz.func120, Tryz.ntmps120
    go_wp2
    go_ret
    exact ⟨rfl, rfl⟩

theorem size_any (d : Int) (w : World) (b1 : -9223372036854775808 ≤ d) (b2 : d ≤ 9223372036854775807) :
    Calls Tryz.prog 120 #[.int .i64 d] w fun e w' => e = .returned (.int .i64 (nsize d)) ∧ w = w' := by
  by_cases h : d < 0 ∨ 4096 < d
  · rw [nsize, if_pos h]
    exact size_out d w h
  · have h1 : 0 ≤ d := by omega
    have h2 : d ≤ 4096 := by omega
    have hp := pad_range d
    have hp1 := hp.1
    have hp2 := hp.2
    rw [nsize, if_neg h]
    clear hp h
    go_enter Tryz.func120, Tryz.ntmps120
    go_wp2_with fail
    refine (pad_any d _ b1 b2).mono ?_
    rintro e w' ⟨rfl, rfl⟩
    go_wp2
    go_ret
    exact ⟨rfl, rfl⟩

theorem num_any (n s : Nat) (w : World) (h : Sized (s : Int)) (hn : n ≤ great (s : Int)) :
    Calls Tryz.prog 140 #[.int .u64 n, .int .i64 (s : Int)] w fun e w' =>
      ∃ v', e = .returned v' ∧ w'.ownsRow w.heap.size 5 1 v' s (bvs (le n s)) ∧ Below w.heap.size w w' := by
  go_enter Tryz.func140, Tryz.ntmps140
  go_wp2_with fail
  refine (put_ok _ [] n s _ h hn (IsB.nil _) (by simp)).mono ?_
  rintro e w' ⟨v', rfl, hown, hb⟩
  rw [List.nil_append, length_le] at hown
  go_wp2
  go_ret
  exact ⟨_, rfl, hown, hb⟩

theorem at_any (v : Value) (l : List UInt8) (a s : Nat) (w : World) (hs : Sized (s : Int)) (hv : IsB w v l) (hl : l.length ≤ 1099511627776) (h : a + s ≤ l.length) :
    Calls Tryz.prog 122 #[v, .int .i64 a, .int .i64 s] w fun e w' => e = .returned (.int .u64 (fld l a s : Nat)) ∧ w = w' := by
  go_enter Tryz.func122, Tryz.ntmps122
  go_wp2_with fail
  refine (get_ok _ l a s _ hs hv hl h).mono ?_
  rintro e w' ⟨rfl, rfl⟩
  go_wp2
  go_ret
  exact ⟨rfl, rfl⟩

theorem sumOf_any (v1 v2 : Value) (l m : List UInt8) (w : World) (h1 : IsB w v1 l) (h2 : IsB w v2 m) (hl : l.length ≤ 1099511627776) (hm : m.length ≤ 1099511627776) :
    Calls Tryz.prog 123 #[v1, v2] w fun e w' => e = .returned (.int .u32 (crc (l ++ m) : Nat)) ∧ w = w' := by
  rw [crc_append]
  have hc := crc_lt l
  go_enter Tryz.func123, Tryz.ntmps123
  go_wp2_with fail
  refine (of_any _ l _ h1 hl).mono ?_
  rintro e w' ⟨rfl, rfl⟩
  go_wp2_with fail
  refine (more_any _ _ m _ hc h2 hm).mono ?_
  rintro e w' ⟨rfl, rfl⟩
  go_wp2
  go_ret
  exact ⟨rfl, rfl⟩

/-- Bytes as a string. -/
theorem conv_B {P : Program} {w : World} {v : Value} {l : List UInt8} (hv : IsB w v l) (src dst e : TypeId) (hs : P.underlying src = some (.slice e)) (he : P.underlying e = some (.int .u8)) (hd : P.underlying dst = some .string) :
    (convert src dst v).run P w = .ok (.string ⟨l.toArray⟩) w := by
  obtain ⟨a, cap, rfl, _, _, _, hcell⟩ := hv
  rcases hcell with h0 | ⟨b, off, rfl, hc⟩
  · obtain rfl : l = [] := List.eq_nil_of_length_eq_zero h0
    rw [run_convert_bytes_string w src dst e _ _ _ hs he hd]
    cases a <;> simp [Conv.bytesToString, loadCells]
    all_goals rfl
  · have h := run_convert_bytes_arg (P := P) w src e hs he b off l.length cap (l.map fun x => (x.toNat : Int)) (by simp) (fun i hi => by
      rw [hc i hi]
      simp [List.getD, List.getElem?_map, List.getElem?_eq_getElem hi]) dst hd
    rw [h]
    congr 2
    apply ByteArray.ext
    apply Array.toList_inj.1
    rw [strOfNums_data, List.map_map]
    show _ = l
    conv => rhs; rw [← List.map_id l]
    apply List.map_congr_left
    intro x _
    simp

theorem equal_any (v1 v2 : Value) (l m : List UInt8) (w : World) (h1 : IsB w v1 l) (h2 : IsB w v2 m) :
    Calls Tryz.prog 51 #[v1, v2] w fun e w' => e = .returned (.bool (sameB l m)) ∧ w = w' := by
  have c1 := conv_B (P := Tryz.prog) h1 33 9 5 Tryz.underlying33 Tryz.underlying5 Tryz.underlying9
  have c2 := conv_B (P := Tryz.prog) h2 33 9 5 Tryz.underlying33 Tryz.underlying5 Tryz.underlying9
  go_enter Tryz.func51, Tryz.ntmps51
  go_wp2
  go_ret
  exact ⟨ret_bool (by rw [Bool.eq_iff_iff]; simp [sameB]), rfl⟩

theorem check_any (n : Ndl) (v : Value) (w : World) (hv : IsB w v n.data) :
    Calls Tryz.prog 42 #[nval n v] w fun e w' => e = .returned (cerr (ncheck n)) ∧ Below w.heap.size w w' := by
  obtain ⟨k, c, g, l⟩ := n
  obtain ⟨d, hd⟩ : ∃ d : Nat, l.length = d := ⟨_, rfl⟩
  obtain ⟨x, cap, rfl, hlc, hcm⟩ := hv.at_len hd
  unfold maxLen at hcm
  have HR : Hid (ncheck ⟨k, c, g, l⟩ = if 4096 < d then 2 else if g = true ∧ 0 < d then 1 else 0) := by
    show ncheck ⟨k, c, g, l⟩ = _
    unfold ncheck
    rw [hd]
  clear hv hd
  by_cases h1 : 4096 < d
  · go_enter Tryz.func42, Tryz.ntmps42
    go_wp2
    go_ret
    exact ⟨by rw [HR.out, if_pos h1]; rfl, (Below.refl _ _).alloc (Nat.le_refl _) _⟩
  · cases g with
    | false =>
      go_enter Tryz.func42, Tryz.ntmps42
      go_wp2
      go_ret
      exact ⟨by rw [HR.out, if_neg h1]; rfl, (Below.refl _ _).alloc (Nat.le_refl _) _⟩
    | true =>
      by_cases h2 : 0 < d
      · go_enter Tryz.func42, Tryz.ntmps42
        go_wp2
        go_ret
        exact ⟨by rw [HR.out, if_neg h1, if_pos ⟨trivial, h2⟩]; rfl, (Below.refl _ _).alloc (Nat.le_refl _) _⟩
      · go_enter Tryz.func42, Tryz.ntmps42
        go_wp2
        go_ret
        exact ⟨by rw [HR.out, if_neg h1, if_neg (fun h => h2 h.2)]; rfl, (Below.refl _ _).alloc (Nat.le_refl _) _⟩

/-- A needle in a box of its own. -/
def Boxed (w : World) (g : Nat) (n : Ndl) (v : Value) : Prop :=
  w.cell? ⟨g, 0, none⟩ = some (.int .u64 (n.key : Int)) ∧ w.cell? ⟨g, 1, none⟩ = some (.int .u32 (n.cookie : Int)) ∧ w.cell? ⟨g, 2, none⟩ = some (.bool n.gone) ∧ w.cell? ⟨g, 3, none⟩ = some v
theorem Boxed.new (w : World) (n : Ndl) (v : Value) (T : TypeId) : Boxed (w.alloc (ncells n v T)) w.heap.size n v := by
  refine ⟨?_, ?_, ?_, ?_⟩ <;> go_simp
theorem Boxed.mono {w w' : World} {g B : Nat} {n : Ndl} {v : Value} (h : Boxed w g n v) (hb : Below B w w') (hg : g < B) : Boxed w' g n v :=
  ⟨(hb.cell hg).trans h.1, (hb.cell hg).trans h.2.1, (hb.cell hg).trans h.2.2.1, (hb.cell hg).trans h.2.2.2⟩

theorem sameN_key {a b : Ndl} (h : a.key ≠ b.key) : sameN a b = false := by unfold sameN; exact decide_eq_false fun e => h e.1
theorem sameN_cookie {a b : Ndl} (h : a.cookie ≠ b.cookie) : sameN a b = false := by unfold sameN; exact decide_eq_false fun e => h e.2.1
theorem sameN_gone {a b : Ndl} (h : a.gone ≠ b.gone) : sameN a b = false := by unfold sameN; exact decide_eq_false fun e => h e.2.2.1
theorem sameN_data {k c : Nat} {g : Bool} {l m : List UInt8} : sameN ⟨k, c, g, l⟩ ⟨k, c, g, m⟩ = sameB l m := by
  rw [Bool.eq_iff_iff]
  simp [sameN, sameB]

set_option maxHeartbeats 400000 in
theorem nsame_any (a b : Ndl) (va vb : Value) (w : World) (ha : IsB w va a.data) (hb : IsB w vb b.data) :
    Calls Tryz.prog 30 #[nval a va, nval b vb] w fun e w' => e = .returned (.bool (sameN a b)) ∧ Below w.heap.size w w' := by
  obtain ⟨k1, c1, g1, l⟩ := a
  obtain ⟨k2, c2, g2, m⟩ := b
  by_cases hk : k1 = k2
  · subst hk
    by_cases hc : c1 = c2
    · subst hc
      by_cases hg : g1 = g2
      · subst hg
        rw [sameN_data]
        have HA := Lib.hid ha
        have HB := Lib.hid hb
        clear ha hb
        go_enter Tryz.func30, Tryz.ntmps30
        go_wp2_with fail
        refine (equal_any _ _ l m _ ?_ ?_).mono ?_
        · exact (HA.out.mono ((Below.refl _ _).alloc (Nat.le_refl _) _) (Nat.le_refl _)).mono ((Below.refl _ _).alloc (Nat.le_refl _) _) (Nat.le_refl _)
        · exact (HB.out.mono ((Below.refl _ _).alloc (Nat.le_refl _) _) (Nat.le_refl _)).mono ((Below.refl _ _).alloc (Nat.le_refl _) _) (Nat.le_refl _)
        rintro e w' ⟨rfl, rfl⟩
        go_wp2
        go_ret
        exact ⟨rfl, ((Below.refl _ _).alloc (Nat.le_refl _) _).alloc (by simp) _⟩
      · rw [sameN_gone hg]
        have hgb : (g1 == g2) = false := by simpa using hg
        clear hg
        go_enter Tryz.func30, Tryz.ntmps30
        go_wp2
        go_ret
        exact ⟨rfl, ((Below.refl _ _).alloc (Nat.le_refl _) _).alloc (by simp) _⟩
    · rw [sameN_cookie hc]
      have hcb : ((c1 : Int) == (c2 : Int)) = false := by rw [beq_eq_false_iff_ne]; omega
      clear hc
      go_enter Tryz.func30, Tryz.ntmps30
      go_wp2
      go_ret
      exact ⟨rfl, ((Below.refl _ _).alloc (Nat.le_refl _) _).alloc (by simp) _⟩
  · rw [sameN_key hk]
    have hkb : ((k1 : Int) == (k2 : Int)) = false := by rw [beq_eq_false_iff_ne]; omega
    clear hk
    go_enter Tryz.func30, Tryz.ntmps30
    go_wp2
    go_ret
    exact ⟨rfl, ((Below.refl _ _).alloc (Nat.le_refl _) _).alloc (by simp) _⟩

end Go.Proofs.YtllbngopfganjaaGreatDoor.Nd
end

section
namespace Go.Cor
open Go.RowKit

theorem zeroCells_u8 (m : Nat) : Builtin.zeroCells #[.int .u8 0] m = (bvs (zerosN m)).toArray := by
  apply Array.ext
  · simp [Builtin.zeroCells, zerosN]
  · intro i h1 h2
    simp [Builtin.zeroCells, bvs, zerosN, Nat.mod_one]

theorem run_append_zeros {P : Program} (w : World) (base : Nat) (T N U ty : TypeId) (i : TypeInfo) (ht : P.underlying T = some (.slice U)) (hN : P.underlying N = some (.int .i64)) (hi : P.info? U = some i) (hz : i.zero = some (.int .u8 0)) (hsize : i.size = 1) (hby : i.bytes = 1)
    (v : Value) (xs : List UInt8) (n : Nat) (hn : n = xs.length) (hown : w.ownsRow base U 1 v n (bvs xs)) (m : Nat) (hlen : xs.length + m ≤ 1099511627776) (hbase : base ≤ w.heap.size) :
    ∃ v' w', (Builtin.append_ #[T, N] ty #[v, .int .i64 (m : Int)]).run P w = .ok v' w' ∧ w'.ownsRow base U 1 v' (xs ++ zerosN m).length (bvs (xs ++ zerosN m)) ∧ w.grownBy w' v.ownBlock := by
  subst hn
  have has : (asInt (.int .i64 (m : Int))).run P w = .ok (m : Int) w := rfl
  have hw0 : IntKind.i64.wrap 0 = 0 := by decide
  have has0 : (asInt (.int .i64 0)).run P w = .ok 0 w := rfl
  have hwrap : IntKind.i64.wrap (m : Int) = (m : Int) := IntWalk.i64_in _ (by omega)
  have hneg : ¬ ((m : Int) < 0) := by omega
  have hbig : ¬ (281474976710656 < (m : Int)) := by omega
  have hz1 : (Value.int IntKind.u8 0).cells = #[.int .u8 0] := rfl
  have hl2 : (bvs (zerosN m)).length = m := by simp [zerosN]
  have hone := bvs_one (zerosN m)
  have hlen2 : (bvs (xs ++ zerosN m)).length = (xs ++ zerosN m).length * 1 := by simp
  have hll : (xs ++ zerosN m).length = xs.length + m := by simp [zerosN]
  by_cases hm : m = 0
  · subst hm
    have e0 : zerosN 0 = [] := rfl
    rw [e0, List.append_nil]
    refine ⟨v, w, ?_, hown, ⟨rfl, rfl, rfl, Nat.le_refl _, fun _ _ _ => rfl⟩⟩
    rcases hown.2 with ⟨rfl, h0⟩ | ⟨g, cap, cur, rfl, hbg, hg, hnc, hcm, hcs, htake⟩
    · simp [Builtin.append_, run_underlying ht, run_underlying hN, sizeOf, typeInfo, hi, has0, hw0]
    · simp [Builtin.append_, run_underlying ht, run_underlying hN, sizeOf, typeInfo, hi, hsize, hnc, storeCells, has0, hw0]
  · have hm0 : m * 1 ≠ 0 := by omega
    have grown : ∀ (old : Nat), ∀ (row : Option Nat),
        (w.drew.alloc (.cells ((bvs xs).toArray ++ (bvs (zerosN m)).toArray ++ Builtin.zeroCells #[.int .u8 0] (grownCap w (xs.length + m) old U - (xs.length + m))) U)).ownsRow base U 1
          (.slice (some ⟨w.heap.size, 0, none⟩) (xs.length + m) (grownCap w (xs.length + m) old U)) (xs.length + m) (bvs (xs ++ zerosN m)) ∧
        w.grownBy (w.drew.alloc (.cells ((bvs xs).toArray ++ (bvs (zerosN m)).toArray ++ Builtin.zeroCells #[.int .u8 0] (grownCap w (xs.length + m) old U - (xs.length + m))) U)) row := by
      intro old row
      have hge := grownCap_ge w (xs.length + m) old U
      have hcm : grownCap w (xs.length + m) old U ≤ maxLen := grownCap_le_maxLen w (xs.length + m) old U (by unfold maxLen; omega)
      refine ⟨⟨by rw [hlen2, hll], .inr ⟨w.heap.size, _, _, rfl, hbase, heap_alloc_new w.drew _, hge, hcm, ?_, ?_⟩⟩, ⟨rfl, rfl, rfl, by simp, fun k hk _ => heap_alloc_old w.drew _ hk⟩⟩
      · simp only [Array.size_append, List.size_toArray, size_zeroCells, length_bvs, hl2]
        simp
        omega
      · simp only [Array.toList_append, List.append_assoc]
        rw [← List.append_assoc, ← bvs_append]
        exact List.take_left' (by rw [length_bvs, hll, Nat.mul_one])
    rw [hll]
    rcases hown.2 with ⟨rfl, h0⟩ | ⟨g, cap, cur, rfl, hbg, hg, hnc, hcm, hcs, htake⟩
    · obtain rfl : xs = [] := List.eq_nil_of_length_eq_zero h0
      have h63 : ¬ (9223372036854775807 < (m : Int)) := by omega
      have h48 : ¬ (281474976710656 < Builtin.nextslicecap m 0) := by rw [nextslicecap_zero (by omega)]; omega
      have hgr := grown 0 (Value.ownBlock (.slice none 0 0))
      simp only [List.length_nil, Nat.zero_add] at hgr ⊢
      refine ⟨_, _, ?_, hgr.1, hgr.2⟩
      simp [Builtin.append_, run_underlying ht, run_underlying hN, sizeOf, typeInfo, zeroValue, hi, hz, hsize, hby, has, hwrap, hneg, hbig, hm, h63, h48, Question.forced, run_firstCells_none, newRow, grownCap, hz1, zeroCells_u8, bvs_nil]
    · by_cases hroom : xs.length + m ≤ cap
      · have hst := run_storeCells_at P g (xs.length * 1) U (bvs (zerosN m)) 0 cur w hg (by rw [hl2, hcs]; omega) hone
        simp only [Nat.add_zero] at hst
        refine ⟨.slice (some ⟨g, 0, none⟩) (xs.length + m) cap, w.setRow g (cur.toList.take (xs.length * 1) ++ bvs (zerosN m) ++ cur.toList.drop (xs.length * 1 + (bvs (zerosN m)).length)).toArray, ?_, ?_, ?_⟩
        · simp only [Nat.mul_one] at hst ⊢
          simp [Builtin.append_, run_underlying ht, run_underlying hN, sizeOf, typeInfo, zeroValue, hi, hz, hsize, hby, has, hwrap, hneg, hbig, hm, hroom, Addr.add_lit, hz1, zeroCells_u8]
          rw [hst]
          simp
        · refine ⟨by rw [hlen2, hll], .inr ⟨g, cap, _, rfl, hbg, setRow_heap w g cur _ U _ hg, hroom, hcm, ?_, ?_⟩⟩
          · simp only [List.size_toArray, List.length_append, List.length_take, List.length_drop, Array.length_toList, hl2]
            omega
          · rw [htake, bvs_append]
            exact List.take_left' (by rw [List.length_append, length_bvs, hl2, Nat.mul_one])
        · exact ⟨rfl, rfl, rfl, by simp, fun k _ hk => setRow_other w g k _ (fun e => hk (by simp [Value.ownBlock, e]))⟩
      · have holds : ∀ j u, (bvs xs)[j]? = some u → w.cell? ((⟨g, 0, none⟩ : Addr).add j) = some u := hown.cells (g := g) rfl
        have h63 : ¬ (9223372036854775807 < ((xs.length : Int) + (m : Int))) := by omega
        have h48 : ¬ (281474976710656 < Builtin.nextslicecap (xs.length + m) cap) := by
          have h := growslice_fits (need := xs.length + m) (old := cap) (bytes := 1) (by omega) (by omega)
          omega
        have hfo := run_firstCells_some (P := P) w.drew 1 xs.length ⟨g, 0, none⟩ xs.length cap (bvs xs) (by simp) (by simpa using holds)
        have hgr := grown cap (Value.ownBlock (.slice (some ⟨g, 0, none⟩) xs.length cap))
        refine ⟨_, _, ?_, hgr.1, hgr.2⟩
        simp [Builtin.append_, run_underlying ht, run_underlying hN, sizeOf, typeInfo, zeroValue, hi, hz, hsize, hby, has, hwrap, hneg, hbig, hm, hroom, h63, h48, Question.forced, hfo, newRow, grownCap, hz1, zeroCells_u8]

theorem wpList_append_zeros {P : Program} {w : World} {ops : Array Oper} {rest : List Oper} {o : Oper} {a : Act} {Q : Exit → Act → World → Prop} (hw : Region.wanted o (yielded ops a.tmps) = true) (s x : Operand) (T N : TypeId)
    (ho : o.op = .call { callee := .builtin .append, args := #[s, x], argTypes := #[T, N] })
    (base : Nat) (U : TypeId) (i : TypeInfo) (ht : P.underlying T = some (.slice U)) (hN : P.underlying N = some (.int .i64)) (hi : P.info? U = some i) (hz : i.zero = some (.int .u8 0)) (hsize : i.size = 1) (hby : i.bytes = 1)
    (v : Value) (xs : List UInt8) (n : Nat) (hs : a.eval s = v) (hown : w.ownsRow base U 1 v n (bvs xs)) (hn : n = xs.length) (m : Nat) (hx : a.eval x = .int .i64 (m : Int)) (hlen : xs.length + m ≤ 1099511627776) (hbase : base ≤ w.heap.size)
    (h : ∀ v' w', w'.ownsRow base U 1 v' (xs ++ zerosN m).length (bvs (xs ++ zerosN m)) → Below base w w' → wpList P ops Q rest (a.put o.dst v') w') : wpList P ops Q (o :: rest) a w := by
  refine BigFrame.wpList_want hw fun K hK => ?_
  obtain ⟨v', w', hr, h2, h3⟩ := run_append_zeros (P := P) w base T N U o.type i ht hN hi hz hsize hby v xs n hn hown m hlen hbase
  unfold Oper.wp execOp
  simp only [ho, resolve, invoke, builtin, Sem.run_bind, Sem.run_pure, Result.andThen_ok, List.map_toArray, List.map_cons, List.map_nil, hs, hx, hr]
  exact hK _ _ (h v' w' h2 ((Below.refl _ _).grown h3 hbase fun j hj => (hown.lt j hj).1))

end Go.Cor
end

section
namespace Go.Proofs.YtllbngopfganjaaGreatDoor.Nd
open Go.RowKit Go.Cor

theorem flag_great (g : Bool) : flagN g ≤ great ((4 : Nat) : Int) := by cases g <;> decide
theorem front_of {k c d : Nat} {g : Bool} {l : List UInt8} (h : l.length = d) : front ⟨k, c, g, l⟩ = le 1313162572 4 ++ le (flagN g) 4 ++ le k 8 ++ le c 4 ++ le d 4 := by
  unfold front
  rw [h]
theorem front_fin {w : World} {B : Nat} {U : TypeId} {v : Value} {F : List UInt8} {k c d f : Nat} (e : F = le 1313162572 4 ++ le f 4 ++ le k 8 ++ le c 4 ++ le d 4)
    (h : w.ownsRow (B + 1) U 1 v ((le 1313162572 4).length + ((le f 4).length + ((le k 8).length + ((le c 4).length + (le d 4).length)))) (bvs (le 1313162572 4 ++ (le f 4 ++ (le k 8 ++ (le c 4 ++ le d 4)))))) :
    w.ownsRow B U 1 v 24 (bvs F) := by
  have h' := ownsRow_base h (Nat.le_succ B)
  simp only [length_le] at h'
  rw [e]
  simpa only [List.append_assoc] using h'

set_option maxHeartbeats 1000000 in
theorem summed_any (n : Ndl) (v : Value) (w : World) (hv : IsB w v n.data) (hf : n.fits) (hd : n.data.length ≤ 4096) :
    Calls Tryz.prog 139 #[nval n v] w fun e w' => ∃ v', e = .returned v' ∧ w'.ownsRow w.heap.size 5 1 v' 24 (bvs (front n)) ∧ Below w.heap.size w w' := by
  obtain ⟨i0, hi, hz0, hz1, hz2⟩ := info_parts Tryz.infoU8
  obtain ⟨k, c, g, l⟩ := n
  obtain ⟨hk, hc⟩ := hf
  obtain ⟨d, hl⟩ : ∃ d : Nat, l.length = d := ⟨_, rfl⟩
  obtain ⟨x, cap, rfl, hlc, hcm⟩ := hv.at_len hl
  have HF := Lib.hid (front_of (k := k) (c := c) (g := g) hl)
  have hd' : d ≤ 4096 := by rw [← hl]; exact hd
  have HK8 := Lib.hid (show k ≤ great ((8 : Nat) : Int) from Nat.le_of_lt_succ hk)
  have HC4 := Lib.hid (show c ≤ great ((4 : Nat) : Int) from Nat.le_of_lt_succ hc)
  have HD4 := Lib.hid (show d ≤ great ((4 : Nat) : Int) from Nat.le_trans hd' (by decide))
  have HG := Lib.hid (flag_great g)
  have hc' : c < 4294967296 := hc
  clear hv hl hd hk hc
  cases g
  · go_enter Tryz.func139, Tryz.ntmps139
    go_wp2_with fail
    refine (num_any 1313162572 4 _ (.inr (.inr (.inl rfl))) (by decide)).mono ?_
    rintro e w1 ⟨v1, rfl, hown1, hb1⟩
    have hs1 : w.heap.size + 1 ≤ w1.heap.size := Nat.le_trans (by simp) hb1.size
    have HX1 := Lib.hid ((Boxed.new w _ _ 43).mono hb1 (by simp) : Boxed w1 w.heap.size ⟨k, c, false, l⟩ (.slice x d cap))
    have HB1 := Lib.hid ((((Below.refl w.heap.size w).alloc (Nat.le_refl _) _).trans (hb1.mono (by simp))) : Below w.heap.size w w1)
    have HO1 := Lib.hid (ownsRow_base hown1 (show w.heap.size + 1 ≤ _ from by simp))
    clear hown1 hb1
    go_wp2_with fail
    refine (num_any (flagN false) 4 _ (.inr (.inr (.inl rfl))) HG.out).mono ?_
    rintro e w2 ⟨v2, rfl, hown2, hb2⟩
    have hs2 : w.heap.size + 1 ≤ w2.heap.size := Nat.le_trans hs1 hb2.size
    have HX2 := Lib.hid (HX1.out.mono hb2 hs1)
    have HB2 := Lib.hid (HB1.out.trans (hb2.mono (Nat.le_of_succ_le hs1)))
    have HO2 := Lib.hid (ownsRow_below HO1.out hb2 (Nat.le_refl _))
    have HN := Lib.hid (IsB.own hown2 (length_le _ _).symm)
    clear hown2 hb2 HX1 HO1 HB1 hs1
    go_wp2_with (at_builtin; refine wpList_append_B (by rfl) _ _ 33 rfl (w.heap.size + 1) 5 i0 Tryz.underlying33 hi hz0 hz1 hz2 _ (le 1313162572 4) _ rfl HO2.out ((length_le _ _).symm) _ (le (flagN false) 4) rfl (HN.out) (by simp [length_le]) hs2 ?_)
    intro v3 w3 hown3 hb3
    have hs3 : w.heap.size + 1 ≤ w3.heap.size := Nat.le_trans hs2 hb3.size
    have HX3 := Lib.hid (HX2.out.mono hb3 (Nat.lt_succ_self _))
    have HB3 := Lib.hid (HB2.out.trans (hb3.mono (Nat.le_succ _)))
    have HO3 := Lib.hid hown3
    clear hown3 hb3 HX2 HO2 HB2 hs2
    obtain ⟨q0, q1, q2, q3⟩ := HX3.out
    go_wp2_with fail
    refine (num_any k 8 _ (.inr (.inr (.inr rfl))) HK8.out).mono ?_
    rintro e w4 ⟨v4, rfl, hown4, hb4⟩
    have hs4 : w.heap.size + 1 ≤ w4.heap.size := Nat.le_trans hs3 hb4.size
    have HX4 := Lib.hid (HX3.out.mono hb4 hs3)
    have HB4 := Lib.hid (HB3.out.trans (hb4.mono (Nat.le_of_succ_le hs3)))
    have HO4 := Lib.hid (ownsRow_below HO3.out hb4 (Nat.le_refl _))
    have HN := Lib.hid (IsB.own hown4 (length_le _ _).symm)
    clear hown4 hb4 HX3 HO3 HB3 hs3
    clear q0 q1 q2 q3
    go_wp2_with (at_builtin; refine wpList_append_B (by rfl) _ _ 33 rfl (w.heap.size + 1) 5 i0 Tryz.underlying33 hi hz0 hz1 hz2 _ ((le 1313162572 4) ++ (le (flagN false) 4)) _ rfl HO4.out (rfl) _ (le k 8) rfl (HN.out) (by simp [length_le]) hs4 ?_)
    intro v5 w5 hown5 hb5
    have hs5 : w.heap.size + 1 ≤ w5.heap.size := Nat.le_trans hs4 hb5.size
    have HX5 := Lib.hid (HX4.out.mono hb5 (Nat.lt_succ_self _))
    have HB5 := Lib.hid (HB4.out.trans (hb5.mono (Nat.le_succ _)))
    have HO5 := Lib.hid hown5
    clear hown5 hb5 HX4 HO4 HB4 hs4
    obtain ⟨q0, q1, q2, q3⟩ := HX5.out
    go_wp2_with fail
    refine (num_any c 4 _ (.inr (.inr (.inl rfl))) HC4.out).mono ?_
    rintro e w6 ⟨v6, rfl, hown6, hb6⟩
    have hs6 : w.heap.size + 1 ≤ w6.heap.size := Nat.le_trans hs5 hb6.size
    have HX6 := Lib.hid (HX5.out.mono hb6 hs5)
    have HB6 := Lib.hid (HB5.out.trans (hb6.mono (Nat.le_of_succ_le hs5)))
    have HO6 := Lib.hid (ownsRow_below HO5.out hb6 (Nat.le_refl _))
    have HN := Lib.hid (IsB.own hown6 (length_le _ _).symm)
    clear hown6 hb6 HX5 HO5 HB5 hs5
    clear q0 q1 q2 q3
    go_wp2_with (at_builtin; refine wpList_append_B (by rfl) _ _ 33 rfl (w.heap.size + 1) 5 i0 Tryz.underlying33 hi hz0 hz1 hz2 _ (((le 1313162572 4) ++ (le (flagN false) 4)) ++ (le k 8)) _ rfl HO6.out (rfl) _ (le c 4) rfl (HN.out) (by simp [length_le]) hs6 ?_)
    intro v7 w7 hown7 hb7
    have hs7 : w.heap.size + 1 ≤ w7.heap.size := Nat.le_trans hs6 hb7.size
    have HX7 := Lib.hid (HX6.out.mono hb7 (Nat.lt_succ_self _))
    have HB7 := Lib.hid (HB6.out.trans (hb7.mono (Nat.le_succ _)))
    have HO7 := Lib.hid hown7
    clear hown7 hb7 HX6 HO6 HB6 hs6
    obtain ⟨q0, q1, q2, q3⟩ := HX7.out
    go_wp2_with fail
    refine (num_any d 4 _ (.inr (.inr (.inl rfl))) HD4.out).mono ?_
    rintro e w8 ⟨v8, rfl, hown8, hb8⟩
    have hs8 : w.heap.size + 1 ≤ w8.heap.size := Nat.le_trans hs7 hb8.size
    have HX8 := Lib.hid (HX7.out.mono hb8 hs7)
    have HB8 := Lib.hid (HB7.out.trans (hb8.mono (Nat.le_of_succ_le hs7)))
    have HO8 := Lib.hid (ownsRow_below HO7.out hb8 (Nat.le_refl _))
    have HN := Lib.hid (IsB.own hown8 (length_le _ _).symm)
    clear hown8 hb8 HX7 HO7 HB7 hs7
    clear q0 q1 q2 q3
    go_wp2_with (at_builtin; refine wpList_append_B (by rfl) _ _ 33 rfl (w.heap.size + 1) 5 i0 Tryz.underlying33 hi hz0 hz1 hz2 _ ((((le 1313162572 4) ++ (le (flagN false) 4)) ++ (le k 8)) ++ (le c 4)) _ rfl HO8.out (rfl) _ (le d 4) rfl (HN.out) (by simp [length_le]) hs8 ?_)
    intro v9 w9 hown9 hb9
    have hs9 : w.heap.size + 1 ≤ w9.heap.size := Nat.le_trans hs8 hb9.size
    have HX9 := Lib.hid (HX8.out.mono hb9 (Nat.lt_succ_self _))
    have HB9 := Lib.hid (HB8.out.trans (hb9.mono (Nat.le_succ _)))
    have HO9 := Lib.hid hown9
    clear hown9 hb9 HX8 HO8 HB8 hs8
    go_wp2
    go_ret
    exact ⟨_, rfl, front_fin HF.out HO9.out, HB9.out⟩
  · go_enter Tryz.func139, Tryz.ntmps139
    go_wp2_with fail
    refine (num_any 1313162572 4 _ (.inr (.inr (.inl rfl))) (by decide)).mono ?_
    rintro e w1 ⟨v1, rfl, hown1, hb1⟩
    have hs1 : w.heap.size + 1 ≤ w1.heap.size := Nat.le_trans (by simp) hb1.size
    have HX1 := Lib.hid ((Boxed.new w _ _ 43).mono hb1 (by simp) : Boxed w1 w.heap.size ⟨k, c, true, l⟩ (.slice x d cap))
    have HB1 := Lib.hid ((((Below.refl w.heap.size w).alloc (Nat.le_refl _) _).trans (hb1.mono (by simp))) : Below w.heap.size w w1)
    have HO1 := Lib.hid (ownsRow_base hown1 (show w.heap.size + 1 ≤ _ from by simp))
    clear hown1 hb1
    go_wp2_with fail
    refine (num_any (flagN true) 4 _ (.inr (.inr (.inl rfl))) HG.out).mono ?_
    rintro e w2 ⟨v2, rfl, hown2, hb2⟩
    have hs2 : w.heap.size + 1 ≤ w2.heap.size := Nat.le_trans hs1 hb2.size
    have HX2 := Lib.hid (HX1.out.mono hb2 hs1)
    have HB2 := Lib.hid (HB1.out.trans (hb2.mono (Nat.le_of_succ_le hs1)))
    have HO2 := Lib.hid (ownsRow_below HO1.out hb2 (Nat.le_refl _))
    have HN := Lib.hid (IsB.own hown2 (length_le _ _).symm)
    clear hown2 hb2 HX1 HO1 HB1 hs1
    go_wp2_with (at_builtin; refine wpList_append_B (by rfl) _ _ 33 rfl (w.heap.size + 1) 5 i0 Tryz.underlying33 hi hz0 hz1 hz2 _ (le 1313162572 4) _ rfl HO2.out ((length_le _ _).symm) _ (le (flagN true) 4) rfl (HN.out) (by simp [length_le]) hs2 ?_)
    intro v3 w3 hown3 hb3
    have hs3 : w.heap.size + 1 ≤ w3.heap.size := Nat.le_trans hs2 hb3.size
    have HX3 := Lib.hid (HX2.out.mono hb3 (Nat.lt_succ_self _))
    have HB3 := Lib.hid (HB2.out.trans (hb3.mono (Nat.le_succ _)))
    have HO3 := Lib.hid hown3
    clear hown3 hb3 HX2 HO2 HB2 hs2
    obtain ⟨q0, q1, q2, q3⟩ := HX3.out
    go_wp2_with fail
    refine (num_any k 8 _ (.inr (.inr (.inr rfl))) HK8.out).mono ?_
    rintro e w4 ⟨v4, rfl, hown4, hb4⟩
    have hs4 : w.heap.size + 1 ≤ w4.heap.size := Nat.le_trans hs3 hb4.size
    have HX4 := Lib.hid (HX3.out.mono hb4 hs3)
    have HB4 := Lib.hid (HB3.out.trans (hb4.mono (Nat.le_of_succ_le hs3)))
    have HO4 := Lib.hid (ownsRow_below HO3.out hb4 (Nat.le_refl _))
    have HN := Lib.hid (IsB.own hown4 (length_le _ _).symm)
    clear hown4 hb4 HX3 HO3 HB3 hs3
    clear q0 q1 q2 q3
    go_wp2_with (at_builtin; refine wpList_append_B (by rfl) _ _ 33 rfl (w.heap.size + 1) 5 i0 Tryz.underlying33 hi hz0 hz1 hz2 _ ((le 1313162572 4) ++ (le (flagN true) 4)) _ rfl HO4.out (rfl) _ (le k 8) rfl (HN.out) (by simp [length_le]) hs4 ?_)
    intro v5 w5 hown5 hb5
    have hs5 : w.heap.size + 1 ≤ w5.heap.size := Nat.le_trans hs4 hb5.size
    have HX5 := Lib.hid (HX4.out.mono hb5 (Nat.lt_succ_self _))
    have HB5 := Lib.hid (HB4.out.trans (hb5.mono (Nat.le_succ _)))
    have HO5 := Lib.hid hown5
    clear hown5 hb5 HX4 HO4 HB4 hs4
    obtain ⟨q0, q1, q2, q3⟩ := HX5.out
    go_wp2_with fail
    refine (num_any c 4 _ (.inr (.inr (.inl rfl))) HC4.out).mono ?_
    rintro e w6 ⟨v6, rfl, hown6, hb6⟩
    have hs6 : w.heap.size + 1 ≤ w6.heap.size := Nat.le_trans hs5 hb6.size
    have HX6 := Lib.hid (HX5.out.mono hb6 hs5)
    have HB6 := Lib.hid (HB5.out.trans (hb6.mono (Nat.le_of_succ_le hs5)))
    have HO6 := Lib.hid (ownsRow_below HO5.out hb6 (Nat.le_refl _))
    have HN := Lib.hid (IsB.own hown6 (length_le _ _).symm)
    clear hown6 hb6 HX5 HO5 HB5 hs5
    clear q0 q1 q2 q3
    go_wp2_with (at_builtin; refine wpList_append_B (by rfl) _ _ 33 rfl (w.heap.size + 1) 5 i0 Tryz.underlying33 hi hz0 hz1 hz2 _ (((le 1313162572 4) ++ (le (flagN true) 4)) ++ (le k 8)) _ rfl HO6.out (rfl) _ (le c 4) rfl (HN.out) (by simp [length_le]) hs6 ?_)
    intro v7 w7 hown7 hb7
    have hs7 : w.heap.size + 1 ≤ w7.heap.size := Nat.le_trans hs6 hb7.size
    have HX7 := Lib.hid (HX6.out.mono hb7 (Nat.lt_succ_self _))
    have HB7 := Lib.hid (HB6.out.trans (hb7.mono (Nat.le_succ _)))
    have HO7 := Lib.hid hown7
    clear hown7 hb7 HX6 HO6 HB6 hs6
    obtain ⟨q0, q1, q2, q3⟩ := HX7.out
    go_wp2_with fail
    refine (num_any d 4 _ (.inr (.inr (.inl rfl))) HD4.out).mono ?_
    rintro e w8 ⟨v8, rfl, hown8, hb8⟩
    have hs8 : w.heap.size + 1 ≤ w8.heap.size := Nat.le_trans hs7 hb8.size
    have HX8 := Lib.hid (HX7.out.mono hb8 hs7)
    have HB8 := Lib.hid (HB7.out.trans (hb8.mono (Nat.le_of_succ_le hs7)))
    have HO8 := Lib.hid (ownsRow_below HO7.out hb8 (Nat.le_refl _))
    have HN := Lib.hid (IsB.own hown8 (length_le _ _).symm)
    clear hown8 hb8 HX7 HO7 HB7 hs7
    clear q0 q1 q2 q3
    go_wp2_with (at_builtin; refine wpList_append_B (by rfl) _ _ 33 rfl (w.heap.size + 1) 5 i0 Tryz.underlying33 hi hz0 hz1 hz2 _ ((((le 1313162572 4) ++ (le (flagN true) 4)) ++ (le k 8)) ++ (le c 4)) _ rfl HO8.out (rfl) _ (le d 4) rfl (HN.out) (by simp [length_le]) hs8 ?_)
    intro v9 w9 hown9 hb9
    have hs9 : w.heap.size + 1 ≤ w9.heap.size := Nat.le_trans hs8 hb9.size
    have HX9 := Lib.hid (HX8.out.mono hb9 (Nat.lt_succ_self _))
    have HB9 := Lib.hid (HB8.out.trans (hb9.mono (Nat.le_succ _)))
    have HO9 := Lib.hid hown9
    clear hown9 hb9 HX8 HO8 HB8 hs8
    go_wp2
    go_ret
    exact ⟨_, rfl, front_fin HF.out HO9.out, HB9.out⟩


theorem put_badN (n : Ndl) (v : Value) (w : World) (hv : IsB w v n.data) (h : ncheck n ≠ 0) :
    Calls Tryz.prog 118 #[nval n v] w fun e w' => e = .returned (.tuple #[.slice none 0 0, err (ncheck n : Nat)]) ∧ Below w.heap.size w w' := by
  have HE := Lib.hid (cerr_pos h)
  have HV := Lib.hid hv
  obtain ⟨q, hq⟩ : ∃ q : Nat, ncheck n = q := ⟨_, rfl⟩
  have HQ := Lib.hid hq
  obtain ⟨k, c, g, l⟩ := n
  rw [hq] at HE ⊢
  clear hv h hq
  go_enter Tryz.func118, Tryz.ntmps118
  go_wp2_with fail
  refine (check_any ⟨k, c, g, l⟩ _ _ (HV.out.mono ((Below.refl _ _).alloc (Nat.le_refl _) _) (Nat.le_refl _))).mono ?_
  rintro e w1 ⟨rfl, hb1⟩
  rw [HQ.out, HE.out]
  go_wp2
  go_ret2
  exact ⟨rfl, ((Below.refl w.heap.size w).alloc (Nat.le_refl _) _).trans (hb1.mono (by simp))⟩

set_option maxHeartbeats 2000000 in
theorem put_okN (n : Ndl) (v : Value) (w : World) (hv : IsB w v n.data) (hf : n.fits) (h : ncheck n = 0) :
    Calls Tryz.prog 118 #[nval n v] w fun e w' => ∃ v', e = .returned (.tuple #[v', .nilIface]) ∧ w'.ownsRow w.heap.size 5 1 v' (nbytes n).length (bvs (nbytes n)) ∧ Below w.heap.size w w' := by
  obtain ⟨i0, hi, hz0, hz1, hz2⟩ := info_parts Tryz.infoU8
  have hd := (ncheck_ok h).1
  obtain ⟨F, hF⟩ : ∃ F, F = front n := ⟨_, rfl⟩
  obtain ⟨s, hs⟩ : ∃ s, s = crc (F ++ n.data) := ⟨_, rfl⟩
  have hs4 : s < 4294967296 := by rw [hs]; exact crc_lt _
  have HS4 := Lib.hid (show s ≤ great ((4 : Nat) : Int) from Nat.le_of_lt_succ hs4)
  have hNB : nbytes n = F ++ le s 4 ++ zerosN 4 ++ n.data ++ zerosN (padn n.data.length) := by rw [hs, hF]; rfl
  have hFl : F.length = 24 := by rw [hF]; exact length_front n
  have HFl := Lib.hid hFl
  have HF := Lib.hid hF
  have HC := Lib.hid h
  have HFi := Lib.hid hf
  obtain ⟨k, c, g, l⟩ := n
  have HS := Lib.hid (show s = crc (F ++ l) from hs)
  have HNB := Lib.hid (show nbytes ⟨k, c, g, l⟩ = F ++ le s 4 ++ zerosN 4 ++ l ++ zerosN (padn l.length) from hNB)
  obtain ⟨d, hl⟩ : ∃ d : Nat, l.length = d := ⟨_, rfl⟩
  have HL := Lib.hid hl
  have HV := Lib.hid hv
  obtain ⟨x, cap, rfl, hlc, hcm⟩ := hv.at_len hl
  have hd' : d ≤ 4096 := by rw [← hl]; exact hd
  have HZ := Lib.hid (nsize_nat hd')
  have HP := Lib.hid (pad_padn d)
  have hp8 := padn_lt d
  obtain ⟨p, hp⟩ : ∃ p, p = padn d := ⟨_, rfl⟩
  rw [← hp] at HZ HP hp8
  have HPD := Lib.hid hp
  obtain ⟨S, hS⟩ : ∃ S : Nat, S = 32 + d + p := ⟨_, rfl⟩
  rw [← hS] at HZ
  have hS' : S ≤ 5000 := by omega
  have hmk : ∀ wx : World, (Instr.makeSlice 33 (.int .i64 0) (.int .i64 (S : Int))).run Tryz.prog wx = .ok (.slice (some ⟨wx.heap.size, 0, none⟩) 0 S) (wx.alloc (.cells (madeCells #[.int .u8 0] S) 5)) := fun wx => by
    have := run_make (P := Tryz.prog) wx 33 5 i0 (.int .u8 0) Tryz.underlying33 hi hz0 .i64 .i64 0 (S : Int) (by omega) (by omega) (by rw [hz2]; omega) (by omega)
    rw [this, hz1]
    simp [Value.cells]
  clear hv hd hF hs hl hf h hFl hp hS hNB
  go_enter Tryz.func118, Tryz.ntmps118
  go_wp2_with fail
  refine (check_any ⟨k, c, g, l⟩ _ _ (HV.out.mono ((Below.refl _ _).alloc (Nat.le_refl _) _) (Nat.le_refl _))).mono ?_
  rintro e w1 ⟨rfl, hb1⟩
  rw [HC.out, cerr_0]
  have hs1 : w.heap.size + 1 ≤ w1.heap.size := Nat.le_trans (by simp) hb1.size
  have HX1 := Lib.hid ((Boxed.new w _ _ 43).mono hb1 (by simp) : Boxed w1 w.heap.size ⟨k, c, g, l⟩ (.slice x d cap))
  have HB1 := Lib.hid ((((Below.refl w.heap.size w).alloc (Nat.le_refl _) _).trans (hb1.mono (by simp))) : Below w.heap.size w w1)
  have HV1 := Lib.hid (HV.out.mono HB1.out (Nat.le_refl _))
  clear hb1
  obtain ⟨q0, q1, q2, q3⟩ := HX1.out
  go_wp2_with fail
  refine (summed_any ⟨k, c, g, l⟩ _ _ HV1.out HFi.out (by show l.length ≤ 4096; rw [HL.out]; exact hd')).mono ?_
  rintro e w2 ⟨v2, rfl, hown2, hb2⟩
  have hs2 : w.heap.size + 1 ≤ w2.heap.size := Nat.le_trans hs1 hb2.size
  have HX2 := Lib.hid (HX1.out.mono hb2 hs1)
  have HB2 := Lib.hid (HB1.out.trans (hb2.mono (Nat.le_of_succ_le hs1)))
  have HV2 := Lib.hid (HV.out.mono HB2.out (Nat.le_refl _))
  have HF2 := Lib.hid (show IsB w2 v2 F from by rw [HF.out]; exact IsB.own hown2 (length_front _).symm)
  clear q0 q1 q2 q3 hown2 hb2 HX1 HB1 HV1 hs1
  obtain ⟨q0, q1, q2, q3⟩ := HX2.out
  go_wp2_with fail
  refine (size_any (d : Int) _ (by omega) (by omega)).mono ?_
  rintro e w' ⟨rfl, rfl⟩
  rw [HZ.out]
  have hb3 : Below w2.heap.size w2 (w2.alloc (.cells (madeCells #[.int .u8 0] S) 5)) := (Below.refl _ _).alloc (Nat.le_refl _) _
  have HS3 := Lib.hid hb3.size
  have HO3 := Lib.hid (World.ownsRow_made (base := w2.heap.size) (e := 5) (size := 1) w2 (madeCells #[.int .u8 0] S) S (Nat.le_refl _) (by unfold maxLen; omega) (by simp [size_madeCells]))
  have HB3 := Lib.hid hb3
  have HF3 := Lib.hid (HF2.out.mono hb3 (Nat.le_refl _))
  clear hb3 q0 q1 q2 q3
  go_wp2_with (at_builtin; refine wpList_append_B (by rfl) _ _ 33 rfl w2.heap.size 5 i0 Tryz.underlying33 hi hz0 hz1 hz2 _ [] _ rfl HO3.out rfl _ F rfl HF3.out (by rw [HFl.out]; decide) HS3.out ?_)
  intro v4 w4 hown4 hb4
  have HO4 := Lib.hid (show w4.ownsRow w2.heap.size 5 1 v4 F.length (bvs F) from by simpa using hown4)
  have HB4 := Lib.hid (HB3.out.trans hb4)
  clear hown4 hb4 HB3 HS3 HO3 HF3
  obtain ⟨q0, q1, q2, q3⟩ := HX2.out.mono HB4.out hs2
  go_wp2_with fail
  refine (sumOf_any _ _ F l _ (HF2.out.mono HB4.out (Nat.le_refl _)) (HV2.out.mono HB4.out (Nat.le_refl _)) (by rw [HFl.out]; decide) (by rw [HL.out]; omega)).mono ?_
  rintro e w' ⟨rfl, rfl⟩
  rw [← HS.out]
  go_wp2_with fail
  refine (num_any s 4 _ (.inr (.inr (.inl rfl))) HS4.out).mono ?_
  rintro e w5 ⟨v5, rfl, hown5, hb5⟩
  have HN5 := Lib.hid (IsB.own hown5 (length_le _ _).symm)
  have HO5 := Lib.hid (ownsRow_below HO4.out hb5 (Nat.le_refl _))
  have HB5 := Lib.hid (HB4.out.trans (hb5.mono HB4.out.size))
  have HS5 := Lib.hid HB5.out.size
  clear q0 q1 q2 q3 hown5 hb5 HO4 HB4
  go_wp2_with (at_builtin; refine wpList_append_B (by rfl) _ _ 33 rfl w2.heap.size 5 i0 Tryz.underlying33 hi hz0 hz1 hz2 _ F _ rfl HO5.out rfl _ (le s 4) rfl HN5.out (by rw [HFl.out, length_le]; decide) HS5.out ?_)
  intro v6 w6 hown6 hb6
  obtain ⟨X6, hX6⟩ : ∃ X, X = F ++ le s 4 := ⟨_, rfl⟩
  have HO6 := Lib.hid (show w6.ownsRow w2.heap.size 5 1 v6 X6.length (bvs X6) from by rw [hX6]; simpa using hown6)
  have HL6 := Lib.hid (show X6.length = 28 from by rw [hX6, List.length_append, HFl.out, length_le])
  have HX6 := Lib.hid hX6
  have HB6 := Lib.hid (HB5.out.trans hb6)
  have HS6 := Lib.hid HB6.out.size
  clear hown6 hb6 hX6 HO5 HB5 HN5 HS5
  go_wp2_with (at_builtin; refine wpList_append_zeros (by rfl) _ _ 33 3 rfl w2.heap.size 5 i0 Tryz.underlying33 Tryz.underlying3 hi hz0 hz1 hz2 _ X6 _ rfl HO6.out rfl 4 rfl (by rw [HL6.out]; decide) HS6.out ?_)
  intro v7 w7 hown7 hb7
  obtain ⟨X7, hX7⟩ : ∃ X, X = X6 ++ zerosN 4 := ⟨_, rfl⟩
  have HO7 := Lib.hid (show w7.ownsRow w2.heap.size 5 1 v7 X7.length (bvs X7) from by rw [hX7]; simpa using hown7)
  have HL7 := Lib.hid (show X7.length = 32 from by rw [hX7, List.length_append, HL6.out, length_zerosN])
  have HX7 := Lib.hid hX7
  have HB7 := Lib.hid (HB6.out.trans hb7)
  have HS7 := Lib.hid HB7.out.size
  have HV7 := Lib.hid (HV2.out.mono HB7.out (Nat.le_refl _))
  clear hown7 hb7 hX7 HO6 HB6 HS6 HL6
  obtain ⟨q0, q1, q2, q3⟩ := HX2.out.mono HB7.out hs2
  go_wp2_with (at_builtin; refine wpList_append_B (by rfl) _ _ 33 rfl w2.heap.size 5 i0 Tryz.underlying33 hi hz0 hz1 hz2 _ X7 _ rfl HO7.out rfl _ l rfl HV7.out (by rw [HL7.out, HL.out]; omega) HS7.out ?_)
  intro v8 w8 hown8 hb8
  obtain ⟨X8, hX8⟩ : ∃ X, X = X7 ++ l := ⟨_, rfl⟩
  have HO8 := Lib.hid (show w8.ownsRow w2.heap.size 5 1 v8 X8.length (bvs X8) from by rw [hX8]; simpa using hown8)
  have HL8 := Lib.hid (show X8.length = 32 + d from by rw [hX8, List.length_append, HL7.out, HL.out])
  have HX8 := Lib.hid hX8
  have HB8 := Lib.hid (HB7.out.trans hb8)
  have HS8 := Lib.hid HB8.out.size
  clear hown8 hb8 hX8 HO7 HB7 HS7 HL7 HV7 q0 q1 q2 q3
  obtain ⟨q0, q1, q2, q3⟩ := HX2.out.mono HB8.out hs2
  go_wp2_with fail
  refine (pad_any (d : Int) _ (by omega) (by omega)).mono ?_
  rintro e w' ⟨rfl, rfl⟩
  rw [HP.out]
  go_wp2_with (at_builtin; refine wpList_append_zeros (by rfl) _ _ 33 3 rfl w2.heap.size 5 i0 Tryz.underlying33 Tryz.underlying3 hi hz0 hz1 hz2 _ X8 _ rfl HO8.out rfl p rfl (by rw [HL8.out]; omega) HS8.out ?_)
  intro v9 w9 hown9 hb9
  have HR := Lib.hid (show nbytes ⟨k, c, g, l⟩ = X8 ++ zerosN p from by rw [HNB.out, HX8.out, HX7.out, HX6.out, HPD.out, ← HL.out])
  have HO9 := Lib.hid (show w9.ownsRow w.heap.size 5 1 v9 (nbytes ⟨k, c, g, l⟩).length (bvs (nbytes ⟨k, c, g, l⟩)) from by
    rw [HR.out]
    exact ownsRow_base (show w9.ownsRow w2.heap.size 5 1 v9 (X8 ++ zerosN p).length (bvs (X8 ++ zerosN p)) from by simpa using hown9) (Nat.le_of_succ_le hs2))
  have HB9 := Lib.hid (HB2.out.trans ((HB8.out.trans hb9).mono (Nat.le_of_succ_le hs2)))
  clear hown9 hb9
  go_wp2
  go_ret2
  exact ⟨_, rfl, HO9.out, HB9.out⟩

end Go.Proofs.YtllbngopfganjaaGreatDoor.Nd
end

section
namespace Go.Proofs.YtllbngopfganjaaGreatDoor.Nd
open Go.RowKit Go.Cor

theorem zeroB_first {l : List UInt8} (h : zeroB l = false) : ∃ p, p < l.length ∧ l.getD p 0 ≠ 0 ∧ ∀ i, i < p → l.getD i 0 = 0 := by
  induction l with
  | nil => simp [zeroB] at h
  | cons x l ih =>
    by_cases hx : x = 0
    · subst hx
      have h' : zeroB l = false := by
        unfold zeroB at h ⊢
        simpa using h
      obtain ⟨p, h1, h2, h3⟩ := ih h'
      refine ⟨p + 1, by simpa using h1, by simpa using h2, fun i hi => ?_⟩
      cases i with
      | zero => rfl
      | succ i => simpa using h3 i (by omega)
    · exact ⟨0, by simp, by simpa using hx, fun i hi => by omega⟩

theorem zero_anyB (v : Value) (l : List UInt8) (w : World) (hv : IsB w v l) (hl : l.length ≤ 1099511627776) :
    Calls Tryz.prog 124 #[v] w fun e w' => e = .returned (.bool (zeroB l)) ∧ w = w' := by
  cases hz : zeroB l with
  | true =>
    refine zero_yes v l w hv hl fun i hi => ?_
    have := of_decide_eq_true hz
    rw [List.getD_eq_getElem?_getD, List.getElem?_eq_getElem hi]
    exact this _ (List.getElem_mem hi)
  | false =>
    obtain ⟨p, h1, h2, h3⟩ := zeroB_first hz
    exact zero_no v l p w hv hl h1 h2 h3

/-- Where bytes lie, if there are some. -/
theorem IsB.addr {w : World} {v : Value} {l : List UInt8} {n : Nat} (h : IsB w v l) (hn : l.length = n) (h0 : 0 < n) : ∃ b off cap, v = .slice (some ⟨b, off, none⟩) n cap ∧ n ≤ cap ∧ cap ≤ maxLen := by
  obtain ⟨a, cap, rfl, h1, h2, _, h3⟩ := h
  rcases h3 with h3 | ⟨b, off, rfl, _⟩
  · omega
  · exact ⟨b, off, cap, by rw [hn], by omega, h2⟩
theorem IsB.subAt {w : World} {b off n cap : Nat} {l : List UInt8} (h : IsB w (.slice (some ⟨b, off, none⟩) n cap) l) (j k : Nat) (hjk : j + k ≤ l.length) :
    IsB w (.slice (some ⟨b, off + j, none⟩) k (cap - j)) ((l.drop j).take k) := by
  have := IsB.sub (x := some ⟨b, off, none⟩) h hjk
  simpa [add_lit] using this

theorem slice_lh_B {P : Program} {w : World} {v : Value} {l : List UInt8} (hv : IsB w v l) (T U : TypeId) (ht : P.underlying T = some (.slice U)) (hs : (P.info? U).map (·.size) = some 1) (lo hi : Nat) (h1 : lo ≤ hi) (h2 : hi ≤ l.length) :
    ∃ sv, (∀ W, (Instr.slice T v (some (.int .i64 (lo : Int))) (some (.int .i64 (hi : Int))) none).run P W = .ok sv W) ∧ IsB w sv ((l.drop lo).take (hi - lo)) := by
  obtain ⟨i, hi1, hi2⟩ := Option.map_eq_some_iff.1 hs
  obtain ⟨a, cap, rfl, k1, k2, k0, k3⟩ := hv
  have ht' : P.underlying T = some (.slice (P.elem T)) := by simp [Program.elem, ht]
  have he : P.elem T = U := by simp [Program.elem, ht]
  have hsz : ∀ W, (sizeOf U).run P W = .ok 1 W := fun W => by simp [sizeOf, typeInfo, hi1, hi2]
  refine ⟨sliced a lo hi cap 1, fun W => ?_, ?_⟩
  · rw [run_slice_lh W T _ _ _ ht' .i64 .i64 _ _ (by omega) (by omega) (by omega), he, hsz]
    simp [Result.andThen]
  · have hlen : ((l.drop lo).take (hi - lo)).length = hi - lo := by simp; omega
    unfold sliced
    refine ⟨_, _, by rw [hlen], by rw [hlen]; omega, by omega, fun hx => ?_, ?_⟩
    · split at hx
      · omega
      · have : a = none := by simpa using hx
        rw [k0 this]
        omega
    · rw [hlen]
      by_cases h0 : hi - lo = 0
      · exact .inl h0
      · rcases k3 with k3 | ⟨b, off, rfl, hc⟩
        · omega
        · rw [if_neg (by omega)]
          refine .inr ⟨b, off + lo, by simp [add_lit], fun i hi => ?_⟩
          rw [show off + lo + i = off + (lo + i) from by omega, hc (lo + i) (by omega)]
          congr 2
          simp only [List.getD_eq_getElem?_getD, List.getElem?_take, if_pos hi, List.getElem?_drop]
theorem slice_h_B {P : Program} {w : World} {v : Value} {l : List UInt8} (hv : IsB w v l) (T U : TypeId) (ht : P.underlying T = some (.slice U)) (hs : (P.info? U).map (·.size) = some 1) (hi : Nat) (h2 : hi ≤ l.length) :
    ∃ sv, (∀ W, (Instr.slice T v none (some (.int .i64 (hi : Int))) none).run P W = .ok sv W) ∧ IsB w sv (l.take hi) := by
  obtain ⟨i, hi1, hi2⟩ := Option.map_eq_some_iff.1 hs
  have HV := hv
  obtain ⟨a, cap, rfl, k1, k2, k0, k3⟩ := hv
  have ht' : P.underlying T = some (.slice (P.elem T)) := by simp [Program.elem, ht]
  have he : P.elem T = U := by simp [Program.elem, ht]
  have hsz : ∀ W, (sizeOf U).run P W = .ok 1 W := fun W => by simp [sizeOf, typeInfo, hi1, hi2]
  refine ⟨.slice a hi cap, fun W => ?_, HV.take h2⟩
  rw [run_slice_h W T _ _ _ ht' .i64 _ (by omega) (by omega), he, hsz]
  by_cases hc0 : cap = 0
  · simp [Result.andThen, sliced, hc0]
  · have hadd : (a.map fun x => x.add 0) = a := by cases a <;> simp [Addr.add]
    simp [Result.andThen, sliced, hc0, hadd]
theorem len_B {P : Program} {w : World} {v : Value} {l : List UInt8} (hv : IsB w v l) {n : Nat} (hn : l.length = n) (T ty U : TypeId) (ht : P.underlying T = some (.slice U)) (W : World) : (Builtin.len_ #[T] ty #[v]).run P W = .ok (.int .i64 (n : Int)) W := by
  obtain ⟨a, cap, rfl, k1, k2, k0, k3⟩ := hv
  subst hn
  have ht' : P.underlying T = some (.slice (P.elem T)) := by simp [Program.elem, ht]
  exact run_len_slice (P := P) W T ty a l.length cap ht'

theorem ownsRow_slice {w : World} {base : Nat} {e : TypeId} {size : Nat} {v : Value} {n : Nat} {xs : List Value} (h : w.ownsRow base e size v n xs) : ∃ x c, v = .slice x n c := by
  rcases h.2 with ⟨rfl, rfl⟩ | ⟨g, cap, cur, rfl, _⟩
  · exact ⟨_, _, rfl⟩
  · exact ⟨_, _, rfl⟩
theorem clone_S (v : Value) (l : List UInt8) (w : World) (n : Nat) (hv : IsB w v l) (hl : l.length ≤ 1099511627776) (hn : l.length = n) :
    Calls Tryz.prog 67 #[v] w fun e w' =>
      ∃ x c, e = .returned (.slice x n c) ∧ w'.ownsRow w.heap.size 5 1 (.slice x n c) n (bvs l) ∧ Below w.heap.size w w' := by
  refine (clone_any v l w hv hl).mono ?_
  rintro e w' ⟨v', rfl, hown, hb⟩
  rw [hn] at hown
  obtain ⟨x, c, rfl⟩ := ownsRow_slice hown
  exact ⟨x, c, rfl, hown, hb⟩
theorem at_24_4 (v : Value) (l : List UInt8) (w : World) (hv : IsB w v l) (hl : l.length ≤ 1099511627776) (h : 32 ≤ l.length) :
    Calls Tryz.prog 122 #[v, .int .i64 24, .int .i64 4] w fun e w' => e = .returned (.int .u64 (fld l 24 4 : Nat)) ∧ w = w' := at_any v l 24 4 w (.inr (.inr (.inl rfl))) hv hl (by omega)
theorem at_8_8 (v : Value) (l : List UInt8) (w : World) (hv : IsB w v l) (hl : l.length ≤ 1099511627776) (h : 32 ≤ l.length) :
    Calls Tryz.prog 122 #[v, .int .i64 8, .int .i64 8] w fun e w' => e = .returned (.int .u64 (fld l 8 8 : Nat)) ∧ w = w' := at_any v l 8 8 w (.inr (.inr (.inr rfl))) hv hl (by omega)
theorem at_16_4 (v : Value) (l : List UInt8) (w : World) (hv : IsB w v l) (hl : l.length ≤ 1099511627776) (h : 32 ≤ l.length) :
    Calls Tryz.prog 122 #[v, .int .i64 16, .int .i64 4] w fun e w' => e = .returned (.int .u64 (fld l 16 4 : Nat)) ∧ w = w' := at_any v l 16 4 w (.inr (.inr (.inl rfl))) hv hl (by omega)
theorem at_4_4 (v : Value) (l : List UInt8) (w : World) (hv : IsB w v l) (hl : l.length ≤ 1099511627776) (h : 32 ≤ l.length) :
    Calls Tryz.prog 122 #[v, .int .i64 4, .int .i64 4] w fun e w' => e = .returned (.int .u64 (fld l 4 4 : Nat)) ∧ w = w' := at_any v l 4 4 w (.inr (.inr (.inl rfl))) hv hl (by omega)
theorem zeroB_fld (l : List UInt8) (a k : Nat) : zeroB ((l.drop a).take k) = decide (fld l a k = 0) := zeroB_num _

set_option maxHeartbeats 1000000 in
theorem formed_any (v : Value) (l : List UInt8) (w : World) (hv : IsB w v l) (h32 : 32 ≤ l.length) (hl : l.length ≤ 1099511627776) :
    Calls Tryz.prog 121 #[v] w fun e w' => e = .returned (.bool (formedB l)) ∧ w = w' := by
  obtain ⟨n, hn⟩ : ∃ n : Nat, l.length = n := ⟨_, rfl⟩
  obtain ⟨b, off, cap, rfl, hnc, hcm⟩ := IsB.addr hv hn (by omega)
  unfold maxLen at hcm
  have HN := Lib.hid hn
  have HV := Lib.hid hv
  have hf4 := fld4_lt l 4
  have hd4 := fld4_lt l 20
  have hm4 := fld4_lt l 0
  have HR : Hid (formedB l = decide (fld l 0 4 = 1313162572 ∧ fld l 4 4 ≤ 1 ∧ fld l 28 4 = 0 ∧ fld l 20 4 ≤ 4096 ∧ (fld l 4 4 = 1 → fld l 20 4 = 0))) := rfl
  have hzz := zeroB_fld l 28 4
  obtain ⟨m, hm⟩ : ∃ m : Nat, m = fld l 0 4 := ⟨_, rfl⟩
  obtain ⟨f, hf⟩ : ∃ f : Nat, f = fld l 4 4 := ⟨_, rfl⟩
  obtain ⟨d, hd⟩ : ∃ d : Nat, d = fld l 20 4 := ⟨_, rfl⟩
  obtain ⟨z, hz⟩ : ∃ z : Nat, z = fld l 28 4 := ⟨_, rfl⟩
  rw [← hm] at hm4
  rw [← hf] at hf4
  rw [← hd] at hd4
  rw [← hz] at hzz
  have HR' : Hid (formedB l = decide (m = 1313162572 ∧ f ≤ 1 ∧ z = 0 ∧ d ≤ 4096 ∧ (f = 1 → d = 0))) := by
    have := HR.out
    rw [← hm, ← hf, ← hd, ← hz] at this
    exact this
  have HM := Lib.hid hm
  have HF := Lib.hid hf
  have HD := Lib.hid hd
  have hcap : 32 ≤ cap := by omega
  have hn32 : 32 ≤ n := by omega
  have hnl : n ≤ 1099511627776 := by omega
  have HZ := Lib.hid hzz
  have HS := Lib.hid (IsB.subAt HV.out 28 4 (by omega))
  clear hm hf hd hz hn hv h32 hl HR hzz
  by_cases m1 : m = 1313162572
  · have mb : ((m : Int) != 1313162572) = false := by rw [bne_eq_false_iff_eq]; omega
    by_cases f1 : f ≤ 1
    · by_cases z1 : z = 0
      · have zb : decide (z = 0) = true := decide_eq_true z1
        by_cases d1 : d ≤ 4096
        · by_cases f3 : f = 1
          · have fb : ((f : Int) != 1) = false := by rw [bne_eq_false_iff_eq]; omega
            by_cases d3 : d = 0
            · have db : ((d : Int) == 0) = true := by rw [beq_iff_eq]; omega
              have HE := Lib.hid (show formedB l = true from by rw [HR'.out]; exact decide_eq_true ⟨m1, f1, z1, d1, fun _ => d3⟩)
              clear m1 z1 f3 d3
              go_enter Tryz.func121, Tryz.ntmps121
              go_wp2_with fail
              refine (at_any _ l 4 4 _ (.inr (.inr (.inl rfl))) HV.out (by rw [HN.out]; omega) (by rw [HN.out]; omega)).mono ?_
              rintro e w' ⟨rfl, rfl⟩
              rw [← HF.out]
              go_wp2_with fail
              refine (at_any _ l 20 4 _ (.inr (.inr (.inl rfl))) HV.out (by rw [HN.out]; omega) (by rw [HN.out]; omega)).mono ?_
              rintro e w' ⟨rfl, rfl⟩
              rw [← HD.out]
              go_wp2_with fail
              refine (at_any _ l 0 4 _ (.inr (.inr (.inl rfl))) HV.out (by rw [HN.out]; omega) (by rw [HN.out]; omega)).mono ?_
              rintro e w' ⟨rfl, rfl⟩
              rw [← HM.out]
              go_wp2_with fail
              refine (zero_anyB _ _ _ HS.out (by simp; omega)).mono ?_
              rintro e w' ⟨rfl, rfl⟩
              rw [HZ.out, zb]
              go_wp2
              go_ret
              exact ⟨by rw [HE.out]; rfl, rfl⟩
            · have db : ((d : Int) == 0) = false := by rw [beq_eq_false_iff_ne]; omega
              have HE := Lib.hid (show formedB l = false from by rw [HR'.out]; exact decide_eq_false (fun h => d3 (h.2.2.2.2 f3)))
              clear m1 z1 f3 d3
              go_enter Tryz.func121, Tryz.ntmps121
              go_wp2_with fail
              refine (at_any _ l 4 4 _ (.inr (.inr (.inl rfl))) HV.out (by rw [HN.out]; omega) (by rw [HN.out]; omega)).mono ?_
              rintro e w' ⟨rfl, rfl⟩
              rw [← HF.out]
              go_wp2_with fail
              refine (at_any _ l 20 4 _ (.inr (.inr (.inl rfl))) HV.out (by rw [HN.out]; omega) (by rw [HN.out]; omega)).mono ?_
              rintro e w' ⟨rfl, rfl⟩
              rw [← HD.out]
              go_wp2_with fail
              refine (at_any _ l 0 4 _ (.inr (.inr (.inl rfl))) HV.out (by rw [HN.out]; omega) (by rw [HN.out]; omega)).mono ?_
              rintro e w' ⟨rfl, rfl⟩
              rw [← HM.out]
              go_wp2_with fail
              refine (zero_anyB _ _ _ HS.out (by simp; omega)).mono ?_
              rintro e w' ⟨rfl, rfl⟩
              rw [HZ.out, zb]
              go_wp2
              go_ret
              exact ⟨by rw [HE.out]; rfl, rfl⟩
          · have fb : ((f : Int) != 1) = true := by rw [bne_iff_ne]; omega
            have HE := Lib.hid (show formedB l = true from by rw [HR'.out]; exact decide_eq_true ⟨m1, f1, z1, d1, fun h => absurd h f3⟩)
            clear m1 z1 f3
            go_enter Tryz.func121, Tryz.ntmps121
            go_wp2_with fail
            refine (at_any _ l 4 4 _ (.inr (.inr (.inl rfl))) HV.out (by rw [HN.out]; omega) (by rw [HN.out]; omega)).mono ?_
            rintro e w' ⟨rfl, rfl⟩
            rw [← HF.out]
            go_wp2_with fail
            refine (at_any _ l 20 4 _ (.inr (.inr (.inl rfl))) HV.out (by rw [HN.out]; omega) (by rw [HN.out]; omega)).mono ?_
            rintro e w' ⟨rfl, rfl⟩
            rw [← HD.out]
            go_wp2_with fail
            refine (at_any _ l 0 4 _ (.inr (.inr (.inl rfl))) HV.out (by rw [HN.out]; omega) (by rw [HN.out]; omega)).mono ?_
            rintro e w' ⟨rfl, rfl⟩
            rw [← HM.out]
            go_wp2_with fail
            refine (zero_anyB _ _ _ HS.out (by simp; omega)).mono ?_
            rintro e w' ⟨rfl, rfl⟩
            rw [HZ.out, zb]
            go_wp2
            go_ret
            exact ⟨by rw [HE.out]; rfl, rfl⟩
        · have d2 : 4096 < d := by omega
          have HE := Lib.hid (show formedB l = false from by rw [HR'.out]; exact decide_eq_false (fun h => d1 h.2.2.2.1))
          clear m1 z1 d1
          go_enter Tryz.func121, Tryz.ntmps121
          go_wp2_with fail
          refine (at_any _ l 4 4 _ (.inr (.inr (.inl rfl))) HV.out (by rw [HN.out]; omega) (by rw [HN.out]; omega)).mono ?_
          rintro e w' ⟨rfl, rfl⟩
          rw [← HF.out]
          go_wp2_with fail
          refine (at_any _ l 20 4 _ (.inr (.inr (.inl rfl))) HV.out (by rw [HN.out]; omega) (by rw [HN.out]; omega)).mono ?_
          rintro e w' ⟨rfl, rfl⟩
          rw [← HD.out]
          go_wp2_with fail
          refine (at_any _ l 0 4 _ (.inr (.inr (.inl rfl))) HV.out (by rw [HN.out]; omega) (by rw [HN.out]; omega)).mono ?_
          rintro e w' ⟨rfl, rfl⟩
          rw [← HM.out]
          go_wp2_with fail
          refine (zero_anyB _ _ _ HS.out (by simp; omega)).mono ?_
          rintro e w' ⟨rfl, rfl⟩
          rw [HZ.out, zb]
          go_wp2
          go_ret
          exact ⟨by rw [HE.out]; rfl, rfl⟩
      · have zb : decide (z = 0) = false := decide_eq_false z1
        have HE := Lib.hid (show formedB l = false from by rw [HR'.out]; exact decide_eq_false (fun h => z1 h.2.2.1))
        clear m1 z1
        go_enter Tryz.func121, Tryz.ntmps121
        go_wp2_with fail
        refine (at_any _ l 4 4 _ (.inr (.inr (.inl rfl))) HV.out (by rw [HN.out]; omega) (by rw [HN.out]; omega)).mono ?_
        rintro e w' ⟨rfl, rfl⟩
        rw [← HF.out]
        go_wp2_with fail
        refine (at_any _ l 20 4 _ (.inr (.inr (.inl rfl))) HV.out (by rw [HN.out]; omega) (by rw [HN.out]; omega)).mono ?_
        rintro e w' ⟨rfl, rfl⟩
        rw [← HD.out]
        go_wp2_with fail
        refine (at_any _ l 0 4 _ (.inr (.inr (.inl rfl))) HV.out (by rw [HN.out]; omega) (by rw [HN.out]; omega)).mono ?_
        rintro e w' ⟨rfl, rfl⟩
        rw [← HM.out]
        go_wp2_with fail
        refine (zero_anyB _ _ _ HS.out (by simp; omega)).mono ?_
        rintro e w' ⟨rfl, rfl⟩
        rw [HZ.out, zb]
        go_wp2
        go_ret
        exact ⟨by rw [HE.out]; rfl, rfl⟩
    · have f2 : 1 < f := by omega
      have HE := Lib.hid (show formedB l = false from by rw [HR'.out]; exact decide_eq_false (fun h => f1 h.2.1))
      clear m1 f1
      go_enter Tryz.func121, Tryz.ntmps121
      go_wp2_with fail
      refine (at_any _ l 4 4 _ (.inr (.inr (.inl rfl))) HV.out (by rw [HN.out]; omega) (by rw [HN.out]; omega)).mono ?_
      rintro e w' ⟨rfl, rfl⟩
      rw [← HF.out]
      go_wp2_with fail
      refine (at_any _ l 20 4 _ (.inr (.inr (.inl rfl))) HV.out (by rw [HN.out]; omega) (by rw [HN.out]; omega)).mono ?_
      rintro e w' ⟨rfl, rfl⟩
      rw [← HD.out]
      go_wp2_with fail
      refine (at_any _ l 0 4 _ (.inr (.inr (.inl rfl))) HV.out (by rw [HN.out]; omega) (by rw [HN.out]; omega)).mono ?_
      rintro e w' ⟨rfl, rfl⟩
      rw [← HM.out]
      go_wp2
      go_ret
      exact ⟨by rw [HE.out]; rfl, rfl⟩
  · have mb : ((m : Int) != 1313162572) = true := by rw [bne_iff_ne]; omega
    have HE := Lib.hid (show formedB l = false from by rw [HR'.out]; exact decide_eq_false (fun h => m1 h.1))
    clear m1
    go_enter Tryz.func121, Tryz.ntmps121
    go_wp2_with fail
    refine (at_any _ l 4 4 _ (.inr (.inr (.inl rfl))) HV.out (by rw [HN.out]; omega) (by rw [HN.out]; omega)).mono ?_
    rintro e w' ⟨rfl, rfl⟩
    rw [← HF.out]
    go_wp2_with fail
    refine (at_any _ l 20 4 _ (.inr (.inr (.inl rfl))) HV.out (by rw [HN.out]; omega) (by rw [HN.out]; omega)).mono ?_
    rintro e w' ⟨rfl, rfl⟩
    rw [← HD.out]
    go_wp2_with fail
    refine (at_any _ l 0 4 _ (.inr (.inr (.inl rfl))) HV.out (by rw [HN.out]; omega) (by rw [HN.out]; omega)).mono ?_
    rintro e w' ⟨rfl, rfl⟩
    rw [← HM.out]
    go_wp2
    go_ret
    exact ⟨by rw [HE.out]; rfl, rfl⟩

end Go.Proofs.YtllbngopfganjaaGreatDoor.Nd
end

section
namespace Go.Proofs.YtllbngopfganjaaGreatDoor.Nd
open Go.RowKit Go.Cor

/-- No needle. -/
abbrev nzero : Value := .agg #[.int .u64 0, .int .u32 0, .bool false, .slice none 0 0]

/-- The world behind Get's first step. -/
abbrev gworld (w : World) : World := w.alloc (.cells #[.int .u64 0, .int .u32 0, .bool false, .slice none 0 0] 43)
theorem gworld_below (w : World) : Below w.heap.size w (gworld w) := (Below.refl _ _).alloc (Nat.le_refl _) _
theorem isB_gw {w : World} {v : Value} {l : List UInt8} (h : IsB w v l) : IsB (gworld w) v l := h.mono (gworld_below w) (Nat.le_refl _)

end Go.Proofs.YtllbngopfganjaaGreatDoor.Nd
end

section
namespace Go.Proofs.YtllbngopfganjaaGreatDoor.Nd
open Go.RowKit Go.Cor

/-- The world behind the needle's own block. -/
abbrev gworld2 (w : World) : World := (gworld w).alloc (.cells #[.int .u64 0, .int .u32 0, .bool false, .slice none 0 0] 43)
theorem isB_gw2 {w : World} {v : Value} {l : List UInt8} (h : IsB (gworld w) v l) : IsB (gworld2 w) v l := h.mono ((Below.refl _ _).alloc (Nat.le_refl _) _) (Nat.le_refl _)
theorem gbox2 {w wc : World} (hb : Below (gworld2 w).drew.drew.heap.size (gworld2 w).drew.drew wc) :
    wc.cell? ⟨w.heap.size, 0, none⟩ = some (.int .u64 0) ∧ wc.cell? ⟨w.heap.size, 1, none⟩ = some (.int .u32 0) ∧ wc.cell? ⟨w.heap.size, 2, none⟩ = some (.bool false) ∧ wc.cell? ⟨w.heap.size, 3, none⟩ = some (.slice none 0 0) ∧
    wc.cell? ⟨w.heap.size + 1, 0, none⟩ = some (.int .u64 0) ∧ wc.cell? ⟨w.heap.size + 1, 1, none⟩ = some (.int .u32 0) ∧ wc.cell? ⟨w.heap.size + 1, 2, none⟩ = some (.bool false) ∧ wc.cell? ⟨w.heap.size + 1, 3, none⟩ = some (.slice none 0 0) ∧
    (∀ o, wc.frozen? ⟨w.heap.size, o, none⟩ = false) ∧ (∀ o, wc.frozen? ⟨w.heap.size + 1, o, none⟩ = false) ∧ w.heap.size + 1 < wc.heap.size := by
  have hs : (gworld2 w).drew.drew.heap.size = w.heap.size + 2 := by show (gworld2 w).heap.size = _; simp
  have c : ∀ b o, b < w.heap.size + 2 → wc.cell? ⟨b, o, none⟩ = (gworld2 w).cell? ⟨b, o, none⟩ := fun b o h => hb.cell (p := ⟨b, o, none⟩) (by rw [hs]; exact h)
  have f : ∀ b o, b < w.heap.size + 2 → wc.frozen? ⟨b, o, none⟩ = (gworld2 w).frozen? ⟨b, o, none⟩ := fun b o h => hb.frozen (p := ⟨b, o, none⟩) (by rw [hs]; exact h)
  refine ⟨?_, ?_, ?_, ?_, ?_, ?_, ?_, ?_, fun o => ?_, fun o => ?_, ?_⟩
  any_goals (rw [c _ _ (by omega)]; go_simp)
  · rw [f _ _ (by omega)]
    go_simp
  · rw [f _ _ (by omega)]
    go_simp
  · have := hb.size
    omega

theorem isB_zalloc {w : World} {v : Value} {l : List UInt8} (h : IsB w v l) : IsB (w.alloc (.cells #[.int .u64 0, .int .u32 0, .bool false, .slice none 0 0] 43)) v l := h.mono ((Below.refl _ _).alloc (Nat.le_refl _) _) (Nat.le_refl _)
/-- What the needle's own block holds, and the result's. -/
def GotBox (w : World) (l : List UInt8) (d k c : Nat) (g : Bool) (p : Value) (wx : World) : Prop :=
  ∃ b xc cc, p = .pointer (some ⟨b, 0, none⟩) ∧ wx.cell? ⟨b, 0, none⟩ = some (.int .u64 (k : Int)) ∧ wx.cell? ⟨b, 1, none⟩ = some (.int .u32 (c : Int)) ∧ wx.cell? ⟨b, 2, none⟩ = some (.bool g) ∧ wx.cell? ⟨b, 3, none⟩ = some (.slice xc d cc) ∧
    wx.ownsRow (w.heap.size + 1) 5 1 (.slice xc d cc) d (bvs l) ∧
    wx.cell? ⟨w.heap.size, 0, none⟩ = some (.int .u64 0) ∧ wx.cell? ⟨w.heap.size, 1, none⟩ = some (.int .u32 0) ∧ wx.cell? ⟨w.heap.size, 2, none⟩ = some (.bool false) ∧ wx.cell? ⟨w.heap.size, 3, none⟩ = some (.slice none 0 0) ∧
    (∀ o, wx.frozen? ⟨w.heap.size, o, none⟩ = false) ∧ Below w.heap.size w wx ∧ w.heap.size < b ∧ b < wx.heap.size
theorem gbox1 {w wc : World} (hb : Below (gworld w).drew.drew.heap.size (gworld w).drew.drew wc) :
    wc.cell? ⟨w.heap.size, 0, none⟩ = some (.int .u64 0) ∧ wc.cell? ⟨w.heap.size, 1, none⟩ = some (.int .u32 0) ∧ wc.cell? ⟨w.heap.size, 2, none⟩ = some (.bool false) ∧ wc.cell? ⟨w.heap.size, 3, none⟩ = some (.slice none 0 0) ∧
    (∀ o, wc.frozen? ⟨w.heap.size, o, none⟩ = false) ∧ w.heap.size < wc.heap.size := by
  have hs : (gworld w).drew.drew.heap.size = w.heap.size + 1 := by show (gworld w).heap.size = _; simp
  have c : ∀ b o, b < w.heap.size + 1 → wc.cell? ⟨b, o, none⟩ = (gworld w).cell? ⟨b, o, none⟩ := fun b o h => hb.cell (p := ⟨b, o, none⟩) (by rw [hs]; exact h)
  have f : ∀ b o, b < w.heap.size + 1 → wc.frozen? ⟨b, o, none⟩ = (gworld w).frozen? ⟨b, o, none⟩ := fun b o h => hb.frozen (p := ⟨b, o, none⟩) (by rw [hs]; exact h)
  refine ⟨?_, ?_, ?_, ?_, fun o => ?_, ?_⟩
  any_goals (rw [c _ _ (by omega)]; go_simp)
  · rw [f _ _ (by omega)]
    go_simp
  · have := hb.size
    omega

theorem gotBox_new {w wc : World} {l : List UInt8} {d k c : Nat} {g : Bool} {xc : Option Addr} {cc : Nat}
    (hown : wc.ownsRow (gworld w).drew.drew.heap.size 5 1 (.slice xc d cc) d (bvs l)) (hb : Below (gworld w).drew.drew.heap.size (gworld w).drew.drew wc) :
    GotBox w l d k c g (.pointer (some ⟨wc.heap.size, 0, none⟩)) (wc.alloc (.cells #[.int .u64 (k : Int), .int .u32 (c : Int), .bool g, .slice xc d cc] 43)) := by
  obtain ⟨z0, z1, z2, z3, g0, hs⟩ := gbox1 hb
  have hsz : (gworld w).drew.drew.heap.size = w.heap.size + 1 := by show (gworld w).heap.size = _; simp
  have hb1 : Below wc.heap.size wc (wc.alloc (.cells #[.int .u64 (k : Int), .int .u32 (c : Int), .bool g, .slice xc d cc] 43)) := (Below.refl _ _).alloc (Nat.le_refl _) _
  refine ⟨wc.heap.size, xc, cc, rfl, ?_, ?_, ?_, ?_, ownsRow_base (hown.alloc _) (by omega), ?_, ?_, ?_, ?_, fun o => ?_, ?_, hs, by simp⟩
  any_goals go_simp
  · exact ((gworld_below w).drew.drew).trans ((hb.mono (by omega)).trans (hb1.mono (by omega)))
theorem gotBox_set {w wc : World} {l : List UInt8} {d k c : Nat} {g : Bool} {xc : Option Addr} {cc : Nat}
    (hown : wc.ownsRow (gworld2 w).drew.drew.heap.size 5 1 (.slice xc d cc) d (bvs l)) (hb : Below (gworld2 w).drew.drew.heap.size (gworld2 w).drew.drew wc) :
    GotBox w l d k c g (.pointer (some ⟨w.heap.size + 1, 0, none⟩)) ((((wc.setCell ⟨w.heap.size + 1, 0, none⟩ (.int .u64 (k : Int))).setCell ⟨w.heap.size + 1, 1, none⟩ (.int .u32 (c : Int))).setCell ⟨w.heap.size + 1, 2, none⟩ (.bool g)).setCell ⟨w.heap.size + 1, 3, none⟩ (.slice xc d cc)) := by
  obtain ⟨z0, z1, z2, z3, y0, y1, y2, y3, g0, g1, hs⟩ := gbox2 hb
  have hsz : (gworld2 w).drew.drew.heap.size = w.heap.size + 2 := by show (gworld2 w).heap.size = _; simp
  have ho : ∀ (W : World) (p : Addr) (u : Value), p.block < w.heap.size + 2 → W.ownsRow (w.heap.size + 2) 5 1 (.slice xc d cc) d (bvs l) → (W.setCell p u).ownsRow (w.heap.size + 2) 5 1 (.slice xc d cc) d (bvs l) := fun W p u hp h => ownsRow_setCell_below h hp u
  rw [hsz] at hown
  refine ⟨w.heap.size + 1, xc, cc, rfl, ?_, ?_, ?_, ?_, ownsRow_base (ho _ _ _ (by simp) (ho _ _ _ (by simp) (ho _ _ _ (by simp) (ho _ _ _ (by simp) hown)))) (by omega), ?_, ?_, ?_, ?_, fun o => ?_, ?_, by omega, by simpa using hs⟩
  any_goals go_simp
  · have h2 : Below w.heap.size w (gworld2 w) := (gworld_below w).alloc (by simp) _
    have h3 : Below w.heap.size w wc := h2.drew.drew.trans (hb.mono (by omega))
    exact (((h3.setCell (by simp) _).setCell (by simp) _).setCell (by simp) _).setCell (by simp) _
theorem got_fin {w wx : World} {U : TypeId} {x : Option Addr} {d cc : Nat} {xs : List Value} {u0 u1 u2 u3 : Value} (h : wx.ownsRow (w.heap.size + 1) U 1 (.slice x d cc) d xs) :
    ((((wx.setCell ⟨w.heap.size, 0, none⟩ u0).setCell ⟨w.heap.size, 1, none⟩ u1).setCell ⟨w.heap.size, 2, none⟩ u2).setCell ⟨w.heap.size, 3, none⟩ u3).ownsRow w.heap.size U 1 (.slice x d cc) d xs :=
  ownsRow_base (ownsRow_setCell_below (ownsRow_setCell_below (ownsRow_setCell_below (ownsRow_setCell_below h (Nat.lt_succ_self _) _) (Nat.lt_succ_self _) _) (Nat.lt_succ_self _) _) (Nat.lt_succ_self _) _) (Nat.le_succ _)
theorem got_bel {w wx : World} {u0 u1 u2 u3 : Value} (h : Below w.heap.size w wx) :
    Below w.heap.size w ((((wx.setCell ⟨w.heap.size, 0, none⟩ u0).setCell ⟨w.heap.size, 1, none⟩ u1).setCell ⟨w.heap.size, 2, none⟩ u2).setCell ⟨w.heap.size, 3, none⟩ u3) :=
  (((h.setCell (Nat.le_refl _) _).setCell (Nat.le_refl _) _).setCell (Nat.le_refl _) _).setCell (Nat.le_refl _) _

set_option maxHeartbeats 1000000 in
theorem get_okN (v : Value) (l : List UInt8) (w : World) (hv : IsB w v l) (hl : l.length ≤ 1099511627776) (h : 32 ≤ l.length) (hf : formedB l = true) (ht : total l ≤ l.length) (hs : sumOkN l = true) (hzp : zeroB (padOf l) = true) :
    Calls Tryz.prog 95 #[v] w fun e w' => ∃ v', e = .returned (.tuple #[nval (getN l) v', .int .i64 (total l : Nat), .nilIface]) ∧ w'.ownsRow w.heap.size 5 1 v' (dataOf l).length (bvs (dataOf l)) ∧ Below w.heap.size w w' := by
  obtain ⟨n, hn⟩ : ∃ n : Nat, l.length = n := ⟨_, rfl⟩
  have HV := Lib.hid hv
  have hlen := fun W => len_B (P := Tryz.prog) hv hn 33 3 5 Tryz.underlying33 W
  rw [hn] at h hl ht
  have HN := Lib.hid hn
  have HF := Lib.hid hf
  have hd := formed_len hf
  have hz := nsize_nat hd
  unfold total at ht
  unfold sumOkN at hs
  have hs := of_decide_eq_true hs
  unfold dataOf at hs
  obtain ⟨d, hdd⟩ : ∃ d : Nat, d = dlen l := ⟨_, rfl⟩
  rw [← hdd] at hd hz ht hs
  obtain ⟨S, hS⟩ : ∃ S : Nat, S = 32 + d + padn d := ⟨_, rfl⟩
  rw [← hS] at hz ht
  have hp8 := padn_lt d
  have hS2 : S ≤ 5000 := by omega
  have hS3 : 32 + d ≤ S := by omega
  have HZ := Lib.hid hz
  have HD := Lib.hid (show d = fld l 20 4 from hdd)
  obtain ⟨s1, h1⟩ : ∃ s : Nat, s = crc (l.take 24 ++ (l.drop 32).take d) := ⟨_, rfl⟩
  obtain ⟨s2, h2⟩ : ∃ s : Nat, s = fld l 24 4 := ⟨_, rfl⟩
  have hs1 : s1 < 4294967296 := by rw [h1]; exact crc_lt _
  have hsb : ((s1 : Int) != (s2 : Int)) = false := by rw [bne_eq_false_iff_eq]; omega
  have H1 := Lib.hid h1
  have H2 := Lib.hid h2
  obtain ⟨E, hE⟩ : ∃ E : Nat, E = 32 + d := ⟨_, rfl⟩
  have hEi : (32 : Int) + (d : Int) = (E : Int) := by omega
  have hE1 : 32 ≤ E := by omega
  have hE2 : E ≤ S := by omega
  obtain ⟨sA, rA, iA⟩ := slice_h_B (P := Tryz.prog) hv 33 5 Tryz.underlying33 Tryz.sizeU8 24 (by omega)
  obtain ⟨sD, rD, iD⟩ := slice_lh_B (P := Tryz.prog) hv 33 5 Tryz.underlying33 Tryz.sizeU8 32 E hE1 (by omega)
  have rA' : ∀ W, (Instr.slice 33 v none (some (.int .i64 24)) none).run Tryz.prog W = .ok sA W := rA
  have rD' : ∀ W, (Instr.slice 33 v (some (.int .i64 32)) (some (.int .i64 (E : Int))) none).run Tryz.prog W = .ok sD W := rD
  rw [show E - 32 = d from by omega] at iD
  have HAd := Lib.hid (show IsB (gworld w).drew sA (l.take 24) from isB_gw iA)
  have HDd := Lib.hid (show IsB (gworld w).drew sD ((l.drop 32).take d) from isB_gw iD)
  have HVd := Lib.hid (show IsB (gworld w).drew v l from isB_gw hv)
  obtain ⟨sP, rP, iP⟩ := slice_lh_B (P := Tryz.prog) hv 33 5 Tryz.underlying33 Tryz.sizeU8 E S hE2 (by omega)
  have hpe : (l.drop E).take (S - E) = padOf l := by unfold padOf; rw [← hdd, hE, hS]; congr 1; omega
  rw [hpe] at iP
  have HPd := Lib.hid (show IsB (gworld w).drew sP (padOf l) from isB_gw iP)
  have hl5 := Lib.hid (show (padOf l).length ≤ 1099511627776 from by unfold padOf; rw [List.length_take]; have := padn_lt (dlen l); omega)
  have HZP := Lib.hid hzp
  clear iP hpe hzp
  obtain ⟨k, hk⟩ : ∃ k : Nat, k = fld l 8 8 := ⟨_, rfl⟩
  obtain ⟨c, hc⟩ : ∃ c : Nat, c = fld l 16 4 := ⟨_, rfl⟩
  obtain ⟨f, hf4⟩ : ∃ f : Nat, f = fld l 4 4 := ⟨_, rfl⟩
  have hc4 : c < 4294967296 := by rw [hc]; exact fld4_lt l 16
  have hwc : IntKind.u32.wrap (c : Int) = (c : Int) := IntWalk.u32_in _ (by omega)
  have HK := Lib.hid hk
  have HC := Lib.hid hc
  have HF4 := Lib.hid hf4
  obtain ⟨g, hg⟩ : ∃ g : Bool, g = decide (f = 1) := ⟨_, rfl⟩
  have hgb : ((f : Int) == 1) = g := by rw [hg, Bool.eq_iff_iff]; simp; omega
  have HG := Lib.hid hg
  have HTot := Lib.hid (show total l = S from by rw [hS, hdd]; rfl)
  have HDa := Lib.hid (show dataOf l = (l.drop 32).take d from by rw [hdd]; rfl)
  have HRes := Lib.hid (show ∀ v', nval (getN l) v' = .agg #[.int .u64 (k : Int), .int .u32 (c : Int), .bool g, v'] from fun v' => by rw [hk, hc, hg, hf4]; rfl)
  clear hk hc hf4 hc4 hg
  have HV2 := Lib.hid (show IsB (gworld w).drew.drew v l from isB_gw hv)
  have HV3 := Lib.hid (show IsB (gworld2 w).drew.drew v l from isB_gw2 (isB_gw hv))
  have HD1 := Lib.hid (show IsB (gworld w).drew.drew sD ((l.drop 32).take d) from HDd.out)
  have HD2 := Lib.hid (show IsB (gworld2 w).drew.drew sD ((l.drop 32).take d) from isB_gw2 HDd.out)
  have hl1 := Lib.hid (show (l.take 24).length ≤ 1099511627776 from by rw [List.length_take]; omega)
  have hl2 := Lib.hid (show ((l.drop 32).take d).length ≤ 1099511627776 from by rw [List.length_take]; omega)
  have hl6 := Lib.hid (show ((l.drop 32).take d).length = d from by rw [List.length_take, List.length_drop]; omega)
  have hl3 := Lib.hid (show l.length ≤ 1099511627776 from by omega)
  have hl4 := Lib.hid (show 32 ≤ l.length from by omega)
  have hw1 : IntKind.u64.wrap (s1 : Int) = (s1 : Int) := by rw [IntKind.wrap_u64]; omega
  clear hv hn hf hdd hz hS hp8 hs h1 h2 hE hS3 rA rD iA iD
  go_enter Tryz.func95, Tryz.ntmps95
  go_wp2_with fail
  refine (formed_any _ l _ (isB_gw HV.out) (by rw [HN.out]; omega) (by rw [HN.out]; omega)).mono ?_
  rintro e w' ⟨rfl, rfl⟩
  rw [HF.out]
  go_wp2_with fail
  refine (at_any _ l 20 4 _ (.inr (.inr (.inl rfl))) (isB_gw HV.out) (by rw [HN.out]; omega) (by rw [HN.out]; omega)).mono ?_
  rintro e w' ⟨rfl, rfl⟩
  rw [← HD.out]
  go_wp2_with fail
  refine (size_any (d : Int) _ (by omega) (by omega)).mono ?_
  rintro e w' ⟨rfl, rfl⟩
  rw [HZ.out]
  go_wp2_with fail
  go_region_held3 (fun _ => True) (trivial) (first
    | (go_at_call 123; with_reducible refine (sumOf_any sA sD (l.take 24) ((l.drop 32).take d) _ HAd.out HDd.out hl1.out hl2.out).mono ?_; rintro e w' ⟨rfl, rfl⟩; rw [← H1.out])
    | (go_at_call 122; with_reducible refine (at_24_4 v l _ HVd.out hl3.out hl4.out).mono ?_; rintro e w' ⟨rfl, rfl⟩; rw [← H2.out]))
  go_wp2_with fail
  refine (zero_anyB _ _ _ HPd.out hl5.out).mono ?_
  rintro e w' ⟨rfl, rfl⟩
  rw [HZP.out]
  go_upto_region 13 with fail
  go_cut [8] from 52 to 64 (fun p wx => GotBox w ((l.drop 32).take d) d k c g p wx)
  case first =>
    go_wp2_with fail
    go_region_held3 (fun _ => True) (trivial) (first
      | (go_at_call 122; (with_reducible refine (at_8_8 v l _ ?_ hl3.out hl4.out).mono ?_); (first | with_reducible exact HV2.out | with_reducible exact HV3.out | with_reducible exact HVc.out | with_reducible exact HVe.out); rintro e w' ⟨rfl, rfl⟩; rw [← HK.out])
      | (go_at_call 122; (with_reducible refine (at_16_4 v l _ ?_ hl3.out hl4.out).mono ?_); (first | with_reducible exact HV2.out | with_reducible exact HV3.out | with_reducible exact HVc.out | with_reducible exact HVe.out); rintro e w' ⟨rfl, rfl⟩; rw [← HC.out])
      | (go_at_call 122; (with_reducible refine (at_4_4 v l _ ?_ hl3.out hl4.out).mono ?_); (first | with_reducible exact HV2.out | with_reducible exact HV3.out | with_reducible exact HVc.out | with_reducible exact HVe.out); rintro e w' ⟨rfl, rfl⟩; rw [← HF4.out])
      | (go_at_call 67; with_reducible refine (clone_S sD ((l.drop 32).take d) _ d HD2.out hl2.out hl6.out).mono ?_; rintro e wc ⟨xc, cc, rfl, hownc, hbc⟩; obtain ⟨z0, z1, z2, z3, y0, y1, y2, y3, g0, g1, hsc⟩ := gbox2 hbc; have HVc := Lib.hid (HV3.out.mono hbc (Nat.le_refl _)))
      | (go_at_call 67; with_reducible refine (clone_S sD ((l.drop 32).take d) _ d HD1.out hl2.out hl6.out).mono ?_; rintro e wc ⟨xc, cc, rfl, hownc, hbc⟩; obtain ⟨z0, z1, z2, z3, g0, hsc⟩ := gbox1 hbc; have HVc := Lib.hid (HV2.out.mono hbc (Nat.le_refl _)); have HVe := Lib.hid (isB_zalloc HVc.out)))
    all_goals (go_wp2_with fail; go_meet)
    all_goals first | exact gotBox_new hownc hbc | exact gotBox_set hownc hbc
  case rest =>
    obtain ⟨b, xc, cc, rfl, c0, c1, c2, c3, hown, z0, z1, z2, z3, g0, hbel, hwb, hbs⟩ := hcut
    have hbw : b ≠ w.heap.size := by omega
    have HO := Lib.hid hown
    have HB := Lib.hid hbel
    clear hown hbel
    go_wp2
    refine bodyPost_ret (v := .tuple #[.agg #[.int .u64 (k : Int), .int .u32 (c : Int), .bool g, .slice xc d cc], .int .i64 (S : Int), .nilIface]) (by simp [results, Tryz.results95, go_sem, z0, z1, z2, z3]) rfl ⟨_, by rw [HRes.out, HTot.out], ?_, got_bel HB.out⟩
    rw [HDa.out, hl6.out]
    exact got_fin HO.out

end Go.Proofs.YtllbngopfganjaaGreatDoor.Nd
end

section
namespace Go.Proofs.YtllbngopfganjaaGreatDoor.Nd
open Go.RowKit Go.Cor

/-- What stands in the two blocks behind the data's copy. -/
def RGot (w : World) (D : List UInt8) (d k c : Nat) (g : Bool) (wx : World) : Prop :=
  ∃ x cd, Boxed wx (w.heap.size + 1) ⟨k, c, g, []⟩ (.slice x d cd) ∧ wx.ownsRow (w.heap.size + 2) 5 1 (.slice x d cd) d (bvs D) ∧ Boxed wx w.heap.size ⟨0, 0, false, []⟩ (.slice none 0 0) ∧
    (∀ o, wx.frozen? ⟨w.heap.size, o, none⟩ = false) ∧ (∀ o, wx.frozen? ⟨w.heap.size + 1, o, none⟩ = false) ∧ Below w.heap.size w wx ∧ w.heap.size + 2 ≤ wx.heap.size
theorem RGot.mono {w wx wy : World} {D : List UInt8} {d k c : Nat} {g : Bool} {B : Nat} (h : RGot w D d k c g wx) (hb : Below B wx wy) (hB : wx.heap.size ≤ B) : RGot w D d k c g wy := by
  obtain ⟨x, cd, h1, h2, h3, h4, h5, h6, h7⟩ := h
  refine ⟨x, cd, h1.mono hb (by omega), ownsRow_below h2 hb hB, h3.mono hb (by omega), fun o => ?_, fun o => ?_, h6.trans (hb.mono (by omega)), Nat.le_trans h7 hb.size⟩
  · rw [hb.frozen (p := ⟨w.heap.size, o, none⟩) (by show w.heap.size < B; omega)]
    exact h4 o
  · rw [hb.frozen (p := ⟨w.heap.size + 1, o, none⟩) (by show w.heap.size + 1 < B; omega)]
    exact h5 o
end Go.Proofs.YtllbngopfganjaaGreatDoor.Nd
end
