/- Sum, Head, Fs, Posn, Srch, Ins. -/
import Derived.Test.YtoblbipkkdiddaaGreatDoorM4
import Derived.Test.YtoblbipkkdiddaaGreatDoorM2
import Derived.Lib.SliceRun
import Derived.WalkSpells
import Derived.WalkLawsBesides
import Derived.Deep.CutRange
import Derived.Deep.RegionHeld3
import Derived.BigQuiet
import Derived.Laws.StructEq
import Derived.Lib.Hide
import Derived.LaidEql
import Derived.IntWalk
import Derived.Outline
import Derived.ArgAppend
import Derived.Lib.Overlaps
import Derived.Deep.RegionLaw
set_option linter.unusedVariables false
set_option linter.unusedSimpArgs false

section
namespace Go.Proofs.YtoblbipkkdiddaaGreatDoor.Nd
open Go.RowKit Go.Cor

theorem ret_int {k : IntKind} {a b : Int} (h : a = b) : Ending.returned (.int k a) = .returned (.int k b) := by rw [h]

theorem step_bits {r b : Nat} (hr : r < 4294967296) (hb : b < 2) :
    bits .xor .u32 (r : Int) (b : Int) = ((r ^^^ b : Nat) : Int) ∧ bits .and .u32 ((r ^^^ b : Nat) : Int) 1 = (((r ^^^ b) % 2 : Nat) : Int) ∧ r ^^^ b < 4294967296 ∧ (r ^^^ b) / 2 = r / 2 ∧ (r ^^^ b) % 2 = (r + b) % 2 := by
  have hlt : r ^^^ b < 4294967296 := Nat.xor_lt_two_pow (n := 32) hr (by omega)
  refine ⟨u32_xor_nat r b hr (by omega), ?_, hlt, ?_, xor_mod2 r b⟩
  · have := u32_and_nat (r ^^^ b) 1 hlt (by decide)
    rw [nat_mask1] at this
    exact this
  · have := Nat.xor_div_two_pow (a := r) (b := b) (n := 1)
    rw [show (2 : Nat) ^ 1 = 2 from rfl, Nat.div_eq_of_lt hb, Nat.xor_zero] at this
    exact this
theorem step_yes {r b : Nat} (hr : r < 4294967296) (hb : b < 2) (h : (bits .and .u32 (bits .xor .u32 (r : Int) (b : Int)) 1 == 1) = true) :
    bits .xor .u32 (bits .xor .u32 (r : Int) (b : Int) / 2) 2197175160 = ((cstep r b : Nat) : Int) := by
  obtain ⟨h1, h2, h3, h4, h5⟩ := step_bits hr hb
  rw [h1, h2] at h
  have h' : (((r ^^^ b) % 2 : Nat) : Int) = 1 := by simpa using h
  rw [h1, show ((r ^^^ b : Nat) : Int) / 2 = ((r / 2 : Nat) : Int) from by omega]
  have e := u32_xor_nat (r / 2) 2197175160 (by omega) (by decide)
  rw [show ((2197175160 : Nat) : Int) = 2197175160 from rfl] at e
  rw [e, cstep, if_neg (by omega)]
theorem step_no {r b : Nat} (hr : r < 4294967296) (hb : b < 2) (h : (bits .and .u32 (bits .xor .u32 (r : Int) (b : Int)) 1 == 1) = false) :
    bits .xor .u32 (r : Int) (b : Int) / 2 = ((cstep r b : Nat) : Int) := by
  obtain ⟨h1, h2, h3, h4, h5⟩ := step_bits hr hb
  rw [h1, h2] at h
  have h' : ¬ (((r ^^^ b) % 2 : Nat) : Int) = 1 := by simpa using h
  rw [h1, cstep, if_pos (by omega)]
  omega

theorem step_any (r b : Nat) (w : World) (hr : r < 4294967296) (hb : b < 2) :
    Calls Tryz.prog 127 #[.int .u32 r, .int .u8 b] w fun e w' => e = .returned (.int .u32 (cstep r b : Nat)) ∧ w = w' := by
  go_enter Tryz.func127, Tryz.ntmps127
  go_wp2
  · have h : (bits .and .u32 (bits .xor .u32 (r : Int) (b : Int)) 1 == 1) = true := by assumption
    go_ret
    exact ⟨ret_int (step_yes hr hb h), rfl⟩
  · have h : (bits .and .u32 (bits .xor .u32 (r : Int) (b : Int)) 1 == 1) = false := by assumption
    go_ret
    exact ⟨ret_int (step_no hr hb h), rfl⟩

theorem csteps_mod_step (k r x m : Nat) (hm : Hid (m = x / 2 ^ k)) : m % 2 < 2 ∧ Hid (cstep (csteps k r x) (m % 2) = csteps (k + 1) r x) ∧ Hid (m / 2 = x / 2 ^ (k + 1)) := by
  refine ⟨by omega, ?_, ?_⟩
  · show _ = _
    rw [csteps_succ, hm.out]
  · show _ = _
    rw [hm.out, Nat.div_div_eq_div_mul, Nat.pow_succ]

theorem creg_snoc {r : Nat} {l : List UInt8} {i : Nat} (h : i < l.length) : creg r (l.take (i + 1)) = csteps 8 (creg r (l.take i)) (l.getD i 0).toNat := by
  rw [List.take_succ_eq_append_getElem h, creg_append, List.getD_eq_getElem?_getD, List.getElem?_eq_getElem h]
  rfl

theorem xor_ones (s : Nat) (h : s < 4294967296) : bits .xor .u32 IntKind.u32.max (s : Int) = ((4294967295 - s : Nat) : Int) := by
  have e := u32_xor_nat 4294967295 s (by decide) h
  rw [show ((4294967295 : Nat) : Int) = IntKind.u32.max from rfl] at e
  rw [e]
  congr 1
  apply Nat.eq_of_testBit_eq
  intro i
  rw [Nat.testBit_xor, show 4294967295 - s = 2 ^ 32 - (s + 1) from by omega, Nat.testBit_two_pow_sub_succ (n := 32) (by omega), show 4294967295 = 2 ^ 32 - 1 from rfl, Nat.testBit_two_pow_sub_one]
  by_cases hi : i < 32
  · simp [hi]
  · have : s.testBit i = false := Nat.testBit_lt_two_pow (Nat.lt_of_lt_of_le h (by
      have : 2 ^ 32 ≤ 2 ^ i := Nat.pow_le_pow_right (by decide) (by omega)
      omega))
    simp [hi, this]

set_option maxHeartbeats 400000 in
theorem more_any (s : Nat) (v : Value) (l : List UInt8) (w : World) (hs : s < 4294967296) (hv : IsB w v l) (hl : l.length ≤ 1099511627776) :
    Calls Tryz.prog 102 #[.int .u32 s, v] w fun e w' => e = .returned (.int .u32 (cmore s l : Nat)) ∧ w = w' := by
  obtain ⟨x, cap, rfl, hlc, hcm, hnc, hcell⟩ := hv
  have HC : Hid (∀ i, i < l.length → ∃ b off, x = some ⟨b, off, none⟩ ∧ w.cell? ⟨b, off + i, none⟩ = some (.int .u8 ((l.getD i 0).toNat : Int))) := by
    intro i hi
    rcases hcell with hE | ⟨b, off, rfl, hc⟩
    · omega
    · exact ⟨b, off, rfl, hc i hi⟩
  clear hcell hnc
  have hx := xor_ones s hs
  obtain ⟨t, ht⟩ : ∃ t : Nat, t = 4294967295 - s := ⟨_, rfl⟩
  rw [← ht] at hx
  have htl : t < 4294967296 := by omega
  have HT := Lib.hid ht
  clear ht
  go_enter Tryz.func102, Tryz.ntmps102
  go_wp2
  clear hx
  go_loop [5, 12] (fun g c => ∃ i r : Nat, i ≤ l.length ∧ r < 4294967296 ∧ Hid (r = creg t (l.take i)) ∧ g = .int .u32 (r : Int) ∧ c = .int .i64 i) (fun _ c => l.length - (intOf c).toNat)
  case atStart => exact ⟨0, t, by omega, htl, rfl, rfl, rfl⟩
  case round =>
    obtain ⟨i, r, hi, hr, hreg, rfl, rfl⟩ := hrel
    by_cases hlt : i < l.length
    · obtain ⟨b, off, rfl, hcell⟩ := HC.out i hlt
      have hy := (l.getD i 0).toNat_lt
      obtain ⟨y, hyy⟩ : ∃ y : Nat, y = (l.getD i 0).toNat := ⟨_, rfl⟩
      rw [← hyy] at hy hcell
      have HY := Lib.hid hyy
      clear hyy
      go_wp2
      go_loop [5, 7, 16] (fun g z c => ∃ k r2 m : Nat, k ≤ 8 ∧ r2 < 4294967296 ∧ m < 256 ∧ Hid (r2 = csteps k r y) ∧ Hid (m = y / 2 ^ k) ∧ g = .int .u32 (r2 : Int) ∧ z = .int .u8 (m : Int) ∧ c = .int .i64 k) (fun _ _ c => 8 - (intOf c).toNat)
      case atStart => exact ⟨0, r, y, by omega, hr, by omega, rfl, by show y = _; simp, rfl, rfl, rfl⟩
      case round =>
        obtain ⟨k, r2, m, hk, hr2, hm, hr2e, hme, rfl, rfl, rfl⟩ := hrel
        by_cases hk8 : k < 8
        · have hst := csteps_mod_step k r y m hme
          have hb2 := hst.1
          have hb := u8_and_nat m 1 hm (by decide)
          rw [nat_mask1, show ((1 : Nat) : Int) = 1 from rfl] at hb
          have hcl := cstep_lt (m % 2) hr2
          obtain ⟨q, hq⟩ : ∃ q : Nat, q = m % 2 := ⟨_, rfl⟩
          rw [← hq] at hb hb2 hst hcl
          clear hq
          go_wp2_with fail
          refine (step_any r2 q _ hr2 hb2).mono ?_
          rintro e w' ⟨rfl, rfl⟩
          clear hb
          go_wp2
          go_round
          case rel => exact ⟨k + 1, cstep r2 q, m / 2, by omega, hcl, by omega, by rw [hr2e.out]; exact (hr2e.out ▸ hst.2.1.out), hst.2.2, rfl, by go_num, by go_num⟩
          case measure => simp [intOf]; omega
        · obtain rfl : k = 8 := by omega
          go_wp2
          go_round
          case rel => exact ⟨i + 1, r2, by omega, hr2, by show _ = _; rw [creg_snoc hlt, ← HY.out, ← hreg.out]; exact hr2e.out, rfl, by go_num⟩
          case measure => simp [intOf]; omega
    · obtain rfl : i = l.length := by omega
      have hx := xor_ones r hr
      go_wp2
      go_ret
      exact ⟨ret_int (by rw [hreg.out, HT.out, List.take_length]; rfl), rfl⟩

theorem of_any (v : Value) (l : List UInt8) (w : World) (hv : IsB w v l) (hl : l.length ≤ 1099511627776) :
    Calls Tryz.prog 103 #[v] w fun e w' => e = .returned (.int .u32 (crc l : Nat)) ∧ w = w' := by
  go_enter Tryz.func103, Tryz.ntmps103
  go_wp2_with fail
  refine (more_any 0 _ l _ (by decide) hv hl).mono ?_
  rintro e w' ⟨rfl, rfl⟩
  go_wp2
  go_ret
  exact ⟨rfl, rfl⟩

/-- What Put tells, as a row of its own. -/
theorem put_okO (v : Value) (l : List UInt8) (n : Nat) (s : Nat) (w : World) (h : Sized (s : Int)) (hn : n ≤ great (s : Int)) (hv : IsB w v l) (hl : l.length ≤ 1099511627776) :
    Calls Tryz.prog 112 #[v, .int .u64 n, .int .i64 (s : Int)] w fun e w' =>
      ∃ g cap, e = .returned (.tuple #[.slice (some ⟨g, 0, none⟩) (l.length + s) cap, .nilIface]) ∧ w'.ownsRow w.heap.size 5 1 (.slice (some ⟨g, 0, none⟩) (l.length + s) cap) (l.length + s) (bvs (l ++ le n s)) ∧ w.heap.size ≤ g ∧ g < w'.heap.size ∧ Below w.heap.size w w' := by
  refine (put_ok v l n s w h hn hv hl).mono ?_
  rintro e w' ⟨v', rfl, hown, hb⟩
  rw [show (l ++ le n s).length = l.length + s from by simp [length_le]] at *
  have hs1 : 1 ≤ s := by unfold Sized at h; omega
  rcases hown.2 with ⟨_, h0⟩ | ⟨g, cap, cur, rfl, h1, h2, h3⟩
  · omega
  · exact ⟨g, cap, rfl, hown, h1, (Array.getElem?_eq_some_iff.1 h2).1, hb⟩

/-- What is sealed. -/
def sealed (l : List UInt8) : List UInt8 := l ++ le (crc l) 4
theorem length_sealed (l : List UInt8) : (sealed l).length = l.length + 4 := by simp [sealed, length_le]
theorem great_4 : great 4 = 4294967295 := rfl

theorem seal_any (v : Value) (l : List UInt8) (w : World) (hv : IsB w v l) (hl : l.length ≤ 1099511627776) :
    Calls Tryz.prog 113 #[v] w fun e w' =>
      ∃ g cap, e = .returned (.slice (some ⟨g, 0, none⟩) (l.length + 4) cap) ∧ w'.ownsRow w.heap.size 5 1 (.slice (some ⟨g, 0, none⟩) (l.length + 4) cap) (l.length + 4) (bvs (sealed l)) ∧ w.heap.size ≤ g ∧ g < w'.heap.size ∧ Below w.heap.size w w' := by
  have hc := crc_lt l
  go_enter Tryz.func113, Tryz.ntmps113
  go_wp2_with fail
  refine (of_any _ l _ hv hl).mono ?_
  rintro e w' ⟨rfl, rfl⟩
  go_wp2_with fail
  refine (put_okO _ l (crc l) 4 _ (.inr (.inr (.inl rfl))) (by rw [show ((4 : Nat) : Int) = 4 from rfl, great_4]; omega) hv hl).mono ?_
  rintro e w' ⟨g, cap, rfl, hown, hg1, hg2, hb⟩
  go_wp2
  go_ret
  exact ⟨g, cap, rfl, hown, hg1, hg2, hb⟩

set_option maxHeartbeats 400000 in
theorem clone_any (v : Value) (l : List UInt8) (w : World) (hv : IsB w v l) (hl : l.length ≤ 1099511627776) :
    Calls Tryz.prog 79 #[v] w fun e w' =>
      ∃ v', e = .returned v' ∧ w'.ownsRow w.heap.size 5 1 v' l.length (bvs l) ∧ Below w.heap.size w w' := by
  obtain ⟨i0, hi, hz0, hz1, hz2⟩ := info_parts Tryz.infoU8
  have q22 : ∀ (w : World) (a : Option Addr) (n c n' c' : Nat), (binOp .eql 45 (.slice a n c) (.slice none n' c')).run Tryz.prog w = .ok (.bool a.isNone) w := fun w a n c n' c' => Lib.run_eql_slice_nil w _ _ a n c n' c' Tryz.underlying45
  have HV := Lib.hid hv
  obtain ⟨x, cap, rfl, hlc, hcm, hnc, hcell⟩ := hv
  clear hcell
  cases x with
  | none =>
    obtain rfl := hnc rfl
    obtain rfl : l = [] := List.eq_nil_of_length_eq_zero (by omega)
    go_enter Tryz.func79, Tryz.ntmps79
    go_wp2
    go_ret
    exact ⟨_, rfl, ⟨rfl, .inl ⟨rfl, rfl⟩⟩, Below.refl _ _⟩
  | some a =>
    clear hnc
    go_enter Tryz.func79, Tryz.ntmps79
    go_wp2_with (at_builtin; refine wpList_append_B (by rfl) _ _ 45 rfl w.heap.size 5 i0 Tryz.underlying45 hi hz0 hz1 hz2 _ [] 0 rfl (World.ownsRow_lit _ #[] 0 (Nat.le_refl _) (Nat.zero_le _) rfl) rfl _ l rfl (HV.out.mono ((Below.refl _ _).alloc (Nat.le_refl _) _) (Nat.le_refl _)) (by simp; omega) (by simp) ?_; intro v4 w4 hown4 hb4)
    go_ret
    exact ⟨_, rfl, by simpa using hown4, ((Below.refl _ _).alloc (Nat.le_refl _) _).trans hb4⟩

end Go.Proofs.YtoblbipkkdiddaaGreatDoor.Nd
end

section
namespace Go.Proofs.YtoblbipkkdiddaaGreatDoor
open Go.RowKit Go.Cor

theorem Tryz.sizeInt : (Tryz.prog.info? 3).map (·.size) = some 1 := by kernel_rfl
/-- Numbers of four bytes, one behind the other. -/
def lef : List Nat → List UInt8
  | [] => []
  | n :: r => le n 4 ++ lef r
theorem lef_snoc (l : List Nat) (n : Nat) : lef (l ++ [n]) = lef l ++ le n 4 := by
  induction l with
  | nil => simp [lef]
  | cons m r ih => simp only [List.cons_append, lef, ih, List.append_assoc]
theorem length_lef (l : List Nat) : (lef l).length = 4 * l.length := by
  induction l with
  | nil => rfl
  | cons m r ih => simp only [lef, List.length_append, length_le, ih, List.length_cons]; omega
def nums (l : List Nat) : List Value := l.map fun (n : Nat) => Value.int .i64 (n : Int)
theorem nums_get {l : List Nat} {i : Nat} (h : i < l.length) : (nums l)[i]? = some (.int .i64 ((l.getD i 0 : Nat) : Int)) := by
  simp [nums, List.getElem?_eq_getElem h, List.getD_eq_getElem?_getD]
theorem lef_take {l : List Nat} {i : Nat} (h : i < l.length) : lef (l.take (i + 1)) = lef (l.take i) ++ le (l.getD i 0) 4 := by
  rw [List.take_succ_eq_append_getElem h, lef_snoc]
  simp [List.getD_eq_getElem?_getD, List.getElem?_eq_getElem h]

set_option maxHeartbeats 1000000 in
theorem laid_h (v : Value) (xs : List Nat) (w : World) (hv : IsX w 1 v xs.length (nums xs)) (hx : ∀ i, xs.getD i 0 ≤ 4294967295) (hl : xs.length ≤ 8) :
    Calls Tryz.prog 90 #[v] w fun e w' =>
      ∃ g cap, e = .returned (.slice (some ⟨g, 0, none⟩) (4 * xs.length + 4) cap) ∧ w'.ownsRow w.heap.size 5 1 (.slice (some ⟨g, 0, none⟩) (4 * xs.length + 4) cap) (4 * xs.length + 4) (bvs (Nd.sealed (lef xs))) ∧ Below w.heap.size w w' := by
  have HV := Lib.hid hv
  obtain ⟨N, hN⟩ : ∃ N, xs.length = N := ⟨_, rfl⟩
  have hlen := fun W => len_X (P := Tryz.prog) hv 69 3 _ Tryz.underlying69 W
  rw [hN] at hlen hl ⊢
  have HN := Lib.hid hN
  have HXX := Lib.hid hx
  have hgr : ∀ i, xs.getD i 0 ≤ great ((4 : Nat) : Int) := fun i => by rw [show ((4 : Nat) : Int) = 4 from rfl, Nd.great_4]; exact hx i
  have HG := Lib.hid hgr
  clear hv hN hx hgr
  go_enter Tryz.func90, Tryz.ntmps90
  go_wp2_with fail
  go_loopw [3, 8] (fun b c wr => ∃ i : Nat, i ≤ N ∧ c = .int .i64 i ∧ Hid (IsB wr b (lef (xs.take i))) ∧ Hid (Below w.heap.size w wr)) (fun _ c _ => N - (intOf c).toNat)
  case atStart => exact ⟨0, Nat.zero_le _, rfl, Lib.hid (IsB.nil _), Lib.hid (Below.refl _ _)⟩
  case round =>
    obtain ⟨i, hiN, rfl, HB, HW⟩ := hrel
    by_cases hlt : i < N
    · obtain ⟨b, o, hidx, _, hcell⟩ := indexAt_X (HV.out.mono HW.out (Nat.le_refl _)) 69 3 Tryz.underlying69 Tryz.sizeInt i (by rw [HN.out]; exact hlt)
      have hc : wr.cell? ⟨b, o, none⟩ = some (.int .i64 ((xs.getD i 0 : Nat) : Int)) := by
        have h0 := hcell 0 (by omega)
        rw [Nat.mul_one, Nat.add_zero, Nat.add_zero, nums_get (by rw [HN.out]; exact hlt)] at h0
        exact h0
      have hb := HXX.out i
      have HT := Lib.hid (lef_take (l := xs) (i := i) (by rw [HN.out]; exact hlt))
      obtain ⟨x, hxi⟩ : ∃ x, xs.getD i 0 = x := ⟨_, rfl⟩
      have HGx := Lib.hid (HG.out i)
      rw [hxi] at hc hb HT HGx
      have HL := Lib.hid (show (lef (xs.take i)).length ≤ 1099511627776 by rw [length_lef]; simp; have := HN.out; omega)
      have hsz := HW.out.size
      clear hcell hxi
      go_wp2_with fail
      refine (Nd.put_okO _ _ x 4 _ (.inr (.inr (.inl rfl))) HGx.out HB.out HL.out).mono ?_
      rintro e w1 ⟨g, cap, rfl, hown, hg1, hg2, hb1⟩
      have HB1 := Lib.hid (show IsB w1 _ (lef (xs.take (i + 1))) by rw [HT.out]; exact IsB.own hown (by rw [List.length_append, length_le]))
      have HW1 := Lib.hid (HW.out.trans (hb1.mono hsz))
      clear hown hg1 hg2 hb1
      go_wp2
      go_roundw
      case rel => exact ⟨i + 1, by omega, by go_num, HB1, HW1⟩
      case measure => simp [intOf]; omega
    · obtain rfl : i = N := by omega
      have hb := HB.out
      rw [List.take_of_length_le (by rw [HN.out]; omega)] at hb
      have HBF := Lib.hid hb
      have hsz := HW.out.size
      clear hb
      go_wp2_with fail
      refine (Nd.seal_any _ _ _ HBF.out (by rw [length_lef, HN.out]; omega)).mono ?_
      rintro e w1 ⟨g, cap, rfl, hown, hg1, hg2, hb1⟩
      rw [length_lef, HN.out] at hown ⊢
      have HO := Lib.hid (ownsRow_base hown hsz)
      have HW1 := Lib.hid (HW.out.trans (hb1.mono hsz))
      clear hown hg1 hg2 hb1
      go_wp2
      go_ret
      exact ⟨g, cap, rfl, HO.out, HW1.out⟩

theorem superCan_yes (v g : Nat) (w : World) (h1 : 1 ≤ v) (h2 : v < 10) (h3 : 1 ≤ g) (h4 : g < 10) :
    Calls Tryz.prog 89 #[.agg #[.int .i64 (v : Int), .int .i64 (g : Int)]] w fun e w' => e = .returned (.bool true) ∧ Below w.heap.size w w' := by
  have a1 : (1 : Int) ≤ (v : Int) := by omega
  have a2 : (v : Int) ≤ 65535 := by omega
  have a3 : (1 : Int) ≤ (g : Int) := by omega
  have a4 : (g : Int) ≤ 2147483647 := by omega
  clear h1 h2 h3 h4
  go_enter Tryz.func89, Tryz.ntmps89
  go_wp2
  go_ret
  exact ⟨rfl, (Below.refl _ w).alloc (Nat.le_refl _) _⟩
theorem manifestCan_yes (v g e : Nat) (b : Bool) (w : World) (h1 : 1 ≤ v) (h2 : v < 10) (h3 : 1 ≤ g) (h4 : g < 10) (h5 : e ≤ 2147483647) :
    Calls Tryz.prog 116 #[.agg #[.int .i64 (v : Int), .int .i64 (g : Int), .int .i64 (e : Int), .bool b]] w fun e w' => e = .returned (.bool true) ∧ Below w.heap.size w w' := by
  have a1 : (0 : Int) ≤ (e : Int) := by omega
  have a2 : (e : Int) ≤ 2147483647 := by omega
  go_enter Tryz.func116, Tryz.ntmps116
  go_wp2_with fail
  refine (superCan_yes v g _ h1 h2 h3 h4).mono ?_
  rintro e w1 ⟨rfl, hb⟩
  have HK := ((Blk.new w #[.int .i64 (v : Int), .int .i64 (g : Int), .int .i64 (e : Int), .bool b] 104).below hb (by simp)).cell 2 rfl
  have HB := Lib.hid (((Below.refl w.heap.size w).alloc (Nat.le_refl _) _).trans (hb.mono (by simp)))
  clear hb
  go_wp2
  go_ret
  exact ⟨rfl, HB.out⟩
theorem epochCan_any (e : Int) (w : World) :
    Calls Tryz.prog 52 #[.int .i64 e] w fun r w' => r = .returned (.bool (decide (0 ≤ e ∧ e ≤ 2147483647))) ∧ w = w' := by
  by_cases h1 : 0 ≤ e
  · by_cases h2 : e ≤ 2147483647
    · rw [decide_eq_true ⟨h1, h2⟩]
      go_enter Tryz.func52, Tryz.ntmps52
      go_wp2
      go_ret
      exact ⟨rfl, rfl⟩
    · rw [decide_eq_false (fun h => h2 h.2)]
      go_enter Tryz.func52, Tryz.ntmps52
      go_wp2
      go_ret
      exact ⟨rfl, rfl⟩
  · rw [decide_eq_false (fun h => h1 h.1)]
    go_enter Tryz.func52, Tryz.ntmps52
    go_wp2
    go_ret
    exact ⟨rfl, rfl⟩
theorem can_yes (v m : Nat) (w : World) (h1 : 1 ≤ v) (h2 : v < 10) (h3 : 16 ≤ m) (h4 : m ≤ 16777216) :
    Calls Tryz.prog 51 #[.int .i64 (v : Int), .int .i64 (m : Int)] w fun r w' => r = .returned (.bool true) ∧ w = w' := by
  have a1 : (1 : Int) ≤ (v : Int) := by omega
  have a2 : (v : Int) ≤ 65535 := by omega
  have a3 : (16 : Int) ≤ (m : Int) := by omega
  have a4 : (m : Int) ≤ 16777216 := by omega
  clear h1 h2 h3 h4
  go_enter Tryz.func51, Tryz.ntmps51
  go_wp2
  go_ret
  exact ⟨rfl, rfl⟩

/-- Bytes of a size, whatever they are. -/
def OwnB (w w' : World) (v : Value) (n : Nat) : Prop := ∃ X : List UInt8, X.length = n ∧ w'.ownsRow w.heap.size 5 1 v n (bvs X)
theorem length_sealed (l : List UInt8) : (Nd.sealed l).length = l.length + 4 := by simp [Nd.sealed, length_le]
theorem putSuper_ok (v g : Nat) (w : World) (h1 : 1 ≤ v) (h2 : v < 10) (h3 : 1 ≤ g) (h4 : g < 10) :
    Calls Tryz.prog 55 #[.agg #[.int .i64 (v : Int), .int .i64 (g : Int)]] w fun e w' =>
      ∃ q cap, e = .returned (.tuple #[.slice (some ⟨q, 0, none⟩) 16 cap, .nilIface]) ∧ OwnB w w' (.slice (some ⟨q, 0, none⟩) 16 cap) 16 ∧ Below w.heap.size w w' := by
  go_enter Tryz.func55, Tryz.ntmps55
  go_wp2_with fail
  refine (superCan_yes v g _ h1 h2 h3 h4).mono ?_
  rintro e w1 ⟨rfl, hb⟩
  have HK := (Blk.new w #[.int .i64 (v : Int), .int .i64 (g : Int)] 134).below hb (by simp)
  have c0 := HK.cell 0 rfl
  have c1 := HK.cell 1 rfl
  have HB := Lib.hid (((Below.refl w.heap.size w).alloc (Nat.le_refl _) _).trans (hb.mono (by simp)))
  clear hb HK
  go_wp2_with fail
  have HI := IsX.lit w1 #[.int .i64 1129466178, .int .i64 (v : Int), .int .i64 (g : Int)] 3 1 3 rfl (by unfold maxLen; omega)
  refine (laid_h _ [1129466178, v, g] _ HI (fun i => by
    rcases i with _ | _ | _ | i <;> simp <;> omega) (by simp)).mono ?_
  rintro e w2 ⟨q, cap, rfl, hown, hb2⟩
  have HO := Lib.hid (show OwnB w w2 (.slice (some ⟨q, 0, none⟩) 16 cap) 16 from ⟨_, by rw [length_sealed, length_lef]; rfl, ownsRow_base hown (by have := HB.out.size; simp; omega)⟩)
  have HB2 := Lib.hid ((HB.out.alloc HB.out.size _).trans (hb2.mono (by have := HB.out.size; simp; omega)))
  clear hown hb2 HI
  go_wp2
  go_ret2
  exact ⟨q, cap, rfl, HO.out, HB2.out⟩
theorem putManifest_ok (v g e : Nat) (b : Bool) (w : World) (h1 : 1 ≤ v) (h2 : v < 10) (h3 : 1 ≤ g) (h4 : g < 10) (h5 : e ≤ 2147483647) :
    Calls Tryz.prog 92 #[.agg #[.int .i64 (v : Int), .int .i64 (g : Int), .int .i64 (e : Int), .bool b]] w fun r w' =>
      ∃ q cap, r = .returned (.tuple #[.slice (some ⟨q, 0, none⟩) 24 cap, .nilIface]) ∧ OwnB w w' (.slice (some ⟨q, 0, none⟩) 24 cap) 24 ∧ Below w.heap.size w w' := by
  cases b with
  | false =>
    go_enter Tryz.func92, Tryz.ntmps92
    go_wp2_with fail
    refine (manifestCan_yes v g e false _ h1 h2 h3 h4 h5).mono ?_
    rintro r w1 ⟨rfl, hb⟩
    have HK := (Blk.new w #[.int .i64 (v : Int), .int .i64 (g : Int), .int .i64 (e : Int), .bool false] 104).below hb (by simp)
    have c0 := HK.cell 0 rfl
    have c1 := HK.cell 1 rfl
    have c2 := HK.cell 2 rfl
    have c3 := HK.cell 3 rfl
    have HB := Lib.hid (((Below.refl w.heap.size w).alloc (Nat.le_refl _) _).trans (hb.mono (by simp)))
    clear hb HK
    go_wp2_with fail
    have HI := IsX.lit w1 #[.int .i64 1296125513, .int .i64 (v : Int), .int .i64 (g : Int), .int .i64 (e : Int), .int .i64 0] 3 1 5 rfl (by unfold maxLen; omega)
    refine (laid_h _ [1296125513, v, g, e, 0] _ HI (fun i => by
      rcases i with _ | _ | _ | _ | _ | i <;> simp <;> omega) (by simp)).mono ?_
    rintro e w2 ⟨q, cap, rfl, hown, hb2⟩
    have HO := Lib.hid (show OwnB w w2 (.slice (some ⟨q, 0, none⟩) 24 cap) 24 from ⟨_, by rw [length_sealed, length_lef]; rfl, ownsRow_base hown (by have := HB.out.size; simp; omega)⟩)
    have HB2 := Lib.hid ((HB.out.alloc HB.out.size _).trans (hb2.mono (by have := HB.out.size; simp; omega)))
    clear hown hb2 HI
    go_wp2
    go_ret2
    exact ⟨q, cap, rfl, HO.out, HB2.out⟩
  | true =>
    go_enter Tryz.func92, Tryz.ntmps92
    go_wp2_with fail
    refine (manifestCan_yes v g e true _ h1 h2 h3 h4 h5).mono ?_
    rintro r w1 ⟨rfl, hb⟩
    have HK := (Blk.new w #[.int .i64 (v : Int), .int .i64 (g : Int), .int .i64 (e : Int), .bool true] 104).below hb (by simp)
    have c0 := HK.cell 0 rfl
    have c1 := HK.cell 1 rfl
    have c2 := HK.cell 2 rfl
    have c3 := HK.cell 3 rfl
    have HB := Lib.hid (((Below.refl w.heap.size w).alloc (Nat.le_refl _) _).trans (hb.mono (by simp)))
    clear hb HK
    go_wp2_with fail
    have HI := IsX.lit w1 #[.int .i64 1296125513, .int .i64 (v : Int), .int .i64 (g : Int), .int .i64 (e : Int), .int .i64 1] 3 1 5 rfl (by unfold maxLen; omega)
    refine (laid_h _ [1296125513, v, g, e, 1] _ HI (fun i => by
      rcases i with _ | _ | _ | _ | _ | i <;> simp <;> omega) (by simp)).mono ?_
    rintro e w2 ⟨q, cap, rfl, hown, hb2⟩
    have HO := Lib.hid (show OwnB w w2 (.slice (some ⟨q, 0, none⟩) 24 cap) 24 from ⟨_, by rw [length_sealed, length_lef]; rfl, ownsRow_base hown (by have := HB.out.size; simp; omega)⟩)
    have HB2 := Lib.hid ((HB.out.alloc HB.out.size _).trans (hb2.mono (by have := HB.out.size; simp; omega)))
    clear hown hb2 HI
    go_wp2
    go_ret2
    exact ⟨q, cap, rfl, HO.out, HB2.out⟩

end Go.Proofs.YtoblbipkkdiddaaGreatDoor
end

section
namespace Go.Proofs.YtoblbipkkdiddaaGreatDoor
open Go.RowKit Go.Cor

/-- The bytes that a name has. -/
def view (d : Dsk) (n : ByteArray) : Option (List UInt8) := (tfind d.now n).map fun k => (fat d.files k).b
/-- A disk that is up, and in order. -/
structure Fs (d : Dsk) (k : Nat) : Prop where
  up : d.armed = none
  ok : d.Ok k
  inj : d.now.Pairwise (fun a b => a.2 ≠ b.2)

theorem tfind_append (a b : Tbl) (m : ByteArray) : tfind (a ++ b) m = (tfind a m).or (tfind b m) := by
  induction a with
  | nil => simp [tfind]
  | cons e r ih =>
    rw [List.cons_append, tfind.eq_2, tfind.eq_2 m e r]
    split
    · simp
    · exact ih
theorem tfind_wout (l : Tbl) (n m : ByteArray) : tfind (wout l n) m = if m = n then none else tfind l m := by
  split
  · rename_i h; subst h; exact wout_find l m
  · rename_i h
    induction l with
    | nil => rfl
    | cons e r ih =>
      by_cases he : e.1 = n
      · have h1 : wout (e :: r) n = wout r n := by simp [wout, he]
        rw [h1, ih, tfind.eq_2, if_neg (fun h2 => h (h2.symm.trans he))]
      · have h1 : wout (e :: r) n = e :: wout r n := by simp [wout, he]
        rw [h1, tfind.eq_2, tfind.eq_2 m e r, ih]
theorem tfind_wth (l : Tbl) (n m : ByteArray) (f : Nat) : tfind (wth l n f) m = if m = n then some f else tfind l m := by
  unfold wth
  rw [tfind_append, tfind.eq_2]
  by_cases h : m = n
  · subst h
    have h1 : tfind ((wout l m).take (pos (wout l m) m)) m = none := by
      rw [tfind_none]
      intro e he
      exact tfind_none.1 (wout_find l m) e (List.mem_of_mem_take he)
    rw [h1, if_pos rfl, if_pos rfl]
    rfl
  · rw [if_neg h, if_neg (fun e : n = m => h e.symm), ← tfind_append, List.take_append_drop, tfind_wout, if_neg h]
theorem wth_perm (l : Tbl) (n : ByteArray) (f : Nat) : (wth l n f).Perm ((n, f) :: wout l n) := by
  unfold wth
  refine List.perm_middle.trans ?_
  rw [List.take_append_drop]
theorem wout_parts {l : Tbl} (hs : Sorted l) {n : ByteArray} {f : Nat} (h : tfind l n = some f) : l = l.take (pos l n) ++ (n, f) :: l.drop (pos l n + 1) ∧ wout l n = l.take (pos l n) ++ l.drop (pos l n + 1) := by
  have h1 := tfind_at hs h
  obtain ⟨hlt, he⟩ := List.getElem?_eq_some_iff.1 h1
  refine ⟨?_, by rw [← erase_pos hs h, erase_take_drop]⟩
  conv => lhs; rw [← List.take_append_drop (pos l n) l]
  rw [List.drop_eq_getElem_cons hlt, he]
theorem length_wout {l : Tbl} (hs : Sorted l) {n : ByteArray} {f : Nat} (h : tfind l n = some f) : (wout l n).length + 1 = l.length := by
  obtain ⟨h1, h2⟩ := wout_parts hs h
  rw [h2]
  conv => rhs; rw [h1]
  simp only [List.length_append, List.length_cons]
  omega
theorem usedT_wout {l : Tbl} (hs : Sorted l) {n : ByteArray} {f : Nat} (h : tfind l n = some f) (fs : List Fil) : usedT fs (wout l n) + (fat fs f).b.length = usedT fs l := by
  obtain ⟨h1, h2⟩ := wout_parts hs h
  rw [h2]
  conv => rhs; rw [h1]
  simp only [usedT_append, usedT]
  omega
theorem usedT_wth (fs : List Fil) (l : Tbl) (n : ByteArray) (f : Nat) : usedT fs (wth l n f) = usedT fs (wout l n) + (fat fs f).b.length := by
  unfold wth
  simp only [usedT_append, usedT]
  conv => rhs; rw [← List.take_append_drop (pos (wout l n) n) (wout l n), usedT_append]
  omega
theorem usedT_congr {fs gs : List Fil} {l : Tbl} (h : ∀ e ∈ l, (fat fs e.2).b.length = (fat gs e.2).b.length) : usedT fs l = usedT gs l := by
  induction l with
  | nil => rfl
  | cons e r ih =>
    simp only [usedT]
    rw [h e (List.mem_cons_self ..), ih fun x hx => h x (List.mem_cons_of_mem _ hx)]
theorem usedT_set {fs : List Fil} {l : Tbl} (hi : l.Pairwise (fun a b => a.2 ≠ b.2)) {n : ByteArray} {k : Nat} (hm : (n, k) ∈ l) (hk : k < fs.length) (f : Fil) : usedT (fs.set k f) l + (fat fs k).b.length = usedT fs l + f.b.length := by
  induction l with
  | nil => cases hm
  | cons e r ih =>
    have hi' := List.pairwise_cons.1 hi
    simp only [usedT]
    by_cases he : e.2 = k
    · have h1 : usedT (fs.set k f) r = usedT fs r := by
        refine usedT_congr fun x hx => ?_
        rw [fat_set fs k x.2 f hk, if_neg (fun h => hi'.1 x hx (he.trans h.symm))]
      rw [h1, he, fat_set fs k k f hk, if_pos rfl]
      omega
    · have hm' : (n, k) ∈ r := by
        rcases List.mem_cons.1 hm with h | h
        · rw [← h] at he; exact absurd rfl he
        · exact h
      rw [fat_set fs k e.2 f hk, if_neg he]
      have := ih hi'.2 hm'
      omega
theorem inj_of {l : Tbl} (hi : l.Pairwise (fun a b => a.2 ≠ b.2)) {a b : ByteArray × Nat} (ha : a ∈ l) (hb : b ∈ l) (h : a.2 = b.2) : a = b := by
  induction l with
  | nil => cases ha
  | cons e r ih =>
    have hi' := List.pairwise_cons.1 hi
    rcases List.mem_cons.1 ha with rfl | ha'
    · rcases List.mem_cons.1 hb with rfl | hb'
      · rfl
      · exact absurd h (hi'.1 b hb')
    · rcases List.mem_cons.1 hb with rfl | hb'
      · exact absurd h.symm (hi'.1 a ha')
      · exact ih hi'.2 ha' hb'
theorem inj_wout {l : Tbl} (hi : l.Pairwise (fun a b => a.2 ≠ b.2)) (n : ByteArray) : (wout l n).Pairwise (fun a b => a.2 ≠ b.2) := hi.sublist (wout_sublist l n)
theorem inj_wth {l : Tbl} (hi : l.Pairwise (fun a b => a.2 ≠ b.2)) {n : ByteArray} {f : Nat} (hf : ∀ e ∈ wout l n, e.2 ≠ f) : (wth l n f).Pairwise (fun a b => a.2 ≠ b.2) := by
  refine ((wth_perm l n f).pairwise_iff (fun h => h.symm)).2 ?_
  rw [List.pairwise_cons]
  exact ⟨fun e he => (hf e he).symm, inj_wout hi n⟩

theorem view_none {d : Dsk} {n : ByteArray} : view d n = none ↔ tfind d.now n = none := by simp [view]
theorem view_some {d : Dsk} {n : ByteArray} {b : List UInt8} (h : view d n = some b) : ∃ k, tfind d.now n = some k ∧ (fat d.files k).b = b := by
  simpa [view] using h
theorem Fs.file {d : Dsk} {k : Nat} (h : Fs d k) {n : ByteArray} {j : Nat} (hf : tfind d.now n = some j) : j < d.files.length ∧ isNm n = true := h.ok.nowF _ (tfind_mem hf)
theorem Fs.named {d : Dsk} {k : Nat} (h : Fs d k) {n : ByteArray} {b : List UInt8} (hv : view d n = some b) : isNm n = true := by
  obtain ⟨j, hj, _⟩ := view_some hv
  exact (h.file hj).2
theorem Fs.noName {d : Dsk} {k : Nat} (h : Fs d k) : tfind d.now Go.Cor.noName = none := by
  cases hf : tfind d.now Go.Cor.noName with
  | none => rfl
  | some j => have := (h.file hf).2; cases this
theorem Fs.more {d : Dsk} {k m : Nat} (h : Fs d k) (hm : k ≤ m) : Fs d m := ⟨h.up, Ok.more h.ok hm, h.inj⟩
theorem fat_more {fs : List Fil} {x : Fil} {j : Nat} (h : j < fs.length) : fat (fs ++ [x]) j = fat fs j := by
  rw [fat_add, if_pos h]
theorem on_up {α : Type} {d : Dsk} {n : ByteArray} {no f : Nat → α} {j : Nat} (h : d.armed = none) (hf : tfind d.now n = some j) : d.on n no f = f j := by
  unfold Dsk.on; rw [h, hf]; simp
/-- What has become of a disk: the call went well; what the names have now; the bytes on it, and the names. -/
structure Went (d d' : Dsk) (k' : Nat) (used len : Nat) (v : ByteArray → Option (List UInt8)) : Prop where
  fs : Fs d' k'
  cap : d'.cap = d.cap
  used : d'.used = used
  len : d'.now.length = len
  view : ∀ m, view d' m = v m

theorem Went.trans {d d1 d2 : Dsk} {k1 k2 u1 u2 l1 l2 : Nat} {v1 v2 : ByteArray → Option (List UInt8)} (h : Went d d1 k1 u1 l1 v1) (h2 : Went d1 d2 k2 u2 l2 v2) : Went d d2 k2 u2 l2 v2 := ⟨h2.fs, h2.cap.trans h.cap, h2.used, h2.len, h2.view⟩
theorem Went.of {d d' : Dsk} {k' u u' l l' : Nat} {v v' : ByteArray → Option (List UInt8)} (h : Went d d' k' u l v) (hu : u = u') (hl : l = l') (hv : ∀ m, v m = v' m) : Went d d' k' u' l' v' := ⟨h.fs, h.cap, h.used.trans hu, h.len.trans hl, fun m => (h.view m).trans (hv m)⟩
theorem Went.refl {d : Dsk} {k : Nat} (h : Fs d k) : Went d d k d.used d.now.length (Go.Proofs.YtoblbipkkdiddaaGreatDoor.view d) := ⟨h, rfl, rfl, rfl, fun _ => rfl⟩
theorem Fs.create {d : Dsk} {k : Nat} (h : Fs d k) {n : ByteArray} (hn : isNm n = true) (hv : view d n = none) (hc : d.now.length < 64) :
    (d.create n).2 = 0 ∧ Went d (d.create n).1 (k + 2) d.used (d.now.length + 1) (fun m => if m = n then some [] else view d m) := by
  have hok := Ok.create h.ok n
  have hf := view_none.1 hv
  have hno := wout_none h.noName
  have hnn : n ≠ Go.Cor.noName := isNm_ne' hn
  have e : d.create n = (({ d with files := d.files ++ [⟨[], 0⟩] } : Dsk).nameD ⟨Go.Cor.noName, n, d.files.length⟩, 0) := by
    unfold Dsk.create
    rw [if_neg (by rw [h.up]; simp), if_neg (by rw [hn]; simp), if_neg (by rw [hf]; simp), if_neg (by omega)]
  rw [e] at hok ⊢
  have hnow : ((({ d with files := d.files ++ [⟨[], 0⟩] } : Dsk).nameD ⟨Go.Cor.noName, n, d.files.length⟩)).now = wth d.now n d.files.length := by
    show turnT d.now ⟨Go.Cor.noName, n, d.files.length⟩ = _
    unfold turnT
    rw [if_neg hnn]
    show wth (wout d.now Go.Cor.noName) n d.files.length = _
    rw [hno]
  have hw : wout d.now n = d.now := wout_none hf
  have hlt : ∀ e ∈ d.now, e.2 < d.files.length := fun e he => (h.ok.nowF e he).1
  refine ⟨rfl, ⟨?_, hok, ?_⟩, rfl, ?_, ?_, ?_⟩
  · show d.armed.map _ = none
    rw [h.up]; rfl
  · rw [hnow]
    refine inj_wth h.inj fun e he => ?_
    rw [hw] at he
    have := hlt e he
    omega
  · unfold Dsk.used
    rw [hnow, usedT_wth, hw]
    show usedT (d.files ++ [⟨[], 0⟩]) d.now + (fat (d.files ++ [⟨[], 0⟩]) d.files.length).b.length = _
    rw [fat_add, if_neg (by omega), if_pos rfl, usedT_congr (gs := d.files) (fun e he => by rw [fat_more (hlt e he)])]
    rfl
  · rw [hnow, wth_length, hw]
  · intro m
    unfold Go.Proofs.YtoblbipkkdiddaaGreatDoor.view
    rw [hnow, tfind_wth]
    show Option.map (fun k => (fat (d.files ++ [⟨[], 0⟩]) k).b) _ = _
    by_cases hm : m = n
    · rw [if_pos hm, if_pos hm, Option.map_some, fat_add, if_neg (by omega), if_pos rfl]
    · rw [if_neg hm, if_neg hm]
      cases hj : tfind d.now m with
      | none => rfl
      | some j => rw [Option.map_some, Option.map_some, fat_more (h.file hj).1]

/-- A file's bytes turn. -/
theorem Fs.turn {d : Dsk} {k : Nat} (h : Fs d k) {n : ByteArray} {j : Nat} (hj : tfind d.now n = some j) (f : Fil) (hf : f.lasts ≤ f.b.length ∧ f.b.length ≤ 16777216) :
    Went d (d.setF j f).done (k + 2) (d.used + f.b.length - (fat d.files j).b.length) d.now.length (fun m => if m = n then some f.b else view d m) := by
  have hlt := (h.file hj).1
  have hu := usedT_set h.inj (tfind_mem hj) hlt f
  refine ⟨⟨?_, Ok.more (Ok.done (Ok.setF h.ok hf)) (by omega), h.inj⟩, rfl, ?_, rfl, ?_⟩
  · show d.armed.map _ = none
    rw [h.up]; rfl
  · show usedT (d.files.set j f) d.now = _
    unfold Dsk.used
    omega
  · intro m
    show Option.map (fun k => (fat (d.files.set j f) k).b) (tfind d.now m) = _
    by_cases hm : m = n
    · subst hm
      rw [hj, if_pos rfl, Option.map_some, fat_set _ _ _ _ hlt, if_pos rfl]
    · rw [if_neg hm]
      unfold Go.Proofs.YtoblbipkkdiddaaGreatDoor.view
      cases hi : tfind d.now m with
      | none => rfl
      | some i =>
        rw [Option.map_some, Option.map_some, fat_set _ _ _ _ hlt, if_neg]
        intro hij
        have := inj_of h.inj (tfind_mem hi) (tfind_mem hj) hij
        exact hm (congrArg Prod.fst this)
theorem used_ge {d : Dsk} {k : Nat} (h : Fs d k) {n : ByteArray} {b : List UInt8} (hv : view d n = some b) : b.length ≤ d.used := by
  obtain ⟨j, hj, rfl⟩ := view_some hv
  have := usedT_wout h.ok.nowS hj d.files
  unfold Dsk.used
  omega
theorem Fs.append {d : Dsk} {k : Nat} (h : Fs d k) {n : ByteArray} {b l : List UInt8} (hv : view d n = some b) (hl : b.length + l.length ≤ 16777216) (hu : d.used + l.length ≤ d.cap) :
    (d.append n l).2 = 0 ∧ Went d (d.append n l).1 (k + 2) (d.used + l.length) d.now.length (fun m => if m = n then some (b ++ l) else view d m) := by
  have hge := used_ge h hv
  obtain ⟨j, hj, rfl⟩ := view_some hv
  have e : d.append n l = ((d.setF j ⟨(fat d.files j).b ++ l, (fat d.files j).lasts⟩).done, 0) := by
    unfold Dsk.append
    rw [on_up h.up hj, if_neg (by omega), if_neg (by omega)]
  rw [e]
  have hfat := Ok.fat h.ok (h.file hj).1
  have ht := h.turn hj ⟨(fat d.files j).b ++ l, (fat d.files j).lasts⟩ ⟨by simp only [List.length_append]; omega, by simp only [List.length_append]; omega⟩
  refine ⟨rfl, ⟨ht.fs, ht.cap, ?_, ht.len, ht.view⟩⟩
  rw [ht.used]
  simp only [List.length_append]
  omega
theorem Fs.sync {d : Dsk} {k : Nat} (h : Fs d k) {n : ByteArray} {b : List UInt8} (hv : view d n = some b) :
    (d.sync n).2 = 0 ∧ Went d (d.sync n).1 (k + 2) d.used d.now.length (view d) := by
  have hge := used_ge h hv
  have hv0 := hv
  obtain ⟨j, hj, rfl⟩ := view_some hv
  have e : d.sync n = ((d.setF j ⟨(fat d.files j).b, (fat d.files j).b.length⟩).done, 0) := by
    unfold Dsk.sync
    rw [on_up h.up hj]
  rw [e]
  have hfat := Ok.fat h.ok (h.file hj).1
  have ht := h.turn hj ⟨(fat d.files j).b, (fat d.files j).b.length⟩ ⟨Nat.le_refl _, hfat.2⟩
  refine ⟨rfl, ⟨ht.fs, ht.cap, ?_, ht.len, fun m => ?_⟩⟩
  · rw [ht.used]
    show d.used + (fat d.files j).b.length - (fat d.files j).b.length = _
    omega
  · rw [ht.view]
    show (if m = n then some (fat d.files j).b else Go.Proofs.YtoblbipkkdiddaaGreatDoor.view d m) = _
    by_cases hm : m = n
    · rw [if_pos hm, hm, hv0]
    · rw [if_neg hm]
theorem Fs.syncNames {d : Dsk} {k : Nat} (h : Fs d k) : d.syncNames.2 = 0 ∧ Went d d.syncNames.1 (k + 2) d.used d.now.length (view d) := by
  have hok := Ok.syncNames h.ok
  have e : d.syncNames = (d.syncN.done, 0) := by
    unfold Dsk.syncNames
    rw [if_neg (by rw [h.up]; simp)]
  rw [e] at hok ⊢
  exact ⟨rfl, ⟨by show d.armed.map _ = none; rw [h.up]; rfl, hok, h.inj⟩, rfl, rfl, rfl, fun _ => rfl⟩
theorem Fs.size {d : Dsk} {k : Nat} (h : Fs d k) {n : ByteArray} {b : List UInt8} (hv : view d n = some b) : d.size n = (b.length, 0) := by
  obtain ⟨j, hj, rfl⟩ := view_some hv
  unfold Dsk.size
  rw [on_up h.up hj]
theorem Fs.read {d : Dsk} {k : Nat} (h : Fs d k) {n : ByteArray} {b : List UInt8} (hv : view d n = some b) {off m : Nat} (hb : off + m ≤ b.length) : d.read n (off : Int) (m : Int) = ((b.drop off).take m, 0) := by
  obtain ⟨j, hj, rfl⟩ := view_some hv
  unfold Dsk.read
  rw [on_up h.up hj, if_neg (by omega), if_neg (by omega)]
  simp
def olen (o : Option (List UInt8)) : Nat := match o with | some b => b.length | none => 0
theorem Fs.rename {d : Dsk} {k : Nat} (h : Fs d k) {n t : ByteArray} {b : List UInt8} (hv : view d n = some b) (ht : isNm t = true) (hnt : n ≠ t) :
    (d.rename n t).2 = 0 ∧ Went d (d.rename n t).1 (k + 2) (d.used - olen (view d t)) (d.now.length - if (view d t).isSome then 1 else 0) (fun m => if m = t then some b else if m = n then none else view d m) := by
  have hok := Ok.rename h.ok n t
  obtain ⟨j, hj, rfl⟩ := view_some hv
  have htn : t ≠ Go.Cor.noName := isNm_ne' ht
  have e : d.rename n t = (d.nameD ⟨n, t, j⟩, 0) := by
    unfold Dsk.rename
    rw [on_up h.up hj, if_neg (by rw [ht]; simp)]
  rw [e] at hok ⊢
  have hnow : (d.nameD ⟨n, t, j⟩).now = wth (wout d.now n) t j := by
    show turnT d.now ⟨n, t, j⟩ = _
    unfold turnT
    rw [if_neg htn]
  have hu := usedT_wout h.ok.nowS hj d.files
  have hl := length_wout h.ok.nowS hj
  have hs2 := wout_sorted h.ok.nowS n
  have ht2 : tfind (wout d.now n) t = tfind d.now t := by rw [tfind_wout, if_neg (fun e => hnt e.symm)]
  refine ⟨rfl, ⟨by show d.armed.map _ = none; rw [h.up]; rfl, hok, ?_⟩, rfl, ?_, ?_, ?_⟩
  · rw [hnow]
    refine inj_wth (inj_wout h.inj n) fun e he hej => ?_
    have he2 := (wout_sublist _ _).mem he
    have he1 := (wout_sublist _ _).mem he2
    have h1 := inj_of h.inj he1 (tfind_mem hj) hej
    exact tfind_none.1 (wout_find d.now n) e he2 (congrArg Prod.fst h1)
  · unfold Dsk.used
    rw [hnow]
    show usedT d.files (wth (wout d.now n) t j) = _
    rw [usedT_wth]
    unfold Go.Proofs.YtoblbipkkdiddaaGreatDoor.view
    cases hi : tfind d.now t with
    | none =>
      rw [wout_none (ht2.trans hi)]
      simp only [Option.map_none, olen]
      omega
    | some i =>
      have := usedT_wout hs2 (ht2.trans hi) d.files
      simp only [Option.map_some, olen]
      omega
  · rw [hnow, wth_length]
    unfold Go.Proofs.YtoblbipkkdiddaaGreatDoor.view
    cases hi : tfind d.now t with
    | none =>
      rw [wout_none (ht2.trans hi)]
      simp
      omega
    | some i =>
      have := length_wout hs2 (ht2.trans hi)
      simp
      omega
  · intro m
    unfold Go.Proofs.YtoblbipkkdiddaaGreatDoor.view
    rw [hnow, tfind_wth]
    show Option.map (fun k => (fat d.files k).b) _ = _
    by_cases hm : m = t
    · rw [if_pos hm, if_pos hm]; rfl
    · rw [if_neg hm, if_neg hm, tfind_wout]
      by_cases hmn : m = n
      · rw [if_pos hmn, if_pos hmn]; rfl
      · rw [if_neg hmn, if_neg hmn]

end Go.Proofs.YtoblbipkkdiddaaGreatDoor
end

section
namespace Go.Proofs.YtoblbipkkdiddaaGreatDoor.Q
open Go.RowKit Go.Cor

theorem Tryz.infoPos : (Tryz.prog.info? 83).map (fun i => (i.zero, i.size, i.bytes)) = some (some (.agg #[.int .u64 0, .int .i64 0, .int .i64 0, .int .u32 0, .bool false]), 5, 32) := by kernel_rfl
theorem Tryz.infoPosR : (Tryz.prog.info? 67).map (fun i => (i.zero, i.size, i.bytes)) = some (some (.agg #[.int .u64 0, .int .i64 0, .int .i64 0, .int .u32 0, .bool false]), 5, 32) := by kernel_rfl
theorem Tryz.sizePos : (Tryz.prog.info? 83).map (·.size) = some 5 := by kernel_rfl
theorem Tryz.sizePosR : (Tryz.prog.info? 67).map (·.size) = some 5 := by kernel_rfl

/-- A position as a value, and as cells. -/
abbrev pval (p : Pos) : Value := .agg #[.int .u64 (p.key : Int), .int .i64 p.off, .int .i64 p.len, .int .u32 (p.cookie : Int), .bool p.gone]
def pcells (p : Pos) : List Value := [.int .u64 (p.key : Int), .int .i64 p.off, .int .i64 p.len, .int .u32 (p.cookie : Int), .bool p.gone]
theorem pcells_len (p : Pos) : (pcells p).length = 5 := rfl
abbrev pcs (l : List Pos) : List Value := row pcells l
theorem pcs_append (a b : List Pos) : pcs (a ++ b) = pcs a ++ pcs b := row_append _ a b
theorem pcells_one (p : Pos) : ∀ v ∈ pcells p, v.oneCell' = true := by
  intro v hv
  simp only [pcells, List.mem_cons, List.not_mem_nil, or_false] at hv
  rcases hv with rfl | rfl | rfl | rfl | rfl <;> rfl
theorem pcs_one (ps : List Pos) : ∀ v ∈ pcs ps, v.oneCell' = true := row_mem fun p _ => pcells_one p
theorem pcs_get {ps : List Pos} {i : Nat} {p : Pos} (h : ps[i]? = some p) (j : Nat) (hj : j < 5) : (pcs ps)[i * 5 + j]? = (pcells p)[j]? := row_get pcells_len h j hj

/-- A position lies at an address. -/
def PCells (w : World) (b o : Nat) (p : Pos) : Prop :=
  w.cell? ⟨b, o, none⟩ = some (.int .u64 (p.key : Int)) ∧ w.cell? ⟨b, o + 1, none⟩ = some (.int .i64 p.off) ∧ w.cell? ⟨b, o + 2, none⟩ = some (.int .i64 p.len) ∧ w.cell? ⟨b, o + 3, none⟩ = some (.int .u32 (p.cookie : Int)) ∧ w.cell? ⟨b, o + 4, none⟩ = some (.bool p.gone)
theorem PCells.lt {w : World} {b o : Nat} {p : Pos} (h : PCells w b o p) : b < w.heap.size := cell_lt h.1
/-- v is a slice of positions. -/
def IsP (w : World) (v : Value) (ps : List Pos) : Prop := IsX w 5 v ps.length (pcs ps)
theorem IsP.nil (w : World) : IsP w (.slice none 0 0) [] := IsX.nil w 5
theorem IsP.mono {w w' : World} {v : Value} {ps : List Pos} {B : Nat} (h : IsP w v ps) (hb : Below B w w') (hB : w.heap.size ≤ B) : IsP w' v ps := IsX.mono h hb hB
theorem IsP.at_len {w : World} {v : Value} {ps : List Pos} {n : Nat} (h : IsP w v ps) (hn : ps.length = n) : ∃ x cap, v = .slice x n cap ∧ n ≤ cap ∧ cap ≤ maxLen := by
  subst hn
  exact IsX.slice h
theorem IsP.own {w : World} {base : Nat} {e : TypeId} {v : Value} {ps : List Pos} {n : Nat} (h : w.ownsRow base e 5 v n (pcs ps)) (hn : n = ps.length) : IsP w v ps := by
  subst hn
  exact IsX.own h
theorem len_P {P : Program} {w : World} {v : Value} {ps : List Pos} (hv : IsP w v ps) {n : Nat} (hn : ps.length = n) (T ty U : TypeId) (ht : P.underlying T = some (.slice U)) (W : World) : (Builtin.len_ #[T] ty #[v]).run P W = .ok (.int .i64 (n : Int)) W := by
  subst hn
  exact len_X hv T ty U ht W
theorem pcells_at {w : World} {b o : Nat} {ps : List Pos} {i : Nat} (hi : i < ps.length) (h : ∀ j, j < 5 → w.cell? ⟨b, o + j, none⟩ = (pcs ps)[i * 5 + j]?) : PCells w b o (pat ps i) := by
  have c : ∀ j, j < 5 → w.cell? ⟨b, o + j, none⟩ = (pcells (pat ps i))[j]? := fun j hj => by rw [h j hj, pcs_get (get_pat hi) j hj]
  exact ⟨c 0 (by decide), c 1 (by decide), c 2 (by decide), c 3 (by decide), c 4 (by decide)⟩
theorem indexAt_P {P : Program} {w : World} {v : Value} {ps : List Pos} (hv : IsP w v ps) (T U : TypeId) (ht : P.underlying T = some (.slice U)) (hs : (P.info? U).map (·.size) = some 5) (i : Nat) (hi : i < ps.length) :
    ∃ b o, (∀ W, (Instr.indexAt T v (.int .i64 (i : Int))).run P W = .ok (.pointer (some ⟨b, o, none⟩)) W) ∧ PCells w b o (pat ps i) := by
  obtain ⟨b, o, h1, _, h3⟩ := indexAt_X hv T U ht hs i hi
  exact ⟨b, o, h1, pcells_at hi h3⟩

theorem cell_five_new (w : World) (p : Pos) (t : TypeId) : ∀ j u, (pcells p)[j]? = some u → (w.alloc (.cells #[.int .u64 (p.key : Int), .int .i64 p.off, .int .i64 p.len, .int .u32 (p.cookie : Int), .bool p.gone] t)).cell? ((⟨w.heap.size, 0, none⟩ : Addr).add j) = some u := by
  intro j u hj
  have hlt : j < 5 := (List.getElem?_eq_some_iff.1 hj).1
  rw [add_lit]
  rcases (show j = 0 ∨ j = 1 ∨ j = 2 ∨ j = 3 ∨ j = 4 from by omega) with rfl | rfl | rfl | rfl | rfl <;> (simp only [pcells, List.getElem?_cons_zero, List.getElem?_cons_succ, Option.some.injEq] at hj; subst hj; go_simp)

theorem pcs_take {ps : List Pos} {i : Nat} (h : i < ps.length) : pcs (ps.take (i + 1)) = pcs (ps.take i) ++ pcells (pat ps i) := by
  rw [take_snoc h, pcs_append]
  exact congrArg _ (row_one pcells _)


set_option maxHeartbeats 1000000 in
theorem to5_any (v : Value) (ps : List Pos) (w : World) (hv : IsP w v ps) (hl : ps.length ≤ 4398046511104) :
    Calls Tryz.prog 39 #[v] w fun e w' =>
      ∃ v', e = .returned v' ∧ w'.ownsRow w.heap.size 67 5 v' ps.length (pcs ps) ∧ Below w.heap.size w w' := by
  obtain ⟨i0, hi, hz0, hz1, hz2⟩ := info_parts Tryz.infoPosR
  obtain ⟨N, hN⟩ : ∃ N, ps.length = N := ⟨_, rfl⟩
  have HV := Lib.hid hv
  obtain ⟨x, cap, rfl, hlc, hcm⟩ := hv.at_len hN
  rw [hN] at hl ⊢
  have HN := Lib.hid hN
  clear hv hN
  go_enter Tryz.func39, Tryz.ntmps39
  go_wp2_with fail
  go_loopw [3, 4] (fun o k wr => ∃ i : Nat, i ≤ N ∧ k = .int .i64 i ∧ Hid (wr.ownsRow w.heap.size 67 5 o i (pcs (ps.take i))) ∧ Hid (Below w.heap.size w wr)) (fun _ k _ => N - (intOf k).toNat)
  case atStart => exact ⟨0, by omega, rfl, Lib.hid (World.ownsRow_nil _ _ _ _), Lib.hid (Below.refl _ _)⟩
  case round =>
    obtain ⟨i, hiN, rfl, HO, HB⟩ := hrel
    by_cases hlt : i < N
    · have HVr := Lib.hid (HV.out.mono HB.out (Nat.le_refl _))
      obtain ⟨p, hp⟩ : ∃ p, pat ps i = p := ⟨_, rfl⟩
      obtain ⟨bp, op, hidx, k0, k1, k2, k3, k4⟩ := indexAt_P HVr.out 80 83 Tryz.underlying80 Tryz.sizePos i (by rw [HN.out]; exact hlt)
      rw [hp] at k0 k1 k2 k3 k4
      have HPT := Lib.hid (show pcs (ps.take (i + 1)) = pcs (ps.take i) ++ pcells p from by rw [pcs_take (by rw [HN.out]; exact hlt), hp])
      clear hp
      obtain ⟨X, hX⟩ : ∃ X, X = pcs (ps.take i) := ⟨_, rfl⟩
      rw [← hX] at HO HPT
      clear hX
      go_wp2_with (at_builtin; refine wpList_append_own _ rfl _ _ 27 rfl w.heap.size 67 i0 _ 5 32 Tryz.underlying27 hi hz0 hz1 hz2 rfl (by decide) _ _ _ rfl (HO.out.alloc _) ⟨wr.heap.size, 0, none⟩ 1 1 (pcells p) rfl rfl ?c1 ?c2 ?c3 ?c4 ?c5 ?_)
      case c1 => exact cell_five_new _ p _
      case c2 => exact pcells_one p
      case c3 => unfold maxLen; omega
      case c4 => omega
      case c5 => have := HB.out.size; simp; omega
      intro v' w1 hown' hgrow _
      have HB1 := Lib.hid ((HB.out.alloc HB.out.size _).grown hgrow (by have := HB.out.size; simp; omega) (fun j hj => (HO.out.lt j hj).1))
      have HO1 := Lib.hid (show w1.ownsRow w.heap.size 67 5 v' (i + 1) (pcs (ps.take (i + 1))) from by rw [HPT.out]; exact hown')
      clear hown' hgrow k0 k1 k2 k3 k4 hidx HO HB
      go_wp2
      go_roundw
      case rel => exact ⟨i + 1, by omega, by go_num, HO1, HB1⟩
      case measure => simp [intOf]; omega
    · obtain rfl : N = i := by omega
      have HO2 := Lib.hid (show wr.ownsRow w.heap.size 67 5 u3 N (pcs ps) from by
        have h := HO.out
        rw [List.take_of_length_le (by rw [HN.out]; exact Nat.le_refl _)] at h
        exact h)
      clear HO
      go_wp2
      go_ret
      exact ⟨_, rfl, HO2.out, HB.out⟩


/-- Two positions as values: are they one? -/
theorem Tryz.eqlPos (p q : Pos) (w : World) : (binOp .neq 67 (pval p) (pval q)).run Tryz.prog w = .ok (.bool (decide (p ≠ q))) w := by
  have hS : Tryz.prog.underlying 67 = some (.struct (Tryz.prog.fieldsOf 67)) := by kernel_rfl
  have hp : Tryz.prog.stoodInHeld 67 = false := by kernel_rfl
  have h : (Op.equalIn 10000 67 (pval p) (pval q)).run Tryz.prog w = .ok (decide (p.key = q.key) && (decide (p.off = q.off) && (decide (p.len = q.len) && (decide (p.cookie = q.cookie) && decide (p.gone = q.gone))))) w := by
    rw [show (10000 : Nat) = 9999 + 1 from rfl, run_equalIn_agg w 9999 67 _ _ hS hp]
    simp only [Program.fieldsOf, Tryz.underlying67]
    go_simp
    by_cases h1 : p.key = q.key <;> by_cases h2 : p.off = q.off <;> by_cases h3 : p.len = q.len <;> by_cases h4 : p.cookie = q.cookie <;> by_cases h5 : p.gone = q.gone <;> simp [h1, h2, h3, h4, h5, Int.natCast_inj]
  rw [run_neq_struct, h]
  refine congrArg (fun b => Result.ok (Value.bool b) w) (a₁ := !(decide (p.key = q.key) && (decide (p.off = q.off) && (decide (p.len = q.len) && (decide (p.cookie = q.cookie) && decide (p.gone = q.gone)))))) ?_
  rw [Bool.eq_iff_iff]
  simp only [Bool.not_eq_true', Bool.and_eq_false_iff, decide_eq_false_iff_not, decide_eq_true_eq]
  constructor
  · intro h e
    subst e
    simp at h
  · intro hne
    by_cases h1 : p.key = q.key
    · by_cases h2 : p.off = q.off
      · by_cases h3 : p.len = q.len
        · by_cases h4 : p.cookie = q.cookie
          · by_cases h5 : p.gone = q.gone
            · exact absurd (Pos.ext' h1 h2 h3 h4 h5) hne
            · exact .inr (.inr (.inr (.inr h5)))
          · exact .inr (.inr (.inr (.inl h4)))
        · exact .inr (.inr (.inl h3))
      · exact .inr (.inl h2)
    · exact .inl h1
theorem Tryz.guardPos : Tryz.prog.eqGuardType Tryz.prog.depth 67 = false := by kernel_rfl

set_option maxHeartbeats 1000000 in
theorem same5_yes (v1 v2 : Value) (ps : List Pos) (w : World) (hv1 : IsP w v1 ps) (hv2 : IsP w v2 ps) (hl : ps.length ≤ 4398046511104) :
    Calls Tryz.prog 38 #[v1, v2] w fun e w' => e = .returned (.bool true) ∧ ∃ n, w' = w.drewN n := by
  obtain ⟨N, hN⟩ : ∃ N, ps.length = N := ⟨_, rfl⟩
  have H1 := Lib.hid hv1
  have H2 := Lib.hid hv2
  obtain ⟨x1, cap1, rfl, hlc1, hcm1⟩ := hv1.at_len hN
  obtain ⟨x2, cap2, rfl, hlc2, hcm2⟩ := hv2.at_len hN
  rw [hN] at hl
  have HN := Lib.hid hN
  have hg := Tryz.guardPos
  clear hv1 hv2 hN
  go_enter Tryz.func38, Tryz.ntmps38
  go_wp2
  go_loopw [5] (fun c wr => ∃ k : Nat, k ≤ N ∧ c = .int .i64 k ∧ ∃ n, wr = w.drewN n) (fun c _ => N - (intOf c).toNat)
  case atStart => exact ⟨0, by omega, rfl, 0, rfl⟩
  case round =>
    obtain ⟨k, hk, rfl, n, rfl⟩ := hrel
    by_cases hlt : k < N
    · obtain ⟨b1, o1, i1, p0, p1, p2, p3, p4⟩ := indexAt_P H1.out 27 67 Tryz.underlying27 Tryz.sizePosR k (by rw [HN.out]; exact hlt)
      obtain ⟨b2, o2, i2, q0, q1, q2, q3, q4⟩ := indexAt_P H2.out 27 67 Tryz.underlying27 Tryz.sizePosR k (by rw [HN.out]; exact hlt)
      obtain ⟨p, hp⟩ : ∃ p, pat ps k = p := ⟨_, rfl⟩
      rw [hp] at p0 p1 p2 p3 p4 q0 q1 q2 q3 q4
      have he : ∀ W, (binOp .neq 67 (pval p) (pval p)).run Tryz.prog W = .ok (.bool false) W := fun W => by rw [Tryz.eqlPos]; simp
      clear hp
      go_wp2
      go_quiet (fail)
      go_wp2
      go_roundw
      case rel => exact ⟨k + 1, by omega, by go_num, _, rfl⟩
      case measure => simp [intOf]; omega
    · go_wp2
      go_ret
      exact ⟨rfl, n, rfl⟩

end Go.Proofs.YtoblbipkkdiddaaGreatDoor.Q
end

section
namespace Go.Proofs.YtoblbipkkdiddaaGreatDoor.Q
open Go.RowKit Go.Cor

/-- How two keys stand to each other. -/
def cmpK (a b : Nat) : Int := if a < b then -1 else if b < a then 1 else 0
theorem cmpK_neg {a b : Nat} : cmpK a b < 0 ↔ a < b := by
  unfold cmpK
  split
  · simp_all
  · split <;> simp_all
theorem cmpK_zero {a b : Nat} : cmpK a b = 0 ↔ a = b := by
  unfold cmpK
  split
  · simp; omega
  · split
    · simp; omega
    · simp; omega

theorem nan_any (a : Nat) (w : World) :
    Calls Tryz.prog 134 #[.int .u64 (a : Int)] w fun e w' => e = .returned (.bool false) ∧ w = w' := by
  go_enter Tryz.func134, Tryz.ntmps134
  go_wp2
  go_ret
  exact ⟨by simp, rfl⟩
theorem compare_any (a b : Nat) (w : World) :
    Calls Tryz.prog 121 #[.int .u64 (a : Int), .int .u64 (b : Int)] w fun e w' => e = .returned (.int .i64 (cmpK a b)) ∧ w = w' := by
  by_cases h1 : a < b
  · have e : cmpK a b = -1 := if_pos h1
    have h1' : (a : Int) < (b : Int) := by omega
    rw [e]
    go_enter Tryz.func121, Tryz.ntmps121
    go_wp2_with (go_at_call 134; refine (nan_any _ _).mono ?_; rintro e w' ⟨rfl, rfl⟩)
    go_ret
    exact ⟨rfl, rfl⟩
  · have h1' : ¬ (a : Int) < (b : Int) := by omega
    by_cases h2 : b < a
    · have e : cmpK a b = 1 := by unfold cmpK; rw [if_neg h1, if_pos h2]
      have h2' : (b : Int) < (a : Int) := by omega
      rw [e]
      go_enter Tryz.func121, Tryz.ntmps121
      go_wp2_with (go_at_call 134; refine (nan_any _ _).mono ?_; rintro e w' ⟨rfl, rfl⟩)
      go_ret
      exact ⟨rfl, rfl⟩
    · have e : cmpK a b = 0 := by unfold cmpK; rw [if_neg h1, if_neg h2]
      have h2' : ¬ (b : Int) < (a : Int) := by omega
      rw [e]
      go_enter Tryz.func121, Tryz.ntmps121
      go_wp2_with (go_at_call 134; refine (nan_any _ _).mono ?_; rintro e w' ⟨rfl, rfl⟩)
      go_ret
      exact ⟨rfl, rfl⟩
theorem closure_any (p : Pos) (k : Nat) (w : World) :
    Calls Tryz.prog 120 #[pval p, .int .u64 (k : Int)] w fun e w' => e = .returned (.int .i64 (cmpK p.key k)) ∧ Below w.heap.size w w' := by
  go_enter Tryz.func120, Tryz.ntmps120
  go_wp2_with (go_at_call 121; refine (compare_any _ _ _).mono ?_; rintro e w' ⟨rfl, rfl⟩)
  go_ret
  exact ⟨rfl, (Below.refl _ _).alloc (Nat.le_refl _) _⟩

set_option maxRecDepth 100000 in
set_option maxHeartbeats 1000000 in
theorem search_any (v : Value) (l : List Pos) (k : Nat) (w : World) (hv : IsP w v l) (hs : Asc l) (hl : l.length ≤ 1048576) :
    Calls Tryz.prog 119 #[v, .int .u64 (k : Int), .func (.func 120) #[] #[]] w fun e w' => e = .returned (.tuple #[.int .i64 (psn l k), .bool (fnd l k).isSome]) ∧ Below w.heap.size w w' := by
  obtain ⟨N, hN⟩ : ∃ N, l.length = N := ⟨_, rfl⟩
  obtain ⟨q, hq⟩ : ∃ q, psn l k = q := ⟨_, rfl⟩
  obtain ⟨r, hr⟩ : ∃ r, (fnd l k).isSome = r := ⟨_, rfl⟩
  have hqN := psn_le l k
  have hlen := fun W => len_P (P := Tryz.prog) hv hN 80 3 83 Tryz.underlying80 W
  rw [hN] at hqN hl
  rw [hq] at hqN
  rw [hq, hr]
  have HV := Lib.hid hv
  have HN := Lib.hid hN
  have HQ := Lib.hid hq
  have HR := Lib.hid hr
  clear hv hN hq hr
  go_enter Tryz.func119, Tryz.ntmps119
  go_wp2
  go_loopw [9, 10] (fun a b wr => ∃ i j : Nat, i ≤ q ∧ q ≤ j ∧ j ≤ N ∧ a = .int .i64 i ∧ b = .int .i64 j ∧ Hid (Below w.heap.size w wr)) (fun a b _ => (intOf b).toNat - (intOf a).toNat)
  case atStart => exact ⟨0, N, Nat.zero_le _, hqN, Nat.le_refl _, rfl, rfl, Lib.hid (Below.refl _ _)⟩
  case round =>
    obtain ⟨i, j, hiq, hqj, hjN, rfl, rfl, hB⟩ := hrel
    by_cases hlt : i < j
    · obtain ⟨e, he⟩ : ∃ e, pat l ((i + j) / 2) = e := ⟨_, rfl⟩
      have hget : l[(i + j) / 2]? = some e := by rw [← he]; exact get_pat (by rw [HN.out]; omega)
      obtain ⟨b, o, hidx, c0, c1, c2, c3, c4⟩ := indexAt_P (HV.out.mono hB.out (Nat.le_refl _)) 80 83 Tryz.underlying80 Tryz.sizePos ((i + j) / 2) (by rw [HN.out]; omega)
      rw [he] at c0 c1 c2 c3 c4
      rw [show ((((i + j) / 2 : Nat)) : Int) = ((i : Int) + (j : Int)) / 2 from by omega] at hidx
      have HE := Lib.hid hget
      obtain ⟨c, hc⟩ : ∃ c, cmpK e.key k = c := ⟨_, rfl⟩
      have HCM := Lib.hid hc
      clear he hc hget
      go_wp2_with fail
      refine (closure_any e _ _).mono ?_
      rintro e2 w2 ⟨rfl, hb2⟩
      rw [HCM.out]
      have HB2 := Lib.hid (hB.out.trans (hb2.mono hB.out.size))
      clear hb2 c0 c1 c2 c3 c4 hidx
      by_cases hneg : c < 0
      · have hiq2 : (i + j) / 2 + 1 ≤ q := by
          by_cases h : (i + j) / 2 < q
          · exact h
          · have h2 := psn_above (k := k) hs HE.out (by rw [HQ.out]; omega)
            have h3 := cmpK_neg.1 (by rw [HCM.out]; exact hneg)
            omega
        go_wp2
        go_roundw
        case rel => exact ⟨(i + j) / 2 + 1, j, hiq2, hqj, hjN, by congr 1, rfl, HB2⟩
        case measure => simp [intOf]; omega
      · have hqj2 : q ≤ (i + j) / 2 := by
          by_cases h : (i + j) / 2 < q
          · have h2 := psn_below (k := k) HE.out (by rw [HQ.out]; omega)
            have h3 := cmpK_neg.2 h2
            rw [HCM.out] at h3
            omega
          · omega
        go_wp2
        go_roundw
        case rel => exact ⟨i, (i + j) / 2, hiq, hqj2, by omega, rfl, by congr 1, HB2⟩
        case measure => simp [intOf]; omega
    · obtain rfl : i = q := by omega
      by_cases hiN : i < N
      · obtain ⟨e, he⟩ : ∃ e, pat l i = e := ⟨_, rfl⟩
        have hget : l[i]? = some e := by rw [← he]; exact get_pat (by rw [HN.out]; omega)
        obtain ⟨b, o, hidx, c0, c1, c2, c3, c4⟩ := indexAt_P (HV.out.mono hB.out (Nat.le_refl _)) 80 83 Tryz.underlying80 Tryz.sizePos i (by rw [HN.out]; omega)
        rw [he] at c0 c1 c2 c3 c4
        obtain ⟨c, hc⟩ : ∃ c, cmpK e.key k = c := ⟨_, rfl⟩
        have HCM := Lib.hid hc
        have hrc : r = (c == 0) := by
          rw [← HR.out, fnd, HQ.out, hget, ← hc, Option.filter_some]
          by_cases hen : e.key = k
          · rw [cmpK_zero.2 hen]
            simp [hen]
          · have h1 : cmpK e.key k ≠ 0 := fun h => hen (cmpK_zero.1 h)
            simp [hen, h1]
        have HRC := Lib.hid hrc
        clear he hc hget hrc
        go_wp2_with fail
        refine (closure_any e _ _).mono ?_
        rintro e2 w2 ⟨rfl, hb2⟩
        rw [HCM.out]
        have HB2 := Lib.hid (hB.out.trans (hb2.mono hB.out.size))
        clear hb2 c0 c1 c2 c3 c4 hidx
        go_wp2
        go_ret2
        exact ⟨by rw [HRC.out]; rfl, HB2.out⟩
      · have hrf : r = false := by
          rw [← HR.out, fnd, HQ.out, List.getElem?_eq_none (by rw [HN.out]; omega)]
          rfl
        subst hrf
        go_wp2
        go_ret2
        exact ⟨rfl, hB.out⟩

theorem place_any (v : Value) (l : List Pos) (k : Nat) (w : World) (hv : IsP w v l) (hs : Asc l) (hl : l.length ≤ 1048576) :
    Calls Tryz.prog 96 #[v, .int .u64 (k : Int)] w fun e w' => e = .returned (.tuple #[.int .i64 (psn l k), .bool (fnd l k).isSome]) ∧ Below w.heap.size w w' := by
  go_enter Tryz.func96, Tryz.ntmps96
  go_wp2_with fail
  refine (search_any v l k _ hv hs hl).mono ?_
  rintro e w' ⟨rfl, hb⟩
  go_wp2
  go_ret2
  exact ⟨rfl, hb⟩

end Go.Proofs.YtoblbipkkdiddaaGreatDoor.Q
end

section
namespace Go.Proofs.YtoblbipkkdiddaaGreatDoor.Q
open Go.RowKit Go.Cor


set_option maxRecDepth 100000 in
set_option maxHeartbeats 2000000 in
theorem walk_grow (V V0 VI SV V2 VD1 VD2 : Value) (i N k : Nat) (w w1 w2 w3 : World) (hi : i < N) (hl : N ≤ 1048576) (hkk : (N : Int) + 1 - (i : Int) = (k : Int)) (hne : ((i : Int) == (N : Int)) = false) (hgt : ¬ ((N : Int) + 1 ≤ (N : Int)))
    (hlen : ∀ W, (Builtin.len_ #[80] 3 #[V]).run Tryz.prog W = .ok (.int .i64 (N : Int)) W) (hcap : ∀ (W : World) (ty : TypeId), (Builtin.cap_ #[80] ty #[V]).run Tryz.prog W = .ok (goInt N) W)
    (hS1 : ∀ W, (Builtin.len_ #[80] 3 #[SV]).run Tryz.prog W = .ok (.int .i64 1) W)
    (hsI : ∀ W, (Instr.slice 80 V (some (.int .i64 (i : Int))) none none).run Tryz.prog W = .ok VI W)
    (hs0 : ∀ W, (Instr.slice 80 V none (some (.int .i64 (i : Int))) none).run Tryz.prog W = .ok V0 W)
    (hsD1 : ∀ W, (Instr.slice 80 V2 (some (.int .i64 (i : Int))) none none).run Tryz.prog W = .ok VD1 W)
    (hsD2 : ∀ W, (Instr.slice 80 V2 (some (.int .i64 ((i : Int) + 1))) none none).run Tryz.prog W = .ok VD2 W)
    (HAP : Hid ((Builtin.append_ #[80, 3] 80 #[V0, .int .i64 (k : Int)]).run Tryz.prog w = .ok V2 w1)) (x1 x2 : Value)
    (HC1 : Hid (∀ ty, (Builtin.copy_ #[80, 80] ty #[VD1, SV]).run Tryz.prog w1 = .ok x1 w2))
    (HC2 : Hid (∀ ty, (Builtin.copy_ #[80, 80] ty #[VD2, VI]).run Tryz.prog w2.drew = .ok x2 w3)) (hwr : IntKind.i64.wrap ((i : Int) + 1) = (i : Int) + 1) :
    Calls Tryz.prog 109 #[V, .int .i64 (i : Int), SV] w fun e w' => e = .returned V2 ∧ w' = w3 := by
  go_enter Tryz.func109, Tryz.ntmps109
  go_wp2_with (first | (at_builtin; refine Lib.wpList_append_run _ rfl _ _ 80 3 rfl _ _ rfl rfl _ _ HAP.out ?_) | (refine wpList_copy_run (o := ⟨some 45, _, _, _, _, _⟩) rfl _ _ 80 80 rfl _ _ rfl rfl (HC1.out _) ?_))
  go_region_held3 (fun _ => True) (trivial) (first | (refine step_copy_run rfl _ _ 80 80 rfl _ _ rfl rfl (HC2.out _) ?_))
  go_wp2
  go_ret
  exact ⟨rfl, rfl⟩

set_option maxRecDepth 100000 in
set_option maxHeartbeats 2000000 in
theorem walk_room (V V3 VI VS VD SV : Value) (i N cap : Nat) (w w2 w3 : World) (hi : i < N) (hl : N ≤ 1048576) (hne : ((i : Int) == (N : Int)) = false) (hgt : (N : Int) + 1 ≤ (cap : Int))
    (hlen : ∀ W, (Builtin.len_ #[80] 3 #[V]).run Tryz.prog W = .ok (.int .i64 (N : Int)) W) (hcap : ∀ (W : World) (ty : TypeId), (Builtin.cap_ #[80] ty #[V]).run Tryz.prog W = .ok (goInt cap) W)
    (hS1 : ∀ W, (Builtin.len_ #[80] 3 #[SV]).run Tryz.prog W = .ok (.int .i64 1) W)
    (hsI : ∀ W, (Instr.slice 80 V (some (.int .i64 (i : Int))) none none).run Tryz.prog W = .ok VI W)
    (hs3 : ∀ W, (Instr.slice 80 V none (some (.int .i64 ((N : Int) + 1))) none).run Tryz.prog W = .ok V3 W)
    (hsS : ∀ W, (Instr.slice 80 V3 (some (.int .i64 (i : Int))) none none).run Tryz.prog W = .ok VS W)
    (hsD : ∀ W, (Instr.slice 80 V3 (some (.int .i64 ((i : Int) + 1))) none none).run Tryz.prog W = .ok VD W)
    (hov : (callFunc 128 #[SV, VD]).run Tryz.prog w = .ok (.value (.bool false)) w) (x1 x2 : Value)
    (HC1 : Hid (∀ ty, (Builtin.copy_ #[80, 80] ty #[VD, VS]).run Tryz.prog w.drew = .ok x1 w2))
    (HC2 : Hid (∀ ty, (Builtin.copy_ #[80, 80] ty #[VS, SV]).run Tryz.prog w2 = .ok x2 w3)) (hwr : IntKind.i64.wrap ((i : Int) + 1) = (i : Int) + 1) :
    Calls Tryz.prog 109 #[V, .int .i64 (i : Int), SV] w fun e w' => e = .returned V3 ∧ w' = w3 := by
  go_enter Tryz.func109, Tryz.ntmps109
  go_wp2_with (simp only [hov])
  go_region_held3 (fun _ => True) (trivial) (first | (refine step_copy_run rfl _ _ 80 80 rfl _ _ rfl rfl (HC1.out _) ?_))
  go_wp2_with (refine wpList_copy_run (o := ⟨some 82, _, _, _, _, _⟩) rfl _ _ 80 80 rfl _ _ rfl rfl (HC2.out _) ?_)
  go_ret
  exact ⟨rfl, rfl⟩



theorem srcOf {w : World} {size : Nat} {ad : Addr} {n c : Nat} {cs : List Value} (h : IsX w size (.slice (some ad) n c) n cs) : ∀ j u, cs[j]? = some u → w.cell? (ad.add j) = some u := by
  intro j u hj
  obtain ⟨a', c', e', k1, k2, k3, k4, k5⟩ := h
  cases e'
  have hjl := (List.getElem?_eq_some_iff.1 hj).1
  rcases k5 with k5 | ⟨b, off, e1, hc⟩
  · subst k5
    rw [Nat.zero_mul] at k3
    omega
  · cases e1
    rw [add_lit]
    exact (hc j (by rw [← k3]; exact hjl)).trans hj
theorem entX {w : World} {a : Nat} {p : Pos} {T : TypeId} (ha : w.heap[a]? = some (.cells #[.int .u64 (p.key : Int), .int .i64 p.off, .int .i64 p.len, .int .u32 (p.cookie : Int), .bool p.gone] T (0, 0))) : IsX w 5 (.slice (some ⟨a, 0, none⟩) 1 1) 1 (pcells p) := by
  refine ⟨_, _, rfl, Nat.le_refl _, by unfold maxLen; omega, rfl, by simp, .inr ⟨a, 0, rfl, fun j hj => ?_⟩⟩
  rw [cell_of_row w a _ _ _ _ ha, Nat.zero_add]
  match j, hj with
  | 0, _ => rfl
  | 1, _ => rfl
  | 2, _ => rfl
  | 3, _ => rfl
  | 4, _ => rfl

set_option maxRecDepth 100000 in
set_option maxHeartbeats 1000000 in
/-- At the end. -/
theorem tins_end (v : Value) (l : List Pos) (p : Pos) (a : Nat) (w : World) (hv : w.ownsRow 0 83 5 v l.length (row pcells l)) (hl : l.length ≤ 1048576)
    (ha : w.heap[a]? = some (.cells #[.int .u64 (p.key : Int), .int .i64 p.off, .int .i64 p.len, .int .u32 (p.cookie : Int), .bool p.gone] 83 (0, 0))) :
    Calls Tryz.prog 109 #[v, .int .i64 (l.length : Int), .slice (some ⟨a, 0, none⟩) 1 1] w fun e w' =>
      ∃ v', e = .returned v' ∧ w'.ownsRow 0 83 5 v' (l.length + 1) (row pcells (l ++ [p])) ∧ Kept (fun k => v.ownBlock = some k) w w' ∧ (v'.ownBlock = v.ownBlock ∨ v'.ownBlock = some w.heap.size) := by
  obtain ⟨i0, hinf, hz0, hz1, hz2⟩ := info_parts Tryz.infoPos
  have hT := Tryz.underlying80
  have hX := IsX.own hv
  have hS := entX ha
  obtain ⟨x, cap, rfl, hlc, hcm⟩ := hX.slice
  obtain ⟨v', w1, hap, hown1, hgr1, hat1⟩ := run_append_X (P := Tryz.prog) w 0 80 _ 80 i0 _ 5 32 hT hinf hz0 hz1 hz2 rfl (by decide) _ _ _ hv _ 1 _ hS (pcells_one p) (by unfold maxLen; omega) (by omega) (Nat.zero_le _)
  obtain ⟨N, hN⟩ : ∃ N, l.length = N := ⟨_, rfl⟩
  rw [hN] at hX hl hlc hv hap hown1 hgr1 hat1 ⊢
  have hs1 := slice_l_X (P := Tryz.prog) hX 80 _ hT Tryz.sizePos N (by omega)
  have hlen := fun W => len_X (P := Tryz.prog) hX 80 3 _ hT W
  have HAP := Lib.hid hap
  have HO := Lib.hid (show w1.ownsRow 0 83 5 v' (N + 1) (row pcells (l ++ [p])) from by rw [row_append, row_one]; exact hown1)
  have HK := Lib.hid (show Kept (fun k => (Value.slice x N cap).ownBlock = some k) w w1 from (Kept.refl _ w).grown hgr1 (fun k hk => .inl hk))
  have HA := Lib.hid hat1
  clear hap hown1 hgr1 hat1 hv hX hN
  generalize sliced x N N cap 5 = VI at *
  generalize Value.slice x N cap = V at *
  go_enter Tryz.func109, Tryz.ntmps109
  go_wp2_with (at_builtin; refine Lib.wpList_append_run _ rfl _ _ 80 80 rfl _ _ rfl rfl _ _ HAP.out ?_)
  go_ret
  exact ⟨_, rfl, HO.out, HK.out, HA.out⟩

set_option maxRecDepth 100000 in
set_option maxHeartbeats 2000000 in
/-- In the midst, where there is no room. -/
theorem tins_grow (l : List Pos) (p : Pos) (a g i N cap : Nat) (w : World) (hv : w.ownsRow 0 83 5 (.slice (some ⟨g, 0, none⟩) N cap) N (row pcells l)) (hN : l.length = N) (hi : i < N) (hl : N ≤ 1048576) (hroom : cap < N + 1) (hcm : cap ≤ maxLen) (hga : g ≠ a)
    (ha : w.heap[a]? = some (.cells #[.int .u64 (p.key : Int), .int .i64 p.off, .int .i64 p.len, .int .u32 (p.cookie : Int), .bool p.gone] 83 (0, 0))) :
    Calls Tryz.prog 109 #[.slice (some ⟨g, 0, none⟩) N cap, .int .i64 (i : Int), .slice (some ⟨a, 0, none⟩) 1 1] w fun e w' =>
      ∃ v', e = .returned v' ∧ w'.ownsRow 0 83 5 v' (N + 1) (row pcells (l.take i ++ p :: l.drop i)) ∧ Kept (fun k => some g = some k) w w' ∧ (v'.ownBlock = some g ∨ v'.ownBlock = some w.heap.size) := by
  obtain ⟨i0, hinf, hz0, hz1, hz2⟩ := info_parts Tryz.infoPos
  have hT := Tryz.underlying80
  have hX := IsX.own hv
  have hS := entX ha
  have hlr := length_row (pcells_len) l
  rw [hN] at hlr
  have hcap : N = cap := by
    obtain ⟨x', c', e', h1, _⟩ := hX.slice
    cases e'
    omega
  subst hcap
  have halt : a < w.heap.size := (Array.getElem?_eq_some_iff.1 ha).1
  have hglt := (hv.lt g rfl).2
  have hs0 := slice_h_X (P := Tryz.prog) 5 (some ⟨g, 0, none⟩) N N 80 _ hT Tryz.sizePos i (by omega)
  have hsI := slice_l_X (P := Tryz.prog) hX 80 _ hT Tryz.sizePos i (by omega)
  have hXI := hX.piece (lo := i) (hi := N) (by omega) (Nat.le_refl _)
  rw [sliced_at _ _ _ _ _ _ (by omega), Nat.zero_add] at hsI hXI
  have hB : ((row pcells l).drop (i * 5)).take ((N - i) * 5) = (row pcells l).drop (i * 5) := List.take_of_length_le (by rw [List.length_drop, hlr]; omega)
  rw [hB] at hXI
  have hlen := fun W => len_X (P := Tryz.prog) hX 80 3 _ hT W
  have hown0 := ownsRow_take hv (Nat.le_of_lt hi)
  have hl0 : ((row pcells l).take (i * 5)).length = i * 5 := by rw [List.length_take, hlr]; omega
  have hlB : ((row pcells l).drop (i * 5)).length = (N - i) * 5 := by rw [List.length_drop, hlr]; omega
  have hold : (Builtin.firstCells i0.size i (.slice (some ⟨g, 0, none⟩) i N)).run Tryz.prog w.drew = .ok ((row pcells l).take (i * 5)).toArray w.drew :=
    run_firstCells_some (P := Tryz.prog) w.drew i0.size i ⟨g, 0, none⟩ i N _ (by rw [hz1]; exact hl0) (fun j u hj => hown0.cells (g := g) rfl j u hj)
  obtain ⟨k, hk⟩ : ∃ k, N + 1 - i = k := ⟨_, rfl⟩
  have hap := Lib.run_append_grow_zeros (P := Tryz.prog) w 80 3 80 _ i0 _ .i64 .i64 hT Tryz.underlying3 hinf hz0 (some ⟨g, 0, none⟩) i N _ hold k (by omega) (by omega) (by omega) (by omega) (by rw [hz2]; omega) (growslice_fits (by omega) (by rw [hz2]; omega))
  have hik : i + k = N + 1 := by omega
  rw [hik] at hap
  obtain ⟨c2, hc2⟩ : ∃ c2, grownCap w (N + 1) N 83 = c2 := ⟨_, rfl⟩
  have hc2ge := grownCap_ge w (N + 1) N 83
  have hc2le := grownCap_le_maxLen w (N + 1) N 83 (by unfold maxLen; omega)
  rw [hc2] at hap hc2ge hc2le
  obtain ⟨L0, hL0⟩ : ∃ L0, ((row pcells l).take (i * 5)).toArray ++ Builtin.zeroCells (Value.agg #[.int .u64 0, .int .i64 0, .int .i64 0, .int .u32 0, .bool false]).cells k ++ Builtin.zeroCells (Value.agg #[.int .u64 0, .int .i64 0, .int .i64 0, .int .u32 0, .bool false]).cells (c2 - (N + 1)) = L0 := ⟨_, rfl⟩
  rw [hL0] at hap
  have hzs : (Value.agg #[.int .u64 0, .int .i64 0, .int .i64 0, .int .u32 0, .bool false]).cells.size = 5 := by kernel_rfl
  have hL0s : L0.size = c2 * 5 := by
    rw [← hL0]
    simp only [Array.size_append, List.size_toArray, size_zeroCells, hzs, hl0]
    omega
  have hL0l : L0.toList.length = c2 * 5 := by rw [Array.length_toList]; exact hL0s
  have hL0t : L0.toList.take (i * 5) = (row pcells l).take (i * 5) := by
    rw [← hL0]
    simp only [Array.toList_append, List.append_assoc]
    exact List.take_left' hl0
  obtain ⟨w1, hw1⟩ : ∃ w1, w.drew.alloc (.cells L0 83) = w1 := ⟨_, rfl⟩
  have hg1 : w1.heap[w.heap.size]? = some (.cells L0 83 (0, 0)) := by rw [← hw1]; exact heap_alloc_new w.drew _
  have hK1 : Kept (fun k => some g = some k) w w1 := by rw [← hw1]; exact ((Kept.refl _ w).drew).alloc _
  rw [hw1] at hap
  -- the entry
  have hsD1 := slice_l_C (P := Tryz.prog) 5 (some ⟨w.heap.size, 0, none⟩) (N + 1) c2 80 _ hT Tryz.sizePos i (by omega)
  rw [sliced_at _ _ _ _ _ _ (by omega), Nat.zero_add] at hsD1
  have hcp1 := fun ty => run_copy_X (P := Tryz.prog) w1 80 80 ty _ 5 w.heap.size (i * 5) (N + 1 - i) (c2 - i) ⟨a, 0, none⟩ 1 1 1 L0 _ (pcells p) hT Tryz.sizePos hg1 (by simp only [Nat.min_def]; split <;> omega) rfl
      (srcOf (hS.kept hK1 (fun j hj he => by
        have e1 : a = j := by simpa [Value.ownBlock] using hj.2
        have e2 : g = j := by simpa using he
        omega))) (by rw [hL0s]; show i * 5 + 5 ≤ _; omega) (pcells_one p)
  obtain ⟨L1, hL1⟩ : ∃ L1, (L0.toList.take (i * 5) ++ pcells p ++ L0.toList.drop (i * 5 + (pcells p).length)) = L1 := ⟨_, rfl⟩
  rw [hL1] at hcp1
  obtain ⟨w2, hw2⟩ : ∃ w2, w1.setRow w.heap.size L1.toArray = w2 := ⟨_, rfl⟩
  have hg2 : w2.heap[w.heap.size]? = some (.cells L1.toArray 83 (0, 0)) := by rw [← hw2]; exact setRow_heap w1 _ L0 _ _ _ hg1
  have hK2 : Kept (fun k => some g = some k) w w2 := by rw [← hw2]; exact hK1.setRow (.inr (Nat.le_refl _)) _
  rw [hw2] at hcp1
  have hL1s : L1.length = c2 * 5 := by
    rw [← hL1]
    simp only [List.length_append, List.length_take, List.length_drop, Array.length_toList, hL0s]
    show min (i * 5) (c2 * 5) + 5 + (c2 * 5 - (i * 5 + 5)) = _
    omega
  -- what stood behind
  have hsD2 := slice_l_C (P := Tryz.prog) 5 (some ⟨w.heap.size, 0, none⟩) (N + 1) c2 80 _ hT Tryz.sizePos (i + 1) (by omega)
  rw [sliced_at _ _ _ _ _ _ (by omega), Nat.zero_add, show N + 1 - (i + 1) = N - i from by omega] at hsD2
  have hXI2 : IsX w2.drew 5 (.slice (some ⟨g, i * 5, none⟩) (N - i) (N - i)) (N - i) ((row pcells l).drop (i * 5)) := by
    refine hXI.kept (S := fun k => w.heap.size ≤ k) ?_ (fun j hj he => ?_)
    · rw [← hw2, ← hw1]
      exact ((((Kept.refl _ w).drew).alloc _).setRow (.inl (Nat.le_refl _)) _).drew
    · have e1 : g = j := by simpa [Value.ownBlock] using hj.2
      omega
  have hcp2 := fun ty => run_copy_X (P := Tryz.prog) w2.drew 80 80 ty _ 5 w.heap.size ((i + 1) * 5) (N - i) (c2 - (i + 1)) ⟨g, i * 5, none⟩ (N - i) (N - i) (N - i) L1.toArray _ ((row pcells l).drop (i * 5)) hT Tryz.sizePos hg2 (by simp only [Nat.min_def]; split <;> omega) hlB
      (srcOf hXI2) (by rw [List.size_toArray, hL1s, hlB]; omega) (fun u hu => pcs_one l u (List.mem_of_mem_drop hu))
  obtain ⟨L2, hL2⟩ : ∃ L2, (L1.toArray.toList.take ((i + 1) * 5) ++ (row pcells l).drop (i * 5) ++ L1.toArray.toList.drop ((i + 1) * 5 + ((row pcells l).drop (i * 5)).length)) = L2 := ⟨_, rfl⟩
  rw [hL2] at hcp2
  obtain ⟨w3, hw3⟩ : ∃ w3, w2.drew.setRow w.heap.size L2.toArray = w3 := ⟨_, rfl⟩
  have hg3 : w3.heap[w.heap.size]? = some (.cells L2.toArray 83 (0, 0)) := by rw [← hw3]; exact setRow_heap w2.drew _ L1.toArray _ _ _ hg2
  have hK3 : Kept (fun k => some g = some k) w w3 := by rw [← hw3]; exact (hK2.drew).setRow (.inr (Nat.le_refl _)) _
  rw [hw3] at hcp2
  have hlist := ins_list2 L0.toList ((row pcells l).take (i * 5)) (pcells p) ((row pcells l).drop (i * 5)) (i * 5) 5 hL0t rfl (by rw [hL0l, hlB]; omega)
  rw [show i * 5 + 5 = i * 5 + (pcells p).length from rfl, hL1, show i * 5 + (pcells p).length = (i + 1) * 5 from by show i * 5 + 5 = _; omega] at hlist
  rw [show L1 = L1.toArray.toList from rfl, hL2, hlB, show (i + 1) * 5 + (N - i) * 5 = (N + 1) * 5 from by omega] at hlist
  have hO3 : w3.ownsRow 0 83 5 (.slice (some ⟨w.heap.size, 0, none⟩) (N + 1) c2) (N + 1) (row pcells (l.take i ++ p :: l.drop i)) := by
    have e : row pcells (l.take i ++ p :: l.drop i) = (row pcells l).take (i * 5) ++ pcells p ++ (row pcells l).drop (i * 5) := by
      rw [row_append, row_cons, row_take (pcells_len), row_drop (pcells_len), List.append_assoc]
    rw [e]
    refine ⟨by simp only [List.length_append, hl0, hlB]; show i * 5 + 5 + _ = _; omega, .inr ⟨w.heap.size, c2, _, rfl, Nat.zero_le _, hg3, hc2ge, hc2le, ?_, ?_⟩⟩
    · rw [List.size_toArray, hlist.2, hL0l]
    · rw [List.toList_toArray]
      exact hlist.1
  have HO := Lib.hid hO3
  have HK := Lib.hid hK3
  have HAP := Lib.hid hap
  have HC1 := Lib.hid hcp1
  have HC2 := Lib.hid hcp2
  have hne : ((i : Int) == (N : Int)) = false := by simp; omega
  have hgt : ¬ ((N : Int) + 1 ≤ (N : Int)) := by omega
  have hkk : (N : Int) + 1 - (i : Int) = (k : Int) := by omega
  have hS1 := fun W => len_X (P := Tryz.prog) hS 80 3 _ Tryz.underlying80 W
  have hcap := fun (W : World) (ty : TypeId) => run_cap_slice (P := Tryz.prog) W 80 ty (some ⟨g, 0, none⟩) N N (by simp [Program.elem, hT])
  rw [show ((i + 1 : Nat) : Int) = (i : Int) + 1 from rfl] at hsD2
  have HB := Lib.hid (show Value.ownBlock (.slice (some ⟨w.heap.size, 0, none⟩) (N + 1) c2) = some w.heap.size from rfl)
  have hwr : IntKind.i64.wrap ((i : Int) + 1) = (i : Int) + 1 := IntWalk.i64_in _ (by omega)
  refine (walk_grow _ _ _ _ _ _ _ i N k w w1 w2 w3 hi hl hkk hne hgt hlen hcap hS1 hsI hs0 hsD1 hsD2 HAP _ _ HC1 HC2 hwr).mono fun e w' => ?_
  rintro ⟨rfl, rfl⟩
  exact ⟨_, rfl, HO.out, HK.out, .inr HB.out⟩

set_option maxRecDepth 100000 in
set_option maxHeartbeats 2000000 in
/-- In the midst, where there is room. -/
theorem tins_room (l : List Pos) (p : Pos) (a g i N cap : Nat) (w : World) (hv : w.ownsRow 0 83 5 (.slice (some ⟨g, 0, none⟩) N cap) N (row pcells l)) (hN : l.length = N) (hi : i < N) (hl : N ≤ 1048576) (hroom : N + 1 ≤ cap) (hcm : cap ≤ maxLen) (hga : g ≠ a)
    (ha : w.heap[a]? = some (.cells #[.int .u64 (p.key : Int), .int .i64 p.off, .int .i64 p.len, .int .u32 (p.cookie : Int), .bool p.gone] 83 (0, 0))) :
    Calls Tryz.prog 109 #[.slice (some ⟨g, 0, none⟩) N cap, .int .i64 (i : Int), .slice (some ⟨a, 0, none⟩) 1 1] w fun e w' =>
      ∃ v', e = .returned v' ∧ w'.ownsRow 0 83 5 v' (N + 1) (row pcells (l.take i ++ p :: l.drop i)) ∧ Kept (fun k => some g = some k) w w' ∧ (v'.ownBlock = some g ∨ v'.ownBlock = some w.heap.size) := by
  obtain ⟨i0, hinf, hz0, hz1, hz2⟩ := info_parts Tryz.infoPos
  have hT := Tryz.underlying80
  have hX := IsX.own hv
  have hS := entX ha
  have hlr := length_row (pcells_len) l
  rw [hN] at hlr
  rcases hv.2 with ⟨hbad, _⟩ | ⟨g', cap', cur, he, _, hg, _, _, hcs, htake⟩
  · cases hbad
  cases he
  have halt : a < w.heap.size := (Array.getElem?_eq_some_iff.1 ha).1
  have hsI := slice_l_X (P := Tryz.prog) hX 80 _ hT Tryz.sizePos i (by omega)
  rw [sliced_at _ _ _ _ _ _ (by omega), Nat.zero_add] at hsI
  have hlB : ((row pcells l).drop (i * 5)).length = (N - i) * 5 := by rw [List.length_drop, hlr]; omega
  have hlen := fun W => len_X (P := Tryz.prog) hX 80 3 _ hT W
  have hs3 := slice_h_X (P := Tryz.prog) 5 (some ⟨g, 0, none⟩) N cap 80 _ hT Tryz.sizePos (N + 1) hroom
  have hsD := slice_l_C (P := Tryz.prog) 5 (some ⟨g, 0, none⟩) (N + 1) cap 80 _ hT Tryz.sizePos (i + 1) (by omega)
  rw [sliced_at _ _ _ _ _ _ (by omega), Nat.zero_add, show N + 1 - (i + 1) = N - i from by omega] at hsD
  have hsS := slice_l_C (P := Tryz.prog) 5 (some ⟨g, 0, none⟩) (N + 1) cap 80 _ hT Tryz.sizePos i (by omega)
  rw [sliced_at _ _ _ _ _ _ (by omega), Nat.zero_add] at hsS
  have hsz : ∀ W, (sizeOf 83).run Tryz.prog W = .ok 5 W := fun W => by simp [sizeOf, typeInfo, hinf, hz1]
  have hov : (callFunc 128 #[.slice (some ⟨a, 0, none⟩) 1 1, .slice (some ⟨g, (i + 1) * 5, none⟩) (N - i) (cap - (i + 1))]).run Tryz.prog w = .ok (.value (.bool false)) w := by
    rw [run_callFunc_extern Tryz.func128 (by kernel_rfl) (by kernel_rfl) (by kernel_rfl) (e := Extern.SlicesOverlaps.overlaps #[80, 80] #[4]) (by kernel_rfl),
      Lib.run_overlaps_apart w 80 4 83 Tryz.underlying80 5 hsz ⟨a, 0, none⟩ ⟨g, (i + 1) * 5, none⟩ 1 1 (N - i) (cap - (i + 1)) (fun e => hga e.symm) 83 83 5 cur.size (by simp [World.shape?, ha]) (by simp [World.shape?, hg]) (by rw [hcs]; omega) (frozen_of_row w a 0 _ _ ha) (frozen_of_row w a 5 _ _ ha)]
    rfl
  have hL0l : cur.toList.length = cap * 5 := by rw [Array.length_toList]; exact hcs
  have hL0t : cur.toList.take (i * 5) = (row pcells l).take (i * 5) := by
    rw [← htake, List.take_take, Nat.min_eq_left (by omega)]
  have hcp1 := fun ty => run_copy_X (P := Tryz.prog) w.drew 80 80 ty _ 5 g ((i + 1) * 5) (N - i) (cap - (i + 1)) ⟨g, i * 5, none⟩ (N + 1 - i) (cap - i) (N - i) cur _ ((row pcells l).drop (i * 5)) hT Tryz.sizePos hg (by simp only [Nat.min_def]; split <;> omega) hlB
      (fun j u hj => by
        rw [add_lit]
        have hjl := (List.getElem?_eq_some_iff.1 hj).1
        rw [List.getElem?_drop] at hj
        rw [hlB] at hjl
        show w.cell? _ = _
        rw [hv.cellAt (i * 5 + j) (by omega)]
        exact hj) (by rw [hcs, hlB]; omega) (fun u hu => pcs_one l u (List.mem_of_mem_drop hu))
  obtain ⟨L1, hL1⟩ : ∃ L1, (cur.toList.take ((i + 1) * 5) ++ (row pcells l).drop (i * 5) ++ cur.toList.drop ((i + 1) * 5 + ((row pcells l).drop (i * 5)).length)) = L1 := ⟨_, rfl⟩
  rw [hL1] at hcp1
  obtain ⟨w2, hw2⟩ : ∃ w2, w.drew.setRow g L1.toArray = w2 := ⟨_, rfl⟩
  have hg2 : w2.heap[g]? = some (.cells L1.toArray 83 (0, 0)) := by rw [← hw2]; exact setRow_heap w.drew _ cur _ _ _ hg
  have hK2 : Kept (fun k => some g = some k) w w2 := by rw [← hw2]; exact Kept.setRow (S := fun k => some g = some k) ((Kept.refl _ w).drew) (.inl rfl) _
  rw [hw2] at hcp1
  have hL1s : L1.length = cap * 5 := by
    rw [← hL1]
    simp only [List.length_append, List.length_take, List.length_drop, hL0l]
    omega
  have hcp2 := fun ty => run_copy_X (P := Tryz.prog) w2 80 80 ty _ 5 g (i * 5) (N + 1 - i) (cap - i) ⟨a, 0, none⟩ 1 1 1 L1.toArray _ (pcells p) hT Tryz.sizePos hg2 (by simp only [Nat.min_def]; split <;> omega) rfl
      (srcOf (hS.kept hK2 (fun j hj he => by
        have e1 : a = j := by simpa [Value.ownBlock] using hj.2
        have e2 : g = j := by simpa using he
        omega))) (by rw [List.size_toArray, hL1s]; show i * 5 + 5 ≤ _; omega) (pcells_one p)
  obtain ⟨L2, hL2⟩ : ∃ L2, (L1.toArray.toList.take (i * 5) ++ pcells p ++ L1.toArray.toList.drop (i * 5 + (pcells p).length)) = L2 := ⟨_, rfl⟩
  rw [hL2] at hcp2
  obtain ⟨w3, hw3⟩ : ∃ w3, w2.setRow g L2.toArray = w3 := ⟨_, rfl⟩
  have hg3 : w3.heap[g]? = some (.cells L2.toArray 83 (0, 0)) := by rw [← hw3]; exact setRow_heap w2 _ L1.toArray _ _ _ hg2
  have hK3 : Kept (fun k => some g = some k) w w3 := by rw [← hw3]; exact hK2.setRow (.inl rfl) _
  rw [hw3] at hcp2
  have hlist := ins_list cur.toList ((row pcells l).take (i * 5)) (pcells p) ((row pcells l).drop (i * 5)) (i * 5) 5 hL0t rfl (by rw [hL0l, hlB]; omega)
  rw [show i * 5 + 5 = (i + 1) * 5 from by omega, hL1, show (i + 1) * 5 = i * 5 + (pcells p).length from by show _ = i * 5 + 5; omega] at hlist
  rw [show L1 = L1.toArray.toList from rfl, hL2, hlB, show i * 5 + (pcells p).length + (N - i) * 5 = (N + 1) * 5 from by show i * 5 + 5 + _ = _; omega] at hlist
  have hl0 : ((row pcells l).take (i * 5)).length = i * 5 := by rw [List.length_take, hlr]; omega
  have hO3 : w3.ownsRow 0 83 5 (.slice (some ⟨g, 0, none⟩) (N + 1) cap) (N + 1) (row pcells (l.take i ++ p :: l.drop i)) := by
    have e : row pcells (l.take i ++ p :: l.drop i) = (row pcells l).take (i * 5) ++ pcells p ++ (row pcells l).drop (i * 5) := by
      rw [row_append, row_cons, row_take (pcells_len), row_drop (pcells_len), List.append_assoc]
    rw [e]
    refine ⟨by simp only [List.length_append, hl0, hlB]; show i * 5 + 5 + _ = _; omega, .inr ⟨g, cap, _, rfl, Nat.zero_le _, hg3, hroom, hcm, ?_, ?_⟩⟩
    · rw [List.size_toArray, hlist.2, hL0l]
    · rw [List.toList_toArray]
      exact hlist.1
  have HO := Lib.hid hO3
  have HK := Lib.hid hK3
  have HC1 := Lib.hid hcp1
  have HC2 := Lib.hid hcp2
  have hne : ((i : Int) == (N : Int)) = false := by simp; omega
  have hgt : ((N : Int) + 1 ≤ (cap : Int)) := by omega
  have hS1 := fun W => len_X (P := Tryz.prog) hS 80 3 _ Tryz.underlying80 W
  have hcap := fun (W : World) (ty : TypeId) => run_cap_slice (P := Tryz.prog) W 80 ty (some ⟨g, 0, none⟩) N cap (by simp [Program.elem, hT])
  rw [show ((i + 1 : Nat) : Int) = (i : Int) + 1 from rfl] at hsD
  rw [show ((N + 1 : Nat) : Int) = (N : Int) + 1 from rfl] at hs3
  have HB := Lib.hid (show Value.ownBlock (.slice (some ⟨g, 0, none⟩) (N + 1) cap) = some g from rfl)
  have hwr : IntKind.i64.wrap ((i : Int) + 1) = (i : Int) + 1 := IntWalk.i64_in _ (by omega)
  refine (walk_room _ _ _ _ _ _ i N cap w w2 w3 hi hl hne hgt hlen hcap hS1 hsI hs3 hsS hsD hov _ _ HC1 HC2 hwr).mono fun e w' => ?_
  rintro ⟨rfl, rfl⟩
  exact ⟨_, rfl, HO.out, HK.out, .inl HB.out⟩

/-- An entry laid in. -/
theorem tins_any (v : Value) (l : List Pos) (p : Pos) (a i : Nat) (w : World) (hv : w.ownsRow 0 83 5 v l.length (row pcells l)) (hi : i ≤ l.length) (hl : l.length ≤ 1048576) (hva : v.ownBlock ≠ some a)
    (ha : w.heap[a]? = some (.cells #[.int .u64 (p.key : Int), .int .i64 p.off, .int .i64 p.len, .int .u32 (p.cookie : Int), .bool p.gone] 83 (0, 0))) :
    Calls Tryz.prog 109 #[v, .int .i64 (i : Int), .slice (some ⟨a, 0, none⟩) 1 1] w fun e w' =>
      ∃ v', e = .returned v' ∧ w'.ownsRow 0 83 5 v' (l.length + 1) (row pcells (l.take i ++ p :: l.drop i)) ∧ Kept (fun k => v.ownBlock = some k) w w' ∧ (v'.ownBlock = v.ownBlock ∨ v'.ownBlock = some w.heap.size) := by
  by_cases h : i = l.length
  · subst h
    have := tins_end v l p a w hv hl ha
    rw [List.take_length, List.drop_length]
    exact this
  · rcases hv.2 with ⟨rfl, h0⟩ | ⟨g, cap, cur, rfl, _, hg, hnc, hcm, _⟩
    · omega
    · have hga : g ≠ a := fun e => hva (by rw [← e]; rfl)
      by_cases hr : l.length + 1 ≤ cap
      · exact tins_room l p a g i l.length cap w hv rfl (by omega) hl hr hcm hga ha
      · exact tins_grow l p a g i l.length cap w hv rfl (by omega) hl (by omega) hcm hga ha

end Go.Proofs.YtoblbipkkdiddaaGreatDoor.Q
end
