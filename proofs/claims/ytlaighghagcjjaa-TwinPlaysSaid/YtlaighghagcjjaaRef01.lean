/- The document's answers for layer 1, by contracts. -/
import Derived.Test.YtlaighghagcjjaaPack
import Derived.Deep.QuietTactic
import Derived.BigQuiet
import Derived.Deep.Draws
set_option linter.unusedVariables false
set_option linter.unusedSimpArgs false
namespace Go.Proofs.Ytlaighghagcjjaa
open Go.RowKit Go.Cor

set_option maxHeartbeats 400000 in
theorem same_yes (v1 v2 : Value) (l : List UInt8) (w : World) (hv1 : IsB w v1 l) (hv2 : IsB w v2 l) (hl : l.length ≤ 1099511627776) :
    Calls Try.prog 15 #[v1, v2] w fun e w' => e = .returned (.bool true) ∧ ∃ n, w' = w.drewN n := by
  obtain ⟨x1, cap1, rfl, hlc1, hcm1, _, hcell1⟩ := hv1
  obtain ⟨x2, cap2, rfl, hlc2, hcm2, _, hcell2⟩ := hv2
  have HC : Hid (∀ i, i < l.length → ∃ b1 off1 b2 off2, x1 = some ⟨b1, off1, none⟩ ∧ x2 = some ⟨b2, off2, none⟩ ∧ ∃ y : UInt8, w.cell? ⟨b1, off1 + i, none⟩ = some (bv y) ∧ w.cell? ⟨b2, off2 + i, none⟩ = some (bv y)) := by
    intro i hi
    rcases hcell1 with hE | ⟨b1, off1, rfl, hc1⟩
    · omega
    · rcases hcell2 with hE | ⟨b2, off2, rfl, hc2⟩
      · omega
      · exact ⟨b1, off1, b2, off2, rfl, rfl, _, hc1 i hi, hc2 i hi⟩
  clear hcell1 hcell2
  go_enter Try.func15, Try.ntmps15
  go_wp2
  go_loopw [5] (fun c wr => ∃ k : Nat, k ≤ l.length ∧ c = .int .i64 k ∧ ∃ n, wr = w.drewN n) (fun c _ => l.length - (intOf c).toNat)
  case atStart => exact ⟨0, by omega, rfl, 0, rfl⟩
  case round =>
    obtain ⟨k, hk, rfl, n, rfl⟩ := hrel
    by_cases hlt : k < l.length
    · obtain ⟨b1, off1, b2, off2, rfl, rfl, y, hc1, hc2⟩ := HC.out k hlt
      go_wp2
      go_quiet (fail)
      go_wp2
      go_roundw
      case rel => exact ⟨k + 1, by omega, by go_num, _, rfl⟩
      case measure => simp [intOf]; omega
    · go_wp2
      go_ret
      exact ⟨rfl, n, rfl⟩

/-- Are two lists the same? -/
def sameB (l m : List UInt8) : Bool := decide (l = m)
theorem sameB_yes {l m : List UInt8} (h : l = m) : sameB l m = true := decide_eq_true h
theorem sameB_no {l m : List UInt8} (h : l ≠ m) : sameB l m = false := decide_eq_false h
theorem ret_bool {a b : Bool} (h : a = b) : Ending.returned (.bool a) = .returned (.bool b) := by rw [h]
theorem same_first {l m : List UInt8} (h : l.length = m.length) (hne : l ≠ m) : ∃ k, k < l.length ∧ (∀ i, i < k → l.getD i 0 = m.getD i 0) ∧ l.getD k 0 ≠ m.getD k 0 := by
  induction l generalizing m with
  | nil => exact absurd (List.eq_nil_of_length_eq_zero (by simpa using h.symm)).symm hne
  | cons x l ih =>
    cases m with
    | nil => simp at h
    | cons y m =>
      by_cases hxy : x = y
      · subst hxy
        obtain ⟨k, h1, h2, h3⟩ := ih (by simpa using h) (fun e => hne (by rw [e]))
        refine ⟨k + 1, by simpa using h1, fun i hi => ?_, by simpa using h3⟩
        cases i with
        | zero => rfl
        | succ i => simpa using h2 i (by omega)
      · exact ⟨0, by simp, fun i hi => by omega, by simpa using hxy⟩

set_option maxHeartbeats 400000 in
theorem same_len (v1 v2 : Value) (l m : List UInt8) (w : World) (hv1 : IsB w v1 l) (hv2 : IsB w v2 m) (hne : l.length ≠ m.length) :
    Calls Try.prog 15 #[v1, v2] w fun e w' => e = .returned (.bool false) ∧ w' = w := by
  obtain ⟨x1, cap1, rfl, hlc1, hcm1⟩ := hv1.at_len rfl
  obtain ⟨x2, cap2, rfl, hlc2, hcm2⟩ := hv2.at_len rfl
  have hb : ((l.length : Int) != (m.length : Int)) = true := by rw [bne_iff_ne]; omega
  clear hv1 hv2
  go_enter Try.func15, Try.ntmps15
  go_wp2
  go_ret
  exact ⟨rfl, rfl⟩

set_option maxHeartbeats 400000 in
theorem same_no (v1 v2 : Value) (l m : List UInt8) (w : World) (hv1 : IsB w v1 l) (hv2 : IsB w v2 m) (hl : l.length ≤ 1099511627776) (hlm : l.length = m.length) (hne : l ≠ m) :
    Calls Try.prog 15 #[v1, v2] w fun e w' => e = .returned (.bool false) ∧ ∃ n, w' = w.drewN n := by
  obtain ⟨j, hj, hsm, hdf⟩ := same_first hlm hne
  obtain ⟨x1, cap1, rfl, hlc1, hcm1, _, hcell1⟩ := hv1
  obtain ⟨x2, cap2, rfl, hlc2, hcm2, _, hcell2⟩ := hv2
  have HC : Hid (∀ i, i < l.length → ∃ b1 off1 b2 off2, x1 = some ⟨b1, off1, none⟩ ∧ x2 = some ⟨b2, off2, none⟩ ∧ w.cell? ⟨b1, off1 + i, none⟩ = some (bv (l.getD i 0)) ∧ w.cell? ⟨b2, off2 + i, none⟩ = some (bv (m.getD i 0))) := by
    intro i hi
    rcases hcell1 with hE | ⟨b1, off1, rfl, hc1⟩
    · omega
    · rcases hcell2 with hE | ⟨b2, off2, rfl, hc2⟩
      · omega
      · exact ⟨b1, off1, b2, off2, rfl, rfl, hc1 i hi, hc2 i (by omega)⟩
  have HS := Lib.hid hsm
  have HD := Lib.hid hdf
  rw [← hlm]
  clear hcell1 hcell2 hne hlm hsm hdf
  go_enter Try.func15, Try.ntmps15
  go_wp2
  go_loopw [5] (fun c wr => ∃ k : Nat, k ≤ j ∧ c = .int .i64 k ∧ ∃ n, wr = w.drewN n) (fun c _ => l.length - (intOf c).toNat)
  case atStart => exact ⟨0, by omega, rfl, 0, rfl⟩
  case round =>
    obtain ⟨k, hk, rfl, n, rfl⟩ := hrel
    have hkl : k < l.length := by omega
    obtain ⟨b1, off1, b2, off2, rfl, rfl, hc1, hc2⟩ := HC.out k hkl
    by_cases hlt : k < j
    · have e := HS.out k hlt
      obtain ⟨y, hy⟩ : ∃ y, y = l.getD k 0 := ⟨_, rfl⟩
      rw [← hy] at hc1 e
      rw [← e] at hc2
      clear e hy
      go_wp2
      go_quiet (fail)
      go_wp2
      go_roundw
      case rel => exact ⟨k + 1, by omega, by go_num, _, rfl⟩
      case measure => simp [intOf]; omega
    · obtain rfl : k = j := by omega
      have e := HD.out
      obtain ⟨y, hy⟩ : ∃ y, y = l.getD k 0 := ⟨_, rfl⟩
      obtain ⟨z, hz⟩ : ∃ z, z = m.getD k 0 := ⟨_, rfl⟩
      rw [← hy] at hc1 e
      rw [← hz] at hc2 e
      have hb : ((y.toNat : Int) != (z.toNat : Int)) = true := by
        rw [bne_iff_ne]
        intro h
        exact e (UInt8.toNat_inj.1 (by omega))
      clear e hy hz
      go_wp2
      go_quiet (fail)
      go_wp2
      go_ret
      exact ⟨rfl, _, World.drewN_drewN _ _ _⟩

theorem same_any (v1 v2 : Value) (l m : List UInt8) (w : World) (hv1 : IsB w v1 l) (hv2 : IsB w v2 m) (hl : l.length ≤ 1099511627776) :
    Calls Try.prog 15 #[v1, v2] w fun e w' => e = .returned (.bool (sameB l m)) ∧ ∃ n, w' = w.drewN n := by
  by_cases h : l = m
  · subst h
    rw [sameB_yes rfl]
    exact same_yes v1 v2 l w hv1 hv2 hl
  · rw [sameB_no h]
    by_cases hlm : l.length = m.length
    · exact same_no v1 v2 l m w hv1 hv2 hl hlm h
    · exact (same_len v1 v2 l m w hv1 hv2 hlm).mono fun e w' he => ⟨he.1, 0, by rw [he.2]; rfl⟩

/-- Are k bytes enough? -/
def fitsB (n k : Nat) : Bool := decide (n < 256 ^ k)
theorem fits_of {m n k : Nat} (h : Hid (m = n / 256 ^ k)) : ((m : Int) == 0) = fitsB n k := by
  rw [h.out, Bool.eq_iff_iff]
  have hp : 0 < 256 ^ k := Nat.pow_pos (by decide)
  simp [fitsB]
  rw [show ((n : Int) / 256 ^ k) = ((n / 256 ^ k : Nat) : Int) from by simp, Int.natCast_eq_zero, Nat.div_eq_zero_iff]
  omega

theorem number_step {l : List UInt8} {j m : Nat} (hm : Hid (m = num (l.drop (j + 1)))) (hj : j < l.length) (hl : l.length ≤ 8) :
    (m * 256 + (l[j]?.getD 0).toNat) < 18446744073709551616 ∧ Hid (m * 256 + (l[j]?.getD 0).toNat = num (l.drop j)) := by
  have hm := hm.out
  have h1 := num_take_lt (l.drop (j + 1)) (l.length - (j + 1)) (by omega)
  rw [List.take_of_length_le (by simp), ← hm] at h1
  have h2 := (l[j]?.getD 0).toNat_lt
  refine ⟨by omega, ?_⟩
  show _ = _
  have h3 := num_take_step l j (l.length - (j + 1)) hj
  rw [List.take_of_length_le (by simp; omega), List.take_of_length_le (by simp), ← hm] at h3
  omega

theorem bytes_step {n k m s : Nat} {w wr : World} (hm : Hid (m = n / 256 ^ k)) (hk : k < s)
    (hown : wr.ownsRow w.heap.size 5 1 (.slice (some ⟨w.heap.size, 0, none⟩) s s) s (bvs (le n k) ++ List.replicate (s - k) (.int .u8 0))) (hb : Below w.heap.size w wr) :
    Hid (m / 256 = n / 256 ^ (k + 1)) ∧
    (wr.setCell ⟨w.heap.size, k, none⟩ (.int .u8 ((m : Int) % 256))).ownsRow w.heap.size 5 1 (.slice (some ⟨w.heap.size, 0, none⟩) s s) s (bvs (le n (k + 1)) ++ List.replicate (s - (k + 1)) (.int .u8 0)) ∧
    Below w.heap.size w (wr.setCell ⟨w.heap.size, k, none⟩ (.int .u8 ((m : Int) % 256))) ∧
    wr.cell? ⟨w.heap.size, k, none⟩ = some (.int .u8 0) ∧ True := by
  have hm := hm.out
  refine ⟨?_, ?_, hb.setCell (Nat.le_refl _) _, ?_, trivial⟩
  · show _ = _
    rw [hm, Nat.div_div_eq_div_mul, Nat.pow_succ]
  · have h1 := (hown.stored k (.int .u8 ((m : Int) % 256))).1
    have e : (bvs (le n k) ++ List.replicate (s - k) (Value.int .u8 0)).set k (.int .u8 ((m : Int) % 256)) = bvs (le n (k + 1)) ++ List.replicate (s - (k + 1)) (.int .u8 0) := by
      rw [List.set_append, if_neg (by simp [length_le]), le_snoc, bvs_append, bvs_cons, bvs_nil]
      simp only [length_bvs, length_le, Nat.sub_self]
      rw [show s - k = (s - (k + 1)) + 1 from by omega, List.replicate_succ, List.set_cons_zero, List.append_assoc]
      congr 1
      have e : bv (UInt8.ofNat (n / 256 ^ k)) = .int .u8 ((m : Int) % 256) := by
        rw [← hm]
        show Value.int .u8 (((UInt8.ofNat m).toNat : Nat) : Int) = _
        rw [UInt8.toNat_ofNat']
        simp
      rw [e]
      rfl
    rw [e] at h1
    exact h1
  · rw [hown.cellAt k (by omega), List.getElem?_append_right (by simp [length_le])]
    simp only [length_bvs, length_le, Nat.sub_self]
    rw [List.getElem?_replicate, if_pos (by omega)]

set_option maxHeartbeats 400000 in
theorem bytes_any (n s : Nat) (w : World) (hn : n < 18446744073709551616) (hs : s ≤ 8) :
    Calls Try.prog 40 #[.int .u64 n, .int .i64 s] w fun e w' =>
      ∃ v', e = .returned (.tuple #[v', .bool (fitsB n s)]) ∧ w'.ownsRow w.heap.size 5 1 v' s (bvs (le n s)) ∧ Below w.heap.size w w' := by
  obtain ⟨i0, hi, hz0, hz1, hz2⟩ := info_parts Try.infoU8
  obtain ⟨w1, hmk, hown1, hgr⟩ := run_make_full (P := Try.prog) w w.heap.size 43 5 i0 (.int .u8 0) 1 Try.underlying43 hi hz0 hz1 .i64 .i64 s (by rw [hz2]; omega) (by unfold maxLen; omega) (Nat.le_refl _)
  have hb1 : Below w.heap.size w w1 := (Below.refl _ _).grown hgr (Nat.le_refl _) (by simp)
  have hown1 : w1.ownsRow w.heap.size 5 1 (.slice (some ⟨w.heap.size, 0, none⟩) s s) s (bvs (le n 0) ++ List.replicate (s - 0) (.int .u8 0)) := by
    simpa [Value.cells, toList_madeCells_one, le, bvs_nil] using hown1
  go_enter Try.func40, Try.ntmps40
  go_wp2
  go_loopw [0, 7] (fun n' c wr => ∃ k m : Nat, k ≤ s ∧ m < 18446744073709551616 ∧ Hid (m = n / 256 ^ k) ∧ n' = .int .u64 (m : Int) ∧ c = .int .i64 k ∧ wr.ownsRow w.heap.size 5 1 (.slice (some ⟨w.heap.size, 0, none⟩) s s) s (bvs (le n k) ++ List.replicate (s - k) (.int .u8 0)) ∧ Below w.heap.size w wr) (fun _ c _ => s - (intOf c).toNat)
  case atStart => exact ⟨0, n, by omega, hn, by show n = _; simp, rfl, rfl, hown1, hb1⟩
  case round =>
    obtain ⟨k, m, hk, hm64, hdv, rfl, rfl, hown, hbel⟩ := hrel
    by_cases hlt : k < s
    · have hst := bytes_step hdv hlt hown hbel
      have hdv := 0
      have hc1 := hst.2.2.2.1
      have hf1 := hown.frozenAt k
      have H1 := Lib.hid hst.1
      have H2 := Lib.hid hst.2.1
      have H3 := Lib.hid hst.2.2.1
      clear hst hown
      go_wp2
      go_roundw
      case rel => exact ⟨k + 1, m / 256, by omega, by omega, H1.out, by go_num, by go_num, H2.out, H3.out⟩
      case measure => simp [intOf]; omega
    · obtain rfl : k = s := by omega
      have hq := fits_of hdv
      have HQ := Lib.hid hq
      clear hq
      go_wp2
      go_ret2
      exact ⟨_, by rw [HQ.out]; rfl, by simpa using hown, hbel⟩

end Go.Proofs.Ytlaighghagcjjaa
