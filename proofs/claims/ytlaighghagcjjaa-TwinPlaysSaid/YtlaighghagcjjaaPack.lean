/- Package pack by contracts. -/
import Derived.Test.YtlaighghagcjjaaChecked
import Derived.Test.YtlaighghagcjjaaBytes
import Derived.WalkSpells
import Derived.WalkLawsBesides
set_option linter.unusedVariables false
set_option linter.unusedSimpArgs false
namespace Go.Proofs.Ytlaighghagcjjaa
open Go.RowKit Go.Cor

theorem Try.infoU8 : (Try.prog.info? 5).map (fun i => (i.zero, i.size, i.bytes)) = some (some (.int .u8 0), 1, 1) := by kernel_rfl
theorem Try.sizeU8 : (Try.prog.info? 5).map (·.size) = some 1 := by kernel_rfl

/-- A code as an error. -/
abbrev err (k : Int) : Value := .iface 79 (.int .i64 k)

theorem greatest_1 (w : World) : Calls Try.prog 49 #[.int .i64 1] w fun e w' => e = .returned (.int .u64 255) ∧ w = w' := by
  go_enter Try.func49, Try.ntmps49
  go_wp2
  go_ret
  exact ⟨rfl, rfl⟩
theorem greatest_2 (w : World) : Calls Try.prog 49 #[.int .i64 2] w fun e w' => e = .returned (.int .u64 65535) ∧ w = w' := by
  go_enter Try.func49, Try.ntmps49
  go_wp2
  go_ret
  exact ⟨rfl, rfl⟩
theorem greatest_4 (w : World) : Calls Try.prog 49 #[.int .i64 4] w fun e w' => e = .returned (.int .u64 4294967295) ∧ w = w' := by
  go_enter Try.func49, Try.ntmps49
  go_wp2
  go_ret
  exact ⟨rfl, rfl⟩
theorem greatest_8 (w : World) : Calls Try.prog 49 #[.int .i64 8] w fun e w' => e = .returned (.int .u64 18446744073709551615) ∧ w = w' := by
  go_enter Try.func49, Try.ntmps49
  go_wp2
  go_ret
  exact ⟨rfl, rfl⟩
theorem greatest_no (s : Int) (w : World) (h1 : s ≠ 1) (h2 : s ≠ 2) (h4 : s ≠ 4) (h8 : s ≠ 8) : Calls Try.prog 49 #[.int .i64 s] w fun e w' => e = .returned (.int .u64 0) ∧ w = w' := by
  go_enter Try.func49, Try.ntmps49
  go_wp2
  go_ret
  exact ⟨rfl, rfl⟩

/-- The greatest number of a size. -/
def great (s : Int) : Nat := if s = 1 then 255 else if s = 2 then 65535 else if s = 4 then 4294967295 else if s = 8 then 18446744073709551615 else 0
/-- Is it a size? -/
def Sized (s : Int) : Prop := s = 1 ∨ s = 2 ∨ s = 4 ∨ s = 8

theorem great_no {s : Int} (h : ¬ Sized s) : great s = 0 := by
  simp only [Sized, not_or] at h
  simp [great, h.1, h.2.1, h.2.2.1, h.2.2.2]
theorem great_pow {s : Int} (h : Sized s) : great s + 1 = 256 ^ s.toNat := by
  rcases h with rfl | rfl | rfl | rfl <;> rfl
theorem great_pos {s : Int} (h : Sized s) : 0 < great s := by
  rcases h with rfl | rfl | rfl | rfl <;> decide

theorem greatest_any (s : Int) (w : World) : Calls Try.prog 49 #[.int .i64 s] w fun e w' => e = .returned (.int .u64 (great s : Nat)) ∧ w = w' := by
  by_cases h : Sized s
  · rcases h with rfl | rfl | rfl | rfl
    · exact greatest_1 w
    · exact greatest_2 w
    · exact greatest_4 w
    · exact greatest_8 w
  · rw [great_no h]
    simp only [Sized, not_or] at h
    exact greatest_no s w h.1 h.2.1 h.2.2.1 h.2.2.2

theorem put_arg (v : Value) (n s : Int) (w : World) (h : ¬ Sized s) :
    Calls Try.prog 42 #[v, .int .u64 n, .int .i64 s] w fun e w' => e = .returned (.tuple #[.slice none 0 0, err 1]) ∧ w = w' := by
  have h0 := great_no h
  go_enter Try.func42, Try.ntmps42
  go_wp2_with (go_at_call 49; refine (greatest_any s _).mono ?_; rintro e w' ⟨rfl, rfl⟩)
  go_ret2
  exact ⟨rfl, rfl⟩

theorem put_long (v : Value) (n : Nat) (s : Int) (w : World) (h : Sized s) (hn : great s < n) :
    Calls Try.prog 42 #[v, .int .u64 n, .int .i64 s] w fun e w' => e = .returned (.tuple #[.slice none 0 0, err 2]) ∧ w = w' := by
  have h0 := great_pos h
  have h0' : ((great s : Nat) : Int) ≠ 0 := by omega
  go_enter Try.func42, Try.ntmps42
  go_wp2_with (go_at_call 49; refine (greatest_any s _).mono ?_; rintro e w' ⟨rfl, rfl⟩)
  go_ret2
  exact ⟨rfl, rfl⟩

theorem put_step {n k m len : Nat} {l : List UInt8} {w wr w1 : World} {v v' : Value} {o : Obj} (hm : Hid (m = n / 256 ^ k))
    (hown' : w1.ownsRow w.heap.size 5 1 v' (len + k + 1) (bvs (l ++ le n k) ++ [.int .u8 ((m : Int) % 256)])) (hg : (wr.alloc o).grownBy w1 v.ownBlock) (hb : Below w.heap.size w wr)
    (hown : wr.ownsRow w.heap.size 5 1 v (len + k) (bvs (l ++ le n k))) :
    Hid (m / 256 = n / 256 ^ (k + 1)) ∧ w1.ownsRow w.heap.size 5 1 v' (len + (k + 1)) (bvs (l ++ le n (k + 1))) ∧ Below w.heap.size w w1 := by
  have hm := hm.out
  refine ⟨?_, ?_, (hb.alloc hb.size o).grown hg (by have := hb.size; simp; omega) (fun j hj => (hown.lt j hj).1)⟩
  · show _ = _
    rw [hm, Nat.div_div_eq_div_mul, Nat.pow_succ]
  · rw [le_snoc, ← List.append_assoc, bvs_append, bvs_cons, bvs_nil]
    have e : bv (UInt8.ofNat (n / 256 ^ k)) = .int .u8 ((m : Int) % 256) := by
      rw [← hm]
      show Value.int .u8 (((UInt8.ofNat m).toNat : Nat) : Int) = _
      rw [UInt8.toNat_ofNat']
      simp
    rw [e]
    exact hown'

set_option maxHeartbeats 400000 in
theorem put_ok (v : Value) (l : List UInt8) (n : Nat) (s : Nat) (w : World) (h : Sized (s : Int)) (hn : n ≤ great (s : Int)) (hv : IsB w v l) (hl : l.length ≤ 1099511627776) :
    Calls Try.prog 42 #[v, .int .u64 n, .int .i64 (s : Int)] w fun e w' =>
      ∃ v', e = .returned (.tuple #[v', .nilIface]) ∧ w'.ownsRow w.heap.size 5 1 v' (l ++ le n s).length (bvs (l ++ le n s)) ∧ Below w.heap.size w w' := by
  have h0 := great_pos h
  have hq1 : (((great (s : Int) : Nat) : Int) == 0) = false := by simp; omega
  have hq2 : decide (great (s : Int) < n) = false := by simp; omega
  have hs8 : s ≤ 8 := by unfold Sized at h; omega
  have hn64 : n < 18446744073709551616 := by
    have : great (s : Int) ≤ 18446744073709551615 := by rcases h with h | h | h | h <;> rw [h] <;> decide
    omega
  obtain ⟨i0, hi, hz0, hz1, hz2⟩ := info_parts Try.infoU8
  have hmk : ∀ wx : World, (Instr.makeSlice 43 (.int .i64 (l.length : Int)) (.int .i64 ((l.length : Int) + (s : Int)))).run Try.prog wx = .ok (.slice (some ⟨wx.heap.size, 0, none⟩) l.length (l.length + s)) (wx.alloc (.cells (madeCells #[.int .u8 0] (l.length + s)) 5)) := fun wx => by
    have := run_make (P := Try.prog) wx 43 5 i0 (.int .u8 0) Try.underlying43 hi hz0 .i64 .i64 l.length ((l.length : Int) + (s : Int)) (by omega) (by omega) (by rw [hz2]; omega) (by omega)
    rw [this, hz1]
    simp [show ((l.length : Int) + (s : Int)).toNat = l.length + s from by omega, Value.cells]
  obtain ⟨w2, hcp, hown2, hbel2⟩ := copy_made (P := Try.prog) w 43 5 3 Try.underlying43 Try.sizeU8 v l hv s (by unfold maxLen; omega)
  obtain ⟨a, cap, rfl, hlc, hcm, hnc, hcell⟩ := hv
  clear hcell hnc
  go_enter Try.func42, Try.ntmps42
  go_wp2_with (go_at_call 49; refine (greatest_any s _).mono ?_; rintro e w' ⟨rfl, rfl⟩)
  go_loopw [1, 9, 30] (fun n' o c wr => ∃ k m : Nat, k ≤ s ∧ m < 18446744073709551616 ∧ Hid (m = n / 256 ^ k) ∧ n' = .int .u64 (m : Int) ∧ c = .int .i64 k ∧ wr.ownsRow w.heap.size 5 1 o (l.length + k) (bvs (l ++ le n k)) ∧ Below w.heap.size w wr) (fun _ _ c _ => s - (intOf c).toNat)
  case atStart => exact ⟨0, n, by omega, hn64, by show n = _; simp, rfl, rfl, by simpa [le] using hown2, hbel2⟩
  case round =>
    obtain ⟨k, m, hk, hm64, hmk, rfl, rfl, hown, hbel⟩ := hrel
    have hsz : w.heap.size ≤ wr.heap.size := hbel.size
    by_cases hlt : k < s
    · go_wp2_with (at_builtin; refine wpList_append_own _ rfl _ _ 43 rfl w.heap.size 5 i0 (.int .u8 0) 1 1 Try.underlying43 hi hz0 hz1 hz2 rfl (by decide) _ _ _ rfl (hown.alloc _) ⟨wr.heap.size, 0, none⟩ 1 1 [.int .u8 ((m : Int) % 256)] rfl rfl ?c1 ?c2 ?c3 ?c4 ?c5 ?_)
      case c1 => exact cell_one_new _ _ _
      case c2 => intro u hu; simp at hu; subst hu; rfl
      case c3 => unfold maxLen; omega
      case c4 => omega
      case c5 => simp; omega
      intro v' w1 hown' hgrow _
      have hnext := put_step hmk hown' hgrow hbel hown
      clear hown' hgrow
      go_wp2
      go_roundw
      case rel => exact ⟨k + 1, m / 256, by omega, by omega, hnext.1, by go_num, by go_num, hnext.2.1, hnext.2.2⟩
      case measure => simp [intOf]; omega
    · obtain rfl : k = s := by omega
      go_wp2
      go_ret2
      exact ⟨_, rfl, by simpa [length_le] using hown, hbel⟩

theorem get_step {l : List UInt8} {a s j m : Nat} (hm : Hid (m = num ((l.drop (a + (j + 1))).take (s - (j + 1))))) (hj : j + 1 ≤ s) (hs : s ≤ 8) (hl : a + s ≤ l.length) :
    (l[a + j]?.getD 0).toNat + 256 * m < 18446744073709551616 ∧ Hid ((l[a + j]?.getD 0).toNat + 256 * m = num ((l.drop (a + j)).take (s - j))) ∧
    Hid (bits .or .u64 ((m : Int) * 256) ((l[a + j]?.getD 0).toNat : Int) = (((l[a + j]?.getD 0).toNat + 256 * m : Nat) : Int)) := by
  have hm := hm.out
  have h1 := num_take_lt (l.drop (a + (j + 1))) (s - (j + 1)) (by omega)
  rw [← hm] at h1
  have h2 := (l[a + j]?.getD 0).toNat_lt
  refine ⟨by omega, ?_, shl8_or _ _ h1 h2⟩
  show _ = _
  rw [show s - j = (s - (j + 1)) + 1 from by omega, num_take_step l (a + j) _ (by omega), hm]
  rfl

/-- What lacks up to a multiple of 8. -/
def pad (n : Int) : Int := if n < 0 then 0 else (8 - n % 8) % 8
theorem pad_neg {n : Int} (h : n < 0) : pad n = 0 := by simp [pad, h]
theorem pad_pos {n : Int} (h : 0 ≤ n) : pad n = (8 - n % 8) % 8 := by simp [pad, Int.not_lt.2 h]
theorem pad_range (n : Int) : 0 ≤ pad n ∧ pad n < 8 := by
  unfold pad
  split <;> omega

end Go.Proofs.Ytlaighghagcjjaa
