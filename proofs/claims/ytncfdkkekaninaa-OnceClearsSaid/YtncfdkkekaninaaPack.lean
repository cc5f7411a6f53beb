/- Package pack by contracts. -/
import Derived.Test.YtncfdkkekaninaaChecked
import Derived.Test.YtncfdkkekaninaaBytes
import Derived.WalkSpells
import Derived.WalkLawsBesides
set_option linter.unusedVariables false
set_option linter.unusedSimpArgs false
namespace Go.Proofs.Ytncfdkkekaninaa
open Go.RowKit Go.Cor

theorem Try.infoU8 : (Try.prog.info? 5).map (fun i => (i.zero, i.size, i.bytes)) = some (some (.int .u8 0), 1, 1) := by kernel_rfl
theorem Try.sizeU8 : (Try.prog.info? 5).map (·.size) = some 1 := by kernel_rfl

/-- A code as an error. -/
abbrev err (k : Int) : Value := .iface 56 (.int .i64 k)

/-- The greatest number of a size. -/
def great (s : Int) : Nat := if s = 1 then 255 else if s = 2 then 65535 else if s = 4 then 4294967295 else if s = 8 then 18446744073709551615 else 0
/-- Is it a size? -/
def Sized (s : Int) : Prop := s = 1 ∨ s = 2 ∨ s = 4 ∨ s = 8

theorem great_no {s : Int} (h : ¬ Sized s) : great s = 0 := by
  simp only [Sized, not_or] at h
  simp [great, h.1, h.2.1, h.2.2.1, h.2.2.2]
theorem great_pow {s : Int} (h : Sized s) : great s + 1 = 256 ^ s.toNat := by
  rcases h with rfl | rfl | rfl | rfl <;> rfl
theorem great_pos {s : Int} (h : Sized s) : 0 < great s := by
  rcases h with rfl | rfl | rfl | rfl <;> decide

theorem put_step {n k m len : Nat} {l : List UInt8} {w wr w1 : World} {v v' : Value} {o : Obj} (hm : Hid (m = n / 256 ^ k))
    (hown' : w1.ownsRow w.heap.size 5 1 v' (len + k + 1) (bvs (l ++ le n k) ++ [.int .u8 ((m : Int) % 256)])) (hg : (wr.alloc o).grownBy w1 v.ownBlock) (hb : Below w.heap.size w wr)
    (hown : wr.ownsRow w.heap.size 5 1 v (len + k) (bvs (l ++ le n k))) :
    Hid (m / 256 = n / 256 ^ (k + 1)) ∧ w1.ownsRow w.heap.size 5 1 v' (len + (k + 1)) (bvs (l ++ le n (k + 1))) ∧ Below w.heap.size w w1 := by
  have hm := hm.out
  refine ⟨?_, ?_, (hb.alloc hb.size o).grown hg (by have := hb.size; simp; omega) (fun j hj => (hown.lt j hj).1)⟩
  · show _ = _
    rw [hm, Nat.div_div_eq_div_mul, Nat.pow_succ]
  · rw [le_snoc, ← List.append_assoc, bvs_append, bvs_cons, bvs_nil]
    have e : bv (UInt8.ofNat (n / 256 ^ k)) = .int .u8 ((m : Int) % 256) := by
      rw [← hm]
      show Value.int .u8 (((UInt8.ofNat m).toNat : Nat) : Int) = _
      rw [UInt8.toNat_ofNat']
      simp
    rw [e]
    exact hown'

theorem get_step {l : List UInt8} {a s j m : Nat} (hm : Hid (m = num ((l.drop (a + (j + 1))).take (s - (j + 1))))) (hj : j + 1 ≤ s) (hs : s ≤ 8) (hl : a + s ≤ l.length) :
    (l[a + j]?.getD 0).toNat + 256 * m < 18446744073709551616 ∧ Hid ((l[a + j]?.getD 0).toNat + 256 * m = num ((l.drop (a + j)).take (s - j))) ∧
    Hid (bits .or .u64 ((m : Int) * 256) ((l[a + j]?.getD 0).toNat : Int) = (((l[a + j]?.getD 0).toNat + 256 * m : Nat) : Int)) := by
  have hm := hm.out
  have h1 := num_take_lt (l.drop (a + (j + 1))) (s - (j + 1)) (by omega)
  rw [← hm] at h1
  have h2 := (l[a + j]?.getD 0).toNat_lt
  refine ⟨by omega, ?_, shl8_or _ _ h1 h2⟩
  show _ = _
  rw [show s - j = (s - (j + 1)) + 1 from by omega, num_take_step l (a + j) _ (by omega), hm]
  rfl

/-- What lacks up to a multiple of 8. -/
def pad (n : Int) : Int := if n < 0 then 0 else (8 - n % 8) % 8
theorem pad_neg {n : Int} (h : n < 0) : pad n = 0 := by simp [pad, h]
theorem pad_pos {n : Int} (h : 0 ≤ n) : pad n = (8 - n % 8) % 8 := by simp [pad, Int.not_lt.2 h]
theorem pad_range (n : Int) : 0 ≤ pad n ∧ pad n < 8 := by
  unfold pad
  split <;> omega

end Go.Proofs.Ytncfdkkekaninaa
