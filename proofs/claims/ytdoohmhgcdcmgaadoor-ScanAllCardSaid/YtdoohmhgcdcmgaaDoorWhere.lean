/- The statements of layer 6: Code, Torn and where, of an error of a scan; the chapter's example. -/
import Derived.Test.YtdoohmhgcdcmgaaDoorRefAll
namespace Go.Proofs.YtdoohmhgcdcmgaaDoor
open Go.RowKit Go.Cor Go.Extern.Stop Go.Stop Go.Extern

theorem below_drawn {B : Nat} {a w : World} (h : Below B a w) (n : Nat) : Below B a (w.drewN n) := h.trans ⟨rfl, rfl, rfl, Nat.le_refl _, fun _ _ => rfl⟩

theorem errAt_code (v : Value) (name : ByteArray) (off k : Nat) (w : World) (h : ErrAt w v name off k) (hk : k ≤ 5) :
    Calls Tryd.prog 8 #[v] w fun e w' => e = .returned (.int .i64 (k : Int)) ∧ w = w' := by
  rcases h with ⟨rfl, rfl⟩ | ⟨h0, a, rfl, _, _, h3⟩
  · exact code_nil w
  · exact code_at a k w h3 (by omega) (by omega)

def tornB (k : Nat) : Bool := decide (k ≠ 0)
theorem spoiltK_nat {k : Nat} (h3 : 3 ≤ k) (h5 : k ≤ 5) : spoiltK (k : Int) = true := by
  unfold spoiltK
  rcases (show k = 3 ∨ k = 4 ∨ k = 5 by omega) with rfl | rfl | rfl <;> decide
theorem errAt_torn (v : Value) (name : ByteArray) (off k : Nat) (w : World) (hg : laidE w) (h : ErrAt w v name off k) (hk : k ≤ 5) (h3 : k ≠ 0 → 3 ≤ k) :
    Calls Tryd.prog 9 #[v] w fun e w' => e = .returned (.bool (tornB k)) ∧ Below w.heap.size w w' := by
  rcases h with ⟨rfl, rfl⟩ | ⟨h0, a, rfl, _, _, hc⟩
  · exact torn_nil w
  · rw [show tornB k = spoiltK (k : Int) from by rw [spoiltK_nat (h3 h0) hk]; exact decide_eq_true h0]
    exact torn_at a k w hg hc

theorem where_nil (w : World) :
    Calls Tryd.prog 11 #[.nilIface] w fun e w' => e = .returned (.tuple #[.string ⟨#[]⟩, .int .i64 0, .bool false]) ∧ Below w.heap.size w w' := by
  go_enter Tryd.func11, Tryd.ntmps11
  go_wp2_with (go_at_call 17; refine (as_nil _ _).mono ?_; rintro e w' ⟨rfl, rfl⟩)
  exact bodyPost_ret (v := .tuple #[.string ⟨#[]⟩, .int .i64 0, .bool false]) (by simp [results, Tryd.results11, go_sem]) rfl ⟨rfl, (Below.refl _ _).alloc (Nat.le_refl _) _⟩

set_option maxHeartbeats 1000000 in
theorem where_at (a : Nat) (name : ByteArray) (off : Int) (w : World) (hg : laidE w) (h0 : w.cell? ⟨a, 0, none⟩ = some (.string name)) (h1 : w.cell? ⟨a, 1, none⟩ = some (.int .i64 off)) :
    Calls Tryd.prog 11 #[.iface 53 (.pointer (some ⟨a, 0, none⟩))] w fun e w' => e = .returned (.tuple #[.string name, .int .i64 off, .bool true]) ∧ Below w.heap.size w w' := by
  have hgA : laidE (w.alloc (.cells #[.pointer none] 53)) := laidE_mono hg ((Below.refl _ _).alloc (Nat.le_refl _) _) (laidE_lt hg)
  have htA : (w.alloc (.cells #[.pointer none] 53)).cell? ⟨w.heap.size, 0, none⟩ = some (.pointer none) := by simp
  have hfA : (w.alloc (.cells #[.pointer none] 53)).frozen? ⟨w.heap.size, 0, none⟩ = false := by simp
  have hal : a < w.heap.size := cell_lt h0
  go_enter Tryd.func11, Tryd.ntmps11
  go_wp2_with fail
  refine (as_hit ⟨a, 0, none⟩ _ _ _ hgA htA hfA).mono ?_
  rintro e w1 ⟨rfl, hw1⟩
  obtain ⟨hb, ht⟩ := hit_facts w ⟨a, 0, none⟩ (.cells #[.pointer (some ⟨w.heap.size, 0, none⟩)] 58) (.cells #[.pointer (some ⟨1, 58, none⟩), .pointer (some ⟨(w.alloc (.cells #[.pointer none] 53)).heap.size, 0, none⟩), .int .u64 150] 73) (.cells #[.pointer (some ⟨1, 58, none⟩), .pointer (some ⟨(w.alloc (.cells #[.pointer none] 53)).heap.size, 0, none⟩), .int .u64 150] 73) (.cells #[.pointer (some ⟨a, 0, none⟩)] 53) 53
  rw [← hw1] at hb ht
  have c0 := (hb.cell (p := ⟨a, 0, none⟩) hal).trans h0
  have c1 := (hb.cell (p := ⟨a, 1, none⟩) hal).trans h1
  clear hw1
  go_wp2_with fail
  go_quiet (fail)
  go_wp2
  exact bodyPost_ret (v := .tuple #[.string name, .int .i64 off, .bool true]) (by simp [results, Tryd.results11, go_sem]) rfl ⟨rfl, below_drawn hb _⟩

theorem path_short {l : List UInt8} {fs : List Fnd} {z : Nat} (h : Path l 0 fs z) (hl : l.length < 32) : fs = [] ∧ z = 0 := by
  cases fs with
  | nil => cases h; exact ⟨rfl, rfl⟩
  | cons f r =>
    obtain ⟨_, h1, h2, _⟩ := h
    have := (getCode_zero.1 h2).1
    rw [List.length_drop] at this
    omega

set_option maxHeartbeats 1000000 in
theorem alive6_any (w : World) (hg : laidE w) :
    Calls Tryd.prog 6 #[] w fun e w' => e = .returned (.bool true) ∧ Below w.heap.size w w' := by
  go_enter Tryd.func6, Tryd.ntmps6
  go_wp2_with fail
  refine (all_any _ _ [] 0 _ (IsB.nil _) (by simp) (by simp)).mono ?_
  rintro e w1 ⟨x1, n1, c1, z1, err1, fs1, rfl, hn1, hF1, hP1, hE1, hz1, hA1, hb1⟩
  obtain ⟨rfl, rfl⟩ := path_short hP1 (by simp)
  obtain rfl : 0 = n1 := hn1
  have e1 : err1 = .nilIface := by
    rcases hA1 with ⟨_, h⟩ | ⟨h, _⟩
    · exact h
    · exact absurd rfl h
  subst e1
  have HB1 := Lib.hid hb1
  clear hF1 hP1 hE1 hz1 hA1 hb1
  go_wp2_with fail
  refine (all_any _ _ [1] 0 _ (IsB.lit w1 [1] 5 (by decide)) (by simp) (by simp)).mono ?_
  rintro e w2 ⟨x2, n2, c2, z2, err2, fs2, rfl, hn2, hF2, hP2, hE2, hz2, hA2, hb2⟩
  obtain ⟨rfl, rfl⟩ := path_short hP2 (by simp)
  have e2 : endCode [1] 0 = 3 := by decide
  rw [e2] at hA2
  have HA2 := Lib.hid hA2
  have HB2 := Lib.hid (HB1.out.trans (((Below.refl w1.heap.size w1).alloc (Nat.le_refl _) _).trans (hb2.mono (by simp)) |>.mono HB1.out.size))
  have HG2 := Lib.hid (laidE_mono hg HB2.out (laidE_lt hg))
  clear hF2 hP2 hE2 hz2 hA2 hb2 hn2
  go_wp2_with fail
  refine (code_nil _).mono ?_
  rintro e w' ⟨rfl, rfl⟩
  go_wp2_with fail
  refine (errAt_torn err2 _ _ 3 _ HG2.out HA2.out (by decide) (by decide)).mono ?_
  rintro e w3 ⟨rfl, hb3⟩
  rw [show tornB 3 = true from rfl]
  have HA3 := Lib.hid (HA2.out.mono hb3 (Nat.le_refl _))
  have HB3 := Lib.hid (HB2.out.trans (hb3.mono HB2.out.size))
  clear hb3
  go_wp2_with fail
  refine (errAt_code err2 _ _ 3 _ HA3.out (by decide)).mono ?_
  rintro e w' ⟨rfl, rfl⟩
  go_wp2
  go_ret
  exact ⟨rfl, HB3.out⟩

end Go.Proofs.YtdoohmhgcdcmgaaDoor
