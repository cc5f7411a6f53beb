/- The document's answers for layer 3, by contracts: a needle's bytes, and what is alike. -/
import Derived.Test.YtncfdkkekaninaaNeedlee
set_option linter.unusedVariables false
set_option linter.unusedSimpArgs false
namespace Go.Proofs.Ytncfdkkekaninaa
open Go.RowKit Go.Cor

theorem refcheck_any (n : Ndl) (v : Value) (w : World) (hv : IsB w v n.data) :
    Calls Try.prog 28 #[nval n v] w fun e w' => e = .returned (.int .i64 (ncheck n : Nat)) ∧ Below w.heap.size w w' := by
  obtain ⟨k, c, g, l⟩ := n
  obtain ⟨d, hd⟩ : ∃ d : Nat, l.length = d := ⟨_, rfl⟩
  obtain ⟨x, cap, rfl, hlc, hcm⟩ := hv.at_len hd
  unfold maxLen at hcm
  have HR : Hid (ncheck ⟨k, c, g, l⟩ = if 4096 < d then 2 else if g = true ∧ 0 < d then 1 else 0) := by
    show ncheck ⟨k, c, g, l⟩ = _
    unfold ncheck
    rw [hd]
  clear hv hd
  by_cases h1 : 4096 < d
  · go_enter Try.func28, Try.ntmps28
    go_wp2
    go_ret
    exact ⟨by rw [HR.out, if_pos h1]; rfl, (Below.refl _ _).alloc (Nat.le_refl _) _⟩
  · cases g with
    | false =>
      go_enter Try.func28, Try.ntmps28
      go_wp2
      go_ret
      exact ⟨by rw [HR.out, if_neg h1]; rfl, (Below.refl _ _).alloc (Nat.le_refl _) _⟩
    | true =>
      by_cases h2 : 0 < d
      · go_enter Try.func28, Try.ntmps28
        go_wp2
        go_ret
        exact ⟨by rw [HR.out, if_neg h1, if_pos ⟨trivial, h2⟩]; rfl, (Below.refl _ _).alloc (Nat.le_refl _) _⟩
      · go_enter Try.func28, Try.ntmps28
        go_wp2
        go_ret
        exact ⟨by rw [HR.out, if_neg h1, if_neg (fun h => h2 h.2)]; rfl, (Below.refl _ _).alloc (Nat.le_refl _) _⟩

set_option maxHeartbeats 400000 in
theorem refsame_any (a b : Ndl) (va vb : Value) (w : World) (ha : IsB w va a.data) (hb : IsB w vb b.data) (hl : a.data.length ≤ 1099511627776) :
    Calls Try.prog 26 #[nval a va, nval b vb] w fun e w' => e = .returned (.bool (sameN a b)) ∧ Below w.heap.size w w' := by
  obtain ⟨k1, c1, g1, l⟩ := a
  obtain ⟨k2, c2, g2, m⟩ := b
  by_cases hk : k1 = k2
  · subst hk
    by_cases hc : c1 = c2
    · subst hc
      by_cases hg : g1 = g2
      · subst hg
        rw [sameN_data]
        have HA := Lib.hid ha
        have HB := Lib.hid hb
        clear ha hb
        go_enter Try.func26, Try.ntmps26
        go_wp2_with fail
        refine (same_any _ _ l m _ ?_ ?_ hl).mono ?_
        · exact (HA.out.mono ((Below.refl _ _).alloc (Nat.le_refl _) _) (Nat.le_refl _)).mono ((Below.refl _ _).alloc (Nat.le_refl _) _) (Nat.le_refl _)
        · exact (HB.out.mono ((Below.refl _ _).alloc (Nat.le_refl _) _) (Nat.le_refl _)).mono ((Below.refl _ _).alloc (Nat.le_refl _) _) (Nat.le_refl _)
        rintro e w' ⟨rfl, nd, rfl⟩
        go_wp2
        go_ret
        exact ⟨rfl, below_drewN (((Below.refl _ _).alloc (Nat.le_refl _) _).alloc (by simp) _) nd⟩
      · rw [sameN_gone hg]
        have hgb : (g1 == g2) = false := by simpa using hg
        clear hg
        go_enter Try.func26, Try.ntmps26
        go_wp2
        go_ret
        exact ⟨rfl, ((Below.refl _ _).alloc (Nat.le_refl _) _).alloc (by simp) _⟩
    · rw [sameN_cookie hc]
      have hcb : ((c1 : Int) == (c2 : Int)) = false := by rw [beq_eq_false_iff_ne]; omega
      clear hc
      go_enter Try.func26, Try.ntmps26
      go_wp2
      go_ret
      exact ⟨rfl, ((Below.refl _ _).alloc (Nat.le_refl _) _).alloc (by simp) _⟩
  · rw [sameN_key hk]
    have hkb : ((k1 : Int) == (k2 : Int)) = false := by rw [beq_eq_false_iff_ne]; omega
    clear hk
    go_enter Try.func26, Try.ntmps26
    go_wp2
    go_ret
    exact ⟨rfl, ((Below.refl _ _).alloc (Nat.le_refl _) _).alloc (by simp) _⟩


/-- A slice's length. -/
def lenV : Value → Nat
  | .slice _ n _ => n
  | _ => 0
theorem zlit4 (w : World) : IsB (w.alloc (.cells #[.int .u8 0, .int .u8 0, .int .u8 0, .int .u8 0] 5)) (.slice (some ⟨w.heap.size, 0, none⟩) 4 4) (zerosN 4) := IsB.lit w (zerosN 4) 5 (by decide)
theorem zlit1 (w : World) : IsB (w.alloc (.cells #[.int .u8 0] 5)) (.slice (some ⟨w.heap.size, 0, none⟩) 1 1) (zerosN 1) := IsB.lit w (zerosN 1) 5 (by decide)
theorem front_fin1 {w : World} {B : Nat} {U : TypeId} {v : Value} {F : List UInt8} {k c d f : Nat} (e : F = le 1313162572 4 ++ le f 4 ++ le k 8 ++ le c 4 ++ le d 4)
    (h : w.ownsRow (B + 1) U 1 v ((le 1313162572 4).length + ((le f 4).length + ((le k 8).length + ((le c 4).length + (le d 4).length)))) (bvs (le 1313162572 4 ++ (le f 4 ++ (le k 8 ++ (le c 4 ++ le d 4)))))) :
    w.ownsRow (B + 1) U 1 v F.length (bvs F) := by
  simp only [length_le] at h
  rw [e]
  simpa [length_le] using h

end Go.Proofs.Ytncfdkkekaninaa
