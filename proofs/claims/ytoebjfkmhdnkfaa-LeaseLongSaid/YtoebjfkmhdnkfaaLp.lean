/- Package lease's calls at a lease whose fields are named, time handed in that doesn't go back. -/
import Derived.Test.YtoebjfkmhdnkfaaLa
namespace Go.Proofs.Ytoebjfkmhdnkfaa
open Go.RowKit Go.Cor
set_option linter.unusedVariables false
set_option linter.unusedSimpArgs false

theorem pass_eq {K T : Nat} {D : Bool} {O E F now : Nat} (h : T ≤ now) : Ls.pass ⟨K, T, D, O, E, F⟩ now = ⟨K, now, D, O, E, F⟩ := by
  unfold Ls.pass
  simp only []
  split <;> congr
  omega
theorem left_on {K T O E F : Nat} : Ls.left ⟨K, T, true, O, E, F⟩ = K - (T - F) := rfl
theorem left_off {K T O E F : Nat} : Ls.left ⟨K, T, false, O, E, F⟩ = 0 := rfl
theorem and_mask (x : Int) (m : Nat) (hm : m < 9223372036854775808) : ∃ z : Nat, z ≤ m ∧ bits .and .i64 x (m : Int) = (z : Int) := by
  have h : (BitVec.ofInt 64 x &&& BitVec.ofInt 64 (m : Int)).toNat ≤ m := by
    rw [BitVec.toNat_and]
    refine Nat.le_trans Nat.and_le_right ?_
    rw [BitVec.toNat_ofInt]
    omega
  refine ⟨_, h, ?_⟩
  show IntKind.i64.wrap ((BitVec.ofInt 64 x &&& BitVec.ofInt 64 (m : Int)).toNat : Int) = _
  obtain ⟨q, hq⟩ : ∃ q, (BitVec.ofInt 64 x &&& BitVec.ofInt 64 (m : Int)).toNat = q := ⟨_, rfl⟩
  rw [hq] at h ⊢
  exact IntWalk.i64_in _ (by omega)
variable {w : World} {g K T O E F now : Nat} {D : Bool}
theorem left_pos (h : 0 < Ls.left ⟨K, T, D, O, E, F⟩) : D = true ∧ T - F < K := by
  cases D with
  | false => exact absurd h (by rw [left_off]; omega)
  | true => rw [left_on] at h; exact ⟨rfl, by omega⟩
theorem take_p {a : Nat} (h : LsAt w g ⟨K, T, D, O, E, F⟩) (hT : T ≤ now) (hn : now ≤ 1073741824) (ha : a ≤ 255) (he : E < 1000000) (hf : D = true → now - F < K → O = a) :
    Calls Try.prog 8 #[.pointer (some ⟨g, 0, none⟩), .int .i64 a, .int .i64 now] w fun e w' => e = .returned (.tuple #[.int .i64 ((E : Int) + 1), .nilIface]) ∧ LsT w g ⟨K, now, true, a, E + 1, now⟩ w' := by
  have h' := ltake_ok w g ⟨K, T, D, O, E, F⟩ a now h ha hn he (by
    rw [pass_eq hT]
    rintro ⟨h1, h2⟩
    exact h2 (hf (left_pos h1).1 (left_pos h1).2))
  rw [pass_eq hT] at h'
  exact h'
theorem busy_p {a : Nat} (h : LsAt w g ⟨K, T, true, O, E, F⟩) (hT : T ≤ now) (hn : now ≤ 1073741824) (ha : a ≤ 255) (hl : now - F < K) (hf : O ≠ a) :
    Calls Try.prog 8 #[.pointer (some ⟨g, 0, none⟩), .int .i64 a, .int .i64 now] w fun e w' => e = .returned (.tuple #[.int .i64 0, err 14]) ∧ LsT w g ⟨K, now, true, O, E, F⟩ w' := by
  have h' := ltake_busy w g ⟨K, T, true, O, E, F⟩ a now h ha hn (by
    rw [pass_eq hT]
    exact ⟨by rw [left_on]; omega, hf⟩)
  rw [pass_eq hT] at h'
  exact h'
theorem keep_p {a ep : Int} (h : LsAt w g ⟨K, T, true, O, E, F⟩) (hT : T ≤ now) (hn : now ≤ 1073741824) (hl : now - F < K) (ha : (O : Int) = a) (he : (E : Int) = ep) :
    Calls Try.prog 12 #[.pointer (some ⟨g, 0, none⟩), .int .i64 a, .int .i64 ep, .int .i64 now] w fun e w' => e = .returned .nilIface ∧ LsT w g ⟨K, now, true, O, E, now⟩ w' := by
  refine (lkeep_any w g ⟨K, T, true, O, E, F⟩ a ep now h hn).mono fun e w' h' => ?_
  rw [pass_eq hT] at h'
  exact h'.1 ⟨by rw [left_on]; omega, ha, he⟩
theorem keep_n {a ep : Int} (h : LsAt w g ⟨K, T, D, O, E, F⟩) (hT : T ≤ now) (hn : now ≤ 1073741824) (hf : D = true → now - F < K → ¬ ((O : Int) = a ∧ (E : Int) = ep)) :
    Calls Try.prog 12 #[.pointer (some ⟨g, 0, none⟩), .int .i64 a, .int .i64 ep, .int .i64 now] w fun e w' => e = .returned (err 13) ∧ LsT w g ⟨K, now, D, O, E, F⟩ w' := by
  refine (lkeep_any w g ⟨K, T, D, O, E, F⟩ a ep now h hn).mono fun e w' h' => ?_
  rw [pass_eq hT] at h'
  exact h'.2 fun hm => hf (left_pos hm.1).1 (left_pos hm.1).2 ⟨hm.2.1, hm.2.2⟩
theorem drop_p {a ep : Int} (h : LsAt w g ⟨K, T, true, O, E, F⟩) (hT : T ≤ now) (hn : now ≤ 1073741824) (hl : now - F < K) (ha : (O : Int) = a) (he : (E : Int) = ep) :
    Calls Try.prog 13 #[.pointer (some ⟨g, 0, none⟩), .int .i64 a, .int .i64 ep, .int .i64 now] w fun e w' => e = .returned .nilIface ∧ LsT w g ⟨K, now, false, O, E, F⟩ w' := by
  refine (ldrop_any w g ⟨K, T, true, O, E, F⟩ a ep now h hn).mono fun e w' h' => ?_
  rw [pass_eq hT] at h'
  exact h'.1 ⟨by rw [left_on]; omega, ha, he⟩
theorem drop_n {a ep : Int} (h : LsAt w g ⟨K, T, D, O, E, F⟩) (hT : T ≤ now) (hn : now ≤ 1073741824) (hf : D = true → now - F < K → ¬ ((O : Int) = a ∧ (E : Int) = ep)) :
    Calls Try.prog 13 #[.pointer (some ⟨g, 0, none⟩), .int .i64 a, .int .i64 ep, .int .i64 now] w fun e w' => e = .returned (err 13) ∧ LsT w g ⟨K, now, D, O, E, F⟩ w' := by
  refine (ldrop_any w g ⟨K, T, D, O, E, F⟩ a ep now h hn).mono fun e w' h' => ?_
  rw [pass_eq hT] at h'
  exact h'.2 fun hm => hf (left_pos hm.1).1 (left_pos hm.1).2 ⟨hm.2.1, hm.2.2⟩
theorem left_p (h : LsAt w g ⟨K, T, true, O, E, F⟩) (hT : T ≤ now) (hn : now ≤ 1073741824) {r : Nat} (hr : K - (now - F) = r) :
    Calls Try.prog 11 #[.pointer (some ⟨g, 0, none⟩), .int .i64 now] w fun e w' => e = .returned (.int .i64 r) ∧ LsT w g ⟨K, now, true, O, E, F⟩ w' := by
  have h' := lleft_any w g ⟨K, T, true, O, E, F⟩ now h hn
  rw [pass_eq hT, left_on, hr] at h'
  exact h'
theorem left_z (h : LsAt w g ⟨K, T, D, O, E, F⟩) (hT : T ≤ now) (hn : now ≤ 1073741824) (hf : D = true → K ≤ now - F) :
    Calls Try.prog 11 #[.pointer (some ⟨g, 0, none⟩), .int .i64 now] w fun e w' => e = .returned (.int .i64 0) ∧ LsT w g ⟨K, now, D, O, E, F⟩ w' := by
  have h' := lleft_any w g ⟨K, T, D, O, E, F⟩ now h hn
  rw [pass_eq hT, show Ls.left ⟨K, now, D, O, E, F⟩ = 0 from by
    cases D with
    | false => rfl
    | true => rw [left_on]; have := hf rfl; omega] at h'
  exact h'
theorem holder_p (h : LsAt w g ⟨K, T, true, O, E, F⟩) (hT : T ≤ now) (hn : now ≤ 1073741824) (hl : now - F < K) :
    Calls Try.prog 10 #[.pointer (some ⟨g, 0, none⟩), .int .i64 now] w fun e w' => e = .returned (.tuple #[.int .i64 O, .int .i64 E, .bool true]) ∧ LsT w g ⟨K, now, true, O, E, F⟩ w' := by
  have h' := lholder_yes w g ⟨K, T, true, O, E, F⟩ now h hn (by rw [pass_eq hT, left_on]; omega)
  rw [pass_eq hT] at h'
  exact h'
theorem holder_n (h : LsAt w g ⟨K, T, D, O, E, F⟩) (hT : T ≤ now) (hn : now ≤ 1073741824) (hf : D = true → K ≤ now - F) :
    Calls Try.prog 10 #[.pointer (some ⟨g, 0, none⟩), .int .i64 now] w fun e w' => e = .returned (.tuple #[.int .i64 0, .int .i64 E, .bool false]) ∧ LsT w g ⟨K, now, D, O, E, F⟩ w' := by
  have h' := lholder_no w g ⟨K, T, D, O, E, F⟩ now h hn (by
    rw [pass_eq hT]
    cases D with
    | false => rfl
    | true => rw [left_on]; have := hf rfl; omega)
  rw [pass_eq hT] at h'
  exact h'
end Go.Proofs.Ytoebjfkmhdnkfaa
