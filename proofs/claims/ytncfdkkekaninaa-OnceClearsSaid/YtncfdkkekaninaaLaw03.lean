/- The statements of layer 3 (needle): what Get tells. -/
import Derived.Test.YtncfdkkekaninaaRef03d
import Derived.Test.YtncfdkkekaninaaErrs
set_option linter.unusedVariables false
set_option linter.unusedSimpArgs false
namespace Go.Proofs.Ytncfdkkekaninaa
open Go.RowKit Go.Cor

/-- What Get tells: the needle, how many bytes. -/
def resN (l : List UInt8) : Ndl := if getCode l = 0 then getN l else ⟨0, 0, false, []⟩
def resK (l : List UInt8) : Nat := if getCode l = 0 then total l else 0
theorem resN_ok {l : List UInt8} (h : getCode l = 0) : resN l = getN l := if_pos h
theorem resN_no {l : List UInt8} (h : getCode l ≠ 0) : resN l = ⟨0, 0, false, []⟩ := if_neg h
theorem resK_ok {l : List UInt8} (h : getCode l = 0) : resK l = total l := if_pos h
theorem resK_no {l : List UInt8} (h : getCode l ≠ 0) : resK l = 0 := if_neg h
theorem getCode_le (l : List UInt8) : getCode l ≤ 5 := by
  unfold getCode
  repeat' split
  all_goals omega

theorem code_cerr (q : Nat) (w : World) (h : q ≤ 17) :
    Calls Try.prog 9 #[cerr q] w fun e w' => e = .returned (.int .i64 (q : Int)) ∧ w = w' := by
  by_cases h0 : q = 0
  · subst h0
    exact code_nil w
  · rw [cerr_pos h0]
    exact code_code q w (by omega) (by omega)

/-- The chapter's example. -/
def ex3 : Ndl := ⟨7, 9, false, [1, 2, 3, 4, 5]⟩
theorem ex3_fits : ex3.fits := by unfold Ndl.fits ex3; decide
theorem ex3_len : (nbytes ex3).length = 40 := by rw [length_nbytes]; rfl
theorem ex3_get : getCode (nbytes ex3) = 0 ∧ getN (nbytes ex3) = ex3 ∧ total (nbytes ex3) = 40 := by
  have h := get_put ex3_fits rfl []
  rw [List.append_nil] at h
  exact ⟨h.1, h.2.1, by rw [h.2.2, ex3_len]⟩
theorem ex3_resN : resN (nbytes ex3) = ex3 := by rw [resN_ok ex3_get.1, ex3_get.2.1]
theorem ex3_resK : resK (nbytes ex3) = 40 := by rw [resK_ok ex3_get.1, ex3_get.2.2]
theorem nil_get : getCode [] = 3 := by unfold getCode; rw [if_pos (by decide)]
theorem nil_resN : resN [] = ⟨0, 0, false, []⟩ := resN_no (by rw [nil_get]; decide)
theorem nil_resK : resK [] = 0 := resK_no (by rw [nil_get]; decide)
theorem cerr_3 : cerr 3 = err 3 := rfl
theorem ex3_val (x : Option Addr) (c : Nat) : nval ex3 (.slice x ex3.data.length c) = .agg #[.int .u64 7, .int .u32 9, .bool false, .slice x 5 c] := rfl
theorem nil_val (x : Option Addr) (c : Nat) : nval ⟨0, 0, false, []⟩ (.slice x (Ndl.data ⟨0, 0, false, []⟩).length c) = .agg #[.int .u64 0, .int .u32 0, .bool false, .slice x 0 c] := rfl
theorem nsize_5 : nsize 5 = 40 := by decide
theorem box_at {w w' : World} {u0 u1 u2 u3 : Value} {T : TypeId} (hb : Below (w.alloc (.cells #[u0, u1, u2, u3] T)).heap.size (w.alloc (.cells #[u0, u1, u2, u3] T)) w') :
    w'.cell? ⟨w.heap.size, 0, none⟩ = some u0 ∧ w'.cell? ⟨w.heap.size, 1, none⟩ = some u1 ∧ w'.cell? ⟨w.heap.size, 2, none⟩ = some u2 ∧ w'.cell? ⟨w.heap.size, 3, none⟩ = some u3 := by
  have c : ∀ o, w'.cell? ⟨w.heap.size, o, none⟩ = (w.alloc (.cells #[u0, u1, u2, u3] T)).cell? ⟨w.heap.size, o, none⟩ := fun o => hb.cell (p := ⟨w.heap.size, o, none⟩) (by simp)
  refine ⟨?_, ?_, ?_, ?_⟩ <;> (rw [c]; go_simp)

end Go.Proofs.Ytncfdkkekaninaa
